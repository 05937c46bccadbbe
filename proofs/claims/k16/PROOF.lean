import PyProof.Rows.All
import Wide.All
import OpenK.AllK
import Wide.FinOn
import Lean
import PyProof.EqAt
import PyProof.EqKinds
import PyProof.TupleCall
import PySem.Challenge.RW_springframe_k16_what_is_no_wish
set_option Elab.async false
set_option linter.all false
set_option maxRecDepth 100000
open List (length_cons length_map mem_append mem_cons length_append mem_map size_toArray map_append map_cons cons_append append_nil append_assoc mem_singleton mem_cons_of_mem length_set mem_append_right getElem?_map mem_cons_self nil_append length_range getElem?_set_ne lookup_cons length_take all_cons length_drop mem_of_getElem? cons_ne_nil map_map filterMap_cons mem_append_left all_eq_true getElem?_set_self nodup_cons length_nil foldl_cons drop_eq_getElem_cons sum_cons getElem?_eq_none take_of_length_le not_lt nodup_append drop_of_length_le mem_range find?_cons not_mem_nil getElem_mem getElem?_append_right take_nil mem_filterMap any_cons getElem?_append_left all_map)
open Nat (le_refl le_trans ne_of_lt lt_of_lt_of_le zero_le lt_or_ge lt_irrefl lt_succ_self min_eq_left le_succ not_lt_zero)
open Bool (and_eq_true false_eq_true eq_false_iff)
open Array (getElem?_eq_getElem length_toList)
open Option (map_some getD_some isSome_iff_exists)
open Int (toNat_natCast)
local macro_rules|`(tactic|omega)=>`(tactic|first|decide|lia)
abbrev ae:=List PySem.Str
abbrev aJ:=List PySem.Value
abbrev aT:=List (PySem.Addr×PySem.Obj)
abbrev d3:=List Int
abbrev bK:=List (Option Nat)
abbrev bA:=PySem.Str->Option PySem.Value
abbrev dO:=Option PySem.Value
abbrev bt:=Option Int
abbrev bS:=List PySem.Expr
abbrev bV:=List PySem.Addr
abbrev fw:=Option PySem.Addr
abbrev cO:=Array PySem.Value
abbrev b5:=List PySem.Env
abbrev ao:=PySem.W.Frag
abbrev aj:=PySem.Shared
abbrev ag:=PySem.Value
abbrev ah:=PySem.Addr
abbrev aP:=PySem.Heap
theorem autoR(_:0=0:=by rfl):True:=.intro
theorem autoD(_:0=0:=by decide):True:=.intro
def hidG(G:Prop):Prop:=G->False
theorem hidN{G}(h:hidG G->False):G:=Classical.byContradiction h
local macro_rules|`(tactic|∎)=>do
 let z:=Lean.mkIdent `zzz
 `(tactic|first|(refine $z ?_;clear $z)|(refine hidN ?_;intro $z:ident))
local macro_rules|`(tactic|let $p:term:=$e)=>do
 let k:=λx a=>Lean.Syntax.node .none (`Lean.Parser.Tactic++x) a
 let m:=λx=>k `rcasesPatMed #[Lean.mkNullNode #[x]]
 let q:=p.raw.rewriteBottomUp λx=>match x with|.ident ..=>k `rcasesPat.one #[x]|.node _ `Lean.Parser.Term.hole a=>k `rcasesPat.ignore a|.node _ `Lean.Parser.Term.anonymousCtor a=>k `rcasesPat.tuple (a.modify 1 λs=>Lean.mkNullNode (s.getArgs.map λy=>if y.isAtom then y else k `rcasesPatLo #[m y,Lean.mkNullNode]))|_=>x
 if p.raw[1].getNumArgs<4 then `(tactic|obtain $(⟨m q⟩):rcasesPatMed:=$e) else
 `(tactic|first|(guard_target =ₛ False;obtain $(⟨m q⟩):rcasesPatMed:=$e)|(∎;obtain $(⟨m q⟩):rcasesPatMed:=$e;refine $(Lean.mkIdent `zzz) ?_;clear $(Lean.mkIdent `zzz))|obtain $(⟨m q⟩):rcasesPatMed:=$e)
local macro_rules|`(⋯)=>`(by omega)|`(∎)=>`(by decide)|`(⇑$x)=>`(($x).heap.objs.size)|`(↥$x)=>`(($x).map $(Lean.mkIdent `Pu.av.t))|`(do $x:term)=>`(autoParam $x $(Lean.mkIdent `autoR._auto_1))|`(~~~$x)=>`(autoParam $x $(Lean.mkIdent `autoD._auto_1))
set_option bootstrap.genMatcherCode false
local macro_rules|`(command|def $i:declId $s:optDeclSig $v:declVal)=>`(command|noncomputable def $i:declId $s:optDeclSig $v:declVal)|`(command|abbrev $i:declId $s:optDeclSig $v:declVal)=>`(command|noncomputable abbrev $i:declId $s:optDeclSig $v:declVal)|`(command|instance $s:declSig $v:declVal)=>`(command|noncomputable instance $s:declSig $v:declVal)
namespace L2
open PySem PySem.Spec PyProof.Rows
abbrev cD(x:Str):Prop:=(x == ("__debug__":Str))=false
abbrev dN(e:Expr)(es:bS)(n:Env):Prop:=starEach (e::es) n=(false,eval e n)::starEach es n
abbrev m8(e:Expr)(n:Env):Prop:=starEach [e] n=[(false,eval e n)]
abbrev Aj(e f:Expr)(n:Env):Prop:=starEach [e,f] n=[(false,eval e n),(false,eval f n)]
abbrev eX(p:Pos)(es:bS)(n:Env):Prop:=(backTo p (starEach es n)).any (·.1)=false
abbrev bD:=Sum Int Str
def nt:bD->ag->Bool
 |.inl k,v=>Value.isInt k v
 |.inr x,v=>Value.isStrOf x v
def KJ(w:World):bD->Int
 |.inl k=>hashInt k
 |.inr x=>hashStr w x
theorem jf:∀{k:bD}{v:ag},nt k v=true->(∃i t,k=Sum.inl i/\v=Value.int i t)\/(∃x t,k=Sum.inr x/\v=Value.str x t)
 |.inl i,v,h=>by
  let⟨t,e⟩:=Value.isInt_shape (k:=i) (v:=v) h;exact .inl ⟨i,t,rfl,e⟩
 |.inr x,v,h=>by
  let⟨t,e⟩:=Value.isStrOf_shape (x:=x) (v:=v) h;exact .inr ⟨x,t,rfl,e⟩
theorem OG(i:Int)(t:Tok):nt (.inl i) (.int i t)=true:=by simp[nt,Value.isInt]
theorem OH(x:Str)(t:Tok):nt (.inr x) (.str x t)=true:=by simp[nt,Value.isStrOf]
theorem Vd(a b:Int):decide ((Sum.inl a:bD)=Sum.inl b)=(a == b):=by
 by_cases e:a=b
 .subst e;simp
 .have h:¬ (Sum.inl a:bD)=Sum.inl b:=λq=>e (Sum.inl.inj q)
  rw[decide_eq_false h];exact (beq_eq_false_iff_ne.mpr e).symm
theorem Ve(a b:Str):decide ((Sum.inr a:bD)=Sum.inr b)=decide (a=b):=by
 by_cases e:a=b
 .subst e;simp
 .have h:¬ (Sum.inr a:bD)=Sum.inr b:=λq=>e (Sum.inr.inj q)
  rw[decide_eq_false h,decide_eq_false e]
theorem Vf(a:Int)(b:Str):decide ((Sum.inl a:bD)=Sum.inr b)=false:=decide_eq_false (λq=>nomatch q)
theorem Vg(a:Str)(b:Int):decide ((Sum.inr a:bD)=Sum.inl b)=false:=decide_eq_false (λq=>nomatch q)
def fJ(prog:Program)(w:World):PySem.KeyKind prog w bD where
 is:=nt
 hash:=KJ w
 inj:=λv a b ha d=>by
  rcases jf ha with⟨i,t,rfl,rfl⟩ |⟨x,t,rfl,rfl⟩
  .rcases jf d with⟨j,u,rfl,e⟩ |⟨y,u,rfl,e⟩
   .injection e with e1 _;rw[e1]
   .exact nomatch e
  .rcases jf d with⟨j,u,rfl,e⟩ |⟨y,u,rfl,e⟩
   .exact nomatch e
   .injection e with e1 _;rw[e1]
 byValue:=λk v h=>by
  rcases jf h with⟨i,t,rfl,rfl⟩ |⟨x,t,rfl,rfl⟩<;>rfl
 pyHash:=λc h=>by
  rcases jf c with⟨i,t,rfl,rfl⟩ |⟨x,t,rfl,rfl⟩
  .exact wpAny_pyHash_int h
  .exact wpAny_pyHash_str h
 eqBool:=λf c h=>by
  rcases jf f with⟨i,t,rfl,rfl⟩ |⟨x,t,rfl,rfl⟩
  .rcases jf c with⟨j,u,rfl,rfl⟩ |⟨y,u,rfl,rfl⟩
   .rw[Vd] at h;exact wpAny_eqBool_int h
   .rw[Vf] at h;exact SeqAt.EqAt.int_str i t y u _ _ _ _ h
  .rcases jf c with⟨j,u,rfl,rfl⟩ |⟨y,u,rfl,rfl⟩
   .rw[Vg] at h;exact SeqAt.EqAt.str_int x t j u _ _ _ _ h
   .rw[Ve] at h;exact wpAny_eqBool_str h
 «strs»:=λk x t v h=>by
  rcases jf h with⟨i,u,rfl,e⟩ |⟨y,u,rfl,e⟩
  .exact nomatch e
  .injection e with e1 _
   subst e1;cases v<;>rfl
theorem Nj(prog:Program)(w:World)(i:Int)(t:Tok):(fJ prog w).is (.inl i) (.int i t)=true:=OG i t
theorem Nk(prog:Program)(w:World)(x:Str)(t:Tok):(fJ prog w).is (.inr x) (.str x t)=true:=OH x t
inductive V where
 |aX |bl (b:Bool) |int (i:Int) |str (x:Str) |fW (b:Array UInt8) |jK (b:UInt64) |ref (a:Addr) |ty (n:String)
 deriving DecidableEq
abbrev iM:=List (bD×V)
abbrev ax:=List V
def aK:V->ag->Prop
 |.aX,u=>u=Value.none
 |.bl b,u=>u=Value.bool b
 |.int i,u=>∃t,u=Value.int i t
 |.str x,u=>∃t,u=Value.str x t
 |.fW b,u=>∃t,u=Value.bytes b t
 |.jK b,u=>∃t,u=Value.float b t
 |.ref a,u=>u=Value.ref a
 |.ty n,u=>u=Value.type n
abbrev aF:ax->aJ->Prop:=Paired aK
theorem aF.length(r:aF xs us):xs.length=us.length:=Paired.length r
theorem aF.get:∀{xs:ax}{us:aJ}{i:Nat}{x:V},aF xs us->xs[i]?=some x->∃u,us[i]?=some u/\aK x u
 |_,_,_,_,.nil,e=>by simp at e
 |_,_,0,_,.cons r _,e=>by simp at e;subst e;exact⟨_,rfl,r⟩
 |_,_,i + 1,x,.cons _ t,e=>by
  let⟨u,a,b⟩:=aF.get (i:=i) (x:=x) t (by simpa using e);exact⟨u,by simpa using a,b⟩
theorem aF.set(r:aK x u):∀{xs:ax}{us:aJ}(i:Nat),aF xs us->aF (xs.set i x) (us.set i u)
 |_,_,_,.nil=>.nil
 |_,_,0,.cons _ t=>.cons r t
 |_,_,i + 1,.cons q t=>.cons q (aF.set r i t)
theorem aF.append:∀{xs b:ax}{us a:aJ},aF xs us->aF b a->aF (xs++b) (us++a)
 |_,_,_,_,.nil,s=>s
 |_,_,_,_,.cons r t,s=>.cons r (aF.append t s)
theorem aF.take:∀{xs:ax}{us:aJ}(n:Nat),aF xs us->aF (xs.take n) (us.take n)
 |_,_,0,_=>.nil
 |_,_,_ + 1,.nil=>.nil
 |_,_,n + 1,.cons r t=>.cons r (aF.take n t)
theorem aF.drop:∀{xs:ax}{us:aJ}(n:Nat),aF xs us->aF (xs.drop n) (us.drop n)
 |_,_,0,r=>r
 |_,_,_ + 1,.nil=>.nil
 |_,_,n + 1,.cons _ t=>aF.drop n t
def cE:Option V->dO->Prop
 |some v,some u=>aK v u
 |none,none=>True
 |_,_=>False
def KV{j:Type}:List (j×V)->List (j×ag)->Prop:=Paired λ(p:j×V)(q:j×ag)=>p.1=q.1/\aK p.2 q.2
def kV:bD->V
 |.inl i=>.int i
 |.inr x=>.str x
inductive HO where
 /-- a list -/
 |ak (xs:List V)
 /-- a tuple (never changes) -/
 |aY (xs:List V)
 /-- a dict whose keys are ints and texts;one whose keys are tuples of ints and texts (the empty one is both) -/
 |dK (kvs:List (bD × V)) |dT (kvs:List (List bD × V))
 /-- a set of ints: bf members,bf size -/
 |set (S:Int -> Bool) (n:Nat)
 /-- an instance of the class at C,bf dict at dx,bf attributes -/
 |ins (C dx:Addr) (fs:List (Str × V))
 /-- the dict of the instance at x -/
 |own (x:Addr)
 /-- the dict of an exception -/
 |xd (fs:List (Str × V))
 /-- a bound method,f of x -/
 |met (f x:Addr)
 /-- a range object lo,lo + 1,.. below hi -/
 |uV (lo hi:Int)
 /-- a thing that is known to the object (the script;a dict while a loop walks it): read,never written while it is so -/
 |aU (o:Obj) (u:HO)
 /-- a code object's table -/
 |lP (ps:Array Value)
 /-- any other thing,by what is true of bf one object (a def of one's own: SetO a S n:=HO.ext λh=>..) -/
 |ext (φ:Heap -> Prop)
abbrev Hp:=Addr->Option HO
def a6(H:Hp)(a:ah)(o:HO):Hp:=λb=>if b=a then some o else H b
theorem e7:a6 H a o a=some o:=by unfold a6;rw[if_pos rfl]
theorem bR{H:Hp}(h:b≠a):a6 H a o b=H b:=by unfold a6;rw[if_neg h]
theorem hZ{H:Hp}(h:H a=some o)(h':H b=none):a≠b:=by
 intro e;subst e;rw[h] at h';cases h'
section
variable(P:Program)(w:World)
def bg(H:Hp)(h:aP)(a:ah):HO->Prop
 |.ak d=>d.length <= sizeLine /\ ∃(b:aJ)(n:Nat),aF d b /\ h.get? a=some { cls:=.type "list",data:=.seq b.toArray n }
 |.aY d=>d.length <= sizeLine /\ ∃b:aJ,aF d b /\ IsTup h a b.toArray
 |.dK c=>c.length <= sizeLine /\ (a == sysModules)=false /\ ∃vs,KV c vs /\ h.DictOf (fJ P w) a vs
 |.dT c=>c.length <= sizeLine /\ (a == sysModules)=false /\ ∃d:List (List bD × Addr × Value),
   Paired (λ(p:List bD×V)(q:List bD×ah×ag)=>p.1=q.1/\H q.2.1=some (.aY (p.1.map kV))/\aK p.2 q.2.2) c d/\
   ∃o j m,h.get? a=some o/\o.ExactDict/\o.data=.dict j m/\j.toList=d.map (entryOfKey (tupleKind (fJ P w)))/\(d.map (·.1)).Nodup
 |.set S n=>h.SetOf (intKind P w) a S n
 |.ins C g fs=>H g=some (.own a) /\ fs.length <= 1000 /\ g ≠ a /\ h.get? a=some (W.instObj C g) /\
   ∃e,h.Ns1 g e/\(∀f,cE (fs.lookup f) (e f))/\PySem.Within e (fs.map (·.1))
 |.own _=>∃o,h.get? a=some o
 |.xd fs=>∃e,h.Ns1 a e /\ ∀f,cE (fs.lookup f) (e f)
 |.uV lo r=>∃t u v,h.get? a=some { cls:=.type "range",data:=.fields #[.int lo t,.int r u,.int 1 v] }
 |.aU o u=>h.get? a=some o /\ bg H h a u
 |.lP s=>h.get? a=some { cls:=.none,data:=.fields s }
 |.met f x=>h.get? a=some (W.methodObj (.ref f) (.ref x))
 |.ext i=>i h /\ (∃o,h.get? a=some o) /\ ∀k l:Heap,i k -> (∀o,k.get? a=some o -> l.get? a=some o) -> i l
def cL(H:Hp)(h:aP):Prop:=∀a o,H a=some o->bg P w H h a o
end
section
variable{P:Program}{w:World}{H H':Hp}{h h':aP}{a:ah}{o:HO}
theorem bg.lt(x:bg P w H h a o):a<h.objs.size:=by
 cases o with
 |ak c=>let⟨_,_,_,_,e⟩:=x;exact Heap.lt_size e
 |aY c=>let⟨_,_,_,p⟩:=x;exact p.lt
 |dK b=>let⟨_,_,_,_,o,_,_,e,_⟩:=x;exact Heap.lt_size e
 |dT b=>let⟨_,_,_,_,o,_,_,e,_⟩:=x;exact Heap.lt_size e
 |set S n=>let⟨o,_,_,_,e,_⟩:=x;exact Heap.lt_size e
 |ins C d fs=>let⟨_,_,_,e,_⟩:=x;exact Heap.lt_size e
 |own y=>let⟨_,e⟩:=x;exact Heap.lt_size e
 |xd fs=>let⟨_,⟨_,_,_,e,_⟩,_⟩:=x;exact Heap.lt_size e
 |uV lo g=>let⟨_,_,_,e⟩:=x;exact Heap.lt_size e
 |aU i u=>let⟨e,_⟩:=x;exact Heap.lt_size e
 |lP j=>exact Heap.lt_size (show h.get? a=some _ from x)
 |met f y=>exact Heap.lt_size (show h.get? a=some _ from x)
 |ext k=>let⟨_,⟨_,e⟩,_⟩:=x;exact Heap.lt_size e
theorem Paired.qY{F G:j->y->Prop}:∀{c:List j}{d:List y},Paired F c d->(∀a b,F a b->G a b)->Paired G c d
 |_,_,.nil,_=>.nil
 |_,_,.cons r t,f=>.cons (f _ _ r) (Paired.qY t f)
theorem bg.eB(x:bg P w H h a o)(k:∀b u,(b=a\/H b=some (.own a))->h.get? b=some u->h'.get? b=some u)(D:∀b,H b=some (.own a)->H' b=some (.own a))(ht:∀b xs,H b=some (.aY xs)->H' b=some (.aY xs)):bg P w H' h' a o:=by
 induction o with
 |ak xs=>let⟨z,l,n,r,e⟩:=x;exact⟨z,l,n,r,k _ _ (.inl rfl) e⟩
 |aY xs=>let⟨z,l,r,g,e,c⟩:=x;exact⟨z,l,r,g,k _ _ (.inl rfl) e,c⟩
 |dK m=>let⟨z,y,vs,r,g,j,i,e,c⟩:=x;exact⟨z,y,vs,r,g,j,i,k _ _ (.inl rfl) e,c⟩
 |dT m=>
  let⟨z,y,xs,r,g,j,i,e,c⟩:=x;exact⟨z,y,xs,Paired.qY r λp q z=>⟨z.1,ht _ _ z.2.1,z.2.2⟩,g,j,i,k _ _ (.inl rfl) e,c⟩
 |set S n=>let⟨g,j,i,t,e,c⟩:=x;exact⟨g,j,i,t,k _ _ (.inl rfl) e,c⟩
 |ins C G fs=>
  let⟨d,z,ne,e,s,⟨od,j,i,B,c⟩,r⟩:=x;exact⟨D _ d,z,ne,k _ _ (.inl rfl) e,s,⟨od,j,i,k _ _ (.inr d) B,c⟩,r⟩
 |own y=>let⟨g,e⟩:=x;exact⟨g,k _ _ (.inl rfl) e⟩
 |xd fs=>let⟨s,⟨od,j,i,e,c⟩,r⟩:=x;exact⟨s,⟨od,j,i,k _ _ (.inl rfl) e,c⟩,r⟩
 |uV lo I=>let⟨t,u,v,e⟩:=x;exact⟨t,u,v,k _ _ (.inl rfl) e⟩
 |aU g u E=>let⟨e,q⟩:=x;exact⟨k _ _ (.inl rfl) e,E q⟩
 |lP A=>
  have e:h.get? a=some { cls:=.none,data:=.fields A }:=x;show h'.get? a=some { cls:=.none,data:=.fields A };exact k a _ (.inl rfl) e
 |met f y=>
  have e:h.get? a=some (W.methodObj (.ref f) (.ref y)):=x;show h'.get? a=some (W.methodObj (.ref f) (.ref y));exact k a _ (.inl rfl) e
 |ext J=>let⟨p,⟨o,e⟩,st⟩:=x;exact⟨st _ _ p λo q=>k _ _ (.inl rfl) q,⟨o,k _ _ (.inl rfl) e⟩,st⟩
theorem cL.lt(x:cL P w H h)(e:H a=some o):a<h.objs.size:=(x a o e).lt
theorem cL.fresh(x:cL P w H h)(e:h.objs.size<=a):H a=none:=by
 cases q:H a with
 |none=>rfl
 |some u=>exact absurd (lt_of_lt_of_le (x.lt q) e) (lt_irrefl _)
theorem cL.kept(x:cL P w H h)(k:∀b u,h.get? b=some u->h'.get? b=some u):cL P w H h':=λa o e=>
 (x a o e).eB (λb u _ q=>k b u q) (λ_ q=>q) λ_ _ q=>q
theorem cL.laid(x:cL P w H h)(k:∀b u,h.get? b=some u->h'.get? b=some u)(g:h.objs.size<=a)(d:bg P w (a6 H a o) h' a o):cL P w (a6 H a o) h':=λb u e=>by
 have hn:=x.fresh g;by_cases f:b=a
 .subst f;rw[e7] at e;cases e;exact d
 .rw[bR f] at e;exact (x b u e).eB (λc v _ q=>k c v q) (λc q=>by rw[bR (hZ q hn)];exact q) λc i q=>by rw[bR (hZ q hn)];exact q
end
def Rd(H:Hp)(a:ah)(u:HO):Prop:=H a=some u\/∃o,H a=some (.aU o u)
theorem Rd.of{H:Hp}(h:H a=some u):Rd H a u:=.inl h
theorem Rd.ok(r:Rd H a u)(x:cL P w H h):bg P w H h a u:=by
 rcases r with r |⟨o,r⟩
 .exact x a u r
 .obtain⟨_,q⟩:=x a _ r;exact q
def om:Option HO->Prop
 |some (.ak _)=>True
 |some (.dK _)=>True
 |some (.dT _)=>True
 |some (.set _ _)=>True
 |some (.ins _ _ _)=>True
 |some (.ext _)=>True
 |_=>False
section
variable{P:Program}{w:World}{H:Hp}{h h':aP}{x e:ah}{o':HO}
theorem cL.write(ok:cL P w H h)(j:om (H x))(he:e=x\/H e=some (.own x))(k:∀b u,b≠e->h.get? b=some u->h'.get? b=some u)(m:∃u,h'.get? e=some u)(n:bg P w (a6 H x o') h' x o'):cL P w (a6 H x o') h':=λb u q=>by
 have d:∀c y,H c=some (.own y)->c≠x:=λc y r z=>by subst z;rw[r] at j;exact j
 have f:∀c l,H c=some (.aY l)->c≠x:=λc l r z=>by subst z;rw[r] at j;exact j
 by_cases g:b=x
 .subst g;rw[e7] at q;cases q;exact n
 .rw[bR g] at q;by_cases a:b=e
  .have q':H b=some (.own x):=by
    rcases he with z |z
    .exact absurd (a.trans z) g
    .rw[a];exact z
   rw[q] at q';cases q';let⟨v,o⟩:=m;exact⟨v,by rw[a];exact o⟩
  .refine (ok b u q).eB (λc v i r=>k c v ?_ r) (λc r=>by rw[bR (d c b r)];exact r) λc l r=>by rw[bR (f c l r)];exact r
   rcases i with rfl |i
   .exact a
   .rintro rfl;rcases he with z |z
    .exact d c b i z
    .rw[i] at z;cases z;exact g rfl
end
structure Un(fs ex:bV)(H H':Hp)(h h':aP):Prop where
 keep:∀b o,h.get? b=some o->H b=none->b ∉ fs->b ∉ ex->h'.get? b=some o
 slot:∀b o,h.get? b=some o->H b=none->b∈fs->b ∉ ex->∃sl,h'.get? b=some { o with slots:=sl }
 free:∀b o,h.get? b=some o->H b=none->b ∉ ex->H' b=none
 there:∀b o,h.get? b=some o->b ∉ ex->∃o',h'.get? b=some o'
 d6:∀b xs,H b=some (.aY xs)->H' b=some (.aY xs)
 bP:∀b o u,H b=some (.aU o u)->H' b=some (.aU o u)
 eC:∀b ps,H b=some (.lP ps)->∃more,H' b=some (.lP (ps++more))
section
variable{fs fs' ex ex':bV}{H H1 H2:Hp}{h h1 h2 h':aP}{a x e:ah}{o:HO}
theorem Un.any(u:Un fs ex H H1 h h1){c:Obj}(q:h.get? b=some c)(n:H b=none)(f:b ∉ ex):∃g,h1.get? b=some { c with slots:=g }:=by
 by_cases d:b∈fs
 .exact u.slot b c q n d f
 .exact⟨c.slots,u.keep b c q n d f⟩
theorem Un.kept(k:∀b u,h.get? b=some u->h'.get? b=some u):Un fs ex H H h h':=
 ⟨λb c q _ _ _=>k b c q,λb c q _ _ _=>⟨c.slots,k b c q⟩,λ_ _ _ n _=>n,λb c q _=>⟨c,k b c q⟩,λ_ _ q=>q,λ_ _ _ q=>q,λ_ d q=>⟨#[],by rw[q];simp⟩⟩
theorem Un.refl:Un fs ex H H h h:=Un.kept λ_ _ q=>q
theorem Un.laid(k:∀b u,h.get? b=some u->h'.get? b=some u)(c:h.objs.size<=a)(hn:H a=none):Un fs ex H (a6 H a o) h h' where
 keep:=λb u q _ _ _=>k b u q
 slot:=λb u q _ _ _=>⟨u.slots,k b u q⟩
 free:=λb u q n _=>by rw[bR (ne_of_lt (lt_of_lt_of_le (Heap.lt_size q) c))];exact n
 there:=λb u q _=>⟨u,k b u q⟩
 d6:=λb d q=>by rw[bR (hZ q hn)];exact q
 bP:=λb u d q=>by rw[bR (hZ q hn)];exact q
 eC:=λb f q=>⟨#[],by rw[bR (hZ q hn),q];simp⟩
theorem Un.write(d:om (H x))(he:e=x\/H e=some (.own x))(k:∀b u,b≠e->h.get? b=some u->h'.get? b=some u)(f:∃u,h'.get? e=some u):Un fs ex H (a6 H x o) h h':=by
 have i:∀b,H b=none->b≠x:=λb n z=>by subst z;rw[n] at d;exact d
 have g:∀b,H b=none->b≠e:=λb n z=>by
  subst z;rcases he with r |r
  .exact i b n r
  .rw[n] at r;cases r
 have hm:∀b u,H b=some u->¬ om (some u)->b≠x:=λb u q nm z=>by subst z;rw[q] at d;exact nm d
 refine⟨λb u q n _ _=>k b u (g b n) q,λb u q n _ _=>⟨u.slots,k b u (g b n) q⟩,λb u q n _=>by rw[bR (i b n)];exact n,λb u q _=>?_,
  λb j q=>by rw[bR (hm b _ q λz=>z)];exact q,λb u j q=>by rw[bR (hm b _ q λz=>z)];exact q,λb l q=>⟨#[],by rw[bR (hm b _ q λz=>z),q];simp⟩⟩
 by_cases c:b=e
 .subst c;exact f
 .exact⟨u,k b u c q⟩
end
def uZ(h:aP)(H:Hp):bV:=(List.range h.objs.size).filter λa=>(H a).isSome
def j5(h:aP)(H:Hp):aP:=W.hideAll h (uZ h H)
theorem OI(h:aP)(H:Hp):(j5 h H).objs.size=h.objs.size:=W.hideAll_size _ _
theorem Ro{H:Hp}(e:h.get? b=some o)(n:H b=none):(j5 h H).get? b=some o:=
 W.hideAll_get _ e λhm=>by
  have q:(H b).isSome=true:=(List.mem_filter.mp hm).2;rw[n] at q;simp at q
theorem TU{H:Hp}(e:(j5 h H).get? b=some o):h.get? b=some o/\H b=none:=by
 have a:h.get? b=some o:=W.of_hideAll (uZ h H) e;refine⟨a,?_⟩;cases q:H b with
 |none=>rfl
 |some x=>
  have hm:b∈uZ h H:=List.mem_filter.mpr ⟨mem_range.mpr (Heap.lt_size a),by simp[q]⟩;have z:(j5 h H).get? b=none:=W.hideAll_none (uZ h H) hm;rw[z] at e;cases e
def Ki(g h:aP)(L:ah):aT:=(List.range h.objs.size).filterMap λa=>if a=L\/(g.get? a).isSome=true then none else (h.get? a).map λo=>(a,o)
def rest(g h:aP)(L d:ah):aT:=(Ki g h L).filter λp=>decide (p.1≠d)
structure Mod(K:ao)(mg:bA)(base:aP):Prop where
 mO:K.In base
 glob:base.Ns mainGlobals mg
 blt:∃mb,base.Ns builtinsNs mb/\∀x:Str,x≠"__name__"->mb x=bootBuiltins x
 nolimit:base.NoLimit
structure Cx where
 prog:Program
 w:World
 K:W.Frag
 mg:bA
 base:Heap
 A:Around
 N:ae
 s₀:Shared
 H₀:Hp
 env:Env
 outer:b5
 stack:b5
 ex:bV
 fn:Str->Bool
 calm:Bool
 pn:aT
 xe:ag->aj->Prop
abbrev kG(X:Cx)(x:Str):Prop:=X.fn x=true\/X.env.scope.names.lookup x=some .local
def dU(l:b5):bV:=l.filterMap (·.frame)
abbrev Cx.fs(X:Cx):bV:=dU X.outer
def jP(sc:Scope)(x:Str):Prop:=sc.names.lookup x=some .local\/sc.names.lookup x=some .cell\/sc.names.lookup x=some .free
def Loc(sc:Scope)(x:Str):Prop:=sc.names.lookup x=some .local\/sc.names.lookup x=some .cell
def Df(env:Env)(h:aP)(m:bA)(x:Str)(u:ag):Prop:=
 (env.kindOf x=some .local/\m x=some u)\/((env.kindOf x=some .cell\/env.kindOf x=some .free)/\∃c,env.cells.lookup x=some c/\h.IsCell c (some u))
structure Cx.Ok(X:Cx):Prop where
 mod:Mod X.K X.mg X.base
 kind:X.env.scope.kind=.function
 glob:X.env.globals=mainGlobals
 blt:X.env.builtins=builtinsNs
 above:⇑X.s₀<=X.env.locals
 inj:∀x y c,X.env.cells.lookup x=some c->X.env.cells.lookup y=some c->x=y
 has:∀x,(X.env.kindOf x=some .cell\/X.env.kindOf x=some .free)->∃c,X.env.cells.lookup x=some c
 lx:∀x c,X.fn x=true->X.env.cells.lookup x=some c->⇑X.s₀<=c
 hd:X.calm=true->X.A.handled=none
 frames:X.A.frames=some X.stack
 mW:X.stack=X.outer\/(X.stack=X.env::X.outer/\X.env.frame=some X.env.locals)
 mK:∀b∈X.ex,b≠X.env.locals/\∀x c,X.env.cells.lookup x=some c->c≠b
 bs:∀b o,X.base.get? b=some o->X.s₀.heap.get? b=some o/\X.H₀ b=none
 iE:X.base.objs.size<=⇑X.s₀
 f6:∀b o,X.base.get? b=some o->b ∉ X.ex
 f3:∀b∈X.ex,b ∉ X.fs
 dA:X.s₀.heap.FunFrames X.base X.outer
 jL:∀b∈X.fs,X.H₀ b=none
structure aw(X:Cx)(aa:aT)(j:List (Option V))(H:Hp)(s:aj):Prop where
 ok:X.Ok
 os:s.os=X.s₀.os
 bare:AllBare s.gens
 base:Un X.fs X.ex X.H₀ H X.s₀.heap s.heap
 loc:∃m,s.heap.Ns X.env.locals m/\∀(i:Nat)(x:Str)(v:V),X.N[i]?=some x->j[i]?=some (some v)->jP X.env.scope x->∃u,aK v u/\Df X.env s.heap m x u
 cell:∀x c,X.env.cells.lookup x=some c->∃v,s.heap.IsCell c v
 free:H X.env.locals=none
 bU:∀x c,X.env.cells.lookup x=some c->H c=none
 pin:∀p∈X.pn++aa,s.heap.get? p.1=some p.2/\H p.1=none/\p.1≠X.env.locals/\p.1 ∉ X.fs/\∀v,p.2.data≠.cell v
 aV:cL X.prog X.w H s.heap
 len:j.length=X.N.length
section
variable{X:Cx}{aa:aT}{σ:List (Option V)}{H H':Hp}{s:aj}{h':aP}
theorem Cx.Ok.zr(ok:X.Ok)(e:X.base.get? b=some o):b ∉ X.fs:=λa=>by
 have:=(ok.dA.mem a).1;rw[e] at this;cases this
theorem aw.bs(I:aw X aa σ H s):∀b o,X.base.get? b=some o->s.heap.get? b=some o/\H b=none:=λb o e=>
 ⟨I.base.keep b o (I.ok.bs b o e).1 (I.ok.bs b o e).2 (I.ok.zr e) (I.ok.f6 b o e),I.base.free b o (I.ok.bs b o e).1 (I.ok.bs b o e).2 (I.ok.f6 b o e)⟩
theorem aw.bk(I:aw X aa σ H s):∀b o,X.base.get? b=some o->s.heap.get? b=some o:=λb o e=>(I.bs b o e).1
theorem aw.mod(I:aw X aa σ H s):Mod X.K X.mg X.base:=I.ok.mod
theorem aw.cy(I:aw X aa σ H s):X.K.In s.heap:=I.ok.mod.mO.keeps I.bk
theorem aw.lt(I:aw X aa σ H s):X.env.locals<⇑s:=let ⟨_,hn,_⟩:=I.loc;hn.lt
theorem aw.sz(I:aw X aa σ H s):⇑X.s₀<=⇑s:=le_trans I.ok.above (Nat.le_of_lt I.lt)
theorem aw.zt(I:aw X aa σ H s)(h:⇑s<=a):a ∉ X.fs:=λb=>by
 let⟨_,o,c,_⟩:=I.ok.dA.mem b;exact absurd (lt_of_lt_of_le (Heap.lt_size c) (le_trans I.sz h)) (lt_irrefl _)
theorem aw.kl(I:aw X aa σ H s):∀x c,X.env.cells.lookup x=some c->c≠X.env.locals:=λx c e z=>by
 ∎;let⟨v,o,d,hd⟩:=I.cell x c e;let⟨m,⟨h,g,f,b,a,_⟩,_⟩:=I.loc;∎;rw[z,b] at d;cases d;rw[a] at hd;cases hd
theorem aw.dA(I:aw X aa σ H s):s.heap.FunFrames X.base X.outer:=by
 have all:∀(l:b5),(∀b∈dU l,b∈X.fs)->X.s₀.heap.FunFrames X.base l->s.heap.FunFrames X.base l:=by
  intro l
  induction l with
  |nil=>intro _ _;trivial
  |cons env r k=>
   intro f h;let⟨g,⟨L,o,d,hn,i,hd⟩,j⟩:=h;have a:L∈X.fs:=f L (by unfold dU;rw[filterMap_cons,d];exact mem_cons_self);let⟨m,e⟩:=I.base.slot L o i (I.ok.jL L a) a λz=>I.ok.f3 L z a
   exact⟨g,⟨L,_,d,hn,e,hd⟩,k (λb c=>f b (by unfold dU;rw[filterMap_cons,d];exact mem_cons_of_mem _ c)) j⟩
 exact all X.outer (λ_ c=>c) I.ok.dA
theorem aw.stack(I:aw X aa σ H s):s.heap.FunFrames X.base X.stack:=by
 rcases I.ok.mW with e |⟨e,a⟩
 .rw[e];exact I.dA
 .rw[e];let⟨m,hn,_⟩:=I.loc;refine .cons (by rw[I.ok.kind];decide) a hn ?_ I.dA;exact Heap.get?_none_of_le (le_trans I.ok.iE I.ok.above)
theorem aw.eS(I:aw X aa σ H s):∀b∈dU X.stack,b∈X.env.locals::X.fs:=λb a=>by
 rcases I.ok.mW with e |⟨e,c⟩
 .rw[e] at a;exact mem_cons_of_mem _ a
 .rw[e] at a;unfold dU at a;rw[filterMap_cons,c] at a;exact a
theorem aw.fF(I:aw X aa σ H s):∀b∈dU X.stack,H b=none:=λb a=>by
 rcases mem_cons.mp (I.eS b a) with e |a
 .rw[e];exact I.free
 .obtain⟨_,o,ho,_⟩:=I.ok.dA.mem a;exact I.base.free b o ho (I.ok.jL b a) λz=>I.ok.f3 b z a
theorem aw.step{g':Array GenState}{t':Nat}{d':Drawn}{ch:bV}(I:aw X aa σ H s)(g:∀b∈ch,(b∈X.ex\/⇑X.s₀<=b)/\b≠X.env.locals/\(∀x c,X.env.cells.lookup x=some c->c≠b)/\∀p∈X.pn++aa,p.1≠b)(keep:∀b o,b≠X.env.locals->b ∉ X.fs->b ∉ ch->s.heap.get? b=some o->H b=none->h'.get? b=some o)(slot:∀b o,b≠X.env.locals->b∈X.fs->b ∉ ch->s.heap.get? b=some o->H b=none->∃E,h'.get? b=some { o with slots:=E })(free:∀b o,b ∉ ch->s.heap.get? b=some o->H b=none->H' b=none)(there:∀b o,b ∉ ch->s.heap.get? b=some o->∃o',h'.get? b=some o')(d6:∀b xs,H b=some (.aY xs)->H' b=some (.aY xs))(bP:∀b o u,H b=some (.aU o u)->H' b=some (.aU o u))(eC:∀b ps,H b=some (.lP ps)->∃C,H' b=some (.lP (ps++C)))(ns:∀m,s.heap.Ns X.env.locals m->h'.Ns X.env.locals m)(aV:cL X.prog X.w H' h')(N:AllBare g'):
  aw X aa σ H' { s with heap:=h',gens:=g',drawn:=d',toks:=t' }:=by
 have D:∀b o,X.s₀.heap.get? b=some o->b≠X.env.locals:=λb o e=>ne_of_lt (lt_of_lt_of_le (Heap.lt_size e) I.ok.above)
 have y:∀b o,X.s₀.heap.get? b=some o->b ∉ X.ex->b ∉ ch:=λb o e a A=>by
  rcases (g b A).1 with z |z
  .exact a z
  .exact absurd (lt_of_lt_of_le (Heap.lt_size e) z) (lt_irrefl _)
 have f:∀x c,X.env.cells.lookup x=some c->∀v,s.heap.IsCell c v->h'.IsCell c v:=λx c e v ⟨o,ho,hd⟩=>by
  have h:c ∉ ch:=λz=>(g c z).2.2.1 x c e rfl
  by_cases J:c∈X.fs
  .obtain⟨E,q⟩:=slot c o (I.kl x c e) J h ho (I.bU x c e);exact⟨_,q,hd⟩
  .exact⟨o,keep c o (I.kl x c e) J h ho (I.bU x c e),hd⟩
 refine⟨I.ok,I.os,N,⟨λb o e n A a=>?_,λb o e n A a=>?_,λb o e n a=>?_,λb o e a=>?_,λb xs e=>d6 b xs (I.base.d6 b xs e),λb o xs e=>bP b o xs (I.base.bP b o xs e),λb ps e=>?_⟩,?_,λx c e=>?_,?_,λx c e=>?_,λp L=>?_,aV,I.len⟩
 .exact keep b o (D b o e) A (y b o e a) (I.base.keep b o e n A a) (I.base.free b o e n a)
 .obtain⟨E,j⟩:=I.base.slot b o e n A a;let⟨G,B⟩:=slot b _ (D b o e) A (y b o e a) j (I.base.free b o e n a);exact⟨G,B⟩
 .obtain⟨o',j⟩:=I.base.there b o e a;exact free b o' (y b o e a) j (I.base.free b o e n a)
 .obtain⟨o',j⟩:=I.base.there b o e a;exact there b o' (y b o e a) j
 .obtain⟨m1,j⟩:=I.base.eC b ps e;let⟨O,B⟩:=eC b _ j;exact⟨m1++O,by rw[B,Array.append_assoc]⟩
 .obtain⟨m,hn,hl⟩:=I.loc;refine⟨m,ns m hn,λi x v j B M=>?_⟩;let⟨u,r,l⟩:=hl i x v j B M;refine⟨u,r,?_⟩;rcases l with l |⟨k,c,e,z⟩
  .exact .inl l
  .exact .inr ⟨k,c,e,f x c e _ z⟩
 .obtain⟨v,z⟩:=I.cell x c e;exact⟨v,f x c e v z⟩
 .obtain⟨m,⟨o,_,_,ho,_⟩,_⟩:=I.loc;exact free _ o (λz=>(g _ z).2.1 rfl) ho I.free
 .obtain⟨v,o,ho,hd⟩:=I.cell x c e;exact free c o (λz=>(g c z).2.2.1 x c e rfl) ho (I.bU x c e)
 .obtain⟨e,n,ne,nf,d⟩:=I.pin p L;have h:p.1 ∉ ch:=λz=>(g p.1 z).2.2.2 p L rfl
  exact⟨keep p.1 p.2 ne nf h e n,free p.1 p.2 h e n,ne,nf,d⟩
theorem aw.un{t':Nat}(I:aw X aa σ H s)(u:Un X.fs [] H H' s.heap h')(aV:cL X.prog X.w H' h'):aw X aa σ H' { s with heap:=h',toks:=t' }:=by
 ∎;let⟨m,⟨o,k,j,g,r⟩,_⟩:=id I.loc;let⟨q,h⟩:=u.any g I.free (by simp);∎;exact I.step (g':=s.gens) (d':=s.drawn) (ch:=[]) (λ_ z=>nomatch z) (λb o _ f _ e n=>u.keep b o e n f (by simp)) (λb o _ f _ e n=>u.slot b o e n f (by simp)) (λb o _ e n=>u.free b o e n (by simp)) (λb o _ e=>u.there b o e (by simp)) u.d6 u.bP u.eC (λl hm=>by
  let⟨p,d,c,a,i⟩:=hm;rw[g] at a;cases a;exact⟨_,d,c,h,i⟩) aV I.bare
theorem aw.call{g':Array GenState}{t':Nat}{d':Drawn}{ch:bV}(I:aw X aa σ H s)(u:Un (dU X.stack) ch H H' s.heap h')(aV:cL X.prog X.w H' h')(l:AllBare g')(d:∀b∈ch,(b∈X.ex\/⇑X.s₀<=b)/\b≠X.env.locals/\(∀x c,X.env.cells.lookup x=some c->c≠b)/\∀p∈X.pn++aa,p.1≠b):
  aw X aa σ H' { s with heap:=h',gens:=g',drawn:=d',toks:=t' }:=by
 let⟨m,⟨o,y,v,j,r⟩,_⟩:=id I.loc;let⟨C,i⟩:=u.any j I.free λz=>(d _ z).2.1 rfl
 exact I.step (ch:=ch) d (λb o i k a e n=>u.keep b o e n (λz=>(mem_cons.mp (I.eS b z)).elim i k) a) (λb o _ _ a e n=>u.any e n a) (λb o a e n=>u.free b o e n a) (λb o a e=>u.there b o e a) u.d6 u.bP u.eC (λA hm=>by
  let⟨B,h,g,f,q⟩:=hm;rw[j] at f;cases f;exact⟨_,h,g,i,q⟩) aV l
theorem aw.turned{t':Nat}{it:ah}(I:aw X aa σ H s)(k:∀b o,b≠it->s.heap.get? b=some o->h'.get? b=some o)(hn:H it=none)(f:it≠X.env.locals)(g:it∈X.ex\/⇑X.s₀<=it)(h:∀x c,X.env.cells.lookup x=some c->c≠it)(i:∀p∈X.pn++aa,p.1≠it):aw X aa σ H { s with heap:=h',toks:=t' }:=by
 have d:∀b u,H b=some u->b≠it:=λb u e z=>by rw[z,hn] at e;cases e
 refine I.step (g':=s.gens) (d':=s.drawn) (ch:=[it]) (λb j=>?_) (λb o _ _ a e _=>k b o (λz=>a (by simp[z])) e) (λb o _ _ a e _=>⟨o.slots,k b o (λz=>a (by simp[z])) e⟩) (λ_ _ _ _ n=>n)
  (λb o a e=>⟨o,k b o (λz=>a (by simp[z])) e⟩) (λ_ _ e=>e) (λ_ _ _ e=>e) (λb l e=>⟨#[],by rw[e];simp⟩) (λm hm=>?_) (λb u e=>?_) I.bare
 .have e:b=it:=by simpa using j
  subst e;exact⟨g,f,h,i⟩
 .obtain⟨o,es,ep,ho,r⟩:=hm;exact⟨o,es,ep,k _ o (Ne.symm f) ho,r⟩
 .refine (I.aV b u e).eB (λc v a q=>k c v ?_ q) (λ_ q=>q) λ_ _ q=>q
  rcases a with z |z
  .rw[z];exact d b u e
  .exact d c _ z
theorem aw.tok(I:aw X aa σ H s)(t:Nat):aw X aa σ H { s with toks:=t }:=I.un (h':=s.heap) (t':=t) Un.refl I.aV
theorem aw.kept(I:aw X aa σ H s)(k:∀b u,s.heap.get? b=some u->h'.get? b=some u):aw X aa σ H { s with heap:=h',toks:=t' }:=I.un (Un.kept k) (I.aV.kept k)
theorem aw.laid(I:aw X aa σ H s)(k:∀b u,s.heap.get? b=some u->h'.get? b=some u)(c:⇑s<=a)(d:bg X.prog X.w (a6 H a o) h' a o):
  aw X aa σ (a6 H a o) { s with heap:=h',toks:=t' }:=I.un (Un.laid k c (I.aV.fresh c)) (I.aV.laid k c d)
theorem aw.write(I:aw X aa σ H s)(d:om (H x))(he:e=x\/H e=some (.own x))(k:∀b u,b≠e->s.heap.get? b=some u->h'.get? b=some u)(a:∃u,h'.get? e=some u)(c:bg X.prog X.w (a6 H x o) h' x o):aw X aa σ (a6 H x o) { s with heap:=h',toks:=t' }:=I.un (Un.write d he k a) (I.aV.write d he k a c)
theorem aw.weak(I:aw X aa σ H s)(d:σ'.length=σ.length)(w:∀(i:Nat) v,σ'[i]?=some (some v)->σ[i]?=some (some v)):aw X aa σ' H s:=
 ⟨I.ok,I.os,I.bare,I.base,let ⟨m,hn,hl'⟩:=I.loc;⟨m,hn,λi x v a b c=>hl' i x v a (w i v b) c⟩,I.cell,I.free,I.bU,I.pin,I.aV,d.trans I.len⟩
theorem aw.eH(I:aw X aa σ H s)(h:∀p∈a,s.heap.get? p.1=some p.2/\H p.1=none/\p.1≠X.env.locals/\p.1 ∉ X.fs/\∀v,p.2.data≠.cell v):aw X a σ H s:=
 ⟨I.ok,I.os,I.bare,I.base,I.loc,I.cell,I.free,I.bU,λp b=>(mem_append.mp b).elim (λz=>I.pin p (mem_append_left _ z)) (h p),I.aV,I.len⟩
theorem xC{N:ae}(e:N.Nodup){i j:Nat}{x:Str}(a:N[i]?=some x)(b:N[j]?=some x):i=j:=by
 let⟨f,c⟩:=List.getElem?_eq_some_iff.mp a;let⟨g,d⟩:=List.getElem?_eq_some_iff.mp b;exact (List.getElem_inj e).mp (c.trans d.symm)
theorem OJ{M:Model}{A:Around}{E:ag->aj->Prop}{i:Nat}{x:Str}{v:V}{u:ag}{Q:Unit->aj->Prop}(I:aw X aa σ H s)(hN:X.N.Nodup)(hi:X.N[i]?=some x)(C:Loc X.env.scope x)(r:aK v u)(h:∀s',aw X aa (σ.set i (some v)) H s'->(∃a,Heap.SameBut a s.heap s'.heap/\(a=X.env.locals\/X.env.cells.lookup x=some a))->Q () s')(hf:kG X x:=by first |exact .inl rfl |exact .inr rfl |assumption):wpAny M A (storeName X.env x u) Q E s:=by
 let⟨m,hn,hl⟩:=id I.loc;have Y:(X.env.scope.kind == .class || (X.env.scope.kind == .module&&X.env.locals != X.env.globals))=false:=by rw[I.ok.kind];rfl
 have J:i<σ.length:=by rw[I.len];exact (List.getElem?_eq_some_iff.mp hi).1
 have kl:=I.kl;have l:∀{a:ah}{h':aP},(∃o,s.heap.get? a=some o/\H a=none)->Heap.SameBut a s.heap h'->cL X.prog X.w H h':=λ{a h'} ha f b ob e=>by
  let⟨_,_,D⟩:=ha;refine (I.aV b ob e).eB (λc w' B q=>(f.2 c ?_).trans q) (λ_ q=>q) λ_ _ q=>q
  rintro rfl;rcases B with rfl |B
  .rw[D] at e;cases e
  .rw[D] at B;cases B
 rcases C with L |L
 .refine wpAny_storeName_local L hn (λh' γ f=>?_) Y;let⟨oL,_,_,δ,_⟩:=id hn;refine h _ ⟨I.ok,I.os,I.bare,⟨λb o e n O C=>?_,λb o e n O C=>?_,I.base.free,λb o e C=>?_,I.base.d6,I.base.bP,I.base.eC⟩,⟨_,γ,λj y v' g G e3=>?_⟩,λy c e=>?_,I.free,I.bU,λp hp=>?_,l ⟨oL,δ,I.free⟩ f,by simpa using I.len⟩ ⟨_,f,.inl rfl⟩
  .exact (f.2 b (ne_of_lt (lt_of_lt_of_le (Heap.lt_size e) I.ok.above))).trans (I.base.keep b o e n O C)
  .obtain⟨sl,g⟩:=I.base.slot b o e n O C;exact⟨sl,(f.2 b (ne_of_lt (lt_of_lt_of_le (Heap.lt_size e) I.ok.above))).trans g⟩
  .obtain⟨o',g⟩:=I.base.there b o e C;exact⟨o',(f.2 b (ne_of_lt (lt_of_lt_of_le (Heap.lt_size e) I.ok.above))).trans g⟩
  .by_cases hj:j=i
   .subst hj;rw[hi] at g;cases g;rw[getElem?_set_self J] at G;cases G;exact⟨u,r,.inl ⟨L,by simp⟩⟩
   .rw[getElem?_set_ne (Ne.symm hj)] at G;let⟨u',r',q⟩:=hl j y v' g G e3;refine⟨u',r',?_⟩;rcases q with⟨k,e⟩ |⟨k,c,e,z⟩
    .refine .inl ⟨k,?_⟩;have:y≠x:=λe=>hj (xC hN g (e ▸ hi))
     simp[this,e]
    .exact .inr ⟨k,c,e,z.sameBut f (kl y c e)⟩
  .obtain⟨w',z⟩:=I.cell y c e;exact⟨w',z.sameBut f (kl y c e)⟩
  .obtain⟨e,n,ne,nf,d⟩:=I.pin p hp;exact⟨(f.2 p.1 ne).trans e,n,ne,nf,d⟩
 .have hfn:X.fn x=true:=by
   rcases hf with z |z
   .exact z
   .rw[z] at L;cases L
  let⟨c,B⟩:=I.ok.has x (.inl L);let⟨w',z⟩:=I.cell x c B;refine wpAny_storeName_cell I.ok.kind L B z (λh' U f=>?_);let⟨oc,α,β⟩:=id z;refine h { s with heap:=h' } ⟨I.ok,I.os,I.bare,⟨λb o e n O C=>?_,λb o e n O C=>?_,I.base.free,λb o e C=>?_,I.base.d6,I.base.bP,I.base.eC⟩,⟨m,hn.sameBut f (Ne.symm (kl x c B)),λj y v' g G e3=>?_⟩,λy c' e=>?_,I.free,I.bU,λp hp=>?_,l ⟨oc,α,I.bU x c B⟩ f,by simpa using I.len⟩ ⟨c,f,.inr B⟩
  .exact (f.2 b (ne_of_lt (lt_of_lt_of_le (Heap.lt_size e) (I.ok.lx x c hfn B)))).trans (I.base.keep b o e n O C)
  .obtain⟨sl,g⟩:=I.base.slot b o e n O C;exact⟨sl,(f.2 b (ne_of_lt (lt_of_lt_of_le (Heap.lt_size e) (I.ok.lx x c hfn B)))).trans g⟩
  .obtain⟨o',g⟩:=I.base.there b o e C;exact⟨o',(f.2 b (ne_of_lt (lt_of_lt_of_le (Heap.lt_size e) (I.ok.lx x c hfn B)))).trans g⟩
  .by_cases hj:j=i
   .subst hj;rw[hi] at g;cases g;rw[getElem?_set_self J] at G;cases G;exact⟨u,r,.inr ⟨.inl L,c,B,U⟩⟩
   .rw[getElem?_set_ne (Ne.symm hj)] at G;let⟨u',r',q⟩:=hl j y v' g G e3;refine⟨u',r',?_⟩;rcases q with q |⟨k,c',e,z'⟩
    .exact .inl q
    .refine .inr ⟨k,c',e,z'.sameBut f ?_⟩;rintro rfl;exact hj (xC hN g (I.ok.inj _ _ _ e B ▸ hi))
  .by_cases hcc:c'=c
   .subst hcc;exact⟨_,U⟩
   .obtain⟨w2,z2⟩:=I.cell y c' e;exact⟨w2,z2.sameBut f hcc⟩
  .obtain⟨e,n,ne,nf,d⟩:=I.pin p hp;refine⟨(f.2 p.1 ?_).trans e,n,ne,nf,d⟩;intro q;rw[q,α] at e;have q':oc=p.2:=Option.some.inj e;exact d w' (by rw[<- q'];exact β)
theorem p9{Q:Unit->aj->Prop}(I:aw X aa σ H s)(b:X.N.Nodup)(d:X.N[i]?=some x)(e:Loc X.env.scope x)(r:aK v u)(h:∀s',aw X aa (σ.set i (some v)) H s'->Q () s')(c:kG X x:=by first |exact .inl rfl |exact .inr rfl |assumption):wpAny M A (storeName X.env x u) Q E s:=
 OJ I b d e r (λs' a _=>h s' a) c
theorem aw.fX(I:aw X aa σ H s)(f:s'.os=s.os)(u:Un (dU X.stack) ch H H' s.heap s'.heap)(aV:cL X.prog X.w H' s'.heap)(d:AllBare s'.gens)(a:∀b∈ch,(b∈X.ex\/⇑X.s₀<=b)/\b≠X.env.locals/\(∀x c,X.env.cells.lookup x=some c->c≠b)/\∀p∈X.pn++aa,p.1≠b):aw X aa σ H' s':=by
 let⟨h',g',d',t',g⟩:=s';have e:g=s.os:=f;subst e;exact I.call (g':=g') (t':=t') (d':=d') u aV d a
end
abbrev XK:=Value->fw->Hp->Prop
abbrev St:=List (Option V)
abbrev VK:=V->Hp->Prop
abbrev TE:=St->Hp->VK->Prop
abbrev TT:=St->Hp->(Bool->Hp->Prop)->Prop
abbrev TA:=St->Hp->(ax->Hp->Prop)->Prop
structure Ends where
 nx:St->Hp->Prop
 rt:VK
 bk:St->Hp->Prop:=λ_ _=>False
 ct:St->Hp->Prop:=λ_ _=>False
abbrev TS:=Ends->St->Hp->Prop
def EP(X:Cx)(aa:aT)(j:St)(Q:VK)(u:ag)(s':aj):Prop:=∃v a,aw X aa j a s'/\aK v u/\Q v a
def TP(X:Cx)(aa:aT)(j:St)(Q:Bool->Hp->Prop)(b:Bool)(s':aj):Prop:=∃a,aw X aa j a s'/\Q b a
def AP(X:Cx)(aa:aT)(j:St)(Q:ax->Hp->Prop)(us:aJ)(s':aj):Prop:=∃vs a,aw X aa j a s'/\aF vs us/\Q vs a
def SP(X:Cx)(aa:aT)(D:Ends)(f:Flow)(s':aj):Prop:=
 match f with
 |.next=>∃b a,aw X aa b a s' /\ D.nx b a
 |.brk=>∃b a,aw X aa b a s' /\ D.bk b a
 |.cont=>∃b a,aw X aa b a s' /\ D.ct b a
 |.ret u=>∃v b a,aw X aa b a s' /\ aK v u /\ D.rt v a
def PE(X:Cx)(e:Expr)(t:TE):Prop:=
 ∀(aa:aT)(s:aj)(j:St)(H:Hp)(Q:VK),aw X aa j H s->t j H Q->wpAny (model X.prog X.w) X.A (eval e X.env) (EP X aa j Q) X.xe s
def PT(X:Cx)(e:Expr)(t:TT):Prop:=
 ∀(aa:aT)(s:aj)(j:St)(H:Hp)(Q:Bool->Hp->Prop),aw X aa j H s->t j H Q->wpAny (model X.prog X.w) X.A (isTrue e X.env (eval e X.env)) (TP X aa j Q) X.xe s
def PW(X:Cx)(e:Expr)(t:TT):Prop:=
 ∀(whole:Sem Value)(aa:aT)(s:aj)(j:St)(H:Hp)(Q:Bool->Hp->Prop),aw X aa j H s->t j H Q->wpAny (model X.prog X.w) X.A (isTrue e X.env whole) (TP X aa j Q) X.xe s
theorem PW.pt(h:PW X e t):PT X e t:=h _
def PA(X:Cx)(a:bS)(t:TA):Prop:=
 ∀(pos:Pos)(aa:aT)(s:aj)(j:St)(H:Hp)(Q:ax->Hp->Prop),aw X aa j H s->t j H Q->wpAny (model X.prog X.w) X.A (spliced (backTo pos (starEach a X.env))) (AP X aa j Q) X.xe s
def PS(X:Cx)(st:Stmt)(t:TS):Prop:=
 ∀(aa:aT)(s:aj)(j:St)(H:Hp)(D:Ends),aw X aa j H s->t D j H->wpAny (model X.prog X.w) X.A (exec st X.env) (SP X aa D) X.xe s
def eW(X:Cx)(st:List Stmt)(t:TS):Prop:=
 ∀(aa:aT)(s:aj)(j:St)(H:Hp)(D:Ends),aw X aa j H s->t D j H->wpAny (model X.prog X.w) X.A (execs st X.env) (SP X aa D) X.xe s
theorem bo{Q b:j->aj->Prop}(h:wpAny M A t Q E s)(c:∀a s,Q a s->b a s):wpAny M A t b E s:=wpAny_mono h c λ_ _ x=>x
section
variable{X:Cx}
def jv(i:Nat):TE:=λj H Q=>∃v,j[i]?=some (some v)/\Q v H
def tC(v:V):TE:=λ_ H Q=>Q v H
theorem lu(k:X.N[i]?=some x)(o:jP X.env.scope x)(hd: ~~~(cD x))(f: ~~~((x == ("__classdict__":Str))=false)):PE X (.Name x pos) (jv i):=by
 intro aa s j H Q I h;∎;let⟨v,e,h⟩:=h;let⟨m,hn,n⟩:=I.loc;let⟨u,r,l⟩:=n i x v k e o;∎;have b:EP X aa j Q u s:=⟨v,H,I,r,h⟩;rcases l with⟨d,hm⟩ |⟨d,c,g,a⟩
 .exact wpAny_Name (wpAny_loadName_local I.ok.kind d hn hm b) hd
 .rcases d with d |d
  .exact wpAny_Name (wpAny_loadName_cell I.ok.kind d g a b) hd
  .exact wpAny_Name (wpAny_loadName_free I.ok.kind d g a b f) hd
theorem GL{i j pos}:PE X (.Constant (.int i) j pos) (tC (.int i)):=λ_ _ _ H _ I h=>wpAny_Constant_int ⟨.int i,H,I.tok _,⟨_,rfl⟩,h⟩
theorem HE{b j pos}:PE X (.Constant (.bool b) j pos) (tC (.bl b)):=λ_ _ _ H _ I h=>Constant_bool ⟨.bl b,H,I,rfl,h⟩
theorem Vh{x j pos}:PE X (.Constant (.str x) j pos) (tC (.str x)):=λ_ _ _ H _ I h=>Calls.Constant_str ⟨.str x,H,I.tok _,⟨_,rfl⟩,h⟩
def Gl(X:Cx)(x:Str):Prop:=X.env.kindOf x=some .globalImplicit
theorem k4{Q:ag->aj->Prop}(I:aw X aa j H s)(a:Gl X x)(hm:X.mg x=some u)(h:Q u s)(hd: ~~~(cD x)):wpAny (model X.prog X.w) X.A (eval (.Name x pos) X.env) Q E s:=
 Calls.Name_function_global I.ok.kind a (Calls.loadGlobal_global (by rw[I.ok.glob];exact I.mod.glob.keeps I.bk) hm h) hd
theorem qu{Q:ag->aj->Prop}(I:aw X aa j H s)(c:Gl X x)(hm:X.mg x=none)(d:bootBuiltins x=some u)(h:Q u s)(hn: ~~~(x≠"__name__"))(hd: ~~~(cD x)):wpAny (model X.prog X.w) X.A (eval (.Name x pos) X.env) Q E s:=by
 let⟨e,a,b⟩:=I.mod.blt;exact Calls.Name_function_global I.ok.kind c (Calls.loadGlobal_builtin (by rw[I.ok.glob];exact I.mod.glob.keeps I.bk) hm (by rw[I.ok.blt];exact a.keeps I.bk) ((b x hn).trans d) h) hd
theorem TV(a:Gl X x)(hm:X.mg x=some u)(r:aK v u)(hd: ~~~(cD x)):PE X (.Name x pos) (tC v):=
 λ_ _ _ H _ I h=>k4 I a hm ⟨v,H,I,r,h⟩ hd
theorem TX(a:Gl X x)(hm:X.mg x=none)(b:bootBuiltins x=some u)(r:aK v u)(hn: ~~~(x≠"__name__"))(hd: ~~~(cD x)):PE X (.Name x pos) (tC v):=
 λ_ _ _ H _ I h=>qu I a hm b ⟨v,H,I,r,h⟩ hn hd
variable{a b:Expr}{ta tb:TE}{pos:Pos}
def tB(t:TE):TT:=λj H Q=>t j H λx H1=>∃c,x=.bl c/\Q c H1
theorem Vi(h:PE X e t)(he:∀whole,isTrue e X.env whole=(do let v <- whole;standAt e.pos;holding [v] (truthy v)):=by intro _;rfl):PT X e (tB t):=by
 intro aa s j H Q I i;refine isTrue_plain (bo (h aa s j H _ I i) λv l c=>?_) (he _);∎;let⟨x,f,g,r1,k⟩:=c;let⟨d,rfl,q⟩:=k;∎;cases r1;exact wpAny_truthy_bool ⟨f,g,q⟩
variable{tA tB':TT}{rest:bS}
def Dg(t u:TT):TT:=λj H Q=>t j H λc d=>if c=true then u j d Q else Q false d
def HZ(t u:TT):TT:=λj H Q=>t j H λc d=>if c=true then Q true d else u j d Q
def Dh(t:TT):TT:=λj H Q=>t j H λc H1=>Q (!c) H1
theorem TY(ha:PT X a tA):PW X (.BoolOp .And [a] pos) tA:=by
 intro f aa s j H Q I h;refine isTrue_and (bo (ha aa s j H Q I h) λc d e=>?_);cases c with
 |true=>exact isTrue_and_nil e
 |false=>exact e
theorem Vj(ha:PT X a tA):PW X (.BoolOp .Or [a] pos) tA:=by
 intro f aa s j H Q I h;refine isTrue_or (bo (ha aa s j H Q I h) λc d e=>?_);cases c with
 |false=>exact isTrue_or_nil e
 |true=>exact e
theorem Vk(ha:PT X a tA)(i:PW X (.BoolOp .And (b::rest) pos) tB'):PW X (.BoolOp .And (a::b::rest) pos) (Dg tA tB'):=by
 intro l aa s j H Q I h;refine isTrue_and (bo (ha aa s j H _ I h) λc k d=>?_);let⟨e,f,g⟩:=d;cases c with
 |true=>exact i l aa k j e Q f g
 |false=>exact⟨e,f,g⟩
theorem Ys(ha:PT X a tA)(i:PW X (.BoolOp .Or (b::rest) pos) tB'):PW X (.BoolOp .Or (a::b::rest) pos) (HZ tA tB'):=by
 intro l aa s j H Q I h;refine isTrue_or (bo (ha aa s j H _ I h) λc k d=>?_);let⟨e,f,g⟩:=d;cases c with
 |true=>exact⟨e,f,g⟩
 |false=>exact i l aa k j e Q f g
theorem Vl(ha:PT X a tA):PT X (.UnaryOp .Not a pos) (Dh tA):=by
 intro aa s j H Q I h;exact isTrue_not (ha aa s j H (λc d=>Q (!c) d) I h)
def BY(ta tb:TE):TE:=λj H Q=>ta j H λx d=>∃c,x=.bl c/\if c=true then tb j d Q else Q (.bl false) d
def Di(ta tb:TE):TE:=λj H Q=>ta j H λx d=>∃c,x=.bl c/\if c=true then Q (.bl true) d else tb j d Q
def BZ(ta:TE):TE:=λj H Q=>ta j H λx d=>∃c,x=.bl c/\Q (.bl (!c)) d
theorem Vm{op}(h:PE X a t):PE X (.BoolOp op [a] pos) t:=λaa s j H Q I c=>BoolOp_one (h aa s j H Q I c)
theorem Vn(ha:PE X a ta)(i:PE X (.BoolOp .And (b::rest) pos) tb):PE X (.BoolOp .And (a::b::rest) pos) (BY ta tb):=by
 intro aa s j H Q I h;refine BoolOp_and (bo (ha aa s j H _ I h) λv k e=>?_);∎;let⟨x,f,g,r1,d⟩:=e;let⟨c,rfl,d⟩:=d;∎;cases r1;refine wpAny_truthy_bool ?_;cases c with
 |true=>exact i aa k j f Q g d
 |false=>exact⟨.bl false,f,g,rfl,d⟩
theorem Yt(ha:PE X a ta)(i:PE X (.BoolOp .Or (b::rest) pos) tb):PE X (.BoolOp .Or (a::b::rest) pos) (Di ta tb):=by
 intro aa s j H Q I h;refine BoolOp_or (bo (ha aa s j H _ I h) λv k e=>?_);∎;let⟨x,f,g,r1,d⟩:=e;let⟨c,rfl,d⟩:=d;∎;cases r1;refine wpAny_truthy_bool ?_;cases c with
 |false=>exact i aa k j f Q g d
 |true=>exact⟨.bl true,f,g,rfl,d⟩
theorem Vo(ha:PE X a ta):PE X (.UnaryOp .Not a pos) (BZ ta):=by
 intro aa s j H Q I h;refine UnaryOp_ (bo (ha aa s j H _ I h) λv i e=>?_);∎;let⟨x,f,g,r1,d⟩:=e;let⟨c,rfl,d⟩:=d;∎;cases r1;exact not_of (wpAny_truthy_bool ⟨.bl (!c),f,g,rfl,d⟩)
def HY(t:TT)(ta tb:TE):TE:=λj H Q=>t j H λc d=>if c=true then ta j d Q else tb j d Q
theorem Rp(m:PT X c tA)(ha:PE X a ta)(l:PE X b tb):PE X (.IfExp c a b pos) (HY tA ta tb):=by
 intro aa s j H Q I h;refine wpAny_IfExp (bo (m aa s j H _ I h) λd k e=>?_);let⟨f,g,i⟩:=e;cases d with
 |true=>exact ha aa k j f Q g i
 |false=>exact l aa k j f Q g i
end
def bM(K:ao)(H:Hp)(a:ah)(xs:ax):Prop:=
 Rd H a (.ak xs)\/
  ∃(o:Obj)(b:cO)(n:Nat),K.lookup a=some o/\o.cls=.type "list"/\o.dict=none/\o.data=.seq b n/\b.size<=sizeLine/\aF xs b.toList
def cZ(K:ao)(H:Hp)(a:ah)(xs:ax):Prop:=
 Rd H a (.aY xs)\/
  ∃(o:Obj)(b:cO)(n:Nat),K.lookup a=some o/\o.cls=.type "tuple"/\o.data=.seq b n/\b.size<=sizeLine/\aF xs b.toList
def KL:ag->Option V
 |.none=>some .aX
 |.bool b=>some (.bl b)
 |.int i _=>some (.int i)
 |.str x _=>some (.str x)
 |.bytes b _=>some (.fW b)
 |.float b _=>some (.jK b)
 |.ref a=>some (.ref a)
 |.type n=>some (.ty n)
 |_=>none
theorem aK.abs(r:aK x u):KL u=some x:=by
 cases x with
 |aX=>cases r;rfl
 |bl _=>cases r;rfl
 |int _=>let⟨t,rfl⟩:=r;rfl
 |str _=>let⟨t,rfl⟩:=r;rfl
 |fW _=>let⟨t,rfl⟩:=r;rfl
 |jK _=>let⟨t,rfl⟩:=r;rfl
 |ref _=>cases r;rfl
 |ty _=>cases r;rfl
theorem aK.inj(r:aK x u)(q:aK y u):x=y:=Option.some.inj (r.abs.symm.trans q.abs)
theorem aF.inj:∀{xs a:ax}{us:aJ},aF xs us->aF a us->xs=a
 |_,_,_,.nil,.nil=>rfl
 |_,_,_,.cons r t,.cons r' t'=>by rw[r.inj r',aF.inj t t']
section
variable{X:Cx}{aa:aT}{σ:St}{H:Hp}{s:aj}{a:ah}{xs ys:ax}
theorem bM.of{K:ao}(h:H a=some (.ak xs)):bM K H a xs:=.inl (.inl h)
theorem cZ.of{K:ao}(h:H a=some (.aY xs)):cZ K H a xs:=.inl (.inl h)
theorem aw.list(I:aw X aa σ H s)(h:bM X.K H a xs):∃bf:aJ,aF xs bf/\PlainL s.heap a bf.toArray/\xs.length<=sizeLine:=by
 rcases h with h |⟨o,bf,n,c,b,hd,d,f,r⟩
 .obtain⟨z,bf,n,r,e⟩:=h.ok I.aV;exact⟨bf,r,⟨_,n,e,rfl,rfl,rfl⟩,z⟩
 .refine⟨bf.toList,r,⟨o,n,I.cy a o c,b,hd,by simpa using d⟩,?_⟩;have e:=r.length;simp only[length_toList] at e;omega
theorem aw.tuple(I:aw X aa σ H s)(h:cZ X.K H a xs):∃bf:aJ,aF xs bf/\IsTup s.heap a bf.toArray/\xs.length<=sizeLine:=by
 rcases h with h |⟨o,bf,n,c,b,d,f,r⟩
 .obtain⟨z,bf,r,p⟩:=h.ok I.aV;exact⟨bf,r,p,z⟩
 .refine⟨bf.toList,r,⟨o,I.cy a o c,b,n,by simpa using d⟩,?_⟩;have e:=r.length;simp only[length_toList] at e;omega
theorem aw.i7(I:aw X aa σ H s)(h:bM X.K H a xs)(h':bM X.K H a ys):xs=ys:=by
 ∎;let⟨c,r,⟨o,n,e,_,_,d⟩,_⟩:=I.list h;let⟨b,i,⟨k,j,g,_,_,f⟩,_⟩:=I.list h';∎;rw[e] at g;cases g;rw[d] at f;injection f with d1 _
 have:c=b:=by simpa using congrArg Array.toList d1
 subst this;exact r.inj i
end
abbrev Cx.cm(X:Cx)(E:ag->aj->Prop):Cx:={ X with xe:=E }
abbrev Cx.og(X:Cx):Cx:=X.cm λ_ _=>False
theorem Cx.Ok.cm{X:Cx}(ok:X.Ok)(E:ag->aj->Prop):(X.cm E).Ok:=
 ⟨ok.mod,ok.kind,ok.glob,ok.blt,ok.above,ok.inj,ok.has,ok.lx,ok.hd,ok.frames,ok.mW,ok.mK,ok.bs,ok.iE,ok.f6,ok.f3,ok.dA,ok.jL⟩
theorem Cx.Ok.cR{X:Cx}{E:ag->aj->Prop}(ok:(X.cm E).Ok):X.Ok:=
 ⟨ok.mod,ok.kind,ok.glob,ok.blt,ok.above,ok.inj,ok.has,ok.lx,ok.hd,ok.frames,ok.mW,ok.mK,ok.bs,ok.iE,ok.f6,ok.f3,ok.dA,ok.jL⟩
section
variable{X:Cx}{aa:aT}{σ:St}{H:Hp}{s:aj}{E:ag->aj->Prop}
theorem aw.cm(I:aw X aa σ H s)(E:ag->aj->Prop):aw (X.cm E) aa σ H s:=⟨I.ok.cm E,I.os,I.bare,I.base,I.loc,I.cell,I.free,I.bU,I.pin,I.aV,I.len⟩
theorem aw.cR(I:aw (X.cm E) aa σ H s):aw X aa σ H s:=⟨I.ok.cR,I.os,I.bare,I.base,I.loc,I.cell,I.free,I.bU,I.pin,I.aV,I.len⟩
theorem SP.cR(h:SP (X.cm E) aa D f s'):SP X aa D f s':=by
 cases f with
 |next=>let⟨a,b,I,q⟩:=h;exact⟨a,b,I.cR,q⟩
 |brk=>let⟨a,b,I,q⟩:=h;exact⟨a,b,I.cR,q⟩
 |cont=>let⟨a,b,I,q⟩:=h;exact⟨a,b,I.cR,q⟩
 |ret u=>let⟨v,a,b,I,r,q⟩:=h;exact⟨v,a,b,I.cR,r,q⟩
theorem eW.og{st:List Stmt}{t:TS}(h:eW X.og st t):eW X st t:=λaa s σ H D I a=>
 wpAny_mono (h aa s σ H D (I.cm _) a) (λ_ _ q=>q.cR) λ_ _ z=>False.elim z
end
section
variable{X:Cx}{st:Stmt}{rest:List Stmt}{t u:TS}{e:Expr}{te:TE}{pos:Pos}
def B0:TS:=λD j H=>D.nx j H
def nB(t u:TS):TS:=λD j H=>t { D with nx:=u D } j H
theorem TZ:eW X [] B0:=λ_ _ j H _ I h=>wpAny_execs_nil ⟨j,H,I,h⟩
theorem nP(c:PS X st t)(d:eW X rest u):eW X (st::rest) (nB t u):=by
 intro aa s j H D I h;refine wpAny_execs_cons (bo (c aa s j H { D with nx:=u D } I h) λf i q=>?_);cases f with
 |next=>
  let⟨g,a,b,q⟩:=q;exact d aa i g a D b q
 |ret v=>exact q
 |brk=>exact q
 |cont=>exact q
theorem ye(a:PS X st t):eW X [st] t:=by
 intro aa s j H D I h;refine wpAny_execs_cons (bo (a aa s j H D I h) λf b q=>?_);cases f with
 |next=>exact wpAny_execs_nil q
 |ret v=>exact q
 |brk=>exact q
 |cont=>exact q
theorem aw.quiet(I:aw X aa j H s):interactive X.env=false:=by simp[interactive,I.ok.kind]
def sv(te:TE):TS:=λD j H=>te j H λ_ H1=>D.nx j H1
theorem yf(he:PE X e te)(hs:do swapsWith e none pos.line X.env=pure false):PS X (.Expr e pos) (sv te):=by
 intro aa s j H D I h;exact wpAny_Expr_any (bo (he aa s j H _ I h) λv f a=>by let⟨x,b,c,r1,d⟩:=a;exact⟨j,b,c,d⟩) I.quiet hs
def sx(te:TE):TS:=λD j H=>te j H D.rt
theorem yM(he:PE X e te):PS X (.Return (some e) pos) (sx te):=by
 intro aa s j H D I h;exact wpAny_Return_some (bo (he aa s j H _ I h) λv f a=>by let⟨x,b,c,r1,d⟩:=a;exact⟨x,j,b,c,r1,d⟩)
def sy(c:TT)(t u:TS):TS:=λD j H=>c j H λb a=>if b=true then t D j a else u D j a
theorem zi(n:PT X c tc)(ha:eW X a t)(m:eW X b u):PS X (.If c a b pos) (sy tc t u):=by
 intro aa s j H D I h;refine wpAny_If (bo (n aa s j H _ I h) λd l f=>?_);let⟨g,i,k⟩:=f;cases d with
 |true=>exact ha aa l j g D i k
 |false=>exact m aa l j g D i k
def Kn:TS:=λ_ _ _=>False
theorem Rq:PS X st Kn:=λ_ _ _ _ _ _ h=>h.elim
end
abbrev TG:=V->St->Hp->(St->Hp->Prop)->Prop
abbrev kI:=ax->St->Hp->(St->Hp->Prop)->Prop
def PG(X:Cx)(a:Expr)(t:TG):Prop:=
 ∀(aa:aT)(s:aj)(j:St)(H:Hp)(v:V)(u:ag)(Q:St->Hp->Prop),aw X aa j H s->aK v u->t v j H Q->
  wpAny (model X.prog X.w) X.A (assign a X.env u) (λ_ d=>∃c b,aw X aa c b d/\Q c b) X.xe s
def m7(X:Cx)(d:bS)(t:kI):Prop:=
 ∀(aa:aT)(s:aj)(j:St)(H:Hp)(vs:ax)(us:aJ)(Q:St->Hp->Prop),aw X aa j H s->aF vs us->t vs j H Q->
  wpAny (model X.prog X.w) X.A (assignInOrder ((assignEach d X.env).map (·.2)) us) (λ_ c=>∃b a,aw X aa b a c/\Q b a) X.xe s
abbrev Dj:=V->V->V->Hp->(Hp->Prop)->Prop
def Dk(X:Cx)(t:Dj):Prop:=
 ∀(aa:aT)(s:aj)(j:St)(H:Hp)(o i v:V)(c b u:ag)(Q:Hp->Prop),aw X aa j H s->aK o c->aK i b->aK v u->t o i v H Q->
  wpAny (model X.prog X.w) X.A (setItem c b u) (λ_ d=>∃a,aw X aa j a d/\Q a) X.xe s
section
variable{X:Cx}{pos:Pos}
def jr(i:Nat):TG:=λv j H Q=>Q (j.set i (some v)) H
theorem Fs(b:X.N.Nodup)(d:X.N[i]?=some x)(e:Loc X.env.scope x)(c:kG X x:=by first |exact .inl rfl |exact .inr rfl |assumption):PG X (.Name x pos) (jr i):=by
 intro aa s j H v u Q I r h;exact wpAny_assign_Name (p9 I b d e r (λf a=>⟨_,H,a,h⟩) c)
def Dl:kI:=λvs j H Q=>vs=[]/\Q j H
def B1(t:TG)(u:kI):kI:=λvs j H Q=>∃v r,vs=v::r/\t v j H λb a=>u r b a Q
theorem T1:m7 X [] Dl:=by
 intro aa s j H vs us Q I r h;let⟨e,h⟩:=h;subst e;cases r;exact assignInOrder_nil ⟨j,H,I,h⟩
theorem Rr(f:PG X e t)(g:m7 X es u)(hs:do (assignEach (e::es) X.env).map (·.2)=assign e X.env::(assignEach es X.env).map (·.2)):m7 X (e::es) (B1 t u):=by
 intro aa s j H vs us Q I r h;let⟨v,n,d,h⟩:=h;subst d;cases r with
 |cons r l=>
  rw[hs];refine assignInOrder_cons (bo (f aa s j H _ _ _ I r h) λ_ m a=>?_);let⟨i,b,c,k⟩:=a;exact g aa m i b _ _ Q c l k
def Dm(K:ao)(n:Nat)(t:kI):TG:=λv j H Q=>∃a b,v=.ref a/\cZ K H a b/\b.length=n/\t b j H Q
theorem Vp(m:X.calm=true)(h:m7 X es t)(hn:do (assignEach es X.env).length=n)(c:do (assignEach es X.env).findIdx? (·.1)=none):PG X (.Tuple es k pos) (Dm X.K n t):=by
 intro aa s j H v u Q I r d;let⟨a,z,i,q,p,d⟩:=d;subst i;cases r;let⟨y,f,w,A⟩:=I.tuple q;refine assign_Tuple_tuple (I.ok.hd m) w (by simp[hn,<- p,f.length]) c λl x=>?_
 have g:aw X aa j H { s with heap:=l }:=I.kept (t':=s.toks) λb o e=>x b o (ne_of_lt (Heap.lt_size e)) e
 exact h aa _ j H z _ Q g (by simpa using f) d
def Dn(e d:TE)(t:Dj):TG:=λv j H Q=>e j H λo a=>d j a λi b=>t o i v b λc=>Q j c
theorem Vq(n:PE X o to)(m:PE X i ti)(hs:Dk X t)(ha:∀v,assign (.Subscript o i pos) X.env v=(do
   let b <- holding [v] (eval o X.env)
   let c <- holding [v,b] (eval i X.env)
   standAt pos
   holding [v,b,c] (setItem b c v)
   release [v,b,c] []):=by intro _;rfl):PG X (.Subscript o i pos) (Dn to ti t):=by
 intro aa s j H v u Q I r h;rw[ha];refine wpAny_bind (wpAny_holding (bo (n aa s j H _ I h) λb z a=>?_));let⟨x,d,g,r1,p⟩:=a;refine wpAny_bind (wpAny_holding (bo (m aa z j d _ g p) λc A a=>?_));let⟨y,e,k,r2,q⟩:=a;refine wpAny_bind (wpAny_standAt (wpAny_bind (wpAny_holding (bo (hs aa A j e x y v b c u _ k r1 r2 r q) λ_ B a=>?_))));let⟨f,l,w⟩:=a;exact wpAny_release ⟨j,f,l,w⟩
def jw(b:TE)(g:TG):TS:=λD j H=>b j H λx a=>g x j a D.nx
theorem GN(he:PE X e te)(f:PG X tg g)(hs:do swapsWithSole [tg] e pos.line X.env=pure false)(i:do swappedStores [tg] e X.env=pure none)(d:do (assignEach [tg] X.env).map (·.2)=[assign tg X.env]):PS X (.Assign [tg] e pos) (jw te g):=by
 intro aa s j H D I h;refine wpAny_Assign_stores (bo (he aa s j H _ I h) λv l a=>?_) hs i;let⟨x,b,c,r1,k⟩:=a;rw[d];exact bo (f aa l j b x v _ c r1 k) λ_ m q=>q
theorem qw(f:X.N.Nodup)(k:X.N[i]?=some x)(l:Loc X.env.scope x)(he:PE X e te)(hs:do swapsWith e (some (.Name x pos')) pos.line X.env=pure false)(g:kG X x:=by first |exact .inl rfl |exact .inr rfl |assumption):
  PS X (.Assign [.Name x pos'] e pos) (jw te (jr i)):=by
 intro aa s j H D I h;refine wpAny_Assign_Name (bo (he aa s j H _ I h) λv n a=>?_) hs;let⟨y,b,c,r1,m⟩:=a;exact p9 c f k l r1 (λo d=>⟨_,b,d,m⟩) g
def Dp(i j:Nat)(b:TA):TS:=λD y H=>b y H λvs a=>∃v w,vs=[v,w]/\D.nx ((y.set i (some v)).set j (some w)) a
theorem Vr{kt k2 pt2}(Q:X.calm=true)(B:X.N.Nodup)(U:X.N[i]?=some x)(Y:X.N[j]?=some y)(g:i≠j)(C:X.env.scope.names.lookup x=some .local)(E:X.env.scope.names.lookup y=some .local)(ha:PA X [a,b] ta)(hw:swappedStores [.Tuple [.Name x px,.Name y py] kt pt] (.Tuple [a,b] k2 pt2) X.env=pure (some [x,y]))(hs:do swapsWithSole [.Tuple [.Name x px,.Name y py] kt pt] (.Tuple [a,b] k2 pt2) pos.line X.env=pure false):
  PS X (.Assign [.Tuple [.Name x px,.Name y py] kt pt] (.Tuple [a,b] k2 pt2) pos) (Dp i j ta):=by
 intro aa s u H D I h;rw[exec_Assign_arm];refine wpAny_bind (wpAny_standAt ?_);rw[hs];refine wpAny_bind (wpAny_pure ?_);rw[if_neg ∎];refine wpAny_bind (Tuple_ (bo (ha _ aa s u H _ I h) λus c n=>?_));∎;let⟨vs,r,G,r1,l⟩:=n;let⟨v,w,O,l⟩:=l;∎;subst O;obtain⟨d,f,rfl,rv,m⟩:∃d f,us=[d,f]/\aK v d/\aK w f:=by
  cases r1 with
  |cons p q=>
   cases q with
   |cons p' q'=>
    cases q';exact⟨_,_,rfl,p,p'⟩
 refine wpAny_newObj_type ?_ (by show 2<=sizeLine;decide);have J:aw X aa u r { c with heap:=c.heap.push { cls:=.type "tuple",data:=.seq [d,f].toArray } }:=G.kept (t':=c.toks) λb o e=>Heap.get?_push_of_some _ e
 rw[hw];refine wpAny_bind (wpAny_pure ?_);show wpAny (model X.prog X.w) X.A (do rule "assign.swapped-stores";let items <- unpackItems (.ref ⇑c) 2 none;assignInOrder [λv=>bindName X.env y v,λv=>bindName X.env x v] items.reverse;pure Flow.next) _ _ _;refine wpAny_bind (wpAny_rule (wpAny_bind (unpackItems_tuple (items:=#[d,f]) (I.ok.hd Q) (IsTup.new c.heap _) λh' k=>?_)));have L:=J.kept (h':=h') (t':=c.toks) λb o e=>k b o (ne_of_lt (Heap.lt_size e)) e
 show wpAny _ _ (assignInOrder [λv=>bindName X.env y v,λv=>bindName X.env x v] [f,d] >>= λ_=>pure Flow.next) _ _ _;refine wpAny_bind (assignInOrder_cons (wpAny_bindName (p9 L B Y (.inl E) m (λs2 M=>?_) (.inr E))));refine assignInOrder_cons (wpAny_bindName (p9 M B U (.inl C) rv (λs3 z=>assignInOrder_nil (wpAny_pure ?_)) (.inr C)));rw[List.set_comm _ _ (Ne.symm g)] at z;exact⟨_,r,z,l⟩
end
section
variable{X:Cx}{pos:Pos}
def rW(c:TT)(tb:TS):TS:=λD j H=>∃W:Nat->St->Hp->Prop,(∃m,W m j H)/\∀m j H,W m j H->
 c j H λb d=>if b=true then ∃N:St->Hp->Prop,(∀e a,N e a->∃f,f<m/\W f e a)/\tb { D with nx:=N,ct:=N,bk:=D.nx } j d else D.nx j d
theorem E3(B:PassesOwn (model X.prog X.w) X.A X.env X.xe)(J:PT X c tc)(G:eW X body tb):PS X (.While c body [] pos) (rW tc tb):=by
 intro aa s j H D I h;let⟨W,⟨L,U⟩,e⟩:=h;refine wpAny_While (codeAny_whileLoop (λn M=>∃C r,aw X aa C r M/\W n C r) ?_ L ⟨j,H,I,U⟩);rintro n O ⟨g,u,E,Y⟩;refine wpAny_passesOwn B (bo (J aa O g u _ E (e n g u Y)) λb Q q=>?_);let⟨x,y,i⟩:=q;cases b with
 |true=>
  let⟨N,z,i⟩:=i;rw[if_pos rfl];refine wpAny_passesOwn B (bo (G aa Q g x _ y i) λf s3 k=>?_);cases f with
  |next=>
   ∎;let⟨d,a,l,o⟩:=k;let⟨m,hm,p⟩:=z d a o;∎;exact⟨m,hm,d,a,l,p⟩
  |cont=>
   ∎;let⟨d,a,l,o⟩:=k;let⟨m,hm,p⟩:=z d a o;∎;exact⟨m,hm,d,a,l,p⟩
  |brk=>exact k
  |ret v=>exact k
 |false=>
  rw[if_neg Bool.false_ne_true];exact wpAny_execs_nil ⟨g,x,y,i⟩
end
structure It where
 go:Nat->Hp->Prop
 lS:Nat->Hp->V->Hp->Prop
 stop:Nat->Hp->Prop
def jx(X:Cx)(aa:aT)(H:Hp)(b:ah):Prop:=
 H b=none/\b≠X.env.locals/\b ∉ X.fs/\(b∈X.ex\/⇑X.s₀<=b)/\(∀x c,X.env.cells.lookup x=some c->c≠b)/\∀p∈X.pn++aa,p.1≠b
theorem aw.mM{H d:Hp}(I:aw X aa j H s)(a:⇑s<=b)(hn:d b=none):jx X aa d b:=by
 refine⟨hn,Nat.ne_of_gt (lt_of_lt_of_le I.lt a),I.zt a,.inr (le_trans I.sz a),λx c e z=>?_,λp f z=>?_⟩
 .obtain⟨v,q⟩:=I.cell x c e;exact absurd (lt_of_lt_of_le q.lt (by rw[z];exact a)) (lt_irrefl _)
 .exact absurd (lt_of_lt_of_le (Heap.lt_size (I.pin p f).1) (by rw[z];exact a)) (lt_irrefl _)
structure pR(P:Program)(w:World)(K:ao)(tg:Expr)(J:It)(fp:bV)(it:ah)(tn:Nat->aP->Prop):Prop where
 mem:it∈fp
 obj:∀i h,tn i h->∀b∈fp,∃o,h.get? b=some o/\∀v,o.data≠.cell v
 keep:∀i h h',tn i h->(∀b∈fp,∀o,h.get? b=some o->h'.get? b=some o)->tn i h'
 item:∀(X:Cx),X.prog=P->X.w=w->X.K=K->X.calm=true->∀(i:Nat)(aa:aT)(s:aj)(j:St)(H:Hp)(E:ag->aj->Prop),aw X aa j H s->(∀b∈fp,jx X aa H b)->tn i s.heap->J.go i H->
  wpAny (model P w) X.A (pyNext (.ref it)) (λr s1=>∃u,r=some u/\
   wpAny (model P w) X.A (letOwnedTupleGo tg (.ref it) u) (λ_ s2=>∃x H',aw X aa j H' s2/\aK x u/\J.lS i H x H'/\tn (i+1) s2.heap/\∀b∈fp,H' b=none) E s1) E s
 done:∀(X:Cx),X.prog=P->X.w=w->X.K=K->X.calm=true->∀(i:Nat)(aa:aT)(s:aj)(j:St)(H:Hp)(E:ag->aj->Prop),aw X aa j H s->(∀b∈fp,jx X aa H b)->tn i s.heap->J.stop i H->
  wpAny (model P w) X.A (pyNext (.ref it)) (λr s1=>r=none/\aw X aa j H s1) E s
 self:∀(A:Around)(i:Nat)(s:aj)(Q:ag->aj->Prop)(E:ag->aj->Prop),tn i s.heap->Q (.ref it) s->wpAny (model P w) A (pyIter (.ref it)) Q E s
abbrev TI:=St->Hp->(It->Hp->Prop)->Prop
def Ah(X:Cx)(aa:aT)(j:St)(h:Expr)(R:It->Hp->Prop)(c:ag)(f:aj):Prop:=
 ∃(e:ah)(d:bV)(g:Nat->aP->Prop)(J:It)(a:Hp),c=.ref e/\aw X aa j a f/\pR X.prog X.w X.K h J d e g/\g 0 f.heap/\(∀b∈d,jx X aa a b)/\R J a
def PI(X:Cx)(c a:Expr)(d:TI):Prop:=
 ∀(aa:aT)(s:aj)(j:St)(H:Hp)(R:It->Hp->Prop),aw X aa j H s->d j H R->
  wpAny (model X.prog X.w) X.A (eval a X.env) (λv b=>wpAny (model X.prog X.w) X.A (pyIter v) (Ah X aa j c R) X.xe b) X.xe s
theorem zj{Q:Unit->aj->Prop}(c:s.heap.get? it=some o)(b:o.cls=.type n)(hd:o.data=.fields vs)(hn:["enumerate","zip","dict_itemiterator","dict_reverseitemiterator","odict_iterator","itertools.zip_longest","itertools.pairwise"].contains n=false)(a:Q () s):wpAny M A (letOwnedTupleGo tg (.ref it) u) Q E s:=by
 unfold letOwnedTupleGo;cases tg<;>first
  |exact wpAny_pure a
  |(cases u<;>first
    |exact wpAny_pure a
    | (refine wpAny_bind (wpAny_load c ?_)
       rw[b,hd];show wpAny M A (if (["enumerate","zip","dict_itemiterator","dict_reverseitemiterator","odict_iterator","itertools.zip_longest","itertools.pairwise"].contains n&&vs[0]? == some (rawInt _))=true then _ else _) Q E s;rw[if_neg (by intro h;rw[hn,Bool.false_and] at h;cases h)];exact wpAny_pure a))
def ro(K:ao)(a:ah):It:=
 ⟨λi H=>∃b x,bM K H a b/\b[i]?=some x,λi H x c=>c=H/\∀b,bM K H a b->b[i]?=some x,λi H=>∃b,bM K H a b/\b.length<=i⟩
def lT(lo:Int)(n:Nat):It:=⟨λi _=>i<n,λi H x a=>a=H/\x=.int (lo+i),λi _=>n<=i⟩
theorem OK{P:Program}{w:World}{K:ao}{tg:Expr}(a it:ah):pR P w K tg (ro K a) [it] it (λi h=>h.IsListIter it a i) where
 mem:=by simp
 obj:=λi h st b f=>by
  have e:b=it:=by simpa using f
  subst e;let⟨o,e,c,d⟩:=st;exact⟨o,e,λv z=>by rw[d] at z;cases z⟩
 keep:=λi h l st k=>st.at λo e=>k it (by simp) o e
 item:=by
  intro X D J C O i aa s j H E I m st G;subst D J C;∎;let⟨xs,x,n,L⟩:=G;let⟨M,N,p,hz⟩:=I.list n;let⟨u,hu,ru⟩:=N.get L;let⟨q,r,Y,y,A,B⟩:=m it (by simp);∎;refine wpAny_pyNext_list_item st p.isList (x:=u) (by simpa using hu) λl g sb=>?_
  have Q:aw X aa j H { s with heap:=l }:=I.turned (t':=s.toks) (λb o f e=>(sb.2 b f).trans e) q r y A B;let⟨o,e,c,d⟩:=id g;exact⟨u,rfl,zj (s:={ s with heap:=l }) e c d ∎ ⟨x,H,Q,ru,⟨rfl,λys hy=>by rw[I.i7 hy n];exact L⟩,g,λb f=>(m b f).1⟩⟩
 done:=by
  intro X D J C O i aa s j H E I m st G;subst D J C;∎;let⟨xs,n,L⟩:=G;let⟨M,N,p,hz⟩:=I.list n;let⟨q,r,Y,y,A,B⟩:=m it (by simp);∎;have hl:=N.length;exact wpAny_pyNext_list_end (I.ok.hd O) st p.isList (by simp;omega) λl U=>⟨rfl,I.turned (t':=s.toks) (λb o f e=>U b o f e) q r y A B⟩
 self:=λ_ _ _ _ _ st h=>wpAny_pyIter_listiter st h
theorem Oh{P:Program}{w:World}{K:PySem.W.Frag}{L:Expr}(it:ah)(lo:Int)(n:Nat):pR P w K L (lT lo n) [it] it (λi h=>IsRangeIter h it (lo+(i:Nat)*1) ((n:Int) - (i:Nat)) 1) where
 mem:=by simp
 obj:=λi h st b a=>by
  have e:b=it:=by simpa using a
  subst e;exact⟨_,st,λv z=>by
   have M:Data.fields _=Data.cell v:=z;cases M⟩
 keep:=λi h d st k=>k it (by simp) _ st
 item:=by
  intro X u A r x i aa s j H E I f st y;subst u A r;let⟨g,l,D,m,p,q⟩:=f it (by simp);have W:=Walks.range (prog:=X.prog) (w:=X.w) (I.ok.hd x) it lo 1 n;refine W.item i s _ _ y st λv d tk G c J=>?_
  let⟨t,rfl⟩:=G;have B:aw X aa j H { s with heap:=d,toks:=tk }:=I.turned (λb o a e=>J b o (by simpa using a) e) g l m p q;refine⟨_,rfl,zj (s:={ s with heap:=d,toks:=tk }) (n:="range_iterator") c rfl rfl ∎ ⟨.int (lo+i),H,B,⟨t,?_⟩,⟨rfl,rfl⟩,c,λb a=>(f b a).1⟩⟩;rw[Int.mul_one]
 done:=by
  intro X u A r x i aa s j H E I f st y;subst u A r;let⟨g,l,D,m,p,q⟩:=f it (by simp);exact wpAny_pyNext_range_end (I.ok.hd x) st (by have:n<=i:=y;omega) λd C=>⟨rfl,I.turned (t':=s.toks) (λb o a e=>C b o a e) g l m p q⟩
 self:=λ_ _ _ _ _ st h=>wpAny_pyIter_rangeiter st h
section
variable{X:Cx}{tg:Expr}
def B2(K:ao)(c:TE):TI:=λj H R=>c j H λx b=>∃a,x=.ref a/\(∃d,bM K b a d)/\R (ro K a) b
theorem T2{l:Expr}{g:TE}(m:PE X l g):PI X tg l (B2 X.K g):=by
 intro aa s j H R I h;refine bo (m aa s j H _ I h) λv d f=>?_
 ∎;let⟨x,i,c,r1,u⟩:=f;let⟨a,e,⟨z,n⟩,q⟩:=u;∎;subst e;cases r1;let⟨r,y,p,w⟩:=c.list n;refine wpAny_pyIter_list p.isList ?_;refine⟨⇑d,[⇑d],_,_,i,rfl,c.kept (t':=d.toks) λb o e=>Heap.get?_push_of_some _ e,OK a _,⟨_,Heap.get?_push_size _ rfl,rfl,rfl⟩,λb k=>?_,q⟩;have e:b=⇑d:=by simpa using k
 subst e;exact c.mM (le_refl _) (c.aV.fresh (le_refl _))
theorem E4{aa:aT}{j:St}{H:Hp}{s:aj}{R:It->Hp->Prop}{E:ag->aj->Prop}{lo a:Int}{t u v:Tok}{tk:Nat}(I:aw X aa j H s)(f:-(2 ^ 62)<=lo)(g:lo<2 ^ 62)(h:-(2 ^ 62)<=a)(i:a<2 ^ 62)(q:R (lT lo (a - lo).toNat) H):wpAny (model X.prog X.w) X.A (pyIter (.ref ⇑s)) (Ah X aa j tg R) E { s with heap:=s.heap.push { cls:=.type "range",data:=.fields #[.int lo t,.int a u,.int 1 v] },toks:=tk }:=by
 refine wpAny_pyIter_range (IsRange.new ..) (small_one f g h i) ?_;have c:aw X aa j H { s with heap:=s.heap.push { cls:=.type "range",data:=.fields #[.int lo t,.int a u,.int 1 v] },toks:=tk }:=I.kept λb o e=>Heap.get?_push_of_some _ e
 refine⟨(s.heap.push { cls:=.type "range",data:=.fields #[.int lo t,.int a u,.int 1 v] }).objs.size,[(s.heap.push { cls:=.type "range",data:=.fields #[.int lo t,.int a u,.int 1 v] }).objs.size],_,_,H,rfl,
  c.kept (t':=tk) λb o e=>Heap.get?_push_of_some _ e,Oh _ lo (a - lo).toNat,?_,λb k=>?_,q⟩
 .have e1:lo+((0:Nat):Int)*1=lo:=by simp
  have d:(((a - lo).toNat:Nat):Int) - ((0:Nat):Int)=Builtin.Range.rangeSize lo a 1:=by rw[rangeSize_one];split<;>omega
  show IsRangeIter _ _ (lo+((0:Nat):Int)*1) ((((a - lo).toNat:Nat):Int) - ((0:Nat):Int)) 1;rw[e1,d];exact Heap.get?_push_size _ rfl
 .have e:b=(s.heap.push { cls:=.type "range",data:=.fields #[.int lo t,.int a u,.int 1 v] }).objs.size:=by simpa using k
  subst e;exact c.mM (le_refl _) (c.aV.fresh (le_refl _))
def B3(b:TA):TI:=λy H R=>b y H λvs a=>∃j:Int,vs=[.int j]/\-(2 ^ 62)<=j/\j<2 ^ 62/\R (lT 0 j.toNat) a
def B4(b:TA):TI:=λy H R=>b y H λvs a=>∃i j:Int,vs=[.int i,.int j]/\(-(2 ^ 62)<=i/\i<2 ^ 62/\-(2 ^ 62)<=j/\j<2 ^ 62)/\R (lT i (j - i).toNat) a
theorem OL{a:Expr}{d:TA}{p pos:Pos}(g:Gl X "range")(hm:X.mg "range"=none)(ha:PA X [a] d)(hs:do m8 a X.env):PI X tg (.Call (.Name "range" p) [a] [] pos) (B3 d):=by
 intro aa s y H R I h;refine Call_ (qu I g hm boot_range (PyProof.Rows.callWith_type1 (bo (ha pos aa s y H _ I h) λus m c=>?_) hs rfl));∎;let⟨vs,l,f,r1,b⟩:=c;let⟨j,e,b,i,q⟩:=b;∎;subst e;cases r1 with
 |cons r k=>
  cases k;let⟨t,rfl⟩:=r;exact call_range_1 (E4 f ⋯ ⋯ b i (by simpa using q))
theorem OM(l:Gl X "range")(hm:X.mg "range"=none)(ha:PA X [a,b] ta)(hs:do Aj a b X.env)(c:do m8 b X.env):
  PI X tg (.Call (.Name "range" p) [a,b] [] pos) (B4 ta):=by
 intro aa s y H R I h;refine Call_ (qu I l hm boot_range (PyProof.Rows.callWith_type1 (bo (ha pos aa s y H _ I h) λus w g=>?_) (by rw[hs,c]) (by rw[c];rfl)));∎;let⟨vs,v,k,r1,d⟩:=g;let⟨i,j,e,⟨d,m,n,o⟩,q⟩:=d;∎;subst e;cases r1 with
 |cons r f=>
  cases f with
  |cons u f=>
   cases f;let⟨t,rfl⟩:=r;let⟨x,rfl⟩:=u;exact call_range_2 (E4 k d m n o q)
def Dq(h:TI)(g:TG)(tb:TS):TS:=λD j H=>h j H λJ d=>∃W:Nat->Nat->St->Hp->Prop,(∃m,W 0 m j d)/\∀i m j H,W i m j H->
 (J.stop i H/\D.nx j H)\/(J.go i H/\∃N:St->Hp->Prop,(∀b a,N b a->∃c,c<m/\W (i+1) c b a)/\∀x a,J.lS i H x a->g x j a λf e=>tb { D with nx:=N,ct:=N,bk:=D.nx } f e)
def pw(fp:bV)(h:aP):aT:=fp.filterMap λb=>(h.get? b).map λo=>(b,o)
theorem sN(a:b∈fp)(e:h.get? b=some o):(b,o)∈pw fp h:=mem_filterMap.mpr ⟨b,a,by rw[e];rfl⟩
theorem ON(d:p∈pw fp h):p.1∈fp/\h.get? p.1=some p.2:=by
 let⟨b,c,e⟩:=mem_filterMap.mp d;cases q:h.get? b with
 |none=>rw[q] at e;cases e
 |some o=>
  rw[q] at e;have a:(b,o)=p:=Option.some.inj e;subst a;exact⟨c,q⟩
theorem aw.pinned(I:aw X aa j H s)(i:∀b∈fp,jx X aa H b)(k:∀b∈fp,∃o,s.heap.get? b=some o/\∀v,o.data≠.cell v):aw X (aa++pw fp s.heap) j H s:=
 I.eH λp l=>(mem_append.mp l).elim (λz=>I.pin p (mem_append_right _ z)) λz=>by
  ∎;let⟨c,e⟩:=ON z;let⟨f,g,h,_⟩:=i p.1 c;let⟨o,a,d⟩:=k p.1 c;∎;rw[e] at a;cases a;exact⟨e,f,g,h,d⟩
theorem aw.eT(I:aw X (aa++pl) j H s):aw X aa j H s:=I.eH λp a=>I.pin p (mem_append_right _ (mem_append_left _ a))
theorem Vs(G:PassesOwn (model X.prog X.w) X.A X.env X.xe)(hc:X.calm=true)(hi:PI X tg iter wi)(hg:PG X tg g)(l:eW X body tb)(hs:∀x,foldedSetIterable iter X.env x=pure x:=by intro _;rfl):PS X (.For tg iter body [] pos) (Dq wi g tb):=by
 intro aa s j H D I h;refine wpAny_For (bo (hi aa s j H _ I h) λv s1 h1=>bo h1 λδ s2 h2=>?_) hs;let⟨it,C,tn,J,H2,e,I2,T,γ,f2,W,⟨m0,w0⟩,U⟩:=h2;subst e;have q:∀{y:Hp},(∀b∈C,y b=none)->∀b∈C,jx X aa y b:=λhn b l=>⟨hn b l,(f2 b l).2⟩
 refine codeAny_forLoop_any (λn s'=>∃i L y,aw X aa L y s'/\tn i s'.heap/\(∀b∈C,y b=none)/\W i n L y) ?_ m0 ⟨0,j,H2,I2,γ,λb l=>(f2 b l).1,w0⟩;rintro n s3 ⟨i,M,Y,I3,Q,E,w3⟩;rcases U i n M Y w3 with⟨stop,qn⟩ |⟨go,N,hN,step⟩
 .refine wpAny_passesOwn G (bo (T.done X rfl rfl rfl hc i aa s3 M Y X.xe I3 (q E) Q stop) λr s4 a=>?_);let⟨hr,I4⟩:=a;subst hr;exact wpAny_execs_nil ⟨M,Y,I4,qn⟩
 .refine wpAny_passesOwn G (bo (T.item X rfl rfl rfl hc i aa s3 M Y X.xe I3 (q E) Q go) λr s4 a=>?_);let⟨u,hr,h4⟩:=a;subst hr;refine wpAny_passesOwn G (bo h4 λ_ s5 a=>?_);let⟨x,H5,I5,r5,y5,B,β⟩:=a;have α:=I5.pinned (q β) (T.obj _ _ B);refine wpAny_passesOwn G (bo (hg _ s5 M H5 x u _ α r5 (step x H5 y5)) λ_ s6 a=>?_);let⟨j6,H6,I6,q6⟩:=a;refine wpAny_passesOwn G (bo (l _ s6 j6 H6 _ I6 q6) λf s7 z=>?_);have again:∀{p:St}{c:Hp},aw X (aa++pw C s5.heap) p c s7->N p c->∃m,m<n/\∃i L y,aw X aa L y s7/\tn i s7.heap/\(∀b∈C,y b=none)/\W i m L y:=λ{p c} k O=>by
   let⟨m',hm,w7⟩:=hN p c O;refine⟨m',hm,i+1,p,c,k.eT,T.keep _ _ _ B λb l o e=>(k.pin (b,o) (mem_append_right _ (mem_append_right _ (sN l e)))).1,λb l=>?_,w7⟩;let⟨o,e,d⟩:=T.obj _ _ B b l;exact (k.pin (b,o) (mem_append_right _ (mem_append_right _ (sN l e)))).2.1
  cases f with
  |next=>let⟨p,c,k,O⟩:=z;exact again k O
  |cont=>let⟨p,c,k,O⟩:=z;exact again k O
  |brk=>let⟨p,c,k,z⟩:=z;exact⟨p,c,k.eT,z⟩
  |ret v=>let⟨x7,p,c,k,r7,z⟩:=z;exact⟨x7,p,c,k.eT,r7,z⟩
end
abbrev R2:=V->V->Hp->VK->Prop
def bZ(X:Cx)(f:ag->ag->Sem Value)(r:R2):Prop:=
 ∀(aa:aT)(s:aj)(j:St)(H:Hp)(x y:V)(v u:ag)(Q:VK),aw X aa j H s->aK x v->aK y u->r x y H Q->
  wpAny (model X.prog X.w) X.A (f v u) (EP X aa j Q) X.xe s
def vd(X:Cx)(f:ag->Sem Value)(r:V->Hp->VK->Prop):Prop:=
 ∀(aa:aT)(s:aj)(j:St)(H:Hp)(x:V)(v:ag)(Q:VK),aw X aa j H s->aK x v->r x H Q->
  wpAny (model X.prog X.w) X.A (f v) (EP X aa j Q) X.xe s
def a9(X:Cx)(f:ag)(r:ax->Hp->VK->Prop):Prop:=
 ∀(aa:aT)(s:aj)(j:St)(H:Hp)(a:ax)(us:aJ)(Q:VK),aw X aa j H s->aF a us->r a H Q->
  wpAny (model X.prog X.w) X.A (call f us) (EP X aa j Q) X.xe s
def mX(r:R2)(c tb:TE):TE:=λj H Q=>c j H λx a=>tb j a λy b=>r x y b Q
def H9(r:V->Hp->VK->Prop)(b:TE):TE:=λj H Q=>b j H λx a=>r x a Q
def rI(C:Int->Int->Prop)(g:Int->Int->V):R2:=λx y H Q=>∃i j,x=.int i/\y=.int j/\C i j/\Q (g i j) H
def gq(g:Int->Int->V):R2:=λx y H Q=>∃i j,x=.int i/\y=.int j/\Q (g i j) H
def rU(g:Int->V):V->Hp->VK->Prop:=λx H Q=>∃i,x=.int i/\Q (g i) H
section
variable{X:Cx}{a b c:Expr}{ta tb tc:TE}{pos:Pos}
theorem z5(ha:PE X a ta)(o:PE X b tb){R:V->V->Hp->Prop}(I:aw X aa j H s)(h:ta j H λx l=>tb j l λy e=>R x y e){f:ag->ag->Sem Value}(p:∀v u k x y e,aw X aa j e k->aK x v->aK y u->R x y e->wpAny (model X.prog X.w) X.A (f v u) Q X.xe k):
  wpAny (model X.prog X.w) X.A (eval a X.env) (λv g=>wpAny (model X.prog X.w) X.A (eval b X.env) (λu i=>wpAny (model X.prog X.w) X.A (f v u) Q X.xe i) X.xe g) X.xe s:=by
 refine bo (ha aa s j H _ I h) λv z d=>?_
 let⟨x,l,m,r1,q⟩:=d;refine bo (o aa z j l _ m q) λu k d=>?_
 let⟨y,e,n,r2,r⟩:=d;exact p v u k x y e n r1 r2 r
theorem Yu(g:bZ X (binaryOp op) r)(ha:PE X a ta)(f:PE X b tb):PE X (.BinOp a op b pos) (mX r ta tb):=by
 intro aa s j H Q I h;exact wpAny_BinOp (z5 ha f I h λv u l x y d e i k q=>g aa l j d x y v u Q e i k q)
theorem Yv(g:vd X (unaryOp op) r)(ha:PE X a ta):PE X (.UnaryOp op a pos) (H9 r ta):=by
 intro aa s j H Q I h;exact UnaryOp_ (bo (ha aa s j H _ I h) λv k d=>by let⟨x,e,f,r1,i⟩:=d;exact g aa k j e x v Q f r1 i)
theorem zO{f:ag->ag->Sem Value}{C:Int->Int->Prop}{g:Int->Int->Int}(rule:∀(i j:Int)(t u:Tok)(s:aj)(Q:ag->aj->Prop)(E:ag->aj->Prop),C i j->Q (.int (g i j) s.toks) { s with toks:=s.toks+1 }->wpAny (model X.prog X.w) X.A (f (.int i t) (.int j u)) Q E s):
  bZ X f (rI C λi j=>.int (g i j)):=by
 intro aa s G H x y v u Q I e k h;∎;let⟨i,j,rfl,rfl,d,q⟩:=h;let⟨t,rfl⟩:=e;let⟨l,rfl⟩:=k;∎;exact rule i j t l s _ _ d ⟨.int (g i j),H,I.tok _,⟨_,rfl⟩,q⟩
theorem z6{f:ag->ag->Sem Value}{g:Int->Int->Int}(rule:∀(i j:Int)(t u:Tok)(s:aj)(Q:ag->aj->Prop)(E:ag->aj->Prop),Q (.int (g i j) s.toks) { s with toks:=s.toks+1 }->wpAny (model X.prog X.w) X.A (f (.int i t) (.int j u)) Q E s):
  bZ X f (gq λi j=>.int (g i j)):=by
 intro aa s G H x y v u Q I d e h;∎;let⟨i,j,rfl,rfl,q⟩:=h;let⟨t,rfl⟩:=d;let⟨k,rfl⟩:=e;∎;exact rule i j t k s _ _ ⟨.int (g i j),H,I.tok _,⟨_,rfl⟩,q⟩
theorem uE{f:ag->ag->Sem Value}{g:Int->Int->Bool}(rule:∀(i j:Int)(t u:Tok)(s:aj)(Q:ag->aj->Prop)(E:ag->aj->Prop),Q (.bool (g i j)) s->wpAny (model X.prog X.w) X.A (f (.int i t) (.int j u)) Q E s):
  bZ X f (gq λi j=>.bl (g i j)):=by
 intro aa s G H x y v u Q I d e h;∎;let⟨i,j,rfl,rfl,q⟩:=h;let⟨t,rfl⟩:=d;let⟨k,rfl⟩:=e;∎;exact rule i j t k s _ _ ⟨.bl (g i j),H,I,rfl,q⟩
def wC(i j:Int):Prop:=0<=j/\j<=1000000/\i.natAbs<2 ^ 64
theorem Ko:bZ X (binaryOp .Add) (gq λi j=>.int (i+j)):=z6 λ_ _ _ _ _ _ _ q=>add_int q
theorem Vt:bZ X (binaryOp .Sub) (gq λi j=>.int (i - j)):=z6 λ_ _ _ _ _ _ _ q=>sub_int q
theorem Vu:bZ X (binaryOp .Mod) (rI (λ_ j=>0<j) λi j=>.int (i % j)):=zO λi j _ _ _ _ _ d q=>by
 have e:(0:Int)<j:=d;exact mod_int' ⋯ (by rw[Int.fmod_eq_emod_of_nonneg i ⋯];exact q)
theorem Vv:bZ X (binaryOp .Pow) (rI wC λi j=>.int (i ^ j.toNat)):=zO λ_ _ _ _ _ _ _ d q=>pow_int_small d.1 d.2.1 d.2.2 q
theorem lN:bZ X (binaryOp .BitOr) (gq λi j=>.int (Builtin.bitOr i j)):=z6 λ_ _ _ _ _ _ _ q=>or_int q
theorem Ub{f:ag->Sem Value}{g:Int->Int}(rule:∀(i:Int)(t:Tok)(s:aj)(Q:ag->aj->Prop)(E:ag->aj->Prop),Q (.int (g i) s.toks) { s with toks:=s.toks+1 }->wpAny (model X.prog X.w) X.A (f (.int i t)) Q E s):
  vd X f (rU λi=>.int (g i)):=by
 intro aa s j H x v Q I d h;∎;let⟨i,rfl,q⟩:=h;let⟨t,rfl⟩:=d;∎;exact rule i t s _ _ ⟨.int (g i),H,I.tok _,⟨_,rfl⟩,q⟩
theorem Vw:vd X (unaryOp .USub) (rU λi=>.int (-i)):=Ub λ_ _ _ _ _ q=>neg_int q
end
def wD:V->V->Bool
 |.aX,.aX=>true |.aX,.int _=>true |.int _,.aX=>true |.aX,.bl _=>true |.bl _,.aX=>true |.aX,.str _=>true |.str _,.aX=>true
 |.int _,.int _=>true |.bl _,.bl _=>true |.str _,.str _=>true |.fW _,.fW _=>true
 |.int _,.str _=>true |.str _,.int _=>true |.bl _,.str _=>true |.str _,.bl _=>true
 |_,_=>false
def uU:R2:=λx y H Q=>wD x y=true/\Q (.bl (decide (x=y))) H
def z7:R2:=λx y H Q=>wD x y=true/\Q (.bl (!decide (x=y))) H
theorem Ft:decide (V.int i=V.int j)=(i == j):=by
 rw[Bool.eq_iff_iff];simp
theorem GO:decide (V.bl i=V.bl j)=(i == j):=by
 rw[Bool.eq_iff_iff];simp
theorem Fu:decide (V.str i=V.str j)=(i == j):=by
 rw[Bool.eq_iff_iff];simp
theorem Fv:decide (V.fW i=V.fW j)=(i.toList == j.toList):=by
 rw[Bool.eq_iff_iff];cases i;cases j;simp
section
variable{X:Cx}{a b c:Expr}{ta tb tc:TE}{pos:Pos}
theorem cX{Q:VK}(I:aw X aa j H s)(q:Q (.bl k) H)(e:k=k'):EP X aa j Q (.bool k') s:=by
 subst e;exact⟨.bl k,H,I,rfl,q⟩
theorem B5:bZ X (compareOp .Eq) uU:=by
 intro aa s G H x y v u Q I g d h;let⟨f,q⟩:=h;cases x with
 |aX=>
  cases g;cases y with
  |aX=>cases d;exact PySem.EqNone.eq_none_none (cX I q (by simp))
  |bl j=>cases d;exact PySem.EqNone.eq_none_bool (cX I q (by simp))
  |int j=>let⟨e,rfl⟩:=d;exact PySem.EqNone.eq_none_int (cX I q (by simp))
  |str j=>let⟨e,rfl⟩:=d;exact PySem.EqNone.eq_none_str (cX I q (by simp))
  |_=>exact absurd (show false=true from f) Bool.false_ne_true
 |bl i=>
  cases g;cases y with
  |aX=>cases d;exact PySem.EqNone.eq_bool_none (cX I q (by simp))
  |bl j=>cases d;exact eq_bool (cX I q GO)
  |str j=>let⟨e,rfl⟩:=d;exact PySem.EqMixed.eq_bool_str (cX I q (by simp))
  |_=>exact absurd (show false=true from f) Bool.false_ne_true
 |int i=>
  let⟨t,rfl⟩:=g;cases y with
  |aX=>cases d;exact PySem.EqNone.eq_int_none (cX I q (by simp))
  |int j=>let⟨e,rfl⟩:=d;exact eq_int (cX I q Ft)
  |str j=>let⟨e,rfl⟩:=d;exact PySem.EqMixed.eq_int_str (cX I q (by simp))
  |_=>exact absurd (show false=true from f) Bool.false_ne_true
 |str i=>
  let⟨t,rfl⟩:=g;cases y with
  |aX=>cases d;exact PySem.EqNone.eq_str_none (cX I q (by simp))
  |bl j=>cases d;exact PySem.EqMixed.eq_str_bool (cX I q (by simp))
  |int j=>let⟨e,rfl⟩:=d;exact PySem.EqMixed.eq_str_int (cX I q (by simp))
  |str j=>let⟨e,rfl⟩:=d;exact eq_str (cX I q Fu)
  |_=>exact absurd (show false=true from f) Bool.false_ne_true
 |fW i=>
  let⟨t,rfl⟩:=g;cases y with
  |fW j=>let⟨e,rfl⟩:=d;exact W.eq_bytes (cX I q Fv)
  |_=>exact absurd (show false=true from f) Bool.false_ne_true
 |_=>cases y <;> exact absurd (show false=true from f) Bool.false_ne_true
theorem Kv:bZ X (compareOp .NotEq) z7:=by
 intro aa s G H x y v u Q I g d h;let⟨f,q⟩:=h;cases x with
 |aX=>
  cases g;cases y with
  |aX=>cases d;exact PySem.EqNone.ne_none_none (cX I q (by simp))
  |bl j=>cases d;exact PySem.EqNone.ne_none_bool (cX I q (by simp))
  |int j=>let⟨e,rfl⟩:=d;exact PySem.EqNone.ne_none_int (cX I q (by simp))
  |str j=>let⟨e,rfl⟩:=d;exact PySem.EqNone.ne_none_str (cX I q (by simp))
  |_=>exact absurd (show false=true from f) Bool.false_ne_true
 |bl i=>
  cases g;cases y with
  |aX=>cases d;exact PySem.EqNone.ne_bool_none (cX I q (by simp))
  |bl j=>cases d;exact ne_bool (cX I q (congrArg not GO))
  |str j=>let⟨e,rfl⟩:=d;exact PySem.EqMixed.ne_bool_str (cX I q (by simp))
  |_=>exact absurd (show false=true from f) Bool.false_ne_true
 |int i=>
  let⟨t,rfl⟩:=g;cases y with
  |aX=>cases d;exact PySem.EqNone.ne_int_none (cX I q (by simp))
  |int j=>let⟨e,rfl⟩:=d;exact ne_int (cX I q (congrArg not Ft))
  |str j=>let⟨e,rfl⟩:=d;exact PySem.EqMixed.ne_int_str (cX I q (by simp))
  |_=>exact absurd (show false=true from f) Bool.false_ne_true
 |str i=>
  let⟨t,rfl⟩:=g;cases y with
  |aX=>cases d;exact PySem.EqNone.ne_str_none (cX I q (by simp))
  |bl j=>cases d;exact PySem.EqMixed.ne_str_bool (cX I q (by simp))
  |int j=>let⟨e,rfl⟩:=d;exact PySem.EqMixed.ne_str_int (cX I q (by simp))
  |str j=>let⟨e,rfl⟩:=d;exact ne_str (cX I q (congrArg not Fu))
  |_=>exact absurd (show false=true from f) Bool.false_ne_true
 |fW i=>
  let⟨t,rfl⟩:=g;cases y with
  |fW j=>let⟨e,rfl⟩:=d;exact W.ne_bytes (cX I q (congrArg not Fv))
  |_=>exact absurd (show false=true from f) Bool.false_ne_true
 |_=>cases y <;> exact absurd (show false=true from f) Bool.false_ne_true
theorem Kw:bZ X (compareOp .Lt) (gq λi j=>.bl (decide (i<j))):=uE λ_ _ _ _ _ _ _ q=>lt_int q
theorem lz:bZ X (compareOp .LtE) (gq λi j=>.bl (decide (i<=j))):=uE λ_ _ _ _ _ _ _ q=>le_int q
theorem Kx:bZ X (compareOp .Gt) (gq λi j=>.bl (decide (j<i))):=uE λ_ _ _ _ _ _ _ q=>gt_int q
theorem HF:bZ X (compareOp .GtE) (gq λi j=>.bl (decide (j<=i))):=uE λ_ _ _ _ _ _ _ q=>ge_int q
theorem OO:bZ X (compareOp .Lt) (λx y H Q=>∃i j,x=.str i/\y=.str j/\Q (.bl (decide (i.cps.toList<j.cps.toList))) H):=by
 intro aa s G H x y v u Q I d e h;∎;let⟨i,j,rfl,rfl,q⟩:=h;let⟨t,rfl⟩:=d;let⟨f,rfl⟩:=e;∎;exact lt_str (cX I q rfl)
theorem EA:bZ X (compareOp .In) (λx y H Q=>∃i j,x=.str i/\y=.str j/\Q (.bl (!(Builtin.Str.occurrences j i 0 j.length 1).isEmpty)) H):=by
 intro aa s G H x y v u Q I d e h;∎;let⟨i,j,rfl,rfl,q⟩:=h;let⟨t,rfl⟩:=d;let⟨f,rfl⟩:=e;∎;exact in_str (cX I q rfl)
theorem bZ.or{r d:R2}(h:bZ X f r)(h':bZ X f d):bZ X f (λx y H Q=>r x y H Q\/d x y H Q):=by
 intro aa s j H x y v u Q I e g q;rcases q with q |q
 .exact h aa s j H x y v u Q I e g q
 .exact h' aa s j H x y v u Q I e g q
theorem FU(g:bZ X (compareOp op) r)(ha:PE X a ta)(f:PE X b tb)(hm:behindInMarks op b=false):PE X (.Compare a [op] [b] pos) (mX r ta tb):=by
 intro aa s j H Q I h;exact wpAny_Compare1 (z5 ha f I h λv u l x y d e i k q=>g aa l j d x y v u Q e i k q) hm
def vE(t:TE):TT:=λj H Q=>t j H λx H'=>∃k,x=.bl k/\Q k H'
theorem FV(f:bZ X (compareOp op) r)(ha:PE X a ta)(d:PE X b tb)(hm:behindInMarks op b=false):PT X (.Compare a [op] [b] pos) (vE (mX r ta tb)):=by
 intro aa s j H Q I h;refine wpAny_isTrue_Compare1 (bo (ha aa s j H _ I h) λv g ⟨x,H1,I1,r1,q1⟩=>bo (d aa g j H1 _ I1 q1) λu i ⟨y,H2,I2,r2,q2⟩=>
  bo (f aa i j H2 x y v u _ I2 r1 r2 q2) λc l ⟨z,H3,I3,r3,k,e,q3⟩=>?_) hm
 subst e;cases r3;exact wpAny_truthy_bool ⟨H3,I3,q3⟩
def vz(r h:R2)(ta tb tc:TE):TE:=λj H Q=>ta j H λx e=>tb j e λy f=>r x y f λz d=>∃k,z=.bl k/\
 (if k=true then tc j d λi g=>h y i g Q else Q (.bl false) d)
theorem Rt(l:bZ X (compareOp op) r)(f:bZ X (compareOp op') r')(ha:PE X a ta)(g:PE X b tb)(i:PE X c tc)(hm:lastMarks [op,op'] [b,c]=false:=by with_unfolding_all rfl):PE X (.Compare a [op,op'] [b,c] pos) (vz r r' ta tb tc):=by
 intro aa s j H Q I h;refine Compare_chain (bo (ha aa s j H _ I h) λv m ⟨x,H1,I1,r1,q1⟩=>chain_link (bo (g aa m j H1 _ I1 q1) λu n ⟨y,H2,I2,r2,q2⟩=>
  bo (l aa n j H2 x y v u _ I2 r1 r2 q2) λd o ⟨z,H3,I3,r3,k,e,q3⟩=>?_)) hm
 subst e;cases r3;refine wpAny_truthy_bool ?_;cases k with
 |false=>exact ite_ff ⟨.bl false,H3,I3,rfl,q3⟩
 |true=>exact ite_tt (chain_last (bo (i aa o j H3 _ I3 q3) λq p ⟨w,H4,I4,r4,q4⟩=>f aa p j H4 y w u q Q I4 r2 r4 q4))
theorem Ru(B:bZ X (compareOp op) r)(f:bZ X (compareOp op') r')(ha:PE X a ta)(w:PE X b tb)(A:PE X c tc)(hm:lastMarks [op,op'] [b,c]=false:=by with_unfolding_all rfl):PT X (.Compare a [op,op'] [b,c] pos) (vE (vz r r' ta tb tc)):=by
 intro aa s j H Q I h;refine isTrue_chain (bo (ha aa s j H _ I h) λv G ⟨x,H1,I1,r1,q1⟩=>test_link (bo (w aa G j H1 _ I1 q1) λu J ⟨y,H2,I2,r2,q2⟩=>
  bo (B aa J j H2 x y v u _ I2 r1 r2 q2) λd L ⟨z,H3,I3,r3,k,e,q3⟩=>?_)) hm
 subst e;cases r3;refine wpAny_truthy_bool ?_;cases k with
 |false=>
  let⟨Y,p,C⟩:=q3;cases p;exact ite_ff ⟨H3,I3,C⟩
 |true=>
  refine ite_tt (test_last (bo (A aa L j H3 _ I3 q3) λN M g=>?_));let⟨O,l,n,r4,D⟩:=g;refine bo (f aa M j l y O u N _ n r2 r4 D) λU s5 i=>?_
  let⟨z2,m,o,r5,k2,q,E⟩:=i;subst q;cases r5;exact wpAny_truthy_bool ⟨m,o,E⟩
theorem qm:(sizeLine:Nat)<2 ^ 63:=by rw[sizeLine_eq];decide
theorem Kf:bZ X (binaryOp .Add) (λx y H Q=>∃i j,x=.str i/\y=.str j/\i.length+j.length<=sizeLine/\Q (.str (i++j)) H):=by
 intro aa s G H x y v u Q I e f h;∎;let⟨i,j,rfl,rfl,d,q⟩:=h;let⟨t,rfl⟩:=e;let⟨g,rfl⟩:=f;∎;exact add_str (λg tk=>⟨.str (i++j),H,I.tok _,⟨_,rfl⟩,q⟩) d
theorem gX(r:aF [x] us):∃u,us=[u]/\aK x u:=by
 cases r with
 |cons r1 r2=>cases r2;exact⟨_,rfl,r1⟩
theorem qH(r:aF [x,y] us):∃u d,us=[u,d]/\aK x u/\aK y d:=by
 cases r with
 |cons r1 r2=>
  cases r2 with
  |cons r3 r4=>cases r4;exact⟨_,_,rfl,r1,r3⟩
theorem E5:a9 X (.builtin "abs") (λxs H Q=>∃i,xs=[.int i]/\Q (.int (if i<0 then -i else i)) H):=by
 intro aa s j H xs us Q I r h;∎;let⟨i,rfl,q⟩:=h;let⟨u,rfl,t,rfl⟩:=gX r;∎;exact call_abs_int λu tk=>⟨.int (if i<0 then -i else i),H,I.tok _,⟨_,rfl⟩,q⟩
theorem xf:a9 X (.type "str") (λxs H Q=>∃i,xs=[.int i]/\i.natAbs.log2<1920/\Q (.str (toString i)) H):=by
 intro aa s j H xs us Q I r h;∎;let⟨i,rfl,d,q⟩:=h;let⟨u,rfl,t,rfl⟩:=gX r;∎;exact PySem.P.str_of_int d ⟨.str _,H,I.tok _,⟨_,rfl⟩,q⟩
def CL(K:ao)(x:V)(H:Hp)(n:Nat):Prop:=
 match x with
 |.str y=>y.length <= sizeLine /\ n=y.length
 |.fW y=>y.size <= sizeLine /\ n=y.size
 |.ref p=>(∃d,bM K H p d /\ n=d.length) \/ ∃d,cZ K H p d /\ n=d.length
 |_=>False
theorem Kl:a9 X (.builtin "len") (λxs H Q=>∃x n,xs=[x]/\CL X.K x H n/\Q (.int n) H):=by
 intro aa s j H xs us Q I r h;∎;let⟨x,n,rfl,e,q⟩:=h;let⟨u,rfl,m⟩:=gX r;∎;have w:=qm;have z:sizeLine=16777216:=sizeLine_eq;cases x with
 |str y=>
  let⟨t,rfl⟩:=m;obtain⟨o,f⟩:y.length<=sizeLine/\n=y.length:=e;subst f;exact len_str ⋯ ⟨.int _,H,I.tok _,⟨_,rfl⟩,q⟩
 |fW y=>
  let⟨t,rfl⟩:=m;obtain⟨o,f⟩:y.size<=sizeLine/\n=y.size:=e;subst f;exact W.len_bytes ⋯ ⟨.int _,H,I.tok _,⟨_,rfl⟩,q⟩
 |ref p=>
  cases m;have f:(∃xs,bM X.K H p xs/\n=xs.length)\/∃xs,cZ X.K H p xs/\n=xs.length:=e;rcases f with⟨xs,g,f⟩ |⟨xs,g,f⟩
  .subst f;let⟨i,l,k,v⟩:=I.list g;have d:=l.length;exact Calls.call_len_list k.isList (by simp only[size_toArray];omega) ⟨.int xs.length,H,I.tok _,⟨_,by simp only[size_toArray];rw[d]⟩,q⟩
  .subst f;let⟨i,l,k,v⟩:=I.tuple g;have d:=l.length;exact len_tuple k (by simp only[size_toArray];omega) ⟨.int xs.length,H,I.tok _,⟨_,by simp only[size_toArray];rw[d]⟩,q⟩
 |_=>exact (show False from e).elim
end
structure fQ(h:aP)(x dx C:ah)(mA:bA):Prop where
 obj:h.get? x=some (W.instObj C dx)
 ns:h.Ns1 dx mA
 ne:dx≠x
theorem OP{h:aP}{c:ah}{f:bA}(n:h.Ns1 c f):∃od,h.get? c=some od/\∀name,W.lookIn name od=some (f name):=by
 let⟨o,d,l,j,hd,i,_,hm⟩:=n;refine⟨o,j,λname=>?_⟩;have e:=hm name;unfold nsFind findBy at e;rw[<- Array.find?_toList] at e;unfold W.lookIn;rw[hd];dsimp only;split
 .rename_i y q;rw[q] at e;exact congrArg some e
 .rename_i q;rw[q] at e;have a:d.toList.any (·.refKey)=false:=by
   rw[List.any_eq_false];intro y k;let⟨z,t,b⟩:=i y (Array.mem_toList_iff.mp k);simp[DictEntry.refKey,b]
  have g:¬ d.toList.any (·.refKey)=true:=by rw[a];exact Bool.false_ne_true
  rw[if_neg g];exact congrArg some e
theorem fQ.look{a:bA}(I:fQ h x dx C a):∃od,W.InstAt h x (W.instObj C dx) C (some od)/\∀name,W.lookIn name od=some (a name):=
 let ⟨od,ho,hl⟩:=OP I.ns
 ⟨od,⟨I.obj,rfl,rfl,ho⟩,hl⟩
section
variable{prog:Program}{w:World}{A:Around}{E:ag->aj->Prop}{s:aj}{K:ao}{x dx C f:ah}{mA:bA}{name:Str}{v:ag}
theorem FW{Q:ag->aj->Prop}(X:K.In s.heap)(I:fQ s.heap x dx C mA)(b:W.plainGet K C name=true)(c:W.hasDictIn K C=true)(ha:W.findIn K (.ref C) name=some none)(e:mA name=some v)(a:W.handedIn v=true)(h:Q v { s with toks:=s.toks+1 }):
  wpAny (model prog w) A (getAttr (.ref x) name expr) Q E s:=by
 let⟨od,J,d⟩:=I.look;exact W.get_value X J (W.plainGet_of b).1 (W.findObj_own c ha rfl (by rw[d,e])) a h
theorem E6{Q:ag×aJ->aj->Prop}(X:K.In s.heap)(I:fQ s.heap x dx C mA)(a:W.plainGet K C name=true)(b:W.findIn K (.ref C) name=some (some (.ref f)))(ht:W.isFn K (.ref f)=true)(d:mA name=none)(h:Q (.ref f,[.ref x]) s):
  wpAny (model prog w) A (getMethod (.ref x) name pl) Q E s:=by
 let⟨od,J,c⟩:=I.look;exact W.method_fn X J (W.plainGet_of a).1 (W.plainGet_of a).2 b (beq_iff_eq.mp ht) (by show (W.lookIn name od).map (·.isSome)=some false;rw[c,d];rfl) h
theorem T3{Q:Unit->aj->Prop}(X:K.In s.heap)(I:fQ s.heap x dx C mA)(hs:W.findIn K (.ref C) "__setattr__"=some (some (.builtin "object.__setattr__")))(o:W.plainOver K C=true)(ht:W.takerIn K C name=some none)(n:W.hasDictIn K C=true)(p:PySem.Within mA ns)(hsz:ns.length<=sizeLine)(h:∀h',fQ h' x dx C (λy=>if y=name then some v else mA y)->Heap.SameBut dx s.heap h'->Q () { s with heap:=h',toks:=s.toks+2 }):
  wpAny (model prog w) A (setAttr (.ref x) name v) Q E s:=by
 let⟨od,J,z⟩:=I.look;refine W.set_plain X J hs (W.osa_open (s:={ s with toks:=s.toks+1 }) (r:=none) X J o ht λb=>?_);let⟨u,m,g⟩:=W.any_some n;have q:s.heap.get? x=some ⟨.ref C,some dx,.plain,#[]⟩:=I.obj;refine wpAny_bind (wpAny_pure (wpAny_bind (wpAny_bind (wpAny_loadPart q (wpAny_bind (W.Looks.here (s:={ s with toks:=s.toks+1 }) (W.looks_clsIn X m) ?_))))));rw[g];refine wpAny_pure (a:=some dx) (wpAny_bind (wpAny_pure (wpAny_bind ?_)));refine wpAny_nsSet1 (s:={ s with toks:=s.toks+1 }) I.ns λh' c d=>?_
 let⟨B,l,k,j,i,e⟩:=c.count (PySem.Within.cons name v p);refine wpAny_bind (wpAny_lookBehind j (by rw[i];exact pastItsLine_dict (le_trans e (by rw[length_cons];omega))) ?_);exact wpAny_pure (h _ ⟨(d.2 _ (Ne.symm I.ne)).trans I.obj,c,I.ne⟩ d)
theorem Rv(X:K.In s.heap)(hm:W.makesIn K C=true)(b:W.findIn K (.ref C) "__init__"=some (some (.ref f)))(a:W.typeIn K (.ref f)=some (.type "function"))(h:codeAny (model prog w) (A.under (.builtin "type.__call__" ⟨.ref C::vs,kw⟩)) (.call (.ref f) ⟨.ref (⇑s+1)::vs,kw⟩) (W.InitBack (⇑s+1) R)
   { s with heap:=(s.heap.push W.emptyDict).push (W.instObj C ⇑s) }):
  codeAny (model prog w) A (.call (.ref C) ⟨vs,kw⟩) R s:=by
 let⟨c,g,d,t,os⟩:=s;exact W.make_core (W.makes_of X hm) (W.looks_findIn X b) (λself=>W.bind_fn X self a) (.inl rfl) h
end
def eL(f:Str)(v:V):List (Str×V)->List (Str×V)
 |[]=>[(f,v)]
 |(g,x)::r=>if g=f then (g,v)::r else (g,x)::eL f v r
theorem DJ(f g:Str)(v:V):∀fs:List (Str×V),(eL f v fs).lookup g=if g=f then some v else fs.lookup g
 |[]=>by
  show List.lookup g [(f,v)]=_;by_cases h:g=f
  .have hb:(g == f)=true:=beq_iff_eq.mpr h;simp only[List.lookup,hb,if_pos h]
  .have hb:(g == f)=false:=beq_eq_false_iff_ne.mpr h;simp only[List.lookup,hb,if_neg h]
 |(k,x)::r=>by
  have b:=DJ f g v r;rw[show eL f v ((k,x)::r)=(if k=f then (k,v)::r else (k,x)::eL f v r) from rfl];by_cases a:k=f
  .rw[if_pos a];by_cases h:g=k
   .have hb:(g == k)=true:=beq_iff_eq.mpr h;simp only[List.lookup,hb,if_pos (h.trans a)]
   .have hb:(g == k)=false:=beq_eq_false_iff_ne.mpr h;simp only[List.lookup,hb,if_neg (λe:g=f=>h (e.trans a.symm))]
  .rw[if_neg a];by_cases h:g=k
   .have hb:(g == k)=true:=beq_iff_eq.mpr h;simp only[List.lookup,hb,if_neg (λe:g=f=>a (h.symm.trans e))]
   .have hb:(g == k)=false:=beq_eq_false_iff_ne.mpr h;simp only[List.lookup,hb];exact b
theorem xq(f:Str)(v:V):∀fs:List (Str×V),f∈(eL f v fs).map (·.1)/\∀g,g∈fs.map (·.1)->g∈(eL f v fs).map (·.1)
 |[]=>⟨by simp[eL],λg h=>by simp at h⟩
 |(k,x)::r=>by
  let⟨b,c⟩:=xq f v r;rw[show eL f v ((k,x)::r)=(if k=f then (k,v)::r else (k,x)::eL f v r) from rfl];by_cases a:k=f
  .rw[if_pos a];subst a;exact⟨by simp,λg h=>by simpa using h⟩
  .rw[if_neg a];refine⟨?_,λg h=>?_⟩
   .rw[map_cons];exact mem_cons_of_mem _ b
   .rw[map_cons] at h ⊢;rcases mem_cons.mp h with e |e
    .exact mem_cons.mpr (.inl e)
    .exact mem_cons_of_mem _ (c g e)
theorem DK(f:Str)(v:V):∀fs:List (Str×V),(eL f v fs).length<=fs.length+1
 |[]=>by simp[eL]
 |(k,x)::r=>by
  have b:=DK f v r;rw[show eL f v ((k,x)::r)=(if k=f then (k,v)::r else (k,x)::eL f v r) from rfl];by_cases a:k=f
  .rw[if_pos a,length_cons,length_cons];omega
  .rw[if_neg a,length_cons,length_cons];omega
theorem cE.some_of(r:cE (some v) o):∃u,o=some u/\aK v u:=by
 cases o with
 |none=>exact (show False from r).elim
 |some u=>exact⟨u,rfl,r⟩
theorem cE.none_of(r:cE none o):o=none:=by
 cases o with
 |none=>rfl
 |some u=>exact (show False from r).elim
theorem EB(r:aK v u):W.handedIn u=true:=by
 cases v with
 |aX=>cases (show u=Value.none from r);rfl
 |bl b=>cases (show u=Value.bool b from r);rfl
 |int i=>let⟨t,e⟩:=(show ∃t,u=Value.int i t from r);cases e;rfl
 |str x=>let⟨t,e⟩:=(show ∃t,u=Value.str x t from r);cases e;rfl
 |fW b=>let⟨t,e⟩:=(show ∃t,u=Value.bytes b t from r);cases e;rfl
 |jK b=>let⟨t,e⟩:=(show ∃t,u=Value.float b t from r);cases e;rfl
 |ref a=>cases (show u=Value.ref a from r);rfl
 |ty n=>cases (show u=Value.type n from r);rfl
section
variable{P:Program}{w:World}{H H':Hp}{h h':aP}{a C dx:ah}{fs fs':List (Str×V)}
theorem yg(aV:cL P w H h)(e:H a=some (.ins C dx fs)):∃b,fQ h a dx C b/\(∀f,cE (fs.lookup f) (b f))/\PySem.Within b (fs.map (·.1))/\fs.length<=1000/\H dx=some (.own a):=by
 let⟨d,z,ne,c,b,n,r,q⟩:=(show bg P w H h a (.ins C dx fs) from aV a _ e);exact⟨b,⟨c,n,ne⟩,r,q,z,d⟩
end
structure dF(K:ao)(C:ah):Prop where
 pg:W.plainGet K C Str.empty=true
 hd:W.hasDictIn K C=true
 po:W.plainOver K C=true
 sa:W.findIn K (.ref C) "__setattr__"=some (some (.builtin "object.__setattr__"))
theorem dF.get{K:ao}{C:ah}(c:dF K C)(f:Str):W.plainGet K C f=true:=c.pg
def aD(K:ao)(C:ah)(f:Str):Prop:=W.findIn K (.ref C) f=some none
theorem aD.ra{K:ao}{C:ah}{f:Str}(n:aD K C f):W.takerIn K C f=some none:=by
 unfold W.takerIn;rw[show W.findIn K (.ref C) f=some none from n];rfl
structure jX(K:ao)(C:ah)(m:Str)(f:ah):Prop where
 at_:W.findIn K (.ref C) m=some (some (.ref f))
 fn:W.isFn K (.ref f)=true
 kp:W.keepIn K (.ref f)=true
section
variable{X:Cx}{aa:aT}{σ:St}{H:Hp}{s:aj}{a C dx:ah}{fs:List (Str×V)}{f:Str}{v:V}{A:Around}{E:ag->aj->Prop}
theorem Oi{Q:ag->aj->Prop}(I:aw X aa σ H s)(e:H a=some (.ins C dx fs))(c:dF X.K C)(n:aD X.K C f)(l:fs.lookup f=some v)(h:∀u s',aw X aa σ H s'->aK v u->Q u s'):wpAny (model X.prog X.w) A (getAttr (.ref a) f b) Q E s:=by
 ∎;let⟨i,O,r,_,_,_⟩:=yg I.aV e;let⟨u,g,d⟩:=cE.some_of (v:=v) (o:=i f) (by rw[<- l];exact r f);∎;exact FW I.cy O (c.get f) c.hd n g (EB d) (h u _ (I.tok _) d)
theorem D4{Q:Unit->aj->Prop}(I:aw X aa σ H s)(e:H a=some (.ins C dx fs))(c:dF X.K C)(n:aD X.K C f)(G:fs.length<1000)(D:aK y u)(h:∀s',aw X aa σ (a6 H a (.ins C dx (eL f y fs))) s'->Q () s'):wpAny (model X.prog X.w) A (setAttr (.ref a) f u) Q E s:=by
 let⟨j,O,r,k,_,i⟩:=yg I.aV e;have B:(fs.map (·.1)).length<=sizeLine:=by rw[length_map,sizeLine_eq];omega
 refine T3 I.cy O c.sa c.po n.ra c.hd k B λl d sb=>h _ ?_
 have hd:∃o,l.get? dx=some o:=let ⟨o,_,_,e',_⟩:=d.ns;⟨o,e'⟩
 refine I.write (x:=a) (e:=dx) (by rw[e];exact True.intro) (.inr i) (λb q m z=>(sb.2 b m).trans z) hd ?_;refine⟨by rw[bR O.ne];exact i,?_,O.ne,d.obj,_,d.ns,λg=>?_,λg p=>?_⟩
 .have:=DK f y fs;omega
 .show cE ((eL f y fs).lookup g) (if g=f then some u else j g);rw[DJ];by_cases q:g=f
  .rw[if_pos q,if_pos q];exact D
  .rw[if_neg q,if_neg q];exact r g
 .by_cases q:g=f
  .rw[q];exact (xq f y fs).1
  .refine (xq f y fs).2 g (k g λz=>p ?_);show (if g=f then some u else j g)=none;rw[if_neg q];exact z
theorem aw.made(I:aw X aa σ H s):aw X aa σ (a6 (a6 H ⇑s (.own (⇑s+1))) (⇑s+1) (.ins C ⇑s []))
  { s with heap:=(s.heap.push W.emptyDict).push (W.instObj C ⇑s) }:=by
 have c:(s.heap.push W.emptyDict).get? ⇑s=some W.emptyDict:=Heap.get?_push_size s.heap rfl;have g:((s.heap.push W.emptyDict).push (W.instObj C ⇑s)).get? (⇑s+1)=some (W.instObj C ⇑s):=by
  have:=Heap.get?_push_size (s.heap.push W.emptyDict) (o:=W.instObj C ⇑s) rfl;rwa[Heap.size_push] at this
 have h:(s.heap.push W.emptyDict).Ns ⇑s (λ_=>none):=⟨W.emptyDict,#[],_,c,rfl,(λe i=>absurd i (by simp)),λ_=>rfl⟩
 have d:=I.laid (a:=⇑s) (o:=.own (⇑s+1)) (h':=s.heap.push W.emptyDict) (t':=s.toks) (λb u q=>Heap.get?_push_of_some _ q) (le_refl _) ⟨_,c⟩;refine d.laid (a:=⇑s+1) (o:=.ins C ⇑s []) (t':=s.toks) (λb u q=>Heap.get?_push_of_some _ q) (Nat.le_of_eq (Heap.size_push _ _)) ?_;have ne:⇑s≠⇑s+1:=ne_of_lt (lt_succ_self _);refine⟨by rw[bR ne,e7],zero_le _,ne,g,λ_=>none,(Heap.Ns1.of_empty h).at λo q=>Heap.get?_push_of_some _ q,λ_=>True.intro,λy j=>absurd rfl j⟩
theorem T4(c:attributeBase e f env (eval e env)=eval e env)(h:wpAny (model prog w) A (eval e env) (λo b=>wpAny (model prog w) A (getAttr o f true) Q E b) E s):wpAny (model prog w) A (eval (.Attribute e f pos) env) Q E s:=
 Attribute_any_ h (by rw[arm_eval_Attribute,c])
end
def CM(K:ao)(e g:TE)(f:Str):TS:=λD j H=>g j H λy d=>e j d λx b=>∃a C c fs,x=.ref a/\b a=some (.ins C c fs)/\dF K C/\aD K C f/\fs.length<1000/\
 D.nx j (a6 b a (.ins C c (eL f y fs)))
def CN(X:Cx)(op:Operator)(rd:V->V->Hp->VK->Prop):Prop:=
 ∀(aa:aT)(s:aj)(j:St)(H:Hp)(x y:V)(u v:ag)(Q:VK),aw X aa j H s->aK x u->aK y v->rd x y H Q->wpAny (model X.prog X.w) X.A (inplaceOp op u v) (EP X aa j Q) X.xe s
def BC(K:ao)(i k:TE)(rd:V->V->Hp->VK->Prop)(f:Str):TS:=λD j H=>i j H λx d=>∃a C h fs v,x=.ref a/\d a=some (.ins C h fs)/\dF K C/\aD K C f/\fs.lookup f=some v/\
 k j d λy g=>rd v y g λz e=>∃c b,e a=some (.ins C c b)/\b.length<1000/\D.nx j (a6 e a (.ins C c (eL f z b)))
section
variable{X:Cx}{o e value:Expr}{f:Str}{pos pos' tpos:Pos}{ta tv:TE}
theorem Ws(ha:PE X o ta)(r:PE X value tv)(hs:swapsWith value (some (.Attribute o f pos')) pos.line X.env=pure false):PS X (.Assign [.Attribute o f pos'] value pos) (CM X.K ta tv f):=by
 intro aa s j H D I h;refine plainObj_wpAny_Assign_Attribute (bo (r aa s j H _ I h) λu B b=>?_) hs;let⟨y,g,i,A,q⟩:=b;refine bo (ha aa B j g _ i q) λv J d=>?_
 let⟨x,E,k,z,a,C,G,fs,ex,p,c,n,l,w⟩:=d;subst ex;obtain rfl:v=Value.ref a:=z;exact D4 k p c n l A λL m=>⟨j,_,m,w⟩
theorem OQ(ha:PE X o ta)(L:PE X value tv)(g:CN X op rd):PS X (.AugAssign (.Attribute o f tpos) op value pos) (BC X.K ta tv rd f):=by
 intro aa s j H D I h;refine wpAny_AugAssign_AttributeAny (bo (ha aa s j H _ I h) λN s1 b=>?_);let⟨x,k,p,Y,a,C,dx,fs,v,ex,G,c,n,l,q⟩:=b;subst ex;obtain rfl:N=Value.ref a:=Y;refine Oi p G c n l λu s2 r U=>bo (L aa s2 j k _ r q) λw3 s3 b=>?_
 let⟨y,m,w,ry,O⟩:=b;refine bo (g aa s3 j m v y u w3 _ w U ry O) λw4 s4 i=>?_
 let⟨z,H3,A,rz,E,J,d,M,Q⟩:=i;exact D4 A d c n M rz λs5 B=>⟨j,_,B,Q⟩
def CO:V->V->Hp->VK->Prop:=λx y H Q=>∃i j,x=.int i/\y=.int j/\Q (.int (i+j)) H
theorem Wu:CN X .Add CO:=by
 rintro aa s G H x y u v Q I b c ⟨i,j,rfl,rfl,q⟩;let⟨t,rfl⟩:=(show ∃t,u=Value.int i t from b);let⟨a,rfl⟩:=(show ∃a,v=Value.int j a from c);exact PyProof.Rows.iadd_int ⟨.int (i+j),H,I.tok _,⟨_,rfl⟩,q⟩
end
section
variable{X:Cx}{aa:aT}{σ:St}{H:Hp}{s:aj}{A:Around}{E:ag->aj->Prop}{Q:ag->aj->Prop}{c:ag}{b:Bool}
inductive dP (K:W.Frag) (H:Hp):V->Value->Prop where
 |aX:dP K H .aX (.type "NoneType")
 |bl (x:Bool):dP K H (.bl x) (.type "bool")
 |int (i:Int):dP K H (.int i) (.type "int")
 |str (x:Str):dP K H (.str x) (.type "str")
 |jK (x:UInt64):dP K H (.jK x) (.type "float")
 |ak {a:Addr} {xs:List V} (e:H a=some (.ak xs)):dP K H (.ref a) (.type "list")
 |aU {a:Addr} {o:Obj} {xs:List V} (e:H a=some (.aU o (.ak xs))):dP K H (.ref a) (.type "list")
 |aY {a:Addr} {xs:List V} (e:H a=some (.aY xs)):dP K H (.ref a) (.type "tuple")
 |dK {a:Addr} {kvs:List (bD × V)} (e:H a=some (.dK kvs)):dP K H (.ref a) (.type "dict")
 |dT {a:Addr} {kvs:List (List bD × V)} (e:H a=some (.dT kvs)):dP K H (.ref a) (.type "dict")
 |ins {a C dx:Addr} {fs:List (Str × V)} (e:H a=some (.ins C dx fs)) (cl:dF K C) (ha:W.findIn K (.ref C) "__class__" = some (some (.builtin "object.__class__")))
   (hn:W.specialIn K (.builtin "object.__class__") "__get__"=some (some (.builtin "getset_descriptor.__get__"))) (uq:W.takesIn K (.builtin "object.__class__")=some true)
   (hm:W.mroIn K C (.type "object")=some true):dP K H (.ref a) (.ref C)
theorem OR(I:aw X aa σ H s)(f:aK x u)(ty:dP X.K H x t)(e:W.kitOne X.K t c=some b)(h:∀tk,Q (.bool b) { s with toks:=tk }):
  wpAny (model X.prog X.w) A (call (.builtin "isinstance") [u,c]) Q E s:=by
 cases ty with
 |aX=>cases (show u=Value.none from f);exact W.kia_one W.kitx_none I.cy True.intro e (λz=>nomatch z) h
 |bl y=>cases (show u=Value.bool y from f);exact W.kia_one W.kitx_bool I.cy True.intro e (λz=>nomatch z) h
 |int i=>let⟨t,q⟩:=(show ∃t,u=Value.int i t from f);cases q;exact W.kia_one W.kitx_int I.cy True.intro e (λz=>nomatch z) h
 |str y=>let⟨t,q⟩:=(show ∃t,u=Value.str y t from f);cases q;exact W.kia_one W.kitx_str I.cy True.intro e (λz=>nomatch z) h
 |jK y=>let⟨t,q⟩:=(show ∃t,u=Value.float y t from f);cases q;exact W.kia_one W.kitx_float I.cy True.intro e (λz=>nomatch z) h
 |@ak a k d=>
  cases (show u=Value.ref a from f);let⟨_,_,n,_,g⟩:=(show bg X.prog X.w H s.heap a (.ak k) from I.aV a _ d);exact W.kia_one W.kitx_list I.cy ⟨_,g,rfl⟩ e (λz=>nomatch z) h
 |@aU a v k d=>
  cases (show u=Value.ref a from f);let⟨_,_,_,n,_,g⟩:=(show bg X.prog X.w H s.heap a (.aU v (.ak k)) from I.aV a _ d);exact W.kia_one W.kitx_list I.cy ⟨_,g,rfl⟩ e (λz=>nomatch z) h
 |@aY a k d=>
  cases (show u=Value.ref a from f);∎;let⟨_,_,_,p⟩:=(show bg X.prog X.w H s.heap a (.aY k) from I.aV a _ d);let⟨o,g,l,_⟩:=p;∎;exact W.kia_one W.kitx_tuple I.cy ⟨o,g,l⟩ e (λz=>nomatch z) h
 |@dK a j d=>
  cases (show u=Value.ref a from f);∎;let⟨_,_,vs,_,p⟩:=(show bg X.prog X.w H s.heap a (.dK j) from I.aV a _ d);let⟨o,r,m,g,l,_⟩:=p;∎;exact W.kia_one W.kitx_dict I.cy ⟨o,g,l.1⟩ e (λz=>nomatch z) h
 |@dT a j d=>
  cases (show u=Value.ref a from f);let⟨_,_,k,_,o,r,m,g,l,_⟩:=(show bg X.prog X.w H s.heap a (.dT j) from I.aV a _ d);exact W.kia_one W.kitx_dict I.cy ⟨o,g,l.1⟩ e (λz=>nomatch z) h
 |@ins a C B fs d cl ha hn uq hm=>
  cases (show u=Value.ref a from f);∎;let⟨D,O,_⟩:=yg I.aV d;let⟨od,J,_⟩:=O.look;∎;exact W.kia_one (W.kitx_own (cl.get _) cl.hd ha hn uq hm) I.cy J e (λz=>nomatch z) h
end
structure bj(k:Nat)(A:Around):Prop where
 hd:A.handled=none
 dp:A.depth+3*k+5<recursionLimit
 un:A.units+16*k+200<cLine
theorem bj.mono(r:bj k A)(h:j<=k):bj j A:=⟨r.hd,by have:=r.dp;omega,by have:=r.un;omega⟩
theorem bj.deeper(r:bj (k+1) A)(env:Env):bj k (A.deeper env):=
 ⟨r.hd,by have:=r.dp;show A.depth+1+3*k+5<_;omega,by have:=r.un;show A.units+3+16*k+200<_;omega⟩
theorem Oj{A:Around}{C:ah}{us:aJ}{kw:List (Str×ag)}:(A.under (.builtin "type.__call__" ⟨.ref C::us,kw⟩)).depth=A.depth+1:=by
 first |rfl |simp[Around.under,Code.weight,Code.isCreation,Code.isGuard,Code.isCaller,Code.frames,Code.isFrame,guardIds]
theorem Ol{A:Around}{C:ah}{us:aJ}{kw:List (Str×ag)}:(A.under (.builtin "type.__call__" ⟨.ref C::us,kw⟩)).units=A.units+1:=by
 first |rfl |simp[Around.under,Code.cUnits,Code.frames,Code.isFrame]
theorem bj.make(r:bj (k+1) A)(C:ah)(us:aJ)(kw:List (Str×ag)):bj k (A.under (.builtin "type.__call__" ⟨.ref C::us,kw⟩)):=
 ⟨r.hd,by have:=r.dp;rw[Oj];omega,by have:=r.un;rw[Ol];omega⟩
theorem bj.depth(r:bj k A):A.depth<recursionLimit:=by have:=r.dp;omega
theorem bj.units(r:bj k A):A.units+64<cLine:=by have:=r.un;omega
def ic:TA:=λ_ H Q=>Q [] H
def ib(c:TE)(tr:TA):TA:=λj H Q=>c j H λx a=>tr j a λd b=>Q (x::d) b
section
variable{X:Cx}{e:Expr}{es:bS}{te:TE}{t:TA}{pos:Pos}
theorem iS:PA X [] ic:=λ_ _ _ _ H Q I h=>Calls.spliced_nil ⟨[],H,I,.nil,h⟩
theorem iD(ha:PE X e te)(i:PA X es t)(hs:do dN e es X.env):PA X (e::es) (ib te t):=by
 intro pos aa s j H Q I h;rw[hs];show wpAny _ _ (spliced ((false,eval e X.env)::backTo pos (starEach es X.env))) _ _ s;refine Calls.spliced_cons (bo (ha aa s j H _ I h) λu m a=>?_);let⟨x,c,f,r1,k⟩:=a;exact bo (i pos aa m j c _ f k) λus o b=>by let⟨n,d,g,r2,l⟩:=b;exact⟨x::n,d,g,.cons r1 r2,l⟩
def CP(t:TA):TE:=λj H Q=>t j H λb a=>b.length<=sizeLine/\∀p,a p=none->Q (.ref p) (a6 a p (.aY b))
def CQ(t:TA):TE:=λj H Q=>t j H λb a=>b.length<=sizeLine/\∀p,a p=none->Q (.ref p) (a6 a p (.ak b))
theorem Wv{x1}(h:PA X es t):PE X (.Tuple es x1 pos) (CP t):=by
 intro aa s j H Q I i;refine wpAny_Tuple_spliced (bo (h pos aa s j H _ I i) λus a c=>?_);let⟨k,d,f,r,z,q⟩:=c;refine⟨by rw[<- r.length];exact z,?_⟩;have g:d ⇑a=none:=f.aV.fresh (le_refl _);refine⟨.ref ⇑a,a6 d ⇑a (.aY k),f.laid (t':=a.toks) (λb u e=>Heap.get?_push_of_some _ e) (le_refl _) ?_,rfl,q _ g⟩;exact⟨z,us,r,⟨_,Heap.get?_push_size _ rfl,rfl,_,rfl⟩⟩
theorem Ww(h:PA X es t):PE X (.List es pos) (CQ t):=by
 intro aa s j H Q I i;refine wpAny_List_spliced (bo (h pos aa s j H _ I i) λus a c=>?_);let⟨k,d,f,r,z,q⟩:=c;refine⟨by rw[<- r.length];exact z,?_⟩;have g:d ⇑a=none:=f.aV.fresh (le_refl _);refine⟨.ref ⇑a,a6 d ⇑a (.ak k),f.laid (t':=a.toks) (λb u e=>Heap.get?_push_of_some _ e) (le_refl _) ?_,rfl,q _ g⟩;exact⟨z,us,0,r,Heap.get?_push_size _ rfl⟩
end
abbrev Sp:=ax->Hp->VK->XK->Prop
abbrev fj:=b5->Hp->aj->XK->ag->aj->Prop
structure gw(P:Program)(w:World)(K:ao)(mg:bA)(base:aP)(A:Around)(outer:b5)(s:aj)(H:Hp):Prop where
 frames:A.frames=some outer
 mod:Mod K mg base
 bs:∀b o,base.get? b=some o->s.heap.get? b=some o/\H b=none
 iE:base.objs.size<=⇑s
 dA:s.heap.FunFrames base outer
 jL:∀b∈dU outer,H b=none
 aV:cL P w H s.heap
 bare:AllBare s.gens
def CE(outer:b5)(P:Program)(w:World)(H:Hp)(s:aj)(Q:VK)(u:ag)(s':aj):Prop:=
 ∃v a,s'.os=s.os/\AllBare s'.gens/\Un (dU outer) [] H a s.heap s'.heap/\cL P w a s'.heap/\aK v u/\Q v a
def CR(CX:fj)(outer:b5)(P:Program)(w:World)(H:Hp)(s:aj)(Q:VK)(E:XK)(r:Result)(s':aj):Prop:=
 match r with
 |.ok (.ret u)=>CE outer P w H s Q u s'
 |.ok _=>False
 |.error e=>CX outer H s E e s'
structure aB(P:Program)(w:World)(K:ao)(mg:bA)(base:aP)(CX:fj)(k:Nat)(f:ah)(fd:FuncData)(ps:ae)(sp:Sp):Prop where
 len:∀vs H Q E,sp vs H Q E->vs.length=ps.length
 run:∀(A:Around)(outer:b5)(s:aj)(H:Hp)(args:Args)(us:aJ)(vs:ax)(Q:VK)(E:XK),bj k A->gw P w K mg base A outer s H->BindsTo s fd args (ps.zip us)->aF vs us->sp vs H Q E->
  codeAny (model P w) A (.call (.ref f) args) (CR CX outer P w H s Q E) s
theorem aB.mono{P:Program}{w:World}{K:ao}{mg:bA}{base:aP}{CX:fj}{j k:Nat}{f:ah}{a:FuncData}{ps:ae}{sp:Sp}(F:aB P w K mg base CX j f a ps sp)(h:j<=k):
  aB P w K mg base CX k f a ps sp:=⟨F.len,λA outer s H args us vs Q E b=>F.run A outer s H args us vs Q E (b.mono h)⟩
theorem aB.imp{P:Program}{w:World}{K:ao}{mg:bA}{base:aP}{CX:fj}{k:Nat}{f:ah}{b:FuncData}{ps:ae}{sp a:Sp}(F:aB P w K mg base CX k f b ps sp)(h:∀vs H Q E,a vs H Q E->sp vs H Q E):aB P w K mg base CX k f b ps a:=
 ⟨λvs H Q E q=>F.len vs H Q E (h _ _ _ _ q),λA outer s H args us vs Q E e d c i g=>F.run A outer s H args us vs Q E e d c i (h _ _ _ _ g)⟩
theorem gw.make{P:Program}{w:World}{K:ao}{mg:bA}{base:aP}{A:Around}{outer:b5}{s:aj}{H:Hp}(e:gw P w K mg base A outer s H)(C:ah)(us:aJ)(kw:List (Str×ag)):
  gw P w K mg base (A.under (.builtin "type.__call__" ⟨.ref C::us,kw⟩)) outer s H:=⟨by first |exact e.frames |(simpa [Around.under,Code.envs,Code.isFrame,pushEnvs] using e.frames),e.mod,e.bs,e.iE,e.dA,e.jL,e.aV,e.bare⟩
section
variable{X:Cx}{aa:aT}{σ:St}{H:Hp}{s s':aj}
theorem aw.mJ(I:aw X aa σ H s):gw X.prog X.w X.K X.mg X.base X.A X.stack s H:=
 ⟨I.ok.frames,I.ok.mod,I.bs,le_trans I.ok.iE I.sz,I.stack,I.fF,I.aV,I.bare⟩
theorem aw.after(I:aw X aa σ H s)(h:CE X.stack X.prog X.w H s Q u s'):EP X aa σ Q u s':=by
 ∎;let⟨v,c,os,bare,un,aV,r,q⟩:=h;let⟨e,g,d,t,a⟩:=s';∎;obtain rfl:a=s.os:=os;exact⟨v,c,I.call (h':=e) (g':=g) (d':=d) (t':=t) (ch:=[]) un aV bare (λb z=>absurd z (by simp)),r,q⟩
end
def B6(sp:Sp)(a:ax)(E:XK)(t:TA):TE:=λj H Q=>t j H λvs b=>sp (vs++a) b Q E
def Binds(K:ao)(b:FuncData)(ps:ae)(a:aJ):Prop:=
 ∀(s:aj)(us:aJ),K.In s.heap->(us++a).length=ps.length->BindsTo s b ⟨us,[]⟩ (ps.zip (us++a))
theorem Binds.all{K:ao}{a:FuncData}{ps:ae}(h:∀us:aJ,us.length=ps.length->bindArgs a ⟨us,[]⟩=pure (ps.zip us)):Binds K a ps []:=λs us _ b=>by
 rw[append_nil] at b ⊢;exact .of_eq (h us b)
def lV(CX:fj)(X:Cx)(E:XK):Prop:=∀(aa:aT)(j:St)(H:Hp)(s:aj)(e:ag)(a:aj),aw X aa j H s->CX X.stack H s E e a->X.xe e a
section
variable{X:Cx}{CX:fj}{k:Nat}{f C:ah}{fd:FuncData}{ps:ae}{sp:Sp}{dvs:ax}{ds:aJ}{E:XK}{x m:Str}{p pos apos:Pos}{e o:Expr}{es:bS}{ta:TE}{t:TA}
theorem Wy(F:aB X.prog X.w X.K X.mg X.base CX k f fd ps sp)(g:bj k X.A)(c:Binds X.K fd ps ds)(hd:aF dvs ds)(i:lV CX X E)(I:aw X aa j H s)(r:aF vs us)(h:sp (vs++dvs) H Q E):wpAny (model X.prog X.w) X.A (call (.ref f) us) (EP X aa j Q) X.xe s:=by
 have r2:aF (vs++dvs) (us++ds):=r.append hd;have d:(us++ds).length=ps.length:=by rw[<- r2.length];exact F.len _ _ _ _ h
 refine wpAny_call (codeAny_mono (F.run X.A X.stack s H ⟨us,[]⟩ (us++ds) (vs++dvs) Q E g I.mJ (c s us I.cy d) r2 h) λr l a=>?_);cases r with
 |error e=>exact i aa j H s e l I a
 |ok b=>
  cases b with
  |ret u=>exact I.after a
  |next=>exact False.elim a
  |brk=>exact False.elim a
  |cont=>exact False.elim a
theorem T5(F:aB X.prog X.w X.K X.mg X.base CX k f fd ps sp)(n:bj k X.A)(i:Gl X x)(hm:X.mg x=some (.ref f))(l:W.keepIn X.K (.ref f)=true)(g:Binds X.K fd ps ds)(hd:aF dvs ds)(u:lV CX X E)(ha:PA X (e::es) t)(a: ~~~(cD x))(he:do dN e es X.env)(b:do eX pos es X.env):
  PE X (.Call (.Name x p) (e::es) [] pos) (B6 sp dvs E t):=by
 intro aa s j H Q I h;refine wpAny_Call_Name_kw (k4 I i hm ?_ a);refine W.callWith_K (h₀:=X.base) I.ok.mod.mO l (bo (ha pos aa s j H _ I h) λus y c=>?_) he b;let⟨vs,v,d,r,q⟩:=c;refine⟨d.cy,?_⟩;exact Wy F n g hd u d r q
structure Mk(K:ao)(C f:ah):Prop where
 makes:W.makesIn K C=true
 init:W.findIn K (.ref C) "__init__"=some (some (.ref f))
 fn:W.isFn K (.ref f)=true
 kp:W.keepIn K (.ref C)=true
end
structure adr(N P:ae)(sc:Scope):Prop where
 kind:sc.kind=.function
 co:sc.isCoroutine=false
 gen:sc.isGenerator=false
 nd:N.Nodup
 pre:N.take P.length=P
 par:∀x∈P,sc.names.lookup x=some .local\/sc.names.lookup x=some .cell
 mR:∀y∈sc.names,y.2≠.free
theorem EC{kindOf:Str->Option NameKind}{x:Str}:∀{binds:List (Str×ag)}{m:bA},(∀v,(x,v) ∉ binds)->bindL kindOf binds m x=m x
 |[],_,_=>rfl
 |(n,v)::r,m,h=>by
  unfold bindL;rw[EC λw a=>h w (mem_cons_of_mem _ a)];split
  .have:x≠n:=by rintro rfl;exact h v mem_cons_self
   simp[this]
  .rfl
theorem ED{kindOf:Str->Option NameKind}{x:Str}:∀{binds:List (Str×ag)}{m:bA},(∀v,(x,v) ∉ binds)->bindC kindOf binds m x=m x
 |[],_,_=>rfl
 |(n,v)::r,m,h=>by
  unfold bindC;rw[ED λw a=>h w (mem_cons_of_mem _ a)];split
  .rfl
  .have:x≠n:=by rintro rfl;exact h v mem_cons_self
   simp[this]
theorem EE{kindOf:Str->Option NameKind}{v:ag}:∀{P:ae}{vs:aJ}{i:Nat}{m:bA},P.Nodup->P[i]?=some x->vs[i]?=some v->kindOf x=some .local->
  bindL kindOf (P.zip vs) m x=some v
 |[],_,_,_,_,h,_,_=>by simp at h
 |_::_,[],_,_,_,_,h,_=>by simp at h
 |p::P,w::vs,0,m,nd,h1,h2,hk=>by
  simp at h1 h2;subst h1;subst h2;show bindL kindOf ((p,w)::P.zip vs) m p=_;unfold bindL;rw[EC λv a=>(nodup_cons.mp nd).1 (List.of_mem_zip a).1,if_pos hk];simp
 |p::P,w::vs,i + 1,m,nd,h1,h2,hk=>by
  show bindL kindOf ((p,w)::P.zip vs) m x=_;unfold bindL;exact EE (i:=i) (nodup_cons.mp nd).2 (by simpa using h1) (by simpa using h2) hk
theorem EF{kindOf:Str->Option NameKind}{v:ag}:∀{P:ae}{vs:aJ}{i:Nat}{m:bA},P.Nodup->P[i]?=some x->vs[i]?=some v->kindOf x≠some .local->
  bindC kindOf (P.zip vs) m x=some v
 |[],_,_,_,_,h,_,_=>by simp at h
 |_::_,[],_,_,_,_,h,_=>by simp at h
 |p::P,w::vs,0,m,nd,h1,h2,hk=>by
  simp at h1 h2;subst h1;subst h2;show bindC kindOf ((p,w)::P.zip vs) m p=_;unfold bindC;rw[ED λv a=>(nodup_cons.mp nd).1 (List.of_mem_zip a).1,if_neg hk];simp
 |p::P,w::vs,i + 1,m,nd,h1,h2,hk=>by
  show bindC kindOf ((p,w)::P.zip vs) m x=_;unfold bindC;exact EF (i:=i) (nodup_cons.mp nd).2 (by simpa using h1) (by simpa using h2) hk
def start(N:ae)(vs:ax):St:=vs.map some++List.replicate (N.length - vs.length) none
def iB(CX:fj)(P:Program)(w:World)(K:ao)(mg:bA)(base:aP)(N:ae)(b:Str)(a:Scope)(f:ah)(d:ag)(A:Around)(outer:b5)(s:aj)(H:Hp)(E:XK):Cx where
 prog:=P
 w:=w
 K:=K
 mg:=mg
 base:=base
 A:=A.deeper (envOfC b a ⇑s f d)
 N:=N
 s₀:=s
 H₀:=H
 env:=envOfC b a ⇑s f d
 outer:=outer
 stack:=envOfC b a ⇑s f d::outer
 ex:=[]
 calm:=true
 fn:=λ_=>true
 pn:=[]
 xe:=λe h=>wpAny (model P w) (A.deeper (envOfC b a ⇑s f d)) (leaving (envOfC b a ⇑s f d) e) (λ_ c=>CX outer H s E e c) (λg c=>CX outer H s E g c) h
theorem E7{sc:Scope}{n:Nat}{x:Str}(h:sc.names.lookup x=some .cell):∃c,(cellsFrom n sc.names []).lookup x=some c:=by
 have q:=W.cellsFrom_some sc.names n [] (.inl h);exact isSome_iff_exists.mp q
theorem OS{CX:fj}{P:Program}{w:World}{K:ao}{mg:bA}{base:aP}{N ps:ae}{g:Str}{d:Scope}{f:ah}{D:ag}{A:Around}{outer:b5}{s M:aj}{H:Hp}{E:XK}{us:aJ}{vs:ax}(S:adr N ps d)(hd:A.handled=none)(l:gw P w K mg base A outer s H)(Y:vs.length=ps.length)(r:aF vs us)(x:InCallC s ⇑s (bindL (envOfC g d ⇑s f D).kindOf (ps.zip us) λ_=>none) (cellsFrom (⇑s+1) d.names []) (bindC (envOfC g d ⇑s f D).kindOf (ps.zip us) λ_=>none) M):
  aw (iB CX P w K mg base N g d f D A outer s H E) [] (start N vs) H M:=by
 have O:ps.length<=N.length:=by have:=congrArg List.length S.pre;rw[length_take] at this;omega
 let⟨G,tk,rfl,J⟩:=x.done;have o:∀b:Addr,b ∉ (iB CX P w K mg base N g d f D A outer s H E).ex:=λb z=>absurd (show b∈([]:bV) from z) (by simp)
 refine⟨⟨l.mod,S.kind,rfl,rfl,le_refl _,λy z c G j=>?_,λy m=>?_,λy c _ h=>?_,λ_=>hd,Around.frames_deeper l.frames,.inr ⟨rfl,rfl⟩,λb z=>absurd z (o b),l.bs,l.iE,λb _ _=>o b,λb z=>absurd z (o b),l.dA,l.jL⟩,
  rfl,l.bare,Un.kept J,⟨_,x.toInCall.ns,λi y v G j U=>?_⟩,λy c h=>⟨_,x.cell y c h⟩,l.aV.fresh (le_refl _),λy c h=>?_,λp B=>absurd (show p∈([]:aT) from B) (by simp),l.aV.kept J,?_⟩
 .exact name_of_addr x.apart (PySem.mem_of_lookup G) (PySem.mem_of_lookup j)
 .have m:d.names.lookup y=some .cell\/d.names.lookup y=some .free:=m;rcases m with m |m
  .exact E7 m
  .exact absurd rfl (S.mR _ (PySem.mem_of_lookup m))
 .exact Nat.le_of_lt (x.above y c (PySem.mem_of_lookup h))
 .have I:i<vs.length:=by
   unfold start at j;by_cases I:i<vs.length
   .exact I
   .rw[getElem?_append_right (by simpa using I)] at j;rw[List.getElem?_replicate] at j;split at j<;>cases j
  have ha:vs[i]?=some v:=by
   unfold start at j;rw[getElem?_append_left (by simpa using I),getElem?_map] at j;cases e:vs[i]? with
   |none=>rw[e] at j;cases j
   |some a=>rw[e] at j;cases j;rfl
  let⟨u,L,Q⟩:=r.get ha;have B:ps[i]?=some y:=by
   rw[<- S.pre,List.getElem?_take_of_lt ⋯];exact G
  have C:ps.Nodup:=by rw[<- S.pre];exact S.nd.sublist (List.take_sublist _ _)
  refine⟨u,Q,?_⟩;rcases S.par y (mem_of_getElem? B) with k |k
  .exact .inl ⟨k,EE C B L k⟩
  .obtain⟨c,e⟩:=E7 (n:=⇑s+1) k;refine .inr ⟨.inl k,c,e,?_⟩;have q:=x.cell y c e;rw[EF C B L (by show d.names.lookup y≠_;rw[k];decide)] at q;exact q
 .exact l.aV.fresh (Nat.le_of_lt (x.above y c (PySem.mem_of_lookup h)))
 .unfold start;show _=N.length;rw[length_append,length_map,List.length_replicate];omega
theorem HG{CX:fj}{P:Program}{w:World}{K:ao}{mg:bA}{base:aP}{k:Nat}{f:ah}{name c:Str}{d:Arguments}{g:List Stmt}{a:Scope}{U kV doc pm aR ct oc:ag}{an od:fw}{osl:Array (dO)}{N ps:ae}{sp:Sp}(lk:K.lookup f=some ⟨oc,od,.func (W.fnOf name c d g a U kV doc pm an aR ct),osl⟩)(C:W.codeIn K aR c=true)(S:adr N ps a)(len:∀vs H Q E,sp vs H Q E->vs.length=ps.length)(i:∀(A:Around)(outer:b5)(s:aj)(H:Hp)(vs:ax)(Q:VK)(E:XK),bj k (A.deeper (envOfC c a ⇑s f aR))->sp vs H Q E->
   ∃t,eW (iB CX P w K mg base N c a f aR A outer s H E) g t/\t { nx:=λ_ h=>Q .aX h,rt:=Q } (start N vs) H):
  aB P w K mg base CX (k+1) f (W.fnOf name c d g a U kV doc pm an aR ct) ps sp:=by
 refine⟨len,λA outer s H args us vs Q E D m hb r z=>?_⟩;have hl:=len _ _ _ _ z;have O:K.In s.heap:=m.mod.mO.keeps λb o e=>(m.bs b o e).1
 have G:s.heap.NoLimit:=m.mod.nolimit.keeps λb o e=>(m.bs b o e).1
 have j:∀y∈ps.zip us,a.names.lookup y.1=some .local\/(a.names.lookup y.1=some .cell/\((cellsFrom (⇑s+1) a.names []).lookup y.1).isSome=true):=λ⟨n,v⟩ hy=>by
  rcases S.par n (List.of_mem_zip hy).1 with q |q
  .exact .inl q
  .exact .inr ⟨q,W.cellsFrom_some _ _ _ (.inl q)⟩
 refine codeAny_call_function D.depth (O _ _ lk) rfl S.co S.gen rfl (W.codeRec_of O C) (hb _ _ _ _ ?_);refine wpAny_newFunctionEnv_cells S.kind j λenv he Y x=>?_
 subst he;refine⟨G.keeps x.toInCall.keep,codeAny_func ?_⟩;let⟨t,ht,hq⟩:=i A outer s H vs Q E (D.deeper _) z;have I:aw (iB CX P w K mg base N c a f aR A outer s H E) [] (start N vs) H Y:=OS S D.hd m hl r x;refine wpAny_mono (ht [] Y (start N vs) H _ I hq) (λfl M l=>?_) λe M l=>l
 have p:∀{B:St}{h:Hp}{v:V}{u:ag},aw (iB CX P w K mg base N c a f aR A outer s H E) [] B h M->aK v u->Q v h->CE outer P w H s Q u M:=
  λ{B h v u} J L q=>⟨v,h,J.os,J.bare,J.base,J.aV,L,q⟩
 cases fl with
 |ret u=>
  let⟨v,B,h,J,L,q⟩:=l;exact p J L q
 |next=>
  let⟨B,h,J,q⟩:=l;exact p (v:=V.aX) (u:=Value.none) J rfl q
 |brk=>
  let⟨_,_,_,q⟩:=l;exact False.elim q
 |cont=>
  let⟨_,_,_,q⟩:=l;exact False.elim q
section
variable{X:Cx}{x:Str}{p pos:Pos}{e:Expr}{es:bS}{t:TA}{id T:String}{r:ax->Hp->VK->Prop}
def lO(r:ax->Hp->VK->Prop)(t:TA):TE:=λj H Q=>t j H λvs a=>r vs a Q
theorem sS(g:a9 X (.builtin id) r)(i:Gl X x)(hm:X.mg x=none)(k:bootBuiltins x=some (.builtin id))(ha:PA X (e::es) t)(hn: ~~~(x≠"__name__"))(a: ~~~(cD x))(he:do dN e es X.env)(b:do eX pos es X.env):PE X (.Call (.Name x p) (e::es) [] pos) (lO r t):=by
 intro aa s j H Q I h;refine wpAny_Call_Name_kw (qu I i hm k ?_ hn a);exact PyProof.Rows.callWith_builtin1 (bo (ha pos aa s j H _ I h) λus m c=>by let⟨vs,d,f,r1,l⟩:=c;exact g aa m j d vs us Q f r1 l) he b
theorem xr(g:a9 X (.type T) r)(i:Gl X x)(hm:X.mg x=none)(k:bootBuiltins x=some (.type T))(ha:PA X (e::es) t)(hn: ~~~(x≠"__name__"))(a: ~~~(cD x))(he:do dN e es X.env)(b:do eX pos es X.env):PE X (.Call (.Name x p) (e::es) [] pos) (lO r t):=by
 intro aa s j H Q I h;refine wpAny_Call_Name_kw (qu I i hm k ?_ hn a);exact PyProof.Rows.callWith_type1 (bo (ha pos aa s j H _ I h) λus m c=>by let⟨vs,d,f,r1,l⟩:=c;exact g aa m j d vs us Q f r1 l) he b
end
section
variable{κ:Type}[DecidableEq κ]
def gE(kvs:List (κ×V))(k:κ):Option V:=(kvs.find? λa=>decide (a.1=k)).map (·.2)
theorem E8{p:κ×V}{r:List (κ×V)}{k:κ}(e:p.1=k):gE (p::r) k=some p.2:=by simp[gE,find?_cons,e]
theorem EN{p:κ×V}{r:List (κ×V)}{k:κ}(e:¬ p.1=k):gE (p::r) k=gE r k:=by simp[gE,find?_cons,e]
theorem cE.cT(r:cE o u):o.isSome=u.isSome:=by
 cases o with
 |none=>cases u with
  |none=>rfl
  |some _=>exact (show False from r).elim
 |some _=>cases u with
  |none=>exact (show False from r).elim
  |some _=>rfl
theorem KV.val{kvs:List (κ×V)}{vs:List (κ×ag)}(r:KV kvs vs)(k:κ):cE (gE kvs k) (valueAt vs k):=by
 unfold KV at r
 induction r with
 |nil=>exact True.intro
 |@cons p q g a h t f=>
  let⟨c,d⟩:=h;by_cases e:p.1=k
  .have e':q.1=k:=c.symm.trans e;have b:valueAt (q::a) k=some q.2:=by simp[valueAt,find?_cons,e']
   rw[E8 e,b];exact d
  .have e':¬ q.1=k:=λz=>e (c.trans z)
   have b:valueAt (q::a) k=valueAt a k:=by simp[valueAt,find?_cons,e']
   rw[EN e,b];exact f
theorem KV.length(r:KV kvs vs):kvs.length=vs.length:=Paired.length r
end
theorem qI(r:aK (kV k) u):(fJ P w).is k u=true:=by
 cases k with
 |inl i=>let⟨t,e⟩:=(show ∃t,u=Value.int i t from r);subst e;exact Nj P w i t
 |inr x=>let⟨t,e⟩:=(show ∃t,u=Value.str x t from r);subst e;exact Nk P w x t
theorem EG:∀{ks:List bD}{us:aJ},aF (ks.map kV) us->ItemsAre (fJ P w) ks us
 |[],_,r=>by rw[List.map_nil] at r;cases r;exact .nil
 |k::ks,_,r=>by
  rw[map_cons] at r;cases r with
  |cons h t=>exact .cons (qI h) (EG t)
abbrev KT(H:Hp):List (List bD×V)->List (List bD×ah×ag)->Prop:=Paired λp q=>p.1=q.1/\H q.2.1=some (.aY (p.1.map kV))/\aK p.2 q.2.2
theorem KT.val{H:Hp}{kvs:List (List bD×V)}{xs:List (List bD×ah×ag)}(r:KT H kvs xs)(k:List bD):cE (gE kvs k) ((atKey xs k).map (·.2)):=by
 induction r with
 |nil=>exact True.intro
 |@cons p q g a h t f=>
  let⟨c,_,d⟩:=h;by_cases e:p.1=k
  .have e':q.1=k:=c.symm.trans e;have b:atKey (q::a) k=some q.2:=by simp[atKey,find?_cons,e']
   rw[E8 e,b];exact d
  .have e':¬ q.1=k:=λz=>e (c.trans z)
   have b:atKey (q::a) k=atKey a k:=by simp[atKey,find?_cons,e']
   rw[EN e,b];exact f
section
variable{P:Program}{w:World}{H:Hp}{h:aP}{a:ah}
theorem HL(ok:cL P w H h)(e:Rd H a u):bg P w H h a u:=e.ok ok
theorem mz(ok:cL P w H h)(e:Rd H a (.dK kvs)):kvs.length<=sizeLine/\(a == sysModules)=false/\∃vs,KV kvs vs/\h.DictOf (fJ P w) a vs:=
 show bg P w H h a (.dK kvs) from HL ok e
theorem ug(ok:cL P w H h)(e:H a=some (.aY (ks.map kV))):(tupleKind (fJ P w)).is h ks a:=by
 let⟨_,b,r,o,c,d,n,f⟩:=(show bg P w H h a (.aY (ks.map kV)) from ok a _ e);exact⟨o,b.toArray,n,c,d,f,by simpa using EG r⟩
theorem uu(ok:cL P w H h)(e:Rd H a (.dT kvs)):kvs.length<=sizeLine/\(a == sysModules)=false/\
  ∃xs,KT H kvs xs/\h.DictOfH (tupleKind (fJ P w)) a xs:=by
 let⟨z,y,xs,r,o,f,d,g,i,j,k,n⟩:=(show bg P w H h a (.dT kvs) from HL ok e);refine⟨z,y,xs,r,o,f,d,g,i,j,k,λx b=>?_,n⟩;have all:∀{l:List (List bD×V)}{m:List (List bD×ah×ag)},KT H l m->∀x∈m,(tupleKind (fJ P w)).is h x.1 x.2.1:=by
  intro l m q
  induction q with
  |nil=>intro x b;exact nomatch b
  |@cons p q u v c t s=>
   intro x b;rcases mem_cons.mp b with e |b
   .subst e;exact ug ok (by rw[<- c.1];exact c.2.1)
   .exact s x b
 exact all r x b
end
def nC(H:Hp)(a:ah)(y:V)(r:Option V):Prop:=
 (∃c k,Rd H a (.dK c)/\y=kV k/\r=gE c k)\/∃c k b,Rd H a (.dT c)/\y=.ref b/\H b=some (.aY (k.map kV))/\r=gE c k
section
variable{X:Cx}{aa:aT}{σ:St}{H:Hp}{s:aj}{a:ah}{y v:V}{u r:ag}{o:Option V}{A:Around}{E:ag->aj->Prop}
theorem aw.big(I:aw X aa σ H s):sysModules<⇑s:=by
 have h:mainGlobals<⇑s:=(I.mod.glob.keeps I.bk).lt;exact Nat.lt_trans ∎ h
theorem OT{Q:ag->aj->Prop}(D:A.units+1<cLine)(I:aw X aa σ H s)(g:nC H a y (some v))(x:aK y u)(h:∀f s',aw X aa σ H s'->aK v f->Q f s'):
  wpAny (model X.prog X.w) A (getItem (.ref a) u) Q E s:=by
 rcases g with⟨q,k,e,j,l⟩ |⟨q,k,b,e,j,B,l⟩
 .subst j;∎;let⟨z,hd,vs,c,i⟩:=mz I.aV e;let⟨f,n,d⟩:=cE.some_of (v:=v) (o:=valueAt vs k) (by rw[l];exact c.val k);∎;exact wpAny_getItem_of (qI x) i.mapOf n (h f _ (I.tok _) d)
 .subst j;cases (show u=Value.ref b from x);∎;let⟨z,hd,G,c,i⟩:=uu I.aV e;let⟨f,n,d⟩:=cE.some_of (v:=v) (o:=(atKey G k).map (·.2)) (by rw[l];exact c.val k);let⟨p,C,m⟩:=Option.map_eq_some_iff.mp n;∎;refine wpAny_getItem_heap (tupleKind_room_in1 D) (ug I.aV B) i C ?_;rw[m];exact h f _ (I.tok _) d
theorem Yc{Q:ag->aj->Prop}(n:A.units+1<cLine)(I:aw X aa σ H s)(g:nC H a y o)(j:aK y u)(h:∀s',aw X aa σ H s'->Q (.bool o.isSome) s'):
  wpAny (model X.prog X.w) A (compareOp .In u (.ref a)) Q E s:=by
 rcases g with⟨i,k,e,f,l⟩ |⟨i,k,b,e,f,m,l⟩
 .subst f;let⟨z,hd,vs,c,d⟩:=mz I.aV e;refine wpAny_in_of (qI j) hd d.mapOf ?_;rw[<- (c.val k).cT,<- l];exact h _ (I.tok _)
 .subst f;cases (show u=Value.ref b from j);let⟨z,hd,p,c,d⟩:=uu I.aV e;refine wpAny_in_heap (tupleKind_room_in1 n) (ug I.aV m) hd d ?_;have q:=(c.val k).cT;rw[Option.isSome_map] at q;rw[<- q,<- l];exact h _ (I.tok _)
theorem T6{Q:ag->aj->Prop}(n:A.units+1<cLine)(I:aw X aa σ H s)(g:nC H a y o)(j:aK y u)(h:∀s',aw X aa σ H s'->Q (.bool (!o.isSome)) s'):
  wpAny (model X.prog X.w) A (compareOp .NotIn u (.ref a)) Q E s:=by
 rcases g with⟨i,k,e,f,l⟩ |⟨i,k,b,e,f,m,l⟩
 .subst f;let⟨z,hd,vs,c,d⟩:=mz I.aV e;refine wpAny_notIn_of (qI j) hd d.mapOf ?_;rw[<- (c.val k).cT,<- l];exact h _ (I.tok _)
 .subst f;cases (show u=Value.ref b from j);let⟨z,hd,p,c,d⟩:=uu I.aV e;refine wpAny_notIn_heap (tupleKind_room_in1 n) (ug I.aV m) hd d ?_;have q:=(c.val k).cT;rw[Option.isSome_map] at q;rw[<- q,<- l];exact h _ (I.tok _)
theorem T7(I:aw X aa σ H s)(f:om (H a))(hs:Heap.SameBut a s.heap h')(he:∃q,h'.get? a=some q)(c:bg X.prog X.w (a6 H a ob) h' a ob):
  aw X aa σ (a6 H a ob) { s with heap:=h',toks:=t' }:=
 I.write (x:=a) (e:=a) f (.inl rfl) (λb q d z=>(hs.2 b d).trans z) he c
end
section
variable{X:Cx}{aa:aT}{σ:St}{H:Hp}{s:aj}{a:ah}{kvs:iM}{k:bD}{u:ag}{A:Around}{E:ag->aj->Prop}
theorem Yw{Q:ag->aj->Prop}(I:aw X aa σ H s)(e:Rd H a (.dK kvs))(h:∀t s',aw X aa σ H s'->Q (.int kvs.length t) s'):wpAny (model X.prog X.w) A (call (.builtin "len") [.ref a]) Q E s:=by
 let⟨z,hd,vs,b,c⟩:=mz I.aV e;refine call_len_dict hd c (by rw[<- b.length];rw[sizeLine_eq] at z;omega) ?_;rw[<- b.length];exact h _ _ (I.tok _)
end
theorem Nl(I:aw X aa j H s)(g:nC H a y o):s.TypeIs (.ref a) "dict":=by
 rcases g with⟨c,k,e,_,_⟩ |⟨c,k,b,e,_,_,_⟩
 .obtain⟨_,_,vs,_,dd⟩:=mz I.aV e;exact dd.typeIs
 .obtain⟨_,_,xs,_,dd⟩:=uu I.aV e;exact dd.typeIs
structure M1(X:Cx)(o:Expr)(m:Str)(apos:Pos)(e:Expr)(bB:Pos):Prop where
 base:attributeBase o m X.env (eval o X.env)=eval o X.env
 DU:((backTo bB (starEach [e] X.env)).all (λx=>!x.1)&&(backToKw bB (keywordEach [] X.env)).all (λx=>x.1.isSome)
  && decide (([e]:bS).length+([]:List Keyword).length+(if ([]:List Keyword).isEmpty then 0 else 1)<30))=true
 line:(apos.endLine == bB.line)=true
 trees:backTo bB (starEach [e] X.env)=[(false,eval e X.env)]
end L2
namespace HT
open PySem PyProof.Rows
section
variable{prog:Program}{w:World}{A:Around}{E:ag->aj->Prop}{s:aj}
def bF(n d:Nat):bt->Nat
 |none=>d
 |some v=>if v < 0 then (v + (n:Int)).toNat else min v.toNat n
theorem f7(n d:Nat):bF n d none=d:=rfl
theorem bQ(n d k:Nat):bF n d (some (k:Int))=min k n:=by
 show (if (k:Int)<0 then ((k:Int)+(n:Int)).toNat else min (k:Int).toNat n)=min k n;rw[if_neg ⋯,toNat_natCast]
theorem Wz(n d:Nat)(hd:d<=n)(o:bt):bF n d o<=n:=by
 cases o with
 |none=>exact hd
 |some v=>
  show (if v<0 then (v+(n:Int)).toNat else min v.toNat n)<=n;by_cases a:v<0
  .rw[if_pos a];omega
  .rw[if_neg a];exact Nat.min_le_right _ _
theorem FX(v:Int)(n d:Nat):(if v<0 then max (v+(n:Int)) 0 else min v (n:Int))=((bF n d (some v):Nat):Int):=by
 show (if v<0 then max (v+(n:Int)) 0 else min v (n:Int))=(((if v<0 then (v+(n:Int)).toNat else min v.toNat n):Nat):Int)
 by_cases a:v<0
 .simp only[if_pos a];omega
 .simp only[if_neg a];omega
theorem Om(lo a:bt)(n:Nat):Builtin.Slice.sliceAdjust lo a 1 (n:Int)=(((bF n 0 lo:Nat):Int),((bF n n a:Nat):Int)):=by
 have b:¬ ((1:Int)<0):=⋯
 unfold Builtin.Slice.sliceAdjust;simp only[b,if_false];refine Prod.ext ?_ ?_
 .cases lo with
  |none=>rfl
  |some v=>exact FX v n 0
 .cases a with
  |none=>rfl
  |some v=>exact FX v n n
theorem Oo(i j:Nat):Builtin.Slice.slicePlaces (i:Int) (j:Int) 1=j - i:=by
 unfold Builtin.Slice.slicePlaces;have a:(1:Int) > 0:=⋯
 simp only[a,if_true,Int.ediv_one];split<;>omega
theorem D5{Q:bt->aj->Prop}(p:IsPart v o)(h:Q o s):wpAny (model prog w) A (Builtin.Slice.slicePartIndex v) Q E s:=by
 cases p with
 |none=>exact slicePart_none h
 |int i t=>exact slicePart_int h
theorem Ly{e:ah}{vl d:ag}{lo b:bt}{n:Nat}{Q:Int×Int×Nat->aj->Prop}(hs:s.heap.IsSliceOf e vl d .none)(pl:IsPart vl lo)(g:IsPart d b)(h:Q (((bF n 0 lo:Nat):Int),1,bF n n b - bF n 0 lo) s):wpAny (model prog w) A (Builtin.Slice.sliceApplied (.ref e) (pure (n:Int))) Q E s:=by
 let⟨os,c,f,a⟩:=id hs;unfold Builtin.Slice.sliceApplied Builtin.Slice.sliceFields;refine wpAny_bind (wpAny_bind (wpAny_field c a (x:=vl) rfl (wpAny_bind (wpAny_field c a (x:=d) rfl (wpAny_bind (wpAny_field c a (x:=.none) rfl (wpAny_pure ?_)))))));refine wpAny_bind (slicePart_none ?_);show wpAny _ _ (if ((1:Int) == 0)=true then _ else _) _ _ s;rw[if_neg ∎];refine wpAny_bind (D5 pl (wpAny_bind (D5 g (wpAny_bind (wpAny_pure ?_)))));show wpAny _ _ (match Builtin.Slice.sliceAdjust lo b 1 (n:Int) with |(lo,b)=>pure (lo,(1:Int),Builtin.Slice.slicePlaces lo b 1)) _ _ s;rw[Om lo b n];show wpAny _ _ (pure (((bF n 0 lo:Nat):Int),(1:Int),Builtin.Slice.slicePlaces ((bF n 0 lo:Nat):Int) ((bF n n b:Nat):Int) 1)) _ _ s;rw[Oo];exact wpAny_pure h
theorem QN(xs:cO)(i k:Nat):((List.range k).filterMap λ(m:Nat)=>xs[((i:Int)+(m:Int)*1).toNat]?).toArray=((xs.toList.drop i).take k).toArray:=by
 have e:(λ(m:Nat)=>xs[((i:Int)+(m:Int)*1).toNat]?)=λm=>xs[i+m]?:=by
  funext m;have:((i:Int)+(m:Int)*1).toNat=i+m:=⋯
  rw[this]
 rw[e];have:=pick_run xs i k;rw[List.filterMap_map] at this;have a:((λx=>xs[x]?) ∘ λx=>i+x)=λm=>xs[i+m]?:=rfl
 rw[a] at this;rw[this]
theorem dV{t g:ah}{items:cO}{vl i:ag}{lo b:bt}{Q:ag->aj->Prop}(ht:IsTup s.heap t items)(hs:s.heap.IsSliceOf g vl i .none)(pl:IsPart vl lo)(l:IsPart i b)(k:¬ (bF items.size 0 lo=0/\bF items.size items.size b=items.size))(h:Q (.ref ⇑s) { s with heap:=s.heap.push { cls:=.type "tuple",data:=.seq ((items.toList.drop (bF items.size 0 lo)).take (bF items.size items.size b - bF items.size 0 lo)).toArray } })(hsz:items.size<=sizeLine):wpAny (model prog w) A (getItem (.ref t) (.ref g)) Q E s:=by
 have a:sizeOk (.seq ((items.toList.drop (bF items.size 0 lo)).take (bF items.size items.size b - bF items.size 0 lo)).toArray):=by
  show ((items.toList.drop (bF items.size 0 lo)).take (bF items.size items.size b - bF items.size 0 lo)).toArray.size<=sizeLine;rw[size_toArray,length_take,length_drop,length_toList];omega
 have n:bF items.size items.size b<=items.size:=Wz _ _ (le_refl _) b;let⟨os,f,d,j⟩:=id hs;have c:s.TypeIs (.ref g) "slice":=⟨os,f,d⟩
 unfold getItem
 try with_reducible refine wpAny_holding ?_
 first |refine wpAny_bind (wpAny_pure ?_) |skip
 refine wpAny_bind (wpAny_sequenceKey ht.typeIs ∎ ?_);refine wpAny_bind (wpAny_callSpecial?_slot (name:=Str.ofString "__getitem__") ht.typeIs PyProof.Rows.slot_tuple_getitem
  (wpAny_call_entry PyProof.Rows.slot_tuple_getitem ht.typeIs entry_tuple_getitem ?_ (args_tuple_getitem _ _)))
 show wpAny _ _ (Builtin.Tuple.tupleItemsOf (.ref t) >>= _) _ _ s;refine wpAny_bind (tupleItemsOf_ ht ?_);refine wpAny_bind (wpAny_typeOf c ?_);rw[if_pos ∎];refine wpAny_bind (Ly hs pl l ?_);have e:¬ ((((bF items.size 0 lo:Nat):Int) == 0&&(1:Int) == 1&&(bF items.size items.size b - bF items.size 0 lo) == items.size)=true):=by
  intro q;rw[and_eq_true,and_eq_true] at q;have o:((bF items.size 0 lo:Nat):Int)=0:=eq_of_beq q.1.1;have p:bF items.size items.size b - bF items.size 0 lo=items.size:=eq_of_beq q.2;exact k ⟨⋯,⋯⟩
 show wpAny _ _ (if (((bF items.size 0 lo:Nat):Int) == 0&&(1:Int) == 1&&(bF items.size items.size b - bF items.size 0 lo) == items.size)=true then _ else _) _ _ s;rw[if_neg e,QN];first
  |exact wpAny_bind (m:=Builtin.Tuple.tupleExact _) (wpAny_newObj_type (wpAny_pure ⟨_,rfl,wpAny_pure h⟩) a)
  |exact wpAny_bind (m:=Builtin.Tuple.tupleExact _) (wpAny_newObj_type (wpAny_bind (wpAny_pure (wpAny_pure ⟨_,rfl,wpAny_pure h⟩))) a)
  |exact wpAny_bind (wpAny_bind (m:=Builtin.Tuple.tupleExact _) (wpAny_newObj_type (wpAny_pure (wpAny_pure ⟨_,rfl,wpAny_pure h⟩)) a))
  |exact wpAny_bind (wpAny_bind (m:=Builtin.Tuple.tupleExact _) (wpAny_newObj_type (wpAny_pure ⟨_,rfl,wpAny_pure h⟩) a))
end
end HT
namespace L2
open PySem PySem.Spec PyProof.Rows
abbrev TO:=St->Hp->(bt->Hp->Prop)->Prop
def PO(X:Cx)(e:Option Expr)(t:TO):Prop:=
 ∀(aa:aT)(s:aj)(j:St)(H:Hp)(Q:bt->Hp->Prop),aw X aa j H s->t j H Q->
  wpAny (model X.prog X.w) X.A (evalPart e X.env) (λu b=>∃o a,aw X aa j a b/\IsPart u o/\Q o a) X.xe s
def BD:TO:=λ_ H Q=>Q none H
def B7(t:TE):TO:=λj H Q=>t j H λx a=>∃i,x=.int i/\Q (some i) a
section
variable{X:Cx}{e:Expr}{te:TE}{lo hi:Option Expr}{tl th:TO}{pos p2:Pos}
theorem T8:PO X none BD:=by
 intro aa s j H Q I h;rw[evalPart_none];exact wpAny_pure ⟨none,H,I,.none,h⟩
theorem T9(h:PE X e te):PO X (some e) (B7 te):=by
 intro aa s j H Q I d;rw[evalPart_some];refine bo (h aa s j H _ I d) λu g a=>?_
 ∎;let⟨x,b,c,r1,f⟩:=a;let⟨i,rfl,q⟩:=f;let⟨t,rfl⟩:=r1;∎;exact⟨some i,b,c,.int i t,q⟩
def jO(X:Cx)(r:V->bt->bt->Hp->VK->Prop):Prop:=
 ∀(aa:aT)(s:aj)(j:St)(H:Hp)(x:V)(v vl b:ag)(lo hi:bt)(a:ah)(Q:VK),aw X aa j H s->aK x v->s.heap.IsSliceOf a vl b .none->IsPart vl lo->IsPart b hi->r x lo hi H Q->
  ∃T id,typeLookup (.type T) "__getitem__"=pure (some (.builtin id))/\s.TypeIs v T/\wpAny (model X.prog X.w) X.A (getItem v (.ref a)) (EP X aa j Q) X.xe s
theorem jO.or{r d:V->bt->bt->Hp->VK->Prop}(h:jO X r)(h':jO X d):jO X (λx lo hi H Q=>r x lo hi H Q\/d x lo hi H Q):=by
 intro aa s j H x v vl i lo hi g Q I f a b c q;rcases q with q |q
 .exact h aa s j H x v vl i lo hi g Q I f a b c q
 .exact h' aa s j H x v vl i lo hi g Q I f a b c q
def Ac(r:V->bt->bt->Hp->VK->Prop)(te:TE)(tl th:TO):TE:=λj H Q=>te j H λx a=>tl j a λl b=>th j b λu c=>r x l u c Q
theorem EO(C:jO X r)(he:PE X e te)(B:PO X lo tl)(E:PO X hi th):PE X (.Subscript e (.Slice lo hi none p2) pos) (Ac r te tl th):=by
 intro aa s j H Q I h;refine Subscript_ (bo (he aa s j H _ I h) λv O c=>?_);let⟨x,i,m,r1,L⟩:=c;refine wpAny_Slice (bo (B aa O j i _ m L) λvl U c=>?_);let⟨l,k,n,G,M⟩:=c;refine bo (E aa U j k _ n M) λd a f=>?_
 let⟨u,g,o,J,N⟩:=f;rw[evalPart_none];refine wpAny_pure ?_;have p:aw X aa j g { a with heap:=a.heap.push { cls:=.type "slice",data:=.fields #[vl,d,.none] } }:=o.kept (t':=a.toks) λb Y q=>Heap.get?_push_of_some _ q
 let⟨T,id,y,D,z⟩:=C aa { a with heap:=a.heap.push { cls:=.type "slice",data:=.fields #[vl,d,.none] } } j g x v vl d l u ⇑a Q p r1 (Heap.IsSliceOf.new ..) G J N;show wpAny (model X.prog X.w) X.A (subscriptTail e (.Slice lo hi none p2) v (.ref ⇑a)) (EP X aa j Q) X.xe { a with heap:=a.heap.push { cls:=.type "slice",data:=.fields #[vl,d,.none] } };exact tail_any (ops:=[.ref ⇑a,v]) D y z (by with_unfolding_all rfl)
def kR(xs:ax)(lo hi:bt):ax:=(xs.drop (HT.bF xs.length 0 lo)).take (HT.bF xs.length xs.length hi - HT.bF xs.length 0 lo)
theorem DL(xs:ax)(lo hi:bt):(kR xs lo hi).length<=xs.length:=by
 unfold kR;rw[length_take,length_drop];omega
def CS(K:ao):V->bt->bt->Hp->VK->Prop:=λx lo hi H Q=>∃a b,x=.ref a/\cZ K H a b/\
 ¬ (HT.bF b.length 0 lo=0/\HT.bF b.length b.length hi=b.length)/\∀p,H p=none->Q (.ref p) (a6 H p (.aY (kR b lo hi)))
theorem WA:jO X (CS X.K):=by
 intro aa s j H x v vl z lo hi y Q I u k n p h;let⟨a,d,rfl,m,l,q⟩:=h;cases u;let⟨f,r,g,i⟩:=I.tuple m;have c:f.toArray.size=d.length:=by rw[size_toArray];exact r.length.symm
 refine⟨"tuple",_,PyProof.Rows.slot_tuple_getitem.lookup,g.typeIs,?_⟩;refine HT.dV g k n p (by rw[c];exact l) ?_ (by rw[c];exact i);rw[c];refine⟨.ref ⇑s,_,I.laid (t':=s.toks) (o:=.aY (kR d lo hi)) (λb w q=>Heap.get?_push_of_some _ q) (le_refl _) ?_,rfl,q _ (I.aV.fresh (le_refl _))⟩;exact⟨le_trans (DL d lo hi) i,_,(r.drop (HT.bF d.length 0 lo)).take (HT.bF d.length d.length hi - HT.bF d.length 0 lo),IsTup.new _ _⟩
end
def gp(n:Nat)(i:Int):Option Nat:=if 0<=i then (if i<n then some i.toNat else none) else if -(n:Int)<=i then some (i+n).toNat else none
def cN{y:Type}(xs:List y)(i:Int):Option y:=(gp xs.length i).bind λj=>xs[j]?
theorem FY(h:gp n i=some j):seqIndex? i n=some j/\j<n/\-(n:Int)<=i/\i<n:=by
 unfold gp at h;by_cases b:0<=i
 .rw[if_pos b] at h;by_cases a:i<n
  .rw[if_pos a] at h;have e:i.toNat=j:=Option.some.inj h;exact⟨by rw[seqIndex_of b a,e],⋯,⋯,a⟩
  .rw[if_neg a] at h;cases h
 .rw[if_neg b] at h;by_cases a:-(n:Int)<=i
  .rw[if_pos a] at h;have e:(i+n).toNat=j:=Option.some.inj h;exact⟨by rw[seqIndex_neg ⋯ a,e],⋯,a,⋯⟩
  .rw[if_neg a] at h;cases h
theorem yh(h:cN xs i=some v):∃j,seqIndex? i xs.length=some j/\xs[j]?=some v/\j<xs.length/\-(xs.length:Int)<=i/\i<xs.length:=by
 unfold cN at h;cases e:gp xs.length i with
 |none=>rw[e] at h;cases h
 |some j=>
  rw[e] at h;let⟨a,b,c,d⟩:=FY e;exact⟨j,a,h,b,c,d⟩
def BE(b:Expr):Prop:=∀o i,subscripted b false o i=operate [o,i] (getItem o i)
def iJ(X:Cx)(r:R2):Prop:=
 ∀(value a:Expr)(aa:aT)(s:aj)(j:St)(H:Hp)(x y:V)(v u:ag)(Q:VK),aw X aa j H s->aK x v->aK y u->r x y H Q->
  subscripted a false v u=operate [v,u] (getItem v u)->wpAny (model X.prog X.w) X.A (subscriptTail value a v u) (EP X aa j Q) X.xe s
def IX(X:Cx)(id:String)(r:V->ax->Hp->VK->Prop):Prop:=
 ∀(aa:aT)(s:aj)(j:St)(H:Hp)(x:V)(a:ax)(v:ag)(us:aJ)(Q:VK),aw X aa j H s->aK x v->aF a us->r x a H Q->
  wpAny (model X.prog X.w) X.A (call (.builtin id) (v::us)) (EP X aa j Q) X.xe s
section
variable{X:Cx}{a b:Expr}{ta tb:TE}{pos:Pos}
theorem iJ.or{r e:R2}(h:iJ X r)(h':iJ X e):iJ X (λx y H Q=>r x y H Q\/e x y H Q):=by
 intro value c aa s j H x y v u Q I f g q d;rcases q with q |q
 .exact h value c aa s j H x y v u Q I f g q d
 .exact h' value c aa s j H x y v u Q I f g q d
theorem Yx(f:iJ X r)(ha:PE X a ta)(e:PE X b tb)(hs:BE b):PE X (.Subscript a b pos) (mX r ta tb):=by
 intro aa s j H Q I h;exact Subscript_ (z5 ha e I h λv u k x y c d g i q=>f a b aa k j c x y v u Q d g i q (hs _ _))
def CT(K:ao):R2:=λx y H Q=>∃p c i v,x=.ref p/\y=.int i/\bM K H p c/\cN c i=some v/\Q v H
def CU(K:ao):R2:=λx y H Q=>∃p c i v,x=.ref p/\y=.int i/\cZ K H p c/\cN c i=some v/\Q v H
def CV:R2:=λx y H Q=>∃z i c,x=.str z/\y=.int i/\z.length<=sizeLine/\cN z.cps.toList i=some c/\Q (.str ⟨#[c]⟩) H
theorem Kj:iJ X (CT X.K):=by
 intro value k aa s G H x y v u Q I J L h n;let⟨p,U,i,z,rfl,rfl,E,C,q⟩:=h;cases J;∎;let⟨t,rfl⟩:=L;let⟨e,r,f,O⟩:=I.list E;let⟨j,d,o,N,A,B⟩:=yh C;let⟨w,l,g⟩:=r.get o;∎;have D:=r.length;have hn:=qm;have c:EP X aa G Q w s:=⟨z,H,I,g,q⟩;by_cases m:0<=i
 .have hj:i.toNat=j:=by
   rw[seqIndex_of m B] at d;exact Option.some.inj d
  exact item_listR f.isList m ⋯ (by rw[hj];simpa using l) c n
 .have hj:(i+(e.toArray.size:Int)).toNat=j:=by
   rw[seqIndex_neg ⋯ A] at d;rw[size_toArray,<- D];exact Option.some.inj d
  exact subscriptTail_builtinR (x:=w) f.isList.typeIs slot_list_getitem.lookup
   (wpAny_getItem_list_neg (Q:=λr M=>r=w/\EP X aa G Q r M) f.isList ⋯ (by rw[size_toArray]<;>omega) ⋯ (by rw[hj];simpa using l) ⟨rfl,c⟩) n
theorem Kq:iJ X (CU X.K):=by
 intro value e aa s G H x y v u Q I C D h A;let⟨p,O,i,z,rfl,rfl,o,m,q⟩:=h;cases C;∎;let⟨t,rfl⟩:=D;let⟨B,r,f,N⟩:=I.tuple o;let⟨j,k,l,J,L,M⟩:=yh m;let⟨w,g,d⟩:=r.get l;∎;have n:=r.length;have hn:=qm;have c:EP X aa G Q w s:=⟨z,H,I,d,q⟩;exact subscriptTail_builtinR (x:=w) f.typeIs slot_tuple_getitem.lookup
  (getItem_tuple (j:=j) (Q:=λr E=>r=w/\EP X aa G Q r E) f ⋯ ⋯ (by rw[size_toArray,<- n];exact k) (by simpa using g) ⟨rfl,c⟩) A
theorem WB:iJ X CV:=by
 intro value d aa s G H x y v u Q I r w h p;∎;let⟨z,i,c,rfl,rfl,B,n,q⟩:=h;let⟨t,rfl⟩:=r;let⟨C,rfl⟩:=w;let⟨j,e,k,A,l,m⟩:=yh n;∎;have o:z.cps.toList.length=z.length:=by simp[Str.length]
 rw[o] at e l m;have hn:=qm;exact tail_any (typeIs_str s z t) slot_str_getitem.lookup (getItem_str (c:=c) (by
  have f:decide (i < -(2 ^ 63:Int))=false:=decide_eq_false ⋯;have g:decide (i ≥ 2 ^ 63)=false:=decide_eq_false ⋯;rw[f,g,Bool.or_false]) (by rw[e];simpa using k) ⟨.str ⟨#[c]⟩,H,I.tok _,⟨_,rfl⟩,q⟩) p
def HC(K:ao):R2:=λx y H Q=>CT K x y H Q\/CU K x y H Q\/CV x y H Q
theorem Kr:iJ X (HC X.K):=Kj.or (Kq.or WB)
theorem Oq(bf:aJ)(n j:Nat)(u:ag):Obj.mapSeq (·.setIfInBounds j u) { cls:=.type "list",data:=.seq bf.toArray n }={ cls:=.type "list",data:=.seq (bf.set j u).toArray n }:=by
 simp[Obj.mapSeq]
theorem aw.ak{H:Hp}(I:aw X aa j H s)(h:H p=some (.ak xs)):
  ∃(bf:aJ)(n:Nat),aF xs bf/\s.heap.get? p=some { cls:=.type "list",data:=.seq bf.toArray n }/\xs.length<=sizeLine:=by
 let⟨z,bf,n,r,e⟩:=I.aV p _ h;exact⟨bf,n,r,e,z⟩
theorem aw.mP{aa:aT}{j:St}{H:Hp}{s:aj}{p:ah}{xs c:ax}{bf its':aJ}{n n':Nat}{f:Obj->Obj}(I:aw X aa j H s)(h:H p=some (.ak xs))(i:s.heap.get? p=some { cls:=.type "list",data:=.seq bf.toArray n })(d:f { cls:=.type "list",data:=.seq bf.toArray n }={ cls:=.type "list",data:=.seq its'.toArray n' })(r:aF c its')(hz:c.length<=sizeLine)(t:Nat):
  aw X aa j (a6 H p (.ak c)) { s with heap:=s.heap.update p f,toks:=t }:=by
 have e:(s.heap.update p f).get? p=some { cls:=.type "list",data:=.seq its'.toArray n' }:=by
  rw[Heap.get?_update_self f i (by rw[d]<;>rfl),d]
 refine I.write (x:=p) (e:=p) (by rw[h];trivial) (.inl rfl) (λb u g q=>(Heap.get?_update_other _ _ (Ne.symm g)).trans q) ⟨_,e⟩ ?_;exact⟨hz,its',n',r,e⟩
def B8:V->V->V->Hp->(Hp->Prop)->Prop:=λo i v H Q=>∃p c k j,o=.ref p/\i=.int k/\H p=some (.ak c)/\gp c.length k=some j/\Q (a6 H p (.ak (c.set j v)))
theorem QP:Dk X B8:=by
 intro aa s y H o i v L J u Q I C B D h;let⟨p,E,k,j,rfl,rfl,x,z,q⟩:=h;cases C;∎;let⟨t,rfl⟩:=B;let⟨c,n,r,f,A⟩:=I.ak x;let⟨d,G,m,w⟩:=FY z;∎;have e:=r.length;have hn:=qm;have g:aw X aa y (a6 H p (.ak (E.set j v))) { s with heap:=s.heap.update p (Obj.mapSeq (·.setIfInBounds j u)) }:=
  I.mP x f (Oq c n j u) (r.set D j) (by rw[length_set];exact A) s.toks
 by_cases l:0<=k
 .have hk:k.toNat=j:=by
   rw[seqIndex_of l w] at d;exact Option.some.inj d
  exact W.ki_setAt f l ⋯ (by rw[size_toArray,<- e];exact w) (by rw[hk];exact⟨_,g,q⟩)
 .have hk:(k+(c.toArray.size:Int)).toNat=j:=by
   rw[seqIndex_neg ⋯ m] at d;rw[size_toArray,<- e];exact Option.some.inj d
  exact W.ki_setBack f ⋯ (by rw[size_toArray,<- e];exact m) ⋯ (by rw[hk];exact⟨_,g,q⟩)
theorem Mt(lo c:bt)(n:Nat):(sliceBounds lo c none n).1=((HT.bF n 0 lo:Nat):Int)/\(sliceBounds lo c none n).2.1=((HT.bF n n c:Nat):Int)/\(sliceBounds lo c none n).2.2=1:=by
 refine⟨?_,?_,rfl⟩
 .cases lo with
  |none=>simp[sliceBounds,HT.bF]
  |some i=>
   simp only[sliceBounds,HT.bF,Option.getD_none,show (1:Int) > 0 by decide,if_true];by_cases h:i<0
   .simp only[h,if_true]<;>omega
   .simp only[h,if_false]<;>omega
 .cases c with
  |none=>simp[sliceBounds,HT.bF]
  |some i=>
   simp only[sliceBounds,HT.bF,Option.getD_none,show (1:Int) > 0 by decide,if_true];by_cases h:i<0
   .simp only[h,if_true]<;>omega
   .simp only[h,if_false]<;>omega
theorem Mj(bf:aJ)(lo c:bt):slicePick bf.toArray lo c none=((bf.drop (HT.bF bf.length 0 lo)).take (HT.bF bf.length bf.length c - HT.bF bf.length 0 lo)).toArray:=by
 let⟨d,e,f⟩:=Mt lo c bf.toArray.size;unfold slicePick;rw[d,e,f];simp only[sliceRange_one,pick_run,size_toArray]<;>rfl
def CW(K:ao):V->bt->bt->Hp->VK->Prop:=λx lo d H Q=>∃a c,x=.ref a/\bM K H a c/\∀p,H p=none->Q (.ref p) (a6 H p (.ak (kR c lo d)))
theorem Kk:jO X (CW X.K):=by
 intro aa s j H x v vl y lo e w Q I p g m n h;let⟨a,c,rfl,i,q⟩:=h;cases p;let⟨l,r,f,k⟩:=I.list i;have d:=r.length;refine⟨"list",_,slot_list_getitem.lookup,f.isList.typeIs,?_⟩;refine wpAny_getItem_list_slice f.isList g m n .none (by simp) ?_ (by rw[size_toArray]<;>omega);rw[Mj,<- d];refine⟨.ref ⇑s,_,I.laid (t':=s.toks) (o:=.ak (kR c lo e)) (λb u q=>Heap.get?_push_of_some _ q) (le_refl _) ?_,rfl,q _ (I.aV.fresh (le_refl _))⟩;exact⟨le_trans (DL c lo e) k,_,0,(r.drop (HT.bF c.length 0 lo)).take (HT.bF c.length c.length e - HT.bF c.length 0 lo),Heap.get?_push_size _ rfl⟩
def gC:V->Bool
 |.aX=>true
 |.bl _=>true
 |.int _=>true
 |.str _=>true
 |_=>false
def fZ:V->V->Bool
 |.aX,.aX=>true
 |.bl a,.bl b=>a == b
 |.bl a,.int b=>(if a then 1 else 0) == b
 |.int a,.bl b=>a == (if b then 1 else 0)
 |.int a,.int b=>a == b
 |.str a,.str b=>a == b
 |_,_=>false
theorem mu(f:aK y u)(c:aK x v)(g:gC y=true)(e:gC x=true):SeqAt.EqAt A s u v (fZ y x):=by
 cases y with
 |aX=>
  cases f;cases x with
  |aX=>cases c;exact SeqAt.EqAt.same _
  |bl b=>cases c;exact SeqAt.EqAt.none_bool b
  |int b=>let⟨t,rfl⟩:=c;exact SeqAt.EqAt.none_int b t
  |str b=>let⟨t,rfl⟩:=c;exact SeqAt.EqAt.none_str b t
  |_=>exact absurd (show false=true from e) Bool.false_ne_true
 |bl a=>
  cases f;cases x with
  |aX=>cases c;exact SeqAt.EqAt.bool_none a
  |bl b=>cases c;exact SeqAt.EqAt.bool_bool a b
  |int b=>let⟨t,rfl⟩:=c;exact SeqAt.EqAt.bool_int a b t
  |str b=>let⟨t,rfl⟩:=c;exact SeqAt.EqAt.bool_str a b t
  |_=>exact absurd (show false=true from e) Bool.false_ne_true
 |int a=>
  let⟨d,rfl⟩:=f;cases x with
  |aX=>cases c;exact SeqAt.EqAt.int_none a d
  |bl b=>cases c;exact SeqAt.EqAt.int_bool a d b
  |int b=>let⟨t,rfl⟩:=c;exact SeqAt.EqAt.int_int a d b t
  |str b=>let⟨t,rfl⟩:=c;exact SeqAt.EqAt.int_str a d b t
  |_=>exact absurd (show false=true from e) Bool.false_ne_true
 |str a=>
  let⟨d,rfl⟩:=f;cases x with
  |aX=>cases c;exact SeqAt.EqAt.str_none a d
  |bl b=>cases c;exact SeqAt.EqAt.str_bool a d b
  |int b=>let⟨t,rfl⟩:=c;exact SeqAt.EqAt.str_int a d b t
  |str b=>let⟨t,rfl⟩:=c;exact SeqAt.EqAt.str_str a d b t
  |_=>exact absurd (show false=true from e) Bool.false_ne_true
 |_=>exact absurd (show false=true from g) Bool.false_ne_true
def gK(x:V)(u:ag):Bool:=match u with
 |.none=>fZ .aX x
 |.bool b=>fZ (.bl b) x
 |.int i _=>fZ (.int i) x
 |.str z _=>fZ (.str z) x
 |_=>false
theorem GX(r:aK y u)(f:gC y=true):gK x u=fZ y x:=by
 cases y with
 |aX=>cases r;rfl
 |bl b=>cases r;rfl
 |int i=>let⟨t,rfl⟩:=r;rfl
 |str z=>let⟨t,rfl⟩:=r;rfl
 |_=>exact absurd (show false=true from f) Bool.false_ne_true
theorem ql:∀{xs:ax}{us:aJ},aF xs us->xs.all gC=true->us.any (gK x)=xs.any λy=>fZ y x
 |_,_,.nil,_=>rfl
 |y::xs,u::us,.cons r t,f=>by
  rw[all_cons,and_eq_true] at f;rw[any_cons,any_cons,GX r f.1,ql t f.2]
theorem qa(e:aK x v)(d:gC x=true):∀{xs:ax}{us:aJ},aF xs us->xs.all gC=true->∀u∈us,SeqAt.EqAt A s u v (gK x u)
 |_,_,.nil,_=>λu c=>by cases c
 |y::xs,u::us,.cons r t,f=>λg c=>by
  rw[all_cons,and_eq_true] at f;rcases mem_cons.mp c with rfl |c
  .rw[GX r f.1];exact mu r e f.1 d
  .exact qa e d t f.2 g c
def qO(x:V)(xs:ax):Bool:=xs.any λy=>fZ y x
def q9(K:ao)(neg:Bool):R2:=λx y H Q=>∃p c,y=.ref p/\(bM K H p c\/cZ K H p c)/\gC x=true/\c.all gC=true/\Q (.bl (if neg then !qO x c else qO x c)) H
theorem Ke:bZ X (compareOp .In) (q9 X.K false):=by
 intro aa s j H x y v u Q I f g h;let⟨p,i,rfl,c,e,fs,q⟩:=h;cases g;rcases c with c |c
 .obtain⟨bf,r,pl,hz⟩:=I.list c;refine SeqAt.in_listAt (gK x) pl.isList (λw d=>qa f e r fs w (by simpa using d)) ⟨.bl _,H,I,rfl,?_⟩;rw[show bf.toArray.any (gK x)=bf.any (gK x) by simp,ql r fs];exact q
 .obtain⟨bf,r,pl,hz⟩:=I.tuple c;refine SeqAt.in_tupleAt (gK x) pl (λw d=>qa f e r fs w (by simpa using d)) ⟨.bl _,H,I,rfl,?_⟩;rw[show bf.toArray.any (gK x)=bf.any (gK x) by simp,ql r fs];exact q
theorem Kg:bZ X (compareOp .NotIn) (q9 X.K true):=by
 intro aa s j H x y v u Q I f g h;let⟨p,i,rfl,c,e,fs,q⟩:=h;cases g;rcases c with c |c
 .obtain⟨bf,r,pl,hz⟩:=I.list c;refine SeqAt.notIn_listAt (gK x) pl.isList (λw d=>qa f e r fs w (by simpa using d)) ⟨.bl _,H,I,rfl,?_⟩;rw[show bf.toArray.any (gK x)=bf.any (gK x) by simp,ql r fs];exact q
 .obtain⟨bf,r,pl,hz⟩:=I.tuple c;refine SeqAt.notIn_tupleAt (gK x) pl (λw d=>qa f e r fs w (by simpa using d)) ⟨.bl _,H,I,rfl,?_⟩;rw[show bf.toArray.any (gK x)=bf.any (gK x) by simp,ql r fs];exact q
theorem Dz:bZ X (compareOp .NotIn) (λx y H Q=>∃i j,x=.str i/\y=.str j/\Q (.bl (!(!(Builtin.Str.occurrences j i 0 j.length 1).isEmpty))) H):=by
 intro aa s G H x y v u Q I c d h;∎;let⟨i,j,rfl,rfl,q⟩:=h;let⟨t,rfl⟩:=c;let⟨e,rfl⟩:=d;∎;exact notIn_str ⟨.bl _,H,I,rfl,q⟩
theorem a9.or{r c:ax->Hp->VK->Prop}(h:a9 X f r)(h':a9 X f c):a9 X f (λxs H Q=>r xs H Q\/c xs H Q):=by
 intro aa s j H xs us Q I rs q;rcases q with q |q
 .exact h aa s j H xs us Q I rs q
 .exact h' aa s j H xs us Q I rs q
theorem Kh:a9 X (.type "list") (λxs H Q=>∃p i,xs=[.ref p]/\(bM X.K H p i\/cZ X.K H p i)/\∀l,H l=none->Q (.ref l) (a6 H l (.ak i))):=by
 intro aa s j H xs us Q I r h;∎;let⟨p,i,rfl,v,q⟩:=h;let⟨u,rfl,B⟩:=gX r;∎;cases B;have k:∀(c:aJ),aF i c->i.length<=sizeLine->∀(d:aP)(f:Nat),(∀b A,s.heap.get? b=some A->d.get? b=some A)->
   d.get? ⇑s=some { cls:=.type "list",dict:=none,data:=.seq c.toArray f,slots:=#[] }->EP X aa j Q (.ref ⇑s) { s with heap:=d }:=λc g x d f kp e=>
  ⟨.ref ⇑s,_,I.laid (t':=s.toks) kp (le_refl _) (show bg X.prog X.w _ d _ (.ak i) from ⟨x,c,f,g,e⟩),rfl,q _ (I.aV.fresh (le_refl _))⟩
 rcases v with v |v
 .obtain⟨c,g,pl,x⟩:=I.list v;have m:=g.length;let⟨o,z,y,n,hd⟩:=pl.isList;exact call_list_seq p (.inl rfl) z y hd (λd f kp e=>k c g x d f kp e) (by simp only[size_toArray]<;>omega)
 .obtain⟨c,g,pl,x⟩:=I.tuple v;have m:=g.length;let⟨o,z,y,n,hd⟩:=pl;exact call_list_seq p (.inr rfl) z y hd (λd f kp e=>k c g x d f kp e) (by simp only[size_toArray]<;>omega)
def Ae(K:ao)(T:String)(x:V)(H:Hp):Prop:=match x with
 |.str _=>T = "str"
 |.int _=>T = "int"
 |.ref p=>(T = "list" /\ ∃d,bM K H p d) \/ (T = "tuple" /\ ∃o,K.lookup p=some o /\ o.cls=.type "tuple" /\ o.dict=none) \/
   (T="dict"/\((∃c,H p=some (.dK c))\/∃c,H p=some (.dT c)))\/(T="set"/\∃S n,H p=some (.set S n))
 |_=>False
theorem WC(I:aw X aa j H s)(r:aK x v)(ty:Ae X.K T x H):
  s.TypeIs v T/\∀a,v=.ref a->∃h,s.heap.get? a=some h/\h.dict=none:=by
 cases x with
 |str z=>
  let⟨t,rfl⟩:=r;cases (show T="str" from ty);exact⟨typeIs_str s z t,λ_ e=>nomatch e⟩
 |int i=>
  let⟨t,rfl⟩:=r;cases (show T="int" from ty);exact⟨typeIs_int s i t,λ_ e=>nomatch e⟩
 |ref p=>
  cases r;rcases ty with⟨rfl,m,l⟩ |⟨rfl,o,d,k,hd⟩ |⟨rfl,d⟩ |⟨rfl,S,n,d⟩
  .obtain⟨bf,_,pl,_⟩:=I.list l;refine⟨pl.isList.typeIs,λa e=>?_⟩;cases e;let⟨o,n,e,c,hd,_⟩:=pl;exact⟨o,e,hd⟩
  .refine⟨⟨o,I.cy p o d,k⟩,λa e=>?_⟩;cases e;exact⟨o,I.cy _ o d,hd⟩
  .have z:∃o,s.heap.get? p=some o/\o.ExactDict:=by
    rcases d with⟨g,d⟩ |⟨g,d⟩
    .obtain⟨_,_,_,_,o,_,_,e,ex,_⟩:=I.aV p _ d;exact⟨o,e,ex⟩
    .obtain⟨_,_,_,_,o,_,_,e,ex,_⟩:=I.aV p _ d;exact⟨o,e,ex⟩
   let⟨o,e,ex⟩:=z;refine⟨⟨o,e,ex.1⟩,λa f=>?_⟩;cases f;exact⟨o,e,ex.2.1⟩
  .obtain⟨o,_,_,_,e,ex,_⟩:=I.aV p _ d;refine⟨⟨o,e,ex.1⟩,λa f=>?_⟩;cases f;exact⟨o,e,ex.2.1⟩
 |_=>exact False.elim ty
def uX(K:ao)(T:String)(r:V->ax->Hp->VK->Prop)(e:TE)(t:TA):TE:=λj H Q=>e j H λx c=>Ae K T x c/\t j c λf d=>r x f d Q
variable{o e:Expr}{es:bS}{to:TE}{t:TA}{name:Str}{apos bB:Pos}{T id:String}{r:V->ax->Hp->VK->Prop}
theorem zk(A:PlainAttrs T)(slot:Slot T name id)(i:typeOf (.builtin id)=pure (.type "method_descriptor"))(hm:IX X id r)(z:PE X o to)(ha:PA X (e::es) t)(d:do attributeBase o name X.env (eval o X.env)=eval o X.env)(g:((backTo bB (starEach (e::es) X.env)).all (λx=>!x.1)&&(backToKw bB (keywordEach [] X.env)).all (λx=>x.1.isSome)
   && decide ((e::es).length+([]:List Keyword).length+(if ([]:List Keyword).isEmpty then 0 else 1)<30))=true:=by rfl)(f:do (apos.endLine == bB.line)=true)(hs:do dN e es X.env)(c:do eX bB es X.env):
  PE X (.Call (.Attribute o name apos) (e::es) [] bB) (uX X.K T r to t):=by
 intro aa s j H Q I h;refine wpAny_Call_method_late d g f rfl (bo (z aa s j H _ I h) λv D k=>?_);∎;let⟨x,p,m,r1,ty,B⟩:=k;let⟨w,y⟩:=WC m r1 ty;∎;refine⟨T,id,A,slot,i,w,y,?_⟩;have n:=ha bB aa D j p _ m B;rw[hs] at n ⊢;refine Calls.callWith_builtin (by show (false || (backTo bB (starEach es X.env)).any (·.1))=false;rw[c]<;>rfl) (Calls.evalArgs_plain ?_);exact bo n λus E l=>by let⟨vs,q,u,r2,C⟩:=l;exact hm aa E j q x vs v us Q u r1 r2 C
end
def u9(X:Cx)(id:String)(r:V->ax->Hp->VK->Prop):Prop:=
 ∀(aa:aT)(s:aj)(j:St)(H:Hp)(x:V)(a:ax)(v:ag)(us:aJ)(Q:VK),aw X aa j H s->aK x v->aF a us->r x a H Q->
  wpAny (model X.prog X.w) X.A (call (.builtin id) (v::us)) (EP X aa j Q) X.xe s
theorem aF.one:∀{x:V}{us:aJ},aF [x] us->∃u,us=[u]/\aK x u
 |_,_,.cons r .nil=>⟨_,rfl,r⟩
section
variable{X:Cx}{aa:aT}{σ:St}{H:Hp}{s:aj}{l b:ah}{xs ys zs:ax}
theorem aw.qW{bf its':aJ}{n:Nat}{f:cO->cO}{t':Nat}(I:aw X aa σ H s)(a:H l=some (.ak xs))(e:s.heap.get? l=some { cls:=.type "list",data:=.seq bf.toArray n })(d:f bf.toArray=its'.toArray)(h:aF ys its')(hz:ys.length<=sizeLine):
  aw X aa σ (a6 H l (.ak ys)) { s with heap:=s.heap.update l (Obj.mapSeq f),toks:=t' }:=by
 have q:=PySem.IsL.update e f;rw[d] at q;refine I.write (x:=l) (e:=l) (by rw[a];exact trivial) (.inl rfl) (λi u c g=>(Heap.get?_update_other s.heap (Obj.mapSeq f) (Ne.symm c)).trans g) ⟨_,q⟩ ?_;exact⟨hz,its',_,h,q⟩
theorem aw.zg(I:aw X aa σ H s)(a:aF ys bf)(hz:ys.length<=sizeLine):
  aw X aa σ (a6 H ⇑s (.ak ys)) { s with heap:=s.heap.push { cls:=.type "list",data:=.seq bf.toArray },toks:=t' }:=
 I.laid (λ_ _ q=>Heap.get?_push_of_some _ q) (le_refl _) ⟨hz,bf,0,a,Heap.get?_push_size _ rfl⟩
theorem aw.fresh(I:aw X aa σ H s):H ⇑s=none:=I.aV.fresh (le_refl _)
theorem aw.qX(I:aw X aa σ H s)(a:H l=some (.ak xs)):xs.length<=sizeLine/\∃(bf:aJ)(n:Nat),aF xs bf/\xs.length=bf.length/\s.heap.get? l=some { cls:=.type "list",data:=.seq bf.toArray n }:=by
 let⟨z,bf,n,r,e⟩:=I.aV l _ a;exact⟨z,bf,n,r,r.length,e⟩
end
section
variable{X:Cx}
def BF:V->ax->Hp->VK->Prop:=λx vs H Q=>∃l a y,x=.ref l/\vs=[y]/\H l=some (.ak a)/\a.length<sizeLine/\Q .aX (a6 H l (.ak (a++[y])))
theorem Pp:u9 X "list.append" BF:=by
 intro aa s j H x vs v us Q I f d h;let⟨l,k,y,rfl,rfl,b,i,q⟩:=h;cases f;∎;let⟨u,rfl,c⟩:=d.one;let⟨z,a,n,r,g,e⟩:=I.qX b;∎;refine call_meets F.slot_list_append ⟨_,e,rfl⟩ F.entry_list_append (F.args_list_append_2 _ _) (PySem.list_append l a.toArray n u (by rw[size_toArray];omega)) ⟨e,?_⟩;refine⟨.aX,_,I.qW (its':=a++[u]) b e (by simp) (r.append (.cons c .nil)) ?_,rfl,q⟩;rw[length_append,List.length_singleton];omega
end
end L2
namespace Att
open PySem PySem.W PySem.Calls PyProof.Rows
theorem LS:∀(ns:d3)(vs:aJ),WellAll P h vs (ns.map WData.int)->IntsAre vs ns:=by
 intro ns
 induction ns with
 |nil=>
  intro vs w;rw[List.map_nil] at w;cases w;exact .nil
 |cons n ns c=>
  intro vs w;rw[map_cons] at w;cases w with
  |cons a b=>
   cases a;exact .cons _ _ (c _ b)
theorem Pq{l:OpenLaw}{n:Nat}(hn:l.most=some n){P:Params}{h:aP}{args:List WData}{c:aJ}(b:l.row.toRowW.claim.pre args=true)(k:WellAll P h c args):
  ∃a vs ns,c=[Value.ref a]/\args=[WData.list (ns.map WData.int)]/\h.get? a=some { cls:=.type "list",data:=.seq vs.toArray }/\IntsAre vs ns/\ns.length<=n:=by
 have j:WShape.hasAll [] args [.list .int]=true:=(pre_splitW b).1;have m:l.pre.holds [] { args:=args }=true:=(pre_splitW b).2;let⟨d,r,rfl,o,p⟩:=hasAllW_cons j;obtain rfl:=hasAllW_nil p;∎;let⟨y,rfl,s⟩:=hasW_list o;let⟨ns,rfl⟩:=items_int s;∎;have f:ns.length<=n:=by
  unfold OpenLaw.pre at m;have g:(WTm.not (.lt (.lit (.int (n:Int))) (.len (.arg 0)))).holds [] { args:=[.list (ns.map .int)] }=true:=by
   have g:=(holds_andW m).1;rw[hn] at g;exact g
  have i:=condW_of g (w_not (w_lt w_lit (w_len_list (w_arg rfl))));rw[length_map] at i;refine Nat.le_of_not_lt λq=>?_
  have v:(n:Int)<((ns.length:Nat):Int):=⋯
  first
   |(rw[decide_eq_true v] at i;exact absurd i ∎)
   |(simp at i;omega)
 cases k with
 |cons w x=>
  cases x;cases w with
  |list u e=>exact⟨_,_,ns,rfl,rfl,u,LS ns _ e,f⟩
theorem Pr(l:OpenLaw)(args:List WData):l.row.toRowW.claim.post args (.bool true) args=true:=
 postW_of (r:=l.row.toRowW) (X:=(true == true))
  (show WShape.has [] (.bool true) .bool=true by first |rfl |decide |simp[WShape.has,WShape.arms,WShape.armsAll])
  (show (WTm.eq .res (.lit (.bool true))).value [] { args:=args,res:=some (.bool true),after:=args }=some (.bool (true == true)) from w_eq_bool (w_res rfl) w_lit) rfl
theorem fV{l:OpenLaw}{n:Nat}{q:Program}{c:ae}{x:(bA)->aP->Prop}{y:World->aP->Prop}{d:DefRec}(hn:l.most=some n)(p:d.params.defaults=[])(call:∀(w:World)(s₀ b:aj)(mg v:bA)(g:ah)(o:Obj)(pm k doc:ag)(a:ah)(vs:aJ)(ns:d3),
   Ground q c [] x w s₀ mg v b.heap->y w b.heap->
   b.heap.get? g=some o->o.data=.func (docDef d.name d.params d.body d.scope pm k doc)->b.heap.CodeRec k d.name->mg d.name=some (.ref g)->
   b.heap.get? a=some { cls:=.type "list",data:=.seq vs.toArray }->IntsAre vs ns->ns.length<=n->b.gens=#[]->
   codeAny (model l.prog w) callerA (.call (.ref g) ⟨[.ref a],[]⟩) (λr s'=>r=.ok (.ret (.bool true))/\OldK b.heap s'.heap/\s'.os=b.os/\AllBare s'.gens) b):
  WalkO q c x y l.row.toRowW d [] (λf vs=>PySem.call f vs):=by
 intro w s₀ b mg v G Y g o pm k doc C kV L hd m z s I args B as j A N u J;obtain rfl:C=.none:=Dflts.none z p;obtain rfl:kV=.none:=Dflts.noKw z;let⟨a,vs,ns,rfl,rfl,i,e,h⟩:=Pq hn j u;refine enter_call (codeAny_mono (call w s₀ b mg v g o pm k doc a vs ns G Y L (fd_plain hd) m s i e h I) λr s' M=>?_);let⟨rfl,D,E,H⟩:=M;exact⟨.inl ⟨.bool true,.bool true,[],rfl,λ_=>rfl,.bool true,Pr l _,λ_=>⟨List.Pairwise.nil,λ_ hm=>(nomatch hm)⟩⟩,D,E,H⟩
end Att
namespace L2
open PySem PySem.Spec PyProof.Rows
theorem EH:∀{vs:aJ}{ns:d3},IntsAre vs ns->aF (ns.map V.int) vs
 |_,_,.nil=>.nil
 |_,_,.cons n t h=>.cons ⟨t,rfl⟩ (EH h)
def wF(H:Hp):Prop:=∀b,H b=none\/∃o a,H b=some (.aU o (.ak a))
theorem QQ{P:Program}{w:World}{K:ao}{mg N:bA}{CX:fj}{k:Nat}{I a:ah}{Y:FuncData}{x:Str}{sp:Sp}{c:aj}{vs:aJ}{ns:d3}(Q:K.In c.heap)(B:c.heap.Ns mainGlobals mg)(g:c.heap.Ns builtinsNs N)(L:∀x:Str,x≠"__name__"->N x=bootBuiltins x)(A:c.heap.NoLimit)(hg:c.gens=#[])(ha:c.heap.get? a=some { cls:=.type "list",data:=.seq vs.toArray })(hi:IntsAre vs ns)(hl:ns.length<=sizeLine)(hr:bj k callerA)(F:∀base:Heap,K.In base->base.Ns mainGlobals mg->aB P w K mg base CX k I Y [x] sp)(j:∀(s:aj)(u:ag),BindsTo s Y ⟨[u],[]⟩ [(x,u)])(M:∀H:Hp,wF H->bM K H a (ns.map V.int)->sp [.ref a] H (λv _=>v=.bl true) λ_ _ _=>False)(J:∀H e s',CX [] H c (λ_ _ _=>False) e s'->False):
  codeAny (model P w) callerA (.call (.ref I) ⟨[.ref a],[]⟩) (λr s'=>r=.ok (.ret (.bool true))/\OldK c.heap s'.heap/\s'.os=c.os/\AllBare s'.gens) c:=by
 have rv:=EH hi;have D:=hi.length;have core:∀H:Hp,wF H->bM K H a (ns.map V.int)->cL P w H c.heap->(∀b,H b≠none->b=a)->(H a≠none->K.lookup a=none)->
   codeAny (model P w) callerA (.call (.ref I) ⟨[.ref a],[]⟩) (λr s'=>r=.ok (.ret (.bool true))/\OldK c.heap s'.heap/\s'.os=c.os/\AllBare s'.gens) c:=by
  intro H hO hS aV hA hK;have f:∀{b:ah}{o:Obj},c.heap.get? b=some o->H b=none->(j5 c.heap H).get? b=some o:=λe n=>Ro e n
  have O:∀{b:ah}{o:Obj}{p:Array DictEntry}{l:Nat},c.heap.get? b=some o->o.data=.dict p l->H b=none:=λ{b o p l} e d=>by
   cases q:H b with
   |none=>rfl
   |some u=>
    have G:b=a:=hA b (by rw[q];simp);subst G;rw[ha] at e;cases e;have d':Data.seq vs.toArray _=Data.dict p l:=d;cases d'
  have i:∀{b:ah}{m:bA},c.heap.Ns b m->(j5 c.heap H).Ns b m:=λ{b m} ⟨o,p,l,e,d,r⟩=>⟨o,p,l,f e (O e d),d,r⟩
  have y:K.In (j5 c.heap H):=λb o e=>f (Q b o e) (by
   cases q:H b with
   |none=>rfl
   |some u=>
    have G:b=a:=hA b (by rw[q];simp);subst G;rw[hK (by rw[q];simp)] at e;cases e)
  have hM:Mod K mg (j5 c.heap H):=⟨y,i B,⟨N,i g,L⟩,let ⟨mc,h1,h2⟩:=A;⟨mc,i h1,h2⟩⟩
  have e0:gw P w K mg (j5 c.heap H) callerA [] c H:=⟨rfl,hM,λb o e=>TU e,Nat.le_of_eq (OI _ _),trivial,λb g=>absurd (show b∈([]:bV) from g) (by simp),aV,.of_eq hg⟩
  refine codeAny_mono ((F _ y (i B)).run callerA [] c H ⟨[.ref a],[]⟩ [.ref a] [.ref a] _ _ hr e0 (j c (.ref a)) (.cons rfl .nil) (M H hO hS)) λr s' h=>?_
  cases r with
  |error e=>exact (J H e s' h).elim
  |ok fl=>
   cases fl with
   |next=>exact False.elim h
   |brk=>exact False.elim h
   |cont=>exact False.elim h
   |ret u=>
    let⟨v,H',os,bare,un,C,r',q⟩:=h;have q':v=.bl true:=q;subst q';obtain rfl:u=Value.bool true:=r';refine⟨rfl,OldK.of_keep λb o e=>?_,os,bare⟩;cases q:H b with
    |none=>exact un.keep b o e q (by intro z;exact absurd (show b∈([]:bV) from z) (by simp)) (by simp)
    |some u=>
     rcases hO b with z |⟨ob,xs,z⟩
     .rw[q] at z;cases z
     .have z2:=un.bP b ob _ z;let⟨U,_⟩:=aV b _ z;let⟨e2,_⟩:=C b _ z2;rw[e] at U;cases U;exact e2
 cases hk:K.lookup a with
 |some o=>
  have e:=Q a o hk;rw[ha] at e;cases e;refine core (λ_=>none) (λ_=>.inl rfl) (.inr ⟨_,vs.toArray,_,hk,rfl,rfl,rfl,by rw[size_toArray,D];exact hl,by simpa using rv⟩) (λb u z=>by have E:(none:Option HO)=some u:=z;cases E) (λb z=>absurd rfl z) λz=>absurd rfl z
 |none=>
  refine core (λb=>if b=a then some (.aU { cls:=.type "list",data:=.seq vs.toArray } (.ak (ns.map V.int))) else none) (λb=>?_) (.inl (.inr ⟨{ cls:=.type "list",data:=.seq vs.toArray },if_pos rfl⟩)) (λb u z=>?_) (λb z=>?_) λ_=>hk
  .by_cases g:b=a
   .exact .inr ⟨_,_,if_pos g⟩
   .exact .inl (if_neg g)
  .by_cases g:b=a
   .have E:=(if_pos g).symm.trans z;cases E;subst g;exact⟨ha,by rw[length_map];exact hl,vs,_,rv,ha⟩
   .have E:=(if_neg g).symm.trans z;cases E
  .by_cases g:b=a
   .exact g
   .exact absurd (if_neg g) z
theorem kD{l:W.OpenLaw}{n k:Nat}{q:Program}{j:ae}{J:(bA)->aP->Prop}{I:World->aP->Prop}{d:DefRec}{K:Params->ao}{CX:World->fj}{sp:World->Sp}{x:Str}(hn:l.most=some n)(C:n<=sizeLine)(A:d.params.defaults=[])(hr:bj k callerA)(O:∀(w:World)(h:aP),I w h->(K w.params).In h)(F:∀(w:World)(mg:bA)(r:ah)(h:aP),(K w.params).In h->h.Ns mainGlobals mg->mg d.name=some (.ref r)->
   ∃y:FuncData,(∀(s:aj)(u:ag),BindsTo s y ⟨[u],[]⟩ [(x,u)])/\
    ∀base:Heap,(K w.params).In base->base.Ns mainGlobals mg->aB l.prog w (K w.params) mg base (CX w) k r y [x] (sp w))(D:∀(w:World)(H:Hp)(a:ah)(ns:d3),ns.length<=n->wF H->bM (K w.params) H a (ns.map V.int)->sp w [.ref a] H (λv _=>v=.bl true) λ_ _ _=>False)(z:∀(w:World)(H:Hp)(s:aj)(e:ag)(s':aj),CX w [] H s (λ_ _ _=>False) e s'->False):
  W.WalkO q j J I l.row.toRowW d [] (λf vs=>PySem.call f vs):=by
 refine Att.fV hn A λw s₀ p mg mb r o pm cd doc a vs ns G Y ho hd U B m i c hg=>?_
 have E:=O w _ Y;let⟨y,Q,L⟩:=F w mg r _ E G.T.g B;exact QQ E G.T.g G.T.b G.T.builtins G.T.nolimit hg m i (le_trans c C) hr L Q (λH M N=>D w H a ns c M N) λH e s'=>z w H p e s'
def inClass(s:Stmt)(j:Nat):Stmt:=match s with
 |.ClassDef _ _ _ a _ _ _ _ _ _ _=>a.getD j (.Pass ⟨0,0,0,0⟩)
 |_=>.Pass ⟨0,0,0,0⟩
def nk(s:Stmt):Arguments:=match s with
 |.FunctionDef _ a _ _ _ _ _ _ _ _=>a
 |_=>{ posonlyargs:=[],args:=[],vararg:=none,kwonlyargs:=[],kw_defaults:=[],kwarg:=none,defaults:=[] }
def iu(s:Stmt):List Stmt:=match s with
 |.FunctionDef _ _ b _ _ _ _ _ _ _=>b
 |_=>[]
def bh(s:Stmt):Scope:=match s with
 |.FunctionDef _ _ _ _ _ _ sc _ _ _=>sc
 |_=>{ kind:=.function,names:=[],isGenerator:=false,isCoroutine:=false }
abbrev bq:fj:=λ_ _ _ _ _ _=>False
abbrev E0:XK:=λ_ _ _=>False
theorem uv:lV bq X E0:=λ_ _ _ _ _ _ _ h=>h.elim
structure gx(K:ao)(x qual:Str)(st:Stmt)(f:ah)(fd:FuncData):Prop where
 ex:∃(oc:ag)(od:fw)(kV doc pm:ag)(an:fw)(aR ct:ag)(osl:Array (dO)),
  fd=W.fnOf x qual (nk st) (iu st) (bh st) .none kV doc pm an aR ct/\K.lookup f=some ⟨oc,od,.func fd,osl⟩/\W.codeIn K aR qual=true
 kp:W.keepIn K (.ref f)=true
section
variable{P:Program}{w:World}{K:ao}{mg:bA}{base:aP}
theorem gx.ok{x a:Str}{st:Stmt}{f:ah}{e:FuncData}{N ps:ae}{k:Nat}{sp:Sp}(F:gx K x a st f e)(S:adr N ps (bh st))(len:∀vs H Q E,sp vs H Q E->vs.length=ps.length)(b:∀(aR:ag)(A:Around)(outer:b5)(s:aj)(H:Hp)(vs:ax)(Q:VK)(E:XK),bj k (A.deeper (envOfC a (bh st) ⇑s f aR))->sp vs H Q E->
   ∃t,eW (iB bq P w K mg base N a (bh st) f aR A outer s H E).og (iu st) t/\t { nx:=λ_ g=>Q .aX g,rt:=Q } (start N vs) H):aB P w K mg base bq (k+1) f e ps sp:=by
 let⟨oc,od,kV,doc,pm,an,aR,ct,osl,rfl,j,c⟩:=F.ex;refine HG j c S len λA outer s H vs Q E i d=>?_
 let⟨t,h,q⟩:=b aR A outer s H vs Q E i d;exact⟨t,h.og,q⟩
theorem gx.binds{x a:Str}{st:Stmt}{f:ah}{b:FuncData}{ps:ae}(F:gx K x a st f b)(h:∀(kV doc pm:ag)(an:fw)(aR ct:ag)(us:aJ),us.length=ps.length->bindArgs (W.fnOf x a (nk st) (iu st) (bh st) .none kV doc pm an aR ct) ⟨us,[]⟩=pure (ps.zip us)):Binds K b ps []:=by
 let⟨oc,od,kV,doc,pm,an,aR,ct,osl,rfl,d,c⟩:=F.ex;exact .all (h kV doc pm an aR ct)
theorem WD{x a:Str}{st:Stmt}{f:ah}{oc:ag}{od an:fw}{osl:Array (dO)}{kV doc pm aR ct:ag}(l:K.lookup f=some ⟨oc,od,.func (W.fnOf x a (nk st) (iu st) (bh st) .none kV doc pm an aR ct),osl⟩)(c:W.codeIn K aR a=true)(k:W.keepIn K (.ref f)=true):gx K x a st f (W.fnOf x a (nk st) (iu st) (bh st) .none kV doc pm an aR ct):=⟨⟨oc,od,kV,doc,pm,an,aR,ct,osl,rfl,l,c⟩,k⟩
end
theorem HM(a:bj k A):A.units+1<cLine:=Nat.lt_of_le_of_lt (Nat.add_le_add_left (by decide:1<=64) _) a.units
section
variable{X:Cx}
theorem pv(i:Nat)(b:do X.N[i]?=some x)(c:jP X.env.scope x:=by first |exact Or.inl rfl |exact Or.inr (Or.inl rfl) |exact Or.inr (Or.inr rfl))(hd: ~~~(cD x))(a: ~~~((x == ("__classdict__":Str))=false)):PE X (.Name x pos) (jv i):=lu b c hd a
end
def aA(H H':Hp):Prop:=∀b o,H b=some o->H' b=some o
theorem aA.refl(H:Hp):aA H H:=λ_ _ h=>h
theorem aA.trans(a:aA H H1)(b:aA H1 H2):aA H H2:=λc o h=>b c o (a c o h)
theorem aA.free{H a:Hp}(e:aA H a)(h:a l=Option.none):H l=Option.none:=by
 cases q:H l with
 |none=>rfl
 |some o=>
  rw[e l o q] at h;cases h
theorem aA.seq{K:ao}{H b:Hp}{a:ah}{xs:ax}(e:aA H b)(h:bM K H a xs):bM K b a xs:=by
 rcases h with (h |⟨o,h⟩) |h
 .exact .inl (.inl (e _ _ h))
 .exact .inl (.inr ⟨o,e _ _ h⟩)
 .exact .inr h
section
variable{X:Cx}
theorem Pt:a9 X (.builtin "len") (λxs H Q=>∃a kvs,xs=[V.ref a]/\H a=some (.dK kvs)/\Q (.int kvs.length) H):=by
 intro aa s j H xs us Q I r h;∎;let⟨a,kvs,rfl,ha,q⟩:=h;let⟨u,rfl,c⟩:=gX r;∎;cases c;exact Yw I (.inl ha) λt d b=>⟨.int kvs.length,H,b,⟨t,rfl⟩,q⟩
end
end L2
set_option Elab.async false
set_option linter.all false
set_option maxRecDepth 100000
set_option maxHeartbeats 4000000
namespace L2
open PySem PySem.Spec PyProof.Rows
def dI(_ j:Int):Prop:=j≠0/\j.natAbs<2 ^ 8000
theorem dI.ok(h:dI i j):Builtin.divisionGoesByPylong i j=false:=by
 refine PyProof.noPylong_of_log2 ?_;have a:j.natAbs≠0:=by have:=h.1;omega
 have:=(Nat.log2_lt a).mpr h.2;omega
section
variable{X:Cx}
theorem QR:bZ X (binaryOp .FloorDiv) (rI dI λi j=>.int (i.fdiv j)):=zO λ_ _ _ _ _ _ _ a q=>floordiv_int a.1 q (.inl a.ok)
end
theorem ER(h:(fJ P w).is k u=true):aK (kV k) u:=by
 rcases jf (k:=k) (v:=u) h with⟨i,t,rfl,rfl⟩ |⟨x,t,rfl,rfl⟩
 .exact⟨t,rfl⟩
 .exact⟨t,rfl⟩
theorem KV.at(r:KV kvs vs):∀{i:Nat}{k:bD}{v:V},kvs[i]?=some (k,v)->∃u,vs[i]?=some (k,u)/\aK v u:=by
 unfold KV at r
 induction r with
 |nil=>intro i k v h;simp at h
 |@cons p q c d h t b=>
  intro i k v e;cases i with
  |zero=>
   simp at e;subst e;have a:k=q.1:=h.1;exact⟨q.2,by rw[a];rfl,h.2⟩
  |succ i=>simpa using b (i:=i) (k:=k) (v:=v) (by simpa using e)
section
variable{X:Cx}
theorem Ot(M:X.calm=true):a9 X (.type "list") (λxs H Q=>∃a kvs,xs=[.ref a]/\Rd H a (.dK kvs)/\∀p,H p=none->Q (.ref p) (a6 H p (.ak (kvs.map λg=>kV g.1)))):=by
 intro aa s i H xs us Q I r h;∎;let⟨a,kvs,rfl,ha,q⟩:=h;let⟨u,rfl,U⟩:=gX r;∎;cases U;∎;let⟨z,y,vs,l,J⟩:=mz I.aV ha;let⟨ep,A⟩:=J.dictAt;∎;have D:kvs.length=vs.length:=KV.length l;refine W.kdl_call (W.kdl_dict (knd:=fJ X.prog X.w) (kvs:=vs) (ep:=ep) y) (I.ok.hd M) A (by rw[<- D];exact z) λh' tk b G N L c=>?_
 have B:H ⇑s=none:=I.aV.fresh (le_refl _);refine⟨.ref ⇑s,_,I.laid (a:=⇑s) (o:=.ak (kvs.map λg=>kV g.1)) (h':=h') (t':=tk) N (le_refl _) ⟨by rw[length_map];exact z,b.toList,G,?_,by simpa using L⟩,rfl,q _ B⟩;have hn:b.toList.length=vs.length:=by rw[length_toList];exact c.1
 have gen:∀(kvs:iM)(us:aJ),us.length=kvs.length->(∀(j:Nat) k v u,kvs[j]?=some (k,v)->us[j]?=some u->aK (kV k) u)->aF (kvs.map λg=>kV g.1) us:=by
  intro kvs
  induction kvs with
  |nil=>intro us e _;cases us with
   |nil=>exact .nil
   |cons _ _=>simp at e
  |cons p r O=>
   intro us e f;cases us with
   |nil=>simp at e
   |cons u us=>
    refine .cons (f 0 p.1 p.2 u rfl rfl) (O us (by simpa using e) λj k v w m n=>f (j+1) k v w (by simpa using m) (by simpa using n))
 refine gen kvs b.toList (by rw[hn,D]) λj k v u m n=>?_
 ∎;let⟨Y,x,E,d⟩:=c.2 j u (by rw[<- Array.getElem?_toList];exact n);let⟨u',C,_⟩:=l.at m;∎;rw[C] at E;cases E;exact ER d
def l0:V->dO
 |.ty n=>some (.type n)
 |.ref a=>some (.ref a)
 |_=>none
theorem QU:a9 X (.builtin "isinstance") (λxs H Q=>∃x c t b u,xs=[x,c]/\dP X.K H x t/\l0 c=some u/\W.kitOne X.K t u=some b/\Q (.bl b) H):=by
 intro aa s j H xs us Q I r h;∎;let⟨x,c,t,b,u,rfl,ty,d,e,q⟩:=h;let⟨v,l,rfl,k,f⟩:=qH r;∎;have g:l=u:=by
  cases c with
  |ref a=>cases d;exact f
  |ty n=>cases d;exact f
  |aX=>cases d
  |bl n=>cases d
  |int i=>cases d
  |str i=>cases d
  |fW i=>cases d
  |jK i=>cases d
 subst g;exact OR I k ty e λtk=>⟨.bl b,H,I.tok tk,rfl,q⟩
end
theorem me(A:Around):A.in1.units=A.units+1:=rfl
section
variable{σ:St}{H:Hp}{Q:VK}{D:Ends}{K:ao}
theorem aA.a6(h:H a=none):aA H (a6 H a o):=λb u e=>by rw[bR (hZ e h)];exact e
theorem aA.aY(e:aA H H')(h:cZ K H a xs):cZ K H' a xs:=by
 rcases h with (h |⟨o,h⟩) |h
 .exact .inl (.inl (e _ _ h))
 .exact .inl (.inr ⟨o,e _ _ h⟩)
 .exact .inr h
theorem aA.rd(e:aA H H')(h:Rd H a u):Rd H' a u:=by
 rcases h with h |⟨o,h⟩
 .exact .inl (e _ _ h)
 .exact .inr ⟨o,e _ _ h⟩
end
section
variable{σ:St}{H:Hp}{Q:VK}{D:Ends}{K:ao}{X:Cx}
theorem aA.mZ(e:aA H H')(n:H a=none):aA H (L2.a6 H' a o):=λb u q=>by rw[bR (hZ q n)];exact e b u q
end
end L2
namespace Sf
def gd(a b:Int):Int:=(Int.gcd a b:Nat)
theorem Ua(a:Int)(h:0<=a):gd a 0=a:=by
 unfold gd;rw[Int.gcd_zero_right];omega
theorem WE(ha:0<=a)(c:0<b):gd b (a % b)=gd a b:=by
 unfold gd Int.gcd;have e:(a % b).natAbs=a.natAbs % b.natAbs:=by
  let⟨m,rfl⟩:=Int.eq_ofNat_of_zero_le ha;let⟨n,rfl⟩:=Int.eq_ofNat_of_zero_le (Int.le_of_lt c);simp only[Int.natAbs_natCast];rw[<- Int.natCast_emod,Int.natAbs_natCast]
 rw[e,Nat.gcd_comm b.natAbs,Nat.gcd_comm a.natAbs,Nat.gcd_rec b.natAbs a.natAbs]
theorem qo(h:b≠0):0<gd a b:=by
 unfold gd;have:=Int.gcd_pos_of_ne_zero_right a h;omega
theorem WG(a b:Int):gd (a.natAbs:Int) (b.natAbs:Int)=gd a b:=by
 unfold gd;simp[Int.gcd]
theorem GY(a:Int):(if a<0 then -a else a)=(a.natAbs:Int):=by split<;>omega
theorem Td(a b:Int):gd (if a<0 then -a else a) (if b<0 then -b else b)=gd a b:=by
 rw[GY,GY,WG]
def dv(t b:Int):Int:=if b<0 then -(gd t b) else gd t b
theorem HN(h:b≠0):dv t b≠0:=by
 have:=qo (a:=t) h;unfold dv;split<;>omega
theorem ES(t b:Int):gd t b ∣ t:=Int.gcd_dvd_left ..
theorem xD(t b:Int):gd t b ∣ b:=Int.gcd_dvd_right ..
theorem QV(t b:Int):dv t b ∣ t:=by
 unfold dv;split
 .exact Int.neg_dvd.mpr (ES t b)
 .exact ES t b
theorem QX(t b:Int):dv t b ∣ b:=by
 unfold dv;split
 .exact Int.neg_dvd.mpr (xD t b)
 .exact xD t b
theorem HP{x d:Int}(h:d ∣ x):x.fdiv d*d=x:=by
 rw[Int.fdiv_mul_cancel h]
theorem QY{t b:Int}(h:b≠0):t.fdiv (dv t b)=(Rat.divInt t b).num:=by
 have hd:=HN (t:=t) h;refine Int.eq_of_mul_eq_mul_right hd ?_;rw[HP (QV t b),Rat.num_divInt];have e:b.gcd t=t.gcd b:=Int.gcd_comm ..;rw[e];have d:((t.gcd b:Nat):Int) ∣ t:=Int.gcd_dvd_left ..;have i:=qo (a:=t) h;unfold gd at i;unfold dv gd;rw[Int.mul_ediv_assoc _ d];let⟨k,f⟩:=d;generalize j:((t.gcd b:Nat):Int)=g at *;have c:t / g=k:=by rw[f];exact Int.mul_ediv_cancel_left k ⋯
 rw[c];split
 .rename_i hb;rw[Int.sign_eq_neg_one_of_neg hb];grind
 .rename_i hb;rw[Int.sign_eq_one_of_pos ⋯];grind
theorem QZ{t b:Int}(h:b≠0):b.fdiv (dv t b)=((Rat.divInt t b).den:Int):=by
 have hd:=HN (t:=t) h;refine Int.eq_of_mul_eq_mul_right hd ?_;rw[HP (QX t b),Rat.den_divInt,if_neg h];have e:b.gcd t=t.gcd b:=Int.gcd_comm ..;rw[e];have f:(t.gcd b) ∣ b.natAbs:=by rw[<- Int.ofNat_dvd_left];exact Int.gcd_dvd_right ..
 have j:=qo (a:=t) h;unfold gd at j;unfold dv gd;let⟨k,d⟩:=f;have c:b.natAbs / t.gcd b=k:=by rw[d];exact Nat.mul_div_cancel_left k ⋯
 rw[c];generalize t.gcd b=g at *;have i:(b.natAbs:Int)=(g:Int)*(k:Int):=by rw[d];exact Int.natCast_mul ..
 split<;>grind
end Sf
namespace Sf
def Sm(n:Nat)(q:Rat):Prop:=q.num.natAbs<2 ^ n/\q.den<2 ^ n
theorem EI(h:b≠0):(Rat.divInt t b).num.natAbs<=t.natAbs/\(Rat.divInt t b).den<=b.natAbs:=by
 let⟨m,hm,g,i⟩:=Rat.divInt_num_den (n:=t) (d:=b) h (n':=(Rat.divInt t b).num) (d':=(Rat.divInt t b).den) (z':=(Rat.divInt t b).den_nz) (c:=(Rat.divInt t b).reduced) rfl;have a:1<=m.natAbs:=⋯
 have f:=congrArg Int.natAbs g;have e:=congrArg Int.natAbs i;rw[Int.natAbs_mul] at f e;rw[Int.natAbs_natCast] at e;constructor
 .rw[f];exact Nat.le_mul_of_pos_right _ a
 .rw[e];exact Nat.le_mul_of_pos_right _ a
theorem Pw(h:b≠0)(a:t.natAbs<2 ^ n)(c:b.natAbs<2 ^ n):Sm n (Rat.divInt t b):=
 ⟨Nat.lt_of_le_of_lt (EI h).1 a,Nat.lt_of_le_of_lt (EI h).2 c⟩
end Sf
namespace Sf
section
variable{κ:Type}[DecidableEq κ]
abbrev FL(κ:Type):=List (κ×Rat)
def gt(m:FL κ)(k:κ):Option Rat:=(m.find? λp=>decide (p.1=k)).map (·.2)
def dr(m:FL κ)(k:κ):FL κ:=m.filter λp=>decide (p.1≠k)
def sc(m:FL κ)(n:Rat):FL κ:=m.map λp=>(p.1,p.2*n)
def run(P:κ->Rat)(r:Rat)(m:FL κ):Rat:=m.foldl (λt p=>t+p.2*P p.1) r
end
end Sf
namespace Vc
open PySem L2 Sf
def Le(F b:Hp):Prop:=∀a u,(∀o w,u≠.aU o w)->Rd F a u->Rd b a u
theorem Le.refl(F:Hp):Le F F:=λ_ _ _ h=>h
theorem Le.trans(a:Le F G)(b:Le G H):Le F H:=λx u n h=>b x u n (a x u n h)
theorem Le.of(e:aA F F'):Le F F':=λa u _ h=>e.rd h
theorem Le.aY(e:Le F F')(h:cZ K F a xs):cZ K F' a xs:=by
 rcases h with h |h
 .exact .inl (e _ _ (by intro o w z;cases z) h)
 .exact .inr h
theorem Le.ak(e:Le F F')(h:bM K F a xs):bM K F' a xs:=by
 rcases h with h |h
 .exact .inl (e _ _ (by intro o w z;cases z) h)
 .exact .inr h
theorem Le.bJ(e:Le F F')(h:Rd F a (.dK kvs)):Rd F' a (.dK kvs):=e _ _ (by intro o w z;cases z) h
def Fz(S:ah->Prop)(F:Hp):Prop:=∀a o u,F a=some (.aU o u)->S a
abbrev S0:ah->Prop:=λ_=>False
def wG(F:Hp):ah->Prop:=λa=>∃o u,F a=some (.aU o u)
structure Gr0(F H F' H':Hp):Prop where
 h:aA H H'
 f:aA F F'
 s:aA F' H'
 n:∀a u,F' a=some u->F a=none->H a=none
structure Gr(F H F' H':Hp):Prop extends Gr0 F H F' H' where
 z:Fz (wG F) F'
theorem Gr0.refl(s:aA F H):Gr0 F H F H:=⟨aA.refl _,aA.refl _,s,(λa u h e=>by rw[h] at e;cases e)⟩
theorem Fz.refl(F:Hp):Fz (wG F) F:=λ_ o u h=>⟨o,u,h⟩
theorem Gr.of(g:Gr0 F H F' H')(z:Fz (wG F) F'):Gr F H F' H':=⟨g,z⟩
theorem Gr.le(g:Gr F H F' H'):Le F F':=.of g.f
theorem Gr.fz(g:Gr F H F' H')(c:Fz S F):Fz S F':=λa o u h=>by
 let⟨b,d,e⟩:=g.z a o u h;exact c a b d e
theorem Gr0.trans(a:Gr0 F H F1 H1)(b:Gr0 F1 H1 F2 H2):Gr0 F H F2 H2:=
 ⟨a.h.trans b.h,a.f.trans b.f,b.s,(λx u h e=>match q:F1 x with
  |none=>a.h.free (b.n x u h q)
  |some w=>a.n x w q e)⟩
theorem Gr0.tr(a:Gr0 F H F1 H1)(b:Gr F1 H1 F2 H2):Gr0 F H F2 H2:=a.trans b.toGr0
theorem Gr.own{F H a b:Hp}(g:Gr F H a b)(c:F o=none)(d:H o=some u):a o=none:=by
 cases q:a o with
 |none=>rfl
 |some w=>have:=g.n o w q c;rw[d] at this;cases this
theorem al{F H:Hp}{R:V->Hp->Prop}(i:aA F H)(k:∀x u,o≠.aU x u)(h:∀(p:ah)(f g:Hp),Gr F H f g->f p=some o->R (.ref p) g):∀p,H p=none->R (.ref p) (a6 H p o):=λp d=>by
 have j:F p=none:=i.free d;refine h p (a6 F p o) (a6 H p o) ⟨⟨aA.a6 d,aA.a6 j,?_,λa u e q=>?_⟩,λa x u e=>?_⟩ e7
 .intro b u e;by_cases c:b=p
  .subst c;rw[e7] at e ⊢;exact e
  .rw[bR c] at e ⊢;exact i b u e
 .by_cases c:a=p
  .subst c;exact d
  .rw[bR c,q] at e;cases e
 .by_cases c:a=p
  .subst c;rw[e7] at e;exact absurd (Option.some.inj e) (k x u)
  .rw[bR c] at e;exact⟨_,_,e⟩
theorem K0{F H:Hp}{R:Hp->Prop}(j:aA F H)(i:∀x u,o≠.aU x u)(c:H p=none)(h:∀b a:Hp,Gr F H b a->b p=some o->R a):R (a6 H p o):=by
 have:=al (R:=λv a=>∀q,v=.ref q->q=p->R a) j i (λq b a g e z f d=>by cases f;subst d;exact h b a g e) p c;exact this p rfl rfl
theorem xb{F H:Hp}(f:aA F H)(d:∀x u,o≠.aU x u)(c:H p=none):∃a,Gr F H a (a6 H p o)/\a p=some o:=
 K0 (R:=λb=>∃a,Gr F H a b/\a p=some o) f d c λa _ g e=>⟨a,g,e⟩
theorem aU{i g F H:Hp}(gb:Gr0 i g F H)(k:Fz S F)(d:g p=none)(j:F p=none)(l:H p=some o)(m:∀x u,o≠.aU x u):∃c,Gr0 i g c H/\Fz S c/\aA F c/\c p=some o/\∀a,a≠p->c a=F a:=by
 refine⟨a6 F p o,⟨gb.h,gb.f.trans (aA.a6 j),?_,λa u e q=>?_⟩,λa x u e=>?_,aA.a6 j,e7,λ_ e=>bR e⟩
 .intro b u e;by_cases d:b=p
  .subst d;rw[e7] at e;cases e;exact l
  .rw[bR d] at e;exact gb.s b u e
 .by_cases hb':a=p
  .subst hb';exact d
  .rw[bR hb'] at e;exact gb.n a u e q
 .by_cases hb':a=p
  .subst hb';rw[e7] at e;exact absurd (Option.some.inj e) (m x u)
  .rw[bR hb'] at e;exact k a x u e
theorem Te{F:Hp}(c:Fz S0 F)(h:Rd F a (.dK kvs)):F a=some (.dK kvs):=by
 rcases h with h |⟨o,h⟩
 .exact h
 .exact (c _ _ _ h).elim
abbrev Rep(j:Type):=Hp->V->j->Prop
def r2(K:ao){j y:Type}(A:Rep j)(B:Rep y):Rep (j×y):=λF v x=>∃a v1 b,v=.ref a/\cZ K F a [v1,b]/\A F v1 x.1/\B F b x.2
def r3(K:ao){j y u:Type}(A:Rep j)(B:Rep y)(C:Rep u):Rep (j×y×u):=λF v x=>∃a v1 b c,v=.ref a/\cZ K F a [v1,b,c]/\A F v1 x.1/\B F b x.2.1/\C F c x.2.2
def r5(K:ao){j y u f g:Type}(A:Rep j)(B:Rep y)(C:Rep u)(D:Rep f)(E:Rep g):Rep (j×y×u×f×g):=λF v x=>∃a v1 b c d e,v=.ref a/\cZ K F a [v1,b,c,d,e]/\A F v1 x.1/\B F b x.2.1/\C F c x.2.2.1/\D F d x.2.2.2.1/\E F e x.2.2.2.2
def bl(n:Nat):Nat:=if n=0 then 0 else Nat.log2 n+1
theorem pq:n<2 ^ k↔bl n<=k:=by
 unfold bl;by_cases h:n=0
 .subst h;simp[Nat.two_pow_pos]
 .rw[if_neg h,<- Nat.log2_lt h];omega
def bi(x:Int):Nat:=bl x.natAbs
def bs(q:Rat):Nat:=max (bl q.num.natAbs) (bl q.den)
theorem Yy(h:Sm n q):bs q<=n:=by
 have a:=pq.mp h.1;have b:=pq.mp h.2;unfold bs;omega
theorem qA(h:x.natAbs<2 ^ k):bi x<=k:=pq.mp h
theorem nY(h:bi x<=k):x.natAbs<2 ^ k:=pq.mpr h
theorem ET(k:Nat)(h:x.natAbs<2 ^ k):bi x<=k:=pq.mp h
theorem WH(q:Rat):bi q.num<=bs q:=by unfold bi bs;omega
theorem WI(q:Rat):bi (q.den:Int)<=bs q:=by unfold bi bs;rw[Int.natAbs_natCast];omega
theorem EJ(h:b≠0)(a:bi t<=k)(c:bi b<=k):bs (Rat.divInt t b)<=k:=Yy (Pw h (nY a) (nY c))
def je(K:ao)(H:Hp)(x:V)(t:ag):Prop:=dP K H x t\/(t=.type "tuple"/\∃a c,x=.ref a/\cZ K H a c)\/(t=.type "list"/\∃a c,x=.ref a/\bM K H a c)\/(t=.type "dict"/\∃a b,x=.ref a/\Rd H a (.dK b))
section
variable{K:ao}{H:Hp}
theorem WJ(h:cZ K H a xs):je K H (.ref a) (.type "tuple"):=.inr (.inl ⟨rfl,a,xs,rfl,h⟩)
theorem WK(h:bM K H a xs):je K H (.ref a) (.type "list"):=.inr (.inr (.inl ⟨rfl,a,xs,rfl,h⟩))
theorem WL(h:Rd H a (.dK kvs)):je K H (.ref a) (.type "dict"):=.inr (.inr (.inr ⟨rfl,a,kvs,rfl,h⟩))
theorem WM:je K H (.int i) (.type "int"):=.inl (.int i)
theorem WN:je K H (.str i) (.type "str"):=.inl (.str i)
theorem Yz:je K H (.bl i) (.type "bool"):=.inl (.bl i)
theorem WO:je K H .aX (.type "NoneType"):=.inl .aX
end
section
open PySem.Spec PyProof.Rows
variable{X:Cx}
theorem Q0:a9 X (.builtin "isinstance") (λxs H Q=>∃x c t b u,xs=[x,c]/\je X.K H x t/\l0 c=some u/\W.kitOne X.K t u=some b/\Q (.bl b) H):=by
 intro aa s j H xs us Q I r h;let⟨x,c,t,b,u,rfl,ty,d,e,q⟩:=h;rcases ty with ty |⟨rfl,a,B,rfl,k⟩ |⟨rfl,a,B,rfl,k⟩ |⟨rfl,a,w,rfl,k⟩
 .exact QU aa s j H [x,c] us Q I r ⟨x,c,t,b,u,rfl,ty,d,e,q⟩
 all_goals
  let⟨v,A,rfl,y,l⟩:=qH r;have m:A=u:=by
   cases c with
   |ref a=>cases d;exact l
   |ty n=>cases d;exact l
   |aX=>cases d
   |bl n=>cases d
   |int i=>cases d
   |str i=>cases d
   |fW i=>cases d
   |jK i=>cases d
  subst m;cases (show v=Value.ref a from y)
 .obtain⟨bf,_,p,_⟩:=I.tuple k;let⟨o,f,g,_⟩:=p;exact W.kia_one W.kitx_tuple I.cy ⟨o,f,g⟩ e (λz=>nomatch z) λtk=>⟨.bl b,H,I.tok tk,rfl,q⟩
 .obtain⟨bf,_,p,_⟩:=I.list k;let⟨o,f,g,_⟩:=p.isList;exact W.kia_one W.kitx_list I.cy ⟨o,f,g⟩ e (λz=>nomatch z) λtk=>⟨.bl b,H,I.tok tk,rfl,q⟩
 .obtain⟨_,_,vs,_,p⟩:=mz I.aV k;let⟨o,D,C,f,g,_⟩:=p;exact W.kia_one W.kitx_dict I.cy ⟨o,f,g.1⟩ e (λz=>nomatch z) λtk=>⟨.bl b,H,I.tok tk,rfl,q⟩
end
def sgn(z:Str)(i:Int):Str:=⟨#[z.cps.toList.getD i.toNat 0]⟩
def qg{j:Type}(xs:List j)(lo a:bt):List j:=(xs.drop (HT.bF xs.length 0 lo)).take (HT.bF xs.length xs.length a - HT.bF xs.length 0 lo)
section
variable{X:Cx}{aa:aT}{σ:St}{F H:Hp}{s:aj}{Au:Around}
theorem Tf:∀{x y:V}{u:ag},aK x u->aK y u->x=y:=by
 intro x y u b a;cases x<;>cases y<;>simp only[aK] at b a<;>first
  |rfl
  |(subst b;simp at a;subst a;rfl)
  |(subst b;simp at a;done)
  |(let⟨t,rfl⟩:=b;let⟨c,e⟩:=a;simp at e;rw[e.1])
  |(let⟨t,rfl⟩:=b;simp at a;done)
  |(let⟨t,rfl⟩:=a;simp at b;done)
theorem xE:∀{xs a:ax}{us:aJ},aF xs us->aF a us->xs=a
 |[],[],_,_,_=>rfl
 |_::_,_::_,_,.cons h t,.cons h' t'=>by rw[Tf h h',xE t t']
 |[],_::_,_,h,h'=>by cases h;cases h'
 |_::_,[],_,h,h'=>by cases h';cases h
theorem Tg(I:aw X aa σ H s)(g:cZ X.K H a xs)(h:cZ X.K H a ys):xs=ys:=by
 ∎;let⟨us,r1,⟨n,f,j,l,d⟩,_⟩:=I.tuple g;let⟨i,r2,⟨o,c,k,m,b⟩,_⟩:=I.tuple h;∎;rw[f] at c;cases c;rw[d] at b;injection b with e _
 have:us=i:=by simpa using e
 subst this;exact xE r1 r2
theorem yi(I:aw X aa σ H s)(g:bM X.K H a xs)(h:bM X.K H a ys):xs=ys:=by
 ∎;let⟨us,r1,p1,_⟩:=I.list g;let⟨i,r2,p2,_⟩:=I.list h;let⟨n,f,j,l,d⟩:=p1.isList;let⟨o,c,k,m,b⟩:=p2.isList;∎;rw[f] at c;cases c;rw[d] at b;injection b with e _
 have:us=i:=by simpa using e
 subst this;exact xE r1 r2
theorem FZ(I:aw X aa σ H s)(d:cZ X.K H a xs)(f:cZ X.K H b ys)(o:Au.units<cLine)(B:xs.length=ys.length)(e:Nat->Bool)(he:∀(j:Nat) x y u v,xs[j]?=some x->ys[j]?=some y->aK x u->aK y v->SeqAt.EqAt Au.in1 s u v (e j)):SeqAt.RcAt Au s (.ref a) (.ref b) ((List.range xs.length).all e):=by
 ∎;let⟨us,r1,r,_⟩:=I.tuple d;let⟨c,r2,w,_⟩:=I.tuple f;∎;have C:=r1.length;have D:=r2.length;have z:=SeqAt.RcAt.tuples (A:=Au) (e:=e) r w o (λj d f=>?_)
 .have e0:((List.range (min us.toArray.size c.toArray.size)).all e&&us.toArray.size == c.toArray.size)=(List.range xs.length).all e:=by
   simp only[size_toArray];have g:min us.length c.length=xs.length:=⋯
   have h:(us.length == c.length)=true:=by simp;omega
   rw[g,h,Bool.and_true]
  rw[e0] at z;exact z
 .simp only[size_toArray] at d f;∎;let⟨u,g,p⟩:=r1.get (i:=j) (x:=xs[j]'⋯) (by simp);let⟨v,h,q⟩:=r2.get (i:=j) (x:=ys[j]'⋯) (by simp);let⟨_,k⟩:=List.getElem?_eq_some_iff.mp g;let⟨_,l⟩:=List.getElem?_eq_some_iff.mp h;∎;have m:us.toArray[j]'(by simpa using d)=u:=by simpa using k
  have n:c.toArray[j]'(by simpa using f)=v:=by simpa using l
  rw[m,n];exact he j _ _ u v (by simp) (by simp) p q
theorem yj(I:aw X aa σ H s)(c:bM X.K H a xs)(d:bM X.K H b ys)(n:Au.units<cLine)(C:xs.length=ys.length)(e:Nat->Bool)(he:∀(j:Nat) x y u v,xs[j]?=some x->ys[j]?=some y->aK x u->aK y v->SeqAt.EqAt Au.in1 s u v (e j)):SeqAt.RcAt Au s (.ref a) (.ref b) ((List.range xs.length).all e):=by
 ∎;let⟨us,r1,r,_⟩:=I.list c;let⟨B,r2,w,_⟩:=I.list d;∎;have o:=r1.length;have D:=r2.length;have z:=SeqAt.RcAt.lists (A:=Au) (e:=e) r.isList w.isList (by simp;omega) n (λj c d=>?_)
 .have e0:(List.range us.toArray.size).all e=(List.range xs.length).all e:=by
   simp only[size_toArray];rw[<- o]
  rw[e0] at z;exact z
 .simp only[size_toArray] at c d;∎;let⟨u,f,p⟩:=r1.get (i:=j) (x:=xs[j]'⋯) (by simp);let⟨v,g,q⟩:=r2.get (i:=j) (x:=ys[j]'⋯) (by simp);let⟨_,h⟩:=List.getElem?_eq_some_iff.mp f;let⟨_,k⟩:=List.getElem?_eq_some_iff.mp g;∎;have l:us.toArray[j]'(by simpa using c)=u:=by simpa using h
  have m:B.toArray[j]'(by simpa using d)=v:=by simpa using k
  rw[l,m];exact he j _ _ u v (by simp) (by simp) p q
end
theorem Q1(r1:aK (.int i) u)(r2:aK (.int j) v):SeqAt.EqAt Au s u v (decide (i=j)):=by
 have z:=mu (A:=Au) (s:=s) r1 r2 rfl rfl;have e:fZ (.int i) (.int j)=decide (i=j):=by show (i == j)=_;rw[Bool.beq_eq_decide_eq]
 rw[e] at z;exact z
end Vc
namespace L2
open PySem PySem.Spec PyProof.Rows
def iw(env:Env)(cs:List (Str×ah))(y:Str×NameKind):List (Str×ah):=if (y.2 == .free)=true then (match env.cells.lookup y.1 with |some a=>(y.1,a)::cs |none=>cs) else cs
def jy(a:Scope)(env:Env):List (Str×ah):=a.names.foldl (iw env) []
def jU(a:Scope)(env:Env):Bool:=a.names.all λy=>!(y.2 == .free) || (env.cells.lookup y.1).isSome
theorem LA(h:jU scope env=true):closureFor scope env=pure (jy scope env):=by
 unfold closureFor jy;unfold jU at h;have gen:∀(l:List (Str×NameKind))(b:List (Str×ah)),(l.all λy=>!(y.2 == .free) || (env.cells.lookup y.1).isSome)=true->
   (forIn l b λx r=>match x with |(name,kind)=>if (kind == NameKind.free)=true then (do let a <- cellOf env name;pure (ForInStep.yield ((name,a)::r))) else pure (ForInStep.yield r):Sem (List (Str×ah)))=pure (l.foldl (iw env) b):=by
  intro l
  induction l with
  |nil=>intro b _;rfl
  |cons y r f=>
   intro b ha;rw[all_cons,and_eq_true] at ha;let⟨n,k⟩:=y;rw[List.forIn_cons,foldl_cons];by_cases c:(k == NameKind.free)=true
   .have h1:=ha.1;simp only[c,Bool.not_true,Bool.false_or] at h1;let⟨a,e⟩:=isSome_iff_exists.mp h1;have d:iw env b (n,k)=(n,a)::b:=by unfold iw;simp[c,e]
    have g:cellOf env n=pure a:=by unfold cellOf;rw[e]
    rw[d,<- f _ ha.2];simp only[c,if_true,g,pure_bind]
   .have d:iw env b (n,k)=b:=by unfold iw;simp[c]
    rw[d,<- f _ ha.2];simp only[c,if_false,pure_bind,false_eq_true]
 have:=gen scope.names [] h;simp only[this,pure_bind]
theorem mi(h:(jy scope env).lookup x=some c):env.cells.lookup x=some c:=by
 unfold jy at h;have gen:∀(l:List (Str×NameKind))(b:List (Str×ah)),(b.lookup x=some c->env.cells.lookup x=some c)->(l.foldl (iw env) b).lookup x=some c->env.cells.lookup x=some c:=by
  intro l
  induction l with
  |nil=>intro b f g;exact f g
  |cons y r i=>
   intro b f g;rw[foldl_cons] at g;refine i _ (λz=>?_) g;unfold iw at z;split at z
   .split at z
    .rename_i a e;rw[lookup_cons] at z;by_cases d:(x == y.1)=true
     .rw[d] at z;have:=eq_of_beq d;subst this;simp at z;rw[<- z];exact e
     .simp only[d] at z;exact f z
    .exact f z
   .exact f z
 exact gen scope.names [] (λz=>by cases z) h
theorem EU(ha:jU scope env=true)(h:scope.names.lookup x=some .free):∃c,(jy scope env).lookup x=some c:=by
 unfold jy;unfold jU at ha;have keep:∀(l:List (Str×NameKind))(b:List (Str×ah)),(∃c,b.lookup x=some c)->∃c,(l.foldl (iw env) b).lookup x=some c:=by
  intro l
  induction l with
  |nil=>intro b f;exact f
  |cons y r g=>
   intro b f;rw[foldl_cons];refine g _ ?_;unfold iw;split
   .split
    .rw[lookup_cons];by_cases d:(x == y.1)=true
     .rw[d];exact⟨_,rfl⟩
     .simp only[d];exact f
    .exact f
   .exact f
 have gen:∀(l:List (Str×NameKind))(b:List (Str×ah)),(l.all λy=>!(y.2 == .free) || (env.cells.lookup y.1).isSome)=true->l.lookup x=some .free->∃c,(l.foldl (iw env) b).lookup x=some c:=by
  intro l
  induction l with
  |nil=>intro b _ f;cases f
  |cons y r g=>
   intro b ha f;rw[all_cons,and_eq_true] at ha;let⟨n,k⟩:=y;rw[foldl_cons];rw[lookup_cons] at f;by_cases d:(x == n)=true
   .rw[d] at f;have:=eq_of_beq d;subst this;simp at f;subst f;refine keep r _ ?_;have i:(env.cells.lookup x).isSome=true:=ha.1;let⟨a,e⟩:=isSome_iff_exists.mp i;refine⟨a,?_⟩;unfold iw;rw[if_pos (show ((NameKind.free) == NameKind.free)=true from rfl)];dsimp only;rw[e];dsimp only;rw[lookup_cons,d]
   .simp only[d] at f;exact g _ ha.2 f
 exact gen scope.names [] ha h
theorem Nm(b:∀y∈a.names,y.2≠.cell)(h:(relabel a env).names.lookup x=some .cell\/(relabel a env).names.lookup x=some .free):a.names.lookup x=some .free:=by
 unfold relabel at h;dsimp only at h;have gen:∀l:List (Str×NameKind),(∀y∈l,y.2≠.cell)->((l.map λ(n,k)=>if (k == NameKind.free&&env.scope.kind == .function&&env.kindOf n == some .cell) then (n,NameKind.cell) else (n,k)).lookup x=some .cell\/(l.map λ(n,k)=>if (k == NameKind.free&&env.scope.kind == .function&&env.kindOf n == some .cell) then (n,NameKind.cell) else (n,k)).lookup x=some .free)->l.lookup x=some .free:=by
  intro l
  induction l with
  |nil=>intro _ f;rcases f with f |f<;>cases f
  |cons y r j=>
   intro e f;let⟨n,k⟩:=y;have g:k≠.cell:=e (n,k) (mem_cons_self ..);rw[map_cons] at f;rw[lookup_cons];by_cases c:(x == n)=true
   .rw[c];dsimp only at f ⊢;by_cases d:(k == NameKind.free&&env.scope.kind == .function&&env.kindOf n == some .cell)=true
    .have:k=.free:=by
      simp only[and_eq_true] at d;exact eq_of_beq d.1.1
     rw[this]
    .rw[if_neg d,lookup_cons,c] at f;simp only[Option.some.injEq] at f;rcases f with f |f
     .exact absurd f g
     .rw[f]
   .simp only[c];refine j (λy i=>e y (mem_cons_of_mem _ i)) ?_;dsimp only at f;split at f<;>(rw[lookup_cons] at f;simp only[c] at f;exact f)
 exact gen a.names b h
inductive Wk:St->St->Prop
 |nil:Wk [] []
 |aX {a b:St} {x:Option V}:Wk a b -> Wk (none::a) (x::b)
 |uW {a b:St} {v:V}:Wk a b -> Wk (some v::a) (some v::b)
theorem Wk.length(h:Wk a b):b.length=a.length:=by
 induction h with
 |nil=>rfl
 |aX _ c=>simp[c]
 |uW _ c=>simp[c]
theorem Wk.get(h:Wk a b):∀{i:Nat}{v:V},a[i]?=some (some v)->b[i]?=some (some v):=by
 induction h with
 |nil=>intro i v e;simp at e
 |aX _ c=>
  intro i v e;cases i with
  |zero=>simp at e
  |succ i=>simpa using c (i:=i) (v:=v) (by simpa using e)
 |uW _ c=>
  intro i v e;cases i with
  |zero=>simpa using e
  |succ i=>simpa using c (i:=i) (v:=v) (by simpa using e)
theorem ym:∀a:St,Wk a a
 |[]=>.nil
 |none::a=>.aX (ym a)
 |some _::a=>.uW (ym a)
def fa(ix:bK)(j:St):St:=ix.map λo=>match o with |none=>none |some i=>(j[i]?).getD none
def bO(X:Cx)(sc:Scope):ae->bK->Prop
 |[],[]=>True
 |_::N,none::ix=>bO X sc N ix
 |x::N,some i::ix=>X.N[i]? = some x /\ X.env.kindOf x=some .cell /\ sc.names.lookup x=some .free /\ bO X sc N ix
 |_,_=>False
theorem bO.length:∀{N:ae}{ix:bK},bO X sc N ix->ix.length=N.length
 |[],[],_=>rfl
 |_::N,none::ix,h=>by rw[length_cons,length_cons,bO.length (X:=X) (sc:=sc) (N:=N) (ix:=ix) h]
 |_::N,some i::ix,h=>by rw[length_cons,length_cons,bO.length (X:=X) (sc:=sc) (N:=N) (ix:=ix) h.2.2.2]
 |[],_::_,h=>h.elim
 |_::_,[],h=>h.elim
theorem bO.get:∀{N:ae}{ix:bK}{j:Nat}{x:Str}{v:V},bO X sc N ix->N[j]?=some x->(fa ix u)[j]?=some (some v)->∃i:Nat,X.N[i]?=some x/\X.env.kindOf x=some .cell/\sc.names.lookup x=some .free/\u[i]?=some (some v)
 |_::N,none::ix,0,x,v,h,e1,e2=>by simp[fa] at e2
 |_::N,none::ix,j + 1,x,v,h,e1,e2=>bO.get (N:=N) (ix:=ix) (j:=j) h (by simpa using e1) (by simpa [fa] using e2)
 |y::N,some i::ix,0,x,v,h,e1,e2=>by
  simp at e1;subst e1;refine⟨i,h.1,h.2.1,h.2.2.1,?_⟩;simp[fa] at e2;cases q:u[i]? with
  |none=>rw[q] at e2;simp at e2
  |some o=>rw[q] at e2;simp at e2;rw[e2]
 |y::N,some i::ix,j + 1,x,v,h,e1,e2=>bO.get (N:=N) (ix:=ix) (j:=j) h.2.2.2 (by simpa using e1) (by simpa [fa] using e2)
 |[],[],_,_,_,_,e1,_=>by simp at e1
 |[],_::_,_,_,_,h,_,_=>h.elim
 |_::_,[],_,_,_,h,_,_=>h.elim
theorem Mu(h:scope.names.lookup x=some .free):(relabel scope env).names.lookup x=some .cell\/(relabel scope env).names.lookup x=some .free:=by
 unfold relabel;dsimp only;have gen:∀l:List (Str×NameKind),l.lookup x=some .free->((l.map λ(n,k)=>if (k == NameKind.free&&env.scope.kind == .function&&env.kindOf n == some .cell) then (n,NameKind.cell) else (n,k)).lookup x=some .cell\/(l.map λ(n,k)=>if (k == NameKind.free&&env.scope.kind == .function&&env.kindOf n == some .cell) then (n,NameKind.cell) else (n,k)).lookup x=some .free):=by
  intro l
  induction l with
  |nil=>intro f;cases f
  |cons y r b=>
   intro f;let⟨n,k⟩:=y;rw[lookup_cons] at f;rw[map_cons];by_cases a:(x == n)=true
   .rw[a] at f;simp at f;subst f;dsimp only;split
    .left;rw[lookup_cons,a]
    .right;rw[lookup_cons,a]
   .simp only[a] at f;dsimp only;split<;>(rw[lookup_cons];simp only[a];exact b f)
 exact gen scope.names h
def d4(X:Cx)(a:Scope)(N:ae)(C:ah)(s:aj)(H:Hp)(fp:bV)(pl:aT):Cx where
 prog:=X.prog
 w:=X.w
 K:=X.K
 mg:=X.mg
 base:=X.base
 A:=X.A
 N:=N
 s₀:=s
 H₀:=H
 env:=compEnvC a (jy a X.env) C X.env
 outer:=X.stack
 stack:=X.stack
 ex:=fp
 fn:=λ_=>false
 calm:=X.calm
 pn:=X.pn++pl
 xe:=λ_ _=>False
def oo(Y:Cx)(a:bS)(t:TT):Prop:=
 ∀(aa:aT)(s:aj)(j:St)(H:Hp)(Q:Bool->Hp->Prop),aw Y aa j H s->t j H Q->
  wpAny (model Y.prog Y.w) Y.A (forIn a true λc r=>if r=true then do let ok <- isTrue c Y.env (eval c Y.env);pure (ForInStep.yield ok) else pure (ForInStep.yield r)) (TP Y aa j Q) Y.xe s
def CY:TT:=λ_ H Q=>Q true H
theorem Th:oo Y [] CY:=λ_ _ _ H _ I h=>wpAny_tests_nil ⟨H,I,h⟩
theorem Ti(h:PT Y c t):oo Y [c] t:=λaa s j H Q I q=>wpAny_tests_one (h aa s j H Q I q)
theorem Mv{R:Result->aj->Prop}(I:Nat->aj->Prop)(u:∀n s,I n s->wpAny (model prog w) A (pyNext it) (λr b=>match r with
   |none=>R (.ok .next) b
   |some v=>wpAny (model prog w) A (letOwnedTupleGo target it v) (λ_ s₀=>wpAny (model prog w) A (assign target env v) (λ_ i=>
     wpAny (model prog w) A (forIn ifs true λc r=>if r=true then do let ok <- isTrue c env (eval c env);pure (ForInStep.yield ok) else pure (ForInStep.yield r)) (λok d=>
      if ok=true then wpAny (model prog w) A (eval elt env) (λx j=>
       wpAny (model prog w) A (call (.builtin "list.append") [acc,x]) (λ_ k=>∃m,m<n/\I m k) (notedBy (model prog w) A env λe s'=>R (.error e) s') j) (notedBy (model prog w) A env λe s'=>R (.error e) s') d
      else ∃m,m<n/\I m d) (notedBy (model prog w) A env λe s'=>R (.error e) s') i) (notedBy (model prog w) A env λe s'=>R (.error e) s') s₀) (notedBy (model prog w) A env λe s'=>R (.error e) s') b) (notedBy (model prog w) A env λe s'=>R (.error e) s') s)(n:Nat)(h:I n s):codeAny (model prog w) A (.compLoop (.ListComp elt [⟨target,iter,ifs,0⟩] scope pos) 0 it acc env) R s:=by
 refine codeAny_loop rfl I (λn s y=>?_) n h;show wpAny _ A ((compTurn (.ListComp elt [⟨target,iter,ifs,0⟩] scope pos) 0 it acc env).onRaise (λx=>do noteFrame x env;theTreesLotGoes x)) _ _ s;refine wpAny_noted ?_;rw[compTurn_list];refine wpAny_bind (wpAny_standAt (wpAny_bind (wpAny_mono (u n s y) (λr b f=>?_) λ_ _ a=>a)));cases r with
 |none=>exact wpAny_pure f
 |some v=>
  refine wpAny_bind (wpAny_mono f (λ_ s₀ l=>?_) λ_ _ a=>a);refine wpAny_bind (wpAny_mono l (λ_ i o=>wpAny_bind (wpAny_mono o (λok d g=>?_) λ_ _ a=>a)) λ_ _ a=>a);cases ok with
  |false=>exact wpAny_pure ⟨rfl,g⟩
  |true=>
   exact wpAny_bind (wpAny_bind (wpAny_mono g (λx j p=>wpAny_bind (wpAny_mono p (λ_ k q=>wpAny_pure (wpAny_pure ⟨rfl,q⟩)) λ_ _ a=>a)) λ_ _ a=>a))
section
variable{X:Cx}{aa:aT}{σ:St}{H:Hp}{s:aj}{scope:Scope}{N:ae}{fp:bV}{C:ah}
theorem Tj(I:aw X aa σ H s)(k:⇑s<=C)(i:∀b∈fp,jx X aa H b)(j:∀b∈fp,∃o,s.heap.get? b=some o)(f:scope.kind=.function)(d:∀y∈scope.names,y.2≠.cell)(g:jU scope X.env=true):
  (d4 X scope N C s H fp aa).Ok where
 mod:=I.ok.mod
 kind:=f
 glob:=I.ok.glob
 blt:=I.ok.blt
 above:=k
 inj:=λx y c l m=>I.ok.inj x y c (mi l) (mi m)
 has:=λx h=>EU g (Nm d h)
 lx:=λx c h=>by cases h
 hd:=I.ok.hd
 frames:=I.ok.frames
 mW:=.inl rfl
 mK:=λb a=>⟨λz=>by let⟨o,e⟩:=j b a;have:=Heap.lt_size e;subst z;exact absurd (lt_of_lt_of_le this k) (lt_irrefl _),λx c e=>(i b a).2.2.2.2.1 x c (mi e)⟩
 bs:=I.bs
 iE:=le_trans I.ok.iE I.sz
 f6:=λb o e a=>by
  rcases (i b a).2.2.2.1 with z |z
  .exact I.ok.f6 b o e z
  .exact absurd (lt_of_lt_of_le (Heap.lt_size e) (le_trans I.ok.iE z)) (lt_irrefl _)
 f3:=λb a hm=>by
  rcases mem_cons.mp (I.eS b hm) with z |z
  .exact (i b a).2.1 z
  .exact (i b a).2.2.1 z
 dA:=I.stack
 jL:=I.fF
theorem Q2(I:aw X aa σ H s)(ok:(d4 X scope N C s H fp aa).Ok)(w:⇑s<=C)(k:∀b o,s.heap.get? b=some o->h'.get? b=some o)(hn:h'.Ns C m)(g:bO X scope N ix)(a:jU scope X.env=true):
  aw (d4 X scope N C s H fp aa) [] (fa ix σ) H { s with heap:=h',toks:=t' } where
 ok:=ok
 os:=rfl
 bare:=I.bare
 base:=Un.kept k
 loc:=⟨m,hn,λi x v A B Q=>by
  ∎;let⟨L,D,y,f,l⟩:=g.get A B;let⟨U,_,G⟩:=I.loc;let⟨u,r,look⟩:=G L x v D l (.inr (.inl y));∎;rcases look with⟨z,_⟩ |⟨_,c,E,o,h,hd⟩
  .rw[y] at z;cases z
  .obtain⟨c',hc'⟩:=EU a f;have e:=mi hc';rw[E] at e;cases e;exact⟨u,r,.inr ⟨Mu f,c,hc',o,k _ _ h,hd⟩⟩⟩
 cell:=λx c e=>by
  let⟨v,o,h,hd⟩:=I.cell x c (mi e);exact⟨v,o,k _ _ h,hd⟩
 free:=I.aV.fresh w
 bU:=λx c e=>I.bU x c (mi e)
 pin:=λp J=>by
  have j:p∈X.pn++aa:=by simpa [d4] using J
  let⟨e,n,ne,M,d⟩:=I.pin p j;refine⟨k _ _ e,n,λz=>?_,λz=>?_,d⟩
  .have:=Heap.lt_size e;have O:p.1=C:=z;rw[O] at this;exact absurd (lt_of_lt_of_le this w) (lt_irrefl _)
  .rcases mem_cons.mp (I.eS p.1 z) with q |q
   .exact ne q
   .exact M q
 aV:=I.aV.kept k
 len:=by
  have:=g.length;simp[fa,d4,this]
theorem Px{h:Hp}(I:aw X aa σ H s)(J:aw (d4 X scope N C s H fp aa) pl σ' h s')(j:D=⇑s)(f:∀b∈fp,jx X aa H b)(l:s'.heap.PlainList D bf.toArray)(m:aF acc bf)(hz:acc.length<=sizeLine)(hn:h D=none):aw X aa σ (a6 h D (.ak acc)) s':=by
 have i:∀b o,s.heap.get? b=some o->b≠D:=λb o e z=>by rw[z,j] at e;exact absurd (Heap.lt_size e) (lt_irrefl _)
 have a:H D=none:=I.aV.fresh (by rw[j];exact le_refl _);refine I.fX (ch:=fp) J.os ⟨J.base.keep,J.base.slot,λb o e n p=>?_,J.base.there,λb k e=>?_,λb o u e=>?_,λb r e=>?_⟩ (λb u e=>?_) J.bare λb d=>⟨(f b d).2.2.2.1,(f b d).2.1,(f b d).2.2.2.2.1,(f b d).2.2.2.2.2⟩
 .rw[bR (i b o e)];exact J.base.free b o e n p
 .rw[bR (hZ e a)];exact J.base.d6 b k e
 .rw[bR (hZ e a)];exact J.base.bP b o u e
 .obtain⟨mo,e2⟩:=J.base.eC b r e;exact⟨mo,by rw[bR (hZ e a)];exact e2⟩
 .by_cases d:b=D
  .subst d;rw[e7] at e;cases e;let⟨n,g⟩:=l;exact⟨hz,bf,n,m,g⟩
  .rw[bR d] at e;exact (J.aV b u e).eB (λ_ _ _ q=>q) (λc q=>by rw[bR (hZ q hn)];exact q) λc k q=>by rw[bR (hZ q hn)];exact q
end
def B9(r:TI)(g:TG)(q:TT)(o:TE)(ix:bK):TE:=λj H Q=>r j H λJ k=>∃W:Nat->Nat->ax->Hp->Prop,(∃m,W 0 m [] k)/\∀i m a H,W i m a H->
 (J.stop i H/\a.length<=sizeLine/\∀p,H p=none->Q (.ref p) (a6 H p (.ak a)))\/
 (J.go i H/\∃N:ax->Hp->Prop,(∀c d,N c d->∃h,h<m/\W (i+1) h c d)/\∀x d,J.lS i H x d->g x (fa ix j) d λe l=>Wk (fa ix j) e/\q e l λb f=>if b=true then o e f λv n=>a.length<sizeLine/\N (a++[v]) n else N a f)
section
variable{X:Cx}{elt target iter:Expr}{ifs:bS}{scope:Scope}{pos:Pos}{N:ae}{ix:bK}{wi:TI}{g:TG}{ti:TT}{te:TE}
theorem Q3{Q:VK}{RR:ag->ah->Result->aj->Prop}{tn:Nat->aP->Prop}(hc:X.calm=true)(hg:∀C s H fp pl,PG (d4 X scope N C s H fp pl) target g)(ht:∀C s H fp pl,oo (d4 X scope N C s H fp pl) ifs ti)(he:∀C s H fp pl,PE (d4 X scope N C s H fp pl) elt te)(δ:scope.kind=.function)(γ:∀y∈scope.names,y.2≠.cell)(ο:jU scope X.env=true)(hpk:bO X scope N ix)(I2:aw X aa j M a)(T:pR X.prog X.w X.K target J fp it tn)(st2:tn 0 a.heap)(f2:∀b∈fp,jx X aa M b)(h:∃W:Nat->Nat->ax->Hp->Prop,(∃m,W 0 m [] M)/\∀i m f H,W i m f H->
   (J.stop i H/\f.length<=sizeLine/\∀p,H p=none->Q (.ref p) (a6 H p (.ak f)))\/
   (J.go i H/\∃N:ax->Hp->Prop,(∀ν L,N ν L->∃m',m'<m/\W (i+1) m' ν L)/\∀x L,J.lS i H x L->g x (fa ix j) L λj2 M=>Wk (fa ix j) j2/\ti j2 M λb H3=>if b=true then te j2 H3 λv H4=>f.length<sizeLine/\N (f++[v]) H4 else N f H3))(hR:∀(D C:ah)(s':aj)(L:Hp)(m:bA),aw X aa j L s'->s'.heap.Ns C m->L C=none->⇑a<=C->Q (.ref D) L->RR (.ref D) C (.ok .next) s'):
  wpAny (model X.prog X.w) X.A (newList []) (λf O=>wpAny (model X.prog X.w) X.A (newFunctionEnv scope X.env.globals (jy scope X.env) [] X.env.qual none .none (some X.env)) (λξ s₄=>
   codeAny (model X.prog X.w) X.A (.compStart (.ListComp elt [⟨target,iter,ifs,0⟩] scope pos) 0 (.ref it) f { ξ with scope:=relabel scope X.env }) (RR f ξ.locals) s₄) E O) E a:=by
 let⟨W,⟨m0,w0⟩,turn⟩:=h;refine wpAny_newObj_type (wpAny_newFunctionEnv γ (by intro y hy;simp at hy) (λα I l=>?_) δ);dsimp only at I l ⊢;generalize σ:a.heap.push { cls:=.type "list",dict:=none,data:=.seq ([]:aJ).toArray }=P2 at I l ⊢;have hC:P2.objs.size=⇑a+1:=by rw[<- σ,Heap.size_push]
 have ι:⇑a≠P2.objs.size:=by rw[hC];exact ne_of_lt (lt_succ_self _)
 have β:⇑a<=P2.objs.size:=by rw[hC];exact le_succ _
 have U:∀b,b<⇑a->b≠P2.objs.size/\b≠⇑a:=λb k=>⟨by rw[hC];exact ne_of_lt (Nat.lt_succ_of_lt k),ne_of_lt k⟩
 have old:∀b o,a.heap.get? b=some o->α.get? b=some o:=λb o e=>l.extBut b o (U b (Heap.lt_size e)).1 (Heap.get?_push_of_some _ (σ ▸ Heap.get?_push_of_some _ e))
 have hacc:α.PlainList ⇑a #[]:=⟨_,l.extBut _ _ ι (Heap.get?_push_of_some _ (σ ▸ Heap.get?_push_size _ rfl))⟩
 have hfo:∀b∈fp,∃o,a.heap.get? b=some o:=λb k=>let ⟨o,e,_⟩:=T.obj 0 _ st2 b k;⟨o,e⟩
 have τ:⇑a ∉ fp:=λhm=>by let⟨o,e⟩:=hfo _ hm;exact absurd (Heap.lt_size e) (lt_irrefl _)
 have ok:=Tj (N:=N) (C:=P2.objs.size) I2 β f2 hfo δ γ ο;have st1:tn 0 α:=T.keep 0 _ _ st2 λb _ o e=>old b o e
 have J0:=Q2 (t':=a.toks+([]:List (Str×ag)).length) (ix:=ix) I2 ok β old I hpk ο;have pnD:∀p∈X.pn++aa,p.1≠⇑a:=λp hp=>(U _ (Heap.lt_size (I2.pin p hp).1)).2
 have ρ:∀x c,(jy scope X.env).lookup x=some c->c≠⇑a:=λx c e=>by
  let⟨v,o,ho,_⟩:=I2.cell x c (mi e);exact (U _ (Heap.lt_size ho)).2
 have η:∀{pl:aT}{L:Hp},(∀b∈fp,L b=none)->(∀p∈pl,p.1=⇑a)->∀b∈fp,jx (d4 X scope N P2.objs.size a M fp aa) pl L b:=λ{pl L} hn hp b k=>by
  refine⟨hn b k,(ok.mK b k).1,ok.f3 b k,.inl k,(ok.mK b k).2,λp hm=>?_⟩;rcases mem_append.mp hm with z |z
  .exact (f2 b k).2.2.2.2.2 p z
  .rw[hp p z];intro q;rw[q] at τ;exact τ k
 have π:∀O:Shared,O={ a with heap:=α,toks:=a.toks+([]:List (Str×ag)).length }->
   codeAny (model X.prog X.w) X.A (.compLoop (.ListComp elt [⟨target,iter,ifs,0⟩] scope pos) 0 (.ref it) (.ref ⇑a) (compEnvC scope (jy scope X.env) P2.objs.size X.env)) (RR (.ref ⇑a) P2.objs.size) O:=by
  rintro O rfl;refine Mv (λn s'=>∃i f G j' L,aw (d4 X scope N P2.objs.size a M fp aa) [] j' L s'/\Wk (fa ix j) j'/\tn i s'.heap/\(∀b∈fp,L b=none)/\s'.heap.PlainList ⇑a (List.toArray G)/\aF f G/\L ⇑a=none/\W i n f L) ?_ m0
   ⟨0,[],[],_,M,J0,ym _,st1,λb k=>(f2 b k).1,hacc,.nil,I2.aV.fresh (le_refl _),w0⟩
  rintro n s3 ⟨i,f,G,j3,H3,I3,wk3,st3,ψ,pl3,μ,φ,w3⟩;let⟨kk,g3⟩:=id pl3;have χ:aw (d4 X scope N P2.objs.size a M fp aa) [(⇑a,⟨.type "list",none,.seq (List.toArray G) kk,#[]⟩)] j3 H3 s3:=I3.eH λp hp=>by
   have e:=mem_singleton.mp hp;subst e;refine⟨g3,φ,ι,λz=>?_,λv q=>by cases q⟩;let⟨_,o,ho,_⟩:=(I2.stack).mem z;exact absurd (Heap.lt_size ho) (lt_irrefl _)
  have Y:∀p∈[((⇑a,⟨.type "list",none,.seq (List.toArray G) kk,#[]⟩):ah×Obj)],p.1=⇑a:=λp hp=>by
   rw[mem_singleton.mp hp]
  rcases turn i n f H3 w3 with⟨stop,hlen,fin⟩ |⟨go,NN,ω,step⟩
  .refine wpAny_mono (T.done (d4 X scope N P2.objs.size a M fp aa) rfl rfl rfl hc i _ s3 j3 H3 _ χ (η ψ Y) st3 stop) (λr s4 h4=>?_) λ_ _ z=>z
   let⟨hr,I4⟩:=h4;subst hr;have g4:=(I4.pin (⇑a,_) (mem_append_right _ (mem_singleton.mpr rfl))).1;let⟨mm,hnm,_⟩:=I4.loc;have B:=Px I2 I4 rfl f2 ⟨kk,g4⟩ μ hlen φ;refine hR _ _ s4 _ mm B hnm ?_ β (fin _ φ);rw[bR (Ne.symm ι)];exact I4.free
  .refine wpAny_mono (T.item (d4 X scope N P2.objs.size a M fp aa) rfl rfl rfl hc i _ s3 j3 H3 _ χ (η ψ Y) st3 go) (λr s4 h4=>?_) λ_ _ z=>z
   let⟨u,hr,h4⟩:=h4;subst hr;refine wpAny_mono h4 (λ_ s5 h5=>?_) λ_ _ z=>z
   let⟨x,H5,I5,r5,y5,κ,fr5⟩:=h5;have I5w:=I5.weak wk3.length.symm (λi v e=>wk3.get e);have I5':=I5w.pinned (fp:=fp) (η fr5 Y) (T.obj _ _ κ);refine wpAny_mono (hg P2.objs.size a M fp aa _ s5 _ H5 x u _ I5' r5 (step x H5 y5)) (λ_ s6 h6=>?_) λ_ _ z=>z.elim
   let⟨j6,H6,I6,wk6,q6⟩:=h6;refine wpAny_mono (ht P2.objs.size a M fp aa _ s6 j6 H6 _ I6 q6) (λok s7 h7=>?_) λ_ _ z=>z.elim
   let⟨H7,I7,q7⟩:=h7;have ζ:∀{j8:St}{H8:Hp}{s8:aj},aw (d4 X scope N P2.objs.size a M fp aa) ([((⇑a,⟨.type "list",none,.seq (List.toArray G) kk,#[]⟩):ah×Obj)]++pw fp s5.heap) j8 H8 s8->
     (∀b∈fp,∀o,s5.heap.get? b=some o->s8.heap.get? b=some o)/\(∀b∈fp,H8 b=none):=λ{j8 H8 s8} I8=>by
    refine⟨λb k o e=>(I8.pin (b,o) (mem_append_right _ (mem_append_right _ (sN k e)))).1,λb k=>?_⟩;let⟨o,e,d⟩:=T.obj _ _ κ b k;exact (I8.pin (b,o) (mem_append_right _ (mem_append_right _ (sN k e)))).2.1
   have θ:∀{j8:St}{H8:Hp}{s8:aj}{pl:aT},aw (d4 X scope N P2.objs.size a M fp aa) pl j8 H8 s8->aw (d4 X scope N P2.objs.size a M fp aa) [] j8 H8 s8:=λI8=>I8.eH λp hp=>by cases hp
   cases ok with
   |false=>
    simp only[false_eq_true,if_false] at q7 ⊢;let⟨m',hm,w7⟩:=ω _ _ q7;have p7:=I7.pin (⇑a,_) (mem_append_right _ (mem_append_left _ (mem_singleton.mpr rfl)));let⟨k1,k2⟩:=ζ I7;exact⟨m',hm,i+1,f,G,j6,H7,θ I7,wk6,T.keep _ _ _ κ k1,k2,⟨kk,p7.1⟩,μ,p7.2.1,w7⟩
   |true=>
    simp only[if_true] at q7 ⊢;refine wpAny_mono (he P2.objs.size a M fp aa _ s7 j6 H7 _ I7 q7) (λy s8 h8=>?_) λ_ _ z=>z.elim
    ∎;let⟨v,H8,I8,r8,hlt,q8⟩:=h8;let⟨m',hm,w8⟩:=ω _ _ q8;∎;have p8:=I8.pin (⇑a,_) (mem_append_right _ (mem_append_left _ (mem_singleton.mpr rfl)));let⟨k1,k2⟩:=ζ I8;have hl:=μ.length;refine wpAny_list_append_plain (items:=List.toArray G) (hsz:=by rw[size_toArray,<- hl];exact Nat.le_of_lt hlt) ⟨kk,p8.1⟩ λh₅ υ ε=>?_
    have I9:aw (d4 X scope N P2.objs.size a M fp aa) [] j6 H8 { s8 with heap:=h₅ }:=(θ I8).turned (t':=s8.toks) (it:=⇑a) (λb o k e=>ε.extBut b o k e) p8.2.1 ι (.inr (le_refl _)) ρ (λp hp=>by
     have hp':p∈X.pn++aa:=by simpa [d4] using hp
     exact pnD p hp')
    refine⟨m',hm,i+1,f++[v],G++[y],j6,H8,I9,wk6,T.keep _ _ _ κ λb k o e=>ε.extBut b o (λz=>τ (z ▸ k)) (k1 b k o e),k2,?_,μ.append (.cons r8 .nil),p8.2.1,w8⟩;have e:(G++[y]).toArray=G.toArray.push y:=by simp
    rw[e];exact υ
 exact codeAny_compStart_list (π _ rfl) (T.self X.A 0 _ _ _ st1 (π _ rfl))
theorem Tn(Y:X.calm=true)(hi:PI X target iter wi)(hg:∀C s H fp pl,PG (d4 X scope N C s H fp pl) target g)(ht:∀C s H fp pl,oo (d4 X scope N C s H fp pl) ifs ti)(he:∀C s H fp pl,PE (d4 X scope N C s H fp pl) elt te)(u:bO X scope N ix)(a:do scope.kind=.function)(k: ~~~(∀y∈scope.names,y.2≠.cell))(f: ~~~(∀x∈scope.names,x.2=.local->scope.names.lookup x.1=some .local))(i:do jU scope X.env=true)(hs:∀x,foldedSetIterable iter X.env x=pure x:=by intro _;rfl):PE X (.ListComp elt [⟨target,iter,ifs,0⟩] scope pos) (B9 wi g ti te ix):=by
 intro aa s j H Q I h;rw[eval_ListComp];refine wpAny_comprehension_free (use:=none) rfl hs (LA i) a f ?_;refine bo (hi aa s j H _ I h) λv s1 M=>bo M λα s2 O=>?_
 let⟨it,fp,tn,J,H2,e,l,T,E,L,h⟩:=O;subst e;refine Q3 (RR:=λn C=>compPost (model X.prog X.w) X.A X.xe none (EP X aa j Q) n C) Y hg ht he a k i u l T E L h ?_;intro D C s' G m B hn r d q;refine⟨m,hn,λh' z=>⟨.ref D,G,B.turned (t':=s'.toks) (it:=C) (λb o U e=>z.extBut b o U e) r (Nat.ne_of_gt (lt_of_lt_of_le l.lt d)) (.inr (le_trans l.sz d)) (λx c e=>?_) (λp hp=>?_),rfl,q⟩⟩
 .obtain⟨v,o,ho,_⟩:=l.cell x c e;exact ne_of_lt (lt_of_lt_of_le (Heap.lt_size ho) d)
 .exact ne_of_lt (lt_of_lt_of_le (Heap.lt_size (l.pin p hp).1) d)
end
section
variable{g:TG}{ti:TT}{te:TE}{ix:bK}{σ:St}{Q:VK}
def Ky(J:It)(g:TG)(ti:TT)(te:TE)(ix:bK)(σ:St)(Q:VK)(j:Hp):Prop:=∃W:Nat->Nat->ax->Hp->Prop,(∃m,W 0 m [] j)/\∀i m a H,W i m a H->
 (J.stop i H/\a.length<=sizeLine/\∀p,H p=none->Q (.ref p) (a6 H p (.ak a)))\/
 (J.go i H/\∃N:ax->Hp->Prop,(∀c e,N c e->∃h,h<m/\W (i+1) h c e)/\∀x e,J.lS i H x e->g x (fa ix σ) e λd k=>Wk (fa ix σ) d/\ti d k λb f=>if b=true then te d f λv l=>a.length<sizeLine/\N (a++[v]) l else N a f)
theorem YA(Pv:Nat->ax->Hp->Prop)(r:Pv 0 [] H1)(h:∀i a H,i<n->Pv i a H->J.go i H)(j:∀a H,Pv n a H->J.stop n H)(hs:∀i x a H f,i<n->Pv i a H->J.lS i H x f->g x (fa ix σ) f λd o=>Wk (fa ix σ) d/\ti d o λb k=>if b=true then te d k λv q=>a.length<sizeLine/\Pv (i+1) (a++[v]) q else Pv (i+1) a k)(hd:∀a H,Pv n a H->a.length<=sizeLine/\∀p,H p=none->Q (.ref p) (a6 H p (.ak a))):Ky J g ti te ix σ Q H1:=by
 refine⟨λi m a H=>m=n - i/\i<=n/\Pv i a H,⟨n,by simp,zero_le _,r⟩,?_⟩;rintro i m a H ⟨rfl,u,p⟩;by_cases c:i<n
 .exact .inr ⟨h i a H c p,Pv (i+1),λl f s=>⟨n - (i+1),⋯,rfl,c,s⟩,λx f y=>hs i x a H f c p y⟩
 .have e:i=n:=⋯
  subst e;exact .inl ⟨j a H p,hd a H p⟩
end
section
variable{X:Cx}
def CZ:V->bt->bt->Hp->VK->Prop:=λx lo a H Q=>∃z,x=.str z/\z.length<=sizeLine/\Q (.str (Txt.slice z lo a)) H
theorem WQ:jO X CZ:=by
 intro aa s y H x v vl r lo m p Q I o c n f h;∎;let⟨z,rfl,d,q⟩:=h;let⟨t,rfl⟩:=(show ∃t,v=Value.str z t from o);∎;refine⟨"str",_,F.slot_str_getitem.lookup,typeIs_str _ _ _,?_⟩;have a:∀(tk:Tok)(k:Nat),EP X aa y Q (.str (Txt.slice z lo m) tk) { s with toks:=k }:=λtk k=>⟨.str _,H,I.tok k,⟨tk,rfl⟩,q⟩
 cases n with
 |none=>
  cases f with
  |none=>exact wpAny_getItem_str_slice (l:=none) (u:=none) (st:=none) c rfl (post_val_or_str ⟨le_trans (Txt.slice_le z _ _) d,λb k=>a b k⟩)
  |int j e=>exact wpAny_getItem_str_slice (l:=none) (u:=some (j,e)) (st:=none) c rfl (post_val_or_str ⟨le_trans (Txt.slice_le z _ _) d,λb k=>a b k⟩)
 |int i g=>
  cases f with
  |none=>exact wpAny_getItem_str_slice (l:=some (i,g)) (u:=none) (st:=none) c rfl (post_val_or_str ⟨le_trans (Txt.slice_le z _ _) d,λb k=>a b k⟩)
  |int j e=>exact wpAny_getItem_str_slice (l:=some (i,g)) (u:=some (j,e)) (st:=none) c rfl (post_val_or_str ⟨le_trans (Txt.slice_le z _ _) d,λb k=>a b k⟩)
end
def Cn(_:ah)(_:aP):Prop:=True
theorem Cn.keeps{e:ah}{h h':aP}(c:Cn e h)(k:∀o,h.get? e=some o->h'.get? e=some o):Cn e h':=trivial
section
variable{M:Model}{A:Around}{E:ag->aj->Prop}{s:aj}{base:aP}{env:Env}{outer:b5}{L e:ah}
theorem Ou{a a0:ag}{Q:Unit->aj->Prop}(fr:A.frames=some (env::outer))(d:s.heap.FunFrames base (env::outer))(f:env.frame=some L)(t:s.heap.TracedW base e a a0)(i:base.StaysIn s.heap)(b:base.get? e=none)(c:Cn e s.heap)(h:∀k,Heap.NotedW base (env::outer) e a a0 (rawInt L) s.heap k->Cn e k->Q () { s with heap:=k }):wpAny M A (noteFrame (.ref e) env) Q E s:=
 wpAny_noteFrame_onW fr d f t i b λk g=>h k g trivial
theorem F0{l:b5}{a a0 f:ag}{Q:Unit->aj->Prop}(n:base.StaysIn s.heap)(d:s.heap.FunFrames base l)(t:s.heap.TracedAtW base e a a0 f)(c:Cn e s.heap)(h:∀k,base.StaysIn k->k.FunFrames base l->k.TracedW base e a a0->(∀b o,s.heap.get? b=some o->(∀vs,o.data≠.fields vs)->k.get? b=some o)->Cn e k->Q () { s with heap:=k }):wpAny M A (setFlight (.ref e) none) Q E s:=
 wpAny_setFlight_noneW n d t λk g i j m=>h k g i j m trivial
theorem Ml{a a0:ag}{Q:Unit->aj->Prop}(fr:A.frames=some (env::outer))(d:s.heap.FunFrames base (env::outer))(f:env.frame=some L)(t:s.heap.TracedW base e a a0)(i:base.StaysIn s.heap)(b:base.get? e=none)(c:Cn e s.heap)(h:∀k,Heap.LeftW base (env::outer) e a a0 s.heap k->Cn e k->Q () { s with heap:=k }):wpAny M A (leaving env (.ref e)) Q E s:=
 wpAny_leaving_nextW fr d f t i b λk g=>h k g trivial
theorem Mf{o:Obj}{vs:cO}{a0:ag}{Q:Unit->aj->Prop}(fr:A.frames=some (env::outer))(b:s.heap.FunFrames base (env::outer))(c:env.frame=some L)(he:s.heap.get? e=some o)(i:base.StaysIn s.heap)(a:base.get? e=none)(hd:o.data=.fields vs)(f:vs[1]?=some .none)(d:vs[0]?=some a0)(j:vs[2]?=some .none)(h:∀k,Heap.LeftW base (env::outer) e o.cls a0 s.heap k->Cn e k->Q () { s with heap:=k }):wpAny M A (leaving env (.ref e)) Q E s:=
 wpAny_leaving_firstW fr b c he i a hd f d λk g=>h k g trivial
theorem Py{a a0:ag}{Q:Unit->aj->Prop}(fr:A.frames=some (env::outer))(d:env.frame=some L)(f:Heap.FlyingW base (env::outer) e a a0 s.heap)(c:Cn e s.heap)(h:∀k,Heap.HeldW base (env::outer) e a a0 L k->s.heap.UpToSlots k->Cn e k->Q () { s with heap:=k }):wpAny M A (noteFrame (.ref e) env) Q E s:=
 Ou fr f.2.2.1 d f.2.2.2 f.1 f.2.1 c λk b q=>h k ⟨b.1,f.2.1,b.2.1,b.2.2.1⟩ b.2.2.2 q
theorem WR{l:b5}{a a0:ag}{Q:Unit->aj->Prop}(f:Heap.HeldW base l e a a0 L s.heap)(c:Cn e s.heap)(h:∀k,Heap.FlyingW base l e a a0 k->s.heap.UpToSlots k->Cn e k->Q () { s with heap:=k }):wpAny M A (setFlight (.ref e) none) Q E s:=
 F0 f.1 f.2.2.1 f.2.2.2 c λk d g i j q=>h k ⟨d,f.2.1,g,i⟩ (λb o m hn=>⟨o.slots,j b o m hn⟩) q
theorem WS{l:b5}{a a0:ag}{Q:Unit->aj->Prop}(f:Heap.FlyingW base l e a a0 s.heap)(c:Cn e s.heap)(h:∀k,Heap.FlyingW base l e a a0 k->s.heap.UpToSlots k->Cn e k->Q () { s with heap:=k }):wpAny M A (setFlight (.ref e) none) Q E s:=
 F0 f.1 f.2.2.1 f.2.2.2.at c λk d g i j q=>h k ⟨d,f.2.1,g,i⟩ (λb o m hn=>⟨o.slots,j b o m hn⟩) q
end
def m5(c h:aP)(H:Hp)(x:ah)(a:ag):Prop:=
 c.get? x=none/\H x=none/\∃f b vs T d e,c.get? T=none/\H T=none/\h.get? x=some b/\b.cls=a/\vs[0]?=some f/\b.data=.fields vs/\vs[1]?=some (.ref T)/\T≠x/\h.get? T=some d/\d.data=.fields e/\e[3]?=some .none/\Cn x h
def b4(P:Program)(w:World):fj:=λouter H s E e b=>∃x a c,e=.ref x/\b.os=s.os/\AllBare b.gens/\Un (dU outer) [] H c s.heap b.heap/\cL P w c b.heap/\m5 s.heap b.heap c x a/\E a none c
theorem bg.has(x:bg P w H h a o):∃u,h.get? a=some u:=by
 cases o with
 |ak c=>let⟨_,_,_,_,e⟩:=x;exact⟨_,e⟩
 |aY c=>let⟨_,_,_,u,e,_⟩:=x;exact⟨_,e⟩
 |dK b=>let⟨_,_,_,_,u,_,_,e,_⟩:=x;exact⟨_,e⟩
 |dT b=>let⟨_,_,_,_,u,_,_,e,_⟩:=x;exact⟨_,e⟩
 |set S n=>let⟨u,_,_,_,e,_⟩:=x;exact⟨_,e⟩
 |ins C d fs=>let⟨_,_,_,e,_⟩:=x;exact⟨_,e⟩
 |own y=>exact x
 |xd fs=>let⟨_,⟨u,_,_,e,_⟩,_⟩:=x;exact⟨_,e⟩
 |uV lo g=>let⟨_,_,_,e⟩:=x;exact⟨_,e⟩
 |aU i u=>let⟨e,_⟩:=x;exact⟨_,e⟩
 |lP j=>exact⟨_,x⟩
 |met f y=>exact⟨_,x⟩
 |ext k=>exact x.2.1
theorem GZ{P:Program}{w:World}{fs fr l bad:bV}{H a:Hp}{h i j:aP}(u:Un fs [] H a h i)(aV:cL P w a i)(M:∀b∈l,b∈bad\/b∈fr)(E:∀b∈bad,h.get? b=none/\a b=none)(m:∀b∈fr,(b∈fs\/h.get? b=none)/\a b=none/\∃o,i.get? b=some o/\∀vs,o.data≠.fields vs)(I:∀b∈fs,b∈fr)(k:(W.hideAll i l).StaysIn j)(sm:i.UpToSlots j):
  Un fs [] H a h j/\cL P w a j/\∀x s a0,j.TracedW (W.hideAll i l) x s a0->Cn x j->h.get? x=none->a x=none->m5 h j a x s:=by
 have gt:∀b o,i.get? b=some o->b ∉ bad->b ∉ fr->j.get? b=some o:=λb o e Q U=>k b o (W.hideAll_get _ e λz=>(M b z).elim Q U)
 have N:∀b o,h.get? b=some o->b ∉ bad:=λb o e z=>by rw[(E b z).1] at e;cases e
 have slots:∀b o,b∈fr->i.get? b=some o->∃C,j.get? b=some { o with slots:=C }:=λb o g e=>by
  let⟨_,_,y,f,d⟩:=m b g;rw[e] at f;cases f;exact sm b o e d
 have tr:∀b u,a b=some u->b ∉ bad/\b ∉ fr:=λb u e=>⟨λz=>(by rw[(E b z).2] at e;cases e),λz=>(by rw[(m b z).2.1] at e;cases e)⟩
 refine⟨⟨λb o e n g p=>?_,λb o e n g p=>?_,λb o e n p=>u.free b o e n p,λb o e p=>?_,u.d6,u.bP,u.eC⟩,λb v e=>?_,λx s a0 O G p D=>?_⟩
 .refine gt b o (u.keep b o e n g p) (N b o e) λz=>?_
  rcases (m b z).1 with q |q
  .exact g q
  .rw[e] at q;cases q
 .obtain⟨C,e1⟩:=u.slot b o e n g p;let⟨J,A⟩:=slots b _ (I b g) e1;exact⟨J,A⟩
 .obtain⟨y,e1⟩:=u.there b o e p;by_cases g:b∈fr
  .obtain⟨C,A⟩:=slots b y g e1;exact⟨_,A⟩
  .exact⟨y,gt b y e1 (N b o e) g⟩
 .refine (aV b v e).eB (λc o B q=>?_) (λ_ q=>q) λ_ _ q=>q
  rcases B with rfl |B
  .exact gt c o q (tr c v e).1 (tr c v e).2
  .exact gt c o q (tr c _ B).1 (tr c _ B).2
 .obtain⟨oe,vs,T,oT,ts,t1,⟨t2,t3⟩,t4,t5,t6,t7,t8,t9,t10⟩:=O;have L:h.get? T=none/\a T=none:=by
   cases q:i.get? T with
   |none=>
    refine⟨?_,?_⟩
    .cases r:h.get? T with
     |none=>rfl
     |some o=>let⟨y,f⟩:=u.there T o r (by simp);rw[q] at f;cases f
    .cases r:a T with
     |none=>rfl
     |some v=>let⟨y,f⟩:=(aV T v r).has;rw[q] at f;cases f
   |some o=>
    by_cases hm:T∈l
    .rcases M T hm with z |z
     .exact E T z
     .obtain⟨C,A⟩:=slots T o z q;let⟨_,_,y,f,d⟩:=m T z;rw[q] at f;cases f;rw[t8] at A;cases A;exact absurd t9 (d ts)
    .have:=W.hideAll_get _ q hm;rw[t6] at this;cases this
  exact⟨p,D,a0,oe,vs,T,oT,ts,L.1,L.2,t1,t2,t3,t4,t5,t7,t8,t9,t10,G⟩
theorem m5.ja{H:Hp}(f:m5 h0 h H x cls):∃T a0,h0.get? T=none/\H T=none/\∀l:bV,T∈l->h.TracedW (W.hideAll h l) x cls a0:=by
 let⟨_,_,a0,e,vs,T,d,r,g,i,j,k,m,n,o,p,q,a,b,_⟩:=f;exact⟨T,a0,g,i,λl c=>⟨e,vs,T,d,r,j,⟨k,m⟩,n,o,W.hideAll_none _ c,p,q,a,b⟩⟩
theorem m5.cn{H:Hp}(f:m5 h0 h H x cls):Cn x h:=by
 let⟨_,_,d,g,vs,T,e,r,i,j,k,l,m,n,o,p,q,a,b,c⟩:=f;exact c
section
variable{X:Cx}{aa:aT}{σ:St}{H:Hp}{s:aj}
theorem yn:∀env∈l,∀a,env.frame=some a->a∈dU l:=λenv b a c=>mem_filterMap.mpr ⟨env,b,c⟩
theorem aw.DV(I:aw X aa σ H s):∀b∈dU X.stack,(b∈X.fs\/X.s₀.heap.get? b=none)/\H b=none/\∃o,s.heap.get? b=some o/\∀vs,o.data≠.fields vs:=λb a=>by
 refine⟨?_,I.fF b a,(I.stack.mem a).2⟩;rcases mem_cons.mp (I.eS b a) with e |e
 .exact .inr (by rw[e];exact Heap.get?_none_of_le I.ok.above)
 .exact .inl e
theorem G0{E:XK}{x:ah}{a:ag}(hs:X.stack=X.env::X.outer)(m:X.env.frame=some X.env.locals)(h:X.ex=[])(I:aw X aa σ H s){l bad:bV}{c:aP}(n:∀b∈l,b∈bad\/b∈dU X.stack)(f:∀b∈bad,X.s₀.heap.get? b=none/\H b=none)(k:(W.hideAll s.heap l).StaysIn c)(sm:s.heap.UpToSlots c){a0:ag}(ht:c.TracedW (W.hideAll s.heap l) x a a0)(g:Cn x c)(o:X.s₀.heap.get? x=none)(d:H x=none)(e:E a none H):b4 X.prog X.w X.outer X.H₀ X.s₀ E (.ref x) { s with heap:=c }:=by
 have i:=I.base;rw[h] at i;let⟨u,ok,j⟩:=GZ i I.aV n f I.DV (λb f=>by rw[hs];unfold dU;rw[filterMap_cons,m];exact mem_cons_of_mem _ f) k sm;exact⟨x,a,H,rfl,I.os,I.bare,u,ok,j x a a0 ht g o d,e⟩
def rD(X:Cx)(E:XK):Prop:=X.xe=λe c=>wpAny (model X.prog X.w) X.A (leaving X.env e) (λ_ a=>b4 X.prog X.w X.outer X.H₀ X.s₀ E e a) (λb a=>b4 X.prog X.w X.outer X.H₀ X.s₀ E b a) c
theorem dG{E:XK}(hs:X.stack=X.env::X.outer)(g:X.env.frame=some X.env.locals)(f:X.ex=[])(l:rD X E):lV (b4 X.prog X.w) X E:=by
 intro aa σ H s e p I B;let⟨x,u,r,rfl,os,bare,un,aV,c,v⟩:=B;have J:aw X aa σ r p:=I.fX (ch:=[]) os un aV bare (λb z=>absurd z (by simp));have m:∀b,s.heap.get? b=none->X.s₀.heap.get? b=none:=λb z=>by
  cases q:X.s₀.heap.get? b with
  |none=>rfl
  |some o=>let⟨N,n⟩:=I.base.there b o q (by rw[f];simp);rw[z] at n;cases n
 let⟨T,L,h,A,k⟩:=c.ja;rw[l];have j:∀env∈X.env::X.outer,∀a,env.frame=some a->a∈x::T::dU X.stack:=λenv C a g=>.tail _ (.tail _ (by rw[hs];exact yn env C a g))
 refine Ml (base:=W.hideAll p.heap (x::T::dU X.stack)) (by rw[J.ok.frames,hs]) (W.funFrames_hide (hs ▸ J.stack) j) g (k _ (.tail _ (.head _))) (λb o q=>W.of_hideAll _ q)
  (W.hideAll_none _ (.head _)) c.cn λM y i=>?_
 let⟨D,_,k3,G⟩:=y;exact G0 hs g f J (bad:=[x,T]) (λb d=>by
  rcases mem_cons.mp d with z |d
  .exact .inl (by rw[z];exact .head _)
  .rcases mem_cons.mp d with z |d
   .exact .inl (by rw[z];exact .tail _ (.head _))
   .exact .inr d) (λb d=>by
  rcases mem_cons.mp d with z |d
  .rw[z];exact⟨m _ c.1,c.2.1⟩
  .have z:b=T:=by simpa using d
   rw[z];exact⟨m _ h,A⟩) D G k3 i (m _ c.1) c.2.1 v
end
theorem To{K:ao}{h:aP}{C:ah}{b:aJ}{a:String}(X:K.In h)(q:W.excIn K C b a=true):
  ∃bm N nm f bs hd sn sub ab col dd k0 k1 k2 k3 k5 mN,h.get? C=some (excClassObj nm f C N bs bm hd sn sub ab col dd k0 k1 k2 k3 k5 a)/\h.Ns N mN/\mN "__init__"=none/\OwnTail h b bm:=by
 unfold W.excIn at q;split at q
 case h_2=>cases q
 case h_1 ddc cdc slc hlook=>
  split at q
  case h_2=>cases q
  case h_1 Cc bmc k0 k1 k2 k3 nn k5 hmro hslots=>
   simp only[and_eq_true,beq_iff_eq,Bool.not_eq_true'] at q;∎;let⟨⟨⟨⟨⟨i,j⟩,d⟩,k⟩,c⟩,e⟩:=q;let⟨nm,bs,l,ns,f,hd,sn,sub,ab,col,g⟩:=cdc;∎;dsimp only at hmro d c e;let⟨m⟩:=slc;simp only at hslots;subst i j d hmro hslots;exact⟨_,_,_,_,_,_,_,_,_,_,_,_,_,_,_,_,_,X _ _ hlook,.of_isNs (W.isNs_of_in X c),W.nsMap_none_of_in X c e,W.tail_of_in X k⟩
def BK(C:ah)(E:XK)(b:TE):TS:=λ_ j H=>b j H λ_ a=>E (.ref C) none a
section
variable{X:Cx}
theorem Q4{E:XK}{x:Str}{np f pos:Pos}{d:Expr}{te:TE}{C:ah}{B g i:String}{m:aJ}(hs:X.stack=X.env::X.outer)(G:X.env.frame=some X.env.locals)(y:X.ex=[])(α:rD X E)(l:X.calm=true)(hg:Gl X x)(hm:X.mg x=some (.ref C))(FB:ExcBaseFacts B g i m)(hq:W.excIn X.K C m g=true)(he:PE X d te)(O: ~~~(cD x))(A:do dN d [] X.env)(Y:do eX f [] X.env):
  PS X (.Raise (some (.Call (.Name x np) [d] [] f)) none pos) (BK C E te):=by
 intro aa s j H D I h;let⟨bm,N,nm,qn,bs,hd,sn,sub,ab,col,dd,k0,k1,k2,k3,k5,mN,hC,hN,U,T⟩:=To I.ok.mod.mO hq;refine wpAny_Raise_call_subT (C:=C) (nm:=nm) (q:=qn) (N:=N) (bs:=bs) (bm:=bm) (hdct:=hd) (sn:=sn) (sub:=sub) (ab:=ab) (col:=col) (dd:=dd) (k0:=k0) (k1:=k1) (k2:=k2) (k3:=k3) (k5:=k5)
  FB (mN:=mN) (T.hasType FB.hasBase) (I.ok.hd l) (by rw[A];show (false || (backTo f (starEach [] X.env)).any (·.1))=false;rw[Y];rfl) U (k4 I hg hm ⟨rfl,?_⟩ O)
 rw[A];refine Calls.evalArgs_plain ?_;refine Calls.spliced_cons ?_;refine bo (he aa s j H _ I h) λu s1 β=>?_
 let⟨v,L,k,_,q1⟩:=β;refine Calls.spliced_nil ?_;refine⟨rfl,by show (1:Nat)<=sizeLine;decide,k.bk _ _ hC,hN.keeps k.bk,T.keeps k.bk,λh' e c=>?_⟩;let⟨t,ht,γ,δ⟩:=c.there;have J:aw X aa j L { s1 with heap:=h' }:=k.fX (ch:=[]) rfl (Un.kept c.keeps) (k.aV.kept c.keeps) k.bare (λb z=>absurd z (by simp));have up:∀b,s1.heap.get? b=none->X.s₀.heap.get? b=none:=λb z=>by
  cases q:X.s₀.heap.get? b with
  |none=>rfl
  |some o=>let⟨o',n⟩:=k.base.there b o q (by rw[y];simp);rw[z] at n;cases n
 have p:L e=none:=by
  cases r:L e with
  |none=>rfl
  |some v=>let⟨o',n⟩:=(k.aV e v r).has;rw[c.new] at n;cases n
 rw[α];have Q:∀env∈X.env::X.outer,∀a,env.frame=some a->a∈e::dU X.stack:=λenv he a G=>.tail _ (by rw[hs];exact yn env he a G)
 refine Mf (base:=W.hideAll h' (e::dU X.stack)) (a0:=.ref t) (by rw[J.ok.frames,hs]) (W.funFrames_hide (hs ▸ J.stack) Q) G ht (λb o q=>W.of_hideAll _ q)
  (W.hideAll_none _ (.head _)) rfl rfl rfl rfl λh2 hL M=>?_
 let⟨l1,_,l3,l4⟩:=hL;exact G0 hs G y J (bad:=[e]) (λb w=>by
  rcases mem_cons.mp w with z |w
  .exact .inl (by rw[z];exact .head _)
  .exact .inr w) (λb w=>by
  have z:b=e:=by simpa using w
  rw[z];exact⟨up _ c.new,p⟩) l1 l4 l3 M (up _ c.new) p q1
end
section
variable{P:Program}{w:World}{K:ao}{mg:bA}{base:aP}
theorem gx.zN{x a:Str}{st:Stmt}{f:ah}{e:FuncData}{N ps:ae}{k:Nat}{sp:Sp}(F:gx K x a st f e)(S:adr N ps (bh st))(len:∀vs H Q E,sp vs H Q E->vs.length=ps.length)(b:∀(aR:ag)(A:Around)(outer:b5)(s:aj)(H:Hp)(vs:ax)(Q:VK)(E:XK),bj k (A.deeper (envOfC a (bh st) ⇑s f aR))->sp vs H Q E->
   ∃t,eW (iB (b4 P w) P w K mg base N a (bh st) f aR A outer s H E) (iu st) t/\t { nx:=λ_ g=>Q .aX g,rt:=Q } (start N vs) H):aB P w K mg base (b4 P w) (k+1) f e ps sp:=by
 let⟨oc,od,kV,doc,pm,an,aR,ct,osl,rfl,i,c⟩:=F.ex;exact HG i c S len λA outer s H vs Q E h d=>b aR A outer s H vs Q E h d
end
section
variable{X:Cx}
def gA(CX:fj)(X:Cx)(j:St)(E:XK):Prop:=∀(aa:aT)(H:Hp)(s:aj)(e:ag)(a:aj),aw X aa j H s->CX X.stack H s E e a->X.xe e a
def BL(sp:Sp)(a:ax)(R:St->XK)(t:TA):TE:=λj H Q=>t j H λvs b=>sp (vs++a) b Q (R j)
variable{CX:fj}{k:Nat}{f:ah}{fd:FuncData}{ps:ae}{sp:Sp}{dvs:ax}{ds:aJ}{x:Str}{p pos:Pos}{e:Expr}{es:bS}{t:TA}
theorem yo(F:aB X.prog X.w X.K X.mg X.base CX k f fd ps sp)(d:bj k X.A)(b:Binds X.K fd ps ds)(hd:aF dvs ds)(g:gA CX X j E)(I:aw X aa j H s)(r:aF vs us)(h:sp (vs++dvs) H Q E):wpAny (model X.prog X.w) X.A (call (.ref f) us) (EP X aa j Q) X.xe s:=by
 have r2:=r.append hd;have c:(us++ds).length=ps.length:=r2.length ▸ F.len _ _ _ _ h;refine wpAny_call (codeAny_mono (F.run X.A X.stack s H ⟨us,[]⟩ (us++ds) (vs++dvs) Q E d I.mJ (b s us I.cy c) r2 h) λr i a=>?_)
 match r,a with
 |.error e,a=>exact g aa H s e i I a
 |.ok (.ret u),a=>exact I.after a
 |.ok .next,a=>exact a.elim
 |.ok .brk,a=>exact a.elim
 |.ok .cont,a=>exact a.elim
theorem Q5{R:St->XK}(F:aB X.prog X.w X.K X.mg X.base CX k f fd ps sp)(m:bj k X.A)(i:Gl X x)(hm:X.mg x=some (.ref f))(l:W.keepIn X.K (.ref f)=true)(g:Binds X.K fd ps ds)(hd:aF dvs ds)(n:∀j,gA CX X j (R j))(ha:PA X (e::es) t)(a: ~~~(cD x))(he:do dN e es X.env)(b:do eX pos es X.env):PE X (.Call (.Name x p) (e::es) [] pos) (BL sp dvs R t):=by
 intro aa s j H Q I h;refine wpAny_Call_Name_kw (k4 I i hm ?_ a);exact W.callWith_K (h₀:=X.base) I.ok.mod.mO l (bo (ha pos aa s j H _ I h) λus u c=>by let⟨vs,o,d,r,q⟩:=c;exact⟨d.cy,yo F m g hd (n j) d r q⟩) he b
abbrev Cx.cJ(X:Cx)(pn:aT)(xe:ag->aj->Prop):Cx:={ X with pn:=pn,xe:=xe }
theorem Cx.Ok.cJ(ok:X.Ok)(pn:aT)(xe:ag->aj->Prop):(X.cJ pn xe).Ok:=
 ⟨ok.mod,ok.kind,ok.glob,ok.blt,ok.above,ok.inj,ok.has,ok.lx,ok.hd,ok.frames,ok.mW,ok.mK,ok.bs,ok.iE,ok.f6,ok.f3,ok.dA,ok.jL⟩
theorem aw.qS(I:aw X aa j H s)(xe:ag->aj->Prop):aw (X.cJ (X.pn++aa) xe) [] j H s:=
 ⟨I.ok.cJ _ xe,I.os,I.bare,I.base,I.loc,I.cell,I.free,I.bU,by rw[append_nil];exact I.pin,I.aV,I.len⟩
theorem aw.hJ(ok:X.Ok)(I:aw (X.cJ (X.pn++aa) xe) more j H s):aw X aa j H s:=
 ⟨ok,I.os,I.bare,I.base,I.loc,I.cell,I.free,I.bU,λp a=>I.pin p (mem_append_left _ a),I.aV,I.len⟩
abbrev Cx.a8(X:Cx)(v:ag):Cx:={ X with A:=X.A.mark (some v),calm:=false,xe:=λ_ _=>False }
theorem aw.a8(I:aw X aa j H s)(v:ag):aw (X.a8 v) aa j H s:=
 ⟨⟨I.ok.mod,I.ok.kind,I.ok.glob,I.ok.blt,I.ok.above,I.ok.inj,I.ok.has,I.ok.lx,λz=>Bool.noConfusion z,I.ok.frames,I.ok.mW,I.ok.mK,I.ok.bs,I.ok.iE,I.ok.f6,I.ok.f3,I.ok.dA,I.ok.jL⟩,
  I.os,I.bare,I.base,I.loc,I.cell,I.free,I.bU,I.pin,I.aV,I.len⟩
theorem aw.eR(ok:X.Ok)(I:aw (X.a8 v) aa j H s):aw X aa j H s:=
 ⟨ok,I.os,I.bare,I.base,I.loc,I.cell,I.free,I.bU,I.pin,I.aV,I.len⟩
theorem SP.imp(q:SP Y pins' D fl s)(h:∀j H,aw Y pins' j H s->aw X aa j H s):SP X aa D fl s:=by
 cases fl with
 |next=>let⟨b,a,I,q⟩:=q;exact⟨b,a,h _ _ I,q⟩
 |brk=>let⟨b,a,I,q⟩:=q;exact⟨b,a,h _ _ I,q⟩
 |cont=>let⟨b,a,I,q⟩:=q;exact⟨b,a,h _ _ I,q⟩
 |ret u=>let⟨v,b,a,I,r,q⟩:=q;exact⟨v,b,a,h _ _ I,r,q⟩
end
end L2
namespace L2
open PySem PySem.Spec PyProof.Rows PySem.W Builtin Builtin.ObjectAttr Builtin.Getset_descriptor
structure dM(K:Frag)(C:ah):Prop where
 fg:findIn K (.ref C) "__getattribute__"=some (some (.builtin "BaseException.__getattribute__"))
 fn:findIn K (.ref C) "__getattr__"=some none
 fc:findIn K (.ref C) "__class__"=some (some (.builtin "object.__class__"))
 mo:mroIn K C (.type "object")=some true
 sb:subIn K (.ref C) (.type "BaseException")=some true
def dZ(x C:ah)(h:aP):Prop:=∃o,h.get? x=some o/\o.cls=.ref C
theorem dZ.ty(p:dZ x C h):Looks M h (typeOf (.ref x)) (.ref C):=by
 let⟨o,a,b⟩:=p;rw[<- b];exact (Looks.ld a).andThen .now
section
variable{prog:Program}{w:World}{A:Around}{E:ag->aj->Prop}{K:Frag}{h:aP}{g:Array GenState}{d:Drawn}{t:Nat}{os:OsState}{x C:ah}
theorem Pz{Q:Unit->aj->Prop}(Z:dM K C)(X:K.In h)(I:dZ x C h)(f:Q () ⟨h,g,d,t,os⟩):
  wpAny M A (checkBuiltinCall "BaseException.__getattribute__" ⟨[.ref x,nameV],[]⟩) Q E ⟨h,g,d,t,os⟩:=by
 have e:builtinKind "BaseException.__getattribute__"=some .slot:=by decide +kernel
 have a:splitId "BaseException.__getattribute__"=some ("BaseException","__getattribute__"):=by decide +kernel
 have ha:=F.args_bexc_ga (.ref x) nameV;have b:=I.ty (M:=M);have c:=looks_subIn (M:=M) X Z.sb;simp only[checkBuiltinCall,e,a];refine wpAny_bind ?_;unfold isInstance;refine wpAny_bind (b.at (c.at ?_))
 repeat (any_goals (first |assumption |wp_step))
theorem Tp{R:Result->aj->Prop}(Z:dM K C)(X:K.In h)(I:dZ x C h)(e:R (.ok (.ret (.ref C))) ⟨h,g,d,t,os⟩):
  codeAny (model prog w) A (.call (.builtin "getset_descriptor.__get__") ⟨[.builtin "object.__class__",.ref x,tp],[]⟩) R ⟨h,g,d,t,os⟩:=by
 have c:(⟨h,g,d,t,os⟩:aj).TypeIs (.builtin "object.__class__") "getset_descriptor":=F.typeOf_object_class;have a:=I.ty (M:=model prog w);have b:=looks_mroIn (M:=model prog w) X Z.mo;refine codeAny_call_builtin (KF.slot_gs).plain (KF.entry_gs) ((KF.slot_gs).check _ _ _ _ _ _ _ _ (KF.type_class) ((KF.args_gs) _ _ _) ?_)
 (unfold Builtin.«getset_descriptor.__get__» descrGet;rw[dga_obj];refine wpAny_bind (wpAny_pure ?_);unfold descrGetter descrCheckInstance descrNameAndClass isInstance;simp only[KF.owner_class])
 repeat (any_goals (first |assumption |with_reducible refine Looks.at a ?_ |with_reducible refine Looks.at b ?_ |wp_step))
 (refine⟨Code.quiet_builtin _ (by decide +kernel),codeAny_builtin KF.entry_class ?_⟩;unfold Builtin.«object.__class__» shownTypeOf)
 repeat (any_goals (first |assumption |with_reducible refine Looks.at a ?_ |wp_step))
theorem PB{Q:Fin->aj->Prop}(Z:dM K C)(X:K.In h)(I:dZ x C h)(j:Q (.done (.ret (.ref C))) ⟨h,g,d,t,os⟩):
  wpAny (model prog w) A (Builtin.«object.__getattribute__» ⟨[.ref x,.str "__class__" tk],[]⟩) Q E ⟨h,g,d,t,os⟩:=by
 have c:(⟨h,g,d,t,os⟩:aj).TypeIs (.builtin "object.__class__") "getset_descriptor":=F.typeOf_object_class;have e:=F.typeOf_object_class;have f:=F.slot_gs_get.lookup;have i:=F.slot_gs_set.lookup;have a:=I.ty (M:=model prog w);have b:=looks_findIn (M:=model prog w) X Z.fc
 repeat (any_goals (first |assumption |with_reducible refine Looks.at a ?_ |with_reducible refine Looks.at b ?_ |wp_step))
 refine Tp Z X I ?_
 repeat (any_goals (first |assumption |wp_step))
theorem WT{Q:ag->aj->Prop}(Z:dM K C)(X:K.In h)(I:dZ x C h)(i:Q (.ref C) ⟨h,g,d,t,os⟩):
  wpAny (model prog w) A (getAttrBy (.ref x) (.str "__class__" tk) false) Q E ⟨h,g,d,t,os⟩:=by
 have f:=F.excAttr_ValueError.ga.bind (.ref x);have b:=I.ty (M:=model prog w);have c:=looks_findIn (M:=model prog w) X Z.fg;have L2:=looks_findIn (M:=model prog w) X Z.fn;have a:(Value.builtin "BaseException.__getattribute__" == Value.builtin "object.__getattribute__")=false:=by decide +kernel
 have e:(onTheHeap (Value.ref C)&&Value.builtin "BaseException.__getattribute__" == Value.builtin "object.__getattribute__")=false:=by rw[a];rfl
 repeat (any_goals (first |assumption |with_reducible refine Looks.at b ?_ |with_reducible refine Looks.at c ?_ |with_reducible refine Looks.at L2 ?_ |wp_step))
 refine codeAny_call_builtin F.excAttr_ValueError.ga.plain F.entry_bexc_ga (Pz Z X I (PB Z X I ?_))
 repeat (any_goals (first |assumption |wp_step))
theorem PC{Q:dO->aj->Prop}(Z:dM K C)(X:K.In h)(I:dZ x C h)(a:Q (some (.ref C)) ⟨h,g,d,t+1,os⟩):wpAny (model prog w) A (getAttr? (.ref x) "__class__") Q E ⟨h,g,d,t,os⟩:=by
 unfold getAttr? getAttrBy?
 repeat (any_goals (first |assumption |with_reducible apply WT Z X I |wp_step))
theorem EV(Z:dM K C):KitX K (.ref x) (.ref C) (dZ x C) where
 ty:=λ_ _ _ I=>I.ty
 it:=λ_ _ X _=>by
  have e:=Z.fn;unfold findIn at e;dsimp only at e;split at e
  .rename_i ho;intro i l j r k q;unfold isType loadHead;exact wpAny_bind (wpAny_loadPart (k _ _ (X _ _ ho)) (wpAny_pure q))
  .cases e
 ne:=λh f b c n u X a=>by
  have e:=Z.fn;unfold findIn at e;dsimp only at e;split at e
  .rename_i ho;refine eq_false_iff.mpr λq=>?_
   have e:C=f:=Value.ref.inj (beq_iff_eq.mp q);subst e;have z:=(X _ _ ho).symm.trans a;cases z
  .cases e
 ca:=λ{_ _ _ _ _ s} X I k=>by
  let⟨o,m,b,v,p⟩:=s;exact PC Z X I k
end
def i5(x C:ah):HO:=.ext λh=>dZ x C h/\Cn x h
theorem WU(p:dZ x C h)(cn:Cn x h):bg P w H h x (i5 x C):=by
 refine⟨⟨p,cn⟩,?_,λa b q k=>?_⟩
 .obtain⟨o,e,_⟩:=p;exact⟨o,e⟩
 .obtain⟨⟨o,e,c⟩,n⟩:=q;exact⟨⟨o,k o e,c⟩,n.keeps k⟩
section
variable{X:Cx}
theorem Q6:a9 X (.builtin "isinstance") (λxs H Q=>∃x D c b u,xs=[.ref x,c]/\Rd H x (i5 x D)/\dM X.K D/\l0 c=some u/\kitOne X.K (.ref D) u=some b/\Q (.bl b) H):=by
 intro aa s j H xs us Q I r h;∎;let⟨x,D,c,b,u,rfl,f,Z,d,e,q⟩:=h;let⟨v,m,rfl,l,g⟩:=qH r;∎;have k:m=u:=by
  cases c with
  |ref a=>cases d;exact g
  |ty n=>cases d;exact g
  |aX=>cases d
  |bl n=>cases d
  |int i=>cases d
  |str i=>cases d
  |fW i=>cases d
  |jK i=>cases d
 subst k;cases (show v=Value.ref x from l);have f:dZ x D s.heap:=by
  rcases f with f |⟨o,f⟩
  .exact (I.aV x _ f).1.1
  .exact (I.aV x _ f).2.1.1
 exact kia_one (EV Z) I.cy f e (λz=>nomatch z) λtk=>⟨.bl b,H,I.tok tk,rfl,q⟩
end
end L2
namespace L2
open PySem PySem.Spec PyProof.Rows
theorem WV:lV (b4 P w) X E0:=λ_ _ _ _ _ _ _ a=>by let⟨_,_,_,_,_,_,_,_,_,h⟩:=a;exact h.elim
section
variable{X:Cx}
theorem aw.gone{s:aj}{n:Str}(I:aw X aa G H s)(w:X.N.Nodup)(B:X.N[i]?=some n)(hm:s.heap.Ns X.env.locals m)(C:∀(j:Nat)(x:Str)(v:V),X.N[j]?=some x->G[j]?=some (some v)->jP X.env.scope x->∃u,aK v u/\Df X.env s.heap m x u)(hn:h'.Ns X.env.locals (λx=>if x=n then v else m x))(hs:Heap.SameBut X.env.locals s.heap h'):aw X aa (G.set i none) H { s with heap:=h',toks:=tk }:=by
 have apart:∀b o,X.s₀.heap.get? b=some o->b≠X.env.locals:=λb o e=>ne_of_lt (lt_of_lt_of_le (Heap.lt_size e) I.ok.above)
 refine⟨I.ok,I.os,I.bare,⟨λb o e q f d=>(hs.2 b (apart b o e)).trans (I.base.keep b o e q f d),λb o e q f d=>?_,I.base.free,λb o e d=>?_,I.base.d6,I.base.bP,I.base.eC⟩,
  ⟨_,hn,λj y J h a l=>?_⟩,λy c e=>?_,I.free,I.bU,λp D=>?_,λb u e=>?_,by rw[length_set];exact I.len⟩
 .obtain⟨sl,z⟩:=I.base.slot b o e q f d;exact⟨sl,(hs.2 b (apart b o e)).trans z⟩
 .obtain⟨o',z⟩:=I.base.there b o e d;exact⟨o',(hs.2 b (apart b o e)).trans z⟩
 .have hj:i≠j:=λz=>by
   subst z;rw[List.getElem?_set] at a;split at a
   .split at a<;>cases a
   .rename_i q;exact q rfl
  rw[getElem?_set_ne hj] at a;let⟨u,r,q⟩:=C j y J h a l;refine⟨u,r,q.imp (λq=>⟨q.1,?_⟩) λg=>by let⟨k,c,e,z⟩:=g;exact⟨k,c,e,z.sameBut hs (I.kl y c e)⟩⟩;have E:y≠n:=λz=>hj (xC w B (z ▸ h))
  show (if y=n then v else m y)=_;rw[if_neg E];exact q.2
 .obtain⟨u,z⟩:=I.cell y c e;exact⟨u,z.sameBut hs (I.kl y c e)⟩
 .obtain⟨e,q,ne,r⟩:=I.pin p D;exact⟨(hs.2 p.1 ne).trans e,q,ne,r⟩
 .refine (I.aV b u e).eB (λc o A q=>(hs.2 c ?_).trans q) (λ_ q=>q) λ_ _ q=>q
  rintro rfl;rcases A with z |z
  .rw[<- z,I.free] at e;cases e
  .rw[I.free] at z;cases z
def Ends.less(D:Ends)(i:Nat):Ends:={ nx:=λj H=>D.nx (j.set i none) H,rt:=D.rt,bk:=λj H=>D.bk (j.set i none) H,ct:=λj H=>D.ct (j.set i none) H }
end
end L2
namespace Vc
open PySem L2 Sf
theorem Le.exc(e:Le F F')(h:Rd F a (i5 a B)):Rd F' a (i5 a B):=e _ _ (by intro o w z;cases z) h
end Vc
namespace L2
open PySem PySem.Spec PyProof.Rows
theorem DX:∀{bs:List Bool}{us:aJ},aF (bs.map V.bl) us->us=bs.map Value.bool
 |[],_,.nil=>rfl
 |b::r,_,.cons h t=>by
  have e:=DX (bs:=r) t;subst e;cases h;rfl
theorem PD(bs:List Bool):(List.range bs.length).all (λi=>bs.getD i false)=bs.all id:=by
 rw[Bool.eq_iff_iff,all_eq_true,all_eq_true];constructor
 .intro h b hb;let⟨i,a,rfl⟩:=List.getElem_of_mem hb;have z:=h i (mem_range.mpr a);rw[List.getD_eq_getElem?_getD,List.getElem?_eq_getElem a] at z;exact z
 .intro h i a;rw[mem_range] at a;rw[List.getD_eq_getElem?_getD,List.getElem?_eq_getElem a];exact h _ (getElem_mem a)
theorem Nn(bs:List Bool):TruthOf prog w A (λi v=>(bs.map Value.bool).toArray[i]?=some v) (λi=>bs.getD i false):=by
 intro i v s Q E a c;simp only[List.getElem?_toArray,getElem?_map] at a;cases q:bs[i]? with
 |none=>rw[q] at a;cases a
 |some b=>
  rw[q] at a;cases a;have c:Q (bs.getD i false) s:=c;rw[List.getD_eq_getElem?_getD,q] at c;exact wpAny_pure c
section
variable{X:Cx}
theorem xt(f:X.calm=true):a9 X (.builtin "all") (λxs H Q=>∃(a:ah)(bs:List Bool),xs=[.ref a]/\bM X.K H a (bs.map V.bl)/\Q (.bl (bs.all id)) H):=by
 intro aa s j H xs us Q I r h;∎;let⟨a,bs,rfl,i,q⟩:=h;let⟨u,rfl,m⟩:=gX r;∎;cases m;let⟨k,n,p,w⟩:=I.list i;obtain rfl:=DX n;have d:=p.isList;have l:a<⇑s:=(let ⟨_,e,_⟩:=d;Heap.lt_size e);refine call_all_walk (wpAny_pyIter_list d ?_);refine⟨⇑s,_,_,_,_,_,_,rfl,Walks.list (by exact I.ok.hd f) _ a (ne_of_lt l) _,⟨⟨_,Heap.get?_push_size _ rfl,rfl,rfl⟩,(let ⟨o,e,c⟩:=d;⟨o,Heap.get?_push_of_some _ e,c⟩)⟩,Nn bs,λv tk g=>?_⟩;refine⟨.bl (bs.all id),H,I.kept λb o e=>g b o (λz=>absurd (Heap.lt_size e) (by rw[show b=⇑s from by simpa using z];exact lt_irrefl _)) (Heap.get?_push_of_some _ e),?_,q⟩;rw[<- PD];show _=_;simp
end
section
variable{X:Cx}
def PJ(X:Cx)(a:bS)(t:Str->TE):Prop:=
 ∀(out:Str)(aa:aT)(s:aj)(j:St)(H:Hp)(Q:VK),aw X aa j H s->t out j H Q->wpAny (model X.prog X.w) X.A (joinParts out (evalEach a X.env)) (EP X aa j Q) X.xe s
def C0:Str->TE:=λout _ H Q=>out.length<=sizeLine/\Q (.str out) H
def C1(x:Str)(t:Str->TE):Str->TE:=λout j H Q=>(out++x).length<=sizeLine/\t (out++x) j H Q
def C2(b:TE)(t:Str->TE):Str->TE:=λout j H Q=>b j H λv a=>∃y,v=.str y/\y.length<=sizeLine/\(out++y).length<=sizeLine/\t (out++y) j a Q
theorem VZ:PJ X [] C0:=λout aa s j H Q I h=>joinParts_nil ⟨.str out,H,I.tok _,⟨_,rfl⟩,h.2⟩ h.1
theorem V0(a:PJ X es t):PJ X (.Constant (.str x) j pos::es) (C1 x t):=λout aa s y H Q I h=>
 joinParts_cons (rest:=evalEach es X.env) (Calls.Constant_str ⟨h.1,a (out++x) aa _ y H Q (I.tok _) h.2⟩)
theorem V1(he:PE X e te)(a:PJ X es t):PJ X (.FormattedValue e (-1) none pos::es) (C2 te t):=λout aa s j H Q I h=>
 joinParts_cons (rest:=evalEach es X.env) (FormattedValue_plain (bo (he aa s j H _ I h) λv c ⟨x,H1,I1,r1,y,e1,hz,hq,q1⟩=>by
  subst e1;let⟨b,rfl⟩:=r1;exact formatField_str (λb tk=>⟨hq,a (out++y) aa _ j H1 Q (I1.tok _) q1⟩) hz))
def tJ(t:Str->TE):TE:=t Str.empty
theorem Tq(h:PJ X (a::b::es) t):PE X (.JoinedStr (a::b::es) pos) (tJ t):=λaa s j H Q I q=>
 JoinedStr_many (h Str.empty aa s j H Q I q)
end
end L2
namespace Vc
open PySem L2 Sf
section
variable{X:Cx}{aa:aT}{σ:St}{H:Hp}{s:aj}{Au:Around}
theorem Ts(I:aw X aa σ H s)(c:bM X.K H a xs)(d:bM X.K H b ys)(n:Au.units<cLine)(C:xs.length=ys.length)(e:Nat->Bool)(he:∀(j:Nat) x y u v,xs[j]?=some x->ys[j]?=some y->aK x u->aK y v->SeqAt.EqAt Au.in1 s u v (e j)):SeqAt.RcNeAt Au s (.ref a) (.ref b) (!(List.range xs.length).all e):=by
 ∎;let⟨us,r1,r,_⟩:=I.list c;let⟨B,r2,w,_⟩:=I.list d;∎;have o:=r1.length;have D:=r2.length;have z:=SeqAt.RcNeAt.lists (A:=Au) (e:=e) r.isList w.isList (by simp;omega) n (λj c d=>?_)
 .have e0:(List.range us.toArray.size).all e=(List.range xs.length).all e:=by
   simp only[size_toArray];rw[<- o]
  rw[e0] at z;exact z
 .simp only[size_toArray] at c d;∎;let⟨u,f,p⟩:=r1.get (i:=j) (x:=xs[j]'⋯) (by simp);let⟨v,g,q⟩:=r2.get (i:=j) (x:=ys[j]'⋯) (by simp);let⟨_,h⟩:=List.getElem?_eq_some_iff.mp f;let⟨_,k⟩:=List.getElem?_eq_some_iff.mp g;∎;have l:us.toArray[j]'(by simpa using c)=u:=by simpa using h
  have m:B.toArray[j]'(by simpa using d)=v:=by simpa using k
  rw[l,m];exact he j _ _ u v (by simp) (by simp) p q
end
theorem b9:∀xs:ae,(xs.map V.str).all gC=true
 |[]=>rfl
 |y::r=>by rw[map_cons,all_cons,b9 r];rfl
theorem F3{H:Hp}(h:H p=some (.ak xs)):Ae K "list" (.ref p) H:=by
 exact .inl ⟨rfl,xs,bM.of h⟩
end Vc
namespace L2
open PySem PySem.Spec PyProof.Rows
section
variable{X:Cx}
theorem EK(h:StrsAre us ks):aF (ks.map V.str) us:=by
 induction h with
 |nil=>exact .nil
 |cons _ _ _ a=>exact .cons ⟨_,rfl⟩ a
end
end L2
namespace Vc
open PySem L2 Sf
theorem Np{a b:List Nat}(c:¬ a<b)(d:¬ b<a):a=b:=by
 rw[not_lt] at c d;exact List.le_antisymm d c
theorem DY:∀(l:ae),PyProof.Rows.sortedS l=true->l.Pairwise (λa b=>¬ b.cps.toList<a.cps.toList)
 |[],_=>.nil
 |x::r,h=>by
  have tr:∀a b c:List Nat,¬ b<a->¬ c<b->¬ c<a:=λa b c d i=>by
   rw[not_lt] at d i ⊢;exact List.le_trans d i
  have gen:∀(r:ae)(p:Str),PyProof.Rows.risingS p r=true->(p::r).Pairwise (λa b=>¬ b.cps.toList<a.cps.toList):=by
   intro r
   induction r with
   |nil=>intro p _;exact List.pairwise_singleton _ _
   |cons y t j=>
    intro p h;have f:(!PySem.Spec.ltCps y.cps.toList p.cps.toList&&PyProof.Rows.risingS y t)=true:=h;rw[and_eq_true,PyProof.Rows.ltCps_eq] at f;have d:¬ y.cps.toList<p.cps.toList:=by simpa using f.1
    have w:=j y f.2;refine List.pairwise_cons.mpr ⟨λb g=>?_,w⟩;rcases mem_cons.mp g with e |g
    .rw[e];exact d
    .exact tr _ _ _ d ((List.pairwise_cons.mp w).1 b g)
  exact gen r x h
theorem Ov{a b:ae}(e:PyProof.Rows.sortedS a=true)(f:PyProof.Rows.sortedS b=true)(p:a.Perm b):a=b:=by
 refine List.Perm.eq_of_pairwise (le:=λa b=>¬ b.cps.toList<a.cps.toList) (λx y _ _ c d=>?_) (DY a e) (DY b f) p;have:=Np d c;cases x;cases y;simpa using this
noncomputable def mV(ks:ae):ae:=Classical.epsilon λl=>l.Perm ks/\PyProof.Rows.sortedS l=true
theorem V2(h:l.Perm ks)(g:PyProof.Rows.sortedS l=true):l=mV ks:=by
 have:=Classical.epsilon_spec (p:=λl:ae=>l.Perm ks/\PyProof.Rows.sortedS l=true) ⟨l,h,g⟩;exact Ov g this.2 (h.trans this.1.symm)
theorem G1(ks:ae):∃l:ae,l.Perm ks/\PyProof.Rows.sortedS l=true:=by
 have e:∃l:ae,l.Perm ks/\PyProof.Rows.sortedS l=true:=by
  refine⟨ks.mergeSort (λa b=>!decide (b.cps.toList<a.cps.toList)),List.mergeSort_perm _ _,PyProof.Rows.sortedS_of_pairwise _ ?_⟩;have:=List.pairwise_mergeSort (le:=λa b:Str=>!decide (b.cps.toList<a.cps.toList)) (λa b c g i=>by
   have d:¬ b.cps.toList<a.cps.toList:=by simpa using g
   have f:¬ c.cps.toList<b.cps.toList:=by simpa using i
   rw[not_lt] at d f;have:=not_lt.mpr (List.le_trans d f);simpa using this) (λa b=>by
   rcases List.le_total a.cps.toList b.cps.toList with h |h
   .have:=not_lt.mpr h;simp[this]
   .have:=not_lt.mpr h;simp[this]) ks
  refine this.imp λh=>?_
  rw[PyProof.Rows.ltCps_eq];simpa using h
 exact e
theorem Tt(ks:ae):(mV ks).length=ks.length:=(Classical.epsilon_spec (G1 ks)).1.length_eq
def r4(K:ao){j y u e:Type}(A:Rep j)(B:Rep y)(C:Rep u)(D:Rep e):Rep (j×y×u×e):=λF v x=>∃a v1 b c d,v=.ref a/\cZ K F a [v1,b,c,d]/\A F v1 x.1/\B F b x.2.1/\C F c x.2.2.1/\D F d x.2.2.2
end Vc
namespace L2
open PySem PySem.Spec PyProof.Rows
section
variable{X:Cx}
def Ca(K:ao):V->ax->Hp->VK->Prop:=λx vs H Q=>∃a p b,x=.str a/\vs=[.ref p]/\bM K H p (b.map V.str)/\(b.map (·.length)).sum+b.length*a.length<=16777216/\Q (.str (Txt.join a b)) H
theorem Mw:∀{us:aJ},aF (ys.map V.str) us->StrsAre us ys:=by
 induction ys with
 |nil=>intro us r;cases r;exact .nil
 |cons y r c=>
  intro us h;cases h with
  |cons a b=>let⟨t,rfl⟩:=a;exact .cons y t (c b)
theorem Tu:u9 X "str.join" (Ca X.K):=by
 intro aa s j H x vs v us Q I f e h;∎;let⟨g,p,m,rfl,rfl,a,aV,q⟩:=h;let⟨t,rfl⟩:=f;let⟨u,rfl,d⟩:=e.one;∎;cases d;let⟨b,r,c,i⟩:=I.list a;exact join_list c.isList (by simpa using Mw r) aV λl k=>⟨.str _,H,I.tok _,⟨_,rfl⟩,q⟩
theorem PF:bZ X (compareOp .Gt) (λx y H Q=>∃i j,x=.str i/\y=.str j/\Q (.bl (decide (j.cps.toList<i.cps.toList))) H):=by
 intro aa s G H x y v u Q I a b h;∎;let⟨i,j,rfl,rfl,q⟩:=h;let⟨t,rfl⟩:=a;let⟨c,rfl⟩:=b;∎;exact PySem.P.gt_str (cX I q rfl)
end
section
variable{X:Cx}
def Cb(K:ao):R2:=λx y H Q=>∃l b a c,x=.ref l/\y=.ref b/\bM K H l a/\bM K H b c/\a.length+c.length<=sizeLine/\∀p,H p=none->Q (.ref p) (a6 H p (.ak (a++c)))
theorem Tv:bZ X (binaryOp .Add) (Cb X.K):=by
 intro aa s j H x y v u Q I B C h;let⟨l,b,O,zs,rfl,rfl,A,z,G,q⟩:=h;cases B;cases C;∎;let⟨c,r,p1,U⟩:=I.list A;let⟨a,r2,p2,Y⟩:=I.list z;∎;have J:=r.length;have L:=r2.length;∎;let⟨⟨D,p,M,g⟩,o,k,n,hd⟩:=p1.isList;let⟨⟨E,w,N,i⟩,f,d,m,e⟩:=p2.isList;∎;simp only at k hd d e;subst k hd d e;refine concat_meets ⟨_,o,rfl⟩ ⟨_,f,rfl⟩ noFill_list_add seq_list_add PySem.F.slot_list_add PySem.F.entry_list_add (PySem.F.args_list_add_2 _ _) (list_addW l b c.toArray a.toArray n m p w g i (by simp;omega)) ⟨o,f,?_⟩;rw[show c.toArray++a.toArray=(c++a).toArray by simp];exact⟨.ref _,_,I.zg (t':=s.toks) (r.append r2) (by rw[length_append];omega),rfl,q _ I.fresh⟩
theorem xu:a9 X (.type "int") (λxs H Q=>∃b,xs=[.bl b]/\Q (.int (if b=true then 1 else 0)) H):=by
 intro aa s j H xs us Q I r h;∎;let⟨b,rfl,q⟩:=h;let⟨u,rfl,a⟩:=gX r;∎;cases a;exact call_int_bool ⟨.int _,H,I.tok _,⟨_,rfl⟩,q⟩
def Cd(K:ao):ax->Hp->VK->Prop:=λc H Q=>∃(x D t:ah)(a:bV)(b:Bool),c=[.ref x,.ref t]/\Rd H x (i5 x D)/\dM K D/\cZ K H t (a.map V.ref)/\W.kitAny K (.ref D) (a.map Value.ref)=some b/\Q (.bl b) H
theorem PH:a9 X (.builtin "isinstance") (Cd X.K):=by
 intro aa s j H G us Q I r h;∎;let⟨x,D,t,f,b,rfl,d,Z,l,e,q⟩:=h;let⟨v,A,rfl,w,i⟩:=qH r;∎;cases (show v=Value.ref x from w);cases (show A=Value.ref t from i);have d:dZ x D s.heap:=by
  rcases d with d |⟨o,d⟩
  .exact (I.aV x _ d).1.1
  .exact (I.aV x _ d).2.1.1
 let⟨us,r1,pt,g⟩:=I.tuple l;have m:us=f.map Value.ref:=by
  clear e l q pt g
  induction f generalizing us with
  |nil=>cases r1;rfl
  |cons c f u=>cases r1 with
   |cons a b=>rw[map_cons,u _ b];exact congrArg (·::_) a
 subst m;let⟨⟨B,C,E,y⟩,p,k,n,hd⟩:=pt;simp only at k hd;subst k hd;exact W.kia_tup (EV Z) I.cy d p e (λz=>nomatch z) λtk=>⟨.bl b,H,I.tok tk,rfl,q⟩
end
end L2
namespace Vc
open PySem L2
def uo(a b:ah)(H:Hp):Hp:=λx=>if x=a\/x=b then none else H x
end Vc
namespace L2
open PySem
def fS(xs:Array Nat):Prop:=∀i j (b:j<xs.size) (a:i<j),xs[i]'(Nat.lt_trans a b)<xs[j]
theorem Q7(xs:Array Nat)(j:Nat)(l:fS xs):∀(a lo b:Nat),b - lo<=a->lo<=b->b<=xs.size->(∀i (h:i<xs.size),i<lo->xs[i]<j)->(∀i (h:i<xs.size),b<=i->j<=xs[i])->
  SetTable.below.go xs j a lo b<=xs.size/\(∀i (h:i<xs.size),i<SetTable.below.go xs j a lo b->xs[i]<j)/\(∀i (h:i<xs.size),SetTable.below.go xs j a lo b<=i->j<=xs[i]):=by
 intro a
 induction a with
 |zero=>intro lo b p q k c d;unfold SetTable.below.go;exact⟨⋯,c,λi h e=>d i h ⋯⟩
 |succ f n=>
  intro lo b p q k c d;unfold SetTable.below.go;by_cases m:lo<b
  .rw[if_pos m];dsimp only;have hm:(lo+b) / 2<xs.size:=⋯
   have o:xs.getD ((lo+b) / 2) j=xs[(lo+b) / 2]:=by rw[Array.getD_eq_getD_getElem?,getElem?_eq_getElem hm];rfl
   rw[o];by_cases g:xs[(lo+b) / 2]<j
   .rw[if_pos g];refine n _ _ ⋯ ⋯ k (λi h e=>?_) d;by_cases z:i=(lo+b) / 2
    .subst z;exact g
    .exact Nat.lt_trans (l i _ hm ⋯) g
   .rw[if_neg g];refine n _ _ ⋯ ⋯ ⋯ c λi h e=>?_
    by_cases z:i=(lo+b) / 2
    .subst z;omega
    .have:=l ((lo+b) / 2) i h ⋯;omega
  .rw[if_neg m];exact⟨⋯,c,λi h e=>d i h ⋯⟩
theorem xh(a:fS xs)(j:Nat):SetTable.below xs j<=xs.size/\(∀i (h:i<xs.size),i<SetTable.below xs j->xs[i]<j)/\(∀i (h:i<xs.size),SetTable.below xs j<=i->j<=xs[i]):=
 Q7 xs j a _ _ _ ⋯ ⋯ (le_refl _) (λi h e=>⋯) (λi h e=>⋯)
theorem Q8(d:fS xs)(h:i<xs.size):SetTable.below xs (xs[i]+1)=i+1:=by
 let⟨a,b,c⟩:=xh d (xs[i]+1);have e:¬ SetTable.below xs (xs[i]+1)<=i:=λz=>by have:=c i h z;omega
 by_cases z:i+1<SetTable.below xs (xs[i]+1)
 .have h2:i+1<xs.size:=⋯
  have:=b (i+1) h2 z;have:=d i (i+1) h2 ⋯;omega
 .omega
theorem Ox(d:fS xs):SetTable.below xs 0=0:=by
 let⟨a,b,c⟩:=xh d 0;by_cases z:0<SetTable.below xs 0
 .have:=b 0 ⋯ z;omega
 .omega
theorem Oy(l:fS xs)(hn:xs[SetTable.below xs j]?≠some j):fS (SetTable.insertAt xs (SetTable.below xs j) j):=by
 let⟨a,b,c⟩:=xh l j;generalize SetTable.below xs j=p at *;have y:(SetTable.insertAt xs p j).size=xs.size+1:=by unfold SetTable.insertAt;simp;omega
 have at':∀i,(SetTable.insertAt xs p j)[i]?=if i<p then xs[i]? else if i=p then some j else xs[i - 1]?:=by
  intro i;unfold SetTable.insertAt;have A:((xs.extract 0 p).push j).size=p+1:=by simp;omega
  rw[Array.getElem?_append];rw[A];by_cases m:i<p
  .rw[if_pos ⋯,if_pos m,Array.getElem?_push_lt (by simp;omega)];simp[Array.getElem_extract]
  .rw[if_neg m];by_cases n:i=p
   .rw[if_pos ⋯,if_pos n];have:(xs.extract 0 p).size=i:=by simp;omega
    rw[<- this,Array.getElem?_push_size]
   .rw[if_neg ⋯,if_neg n];rw[Array.getElem?_extract];have e:p+(i - (p+1))=i - 1:=⋯
    rw[e];by_cases q:i - (p+1)<min xs.size xs.size - p
    .rw[if_pos q]
    .rw[if_neg q,Array.getElem?_eq_none ⋯]
 have f:∀i (h:i<xs.size),p<=i->j<xs[i]:=by
  intro i h B;have o:p<xs.size:=⋯
  have m:=c p o (le_refl _);have n:xs[p]≠j:=λz=>hn (by rw[getElem?_eq_getElem o,z])
  by_cases z:i=p
  .subst z;omega
  .have:=l p i h ⋯;omega
 intro i k r x;have d:=at' i;have g:=at' k;rw[getElem?_eq_getElem ⋯] at d;rw[getElem?_eq_getElem r] at g;rw[y] at r;by_cases v:k<p
 .rw[if_pos v,getElem?_eq_getElem ⋯] at g;rw[if_pos ⋯,getElem?_eq_getElem ⋯] at d;rw[Option.some.inj d,Option.some.inj g];exact l i k ⋯ x
 .rw[if_neg v] at g;by_cases w:k=p
  .rw[if_pos w] at g;rw[if_pos ⋯,getElem?_eq_getElem ⋯] at d;rw[Option.some.inj d,Option.some.inj g];exact b i ⋯ ⋯
  .rw[if_neg w,getElem?_eq_getElem ⋯] at g;rw[Option.some.inj g];by_cases s:i<p
   .rw[if_pos s,getElem?_eq_getElem ⋯] at d;rw[Option.some.inj d];exact l i (k - 1) ⋯ ⋯
   .rw[if_neg s] at d;by_cases u:i=p
    .rw[if_pos u] at d;rw[Option.some.inj d];exact f (k - 1) ⋯ ⋯
    .rw[if_neg u,getElem?_eq_getElem ⋯] at d;rw[Option.some.inj d];exact l (i - 1) (k - 1) ⋯ ⋯
theorem Q9{l:List Nat}(h:l.Pairwise (·<·)):fS l.toArray:=by
 intro i j b a;have:=List.pairwise_iff_getElem.mp h i j (by simpa using Nat.lt_trans a b) (by simpa using b) a;simpa using this
theorem sY(n:Nat):fS (Array.range n):=by
 intro i j b a;simp only[Array.getElem_range];exact a
theorem PK:fS #[]:=λi j hj hi=>absurd hj (by simp)
theorem Oz:∀(a:Nat)(p:SetTable.Probe),(∀d,p.dummy=some d->t.place[SetTable.below t.place d]?≠some d)->
  ∀j d,SetTable.probe.go t hf h a p=some (.empty j d)->t.place[SetTable.below t.place (d.getD j)]?≠some (d.getD j):=by
 intro a
 induction a with
 |zero=>intro p _ j d e;unfold SetTable.probe.go at e;cases e
 |succ f g=>
  intro p c j d e;unfold SetTable.probe.go at e;have k:(t.slot p.j=.empty\/t.slot p.j=.dummy)->t.place[SetTable.below t.place p.j]?≠some p.j:=by
   intro z q;unfold SetTable.slot at z;dsimp only at z;rw[if_pos (by rw[q];exact beq_self_eq_true _)] at z;rcases z with z |z<;>cases z
  have b:∀q:SetTable.Probe,(t.advance q).dummy=q.dummy:=λq=>by unfold SetTable.advance;split<;>rfl
  split at e
  .rename_i hs;cases e;cases q:p.dummy with
   |none=>exact k (.inl hs)
   |some d=>exact c d q
  .rename_i hs;refine g _ (λd q=>?_) j d e;rw[b] at q;cases q;exact k (.inr hs)
  .rename_i i hs;split at e
   .cases e
   .refine g _ (λd q=>c d (by rw[b] at q;exact q)) j d e
theorem PL{t:SetTable}{h:Int}{s:Nat}{b:Bool}(e:t.freeSlot h=some (s,b)):t.place[SetTable.below t.place s]?≠some s:=by
 unfold SetTable.freeSlot at e;split at e
 .rename_i j d q;cases e;exact Oz _ _ (λd z=>by cases z) j d q
 .cases e
theorem Mm{t:SetTable}(a:fS t.place)(n:Nat):fS (t.orStandIn n).place/\(t.orStandIn n).led=t.led:=by
 unfold SetTable.orStandIn;split
 .exact⟨a,rfl⟩
 .exact⟨sY _,rfl⟩
theorem OA{t:SetTable}(c:fS t.place)(a:Array (Int×ag))(h:Int)(x:ag):fS (layNew t a h x).2.1.place/\(layNew t a h x).2.1.led=t.led:=by
 unfold layNew;split
 .rename_i s b e;exact Mm (t:=(t.put s).1) (Oy c (PL e)) _
 .exact⟨sY _,rfl⟩
theorem Mx{t:SetTable}(k:fS t.place)(f:Array (Int×ag))(n:Nat):fS (relayAll t f n).2.1.place/\(relayAll t f n).2.1.led=t.led:=by
 unfold relayAll;split
 .rename_i t' o e;dsimp only;split
  .unfold SetTable.relaid SetTable.laid at e;cases q:SetTable.layClean (SetTable.sizeAbove n - 1) (f.map (·.1)) with
   |none=>rw[q] at e;cases e
   |some h=>
    rw[q] at e;cases e;refine⟨Q9 ?_,rfl⟩;rw[List.pairwise_map];refine List.Pairwise.filterMap (R:=(·<·)) _ (λa i g b d j c=>?_) List.pairwise_lt_range;cases z1:h.getD a none with
    |none=>rw[z1] at d;cases d
    |some l=>
     rw[z1] at d;cases d;cases z2:h.getD i none with
     |none=>rw[z2] at c;cases c
     |some m=>rw[z2] at c;cases c;exact g
  .exact⟨sY _,rfl⟩
 .exact⟨sY _,rfl⟩
theorem xi:∀(l:List j)(i:Nat)(h:i<l.length),(l[i]::l.eraseIdx i).Perm l
 |[],_,h=>absurd h (by simp)
 |_::_,0,_=>.refl _
 |x::r,i + 1,h=>(List.Perm.swap x _ _).trans (List.Perm.cons x (xi r i (by simpa using h)))
theorem Tw(nx:Nat->Nat):∀(a k:Nat)(left:List j)(out:Array j),left.length<=a->(pickOrder.go nx a k left out).toList.Perm (out.toList++left):=by
 intro a
 induction a with
 |zero=>intro k left out h;unfold pickOrder.go;cases left with
  |nil=>simp
  |cons _ _=>simp at h
 |succ f b=>
  intro k left out h;unfold pickOrder.go;cases left with
  |nil=>simp
  |cons y r=>
   have hm:nx k % (y::r).length<(y::r).length:=Nat.mod_lt _ (by simp);rw[List.getElem?_eq_getElem hm];dsimp only;refine (b _ _ _ (by rw[List.length_eraseIdx_of_lt hm];simp at h ⊢;omega)).trans ?_;rw[Array.toList_push,append_assoc];refine List.Perm.append_left _ ?_;exact xi _ _ hm
theorem PM(nx:Nat->Nat)(xs:Array j):(pickOrder nx xs).toList.Perm xs.toList:=by
 unfold pickOrder;simpa using Tw nx xs.size 0 xs.toList #[] (by simp)
section
variable{prog:Program}{w:World}{K:Type}[DecidableEq K]
noncomputable def hF(knd:KeyKind prog w K)(v:ag):Option K:=by
 classical exact if h:∃k,knd.is k v=true then some h.choose else none
variable{knd:KeyKind prog w K}
theorem nX(h:knd.is k v=true):hF knd v=some k:=by
 unfold hF;have ex:∃k,knd.is k v=true:=⟨k,h⟩;rw[dif_pos ex];exact congrArg some (knd.inj v _ _ ex.choose_spec h)
def gh(w:World):Bool:=!(w.params.followText "set-order")
def GS(knd:KeyKind prog w K)(o:Obj)(ks:List K):Prop:=
 o.ExactSet/\∃a b t,o.data=.set a b t/\ElemsOf knd a.toList/\t.fits a.size=true/\fS t.place/\t.led=gh w/\(a.toList.filterMap λe=>hF knd e.2).Perm ks
theorem EL:∀{a:List (Int×ag)},ElemsOf knd a->(a.filterMap λe=>hF knd e.2).length=a.length
 |[],_=>rfl
 |e::r,h=>by
  let⟨⟨k,b,_⟩,_⟩:=h.head;rw[filterMap_cons,nX b];simp[EL h.tail]
theorem yp{o:Obj}{a:Array (Int×ag)}{ks:List K}(h:ElemsOf knd a.toList)(p:(a.toList.filterMap λe=>hF knd e.2).Perm ks):a.size=ks.length:=by
 rw[<- p.length_eq,EL h,length_toList]
theorem Ra(h:ElemsOf knd a)(k:K):(k∈a.filterMap λe=>hF knd e.2)↔∃e∈a,knd.is k e.2=true:=by
 rw[mem_filterMap];constructor
 .rintro⟨e,he,q⟩;let⟨⟨c,b,_⟩,_⟩:=h e he;rw[nX b] at q;cases q;exact⟨e,he,b⟩
 .rintro⟨e,he,q⟩;exact⟨e,he,nX q⟩
variable{A:Around}{E:ag->aj->Prop}{s:aj}
theorem G4{h:aP}{a:ah}{o:Obj}{b es':Array (Int×ag)}{ep:Nat}{t t':SetTable}(c:h.get? a=some o)(hd:o.data=.set b ep t):
  (h.update a (Obj.putSet es' t')).get? a=some { o with data:=.set es' (ep+1) t' }:=by
 have:=Heap.get?_update_self (Obj.putSet es' t') c (by rw[putSet_of es' t' hd];rfl);rw[putSet_of es' t' hd] at this;exact this
theorem F6{g:Bool->Sem Unit}(D:∀(b:Bool)(f:aj)(q:Unit->aj->Prop),q () f->wpAny (model prog w) A (g b) q E f){a:ah}{o:Obj}{B:Array (Int×ag)}{ep:Nat}{t:SetTable}(x:s.heap.get? a=some o)(k:o.ExactSet)(hd:o.data=.set B ep t){c:Array (Int×ag)}{d:SetTable}{ks:List K}(j:ElemsOf knd c.toList)(y:(c.toList.filterMap λe=>hF knd e.2).Perm ks)(v:c.size<scanBound)(C:d.fits c.size=true)(u:fS d.place)(r:d.led=gh w){G:Bool}{R:Option Bool->aj->Prop}(h:∀h' o',Heap.SameBut a s.heap h'->h'.get? a=some o'->GS knd o' ks->R (some true) { s with heap:=h' }):
  wpAny (model prog w) A (do
    storeSet a c d
    if (!G&&d.tooFull)=true then do
      g (relayAll d c (SetTable.grown c.size)).2.2
      storeSet a (relayAll d c (SetTable.grown c.size)).1 (relayAll d c (SetTable.grown c.size)).2.1
      pure (some true)
     else pure (some true)) R E s:=by
 refine wpAny_bind (wpAny_storeSet_of x hd ?_ (fits_of_scanBound v));have i:=G4 (es':=c) (t':=d) x hd;have l:=Heap.SameBut.update s.heap a (Obj.putSet c d);split
 .have q1:=relayAll_perm d c (SetTable.grown c.size);have z:=relayAll_fits d c (SetTable.grown c.size);have p:=Mx u c (SetTable.grown c.size);generalize relayAll d c (SetTable.grown c.size)=Rl at q1 z p ⊢;have n:Rl.1.size=c.size:=by rw[<- length_toList,q1.length_eq,length_toList]
  refine wpAny_bind (D _ _ _ ?_);refine wpAny_bind (wpAny_storeSet_of i rfl ?_ (fits_of_scanBound (by rw[n];exact v)));have m:=G4 (es':=Rl.1) (t':=Rl.2.1) i rfl;exact wpAny_pure (h _ _ (l.trans (Heap.SameBut.update _ a _)) m ⟨k,_,_,_,rfl,j.perm q1,z,p.1,p.2.trans r,(q1.filterMap _).trans y⟩)
 .exact wpAny_pure (h _ _ l i ⟨k,_,_,_,rfl,j,C,u,r,y⟩)
def ec(ks:List K)(k:K):List K:=if k∈ks then ks else ks++[k]
theorem V3{a:ah}{o:Obj}{ks:List K}{k:K}{x:ag}{Q:Bool->aj->Prop}(f:knd.is k x=true)(u:x.scannable=true)(D:s.heap.get? a=some o)(hG:GS knd o ks)(r:ks.length+1<scanBound)(h:∀(b:Bool) h' o',Heap.SameBut a s.heap h'->h'.get? a=some o'->GS knd o' (ec ks k)->Q b { s with heap:=h' }):
  wpAny (model prog w) A (setAddHashed a x (knd.hash k)) Q E s:=by
 let⟨p,m,ep,t,hd,d,M,hR,J,G⟩:=hG;have hn:=yp (o:=o) d G;have i:=Ra d k;unfold setAddHashed setAddHashedIn;refine wpAny_holding (wpAny_bind (wpAny_setState_of D hd M ?_));dsimp only;rw[byScan_of u (by rw[hn];omega) d];simp only[↓reduceIte];unfold setAddByScan;refine wpAny_bind (wpAny_bind (wpAny_rule (wpAny_bind (wpAny_setScan_of f D hd M d ?_))));cases hr:List.findIdx? (λe=>knd.is k e.2) m.toList with
 |some j=>
  dsimp only;let⟨hj,U,_⟩:=List.findIdx?_eq_some_iff_getElem.mp hr;have O:k∈ks:=G.mem_iff.mp (i.mpr ⟨m.toList[j],getElem_mem hj,U⟩);refine wpAny_pure (wpAny_pure ?_);have:=h false s.heap o (Heap.SameBut.refl a s.heap) D ⟨p,m,ep,t,hd,d,M,hR,J,by unfold ec;rw[if_pos O];exact G⟩;have e:s={ s with heap:=s.heap }:=by cases s;rfl
  rw[e];exact this
 |none=>
  dsimp only;have O:¬ k∈ks:=λz=>by
   let⟨e,he,q⟩:=i.mp (G.mem_iff.mpr z);have:=List.findIdx?_eq_none_iff.mp hr e he;rw[q] at this;cases this
  have N:∀(b:Bool){c:aj}{B:Unit->aj->Prop},B () c->wpAny (model prog w) A (match b with |true=>rule "set.scan.the-table-gave-way" |false=>pure ()) B E c:=
   λb c B l=>by cases b<;>first |exact wpAny_pure l |exact wpAny_rule l
  have v:=layNew_perm t m (knd.hash k) x;have I:=layNew_fits t m (knd.hash k) x;have y:=OA hR m (knd.hash k) x;generalize layNew t m (knd.hash k) x=L at v I y ⊢;let⟨n,t1,wd,Y⟩:=L;dsimp only at v I y ⊢;rw[Array.toList_push] at v;have g:ElemsOf knd n.toList:=(d.push f u).perm v;have H:(n.toList.filterMap λe=>hF knd e.2).Perm (ec ks k):=by
   refine (v.filterMap _).trans ?_;rw[List.filterMap_append];unfold ec;rw[if_neg O];refine List.Perm.append G ?_;rw[filterMap_cons,nX (show knd.is k ((knd.hash k,x):Int×ag).2=true from f)];exact .refl _
  have C:n.size<scanBound:=by rw[<- length_toList,v.length_eq,length_append,length_toList,hn];exact r
  refine wpAny_bind (N _ ?_);split
  .refine wpAny_bind ?_;rw[hashByValue_scannable 8 u];refine wpAny_pure ?_;refine F6 ?_ D p hd g H C ?_ ?_ ?_ ?_
   .intro b c B l;cases b<;>first |exact wpAny_pure l |exact wpAny_rule l
   .split
    .exact I
    .exact SetTable.fits_plain_off I
   .split<;>exact y.1
   .split<;>exact y.2.trans J
   .intro h' o' hsb ho' hG';dsimp only;exact wpAny_pure (h true h' o' hsb ho' hG')
  .refine wpAny_bind (wpAny_pure ?_);simp only[↓reduceIte];refine F6 ?_ D p hd g H C I y.1 (y.2.trans J) ?_
   .intro b c B l;cases b<;>first |exact wpAny_pure l |exact wpAny_rule l
   .intro h' o' hsb ho' hG';dsimp only;exact wpAny_pure (h true h' o' hsb ho' hG')
def cI(ks:List K):List K:=ks.foldl ec []
theorem PN(ks:List K)(k:K):cI (ks++[k])=ec (cI ks) k:=by unfold cI;rw[List.foldl_append];rfl
theorem Rb(ks:List K)(k:K):(ec ks k).length<=ks.length+1:=by unfold ec;split<;>simp
theorem My:∀ks:List K,(ks.reverse.foldr (λx a=>ec a x) []).length<=ks.length:=by
 intro ks;rw[List.foldr_reverse];generalize b:([]:List K)=a0;have:∀(l a:List K),(l.foldl ec a).length<=a.length+l.length:=by
  intro l
  induction l with
  |nil=>intro a;exact le_refl _
  |cons x r c=>intro a;have:=c (ec a x);have:=Rb a x;simp only[foldl_cons,length_cons];omega
 have:=this ks a0;rw[<- b] at this ⊢;simpa using this
theorem sT(ks:List K):(cI ks).length<=ks.length:=by
 have:=My ks;rw[List.foldr_reverse] at this;exact this
end
theorem iz:Slot "set_iterator" "__next__" "set_iterator.__next__":=
 .of (owner:="set_iterator") (n:="__next__") (by rw[typeLookup_type,builtinLookup_eq_fast];kernel_rfl) (by decide +kernel) (by decide +kernel) (by decide +kernel)
  (by first |exact .inl (by decide +kernel) |exact .inr (by decide +kernel)) (by rw[isSubtype_type];kernel_rfl)
theorem sL:entryFor table "set_iterator.__next__"=some Builtin.«set_iterator.__next__»:=entryFor_of_fast (by kernel_rfl)
theorem sM(a:ag):argsOk "set_iterator.__next__" ⟨[a],[]⟩:=by unfold argsOk;kernel_rfl
theorem Ds:Slot "set_iterator" "__iter__" "set_iterator.__iter__":=
 .of (owner:="set_iterator") (n:="__iter__") (by rw[typeLookup_type,builtinLookup_eq_fast];kernel_rfl) (by decide +kernel) (by decide +kernel) (by decide +kernel)
  (by first |exact .inl (by decide +kernel) |exact .inr (by decide +kernel)) (by rw[isSubtype_type];kernel_rfl)
theorem K7:entryFor table "set_iterator.__iter__"=some Builtin.«dict_keyiterator.__iter__»:=
 entryFor_alias (id':="dict_keyiterator.__iter__") (by kernel_rfl) rfl (by decide +kernel) (by kernel_rfl)
theorem Ls(a:ag):argsOk "set_iterator.__iter__" ⟨[a],[]⟩:=by unfold argsOk;kernel_rfl
theorem Mg:entryFor table "set.__iter__"=some Builtin.«frozenset.__iter__»:=
 entryFor_alias (id':="frozenset.__iter__") (by kernel_rfl) rfl (by decide +kernel) (by kernel_rfl)
def i9(first:ag)(i a n ep:Nat):Obj:={ cls:=.type "set_iterator",data:=.fields #[first,.int i 0,.ref a,.int n 0,.int ep 0] }
section
variable{prog:Program}{w:World}{A:Around}{E:ag->aj->Prop}{s:aj}
theorem EW{Q:ag->aj->Prop}(c:s.heap.get? I=some (i9 first i a n ep))(h:Q (.ref I) s):wpAny (model prog w) A (pyIter (.ref I)) Q E s:=by
 have b:s.TypeIs (.ref I) "set_iterator":=⟨_,c,rfl⟩
 refine wpAny_pyIter_slot b Ds (wpAny_call_entry Ds b K7 ?_ (Ls _));show wpAny _ _ (ret (.ref I)) _ _ s;exact wpAny_pure ⟨_,rfl,"set_iterator",_,b,iz.lookup,h⟩
theorem Rc{I a o es ep t n}{d b i:Nat}{x:ag}{Q:dO->aj->Prop}(c:s.heap.get? I=some (i9 (.int d 0) i a n ep))(p:s.heap.get? a=some o)(hd:o.data=.set es ep t)(m:t.fits es.size=true)(hn:es.size=n)(q:∀(h:Around)(j:ag->aj->Prop)(e:Option (ag×Nat)->aj->Prop),e (some (x,b)) s->wpAny (model prog w) h (setNext a d i ep) e j s)(l:∀h',h'.get? I=some (i9 (.int b 0) (i+1) a n ep)->Heap.SameBut I s.heap h'->Q (some x) { s with heap:=h' }):wpAny (model prog w) A (pyNext (.ref I)) Q E s:=by
 have g:s.TypeIs (.ref I) "set_iterator":=⟨_,c,rfl⟩
 unfold pyNext;refine wpAny_bind (wpAny_attempt (wpAny_callSpecial?_slot (name:=Str.ofString "__next__") g iz (wpAny_call_entry iz g sL ?_ (sM _))));show wpAny _ _ (fieldsOf (.ref I) >>= _) _ _ s;refine wpAny_bind (wpAny_fieldsOf c rfl ?_);show wpAny _ _ (setEntries a >>= _) _ _ s;refine wpAny_bind (wpAny_setEntries_of p hd m ?_);rw[if_neg (by rw[hn];simp)];show wpAny _ _ (setNext a (Int.toNat d) (Int.toNat i) (Int.toNat ep) >>= _) _ _ s;simp only[toNat_natCast];refine wpAny_bind (q _ _ _ ?_);dsimp only;refine wpAny_bind (wpAny_setField c rfl (by simp) ?_);have f:=Heap.get?_update_self (Obj.mapFields (·.setIfInBounds 0 (rawInt b))) c rfl;refine wpAny_bind (wpAny_setField f rfl (by simp[i9,Obj.mapFields]) (wpAny_pure ⟨x,rfl,wpAny_pure (l _ ?_ ((Heap.SameBut.update ..).trans (Heap.SameBut.update ..)))⟩));have k:=Heap.get?_update_self (Obj.mapFields (·.setIfInBounds 1 (rawInt ((i:Int)+1)))) f rfl;exact k
theorem Tz{I a o es ep t n}{d i:Nat}{Q:dO->aj->Prop}(l:A.handled=none)(c:s.heap.get? I=some (i9 (.int d 0) i a n ep))(p:s.heap.get? a=some o)(hd:o.data=.set es ep t)(k:t.fits es.size=true)(hn:es.size=n)(q:∀(g:Around)(h:ag->aj->Prop)(e:Option (ag×Nat)->aj->Prop),e none s->wpAny (model prog w) g (setNext a d i ep) e h s)(j:∀h',Heap.ExtBut I s.heap h'->Q none { s with heap:=h' }):wpAny (model prog w) A (pyNext (.ref I)) Q E s:=by
 have f:s.TypeIs (.ref I) "set_iterator":=⟨_,c,rfl⟩
 unfold pyNext;refine wpAny_bind (wpAny_attempt (wpAny_callSpecial?_slot (name:=Str.ofString "__next__") f iz (wpAny_call_entry iz f sL ?_ (sM _))));show wpAny _ _ (fieldsOf (.ref I) >>= _) _ _ s;refine wpAny_bind (wpAny_fieldsOf c rfl ?_);show wpAny _ _ (setEntries a >>= _) _ _ s;refine wpAny_bind (wpAny_setEntries_of p hd k ?_);rw[if_neg (by rw[hn];simp)];show wpAny _ _ (setNext a (Int.toNat d) (Int.toNat i) (Int.toNat ep) >>= _) _ _ s;simp only[toNat_natCast];refine wpAny_bind (q _ _ _ ?_);dsimp only;refine wpAny_bind (wpAny_setField c rfl (by simp) ?_);show wpAny _ _ (newExc (.type "StopIteration") [] >>= _) _ _ _;refine wpAny_bind ?_;simp only[newExc,newTuple];refine wpAny_bind (wpAny_newObj_type ?_ (by size_fits));refine wpAny_bind (m:=firstArgMember _ _) (wpAny_of_eq (a:=Value.none) (by first |rfl |(simp only[firstArgMember];rfl)) ?_);refine wpAny_newObj_type ?_ (by size_fits);simp only[raiseNew];refine wpAny_bind (wpAny_handled ?_);rw[show A.in1.handled=none from l];refine wpAny_bind (wpAny_pure (wpAny_throw ?_));refine wpAny_bind (wpAny_isInstance (T:="StopIteration") (b:=true) ⟨_,Heap.get?_push_size _ rfl,rfl⟩ isSubtype_stop ?_);exact wpAny_pure (j _ (((Heap.SameBut.update ..).extBut.push _).push _))
theorem PQ{I a o es ep t n tp pl pn}{i j:Nat}{x:ag}{Q:dO->aj->Prop}{po:Obj}(b:s.heap.get? I=some (i9 (.ref tp) i a n ep))(g:s.heap.get? a=some o)(hd:o.data=.set es ep t)(f:t.fits es.size=true)(hn:es.size=n)(m:s.heap.get? tp=some po)(c:po.data=.seq pl pn)(l:pl[i]?=some (.int j 0))(d:∃h,es[j]?=some (h,x))(k:∀h',h'.get? I=some (i9 (.ref tp) (i+1) a n ep)->Heap.SameBut I s.heap h'->Q (some x) { s with heap:=h' }):wpAny (model prog w) A (pyNext (.ref I)) Q E s:=by
 have e:s.TypeIs (.ref I) "set_iterator":=⟨_,b,rfl⟩
 let⟨p,d⟩:=d;unfold pyNext;refine wpAny_bind (wpAny_attempt (wpAny_callSpecial?_slot (name:=Str.ofString "__next__") e iz (wpAny_call_entry iz e sL ?_ (sM _))));show wpAny _ _ (fieldsOf (.ref I) >>= _) _ _ s;refine wpAny_bind (wpAny_fieldsOf b rfl ?_);show wpAny _ _ (setEntries a >>= _) _ _ s;refine wpAny_bind (wpAny_setEntries_of g hd f ?_);rw[if_neg (by rw[hn];simp)];show wpAny _ _ (seqItems? (.ref tp) >>= _) _ _ s;refine wpAny_bind (wpAny_seqItems m c ?_);dsimp only;simp only[toNat_natCast,l];refine wpAny_bind ?_;unfold setNextDrawn;refine wpAny_bind (wpAny_setState_of g hd f ?_);simp only[toNat_natCast,bne_self_eq_false,false_eq_true,if_false,d];refine wpAny_pure ?_;refine wpAny_bind (wpAny_setField b rfl (by simp) (wpAny_pure ⟨x,rfl,wpAny_pure (k _ ?_ (Heap.SameBut.update ..))⟩));exact Heap.get?_update_self (Obj.mapFields (·.setIfInBounds 1 (rawInt ((i:Int)+1)))) b rfl
theorem Rg{I a o es ep t n tp pl pn}{Q:dO->aj->Prop}(j:A.handled=none)(c:s.heap.get? I=some (i9 (.ref tp) i a n ep))(l:s.heap.get? a=some o)(hd:o.data=.set es ep t)(h:t.fits es.size=true)(hn:es.size=n)(p:s.heap.get? tp=some po)(d:po.data=.seq pl pn)(k:pl[i]?=none)(g:∀h',Heap.ExtBut I s.heap h'->Q none { s with heap:=h' }):wpAny (model prog w) A (pyNext (.ref I)) Q E s:=by
 have e:s.TypeIs (.ref I) "set_iterator":=⟨_,c,rfl⟩
 unfold pyNext;refine wpAny_bind (wpAny_attempt (wpAny_callSpecial?_slot (name:=Str.ofString "__next__") e iz (wpAny_call_entry iz e sL ?_ (sM _))));show wpAny _ _ (fieldsOf (.ref I) >>= _) _ _ s;refine wpAny_bind (wpAny_fieldsOf c rfl ?_);show wpAny _ _ (setEntries a >>= _) _ _ s;refine wpAny_bind (wpAny_setEntries_of l hd h ?_);rw[if_neg (by rw[hn];simp)];show wpAny _ _ (seqItems? (.ref tp) >>= _) _ _ s;refine wpAny_bind (wpAny_seqItems p d ?_);dsimp only;simp only[toNat_natCast,k];refine wpAny_bind (wpAny_setField c rfl (by simp) ?_);have f:=Heap.get?_update_self (Obj.mapFields (·.setIfInBounds 0 (rawInt 0))) c rfl;refine wpAny_bind (wpAny_setField f rfl (by simp[i9,Obj.mapFields]) ?_);show wpAny _ _ (newExc (.type "StopIteration") [] >>= _) _ _ _;refine wpAny_bind ?_;simp only[newExc,newTuple];refine wpAny_bind (wpAny_newObj_type ?_ (by size_fits));refine wpAny_bind (m:=firstArgMember _ _) (wpAny_of_eq (a:=Value.none) (by first |rfl |(simp only[firstArgMember];rfl)) ?_);refine wpAny_newObj_type ?_ (by size_fits);simp only[raiseNew];refine wpAny_bind (wpAny_handled ?_);rw[show A.in1.handled=none from j];refine wpAny_bind (wpAny_pure (wpAny_throw ?_));refine wpAny_bind (wpAny_isInstance (T:="StopIteration") (b:=true) ⟨_,Heap.get?_push_size _ rfl,rfl⟩ isSubtype_stop ?_);exact wpAny_pure (g _ ((((Heap.SameBut.update ..).trans (Heap.SameBut.update ..)).extBut.push _).push _))
end
section
variable{prog:Program}{w:World}{A:Around}{E:ag->aj->Prop}{s:aj}
variable{a ep:Nat}{o:Obj}{es:Array (Int×ag)}{t:SetTable}
theorem sZ{Q:Bool->aj->Prop}(h:Q (w.params.followText "set-order") s):wpAny (model prog w) A setsByText Q E s:=by
 unfold setsByText;exact wpAny_bind (wpAny_askSetting (wpAny_pure h))
theorem Ee{Q:Option (ag×Nat)->aj->Prop}(d:s.heap.get? a=some o)(hd:o.data=.set es ep t)(c:t.fits es.size=true)(b:w.params.followText "set-order"=true)(h:Q (((pickOrder (w.params.setOrder a ep) es)[i]?).map λe=>(e.2,sl)) s):wpAny (model prog w) A (setNext a sl i ep) Q E s:=by
 unfold setNext;refine wpAny_bind (wpAny_setState_of d hd c ?_);refine wpAny_bind (sZ ?_);rw[b];simp only[bne_self_eq_false,false_eq_true,if_false,if_true];refine wpAny_bind ?_;unfold setWalk;refine wpAny_bind (wpAny_setState_of d hd c ?_);refine wpAny_bind (sZ ?_);rw[b];simp only[if_true];refine wpAny_bind (wpAny_askSetting (wpAny_pure ?_));exact wpAny_pure h
theorem EX{Q:Option (ag×Nat)->aj->Prop}(f:s.heap.get? a=some o)(hd:o.data=.set es ep t)(e:t.fits es.size=true)(b:w.params.followText "set-order"=false)(d:t.led=true)(c:(!t.plain&&decide (es.size > 1))=false)(h:Q (match es[SetTable.below t.place sl]?,t.place[SetTable.below t.place sl]? with |some (_,x),some j=>some (x,j+1) |_,_=>none) s):wpAny (model prog w) A (setNext a sl i ep) Q E s:=by
 unfold setNext;refine wpAny_bind (wpAny_setState_of f hd e ?_);refine wpAny_bind (sZ ?_);rw[b];simp only[false_eq_true,if_false];show wpAny _ _ (if (!t.plain&&decide (es.size > 1))=true then _ else _) _ _ _;rw[c];simp only[false_eq_true,if_false];refine wpAny_bind ?_;show wpAny _ _ (if (!t.led && !es.isEmpty)=true then _ else _) _ _ _;rw[d];simp only[Bool.not_true,Bool.false_and,false_eq_true,if_false];exact wpAny_pure (wpAny_pure h)
theorem DZ(D:A.handled=none)(I:ah)(y:a≠I)(hd:o.data=.set es ep t)(z:t.fits es.size=true)(c:cO)(J:c.size=es.size)(m:Nat->Nat)(G:∀(s:aj)(f:Around)(g:ag->aj->Prop)(d:Option (ag×Nat)->aj->Prop)(i:Nat)(x:ag),c[i]?=some x->s.heap.get? a=some o->d (some (x,m (i+1))) s->wpAny (model prog w) f (setNext a (m i) i ep) d g s)(he:∀(s:aj)(f:Around)(g:ag->aj->Prop)(d:Option (ag×Nat)->aj->Prop),s.heap.get? a=some o->d none s->wpAny (model prog w) f (setNext a (m es.size) es.size ep) d g s):
  Walks prog w A I [I,a] [I] es.size (λi v=>c[i]?=some v) (λi h=>h.get? I=some (i9 (.int (m i) 0) i a es.size ep)/\h.get? a=some o) where
 sub:=λb j=>by simp at j;simp[j]
 frame:=λ_ _ _ st B=>⟨B I (by simp) _ st.1,B a (by simp) _ st.2⟩
 item:=λi s Q E H st k=>by
  have C:c[i]?=some c[i]:=getElem?_eq_getElem ⋯;refine Rc (n:=es.size) st.1 st.2 hd z rfl (λf g d q=>G s f g d i _ C st.2 q) λp r l=>?_
  exact k _ p s.toks C ⟨r,l.extBut a _ y st.2⟩ λb o j e=>l.extBut b o (λh=>j (by simp[h])) e
 done:=λs Q E st k=>Tz D st.1 st.2 hd z rfl (λf g d q=>he s f g d st.2 q) λp u=>k p s.toks λb o j e=>u b o (λh=>j (by simp[h])) e
 self:=λ_ _ _ _ st k=>EW st.1 k
theorem OB(G:A.handled=none)(I k:ah)(z:a≠I)(B:k≠I)(hd:o.data=.set es ep t)(D:t.fits es.size=true)(c:cO)(L:c.size=es.size)(g:List Nat)(N:g.length=es.size)(J:∀(i j:Nat),g[i]?=some j->∃h x,c[i]?=some x/\es[j]?=some (h,x)){po:Obj}{pn:Nat}(m:po.data=.seq (g.map λj:Nat=>rawInt j).toArray pn):
  Walks prog w A I [I,a,k] [I] es.size (λi v=>c[i]?=some v) (λi h=>h.get? I=some (i9 (.ref k) i a es.size ep)/\h.get? a=some o/\h.get? k=some po) where
 sub:=λb f=>by simp at f;simp[f]
 frame:=λ_ _ _ st y=>⟨y I (by simp) _ st.1,y a (by simp) _ st.2.1,y k (by simp) _ st.2.2⟩
 item:=λi s Q E H st l=>by
  have C:g[i]?=some g[i]:=List.getElem?_eq_getElem ⋯;let⟨h,x,M,u⟩:=J i _ C;refine PQ (n:=es.size) (j:=g[i]) st.1 st.2.1 hd D rfl st.2.2 m (by rw[List.getElem?_toArray,getElem?_map,C];rfl) ⟨h,u⟩ λp q d=>?_
  exact l _ p s.toks M ⟨q,d.extBut a _ z st.2.1,d.extBut k _ B st.2.2⟩ λb o f e=>d.extBut b o (λh=>f (by simp[h])) e
 done:=λs Q E st l=>Rg G st.1 st.2.1 hd D rfl st.2.2 m (by rw[List.getElem?_toArray,getElem?_map,getElem?_eq_none ⋯];rfl) λp r=>l p s.toks λb o f e=>r b o (λh=>f (by simp[h])) e
 self:=λ_ _ _ _ st l=>EW st.1 l
theorem PU:∀(n:Nat)(xs:List j)(s:aj)(Q:List j->aj->Prop),xs.length=n->(∀d' c,c.Perm xs->Q c { s with drawn:=d' })->wpAny (model prog w) A (drawOrder n xs) Q E s:=by
 intro n
 induction n with
 |zero=>intro xs s Q b h;unfold drawOrder;cases xs with
  |nil=>exact wpAny_pure (h s.drawn [] (.refl _))
  |cons _ _=>simp at b
 |succ n f=>
  intro xs s Q b h;cases xs with
  |nil=>simp at b
  |cons x r=>
   unfold drawOrder;refine wpAny_bind ?_;refine λg p e=>⟨by simp,?_⟩
   have hm:(model prog w).w.draws .order (s.drawn.get .order) % (x::r).length<(x::r).length:=Nat.mod_lt _ (by simp);show wpAny (model prog w) A _ Q E { s with drawn:=s.drawn.bump .order };rw[List.getElem?_eq_getElem hm];dsimp only;refine wpAny_bind (f _ _ _ (by rw[List.length_eraseIdx_of_lt hm];simp at b ⊢;omega) λd' c d=>?_);exact wpAny_pure (h d' _ ((d.cons _).trans (xi _ _ hm)))
theorem TB{K:Type}[DecidableEq K]{knd:KeyKind prog w K}{ks:List K}(hh:A.handled=none)(D:s.heap.get? a=some o)(hG:GS knd o ks)(hsz:ks.length<=sizeLine){Q:ag->aj->Prop}(h:∀(h1:aP)(d1:Drawn)(I:ah)(c:cO)(fp:bV)(St:Nat->aP->Prop),(∀b o,s.heap.get? b=some o->h1.get? b=some o)->(∀b∈fp,b=a\/⇑s<=b/\b<h1.objs.size)->⇑s<=I->
   (∀v∈c.toList,∃k,knd.is k v=true)->(c.toList.filterMap (hF knd)).Perm ks->Walks prog w A I fp [I] c.size (λi v=>c[i]?=some v) St->St 0 h1->Q (.ref I) { s with heap:=h1,drawn:=d1 }):
  wpAny (model prog w) A (pyIter (.ref a)) Q E s:=by
 let⟨δ,es,ep,t,hd,α,d,hR,hL,hp⟩:=hG;have hT:s.TypeIs (.ref a) "set":=⟨o,D,δ.1⟩;have ha:a<⇑s:=Heap.lt_size D;have p:∀c:cO,c.toList.Perm (es.toList.map (·.2))->(∀v∈c.toList,∃k,knd.is k v=true)/\(c.toList.filterMap (hF knd)).Perm ks:=by
  intro c q;refine⟨λv hv=>?_,(q.filterMap _).trans ?_⟩
  .obtain⟨e,he,rfl⟩:=mem_map.mp (q.mem_iff.mp hv);let⟨⟨k,hk,_⟩,_⟩:=α e he;exact⟨k,hk⟩
  .rw[List.filterMap_map];exact hp
 have ε:t.place.size=es.size:=by unfold SetTable.fits at d;simp only[and_eq_true,beq_iff_eq] at d;exact d.1
 refine wpAny_pyIter_slot hT F.slot_set_iter (wpAny_call_entry F.slot_set_iter hT Mg ?_ (F.args_set_iter_1 _));show wpAny _ _ (Builtin.Frozenset.sizeOf a >>= _) _ _ s;refine wpAny_bind ?_;unfold Builtin.Frozenset.sizeOf;refine wpAny_bind (wpAny_setEntries_of D hd d (wpAny_pure ?_));refine wpAny_bind ?_;unfold setDrawn;refine wpAny_bind (wpAny_setState_of D hd d ?_);refine wpAny_bind (sZ ?_);show wpAny _ _ (pure (!(w.params.followText "set-order")&&(!t.plain&&decide (es.size > 1)))) _ _ _;refine wpAny_pure ?_;cases hB:w.params.followText "set-order" with
 |true=>
  simp only[Bool.not_true,Bool.false_and,false_eq_true,if_false];refine wpAny_bind (wpAny_pure ?_);refine wpAny_bind (wpAny_setEpoch_of D hd d ?_);refine wpAny_bind (wpAny_newObj_type (wpAny_pure ⟨_,rfl,"set_iterator",_,⟨_,Heap.get?_push_size _ rfl,rfl⟩,iz.lookup,?_⟩));have N:((pickOrder (w.params.setOrder a ep) es).map (·.2)).toList.Perm (es.toList.map (·.2)):=by rw[Array.toList_map];exact (PM _ es).map _
  have g:((pickOrder (w.params.setOrder a ep) es).map (·.2)).size=es.size:=by rw[<- length_toList,N.length_eq,length_map,length_toList]
  let⟨k1,k2⟩:=p _ N;have W:=DZ (prog:=prog) (w:=w) (A:=A) (a:=a) (o:=o) (ep:=ep) (t:=t) hh ⇑s (ne_of_lt ha) hd d _ g (λ_=>0) (λs A' E' Q' i x B f q=>Ee f hd d hB (by rw[Array.getElem?_map] at B;cases z:(pickOrder (w.params.setOrder a ep) es)[i]? with |none=>rw[z] at B;cases B |some y=>rw[z] at B;cases B;exact q)) (λs A' E' Q' f q=>Ee f hd d hB (by rw[Array.getElem?_eq_none (by rw[Array.size_map] at g;omega)];exact q));rw[<- g] at W;refine h _ s.drawn _ _ _ _ (λb o e=>Heap.get?_push_of_some _ e) (λb u=>?_) (le_refl _) k1 k2 W ⟨by rw[g];exact Heap.get?_push_size _ rfl,Heap.get?_push_of_some _ D⟩;rcases mem_cons.mp u with rfl |u
  .exact .inr ⟨le_refl _,by rw[Heap.size_push];exact lt_succ_self _⟩
  .exact .inl (by simpa using u)
 |false=>
  simp only[Bool.not_false,Bool.true_and];cases hD:(!t.plain&&decide (es.size > 1)) with
  |false=>
   simp only[false_eq_true,if_false];refine wpAny_bind (wpAny_pure ?_);refine wpAny_bind (wpAny_setEpoch_of D hd d ?_);refine wpAny_bind (wpAny_newObj_type (wpAny_pure ⟨_,rfl,"set_iterator",_,⟨_,Heap.get?_push_size _ rfl,rfl⟩,iz.lookup,?_⟩));have N:(es.map (·.2)).toList.Perm (es.toList.map (·.2)):=by rw[Array.toList_map]
   have g:(es.map (·.2)).size=es.size:=by rw[Array.size_map]
   let⟨k1,k2⟩:=p _ N;have U:t.led=true:=by rw[hL];unfold gh;rw[hB];rfl
   have Y:∀i,i<=es.size->SetTable.below t.place (if i=0 then 0 else t.place.getD (i - 1) 0+1)=i:=by
    intro i C;by_cases z:i=0
    .rw[if_pos z,z];exact Ox hR
    .rw[if_neg z];have β:i - 1<t.place.size:=⋯
     have:=Q8 hR β;rw[Array.getD_eq_getD_getElem?,getElem?_eq_getElem β];show SetTable.below t.place (t.place[i - 1]+1)=i;rw[this];omega
   have W:=DZ (prog:=prog) (w:=w) (A:=A) (a:=a) (o:=o) (ep:=ep) (t:=t) hh ⇑s (ne_of_lt ha) hd d _ g (λi=>if i=0 then 0 else t.place.getD (i - 1) 0+1) (λs A' E' Q' i x B f q=>EX f hd d hB U hD (by
      have C:i<es.size:=by have:=(Array.getElem?_eq_some_iff.mp B).1;rw[g] at this;exact this
      rw[Y i (Nat.le_of_lt C)];rw[Array.getElem?_map] at B;rw[getElem?_eq_getElem C] at B ⊢;rw[getElem?_eq_getElem (by omega:i<t.place.size)];cases B;have e2:(if i+1=0 then 0 else t.place.getD (i+1 - 1) 0+1)=t.place[i]'⋯+1:=by
       rw[if_neg ⋯,Nat.add_sub_cancel,Array.getD_eq_getD_getElem?,getElem?_eq_getElem ⋯];rfl
      rw[e2] at q;exact q)) (λs A' E' Q' f q=>EX f hd d hB U hD (by
      rw[Y es.size (le_refl _),Array.getElem?_eq_none (le_refl _)];exact q))
   rw[<- g] at W;refine h _ s.drawn _ _ _ _ (λb o e=>Heap.get?_push_of_some _ e) (λb u=>?_) (le_refl _) k1 k2 W ⟨by rw[g];exact Heap.get?_push_size _ rfl,Heap.get?_push_of_some _ D⟩;rcases mem_cons.mp u with rfl |u
   .exact .inr ⟨le_refl _,by rw[Heap.size_push];exact lt_succ_self _⟩
   .exact .inl (by simpa using u)
  |true=>
   simp only[if_true];refine wpAny_bind (PU es.size _ s _ length_range λd1 m L=>?_);have J:m.length=es.size:=by rw[L.length_eq,length_range]
   have H:∀j∈m,j<es.size:=λj n=>mem_range.mp (L.mem_iff.mp n)
   simp only[newTuple];refine wpAny_bind (wpAny_newObj_type ?_ (by show (List.map _ m).toArray.size<=sizeLine;rw[size_toArray,length_map,J,yp (o:=o) α hp];exact hsz));have γ:(s.heap.push { cls:=.type "tuple",data:=.seq (m.map λj:Nat=>rawInt j).toArray }).get? a=some o:=Heap.get?_push_of_some _ D;refine wpAny_bind (wpAny_setEpoch_of (s:={ s with heap:=s.heap.push { cls:=.type "tuple",data:=.seq (m.map λj:Nat=>rawInt j).toArray },drawn:=d1 }) γ hd d ?_);refine wpAny_bind (wpAny_newObj_type (wpAny_pure ⟨_,rfl,"set_iterator",_,⟨_,Heap.get?_push_size _ rfl,rfl⟩,iz.lookup,?_⟩));have G:∀(l:List Nat),(∀j∈l,j<es.size)->(l.filterMap λj=>es[j]?.map (·.2)).length=l.length:=by
    intro l
    induction l with
    |nil=>intro _;rfl
    |cons j r ih=>
     intro hl;rw[filterMap_cons,getElem?_eq_getElem (hl j mem_cons_self)];simp[ih λi C=>hl i (mem_cons_of_mem _ C)]
   have O:∀(l:List Nat),(∀j∈l,j<es.size)->∀(i j:Nat),l[i]?=some j->(l.filterMap λj=>es[j]?.map (·.2))[i]?=es[j]?.map (·.2):=by
    intro l
    induction l with
    |nil=>intro _ i j e;simp at e
    |cons j r ih=>
     intro hl i k e;have n:=hl j mem_cons_self;rw[filterMap_cons,getElem?_eq_getElem n];cases i with
     |zero=>simp at e;subst e;rw[getElem?_eq_getElem n];rfl
     |succ i=>simpa using ih (λi C=>hl i (mem_cons_of_mem _ C)) i k (by simpa using e)
   have N:(m.filterMap λj=>es[j]?.map (·.2)).toArray.toList.Perm (es.toList.map (·.2)):=by
    refine (L.filterMap _).trans ?_;have:((List.range es.size).filterMap λj=>es[j]?.map (·.2))=es.toList.map (·.2):=by
     refine List.ext_getElem? λi=>?_
     by_cases C:i<es.size
     .rw[O (List.range es.size) (λj n=>mem_range.mp n) i i (by rw[List.getElem?_range C]),getElem?_map,Array.getElem?_toList]
     .rw[getElem?_eq_none (by rw[G _ λj n=>mem_range.mp n,length_range];omega),getElem?_eq_none (by rw[length_map,length_toList];omega)]
    rw[this]
   have g:(m.filterMap λj=>es[j]?.map (·.2)).toArray.size=es.size:=by rw[size_toArray,G m H,J]
   let⟨k1,k2⟩:=p _ N;have M:(s.heap.push { cls:=.type "tuple",data:=.seq (m.map λj:Nat=>rawInt j).toArray }).objs.size=⇑s+1:=Heap.size_push _ _;have W:=OB (prog:=prog) (w:=w) (A:=A) (a:=a) (o:=o) (ep:=ep) (t:=t) hh (⇑s+1) ⇑s (ne_of_lt (Nat.lt_succ_of_lt ha)) (ne_of_lt (lt_succ_self _)) hd d _ g m J (λi j e=>by
     have n:=H j (mem_of_getElem? e);refine⟨es[j].1,es[j].2,?_,getElem?_eq_getElem n⟩;rw[List.getElem?_toArray,O m H i j e,getElem?_eq_getElem n];rfl) (po:={ cls:=.type "tuple",data:=.seq (m.map λj:Nat=>rawInt j).toArray }) (pn:=0) rfl
   rw[<- g] at W;rw[M];refine h _ d1 (⇑s+1) _ _ _ (λb o e=>Heap.get?_push_of_some _ (Heap.get?_push_of_some _ e)) (λb u=>?_) (le_succ _) k1 k2 W ⟨?_,Heap.get?_push_of_some _ γ,Heap.get?_push_of_some _ (Heap.get?_push_size _ rfl)⟩
   .rw[Heap.size_push,M];simp only[mem_cons,not_mem_nil,or_false] at u;rcases u with rfl |rfl |rfl
    .exact .inr ⟨le_succ _,lt_succ_self _⟩
    .exact .inl rfl
    .exact .inr ⟨le_refl _,Nat.lt_succ_of_lt (lt_succ_self _)⟩
   .rw[<- M,g];exact Heap.get?_push_size _ rfl
theorem TC(e:s.heap.get? a=some o)(d:o.ExactSet){Q:Bool->aj->Prop}(h:Q false s):wpAny (model prog w) A (Builtin.List.listLengthHint (.ref a)) Q E s:=by
 have c:s.TypeIs (.ref a) "set":=⟨o,e,d.1⟩
 unfold Builtin.List.listLengthHint;refine wpAny_bind (wpAny_specialOf c F.slot_set_len.lookup ?_)
 (generalize uo:("set.__len__":String)=id0;(fail_if_success (clear uo id0));wp_delta;rw[show splitId id0=some ("set","__len__") from by subst uo;decide +kernel];subst uo)
 refine wpAny_bind (wpAny_isInstance (b:=true) c (by rw[isSubtype_type];kernel_rfl) ?_);refine wpAny_ite_split (λz=>absurd z ∎) (λ_=>?_);refine wpAny_ite_split (λ_=>?_) (λz=>absurd (by decide +kernel) z);exact wpAny_bind (wpAny_typeOf c (wpAny_pure h))
theorem OC{K:Type}[DecidableEq K]{knd:KeyKind prog w K}{ks:List K}(hh:A.handled=none)(ho:s.heap.get? a=some o)(Y:GS knd o ks)(hsz:ks.length<=sizeLine){Q:aJ->aj->Prop}(h:∀(G:aP)(tk:Nat)(J:Drawn)(vs:aJ),(∀b o,s.heap.get? b=some o->G.get? b=some o)->(∀v∈vs,∃k,knd.is k v=true)->(vs.filterMap (hF knd)).Perm ks->Q vs { s with heap:=G,toks:=tk,drawn:=J }):
  wpAny (model prog w) A (collect (.ref a)) Q E s:=by
 have ha:a<⇑s:=Heap.lt_size ho;have C:=Y.1;unfold collect;refine wpAny_bind (wpAny_runValue (codeAny_builtin F.entry_proto_collect ?_));rw[Around.under_plainId F.plain_proto_collect _];show wpAny _ A.in1 (newList [] >>= λl=>again (.builtin "list.__iadd__" ⟨[l,.ref a],[]⟩)) _ _ s;refine wpAny_bind (wpAny_newObj_type ?_);refine wpAny_pure ⟨plainId_quiet F.plain_list_iadd _,codeAny_builtin F.entry_list_iadd ?_⟩;rw[Around.under_plainId F.plain_list_iadd _];show wpAny _ A.in1 (Builtin.List.listExtendWith (.ref ⇑s) (.ref a) (.ref ⇑s)) _ _ _;have p:(s.heap.push { cls:=.type "list",data:=.seq ([]:aJ).toArray }).get? ⇑s=some { cls:=.type "list",data:=.seq ([]:aJ).toArray }:=Heap.get?_push_size _ rfl;have y:(s.heap.push { cls:=.type "list",data:=.seq ([]:aJ).toArray }).get? a=some o:=Heap.get?_push_of_some _ ho;have G:Builtin.List.listSameRef (.ref ⇑s) (.ref a)=false:=by simp[Builtin.List.listSameRef,Nat.ne_of_gt ha]
 unfold Builtin.List.listExtendWith;refine wpAny_bind (wpAny_typeOf (T:="set") ⟨o,y,C.1⟩ ?_);rw[if_neg (by rw[G];decide)];refine wpAny_bind (TB (A:=A.in1) (s:={ s with heap:=s.heap.push { cls:=.type "list",data:=.seq ([]:aJ).toArray } }) hh y Y hsz λg J I c fp St D M hI v1 v2 W st=>?_);have hn:c.size<=sizeLine:=by
  have:(c.toList.filterMap (hF knd)).length=c.toList.length:=by
   generalize c.toList=l at v1
   induction l with
   |nil=>rfl
   |cons v r ih=>
    let⟨k,D⟩:=v1 v mem_cons_self;rw[filterMap_cons,nX D];simp[ih λu hu=>v1 u (mem_cons_of_mem _ hu)]
  have e2:=length_toList (xs:=c);rw[<- e2,<- this,v2.length_eq];exact hsz
 have B:⇑s ∉ fp:=λhm=>by
  rcases M _ hm with e |⟨e,_⟩
  .exact absurd e (Nat.ne_of_gt ha)
  .have e:(s.heap.push { cls:=.type "list",data:=.seq ([]:aJ).toArray }).objs.size<=⇑s:=e;rw[Heap.size_push] at e;omega
 have α:⇑s≠I:=λe=>by
  have z:(s.heap.push { cls:=.type "list",data:=.seq ([]:aJ).toArray }).objs.size<=I:=hI;rw[Heap.size_push,<- e] at z;exact absurd z (Nat.not_succ_le_self _)
 refine wpAny_bind (wpAny_holding (TC (D _ _ y) C ?_));refine wpAny_ite_split (λ_=>?_) (λz=>absurd z ∎);refine wpAny_bind (wpAny_rule ?_);refine wpAny_bind ?_;have f:=D _ _ p;show wpAny _ A.in1 (updateSeq ⇑s (·.push .none) >>= λ_=>updateSeq ⇑s (·.pop)) _ _ _;refine wpAny_bind (wpAny_updateSeq f rfl ?_);have j:=Heap.get?_update_self (Obj.mapSeq (·.push Value.none)) f rfl;refine wpAny_updateSeq (hz:=by seq_fits) j rfl ?_;have q:=Heap.get?_update_self (Obj.mapSeq (·.pop)) j rfl;have eB:∀b o,b≠⇑s->g.get? b=some o->((g.update ⇑s (Obj.mapSeq (·.push Value.none))).update ⇑s (Obj.mapSeq (·.pop))).get? b=some o:=λb o H e=>
  (Heap.get?_update_other _ _ (Ne.symm H)).trans ((Heap.get?_update_other _ _ (Ne.symm H)).trans e)
 refine wpAny_pure ⟨plainId_quiet F.plain_extend_loop _,codeAny_extend_loopS W.toS hn ⇑s B _ c.size 0 _ #[] _ rfl (zero_le _) (W.frame 0 _ _ st λb H o e=>eB b o (λz=>B (z ▸ H)) e) q (ItemsOf.nil _) λs' d c' hm L n=>?_⟩;show wpAny _ A (load ⇑s >>= _) _ _ s';refine wpAny_bind (wpAny_load L ?_);have ev:d=c:=by
  refine Array.ext_getElem? λi=>?_
  by_cases hi:i<d.size
  .rw[n.2 i d[i] (getElem?_eq_getElem hi)];exact getElem?_eq_getElem hi
  .rw[Array.getElem?_eq_none ⋯,Array.getElem?_eq_none (by have:=n.1;omega)]
 subst ev;let⟨h',g',U,O,N⟩:=s';have eg:g'=s.gens:=hm.gens;have ed:U=J:=hm.drawn;have eo:N=s.os:=hm.os;subst eg;subst ed;subst eo;refine wpAny_pure (h h' O U _ (λb o e=>?_) v1 v2);have x:b<⇑s:=Heap.lt_size e;refine hm.heap b o (λm=>?_) (eB b o (ne_of_lt x) (D b o (Heap.get?_push_of_some _ e)));rcases mem_cons.mp m with e' |m
 .exact absurd e' (ne_of_lt x)
 .have z:(s.heap.push { cls:=.type "list",data:=.seq ([]:aJ).toArray }).objs.size<=I:=hI;rw[Heap.size_push] at z;rw[<- mem_singleton.mp m] at z;exact absurd (lt_of_lt_of_le x (le_trans (le_succ _) z)) (lt_irrefl _)
end
section
variable{prog:Program}{w:World}{K:Type}[DecidableEq K]{knd:KeyKind prog w K}{A:Around}{E:ag->aj->Prop}{s:aj}
section
variable{R:Result->aj->Prop}{I:ah}{fp wr:bV}{G:Array GenState->Array GenState->Prop}{n:Nat}{P:Nat->ag->Prop}{St:Nat->aj->Prop}
theorem TF(W:WalksS prog w A.in1 I fp wr G n P St)(S:ah)(l:S ∉ fp)(ks:List K)(hl:ks.length=n)(z:∀i v,P i v->v.scannable=true/\∀k,ks[i]?=some k->knd.is k v=true)(f:n+1<scanBound):
  ∀(k i:Nat)(s:aj)(o:Obj),n - i=k->i<=n->St i s->s.heap.get? S=some o->GS knd o (cI (ks.take i))->
   (∀s' o',Moved (S::wr) G s s'->s'.heap.get? S=some o'->GS knd o' (cI ks)->R (.ok (.ret .none)) s')->
   codeAny (model prog w) A (.builtin "set.update.loop" ⟨[.ref S,.ref I],[]⟩) R s:=by
 have m:S ∉ wr:=λh=>l (W.sub _ h)
 have a:∀b∈wr,b∈S::wr:=λb f=>mem_cons_of_mem _ f
 intro k
 induction k with
 |zero=>
  intro i s o hk hi d H B D;have L:i=n:=⋯
  subst L;refine codeAny_builtin PyProof.Rows.F.entry_set_update_loop ?_;rw[Around.under_plainId PyProof.Rows.F.plain_set_update_loop _];show wpAny _ A.in1 (pyNext (.ref I) >>= _) _ _ s;refine wpAny_bind (W.done s _ _ d λs' hm=>?_);show wpAny _ A.in1 (ret Value.none) _ _ s';rw[<- hl,List.take_length] at B;exact wpAny_pure (D s' o (hm.mono a) (hm.heap S _ m H) B)
 |succ k ih=>
  intro i s o hk hi d H B D;have r:i<n:=⋯
  refine codeAny_builtin PyProof.Rows.F.entry_set_update_loop ?_;rw[Around.under_plainId PyProof.Rows.F.plain_set_update_loop _];show wpAny _ A.in1 (pyNext (.ref I) >>= _) _ _ s;refine wpAny_bind (W.item i s _ _ r d λv s' hP y hm=>?_);have q:i<ks.length:=⋯
  let⟨O,M⟩:=z i v hP;have p:=M ks[i] (List.getElem?_eq_getElem q);have J:=hm.heap S _ m H;show wpAny _ A.in1 (holding [v] (setAdd S v) >>= _) _ _ s';refine wpAny_bind (wpAny_holding ?_);unfold setAdd;refine wpAny_holding ?_;refine wpAny_bind (knd.pyHash p ?_);have c:(cI (ks.take i)).length+1<scanBound:=by have:=sT (ks.take i);rw[length_take] at this;omega
  refine V3 (s:={ s' with toks:=s'.toks+1 }) p O J B c λb h' o' x N C=>?_
  have Y:ks.take (i+1)=ks.take i++[ks[i]]:=by rw[List.take_succ,List.getElem?_eq_getElem q];rfl
  refine wpAny_pure ⟨plainId_quiet PyProof.Rows.F.plain_set_update_loop _,ih (i+1) _ o' ⋯ r (W.frame _ s' _ _ y (le_succ _) λb f o e=>?_) N (by rw[Y,PN];exact C) λU Q u j g=>?_⟩
  .rw[x.2 b (λh:b=S=>l (by rw[<- h];exact f))];exact e
  .refine D U Q (Moved.trans W.gtrans ((hm.mono a).then_heap (le_succ _) λb o f e=>?_) u) j g;rw[x.2 b (λh:b=S=>f (by rw[h];exact mem_cons_self))];exact e
end
theorem Rh:GS knd { cls:=.type "set",dict:=none,data:=.set #[] 0 (.fresh 0 0 (gh w)) } ([]:List K):=
 ⟨⟨rfl,rfl,rfl⟩,#[],0,_,rfl,λe a=>by simp at a,rfl,PK,rfl,.refl _⟩
theorem V4(a:ag){Q₁:ag->aj->Prop}(h:Q₁ (.ref ⇑s) { s with heap:=s.heap.push { cls:=.type "set",dict:=none,data:=.set #[] 0 (.fresh 0 0 (gh w)) } }):
  codeAny (model prog w) A (.call (.builtin "set.__new__") ⟨[.type "set",a],[]⟩) (wants Q₁ E) s:=by
 refine codeAny_of_tree ?_;show wpAny _ A.in1 (do checkBuiltinCall "set.__new__" ⟨[.type "set",a],[]⟩;again (.builtin "set.__new__" ⟨[.type "set",a],[]⟩)) _ _ s;refine wpAny_bind (wpAny_of_eq (F.newCall_set_1 a) (wpAny_pure ⟨plainId_quiet F.plain_set_new _,codeAny_builtin F.entry_set_new ?_⟩));rw[Around.under_plainId F.plain_set_new _];unfold Builtin.«set.__new__» Builtin.Frozenset.newClass;have b:=sub_set_self;let⟨c,g,d,tk,os⟩:=s;dsimp only
 wp_walk
 refine wpAny_askSetting (wpAny_pure ?_);dsimp only;simp only[newObj];refine wpAny_bind (wpAny_alloc (wpAny_pure ?_));exact wpAny_pure h
theorem TH{Q:ag->aj->Prop}(hh:A.handled=none)(hl:s.heap.IsList l items)(L:ks.length=items.size)(hi:∀(i:Nat) v,items[i]?=some v->v.scannable=true/\∀k,ks[i]?=some k->knd.is k v=true)(hb:items.size+1<scanBound)(h:∀(h':aP)(tk:Nat)(o:Obj),h'.get? ⇑s=some o->GS knd o (cI ks)->(∀b o,s.heap.get? b=some o->h'.get? b=some o)->Q (.ref ⇑s) { s with heap:=h',toks:=tk }):
  wpAny (model prog w) A (call (.type "set") [.ref l]) Q E s:=by
 let⟨c,tl,α⟩:=F.called_set.mro;have M:=F.called_set.made;have δ:=F.called_set.sub;refine wpAny_call (codeAny_of_tree ?_);show wpAny _ _ (callAny (.type "set") _) _ _ _;refine wpAny_pure ⟨Code.quiet_builtin _ (by decide +kernel),codeAny_builtin F.entry_type_call ?_⟩;rw[Around.under_plain (weight_type_call_type "set" [.ref l] []) rfl];have h1:=F.called_set.notType;have h2:=F.called_set.canCreate;have η:=F.typeCall_set_1 (.ref l)
 repeat (any_goals (first |assumption |wp_step))
 refine codeAny_mono (V4 (.ref l) (E:=E) (Q₁:=λobj f=>obj=.ref ⇑s/\f={ s with heap:=s.heap.push { cls:=.type "set",dict:=none,data:=.set #[] 0 (.fresh 0 0 (gh w)) } }) ⟨rfl,rfl⟩) λr f N=>?_
 have q:GS knd { cls:=.type "set",dict:=none,data:=.set #[] 0 (.fresh 0 0 (gh w)) } ([]:List K):=Rh;cases r with
 |error e=>exact N
 |ok fl=>
  cases fl with
  |ret obj=>
   let⟨rfl,rfl⟩:=N;have hS:(s.heap.push { cls:=.type "set",dict:=none,data:=.set #[] 0 (.fresh 0 0 (gh w)) }).get? ⇑s=some { cls:=.type "set",dict:=none,data:=.set #[] 0 (.fresh 0 0 (gh w)) }:=Heap.get?_push_size _ rfl;have hT:Shared.TypeIs { s with heap:=s.heap.push { cls:=.type "set",dict:=none,data:=.set #[] 0 (.fresh 0 0 (gh w)) } } (.ref ⇑s) "set":=⟨_,hS,q.1.1⟩;have θ:=F.called_set.init.lookup;have ζ:=F.called_set.init.bind (.ref ⇑s)
   repeat (any_goals (first |assumption |wp_step))
   refine codeAny_mono (codeAny_call_builtin (R:=wants (λr g=>r=.none/\∃h' tk o,g={ s with heap:=h',toks:=tk }/\h'.get? ⇑s=some o/\GS knd o (cI ks)/\
     (∀b o,s.heap.get? b=some o->h'.get? b=some o)) E) F.called_set.init.plain F.entry_set_init (check_set_init_1 hT ?_)) λB g a=>?_
   .obtain⟨ol,iG,hcl,nl,hdl⟩:=hl;let⟨ε,p,O,d⟩:=ol;simp only at hcl hdl;subst hcl;subst hdl;have z:(s.heap.push { cls:=.type "set",dict:=none,data:=.set #[] 0 (.fresh 0 0 (gh w)) }).get? l=some { cls:=.type "list",dict:=p,data:=.seq items nl,slots:=d }:=Heap.get?_push_of_some _ iG;have γ:=F.sub_list_set;have β:=F.sub_list_frozenset;have ι:(Value.type "list" == Value.type "dict")=false:=∎
    have yv:(s.heap.push { cls:=.type "set",dict:=none,data:=.set #[] 0 (.fresh 0 0 (gh w)) }).IsList l items:=⟨_,z,rfl,nl,rfl⟩
    unfold Builtin.«set.__init__» noKeywords Builtin.Frozenset.updateFrom;generalize C:pyIter=PI
    wp_walk
    subst C;refine wpAny_pyIter_list yv ?_;refine wpAny_bind (wpAny_runValue ?_);have x:l<⇑s:=Heap.lt_size iG;have I:A.in1.in1.in1.handled=none:=by simp[hh]
    have y:l≠(s.heap.push { cls:=.type "set",dict:=none,data:=.set #[] 0 (.fresh 0 0 (gh w)) }).objs.size:=by rw[Heap.size_push];exact ne_of_lt (Nat.lt_succ_of_lt x)
    have D:⇑s ∉ [(s.heap.push { cls:=.type "set",dict:=none,data:=.set #[] 0 (.fresh 0 0 (gh w)) }).objs.size,l]:=by
     rw[Heap.size_push];simp only[mem_cons,not_mem_nil,or_false,not_or];exact⟨ne_of_lt (lt_succ_self _),Nat.ne_of_gt x⟩
    refine TF (knd:=knd) ((Walks.list I _ l y items).toS) ⇑s D ks L hi hb (items.size - 0) 0 _ { cls:=.type "set",dict:=none,data:=.set #[] 0 (.fresh 0 0 (gh w)) } ⋯ (zero_le _)
     ⟨⟨_,Heap.get?_push_size _ rfl,rfl,rfl⟩,(yv.push _)⟩ (Heap.get?_push_of_some _ hS) q λs' o' hm n m=>?_
    let⟨h',g',d',Y,U⟩:=s';have eg:g'=s.gens:=hm.gens;have ed:d'=s.drawn:=hm.drawn;have eo:U=s.os:=hm.os;subst eg;subst ed;subst eo;show wpAny _ _ _ _ _ _;refine wpAny_pure ?_;show wpAny _ _ (ret Value.none) _ _ _;refine wpAny_pure ⟨rfl,h',Y,o',rfl,n,m,λb o e=>?_⟩;have u:b<⇑s:=Heap.lt_size e;have G:b≠⇑s:=ne_of_lt u;have H:b≠(s.heap.push { cls:=.type "set",dict:=none,data:=.set #[] 0 (.fresh 0 0 (gh w)) }).objs.size:=by rw[Heap.size_push];exact ne_of_lt (Nat.lt_succ_of_lt u)
    exact hm.heap b o (by simp only[mem_cons,not_mem_nil,or_false,not_or];exact⟨G,H⟩) (Heap.get?_push_of_some _ (Heap.get?_push_of_some _ e))
   .cases B with
    |error e=>exact a
    |ok j=>
     cases j with
     |ret r=>
      let⟨rfl,h',tk,o',rfl,n,m,J⟩:=a
      repeat (any_goals (first |assumption |wp_step))
      exact h _ _ _ n m J
     |_=>exact a.elim
  |_=>exact N.elim
end
end L2
namespace L2
open PySem PySem.Spec PyProof.Rows
section
def jz(P:Program)(w:World)(a:ah)(ks:List bD):HO:=.ext λh=>∃o,h.get? a=some o/\GS (fJ P w) o ks
theorem TJ(e:h.get? a=some o)(g:GS (fJ P w) o ks):bg P w H h a (jz P w a ks):=
 ⟨⟨o,e,g⟩,⟨o,e⟩,λ_ _ ⟨o,e,g⟩ k=>⟨o,k o e,g⟩⟩
theorem TK(r:aK (kV k) v):v.scannable=true:=by
 cases k<;>(let⟨t,rfl⟩:=r;rfl)
variable{X:Cx}
theorem PV(m:X.calm=true):a9 X (.type "set") (λxs H Q=>∃(a:ah)(ks:List bD),xs=[.ref a]/\bM X.K H a (ks.map kV)/\ks.length+1<4096/\∀p,H p=none->Q (.ref p) (a6 H p (jz X.prog X.w p (cI ks)))):=by
 intro aa s j H xs us Q I r h;∎;let⟨a,ks,rfl,y,A,q⟩:=h;let⟨u,rfl,d⟩:=gX r;∎;cases d;let⟨f,g,B,D⟩:=I.list y;have b:ks.length=f.toArray.size:=by have:=g.length;rw[length_map] at this;rw[size_toArray,this]
 refine TH (knd:=fJ X.prog X.w) (ks:=ks) (I.ok.hd m) B.isList b (λi v e=>?_) (by rw[<- b];exact A) λC tk o n l c=>?_
 .have hi:i<ks.length:=by rw[b];exact (Array.getElem?_eq_some_iff.mp e).1
  let⟨u,z,d⟩:=g.get (x:=kV ks[i]) (show (ks.map kV)[i]?=some (kV ks[i]) by rw[getElem?_map,List.getElem?_eq_getElem hi];rfl);rw[List.getElem?_toArray,z] at e;cases e;refine⟨TK d,λk c=>?_⟩;rw[List.getElem?_eq_getElem hi] at c;cases c;exact qI d
 .exact⟨.ref ⇑s,_,I.laid (t':=tk) c (le_refl _) (TJ n l),rfl,q _ (I.aV.fresh (le_refl _))⟩
theorem aw.mE{s:aj}(I:aw X aa j H s)(d:Drawn):aw X aa j H { s with drawn:=d }:=
 ⟨I.ok,I.os,I.bare,I.base,I.loc,I.cell,I.free,I.bU,I.pin,I.aV,I.len⟩
theorem F7:∀(vs:aJ),(∀v∈vs,∃k,(fJ P w).is k v=true)->(∀k∈vs.filterMap (hF (fJ P w)),∃n:Str,k=Sum.inr n)->
  ∃ns:ae,StrsAre vs ns/\vs.filterMap (hF (fJ P w))=ns.map Sum.inr
 |[],_,_=>⟨[],.nil,rfl⟩
 |v::r,h1,h2=>by
  let⟨k,d⟩:=h1 v mem_cons_self;have e:=nX d;let⟨ns,a,b⟩:=F7 r (λu f=>h1 u (mem_cons_of_mem _ f)) λg c=>h2 g (by rw[filterMap_cons,e];exact mem_cons_of_mem _ c)
  let⟨n,rfl⟩:=h2 k (by rw[filterMap_cons,e];exact mem_cons_self);let⟨t,rfl⟩:=ER d;exact⟨n::ns,.cons _ _ a,by rw[filterMap_cons,e,b];rfl⟩
theorem Ri{a b:ae}(h:(a.map (Sum.inr:Str->bD)).Perm (b.map Sum.inr)):a.Perm b:=by
 have:=h.filterMap (λk:bD=>match k with |.inl _=>none |.inr x=>some x);have e:∀l:ae,(l.map (Sum.inr:Str->bD)).filterMap (λk:bD=>match k with |.inl _=>none |.inr x=>some x)=l:=λl=>by
  rw[List.filterMap_map];show l.filterMap (λn=>some n)=l;simp
 rw[e,e] at this;exact this
def pz(P:Program)(w:World):ax->Hp->VK->Prop:=λd H Q=>∃(a:ah)(c:ae),d=[.ref a]/\H a=some (jz P w a (c.map Sum.inr))/\c.length<64/\
  ∀b:ae,b.Perm c->sortedS b=true->∀p,H p=none->Q (.ref p) (a6 H p (.ak (b.map V.str)))
theorem Mz(U:X.calm=true):a9 X (.builtin "sorted") (pz X.prog X.w):=by
 intro aa s j H xs us Q I r h;∎;let⟨a,ks,rfl,ha,y,q⟩:=h;let⟨u,rfl,ru⟩:=gX r;∎;cases ru;let⟨⟨o,ho,O⟩,_⟩:=I.aV a _ ha;refine Calls.call_function_entry kind_sorted plain_sorted entry_sorted (args_sorted1 _) ?_;unfold Builtin.«sorted»;refine wpAny_bind (m:=checkCount "sorted" 1 1 _) (wpAny_pure ?_);refine wpAny_bind (OC (A:=X.A.in1) (I.ok.hd U) ho O (by rw[length_map,sizeLine_eq];omega) λc tk x vs B v1 v=>?_);let⟨n1,l,N⟩:=F7 vs v1 (λk hk=>by let⟨n,_,rfl⟩:=mem_map.mp (v.mem_iff.mp hk);exact⟨n,rfl⟩);rw[N] at v;have p:=Ri v;have f:vs.length=n1.length:=by have:=(EK l).length;rw[length_map] at this;exact this.symm
 have C:aw X aa j H { s with heap:=c,toks:=tk,drawn:=x }:=(I.kept (t':=tk) B).mE x;refine wpAny_bind (wpAny_newList ?_ (by rw[f,p.length_eq,sizeLine_eq];omega));have d:(c.push (seqObj "list" vs.toArray 0)).get? c.objs.size=some (seqObj "list" vs.toArray 0):=Heap.get?_push_size _ rfl;show wpAny _ _ _ _ _ { s with heap:=c.push (seqObj "list" vs.toArray 0),toks:=tk,drawn:=x };refine wpAny_bind (wpAny_holding (wpAny_call_entry slot_list_sort ⟨_,d,rfl⟩ entry_list_sort (list_sort_treeK strKind_oneLt d l.keysOf (λv1 v rest e=>keyKind_strs (by rw[<- e];exact l)) (by rw[f,p.length_eq];exact y) λi G J=>⟨_,rfl,?_⟩) (args_list_sort _)));let⟨g,L,D,M⟩:=sorted_out_str l G J;refine wpAny_pure ⟨_,rfl,?_⟩;let⟨e,Y⟩:=sortedHeap_at (out:=(arrOf i).map (·.2)) d;have z:H c.objs.size=none:=C.aV.fresh (le_refl _);refine⟨.ref c.objs.size,_,C.laid (a:=c.objs.size) (o:=.ak (g.map V.str)) (t':=tk) (λb o E=>?_) (le_refl _) ⟨?_,((arrOf i).map (·.2)).toList,e,EK L,by rw[Array.toArray_toList];exact Y⟩,rfl,q g (D.trans p) M _ z⟩
 .have lb:b<c.objs.size:=Heap.lt_size E;rw[sortedHeap_old (ne_of_lt lb) (by rw[size_push'];exact Nat.lt_succ_of_lt lb)];exact Heap.get?_push_of_some _ E
 .rw[length_map,D.length_eq,p.length_eq,sizeLine_eq];omega
end
end L2
namespace Vc
open PySem L2 Sf
def de(l:bV)(H:Hp):Hp:=λx=>if x∈l then none else H x
theorem qp{H:Hp}(a:x ∉ l)(h:H x=some o):de l H x=some o:=by unfold de;rw[if_neg a];exact h
theorem V5(h:x∈l):de l H x=none:=if_pos h
theorem Rj{H:Hp}(h:de l H x=some o):x ∉ l/\H x=some o:=by
 unfold de at h;by_cases z:x∈l
 .rw[if_pos z] at h;cases h
 .rw[if_neg z] at h;exact⟨z,h⟩
theorem yH(a:aA F H):Gr0 F (de l H) F H:=⟨λ_ _ e=>(Rj e).2,aA.refl _,a,λx u h e=>by rw[h] at e;cases e⟩
theorem yv{b:Hp}(h:b a=none):∀x∈[a],b x=none:=λx z=>by rw[mem_singleton.mp z];exact h
end Vc
namespace L2
open PySem PySem.Spec PyProof.Rows
section
variable{P:Program}{w:World}{K:ao}
def nu(P:Program)(w:World)(K:ao):ax->Hp->VK->Prop:=λc H Q=>∃(a:ah)(b:List bD),c=[.ref a]/\bM K H a (b.map kV)/\b.length+1<4096/\∀p,H p=none->Q (.ref p) (a6 H p (jz P w p (cI b)))
theorem Ef(a:X.calm=true):a9 X (.type "set") (nu X.prog X.w X.K):=PV a
end
theorem RT[DecidableEq j][DecidableEq u]{f:j->u}(c:∀x y,f x=f y->x=y)(l:List j):cI (l.map f)=(cI l).map f:=by
 have b:∀(l a:List j),(l.map f).foldl ec (a.map f)=(l.foldl ec a).map f:=by
  intro l
  induction l with
  |nil=>intro a;rfl
  |cons x r g=>
   intro a;have e:ec (a.map f) (f x)=(ec a x).map f:=by
    unfold ec;by_cases h:x∈a
    .rw[if_pos h,if_pos (mem_map.mpr ⟨x,h,rfl⟩)]
    .rw[if_neg h,if_neg (λz=>by let⟨y,d,e⟩:=mem_map.mp z;exact h (c _ _ e ▸ d)),map_append];rfl
   show ((r.map f).foldl ec (ec (a.map f) (f x)))=_;rw[e];exact g _
 exact b l []
theorem sO[DecidableEq j](l:List j):(cI l).Nodup/\∀x,x∈cI l↔x∈l:=by
 have d:∀(l a:List j),a.Nodup->(l.foldl ec a).Nodup/\∀x,x∈l.foldl ec a↔x∈a\/x∈l:=by
  intro l
  induction l with
  |nil=>intro a h;exact⟨h,λx=>by simp⟩
  |cons y r o=>
   intro a h;have k:(ec a y).Nodup:=by
    unfold ec;by_cases c:y∈a
    .rw[if_pos c];exact h
    .rw[if_neg c,nodup_append];exact⟨h,by simp,λu n v f e=>by rw[mem_singleton] at f;exact c (f ▸ e ▸ n)⟩
   have m:∀x,x∈ec a y↔x∈a\/x=y:=by
    intro x;unfold ec;by_cases c:y∈a
    .rw[if_pos c];exact⟨.inl,λz=>z.elim id λe=>e ▸ c⟩
    .rw[if_neg c,mem_append,mem_singleton]
   let⟨g,i⟩:=o (ec a y) k;refine⟨g,λx=>(i x).trans ?_⟩;rw[m,mem_cons,or_assoc]
 let⟨a,b⟩:=d l [] List.nodup_nil;exact⟨a,λx=>by rw[show cI l=l.foldl ec [] from rfl,b x];simp⟩
theorem tZ(aV:cL P w H h)(e:Rd H a (.ins C dx fs)):∃b,fQ h a dx C b/\∀f,cE (fs.lookup f) (b f):=by
 have x:bg P w H h a (.ins C dx fs):=by
  rcases e with e |⟨o,e⟩
  .exact aV a _ e
  .exact (aV a _ e).2
 let⟨d,z,ne,c,b,n,r,q⟩:=x;exact⟨b,⟨c,n,ne⟩,r⟩
def vF(K:ao)(d:TE)(f:Str):TE:=λj H Q=>d j H λx b=>∃a C c fs v,x=.ref a/\Rd b a (.ins C c fs)/\dF K C/\aD K C f/\fs.lookup f=some v/\Q v b
section
variable{X:Cx}{CX:fj}{k:Nat}{E:XK}{m f:Str}{pos apos:Pos}{o e:Expr}{ta:TE}{D:ah->Nat->Prop}{sp:Nat->Sp}
theorem TL(he:PE X e ta)(w:attributeBase e f X.env (eval e X.env)=eval e X.env):PE X (.Attribute e f pos) (vF X.K ta f):=by
 intro aa s j H Q I h;refine T4 w (bo (he aa s j H _ I h) λu G d=>?_);let⟨x,i,b,A,a,C,B,fs,v,ex,p,c,n,l,q⟩:=d;subst ex;obtain rfl:u=Value.ref a:=A;∎;let⟨z,O,r⟩:=tZ b.aV p;let⟨u,y,g⟩:=cE.some_of (v:=v) (o:=z f) (by rw[<- l];exact r f);∎;exact FW b.cy O (c.get f) c.hd n y (EB g) ⟨v,i,b.tok _,g,q⟩
end
def pF(P:Program)(w:World):ax->Hp->VK->Prop:=λc H Q=>∃(a:ah)(b:List bD),c=[.ref a]/\H a=some (jz P w a b)/\b.length<4096/\Q (.int b.length) H
theorem O1:a9 X (.builtin "len") (pF X.prog X.w):=by
 intro aa s j H p us Q I r h;∎;let⟨a,i,rfl,ha,n,q⟩:=h;let⟨u,rfl,k⟩:=gX r;∎;cases k;let⟨⟨o,f,c,m,l,t,hd,b,e,_,_,g⟩,_⟩:=I.aV a _ ha;have d:=yp (o:=o) b g;exact call_len_set f c hd e (by rw[d];omega) ⟨.int i.length,H,I.tok _,⟨_,by rw[d]⟩,q⟩
end L2
namespace Vc
open PySem L2 Sf
section
variable{P:Program}{w:World}{K:ao}{F H:Hp}{Q:VK}
theorem TN(h:H a=some (jz P w a (ns.map Sum.inr)))(d:ns.length<64)(q:∀p,H p=none->Q (.ref p) (a6 H p (.ak ((mV ns).map V.str)))):pz P w [V.ref a] H Q:=
 ⟨a,ns,rfl,h,d,λf b c p e=>by rw[V2 b c];exact q p e⟩
theorem V6{j:Type}{f:j->bD}{a:ah}{ns:List j}(h:H a=some (jz P w a (ns.map f)))(b:ns.length<4096)(q:Q (.int (ns.length:Int)) H):pF P w [V.ref a] H Q:=
 ⟨a,ns.map f,rfl,h,by rw[length_map];exact b,by rw[length_map];exact q⟩
end
end Vc
namespace L2
open PySem PySem.Spec PyProof.Rows
section
variable{X:Cx}{CX:fj}{k:Nat}{f C:ah}{fd:FuncData}{ps:ae}{sp:Sp}{dvs:ax}{ds:aJ}{x:Str}{p pos:Pos}{e:Expr}{es:bS}{t:TA}
def rX(C:ah)(sp:Sp)(dvs:ax)(R:St->XK)(t:TA):TE:=λj H Q=>t j H λvs b=>∀x a,b x=none->b a=none->a≠x->
 sp (.ref x::(vs++dvs)) (a6 (a6 b a (.own x)) x (.ins C a [])) (λv c=>v=.aX/\Q (.ref x) c) (R j)
theorem O3{H:Hp}{Q:VK}(M:Mk X.K C f)(F:aB X.prog X.w X.K X.mg X.base CX k f fd ps sp)(y:bj (k+1) X.A)(o:Binds X.K fd ps ds)(hd:aF dvs ds)(z:gA CX X j E)(I:aw X aa j H s)(r:aF vs us)(h:∀x c,H x=none->H c=none->c≠x->sp (.ref x::(vs++dvs)) (a6 (a6 H c (.own x)) x (.ins C c [])) (λv i=>v=.aX/\Q (.ref x) i) E):
  wpAny (model X.prog X.w) X.A (call (.ref C) us) (EP X aa j Q) X.xe s:=by
 have d:=h (⇑s+1) ⇑s (I.aV.fresh (le_succ _)) (I.aV.fresh (le_refl _)) (ne_of_lt (lt_succ_self _));have b:=aw.made (C:=C) I;have r2:aF (V.ref (⇑s+1)::(vs++dvs)) (Value.ref (⇑s+1)::(us++ds)):=.cons rfl (r.append hd);have q:(Value.ref (⇑s+1)::us++ds).length=ps.length:=(r2.length.symm.trans (F.len _ _ _ _ d))
 refine wpAny_call (Rv (f:=f) I.cy M.makes M.init (beq_iff_eq.mp M.fn) (codeAny_mono (F.run _ X.stack _ _ ⟨Value.ref (⇑s+1)::us,[]⟩ (Value.ref (⇑s+1)::(us++ds)) _ _ E (y.make C us [])
  (b.mJ.make C us []) (o _ (Value.ref (⇑s+1)::us) b.cy q) r2 d) λn G a=>?_))
 match n,a with
 |.error e,a=>exact z aa _ _ e G b a
 |.ok (.ret u),a=>
  let⟨v,g,l,D,m,B⟩:=b.after a;subst m;exact⟨D,⟨V.ref (⇑s+1),g,l,rfl,B⟩⟩
 |.ok .next,a=>exact a.elim
 |.ok .brk,a=>exact a.elim
 |.ok .cont,a=>exact a.elim
theorem xF{R:St->XK}(M:Mk X.K C f)(F:aB X.prog X.w X.K X.mg X.base CX k f fd ps sp)(l:bj (k+1) X.A)(i:Gl X x)(hm:X.mg x=some (.ref C))(g:Binds X.K fd ps ds)(hd:aF dvs ds)(m:∀j,gA CX X j (R j))(ha:PA X (e::es) t)(a: ~~~(cD x))(he:do dN e es X.env)(b:do eX pos es X.env):
  PE X (.Call (.Name x p) (e::es) [] pos) (rX C sp dvs R t):=by
 intro aa s j H Q I h;refine wpAny_Call_Name_kw (k4 I i hm ?_ a);exact W.callWith_K (h₀:=X.base) I.ok.mod.mO M.kp (bo (ha pos aa s j H _ I h) λus o c=>by let⟨vs,n,d,r,q⟩:=c;exact⟨d.cy,O3 M F l g hd (m j) d r q⟩) he b
structure fP(K:ao)(C:ah):Prop where
 cl:dF K C
 ha:W.findIn K (.ref C) "__class__"=some (some (.builtin "object.__class__"))
 hn:W.specialIn K (.builtin "object.__class__") "__get__"=some (some (.builtin "getset_descriptor.__get__"))
 uq:W.takesIn K (.builtin "object.__class__")=some true
 hm:W.mroIn K C (.type "object")=some true
end
def aQ(P:Program)(w:World)(K:ao)(mg:bA)(base:aP)(CX:fj)(k:Nat)(m:Str)(C:ah)(ps:ae)(sp:Sp):Prop:=
 dF K C/\∃f a,jX K C m f/\aB P w K mg base CX k f a ps sp/\Binds K a ps []
theorem aQ.mono{P:Program}{w:World}{K:ao}{mg:bA}{base:aP}{CX:fj}{k a:Nat}{m:Str}{C:ah}{ps:ae}{sp:Sp}(h:aQ P w K mg base CX k m C ps sp)(le:k<=a):aQ P w K mg base CX a m C ps sp:=by
 let⟨c,f,b,hm,F,d⟩:=h;exact⟨c,f,b,hm,F.mono le,d⟩
def hW(K:ao)(x a:Str)(st:Stmt)(f:ah):Prop:=∃b,gx K x a st f b
theorem mL{K:ao}{x a:Str}{st:Stmt}{f:ah}{oc:ag}{od an:fw}{osl:Array (dO)}{kV doc pm aR ct:ag}(l:K.lookup f=some ⟨oc,od,.func (W.fnOf x a (nk st) (iu st) (bh st) .none kV doc pm an aR ct),osl⟩)(c:W.codeIn K aR a=true)(k:W.keepIn K (.ref f)=true):hW K x a st f:=⟨_,WD l c k⟩
theorem hW.kp{K:ao}{x a:Str}{st:Stmt}{f:ah}(h:hW K x a st f):W.keepIn K (.ref f)=true:=h.choose_spec.kp
end L2
namespace Pu
open PySem L2 Vc Sf
inductive Fl where |f |o |l (k:Bool)
 deriving DecidableEq
inductive Tr where
 |int (n:Int) |bl (b:Bool) |str (s:Str) |aX |aL |ty (n:String) |cl (a:Addr) |exc (b:Addr)
 |aY (xs:List Tr) |ak (f:Fl) (xs:List Tr) |bJ (f:Fl) (kvs:List (bD × Tr)) |ins (f:Fl) (c:Addr) (fs:List (Str × Tr))
abbrev ar:=Tr->Prop
abbrev eJ:=List (bD×Tr)
abbrev bT:=List (Str×Tr)
abbrev ai:=List Tr
abbrev aG:=ai->Prop
abbrev Cs:=List (ah×HO)
mutual
/-- v stands for the tree: bf frozen parts in F,bf lent ones in B,bf own ones are the cells -/
noncomputable def R(K:W.Frag)(F:Hp)(B:Bool->Hp):Tr->V->Cs->Prop
 |.int n,v,cs=>v=.int n /\ cs=[]
 |.bl b,v,cs=>v=.bl b /\ cs=[]
 |.str s,v,cs=>v=.str s /\ cs=[]
 |.aX,v,cs=>v=.aX /\ cs=[]
 |.aL,_,_=>False
 |.ty n,v,cs=>v=.ty n /\ cs=[]
 |.cl a,v,cs=>v=.ref a /\ cs=[]
 |.exc b,v,cs=>cs=[] /\ ∃a,v=.ref a /\ Rd F a (i5 a b)
 |.aY xs,v,cs=>∃a vs,v=.ref a /\ cZ K F a vs /\ Rs K F B xs vs cs
 |.ak .f xs,v,cs=>cs=[] /\ ∃a vs,v=.ref a /\ bM K F a vs /\ Rs K F B xs vs []
 |.ak (.l k) xs,v,cs=>cs=[] /\ ∃a vs,v=.ref a /\ bM K (B k) a vs /\ Rs K F B xs vs []
 |.ak .o xs,v,cs=>∃a vs d,v=.ref a /\ cs=(a,.ak vs)::d /\ Rs K F B xs vs d
 |.bJ .f xs,v,cs=>cs=[] /\ ∃a vs,v=.ref a /\ Rd F a (.dK vs) /\ Rk K F B xs vs [] /\ (xs.map (·.1)).Nodup
 |.bJ (.l k) xs,v,cs=>cs=[] /\ ∃a vs,v=.ref a /\ Rd (B k) a (.dK vs) /\ Rk K F B xs vs [] /\ (xs.map (·.1)).Nodup
 |.bJ .o xs,v,cs=>∃a vs d,v=.ref a /\ cs=(a,.dK vs)::d /\ Rk K F B xs vs d /\ (xs.map (·.1)).Nodup
 |.ins .f c xs,v,cs=>cs=[] /\ ∃a e vs,v=.ref a /\ Rd F a (.ins c e vs) /\ Rf K F B xs vs []
 |.ins (.l k) c xs,v,cs=>cs=[] /\ ∃a e vs,v=.ref a /\ Rd (B k) a (.ins c e vs) /\ Rf K F B xs vs []
 |.ins .o c xs,v,cs=>∃a e vs d,v=.ref a /\ cs=(a,.ins c e vs)::d /\ Rf K F B xs vs d
noncomputable def Rs(K:W.Frag)(F:Hp)(B:Bool->Hp):List Tr->List V->Cs->Prop
 |[],vs,cs=>vs=[] /\ cs=[]
 |x::xs,vs,cs=>∃v r c d,vs=v::r /\ cs=c ++ d /\ R K F B x v c /\ Rs K F B xs r d
noncomputable def Rk(K:W.Frag)(F:Hp)(B:Bool->Hp):List (bD×Tr)->List (bD×V)->Cs->Prop
 |[],vs,cs=>vs=[] /\ cs=[]
 |(k,x)::xs,vs,cs=>∃v r c d,vs=(k,v)::r /\ cs=c ++ d /\ R K F B x v c /\ Rk K F B xs r d
noncomputable def Rf(K:W.Frag)(F:Hp)(B:Bool->Hp):List (Str×Tr)->List (Str×V)->Cs->Prop
 |[],vs,cs=>vs=[] /\ cs=[]
 |(k,x)::xs,vs,cs=>∃v r c d,vs=(k,v)::r /\ cs=c ++ d /\ R K F B x v c /\ Rf K F B xs r d
end
mutual
noncomputable def aM:Tr->Tr
 |.aY a=>.aY (cP a)
 |.ak .o a=>.ak (.l true) (cP a)
 |.bJ .o a=>.bJ (.l true) (eN a)
 |.ins .o c a=>.ins (.l true) c (dg a)
 |t=>t
noncomputable def cP:List Tr->List Tr
 |[]=>[] |x::xs=>aM x::cP xs
noncomputable def eN:List (bD×Tr)->List (bD×Tr)
 |[]=>[] |(k,x)::xs=>(k,aM x)::eN xs
noncomputable def dg:List (Str×Tr)->List (Str×Tr)
 |[]=>[] |(k,x)::xs=>(k,aM x)::dg xs
end
mutual
/-- no one changes it any more -/
noncomputable def aU:Tr->Tr
 |.aY a=>.aY (bP a)
 |.ak .o a=>.ak .f (bP a)
 |.bJ .o a=>.bJ .f (ij a)
 |.ins .o c a=>.ins .f c (f5 a)
 |t=>t
noncomputable def bP:List Tr->List Tr
 |[]=>[] |x::xs=>aU x::bP xs
noncomputable def ij:List (bD×Tr)->List (bD×Tr)
 |[]=>[] |(k,x)::xs=>(k,aU x)::ij xs
noncomputable def f5:List (Str×Tr)->List (Str×Tr)
 |[]=>[] |(k,x)::xs=>(k,aU x)::f5 xs
end
mutual
/-- nothing lent in it -/
noncomputable def ck:Tr->Bool
 |.aY a=>dC a
 |.ak (.l _) _=>false
 |.bJ (.l _) _=>false
 |.ins (.l _) _ _=>false
 |.ak _ a=>dC a
 |.bJ _ a=>gN a
 |.ins _ _ a=>dB a
 |_=>true
noncomputable def dC:List Tr->Bool
 |[]=>true |x::xs=>ck x&&dC xs
noncomputable def gN:List (bD×Tr)->Bool
 |[]=>true |(_,x)::xs=>ck x&&gN xs
noncomputable def dB:List (Str×Tr)->Bool
 |[]=>true |(_,x)::xs=>ck x&&dB xs
end
mutual
/-- nothing lent for now in it -/
noncomputable def b8:Tr->Bool
 |.aY a=>eQ a
 |.ak (.l true) _=>false
 |.bJ (.l true) _=>false
 |.ins (.l true) _ _=>false
 |.ak _ a=>eQ a
 |.bJ _ a=>ip a
 |.ins _ _ a=>fi a
 |_=>true
noncomputable def eQ:List Tr->Bool
 |[]=>true |x::xs=>b8 x&&eQ xs
noncomputable def ip:List (bD×Tr)->Bool
 |[]=>true |(_,x)::xs=>b8 x&&ip xs
noncomputable def fi:List (Str×Tr)->Bool
 |[]=>true |(_,x)::xs=>b8 x&&fi xs
end
mutual
/-- as a callee has it: what is lent is lent to it -/
noncomputable def dn:Tr->Tr
 |.aY a=>.aY (cq a)
 |.ak (.l _) a=>.ak (.l false) (cq a)
 |.bJ (.l _) a=>.bJ (.l false) (kq a)
 |.ins (.l _) c a=>.ins (.l false) c (g9 a)
 |.ak .o a=>.ak .o (cq a)
 |.bJ .o a=>.bJ .o (kq a)
 |.ins .o c a=>.ins .o c (g9 a)
 |.ak .f a=>.ak .f (cq a)
 |.bJ .f a=>.bJ .f (kq a)
 |.ins .f c a=>.ins .f c (g9 a)
 |t=>t
noncomputable def cq:List Tr->List Tr
 |[]=>[] |x::xs=>dn x::cq xs
noncomputable def kq:List (bD×Tr)->List (bD×Tr)
 |[]=>[] |(k,x)::xs=>(k,dn x)::kq xs
noncomputable def g9:List (Str×Tr)->List (Str×Tr)
 |[]=>[] |(k,x)::xs=>(k,dn x)::g9 xs
end
mutual
theorem R.mo{B B':Bool->Hp}(e:Le F F')(b:∀k,Le (B k) (B' k)):∀(t:Tr){v:V}{cs:Cs},R K F B t v cs->R K F' B' t v cs
 |.int _,_,_,h=>h
 |.bl _,_,_,h=>h
 |.str _,_,_,h=>h
 |.aX,_,_,h=>h
 |.aL,_,_,h=>h
 |.ty _,_,_,h=>h
 |.cl _,_,_,h=>h
 |.exc _,_,_,y=>by let⟨z,a,c,d⟩:=y;exact⟨z,a,c,Le.exc e d⟩
 |.aY xs,_,_,y=>by let⟨a,vs,c,d,g⟩:=y;exact⟨a,vs,c,e.aY d,Rs.mo e b xs g⟩
 |.ak .f xs,_,_,y=>by let⟨z,a,vs,c,d,g⟩:=y;exact⟨z,a,vs,c,e.ak d,Rs.mo e b xs g⟩
 |.ak (.l k) xs,_,_,y=>by let⟨z,a,vs,c,d,g⟩:=y;exact⟨z,a,vs,c,(b k).ak d,Rs.mo e b xs g⟩
 |.ak .o xs,_,_,y=>by let⟨a,vs,i,c,d,g⟩:=y;exact⟨a,vs,i,c,d,Rs.mo e b xs g⟩
 |.bJ .f xs,_,_,y=>by let⟨z,a,vs,c,d,g,m⟩:=y;exact⟨z,a,vs,c,e.bJ d,Rk.mo e b xs g,m⟩
 |.bJ (.l k) xs,_,_,y=>by let⟨z,a,vs,c,d,g,m⟩:=y;exact⟨z,a,vs,c,(b k).bJ d,Rk.mo e b xs g,m⟩
 |.bJ .o xs,_,_,y=>by let⟨a,vs,i,c,d,g,m⟩:=y;exact⟨a,vs,i,c,d,Rk.mo e b xs g,m⟩
 |.ins .f _ xs,_,_,y=>by let⟨z,a,j,vs,c,d,g⟩:=y;exact⟨z,a,j,vs,c,e _ _ (by intro _ _ z;cases z) d,Rf.mo e b xs g⟩
 |.ins (.l k) _ xs,_,_,y=>by let⟨z,a,j,vs,c,d,g⟩:=y;exact⟨z,a,j,vs,c,b k _ _ (by intro _ _ z;cases z) d,Rf.mo e b xs g⟩
 |.ins .o _ xs,_,_,y=>by let⟨a,j,vs,i,c,d,g⟩:=y;exact⟨a,j,vs,i,c,d,Rf.mo e b xs g⟩
theorem Rs.mo{B B':Bool->Hp}(e:Le F F')(b:∀k,Le (B k) (B' k)):∀(t:List Tr){v:List V}{cs:Cs},Rs K F B t v cs->Rs K F' B' t v cs
 |[],_,_,h=>h
 |x::xs,_,_,y=>by let⟨v,r,c,d,a,f,g,i⟩:=y;exact⟨v,r,c,d,a,f,R.mo e b x g,Rs.mo e b xs i⟩
theorem Rk.mo{B B':Bool->Hp}(e:Le F F')(b:∀k,Le (B k) (B' k)):∀(t:List (bD×Tr)){v:List (bD×V)}{cs:Cs},Rk K F B t v cs->Rk K F' B' t v cs
 |[],_,_,h=>h
 |(_,x)::xs,_,_,y=>by let⟨v,r,c,d,a,f,g,i⟩:=y;exact⟨v,r,c,d,a,f,R.mo e b x g,Rk.mo e b xs i⟩
theorem Rf.mo{B B':Bool->Hp}(e:Le F F')(b:∀k,Le (B k) (B' k)):∀(t:List (Str×Tr)){v:List (Str×V)}{cs:Cs},Rf K F B t v cs->Rf K F' B' t v cs
 |[],_,_,h=>h
 |(_,x)::xs,_,_,y=>by let⟨v,r,c,d,a,f,g,i⟩:=y;exact⟨v,r,c,d,a,f,R.mo e b x g,Rf.mo e b xs i⟩
end
section
mutual
theorem R.aM(b:∀k,Le (B k) (B' k)):∀(t:Tr){v:V}{cs:Cs},R K F B t v cs->(∀p∈cs,B' true p.1=some p.2)->R K F B' (aM t) v []
 |.int _,_,_,y,_=>by let⟨h,_⟩:=y;exact⟨h,rfl⟩
 |.bl _,_,_,y,_=>by let⟨h,_⟩:=y;exact⟨h,rfl⟩
 |.str _,_,_,y,_=>by let⟨h,_⟩:=y;exact⟨h,rfl⟩
 |.aX,_,_,y,_=>by let⟨h,_⟩:=y;exact⟨h,rfl⟩
 |.aL,_,_,h,_=>h.elim
 |.ty _,_,_,y,_=>by let⟨h,_⟩:=y;exact⟨h,rfl⟩
 |.cl _,_,_,y,_=>by let⟨h,_⟩:=y;exact⟨h,rfl⟩
 |.exc _,_,_,y,_=>by let⟨_,a,h,n⟩:=y;exact⟨rfl,a,h,n⟩
 |.aY xs,_,_,y,m=>by let⟨a,vs,d,c,e⟩:=y;exact⟨a,vs,d,c,Rs.aM b xs e m⟩
 |.ak .f xs,_,_,y,_=>by let⟨z,a,vs,d,c,e⟩:=y;exact⟨rfl,a,vs,d,c,Rs.mo (Le.refl F) b xs e⟩
 |.ak (.l k) xs,_,_,y,_=>by let⟨z,a,vs,d,c,e⟩:=y;exact⟨rfl,a,vs,d,(b k).ak c,Rs.mo (Le.refl F) b xs e⟩
 |.ak .o xs,_,_,y,m=>by let⟨a,vs,j,d,c,e⟩:=y;exact⟨rfl,a,vs,d,bM.of (m (a,.ak vs) (by rw[c];exact .head _)),Rs.aM b xs e λp q=>m p (by rw[c];exact .tail _ q)⟩
 |.bJ .f xs,_,_,y,_=>by let⟨z,a,vs,d,c,e,i⟩:=y;exact⟨rfl,a,vs,d,c,Rk.mo (Le.refl F) b xs e,i⟩
 |.bJ (.l k) xs,_,_,y,_=>by let⟨z,a,vs,d,c,e,i⟩:=y;exact⟨rfl,a,vs,d,(b k).bJ c,Rk.mo (Le.refl F) b xs e,i⟩
 |.bJ .o xs,_,_,y,m=>by let⟨a,vs,j,d,c,e,i⟩:=y;exact⟨rfl,a,vs,d,Rd.of (m (a,.dK vs) (by rw[c];exact .head _)),Rk.aM b xs e λp q=>m p (by rw[c];exact .tail _ q),by rw[eO];exact i⟩
 |.ins .f _ xs,_,_,y,_=>by let⟨z,a,g,vs,d,c,e⟩:=y;exact⟨rfl,a,g,vs,d,c,Rf.mo (Le.refl F) b xs e⟩
 |.ins (.l k) _ xs,_,_,y,_=>by let⟨z,a,g,vs,d,c,e⟩:=y;exact⟨rfl,a,g,vs,d,b k _ _ (by intro _ _ z;cases z) c,Rf.mo (Le.refl F) b xs e⟩
 |.ins .o _ xs,_,_,y,m=>by let⟨a,g,vs,j,d,c,e⟩:=y;exact⟨rfl,a,g,vs,d,Rd.of (m (a,.ins _ g vs) (by rw[c];exact .head _)),Rf.aM b xs e λp q=>m p (by rw[c];exact .tail _ q)⟩
theorem Rs.aM(b:∀k,Le (B k) (B' k)):∀(t:List Tr){v:List V}{cs:Cs},Rs K F B t v cs->(∀p∈cs,B' true p.1=some p.2)->Rs K F B' (cP t) v []
 |[],_,_,y,_=>by let⟨h,_⟩:=y;exact⟨h,rfl⟩
 |x::xs,_,_,y,m=>by let⟨v,r,c,d,e,a,f,g⟩:=y;exact⟨v,r,[],[],e,rfl,R.aM b x f λp q=>m p (by rw[a];exact mem_append.mpr (.inl q)),Rs.aM b xs g λp q=>m p (by rw[a];exact mem_append.mpr (.inr q))⟩
theorem Rk.aM(b:∀k,Le (B k) (B' k)):∀(t:List (bD×Tr)){v:List (bD×V)}{cs:Cs},Rk K F B t v cs->(∀p∈cs,B' true p.1=some p.2)->Rk K F B' (eN t) v []
 |[],_,_,y,_=>by let⟨h,_⟩:=y;exact⟨h,rfl⟩
 |(_,x)::xs,_,_,y,m=>by let⟨v,r,c,d,e,a,f,g⟩:=y;exact⟨v,r,[],[],e,rfl,R.aM b x f λp q=>m p (by rw[a];exact mem_append.mpr (.inl q)),Rk.aM b xs g λp q=>m p (by rw[a];exact mem_append.mpr (.inr q))⟩
theorem Rf.aM(b:∀k,Le (B k) (B' k)):∀(t:List (Str×Tr)){v:List (Str×V)}{cs:Cs},Rf K F B t v cs->(∀p∈cs,B' true p.1=some p.2)->Rf K F B' (dg t) v []
 |[],_,_,y,_=>by let⟨h,_⟩:=y;exact⟨h,rfl⟩
 |(_,x)::xs,_,_,y,m=>by let⟨v,r,c,d,e,a,f,g⟩:=y;exact⟨v,r,[],[],e,rfl,R.aM b x f λp q=>m p (by rw[a];exact mem_append.mpr (.inl q)),Rf.aM b xs g λp q=>m p (by rw[a];exact mem_append.mpr (.inr q))⟩
theorem eO:∀(xs:List (bD×Tr)),(eN xs).map (·.1)=xs.map (·.1)
 |[]=>rfl
 |(_,_)::xs=>by show _::_=_::_;rw[eO xs]
end
theorem Eg:∀(xs:eJ),(ij xs).map (·.1)=xs.map (·.1)
 |[]=>rfl
 |(_,_)::xs=>by show _::_=_::_;rw[Eg xs]
mutual
/-- without lent parts B is not asked -/
theorem R.base:∀(t:Tr){v:V}{cs:Cs},ck t=true->R K F B t v cs->R K F B' t v cs
 |.int _,_,_,_,h=>h
 |.bl _,_,_,_,h=>h
 |.str _,_,_,_,h=>h
 |.aX,_,_,_,h=>h
 |.aL,_,_,_,h=>h
 |.ty _,_,_,_,h=>h
 |.cl _,_,_,_,h=>h
 |.exc _,_,_,_,h=>h
 |.aY xs,_,_,n,y=>by let⟨a,vs,b,c,d⟩:=y;exact⟨a,vs,b,c,Rs.base xs n d⟩
 |.ak .f xs,_,_,n,y=>by let⟨z,a,vs,b,c,d⟩:=y;exact⟨z,a,vs,b,c,Rs.base xs n d⟩
 |.ak (.l k) xs,_,_,n,_=>by cases n
 |.ak .o xs,_,_,n,y=>by let⟨a,vs,e,b,c,d⟩:=y;exact⟨a,vs,e,b,c,Rs.base xs n d⟩
 |.bJ .f xs,_,_,n,y=>by let⟨z,a,vs,b,c,d,i⟩:=y;exact⟨z,a,vs,b,c,Rk.base xs n d,i⟩
 |.bJ (.l k) xs,_,_,n,_=>by cases n
 |.bJ .o xs,_,_,n,y=>by let⟨a,vs,e,b,c,d,i⟩:=y;exact⟨a,vs,e,b,c,Rk.base xs n d,i⟩
 |.ins .f _ xs,_,_,n,y=>by let⟨z,a,g,vs,b,c,d⟩:=y;exact⟨z,a,g,vs,b,c,Rf.base xs n d⟩
 |.ins (.l k) _ xs,_,_,n,_=>by cases n
 |.ins .o _ xs,_,_,n,y=>by let⟨a,g,vs,e,b,c,d⟩:=y;exact⟨a,g,vs,e,b,c,Rf.base xs n d⟩
theorem Rs.base:∀(t:List Tr){v:List V}{cs:Cs},dC t=true->Rs K F B t v cs->Rs K F B' t v cs
 |[],_,_,_,h=>h
 |x::xs,_,_,n,y=>by
  let⟨v,r,c,d,a,b,e,f⟩:=y;rw[dC,and_eq_true] at n;exact⟨v,r,c,d,a,b,R.base x n.1 e,Rs.base xs n.2 f⟩
theorem Rk.base:∀(t:List (bD×Tr)){v:List (bD×V)}{cs:Cs},gN t=true->Rk K F B t v cs->Rk K F B' t v cs
 |[],_,_,_,h=>h
 |(_,x)::xs,_,_,n,y=>by
  let⟨v,r,c,d,a,b,e,f⟩:=y;rw[gN,and_eq_true] at n;exact⟨v,r,c,d,a,b,R.base x n.1 e,Rk.base xs n.2 f⟩
theorem Rf.base:∀(t:List (Str×Tr)){v:List (Str×V)}{cs:Cs},dB t=true->Rf K F B t v cs->Rf K F B' t v cs
 |[],_,_,_,h=>h
 |(_,x)::xs,_,_,n,y=>by
  let⟨v,r,c,d,a,b,e,f⟩:=y;rw[dB,and_eq_true] at n;exact⟨v,r,c,d,a,b,R.base x n.1 e,Rf.base xs n.2 f⟩
end
mutual
theorem R.aU(b:Le F F'):∀(t:Tr){v:V}{cs:Cs},R K F B t v cs->(∀p∈cs,F' p.1=some p.2)->R K F' B (aU t) v []
 |.int _,_,_,y,_=>by let⟨h,_⟩:=y;exact⟨h,rfl⟩
 |.bl _,_,_,y,_=>by let⟨h,_⟩:=y;exact⟨h,rfl⟩
 |.str _,_,_,y,_=>by let⟨h,_⟩:=y;exact⟨h,rfl⟩
 |.aX,_,_,y,_=>by let⟨h,_⟩:=y;exact⟨h,rfl⟩
 |.aL,_,_,h,_=>h.elim
 |.ty _,_,_,y,_=>by let⟨h,_⟩:=y;exact⟨h,rfl⟩
 |.cl _,_,_,y,_=>by let⟨h,_⟩:=y;exact⟨h,rfl⟩
 |.exc _,_,_,y,_=>by let⟨_,a,h,n⟩:=y;exact⟨rfl,a,h,Le.exc b n⟩
 |.aY xs,_,_,y,m=>by let⟨a,vs,d,c,e⟩:=y;exact⟨a,vs,d,b.aY c,Rs.aU b xs e m⟩
 |.ak .f xs,_,_,y,_=>by let⟨z,a,vs,d,c,e⟩:=y;exact⟨rfl,a,vs,d,b.ak c,Rs.mo b (λk=>Le.refl (B k)) xs e⟩
 |.ak (.l k) xs,_,_,y,_=>by let⟨z,a,vs,d,c,e⟩:=y;exact⟨rfl,a,vs,d,c,Rs.mo b (λk=>Le.refl (B k)) xs e⟩
 |.ak .o xs,_,_,y,m=>by let⟨a,vs,j,d,c,e⟩:=y;exact⟨rfl,a,vs,d,bM.of (m (a,.ak vs) (by rw[c];exact .head _)),Rs.aU b xs e λp q=>m p (by rw[c];exact .tail _ q)⟩
 |.bJ .f xs,_,_,y,_=>by let⟨z,a,vs,d,c,e,i⟩:=y;exact⟨rfl,a,vs,d,b.bJ c,Rk.mo b (λk=>Le.refl (B k)) xs e,i⟩
 |.bJ (.l k) xs,_,_,y,_=>by let⟨z,a,vs,d,c,e,i⟩:=y;exact⟨rfl,a,vs,d,c,Rk.mo b (λk=>Le.refl (B k)) xs e,i⟩
 |.bJ .o xs,_,_,y,m=>by let⟨a,vs,j,d,c,e,i⟩:=y;exact⟨rfl,a,vs,d,Rd.of (m (a,.dK vs) (by rw[c];exact .head _)),Rk.aU b xs e λp q=>m p (by rw[c];exact .tail _ q),by rw[Eg];exact i⟩
 |.ins .f _ xs,_,_,y,_=>by let⟨z,a,g,vs,d,c,e⟩:=y;exact⟨rfl,a,g,vs,d,b _ _ (by intro _ _ z;cases z) c,Rf.mo b (λk=>Le.refl (B k)) xs e⟩
 |.ins (.l k) _ xs,_,_,y,_=>by let⟨z,a,g,vs,d,c,e⟩:=y;exact⟨rfl,a,g,vs,d,c,Rf.mo b (λk=>Le.refl (B k)) xs e⟩
 |.ins .o _ xs,_,_,y,m=>by let⟨a,g,vs,j,d,c,e⟩:=y;exact⟨rfl,a,g,vs,d,Rd.of (m (a,.ins _ g vs) (by rw[c];exact .head _)),Rf.aU b xs e λp q=>m p (by rw[c];exact .tail _ q)⟩
theorem Rs.aU(b:Le F F'):∀(t:List Tr){v:List V}{cs:Cs},Rs K F B t v cs->(∀p∈cs,F' p.1=some p.2)->Rs K F' B (bP t) v []
 |[],_,_,y,_=>by let⟨h,_⟩:=y;exact⟨h,rfl⟩
 |x::xs,_,_,y,m=>by let⟨v,r,c,d,e,a,f,g⟩:=y;exact⟨v,r,[],[],e,rfl,R.aU b x f λp q=>m p (by rw[a];exact mem_append.mpr (.inl q)),Rs.aU b xs g λp q=>m p (by rw[a];exact mem_append.mpr (.inr q))⟩
theorem Rk.aU(b:Le F F'):∀(t:List (bD×Tr)){v:List (bD×V)}{cs:Cs},Rk K F B t v cs->(∀p∈cs,F' p.1=some p.2)->Rk K F' B (ij t) v []
 |[],_,_,y,_=>by let⟨h,_⟩:=y;exact⟨h,rfl⟩
 |(_,x)::xs,_,_,y,m=>by let⟨v,r,c,d,e,a,f,g⟩:=y;exact⟨v,r,[],[],e,rfl,R.aU b x f λp q=>m p (by rw[a];exact mem_append.mpr (.inl q)),Rk.aU b xs g λp q=>m p (by rw[a];exact mem_append.mpr (.inr q))⟩
theorem Rf.aU(b:Le F F'):∀(t:List (Str×Tr)){v:List (Str×V)}{cs:Cs},Rf K F B t v cs->(∀p∈cs,F' p.1=some p.2)->Rf K F' B (f5 t) v []
 |[],_,_,y,_=>by let⟨h,_⟩:=y;exact⟨h,rfl⟩
 |(_,x)::xs,_,_,y,m=>by let⟨v,r,c,d,e,a,f,g⟩:=y;exact⟨v,r,[],[],e,rfl,R.aU b x f λp q=>m p (by rw[a];exact mem_append.mpr (.inl q)),Rf.aU b xs g λp q=>m p (by rw[a];exact mem_append.mpr (.inr q))⟩
end
def Plain(cs:Cs):Prop:=∀p∈cs,∀x u,p.2≠HO.aU x u
theorem Plain.nil:Plain []:=λ_ h=>nomatch h
theorem Plain.cons{a:ah}{o:HO}{cs:Cs}(h:∀x u,o≠HO.aU x u)(t:Plain cs):Plain ((a,o)::cs):=λp m=>by
 cases m with
 |head=>exact h
 |tail _ m=>exact t p m
theorem Plain.app(h:Plain c)(t:Plain d):Plain (c++d):=λp m=>(mem_append.mp m).elim (h p) (t p)
mutual
theorem R.plain:∀(t:Tr){v:V}{cs:Cs},R K F B t v cs->Plain cs
 |.int _,_,_,y=>by let⟨_,h⟩:=y;rw[h];exact .nil
 |.bl _,_,_,y=>by let⟨_,h⟩:=y;rw[h];exact .nil
 |.str _,_,_,y=>by let⟨_,h⟩:=y;rw[h];exact .nil
 |.aX,_,_,y=>by let⟨_,h⟩:=y;rw[h];exact .nil
 |.aL,_,_,h=>h.elim
 |.ty _,_,_,y=>by let⟨_,h⟩:=y;rw[h];exact .nil
 |.cl _,_,_,y=>by let⟨_,h⟩:=y;rw[h];exact .nil
 |.exc _,_,_,y=>by let⟨h,_⟩:=y;rw[h];exact .nil
 |.aY xs,_,_,y=>by let⟨a,vs,d,c,b⟩:=y;exact Rs.plain xs b
 |.ak .f xs,_,_,y=>by let⟨z,_⟩:=y;rw[z];exact .nil
 |.ak (.l k) xs,_,_,y=>by let⟨z,_⟩:=y;rw[z];exact .nil
 |.ak .o xs,_,_,y=>by let⟨a,vs,e,d,c,b⟩:=y;rw[c];exact .cons (by intro _ _ z;cases z) (Rs.plain xs b)
 |.bJ .f xs,_,_,y=>by let⟨z,_⟩:=y;rw[z];exact .nil
 |.bJ (.l k) xs,_,_,y=>by let⟨z,_⟩:=y;rw[z];exact .nil
 |.bJ .o xs,_,_,y=>by let⟨a,vs,e,d,c,b,_⟩:=y;rw[c];exact .cons (by intro _ _ z;cases z) (Rk.plain xs b)
 |.ins .f _ xs,_,_,y=>by let⟨z,_⟩:=y;rw[z];exact .nil
 |.ins (.l k) _ xs,_,_,y=>by let⟨z,_⟩:=y;rw[z];exact .nil
 |.ins .o _ xs,_,_,y=>by let⟨a,g,vs,e,d,c,b⟩:=y;rw[c];exact .cons (by intro _ _ z;cases z) (Rf.plain xs b)
theorem Rs.plain:∀(t:List Tr){v:List V}{cs:Cs},Rs K F B t v cs->Plain cs
 |[],_,_,y=>by let⟨_,h⟩:=y;rw[h];exact .nil
 |x::xs,_,_,y=>by let⟨v,r,c,d,f,a,b,e⟩:=y;rw[a];exact (R.plain x b).app (Rs.plain xs e)
theorem Rk.plain:∀(t:List (bD×Tr)){v:List (bD×V)}{cs:Cs},Rk K F B t v cs->Plain cs
 |[],_,_,y=>by let⟨_,h⟩:=y;rw[h];exact .nil
 |(_,x)::xs,_,_,y=>by let⟨v,r,c,d,f,a,b,e⟩:=y;rw[a];exact (R.plain x b).app (Rk.plain xs e)
theorem Rf.plain:∀(t:List (Str×Tr)){v:List (Str×V)}{cs:Cs},Rf K F B t v cs->Plain cs
 |[],_,_,y=>by let⟨_,h⟩:=y;rw[h];exact .nil
 |(_,x)::xs,_,_,y=>by let⟨v,r,c,d,f,a,b,e⟩:=y;rw[a];exact (R.plain x b).app (Rf.plain xs e)
end
structure au(F H:Hp)(cs:Cs):Prop where
 h:∀p∈cs,H p.1=some p.2
 f:∀p∈cs,F p.1=none
 nd:(cs.map (·.1)).Nodup
theorem au.nil:au F H []:=⟨λ_ h=>(nomatch h),λ_ h=>(nomatch h),List.nodup_nil⟩
theorem au.gr(c:au F H cs)(g:Gr F H F' H'):au F' H' cs:=⟨λp m=>g.h _ _ (c.h p m),λp m=>g.own (c.f p m) (c.h p m),c.nd⟩
def dh(H:Hp)(cs:Cs):Prop:=∀p∈cs,H p.1=none
theorem dh.nil:dh H []:=λ_ h=>nomatch h
theorem dh.back(s:aA H H')(n:dh H' cs):dh H cs:=λp m=>s.free (n p m)
theorem au.app(h:au F H c)(t:au F H d)(n:∀p∈c,∀q∈d,p.1≠q.1):au F H (c++d):=
 ⟨λp m=>(mem_append.mp m).elim (h.h p) (t.h p),λp m=>(mem_append.mp m).elim (h.f p) (t.f p),by
  rw[map_append,nodup_append];refine⟨h.nd,t.nd,λa e b g=>?_⟩;∎;let⟨p,i,rfl⟩:=mem_map.mp e;let⟨q,j,rfl⟩:=mem_map.mp g;∎;exact n p i q j⟩
theorem au.left(h:au F H (c++d)):au F H c:=⟨λp m=>h.h p (mem_append.mpr (.inl m)),λp m=>h.f p (mem_append.mpr (.inl m)),by have:=h.nd;rw[map_append,nodup_append] at this;exact this.1⟩
theorem au.right(h:au F H (c++d)):au F H d:=⟨λp m=>h.h p (mem_append.mpr (.inr m)),λp m=>h.f p (mem_append.mpr (.inr m)),by have:=h.nd;rw[map_append,nodup_append] at this;exact this.2.1⟩
structure Out(K:ao)(F:Hp)(B:Bool->Hp)(H F' H':Hp)(t:Tr)(v:V)(cs:Cs):Prop where
 g:Gr F H F' H'
 r:R K F' B t v cs
 c:au F' H' cs
 n:dh H cs
structure d0(K:ao)(F:Hp)(B:Bool->Hp)(H F' H':Hp)(t:ai)(v:ax)(cs:Cs):Prop where
 g:Gr F H F' H'
 r:Rs K F' B t v cs
 c:au F' H' cs
 n:dh H cs
def ef(K:ao)(F:Hp)(B:Bool->Hp)(j:St)(y:ai):Prop:=∀(i:Nat)(t:Tr),y[i]?=some t->t=.aL\/∃v,j[i]?=some (some v)/\R K F B t v []
theorem ef.mo(e:ef K F B j y)(l:Le F F')(b:∀k,Le (B k) (B' k)):ef K F' B' j y:=λi t h=>(e i t h).imp id λ⟨v,h1,h2⟩=>⟨v,h1,h2.mo l b t⟩
abbrev aW:=ai->(ar)->Prop
abbrev cM:=ai->(aG)->Prop
abbrev di:=ai->(Bool->Prop)->Prop
structure Md where
 z:Bool
 E:St->XK
 q:ag->Prop
def Md.gM(k:Md):Md:=⟨k.z,k.E,λ_=>False⟩
def Md.base(b:Bool):Md:=⟨b,λ_=>E0,λ_=>False⟩
structure gv(K:ao)(k:Md)(F:Hp)(B:Bool->Hp)(H:Hp)(j:St)(y:ai):Prop where
 s:aA F H
 b:∀k,aA (B k) H
 z:k.z=true->Fz S0 F
 e:ef K F B j y
 x:∀cls F' H',k.q cls->Gr F H F' H'->k.E j cls none H'
theorem _root_.Vc.Gr.aH(s:aA F H):Gr F H F H:=Gr.of (Gr0.refl s) (Fz.refl F)
theorem _root_.Vc.Gr.trans'(a:Gr F H F' H')(b:Gr F' H' F2 H2):Gr F H F2 H2:=Gr.of (a.toGr0.tr b) (b.fz a.z)
theorem gv.gr(c:gv K k F B H j y)(g:Gr F H a d):gv K k a B d j y:=⟨g.s,λk=>(c.b k).trans g.h,λh=>g.fz (c.z h),c.e.mo g.le (λk=>Le.refl (B k)),λf a d q i=>c.x f a d q (g.trans' i)⟩
def bu(K:ao)(k:Md)(e:TE)(pe:aW):Prop:=∀(F:Hp)(B:Bool->Hp)(H:Hp)(j:St)(y:ai)(Q:VK)(b:ar),gv K k F B H j y->pe y b->(∀t v c a d,b t->Out K F B H c a t v d->Q v a)->e j H Q
def fK(K:ao)(k:Md)(e:TA)(pe:cM):Prop:=∀(F:Hp)(B:Bool->Hp)(H:Hp)(j:St)(y:ai)(Q:ax->Hp->Prop)(b:aG),gv K k F B H j y->pe y b->(∀t v c a d,b t->d0 K F B H c a t v d->Q v a)->e j H Q
def fb(K:ao)(k:Md)(e:TT)(pe:di):Prop:=∀(F:Hp)(B:Bool->Hp)(H:Hp)(j:St)(y:ai)(Q:Bool->Hp->Prop)(c:Bool->Prop),gv K k F B H j y->pe y c->(∀b d a,c b->Gr F H d a->Q b a)->e j H Q
theorem Out.same(s:aA F H)(r:R K F B t v []):Out K F B H F H t v []:=⟨Gr.aH s,r,.nil,.nil⟩
def c9(i:Nat):aW:=λj Q=>match j[i]? with |some .aL=>False |some t=>Q t |none=>False
theorem TQ(i:Nat):bu K k (jv i) (c9 i):=λF B H j y Q d c p q=>by
 unfold c9 at p;cases h:y[i]? with
 |none=>rw[h] at p;exact p.elim
 |some t=>
  rcases c.e i t h with rfl |⟨v,a,b⟩
  .rw[h] at p;exact p.elim
  .refine⟨v,a,q t v F H [] ?_ (Out.same c.s b)⟩;rw[h] at p;cases t with
   |aL=>exact p.elim
   |_=>exact p
def pC(t:Tr):aW:=λ_ Q=>Q t
theorem qB(h:∀F B,R K F B t v []):bu K k (tC v) (pC t):=λF B H j y Q a c p q=>q t v F H [] p (Out.same c.s (h F B))
theorem UE:bu K k (tC (.int n)) (pC (.int n)):=qB λ_ _=>⟨rfl,rfl⟩
theorem UG:bu K k (tC (.str n)) (pC (.str n)):=qB λ_ _=>⟨rfl,rfl⟩
theorem V7:bu K k (tC (.bl n)) (pC (.bl n)):=qB λ_ _=>⟨rfl,rfl⟩
def p2(c:Tr->Tr->(ar)->Prop)(a b:aW):aW:=λj Q=>a j λx=>b j λy=>c x y Q
def cW(K:ao)(k:Md)(r:R2)(g:Tr->Tr->(ar)->Prop):Prop:=∀(F:Hp)(B:Bool->Hp)(H:Hp)(x y:V)(tx ty:Tr)(a b:Cs)(Q:VK)(f:ar),aA F H->(∀k,aA (B k) H)->(k.z=true->Fz S0 F)->R K F B tx x a->R K F B ty y b->au F H a->au F H b->(∀p∈a,∀q∈b,p.1≠q.1)->g tx ty f->
 (∀t v c d e,f t->Gr F H c d->R K c B t v e->au c d e->(∀p∈e,H p.1=none\/p∈a\/p∈b)->Q v d)->r x y H Q
theorem ua(o:cW K k r pr)(ha:bu K k ta pa)(M:bu K k tb pb):bu K k (mX r ta tb) (p2 pr pa pb):=λF B H j i Q E c p q=>by
 refine ha F B H j i _ _ c p λx v f A I p1 d=>?_
 refine M f B A j i _ _ (c.gr d.g) p1 λy u l C J p2 a=>?_
 refine o l B C v u x y I J Q E a.g.s (λk=>((c.b k).trans d.g.h).trans a.g.h) (λh=>a.g.fz (d.g.fz (c.z h))) (d.r.mo a.g.le (λk=>Le.refl (B k)) x) a.r (d.c.gr a.g) a.c (λp N q O e=>by have:=d.c.h p N;rw[e,a.n q O] at this;cases this) p2 λt v' w D L U g Y G n=>?_
 refine q t v' w D L U ⟨(d.g.trans' a.g).trans' g,Y,G,λp m=>?_⟩;rcases n p m with z |z |z
 .exact (d.g.h.trans a.g.h).free z
 .exact d.n p z
 .exact d.g.h.free (a.n p z)
def p1(b:Tr->(ar)->Prop)(a:aW):aW:=λj Q=>a j λx=>b x Q
def Ag(K:ao)(k:Md)(r:V->Hp->VK->Prop)(f:Tr->(ar)->Prop):Prop:=∀(F:Hp)(B:Bool->Hp)(H:Hp)(x:V)(tx:Tr)(d:Cs)(Q:VK)(e:ar),aA F H->(∀k,aA (B k) H)->(k.z=true->Fz S0 F)->R K F B tx x d->au F H d->f tx e->
 (∀t v a b c,e t->Gr F H a b->R K a B t v c->au a b c->(∀p∈c,H p.1=none\/p∈d)->Q v b)->r x H Q
theorem V8(o:Ag K k r pr)(ha:bu K k ta pa):bu K k (H9 r ta) (p1 pr pa):=λF B H j y Q l c p q=>by
 refine ha F B H j y _ _ c p λx v d f w p1 a=>?_
 refine o d B f v x w Q l a.g.s (λk=>(c.b k).trans a.g.h) (λh=>a.g.fz (c.z h)) a.r a.c p1 λt E e i A C g D u n=>?_
 refine q t E e i A C ⟨a.g.trans' g,D,u,λp m=>?_⟩;rcases n p m with z |z
 .exact a.g.h.free z
 .exact a.n p z
def gD:cM:=λ_ Q=>Q []
def gT(pe:aW)(a:cM):cM:=λj Q=>pe j λx=>a j λb=>Q (x::b)
theorem F8:fK K k ic gD:=λF B H j y Q a c p q=>q [] [] F H [] p ⟨Gr.aH c.s,⟨rfl,rfl⟩,.nil,.nil⟩
theorem RU(h:bu K k te pe)(ha:fK K k ta pa):fK K k (ib te ta) (gT pe pa):=λF B H j y Q A c p q=>by
 refine h F B H j y _ _ c p λx v i o d p1 a=>?_
 refine ha i B o j y _ _ (c.gr a.g) p1 λz vs l s f p2 b=>?_
 refine q (x::z) (v::vs) l s (d++f) p2 ⟨a.g.trans' b.g,⟨v,vs,d,f,rfl,rfl,a.r.mo b.g.le (λk=>Le.refl (B k)) x,b.r⟩,(a.c.gr b.g).app b.c λp u q w e=>?_,λp m=>?_⟩
 .have:=a.c.h p u;rw[e,b.n q w] at this;cases this
 .rcases mem_append.mp m with m |m
  .exact a.n p m
  .exact a.g.h.free (b.n p m)
theorem Rs.length:∀{t:ai}{v:ax}{cs:Cs},Rs K F B t v cs->v.length=t.length
 |[],_,_,y=>by let⟨h,_⟩:=y;rw[h];rfl
 |x::xs,_,_,y=>by let⟨v,r,c,d,a,e,f,b⟩:=y;rw[a,length_cons,length_cons,Rs.length b]
theorem Rs.at:∀{t:ai}{v:ax}{cs:Cs}{i:Nat}{x:Tr},Rs K F B t v cs->t[i]?=some x->∃u c,v[i]?=some u/\R K F B x u c/\∀p∈c,p∈cs
 |x::xs,_,_,0,y,y0,h=>by
  let⟨v,r,c,d,a,b,f,g⟩:=y0;cases h;exact⟨v,c,by rw[a];rfl,f,λp m=>by rw[b];exact mem_append.mpr (.inl m)⟩
 |x::xs,_,_,i + 1,y,y0,h=>by
  ∎;let⟨v,r,c,d,a,b,f,g⟩:=y0;let⟨u,e,j,k,l⟩:=Rs.at (i:=i) g h;∎;exact⟨u,e,by rw[a];exact j,k,λp m=>by rw[b];exact mem_append.mpr (.inr (l p m))⟩
theorem Rs.at':∀{t:ai}{v:ax}{cs:Cs}{i:Nat}{x:Tr},Rs K F B t v cs->au F H cs->t[i]?=some x->∃u c,v[i]?=some u/\R K F B x u c/\au F H c/\∀p∈c,p∈cs
 |x::xs,_,_,0,y,y0,hc,h=>by
  let⟨v,r,c,d,b,a,f,g⟩:=y0;cases h;rw[a] at hc;exact⟨v,c,by rw[b];rfl,f,hc.left,λp m=>by rw[a];exact mem_append.mpr (.inl m)⟩
 |x::xs,_,_,i + 1,y,y0,hc,h=>by
  let⟨v,r,c,d,b,a,f,g⟩:=y0;rw[a] at hc;let⟨u,e,j,k,l,n⟩:=Rs.at' (i:=i) g hc.right h;exact⟨u,e,by rw[b];exact j,k,l,λp m=>by rw[a];exact mem_append.mpr (.inr (n p m))⟩
theorem Rk.keys:∀{t:eJ}{v:iM}{cs:Cs},Rk K F B t v cs->v.map (·.1)=t.map (·.1)
 |[],_,_,y=>by let⟨h,_⟩:=y;rw[h];rfl
 |(k,x)::xs,_,_,y=>by let⟨v,r,c,d,a,e,f,b⟩:=y;rw[a,map_cons,map_cons,Rk.keys b]
theorem Rk.length(h:Rk K F B t v cs):v.length=t.length:=by have:=congrArg List.length h.keys;simpa using this
def look(m:eJ)(k:bD):Option Tr:=(m.find? λp=>decide (p.1=k)).map (·.2)
theorem Rk.look:∀{t:eJ}{v:iM}{cs:Cs}(k:bD),Rk K F B t v cs->au F H cs->(look t k=none/\gE v k=none)\/∃x u c,look t k=some x/\gE v k=some u/\R K F B x u c/\au F H c/\∀p∈c,p∈cs
 |[],_,_,k,y,_=>by let⟨h,_⟩:=y;exact .inl ⟨rfl,by rw[h];rfl⟩
 |(k',x)::xs,_,_,k,y,hc=>by
  let⟨v,r,c,d,b,a,q,s⟩:=y;rw[a] at hc;by_cases e:k'=k
  .refine .inr ⟨x,v,c,?_,?_,q,hc.left,λp m=>by rw[a];exact mem_append.mpr (.inl m)⟩
   .unfold Pu.look;rw[List.find?_cons_of_pos (by simpa using e)];rfl
   .unfold gE;rw[b,List.find?_cons_of_pos (by simpa using e)];rfl
  .have e1:Pu.look ((k',x)::xs) k=Pu.look xs k:=by unfold Pu.look;rw[List.find?_cons_of_neg (by simpa using e)]
   have o:gE ((k',v)::r) k=gE r k:=by unfold gE;rw[List.find?_cons_of_neg (by simpa using e)]
   rw[b,e1,o];rcases Rk.look (t:=xs) (v:=r) (cs:=d) k s hc.right with z |⟨y,u,n,f,g,i,j,l⟩
   .exact .inl z
   .exact .inr ⟨y,u,n,f,g,i,j,λp m=>by rw[a];exact mem_append.mpr (.inr (l p m))⟩
theorem R.cj(s:aA F H)(b:∀k,aA (B k) H)(r:R K F B (.ak f xs) v cs)(c:au F H cs):∃a vs e,v=.ref a/\bM K H a vs/\Rs K F B xs vs e/\au F H e/\∀p∈e,p∈cs:=by
 cases f with
 |f=>let⟨z,a,vs,g,d,i⟩:=r;exact⟨a,vs,[],g,s.seq d,i,.nil,λ_ m=>nomatch m⟩
 |l k=>let⟨z,a,vs,g,d,i⟩:=r;exact⟨a,vs,[],g,(b k).seq d,i,.nil,λ_ m=>nomatch m⟩
 |o=>
  let⟨a,vs,e,g,d,i⟩:=r;rw[d] at c;exact⟨a,vs,e,g,bM.of (c.h _ (.head _)),i,au.right (c:=[_]) c,λp m=>by rw[d];exact .tail _ m⟩
theorem R.cQ(s:aA F H)(r:R K F B (.aY xs) v cs):∃a vs,v=.ref a/\cZ K H a vs/\Rs K F B xs vs cs:=by
 let⟨a,vs,b,c,d⟩:=r;exact⟨a,vs,b,s.aY c,d⟩
theorem R.ko(s:aA F H)(b:∀k,aA (B k) H)(r:R K F B (.bJ f xs) v cs)(c:au F H cs):∃a vs e,v=.ref a/\Rd H a (.dK vs)/\Rk K F B xs vs e/\au F H e/\∀p∈e,p∈cs:=by
 cases f with
 |f=>let⟨z,a,vs,g,d,i,_⟩:=r;exact⟨a,vs,[],g,s.rd d,i,.nil,λ_ m=>nomatch m⟩
 |l k=>let⟨z,a,vs,g,d,i,_⟩:=r;exact⟨a,vs,[],g,(b k).rd d,i,.nil,λ_ m=>nomatch m⟩
 |o=>
  let⟨a,vs,e,g,d,i,_⟩:=r;rw[d] at c;exact⟨a,vs,e,g,Rd.of (c.h _ (.head _)),i,au.right (c:=[_]) c,λp m=>by rw[d];exact .tail _ m⟩
theorem R.kr(s:aA F H)(b:∀k,aA (B k) H)(r:R K F B (.ins f C xs) v cs)(c:au F H cs):∃a d vs g,v=.ref a/\Rd H a (.ins C d vs)/\Rf K F B xs vs g/\au F H g/\∀p∈g,p∈cs:=by
 cases f with
 |f=>let⟨z,a,d,vs,i,e,j⟩:=r;exact⟨a,d,vs,[],i,s.rd e,j,.nil,λ_ m=>nomatch m⟩
 |l k=>let⟨z,a,d,vs,i,e,j⟩:=r;exact⟨a,d,vs,[],i,(b k).rd e,j,.nil,λ_ m=>nomatch m⟩
 |o=>
  let⟨a,d,vs,g,i,e,j⟩:=r;rw[e] at c;exact⟨a,d,vs,g,i,Rd.of (c.h _ (.head _)),j,au.right (c:=[_]) c,λp m=>by rw[e];exact .tail _ m⟩
theorem yq(s:aA F H)(r:Rs K F B xs vs cs)(c:au F H cs)(b:H p=none):∃a,Gr F H a (a6 H p (.aY vs))/\R K a B (.aY xs) (.ref p) cs/\au a (a6 H p (.aY vs)) cs:=by
 let⟨a,g,e⟩:=xb (o:=.aY vs) s (by intro _ _ z;cases z) b;exact⟨a,g,⟨p,vs,rfl,cZ.of e,r.mo g.le (λk=>Le.refl (B k)) xs⟩,c.gr g⟩
theorem Gr.i8(s:aA F H)(b:H p=none):Gr F H F (a6 H p o):=⟨⟨aA.a6 b,aA.refl F,s.mZ (s.free b),λa u h e=>by rw[h] at e;cases e⟩,Fz.refl F⟩
theorem yr(s:aA F H)(c:au F H cs)(a:H p=none):au F (a6 H p o) ((p,o)::cs):=
 ⟨λq m=>by
  cases m with
  |head=>exact e7
  |tail _ m=>show a6 H p o q.1=_;rw[bR (hZ (c.h q m) a)];exact c.h q m,
 λq m=>by
  cases m with
  |head=>exact s.free a
  |tail _ m=>exact c.f q m,
 by
  rw[map_cons,nodup_cons];refine⟨λm=>?_,c.nd⟩;let⟨q,b,e⟩:=mem_map.mp m;have e:q.1=p:=e;have:=c.h q b;rw[e,a] at this;cases this⟩
def wH(b:cM):aW:=λj Q=>b j λa=>a.length<=10000/\Q (.aY a)
def wJ(b:cM):aW:=λj Q=>b j λa=>a.length<=10000/\Q (.ak .o a)
theorem lA(h:n<=1000000):n<=sizeLine:=le_trans h ∎
theorem UH(h:fK K k ta pa):bu K k (CP ta) (wH pa):=λF B H j y Q o c p q=>by
 refine h F B H j y _ _ c p λi vs l m e p1 b=>⟨by rw[b.r.length];exact lA (le_trans p1.1 ∎),λa ha=>?_⟩
 let⟨d,g,r,f⟩:=yq b.g.s b.r b.c ha;exact q (.aY i) (.ref a) d _ e p1.2 ⟨b.g.trans' g,r,f,b.n⟩
theorem UI(h:fK K k ta pa):bu K k (CQ ta) (wJ pa):=λF B H j y Q l c p q=>by
 refine h F B H j y _ _ c p λf vs e i d p1 b=>⟨by rw[b.r.length];exact lA (le_trans p1.1 ∎),λa ha=>?_⟩
 refine q (.ak .o f) (.ref a) e _ ((a,.ak vs)::d) p1.2 ⟨b.g.trans' (Gr.i8 b.g.s ha),⟨a,vs,d,rfl,rfl,b.r⟩,yr b.g.s b.c ha,λp m=>?_⟩;cases m with
 |head=>exact b.g.h.free ha
 |tail _ m=>exact b.n p m
end
end Pu
namespace Pu
open PySem PySem.Spec PyProof.Rows L2 Vc Sf
section
def C3:R2:=λx y H Q=>∃a v,x=.ref a/\nC H a y (some v)/\Q v H
theorem UJ(l:X.A.units+1<cLine):iJ X C3:=by
 intro value c aa s j H x y v u Q I m n h k;let⟨a,z,rfl,g,q⟩:=h;obtain rfl:v=Value.ref a:=m;have f:=Nl I g;unfold subscriptTail;refine wpAny_bind ?_;rw[getitemInPython_of_ne f.not_modules];refine wpAny_bind (wpAny_specialOf f PySem.F.slot_dict_getitem.lookup ?_);have b:wpAny (model X.prog X.w) X.A (subscripted c false (.ref a) u) (λr d=>wpAny (model X.prog X.w) X.A (letTemporaryGo value (.ref a) r >>= λ_=>pure r) (EP X aa j Q) X.xe d) X.xe s:=by
  rw[k];exact wpAny_operating (OT l I g n λp o i e=>wpAny_bind (wpAny_letTemporaryGo (wpAny_pure ⟨z,H,i,e,q⟩)))
 first
  |exact wpAny_pure (wpAny_bind b)
  |exact wpAny_bind (wpAny_pure (wpAny_bind b))
  |exact wpAny_bind b
def pJ(neg:Bool):R2:=λy x H Q=>∃a o,x=.ref a/\nC H a y o/\Q (.bl (if neg then !o.isSome else o.isSome)) H
theorem V9(c:X.A.units+1<cLine):bZ X (compareOp .In) (pJ false):=by
 intro aa s j H y x u v Q I e d h;let⟨a,o,rfl,g,q⟩:=h;obtain rfl:v=Value.ref a:=d;exact Yc c I g e λf b=>⟨.bl o.isSome,H,b,rfl,q⟩
theorem O4(c:X.A.units+1<cLine):bZ X (compareOp .NotIn) (pJ true):=by
 intro aa s j H y x u v Q I e d h;let⟨a,o,rfl,g,q⟩:=h;obtain rfl:v=Value.ref a:=d;exact T6 c I g e λf b=>⟨.bl (!o.isSome),H,b,rfl,q⟩
def BW(K:ao):R2:=λx y H Q=>gq (λi j=>.int (i+j)) x y H Q\/(λx y H Q=>(λx y H Q=>∃i j,x=.str i/\y=.str j/\i.length+j.length<=sizeLine/\Q (.str (i++j)) H) x y H Q\/Cb K x y H Q) x y H Q
theorem YB:bZ X (binaryOp .Add) (BW X.K):=Ko.or (Kf.or Tv)
def C4(K:ao):R2:=λx y H Q=>HC K x y H Q\/C3 x y H Q
theorem Yd(a:X.A.units+1<cLine):iJ X (C4 X.K):=Kr.or (UJ a)
def C5:R2:=λx y H Q=>gq (λi j=>.bl (decide (i<j))) x y H Q\/(λx y H Q=>∃i j,x=.str i/\y=.str j/\Q (.bl (decide (i.cps.toList<j.cps.toList))) H) x y H Q
theorem iZ:bZ X (compareOp .Lt) C5:=Kw.or OO
def C6:R2:=λx y H Q=>gq (λi j=>.bl (decide (j<i))) x y H Q\/(λx y H Q=>∃i j,x=.str i/\y=.str j/\Q (.bl (decide (j.cps.toList<i.cps.toList))) H) x y H Q
theorem kn:bZ X (compareOp .Gt) C6:=Kx.or PF
end
section
variable{K:ao}{F F' H H':Hp}{B B':Bool->Hp}{k:Md}
def gf(C:Int->Int->Prop)(g:Int->Int->Tr)(x y:Tr)(Q:ar):Prop:=match x,y with
 |.int i,.int j=>C i j /\ Q (g i j)
 |_,_=>False
theorem zl{g:Int->Int->V}{t:Int->Int->Tr}(h:∀i j F B,R K F B (t i j) (g i j) []):cW K k (rI C g) (gf C t):=λF B H x y tx ty e f Q d s b z a c l n hd p q=>by
 unfold gf at p;split at p
 .obtain⟨rfl,_⟩:=a;let⟨rfl,_⟩:=c;exact⟨_,_,rfl,rfl,p.1,q _ _ F H [] p.2 (Gr.aH s) (h _ _ F B) .nil λ_ m=>nomatch m⟩
 .exact p.elim
theorem yI{g:Int->Int->V}{t:Int->Int->Tr}(h:∀i j F B,R K F B (t i j) (g i j) []):cW K k (gq g) (gf (λ_ _=>True) t):=λF B H x y tx ty e f Q d s b z a c l n hd p q=>by
 unfold gf at p;split at p
 .obtain⟨rfl,_⟩:=a;let⟨rfl,_⟩:=c;exact⟨_,_,rfl,rfl,q _ _ F H [] p.2 (Gr.aH s) (h _ _ F B) .nil λ_ m=>nomatch m⟩
 .exact p.elim
def l5(x y:Tr)(Q:ar):Prop:=match x,y with
 |.int i,.int j=>Q (.int (i + j))
 |.str i,.str j=>i.length + j.length <= 1000000 /\ Q (.str (i ++ j))
 |.ak _ xs,.ak _ ys=>xs.length + ys.length <= 1000000 /\ Q (.ak .o (xs ++ ys))
 |_,_=>False
theorem Rs.append:∀{xs e:ai}{vs us:ax}{c d:Cs},Rs K F B xs vs c->Rs K F B e us d->Rs K F B (xs++e) (vs++us) (c++d)
 |[],_,_,_,_,_,y,h=>by let⟨a,b⟩:=y;rw[a,b];exact h
 |x::xs,_,_,_,_,_,y,h=>by let⟨v,r,c,d,a,b,f,g⟩:=y;rw[a,b];exact⟨v,r ++ _,c,d ++ _,rfl,by rw[append_assoc],f,Rs.append g h⟩
theorem nI(s:aA F H)(r:Rs K F B xs vs cs)(c:au F H cs)(a:H p=none):Gr F H F (a6 H p (.ak vs))/\R K F B (.ak .o xs) (.ref p) ((p,.ak vs)::cs)/\au F (a6 H p (.ak vs)) ((p,.ak vs)::cs):=
 ⟨Gr.i8 s a,⟨p,vs,cs,rfl,rfl,r⟩,yr s c a⟩
theorem UK:cW K k (BW K) l5:=λF B H x y tx ty D E Q A s b z c d j n hd p q=>by
 unfold l5 at p;split at p
 .obtain⟨rfl,_⟩:=c;let⟨rfl,_⟩:=d;exact .inl ⟨_,_,rfl,rfl,q _ _ F H [] p (Gr.aH s) ⟨rfl,rfl⟩ .nil λ_ m=>nomatch m⟩
 .obtain⟨rfl,_⟩:=c;let⟨rfl,_⟩:=d;exact .inr (.inl ⟨_,_,rfl,rfl,lA p.1,q _ _ F H [] p.2 (Gr.aH s) ⟨rfl,rfl⟩ .nil λ_ m=>nomatch m⟩)
 .obtain⟨a,vs,ds,rfl,h1,h2,h3,h4⟩:=c.cj s b j;let⟨C,us,G,rfl,h,e,i,f⟩:=d.cj s b n;refine .inr (.inr ⟨_,_,_,_,rfl,rfl,h1,h,lA (by rw[h2.length,e.length];exact p.1),λl g=>?_⟩);let⟨u,v,w⟩:=nI s (h2.append e) (h3.app i λp o q r=>hd p (h4 p o) q (f q r)) g;refine q _ _ F _ _ p.2 u v w λp m=>?_
  cases m with
  |head=>exact .inl g
  |tail _ m=>exact (mem_append.mp m).elim (λm=>.inr (.inl (h4 p m))) (λm=>.inr (.inr (f p m)))
 .exact p.elim
def wK:Tr->Option bD
 |.int n=>some (.inl n)
 |.str x=>some (.inr x)
 |_=>none
theorem GQ(r:R K F B t v cs)(h:wK t=some y):v=kV y:=by
 cases t with
 |int n=>cases h;exact r.1
 |str n=>cases h;exact r.1
 |_=>cases h
def jY(x y:Tr)(Q:ar):Prop:=match x,y with
 |.aY xs,.int i=>(match cN xs i with |some t=>Q t |none=>False)
 |.ak _ xs,.int i=>(match cN xs i with |some t=>Q t |none=>False)
 |.str x,.int i=>x.length <= 1000000 /\ (match cN x.cps.toList i with |some c=>Q (.str ⟨#[c]⟩) |none=>False)
 |.bJ _ m,y=>(match wK y with |some y=>(match look m y with |some t=>Q t |none=>False) |none=>False)
 |_,_=>False
theorem Rs.cN(r:Rs K F B xs vs cs)(c:au F H cs)(h:L2.cN xs i=some t):∃u d,L2.cN vs i=some u/\R K F B t u d/\au F H d/\∀p∈d,p∈cs:=by
 unfold L2.cN at h ⊢;rw[r.length];cases e:gp xs.length i with
 |none=>rw[e] at h;cases h
 |some j=>rw[e] at h;exact r.at' c h
theorem UL:cW K k (C4 K) jY:=λF B H x y tx ty M N Q L s b z h i w O hd p q=>by
 unfold jY at p;split at p
 .obtain⟨rfl,_⟩:=i;split at p
  .rename_i e;∎;let⟨a,vs,rfl,f,g⟩:=h.cQ s;let⟨u,d,j,l,n,o⟩:=g.cN w e;∎;exact .inl (.inr (.inl ⟨_,_,_,_,rfl,rfl,f,j,q _ _ F H d p (Gr.aH s) l n λp m=>.inr (.inl (o p m))⟩))
  .exact p.elim
 .obtain⟨rfl,_⟩:=i;split at p
  .rename_i e;∎;let⟨a,vs,I,rfl,f,g,r,v⟩:=h.cj s b w;let⟨u,d,j,l,n,o⟩:=g.cN r e;∎;exact .inl (.inl ⟨_,_,_,_,rfl,rfl,f,j,q _ _ F H d p (Gr.aH s) l n λp m=>.inr (.inl (v p (o p m)))⟩)
  .exact p.elim
 .obtain⟨rfl,_⟩:=i;let⟨rfl,_⟩:=h;let⟨J,p⟩:=p;split at p
  .rename_i e;exact .inl (.inr (.inr ⟨_,_,_,rfl,rfl,lA J,e,q _ _ F H [] p (Gr.aH s) ⟨rfl,rfl⟩ .nil λ_ m=>nomatch m⟩))
  .exact p.elim
 .split at p
  .rename_i e;split at p
   .rename_i e';let⟨a,vs,I,rfl,f,g,r,v⟩:=h.ko s b w;obtain rfl:=GQ i e;rcases g.look _ r with⟨z,_⟩ |⟨x,u,c,A,C,D,E,G⟩
    .rw[z] at e';cases e'
    .rw[A] at e';cases e';exact .inr ⟨a,u,rfl,.inl ⟨vs,_,f,rfl,C.symm⟩,q _ _ F H c p (Gr.aH s) D E λp m=>.inr (.inl (v p (G p m)))⟩
   .exact p.elim
  .exact p.elim
 .exact p.elim
def u3(x y:Tr)(Q:ar):Prop:=match x,y with
 |.int i,.int j=>Q (.bl (decide (i < j)))
 |.str i,.str j=>Q (.bl (decide (i.cps.toList < j.cps.toList)))
 |_,_=>False
theorem iT:cW K k C5 u3:=λF B H x y tx ty e f Q d s b z a c g h hd p q=>by
 unfold u3 at p;split at p
 .obtain⟨rfl,_⟩:=a;let⟨rfl,_⟩:=c;exact .inl ⟨_,_,rfl,rfl,q _ _ F H [] p (Gr.aH s) ⟨rfl,rfl⟩ .nil λ_ m=>nomatch m⟩
 .obtain⟨rfl,_⟩:=a;let⟨rfl,_⟩:=c;exact .inr ⟨_,_,rfl,rfl,q _ _ F H [] p (Gr.aH s) ⟨rfl,rfl⟩ .nil λ_ m=>nomatch m⟩
 .exact p.elim
def Af(x y:Tr)(Q:ar):Prop:=match x,y with
 |.int i,.int j=>Q (.bl (decide (j < i)))
 |.str i,.str j=>Q (.bl (decide (j.cps.toList < i.cps.toList)))
 |_,_=>False
theorem ke:cW K k C6 Af:=λF B H x y tx ty e f Q d s b z a c g h hd p q=>by
 unfold Af at p;split at p
 .obtain⟨rfl,_⟩:=a;let⟨rfl,_⟩:=c;exact .inl ⟨_,_,rfl,rfl,q _ _ F H [] p (Gr.aH s) ⟨rfl,rfl⟩ .nil λ_ m=>nomatch m⟩
 .obtain⟨rfl,_⟩:=a;let⟨rfl,_⟩:=c;exact .inr ⟨_,_,rfl,rfl,q _ _ F H [] p (Gr.aH s) ⟨rfl,rfl⟩ .nil λ_ m=>nomatch m⟩
 .exact p.elim
theorem k8:cW K k (gq λi j=>.bl (decide (i<=j))) (gf (λ_ _=>True) λi j=>.bl (decide (i<=j))):=yI λ_ _ _ _=>⟨rfl,rfl⟩
theorem GR:cW K k (gq λi j=>.bl (decide (j<=i))) (gf (λ_ _=>True) λi j=>.bl (decide (j<=i))):=yI λ_ _ _ _=>⟨rfl,rfl⟩
theorem UM:cW K k (gq λi j=>.int (i - j)) (gf (λ_ _=>True) λi j=>.int (i - j)):=yI λ_ _ _ _=>⟨rfl,rfl⟩
theorem RV:cW K k (rI dI λi j=>.int (i.fdiv j)) (gf dI λi j=>.int (i.fdiv j)):=zl λ_ _ _ _=>⟨rfl,rfl⟩
theorem UN:cW K k (rI (λ_ j=>0<j) λi j=>.int (i % j)) (gf (λ_ j=>0<j) λi j=>.int (i % j)):=zl λ_ _ _ _=>⟨rfl,rfl⟩
def pK(x:Tr)(Q:ar):Prop:=match x with
 |.int i=>Q (.int (-i))
 |_=>False
theorem UO:Ag K k (L2.rU λi=>.int (-i)) pK:=λF B H x tx d Q c s b z a e p q=>by
 unfold pK at p;split at p
 .obtain⟨rfl,_⟩:=a;exact⟨_,rfl,q _ _ F H [] p (Gr.aH s) ⟨rfl,rfl⟩ .nil λ_ m=>nomatch m⟩
 .exact p.elim
def vG:Tr->Option V
 |.int n=>some (.int n) |.bl b=>some (.bl b) |.str x=>some (.str x) |.aX=>some .aX |_=>none
theorem ub(r:R K F B t v cs)(h:vG t=some u):v=u:=by
 cases t with
 |int n=>cases h;exact r.1
 |bl n=>cases h;exact r.1
 |str n=>cases h;exact r.1
 |aX=>cases h;exact r.1
 |_=>cases h
def pL(neg:Bool)(x y:Tr)(Q:ar):Prop:=match vG x,vG y with
 |some u,some v=>wD u v=true /\ Q (.bl (if neg then !decide (u=v) else decide (u=v)))
 |_,_=>False
theorem UP:cW K k uU (pL false):=λF B H x y tx ty e f Q d s b z a c g h hd p q=>by
 unfold pL at p;split at p
 .rename_i e1 e2;obtain rfl:=ub a e1;obtain rfl:=ub c e2;exact⟨p.1,q _ _ F H [] p.2 (Gr.aH s) ⟨rfl,rfl⟩ .nil λ_ m=>nomatch m⟩
 .exact p.elim
theorem UQ:cW K k z7 (pL true):=λF B H x y tx ty e f Q d s b z a c g h hd p q=>by
 unfold pL at p;split at p
 .rename_i e1 e2;obtain rfl:=ub a e1;obtain rfl:=ub c e2;exact⟨p.1,q _ _ F H [] p.2 (Gr.aH s) ⟨rfl,rfl⟩ .nil λ_ m=>nomatch m⟩
 .exact p.elim
def cU(x:Tr)(Q:Bool->Prop):Prop:=match x with
 |.bl b=>Q b
 |_=>False
def pT(pe:aW):di:=λj Q=>pe j λx=>cU x Q
theorem GU(h:bu K k te pe):fb K k (tB te) (pT pe):=λF B H j y Q e c p q=>by
 refine h F B H j y _ _ c p λt v b d f p1 a=>?_
 unfold cU at p1;split at p1
 .obtain⟨rfl,_⟩:=a.r;exact⟨_,rfl,q _ b d p1 a.g⟩
 .exact p1.elim
theorem Eh(h:bu K k te pe):fb K k (vE te) (pT pe):=GU h
def sA(a b:di):di:=λj Q=>a j λc=>if c=true then b j Q else Q false
def zS(a b:di):di:=λj Q=>a j λc=>if c=true then Q true else b j Q
def wL(pa:di):di:=λj Q=>pa j λc=>Q (!c)
theorem UR(ha:fb K k ta pa)(i:fb K k tb pb):fb K k (Dg ta tb) (sA pa pb):=λF B H j y Q l c p q=>by
 refine ha F B H j y _ _ c p λb d e p1 a=>?_
 cases b with
 |true=>rw[if_pos rfl];exact i d B e j y _ _ (c.gr a) p1 λb f g p2 h=>q b f g p2 (a.trans' h)
 |false=>exact q false d e p1 a
theorem Wa(ha:fb K k ta pa)(i:fb K k tb pb):fb K k (HZ ta tb) (zS pa pb):=λF B H j y Q l c p q=>by
 refine ha F B H j y _ _ c p λb d e p1 a=>?_
 cases b with
 |false=>exact i d B e j y _ _ (c.gr a) p1 λb f g p2 h=>q b f g p2 (a.trans' h)
 |true=>exact q true d e p1 a
theorem US(ha:fb K k ta pa):fb K k (Dh ta) (wL pa):=λF B H j y Q f c p q=>ha F B H j y _ _ c p λb a d p1 e=>q (!b) a d p1 e
def jV(a b:aW):aW:=λj Q=>a j λx=>cU x λc=>if c=true then b j Q else Q (.bl false)
def wM(a b:aW):aW:=λj Q=>a j λx=>cU x λc=>if c=true then Q (.bl true) else b j Q
def vS(pa:aW):aW:=λj Q=>pa j λx=>cU x λc=>Q (.bl (!c))
theorem Out.bl(g:Gr F H F1 H1):Out K F B H F1 H1 (.bl b) (.bl b) []:=⟨g,⟨rfl,rfl⟩,.nil,.nil⟩
theorem Out.tr(g:Gr F H F1 H1)(o:Out K F1 B H1 F2 H2 t v cs):Out K F B H F2 H2 t v cs:=⟨g.trans' o.g,o.r,o.c,o.n.back g.h⟩
theorem RW(ha:bu K k ta pa)(l:bu K k tb pb):bu K k (BY ta tb) (jV pa pb):=λF B H j y Q n c p q=>by
 refine ha F B H j y _ _ c p λt v d e o p1 a=>?_
 unfold cU at p1;split at p1
 .rename_i b;let⟨rfl,_⟩:=a.r;refine⟨b,rfl,?_⟩;cases b with
  |true=>exact l d B e j y _ _ (c.gr a.g) p1 λt v f h i p2 m=>q t v f h i p2 (.tr a.g m)
  |false=>exact q _ _ d e [] p1 (.bl a.g)
 .exact p1.elim
theorem UT(ha:bu K k ta pa)(l:bu K k tb pb):bu K k (Di ta tb) (wM pa pb):=λF B H j y Q n c p q=>by
 refine ha F B H j y _ _ c p λt v d e o p1 a=>?_
 unfold cU at p1;split at p1
 .rename_i b;let⟨rfl,_⟩:=a.r;refine⟨b,rfl,?_⟩;cases b with
  |false=>exact l d B e j y _ _ (c.gr a.g) p1 λt v f h i p2 m=>q t v f h i p2 (.tr a.g m)
  |true=>exact q _ _ d e [] p1 (.bl a.g)
 .exact p1.elim
theorem RX(ha:bu K k ta pa):bu K k (BZ ta) (vS pa):=λF B H j y Q e c p q=>by
 refine ha F B H j y _ _ c p λt v b d f p1 a=>?_
 unfold cU at p1;split at p1
 .obtain⟨rfl,_⟩:=a.r;exact⟨_,rfl,q _ _ b d [] p1 (.bl a.g)⟩
 .exact p1.elim
def zR(d:di)(a b:aW):aW:=λj Q=>d j λc=>if c=true then a j Q else b j Q
theorem UU(m:fb K k tc pc)(ha:bu K k ta pa)(l:bu K k tb pb):bu K k (HY tc ta tb) (zR pc pa pb):=λF B H j y Q n c p q=>by
 refine m F B H j y _ _ c p λb h i p1 a=>?_
 cases b with
 |true=>rw[if_pos rfl] at p1 ⊢;exact ha h B i j y _ _ (c.gr a) p1 λt v d e f p2 g=>q t v d e f p2 (.tr a g)
 |false=>rw[if_neg ∎] at p1 ⊢;exact l h B i j y _ _ (c.gr a) p1 λt v d e f p2 g=>q t v d e f p2 (.tr a g)
end
end Pu
namespace Pu
open PySem L2 Vc Sf
section
mutual
theorem R.low:∀(t:Tr){v:V}{cs:Cs},b8 t=true->B false=B' false->R K F B t v cs->R K F B' t v cs
 |.int _,_,_,_,_,h=>h
 |.bl _,_,_,_,_,h=>h
 |.str _,_,_,_,_,h=>h
 |.aX,_,_,_,_,h=>h
 |.aL,_,_,_,_,h=>h
 |.ty _,_,_,_,_,h=>h
 |.cl _,_,_,_,_,h=>h
 |.exc _,_,_,_,_,h=>h
 |.aY xs,_,_,n,e,y=>by let⟨a,vs,b,c,d⟩:=y;exact⟨a,vs,b,c,Rs.low xs n e d⟩
 |.ak .f xs,_,_,n,e,y=>by let⟨z,a,vs,b,c,d⟩:=y;exact⟨z,a,vs,b,c,Rs.low xs n e d⟩
 |.ak (.l true) xs,_,_,n,_,_=>by cases n
 |.ak (.l false) xs,_,_,n,e,y=>by let⟨z,a,vs,b,c,d⟩:=y;exact⟨z,a,vs,b,by rw[<- e];exact c,Rs.low xs n e d⟩
 |.ak .o xs,_,_,n,e,y=>by let⟨a,vs,g,b,c,d⟩:=y;exact⟨a,vs,g,b,c,Rs.low xs n e d⟩
 |.bJ .f xs,_,_,n,e,y=>by let⟨z,a,vs,b,c,d,j⟩:=y;exact⟨z,a,vs,b,c,Rk.low xs n e d,j⟩
 |.bJ (.l true) xs,_,_,n,_,_=>by cases n
 |.bJ (.l false) xs,_,_,n,e,y=>by let⟨z,a,vs,b,c,d,j⟩:=y;exact⟨z,a,vs,b,by rw[<- e];exact c,Rk.low xs n e d,j⟩
 |.bJ .o xs,_,_,n,e,y=>by let⟨a,vs,g,b,c,d,j⟩:=y;exact⟨a,vs,g,b,c,Rk.low xs n e d,j⟩
 |.ins .f _ xs,_,_,n,e,y=>by let⟨z,a,i,vs,b,c,d⟩:=y;exact⟨z,a,i,vs,b,c,Rf.low xs n e d⟩
 |.ins (.l true) _ xs,_,_,n,_,_=>by cases n
 |.ins (.l false) _ xs,_,_,n,e,y=>by let⟨z,a,i,vs,b,c,d⟩:=y;exact⟨z,a,i,vs,b,by rw[<- e];exact c,Rf.low xs n e d⟩
 |.ins .o _ xs,_,_,n,e,y=>by let⟨a,i,vs,g,b,c,d⟩:=y;exact⟨a,i,vs,g,b,c,Rf.low xs n e d⟩
theorem Rs.low:∀(t:List Tr){v:List V}{cs:Cs},eQ t=true->B false=B' false->Rs K F B t v cs->Rs K F B' t v cs
 |[],_,_,_,_,h=>h
 |x::xs,_,_,n,e,y=>by
  let⟨v,r,c,d,a,b,f,g⟩:=y;rw[eQ,and_eq_true] at n;exact⟨v,r,c,d,a,b,R.low x n.1 e f,Rs.low xs n.2 e g⟩
theorem Rk.low:∀(t:List (bD×Tr)){v:List (bD×V)}{cs:Cs},ip t=true->B false=B' false->Rk K F B t v cs->Rk K F B' t v cs
 |[],_,_,_,_,h=>h
 |(_,x)::xs,_,_,n,e,y=>by
  let⟨v,r,c,d,a,b,f,g⟩:=y;rw[ip,and_eq_true] at n;exact⟨v,r,c,d,a,b,R.low x n.1 e f,Rk.low xs n.2 e g⟩
theorem Rf.low:∀(t:List (Str×Tr)){v:List (Str×V)}{cs:Cs},fi t=true->B false=B' false->Rf K F B t v cs->Rf K F B' t v cs
 |[],_,_,_,_,h=>h
 |(_,x)::xs,_,_,n,e,y=>by
  let⟨v,r,c,d,a,b,f,g⟩:=y;rw[fi,and_eq_true] at n;exact⟨v,r,c,d,a,b,R.low x n.1 e f,Rf.low xs n.2 e g⟩
end
mutual
/-- what is lent is lent to the callee -/
theorem R.dn(b:∀k,Le (B k) G):∀(t:Tr){v:V}{cs:Cs},R K F B t v cs->R K F (λ_=>G) (dn t) v cs
 |.int _,_,_,h=>h
 |.bl _,_,_,h=>h
 |.str _,_,_,h=>h
 |.aX,_,_,h=>h
 |.aL,_,_,h=>h
 |.ty _,_,_,h=>h
 |.cl _,_,_,h=>h
 |.exc _,_,_,h=>h
 |.aY xs,_,_,y=>by let⟨a,vs,c,d,e⟩:=y;exact⟨a,vs,c,d,Rs.dn b xs e⟩
 |.ak .f xs,_,_,y=>by let⟨z,a,vs,c,d,e⟩:=y;exact⟨z,a,vs,c,d,Rs.dn b xs e⟩
 |.ak (.l k) xs,_,_,y=>by let⟨z,a,vs,c,d,e⟩:=y;exact⟨z,a,vs,c,(b k).ak d,Rs.dn b xs e⟩
 |.ak .o xs,_,_,y=>by let⟨a,vs,g,c,d,e⟩:=y;exact⟨a,vs,g,c,d,Rs.dn b xs e⟩
 |.bJ .f xs,_,_,y=>by let⟨z,a,vs,c,d,e,j⟩:=y;exact⟨z,a,vs,c,d,Rk.dn b xs e,by rw[dS];exact j⟩
 |.bJ (.l k) xs,_,_,y=>by let⟨z,a,vs,c,d,e,j⟩:=y;exact⟨z,a,vs,c,(b k).bJ d,Rk.dn b xs e,by rw[dS];exact j⟩
 |.bJ .o xs,_,_,y=>by let⟨a,vs,g,c,d,e,j⟩:=y;exact⟨a,vs,g,c,d,Rk.dn b xs e,by rw[dS];exact j⟩
 |.ins .f _ xs,_,_,y=>by let⟨z,a,i,vs,c,d,e⟩:=y;exact⟨z,a,i,vs,c,d,Rf.dn b xs e⟩
 |.ins (.l k) _ xs,_,_,y=>by let⟨z,a,i,vs,c,d,e⟩:=y;exact⟨z,a,i,vs,c,b k _ _ (by intro _ _ z;cases z) d,Rf.dn b xs e⟩
 |.ins .o _ xs,_,_,y=>by let⟨a,i,vs,g,c,d,e⟩:=y;exact⟨a,i,vs,g,c,d,Rf.dn b xs e⟩
theorem Rs.dn(b:∀k,Le (B k) G):∀(t:List Tr){v:List V}{cs:Cs},Rs K F B t v cs->Rs K F (λ_=>G) (cq t) v cs
 |[],_,_,h=>h
 |x::xs,_,_,y=>by let⟨v,r,c,d,a,e,f,g⟩:=y;exact⟨v,r,c,d,a,e,R.dn b x f,Rs.dn b xs g⟩
theorem Rk.dn(b:∀k,Le (B k) G):∀(t:List (bD×Tr)){v:List (bD×V)}{cs:Cs},Rk K F B t v cs->Rk K F (λ_=>G) (kq t) v cs
 |[],_,_,h=>h
 |(_,x)::xs,_,_,y=>by let⟨v,r,c,d,a,e,f,g⟩:=y;exact⟨v,r,c,d,a,e,R.dn b x f,Rk.dn b xs g⟩
theorem Rf.dn(b:∀k,Le (B k) G):∀(t:List (Str×Tr)){v:List (Str×V)}{cs:Cs},Rf K F B t v cs->Rf K F (λ_=>G) (g9 t) v cs
 |[],_,_,h=>h
 |(_,x)::xs,_,_,y=>by let⟨v,r,c,d,a,e,f,g⟩:=y;exact⟨v,r,c,d,a,e,R.dn b x f,Rf.dn b xs g⟩
theorem dS:∀(xs:List (bD×Tr)),(kq xs).map (·.1)=xs.map (·.1)
 |[]=>rfl
 |(_,_)::xs=>by show _::_=_::_;rw[dS xs]
end
theorem mr:∀(xs:ai),(cq xs).length=xs.length
 |[]=>rfl
 |_::xs=>by show (cq xs).length + 1=_;rw[mr xs];rfl
end
structure a7(K:ao)(k:Md)(lo:Nat)(us:ax)(Fb Hb F H:Hp)(y:St)(u:ai)(cs:Nat->Cs):Prop where
 g:Gr Fb Hb F H
 z:k.z=true->Fz S0 F
 l:y.length=u.length
 e:∀(i:Nat)(t:Tr),u[i]?=some t->t=.aL\/∃v,y[i]?=some (some v)/\R K F (λ_=>Hb) t v (cs i)
 c:∀i,au F H (cs i)
 n:∀i,dh Hb (cs i)
 d:∀i j,i≠j->∀p∈cs i,∀q∈cs j,p.1≠q.1
 p:∀i,i<lo->y[i]?=(us[i]?).map some
 x:∀cls y' F' H',k.q cls->Gr Fb Hb F' H'->k.E y' cls none H'
section
def Bq(Hb H:Hp):Bool->Hp:=λb=>if b then H else Hb
theorem a7.eA(W:a7 K k lo us Fb Hb F H j y cs):gv K k F (Bq Hb H) H j (y.map aM) where
 s:=W.g.s
 b:=λb=>by
  cases b with
  |true=>exact aA.refl H
  |false=>exact W.g.h
 z:=W.z
 e:=λi t h=>by
  rw[getElem?_map] at h;cases q:y[i]? with
  |none=>rw[q] at h;cases h
  |some u=>
   rw[q] at h;cases h;rcases W.e i u q with rfl |⟨v,l,n⟩
   .exact .inl rfl
   .refine .inr ⟨v,l,n.aM (λb=>?_) u λp m=>(W.c i).h p m⟩;cases b with
    |true=>exact Le.of W.g.h
    |false=>exact Le.refl _
 x:=λa d f q g=>W.x a j d f q (W.g.trans' g)
theorem a7.gr(W:a7 K k lo us Fb Hb F H j y cs)(g:Gr F H F' H'):a7 K k lo us Fb Hb F' H' j y cs:=
 ⟨W.g.trans' g,λh=>g.fz (W.z h),W.l,λi t h=>(W.e i t h).imp id λ⟨v,h1,h2⟩=>⟨v,h1,h2.mo g.le (λ_=>Le.refl _) t⟩,λi=>(W.c i).gr g,W.n,W.d,W.p,W.x⟩
theorem a7.set{i:Nat}{t:Tr}{v:V}{c:Cs}(W:a7 K k lo us Fb Hb F H y G cs)(B:lo<=i)(r:R K F (λ_=>Hb) t v c)(A:au F H c)(n:dh Hb c)(d:∀j,j≠i->∀p∈cs j,∀q∈c,p.1≠q.1):
  a7 K k lo us Fb Hb F H (y.set i (some v)) (G.set i t) (λj=>if j=i then c else cs j) where
 g:=W.g
 z:=W.z
 l:=by rw[length_set,length_set];exact W.l
 e:=λj u h=>by
  by_cases e:j=i
  .subst e;have w:j<G.length:=by have:=(List.getElem?_eq_some_iff.mp h).1;rw[length_set] at this;exact this
   rw[getElem?_set_self w] at h;cases h;exact .inr ⟨v,getElem?_set_self (by rw[W.l];exact w),by rw[if_pos rfl];exact r⟩
  .rw[getElem?_set_ne (λz=>e z.symm)] at h;rw[if_neg e];exact (W.e j u h).imp id λ⟨v,h1,h2⟩=>⟨v,by rw[getElem?_set_ne (λz=>e z.symm)];exact h1,h2⟩
 c:=λj=>by
  split
  .exact A
  .exact W.c j
 n:=λj=>by
  split
  .exact n
  .exact W.n j
 d:=λa b ne p o q f=>by
  by_cases m:a=i
  .rw[if_pos m] at o;rw[if_neg (λz=>ne (m.trans z.symm))] at f;exact (d b (λz=>ne (m.trans z.symm)) q f p o).symm
  .rw[if_neg m] at o;by_cases s:b=i
   .rw[if_pos s] at f;exact d a m p o q f
   .rw[if_neg s] at f;exact W.d a b ne p o q f
 p:=λj h=>by rw[getElem?_set_ne ⋯];exact W.p j h
 x:=W.x
theorem a7.out{i:Nat}{t:Tr}{v:V}{c:Cs}(W:a7 K k lo us Fb Hb F H y u cs)(o:Out K F (Bq Hb H) H F' H' t v c)(a:lo<=i)(n:b8 t=true):
  a7 K k lo us Fb Hb F' H' (y.set i (some v)) (u.set i t) (λj=>if j=i then c else cs j):=
 (W.gr o.g).set a (o.r.low t n rfl) o.c (λp m=>W.g.h.free (o.n p m)) λj _ p b q d e=>by
  have:=(W.c j).h p b;rw[e,o.n q d] at this;cases this
end
structure Pd where
 nx:aG
 rt:Tr->aG
 bk:aG:=λ_=>False
 ct:aG:=λ_=>False
abbrev cc:=Pd->aG
structure Lk(K:ao)(k:Md)(lo:Nat)(us:ax)(Fb Hb:Hp)(D:Ends)(D':Pd):Prop where
 nx:∀F H j y cs,a7 K k lo us Fb Hb F H j y cs->D'.nx y->D.nx j H
 rt:∀F H j y cs v t c,a7 K k lo us Fb Hb F H j y cs->R K F (λ_=>Hb) t v c->au F H c->dh Hb c->(∀i,∀p∈cs i,∀q∈c,p.1≠q.1)->ck t=true->D'.rt t y->D.rt v H
 bk:∀F H j y cs,a7 K k lo us Fb Hb F H j y cs->D'.bk y->D.bk j H
 ct:∀F H j y cs,a7 K k lo us Fb Hb F H j y cs->D'.ct y->D.ct j H
def cK(K:ao)(k:Md)(lo:Nat)(e:TS)(ps:cc):Prop:=∀(us:ax)(b c F H:Hp)(j:St)(y:ai)(d:Nat->Cs)(D:Ends)(a:Pd),a7 K k lo us b c F H j y d->ps a y->Lk K k lo us b c D a->e D j H
section
def sC(p q:cc):cc:=λD j=>p { D with nx:=q D } j
def sh:cc:=λD j=>D.nx j
theorem UW(h:cK K k lo t p)(h':cK K k lo u q):cK K k lo (nB t u) (sC p q):=λus b c F H j y a D d W p L=>
 h us b c F H j y a _ _ W p ⟨λF H j y a W q=>h' us b c F H j y a D d W q L,L.rt,L.bk,L.ct⟩
theorem RY:cK K k lo B0 sh:=λus c d F H j y a D b W p L=>L.nx F H j y a W p
def wN(i:Nat)(pe:aW):cc:=λD j=>pe (j.map aM) λt=>b8 t=true/\D.nx (j.set i t)
theorem UX(e:lo<=i)(h:bu K k te pe):cK K k lo (jw te (jr i)) (wN i pe):=λus g d F H j y l D f W p L=>by
 refine h F (Bq d H) H j _ _ _ W.eA p λt v a b c q o=>?_
 exact L.nx a b _ _ _ (W.out o e q.1) q.2
def kS(pe:aW):cc:=λD j=>pe (j.map aM) λt=>ck t=true/\D.rt t j
theorem UY(h:bu K k te pe):cK K k lo (sx te) (kS pe):=λus w d F H j y f D u W p L=>by
 refine h F (Bq d H) H j _ _ _ W.eA p λt v a b c q o=>?_
 refine L.rt a b j y f v t c (W.gr o.g) (o.r.base t q.1) o.c (λp m=>W.g.h.free (o.n p m)) (λi p l q s e=>?_) q.1 q.2;have:=(W.c i).h p l;rw[e,o.n q s] at this;cases this
def sD(a:di)(p q:cc):cc:=λD j=>a (j.map aM) λb=>if b=true then p D j else q D j
theorem Wb(l:fb K k tc pc)(h:cK K k lo t p)(h':cK K k lo u q):cK K k lo (sy tc t u) (sD pc p q):=λus e a F H j y i D c W p L=>by
 refine l F (Bq a H) H j _ _ _ W.eA p λb d f q g=>?_
 cases b with
 |true=>exact h us e a d f j y i D c (W.gr g) q L
 |false=>exact h' us e a d f j y i D c (W.gr g) q L
def wO(e:di)(d:cc):cc:=λD j=>∃I:Nat->aG,(∃m,I m j)/\∀m j,I m j->e (j.map aM) λb=>if b=true then d { D with nx:=λc=>∃a,a<m/\I a c,ct:=λc=>∃a,a<m/\I a c,bk:=D.nx } j else D.nx j
theorem UZ(u:fb K k tc pc)(s:cK K k lo tb pb):cK K k lo (rW tc tb) (wO pc pb):=λus e d F H j y a D x W p L=>by
 let⟨I,⟨w,v⟩,step⟩:=p;refine⟨λm j H=>∃F y a,a7 K k lo us e d F H j y a/\I m y,⟨w,F,y,a,W,v⟩,?_⟩;rintro m j H ⟨F,y,a,W,i⟩;refine u F (Bq d H) H j _ _ _ W.eA (step m y i) λb f o q g=>?_
 cases b with
 |false=>exact L.nx f o j y a (W.gr g) q
 |true=>
  refine⟨λr n=>∃c,c<m/\∃F y a,a7 K k lo us e d F n r y a/\I c y,λr n h=>h,?_⟩;refine s us e d f o j y a _ _ (W.gr g) q ⟨?_,L.rt,?_,?_⟩
  .exact λF H j y a W ⟨c,l,i⟩=>⟨c,l,F,y,a,W,i⟩
  .exact L.nx
  .exact λF H j y a W ⟨c,l,i⟩=>⟨c,l,F,y,a,W,i⟩
end
abbrev cf:=ai->(Tr->aG)->Prop
abbrev dY:=ai->(Tr->aG)->(ag->Prop)->Prop
def cv(K:ao)(z:Bool)(lo n:Nat)(ps:dY):Sp:=λvs H Q E=>vs.length=n/\∃(F b:Hp)(h:ai)(j:Nat->Cs)(f:Tr->aG)(q:ag->Prop),a7 K ⟨z,λ_=>E,q⟩ lo vs F b F H (vs.map some) h j/\ps h f q/\
 ∀d e k g a v t c,a7 K ⟨z,λ_=>E,q⟩ lo vs F b d e k g a->R K d (λ_=>b) t v c->au d e c->dh b c->(∀i,∀p∈a i,∀q∈c,p.1≠q.1)->ck t=true->f t g->Q v e
def bx(K:ao)(z:Bool)(lo n:Nat)(ps:cf):Sp:=cv K z lo n λa Q _=>ps a Q
theorem a7.md(W:a7 K k lo us Fb Hb F H j y cs)(hz:k'.z=true->k.z=true)(x:∀a i f b,k'.q a->Gr Fb Hb f b->k'.E i a none b):a7 K k' lo us Fb Hb F H j y cs:=⟨W.g,λh=>W.z (hz h),W.l,W.e,W.c,W.n,W.d,W.p,x⟩
section
theorem a7.start(N:ae)(b:lo<=vs.length)(W:a7 K k lo us Fb Hb F H (vs.map some) j cs):a7 K k lo us Fb Hb F H (start N vs) (j++List.replicate (N.length - j.length) .aL) cs where
 g:=W.g
 z:=W.z
 l:=by
  have:=W.l;rw[length_map] at this;show (vs.map some++List.replicate (N.length - vs.length) none).length=_;rw[length_append,length_append,List.length_replicate,List.length_replicate,length_map,this]
 e:=λi t h=>by
  have a:=W.l;rcases lt_or_ge i j.length with z |z
  .rw[getElem?_append_left z] at h;exact (W.e i t h).imp id λ⟨v,h1,h2⟩=>⟨v,by show (vs.map some++List.replicate (N.length - vs.length) none)[i]?=_;rw[getElem?_append_left (by rw[a];exact z)];exact h1,h2⟩
  .rw[getElem?_append_right z] at h;have m:=mem_of_getElem? h;exact .inl (List.mem_replicate.mp m).2
 c:=W.c
 n:=W.n
 d:=W.d
 p:=λi h=>by
  have e:=W.p i h;show (vs.map some++List.replicate (N.length - vs.length) none)[i]?=_;rw[getElem?_append_left (by rw[length_map];omega)];exact e
 x:=W.x
end
theorem Rs.split:∀{l:ai}{vs:ax}{c:Cs},Rs K F B l vs c->au F H c->∃cs:Nat->Cs,(∀(i:Nat)(t:Tr),l[i]?=some t->∃v,vs[i]?=some v/\R K F B t v (cs i))/\(∀i,∀p∈cs i,p∈c)/\(∀i,au F H (cs i))/\∀i j,i≠j->∀p∈cs i,∀q∈cs j,p.1≠q.1
 |[],_,_,_,_=>⟨λ_=>[],λi t h=>(by cases h),λ_ _ m=>(nomatch m),λ_=>.nil,λ_ _ _ _ m=>nomatch m⟩
 |x::xs,_,_,y,hc=>by
  let⟨v,r,c,d,g,k,C,D⟩:=y;rw[k] at hc;let⟨cs,n,e,o,s⟩:=Rs.split D hc.right;have f:∀p∈c,∀q∈d,p.1≠q.1:=λp a q b=>by
   have:=hc.nd;rw[map_append,nodup_append] at this;exact this.2.2 _ (mem_map.mpr ⟨p,a,rfl⟩) _ (mem_map.mpr ⟨q,b,rfl⟩)
  refine⟨λi=>match i with |0=>c |j+1=>cs j,λi t h=>?_,λi p m=>?_,λi=>?_,λi j ne p a q b=>?_⟩
  .cases i with
   |zero=>cases h;exact⟨v,by rw[g];rfl,C⟩
   |succ j=>let⟨u,w,A⟩:=n j t h;exact⟨u,by rw[g];exact w,A⟩
  .rw[k];cases i with
   |zero=>exact mem_append.mpr (.inl m)
   |succ j=>exact mem_append.mpr (.inr (e j p m))
  .cases i with
   |zero=>exact hc.left
   |succ j=>exact o j
  .cases i with
   |zero=>
    cases j with
    |zero=>exact absurd rfl ne
    |succ j=>exact f p a q (e j q b)
   |succ i=>
    cases j with
    |zero=>exact (f q b p (e i p a)).symm
    |succ j=>exact s i j (λz=>ne (by rw[z])) p a q b
section
theorem U0{aS:cf}(F:gx K x qual st f fd)(S:adr N ps (bh st))(hn:ps.length=n)(J:lo<=n)(e:∀(aR:ag)(A:Around)(outer:b5)(s:aj)(H:Hp)(E:XK),bj m (A.deeper (PyProof.Rows.envOfC qual (bh st) ⇑s f aR))->
   ∃k u,eW (iB bq P w K mg base N qual (bh st) f aR A outer s H E).og (iu st) k/\cK K (Md.base z) lo k u/\∀xs b,xs.length=n->aS xs b->u { nx:=λy=>b .aX y,rt:=b } (xs++List.replicate (N.length - n) .aL)):
  aB P w K mg base bq (m+1) f fd ps (bx K z lo n aS):=by
 refine F.ok S (λvs H Q E h=>h.1.trans hn.symm) (λaR A outer s H vs Q E M h=>?_);∎;let⟨Y,B,C,k,g,b,q,W,p,a⟩:=h;let⟨U,u,D,G,L⟩:=e aR A outer s H E M;∎;have i:k.length=n:=by have:=W.l;rw[length_map] at this;omega
 refine⟨U,D,G vs B C B H _ _ g _ { nx:=λy=>b .aX y,rt:=b } ((W.start N ⋯).md id λ_ _ _ _ h=>h.elim) (by rw[i];exact L k b i p) ⟨?_,?_,λ_ _ _ _ _ _ (h:False)=>h.elim,λ_ _ _ _ _ _ (h:False)=>h.elim⟩⟩
 .exact λF H j y g o q=>a F H j y g .aX .aX [] (o.md id W.x) ⟨rfl,rfl⟩ .nil .nil (λ_ _ _ _ m=>nomatch m) rfl q
 .exact λF H j y g v t c o r I n d O q=>a F H j y g v t c (o.md id W.x) r I n d O q
theorem RZ{aS:dY}(F:gx K x qual st f fd)(S:adr N ps (bh st))(hn:ps.length=n)(J:lo<=n)(e:∀(aR:ag)(A:Around)(outer:b5)(s:aj)(H:Hp)(E:XK)(q:ag->Prop),bj m (A.deeper (PyProof.Rows.envOfC qual (bh st) ⇑s f aR))->
   ∃k u,eW (iB (b4 P w) P w K mg base N qual (bh st) f aR A outer s H E) (iu st) k/\cK K ⟨z,λ_=>E,q⟩ lo k u/\∀xs b,xs.length=n->aS xs b q->u { nx:=λy=>b .aX y,rt:=b } (xs++List.replicate (N.length - n) .aL)):
  aB P w K mg base (b4 P w) (m+1) f fd ps (cv K z lo n aS):=by
 refine F.zN S (λvs H Q E h=>h.1.trans hn.symm) (λaR A outer s H vs Q E M h=>?_);∎;let⟨Y,B,C,k,g,b,q,W,p,a⟩:=h;let⟨U,u,D,G,L⟩:=e aR A outer s H E q M;∎;have i:k.length=n:=by have:=W.l;rw[length_map] at this;omega
 refine⟨U,D,G vs B C B H _ _ g _ { nx:=λy=>b .aX y,rt:=b } (W.start N ⋯) (by rw[i];exact L k b i p) ⟨?_,?_,λ_ _ _ _ _ _ (h:False)=>h.elim,λ_ _ _ _ _ _ (h:False)=>h.elim⟩⟩
 .exact λF H j y g o q=>a F H j y g .aX .aX [] o ⟨rfl,rfl⟩ .nil .nil (λ_ _ _ _ m=>nomatch m) rfl q
 .exact λF H j y g v t c o r I n d O q=>a F H j y g v t c o r I n d O q
end
section
theorem xv{c:Cs}{p:ah×HO}(m:p∈c):de (c.map (·.1)) H p.1=none:=V5 (mem_map.mpr ⟨p,m,rfl⟩)
theorem tP(n:dh H c)(h:H a=some o):a ∉ c.map (·.1):=λm=>by
 let⟨p,b,rfl⟩:=mem_map.mp m;rw[n p b] at h;cases h
theorem _root_.Vc.Gr.de(g:Gr F H F1 H1)(n:dh H c)(g':Gr F1 (de (c.map (·.1)) H1) F' H'):Gr F H F' H':=
 Gr.of ⟨λa u e=>g'.h a u (qp (tP n e) (g.h a u e)),g.f.trans g'.f,g'.s,λa u e z=>by
  cases q:F1 a with
  |some y=>exact g.n a y q z
  |none=>
   have h:=g'.n a u e q;by_cases m:a∈c.map (·.1)
   .obtain⟨p,mp,rfl⟩:=mem_map.mp m;exact n p mp
   .unfold Vc.de at h;rw[if_neg m] at h;exact g.h.free h⟩ (g'.fz g.z)
def rY(q:ag->Prop)(aS:dY)(a:cM):aW:=λj Q=>a j λb=>aS (cq b) (λt _=>Q t) q
def iA(aS:cf)(a:cM):aW:=λj Q=>a j λb=>aS (cq b) λt _=>Q t
theorem Ei{n:Nat}{z:Bool}{aS:dY}{L:TA}{J:cM}{R':St->XK}{q':ag->Prop}(hE:∀(F:Hp)(B:Bool->Hp)(H:Hp)(y:St)(G:ai),gv K k F B H y G->∀f A w,q' f->Gr F H A w->R' y f none w)(hk:z=true->k.z=true)(hn:∀xs Q q,aS xs Q q->xs.length=n)(h:fK K k L J):bu K k (BL (cv K z 0 n aS) [] R' L) (rY q' aS J):=λF B H y G Q Q' c p q=>by
 refine h F B H y G _ _ c p λl vs D E C p1 d=>?_
 rw[append_nil];let⟨cs,M,N,O,U⟩:=d.r.split d.c;have hl:vs.length=n:=by rw[d.r.length,<- hn _ _ _ p1,mr]
 have hb:∀k,aA (B k) (de (C.map (·.1)) E):=λk a o e=>qp (tP d.n (c.b k a o e)) (d.g.h _ _ (c.b k a o e))
 refine⟨hl,D,de (C.map (·.1)) E,cq l,cs,_,q',⟨⟨yH d.g.s,Fz.refl D⟩,λh=>d.g.fz (c.z (hk h)),by rw[length_map,mr,d.r.length],?_,O,λi p m=>xv (N i p m),U,λi h=>absurd h (not_lt_zero i),λf _ A w h g=>hE F B H y G c f A w h (d.g.de d.n g)⟩,p1,?_⟩
 .intro i t h;have hi:i<l.length:=by have:=(List.getElem?_eq_some_iff.mp h).1;rw[mr] at this;exact this
  have e:∀(l:ai)(i:Nat),(cq l)[i]?=l[i]?.map dn:=by
   intro l
   induction l with
   |nil=>intro i;rfl
   |cons x xs ih=>intro i;cases i with
    |zero=>rfl
    |succ j=>exact ih j
  rw[e] at h;cases z:l[i]? with
  |none=>rw[z] at h;cases h
  |some u=>
   rw[z] at h;cases h;let⟨v,Y,b2⟩:=M i u z;exact .inr ⟨v,by rw[getElem?_map,Y];rfl,b2.dn (λk=>Le.of (hb k)) u⟩
 .intro A w y' G' cs' v t c' W r hc nw dj nl qt;refine q t v A w c' qt ⟨d.g.de d.n W.g,r.base t nl,hc,λp m=>?_⟩;have z:=nw p m;by_cases I:p.1∈C.map (·.1)
  .obtain⟨q,mq,e⟩:=mem_map.mp I;have e:q.1=p.1:=e;rw[<- e];exact d.n q mq
  .unfold de at z;rw[if_neg I] at z;exact d.g.h.free z
theorem R0{aS:cf}(a:z=true->k.z=true)(hn:∀xs Q,aS xs Q->xs.length=n)(h:fK K k ta pa):bu K k (B6 (bx K z 0 n aS) [] E ta) (iA aS pa):=
 Ei (R':=λ_=>E) (q':=λ_=>False) (aS:=λxs Q _=>aS xs Q) (λ_ _ _ _ _ _ _ _ _ h=>h.elim) a (λxs Q _=>hn xs Q) h
def gy(K:ao)(k:Md)(r:ax->Hp->VK->Prop)(h:ai->(ar)->Prop):Prop:=∀(F:Hp)(B:Bool->Hp)(H:Hp)(g:ax)(f:ai)(d:Cs)(Q:VK)(e:ar),aA F H->(∀k,aA (B k) H)->(k.z=true->Fz S0 F)->Rs K F B f g d->au F H d->h f e->
 (∀t v a b c,e t->Gr F H a b->R K a B t v c->au a b c->(∀p∈c,H p.1=none\/p∈d)->Q v b)->r g H Q
def pB(b:ai->(ar)->Prop)(a:cM):aW:=λj Q=>a j λc=>b c Q
theorem GV(o:gy K k r pr)(h:fK K k ta pa):bu K k (lO r ta) (pB pr pa):=λF B H j y Q l c p q=>by
 refine h F B H j y _ _ c p λD vs d f w p1 a=>?_
 refine o d B f vs D w Q l a.g.s (λk=>(c.b k).trans a.g.h) (λh=>a.g.fz (c.z h)) a.r a.c p1 λt v e i x A g C u n=>?_
 refine q t v e i x A ⟨a.g.trans' g,C,u,λp m=>?_⟩;rcases n p m with z |z
 .exact a.g.h.free z
 .exact a.n p z
theorem Rs.one(r:Rs K F B [t] xs cs):∃v,xs=[v]/\R K F B t v cs:=by
 let⟨v,r,c,d,b,a,e,rfl,rfl⟩:=r;rw[append_nil] at a;exact⟨v,b,by rw[a];exact e⟩
def wQ(a:ai)(Q:ar):Prop:=match a with
 |[.int i]=>Q (.int (if i < 0 then -i else i))
 |_=>False
theorem F9:gy K k (λxs H Q=>∃i,xs=[.int i]/\Q (.int (if i<0 then -i else i)) H) wQ:=λF B H xs e c Q a s b z r d p q=>by
 unfold wQ at p;split at p
 .obtain⟨v,rfl,rfl,_⟩:=r.one;exact⟨_,rfl,q _ _ F H [] p (Gr.aH s) ⟨rfl,rfl⟩ .nil λ_ m=>nomatch m⟩
 .exact p.elim
end
structure QE(X:Cx)(k:Md)(e:Expr)(pe:aW):Prop where
 h:∃te,PE X e te/\bu X.K k te pe
structure QT(X:Cx)(k:Md)(e:Expr)(pe:di):Prop where
 h:∃te,PT X e te/\fb X.K k te pe
structure QW(X:Cx)(k:Md)(e:Expr)(pe:di):Prop where
 h:∃te,PW X e te/\fb X.K k te pe
structure QA(X:Cx)(k:Md)(es:bS)(pa:cM):Prop where
 h:∃ta,PA X es ta/\fK X.K k ta pa
structure QS(X:Cx)(k:Md)(lo:Nat)(st:Stmt)(ps:cc):Prop where
 h:∃ts,PS X st ts/\cK X.K k lo ts ps
structure QB(X:Cx)(k:Md)(lo:Nat)(sts:List Stmt)(ps:cc):Prop where
 h:∃ts,eW X sts ts/\cK X.K k lo ts ps
section
theorem qv(i:Nat)(b:do X.N[i]?=some x)(c:jP X.env.scope x:=by first |exact Or.inl rfl |exact Or.inr (Or.inl rfl) |exact Or.inr (Or.inr rfl))(hd: ~~~(cD x))(a: ~~~((x == ("__classdict__":Str))=false)):QE X k (.Name x pos) (c9 i):=⟨_,lu b c hd a,TQ i⟩
theorem aE{i j}:QE X k (.Constant (.int i) j pos) (pC (.int i)):=⟨_,GL,UE⟩
theorem aC{i j}:QE X k (.Constant (.str i) j pos) (pC (.str i)):=⟨_,Vh,UG⟩
theorem i1{i j}:QE X k (.Constant (.bool i) j pos) (pC (.bl i)):=⟨_,HE,V7⟩
theorem uc(v:V)(a:Gl X x)(hm:X.mg x=some u)(r:aK v u)(ht:∀F B,R X.K F B t v [])(hd: ~~~(cD x)):QE X k (.Name x pos) (pC t):=⟨_,TV a hm r hd,qB ht⟩
theorem qC(i:bZ X (binaryOp op) r)(hs:cW X.K k r pr)(ha:QE X k a pa)(g:QE X k b pb):QE X k (.BinOp a op b pos) (p2 pr pa pb):=by
 ∎;let⟨j,e,f⟩:=ha.h;let⟨l,c,d⟩:=g.h;∎;exact⟨_,Yu i e c,ua hs f d⟩
theorem bG(ha:QE X k a pa)(c:QE X k b pb):QE X k (.BinOp a .Add b pos) (p2 l5 pa pb):=qC YB UK ha c
theorem qD(ha:QE X k a pa)(c:QE X k b pb):QE X k (.BinOp a .Sub b pos) (p2 (gf (λ_ _=>True) λi j=>.int (i - j)) pa pb):=qC Vt UM ha c
theorem dW(ha:QE X k a pa)(c:QE X k b pb):QE X k (.BinOp a .FloorDiv b pos) (p2 (gf dI λi j=>.int (i.fdiv j)) pa pb):=qC QR RV ha c
theorem d7(ha:QE X k a pa)(c:QE X k b pb):QE X k (.BinOp a .Mod b pos) (p2 (gf (λ_ j=>0<j) λi j=>.int (i % j)) pa pb):=qC Vu UN ha c
theorem zm(ha:QE X k a pa):QE X k (.UnaryOp .USub a pos) (p1 pK pa):=by
 let⟨d,b,c⟩:=ha.h;exact⟨_,Yv Vw b,V8 UO c⟩
theorem b7(ha:QE X k a pa)(g:QE X k b pb)(hs:BE b:=by exact λ_ _=>rfl)(i:X.A.units+1<cLine:=by assumption):QE X k (.Subscript a b pos) (p2 jY pa pb):=by
 ∎;let⟨j,e,f⟩:=ha.h;let⟨l,c,d⟩:=g.h;∎;exact⟨_,Yx (Yd i) e c hs,ua UL f d⟩
theorem fB(i:bZ X (compareOp op) r)(hs:cW X.K k r pr)(ha:QE X k a pa)(g:QE X k b pb)(hm:behindInMarks op b=false:=by with_unfolding_all rfl):QE X k (.Compare a [op] [b] pos) (p2 pr pa pb):=by
 ∎;let⟨j,e,f⟩:=ha.h;let⟨l,c,d⟩:=g.h;∎;exact⟨_,FU i e c hm,ua hs f d⟩
theorem bc(i:bZ X (compareOp op) r)(hs:cW X.K k r pr)(ha:QE X k a pa)(g:QE X k b pb)(hm:behindInMarks op b=false:=by with_unfolding_all rfl):QT X k (.Compare a [op] [b] pos) (pT (p2 pr pa pb)):=by
 ∎;let⟨j,e,f⟩:=ha.h;let⟨l,c,d⟩:=g.h;∎;exact⟨_,FV i e c hm,Eh (ua hs f d)⟩
theorem eE(h:QE X k e pe)(he:∀whole,isTrue e X.env whole=(do let v <- whole;standAt e.pos;holding [v] (truthy v)):=by intro _;rfl):QT X k e (pT pe):=by
 let⟨c,a,b⟩:=h.h;exact⟨_,Vi a he,GU b⟩
theorem kc(h:QT X k e pe):QT X k (.UnaryOp .Not e pos) (wL pe):=by
 let⟨c,a,b⟩:=h.h;exact⟨_,Vl a,US b⟩
theorem QW.t(h:QW X k e pe):QT X k e pe:=by
 let⟨c,a,b⟩:=h.h;exact⟨_,a.pt,b⟩
theorem jD(h:QT X k e pe):QW X k (.BoolOp .And [e] pos) pe:=by
 let⟨c,a,b⟩:=h.h;exact⟨_,TY a,b⟩
theorem gk(h:QT X k e pe):QW X k (.BoolOp .Or [e] pos) pe:=by
 let⟨c,a,b⟩:=h.h;exact⟨_,Vj a,b⟩
theorem fI(h:QT X k e pe)(h':QW X k (.BoolOp .And (f::r) pos) pf):QW X k (.BoolOp .And (e::f::r) pos) (sA pe pf):=by
 ∎;let⟨g,c,d⟩:=h.h;let⟨i,a,b⟩:=h'.h;∎;exact⟨_,Vk c a,UR d b⟩
theorem e9(h:QT X k e pe)(h':QW X k (.BoolOp .Or (f::r) pos) pf):QW X k (.BoolOp .Or (e::f::r) pos) (zS pe pf):=by
 ∎;let⟨g,c,d⟩:=h.h;let⟨i,a,b⟩:=h'.h;∎;exact⟨_,Ys c a,Wa d b⟩
theorem kd{op}(h:QE X k e pe):QE X k (.BoolOp op [e] pos) pe:=by
 let⟨c,a,b⟩:=h.h;exact⟨_,Vm a,b⟩
theorem qE(h:QE X k e pe)(h':QE X k (.BoolOp .And (f::r) pos) pf):QE X k (.BoolOp .And (e::f::r) pos) (jV pe pf):=by
 ∎;let⟨g,c,d⟩:=h.h;let⟨i,a,b⟩:=h'.h;∎;exact⟨_,Vn c a,RW d b⟩
theorem qP(h:QE X k e pe)(h':QE X k (.BoolOp .Or (f::r) pos) pf):QE X k (.BoolOp .Or (e::f::r) pos) (wM pe pf):=by
 ∎;let⟨g,c,d⟩:=h.h;let⟨i,a,b⟩:=h'.h;∎;exact⟨_,Yt c a,UT d b⟩
theorem GW(h:QE X k e pe):QE X k (.UnaryOp .Not e pos) (vS pe):=by
 let⟨c,a,b⟩:=h.h;exact⟨_,Vo a,RX b⟩
theorem zo{pt:di}(m:QT X k c pt)(ha:QE X k a pa)(l:QE X k b pb):QE X k (.IfExp c a b pos) (zR pt pa pb):=by
 ∎;let⟨p,i,j⟩:=m.h;let⟨n,f,g⟩:=ha.h;let⟨o,d,e⟩:=l.h;∎;exact⟨_,Rp i f d,UU j g e⟩
theorem aI:QA X k [] gD:=⟨_,iS,F8⟩
theorem aq(h:QE X k a pa)(h':QA X k es ps)(hs:do dN a es X.env):QA X k (a::es) (gT pa ps):=by
 ∎;let⟨f,d,e⟩:=h.h;let⟨g,b,c⟩:=h'.h;∎;exact⟨_,iD d b hs,RU e c⟩
theorem qF{x1}(h:QA X k es ps):QE X k (.Tuple es x1 pos) (wH ps):=by
 let⟨c,a,b⟩:=h.h;exact⟨_,Wv a,UH b⟩
theorem cF(h:QA X k es ps):QE X k (.List es pos) (wJ ps):=by
 let⟨c,a,b⟩:=h.h;exact⟨_,Ww a,UI b⟩
theorem cA{r:ax->Hp->VK->Prop}{d:ai->(ar)->Prop}{id:String}{x:Str}{p:Pos}{e:Expr}{a:bS}{ps:cM}(i:a9 X (.builtin id) r)(l:gy X.K k r d)(hm:X.mg x=none)(ha:QA X k (e::a) ps)(j:do Gl X x)(m:do bootBuiltins x=some (.builtin id))(hn: ~~~(x≠"__name__"))(b: ~~~(cD x))(he:do dN e a X.env)(c:do eX pos a X.env):
  QE X k (.Call (.Name x p) (e::a) [] pos) (pB d ps):=by
 let⟨n,f,g⟩:=ha.h;exact⟨_,sS i j hm m f hn b he c,GV l g⟩
theorem bX:QB X k lo [] sh:=⟨_,TZ,RY⟩
theorem aO(h:QS X k lo st p)(h':QB X k lo r q):QB X k lo (st::r) (sC p q):=by
 ∎;let⟨e,c,d⟩:=h.h;let⟨f,a,b⟩:=h'.h;∎;exact⟨_,nP c a,UW d b⟩
theorem aN(h:QS X k lo st p):QB X k lo [st] p:=by
 let⟨c,a,b⟩:=h.h;exact⟨_,ye a,b⟩
def vH:cc:=λ_ _=>False
theorem tQ:QS X k lo st vH:=⟨_,Rq,λ_ _ _ _ _ _ _ _ _ _ _ h _=>h⟩
theorem br(h:QE X k e pe):QS X k lo (.Return (some e) pos) (kS pe):=by
 let⟨c,a,b⟩:=h.h;exact⟨_,yM a,UY b⟩
theorem bI(i:QT X k e pe)(h:QB X k lo s1 p)(h':QB X k lo s2 q):QS X k lo (.If e s1 s2 pos) (sD pe p q):=by
 ∎;let⟨m,f,g⟩:=i.h;let⟨j,c,d⟩:=h.h;let⟨l,a,b⟩:=h'.h;∎;exact⟨_,zi f c a,Wb g d b⟩
theorem nZ(f:QT X k e pe)(h:QB X k lo s1 p)(g:PassesOwn (model X.prog X.w) X.A X.env X.xe:=by first |exact PassesOwn.never |exact fu rfl):QS X k lo (.While e s1 [] pos) (wO pe p):=by
 ∎;let⟨j,c,d⟩:=f.h;let⟨i,a,b⟩:=h.h;∎;exact⟨_,E3 g c a,UZ d b⟩
theorem lB(i:Nat)(h:QE X k e pe)(c:X.N.Nodup:=by assumption)(g: ~~~(lo<=i))(f:do X.N[i]?=some x)(j:Loc X.env.scope x:=by first |exact Or.inl rfl |exact Or.inr rfl)(hs:do swapsWith e (some (.Name x pos')) pos.line X.env=pure false)(d:kG X x:=by first |exact .inl rfl |exact .inr rfl |assumption):
  QS X k lo (.Assign [.Name x pos'] e pos) (wN i pe):=by
 let⟨l,a,b⟩:=h.h;exact⟨_,qw c f j a hs d,UX g b⟩
end
section
theorem b0{aS:cf}(F:gx K x qual st f fd)(S:adr N ps (bh st))(hn:ps.length=n)(d:lo<=n)(a:∀(aR:ag)(A:Around)(outer:b5)(s:aj)(H:Hp)(E:XK),bj m (A.deeper (PyProof.Rows.envOfC qual (bh st) ⇑s f aR))->(A.deeper (PyProof.Rows.envOfC qual (bh st) ⇑s f aR)).units+1<cLine->N.Nodup->
   ∃b,QB (iB bq P w K mg base N qual (bh st) f aR A outer s H E).og (Md.base z) lo (iu st) b/\∀xs c,xs.length=n->aS xs c->b { nx:=λj=>c .aX j,rt:=c } (xs++List.replicate (N.length - n) .aL)):
  aB P w K mg base bq (m+1) f fd ps (bx K z lo n aS):=U0 F S hn d λaR A outer s H E e=>by
 ∎;let⟨b,h,q⟩:=a aR A outer s H E e (HM e) S.nd;let⟨k,g,i⟩:=h.h;∎;exact⟨k,b,g,i,q⟩
theorem gn{aS:dY}(F:gx K x qual st f fd)(S:adr N ps (bh st))(hn:ps.length=n)(d:lo<=n)(a:∀(aR:ag)(A:Around)(outer:b5)(s:aj)(H:Hp)(E:XK)(q:ag->Prop),bj m (A.deeper (PyProof.Rows.envOfC qual (bh st) ⇑s f aR))->(A.deeper (PyProof.Rows.envOfC qual (bh st) ⇑s f aR)).units+1<cLine->N.Nodup->
   ∃b,QB (iB (b4 P w) P w K mg base N qual (bh st) f aR A outer s H E) ⟨z,λ_=>E,q⟩ lo (iu st) b/\∀xs c,xs.length=n->aS xs c q->b { nx:=λj=>c .aX j,rt:=c } (xs++List.replicate (N.length - n) .aL)):
  aB P w K mg base (b4 P w) (m+1) f fd ps (cv K z lo n aS):=RZ F S hn d λaR A outer s H E q e=>by
 ∎;let⟨b,h,q⟩:=a aR A outer s H E q e (HM e) S.nd;let⟨k,g,i⟩:=h.h;∎;exact⟨k,b,g,i,q⟩
end
section
theorem lay:∀(c:Cs){F:Hp},Gr Fb Hb F H->au F H c->dh Hb c->Plain c->∃i,Gr Fb Hb i H/\(∀S,Fz S F->Fz S i)/\aA F i/\(∀p∈c,i p.1=some p.2)/\∀a,a ∉ c.map (·.1)->i a=F a
 |[],F,g,_,_,_=>⟨F,g,λ_ h=>h,aA.refl F,λ_ m=>(nomatch m),λ_ _=>rfl⟩
 |(a,o)::c,F,g,hc,n,pl=>by
  let⟨r,w,C,B,l,k⟩:=Vc.aU g.toGr0 g.z (n _ (.head _)) (hc.f _ (.head _)) (hc.h _ (.head _)) (pl _ (.head _));have nd:=hc.nd;rw[map_cons,nodup_cons] at nd;have j:au r H c:=⟨λp m=>hc.h p (.tail _ m),λp m=>by rw[k p.1 (λz=>nd.1 (mem_map.mpr ⟨p,m,z⟩))];exact hc.f p (.tail _ m),nd.2⟩;let⟨s,y,D,q,v,A⟩:=lay c ⟨w,C⟩ j (λp m=>n p (.tail _ m)) λp m=>pl p (.tail _ m)
  refine⟨s,y,λS h=>D S λb x u e=>?_,B.trans q,λp m=>?_,λb d=>?_⟩
  .by_cases d:b=a
   .subst d;rw[l] at e;exact absurd (Option.some.inj e) (pl _ (.head _) x u)
   .rw[k b d] at e;exact h b x u e
  .cases m with
   |head=>exact q _ _ l
   |tail _ m=>exact v p m
  .rw[map_cons,mem_cons] at d;rw[A b λz=>d (.inr z),k b λz=>d (.inl z)]
theorem a7.lay{c:Cs}(W:a7 K k lo us Fb Hb F H y u cs)(w:au F H c)(n:dh Hb c)(pl:Plain c)(d:∀j,∀p∈cs j,∀q∈c,p.1≠q.1):∃a,a7 K k lo us Fb Hb a H y u cs/\aA F a/\∀p∈c,a p.1=some p.2:=by
 let⟨o,s,B,b,r,A⟩:=Pu.lay c W.g w n pl;refine⟨o,⟨s,λh=>B _ (W.z h),W.l,λi t h=>(W.e i t h).imp id λ⟨v,h1,h2⟩=>⟨v,h1,h2.mo (Le.of b) (λ_=>Le.refl _) t⟩,λi=>⟨(W.c i).h,λp m=>?_,(W.c i).nd⟩,W.n,W.d,W.p,W.x⟩,b,r⟩;rw[A p.1 λz=>?_]
 .exact (W.c i).f p m
 .obtain⟨q,mq,e⟩:=mem_map.mp z;exact d i p m q mq e.symm
theorem a7.fresh{t:Tr}{v:V}{c:Cs}{B:Bool->Hp}(W:a7 K k lo us Fb Hb F H y u cs)(o:Out K F B H F' H' t v c):dh Hb c/\∀j,∀p∈cs j,∀q∈c,p.1≠q.1:=
 ⟨λp m=>W.g.h.free (o.n p m),λj p a q b e=>by
  have:=(W.c j).h p a;rw[e,o.n q b] at this;cases this⟩
theorem a7.outF{i:Nat}{t:Tr}{v:V}{c:Cs}(W:a7 K k lo us Fb Hb F H j y cs)(o:Out K F (Bq Hb H) H F' H' t v c)(l:lo<=i)(n:b8 t=true):
  ∃a b,a7 K k lo us Fb Hb a H' (j.set i (some v)) (y.set i (aU t)) b:=by
 ∎;let⟨p,f⟩:=W.fresh o;let⟨d,e,q,h⟩:=(W.gr o.g).lay o.c p (o.r.plain t) f;∎;exact⟨d,_,e.set l ((R.low (B':=λ_=>Hb) t n rfl o.r).aU (Le.of q) t h) .nil .nil λ_ _ _ _ _ m=>nomatch m⟩
theorem a7.held{t:Tr}{v:V}{c:Cs}(W:a7 K k lo us Fb Hb F H j y cs)(o:Out K F (Bq Hb H) H F' H' t v c)(n:b8 t=true):
  ∃a,a7 K k lo us Fb Hb a H' j y cs/\R K a (λ_=>Hb) (aU t) v []:=by
 ∎;let⟨h,e⟩:=W.fresh o;let⟨b,d,i,f⟩:=(W.gr o.g).lay o.c h (o.r.plain t) e;∎;exact⟨b,d,(R.low (B':=λ_=>Hb) t n rfl o.r).aU (Le.of i) t f⟩
def pG(i:Nat)(pe:aW):cc:=λD j=>pe (j.map aM) λt=>b8 t=true/\D.nx (j.set i (aU t))
theorem R1(g:lo<=i)(h:bu K k te pe):cK K k lo (jw te (jr i)) (pG i pe):=λus n d F H j y r D l W p L=>by
 refine h F (Bq d H) H j _ _ _ W.eA p λt v m b c q o=>?_
 let⟨a,f,e⟩:=W.outF o g q.1;exact L.nx a b _ _ _ e q.2
abbrev eV:=Tr->ai->(aG)->Prop
def l6(K:ao)(k:Md)(lo:Nat)(h:TG)(pg:eV):Prop:=∀(us:ax)(c a F H:Hp)(j:St)(y:ai)(g:Nat->Cs)(x:V)(t:Tr)(Q:St->Hp->Prop)(d:aG),a7 K k lo us c a F H j y g->R K F (λ_=>a) t x []->pg t y d->(∀e f b,a7 K k lo us c a F H e f b->d f->Q e H)->h x j H Q
def oh(i:Nat):eV:=λt j Q=>Q (j.set i t)
theorem Wc(a:lo<=i):l6 K k lo (jr i) (oh i):=λus b c F H j y e x t Q d W r p q=>q _ _ _ (W.set a r .nil .nil λ_ _ _ _ _ m=>nomatch m) p
def nv(K:ao)(k:Md)(lo:Nat)(l:kI)(pg:ai->ai->(aG)->Prop):Prop:=∀(us:ax)(c a F H:Hp)(j:St)(y:ai)(i:Nat->Cs)(g:ax)(f:ai)(Q:St->Hp->Prop)(d:aG),a7 K k lo us c a F H j y i->Rs K F (λ_=>a) f g []->pg f y d->(∀e h b,a7 K k lo us c a F H e h b->d h->Q e H)->l g j H Q
def rZ:ai->ai->(aG)->Prop:=λa j Q=>match a with |[]=>Q j |_=>False
def sf(pg:eV)(b:ai->ai->(aG)->Prop):ai->ai->(aG)->Prop:=λc j Q=>match c with |t::r=>pg t j λa=>b r a Q |[]=>False
theorem O5:nv K k lo Dl rZ:=λus b c F H j y a f e Q d W r p q=>by
 unfold rZ at p;split at p
 .exact⟨r.1,q j y a W p⟩
 .exact p.elim
theorem OD(h:l6 K k lo tg pg)(h':nv K k lo tr pr):nv K k lo (B1 tg tr) (sf pg pr):=λus b f F H j y l u s Q g W r p q=>by
 unfold sf at p;split at p
 .obtain⟨v,w,c,d,h1,h2,h3,h4⟩:=r;have e:=List.append_eq_nil_iff.mp h2.symm;rw[e.1] at h3;rw[e.2] at h4;exact⟨v,w,h1,h us b f F H j y l v _ _ _ W h3 p λm o a i n=>h' us b f F H m o a w _ Q g i h4 n q⟩
 .exact p.elim
def uR(n:Nat)(b:ai->ai->(aG)->Prop):eV:=λt j Q=>match t with |.aY a=>a.length=n/\b a j Q |_=>False
theorem Wd(h:nv K k lo tr pr):l6 K k lo (Dm K n tr) (uR n pr):=λus b c F H j y e x t Q d W r p q=>by
 unfold uR at p;split at p
 .obtain⟨a,vs,rfl,h1,h2⟩:=r.cQ W.g.s;exact⟨a,vs,rfl,h1,h2.length.trans p.1,h us b c F H j y e vs _ Q d W h2 p.2 q⟩
 .exact p.elim
def wj(pe:aW)(pg:eV):cc:=λD j=>pe (j.map aM) λt=>b8 t=true/\pg (aU t) j D.nx
theorem U1(h:bu K k te pe)(m:l6 K k lo tg pg):cK K k lo (jw te tg) (wj pe pg):=λus f e F H j y l D u W p L=>by
 refine h F (Bq e H) H j _ _ _ W.eA p λt v w d c q o=>?_
 let⟨b,i,r2⟩:=W.held o q.1;exact m us f e b d j y l v _ _ _ i r2 q.2 λn s a g r=>L.nx b d n s a g r
def wk(i j:Nat)(c:cM):cc:=λD y=>c (y.map aM) λd=>match d with |[a,b]=>b8 a=true/\b8 b=true/\D.nx ((y.set i (aU a)).set j (aU b)) |_=>False
theorem U2{i j:Nat}{l:TA}{d:cM}(B:lo<=i)(C:lo<=j)(h:fK K k l d):cK K k lo (Dp i j l) (wk i j d):=λus O a F H y u z D M W p L=>by
 refine h F (Bq a H) H y _ _ _ W.eA p λQ vs N w c q o=>?_
 split at q
 .obtain⟨v,r,c1,d1,h1,h2,h3,v',r',c2,d2,g1,g2,g3,g4,g5⟩:=o.r;have I:dh a c:=λp m=>W.g.h.free (o.n p m)
  have A:∀j,∀p∈z j,∀q∈c,p.1≠q.1:=λj p E q G e=>by
   have:=(W.c j).h p E;rw[e,o.n q G] at this;cases this
  have J:Plain c:=Rs.plain _ o.r;let⟨s,x,f,b⟩:=(W.gr o.g).lay o.c I J A;refine⟨v,v',by rw[h1,g1,g4],L.nx s w _ _ _ ((x.set B ((R.low (B':=λ_=>a) _ q.1 rfl h3).aU (Le.of f) _ λp m=>b p (by rw[h2];exact mem_append.mpr (.inl m))) .nil .nil λ_ _ _ _ _ m=>nomatch m).set C ((R.low (B':=λ_=>a) _ q.2.1 rfl g3).aU (Le.of f) _ λp m=>b p (by rw[h2,g2];exact mem_append.mpr (.inr (mem_append.mpr (.inl m))))) .nil .nil λ_ _ _ _ _ m=>nomatch m) q.2.2⟩
 .exact q.elim
end
def KR(J:It)(n:Nat)(h:Hp->Prop)(Y:Nat->Hp->V->Hp->Prop):Prop:=∀(g:TG)(f:TS)(D:Ends)(j:St)(H:Hp)(Pv:Nat->St->Hp->Prop),Pv 0 j H->(∀i j H,i<=n->Pv i j H->h H)->
 (∀i x j H a,i<n->Pv i j H->Y i H x a->g x j a λc b=>f { D with nx:=Pv (i+1),ct:=Pv (i+1),bk:=D.nx } c b)->(∀j H,Pv n j H->D.nx j H)->
 ∃W:Nat->Nat->St->Hp->Prop,(∃m,W 0 m j H)/\∀i m j H,W i m j H->
  (J.stop i H/\D.nx j H)\/(J.go i H/\∃N:St->Hp->Prop,(∀d a,N d a->∃e,e<m/\W (i+1) e d a)/\∀x a,J.lS i H x a->g x j a λc b=>f { D with nx:=N,ct:=N,bk:=D.nx } c b)
theorem HQ{j:Type}{xs:List j}{i:Nat}{x:j}(h:xs[i]?=some x):i<xs.length:=(List.getElem?_eq_some_iff.mp h).1
structure hX(J:It)(n:Nat)(Kp:Hp->Prop)(Y:Nat->Hp->V->Hp->Prop):Prop where
 go:∀i H,i<n->Kp H->J.go i H
 st:∀H,Kp H->J.stop n H
 yl:∀i H x H',i<n->Kp H->J.lS i H x H'->Y i H x H'
theorem hX.runs(o:hX J n Kp Y):KR J n Kp Y:=λg q D j H Pv f d h hd=>by
 refine⟨λi m j H=>m=n - i/\i<=n/\Pv i j H,⟨n,by simp,zero_le _,f⟩,?_⟩;rintro i m j H ⟨rfl,c,p⟩;by_cases a:i<n
 .exact .inr ⟨o.go i H a (d i j H c p),Pv (i+1),λl b k=>⟨n - (i+1),⋯,rfl,a,k⟩,λx b y=>h i x j H b a p (o.yl i H x b a (d i j H c p) y)⟩
 .have e:i=n:=⋯
  subst e;exact .inl ⟨o.st H (d i j H c p),hd j H p⟩
theorem HR{j:Type}{xs:List j}{i:Nat}(h:i<xs.length):∃x,xs[i]?=some x:=⟨_,List.getElem?_eq_getElem h⟩
theorem U3{K:ao}{a:ah}{xs:ax}:hX (ro K a) xs.length (λH=>bM K H a xs) (λi H x b=>xs[i]?=some x/\b=H):=
 ⟨λi H h q=>by let⟨x,e⟩:=HR h;exact⟨xs,x,q,e⟩,λH q=>⟨xs,q,le_refl _⟩,λi H x b h q y=>⟨y.2 xs q,y.1⟩⟩
theorem R3:hX (lT l n) n (λ_=>True) (λi H x a=>x=.int (l+i)/\a=H):=⟨λi H h _=>h,λH _=>le_refl _,λi H x a h _ y=>⟨y.2,y.1⟩⟩
def Src(K:ao)(B:Bool->Hp)(F:Hp)(J:It)(f:ai):Prop:=∃(e:Hp->Prop)(Y:Nat->Hp->V->Hp->Prop),hX J f.length e Y/\(∀b a,Le F b->aA b a->(∀k,aA (B k) a)->e a)/\
 ∀i t b a x d,f[i]?=some t->Le F b->aA b a->(∀k,aA (B k) a)->Y i a x d->∃c,Gr b a c d/\R K c B t x []
section
abbrev iL:=ai->(ai->Bool->Prop)->Prop
def l7(K:ao)(k:Md)(i:TI)(h:iL):Prop:=∀(F:Hp)(B:Bool->Hp)(H:Hp)(j:St)(y:ai)(f:It->Hp->Prop)(e:ai->Bool->Prop),gv K k F B H j y->h y e->
 (∀b g J a d,e b g->Gr F H a d->Src K B a J b->(g=true->∀c:Bool->Hp,c false=B false->Src K c a J b)->f J d)->i j H f
theorem _root_.Vc.Gr.base(g:Gr Fb Hb F1 H1)(g':Gr F1 Hb F H):Gr Fb Hb F H:=
 Gr.of ⟨g'.h,g.f.trans g'.f,g'.s,λa u e z=>by
  cases q:F1 a with
  |some w=>exact g.n a w q z
  |none=>exact g'.n a u e q⟩ (g'.fz g.z)
theorem a7.base(a:a7 K k lo us Fb Hb F1 H1 j0 y0 cs0)(W:a7 K k lo us F1 Hb F H j y cs):a7 K k lo us Fb Hb F H j y cs:=⟨a.g.base W.g,W.z,W.l,W.e,W.c,W.n,W.d,W.p,a.x⟩
theorem a7.rebase(W:a7 K k lo us Fb Hb F H j y cs):a7 K k lo us F Hb F H j y cs:=⟨⟨⟨W.g.h,aA.refl F,W.g.s,λa u e z=>by rw[e] at z;cases z⟩,Fz.refl F⟩,W.z,W.l,W.e,W.c,W.n,W.d,W.p,λb m f i q g=>W.x b m f i q (W.g.base g)⟩
theorem Lk.rebase(b:a7 K k lo us Fb Hb F1 H1 j0 y0 cs0)(L:Lk K k lo us Fb Hb D D'):Lk K k lo us F1 Hb D D':=
 ⟨λF H j y a W=>L.nx F H j y a (b.base W),λF H j y a v t c W=>L.rt F H j y a v t c (b.base W),λF H j y a W=>L.bk F H j y a (b.base W),λF H j y a W=>L.ct F H j y a (b.base W)⟩
def wm(e:iL)(pg:eV)(d:cc):cc:=λD j=>e (j.map aM) λa c=>c=true/\∃I:Nat->aG,I 0 j/\(∀i t j,a[i]?=some t->I i j->pg t j λb=>d { D with nx:=I (i+1),ct:=I (i+1),bk:=D.nx } b)/\∀j,I a.length j->D.nx j
theorem U4(c:l7 K k wi pi)(N:l6 K k lo tg pg)(M:cK K k lo tb pb):cK K k lo (Dq wi tg tb) (wm pi pg pb):=λus Fb b F H j u a D D' W p L=>by
 refine c F (Bq b H) H j _ _ _ W.eA p λA nl J d B q E _ r=>?_
 have w:=W.gr E;∎;let⟨n,I,O,step,m⟩:=q;let⟨Kp,Y,o,kp,yl⟩:=r n (λ_=>b) rfl;∎;have run:=o.runs;have e:=L.rebase w;refine run tg tb D j B (λi j H=>∃F u a,a7 K k lo us d b F H j u a/\I i u) ⟨d,u,a,w.rebase,O⟩ ?_ ?_ ?_
 .rintro i j H c ⟨F,u,a,W,_⟩;exact kp F H (Le.of W.g.f) W.g.s λ_=>W.g.h
 .rintro i x j H H' c ⟨F,u,a,W,ii⟩ y;have z:A[i]?=some (A[i]'c):=List.getElem?_eq_getElem c;let⟨v,G,r2⟩:=yl i _ F H x H' z (Le.of W.g.f) W.g.s (λ_=>W.g.h) y;refine N us d b v H' j u a x _ _ _ (W.gr G) r2 (step i _ u z ii) λQ u' l C U=>?_
  exact M us d b v H' Q u' l _ _ C U ⟨λF H j u a W q=>⟨F,u,a,W,q⟩,e.rt,e.nx,λF H j u a W q=>⟨F,u,a,W,q⟩⟩
 .rintro j H ⟨F,u,a,W,q⟩;exact e.nx F H j u a W (m u q)
theorem We(l:Le F F')(s:aA F' H')(h:bM K F a vs):bM K H' a vs:=s.seq (l.ak h)
theorem HS(r:R K F B (.ak f xs) v []):∃a vs,v=.ref a/\Rs K F B xs vs []/\∀e c,Le F e->aA e c->(∀k,aA (B k) c)->bM K c a vs:=by
 cases f with
 |f=>let⟨_,a,vs,g,d,h⟩:=r;exact⟨a,vs,g,h,λe c l s b=>We l s d⟩
 |l q=>let⟨_,a,vs,g,d,h⟩:=r;exact⟨a,vs,g,h,λe c l s b=>(b q).seq d⟩
 |o=>let⟨a,vs,i,g,d,h⟩:=r;cases d
theorem Rs.mQ{xs:ai}{vs:ax}{i:Nat}{t:Tr}(r:Rs K F B xs vs [])(h:xs[i]?=some t):∃u,vs[i]?=some u/\R K F B t u []:=by
 let⟨u,c,b,a,d⟩:=r.at h;have e:c=[]:=List.eq_nil_iff_forall_not_mem.mpr λp m=>nomatch d p m
 rw[e] at a;exact⟨u,b,a⟩
theorem EY{a:ah}{f:Fl}{xs:ai}(r:R K F B (.ak f xs) (.ref a) []):Src K B F (ro K a) xs:=by
 let⟨p,vs,k,c,m⟩:=HS r;cases k;refine⟨_,_,c.length ▸ U3 (K:=K) (a:=a) (xs:=vs),m,λi t e o x g n l s b y=>?_⟩;∎;let⟨d,rfl⟩:=y;let⟨u,h,j⟩:=c.mQ n;∎;rw[h] at d;cases d;exact⟨e,Gr.aH s,j.mo l (λ_=>Le.refl _) t⟩
theorem xw{l:Int}{n:Nat}:Src K B F (lT l n) ((List.range n).map λ(i:Nat)=>.int (l+i)):=by
 refine⟨_,_,(by rw[length_map,length_range];exact R3 (l:=l) (n:=n)),λ_ _ _ _ _=>True.intro,λi t d f x e a g s b y=>?_⟩;let⟨rfl,rfl⟩:=y;rw[getElem?_map] at a;cases q:(List.range n)[i]? with
 |none=>rw[q] at a;cases a
 |some u=>
  rw[q] at a;cases a;have c:=HQ q;rw[length_range] at c;rw[List.getElem?_range c] at q;cases q;exact⟨d,Gr.aH s,rfl,rfl⟩
theorem Out.held{t:Tr}{v:V}{c:Cs}(o:Out K F B H F' H' t v c):∃a,Gr F H a H'/\R K a B (aU t) v []:=by
 let⟨b,e,_,f,d,_⟩:=Pu.lay c o.g o.c o.n (o.r.plain t);exact⟨b,e,o.r.aU (Le.of f) t d⟩
theorem d0.held{t:ai}{v:ax}{c:Cs}(o:d0 K F B H F' H' t v c):∃a,Gr F H a H'/\Rs K a B (bP t) v []:=by
 let⟨b,e,_,f,d,_⟩:=Pu.lay c o.g o.c o.n (o.r.plain t);exact⟨b,e,o.r.aU (Le.of f) t d⟩
def pM(t:Tr)(Q:aG):Prop:=match t with |.ak _ a=>Q a |_=>False
theorem U5{Q:aG}(h:pM t Q):∃f xs,t=.ak f xs/\Q xs:=by
 unfold pM at h;split at h
 .exact⟨_,_,rfl,h⟩
 .exact h.elim
def zU(pe:aW):iL:=λj Q=>pe j λt=>pM (aU t) λa=>Q a (b8 (aU t))
theorem O6(h:bu K k te pe):l7 K k (B2 K te) (zU pe):=λF B H j y w u c p q=>by
 refine h F B H j y _ _ c p λt v r i x p1 o=>?_
 ∎;let⟨g,d,r2⟩:=o.held;let⟨f,z,e,p1⟩:=U5 p1;∎;rw[e] at r2 p1;let⟨a,vs,rfl,_,m⟩:=HS r2;exact⟨a,rfl,⟨vs,m g i (Le.refl _) d.s λk=>(c.b k).trans d.h⟩,q _ _ _ g i p1 d (EY r2) λhn n l=>EY (R.low _ hn l.symm r2)⟩
theorem Rs.two(r:Rs K F B [t,u] xs cs):∃v w c d,xs=[v,w]/\R K F B t v c/\R K F B u w d/\cs=c++d:=by
 let⟨v,r,c,d,g,h,i,j,l,b,k,e,a,f,rfl,rfl⟩:=r;rw[append_nil] at a;exact⟨v,j,c,b,by rw[g,e],i,f,by rw[h,a]⟩
def si(a:ai)(Q:Int->Prop):Prop:=match a with |[.int i]=>Q i |_=>False
def wo(a:cM):iL:=λy Q=>a y λb=>si b λj=>-1000000<=j/\j<=1000000/\Q ((List.range j.toNat).map λ(i:Nat)=>.int i) true
theorem Uc(h:fK K k ta pa):l7 K k (B3 ta) (wo pa):=λF B H y u m f c p q=>by
 refine h F B H y u _ _ c p λw vs a e s p1 o=>?_
 unfold si at p1;split at p1
 .rename_i j;let⟨v,rfl,rfl,_⟩:=o.r.one;have b:∀B,Src K B a (lT 0 j.toNat) ((List.range j.toNat).map λ(i:Nat)=>.int i):=λB=>by
   have:=xw (K:=K) (B:=B) (F:=a) (l:=0) (n:=Int.toNat j);simp only[Int.zero_add] at this;exact this
  exact⟨_,rfl,⋯,⋯,q _ _ _ a e p1.2.2 o.g (b B) λ_ d _=>b d⟩
 .exact p1.elim
def r6(a:ai)(Q:Int->Int->Prop):Prop:=match a with |[.int i,.int j]=>Q i j |_=>False
def wq(a:cM):iL:=λy Q=>a y λb=>r6 b λi j=>(-1000000<=i/\i<=1000000/\-1000000<=j/\j<=1000000)/\Q ((List.range (j - i).toNat).map λ(n:Nat)=>.int (i+n)) true
theorem Ud(h:fK K k ta pa):l7 K k (B4 ta) (wq pa):=λF B H j y f e c p q=>by
 refine h F B H j y _ _ c p λl vs a b i p1 o=>?_
 unfold r6 at p1;split at p1
 .obtain⟨v,w,d1,d2,rfl,⟨rfl,_⟩,⟨rfl,_⟩,_⟩:=o.r.two;exact⟨_,_,rfl,⟨⋯,⋯,⋯,⋯⟩,q _ _ _ a b p1.2 o.g xw λ_ d _=>xw⟩
 .exact p1.elim
end
section
theorem a7.mut{i:Nat}(W:a7 K k lo us Fb Hb F H G J cs)(M:G[i]?=some (some v))(e:(a,o)∈cs i)(hd:au F H ds')(hn:dh Hb ds')(ha:∀p∈ds',p.1≠a)(C:∀j,j≠i->∀p∈ds',∀q∈cs j,p.1≠q.1)(B:c'.Perm ((a,o')::ds'))(N:R K F (λ_=>Hb) t' v c'):
  a7 K k lo us Fb Hb F (a6 H a o') G (J.set i t') (λj=>if j=i then c' else cs j):=by
 have E:=W.n i _ e;have D:=(W.c i).f _ e;have b:∀j,j≠i->∀p∈cs j,p.1≠a:=λj C p m z=>W.d j i C p m _ e z
 refine⟨⟨⟨W.g.h.mZ E,W.g.f,W.g.s.mZ D,W.g.n⟩,W.g.z⟩,W.z,by rw[length_set];exact W.l,λj u h=>?_,λj=>?_,λj=>?_,λx y ne p w q r=>?_,W.p,W.x⟩
 .by_cases ej:j=i
  .subst ej;have L:j<J.length:=by have:=(List.getElem?_eq_some_iff.mp h).1;rw[length_set] at this;exact this
   rw[getElem?_set_self L] at h;cases h;exact .inr ⟨v,M,by rw[if_pos rfl];exact N⟩
  .rw[getElem?_set_ne (λz=>ej z.symm)] at h;rw[if_neg ej];exact W.e j u h
 .split
  .refine⟨λp m=>?_,λp m=>?_,?_⟩
   .rcases mem_cons.mp (B.mem_iff.mp m) with rfl |m
    .exact e7
    .rw[bR (ha p m)];exact hd.h p m
   .rcases mem_cons.mp (B.mem_iff.mp m) with rfl |m
    .exact D
    .exact hd.f p m
   .refine ((B.map (·.1)).nodup_iff).mpr ?_;rw[map_cons,nodup_cons];refine⟨λm=>?_,hd.nd⟩;let⟨p,w,e⟩:=mem_map.mp m;exact ha p w e
  .rename_i ej;exact⟨λp m=>by rw[bR (b j ej p m)];exact (W.c j).h p m,(W.c j).f,(W.c j).nd⟩
 .split
  .intro p m;rcases mem_cons.mp (B.mem_iff.mp m) with rfl |m
   .exact E
   .exact hn p m
  .exact W.n j
 .have key:∀p,p∈c'->∀y,y≠i->∀q∈cs y,p.1≠q.1:=λp m y I q r=>by
   rcases mem_cons.mp (B.mem_iff.mp m) with rfl |m
   .exact (b y I q r).symm
   .exact C y I p m q r
  by_cases ex:x=i
  .have A:y≠i:=λz=>ne (ex.trans z.symm)
   rw[if_pos ex] at w;rw[if_neg A] at r;exact key p w y A q r
  .rw[if_neg ex] at w;by_cases A:y=i
   .rw[if_pos A] at r;exact (key q r x ex p w).symm
   .rw[if_neg A] at r;exact W.d x y ne p w q r
def l8(f:Str)(u:Tr):bT->bT
 |[]=>[]
 |(g,x)::r=>if g=f then (g,u)::r else (g,x)::l8 f u r
def jZ(t:Tr):ae->Tr
 |[]=>t
 |f::r=>match jZ t r with |.ins .o _ fs=>(fs.lookup f).getD .aL |_=>.aL
def nD(t:Tr):ae->Tr->Tr
 |[],u=>u
 |f::r,u=>nD t r (match jZ t r with |.ins .o c fs=>.ins .o c (l8 f u fs) |y=>y)
def qZ(K:ao)(t:Tr):ae->Prop
 |[]=>True
 |f::r=>qZ K t r /\ (match jZ t r with |.ins .o c fs=>(dF K c /\ aD K c f) /\ (fs.lookup f).isSome=true |_=>False)
def tR(K:ao)(i:Nat):ae->TE
 |[]=>jv i
 |f::r=>vF K (tR K i r) f
theorem Rf.at:∀{fs:bT}{vs:List (Str×V)}{k:Cs}{f:Str}{x:Tr},Rf K F B fs vs k->fs.lookup f=some x->∃w c pre post,vs.lookup f=some w/\R K F B x w c/\k=pre++c++post/\∀a,Le F a->∀u d,R K a B u w d->Rf K a B (l8 f u fs) vs (pre++d++post)
 |(g,y)::fs,_,_,f,x,y0,h=>by
  let⟨v,r,c,d,i,m,n,o⟩:=y0;by_cases e:g=f
  .subst e;rw[List.lookup_cons_self] at h;cases h;refine⟨v,c,[],d,by rw[i,List.lookup_cons_self],n,by rw[m];rfl,λa l u b j=>?_⟩;unfold l8;rw[if_pos rfl];exact⟨v,r,b,d,i,rfl,j,o.mo l (λ_=>Le.refl _) fs⟩
  .have e':(f == g)=false:=by simpa using λz=>e z.symm
   rw[lookup_cons,e'] at h;let⟨w,C,pre,post,p,q,s,A⟩:=Rf.at (fs:=fs) o h;refine⟨w,C,c++pre,post,by rw[i,lookup_cons,e'];exact p,q,by rw[m,s];simp only[append_assoc],λa l u b j=>?_⟩;unfold l8;rw[if_neg e];exact⟨v,r,c,pre++b++post,i,by simp only[append_assoc],n.mo l (λ_=>Le.refl _) y,A a l u b j⟩
theorem place{B:Bool->Hp}(s:aA F H)(b:∀k,aA (B k) H)(M:j[i]?=some (some v))(r0:R K F B t v c0)(L:au F H c0):∀(r:ae),qZ K t r->∃w c rest,c0.Perm (c++rest)/\R K F B (jZ t r) w c/\(∀g,Le F g->∀u d,R K g B u w d->∃p,R K g B (nD t r u) v p/\p.Perm (d++rest))/\∀Q:VK,Q w H->tR K i r j H Q
 |[],_=>⟨v,c0,[],by rw[append_nil],r0,λg l u d G=>⟨d,G,by rw[append_nil]⟩,λQ q=>⟨v,M,q⟩⟩
 |f::r,ok=>by
  let⟨w,c,rest,p1,r1,cl,rd⟩:=place s b M r0 L r ok.1;have A:=ok.2;split at A
  .rename_i C fs eg;∎;let⟨⟨zN,D⟩,E⟩:=A;let⟨x,N⟩:=isSome_iff_exists.mp E;∎;rw[eg] at r1;∎;let⟨a,m,vs,ds,I,J,h3⟩:=r1;let⟨z,n,pre,e,O,U,Y,a4⟩:=h3.at N;∎;have hm:(a,HO.ins C m vs)∈c0:=p1.mem_iff.mpr (mem_append.mpr (.inl (by rw[J];exact .head _)));refine⟨z,n,(a,.ins C m vs)::(pre++e++rest),?_,?_,λg l u d G=>?_,λQ q=>?_⟩
   .refine p1.trans ?_;rw[J,Y];show List.Perm ((a,HO.ins C m vs)::((pre++n++e)++rest)) _;refine List.Perm.trans (List.Perm.cons _ ?_) (List.perm_middle.symm);rw[append_assoc pre n e,<- append_assoc,<- append_assoc,<- append_assoc];refine List.Perm.append_right _ ?_;refine List.Perm.append_right _ ?_;exact List.perm_append_comm
   .show R K F B (match jZ t r with |.ins .o _ fs=>(fs.lookup f).getD .aL |_=>.aL) z n;rw[eg];show R K F B ((fs.lookup f).getD .aL) z n;rw[N];exact U
   .obtain⟨p,b1,b2⟩:=cl g l (.ins .o C (l8 f u fs)) ((a,.ins C m vs)::(pre++d++e)) ⟨a,m,vs,_,I,rfl,a4 g l u d G⟩;refine⟨p,?_,b2.trans ?_⟩
    .show R K g B (nD t r (match jZ t r with |.ins .o c fs=>.ins .o c (l8 f u fs) |y=>y)) v p;rw[eg];exact b1
    .show List.Perm ((a,HO.ins C m vs)::((pre++d++e)++rest)) _;refine List.Perm.trans (List.Perm.cons _ ?_) (List.perm_middle.symm);rw[append_assoc pre d e,<- append_assoc,<- append_assoc,<- append_assoc];refine List.Perm.append_right _ ?_;refine List.Perm.append_right _ ?_;exact List.perm_append_comm
   .exact rd _ ⟨a,C,m,vs,z,I,Rd.of (L.h _ hm),zN,D,O,q⟩
  .exact A.elim
theorem a7.at(W:a7 K k lo us Fb Hb F H y G cs)(ht:G[i]?=some t)(hn:t≠.aL)(r:ae)(ok:qZ K t r):∃w c,R K F (λ_=>Hb) (jZ t r) w c/\(∀p∈c,p∈cs i)/\au F H c/\(∀Q:VK,Q w H->tR K i r y H Q)/\
  ∀b C,a7 K k lo us Fb Hb b C y G cs->Le F b->∀(a:ah)(o o':HO)(B ds' e:Cs)(u:Tr)(d:Cs),c=(a,o)::B->ds'.Sublist B->au b C e->dh Hb e->(∀j,∀p∈cs j,∀q∈e,p.1≠q.1)->d.Perm ((a,o')::(ds'++e))->R K b (λ_=>Hb) u w d->∃J,a7 K k lo us Fb Hb b (a6 C a o') y (G.set i (nD t r u)) J:=by
 rcases W.e i t ht with z |⟨v,Y,rv⟩
 .exact absurd z hn
 .obtain⟨w,c,rest,p1,r1,cl,rd⟩:=place W.g.s (λ_=>W.g.h) Y rv (W.c i) r ok;have sub:∀{F H:Hp},au F H (cs i)->au F H (c++rest):=λh=>⟨λp m=>h.h p (p1.mem_iff.mpr m),λp m=>h.f p (p1.mem_iff.mpr m),((p1.map (·.1)).nodup_iff).mp h.nd⟩
  refine⟨w,c,r1,λp m=>p1.mem_iff.mpr (mem_append.mpr (.inl m)),(sub (W.c i)).left,rd,λb C A l a o o' B ds' e u d L sl he M x pd ru=>?_⟩;let⟨c1,b1,b2⟩:=cl b l u d ru;have U:=sub (A.c i);rw[L] at U;have O:(a,o)∈cs i:=p1.mem_iff.mpr (mem_append.mpr (.inl (by rw[L];exact .head _)));have E:(a ∉ (B++rest).map (·.1))/\((B++rest).map (·.1)).Nodup:=nodup_cons.mp U.nd;have N:(ds'++rest).Sublist (B++rest):=sl.append_right rest;have D:∀p∈ds'++rest,p∈cs i:=λp m=>p1.mem_iff.mpr (by rw[L];exact .tail _ (N.subset m))
  have c3:au b C (ds'++rest):=⟨λp m=>(A.c i).h p (D p m),λp m=>(A.c i).f p (D p m),List.Sublist.nodup (N.map _) E.2⟩
  refine⟨_,A.mut (o:=o) (o':=o') (ds':=(ds'++rest)++e) Y O (c3.app he λp mp q I=>x i p (D p mp) q I) ?_ ?_ ?_ (b2.trans ((pd.append_right rest).trans ?_)) b1⟩
  .exact λp m=>(mem_append.mp m).elim (λm=>A.n i p (D p m)) (M p)
  .intro p m z;rcases mem_append.mp m with m |m
   .exact E.1 (mem_map.mpr ⟨p,N.subset m,z⟩)
   .exact x i _ O p m z.symm
  .intro j hj p m q I;rcases mem_append.mp m with m |m
   .exact A.d i j (λz=>hj z.symm) p (D p m) q I
   .exact (x j q I p m).symm
  .show List.Perm ((a,o')::((ds'++e)++rest)) ((a,o')::((ds'++rest)++e));refine List.Perm.cons _ ?_;rw[append_assoc,append_assoc];exact List.Perm.append_left _ List.perm_append_comm
end
section
def hV(K:ao)(j:ai)(i:Nat)(r:ae)(Q:Tr->(Tr->ai)->Prop):Prop:=match j[i]? with
 |some .aL=>False
 |some t=>qZ K t r /\ Q (jZ t r) λu=>j.set i (nD t r u)
 |none=>False
theorem qq{Q:Tr->(Tr->ai)->Prop}(h:hV K j i r Q):∃t,j[i]?=some t/\t≠.aL/\qZ K t r/\Q (jZ t r) λu=>j.set i (nD t r u):=by
 unfold hV at h;split at h
 .exact h.elim
 .rename_i t ne e;exact⟨t,e,ne,h.1,h.2⟩
 .exact h.elim
theorem Rs.set:∀{xs:ai}{vs:ax}{e:Cs}(n:Nat){t:Tr}{v:V},Rs K F B xs vs e->R K F B t v []->∃ds',Rs K F B (xs.set n t) (vs.set n v) ds'/\ds'.Sublist e
 |[],_,e,n,_,_,y,_=>by let⟨a,b⟩:=y;exact⟨[],by rw[a];exact⟨rfl,rfl⟩,by rw[b];exact List.Sublist.refl _⟩
 |x::xs,_,_,0,_,_,y,rt=>by let⟨v,r,c,d,a,b,h,f⟩:=y;exact⟨d,by rw[a];exact⟨_,r,[],d,rfl,rfl,rt,f⟩,by rw[b];exact List.sublist_append_right c d⟩
 |x::xs,_,_,n + 1,_,_,y,rt=>by
  ∎;let⟨v,r,c,d,a,b,h,f⟩:=y;let⟨g,i,j⟩:=Rs.set (xs:=xs) n f rt;∎;exact⟨c++g,by rw[a];exact⟨v,_,c,g,rfl,rfl,h,i⟩,by rw[b];exact j.append_left c⟩
theorem Rs.snoc(h:Rs K F B xs vs ds)(rt:R K F B t v e):Rs K F B (xs++[t]) (vs++[v]) (ds++e):=h.append ⟨v,[],e,[],rfl,by rw[append_nil],rt,rfl,rfl⟩
theorem a7.fE{t:Tr}{v:V}{c:Cs}(W:a7 K k lo us Fb Hb F H j y cs)(o:Out K F (Bq Hb H) H F' H' t v c)(n:b8 t=true):
  ∃a,a7 K k lo us Fb Hb a H' j y cs/\R K a (λ_=>Hb) (aU t) v []/\Le F a:=by
 ∎;let⟨i,f⟩:=W.fresh o;let⟨d,e,b,h⟩:=(W.gr o.g).lay o.c i (o.r.plain t) f;∎;exact⟨d,e,(R.low (B':=λ_=>Hb) t n rfl o.r).aU (Le.of b) t h,Le.trans o.g.le (Le.of b)⟩
theorem tT:dh Hb []:=λ_ m=>nomatch m
theorem tq{cs:Nat->Cs}:∀(j:Nat),∀p∈cs j,∀q∈([]:Cs),p.1≠q.1:=λ_ _ _ _ m=>nomatch m
def jW(u:Tr)(Q:aG):Prop:=match u with |.ak .o xs=>Q xs |_=>False
theorem xG{Q:aG}(h:jW u Q):∃xs,u=.ak .o xs/\Q xs:=by
 unfold jW at h;split at h
 .exact⟨_,rfl,h⟩
 .exact h.elim
def wt(K:ao)(i:Nat)(r:ae)(pe:aW):cc:=λD j=>hV K j i r λu s=>jW u λa=>pe (j.map aM) λt=>b8 t=true/\a.length<1000000/\D.nx (s (.ak .o (a++[aU t])))
theorem Ue(h:bu K k te pe):cK K k lo (sv (uX K "list" BF (tR K i r) (ib te ic))) (wt K i r pe):=λus O z F H j y U D M W p L=>by
 ∎;let⟨t,C,E,G,p⟩:=qq p;let⟨x,I,p⟩:=xG p;let⟨w,c,r1,sub,J,rd,cl⟩:=W.at C E r G;∎;rw[I] at r1;let⟨a,vs,b,rfl,m,n⟩:=r1;have ha:H a=some (.ak vs):=J.h (a,.ak vs) (by rw[m];exact .head _);refine rd _ ⟨F3 ha,h F (Bq z H) H j _ _ _ W.eA p λu v N l Q q o=>?_⟩;let⟨f,A,r2,s⟩:=W.fE o q.1;have e:l a=some (.ak vs):=o.g.h _ _ ha;let⟨d,B⟩:=cl f l A s a (.ak vs) (.ak (vs++[v])) b b [] (.ak .o (x++[aU u])) ((a,.ak (vs++[v]))::(b++[])) m (List.Sublist.refl _) .nil tT tq (List.Perm.refl _) ⟨a,vs++[v],b++[],rfl,rfl,(n.mo s (λ_=>Le.refl _) x).snoc r2⟩;exact⟨a,vs,v,rfl,rfl,e,lt_of_lt_of_le (by rw[n.length];exact q.2.1) ∎,L.nx f _ j _ d B q.2.2⟩
def kM(xs:ai)(y t:Tr)(Q:aG):Prop:=match y with |.int j=>(match gp xs.length j with |some n=>Q (xs.set n t) |none=>False) |_=>False
def vT(K:ao)(i:Nat)(r:ae)(b pe:aW):cc:=λD j=>pe (j.map aM) λt=>b8 t=true/\hV K j i r λu s=>jW u λc=>b (j.map aM) λy=>kM c y (aU t) λa=>D.nx (s (.ak .o a))
theorem R4(h:bu K k te pe)(hj:bu K k tj pj):cK K k lo (jw te (Dn (tR K i r) tj B8)) (vT K i r pj pe):=λus Fb x F H j G cs D D' W p L=>by
 refine h F (Bq x H) H j _ _ _ W.eA p λu v F1 f c1 q o=>?_
 ∎;let⟨C,l,r2,l2⟩:=W.fE o q.1;let⟨t,O,Q,U,p⟩:=qq q.2;let⟨B,Y,p⟩:=xG p;let⟨w,c,r1,sub,hc,rd,cl⟩:=l.at O Q r U;∎;rw[Y] at r1;let⟨a,vs,N,rfl,z,A⟩:=r1;have ha:f a=some (.ak vs):=hc.h (a,.ak vs) (by rw[z];exact .head _);refine rd _ (hj C (Bq x f) f j _ _ _ l.eA p λy vy s E c3 e d=>?_);unfold kM at e;split at e
 .obtain⟨rfl,_⟩:=d.r;split at e
  .rename_i n en;∎;let⟨b,J,M⟩:=(A.mo d.g.le (λ_=>Le.refl _) B).set n (r2.mo d.g.le (λ_=>Le.refl _) _);let⟨m,I⟩:=cl s E (l.gr d.g) d.g.le a (.ak vs) (.ak (vs.set n v)) N b [] (.ak .o (B.set n (aU u))) ((a,.ak (vs.set n v))::(b++[])) z M .nil tT tq (List.Perm.refl _) ⟨a,_,b++[],rfl,rfl,by rw[append_nil];exact J⟩;∎;exact⟨a,vs,_,n,rfl,rfl,d.g.h _ _ ha,by rw[A.length];exact en,L.nx s _ j _ m I e⟩
  .exact e.elim
 .exact e.elim
def C7(y:Tr)(Q:bD->Prop):Prop:=match wK y with |some y=>Q y |none=>False
def gi(f:Str)(u:Tr):bT->bT
 |[]=>[(f,u)]
 |(g,x)::r=>if g=f then (g,u)::r else (g,x)::gi f u r
theorem Rf.put:∀{fs:bT}{vs:List (Str×V)}{h:Cs}{f:Str}{t:Tr}{v:V}{e:Cs},Rf K F B fs vs h->R K F B t v e->∃ds' d,Rf K F B (gi f t fs) (eL f v vs) d/\ds'.Sublist h/\d.Perm (ds'++e)
 |[],_,_,f,t,v,e,y,rt=>by let⟨a,b⟩:=y;exact⟨[],e,by rw[a];exact⟨v,[],e,[],rfl,by rw[append_nil],rt,rfl,rfl⟩,by rw[b];exact List.Sublist.refl _,List.Perm.refl _⟩
 |(g,x)::fs,_,_,f,t,w,e,y,rt=>by
  let⟨v,r,c,d,a,b,j,i⟩:=y;by_cases z:g=f
  .refine⟨d,e++d,?_,by rw[b];exact List.sublist_append_right c d,List.perm_append_comm⟩;rw[a];show Rf K F B (if g=f then (g,t)::fs else _) (if g=f then (g,w)::r else _) _;rw[if_pos z,if_pos z];exact⟨w,r,e,d,rfl,rfl,rt,i⟩
  .obtain⟨d',d2,a1,a2,a3⟩:=Rf.put (f:=f) i rt;refine⟨c++d',c++d2,?_,by rw[b];exact a2.append_left c,by rw[append_assoc];exact a3.append_left c⟩;rw[a];show Rf K F B (if g=f then _ else (g,x)::gi f t fs) (if g=f then _ else (g,v)::eL f w r) _;rw[if_neg z,if_neg z];exact⟨v,_,c,d2,rfl,rfl,j,a1⟩
theorem Rf.length:∀{fs:bT}{vs:List (Str×V)}{a:Cs},Rf K F B fs vs a->vs.length=fs.length
 |[],_,_,y=>by let⟨h,_⟩:=y;rw[h];rfl
 |(k,x)::xs,_,_,y=>by let⟨v,r,c,d,b,f,g,e⟩:=y;rw[b,length_cons,length_cons,Rf.length e]
def kN(K:ao)(f:Str)(u:Tr)(Q:ah->bT->Prop):Prop:=match u with |.ins .o c fs=>(dF K c/\aD K c f)/\fs.length<900/\Q c fs |_=>False
theorem EZ{Q:ah->bT->Prop}(h:kN K f u Q):∃c fs,u=.ins .o c fs/\(dF K c/\aD K c f)/\fs.length<900/\Q c fs:=by
 unfold kN at h;split at h
 .exact⟨_,_,rfl,h⟩
 .exact h.elim
def vU(K:ao)(i:Nat)(r:ae)(f:Str)(pe:aW):cc:=λD j=>pe (j.map aM) λt=>b8 t=true/\hV K j i r λu s=>kN K f u λc fs=>D.nx (s (.ins .o c (gi f t fs)))
theorem R5(h:bu K k te pe):cK K k lo (CM K (tR K i r) te f) (vU K i r f pe):=λus Fb s F H j y cs D D' W p L=>by
 refine h F (Bq s H) H j _ _ _ W.eA p λu v m n J q o=>?_
 have x:=W.gr o.g;∎;let⟨n1,M⟩:=W.fresh o;let⟨t,O,Q,U,p⟩:=qq q.2;let⟨C,fs,Y,ok,hl,p⟩:=EZ p;let⟨w,c,r1,sub,hc,rd,cl⟩:=x.at O Q r U;∎;rw[Y] at r1;let⟨a,b,vs,N,rfl,z,A⟩:=r1;have ha:n a=some (.ins C b vs):=hc.h (a,.ins C b vs) (by rw[z];exact .head _);∎;let⟨l,d,E,G,I⟩:=A.put (f:=f) (R.low (B':=λ_=>s) u q.1 rfl o.r);let⟨e,B⟩:=cl m n x (Le.refl _) a (.ins C b vs) (.ins C b (eL f v vs)) N l J (.ins .o C (gi f u fs)) ((a,.ins C b (eL f v vs))::d) z G o.c n1 M (List.Perm.cons _ I) ⟨a,b,_,d,rfl,rfl,E⟩;∎;exact rd _ ⟨a,C,b,vs,rfl,ha,ok.1,ok.2,lt_of_lt_of_le (by rw[A.length];exact hl) ∎,L.nx m _ j _ e B p⟩
end
section
def vV:bD->Tr |.inl n=>.int n |.inr s=>.str s
theorem XN:R K F B (vV y) (kV y) []:=by
 cases y with
 |inl n=>exact⟨rfl,rfl⟩
 |inr n=>exact⟨rfl,rfl⟩
end
section
def BX(K:ao):ax->Hp->VK->Prop:=λb H Q=>(λb H Q=>∃x n,b=[x]/\CL K x H n/\Q (.int n) H) b H Q\/(λb H Q=>∃a c,b=[V.ref a]/\H a=some (.dK c)/\Q (.int c.length) H) b H Q
theorem dk:a9 X (.builtin "len") (BX X.K):=Kl.or Pt
def BM(K:ao):ax->Hp->VK->Prop:=λb H Q=>(λb H Q=>∃p d,b=[.ref p]/\(bM K H p d\/cZ K H p d)/\∀l,H l=none->Q (.ref l) (a6 H l (.ak d))) b H Q\/(λb H Q=>∃a c,b=[.ref a]/\Rd H a (.dK c)/\∀p,H p=none->Q (.ref p) (a6 H p (.ak (c.map λe=>kV e.1)))) b H Q
theorem Wf(a:X.calm=true):a9 X (.type "list") (BM X.K):=Kh.or (Ot a)
def C8(K:ao):R2:=λx y H Q=>q9 K false x y H Q\/pJ false x y H Q
theorem lG(a:X.A.units+1<cLine:=by assumption):bZ X (compareOp .In) (C8 X.K):=Ke.or (V9 a)
def BR(K:ao):R2:=λx y H Q=>q9 K true x y H Q\/pJ true x y H Q
theorem mv(a:X.A.units+1<cLine:=by assumption):bZ X (compareOp .NotIn) (BR X.K):=Kg.or (O4 a)
def C9(K:ao):V->bt->bt->Hp->VK->Prop:=λx l h H Q=>CW K x l h H Q\/CZ x l h H Q
theorem IA:jO X (C9 X.K):=Kk.or WQ
end
section
def pN(k:Bool)(a:ai)(Q:ar):Prop:=match a with
 |[.str x]=>x.length <= 1000000 /\ Q (.int x.length)
 |[.ak _ xs]=>Q (.int xs.length)
 |[.aY xs]=>Q (.int xs.length)
 |[.bJ .f m]=>k=true /\ Q (.int m.length)
 |[.bJ .o m]=>Q (.int m.length)
 |_=>False
theorem dt:gy K k (BX K) (pN k.z):=λF B H o n l Q j s b z r f p q=>by
 unfold pN at p;split at p
 .obtain⟨v,rfl,rfl,_⟩:=r.one;exact .inl ⟨_,_,rfl,⟨lA p.1,rfl⟩,q _ _ F H [] p.2 (Gr.aH s) ⟨rfl,rfl⟩ .nil λ_ m=>nomatch m⟩
 .obtain⟨v,rfl,r1⟩:=r.one;let⟨a,vs,g,rfl,d,c,_⟩:=r1.cj s b f;exact .inl ⟨_,_,rfl,.inl ⟨vs,d,rfl⟩,q (.int vs.length) _ F H [] (by rw[<- c.length] at p;exact p) (Gr.aH s) ⟨rfl,rfl⟩ .nil λ_ m=>nomatch m⟩
 .obtain⟨v,rfl,r1⟩:=r.one;let⟨a,vs,rfl,d,c⟩:=r1.cQ s;exact .inl ⟨_,_,rfl,.inr ⟨vs,d,rfl⟩,q (.int vs.length) _ F H [] (by rw[<- c.length] at p;exact p) (Gr.aH s) ⟨rfl,rfl⟩ .nil λ_ m=>nomatch m⟩
 .obtain⟨v,rfl,r1⟩:=r.one;let⟨_,a,vs,rfl,c,e,i⟩:=r1;exact .inr ⟨a,vs,rfl,s _ _ (Te (z p.1) c),q (.int vs.length) _ F H [] (by rw[<- e.length] at p;exact p.2) (Gr.aH s) ⟨rfl,rfl⟩ .nil λ_ m=>nomatch m⟩
 .obtain⟨v,rfl,r1⟩:=r.one;let⟨a,vs,g,rfl,c,e,i⟩:=r1;exact .inr ⟨a,vs,rfl,f.h (a,.dK vs) (by rw[c];exact .head _),q (.int vs.length) _ F H [] (by rw[<- e.length] at p;exact p) (Gr.aH s) ⟨rfl,rfl⟩ .nil λ_ m=>nomatch m⟩
 .exact p.elim
theorem Rk.lL:∀{m:eJ}{vs:iM}{a:Cs},Rk K F B m vs a->Rs K F B (m.map λp=>vV p.1) (vs.map λf=>kV f.1) []
 |[],_,_,y=>by let⟨h,_⟩:=y;rw[h];exact⟨rfl,rfl⟩
 |(y,x)::m,_,_,y0=>by let⟨v,r,c,d,b,g,i,e⟩:=y0;rw[b];exact⟨kV y,_,[],[],rfl,rfl,XN,Rk.lL e⟩
theorem xH{xs:ai}{vs:ax}{cs e:Cs}{p:ah}{Q:VK}{d:ar}(s:aA F H)(r:Rs K F B xs vs cs)(c:au F H cs)(sub:∀p∈cs,p∈e)(f:H p=none)(h:d (.ak .o xs))(q:∀t v a b cs,d t->Gr F H a b->R K a B t v cs->au a b cs->(∀p∈cs,H p.1=none\/p∈e)->Q v b):Q (.ref p) (a6 H p (.ak vs)):=by
 let⟨g,i,j⟩:=nI s r c f;refine q _ _ F _ _ h g i j λp m=>?_
 cases m with
 |head=>exact .inl f
 |tail _ m=>exact .inr (sub p m)
def vW(a:ai)(Q:ar):Prop:=match a with
 |[.ak _ xs]=>Q (.ak .o xs)
 |[.aY xs]=>Q (.ak .o xs)
 |[.bJ _ m]=>Q (.ak .o (m.map λp=>vV p.1))
 |_=>False
theorem R6:gy K k (BM K) vW:=λF B H u o n Q j s b z r f p q=>by
 unfold vW at p;split at p
 .obtain⟨v,rfl,r1⟩:=r.one;let⟨a,vs,i,rfl,c,d,g,h⟩:=r1.cj s b f;exact .inl ⟨_,_,rfl,.inl c,λl e=>xH s d g h e p q⟩
 .obtain⟨v,rfl,r1⟩:=r.one;let⟨a,vs,rfl,c,d⟩:=r1.cQ s;exact .inl ⟨_,_,rfl,.inr c,λl e=>xH s d f (λ_ m=>m) e p q⟩
 .obtain⟨v,rfl,r1⟩:=r.one;let⟨a,vs,i,rfl,c,d,g,h⟩:=r1.ko s b f;exact .inr ⟨_,_,rfl,c,λl e=>xH s d.lL .nil (λ_ m=>nomatch m) e p q⟩
 .exact p.elim
def wu(a:ai)(Q:ar):Prop:=match a with
 |[.int i]=>i.natAbs.log2 < 1920 /\ Q (.str (toString i))
 |_=>False
theorem Ga:gy K k (λxs H Q=>∃i,xs=[.int i]/\i.natAbs.log2<1920/\Q (.str (toString i)) H) wu:=λF B H xs e c Q a s b z r d p q=>by
 unfold wu at p;split at p
 .obtain⟨v,rfl,rfl,_⟩:=r.one;exact⟨_,rfl,p.1,q _ _ F H [] p.2 (Gr.aH s) ⟨rfl,rfl⟩ .nil λ_ m=>nomatch m⟩
 .exact p.elim
def vX(a:ai)(Q:ar):Prop:=match a with
 |[.bl b]=>Q (.int (if b=true then 1 else 0))
 |_=>False
theorem xI:gy K k (λxs H Q=>∃b,xs=[.bl b]/\Q (.int (if b=true then 1 else 0)) H) vX:=λF B H xs e c Q a s b z r d p q=>by
 unfold vX at p;split at p
 .obtain⟨v,rfl,rfl,_⟩:=r.one;exact⟨_,rfl,q _ _ F H [] p (Gr.aH s) ⟨rfl,rfl⟩ .nil λ_ m=>nomatch m⟩
 .exact p.elim
def Tc:Tr->Option String
 |.int _=>some "int" |.bl _=>some "bool" |.str _=>some "str" |.aX=>some "NoneType" |.aY _=>some "tuple" |.ak _ _=>some "list" |.bJ _ _=>some "dict" |_=>none
def sR:Tr->dO
 |.ty n=>some (.type n) |.cl a=>some (.ref a) |_=>none
def u0(K:ao)(a:ai)(Q:ar):Prop:=match a with
 |[x,c]=>(match Tc x,sR c with |some t,some u=>∃b,W.kitOne K (.type t) u=some b /\ Q (.bl b) |_,_=>False)
 |_=>False
theorem Wg:gy K k (λxs H Q=>∃x c t b u,xs=[x,c]/\je K H x t/\l0 c=some u/\W.kitOne K t u=some b/\Q (.bl b) H) (u0 K):=λF B H xs E C Q y s b z r g p q=>by
 unfold u0 at p;split at p
 .rename_i x c;let⟨v,w,A,D,rfl,r1,r2,e⟩:=r.two;rw[e] at g;split at p
  .rename_i t u e1 e2;let⟨h,j,p⟩:=p;have o:l0 w=some u:=by
    cases c with
    |ty n=>cases e2;rw[r2.1];rfl
    |cl a=>cases e2;rw[r2.1];rfl
    |_=>cases e2
   have l:je K H v (.type t):=by
    cases x with
    |int n=>cases e1;rw[r1.1];exact WM
    |bl n=>cases e1;rw[r1.1];exact Yz
    |str n=>cases e1;rw[r1.1];exact WN
    |aX=>cases e1;rw[r1.1];exact WO
    |aY xs=>cases e1;let⟨a,vs,rfl,d,_⟩:=r1.cQ s;exact WJ d
    |ak f xs=>cases e1;let⟨a,vs,i,rfl,d,_⟩:=r1.cj s b g.left;exact WK d
    |bJ f xs=>cases e1;let⟨a,vs,i,rfl,d,_⟩:=r1.ko s b g.left;exact WL d
    |_=>cases e1
   exact⟨v,w,_,h,u,rfl,l,o,j,q _ _ F H [] p (Gr.aH s) ⟨rfl,rfl⟩ .nil λ_ m=>nomatch m⟩
  .exact p.elim
 .exact p.elim
def iP:Tr->Bool
 |.int _=>true |.bl _=>true |.str _=>true |.aX=>true |_=>false
def kT:Tr->V
 |.int n=>.int n |.bl b=>.bl b |.str x=>.str x |_=>.aX
theorem yJ(r:R K F B t v cs)(h:iP t=true):v=kT t/\gC v=true:=by
 cases t with
 |int n=>rw[r.1];exact⟨rfl,rfl⟩
 |bl n=>rw[r.1];exact⟨rfl,rfl⟩
 |str n=>rw[r.1];exact⟨rfl,rfl⟩
 |aX=>rw[r.1];exact⟨rfl,rfl⟩
 |_=>cases h
theorem tU:∀{a:ai}{vs:ax}{cs:Cs},Rs K F B a vs cs->a.all iP=true->vs=a.map kT/\vs.all gC=true
 |[],_,_,⟨h,_⟩,_=>by rw[h];exact⟨rfl,rfl⟩
 |x::xs,_,_,⟨v,r,c,d,h1,h2,h3,h4⟩,h=>by
  rw[all_cons,and_eq_true] at h;let⟨b,f⟩:=yJ h3 h.1;let⟨e,g⟩:=tU h4 h.2;rw[h1,e,b];exact⟨rfl,by rw[all_cons,<- e,g,<- b,f];rfl⟩
def i6(x:Tr)(xs:ai):Bool:=qO (kT x) (xs.map kT)
def kC(neg:Bool)(x y:Tr)(Q:ar):Prop:=match y with
 |.ak _ a=>iP x=true /\ a.all iP=true /\ Q (.bl (if neg=true then !i6 x a else i6 x a))
 |.aY a=>iP x=true /\ a.all iP=true /\ Q (.bl (if neg=true then !i6 x a else i6 x a))
 |.bJ _ m=>C7 x λy=>Q (.bl (if neg=true then !(look m y).isSome else (look m y).isSome))
 |_=>False
theorem Gb:cW K k (λx y H Q=>q9 K neg x y H Q\/pJ neg x y H Q) (kC neg):=λF B H x y tx ty A C Q w s b z j l D n hd p q=>by
 unfold kC at p;split at p
 .obtain⟨h1,h2,p⟩:=p;∎;let⟨a,vs,o,rfl,d,g,_⟩:=l.cj s b n;let⟨e,f⟩:=yJ j h1;let⟨h,i⟩:=tU g h2;∎;refine .inl ⟨a,vs,rfl,.inl d,f,i,q _ _ F H [] p (Gr.aH s) ⟨?_,rfl⟩ .nil λ_ m=>nomatch m⟩;rw[e,h];cases neg<;>rfl
 .obtain⟨h1,h2,p⟩:=p;∎;let⟨a,vs,rfl,d,g⟩:=l.cQ s;let⟨e,f⟩:=yJ j h1;let⟨h,i⟩:=tU g h2;∎;refine .inl ⟨a,vs,rfl,.inr d,f,i,q _ _ F H [] p (Gr.aH s) ⟨?_,rfl⟩ .nil λ_ m=>nomatch m⟩;rw[e,h];cases neg<;>rfl
 .obtain⟨a,vs,o,rfl,d,g,g3,_⟩:=l.ko s b n;unfold C7 at p;split at p
  .rename_i yk ey;obtain rfl:=GQ j ey;rcases g.look yk g3 with⟨r,v⟩ |⟨x,u,c,e,f,_⟩
   .refine .inr ⟨a,none,rfl,.inl ⟨vs,yk,d,rfl,v.symm⟩,q _ _ F H [] p (Gr.aH s) ⟨?_,rfl⟩ .nil λ_ m=>nomatch m⟩;rw[r];cases neg<;>rfl
   .refine .inr ⟨a,some u,rfl,.inl ⟨vs,yk,d,rfl,f.symm⟩,q _ _ F H [] p (Gr.aH s) ⟨?_,rfl⟩ .nil λ_ m=>nomatch m⟩;rw[e];cases neg<;>rfl
  .exact p.elim
 .exact p.elim
theorem k9:cW K k (C8 K) (kC false):=Gb
theorem mf:cW K k (BR K) (kC true):=Gb
def gV(K:ao)(f:Str)(x:Tr)(Q:ar):Prop:=match x with
 |.ins _ c fs=>(dF K c /\ aD K c f) /\ (match fs.lookup f with |some t=>Q t |none=>False)
 |_=>False
theorem Rf.look:∀{fs:bT}{vs:List (Str×V)}{a:Cs}{f:Str}{x:Tr},Rf K F B fs vs a->au F H a->fs.lookup f=some x->∃u c,vs.lookup f=some u/\R K F B x u c/\au F H c/\∀p∈c,p∈a:=λ{fs vs a f x} h d e=>by
 let⟨w,c,pre,g,i,j,b,_⟩:=h.at e;rw[b] at d;exact⟨w,c,i,j,d.left.right,λp m=>by rw[b];exact mem_append.mpr (.inl (mem_append.mpr (.inr m)))⟩
theorem Ug(h:bu K k te pe):bu K k (vF K te f) (p1 (gV K f) pe):=λF B H j y Q J c p q=>by
 refine h F B H j y _ _ c p λx v i l L p1 e=>?_
 unfold gV at p1;split at p1
 .obtain⟨ok,p1⟩:=p1;split at p1
  .rename_i t et;∎;let⟨a,C,vs,M,rfl,D,E,G,I⟩:=e.r.kr e.g.s (λk=>(c.b k).trans e.g.h) e.c;let⟨u,d,o,w,z,A⟩:=E.look G et;∎;exact⟨a,_,C,vs,u,rfl,D,ok.1,ok.2,o,q _ _ i l d p1 ⟨e.g,w,z,λp m=>e.n p (I p (A p m))⟩⟩
  .exact p1.elim
 .exact p1.elim
def p3(d:Tr->Tr->Tr->(ar)->Prop)(a b c:aW):aW:=λj Q=>a j λx=>(match x with |.bJ _ _=>True |_=>False)/\b j λy=>c j λz=>d x y z Q
abbrev jN:=ai->(bt->Prop)->Prop
def l9(K:ao)(k:Md)(e:TO)(pe:jN):Prop:=∀(F:Hp)(B:Bool->Hp)(H:Hp)(j:St)(y:ai)(Q:bt->Hp->Prop)(c:bt->Prop),gv K k F B H j y->pe y c->(∀b d a,c b->Gr F H d a->Q b a)->e j H Q
def kz:jN:=λ_ Q=>Q none
def gO(pe:aW):jN:=λj Q=>pe j λx=>match x with |.int i=>Q (some i) |_=>False
theorem Wh:l9 K k BD kz:=λF B H j y Q a c p q=>q none F H p (Gr.aH c.s)
theorem Wj(h:bu K k te pe):l9 K k (B7 te) (gO pe):=λF B H j y Q e c p q=>by
 refine h F B H j y _ _ c p λx v b d f p1 a=>?_
 split at p1
 .obtain⟨rfl,_⟩:=a.r;exact⟨_,rfl,q _ b d p1 a.g⟩
 .exact p1.elim
def dQ{j:Type}(xs:List j)(l h:bt):List j:=(xs.drop (HT.bF xs.length 0 l)).take (HT.bF xs.length xs.length h - HT.bF xs.length 0 l)
theorem Rs.drop:∀(n:Nat){xs:ai}{vs:ax}{a:Cs},Rs K F B xs vs a->au F H a->∃d,Rs K F B (xs.drop n) (vs.drop n) d/\au F H d/\∀p∈d,p∈a
 |0,_,_,a,h,hc=>⟨a,h,hc,λ_ m=>m⟩
 |n + 1,[],_,a,y,_=>by let⟨b,e⟩:=y;exact⟨[],by rw[b];exact⟨rfl,rfl⟩,.nil,λ_ m=>nomatch m⟩
 |n + 1,x::xs,_,_,y,hc=>by
  let⟨v,r,c,d,b,e,l,k⟩:=y;rw[e] at hc;let⟨j,f,g,i⟩:=Rs.drop n k hc.right;exact⟨j,by rw[b];exact f,g,λp m=>by rw[e];exact mem_append.mpr (.inr (i p m))⟩
theorem Rs.take:∀(n:Nat){xs:ai}{vs:ax}{a:Cs},Rs K F B xs vs a->au F H a->∃d,Rs K F B (xs.take n) (vs.take n) d/\au F H d/\∀p∈d,p∈a
 |0,_,_,a,h,hc=>⟨[],⟨rfl,rfl⟩,.nil,λ_ m=>nomatch m⟩
 |n + 1,[],_,a,y,_=>by let⟨b,e⟩:=y;exact⟨[],by rw[b];exact⟨rfl,rfl⟩,.nil,λ_ m=>nomatch m⟩
 |n + 1,x::xs,_,_,y,hc=>by
  let⟨v,r,c,d,b,e,k,l⟩:=y;rw[e] at hc;let⟨g,i,j,f⟩:=Rs.take n l hc.right;refine⟨c++g,by rw[b];exact⟨v,_,c,g,rfl,rfl,k,i⟩,hc.left.app j λp o q s=>?_,λp m=>by rw[e];exact (mem_append.mp m).elim (λm=>mem_append.mpr (.inl m)) λm=>mem_append.mpr (.inr (f p m))⟩;have:=hc.nd;rw[map_append,nodup_append] at this;exact this.2.2 _ (mem_map.mpr ⟨p,o,rfl⟩) _ (mem_map.mpr ⟨q,f q s,rfl⟩)
def rh(x:Tr)(l h:bt)(Q:ar):Prop:=match x with
 |.ak _ a=>Q (.ak .o (dQ a l h))
 |.str x=>x.length <= 1000000 /\ Q (.str (Txt.slice x l h))
 |_=>False
def iH(pe:aW)(pl a:jN):aW:=λj Q=>pe j λx=>pl j λl=>a j λh=>rh x l h Q
theorem Wl(h:bu K k te pe)(Y:l9 K k tl pl)(U:l9 K k th ph):bu K k (Ac (C9 K) te tl th) (iH pe pl ph):=λF B H j y Q Q' c p q=>by
 refine h F B H j y _ _ c p λx v z C c1 p1 e=>?_
 refine Y z B C j y _ _ (c.gr e.g) p1 λl A D p2 w=>?_
 refine U A B D j y _ _ ((c.gr e.g).gr w) p2 λh u E p3 O=>?_
 have d:=w.trans' O;have i:=(c.gr e.g).gr d;have r3:=e.r.mo d.le (λk=>Le.refl (B k)) x;have o:=e.c.gr d;unfold rh at p3;split at p3
 .obtain⟨a,vs,ds,rfl,h1,h2,h3,h4⟩:=r3.cj i.s i.b o;refine .inl ⟨a,vs,rfl,h1,λl' f=>?_⟩;∎;let⟨d1,G,I,J⟩:=h2.drop (HT.bF vs.length 0 l) h3;let⟨d2,L,M,N⟩:=G.take (HT.bF vs.length vs.length h - HT.bF vs.length 0 l) I;let⟨n1,n2,n3⟩:=nI i.s L M f;∎;refine q _ _ u _ _ p3 ⟨(e.g.trans' d).trans' n1,?_,n3,λp m=>?_⟩
  .unfold dQ;rw[<- h2.length];exact n2
  .cases m with
   |head=>exact (e.g.h.trans d.h).free f
   |tail _ m=>exact e.n p (h4 p (J p (N p m)))
 .obtain⟨rfl,_⟩:=r3;exact .inr ⟨_,rfl,lA p3.1,q _ _ u E [] p3.2 ⟨e.g.trans' d,⟨rfl,rfl⟩,.nil,.nil⟩⟩
 .exact p3.elim
end
section
def lZ(ix:bK)(j:ai):ai:=ix.map λo=>match o with |none=>.aL |some i=>(j[i]?).getD .aL
theorem ef.pick(e:ef K F B y G):ef K F B (fa ix y) (lZ ix G):=λj t h=>by
 unfold lZ at h;rw[getElem?_map] at h;cases q:ix[j]? with
 |none=>rw[q] at h;cases h
 |some o=>
  rw[q] at h;cases o with
  |none=>cases h;exact .inl rfl
  |some i=>
   cases z:G[i]? with
   |none=>
    have h:some ((G[i]?).getD .aL)=some t:=h;rw[z] at h;cases h;exact .inl rfl
   |some u=>
    have h:some ((G[i]?).getD .aL)=some t:=h;rw[z] at h;cases h;refine (e i u z).imp id λa=>?_
    let⟨v,b,c⟩:=a;refine⟨v,?_,c⟩;unfold fa;rw[getElem?_map,q];show some ((y[i]?).getD none)=_;rw[b];rfl
theorem zp:∀{a b:St},a.length=b.length->(∀(i:Nat)(v:V),a[i]?=some (some v)->b[i]?=some (some v))->Wk a b
 |[],[],_,_=>.nil
 |[],_::_,h,_=>by cases h
 |_::_,[],h,_=>by cases h
 |none::a,y::b,h,g=>.aX (zp (Nat.succ.inj h) λi v e=>g (i + 1) v e)
 |some x::a,y::b,h,g=>by
  have e:=g 0 x rfl;cases e;exact .uW (zp (Nat.succ.inj h) λi v e=>g (i+1) v e)
def wz(K:ao)(d:List Nat)(e:TG)(pg:eV):Prop:=∀(F:Hp)(B:Bool->Hp)(H:Hp)(j:St)(y:ai)(x:V)(t:Tr)(Q:St->Hp->Prop)(c:aG),aA F H->ef K F B j y->j.length=y.length->R K F B t x []->pg t y c->(∀a b,ef K F B a b->a.length=b.length->a.length=j.length->(∀i,i ∉ d->a[i]?=j[i]?)->c b->Q a H)->e x j H Q
theorem ef.set(e:ef K F B y G)(c:y.length=G.length)(r:R K F B t x []):ef K F B (y.set i (some x)) (G.set i t):=λj u h=>by
 by_cases a:j=i
 .subst a;have b:j<G.length:=by have:=HQ h;rw[length_set] at this;exact this
  rw[getElem?_set_self b] at h;cases h;exact .inr ⟨x,getElem?_set_self (by rw[c];exact b),r⟩
 .rw[getElem?_set_ne (λz=>a z.symm)] at h;exact (e j u h).imp id λ⟨v,h1,h2⟩=>⟨v,by rw[getElem?_set_ne (λz=>a z.symm)];exact h1,h2⟩
theorem Wm:wz K [i] (jr i) (oh i):=λF B H y u x t Q c s e a r p q=>q _ _ (e.set a r) (by rw[length_set,length_set];exact a) (by rw[length_set]) (λj b=>getElem?_set_ne λz=>b (by rw[z];exact mem_singleton.mpr rfl)) p
def pO:di:=λ_ Q=>Q true
theorem Uh:fb K k CY pO:=λF B H j y Q a c p q=>q true F H p (Gr.aH c.s)
def vY(e:iL)(pg:eV)(pt:di)(pe:aW)(ix:bK):aW:=λj Q=>e j λd _=>∃I:Nat->aG,I 0 []/\
 (∀i t a,d[i]?=some t->I i a->pg t (lZ ix j) λc=>pt c λb=>if b=true then pe c λx=>a.length<1000000/\I (i+1) (a++[x]) else I (i+1) a)/\∀a,I d.length a->a.length<=1000000/\Q (.ak .o a)
theorem R7{wi:TI}{pi:iL}{js:List Nat}{tg:TG}{pg:eV}{ti:TT}{pt:di}{te:TE}{pe:aW}{ix:bK}(hi:l7 K k wi pi)(hg:wz K js tg pg)(ht:fb K k.gM ti pt)(he:bu K k.gM te pe)(hj:∀j∈js,ix[j]?=some none):bu K k (B9 wi tg ti te ix) (vY pi pg pt pe ix):=λF B H G O Q Q' c p q=>by
 refine hi F B H G O _ _ c p λts nl J F1 H1 p1 E δ _=>?_
 ∎;let⟨I,i0,step,α⟩:=p1;let⟨Kp,Y,C,kp,yl⟩:=δ;∎;have c1:=c.gr E;refine YA (n:=ts.length) (λi w f=>∃o us d,Gr F1 H1 o f/\Rs K o B us w d/\au o f d/\dh H1 d/\I i us) ⟨F1,[],[],Gr.aH E.s,⟨rfl,rfl⟩,.nil,.nil,i0⟩ ?_ ?_ ?_ ?_
 .rintro i w f hlt ⟨o,us,d,g2,_⟩;exact C.go i f hlt (kp o f g2.le g2.s (c1.gr g2).b)
 .rintro w f ⟨o,us,d,g2,_⟩;exact C.st f (kp o f g2.le g2.s (c1.gr g2).b)
 .rintro i x w f H3 hlt ⟨o,us,d,g2,r2,hc2,n2,ii⟩ y;have c2:=c1.gr g2;∎;let⟨t,et⟩:=HR hlt;let⟨U,g3,r3⟩:=yl i t o f x H3 et g2.le g2.s c2.b (C.yl i f x H3 hlt (kp o f g2.le g2.s c2.b) y);∎;have D:=c2.gr g3;have β:(fa ix G).length=(lZ ix O).length:=by unfold fa lZ;rw[length_map,length_map]
  refine hg U B H3 _ _ x t _ _ D.s D.e.pick β r3 (step i t us et ii) λG2 O2 e2 l2 γ n3 p2=>⟨zp γ.symm λj v M=>?_,?_⟩
  .by_cases hjs:j∈js
   .have z:=hj j hjs;unfold fa at M;rw[getElem?_map,z] at M;cases M
   .rw[n3 j hjs];exact M
  .have c3':gv K k.gM U B H3 G2 O2:=⟨D.s,D.b,D.z,e2,λ_ _ _ h=>h.elim⟩
   refine ht U B H3 G2 O2 _ _ c3' p2 λb F4 H4 N g4=>?_
   have l:=g3.trans' g4;cases b with
   |false=>
    rw[if_neg ∎] at N ⊢;exact⟨F4,us,d,g2.trans' l,r2.mo l.le (λk=>Le.refl (B k)) us,hc2.gr l,n2,N⟩
   |true=>
    rw[if_pos rfl] at N ⊢;refine he F4 B H4 G2 O2 _ _ (c3'.gr g4) N λu v F5 H5 c5 p5 L=>?_
    have A:=l.trans' L.g;refine⟨lt_of_lt_of_le (by rw[r2.length];exact p5.1) ∎,F5,us++[u],d++c5,g2.trans' A,(r2.mo A.le (λk=>Le.refl (B k)) us).snoc L.r,(hc2.gr A).app L.c λp mp q mq e=>?_,λp m=>?_,p5.2⟩
    .have:=(hc2.gr l).h p mp;rw[e,L.n q mq] at this;cases this
    .rcases mem_append.mp m with m |m
     .exact n2 p m
     .exact (g2.h.trans l.h).free (L.n p m)
 .rintro w f ⟨o,us,d,g2,r2,hc2,n2,ii⟩;let⟨hl,hq⟩:=α us ii;refine⟨by rw[r2.length];exact lA hl,λa ha=>?_⟩;let⟨m1,m2,m3⟩:=nI g2.s r2 hc2 ha;refine q _ _ o _ _ hq ⟨(E.trans' g2).trans' m1,m2,m3,λp m=>?_⟩;cases m with
  |head=>exact (E.h.trans g2.h).free ha
  |tail _ m=>exact E.h.free (n2 p m)
end
mutual
noncomputable def fe:Tr->Tr->Option Bool
 |.aY xs,.aY ys=>if xs.length=ys.length then fC xs ys else none
 |.ak _ xs,.ak _ ys=>if xs.length=ys.length then fC xs ys else some false
 |.int a,.int b=>some (decide (a=b))
 |.str a,.str b=>some (decide (a=b))
 |.bl a,.bl b=>some (decide (a=b))
 |.aX,.aX=>some true
 |_,_=>none
noncomputable def fC:List Tr->List Tr->Option Bool
 |[],[]=>some true
 |x::xs,y::ys=>(fe x y).bind λa=>(fC xs ys).bind λb=>some (a&&b)
 |_,_=>none
end
mutual
noncomputable def dep:Tr->Nat
 |.aY a=>eM a + 1
 |.ak _ a=>eM a + 1
 |_=>0
noncomputable def eM:List Tr->Nat
 |[]=>0
 |x::xs=>max (dep x) (eM xs)
end
section
mutual
theorem yK(I:aw X aa j H s)(i:aA F H)(sb:∀k,aA (B k) H):∀(t:Tr)(t':Tr)(v:V)(c d:Cs)(b:Bool),fe t t'=some b->R X.K F B t v c->R X.K F B t' v d->au F H c->au F H d->b=true
 |.aY y=>λt' v c d b e r g w h=>by
  cases t' with
  |aY A=>
   unfold fe at e;split at e
   .obtain⟨a,vs,rfl,u,n⟩:=r.cQ i;let⟨l,x,p,q,m⟩:=g.cQ i;cases p;have z:=Tg I u q;subst z;exact fD I i sb y A vs c d b e n m w h
   .cases e
  |_=>cases e
 |.ak f y=>λt' v c d b e r g w h=>by
  cases t' with
  |ak G A=>
   unfold fe at e;∎;let⟨a,vs,C,rfl,u,n,E,_⟩:=r.cj i sb w;let⟨l,x,o,p,q,m,D,_⟩:=g.cj i sb h;∎;cases p;have z:=yi I u q;subst z;split at e
   .exact fD I i sb y A vs C o b e n m E D
   .rename_i hl;exact absurd (n.length.symm.trans m.length) hl
  |_=>cases e
 |.int a=>λt' v c d b e r g _ _=>by
  cases t' with
  |int l=>cases e;have:=r.1.symm.trans g.1;cases this;exact decide_eq_true rfl
  |_=>cases e
 |.str a=>λt' v c d b e r g _ _=>by
  cases t' with
  |str l=>cases e;have:=r.1.symm.trans g.1;cases this;exact decide_eq_true rfl
  |_=>cases e
 |.bl a=>λt' v c d b e r g _ _=>by
  cases t' with
  |bl l=>cases e;have:=r.1.symm.trans g.1;cases this;exact decide_eq_true rfl
  |_=>cases e
 |.aX=>λt' v c d b e r g _ _=>by
  cases t' with
  |aX=>cases e;rfl
  |_=>cases e
 |.aL=>λt' v c d b e _ _ _ _=>by cases t' <;> cases e
 |.ty _=>λt' v c d b e _ _ _ _=>by cases t' <;> cases e
 |.cl _=>λt' v c d b e _ _ _ _=>by cases t' <;> cases e
 |.exc _=>λt' v c d b e _ _ _ _=>by cases t' <;> cases e
 |.bJ _ _=>λt' v c d b e _ _ _ _=>by cases t' <;> cases e
 |.ins _ _ _=>λt' v c d b e _ _ _ _=>by cases t' <;> cases e
theorem fD(I:aw X aa j H s)(m:aA F H)(sb:∀k,aA (B k) H):∀(n:List Tr)(d:List Tr)(vs:List V)(c g:Cs)(b:Bool),fC n d=some b->Rs X.K F B n vs c->Rs X.K F B d vs g->au F H c->au F H g->b=true
 |[]=>λd vs c g b e _ _ _ _=>by
  cases d with
  |nil=>cases e;rfl
  |cons _ _=>cases e
 |x::xs=>λd vs c g b e r l h f=>by
  cases d with
  |nil=>cases e
  |cons y o=>
   ∎;let⟨v,r,q,w,E,G,J,L⟩:=r;let⟨M,l,u,z,i,A,C,D⟩:=l;∎;rw[E] at i;cases i;rw[G] at h;rw[A] at f;unfold fC at e;cases e1:fe x y with
   |none=>rw[e1] at e;cases e
   |some a=>
    cases e2:fC xs o with
    |none=>rw[e1,e2] at e;cases e
    |some p=>
     rw[e1,e2] at e;cases e;rw[yK I m sb x y v q u a e1 J C h.left f.left,fD I m sb xs o r w z p e2 L D h.right f.right];rfl
end
def gJ(b a:ai)(j:Nat):Bool:=match b[j]?,a[j]? with |some x,some y=>(fe x y).getD false |_,_=>false
theorem mw:∀{d c:ai}{b:Bool},fC d c=some b->(List.range d.length).all (gJ d c)=b/\∀(j:Nat)(x y:Tr),d[j]?=some x->c[j]?=some y->fe x y=some (gJ d c j)
 |[],[],b,e=>by cases e;exact⟨rfl,λj x y h=>by cases h⟩
 |[],_::_,b,e=>by cases e
 |_::_,[],b,e=>by cases e
 |x::xs,y::ys,b,e=>by
  unfold fC at e;cases e1:fe x y with
  |none=>rw[e1] at e;cases e
  |some a=>
   cases e2:fC xs ys with
   |none=>rw[e1,e2] at e;cases e
   |some m=>
    rw[e1,e2] at e;cases e;let⟨i,k⟩:=mw e2;refine⟨?_,λj u w f g=>?_⟩
    .rw[length_cons,List.range_succ_eq_map,all_cons,all_map];have l:gJ (x::xs) (y::ys) 0=a:=by show (fe x y).getD false=a;rw[e1];rfl
     rw[l,<- i];rfl
    .cases j with
     |zero=>cases f;cases g;show fe x y=some ((fe x y).getD false);rw[e1];rfl
     |succ j=>exact k j u w f g
mutual
theorem Wn(I:aw X aa i H s)(G:aA F H)(sb:∀k,aA (B k) H):∀(t:Tr)(t':Tr)(Au:Around)(v g:V)(c h:Cs)(b:Bool)(u l:Value),fe t t'=some b->R X.K F B t v c->R X.K F B t' g h->au F H c->au F H h->aK v u->aK g l->Au.units+dep t<cLine->SeqAt.EqAt Au s u l b
 |.aY C=>λt' Au v g c h b u l e r o M w m d hu=>by
  cases t' with
  |aY D=>
   have fn:=λ(z:v=g)=>yK I G sb (.aY C) (.aY D) g c h b e (z ▸ r) o M w
   unfold fe at e;split at e
   .rename_i hl;∎;let⟨a,vs,rfl,Q,E⟩:=r.cQ G;let⟨n,J,rfl,O,L⟩:=o.cQ G;∎;obtain rfl:u=Value.ref a:=m;obtain rfl:l=Value.ref n:=d;by_cases z:a=n
    .rw[fn (by rw[z]),z];exact SeqAt.EqAt.same _
    .unfold dep at hu;let⟨al,ix⟩:=mw e;have N:=FZ (Au:=Au) I Q O ⋯ (by rw[E.length,L.length];exact hl) (gJ C D) (λj x y p q ex Y rx ry=>cG I G sb C D (gJ C D) Au.in1 vs J c h j x y p q ix E L M w ex Y rx ry (by rw[me];omega));rw[E.length,al] at N;exact SeqAt.EqAt.of_refs z N
   .cases e
  |_=>cases e
 |.ak f C=>λt' Au v g c h b u l e r o M w m d hu=>by
  cases t' with
  |ak f' D=>
   have fn:=λ(z:v=g)=>yK I G sb (.ak f C) (.ak f' D) g c h b e (z ▸ r) o M w
   unfold fe at e;∎;let⟨a,vs,ds,rfl,Q,E,h3,_⟩:=r.cj G sb M;let⟨n,J,U,rfl,O,L,g3,_⟩:=o.cj G sb w;∎;obtain rfl:u=Value.ref a:=m;obtain rfl:l=Value.ref n:=d;unfold dep at hu;by_cases z:a=n
   .rw[fn (by rw[z]),z];exact SeqAt.EqAt.same _
   .split at e
    .rename_i hl;let⟨al,ix⟩:=mw e;have N:=yj (Au:=Au) I Q O ⋯ (by rw[E.length,L.length];exact hl) (gJ C D) (λj x y p q ex Y rx ry=>cG I G sb C D (gJ C D) Au.in1 vs J ds U j x y p q ix E L h3 g3 ex Y rx ry (by rw[me];omega));rw[E.length,al] at N;exact SeqAt.EqAt.of_refs z N
    .rename_i hl;cases e;∎;let⟨us,r1,t1,_⟩:=I.list Q;let⟨zs,r2,t2,_⟩:=I.list O;∎;have m1:=r1.length;have m2:=r2.length;have l1:=E.length;have l2:=L.length;exact SeqAt.EqAt.of_refs z (SeqAt.RcAt.lists_lengths t1.isList t2.isList (by simp;omega) ⋯)
  |_=>cases e
 |.int a=>λt' Au v g c h b u l e r o _ _ m d _=>by
  cases t' with
  |int n=>cases e;rw[r.1] at m;rw[o.1] at d;exact Q1 m d
  |_=>cases e
 |.str a=>λt' Au v g c h b u l e r o _ _ m d _=>by
  cases t' with
  |str n=>
   cases e;rw[r.1] at m;rw[o.1] at d;have z:=mu (A:=Au) (s:=s) m d rfl rfl;have e:fZ (.str a) (.str n)=decide (a=n):=by show (a == n)=_;rw[Bool.beq_eq_decide_eq]
   rw[e] at z;exact z
  |_=>cases e
 |.bl a=>λt' Au v g c h b u l e r o _ _ m d _=>by
  cases t' with
  |bl n=>
   cases e;rw[r.1] at m;rw[o.1] at d;have z:=mu (A:=Au) (s:=s) m d rfl rfl;have e:fZ (.bl a) (.bl n)=decide (a=n):=by show (a == n)=_;rw[Bool.beq_eq_decide_eq]
   rw[e] at z;exact z
  |_=>cases e
 |.aX=>λt' Au v g c h b u l e r o _ _ m d _=>by
  cases t' with
  |aX=>cases e;rw[r.1] at m;rw[o.1] at d;exact mu (A:=Au) (s:=s) m d rfl rfl
  |_=>cases e
 |.aL=>λt' Au v g c h b u l e _ _ _ _ _ _ _=>by cases t' <;> cases e
 |.ty _=>λt' Au v g c h b u l e _ _ _ _ _ _ _=>by cases t' <;> cases e
 |.cl _=>λt' Au v g c h b u l e _ _ _ _ _ _ _=>by cases t' <;> cases e
 |.exc _=>λt' Au v g c h b u l e _ _ _ _ _ _ _=>by cases t' <;> cases e
 |.bJ _ _=>λt' Au v g c h b u l e _ _ _ _ _ _ _=>by cases t' <;> cases e
 |.ins _ _ _=>λt' Au v g c h b u l e _ _ _ _ _ _ _=>by cases t' <;> cases e
theorem cG(I:aw X aa G H s)(A:aA F H)(sb:∀k,aA (B k) H):∀(n:List Tr)(d:List Tr)(e:Nat->Bool)(Au:Around)(vs f:List V)(c o:Cs)(j:Nat)(x y:V)(u h:Value),(∀(j:Nat)(x y:Tr),n[j]?=some x->d[j]?=some y->fe x y=some (e j))->Rs X.K F B n vs c->Rs X.K F B d f o->au F H c->au F H o->vs[j]?=some x->f[j]?=some y->aK x u->aK y h->Au.units+eM n<cLine->SeqAt.EqAt Au s u h (e j)
 |[]=>λd e Au vs f c o j x y u h _ r _ _ _ ex _ _ _ _=>by rw[r.1] at ex;cases ex
 |t::n=>λd e Au vs f c o j x y u h w r p q g ex l z m hu=>by
  cases d with
  |nil=>rw[p.1] at l;cases l
  |cons C d=>
   ∎;let⟨v,r,D,J,U,Y,h3,h4⟩:=r;let⟨v',p,E,L,M,N,O,Q⟩:=p;∎;rw[U] at ex;rw[M] at l;rw[Y] at q;rw[N] at g;unfold eM at hu;cases j with
   |zero=>
    cases ex;cases l;exact Wn I A sb t C Au _ _ D E (e 0) u h (w 0 t C rfl rfl) h3 O q.left g.left z m ⋯
   |succ j=>exact cG I A sb n d (λi=>e (i+1)) Au r p J L j x y u h (λi a b ha hb=>w (i+1) a b ha hb) h4 Q q.right g.right ex l z m ⋯
end
theorem Ui(I:aw X aa G H s)(d:cZ X.K H a xs)(f:cZ X.K H b ys)(o:Au.units<cLine)(B:xs.length=ys.length)(e:Nat->Bool)(he:∀(j:Nat) x y u v,xs[j]?=some x->ys[j]?=some y->aK x u->aK y v->SeqAt.EqAt Au.in1 s u v (e j)):SeqAt.RcNeAt Au s (.ref a) (.ref b) (!(List.range xs.length).all e):=by
 ∎;let⟨us,r1,r,_⟩:=I.tuple d;let⟨c,r2,w,_⟩:=I.tuple f;∎;have C:=r1.length;have D:=r2.length;have z:=SeqAt.RcNeAt.tuples (A:=Au) (e:=e) r w o (λj d f=>?_)
 .have e0:((List.range (min us.toArray.size c.toArray.size)).all e&&us.toArray.size == c.toArray.size)=(List.range xs.length).all e:=by
   simp only[size_toArray];have g:min us.length c.length=xs.length:=⋯
   have h:(us.length == c.length)=true:=by simp;omega
   rw[g,h,Bool.and_true]
  rw[e0] at z;exact z
 .simp only[size_toArray] at d f;∎;let⟨u,g,p⟩:=r1.get (i:=j) (x:=xs[j]'⋯) (by simp);let⟨v,h,q⟩:=r2.get (i:=j) (x:=ys[j]'⋯) (by simp);let⟨_,k⟩:=List.getElem?_eq_some_iff.mp g;let⟨_,l⟩:=List.getElem?_eq_some_iff.mp h;∎;have m:us.toArray[j]'(by simpa using d)=u:=by simpa using k
  have n:c.toArray[j]'(by simpa using f)=v:=by simpa using l
  rw[m,n];exact he j _ _ u v (by simp) (by simp) p q
def sE(K:ao)(neg:Bool):R2:=λx y H Q=>∃(F:Hp)(B:Bool->Hp)(t d:Tr)(c a:Cs)(b:Bool),aA F H/\(∀k,aA (B k) H)/\R K F B t x c/\R K F B d y a/\au F H c/\au F H a/\fe t d=some b/\dep t<=60/\1<=dep t/\Q (.bl (if neg=true then !b else b)) H
theorem Wo(hu:X.A.units+64<cLine):bZ X (compareOp .Eq) (sE X.K false):=by
 intro aa s i H x y v u Q I C D h;let⟨F,B,t,t',c,c',b,E,sb,r,r',Y,G,e,d,d1,q⟩:=h;have k:∀{p p':ah},SeqAt.RcAt X.A s (.ref p) (.ref p') b->wpAny (model X.prog X.w) X.A (compareOp .Eq (.ref p) (.ref p')) (EP X aa i Q) X.xe s:=λl=>l X.prog X.w X.xe _ ⟨.bl b,H,I,rfl,q⟩
 cases t with
 |aY n=>
  cases t' with
  |aY o=>
   unfold fe at e;unfold dep at d;split at e
   .rename_i hl;∎;let⟨a,vs,rfl,L,g⟩:=r.cQ E;let⟨M,m,rfl,J,z⟩:=r'.cQ E;∎;obtain rfl:v=Value.ref a:=C;obtain rfl:u=Value.ref M:=D;let⟨al,U⟩:=mw e;have l:=FZ (Au:=X.A) I L J ⋯ (by rw[g.length,z.length];exact hl) (gJ n o) (λj x y p q ex O C D=>cG I E sb n o (gJ n o) X.A.in1 vs m c c' j x y p q U g z Y G ex O C D (by rw[me];omega));rw[g.length,al] at l;exact k l
   .cases e
  |_=>cases e
 |ak f n=>
  cases t' with
  |ak f' o=>
   unfold fe at e;unfold dep at d;∎;let⟨a,vs,ds,rfl,L,g,h3,_⟩:=r.cj E sb Y;let⟨M,m,N,rfl,J,z,g3,_⟩:=r'.cj E sb G;∎;obtain rfl:v=Value.ref a:=C;obtain rfl:u=Value.ref M:=D;split at e
   .rename_i hl;let⟨al,U⟩:=mw e;have l:=yj (Au:=X.A) I L J ⋯ (by rw[g.length,z.length];exact hl) (gJ n o) (λj x y p q ex O C D=>cG I E sb n o (gJ n o) X.A.in1 vs m ds N j x y p q U g z h3 g3 ex O C D (by rw[me];omega));rw[g.length,al] at l;exact k l
   .rename_i hl;cases e;∎;let⟨us,r1,t1,_⟩:=I.list L;let⟨zs,r2,t2,_⟩:=I.list J;∎;have m1:=r1.length;have m2:=r2.length;have l1:=g.length;have l2:=z.length;exact k (SeqAt.RcAt.lists_lengths t1.isList t2.isList (by simp;omega) ⋯)
  |_=>cases e
 |_=>exact absurd d1 (by unfold dep;decide)
theorem Wq(hu:X.A.units+64<cLine):bZ X (compareOp .NotEq) (sE X.K true):=by
 intro aa s i H x y v u Q I C D h;let⟨F,B,t,t',c,c',b,E,sb,r,r',Y,G,e,d,d1,q⟩:=h;have k:∀{p p':ah},SeqAt.RcNeAt X.A s (.ref p) (.ref p') (!b)->wpAny (model X.prog X.w) X.A (compareOp .NotEq (.ref p) (.ref p')) (EP X aa i Q) X.xe s:=λl=>l X.prog X.w X.xe _ ⟨.bl (!b),H,I,rfl,q⟩
 cases t with
 |aY n=>
  cases t' with
  |aY o=>
   unfold fe at e;unfold dep at d;split at e
   .rename_i hl;∎;let⟨a,vs,rfl,L,g⟩:=r.cQ E;let⟨M,m,rfl,J,z⟩:=r'.cQ E;∎;obtain rfl:v=Value.ref a:=C;obtain rfl:u=Value.ref M:=D;let⟨al,U⟩:=mw e;have l:=Ui (Au:=X.A) I L J ⋯ (by rw[g.length,z.length];exact hl) (gJ n o) (λj x y p q ex O C D=>cG I E sb n o (gJ n o) X.A.in1 vs m c c' j x y p q U g z Y G ex O C D (by rw[me];omega));rw[g.length,al] at l;exact k l
   .cases e
  |_=>cases e
 |ak f n=>
  cases t' with
  |ak f' o=>
   unfold fe at e;unfold dep at d;∎;let⟨a,vs,ds,rfl,L,g,h3,_⟩:=r.cj E sb Y;let⟨M,m,N,rfl,J,z,g3,_⟩:=r'.cj E sb G;∎;obtain rfl:v=Value.ref a:=C;obtain rfl:u=Value.ref M:=D;split at e
   .rename_i hl;let⟨al,U⟩:=mw e;have l:=Ts (Au:=X.A) I L J ⋯ (by rw[g.length,z.length];exact hl) (gJ n o) (λj x y p q ex O C D=>cG I E sb n o (gJ n o) X.A.in1 vs m ds N j x y p q U g z h3 g3 ex O C D (by rw[me];omega));rw[g.length,al] at l;exact k l
   .rename_i hl;cases e;∎;let⟨us,r1,t1,_⟩:=I.list L;let⟨zs,r2,t2,_⟩:=I.list J;∎;have m1:=r1.length;have m2:=r2.length;have l1:=g.length;have l2:=z.length;exact k (SeqAt.RcNeAt.lists_lengths (A:=X.A) t1.isList t2.isList (by simp;omega) ⋯)
  |_=>cases e
 |_=>exact absurd d1 (by unfold dep;decide)
def Dc(K:ao):R2:=λx y H Q=>uU x y H Q\/sE K false x y H Q
theorem bY(a:X.A.units+64<cLine:=by exact bj.units (by assumption)):bZ X (compareOp .Eq) (Dc X.K):=B5.or (Wo a)
def Dd(K:ao):R2:=λx y H Q=>z7 x y H Q\/sE K true x y H Q
theorem g8(a:X.A.units+64<cLine:=by exact bj.units (by assumption)):bZ X (compareOp .NotEq) (Dd X.K):=Kv.or (Wq a)
def gs(neg:Bool)(x y:Tr)(Q:ar):Prop:=match x,y with
 |.int a,.int b=>Q (.bl (if neg=true then !decide (a=b) else decide (a=b)))
 |.str a,.str b=>Q (.bl (if neg=true then !decide (a=b) else decide (a=b)))
 |.bl a,.bl b=>Q (.bl (if neg=true then !decide (a=b) else decide (a=b)))
 |x,y=>pL neg x y Q \/ ∃b,fe x y=some b /\ dep x <= 60 /\ 1 <= dep x /\ Q (.bl (if neg=true then !b else b))
theorem bW:cW K k (Dc K) (gs false):=λF B H x y tx ty f g Q l s b z a c i j hd p q=>by
 unfold gs at p;split at p
 .obtain⟨rfl,_⟩:=a;let⟨rfl,_⟩:=c;refine .inl ⟨rfl,q _ _ F H [] p (Gr.aH s) ⟨?_,rfl⟩ .nil λ_ m=>nomatch m⟩;exact congrArg V.bl (decide_eq_decide.mpr ⟨λh=>V.int.inj h,λh=>by rw[h]⟩)
 .obtain⟨rfl,_⟩:=a;let⟨rfl,_⟩:=c;refine .inl ⟨rfl,q _ _ F H [] p (Gr.aH s) ⟨?_,rfl⟩ .nil λ_ m=>nomatch m⟩;exact congrArg V.bl (decide_eq_decide.mpr ⟨λh=>V.str.inj h,λh=>by rw[h]⟩)
 .obtain⟨rfl,_⟩:=a;let⟨rfl,_⟩:=c;refine .inl ⟨rfl,q _ _ F H [] p (Gr.aH s) ⟨?_,rfl⟩ .nil λ_ m=>nomatch m⟩;exact congrArg V.bl (decide_eq_decide.mpr ⟨λh=>V.bl.inj h,λh=>by rw[h]⟩)
 .rcases p with p |p
  .exact .inl (UP (k:=k) F B H x y tx ty f g Q l s b z a c i j hd p q)
  .obtain⟨bb,e,d,d1,p⟩:=p;exact .inr ⟨F,B,tx,ty,f,g,bb,s,b,a,c,i,j,e,d,d1,q _ _ F H [] p (Gr.aH s) ⟨rfl,rfl⟩ .nil λ_ m=>nomatch m⟩
theorem gR:cW K k (Dd K) (gs true):=λF B H x y tx ty f g Q l s b z a c i j hd p q=>by
 unfold gs at p;split at p
 .obtain⟨rfl,_⟩:=a;let⟨rfl,_⟩:=c;refine .inl ⟨rfl,q _ _ F H [] p (Gr.aH s) ⟨?_,rfl⟩ .nil λ_ m=>nomatch m⟩;exact congrArg (λb=>V.bl (!b)) (decide_eq_decide.mpr ⟨λh=>V.int.inj h,λh=>by rw[h]⟩)
 .obtain⟨rfl,_⟩:=a;let⟨rfl,_⟩:=c;refine .inl ⟨rfl,q _ _ F H [] p (Gr.aH s) ⟨?_,rfl⟩ .nil λ_ m=>nomatch m⟩;exact congrArg (λb=>V.bl (!b)) (decide_eq_decide.mpr ⟨λh=>V.str.inj h,λh=>by rw[h]⟩)
 .obtain⟨rfl,_⟩:=a;let⟨rfl,_⟩:=c;refine .inl ⟨rfl,q _ _ F H [] p (Gr.aH s) ⟨?_,rfl⟩ .nil λ_ m=>nomatch m⟩;exact congrArg (λb=>V.bl (!b)) (decide_eq_decide.mpr ⟨λh=>V.bl.inj h,λh=>by rw[h]⟩)
 .rcases p with p |p
  .exact .inl (UQ (k:=k) F B H x y tx ty f g Q l s b z a c i j hd p q)
  .obtain⟨bb,e,d,d1,p⟩:=p;exact .inr ⟨F,B,tx,ty,f,g,bb,s,b,a,c,i,j,e,d,d1,q _ _ F H [] p (Gr.aH s) ⟨rfl,rfl⟩ .nil λ_ m=>nomatch m⟩
end
def Ab(K:ao)(k:Md)(pe:aW):TE:=λj H Q=>∃(F:Hp)(B:Bool->Hp)(y:ai)(b:ar),gv K k F B H j y/\pe y b/\∀t v c a d,b t->Out K F B H c a t v d->Q v a
def wA(K:ao)(k:Md)(pe:di):TT:=λj H Q=>∃(F:Hp)(B:Bool->Hp)(y:ai)(c:Bool->Prop),gv K k F B H j y/\pe y c/\∀b d a,c b->Gr F H d a->Q b a
section
theorem QE.of(h:QE X k e pe):PE X e (Ab X.K k pe):=λaa s j H Q I ⟨F,B,y,Q',h1,h2,h3⟩=>by
 let⟨c,a,b⟩:=h.h;exact a aa s j H Q I (b F B H j y Q Q' h1 h2 h3)
theorem Wr:bu K k (Ab K k pe) pe:=λF B H j y Q a b c d=>⟨F,B,y,a,b,c,d⟩
theorem QT.of(h:QT X k e pe):PT X e (wA X.K k pe):=λaa s j H Q I ⟨F,B,y,Q',h1,h2,h3⟩=>by
 let⟨c,a,b⟩:=h.h;exact a aa s j H Q I (b F B H j y Q Q' h1 h2 h3)
theorem Uj:fb K k (wA K k pe) pe:=λF B H j y Q a b c d=>⟨F,B,y,a,b,c,d⟩
theorem XO(ha:QE X k a pa)(c:QE X k b pb):QE X k (.BinOp a .Pow b pos) (p2 (gf wC λi j=>.int (i ^ j.toNat)) pa pb):=qC Vv (zl λ_ _ _ _=>⟨rfl,rfl⟩) ha c
theorem gG(f:a9 X (.type T) r)(i:gy X.K k r pr)(hm:X.mg x=none)(ha:QA X k (e::es) ps)(g:do Gl X x)(j:do bootBuiltins x=some (.type T))(hn: ~~~(x≠"__name__"))(a: ~~~(cD x))(he:do dN e es X.env)(b:do eX pos es X.env):
  QE X k (.Call (.Name x p) (e::es) [] pos) (pB pr ps):=by
 let⟨l,c,d⟩:=ha.h;exact⟨_,xr f g hm j c hn a he b,GV i d⟩
theorem XP(h:QE X k e pe)(c:do attributeBase e f X.env (eval e X.env)=eval e X.env):QE X k (.Attribute e f pos) (p1 (gV X.K f) pe):=by
 let⟨d,a,b⟩:=h.h;exact⟨_,TL a c,Ug b⟩
structure QO(X:Cx)(k:Md)(e:Option Expr)(pe:jN):Prop where
 h:∃te,PO X e te/\l9 X.K k te pe
theorem eG:QO X k none kz:=⟨_,T8,Wh⟩
theorem cS(h:QE X k e pe):QO X k (some e) (gO pe):=by
 let⟨c,a,b⟩:=h.h;exact⟨_,T9 a,Wj b⟩
theorem dX{e:Expr}{pe:aW}{l h:Option Expr}{pl a:jN}{p2:Pos}(he:QE X k e pe)(m:QO X k l pl)(j:QO X k h a):QE X k (.Subscript e (.Slice l h none p2) pos) (iH pe pl a):=by
 ∎;let⟨n,g,i⟩:=he.h;let⟨o,d,f⟩:=m.h;let⟨p,b,c⟩:=j.h;∎;exact⟨_,EO IA g d b,Wl i f c⟩
structure QG(X:Cx)(k:Md)(lo:Nat)(e:Expr)(pg:eV):Prop where
 h:∃tg,PG X e tg/\l6 X.K k lo tg pg
structure oq(X:Cx)(k:Md)(lo:Nat)(es:bS)(pg:ai->ai->(aG)->Prop):Prop where
 h:∃tg,m7 X es tg/\nv X.K k lo tg pg
theorem i2(i:Nat)(a:X.N.Nodup:=by assumption)(d: ~~~(lo<=i))(c:do X.N[i]?=some x)(e:Loc X.env.scope x:=by first |exact Or.inl rfl |exact Or.inr rfl)(b:kG X x:=by first |exact .inl rfl |exact .inr rfl |assumption):QG X k lo (.Name x pos) (oh i):=⟨_,Fs a c e b,Wc d⟩
theorem Gd:oq X k lo [] rZ:=⟨_,T1,O5⟩
theorem nQ(h:QG X k lo e pg)(h':oq X k lo es pr)(hs:do (assignEach (e::es) X.env).map (·.2)=assign e X.env::(assignEach es X.env).map (·.2)):oq X k lo (e::es) (sf pg pr):=by
 ∎;let⟨f,c,d⟩:=h.h;let⟨g,a,b⟩:=h'.h;∎;exact⟨_,Rr c a hs,OD d b⟩
theorem IB(c:X.calm=true)(h:oq X k lo es pr)(hn:do (assignEach es X.env).length=n)(d:do (assignEach es X.env).findIdx? (·.1)=none):QG X k lo (.Tuple es kk pos) (uR n pr):=by
 let⟨e,a,b⟩:=h.h;exact⟨_,Vp c a hn d,Wd b⟩
structure QI(X:Cx)(k:Md)(tg e:Expr)(pi:iL):Prop where
 h:∃ti,PI X tg e ti/\l7 X.K k ti pi
section
theorem uI(h:QE X k l pl):QI X k tg l (zU pl):=by
 let⟨c,a,b⟩:=h.h;exact⟨_,T2 a,O6 b⟩
theorem zz(hm:X.mg "range"=none)(h:QA X k [l] ps)(c:do Gl X "range")(hs:do m8 l X.env):QI X k tg (.Call (.Name "range" p) [l] [] pos) (wo ps):=by
 let⟨d,a,b⟩:=h.h;exact⟨_,OL c hm a hs,Uc b⟩
theorem HU(hm:X.mg "range"=none)(h:QA X k [l,m] ps)(d:do Gl X "range")(hs:do Aj l m X.env)(a:do m8 m X.env):QI X k tg (.Call (.Name "range" p) [l,m] [] pos) (wq ps):=by
 let⟨e,b,c⟩:=h.h;exact⟨_,OM d hm b hs a,Ud c⟩
end
theorem bp(i:Nat)(h:QE X k e pe)(c:X.N.Nodup:=by assumption)(g: ~~~(lo<=i))(f:do X.N[i]?=some x)(j:Loc X.env.scope x:=by first |exact Or.inl rfl |exact Or.inr rfl)(hs:do swapsWith e (some (.Name x pos')) pos.line X.env=pure false)(d:kG X x:=by first |exact .inl rfl |exact .inr rfl |assumption):
  QS X k lo (.Assign [.Name x pos'] e pos) (pG i pe):=by
 let⟨l,a,b⟩:=h.h;exact⟨_,qw c f j a hs d,R1 g b⟩
theorem HV(h:QE X k e pe)(j:QG X k lo tg pg)(f:do swapsWithSole [tg] e pos.line X.env=pure false)(g:do swappedStores [tg] e X.env=pure none)(i:do (assignEach [tg] X.env).map (·.2)=[assign tg X.env]):QS X k lo (.Assign [tg] e pos) (wj pe pg):=by
 ∎;let⟨l,a,b⟩:=h.h;let⟨m,c,d⟩:=j.h;∎;exact⟨_,GN a c f g i,U1 b d⟩
theorem XQ(i j:Nat){x y:Str}{ps:cM}{g l pt c:Pos}{f k2:Nat}(h:QA X k [a,b] ps)(p:do X.calm=true)(o:X.N.Nodup:=by assumption)(s: ~~~(lo<=i))(e: ~~~(lo<=j))(q:do X.N[i]?=some x)(r:do X.N[j]?=some y)(d: ~~~(i≠j))(v:do X.env.scope.names.lookup x=some .local)(w:do X.env.scope.names.lookup y=some .local)(hs:do swappedStores [.Tuple [.Name x g,.Name y l] f pt] (.Tuple [a,b] k2 c) X.env=pure (some [x,y]))(u:do swapsWithSole [.Tuple [.Name x g,.Name y l] f pt] (.Tuple [a,b] k2 c) pos.line X.env=pure false):QS X k lo (.Assign [.Tuple [.Name x g,.Name y l] f pt] (.Tuple [a,b] k2 c) pos) (wk i j ps):=by
 let⟨z,m,n⟩:=h.h;exact⟨_,Vr p o q r d v w m hs u,U2 s e n⟩
theorem qG(l:QI X k tg iter pi)(j:QG X k lo tg pg)(g:QB X k lo body pb)(m:PassesOwn (model X.prog X.w) X.A X.env X.xe:=by first |exact PassesOwn.never |exact fu rfl)(i:do X.calm=true)(hs:∀x,foldedSetIterable iter X.env x=pure x:=by intro _;rfl):QS X k lo (.For tg iter body [] pos) (wm pi pg pb):=by
 ∎;let⟨o,e,f⟩:=l.h;let⟨p,c,d⟩:=j.h;let⟨n,a,b⟩:=g.h;∎;exact⟨_,Vs m i e c a hs,U4 f d b⟩
theorem ew(i:Nat)(b:do X.N[i]?=some x)(c:jP X.env.scope x:=by first |exact Or.inl rfl |exact Or.inr (Or.inl rfl) |exact Or.inr (Or.inr rfl))(hd: ~~~(cD x))(a: ~~~((x == ("__classdict__":Str))=false)):PE X (.Name x pos) (tR X.K i []):=lu b c hd a
theorem zA(j:PE X o (tR X.K i r))(h:QE X k e pe)(d:do attributeBase o "append" X.env (eval o X.env)=eval o X.env)(f:do (((backTo bB (starEach [e] X.env)).all (!·.1)&&(backToKw bB (keywordEach [] X.env)).all (·.1.isSome))&&decide (([e].length+([]:List Keyword).length+if ([]:List Keyword).isEmpty=true then 0 else 1)<30))=true)(g:do (apos.endLine == bB.line)=true)(a:do dN e [] X.env)(hs:do swapsWith (.Call (.Attribute o "append" apos) [e] [] bB) none spos.line X.env=pure false):
  QS X k lo (.Expr (.Call (.Attribute o "append" apos) [e] [] bB) spos) (wt X.K i r pe):=by
 let⟨l,b,c⟩:=h.h;exact⟨_,yf (zk PySem.F.plainAttrs_list slot_list_append type_list_append Pp j (iD b iS a) d f g a rfl) hs,Ue c⟩
theorem ud(n:PE X o (tR X.K i r))(m:QE X k j pj)(h:QE X k e pe)(ha:∀v,assign (.Subscript o j pos') X.env v=(do
   let ov <- holding [v] (eval o X.env)
   let iv <- holding [v,ov] (eval j X.env)
   standAt pos'
   holding [v,ov,iv] (setItem ov iv v)
   release [v,ov,iv] []):=by intro _;rfl)(f:do swapsWithSole [.Subscript o j pos'] e pos.line X.env=pure false)(g:do swappedStores [.Subscript o j pos'] e X.env=pure none)(l:do (assignEach [.Subscript o j pos'] X.env).map (·.2)=[assign (.Subscript o j pos') X.env]):
  QS X k lo (.Assign [.Subscript o j pos'] e pos) (vT X.K i r pj pe):=by
 ∎;let⟨p,a,b⟩:=h.h;let⟨q,c,d⟩:=m.h;∎;exact⟨_,GN a (Vq n c QP ha) f g l,R4 b d⟩
theorem gm(c:PE X o (tR X.K i r))(h:QE X k e pe)(hs:do swapsWith e (some (.Attribute o f pos')) pos.line X.env=pure false):QS X k lo (.Assign [.Attribute o f pos'] e pos) (vU X.K i r f pe):=by
 let⟨d,a,b⟩:=h.h;exact⟨_,Ws c a hs,R5 b⟩
structure Ai(X:Cx)(scope:Scope)(N:ae)(js:List Nat)(e:Expr)(pg:eV):Prop where
 h:∃tg,(∀C s H fp pl,PG (d4 X scope N C s H fp pl) e tg)/\wz X.K js tg pg
section
theorem lH(i:Nat)(b: ~~~(N.Nodup))(c:do N[i]?=some x)(a:∀C s H fp pl,(d4 X scope N C s H fp pl).env.scope.names.lookup x=some .local:=by intros;rfl):Ai X scope N [i] (.Name x pos) (oh i):=⟨_,λC s H fp pl=>Fs (X:=d4 X scope N C s H fp pl) b c (.inl (a C s H fp pl)) (.inr (a C s H fp pl)),Wm⟩
structure va(Y:Cx)(k:Md)(es:bS)(pt:di):Prop where
 h:oo Y es (wA Y.K k pt)
theorem Uk:va X k [] pO:=⟨λaa s j H Q I a=>by let⟨F,B,y,b,c,d,e⟩:=a;exact Th aa s j H Q I (Uh (k:=k) F B H j y Q b c d e)⟩
theorem Ul{e:Expr}{pt:di}(h:QT X k e pt):va X k [e] pt:=⟨Ti h.of⟩
variable{elt target iter:Expr}{ifs:bS}{ix:bK}{pi:iL}{pg:eV}{pt:di}{pe:aW}{js:List Nat}
theorem la(N:ae)(ix:bK)(p:QI X k target iter pi)(o:Ai X a N js target pg)(he:∀C s H fp pl,QE (d4 X a N C s H fp pl) k.gM elt pe)(ht:∀C s H fp pl,va (d4 X a N C s H fp pl) k.gM ifs pt:=by exact λ_ _ _ _ _=>Uk)(n:do X.calm=true)(f:bO X a N ix:=by repeat first |exact True.intro |refine⟨rfl,rfl,rfl,?_⟩)(q: ~~~(∀j∈js,ix[j]?=some none))(d:do a.kind=.function)(c: ~~~(∀y∈a.names,y.2≠.cell))(b: ~~~(∀x∈a.names,x.2=.local->a.names.lookup x.1=some .local))(e:do jU a X.env=true)(hs:∀x,foldedSetIterable iter X.env x=pure x:=by intro _;rfl):
  QE X k (.ListComp elt [⟨target,iter,ifs,0⟩] a pos) (vY pi pg pt pe ix):=by
 ∎;let⟨r,l,m⟩:=p.h;let⟨u,g,i⟩:=o.h;∎;exact⟨_,Tn n l g (λC s H fp pl=>(ht C s H fp pl).h) (λC s H fp pl=>(he C s H fp pl).of) f d c b e hs,R7 m i Uj Wr q⟩
end
end
section
theorem Lk.md(L:Lk K k lo us Fb Hb D D')(hz:k.z=true->k'.z=true)(x:∀b f e d,k.q b->Gr Fb Hb e d->k.E f b none d):Lk K k' lo us Fb Hb D D':=
 ⟨λF H j y a W=>L.nx F H j y a (W.md hz x),λF H j y a v t c W=>L.rt F H j y a v t c (W.md hz x),λF H j y a W=>L.bk F H j y a (W.md hz x),λF H j y a W=>L.ct F H j y a (W.md hz x)⟩
def vI(q:ag->Prop)(C:ah)(pe:aW):cc:=λ_ j=>pe (j.map aM) λ_=>q (.ref C)
theorem O7(h:bu K ⟨z,λ_=>E,q⟩ te pe):cK K ⟨z,λ_=>E,q⟩ lo (BK C E te) (vI q C pe):=λus f d F H j y i D e W p L=>
 h F (Bq d H) H j _ _ _ W.eA p λt v a b c q o=>W.x (.ref C) j a b q (W.g.trans' o.g)
theorem a7.unset{i:Nat}(W:a7 K k lo us Fb Hb F H y G cs)(w:lo<=i):a7 K k lo us Fb Hb F H (y.set i none) (G.set i .aL) (λj=>if j=i then [] else cs j) where
 g:=W.g
 z:=W.z
 l:=by rw[length_set,length_set];exact W.l
 e:=λj u h=>by
  by_cases e:j=i
  .subst e;have s:j<G.length:=by have:=(List.getElem?_eq_some_iff.mp h).1;rw[length_set] at this;exact this
   rw[getElem?_set_self s] at h;cases h;exact .inl rfl
  .rw[getElem?_set_ne (λz=>e z.symm)] at h;rw[if_neg e];exact (W.e j u h).imp id λ⟨v,h1,h2⟩=>⟨v,by rw[getElem?_set_ne (λz=>e z.symm)];exact h1,h2⟩
 c:=λj=>by
  split
  .exact .nil
  .exact W.c j
 n:=λj=>by
  split
  .exact .nil
  .exact W.n j
 d:=λa b ne p f q m=>by
  by_cases o:a=i
  .rw[if_pos o] at f;cases f
  .rw[if_neg o] at f;by_cases r:b=i
   .rw[if_pos r] at m;cases m
   .rw[if_neg r] at m;exact W.d a b ne p f q m
 p:=λj h=>by rw[getElem?_set_ne ⋯];exact W.p j h
 x:=W.x
def Pd.less(D:Pd)(i:Nat):Pd:={ nx:=λj=>D.nx (j.set i .aL),rt:=D.rt,bk:=λj=>D.bk (j.set i .aL),ct:=λj=>D.ct (j.set i .aL) }
theorem Lk.less(b:lo<=i)(L:Lk K k lo us Fb Hb D D'):Lk K k lo us Fb Hb (D.less i) (D'.less i):=
 ⟨λF H j y a W q=>L.nx F H _ _ _ (W.unset b) q,λF H j y a v t c W r e n d f q=>L.rt F H j y a v t c W r e n d f q,λF H j y a W q=>L.bk F H _ _ _ (W.unset b) q,λF H j y a W q=>L.ct F H _ _ _ (W.unset b) q⟩
def wB(K:ao)(k:Md)(lo:Nat)(ps:cc):TS:=λD j H=>∃(us:ax)(b c F:Hp)(y:ai)(d:Nat->Cs)(a:Pd),a7 K k lo us b c F H j y d/\ps a y/\Lk K k lo us b c D a
theorem QB.of(h:QB X k lo sts ps):eW X sts (wB X.K k lo ps):=λaa s j H D I ⟨us,Fb,Hb,F,y,cs,D',h1,h2,h3⟩=>by
 let⟨c,a,b⟩:=h.h;exact a aa s j H D I (b us Fb Hb F H j y cs D D' h1 h2 h3)
theorem Um:cK K k lo (wB K k lo ps) ps:=λus b c F H j y d D a e f g=>⟨us,b,c,F,y,d,a,e,f,g⟩
def vc(K:ao)(k:Md)(lo:Nat)(n:TE->TS)(m:aW->cc):Prop:=∀(us:ax)(d a F H:Hp)(j:St)(y:ai)(l:Nat->Cs)(D:Ends)(b:Pd)(h:TE)(g:aW),a7 K k lo us d a F H j y l->Lk K k lo us d a D b->(∀Q f,g (y.map aM) f->(∀t v i e c,f t->Out K F (Bq a H) H i e t v c->Q v e)->h j H Q)->m g b y->n h D j H
theorem R8(g:lo<=i):vc K k lo (λa=>jw a (jr i)) (pG i):=λus n r F H j y s D l a u W L h p=>h _ _ p λt v m d c q o=>by
 let⟨b,f,e⟩:=W.outF o g q.1;exact L.nx b d _ _ _ e q.2
def Ad(K:ao)(z:Bool)(pe:(ag->Prop)->aW)(R':St->XK):TE:=λj H Q=>∃q,Ab K ⟨z,R',q⟩ (pe q) j H Q
theorem XR{pe:(ag->Prop)->aW}(h:∀q,QE X ⟨z,R',q⟩ e (pe q)):PE X e (Ad X.K z pe R'):=λaa s j H Q I ⟨q,h'⟩=>(h q).of aa s j H Q I h'
@[reducible] def De(K:ao)(C:ah)(a:ag):Prop:=W.exmOne K a (.ref C)=some true
end
section
theorem du(h:lV (b4 X.prog X.w) X E):∀j,gA (b4 X.prog X.w) X j E:=λj aa H s e a I c=>h aa j H s e a I c
theorem iW(hs:X.stack=X.env::X.outer)(j:X.env.frame=some X.env.locals)(c:X.ex=[])(f:rD X E)(a:X.calm=true)(k:Gl X x)(hm:X.mg x=some (.ref C))(FB:ExcBaseFacts B newId initId bmB)(l:W.excIn X.K C bmB newId=true)(he:QE X ⟨z,λ_=>E,q⟩ e₀ pe)(b: ~~~(cD x))(e:do dN e₀ [] X.env)(d:do eX bB [] X.env):
  QS X ⟨z,λ_=>E,q⟩ lo (.Raise (some (.Call (.Name x np) [e₀] [] bB)) none pos) (vI q C pe):=by
 let⟨m,g,i⟩:=he.h;exact⟨_,Q4 hs j c f a k hm FB l g b e d,O7 i⟩
end
section
def n9:Tr->Tr->Bool
 |.bl c,.bl d=>c == d
 |.aX,.aX=>true
 |_,_=>false
theorem Rs.Dr:∀{bs:List Bool}{vs:ax}{c:Cs},Rs K F B (bs.map .bl) vs c->vs=bs.map V.bl
 |[],_,_,y=>by let⟨h,_⟩:=y;exact h
 |b::bs,_,_,y=>by let⟨v,r,c,d,a,g,e,f⟩:=y;rw[a,Rs.Dr f,e.1];rfl
def CC(all:Bool)(a:ai)(Q:ar):Prop:=match a with
 |[.ak _ xs]=>∃bs:List Bool,xs=bs.map .bl /\ Q (.bl (if all=true then bs.all id else bs.any id))
 |_=>False
theorem yt:gy K k (λxs H Q=>∃(a:ah)(bs:List Bool),xs=[.ref a]/\bM K H a (bs.map V.bl)/\Q (.bl (bs.all id)) H) (CC true):=λF B H xs i g Q f s b z r e p q=>by
 unfold CC at p;split at p
 .obtain⟨v,rfl,r1⟩:=r.one;∎;let⟨a,vs,h,rfl,c,d,_⟩:=r1.cj s b e;let⟨bs,rfl,p⟩:=p;∎;rw[d.Dr] at c;exact⟨a,bs,rfl,c,q _ _ F H [] p (Gr.aH s) ⟨rfl,rfl⟩ .nil λ_ m=>nomatch m⟩
 .exact p.elim
def wR(K:ao)(a:ai)(Q:ar):Prop:=match a with
 |[.exc D,c]=>(match sR c with |some u=>∃b,dM K D /\ W.kitOne K (.ref D) u=some b /\ Q (.bl b) |none=>False)
 |_=>False
theorem XS(r:R K F B t v c)(h:sR t=some u):l0 v=some u:=by
 unfold sR at h;split at h
 .cases h;rw[r.1];rfl
 .cases h;rw[r.1];rfl
 .cases h
theorem Uo:gy K k (λxs H Q=>∃x D c b u,xs=[.ref x,c]/\Rd H x (i5 x D)/\dM K D/\l0 c=some u/\W.kitOne K (.ref D) u=some b/\Q (.bl b) H) (wR K):=λF B H xs o j Q h s b z r n p q=>by
 unfold wR at p;split at p
 .split at p
  .rename_i D c _ u hu;∎;let⟨v,w,i,l,rfl,r1,r2,rfl⟩:=r.two;let⟨_,a,rfl,e⟩:=r1;let⟨d,f,g,p⟩:=p;∎;exact⟨a,D,w,d,u,rfl,(Le.of s).exc e,f,XS r2 hu,g,q _ _ F H [] p (Gr.aH s) ⟨rfl,rfl⟩ .nil λ_ m=>nomatch m⟩
  .exact p.elim
 .exact p.elim
theorem qQ(hm:X.mg x=some (.int i t))(a:do Gl X x)(hd: ~~~(cD x)):QE X k (.Name x pos) (pC (.int i)):=uc (.int i) a hm ⟨_,rfl⟩ (λ_ _=>⟨rfl,rfl⟩) hd
theorem Aa(hm:X.mg x=some (.str i t))(a:do Gl X x)(hd: ~~~(cD x)):QE X k (.Name x pos) (pC (.str i)):=uc (.str i) a hm ⟨_,rfl⟩ (λ_ _=>⟨rfl,rfl⟩) hd
theorem jI(hm:X.mg x=some (.ref c))(a:do Gl X x)(hd: ~~~(cD x)):QE X k (.Name x pos) (pC (.cl c)):=uc (.ref c) a hm rfl (λ_ _=>⟨rfl,rfl⟩) hd
end
section
theorem zB(K:ao)(hm:X.mg x=none)(ha:QA X k (e::es) ps)(c:do X.K=K)(d:do Gl X x)(f:do bootBuiltins x=some (.builtin "isinstance"))(hn: ~~~(x≠"__name__"))(a: ~~~(cD x))(he:do dN e es X.env)(b:do eX pos es X.env):
  QE X k (.Call (.Name x p) (e::es) [] pos) (pB (wR K) ps):=by
 subst c;exact cA Q6 Uo hm ha d f hn a he b
theorem XT(K:ao)(hm:X.mg x=none)(ha:QA X k (e::es) ps)(c:do X.K=K)(d:do Gl X x)(f:do bootBuiltins x=some (.builtin "isinstance"))(hn: ~~~(x≠"__name__"))(a: ~~~(cD x))(he:do dN e es X.env)(b:do eX pos es X.env):
  QE X k (.Call (.Name x p) (e::es) [] pos) (pB (u0 K) ps):=by
 subst c;exact cA Q0 Wg hm ha d f hn a he b
theorem dz(K:ao)(h:QE X k e pe)(a:do X.K=K)(b:do attributeBase e f X.env (eval e X.env)=eval e X.env):QE X k (.Attribute e f pos) (p1 (gV K f) pe):=by
 subst a;exact XP h b
end
mutual
noncomputable def Cl:Tr->Bool
 |.aY a=>gu a
 |.ak .f a=>gu a
 |.bJ .f a=>rl a
 |.ins .f _ a=>rk a
 |.ak _ _=>false
 |.bJ _ _=>false
 |.ins _ _ _=>false
 |_=>true
noncomputable def gu:List Tr->Bool
 |[]=>true |x::xs=>Cl x&&gu xs
noncomputable def rl:List (bD×Tr)->Bool
 |[]=>true |(_,x)::xs=>Cl x&&rl xs
noncomputable def rk:List (Str×Tr)->Bool
 |[]=>true |(_,x)::xs=>Cl x&&rk xs
end
structure IW(t:Tr):Prop where
 l:aM t=t
 f:aU t=t
 d:dn t=t
 o:ck t=true
 t:b8 t=true
structure KS(t:ai):Prop where
 l:cP t=t
 f:bP t=t
 d:cq t=t
 o:dC t=true
 t:eQ t=true
structure KU(t:eJ):Prop where
 l:eN t=t
 f:ij t=t
 d:kq t=t
 o:gN t=true
 t:ip t=true
structure KW(t:bT):Prop where
 l:dg t=t
 f:f5 t=t
 d:g9 t=t
 o:dB t=true
 t:fi t=true
mutual
theorem ez:∀(t:Tr),Cl t=true->IW t
 |.int _,_=>⟨rfl,rfl,rfl,rfl,rfl⟩
 |.bl _,_=>⟨rfl,rfl,rfl,rfl,rfl⟩
 |.str _,_=>⟨rfl,rfl,rfl,rfl,rfl⟩
 |.aX,_=>⟨rfl,rfl,rfl,rfl,rfl⟩
 |.aL,_=>⟨rfl,rfl,rfl,rfl,rfl⟩
 |.ty _,_=>⟨rfl,rfl,rfl,rfl,rfl⟩
 |.cl _,_=>⟨rfl,rfl,rfl,rfl,rfl⟩
 |.exc _,_=>⟨rfl,rfl,rfl,rfl,rfl⟩
 |.aY xs,h=>have c:=fY xs h;⟨by show Tr.aY (cP xs)=_;rw[c.l],by show Tr.aY (bP xs)=_;rw[c.f],by show Tr.aY (cq xs)=_;rw[c.d],c.o,c.t⟩
 |.ak .f xs,h=>have c:=fY xs h;⟨rfl,rfl,by show Tr.ak .f (cq xs)=_;rw[c.d],c.o,c.t⟩
 |.bJ .f xs,h=>have c:=qf xs h;⟨rfl,rfl,by show Tr.bJ .f (kq xs)=_;rw[c.d],c.o,c.t⟩
 |.ins .f a xs,h=>have c:=qe xs h;⟨rfl,rfl,by show Tr.ins .f a (g9 xs)=_;rw[c.d],c.o,c.t⟩
theorem fY:∀(t:List Tr),gu t=true->KS t
 |[],_=>⟨rfl,rfl,rfl,rfl,rfl⟩
 |x::xs,h=>by
  have h:(Cl x&&gu xs)=true:=h;rw[and_eq_true] at h;have a:=ez x h.1;have b:=fY xs h.2;exact⟨by show aM x::cP xs=_;rw[a.l,b.l],by show aU x::bP xs=_;rw[a.f,b.f],by show dn x::cq xs=_;rw[a.d,b.d],by show (ck x&&dC xs)=_;rw[a.o,b.o];rfl,by show (b8 x&&eQ xs)=_;rw[a.t,b.t];rfl⟩
theorem qf:∀(t:List (bD×Tr)),rl t=true->KU t
 |[],_=>⟨rfl,rfl,rfl,rfl,rfl⟩
 |(k,x)::xs,h=>by
  have h:(Cl x&&rl xs)=true:=h;rw[and_eq_true] at h;have a:=ez x h.1;have b:=qf xs h.2;exact⟨by show (k,aM x)::eN xs=_;rw[a.l,b.l],by show (k,aU x)::ij xs=_;rw[a.f,b.f],by show (k,dn x)::kq xs=_;rw[a.d,b.d],by show (ck x&&gN xs)=_;rw[a.o,b.o];rfl,by show (b8 x&&ip xs)=_;rw[a.t,b.t];rfl⟩
theorem qe:∀(t:List (Str×Tr)),rk t=true->KW t
 |[],_=>⟨rfl,rfl,rfl,rfl,rfl⟩
 |(k,x)::xs,h=>by
  have h:(Cl x&&rk xs)=true:=h;rw[and_eq_true] at h;have a:=ez x h.1;have b:=qe xs h.2;exact⟨by show (k,aM x)::dg xs=_;rw[a.l,b.l],by show (k,aU x)::f5 xs=_;rw[a.f,b.f],by show (k,dn x)::g9 xs=_;rw[a.d,b.d],by show (ck x&&dB xs)=_;rw[a.o,b.o];rfl,by show (b8 x&&fi xs)=_;rw[a.t,b.t];rfl⟩
end
class av(α:Type) where
 t:α->Tr
 c:∀a,Cl (t a)=true
 h:∀a,t a≠.aL
theorem mB[av j]:∀xs:List j,gu ↥xs=true
 |[]=>rfl
 |x::xs=>by show (Cl (av.t x)&&gu ↥xs)=true;rw[av.c x,mB xs];rfl
instance:av Int:=⟨.int,λ_=>rfl,λ_ z=>by cases z⟩
instance:av Str:=⟨.str,λ_=>rfl,λ_ z=>by cases z⟩
instance:av Bool:=⟨.bl,λ_=>rfl,λ_ z=>by cases z⟩
instance:av Rat:=⟨λq=>.aY [.int q.num,.int (q.den:Int)],λ_=>rfl,λ_ z=>by cases z⟩
instance {j:Type} [av j]:av (List j):=⟨λxs=>.ak .f ↥xs,λxs=>mB xs,λ_ z=>by cases z⟩
instance {j y:Type} [av j] [av y]:av (j ⊕ y):=⟨λx=>match x with |.inl a=>av.t a |.inr b=>av.t b,λx=>by cases x<;>exact av.c _,λx=>by cases x<;>exact av.h _⟩
instance {j y:Type} [av j] [av y]:av (j×y):=⟨λx=>.aY [av.t x.1,av.t x.2],λx=>by show (Cl _&&(Cl _&&true))=true;rw[av.c,av.c];rfl,λ_ z=>by cases z⟩
section
variable{α β:Type}[av α][av β](a:α)(xs:List α)
@[simp] theorem SU(n:Int):av.t n=.int n:=rfl
@[simp] theorem nW(n:Str):av.t n=.str n:=rfl
@[simp] theorem YC(n:Bool):av.t n=.bl n:=rfl
theorem HW(q:Rat):av.t q=.aY [.int q.num,.int (q.den:Int)]:=rfl
theorem Lq:aM (av.t a)=av.t a:=(ez _ (av.c a)).l
theorem DG:aU (av.t a)=av.t a:=(ez _ (av.c a)).f
theorem Lp:dn (av.t a)=av.t a:=(ez _ (av.c a)).d
theorem xB:ck (av.t a)=true:=(ez _ (av.c a)).o
theorem DH:b8 (av.t a)=true:=(ez _ (av.c a)).t
theorem mF:cP ↥xs=↥xs:=(fY _ (mB xs)).l
theorem HH:bP ↥xs=↥xs:=(fY _ (mB xs)).f
theorem qL:cq ↥xs=↥xs:=(fY _ (mB xs)).d
theorem zC:dC ↥xs=true:=(fY _ (mB xs)).o
theorem ly:eQ ↥xs=true:=(fY _ (mB xs)).t
end
class inductive Fp:Fl->Prop where
 |f:Fp .f
 |l:Fp (.l false)
instance:Fp .f:=.f
instance:Fp (.l false):=.l
section
variable{f:Fl}[h:Fp f]
theorem yL:aM (.ak f xs)=.ak f xs:=by cases h<;>rfl
theorem E1:aU (.ak f xs)=.ak f xs:=by cases h<;>rfl
theorem E2:dn (.ak f xs)=.ak f (cq xs):=by cases h<;>rfl
theorem xV{j:Type}[av j]{xs:List j}:b8 (.ak f ↥xs)=true:=by cases h<;>first |exact ly xs |rfl
end
section
def gU(pa:cM):cM:=λj Q=>pa j λts=>Q (bP ts)
theorem R9(h:fK K k ta pa):fK K k ta (gU pa):=λF B H j y Q g c p q=>by
 refine h F B H j y _ _ c p λl vs f b i p1 e=>?_
 let⟨a,d,r2⟩:=e.held;exact q _ vs a b [] p1 ⟨d,r2,.nil,.nil⟩
theorem QA.aU(h:QA X k es pa):QA X k es (gU pa):=by
 let⟨c,a,b⟩:=h.h;exact⟨c,a,R9 b⟩
end
theorem pU(x:j)(xs:List j):cN (x::xs) 0=some x:=by unfold cN gp;simp
theorem sJ(x y:j)(xs:List j):cN (x::y::xs) 1=some y:=by unfold cN gp;rw[if_pos ⋯,if_pos (by simp only[length_cons];omega)];rfl
theorem at2(x y z:j)(xs:List j):cN (x::y::z::xs) 2=some z:=by unfold cN gp;rw[if_pos ⋯,if_pos (by simp only[length_cons];omega)];rfl
def dR(n:Nat)(g:ai->(ar)->Prop):cf:=λa Q=>a.length=n/\g a λt=>∀j,Q t j
def KY:cf:=dR 2 λc Q=>∃a b,c=[.int a,.int b]/\0<=a/\0<=b/\Q (.int (gd a b))
def BN:cf:=dR 2 λc Q=>∃a b,c=[.int a,.int b]/\b≠0/\bi b<=7990/\Q (av.t (Rat.divInt a b))
theorem HX(e:b≠0)(h:bi b<=k):bi (gd a b)<=k:=by
 refine qA ?_;have c:=nY h;have d:(gd a b).natAbs<=b.natAbs:=Nat.le_of_dvd ⋯ (Int.natAbs_dvd_natAbs.mpr (xD a b));omega
theorem Ge(c:b≠0)(h:bi b<=7990):dI x (gd a b):=⟨by have:=qo (a:=a) c;omega,nY (le_trans (HX c h) (show 7990<=8000 by omega))⟩
theorem Fm(c:b≠0)(h:bi b<=7990):dI x (-gd a b):=⟨by have:=qo (a:=a) c;omega,by rw[Int.natAbs_neg];exact nY (le_trans (HX c h) (show 7990<=8000 by omega))⟩
theorem Xl(t:Tr)(a:ai)(Q:ar):pC t a Q=(Q t):=rfl
theorem Xm(c:Tr->Tr->(ar)->Prop)(a b:aW)(j:ai)(Q:ar):p2 c a b j Q=(a j λx=>b j λy=>c x y Q):=rfl
theorem Xn(b:Tr->(ar)->Prop)(a:aW)(j:ai)(Q:ar):Pu.p1 b a j Q=(a j λx=>b x Q):=rfl
theorem O8:gD j' Q=(Q []):=rfl
theorem N7:gT pe pa j Q=(pe j λx=>pa j λxs=>Q (x::xs)):=rfl
theorem O9:wH pa j Q=(pa j λxs=>xs.length<=10000/\Q (.aY xs)):=rfl
theorem Pa:wJ pa j Q=(pa j λxs=>xs.length<=10000/\Q (.ak .o xs)):=rfl
theorem Xo(pe:aW)(j:ai)(Q:Bool->Prop):pT pe j Q=(pe j λx=>cU x Q):=rfl
theorem Pb(a b:di)(j:ai)(Q:Bool->Prop):sA a b j Q=(a j λc=>if c=true then b j Q else Q false):=rfl
theorem SV(a b:di)(j:ai)(Q:Bool->Prop):zS a b j Q=(a j λc=>if c=true then Q true else b j Q):=rfl
theorem Pc(a:di)(j:ai)(Q:Bool->Prop):wL a j Q=(a j λc=>Q (!c)):=rfl
theorem N8:jV pa pb j Q=(pa j λx=>cU x λc=>if c=true then pb j Q else Q (.bl false)):=rfl
theorem Pe:wM pa pb j Q=(pa j λx=>cU x λc=>if c=true then Q (.bl true) else pb j Q):=rfl
theorem N9:vS pa j Q=(pa j λx=>cU x λc=>Q (.bl (!c))):=rfl
theorem SW:zR pc pa pb j Q=(pc j λc=>if c=true then pa j Q else pb j Q):=rfl
theorem Pf:sC p q D j=(p { D with nx:=q D } j):=rfl
theorem Oa:sh D j=(D.nx j):=rfl
theorem Pg(i:Nat)(pe:aW)(D:Pd)(j:ai):wN i pe D j=(pe (j.map aM) λt=>b8 t=true/\D.nx (j.set i t)):=rfl
theorem Ph:kS pe D j=(pe (j.map aM) λt=>ck t=true/\D.rt t j):=rfl
theorem Xp:sD pc p q D j=(pc (j.map aM) λb=>if b=true then p D j else q D j):=rfl
theorem MY:rY q aS pa j Q=(pa j λa=>aS (cq a) (λt _=>Q t) q):=rfl
theorem Ob:iA aS pa j Q=(pa j λa=>aS (cq a) λt _=>Q t):=rfl
theorem Xq(b:ai->(ar)->Prop)(a:cM)(j:ai)(Q:ar):pB b a j Q=(a j λc=>b c Q):=rfl
theorem MZ:vH D' j'=(False):=rfl
theorem Oc(i:Nat)(pe:aW)(D:Pd)(j:ai):pG i pe D j=(pe (j.map aM) λt=>b8 t=true/\D.nx (j.set i (aU t))):=rfl
theorem SX(i:Nat)(t:Tr)(j:ai)(Q:aG):oh i t j Q=(Q (j.set i t)):=rfl
theorem M0:rZ ts j Q=(match ts with |[]=>Q j |_=>False):=rfl
theorem Mh(pg:eV)(a:ai->ai->(aG)->Prop)(b:ai)(j:ai)(Q:aG):sf pg a b j Q=(match b with |t::r=>pg t j λc=>a r c Q |[]=>False):=rfl
theorem SY(n:Nat)(a:ai->ai->(aG)->Prop)(t:Tr)(j:ai)(Q:aG):uR n a t j Q=(match t with |.aY b=>b.length=n/\a b j Q |_=>False):=rfl
theorem Pj:wj pe pg D j=(pe (j.map aM) λt=>b8 t=true/\pg (aU t) j D.nx):=rfl
theorem Pk(i j:Nat)(c:cM)(D:Pd)(y:ai):wk i j c D y=(c (y.map aM) λd=>match d with |[a,b]=>b8 a=true/\b8 b=true/\D.nx ((y.set i (aU a)).set j (aU b)) |_=>False):=rfl
theorem S1(pe:aW)(j:ai)(Q:ai->Bool->Prop):zU pe j Q=(pe j λt=>pM (aU t) λxs=>Q xs (b8 (aU t))):=rfl
theorem Pl(a:cM)(y:ai)(Q:ai->Bool->Prop):wo a y Q=(a y λb=>si b λj=>-1000000<=j/\j<=1000000/\Q ((List.range j.toNat).map λ(i:Nat)=>.int i) true):=rfl
theorem Pm(a:cM)(y:ai)(Q:ai->Bool->Prop):wq a y Q=(a y λb=>r6 b λi j=>(-1000000<=i/\i<=1000000/\-1000000<=j/\j<=1000000)/\Q ((List.range (j - i).toNat).map λ(n:Nat)=>.int (i+n)) true):=rfl
theorem Pn(K:ao)(i:Nat)(r:ae)(pe:aW)(D:Pd)(j:ai):wt K i r pe D j=(hV K j i r λu s=>jW u λxs=>pe (j.map aM) λt=>b8 t=true/\xs.length<1000000/\D.nx (s (.ak .o (xs++[aU t])))):=rfl
theorem Od(K:ao)(i:Nat)(r:ae)(b pe:aW)(D:Pd)(j:ai):vT K i r b pe D j=(pe (j.map aM) λt=>b8 t=true/\hV K j i r λu s=>jW u λxs=>b (j.map aM) λy=>kM xs y (aU t) λa=>D.nx (s (.ak .o a))):=rfl
theorem Oe(K:ao)(i:Nat)(r:ae)(f:Str)(pe:aW)(D:Pd)(j:ai):vU K i r f pe D j=(pe (j.map aM) λt=>b8 t=true/\hV K j i r λu s=>kN K f u λc fs=>D.nx (s (.ins .o c (gi f t fs)))):=rfl
theorem S2(a:ai)(Q:bt->Prop):kz a Q=(Q none):=rfl
theorem S3(pe:aW)(j:ai)(Q:bt->Prop):gO pe j Q=(pe j λx=>match x with |.int i=>Q (some i) |_=>False):=rfl
theorem S4:iH pe pl ph j Q=(pe j λx=>pl j λl=>ph j λh=>rh x l h Q):=rfl
theorem M3:vI q C pe D' j=(pe (j.map aM) λ_=>q (.ref C)):=rfl
theorem Of:gU pa j Q=(pa j λts=>Q (bP ts)):=rfl
theorem xQ(n:Int):aM (.int n)=(.int n):=rfl
theorem Po:aM (.bl n)=(.bl n):=rfl
theorem Og:aM (.str n)=(.str n):=rfl
theorem M4:aM .aL=.aL:=rfl
theorem Qg:aM (.cl n)=(.cl n):=rfl
theorem NP:aM (.exc n)=(.exc n):=rfl
theorem xR(n:Int):Pu.aU (.int n)=(.int n):=rfl
theorem Qh:Pu.aU (.bl n)=(.bl n):=rfl
theorem D6(n:Str):Pu.aU (.str n)=(.str n):=rfl
theorem xS(n:Int):dn (.int n)=(.int n):=rfl
theorem NQ:dn (.str n)=(.str n):=rfl
theorem mn(n:Int):ck (.int n)=true:=rfl
theorem Qi:ck (.bl n)=true:=rfl
theorem D7(n:Str):ck (.str n)=true:=rfl
theorem D8(n:Int):b8 (.int n)=true:=rfl
theorem Qj:b8 (.bl n)=true:=rfl
theorem D9(n:Str):b8 (.str n)=true:=rfl
theorem NR:Pu.aU (.aY xs)=.aY (bP xs):=rfl
theorem NS:ck (.aY xs)=dC xs:=rfl
theorem NT:b8 (.aY xs)=eQ xs:=rfl
theorem Ea(xs:ai):aM (.ak .o xs)=.ak (.l true) (cP xs):=rfl
theorem Eb(xs:ai):Pu.aU (.ak .o xs)=.ak .f (bP xs):=rfl
theorem Qk:Pu.aU (.ak (.l b) xs)=.ak (.l b) xs:=rfl
theorem Xr(b:Bool)(xs:ai):aM (.ak (.l b) xs)=.ak (.l b) xs:=rfl
theorem Ec(xs:ai):ck (.ak .o xs)=dC xs:=rfl
theorem xT(xs:ai):b8 (.ak .o xs)=eQ xs:=rfl
theorem GP(xs:ai):ck (.ak .f xs)=dC xs:=rfl
theorem Up(xs:eJ):aM (.bJ .o xs)=.bJ (.l true) (eN xs):=rfl
theorem Uq(xs:eJ):ck (.bJ .o xs)=gN xs:=rfl
def Loop(a:ai)(pg:eV)(c:cc)(D:Pd)(j:ai):Prop:=∃I:Nat->aG,I 0 j/\(∀i t j,a[i]?=some t->I i j->pg t j λb=>c { D with nx:=I (i+1),ct:=I (i+1),bk:=D.nx } b)/\∀j,I a.length j->D.nx j
theorem Ql:wm pi pg pb D j=(pi (j.map aM) λb a=>a=true/\Loop b pg pb D j):=rfl
theorem Loop.map(a:List G)(g:G->Tr){pg:eV}(J:Nat->aG)(c:J 0 u)(step:∀i y u,a[i]?=some y->J i u->pg (g y) u λd=>pb { D with nx:=J (i+1),ct:=J (i+1),bk:=D.nx } d)(b:∀u,J a.length u->D.nx u):Loop (a.map g) pg pb D u:=by
 refine⟨J,c,λi t u h j=>?_,λu h=>b u (by rw[length_map] at h;exact h)⟩;rw[getElem?_map] at h;cases e:a[i]? with
 |none=>rw[e] at h;cases h
 |some y=>rw[e] at h;cases h;exact step i y u e j
def pV(o:Option Tr)(Q:ar):Prop:=match o with |some .aL=>False |some t=>Q t |none=>False
theorem Qm(i:Nat)(j:ai)(Q:ar):c9 i j Q=pV j[i]? Q:=rfl
theorem S5[av j](a:j)(Q:ar):pV (some (av.t a)) Q=Q (av.t a):=by
 have h:=av.h a;generalize av.t a=t at h;cases t with
 |aL=>exact absurd rfl h
 |_=>rfl
theorem S6:pV (some (.int n)) Q=Q (.int n):=rfl
theorem Xs:pV (some (.bl n)) Q=Q (.bl n):=rfl
theorem S7:pV (some (.str n)) Q=Q (.str n):=rfl
theorem S8:pV (some (.exc n)) Q=Q (.exc n):=rfl
theorem S9:pV (some (.aY xs)) Q=Q (.aY xs):=rfl
theorem Ta:pV (some (.ak f xs)) Q=Q (.ak f xs):=rfl
theorem Sl(f:Fl)(c:ah)(xs:bT)(Q:ar):pV (some (.ins f c xs)) Q=Q (.ins f c xs):=rfl
theorem M5(q:Rat)(Q:ar):jY (av.t q) (.int 0) Q=Q (.int q.num):=rfl
theorem M6(q:Rat)(Q:ar):jY (av.t q) (.int 1) Q=Q (.int (q.den:Int)):=rfl
def bN(d:ai)(pg:eV)(pt:di)(pe:aW)(e:ai)(Q:ar):Prop:=∃I:Nat->aG,I 0 []/\
 (∀i t a,d[i]?=some t->I i a->pg t e λc=>pt c λb=>if b=true then pe c λx=>a.length<1000000/\I (i+1) (a++[x]) else I (i+1) a)/\∀a,I d.length a->a.length<=1000000/\Q (.ak .o a)
theorem NU(a:iL)(pg:eV)(pt:di)(pe:aW)(ix:bK)(j:ai)(Q:ar):vY a pg pt pe ix j Q=(a j λb _=>bN b pg pt pe (lZ ix j) Q):=rfl
theorem bN.zh(c:List j)(g:j->Tr)(h:j->Tr){pg:eV}{pe:aW}{Q:ar}(d:c.length<=1000000)(step:∀y∈c,∀R:ar,R (h y)->pg (g y) j' λf=>pe f R)(q:Q (.ak .o (c.map h))):bN (c.map g) pg pO pe j' Q:=by
 refine⟨λi b=>b=(c.take i).map h,rfl,λi t b e a=>?_,λb a=>?_⟩
 .rw[getElem?_map] at e;cases e':c[i]? with
  |none=>rw[e'] at e;cases e
  |some y=>
   rw[e'] at e;cases e;have l:=(List.getElem?_eq_some_iff.mp e').1;refine step y (mem_of_getElem? e') _ ⟨?_,?_⟩
   .rw[a,length_map,length_take];omega
   .show b++[h y]=(c.take (i+1)).map h;rw[a,List.take_add_one,e',map_append];rfl
 .rw[length_map,List.take_length] at a;rw[a,length_map];exact⟨d,q⟩
theorem bN.map[av j](a:List u)(g:u->Tr)(h:u->j){pg:eV}{pe:aW}{Q:ar}(b:a.length<=1000000)(step:∀y∈a,∀R:ar,R (av.t (h y))->pg (g y) j' λc=>pe c R)(q:Q (.ak .o ((a.map h).map av.t))):bN (a.map g) pg pO pe j' Q:=
 bN.zh a g (λy=>av.t (h y)) b step (by rw[map_map] at q;exact q)
def oQ(o:Option Tr)(Q:ar):Prop:=match o with |some t=>Q t |none=>False
theorem Qn(t:Tr)(Q:ar):oQ (some t) Q=Q t:=rfl
section
theorem Qo:jY (.aY xs) (.int i) Q=oQ (cN xs i) Q:=rfl
theorem xW:jY (.ak f xs) (.int i) Q=oQ (cN xs i) Q:=rfl
theorem Qp(C:Int->Int->Prop)(t:Int->Int->Tr):gf C t (.int i) (.int j) Q=(C i j/\Q (t i j)):=rfl
theorem Qq:l5 (.int i) (.int j) Q=Q (.int (i+j)):=rfl
theorem Fn:l5 (.str x) (.str y) Q=(x.length+y.length<=1000000/\Q (.str (x++y))):=rfl
theorem Qr:l5 (.ak f xs) (.ak g ys) Q=(xs.length+ys.length<=1000000/\Q (.ak .o (xs++ys))):=rfl
theorem w_lt:u3 (.int i) (.int j) Q=Q (.bl (decide (i<j))):=rfl
theorem Xt:Af (.int i) (.int j) Q=Q (.bl (decide (j<i))):=rfl
theorem Sn:pK (.int i) Q=Q (.int (-i)):=rfl
theorem So:wQ [.int i] Q=Q (.int (if i<0 then -i else i)):=rfl
theorem Xu(R:Bool->Prop):cU (.bl b) R=R b:=rfl
theorem Sq:gs false (.int i) (.int j) Q=Q (.bl (decide (i=j))):=rfl
theorem Sr:gs false (.str x) (.str y) Q=Q (.bl (decide (x=y))):=rfl
theorem Ss:gs true (.int i) (.int j) Q=Q (.bl (!decide (i=j))):=rfl
theorem Su:gs true (.str x) (.str y) Q=Q (.bl (!decide (x=y))):=rfl
theorem Qs:pN k [.ak f xs] Q=Q (.int xs.length):=rfl
theorem Qt:vW [.ak f xs] Q=Q (.ak .o xs):=rfl
theorem Sv(R:aG):pM (.ak f xs) R=R xs:=rfl
theorem Qu(R:Int->Prop):si [.int i] R=R i:=rfl
theorem Qv(R:Int->Int->Prop):r6 [.int i,.int j] R=R i j:=rfl
theorem Qw:vX [.bl b] Q=Q (.int (if b=true then 1 else 0)):=rfl
end
section
def rg(o:Option Tr)(R:ar):Prop:=match o with |some .aL=>False |some t=>R t |none=>False
theorem Sw(j:ai)(i:Nat)(Q:Tr->(Tr->ai)->Prop):hV K j i [] Q=rg j[i]? λt=>Q t λu=>j.set i u:=by
 unfold hV rg;cases j[i]? with
 |none=>rfl
 |some t=>cases t <;> first |rfl |exact propext ⟨λh=>h.2,λh=>⟨trivial,h⟩⟩
theorem Qx(f:Fl)(xs:ai)(R:ar):rg (some (.ak f xs)) R=R (.ak f xs):=rfl
theorem Qy:jW (.ak .o xs) Q=Q xs:=rfl
end
section
variable{α:Type}[av α]
theorem xU(xs:List α)(i:Int):cN ↥xs i=(cN xs i).map av.t:=by
 unfold cN;rw[length_map];cases gp xs.length i with
 |none=>rfl
 |some n=>exact getElem?_map ..
theorem gZ(xs:List j)(a:0<=i)(h:i.toNat<xs.length):cN xs i=some (xs[i.toNat]'h):=by
 unfold cN gp;rw[if_pos a,if_pos ⋯];exact List.getElem?_eq_getElem h
theorem uw[av j](o:Option j)(Q:ar)(x:j)(h:o=some x)(q:Q (av.t x)):oQ ↥o Q:=by rw[h];exact q
theorem NV(xs:List α)(l h:bt):dQ ↥xs l h=(dQ xs l h).map av.t:=by
 unfold dQ;rw[length_map,List.map_take,List.map_drop]
theorem Sy(f:Fl)(xs:ai)(l h:bt)(Q:ar):rh (.ak f xs) l h Q=Q (.ak .o (dQ xs l h)):=rfl
end
theorem join{p:cc}(J:aG)(a:∀N:aG,(∀j,J j->N j)->p { D with nx:=N } j)(b:∀j,J j->D.nx j):p D j:=a D.nx b
section
theorem a7.aL{i:Nat}(W:a7 K k lo us Fb Hb F H y G cs):a7 K k lo us Fb Hb F H y (G.set i .aL) (λj=>if j=i then [] else cs j) where
 g:=W.g
 z:=W.z
 l:=by rw[length_set];exact W.l
 e:=λj u h=>by
  by_cases e:j=i
  .subst e;have s:j<G.length:=by have:=(List.getElem?_eq_some_iff.mp h).1;rw[length_set] at this;exact this
   rw[getElem?_set_self s] at h;cases h;exact .inl rfl
  .rw[getElem?_set_ne (λz=>e z.symm)] at h;rw[if_neg e];exact W.e j u h
 c:=λj=>by
  split
  .exact .nil
  .exact W.c j
 n:=λj=>by
  split
  .exact .nil
  .exact W.n j
 d:=λa b ne p f q m=>by
  by_cases o:a=i
  .rw[if_pos o] at f;cases f
  .rw[if_neg o] at f;by_cases r:b=i
   .rw[if_pos r] at m;cases m
   .rw[if_neg r] at m;exact W.d a b ne p f q m
 p:=W.p
 x:=W.x
end
theorem bN.filter[av j](c:List u)(g:u->Tr)(p:u->Bool)(h:u->j){pg:eV}{pt:di}{Q:ar}(m:c.length<=1000000)(step:∀y∈c,∀(A:Prop)(R:ar),(p y=true->R (av.t (h y)))->(p y=false->A)->pg (g y) j' λk=>pt k λb=>if b=true then pe k R else A)(q:Q (.ak .o (((c.filter p).map h).map av.t))):bN (c.map g) pg pt pe j' Q:=by
 refine⟨λi d=>d=(((c.take i).filter p).map h).map av.t,rfl,λi t d e a=>?_,λd a=>?_⟩
 .rw[getElem?_map] at e;cases e':c[i]? with
  |none=>rw[e'] at e;cases e
  |some y=>
   rw[e'] at e;cases e;have l:=(List.getElem?_eq_some_iff.mp e').1;have tk:c.take (i+1)=c.take i++[y]:=by rw[List.take_add_one,e'];rfl
   refine step y (mem_of_getElem? e') _ _ (λf=>⟨?_,?_⟩) (λf=>?_)
   .rw[a,length_map,length_map];have:=List.length_filter_le p (c.take i);rw[length_take] at this;omega
   .show d++[av.t (h y)]=(((c.take (i+1)).filter p).map h).map av.t;rw[tk,List.filter_append,a,List.filter_cons_of_pos f,map_append,map_append];rfl
   .show d=(((c.take (i+1)).filter p).map h).map av.t;rw[tk,List.filter_append,a,List.filter_cons_of_neg (by rw[f];decide),List.filter_nil,append_nil]
 .rw[length_map,List.take_length] at a;rw[a,length_map,length_map];exact⟨le_trans (List.length_filter_le p c) m,q⟩
mutual
noncomputable def HK:Tr->Tr->Bool
 |.int a,.int b=>decide (a=b)
 |.str a,.str b=>decide (a=b)
 |.bl a,.bl b=>decide (a=b)
 |.aX,.aX=>true
 |.aY xs,.aY ys=>mU xs ys
 |.ak _ xs,.ak _ ys=>mU xs ys
 |_,_=>false
noncomputable def mU:List Tr->List Tr->Bool
 |[],[]=>true
 |x::xs,y::ys=>HK x y&&mU xs ys
 |_,_=>false
end
def CD:eJ->eJ->Bool
 |[],[]=>true
 |x::xs,y::ys=>decide (x.1=y.1)&&(HK x.2 y.2&&CD xs ys)
 |_,_=>false
def CF:eJ->Nat
 |[]=>0
 |x::xs=>max (dep x.2) (CF xs)
mutual
noncomputable def Sk:Tr->Tr->Bool
 |.int a,.int b=>decide (a=b)
 |.str a,.str b=>decide (a=b)
 |.bl a,.bl b=>decide (a=b)
 |.aX,.aX=>true
 |.aY xs,.aY ys=>mT xs ys
 |.ak _ xs,.ak _ ys=>mT xs ys
 |.bJ _ xs,.bJ _ ys=>CD xs ys
 |_,_=>false
noncomputable def mT:List Tr->List Tr->Bool
 |[],[]=>true
 |x::xs,y::ys=>Sk x y&&mT xs ys
 |_,_=>false
end
mutual
noncomputable def KZ:Tr->Nat
 |.aY a=>i4 a + 1
 |.ak _ a=>i4 a + 1
 |.bJ _ a=>CF a + 1
 |_=>0
noncomputable def i4:List Tr->Nat
 |[]=>0
 |x::xs=>max (KZ x) (i4 xs)
end
def TM(X:Cx)(id:String)(r:Str->Str->Hp->VK->Prop):Prop:=∀(aa:aT)(s:aj)(j:St)(H:Hp)(a b:Str)(t u:Tok)(Q:VK),aw X aa j H s->r a b H Q->wpAny (model X.prog X.w) X.A (call (.builtin id) [.str a t,.str b u]) (EP X aa j Q) X.xe s
def H0(r:Str->Str->Hp->VK->Prop)(e ty:TE):TE:=λj H Q=>e j H λx c=>∃a,x=.str a/\ty j c λy d=>∃b,y=.str b/\r a b d Q
section
theorem zD{o e:Expr}{name:Str}{id:String}{c d:Pos}{i ty:TE}{r:Str->Str->Hp->VK->Prop}(J:Slot "str" name id)(M:typeOf (.builtin id)=pure (.type "method_descriptor"))(v:TM X id r)(w:PE X o i)(he:PE X e ty)(m:M1 X o name c e d):PE X (.Call (.Attribute o name c) [e] [] d) (H0 r i ty):=by
 intro aa s j H Q I h;refine wpAny_Call_method m.base m.DU m.line PySem.F.plainAttrs_str J M (bo (w aa s j H _ I h) λu g f=>?_);let⟨x,k,n,D,a,ex,B⟩:=f;subst ex;let⟨t,rfl⟩:=(show ∃t,u=Value.str a t from D);refine⟨typeIs_str g a t,(λb z=>by cases z),?_⟩;rw[m.trees];refine Calls.callWith_builtin rfl (Calls.evalArgs_plain (Calls.spliced_cons (bo (he aa g j k _ n B) λA G f=>?_)));let⟨y,l,p,E,b,q,C⟩:=f;refine Calls.spliced_nil ?_;subst q;let⟨L,rfl⟩:=(show ∃t,A=Value.str b t from E);exact v aa G j l a b t L Q p C
def oj(a b:Str):Bool:=decide (0+b.length<=a.length)&&Builtin.Str.subAt a b 0
theorem Qz:TM X "str.startswith" λa b H Q=>Q (.bl (oj a b)) H:=λaa s j H a b t u Q I q=>
 call_gives F.slot_str_startswith (typeIs_str s a t) F.entry_str_startswith (F.args_str_startswith_2 _ _) (gives_str_startswith a b t u) ⟨.bl _,H,I,rfl,q⟩
theorem D0:∀(ps:ae)(n:Nat),aF (ps.map V.str) (strsFrom n ps)
 |[],_=>.nil
 |p::ps,n=>.cons ⟨n,rfl⟩ (D0 ps (n + 1))
theorem xJ{s:aj}{Q:VK}(I:aw X aa j H s)(d:aF xs bf)(c:xs.length<=sizeLine)(q:Q (.ref ⇑s) (a6 H ⇑s (.ak xs))):EP X aa j Q (.ref ⇑s) { s with heap:=s.heap.push { cls:=.type "list",data:=.seq bf.toArray },toks:=t' }:=
 ⟨.ref _,_,I.laid (a:=⇑s) (o:=.ak xs) (t':=t') (λb o e=>Heap.get?_push_of_some _ e) (le_refl _) ⟨c,bf,0,d,Heap.get?_push_size _ rfl⟩,rfl,q⟩
theorem Sa:TM X "str.split" λa b H Q=>(b.length == 0)=false/\a.length<=1000000/\(Txt.split a b).length<=1000000/\∀p,H p=none->Q (.ref p) (a6 H p (.ak ((Txt.split a b).map V.str))):=λaa s j H a b t u Q I ⟨e,h1,h2,q⟩=>by
 have f:H ⇑s=none:=I.aV.fresh (le_refl _);have q:=q _ f;have sz:=sizeLine_eq;unfold Txt.split at h2 q;by_cases c:(decide (a.length<b.length) || decide (Builtin.Str.strKind a<Builtin.Str.strKind b))=true
 .rw[if_pos c] at h2 q;refine call_meets F.slot_str_split (typeIs_str s a t) F.entry_str_split (F.args_str_split_2 _ _) (meets_str_split_cannot_occur a b t u c) ?_;exact xJ (t':=s.toks) I (xs:=[.str a]) (bf:=[.str a t]) (.cons ⟨t,rfl⟩ .nil) (show (1:Nat)<=sizeLine by rw[sz];decide) q
 .rw[if_neg c] at h2 q;have c:=eq_false_iff.mpr c;by_cases d:(Builtin.Str.occurrences a b 0 a.length (a.length+1)).isEmpty=true
  .rw[if_pos d] at h2 q;refine call_meets F.slot_str_split (typeIs_str s a t) F.entry_str_split (F.args_str_split_2 _ _) (meets_str_split_not_found a b t u c e d) ?_;exact xJ (t':=s.toks) I (xs:=[.str a]) (bf:=[.str a t]) (.cons ⟨t,rfl⟩ .nil) (show (1:Nat)<=sizeLine by rw[sz];decide) q
  .rw[if_neg d] at h2 q;refine call_meets F.slot_str_split (typeIs_str s a t) F.entry_str_split (F.args_str_split_2 _ _) (meets_str_split_sep a b t u c e (eq_false_iff.mpr d) (by rw[sz];omega) (by rw[sz];omega)) ?_;exact xJ I (D0 _ _) (by rw[length_map,sz];omega) q
end
def f9(x:Tr)(R:Str->Prop):Prop:=match x with |.str a=>R a |_=>False
def q0(d:Str->Str->(ar)->Prop)(c e:aW):aW:=λj Q=>c j λx=>f9 x λa=>e j λy=>f9 y λb=>d a b Q
theorem jA{R:Str->Prop}(h:f9 x R):∃a,x=.str a/\R a:=by
 unfold f9 at h;split at h
 .exact⟨_,rfl,h⟩
 .exact h.elim
def vA(a b:Str)(Q:ar):Prop:=Q (.bl (oj a b))
def vJ(a b:Str)(Q:ar):Prop:=(b.length == 0)=false/\a.length<=1000000/\(Txt.split a b).length<=1000000/\Q (.ak .o ((Txt.split a b).map Tr.str))
section
def rq(K:ao)(r:Str->Str->Hp->VK->Prop)(g:Str->Str->(ar)->Prop):Prop:=∀(F:Hp)(B:Bool->Hp)(H:Hp)(a b:Str)(Q:VK)(e:ar),aA F H->(∀k,aA (B k) H)->g a b e->(∀t v f d c,e t->Out K F B H f d t v c->Q v d)->r a b H Q
theorem yP(o:rq K r pr)(hd:bu K k td pd)(I:bu K k ty py):bu K k (H0 r td ty) (q0 pr pd py):=λF B H j i Q E c p q=>by
 refine hd F B H j i _ _ c p λx v l A L p1 d=>?_
 let⟨a,rfl,p1⟩:=jA p1;refine⟨a,d.r.1,?_⟩;refine I l B A j i _ _ (c.gr d.g) p1 λy u w C M p2 e=>?_
 let⟨b,rfl,p2⟩:=jA p2;refine⟨b,e.r.1,?_⟩;exact o w B C a b Q E e.g.s (λk=>((c.b k).trans d.g.h).trans e.g.h) p2 λt v z D G J f=>q t v z D G J ⟨(d.g.trans' e.g).trans' f.g,f.r,f.c,λp m=>(d.g.h.trans e.g.h).free (f.n p m)⟩
theorem OU:rq K (λa b H Q=>Q (.bl (oj a b)) H) vA:=λF B H a b Q c s _ p q=>q _ _ F H [] p (Out.same s ⟨rfl,rfl⟩)
theorem qh:∀ps:ae,Rs K F B (ps.map Tr.str) (ps.map V.str) []
 |[]=>⟨rfl,rfl⟩
 |p::ps=>⟨_,_,[],[],rfl,rfl,⟨rfl,rfl⟩,qh ps⟩
theorem QC:rq K (λa b H Q=>(b.length == 0)=false/\a.length<=1000000/\(Txt.split a b).length<=1000000/\∀p,H p=none->Q (.ref p) (a6 H p (.ak ((Txt.split a b).map V.str)))) vJ:=λF B H a b Q h s _ ⟨d,h1,h2,p⟩ q=>⟨d,h1,h2,λl c=>by
 let⟨e,f,g⟩:=nI (K:=K) (B:=B) s (qh (Txt.split a b)) .nil c;exact q _ _ F _ _ p ⟨e,f,g,λp m=>by cases m with |head=>exact c |tail _ m=>cases m⟩⟩
end
section
theorem Sb(f:QE X k o po)(he:QE X k e pe)(m:M1 X o "startswith" apos e bB):QE X k (.Call (.Attribute o "startswith" apos) [e] [] bB) (q0 vA po pe):=by
 ∎;let⟨g,c,d⟩:=f.h;let⟨i,a,b⟩:=he.h;∎;exact⟨_,zD F.slot_str_startswith F.type_str_startswith Qz c a m,yP OU d b⟩
theorem tV(f:QE X k o po)(he:QE X k e pe)(m:M1 X o "split" apos e bB):QE X k (.Call (.Attribute o "split" apos) [e] [] bB) (q0 vJ po pe):=by
 ∎;let⟨g,c,d⟩:=f.h;let⟨i,a,b⟩:=he.h;∎;exact⟨_,zD F.slot_str_split F.type_str_split Sa c a m,yP QC d b⟩
end
def rm(x:Str):It:=⟨λi _=>i<x.cps.size,λi H v a=>a=H/\∃c,x.cps[i]?=some c/\v=.str ⟨#[c]⟩,λi _=>x.cps.size<=i⟩
theorem Ej(a:A.handled=none)(it:ah)(x:Str)(t:Tok):Walks prog w A it [it] [it] x.cps.size (SignAt x) (λi h=>h.IsStrIter it (strIterType x) x t i):=by
 cases e:x.cps.all (·<128)
 .have z:strIterType x="str_iterator":=by unfold strIterType;rw[e];rfl
  rw[z];exact Walks.strWide a it x t
 .have z:strIterType x="str_ascii_iterator":=by unfold strIterType;rw[e];rfl
  rw[z];exact Walks.strAscii a it x t
theorem Sd(x:Str)(t:Tok)(it:ah):pR P w K tg (rm x) [it] it (λi h=>i<=x.cps.size/\h.IsStrIter it (strIterType x) x t i) where
 mem:=by simp
 obj:=λi h st b a=>by
  have e:b=it:=by simpa using a
  subst e;let⟨_,o,e,c,d⟩:=st;exact⟨o,e,λv z=>by rw[d] at z;cases z⟩
 keep:=λi h g st k=>by
  let⟨M,o,e,c,d⟩:=st;exact⟨M,o,k it (by simp) o e,c,d⟩
 item:=by
  intro X D J C G i aa s j H E I l st m;subst D J C;let⟨n,p,U,r,y,B⟩:=l it (by simp);refine (Ej (prog:=X.prog) (w:=X.w) (I.ok.hd G) it x t).item i s _ _ m st.2 λv g tk Y f L=>?_
  have N:aw X aa j H { s with heap:=g,toks:=tk }:=I.turned (λb o a e=>L b o (by simpa using a) e) n p r y B;let⟨c,u,hx,rfl⟩:=(show ∃c u,x.cps[i]?=some c/\v=Value.str ⟨#[c]⟩ u from Y)
  let⟨o,e,O,d⟩:=id f;refine⟨_,rfl,zj (s:={ s with heap:=g,toks:=tk }) e O d ?_ ⟨.str ⟨#[c]⟩,H,N,⟨u,rfl⟩,⟨rfl,c,hx,rfl⟩,⟨m,f⟩,λb a=>(l b a).1⟩⟩;unfold strIterType;split<;>decide
 done:=by
  intro X D J C G i aa s j H E I l st m;subst D J C;let⟨n,p,U,r,y,B⟩:=l it (by simp);have e:i=x.cps.size:=Nat.le_antisymm st.1 m;subst e;exact (Ej (prog:=X.prog) (w:=X.w) (I.ok.hd G) it x t).done s _ _ st.2 λg tk L=>⟨rfl,I.turned (λb o a e=>L b o (by simpa using a) e) n p r y B⟩
 self:=λA i s Q E st q=>by
  let⟨M,st⟩:=st;cases e:x.cps.all (·<128)
  .have z:strIterType x="str_iterator":=by unfold strIterType;rw[e];rfl
   rw[z] at st;exact wpAny_pyIter_striter_wide st q
  .have z:strIterType x="str_ascii_iterator":=by unfold strIterType;rw[e];rfl
   rw[z] at st;exact wpAny_pyIter_striter_ascii st q
def CG(c:TE):TI:=λj H R=>c j H λx b=>∃a,x=.str a/\R (rm a) b
theorem Xv(k:PE X l tl):PI X tg l (CG tl):=by
 intro aa s j H R I h;refine bo (k aa s j H _ I h) λv c f=>?_
 ∎;let⟨x,g,d,r1,m⟩:=f;let⟨a,e,q⟩:=m;∎;subst e;let⟨t,rfl⟩:=(show ∃t,v=Value.str a t from r1);refine wpAny_pyIter_strU ?_;refine⟨⇑c,[⇑c],_,_,g,rfl,d.kept (t':=c.toks) λb o e=>Heap.get?_push_of_some _ e,Sd a t _,⟨zero_le _,_,Heap.get?_push_size _ rfl,rfl,rfl⟩,λb i=>?_,q⟩;have e:b=⇑c:=by simpa using i
 subst e;exact d.mM (le_refl _) (d.aV.fresh (le_refl _))
def kO(x:Str):ai:=x.cps.toList.map λc=>.str ⟨#[c]⟩
def zV(pe:aW):iL:=λj Q=>pe j λt=>f9 t λx=>Q (kO x) true
theorem Xw:hX (rm x) (kO x).length (λ_=>True) (λi H v a=>(∃c,x.cps[i]?=some c/\v=.str ⟨#[c]⟩)/\a=H):=by
 have e:(kO x).length=x.cps.size:=by unfold kO;rw[length_map,length_toList]
 rw[e];exact⟨λi H h _=>h,λH _=>le_refl _,λi H x a h _ y=>⟨y.2,y.1⟩⟩
section
theorem FI:Src K B F (rm x) (kO x):=by
 refine⟨_,_,Xw,λ_ _ _ _ _=>True.intro,λi t d g v e a h s b y=>?_⟩;let⟨⟨c,f,rfl⟩,rfl⟩:=y;unfold kO at a;rw[getElem?_map,Array.getElem?_toList,f] at a;cases a;exact⟨d,Gr.aH s,rfl,rfl⟩
theorem Se(h:bu K k te pe):l7 K k (CG te) (zV pe):=λF B H j y i f c p q=>by
 refine h F B H j y _ _ c p λt v b d l p1 o=>?_
 let⟨a,rfl,p1⟩:=jA p1;exact⟨a,o.r.1,q _ _ _ b d p1 o.g FI λ_ e _=>FI⟩
end
section
theorem uJ(h:QE X k l pl):QI X k tg l (zV pl):=by
 let⟨c,a,b⟩:=h.h;exact⟨_,Xv a,Se b⟩
end
def kU(b a:Str):Bool:=!(Builtin.Str.occurrences b a 0 b.length 1).isEmpty
def sF(neg:Bool)(x y:Tr)(Q:ar):Prop:=f9 x λa=>f9 y λb=>Q (.bl (if neg=true then !kU b a else kU b a))
theorem FJ:cW K k (λx y H Q=>∃i j,x=.str i/\y=.str j/\Q (.bl (!(Builtin.Str.occurrences j i 0 j.length 1).isEmpty)) H) (sF false):=λF B H x y tx ty e f Q d s b z a c g h hd p q=>by
 ∎;let⟨i,rfl,p1⟩:=jA p;let⟨j,rfl,p2⟩:=jA p1;∎;exact⟨i,j,a.1,c.1,q _ _ F H [] p2 (Gr.aH s) ⟨rfl,rfl⟩ .nil λ_ m=>nomatch m⟩
theorem D1:cW K k (λx y H Q=>∃i j,x=.str i/\y=.str j/\Q (.bl (!(!(Builtin.Str.occurrences j i 0 j.length 1).isEmpty))) H) (sF true):=λF B H x y tx ty e f Q d s b z a c g h hd p q=>by
 ∎;let⟨i,rfl,p1⟩:=jA p;let⟨j,rfl,p2⟩:=jA p1;∎;exact⟨i,j,a.1,c.1,q _ _ F H [] p2 (Gr.aH s) ⟨rfl,rfl⟩ .nil λ_ m=>nomatch m⟩
theorem mh:a9 X (.type "int") (λxs H Q=>∃x n,xs=[.str x]/\intText? x=some n/\x.length<=640/\Q (.int n) H):=by
 intro aa s j H xs us Q I r h;∎;let⟨x,n,rfl,e,a,q⟩:=h;let⟨u,rfl,b⟩:=gX r;let⟨t,rfl⟩:=(show ∃t,u=Value.str x t from b);∎;exact W.KIN.call_text e a ⟨.int _,H,I.tok _,⟨_,rfl⟩,q⟩
def sj(a:ai)(Q:ar):Prop:=match a with
 |[.str x]=>∃n,intText? x=some n /\ x.length <= 640 /\ Q (.int n)
 |_=>False
theorem mj:gy K k (λxs H Q=>∃x n,xs=[.str x]/\intText? x=some n/\x.length<=640/\Q (.int n) H) sj:=λF B H xs g d Q c s b z r f p q=>by
 unfold sj at p;split at p
 .obtain⟨v,rfl,rfl,_⟩:=r.one;let⟨n,e,a,p⟩:=p;exact⟨_,n,rfl,e,a,q _ _ F H [] p (Gr.aH s) ⟨rfl,rfl⟩ .nil λ_ m=>nomatch m⟩
 .exact p.elim
def kW(K:ao)(k:Md)(b:Str->TE)(a:Str->aW):Prop:=∀out,bu K k (b out) (a out)
def zX:Str->aW:=λout _ Q=>out.length<=1000000/\Q (.str out)
def zY(x:Str)(p:Str->aW):Str->aW:=λout j Q=>(out++x).length<=1000000/\p (out++x) j Q
def zZ(pe:aW)(p:Str->aW):Str->aW:=λout j Q=>pe j λt=>f9 t λy=>y.length<=1000000/\(out++y).length<=1000000/\p (out++y) j Q
def G6(p:Str->aW):aW:=p Str.empty
section
theorem qr(h:n<=1000000):n<=sizeLine:=by rw[sizeLine_eq];omega
theorem Xx:kW K k C0 zX:=λout F B H j y Q a c p q=>⟨qr p.1,q _ _ F H [] p.2 (Out.same c.s ⟨rfl,rfl⟩)⟩
theorem Xy(h:kW K k t p):kW K k (C1 x t) (zY x p):=λout F B H j y Q b c a q=>⟨qr a.1,h _ F B H j y Q b c a.2 q⟩
theorem Xz(he:bu K k te pe)(h:kW K k t p):kW K k (C2 te t) (zZ pe p):=λout F B H j u Q l c x q=>by
 refine he F B H j u _ _ c x λt v d f A p1 a=>?_
 let⟨y,rfl,s,w,p1⟩:=jA p1;exact⟨y,a.r.1,qr s,qr w,h _ d B f j u Q l (c.gr a.g) p1 λt v e i o z b=>q t v e i o z ⟨a.g.trans' b.g,b.r,b.c,λp m=>a.g.h.free (b.n p m)⟩⟩
end
structure QJ(X:Cx)(k:Md)(es:bS)(pj:Str->aW):Prop where
 h:∃tj,PJ X es tj/\kW X.K k tj pj
section
theorem iU:QJ X k [] zX:=⟨_,VZ,Xx⟩
theorem gF(h:QJ X k es p):QJ X k (.Constant (.str x) j pos::es) (zY x p):=by
 let⟨t,a,b⟩:=h.h;exact⟨_,V0 a,Xy b⟩
theorem fk(he:QE X k e pe)(h:QJ X k es p):QJ X k (.FormattedValue e (-1) none pos::es) (zZ pe p):=by
 ∎;let⟨t,c,d⟩:=h.h;let⟨f,a,b⟩:=he.h;∎;exact⟨_,V1 a c,Xz b d⟩
theorem iV(h:QJ X k (a::b::es) p):QE X k (.JoinedStr (a::b::es) pos) (G6 p):=by
 let⟨t,c,d⟩:=h.h;exact⟨_,Tq c,d _⟩
end
def vZ(K:ao)(a:ai)(Q:ar):Prop:=match a with
 |[.exc D,.aY cs]=>∃(as:bV)(b:Bool),cs=as.map Tr.cl /\ dM K D /\ W.kitAny K (.ref D) (as.map Value.ref)=some b /\ Q (.bl b)
 |_=>False
theorem yQ:∀{as:bV}{vs:ax}{c:Cs},Rs K F B (as.map Tr.cl) vs c->vs=as.map V.ref
 |[],_,_,h=>h.1
 |a::as,_,_,y=>by let⟨v,r,c,d,b,_,e,f⟩:=y;rw[b,e.1,yQ f];rfl
theorem Sg:gy K k (Cd K) (vZ K):=λF B H D A w Q o s b z r y p q=>by
 unfold vZ at p;split at p
 .obtain⟨v,us,c,d,rfl,rfl,h3,h4⟩:=r;∎;let⟨C,n,u,x,rfl,rfl,i,j⟩:=h4;let⟨rfl,_⟩:=j;let⟨as,f,rfl,g,h,p⟩:=p;let⟨_,a,rfl,ha⟩:=h3;let⟨t,vs,rfl,e,l⟩:=i.cQ s;∎;rw[yQ l] at e;exact⟨a,_,t,as,f,rfl,s.rd ha,g,e,h,q _ _ F H [] p (Gr.aH s) ⟨rfl,rfl⟩ .nil λ_ m=>nomatch m⟩
 .exact p.elim
theorem XA(K:ao)(c:X.K=K)(d:Gl X x)(hm:X.mg x=none)(f:bootBuiltins x=some (.builtin "isinstance"))(ha:QA X k (e::es) ps)(hn: ~~~(x≠"__name__"))(a: ~~~(cD x))(he:do dN e es X.env)(b:do eX pos es X.env):
  QE X k (.Call (.Name x p) (e::es) [] pos) (pB (vZ K) ps):=by
 subst c;exact cA PH Sg hm ha d f hn a he b
theorem XU(hm:X.mg x=none)(a:do Gl X x)(b:do bootBuiltins x=some (.type n))(hn: ~~~(x≠"__name__"))(hd: ~~~(cD x)):QE X k (.Name x pos) (pC (.ty n)):=⟨_,TX (v:=.ty n) a hm b rfl hn hd,qB λ_ _=>⟨rfl,rfl⟩⟩
theorem Sz(d:Str->Str->(ar)->Prop)(c e:aW)(j:ai)(Q:ar):q0 d c e j Q=(c j λx=>f9 x λa=>e j λy=>f9 y λb=>d a b Q):=rfl
theorem XB(a:Str)(R:Str->Prop):f9 (.str a) R=R a:=rfl
theorem QD:kO x=x.cps.toList.map λc=>.str ⟨#[c]⟩:=rfl
theorem SA(pe:aW)(j:ai)(Q:ai->Bool->Prop):zV pe j Q=(pe j λt=>f9 t λx=>Q (kO x) true):=rfl
theorem SD:G6 p j Q=p Str.empty j Q:=rfl
theorem SE(out:Str)(j:ai)(Q:ar):zX out j Q=(out.length<=1000000/\Q (.str out)):=rfl
theorem SF(x:Str)(p:Str->aW)(out:Str)(j:ai)(Q:ar):zY x p out j Q=((out++x).length<=1000000/\p (out++x) j Q):=rfl
theorem SG(pe:aW)(p:Str->aW)(out:Str)(j:ai)(Q:ar):zZ pe p out j Q=(pe j λt=>f9 t λy=>y.length<=1000000/\(out++y).length<=1000000/\p (out++y) j Q):=rfl
theorem M7:vA a b Q=Q (.bl (oj a b)):=rfl
theorem NW:vJ a b Q=((b.length == 0)=false/\a.length<=1000000/\(Txt.split a b).length<=1000000/\Q (.ak .o ((Txt.split a b).map (av.t (α:=Str))))):=rfl
theorem SH(neg:Bool)(a b:Str)(Q:ar):sF neg (.str a) (.str b) Q=Q (.bl (if neg=true then !kU b a else kU b a)):=rfl
theorem QF:sj [.str x] Q=(∃n,intText? x=some n/\x.length<=640/\Q (.int n)):=rfl
end Pu
namespace L2
open PySem PySem.Spec PyProof.Rows
abbrev u7(X:Cx)(o:Expr)(m:Str)(b:bS)(a pos:Pos)(pl:Sem Bool):Prop:=eval (.Call (.Attribute o m a) b [] pos) X.env=(do
   let ov <- eval o X.env
   standAt a.atName
   let (f,first) <- holding [ov] (getMethod ov m pl)
   callWith pos f first (backTo pos (starEach b X.env)) (backToKw pos (keywordEach [] X.env)))
def pP(D:ah->Nat->Prop)(m:Str)(sp:Nat->Sp)(R:St->XK)(e:TE)(t:TA):TE:=λj H Q=>e j H λx b=>∃a C d fs g,x=.ref a/\Rd b a (.ins C d fs)/\D C g/\fs.lookup m=none/\t j b λvs c=>sp g (x::vs) c Q (R j)
section
theorem XC(he:PE X o ta)(B:∀C g,D C g->aQ X.prog X.w X.K X.mg X.base CX k m C ps (sp g))(G:bj k X.A)(J:∀j,gA CX X j (R j))(ha:PA X (e::es) t)(p:do dN e es X.env)(n:do eX pos es X.env)(ht:do u7 X o m (e::es) apos pos pl):
  PE X (.Call (.Attribute o m apos) (e::es) [] pos) (pP D m sp R ta t):=by
 intro aa s j H Q I h;refine W.methodCall_KW (pl:=pl) (bo (he aa s j H _ I h) λu Y b=>?_) ht;let⟨x,y,i,U,a,C,dx,fs,g,ex,z,d,l,q⟩:=b;subst ex;obtain rfl:u=Value.ref a:=U;∎;let⟨c,f,fd,hm,F,E⟩:=B C g d;let⟨L,O,r⟩:=tZ i.aV z;∎;have hn:L m=none:=cE.none_of (by rw[<- l];exact r m);refine E6 i.cy O (c.get m) hm.at_ hm.fn hn ?_;refine W.callWith_K (first:=[.ref a]) (h₀:=X.base) I.ok.mod.mO hm.kp (bo (ha pos aa Y j y _ i q) λus s2 b=>?_) p n;let⟨vs,H2,v,N,M⟩:=b;refine⟨v.cy,?_⟩;exact yo (us:=.ref a::us) (vs:=.ref a::vs) F G E .nil (J j) v (.cons rfl N) (by rw[append_nil];exact M)
theorem FK(he:PE X o ta)(n:∀C g,D C g->aQ X.prog X.w X.K X.mg X.base CX k m C ps (sp g))(v:bj k X.A)(y:∀j,gA CX X j (R j))(ht:do u7 X o m [] apos pos pl):
  PE X (.Call (.Attribute o m apos) [] [] pos) (pP D m sp R ta ic):=by
 intro aa s j H Q I h;refine W.methodCall_KW (pl:=pl) (bo (he aa s j H _ I h) λu L e=>?_) ht;let⟨x,E,b,B,a,C,G,fs,g,ex,i,d,l,q⟩:=e;subst ex;obtain rfl:u=Value.ref a:=B;∎;let⟨c,f,J,hm,F,p⟩:=n C g d;let⟨z,O,r⟩:=tZ b.aV i;∎;have hn:z m=none:=cE.none_of (by rw[<- l];exact r m);refine E6 b.cy O (c.get m) hm.at_ hm.fn hn ?_;exact W.callWith_K0 (first:=[.ref a]) b.cy hm.kp (yo (us:=[.ref a]) (vs:=[.ref a]) F v p .nil (y j) b (.cons rfl .nil) (by rw[append_nil];exact q))
theorem zE(h:lV CX X E):∀j,gA CX X j E:=λj aa H s e a I c=>h aa j H s e a I c
end
end L2
namespace Pu
open PySem L2 Vc Sf
section
theorem Hj:∀(a:ai)(i:Nat),(cq a)[i]?=a[i]?.map dn
 |[],_=>rfl
 |_::_,0=>rfl
 |_::xs,i + 1=>Hj xs i
theorem sU{aS:dY}{E:XK}{q':ag->Prop}{w:Tr->aG}{Q:VK}(Y:z=true->Fz S0 F)(hn:(cq ts).length=n)(y:∀k,aA (B k) H)(b:d0 K F B H F1 H1 ts vs c1)(O:∀j f d,q' j->Gr F H f d->E j none d)(p1:aS (cq ts) w q')(post:∀f d x g' l v t c,Gr F H f d->(∀c,dh (de (c1.map (·.1)) H1) c->dh H c)->a7 K ⟨z,λ_=>E,q'⟩ lo vs F1 (de (c1.map (·.1)) H1) f d x g' l->R K f (λ_=>de (c1.map (·.1)) H1) t v c->au f d c->dh H c->(∀i,∀p∈l i,∀q∈c,p.1≠q.1)->ck t=true->w t g'->Q v d):cv K z lo n aS vs H1 Q E:=by
 let⟨N,D,G,I,J⟩:=b.r.split b.c;have hl:vs.length=n:=by rw[b.r.length,<- hn,mr]
 have U:∀k,aA (B k) (de (c1.map (·.1)) H1):=λk a o e=>qp (tP b.n (y k a o e)) (b.g.h _ _ (y k a o e))
 have C:∀c,dh (de (c1.map (·.1)) H1) c->dh H c:=λc n p m=>by
  have z:=n p m;by_cases A:p.1∈c1.map (·.1)
  .obtain⟨q,mq,e⟩:=mem_map.mp A;have e:q.1=p.1:=e;rw[<- e];exact b.n q mq
  .unfold de at z;rw[if_neg A] at z;exact b.g.h.free z
 refine⟨hl,F1,de (c1.map (·.1)) H1,cq ts,N,_,q',⟨⟨yH b.g.s,Fz.refl F1⟩,λh=>b.g.fz (Y h),by rw[length_map,mr,b.r.length],?_,I,λi p m=>xv (G i p m),J,λi _=>by rw[getElem?_map],λj _ f d h g=>O j f d h (b.g.de b.n g)⟩,p1,?_⟩
 .intro i t h;rw[Hj] at h;cases z:ts[i]? with
  |none=>rw[z] at h;cases h
  |some u=>
   rw[z] at h;cases h;let⟨v,L,M⟩:=D i u z;exact .inr ⟨v,by rw[getElem?_map,L];rfl,M.dn (λk=>Le.of (U k)) u⟩
 .intro f d x g' l v t c' W r hc n dj nl qt;exact post f d x g' l v t c' (b.g.de b.n W.g) C W r hc (C _ n) dj nl qt
theorem QK{aS:dY}{E:XK}{q':ag->Prop}{e:ar}{Q:VK}(j:z=true->Fz S0 F)(hn:(cq ts).length=n)(f:∀k,aA (B k) H)(m:d0 K F B H F1 H1 ts vs c1)(h:∀d b a,q' d->Gr F H b a->E d none a)(p1:aS (cq ts) (λt _=>e t) q')(q:∀t v b a cs,e t->Out K F B H b a t v cs->Q v a):cv K z 0 n aS vs H1 Q E:=
 sU j hn f m h p1 λb a _ _ _ v t c g _ _ r i n _ l o=>q t v b a c o ⟨g,r.base t l,i,n⟩
theorem d0.cons{b f:Hp}{t:Tr}{v:V}{c:Cs}{i:ai}{vs:ax}{d:Cs}(o:Out K F B H F1 H1 t v c)(a:d0 K F1 B H1 b f i vs d):d0 K F B H b f (t::i) (v::vs) (c++d) where
 g:=o.g.trans' a.g
 r:=⟨v,vs,c,d,rfl,rfl,o.r.mo a.g.le (λ_=>Le.refl _) t,a.r⟩
 c:=(o.c.gr a.g).app a.c λp j q k e=>by
  have:=o.c.h p j;rw[e,a.n q k] at this;cases this
 n:=λp m=>(mem_append.mp m).elim (o.n p) λm=>o.g.h.free (a.n p m)
def fq(D:ah->Nat->Prop)(m:Str)(x:Tr)(Q:Nat->Prop):Prop:=match x with |.ins _ c fs=>∃g,D c g/\fs.lookup m=none/\Q g |_=>False
theorem FN{D:ah->Nat->Prop}{Q:Nat->Prop}(h:fq D m x Q):∃f c fs g,x=.ins f c fs/\D c g/\fs.lookup m=none/\Q g:=by
 unfold fq at h;split at h
 .obtain⟨g,h⟩:=h;exact⟨_,_,_,g,rfl,h⟩
 .exact h.elim
def KN(q:ag->Prop)(D:ah->Nat->Prop)(m:Str)(aS:Nat->dY)(po:aW)(a:cM):aW:=λj Q=>po j λx=>fq D m x λc=>a j λb=>aS c (cq (x::b)) (λt _=>Q t) q
def sG(D:ah->Nat->Prop)(m:Str)(aS:Nat->cf)(po:aW)(a:cM):aW:=λj Q=>po j λx=>fq D m x λc=>a j λb=>aS c (cq (x::b)) (λt _=>Q t)
theorem Rf.none_of:∀{fs:bT}{vs:List (Str×V)}{a:Cs}{f:Str},Rf K F B fs vs a->fs.lookup f=none->vs.lookup f=none
 |[],_,_,_,y,_=>by let⟨h,_⟩:=y;rw[h];rfl
 |(g,y)::fs,_,_,f,y0,h=>by
  let⟨v,r,c,d,b,j,k,i⟩:=y0;rw[b];rw[lookup_cons] at h ⊢;cases e:f == g with
  |true=>rw[e] at h;cases h
  |false=>rw[e] at h;exact Rf.none_of i h
theorem Sh{aS:Nat->dY}{R':St->XK}{q':ag->Prop}(I:∀(F:Hp)(B:Bool->Hp)(H:Hp)(j:St)(y:ai),gv K k F B H j y->∀d l i,q' d->Gr F H l i->R' j d none i)(J:z=true->k.z=true)(hn:∀C xs Q q,aS C xs Q q->xs.length=n)(h:bu K k te po)(ha:fK K k ta pa):bu K k (pP D m (λC=>cv K z 0 n (aS C)) R' te ta) (KN q' D m aS po pa):=λF B H j y Q Y c p q=>by
 refine h F B H j y _ _ c p λx v o u c1 p1 e=>?_
 ∎;let⟨f,C,fs,g,rfl,G,L,p1⟩:=FN p1;let⟨a,w,vs,ds,rfl,A,E,_⟩:=e.r.kr e.g.s (λk=>(c.b k).trans e.g.h) e.c;∎;refine⟨a,C,w,vs,g,rfl,A,G,E.none_of L,ha o B u j y _ _ (c.gr e.g) p1 λts us O U c2 p2 N=>?_⟩;exact QK (λh=>c.z (J h)) (hn _ _ _ _ p2) c.b (d0.cons e N) (λd l i M g=>I F B H j y c d l i M g) p2 q
theorem Ur{aS:Nat->cf}(a:z=true->k.z=true)(hn:∀C xs Q,aS C xs Q->xs.length=n)(h:bu K k te po)(ha:fK K k ta pa):bu K k (pP D m (λC=>bx K z 0 n (aS C)) (λ_=>E) te ta) (sG D m aS po pa):=
 Sh (R':=λ_=>E) (q':=λ_=>False) (aS:=λC xs Q _=>aS C xs Q) (λ_ _ _ _ _ _ _ _ _ h=>h.elim) a (λC xs Q _=>hn C xs Q) h ha
def gW(o:Option Tr)(Q:ar):Prop:=match o with |some (.ins f c fs)=>ck (.ins f c fs)=true/\Q (.ins f c fs) |_=>False
theorem FO{Q:ar}(h:gW o Q):∃f c fs,o=some (.ins f c fs)/\ck (.ins f c fs)=true/\Q (.ins f c fs):=by
 unfold gW at h;split at h
 .exact⟨_,_,_,rfl,h⟩
 .exact h.elim
def vK(q:ag->Prop)(C:ah)(aS:dY)(b:cM):aW:=λj Q=>b j λc=>aS (cq (.ins .o C []::c)) (λt a=>t=.aX/\gW a[0]? Q) q
def v7(C:ah)(aS:cf)(b:cM):aW:=λj Q=>b j λc=>aS (cq (.ins .o C []::c)) λt a=>t=.aX/\gW a[0]? Q
theorem FP(a:d0 K F B H F1 H1 ts vs c1)(f:H1 x=none)(hd:H1 dx=none)(ne:dx≠x):∃b,d0 K F B H b (a6 (a6 H1 dx (.own x)) x (.ins C dx [])) (.ins .o C []::ts) (.ref x::vs) ((x,.ins C dx [])::c1):=by
 let⟨b,e,_⟩:=xb (o:=.own x) a.g.s (by intro _ _ z;cases z) hd;have d:a6 H1 dx (.own x) x=none:=by rw[bR (Ne.symm ne)];exact f
 have i:Gr b (a6 H1 dx (.own x)) b (a6 (a6 H1 dx (.own x)) x (.ins C dx [])):=Gr.i8 e.s d;have g:=e.trans' i;refine⟨b,a.g.trans' g,⟨.ref x,vs,[(x,.ins C dx [])],c1,rfl,rfl,⟨x,dx,[],[],rfl,rfl,rfl,rfl⟩,a.r.mo g.le (λ_=>Le.refl _) ts⟩,yr e.s (a.c.gr e) d,λp m=>?_⟩;cases m with
 |head=>exact a.g.h.free f
 |tail _ m=>exact a.n p m
theorem Ek{aS:dY}{R':St->XK}{q':ag->Prop}(E:∀(F:Hp)(B:Bool->Hp)(H:Hp)(j:St)(y:ai),gv K k F B H j y->∀a i d,q' a->Gr F H i d->R' j a none d)(G:z=true->k.z=true)(hn:∀xs Q q,aS xs Q q->xs.length=n)(ha:fK K k ta pa):bu K k (rX C (cv K z 1 n aS) [] R' ta) (vK q' C aS pa):=λF B H j y Q Q' c p q=>by
 refine ha F B H j y _ _ c p λts vs O Y c1 p1 M x dx J hd ne=>?_
 rw[append_nil];let⟨U,N⟩:=FP (C:=C) M J hd ne;refine sU (λh=>c.z (G h)) (hn _ _ _ p1) c.b N (λa i d I g=>E F B H j y c a i d I g) p1 λi d j' y' l v t c' g L W r hc n dj nl m=>?_
 ∎;let⟨rfl,m⟩:=m;let⟨f,c,fs,o,s,w⟩:=FO m;∎;refine⟨r.1,?_⟩;rcases W.e 0 _ o with z |⟨u,A,D⟩
 .cases z
 .have:=W.p 0 Nat.zero_lt_one;rw[A] at this;cases this;exact q _ _ i d (l 0) w ⟨g,D.base _ s,W.c 0,L _ (W.n 0)⟩
theorem Si{aS:cf}(a:z=true->k.z=true)(hn:∀xs Q,aS xs Q->xs.length=n)(ha:fK K k ta pa):bu K k (rX C (bx K z 1 n aS) [] (λ_=>E) ta) (v7 C aS pa):=
 Ek (R':=λ_=>E) (q':=λ_=>False) (aS:=λxs Q _=>aS xs Q) (λ_ _ _ _ _ _ _ _ _ h=>h.elim) a (λxs Q _=>hn xs Q) ha
end
section
theorem eK{D:ah->Nat->Prop}{aS:Nat->cf}(c:∀C g,D C g->aQ X.prog X.w X.K X.mg X.base bq kj m C ps (bx X.K z 0 n (aS g)))(i:QE X k o po)(j:bj km X.A:=by assumption)(e:kj<=km:=by first |decide |omega)(f:z=true->k.z=true:=by first |exact id |exact λ_=>rfl)(hn:∀C xs Q,aS C xs Q->xs.length=n:=by exact λ_ _ _ h=>h.1)(ht:do u7 X o m [] apos pos pl):QE X k (.Call (.Attribute o m apos) [] [] pos) (sG D m aS po gD):=by
 let⟨l,a,b⟩:=i.h;exact⟨_,FK (R:=λ_=>E0) a (λC g d=>(c C g d).mono e) j (zE uv) ht,Ur f hn b F8⟩
section
theorem tW{aS:dY}(M:Mk X.K C f)(G:aB X.prog X.w X.K X.mg X.base (b4 X.prog X.w) km f fd ps (cv X.K z 1 n aS))(I:∀j,gA (b4 X.prog X.w) X j (k.E j))(u:z=true->k.z=true)(hn:∀xs Q q,aS xs Q q->xs.length=n)(D:bj (km+1) X.A)(s:Gl X x)(hm:X.mg x=some (.ref C))(r:Binds X.K fd ps [])(ha:QA X k (e::es) pa)(b: ~~~(cD x))(he:do dN e es X.env)(d:do eX pos es X.env):
  QE X k (.Call (.Name x p) (e::es) [] pos) (vK k.q C aS pa):=by
 let⟨J,m,o⟩:=ha.h;exact⟨_,xF M G D s hm r .nil I m b he d,Ek (λF B H j y c a i l v g=>c.x a i l v g) u hn o⟩
end
end
abbrev fv:=ai->(Tr->aG)->Prop
abbrev kX:=ai->(ai->aG)->Prop
structure iK(K:PySem.W.Frag)(k:Md)(lo:Nat)(us:ax)(Fb Hb F F' H':Hp)(j:St)(y:ai)(cs:Nat->Cs)(t:Tr)(v:V)(e:Cs):Prop where
 l:Le F F'
 W:a7 K k lo us Fb Hb F' H' j y cs
 r:R K F' (λ_=>Hb) t v e
 c:au F' H' e
 n:dh Hb e
 d:∀i,∀p∈cs i,∀q∈e,p.1≠q.1
def ie(K:ao)(k:Md)(lo:Nat)(l:TE)(pl:fv):Prop:=∀(us:ax)(b e F H:Hp)(j:St)(y:ai)(i:Nat->Cs)(Q:VK)(f:Tr->aG),a7 K k lo us b e F H j y i->pl y f->
 (∀t v h d g a c,iK K k lo us b e F h d j g a t v c->f t g->Q v d)->l j H Q
def pH(K:ao)(k:Md)(lo:Nat)(m:TA)(l:kX):Prop:=∀(us:ax)(d b F H:Hp)(j:St)(y:ai)(i:Nat->Cs)(Q:ax->Hp->Prop)(f:ai->aG),a7 K k lo us d b F H j y i->l y f->
 (∀g vs a e h c,Le F a->a7 K k lo us d b a e j h c->Rs K a (λ_=>b) g vs []->f g h->Q vs e)->m j H Q
section
theorem iK.held{t:Tr}{v:V}{c:Cs}(o:iK K k lo us Fb Hb F F' H' j y cs t v c):∃a,Le F a/\a7 K k lo us Fb Hb a H' j y cs/\R K a (λ_=>Hb) (aU t) v []:=by
 let⟨a,e,b,f⟩:=o.W.lay o.c o.n (o.r.plain t) o.d;exact⟨a,o.l.trans (Le.of b),e,o.r.aU (Le.of b) t f⟩
def z3(pe:aW):fv:=λj Q=>pe (j.map aM) λt=>b8 t=true/\Q t j
theorem XD(h:bu K k te pe):ie K k lo te (z3 pe):=λus n a F H j y i Q s W p q=>by
 refine h F (Bq a H) H j _ _ _ W.eA p λt v d e f b o=>?_
 let⟨m,l⟩:=W.fresh o;exact q t v d e y i f ⟨o.g.le,W.gr o.g,R.low (B':=λ_=>a) t b.1 rfl o.r,o.c,m,l⟩ b.2
def v8:kX:=λj Q=>Q [] j
def vL(pl:fv)(c:kX):kX:=λj Q=>pl j λt a=>c a λd b=>Q (aU t::d) b
theorem Sj:pH K k lo ic v8:=λus b c F H j y a Q d W p q=>q [] [] F H y a (Le.refl F) W ⟨rfl,rfl⟩ p
theorem QM(h:ie K k lo te pl)(h':pH K k lo ta pla):pH K k lo (ib te ta) (vL pl pla):=λus c d F H j y r Q A W p q=>by
 refine h us c d F H j y r _ _ W p λt v z i w a B o p1=>?_
 let⟨f,s,m,r2⟩:=o.held;refine h' us c d f i j w a _ _ m p1 λu vs g l x b e n r3 p3=>?_
 exact q (aU t::u) _ g l x b (s.trans e) n ⟨v,vs,[],[],rfl,rfl,r2.mo e (λ_=>Le.refl _) _,r3⟩ p3
theorem a7.zP(W:a7 K k lo us Fb Hb F H j y cs)(r:Rs K F (λ_=>Hb) ts vs []):d0 K F (λ_=>Hb) H F H ts vs []:=⟨Gr.aH W.g.s,r,.nil,.nil⟩
theorem a7.zQ{t:Tr}{v:V}{c:Cs}(W:a7 K k lo us Fb Hb F1 H1 j y cs)(l:Le F F1)(o:Out K F1 (λ_=>Hb) H1 F' H' t v c):iK K k lo us Fb Hb F F' H' j y cs t v c:=by
 let⟨b,a⟩:=W.fresh o;exact⟨l.trans o.g.le,W.gr o.g,o.r,o.c,b,a⟩
def Ks(q:ag->Prop)(C:ah)(aS:dY)(c:kX):fv:=λj Q=>c j λd b=>aS (cq (.ins .o C []::d)) (λt a=>t=.aX/\gW a[0]? λx=>Q x b) q
theorem OV{aS:dY}{R':St->XK}{q':ag->Prop}(N:∀(us:ax)(l m F H:Hp)(j:St)(y:ai)(cs:Nat->Cs),a7 K k lo us l m F H j y cs->∀a i b,q' a->Gr l m i b->R' j a none b)(O:z=true->k.z=true)(hn:∀xs Q q,aS xs Q q->xs.length=n)(h:pH K k lo ta pla):ie K k lo (rX C (cv K z 1 n aS) [] R' ta) (Ks q' C aS pla):=λus l m F H j y cs Q Q' W p q=>by
 refine h us l m F H j y cs _ _ W p λts vs D E B o l1 d r1 p1 x dx Y hd ne=>?_
 rw[append_nil];let⟨F2,o2⟩:=FP (C:=C) (d.zP r1) Y hd ne;refine sU (λh=>d.z (O h)) (hn _ _ _ p1) (λ_=>d.g.h) o2 (λa i b U g=>N us l m D E j B o d a i b U (d.g.trans' g)) p1 λi b j' y' w v t c' g nw s r hc n dj nl A=>?_
 ∎;let⟨rfl,A⟩:=A;let⟨f,c,fs,G,I,J⟩:=FO A;∎;refine⟨r.1,?_⟩;rcases s.e 0 _ G with z |⟨u,L,M⟩
 .cases z
 .have:=s.p 0 Nat.zero_lt_one;rw[L] at this;cases this;exact q _ _ i b B o (w 0) (d.zQ l1 ⟨g,M.base _ I,s.c 0,nw _ (s.n 0)⟩) J
def z0(e:Tr->Tr->(ar)->Prop)(c:fv)(d:fv):fv:=λj Q=>c j λx a=>d a λy b=>e (aU x) y λt=>Q t b
theorem Us(o:cW K k r pr)(ha:ie K k lo te pl)(hb:ie K k lo tf pb):ie K k lo (mX r te tf) (z0 pr pl pb):=λus D f F H j G cs Q Q' W p q=>by
 refine ha us D f F H j G cs _ _ W p λx v F1 H1 Y A c1 o1 p1=>?_
 let⟨N,l2,W2,r2⟩:=o1.held;refine hb us D f N H1 j Y A _ _ W2 p1 λy u O E G3 B I a p3=>?_
 refine o O (λ_=>f) E v u (aU x) y [] I Q _ a.W.g.s (λ_=>a.W.g.h) a.W.z (r2.mo a.l (λ_=>Le.refl _) _) a.r .nil a.c (λp m=>nomatch m) p3 λt w U H4 J q4 L r4 C n4=>?_
 have b:∀p∈J,E p.1=none\/p∈I:=λp m=>(n4 p m).imp id λz=>z.resolve_left (λz=>nomatch z)
 refine q t w U H4 G3 B J ⟨l2.trans (a.l.trans L.le),a.W.gr L,r4,C,λp m=>?_,λi p M q mq e=>?_⟩ q4
 .rcases b p m with z |z
  .exact a.W.g.h.free z
  .exact a.n p z
 .rcases b q mq with z |z
  .have:=(a.W.c i).h p M;rw[e,z] at this;cases this
  .exact a.d i p M q z e
def vM(i:Nat)(pl:fv):cc:=λD j=>pl j λt a=>D.nx (a.set i (aU t))
theorem PY(l:lo<=i)(h:ie K k lo te pl):cK K k lo (jw te (jr i)) (vM i pl):=λus b d F H j y f D n W p L=>by
 refine h us b d F H j y f _ _ W p λt v q c u g r o p1=>?_
 let⟨a,s,e,r2⟩:=o.held;exact L.nx a c _ _ _ (e.set l r2 .nil .nil λ_ _ _ _ _ m=>nomatch m) p1
def vN(pl:fv):cc:=λD j=>pl j λ_ j1=>D.nx j1
theorem PZ(h:ie K k lo te pl):cK K k lo (sv te) (vN pl):=λus b d F H j y e D g W p L=>
 h us b d F H j y e _ _ W p λt v a c l f i o p1=>L.nx a c _ _ _ o.W p1
def v9(pl:fv):cc:=λD j=>pl j λt a=>ck t=true/\D.rt t a
theorem Rx(h:ie K k lo te pl):cK K k lo (sx te) (v9 pl):=λus e g F H j y l D q W p L=>
 h us e g F H j y l _ _ W p λt v b f m a i o p1=>L.rt b f j m a v t i o.W o.r o.c o.n o.d p1.1 p1.2
def wU(pl:fv)(p q:cc):cc:=λD j=>pl j λt a=>cU t λb=>if b=true then p D a else q D a
theorem Ut(h:ie K k lo te pl)(m:cK K k lo ts p)(n:cK K k lo tu q):cK K k lo (sy (tB te) ts tu) (wU pl p q):=λus c d F H j y l D e W p L=>by
 refine h us c d F H j y l _ _ W p λt v f g i a s o p1=>?_
 unfold cU at p1;split at p1
 .rename_i b;let⟨rfl,_⟩:=o.r;refine⟨b,rfl,?_⟩;cases b with
  |true=>exact m us c d f g j i a D e o.W p1 L
  |false=>exact n us c d f g j i a D e o.W p1 L
 .exact p1.elim
end
section
def HA(K:ao)(F c:Hp)(j:St)(y:ai):bK->ai->ax->Prop
 |[],ts,vs=>ts=[] /\ vs=[]
 |none::hs,ts,vs=>∃t v a b,ts=t::a /\ vs=v::b /\ R K F (λ_=>c) t v [] /\ HA K F c j y hs a b
 |some i::hs,ts,vs=>∃t v a b,ts=t::a /\ vs=v::b /\ y[i]? = some t /\ t ≠ .aL /\ j[i]? = some (some v) /\ HA K F c j y hs a b
def pQ(K:ao)(k:Md)(lo:Nat)(hs:bK)(i:TA)(h:cM):Prop:=∀(us:ax)(c b F H:Hp)(j:St)(y:ai)(f:Nat->Cs)(Q:ax->Hp->Prop)(e:aG),a7 K k lo us c b F H j y f->h y e->
 (∀g vs a d,Le F a->a7 K k lo us c b a d j y f->HA K a b j y hs g vs->e g->Q vs d)->i j H Q
def uS:cM:=λ_ Q=>Q []
def zT(pe:aW)(a:cM):cM:=λj Q=>pe (j.map aM) λt=>b8 t=true/\a j λb=>Q (Pu.aU t::b)
theorem Fo:pQ K k lo [] ic uS:=λus a b F H j y d Q c W p q=>q [] [] F H (Le.refl F) W ⟨rfl,rfl⟩ p
theorem zF{Q:ar}(h:pV o Q):∃t,o=some t/\t≠.aL/\Q t:=by
 unfold pV at h;split at h
 .exact h.elim
 .rename_i t hn;exact⟨t,rfl,λz=>hn (by rw[z]),h⟩
 .exact h.elim
theorem XE(he:bu K k te pe)(h:pQ K k lo hs ta ph):pQ K k lo (none::hs) (ib te ta) (zT pe ph):=λus i b F H j y s Q x W p q=>by
 refine he F (Bq b H) H j _ _ _ W.eA p λt v w l z d o=>?_
 let⟨f,n,r2,u⟩:=W.fE o d.1;exact h us i b f l j y s _ _ n d.2 λe vs g m c r a p3=>q (Pu.aU t::e) _ g m (u.trans c) r ⟨Pu.aU t,v,e,vs,rfl,rfl,r2.mo c (λ_=>Le.refl _) _,a⟩ p3
theorem HA.rs(W:a7 K k lo us Fb Hb F H G J cs):∀{hs:bK}{C:ai}{vs:ax},(hs.filterMap id).Nodup->HA K F Hb G J hs C vs->∃c,Rs K F (λ_=>Hb) C vs c/\au F H c/\dh Hb c/\(∀p∈c,∃i,some i∈hs/\p∈cs i)/\∀i,some i∈hs->∀p∈cs i,p∈c
 |[],_,_,_,y=>by let⟨f,g⟩:=y;exact⟨[],by rw[f,g];exact⟨rfl,rfl⟩,.nil,.nil,(λ_ m=>nomatch m),λ_ m=>nomatch m⟩
 |none::hs,_,_,nd,y=>by
  ∎;let⟨t,v,A,a,f,g,w,x⟩:=y;let⟨c,l,o,r,h,s⟩:=HA.rs W (hs:=hs) nd x;∎;refine⟨c,by rw[f,g];exact⟨v,a,[],c,rfl,rfl,w,l⟩,o,r,λp m=>?_,λi m p b=>?_⟩
  .obtain⟨i,b1,b2⟩:=h p m;exact⟨i,.tail _ b1,b2⟩
  .cases m with
   |tail _ m=>exact s i m p b
 |some i::hs,_,_,nd,y=>by
  let⟨t,v,A,a,f,g,w,x,E,I⟩:=y;have nd:(i::hs.filterMap id).Nodup:=nd;rw[nodup_cons] at nd;let⟨c,l,o,r,h,s⟩:=HA.rs W (hs:=hs) nd.2 I;have M:some i ∉ hs:=λm=>nd.1 (mem_filterMap.mpr ⟨_,m,rfl⟩)
  have rt:R K F (λ_=>Hb) t v (cs i):=by
   rcases W.e i t w with z |⟨u,B,D⟩
   .exact absurd z x
   .rw[E] at B;cases B;exact D
  refine⟨cs i++c,by rw[f,g];exact⟨v,a,cs i,c,rfl,rfl,rt,l⟩,(W.c i).app o λp b q L=>?_,λp m=>(mem_append.mp m).elim (W.n i p) (r p),λp m=>?_,λj m p b=>?_⟩
  .obtain⟨j,b1,b2⟩:=h q L;exact W.d i j (λz=>M (by rw[z];exact b1)) p b q b2
  .rcases mem_append.mp m with m |m
   .exact⟨i,.head _,m⟩
   .obtain⟨j,b1,b2⟩:=h p m;exact⟨j,.tail _ b1,b2⟩
  .rcases mem_cons.mp m with e |m
   .cases e;exact mem_append.mpr (.inl b)
   .exact mem_append.mpr (.inr (s j m p b))
def gg:bK->ai->ai
 |[],j=>j
 |none::hs,j=>gg hs j
 |some i::hs,j=>(gg hs j).set i .aL
theorem xx:∀(hs:bK)(j:ai),(gg hs j).length=j.length
 |[],_=>rfl
 |none::hs,j=>xx hs j
 |some i::hs,j=>by show ((gg hs j).set i .aL).length=_;rw[length_set];exact xx hs j
theorem xy:∀(hs:bK)(y:ai),some i ∉ hs->(gg hs y).set i t=gg hs (y.set i t)
 |[],_,_=>rfl
 |none::hs,y,h=>xy hs y λm=>h (.tail _ m)
 |some j::hs,y,h=>by
  show ((gg hs y).set j .aL).set i t=(gg hs (y.set i t)).set j .aL;rw[List.set_comm _ _ (λz=>h (by rw[z];exact .head _)),xy hs y λm=>h (.tail _ m)]
theorem xK:∀(hs:bK)(y:ai),(gg hs y)[j]?=some t->t=.aL\/(some j ∉ hs/\y[j]?=some t)
 |[],_,h=>.inr ⟨(λm=>nomatch m),h⟩
 |none::hs,y,h=>(xK hs y h).imp id λ⟨a,b⟩=>⟨λm=>by cases m with |tail _ m=>exact a m,b⟩
 |some i::hs,y,h=>by
  have h:((gg hs y).set i .aL)[j]?=some t:=h;by_cases e:i=j
  .subst e;have c:=(List.getElem?_eq_some_iff.mp h).1;rw[length_set] at c;rw[getElem?_set_self c] at h;cases h;exact .inl rfl
  .rw[getElem?_set_ne e] at h;exact (xK hs y h).imp id λ⟨a,b⟩=>⟨λm=>by
    rcases mem_cons.mp m with z |m
    .cases z;exact e rfl
    .exact a m,b⟩
theorem a7.past{hs:bK}{c:Cs}(W:a7 K k lo us Fb Hb F H y G cs)(n:dh Hb c)(B:∀p∈c,∃i,some i∈hs/\p∈cs i)(g:Gr F (de (c.map (·.1)) H) F' H'):a7 K k lo us Fb Hb F' H' y (gg hs G) (λj=>if some j∈hs then [] else cs j)/\∀j,some j ∉ hs->∀p∈cs j,(de (c.map (·.1)) H) p.1=some p.2:=by
 have gb:Gr Fb Hb F' H':=W.g.de n g;have keep:∀j,some j ∉ hs->∀p∈cs j,(de (c.map (·.1)) H) p.1=some p.2:=λj s p o=>by
  refine qp (λm=>?_) ((W.c j).h p o);∎;let⟨q,r,e⟩:=mem_map.mp m;let⟨i,w,A⟩:=B q r;∎;exact W.d j i (λz=>s (by rw[z];exact w)) p o q A e.symm
 refine⟨⟨gb,λh=>g.fz (W.z h),by rw[xx];exact W.l,λj t h=>?_,λj=>?_,λj=>?_,λa b ne p o q r=>?_,W.p,W.x⟩,keep⟩
 .rcases xK hs G h with z |⟨z,e⟩
  .exact .inl z
  .rw[if_neg z];exact (W.e j t e).imp id λ⟨v,h1,h2⟩=>⟨v,h1,h2.mo g.le (λ_=>Le.refl _) t⟩
 .split
  .exact .nil
  .rename_i s;refine⟨λp m=>g.h _ _ (keep j s p m),λp m=>?_,(W.c j).nd⟩;cases z:F' p.1 with
   |none=>rfl
   |some u=>
    have:=g.n p.1 u z ((W.c j).f p m);rw[keep j s p m] at this;cases this
 .split
  .exact .nil
  .exact W.n j
 .split at o
  .cases o
  .split at r
   .cases r
   .exact W.d a b ne p o q r
theorem a7.fill{i:Nat}{t:Tr}{v:V}{c:Cs}(W:a7 K k lo us Fb Hb F H y G cs)(B:y[i]?=some (some v))(r:R K F (λ_=>Hb) t v c)(w:au F H c)(n:dh Hb c)(d:∀j,j≠i->∀p∈cs j,∀q∈c,p.1≠q.1):
  a7 K k lo us Fb Hb F H y (G.set i t) (λj=>if j=i then c else cs j) where
 g:=W.g
 z:=W.z
 l:=by rw[length_set];exact W.l
 e:=λj u h=>by
  by_cases e:j=i
  .subst e;have A:j<G.length:=by have:=(List.getElem?_eq_some_iff.mp h).1;rw[length_set] at this;exact this
   rw[getElem?_set_self A] at h;cases h;exact .inr ⟨v,B,by rw[if_pos rfl];exact r⟩
  .rw[getElem?_set_ne (λz=>e z.symm)] at h;rw[if_neg e];exact W.e j u h
 c:=λj=>by
  split
  .exact w
  .exact W.c j
 n:=λj=>by
  split
  .exact n
  .exact W.n j
 d:=λa b ne p o q f=>by
  by_cases m:a=i
  .rw[if_pos m] at o;rw[if_neg (λz=>ne (m.trans z.symm))] at f;exact (d b (λz=>ne (m.trans z.symm)) q f p o).symm
  .rw[if_neg m] at o;by_cases s:b=i
   .rw[if_pos s] at f;exact d a m p o q f
   .rw[if_neg s] at f;exact W.d a b ne p o q f
 p:=W.p
 x:=W.x
def iQ:bK->Nat->ai->ai->(aG)->Prop
 |[],_,_,y,Q=>Q y
 |none::hs,j,y',y,Q=>iQ hs (j + 1) y' y Q
 |some i::hs,j,y',y,Q=>pV y'[j]? λt=>ck t=true /\ iQ hs (j + 1) y' (y.set i t) Q
theorem xX{Q:Md}{s:Nat}{vs:ax}{B:Hp}{Y:St}{C:ai}{a:Nat->Cs}{G:Prop}{D:aG}(g:a7 K Q s vs F1 B F' H' Y C a)(A:aA Hb B):∀(hs:bK)(j:Nat)(J:ai)(f:Nat->Cs),(hs.filterMap id).Nodup->a7 K k lo us Fb Hb F' H' y (gg hs J) f->(∀n i,hs[n]?=some (some i)->∃v,y[i]?=some (some v)/\vs[j+n]?=some v)->j+hs.length<=s->
  (∀i m,(i<lo\/True)->j<=m->∀p∈f i,∀q∈a m,p.1≠q.1)->iQ hs j C J D->(∀w b,a7 K k lo us Fb Hb F' H' y w b->(∀i,∀p∈b i,p∈f i\/∃m,p∈a m)->D w->G)->G
 |[],j,J,f,_,W,_,_,_,p,q=>q J f W (λi p m=>.inl m) p
 |none::hs,j,J,f,nd,W,hv,hl,d,p,q=>by
  refine xX g A hs (j+1) J f nd W (λn i e=>?_) (by rw[length_cons] at hl;omega) (λi m z hm=>d i m z ⋯) p q;let⟨v,o,r⟩:=hv (n+1) i e;exact⟨v,o,by rw[show j+1+n=j+(n+1) by omega];exact r⟩
 |some i::hs,j,J,f,nd,W,hv,hl,d,p,q=>by
  have nd:(i::hs.filterMap id).Nodup:=nd;rw[nodup_cons] at nd;have U:some i ∉ hs:=λm=>nd.1 (mem_filterMap.mpr ⟨_,m,rfl⟩)
  ∎;let⟨t,I,L,M,p⟩:=zF p;let⟨v,o,r⟩:=hv 0 i rfl;∎;rw[length_cons] at hl;have rt:R K F' (λ_=>Hb) t v (a j):=by
   rcases g.e j t I with z |⟨u,N,O⟩
   .exact absurd z L
   .have:=g.p j ⋯;rw[N,show vs[j]?=some v from r] at this;cases this;exact O.base t M
  have H:a7 K k lo us Fb Hb F' H' y (gg hs (J.set i t)) (λm=>if m=i then a j else f m):=by
   have:=W.fill (i:=i) o rt (g.c j) (λp m=>A.free (g.n j p m)) λm _ p l q x=>d m j (.inr trivial) (le_refl j) p l q x
   rw[show (gg (some i::hs) J).set i t=gg hs (J.set i t) by
    show ((gg hs J).set i .aL).set i t=_;rw[List.set_set];exact xy hs J U] at this
   exact this
  refine xX g A hs (j+1) (J.set i t) _ nd.2 H (λn h e=>?_) ⋯ (λh m z hm p l q x=>?_) p λw b E sub=>q w b E λh p m=>?_
  .obtain⟨v,o,r⟩:=hv (n+1) h e;exact⟨v,o,by rw[show j+1+n=j+(n+1) by omega];exact r⟩
  .by_cases ei:h=i
   .rw[if_pos ei] at l;exact g.d j m ⋯ p l q x
   .rw[if_neg ei] at l;exact d h m z ⋯ p l q x
  .rcases sub h p m with z |z
   .by_cases ei:h=i
    .rw[if_pos ei] at z;exact .inr ⟨j,z⟩
    .rw[if_neg ei] at z;exact .inl z
   .exact .inr z
theorem HA.at_:∀{hs:bK}{o:ai}{vs:ax}{n i:Nat},HA K F Hb j G hs o vs->hs[n]?=some (some i)->∃v,j[i]?=some (some v)/\vs[n]?=some v
 |none::hs,_,_,n,i,y,e=>by
  let⟨t,v,d,f,h,c,k,g⟩:=y;cases n with
  |zero=>cases e
  |succ n=>let⟨u,a,b⟩:=HA.at_ (hs:=hs) g e;exact⟨u,a,by rw[c];exact b⟩
 |some x::hs,_,_,n,i,y,e=>by
  let⟨t,v,d,f,h,c,k,g,l,m⟩:=y;cases n with
  |zero=>cases e;exact⟨v,l,by rw[c];rfl⟩
  |succ n=>let⟨u,a,b⟩:=HA.at_ (hs:=hs) m e;exact⟨u,a,by rw[c];exact b⟩
theorem HA.len:∀{hs:bK}{e:ai}{vs:ax},HA K F Hb j u hs e vs->e.length=hs.length
 |[],_,_,y=>by let⟨a,_⟩:=y;rw[a];rfl
 |none::hs,_,_,y=>by let⟨t,v,b,c,a,f,g,d⟩:=y;rw[a,length_cons,length_cons,HA.len d]
 |some i::hs,_,_,y=>by let⟨t,v,b,c,a,f,g,d,k,h⟩:=y;rw[a,length_cons,length_cons,HA.len h]
theorem Ry{hs:bK}{n:Nat}{z:Bool}{aS:dY}{H:ai}{vs:ax}{E:XK}{q':ag->Prop}{O:Tr->aG}{Q:VK}(W:a7 K k lo us Fb Hb F1 H1 j y cs)(l:Le F F1)(a:HA K F1 Hb j y hs H vs)(nd:(hs.filterMap id).Nodup)(hk:z=true->k.z=true)(hn:(cq H).length=n)(hE:∀d f b,q' d->Gr Fb Hb f b->E d none b)(p1:aS (cq H) (λt B=>iQ hs 0 B y λN=>O t N) q')(q:∀t v f b B u c,iK K k lo us Fb Hb F f b j B u t v c->O t B->Q v b):cv K z n n aS vs H1 Q E:=by
 let⟨C,a1,a2,I,a4,a5⟩:=a.rs W nd;have M:aA Hb (de (C.map (·.1)) H1):=λx o e=>qp (tP I e) (W.g.h _ _ e)
 have o1:d0 K F1 (λ_=>Hb) (de (C.map (·.1)) H1) F1 H1 H vs C:=⟨⟨yH W.g.s,Fz.refl F1⟩,a1,a2,λp m=>xv m⟩
 refine sU (λh=>W.z (hk h)) hn (λ_=>M) o1 (λd f b hq g=>hE d f b hq (W.g.de I g)) p1 λf b j' B u v t c g nw U r hc G dj nl qt=>?_
 let⟨Y,keep⟩:=W.past I a4 g;have w:∀(J:Cs),dh (de (C.map (·.1)) H1) J->∀i,∀p∈(if some i∈hs then [] else cs i),∀q∈J,p.1≠q.1:=λJ G i p A q D e=>by
  split at A
  .cases A
  .rename_i hi;have:=keep i hi p A;rw[e,G q D] at this;cases this
 refine xX U M hs 0 y _ nd Y (λn i e=>?_) (by rw[<- hn,mr,a.len];omega) (λi m _ _=>w (u m) (U.n m) i) qt λN L W2 sub q2=>?_
 .rw[Nat.zero_add];exact a.at_ e
 .refine q t v f b N L c ⟨l.trans g.le,W2,r.base t nl,hc,λp m=>M.free (G p m),λi p A q D=>?_⟩ q2;rcases sub i p A with z |⟨m,z⟩
  .exact w c G i p z q D
  .exact dj m p z q D
def r9(q:ag->Prop)(D:ah->Nat->Prop)(m:Str)(i:Nat)(hs:bK)(aS:Nat->dY)(d:cM):fv:=λj Q=>pV j[i]? λx=>fq D m x λc=>d j λe=>aS c (cq (x::e)) (λt a=>iQ (some i::hs) 0 a j λb=>Q t b) q
theorem El{aS:Nat->dY}{R':St->XK}{q':ag->Prop}(U:∀(us:ax)(d l F H:Hp)(j:St)(y:ai)(cs:Nat->Cs),a7 K k lo us d l F H j y cs->∀b r o,q' b->Gr d l r o->R' j b none o)(nd:((some i::hs).filterMap id).Nodup)(Y:z=true->k.z=true)(hn:∀C xs Q q,aS C xs Q q->xs.length=n)(h:pQ K k lo hs ta ph):ie K k lo (pP D m (λC=>cv K z n n (aS C)) R' (jv i) ta) (r9 q' D m i hs aS ph):=λus d l F H j y cs Q Q' W p q=>by
 ∎;let⟨x,A,J,p⟩:=zF p;let⟨f,C,fs,g,rfl,O,hl,p⟩:=FN p;∎;rcases W.e i _ A with z |⟨v,B,N⟩
 .cases z
 let⟨a,I,vs,ds,rfl,L,M,_⟩:=N.kr W.g.s (λ_=>W.g.h) (W.c i);refine⟨.ref a,B,a,C,I,vs,g,rfl,L,O,M.none_of hl,h us d l F H j y cs _ _ W p λts u E G l1 w ha p1=>?_⟩;exact Ry w l1 (hs:=some i::hs) ⟨_,_,ts,u,rfl,rfl,A,J,B,ha⟩ nd Y (hn _ _ _ _ p1) (λb r o hq g=>U us d l E G j y cs w b r o hq g) p1 q
end
structure QL(X:Cx)(k:Md)(lo:Nat)(e:Expr)(pl:fv):Prop where
 h:∃te,PE X e te/\ie X.K k lo te pl
structure rA(X:Cx)(k:Md)(lo:Nat)(es:bS)(pa:kX):Prop where
 h:∃ta,PA X es ta/\pH X.K k lo ta pa
structure QH(X:Cx)(k:Md)(lo:Nat)(es:bS)(hs:bK)(ph:cM):Prop where
 h:∃ta,PA X es ta/\pQ X.K k lo hs ta ph
section
theorem qR(h:QE X k e pe):QL X k lo e (z3 pe):=by
 let⟨c,a,b⟩:=h.h;exact⟨_,a,XD b⟩
theorem yb:rA X k lo [] v8:=⟨_,iS,Sj⟩
theorem nR(h:QL X k lo e pl)(h':rA X k lo es pla)(hs:do dN e es X.env):rA X k lo (e::es) (vL pl pla):=by
 ∎;let⟨f,c,d⟩:=h.h;let⟨g,a,b⟩:=h'.h;∎;exact⟨_,iD c a hs,QM d b⟩
theorem ue:QH X k lo [] [] uS:=⟨_,iS,Fo⟩
theorem uK(he:QE X k e pe)(h:QH X k lo es hs ph)(a:do dN e es X.env):QH X k lo (e::es) (none::hs) (zT pe ph):=by
 ∎;let⟨g,d,f⟩:=he.h;let⟨i,b,c⟩:=h.h;∎;exact⟨_,iD d b a,XE f c⟩
theorem G8(n:bZ X (compareOp op) r)(hs:cW X.K k r pr)(ha:QL X k lo a pl)(m:QL X k lo b pl')(hm:behindInMarks op b=false)(h:QB X k lo s1 p)(h':QB X k lo s2 q):QS X k lo (.If (.Compare a [op] [b] pos) s1 s2 ipos) (wU (z0 pr pl pl') p q):=by
 ∎;let⟨u,j,l⟩:=ha.h;let⟨v,g,i⟩:=m.h;let⟨o,e,f⟩:=h.h;let⟨s,c,d⟩:=h'.h;∎;exact⟨_,zi (FV n j g hm) e c,Ut (Us hs l i) f d⟩
theorem wx:∀(us:ax)(d e F H:Hp)(j:St)(y:ai)(cs:Nat->Cs),a7 K k lo us d e F H j y cs->∀a c b,k.q a->Gr d e c b->k.E j a none b:=λus d e F H j y cs W a c b f g=>W.x a j c b f g
section
def BO(C:ah)(aS:cf)(c:kX):fv:=λj Q=>c j λd b=>aS (cq (.ins .o C []::d)) (λt a=>t=.aX/\gW a[0]? λx=>Q x b)
theorem yd{aS:cf}(M:Mk X.K C f)(G:aB X.prog X.w X.K X.mg X.base bq km f fd ps (bx X.K z 1 n aS))(j:z=true->k.z=true)(hn:∀xs Q,aS xs Q->xs.length=n)(l:bj (km+1) X.A)(i:Gl X x)(hm:X.mg x=some (.ref C))(g:Binds X.K fd ps [])(ha:rA X k lo (e::es) pla)(a: ~~~(cD x))(he:do dN e es X.env)(b:do eX pos es X.env):
  QL X k lo (.Call (.Name x p) (e::es) [] pos) (BO C aS pla):=by
 let⟨m,c,d⟩:=ha.h;exact⟨_,xF (R:=λ_=>E0) M G l i hm g .nil (zE uv) c a he b,OV (q':=λ_=>False) (aS:=λxs Q _=>aS xs Q) (λ_ _ _ _ _ _ _ _ _ _ _ _ h=>h.elim) j (λxs Q _=>hn xs Q) d⟩
theorem tX(i:Nat){D:ah->Nat->Prop}{aS:Nat->dY}(o:∀C g,D C g->aQ X.prog X.w X.K X.mg X.base (b4 X.prog X.w) km m C ps (cv X.K z n n (aS g)))(y:∀j,gA (b4 X.prog X.w) X j (k.E j))(s:z=true->k.z=true)(hn:∀C xs Q q,aS C xs Q q->xs.length=n)(u:bj km X.A)(ha:QH X k lo (e::es) hs ph)(nd: ~~~(((some i::hs).filterMap id).Nodup))(r:do X.N[i]?=some x)(v:jP X.env.scope x:=by first |exact Or.inl rfl |exact Or.inr (Or.inl rfl) |exact Or.inr (Or.inr rfl))(hd: ~~~(cD x))(a: ~~~((x == ("__classdict__":Str))=false))(c:do dN e es X.env)(b:do eX pos es X.env)(ht:eval (.Call (.Attribute (.Name x p) m apos) (e::es) [] pos) X.env=(do
   let ov <- eval (.Name x p) X.env
   standAt apos.atName
   let (f,first) <- holding [ov] (getMethod ov m pl)
   callWith pos f first (backTo pos (starEach (e::es) X.env)) (backToKw pos (keywordEach [] X.env))):=by rfl):QL X k lo (.Call (.Attribute (.Name x p) m apos) (e::es) [] pos) (r9 k.q D m i hs aS ph):=by
 let⟨B,d,l⟩:=ha.h;exact⟨_,XC (lu r v hd a) o u y d c b ht,El wx nd s hn l⟩
theorem e8(i:Nat){D:ah->Nat->Prop}{aS:Nat->dY}(b:∀C g,D C g->aQ X.prog X.w X.K X.mg X.base (b4 X.prog X.w) km m C ps (cv X.K z n n (aS g)))(l:∀j,gA (b4 X.prog X.w) X j (k.E j))(d:z=true->k.z=true)(hn:∀C xs Q q,aS C xs Q q->xs.length=n)(e:bj km X.A)(c:do X.N[i]?=some x)(h:jP X.env.scope x:=by first |exact Or.inl rfl |exact Or.inr (Or.inl rfl) |exact Or.inr (Or.inr rfl))(hd: ~~~(cD x))(a: ~~~((x == ("__classdict__":Str))=false))(ht:eval (.Call (.Attribute (.Name x p) m apos) [] [] pos) X.env=(do
   let ov <- eval (.Name x p) X.env
   standAt apos.atName
   let (f,first) <- holding [ov] (getMethod ov m pl)
   callWith pos f first (backTo pos (starEach [] X.env)) (backToKw pos (keywordEach [] X.env))):=by rfl):QL X k lo (.Call (.Attribute (.Name x p) m apos) [] [] pos) (r9 k.q D m i [] aS uS):=
 ⟨_,FK (lu c h hd a) b e l ht,El wx (show ([i]:List Nat).Nodup by simp) d hn Fo⟩
end
section
theorem gc(i:Nat)(h:QL X k lo e pl)(c:X.N.Nodup:=by assumption)(g: ~~~(lo<=i))(f:do X.N[i]?=some x)(j:Loc X.env.scope x:=by first |exact Or.inl rfl |exact Or.inr rfl)(hs:do swapsWith e (some (.Name x pos')) pos.line X.env=pure false)(d:kG X x:=by first |exact .inl rfl |exact .inr rfl |assumption):
  QS X k lo (.Assign [.Name x pos'] e pos) (vM i pl):=by
 let⟨l,a,b⟩:=h.h;exact⟨_,qw c f j a hs d,PY g b⟩
theorem qi(h:QL X k lo e pl)(hs:do swapsWith e none pos.line X.env=pure false):QS X k lo (.Expr e pos) (vN pl):=by
 let⟨c,a,b⟩:=h.h;exact⟨_,yf a hs,PZ b⟩
theorem yR(h:QL X k lo e pl):QS X k lo (.Return (some e) pos) (v9 pl):=by
 let⟨c,a,b⟩:=h.h;exact⟨_,yM a,Rx b⟩
end
end
section
theorem tY:∀{ns:ae}{vs:ax}{c:Cs},Rs K F B (ns.map (av.t (α:=Str))) vs c->vs=ns.map V.str/\c=[]
 |[],_,_,h=>h
 |n::ns,_,_,y=>by
  ∎;let⟨v,r,c,d,g,i,j,k⟩:=y;let⟨a,b⟩:=tY k;let⟨e,f⟩:=(show v=V.str n/\c=[] from j);∎;exact⟨by rw[g,a,e];rfl,by rw[i,f,b];rfl⟩
theorem FQ:∀(ns:ae),Rs K F B (ns.map (av.t (α:=Str))) (ns.map V.str) []
 |[]=>⟨rfl,rfl⟩
 |n::ns=>⟨.str n,ns.map V.str,[],[],rfl,rfl,⟨rfl,rfl⟩,FQ ns⟩
def Io(t:Tr)(Q:ar):Prop:=∃(f:Fl)(ns:ae),t=.ak f ↥ns/\ns.length<60/\Q (.ak .o ((mV (cI ns)).map av.t))
def Im(t:Tr)(Q:ar):Prop:=∃(f:Fl)(ns:ae),t=.ak f ↥ns/\ns.length<60/\Q (.int ((cI ns).length:Int))
theorem Fq{Q:VK}(s:aA F H)(b:∀k,aA (B k) H)(r:R K F B (.ak f ↥ns) v c1)(g:au F H c1)(m:ns.length<60)(q:∀p,H p=none->Q (.ref p) (a6 H p (jz P w p ((cI ns).map Sum.inr)))):nu P w K [v] H Q:=by
 ∎;let⟨a,vs,i,rfl,c,d,j,l⟩:=r.cj s b g;let⟨rfl,_⟩:=tY d;∎;refine⟨a,ns.map Sum.inr,rfl,?_,by rw[length_map];omega,λp h=>?_⟩
 .rw[map_map];exact c
 .rw[RT (λx y e=>Sum.inr.inj e)];exact q p h
theorem XF(h:bu K k te pe):bu K k (lO (pz P w) (ib (lO (nu P w K) (ib te ic)) ic)) (p1 Io pe):=λF B H j u Q G c p q=>by
 refine h F B H j u _ _ c p λx v e i I p1 a=>?_
 let⟨f,ns,rfl,z,p1⟩:=p1;have n:nu P w K [v] i (λx o=>pz P w [x] o Q):=?_
 .exact n
 refine Fq a.g.s (λk=>(c.b k).trans a.g.h) a.r a.c z λp A=>?_
 show pz P w [V.ref p] _ Q;refine TN e7 (Nat.lt_of_le_of_lt (sT _) ⋯) λp2 d=>?_
 have l:Gr e i e (a6 i p (jz P w p ((cI ns).map Sum.inr))):=Gr.i8 a.g.s A;let⟨C,D,E⟩:=nI (K:=K) (B:=B) l.s (FQ (mV (cI ns))) .nil d;refine q _ _ e _ _ p1 ⟨(a.g.trans' l).trans' C,D,E,λy m=>?_⟩;cases m with
 |head=>exact a.g.h.free (l.h.free d)
 |tail _ m=>cases m
theorem XG(h:bu K k te pe):bu K k (lO (pF P w) (ib (lO (nu P w K) (ib te ic)) ic)) (p1 Im pe):=λF B H j y Q u c p q=>by
 refine h F B H j y _ _ c p λx v d e z p1 a=>?_
 let⟨f,ns,rfl,n,p1⟩:=p1;have i:nu P w K [v] e (λx l=>pF P w [x] l Q):=?_
 .exact i
 refine Fq a.g.s (λk=>(c.b k).trans a.g.h) a.r a.c n λp o=>?_
 have m:Gr d e d (a6 e p (jz P w p ((cI ns).map Sum.inr))):=Gr.i8 a.g.s o;show pF P w [V.ref p] _ Q;exact V6 e7 (Nat.lt_of_le_of_lt (sT _) ⋯) (q _ _ d _ [] p1 ⟨a.g.trans' m,⟨rfl,rfl⟩,.nil,.nil⟩)
end
section
theorem IC{p p2 a:Pos}(f:X.calm=true)(l:Gl X "sorted")(hm:X.mg "sorted"=none)(b:Gl X "set")(c:X.mg "set"=none)(h:QE X k e pe)(d:do m8 e X.env)(j:do starEach [.Call (.Name "set" p2) [e] [] a] X.env=[(false,eval (.Call (.Name "set" p2) [e] [] a) X.env)]):
  QE X k (.Call (.Name "sorted" p) [.Call (.Name "set" p2) [e] [] a] [] pos) (p1 Io pe):=by
 let⟨m,g,i⟩:=h.h;exact⟨_,sS (Mz f) l hm rfl (iD (xr (Ef f) b c rfl (iD g iS d) (he:=d)) iS j),XF i⟩
theorem ID{p p2 a:Pos}(j:X.calm=true)(l:Gl X "len")(hm:X.mg "len"=none)(b:Gl X "set")(c:X.mg "set"=none)(h:QE X k e pe)(d:do m8 e X.env)(i:do starEach [.Call (.Name "set" p2) [e] [] a] X.env=[(false,eval (.Call (.Name "set" p2) [e] [] a) X.env)]):
  QE X k (.Call (.Name "len" p) [.Call (.Name "set" p2) [e] [] a] [] pos) (p1 Im pe):=by
 let⟨m,f,g⟩:=h.h;exact⟨_,sS O1 l hm rfl (iD (xr (Ef j) b c rfl (iD f iS d) (he:=d)) iS i),XG g⟩
end
theorem P0:sG D m aS po pa j Q=(po j λx=>fq D m x λc=>pa j λa=>aS c (cq (x::a)) (λt _=>Q t)):=rfl
theorem M8:vK q C aS pa j Q=(pa j λb=>aS (cq (.ins .o C []::b)) (λt a=>t=.aX/\gW a[0]? Q) q):=rfl
theorem NX:v7 C aS pa j Q=(pa j λb=>aS (cq (.ins .o C []::b)) λt a=>t=.aX/\gW a[0]? Q):=rfl
theorem SI:z3 pe j Q=(pe (j.map aM) λt=>b8 t=true/\Q t j):=rfl
theorem NY(j:ai)(Q:ai->aG):v8 j Q=(Q [] j):=rfl
theorem M9(pl:fv)(a:kX)(j:ai)(Q:ai->aG):vL pl a j Q=(pl j λt b=>a b λd c=>Q (aU t::d) c):=rfl
theorem SJ(c:Tr->Tr->(ar)->Prop)(a:fv)(b:fv)(j:ai)(Q:Tr->aG):z0 c a b j Q=(a j λx d=>b d λy e=>c (aU x) y λt=>Q t e):=rfl
theorem Na(i:Nat)(pl:fv)(D:Pd)(j:ai):vM i pl D j=(pl j λt a=>D.nx (a.set i (aU t))):=rfl
theorem Nb:vN pl D j=(pl j λ_ j1=>D.nx j1):=rfl
theorem NZ:v9 pl D j=(pl j λt a=>ck t=true/\D.rt t a):=rfl
theorem P1:wU pl p q D j=(pl j λt a=>cU t λb=>if b=true then p D a else q D a):=rfl
theorem SK:uS j' Q=(Q []):=rfl
theorem SM:zT pe ph j Q=(pe (j.map aM) λt=>b8 t=true/\ph j λa=>Q (Pu.aU t::a)):=rfl
theorem Nc(q:ag->Prop)(D:ah->Nat->Prop)(m:Str)(i:Nat)(hs:bK)(aS:Nat->dY)(a:cM)(j:ai)(Q:Tr->aG):r9 q D m i hs aS a j Q=(pV j[i]? λx=>fq D m x λc=>a j λe=>aS c (cq (x::e)) (λt b=>iQ (some i::hs) 0 b j λd=>Q t d) q):=rfl
theorem Nd:BO C aS pa j Q=(pa j λc b=>aS (cq (.ins .o C []::c)) (λt a=>t=.aX/\gW a[0]? λx=>Q x b)):=rfl
theorem Nf(j:Nat)(a y:ai)(Q:aG):iQ [] j a y Q=Q y:=rfl
theorem N0(hs:bK)(j:Nat)(a y:ai)(Q:aG):iQ (none::hs) j a y Q=iQ hs (j+1) a y Q:=rfl
theorem Ng(i:Nat)(hs:bK)(j:Nat)(a y:ai)(Q:aG):iQ (some i::hs) j a y Q=(pV a[j]? λt=>ck t=true/\iQ hs (j+1) a (y.set i t) Q):=rfl
theorem yF(c:ah)(fs:bT):aM (.ins .o c fs)=.ins (.l true) c (dg fs):=rfl
theorem EM(c:ah)(fs:bT):Pu.aU (.ins .o c fs)=.ins .f c (f5 fs):=rfl
theorem yE(c:ah)(fs:bT):dn (.ins .o c fs)=.ins .o c (g9 fs):=rfl
theorem zG(b:Bool)(c:ah)(fs:bT):dn (.ins (.l b) c fs)=.ins (.l false) c (g9 fs):=rfl
theorem zH(c:ah)(fs:bT):dn (.ins .f c fs)=.ins .f c (g9 fs):=rfl
theorem zI(c:ah)(fs:bT):aM (.ins .f c fs)=.ins .f c fs:=rfl
theorem zJ(b:Bool)(c:ah)(fs:bT):aM (.ins (.l b) c fs)=.ins (.l b) c fs:=rfl
theorem lK(c:ah)(fs:bT):ck (.ins .o c fs)=dB fs:=rfl
theorem yG(c:ah)(fs:bT):b8 (.ins .o c fs)=fi fs:=rfl
theorem P4(K:ao)(f:Str)(c:ah)(fs:bT)(Q:ah->bT->Prop):kN K f (.ins .o c fs) Q=((dF K c/\aD K c f)/\fs.length<900/\Q c fs):=rfl
theorem w_fld(K:ao)(f:Str)(g:Fl)(c:ah)(fs:bT)(Q:ar):gV K f (.ins g c fs) Q=((dF K c/\aD K c f)/\(match fs.lookup f with |some t=>Q t |none=>False)):=rfl
theorem Nh:gi f u []=[(f,u)]:=rfl
theorem N1(f:Fl)(c:ah)(xs:bT)(R:ar):rg (some (.ins f c xs)) R=R (.ins f c xs):=rfl
section
theorem n6(xs:ae)(a:Gl X x)(hm:X.mg x=some (.ref c))(ht:∃(o:Obj)(bf:cO)(n:Nat),X.K.lookup c=some o/\o.cls=.type "tuple"/\o.data=.seq bf n/\bf.size<=sizeLine/\aF (xs.map V.str) bf.toList)(hd: ~~~(cD x)):QE X k (.Name x pos) (pC (.aY (xs.map Tr.str))):=
 uc (.ref c) a hm rfl (λF B=>⟨c,_,rfl,.inr ht,qh xs⟩) hd
end
section
def wV(i:Nat):fv:=λj Q=>pV j[i]? λt=>Q t (j.set i .aL)
theorem Uu:ie K k lo (jv i) (wV i):=λus o r F H y u b Q s W p q=>by
 let⟨t,f,g,p⟩:=zF p;rcases W.e i t f with z |⟨v,h,l⟩
 .exact absurd z g
 refine⟨v,h,q t v F H _ _ (b i) ⟨Le.refl _,W.aL (i:=i),l,W.c i,W.n i,λj p a q m=>?_⟩ p⟩;split at a
 .cases a
 .rename_i hj;exact W.d j i hj p a q m
theorem P5(i:Nat)(j:ai)(Q:Tr->aG):wV i j Q=(pV j[i]? λt=>Q t (j.set i .aL)):=rfl
end
section
theorem XW(i:Nat)(b:do X.N[i]?=some x)(c:jP X.env.scope x:=by first |exact Or.inl rfl |exact Or.inr (Or.inl rfl) |exact Or.inr (Or.inr rfl))(hd: ~~~(cD x))(a: ~~~((x == ("__classdict__":Str))=false)):QL X k lo (.Name x pos) (wV i):=⟨_,lu b c hd a,Uu⟩
end
end Pu
namespace L2
open PySem PySem.Spec PyProof.Rows
def Ce(K:ao):ax->Hp->VK->Prop:=λe H Q=>∃(a C d t:ah)(fs:List (Str×V))(c:bV)(b:Bool),e=[.ref a,.ref t]/\Rd H a (.ins C d fs)/\fP K C/\cZ K H t (c.map V.ref)/\W.kitAny K (.ref C) (c.map Value.ref)=some b/\Q (.bl b) H
theorem P6:a9 X (.builtin "isinstance") (Ce X.K):=by
 intro aa s j H G us Q I r h;∎;let⟨a,C,B,t,fs,d,b,rfl,l,z,k,e,q⟩:=h;let⟨v,x,rfl,u,g⟩:=qH r;∎;cases (show v=Value.ref a from u);cases (show x=Value.ref t from g);∎;let⟨D,O,_⟩:=tZ I.aV l;let⟨od,J,_⟩:=O.look;let⟨us,r1,pt,f⟩:=I.tuple k;∎;have m:us=d.map Value.ref:=by
  clear e k q pt f
  induction d generalizing us with
  |nil=>cases r1;rfl
  |cons c d p=>cases r1 with
   |cons a b=>rw[map_cons,p _ b];exact congrArg (·::_) a
 subst m;let⟨⟨y,A,E,w⟩,o,i,n,hd⟩:=pt;simp only at i hd;subst i hd;exact W.kia_tup (W.kitx_own (z.cl.get _) z.cl.hd z.ha z.hn z.uq z.hm) I.cy J o e (λz=>nomatch z) λtk=>⟨.bl b,H,I.tok tk,rfl,q⟩
end L2
namespace Pu
open PySem L2 Vc Sf
section
def wa(K:ao)(a:ai)(Q:ar):Prop:=match a with
 |[.ins _ C _,.aY cs]=>∃(as:bV)(b:Bool),cs=as.map Tr.cl /\ fP K C /\ W.kitAny K (.ref C) (as.map Value.ref)=some b /\ Q (.bl b)
 |_=>False
theorem Rz:gy K k (Ce K) (wa K):=λF B H I E A Q x s b z r o p q=>by
 unfold wa at p;split at p
 .obtain⟨v,us,c,d,rfl,rfl,h3,h4⟩:=r;∎;let⟨G,u,y,C,rfl,rfl,j,l⟩:=h4;let⟨rfl,_⟩:=l;let⟨as,f,rfl,h,i,p⟩:=p;let⟨a,g,vs,D,rfl,ha,_⟩:=h3.kr s b o.left;let⟨t,w,rfl,e,n⟩:=j.cQ s;∎;rw[yQ n] at e;exact⟨a,_,g,t,vs,as,f,rfl,ha,h,e,i,q _ _ F H [] p (Gr.aH s) ⟨rfl,rfl⟩ .nil λ_ m=>nomatch m⟩
 .exact p.elim
def sd(f a:Tr->Tr->(ar)->Prop)(c d e:aW):aW:=λj Q=>c j λx=>d j λy=>f x y λz=>cU z λb=>if b=true then e j λw=>a y w Q else Q (.bl false)
theorem Em(o:cW K k r pr)(o':cW K k r' pr')(ha:bu K k ta pa)(hb:bu K k tb pb)(hc:bu K k tc pc):bu K k (vz r r' ta tb tc) (sd pr pr' pa pb pc):=λF B H j i Q Q' c p q=>by
 refine ha F B H j i _ _ c p λx v M Y c1 p1 l=>?_
 refine hb M B Y j i _ _ (c.gr l.g) p1 λy u N H2 L p2 d=>?_
 have C:=l.g.trans' d.g;refine o N B H2 v u x y c1 L _ _ d.g.s (λk=>((c.b k).trans l.g.h).trans d.g.h) (λh=>d.g.fz (l.g.fz (c.z h))) (l.r.mo d.g.le (λk=>Le.refl (B k)) x) d.r (l.c.gr d.g) d.c (λp E q G e=>by have:=l.c.h p E;rw[e,d.n q G] at this;cases this) p2 λz v3 I J c3 w A r3 _ _=>?_
 unfold cU at w;split at w
 .rename_i b;let⟨rfl,_⟩:=r3;refine⟨b,rfl,?_⟩;have a:=C.trans' A;cases b with
  |false=>exact q _ _ I J [] w (.bl a)
  |true=>
   rw[if_pos rfl] at w ⊢;refine hc I B J j i _ _ (c.gr a) w λt4 v4 O H4 c4 p4 f=>?_
   have y4:=(d.r.mo A.le (λk=>Le.refl (B k)) y).mo f.g.le (λk=>Le.refl (B k)) y;have yc:=(d.c.gr A).gr f.g;refine o' O B H4 u v4 y t4 L c4 Q Q' f.g.s (λk=>((c.b k).trans a.h).trans f.g.h) (λh=>f.g.fz (a.fz (c.z h))) y4 f.r yc f.c (λp E q G e=>by have:=(d.c.gr A).h p E;rw[e,f.n q G] at this;cases this) p4 λt5 v5 U H5 c5 q5 g5 r5 D n5=>?_
   refine q t5 v5 U H5 c5 q5 ⟨(a.trans' f.g).trans' g5,r5,D,λp m=>?_⟩;rcases n5 p m with z |z |z
   .exact a.h.free (f.g.h.free z)
   .exact l.g.h.free (d.n p z)
   .exact a.h.free (f.n p z)
 .exact w.elim
def wI(o:Option Tr)(Q:Int->Prop):Prop:=match o with |some (.int a)=>Q a |_=>False
theorem ux{Q:Int->Prop}(h:wI o Q):∃a,o=some (.int a)/\Q a:=by
 unfold wI at h;split at h
 .exact⟨_,rfl,h⟩
 .exact h.elim
def vB(K:ao)(i:Nat)(r:ae)(f:Str)(pe:aW):cc:=λD j=>hV K j i r λu s=>kN K f u λc fs=>wI (fs.lookup f) λa=>pe (j.map aM) λt=>wI (some t) λb=>D.nx (s (.ins .o c (gi f (.int (a+b)) fs)))
theorem OW(h:bu K k te pe):cK K k lo (BC K (tR K i r) te CO f) (vB K i r f pe):=λus Fb M F H j y cs D D' W p L=>by
 ∎;let⟨t,Q,U,Y,p⟩:=qq p;let⟨C,fs,eg,ok,hl,p⟩:=EZ p;let⟨l,el,p⟩:=ux p;let⟨w,c,r1,sub,hc,rd,cl⟩:=W.at Q U r Y;∎;rw[eg] at r1;let⟨a,m,vs,O,rfl,G,A⟩:=r1;have ha:H a=some (.ins C m vs):=hc.h (a,.ins C m vs) (by rw[G];exact .head _);have lk:vs.lookup f=some (.int l):=by
  let⟨w,c,pre,I,n,s,_⟩:=A.at el;rw[n,s.1]
 refine rd _ ⟨a,C,m,vs,.int l,rfl,ha,ok.1,ok.2,lk,h F (Bq M H) H j _ _ _ W.eA p λu v B J c1 q o=>?_⟩;let⟨b,eu,q⟩:=ux q;cases eu;∎;let⟨rfl,_⟩:=o.r;let⟨z,d,n,s,E⟩:=(A.mo o.g.le (λ_=>Le.refl _) fs).put (f:=f) (t:=.int (l+b)) (v:=.int (l+b)) (e:=[]) ⟨rfl,rfl⟩;∎;rw[append_nil] at E;let⟨x,N⟩:=cl B J (W.gr o.g) o.g.le a (.ins C m vs) (.ins C m (eL f (.int (l+b)) vs)) O z [] (.ins .o C (gi f (.int (l+b)) fs)) ((a,.ins C m (eL f (.int (l+b)) vs))::d) G s .nil tT tq (List.Perm.cons _ (by rw[append_nil];exact E)) ⟨a,m,_,d,rfl,rfl,n⟩;exact⟨l,b,rfl,rfl,m,vs,o.g.h _ _ ha,lt_of_lt_of_le (by rw[A.length];exact hl) ∎,L.nx B _ j _ x N q⟩
end
section
theorem XH(K:ao)(c:X.K=K)(d:Gl X x)(hm:X.mg x=none)(f:bootBuiltins x=some (.builtin "isinstance"))(ha:QA X k (e::es) ps)(hn: ~~~(x≠"__name__"))(a: ~~~(cD x))(he:do dN e es X.env)(b:do eX pos es X.env):
  QE X k (.Call (.Name x p) (e::es) [] pos) (pB (wa K) ps):=by
 subst c;exact cA P6 Rz hm ha d f hn a he b
theorem Uv(p:bZ X (compareOp op) r)(hs:cW X.K k r pr)(d:bZ X (compareOp op') r')(e:cW X.K k r' pr')(ha:QE X k a pa)(n:QE X k b pb)(o:QE X k c pc)(hm:lastMarks [op,op'] [b,c]=false:=by with_unfolding_all rfl):QE X k (.Compare a [op,op'] [b,c] pos) (sd pr pr' pa pb pc):=by
 ∎;let⟨q,l,m⟩:=ha.h;let⟨s,i,j⟩:=n.h;let⟨u,f,g⟩:=o.h;∎;exact⟨_,Rt p d l i f hm,Em hs e m j g⟩
theorem xY(p:bZ X (compareOp op) r)(hs:cW X.K k r pr)(d:bZ X (compareOp op') r')(e:cW X.K k r' pr')(ha:QE X k a pa)(n:QE X k b pb)(o:QE X k c pc)(hm:lastMarks [op,op'] [b,c]=false:=by with_unfolding_all rfl):QT X k (.Compare a [op,op'] [b,c] pos) (pT (sd pr pr' pa pb pc)):=by
 ∎;let⟨q,l,m⟩:=ha.h;let⟨s,i,j⟩:=n.h;let⟨u,f,g⟩:=o.h;∎;exact⟨_,Ru p d l i f hm,Eh (Em hs e m j g)⟩
theorem RA(c:PE X o (tR X.K i r))(h:QE X k e pe):QS X k lo (.AugAssign (.Attribute o f tpos) .Add e pos) (vB X.K i r f pe):=by
 let⟨d,a,b⟩:=h.h;exact⟨_,OQ c a Wu,OW b⟩
end
theorem Ni(f a:Tr->Tr->(ar)->Prop)(c d e:aW)(j:ai)(Q:ar):sd f a c d e j Q=(c j λx=>d j λy=>f x y λz=>cU z λb=>if b=true then e j λw=>a y w Q else Q (.bl false)):=rfl
theorem Mi(K:ao)(i:Nat)(r:ae)(f:Str)(pe:aW)(D:Pd)(j:ai):vB K i r f pe D j=(hV K j i r λu s=>kN K f u λc fs=>wI (fs.lookup f) λa=>pe (j.map aM) λt=>wI (some t) λb=>D.nx (s (.ins .o c (gi f (.int (a+b)) fs)))):=rfl
theorem VY(n:Int)(Q:Int->Prop):wI (some (.int n)) Q=Q n:=rfl
theorem fu(a:rD X E):PassesOwn (model X.prog X.w) X.A X.env X.xe:=by
 rw[show X.xe=_ from a]
 passes_own
end Pu
namespace Pu
open PySem L2 Vc Sf PyProof.Rows
theorem D2:∀{vs:aJ}{a:ae},StrsAre vs a->∀i,i<vs.length->∃y t,vs[i]?=some (.str y t)/\a[i]?=some y
 |_,_,.nil,i,h=>absurd h (not_lt_zero _)
 |_,_,.cons y t h,0,_=>⟨y,t,rfl,rfl⟩
 |_,_,.cons y t h,i + 1,hi=>by
  let⟨e,d,b,c⟩:=D2 h i (Nat.lt_of_succ_lt_succ hi);exact⟨e,d,by rw[List.getElem?_cons_succ];exact b,by rw[List.getElem?_cons_succ];exact c⟩
theorem LU(l:ah)(items:cO)(n:Nat)(dd:fw)(H:Array (dO))(x:Str)(u:Tok)(f:ae)(D:StrsAre items.toList f)(j:Nat)(L:j<items.size)(p:f[j]?=some x)(v:∀m,m<j->f[m]?≠some x):
  Meets (Builtin.«tuple.index» ⟨[.ref l,.str x u],[]⟩)
   (λA R s=>s.heap.get? l=some { cls:=.type "tuple",dict:=dd,data:=.seq items n,slots:=H }/\R (.ok (.ret (.int j s.toks))) { s with toks:=s.toks+1 }):=
 .of_wp λprog w A R s h=>by
  ∎;let⟨G,g,d,tk,os⟩:=s;let⟨E,h⟩:=h;∎;have at_:∀i (hm:i<items.size),∃y t,items[i]?=some (.str y t)/\f[i]?=some y:=λi hm=>by
   let⟨y,t,k,a⟩:=D2 D i (by simpa using hm);exact⟨y,t,by simpa using k,a⟩
  unfold Builtin.«tuple.index»;simp only[Std.Legacy.Range.forIn_eq_forIn_range',Std.Legacy.Range.size]
  wp_walk using wpAny_loadPart' E,wpAny_forIn_list _ (λrest b B=>b.1=none/\B=⟨G,g,d,tk,os⟩/\∃i,rest=List.range' i (items.size - i) 1/\i<=j) _
  case turn=>
   rintro y rest b B ⟨C,rfl,i,e,o⟩;have r:i<items.size:=⋯
   rw[show items.size - i=(items.size - (i+1))+1 by omega,List.range'_succ] at e;injection e with h1 h2
   subst h1;let⟨z,t,k,a⟩:=at_ y r;rw[k];refine wpAny_bind (eqBool_str ?_);by_cases c:z=x
   .subst c;have:y=j:=by
     rcases lt_or_ge y j with q |q
     .exact absurd a (v y q)
     .omega
    subst this;rw[if_pos (by simp)]
    wp_walk
    exact⟨_,rfl,h⟩
   .rw[if_neg (by simpa using c)];refine wpAny_pure ?_;refine⟨rfl,rfl,y+1,h2,?_⟩;rcases lt_or_ge y j with q |q
    .exact q
    .have:y=j:=⋯
     subst this;rw[p] at a;exact absurd (Option.some.inj a).symm c
  case fin=>
   rintro⟨I,J⟩ B ⟨C,rfl,i,e,o⟩;rw[show items.size - i=(items.size - (i+1))+1 by omega,List.range'_succ] at e;cases e
  case h=>exact⟨rfl,rfl,0,by simp,zero_le _⟩
theorem DA:∀{c:ae}{bf:aJ},aF (c.map V.str) bf->StrsAre bf c
 |[],_,h=>by cases h;exact .nil
 |y::c,_,h=>by
  cases h with
  |cons a b=>
   let⟨t,rfl⟩:=(show ∃t,_=Value.str y t from a);exact .cons y t (DA b)
def Cf(xs:ae)(pe:aW):aW:=λu Q=>pe u λt=>f9 t λy=>∃j:Nat,xs[j]?=some y/\(∀m,m<j->xs[m]?≠some y)/\Q (.int (j:Int))
section
theorem RB(xs:ae)(hg:Gl X x)(hm:X.mg x=some (.ref c))(ht:∃(o:Obj)(bf:cO)(n:Nat),X.K.lookup c=some o/\o.cls=.type "tuple"/\o.data=.seq bf n/\bf.size<=sizeLine/\aF (xs.map V.str) bf.toList)(hn:∀o,X.K.lookup c=some o->o.dict=none)(he:QE X k e pe)(m:M1 X (.Name x pos) "index" apos e bB)(hd: ~~~(cD x)):QE X k (.Call (.Attribute (.Name x pos) "index" apos) [e] [] bB) (Cf xs pe):=by
 let⟨te,h1,h2⟩:=he.h;refine⟨λu H Q=>te u H λy A=>∃(b:Str)(j:Nat),y=.str b/\xs[j]?=some b/\(∀m,m<j->xs[m]?≠some b)/\Q (.int (j:Int)) A,?_,?_⟩
 .intro aa s u H Q I h;∎;let⟨o,bf,n,w,J,f,hz,L⟩:=ht;let⟨U,Y,t1,E⟩:=o;∎;simp only at J f;subst J f;have l:=I.cy c _ w;refine wpAny_Call_method m.base m.DU m.line PySem.F.plainAttrs_tuple PySem.F.slot_tuple_index PySem.F.type_tuple_index (k4 I hg hm ⟨⟨_,l,rfl⟩,(λa z=>by cases z;exact⟨_,l,hn _ w⟩),?_⟩ hd);rw[m.trees];refine Calls.callWith_builtin rfl (Calls.evalArgs_plain (Calls.spliced_cons (bo (h1 aa s u H _ I h) λiv s2 G=>?_)));let⟨y,A,C,ry,b,j,ey,d,D,q2⟩:=G;refine Calls.spliced_nil ?_;subst ey;let⟨t',rfl⟩:=(show ∃t,iv=Value.str b t from ry);have sa:=DA L;have hl:xs.length=bf.size:=by simpa using L.length
  have hj:j<bf.size:=by
   rw[<- hl];rcases lt_or_ge j xs.length with z |z
   .exact z
   .rw[getElem?_eq_none z] at d;cases d
  exact call_meets PySem.F.slot_tuple_index ⟨_,C.cy c _ w,rfl⟩ PySem.F.entry_tuple_index (PySem.F.args_tuple_index_2 _ _) (LU c bf n Y E b t' xs sa j hj d D) ⟨C.cy c _ w,⟨.int _,A,C.tok _,⟨_,rfl⟩,q2⟩⟩
 .intro F B H u i Q Q' c p q;refine h2 F B H u i _ _ c p λt v N O U p1 M=>?_
  let⟨y,rfl,j,d,D,p1⟩:=jA p1;exact⟨y,j,M.r.1,d,D,q _ _ N O [] p1 ⟨M.g,⟨rfl,rfl⟩,.nil,λ_ m=>nomatch m⟩⟩
end
def Cg(b:TE)(t:Str->TE):Str->TE:=λout j H Q=>b j H λv a=>∃i:Int,v=.int i/\i.natAbs.log2<1920/\(out++((toString i):Str)).length<=sizeLine/\t (out++((toString i):Str)) j a Q
theorem Uw(he:PE X e te)(a:PJ X es t):PJ X (.FormattedValue e (-1) none pos::es) (Cg te t):=λout aa s j H Q I h=>
 joinParts_cons (rest:=evalEach es X.env) (FormattedValue_plain (bo (he aa s j H _ I h) λv b ⟨x,H1,I1,r1,i,e1,hz,hq,q1⟩=>by
  subst e1;let⟨c,rfl⟩:=(show ∃t,v=Value.int i t from r1);exact formatField_int_small hz ⟨hq,a (out++((toString i):Str)) aa _ j H1 Q (I1.tok _) q1⟩))
def zW(pe:aW)(p:Str->aW):Str->aW:=λout j Q=>pe j λt=>wI (some t) λi=>i.natAbs.log2<1920/\(out++((toString i):Str)).length<=1000000/\p (out++((toString i):Str)) j Q
theorem XI{K:ao}{k:Md}{d:TE}{pe:aW}{t:Str->TE}{p:Str->aW}(he:bu K k d pe)(h:kW K k t p):kW K k (Cg d t) (zW pe p):=λout F B H j y Q u c A q=>by
 refine he F B H j y _ _ c A λt v f o D p1 a=>?_
 ∎;let⟨i,e,p2⟩:=ux p1;let⟨x,z,p3⟩:=p2;∎;have e:=Option.some.inj e;subst e;exact⟨i,a.r.1,x,qr z,h _ f B o j y Q u (c.gr a.g) p3 λt v l s w C b=>q t v l s w C ⟨a.g.trans' b.g,b.r,b.c,λp m=>a.g.h.free (b.n p m)⟩⟩
theorem XJ(he:QE X k e pe)(h:QJ X k es p):QJ X k (.FormattedValue e (-1) none pos::es) (zW pe p):=by
 ∎;let⟨t,c,d⟩:=h.h;let⟨f,a,b⟩:=he.h;∎;exact⟨_,Uw a c,XI b d⟩
def wW(x:Tr)(l h:bt)(Q:ar):Prop:=match x with
 |.aY a=>¬ (HT.bF a.length 0 l=0 /\ HT.bF a.length a.length h=a.length) /\ ∃b:ae,a=b.map Tr.str /\ Q (.aY (dQ a l h))
 |_=>False
def wX(pe:aW)(pl a:jN):aW:=λj Q=>pe j λx=>pl j λl=>a j λh=>wW x l h Q
theorem Ux{K:ao}{F:Hp}{B:Bool->Hp}:∀{ns:ae}{vs:ax}{c:Cs},Rs K F B (ns.map Tr.str) vs c->vs=ns.map V.str/\c=[]:=λh=>tY h
theorem Uy{K:ao}{k:Md}{n:TE}{pe:aW}{o th:TO}{pl i:jN}(h:bu K k n pe)(M:l9 K k o pl)(L:l9 K k th i):bu K k (Ac (CS K) n o th) (wX pe pl i):=λF B H j y Q Y c p q=>by
 refine h F B H j y _ _ c p λx v u A c1 p1 d=>?_
 refine M u B A j y _ _ (c.gr d.g) p1 λl w C p2 f=>?_
 refine L w B C j y _ _ ((c.gr d.g).gr f) p2 λh O U p3 E=>?_
 have b:=f.trans' E;unfold wW at p3;split at p3
 .obtain⟨hw,ss,rfl,p3⟩:=p3;have r3:=d.r.mo b.le (λk=>Le.refl (B k));∎;let⟨a,vs,rfl,I,J⟩:=r3.cQ b.s;let⟨rfl,_⟩:=Ux J;∎;refine⟨a,_,rfl,I,by simpa using hw,λp N=>?_⟩;have e:kR (ss.map V.str) l h=((ss.drop (HT.bF ss.length 0 l)).take (HT.bF ss.length ss.length h - HT.bF ss.length 0 l)).map V.str:=by
   unfold kR;simp
  have D:dQ (ss.map Tr.str) l h=((ss.drop (HT.bF ss.length 0 l)).take (HT.bF ss.length ss.length h - HT.bF ss.length 0 l)).map Tr.str:=by
   unfold dQ;simp
  rw[e];rw[D] at p3;let⟨z,G,r4,c4⟩:=yq (K:=K) (B:=B) b.s (qh _) .nil N;exact q _ _ z _ [] p3 ⟨(d.g.trans' b).trans' G,r4,.nil,λ_ m=>nomatch m⟩
 .exact p3.elim
theorem XX{X:Cx}{k:Md}{e:Expr}{pe:aW}{l h:Option Expr}{pl a:jN}{p2 pos:Pos}(he:QE X k e pe)(m:QO X k l pl)(j:QO X k h a):QE X k (.Subscript e (.Slice l h none p2) pos) (wX pe pl a):=by
 ∎;let⟨n,g,i⟩:=he.h;let⟨o,d,f⟩:=m.h;let⟨p,b,c⟩:=j.h;∎;exact⟨_,EO WA g d b,Uy i f c⟩
theorem N2:Cf xs pe u Q=pe u λt=>f9 t λy=>∃j:Nat,xs[j]?=some y/\(∀m,m<j->xs[m]?≠some y)/\Q (.int (j:Int)):=rfl
theorem SN(pe:aW)(p:Str->aW)(out:Str)(j:ai)(Q:ar):zW pe p out j Q=pe j λt=>wI (some t) λi=>i.natAbs.log2<1920/\(out++((toString i):Str)).length<=1000000/\p (out++((toString i):Str)) j Q:=rfl
theorem P7:wX pe pl ph j Q=pe j λx=>pl j λl=>ph j λh=>wW x l h Q:=rfl
end Pu
namespace L2
open PySem PySem.Spec PyProof.Rows
inductive fO (X:Cx):List ExceptHandler->(Ends->St->XK)->Prop
 |nil:fO X [] (λ_ _ _ _ _=>False)
 |cons {x:Str} {np hpos:Pos} {b₀:Stmt} {suite:List Stmt} {C:Addr} {th:TS} {hs:List ExceptHandler} {R:Ends -> St -> XK} (hg:Gl X x) (hm:X.mg x=some (.ref C)) (hh:∀v:Value,eW (X.a8 v) (b₀::suite) th) (hdb:cD x) (r:fO X hs R) :
   fO X (.ExceptHandler (some (.Name x np)) none (b₀::suite) hpos::hs) (λD j cls o H=>(W.exmOne X.K cls (.ref C)=some true/\th D j H)\/(W.exmOne X.K cls (.ref C)=some false/\R D j cls o H))
 |as {x n:Str} {np hpos:Pos} {b₀:Stmt} {suite:List Stmt} {C:Addr} {i:Nat} {th:TS} {hs:List ExceptHandler} {R:Ends -> St -> XK} (hg:Gl X x) (hm:X.mg x=some (.ref C)) (hN:X.N.Nodup) (hi:X.N[i]? = some n) (hn:X.env.scope.names.lookup n=some .local) (hh:∀v:Value,eW (X.a8 v) (b₀::suite) th) (hdb:cD x) (r:fO X hs R) :
   fO X (.ExceptHandler (some (.Name x np)) (some n) (b₀::suite) hpos::hs) (λD j cls o H=>(W.exmOne X.K cls (.ref C)=some true/\∃B,cls=.ref B/\∀y,H y=none->th (D.less i) (j.set i (some (.ref y))) (a6 H y (i5 y B)))\/(W.exmOne X.K cls (.ref C)=some false/\R D j cls o H))
section
theorem XM{R:Ends->St->XK}(hh:fO X hs R)(Y:X.Ok){H1 f:Hp}{s1 s2:aj}(J1:aw X aa j' H1 s1)(U:∀(H:Hp)(h:aP),Un (dU X.stack) [] H1 H s1.heap h->cL X.prog X.w H h->aw X aa j' H { s2 with heap:=h })(on:∀h2:Heap,base.StaysIn h2->h5.UpToSlots h2->Un (dU X.stack) [] H1 f s1.heap h2/\cL X.prog X.w f h2)(n1:s1.heap.get? y=none)(n2:f y=none)(k:Heap.FlyingW base l y cls a0 h5)(u5:h5.UpToSlots h5)(θ:Cn y h5):
  R D j' cls none f->wpAny (model X.prog X.w) X.A (handleBy (.ref y) X.env hs) (SP X aa D) X.xe { s2 with heap:=h5 }:=by
 have o5:=on h5 k.1 u5;have J5:=U f h5 o5.1 o5.2;let⟨ob,s,E⟩:=k.there
 induction hh with
 |nil=>exact λh=>h.elim
 |@cons x np G γ β C th hs R hg hm hh O r ih=>
  intro h;refine wpAny_handleBy_cons (codeAny_handlers_test ?_) (by intro q;cases q);refine k4 (X:=X.a8 (.ref y)) (J5.a8 (.ref y)) hg hm ?_ O;rcases h with⟨a,Q⟩ |⟨a,hR⟩
  .subst E;refine (W.exm_one (M:=model X.prog X.w) J5.cy ((W.Looks.ld s).andThen .now) a).here ?_;refine codeAny_handlers_suite (lands_againW k λN p α=>?_);have d:=on N p.1 α;have J6:=(U f N d.1 d.2).a8 (.ref y);exact wpAny_mono (hh (.ref y) aa _ j' f D J6 Q) (λfl s7 q=>q.imp λj H J=>aw.eR Y J) λ_ _ z=>z.elim
  .subst E;refine (W.exm_one (M:=model X.prog X.w) J5.cy ((W.Looks.ld s).andThen .now) a).here ?_;exact ih hR
 |@as x n np G γ β C i th hs R hg hm hN hi hn hh O r ih=>
  intro h;refine wpAny_handleBy_cons (codeAny_handlers_test ?_) (by intro q;cases q);refine k4 (X:=X.a8 (.ref y)) (J5.a8 (.ref y)) hg hm ?_ O;rcases h with⟨a,B,rfl,Q⟩ |⟨a,hR⟩
  .refine (W.exm_one (M:=model X.prog X.w) J5.cy (show W.Looks _ h5 (typeOf (.ref y)) (.ref B) from dZ.ty ⟨ob,s,E⟩) a).here ?_;refine codeAny_handlers_suite_as (WS k θ λN p α ι=>?_);have d:=on N p.1 α;let⟨ξ,ε,ζ⟩:=p.there;have ne:∀b o,f b=some o->b≠y:=λb o q z=>by rw[z,n2] at q;cases q
   have π:Un (dU X.stack) [] H1 (a6 f y (i5 y B)) s1.heap N:=
    ⟨d.1.keep,d.1.slot,λb o e q hx=>by rw[bR (λz=>by rw[z,n1] at e;cases e)];exact d.1.free b o e q hx,d.1.there,λb xs q=>by rw[bR (ne b _ (d.1.d6 b xs q))];exact d.1.d6 b xs q,
     λb o u q=>by rw[bR (ne b _ (d.1.bP b o u q))];exact d.1.bP b o u q,λb ps q=>by
      let⟨η,z⟩:=d.1.eC b ps q;exact⟨η,by rw[bR (ne b _ z)];exact z⟩⟩
   have ο:cL X.prog X.w (a6 f y (i5 y B)) N:=λb o q=>by
    by_cases z:b=y
    .subst z;rw[e7] at q;cases q;exact WU ⟨ξ,ε,ζ⟩ ι
    .rw[bR z] at q;exact (d.2 b o q).eB (λ_ _ _ e=>e) (λc e=>by rw[bR (ne c _ e)];exact e) λc xs e=>by rw[bR (ne c _ e)];exact e
   have J6:=U _ N π ο;refine p9 (X:=X.a8 (.ref y)) (v:=.ref y) (J6.a8 (.ref y)) hN hi (.inl hn) rfl (λs7 J7=>?_) (.inr hn);refine wpAny_mono (hh (.ref y) aa s7 _ _ _ J7 (Q y n2)) (λfl s8 q=>?_) λ_ _ z=>z.elim
   have go:∀{j8:St}{I:Hp}{R:Unit->aj->Prop},aw (X.a8 (.ref y)) aa j8 I s8->(∀s9,aw X aa (j8.set i none) I s9->R () s9)->wpAny (model X.prog X.w) X.A (do bindName X.env n .none;unbindBehindTheSuite X.env n G) R X.xe s8:=by
    intro j8 I R g hR;have J:=aw.eR Y g;let⟨m,δ,κ⟩:=J.loc;exact wpAny_nameGoes_keeps hn δ (by rw[Y.kind];rfl) λh9 v μ ν=>hR _ (J.gone hN hi δ κ μ ν)
   match fl,q with
   |.next,⟨j8,I,g,q⟩=>exact go g λs9 L=>⟨_,_,L,q⟩
   |.brk,⟨j8,I,g,q⟩=>exact go g λs9 L=>⟨_,_,L,q⟩
   |.cont,⟨j8,I,g,q⟩=>exact go g λs9 L=>⟨_,_,L,q⟩
   |.ret u,⟨v,j8,I,g,rv,q⟩=>exact go g λs9 L=>⟨v,_,_,L,rv,q⟩
  .subst E;refine (W.exm_one (M:=model X.prog X.w) J5.cy ((W.Looks.ld s).andThen .now) a).here ?_;exact ih hR
def Ci(R:Ends->St->XK)(tb:(St->XK)->TS):TS:=λD j H=>tb (R D) D j H
theorem Uz{R:Ends->St->XK}{tb:(St->XK)->TS}(hs:X.stack=X.env::X.outer)(Q:X.env.frame=some X.env.locals)(hh:fO X (h₀::hl) R)(c:∀(pn:aT)(xe:ag->aj->Prop)(R:St->XK),(∀j,gA (b4 X.prog X.w) (X.cJ pn xe) j (R j))->eW (X.cJ pn xe) body (tb R)):PS X (.Try body (h₀::hl) [] [] pos) (Ci R tb):=by
 intro aa s j H D I h;refine wpAny_Try_except ?_;have m:∀l,gA (b4 X.prog X.w) (X.cJ (X.pn++aa) λe n=>wpAny (model X.prog X.w) X.A (noteFrame e X.env) (λ_ p=>wpAny (model X.prog X.w) X.A (setFlight e none)
   (λ_ r=>wpAny (model X.prog X.w) X.A (handleBy e X.env (h₀::hl)) (SP X aa D) X.xe r) X.xe p) X.xe n) l (R D l):=by
  intro l α H1 x e i I1 hc;let⟨y,E,B,rfl,os,bare,un,aV,d,hR⟩:=hc;have C:aw X aa l H1 x:=aw.hJ I.ok I1;have J2:aw X aa l B i:=C.fX (ch:=[]) os un aV bare (λb z=>absurd z (by simp));let⟨T,a0,O,hT,Y⟩:=d.ja;have U:∀env∈X.env::X.outer,∀a,env.frame=some a->a∈y::T::dU X.stack:=λenv he a Q=>.tail _ (.tail _ (by rw[hs];exact yn env he a Q))
  have M:Heap.FlyingW (W.hideAll i.heap (y::T::dU X.stack)) (X.env::X.outer) y E a0 i.heap:=
   ⟨λb o q=>W.of_hideAll _ q,W.hideAll_none _ (.head _),W.funFrames_hide (hs ▸ J2.stack) U,Y _ (.tail _ (.head _))⟩
  have on:∀f:Heap,(W.hideAll i.heap (y::T::dU X.stack)).StaysIn f->i.heap.UpToSlots f->Un (dU X.stack) [] H1 B x.heap f/\cL X.prog X.w B f:=λf k sm=>by
   let⟨u,ok,_⟩:=GZ (fs:=dU X.stack) (fr:=dU X.stack) (bad:=[y,T]) un aV (λb c=>by
    rcases mem_cons.mp c with z |c
    .exact .inl (by rw[z];exact .head _)
    .rcases mem_cons.mp c with z |c
     .exact .inl (by rw[z];exact .tail _ (.head _))
     .exact .inr c) (λb c=>by
    rcases mem_cons.mp c with z |c
    .rw[z];exact⟨d.1,d.2.1⟩
    .have z:b=T:=by simpa using c
     rw[z];exact⟨O,hT⟩) (λb c=>⟨.inl c,(J2.DV b c).2⟩) (λ_ c=>c) k sm
   exact⟨u,ok⟩
  refine Py (by rw[I.ok.frames,hs]) Q M d.cn λh4 g β G=>?_
  refine WR g G λh5 N γ L=>?_
  exact XM hh I.ok C (λH h u ok=>C.fX (s':={ i with heap:=h }) (ch:=[]) os u ok bare (λb z=>absurd z (by simp))) (λf k sm=>on f k ((β.trans γ).trans sm)) d.1 d.2.1 N (Heap.UpToSlots.refl _) L hR
 refine wpAny_mono (c _ _ _ m [] s j H D (I.qS _) h) (λfl x q=>?_) λ_ _ z=>z
 have v:SP X aa D fl x:=q.imp λj H J=>aw.hJ I.ok J
 cases fl with
 |next=>exact wpAny_execs_nil v
 |brk=>exact v
 |cont=>exact v
 |ret u=>exact v
end
end L2
namespace Pu
open PySem L2 Vc Sf
def CH(K:ao)(C:ah)(a:ag):Prop:=W.exmOne K a (.ref C)=some false
abbrev kE:=Pd->ai->ag->Prop
def PX:kE:=λ_ _ _=>False
def G7(K:ao)(C:ah)(i:Nat)(c:cc)(b:kE):kE:=λD j a=>(De K C a/\∃B,a=.ref B/\c (D.less i) (j.set i (.exc B)))\/(CH K C a/\b D j a)
def Cj(K:ao)(k:Md)(lo:Nat)(R:Ends->St->XK)(h:kE):Prop:=∀(us:ax)(c e F H:Hp)(j:St)(y:ai)(g:Nat->Cs)(D:Ends)(b:Pd),a7 K k lo us c e F H j y g->Lk K k lo us c e D b->∀a f d,h b y a->Gr F H f d->R D j a none d
structure rr(X:Cx)(k:Md)(lo:Nat)(hs:List ExceptHandler)(pc:kE):Prop where
 h:∃R,fO X hs R/\Cj X.K k lo R pc
def wb(c:kE)(b:aW->cc)(pe:(ag->Prop)->aW):cc:=λD j=>b (pe λa=>c D j a) D j
section
variable{X:Cx}{k:Md}{lo:Nat}{st b₀:Stmt}{suite:List Stmt}{x n:Str}{np hpos pos:Pos}{C:ah}{e:Expr}{tS:TE->TS}{pS:aW->cc}{pe:(ag->Prop)->aW}{ph:cc}{i:Nat}{pc:kE}{hl:List ExceptHandler}{h₀:ExceptHandler}
theorem UA:rr X k lo [] PX:=⟨_,.nil,λ_ _ _ _ _ _ _ _ _ _ _ _ _ _ _ h _=>h⟩
theorem G9(Y:Gl X x)(hm:X.mg x=some (.ref C))(U:X.N.Nodup)(a:lo<=i)(hi:X.N[i]?=some n)(hn:X.env.scope.names.lookup n=some .local)(hh:∀v:Value,QB (X.a8 v) k.gM lo (b₀::suite) ph)(r:rr X k lo hl pc)(d: ~~~(cD x)):rr X k lo (.ExceptHandler (some (.Name x np)) (some n) (b₀::suite) hpos::hl) (G7 X.K C i ph pc):=by
 let⟨R,O,Q⟩:=r.h;refine⟨_,.as (th:=wB X.K k.gM lo ph) Y hm U hi hn (λv=>(hh v).of) d O,λus f l F H j u I D q W L b w E p g=>?_⟩;rcases p with⟨p1,B,rfl,p2⟩ |⟨p1,p2⟩
 .refine .inl ⟨p1,B,rfl,λy hy=>?_⟩;let⟨A,M,J⟩:=xb (o:=i5 y B) g.s (by intro _ _ z;cases z) hy;have G:=((W.gr g).gr M).set a (t:=.exc B) (v:=.ref y) (c:=[]) ⟨rfl,y,rfl,.inl J⟩ .nil .nil λ_ _ _ _ _ m=>nomatch m
  exact Um us f l A _ _ _ _ _ _ (G.md id λ_ _ _ _ h=>h.elim) p2 ((L.less a).md id W.x)
 .exact .inr ⟨p1,Q us f l F H j u I D q W L b w E p2 g⟩
theorem RC{R:Ends->St->XK}(r:vc X.K k lo tS pS)(u:Cj X.K k lo R pc):cK X.K k lo (Ci R (λR'=>tS (Ad X.K k.z pe R'))) (wb pc pS pe):=λus f a F H j y h D d W p L=>
 r us f a F H j y h D d _ _ W L (λQ o w q=>⟨_,F,Bq a H,_,o,⟨W.eA.s,W.eA.b,W.eA.z,W.eA.e,λc l m v g=>u us f a F H j y h D d W L c l m v g⟩,w,q⟩) p
theorem WW(hs:X.stack=X.env::X.outer)(g:X.env.frame=some X.env.locals)(d:vc X.K k lo tS pS)(f:∀pn xe a,PE (X.cJ pn xe) e a->PS (X.cJ pn xe) st (tS a))(he:∀(pn:aT)(xe:ag->aj->Prop)(R':St->XK),(∀j,gA (b4 X.prog X.w) (X.cJ pn xe) j (R' j))->∀q,QE (X.cJ pn xe) ⟨k.z,R',q⟩ e (pe q))(l:rr X k lo (h₀::hl) pc):
  QS X k lo (.Try [st] (h₀::hl) [] [] pos) (wb pc pS pe):=by
 let⟨R,b,c⟩:=l.h;exact⟨_,Uz (tb:=λR'=>tS (Ad X.K k.z pe R')) hs g b (λpn xe R' m=>ye (f pn xe _ (XR (he pn xe R' m)))),RC d c⟩
end
theorem N3:wb pc pS pe D j=(pS (pe λa=>pc D j a) D j):=rfl
theorem SO(K:ao)(C:ah)(i:Nat)(c:cc)(b:kE)(D:Pd)(j:ai)(a:ag):G7 K C i c b D j a=((De K C a/\∃B,a=.ref B/\c (D.less i) (j.set i (.exc B)))\/(CH K C a/\b D j a)):=rfl
def BS:V->ax->Hp->VK->Prop:=λx vs H Q=>∃l a j y,x=.ref l/\vs=[.int j,y]/\H l=some (.ak a)/\0<=j/\j<=a.length+1/\a.length<sizeLine/\Q .aX (a6 H l (.ak (a.take j.toNat++y::a.drop j.toNat)))
theorem En:∀{xs:ax}{us:aJ},aF xs us->∀n,aF (xs.take n) (us.take n)
 |_,_,.nil,n=>by rw[take_nil,take_nil];exact .nil
 |_,_,.cons a b,0=>.nil
 |_,_,.cons a b,n + 1=>.cons a (En b n)
theorem Eo:∀{xs:ax}{us:aJ},aF xs us->∀n,aF (xs.drop n) (us.drop n)
 |_,_,.nil,n=>by rw[List.drop_nil,List.drop_nil];exact .nil
 |_,_,.cons a b,0=>.cons a b
 |_,_,.cons a b,n + 1=>Eo b n
theorem P8:u9 X "list.insert" BS:=by
 intro aa s i H x vs v us Q I E D h;let⟨l,c,j,y,rfl,rfl,g,M,N,A,q⟩:=h;cases E;cases D with
 |cons d f=>
 rename_i G J;∎;let⟨u,rfl,C⟩:=aF.one f;let⟨tk,rfl⟩:=(show ∃t,G=Value.int j t from d);let⟨z,a,n,r,L,e⟩:=I.qX g;∎;have k:c.length=a.length:=r.length;have B:c.length<2 ^ 24:=A;have b:Builtin.List.listFitsIndex j=true:=by
  unfold Builtin.List.listFitsIndex;rw[and_eq_true,decide_eq_true_eq,decide_eq_true_eq];omega
 refine call_meets PySem.F.slot_list_insert ⟨_,e,rfl⟩ PySem.F.entry_list_insert (PySem.F.args_list_insert_3 _ _ _) (PySem.AutoSeq1.list_insert_list_int_val_1 l a.toArray n j tk u (by simp[b]) (by rw[size_toArray];omega)) ⟨e,?_⟩;refine⟨.aX,_,I.qW (its':=a.take j.toNat++u::a.drop j.toNat) g e ?_ ?_ ?_,rfl,q⟩
 .have ek:(if j<0 then (j+(a.toArray.size:Int)).toNat else min j.toNat a.toArray.size)=min j.toNat a.length:=by
   rw[if_neg ⋯,size_toArray]
  have p:a.take (min j.toNat a.length)=a.take j.toNat:=by
   rcases Nat.le_total j.toNat a.length with h |h
   .rw[min_eq_left h]
   .rw[Nat.min_eq_right h,take_of_length_le (le_refl _),take_of_length_le h]
  have o:a.drop (min j.toNat a.length)=a.drop j.toNat:=by
   rcases Nat.le_total j.toNat a.length with h |h
   .rw[min_eq_left h]
   .rw[Nat.min_eq_right h,drop_of_length_le (le_refl _),drop_of_length_le h]
  show (a.toArray.extract 0 (if j<0 then (j+(a.toArray.size:Int)).toNat else min j.toNat a.toArray.size)).push u++a.toArray.extract (if j<0 then (j+(a.toArray.size:Int)).toNat else min j.toNat a.toArray.size)=_;rw[ek,<- p,<- o];generalize min j.toNat a.length=m;simp;rw[take_of_length_le (by rw[length_drop];omega)]
 .have h1:aF (c.take j.toNat) (a.take j.toNat):=En r _;have w:aF (c.drop j.toNat) (a.drop j.toNat):=Eo r _;exact h1.append (.cons C w)
 .rw[length_append,length_cons,length_take,length_drop];show _<=2 ^ 24;omega
def wY(K:ao)(i:Nat)(r:ae)(b pe:aW):cc:=λD G=>hV K G i r λu s=>jW u λa=>b (G.map aM) λy=>wI (some y) λj=>pe (G.map aM) λt=>b8 t=true/\0<=j/\j<=a.length+1/\a.length<1000000/\D.nx (s (.ak .o (a.take j.toNat++aU t::a.drop j.toNat)))
section
theorem Rs.parts:∀(n:Nat){xs:ai}{vs:ax}{a:Cs},Rs K F B xs vs a->∃b e,a=b++e/\Rs K F B (xs.take n) (vs.take n) b/\Rs K F B (xs.drop n) (vs.drop n) e
 |0,xs,vs,a,h=>⟨[],a,rfl,⟨rfl,rfl⟩,h⟩
 |n + 1,[],vs,a,h=>by
  let⟨rfl,rfl⟩:=h;exact⟨[],[],rfl,⟨rfl,rfl⟩,⟨rfl,rfl⟩⟩
 |n + 1,x::xs,vs,a,h=>by
  ∎;let⟨v,r,c,d,rfl,rfl,i,j⟩:=h;let⟨b,e,rfl,f,g⟩:=Rs.parts n j;∎;exact⟨c++b,e,by rw[append_assoc],⟨v,_,c,b,rfl,rfl,i,f⟩,g⟩
theorem UB(hj:bu K k tj pj)(h:bu K k te pe):cK K k lo (sv (uX K "list" BS (tR K i r) (ib tj (ib te ic)))) (wY K i r pj pe):=λus Fb e F H G J cs D D' W p L=>by
 ∎;let⟨t,e1,e2,e3,p⟩:=qq p;let⟨d,eg,p⟩:=xG p;let⟨w,c,r1,sub,hc,rd,cl⟩:=W.at e1 e2 r e3;∎;rw[eg] at r1;let⟨a,vs,b,rfl,N,O⟩:=r1;have ha:H a=some (.ak vs):=hc.h (a,.ak vs) (by rw[N];exact .head _);refine rd _ ⟨F3 ha,hj F (Bq e H) H G _ _ _ W.eA p λy v1 U H1 c1 C l=>?_⟩;let⟨j,ej,C⟩:=ux C;cases ej;refine h U (Bq e H) H1 G _ _ _ (W.eA.gr l.g) C λu v Y x c2 q s=>?_
 have o:Out K F (Bq e H) H Y x u v c2:=⟨l.g.trans' s.g,s.r,s.c,λp m=>l.g.h.free (s.n p m)⟩
 let⟨f,W3,r3,Q⟩:=W.fE o q.1;have B:x a=some (.ak vs):=o.g.h _ _ ha;have M:=O.length;have rs:=O.mo Q (λ_=>Le.refl _) d;let⟨d1,A,ed,E,I⟩:=Rs.parts j.toNat rs;have rn:Rs K f (λ_=>e) (d.take j.toNat++aU u::d.drop j.toNat) (vs.take j.toNat++v::vs.drop j.toNat) (b++[]):=by
  rw[show b++[]=d1++([]++A) by rw[ed];simp];exact E.append (show Rs K f (λ_=>e) (aU u::d.drop j.toNat) (v::vs.drop j.toNat) ([]++A) from ⟨v,_,[],A,rfl,rfl,r3,I⟩)
 let⟨z,W4⟩:=cl f x W3 Q a (.ak vs) (.ak (vs.take j.toNat++v::vs.drop j.toNat)) b b [] (.ak .o (d.take j.toNat++aU u::d.drop j.toNat)) ((a,.ak (vs.take j.toNat++v::vs.drop j.toNat))::(b++[])) N (List.Sublist.refl _) .nil tT tq (List.Perm.refl _) ⟨a,_,b++[],rfl,rfl,rn⟩;exact⟨a,vs,j,v,rfl,by rw[l.r.1],B,q.2.1,by rw[M];exact q.2.2.1,lt_of_lt_of_le (by rw[M];exact q.2.2.2.1) ∎,L.nx f _ G _ z W4 q.2.2.2.2⟩
end
section
theorem XY(p:PE X o (tR X.K i r))(n:QE X k j pj)(h:QE X k e pe)(d:do attributeBase o "insert" X.env (eval o X.env)=eval o X.env)(f:do (((backTo bB (starEach [j,e] X.env)).all (!·.1)&&(backToKw bB (keywordEach [] X.env)).all (·.1.isSome))&&decide (([j,e].length+([]:List Keyword).length+if ([]:List Keyword).isEmpty=true then 0 else 1)<30))=true)(g:do (apos.endLine == bB.line)=true)(a:do dN j [e] X.env)(l:do dN e [] X.env)(m:do eX bB [e] X.env)(hs:do swapsWith (.Call (.Attribute o "insert" apos) [j,e] [] bB) none spos.line X.env=pure false):
  QS X k lo (.Expr (.Call (.Attribute o "insert" apos) [j,e] [] bB) spos) (wY X.K i r pj pe):=by
 ∎;let⟨v,q,s⟩:=n.h;let⟨u,b,c⟩:=h.h;∎;exact⟨_,yf (zk PySem.F.plainAttrs_list PySem.F.slot_list_insert PySem.F.type_list_insert P8 p (iD q (iD b iS l) a) d f g a m) hs,UB s c⟩
end
theorem P9(K:ao)(i:Nat)(r:ae)(a pe:aW)(D:Pd)(G:ai):wY K i r a pe D G=(hV K G i r λu s=>jW u λxs=>a (G.map aM) λy=>wI (some y) λj=>pe (G.map aM) λt=>b8 t=true/\0<=j/\j<=xs.length+1/\xs.length<1000000/\D.nx (s (.ak .o (xs.take j.toNat++aU t::xs.drop j.toNat)))):=rfl
end Pu
namespace Pu
open PySem PySem.Spec PyProof.Rows
section
variable{p:aJ->Prop}
theorem NL(h:p []):∀us:aJ,us.length=0->p us:=λus e=>by
 cases us with
 |nil=>exact h
 |cons=>cases e
theorem qV{p:aJ->Prop}{k:Nat}(h:∀a (us:aJ),us.length=k->p (a::us)):∀us:aJ,us.length=k+1->p us:=λus e=>by
 cases us with
 |nil=>cases e
 |cons a us=>exact h a us (Nat.succ.inj e)
theorem FG(h:∀a,p [a]):∀us:aJ,us.length=[x1].length->p us:=qV λa=>NL (h a)
theorem ln2(h:∀a b,p [a,b]):∀us:aJ,us.length=[x1,x2].length->p us:=qV λa=>FG (x1:=x2) (p:=λl=>p (a::l)) (h a)
theorem FH(h:∀a b c,p [a,b,c]):∀us:aJ,us.length=[x1,x2,x3].length->p us:=qV λa=>ln2 (x1:=x2) (x2:=x3) (p:=λl=>p (a::l)) (h a)
theorem NM(h:∀a b c d,p [a,b,c,d]):∀us:aJ,us.length=[x1,x2,x3,x4].length->p us:=qV λa=>FH (x1:=x2) (x2:=x3) (x3:=x4) (p:=λl=>p (a::l)) (h a)
theorem NO(h:∀a b c d e,p [a,b,c,d,e]):∀us:aJ,us.length=[x1,x2,x3,x4,x5].length->p us:=qV λa=>NM (x1:=x2) (x2:=x3) (x3:=x4) (x4:=x5) (p:=λl=>p (a::l)) (h a)
end
end Pu
namespace Pu
open PySem L2 Vc Sf
section
def sk(a:Str)(t:Tr)(Q:ar):Prop:=∃(f:Fl)(b:ae),t=.ak f ↥b/\(b.map (·.length)).sum+b.length*a.length<=16777216/\Q (.str (Txt.join a b))
def wc(po pe:aW):aW:=λj Q=>po j λx=>f9 x λa=>pe j λt=>sk a t Q
theorem RD(C:bu K k to po)(he:bu K k te pe):bu K k (uX K "str" (Ca K) to (ib te ic)) (wc po pe):=λF B H j i Q G c p q=>by
 refine C F B H j i _ _ c p λx v m o I p1 e=>?_
 ∎;let⟨l,rfl,p1⟩:=jA p1;let⟨rfl,_⟩:=e.r;∎;refine⟨rfl,he m B o j i _ _ (c.gr e.g) p1 λy u n w J p2 d=>?_⟩;∎;let⟨f,E,rfl,D,p2⟩:=p2;let⟨a,vs,L,rfl,z,A,M,N⟩:=d.r.cj d.g.s (λk=>((c.b k).trans e.g.h).trans d.g.h) d.c;let⟨rfl,_⟩:=tY A;∎;exact⟨l,a,E,rfl,rfl,z,D,q _ _ n w [] p2 ⟨e.g.trans' d.g,⟨rfl,rfl⟩,.nil,.nil⟩⟩
theorem Ha(i:QE X k o po)(h:QE X k e pe)(d:do attributeBase o "join" X.env (eval o X.env)=eval o X.env)(f:do (((backTo bB (starEach [e] X.env)).all (!·.1)&&(backToKw bB (keywordEach [] X.env)).all (·.1.isSome))&&decide (([e].length+([]:List Keyword).length+if ([]:List Keyword).isEmpty=true then 0 else 1)<30))=true)(g:do (apos.endLine == bB.line)=true)(a:do dN e [] X.env):
  QE X k (.Call (.Attribute o "join" apos) [e] [] bB) (wc po pe):=by
 ∎;let⟨n,j,l⟩:=i.h;let⟨m,b,c⟩:=h.h;∎;exact⟨_,zk PySem.F.plainAttrs_str PySem.F.slot_str_join PySem.F.type_str_join Tu j (iD b iS a) d f g a rfl,RD l c⟩
end
section
theorem eI:∀(ns:List Nat),Rs K F B (ns.map λi:Nat=>Tr.int (i:Int)) (ns.map λi:Nat=>V.int (i:Int)) []
 |[]=>⟨rfl,rfl⟩
 |n::ns=>⟨.int n,_,[],[],rfl,rfl,⟨rfl,rfl⟩,eI ns⟩
end
theorem N4:wc po pe j Q=(po j λx=>f9 x λa=>pe j λt=>sk a t Q):=rfl
section
variable{K:ao}{mg:bA}{h:aP}{x qual:Str}{st:Stmt}{ps:ae}{f c:ah}
set_option genInjectivity false in
set_option genSizeOf false in
structure cV(K:ao)(mg:bA)(x:Str)(st:Stmt)(ps:ae) where
 a:Addr
 d:FuncData
 F:gx K x x st a d
 b:Binds K d ps []
 m:mg x=some (.ref a)
set_option genInjectivity false in
set_option genSizeOf false in
structure dJ(K:ao)(c:ah)(x qual:Str)(st:Stmt)(ps:ae) where
 a:Addr
 d:FuncData
 F:gx K x qual st a d
 b:Binds K d ps []
 t:jX K c x a
set_option genInjectivity false in
set_option genSizeOf false in
structure jc(K:ao)(c:ah)(qual:Str)(st:Stmt)(ps:ae) where
 a:Addr
 d:FuncData
 F:gx K "__init__" qual st a d
 b:Binds K d ps []
 t:Mk K c a
abbrev u4(x qual:Str)(st:Stmt)(ps:ae):Prop:=∀(kV doc pm:ag)(an:fw)(aR ct:ag)(us:aJ),us.length=ps.length->bindArgs (W.fnOf x qual (nk st) (iu st) (bh st) .none kV doc pm an aR ct) ⟨us,[]⟩=pure (ps.zip us)
noncomputable def K4(X:K.In h)(G:h.Ns mainGlobals mg)(e:W.nsIn K mainGlobals x=some (some (.ref f)))(F:hW K x x st f)(a:u4 x x st ps):cV K mg x st ps:=⟨f,F.choose,F.choose_spec,F.choose_spec.binds a,W.mg_of X G e⟩
noncomputable def K6(e:W.findIn K (.ref c) x=some (some (.ref f)))(F:hW K x qual st f)(i:W.isFn K (.ref f)=true)(a:u4 x qual st ps):dJ K c x qual st ps:=⟨f,F.choose,F.choose_spec,F.choose_spec.binds a,⟨e,i,F.kp⟩⟩
noncomputable def K5(e:W.findIn K (.ref c) "__init__"=some (some (.ref f)))(F:hW K "__init__" qual st f)(i:W.isFn K (.ref f)=true)(m:W.makesIn K c=true)(k:W.keepIn K (.ref c)=true)(a:u4 "__init__" qual st ps):jc K c qual st ps:=⟨f,F.choose,F.choose_spec,F.choose_spec.binds a,⟨m,e,i,k⟩⟩
abbrev rC(K:ao)(c:ah)(vs:ax):Prop:=∃(o:Obj)(a:cO)(n:Nat),K.lookup c=some o/\o.cls=.type "tuple"/\o.data=.seq a n/\a.size<=sizeLine/\aF vs a.toList
theorem zq(e:W.findIn K (.ref c) x=some none):aD K c x:=e
end
end Pu
namespace Pu
theorem SQ(f:j->y)(a:j)(l:List j):List.map f (a::l)=f a::List.map f l:=rfl
theorem SR(f:j->y):List.map f []=[]:=rfl
open PySem L2 in
theorem WX(CX:fj)(P:Program)(w:World)(K:ao)(mg:bA)(base:aP)(N:ae)(b:Str)(a:Scope)(f:ah)(c:ag)(A:Around)(outer:b5)(s:aj)(H:Hp)(E:XK):(iB CX P w K mg base N b a f c A outer s H E).K=K:=rfl
end Pu
namespace Pu
open PySem L2 Vc Sf
section
variable{st:Stmt}{x:Str}{p pos:Pos}{e:Expr}{es:bS}{pn:ae}{ps:cM}{j m n:Nat}{z:Bool}{C:ah}{qual:Str}
theorem qc{aS:cf}(r:cV X.K X.mg x st pn)(G:aB X.prog X.w X.K X.mg X.base bq j r.a r.d pn (bx X.K z 0 n aS))(ha:QA X k (e::es) ps)(s:bj m X.A:=by assumption)(o:j<=m:=by first |decide |omega)(q:z=true->k.z=true:=by first |exact id |exact λ_=>rfl)(hn:∀xs Q,aS xs Q->xs.length=n:=by exact λ_ _ h=>h.1)(l:do Gl X x)(c: ~~~(cD x))(he:do dN e es X.env)(f:do eX pos es X.env):
  QE X k (.Call (.Name x p) (e::es) [] pos) (iA aS (gU ps)):=by
 let⟨u,g,i⟩:=ha.aU.h;exact⟨_,T5 (E:=E0) (G.mono o) s l r.m r.F.kp r.b .nil uv g c he f,R0 q hn i⟩
theorem uT{aS:dY}(r:cV X.K X.mg x st pn)(G:aB X.prog X.w X.K X.mg X.base (b4 X.prog X.w) j r.a r.d pn (cv X.K z 0 n aS))(ha:QA X k (e::es) ps)(O:∀y,gA (b4 X.prog X.w) X y (k.E y):=by first |assumption |exact du (dG rfl rfl rfl rfl) |exact du WV)(N:bj m X.A:=by assumption)(J:j<=m:=by first |decide |omega)(L:z=true->k.z=true:=by first |exact id |exact λ_=>rfl)(hn:∀xs Q q,aS xs Q q->xs.length=n:=by exact λ_ _ _ h=>h.1)(I:do Gl X x)(i: ~~~(cD x))(he:do dN e es X.env)(l:do eX pos es X.env):
  QE X k (.Call (.Name x p) (e::es) [] pos) (rY k.q aS (gU ps)):=by
 let⟨U,v,D⟩:=ha.aU.h;exact⟨_,Q5 (G.mono J) N I r.m r.F.kp r.b .nil O v i he l,Ei (λF B H y u c f o s M g=>c.x f o s M g) L hn D⟩
theorem Hk{aS:cf}(r:jc X.K C qual st pn)(G:aB X.prog X.w X.K X.mg X.base bq j r.a r.d pn (bx X.K z 1 n aS))(hm:X.mg x=some (.ref C))(ha:QA X k (e::es) ps)(s:bj (m+1) X.A:=by assumption)(o:j<=m:=by first |decide |omega)(q:z=true->k.z=true:=by first |exact id |exact λ_=>rfl)(hn:∀xs Q,aS xs Q->xs.length=n:=by exact λ_ _ h=>h.1)(l:do Gl X x)(c: ~~~(cD x))(he:do dN e es X.env)(f:do eX pos es X.env):
  QE X k (.Call (.Name x p) (e::es) [] pos) (v7 C aS ps):=by
 let⟨u,g,i⟩:=ha.h;exact⟨_,xF (R:=λ_=>E0) r.t (G.mono o) s l hm r.b .nil (zE uv) g c he f,Si q hn i⟩
end
theorem Tb{K:ao}{c:ah}{t:ag}{d:Data}{a:Array (dO)}(e:K.lookup c=some ⟨t,none,d,a⟩):∀o:Obj,K.lookup c=some o->o.dict=none:=λo h=>by
 rw[e] at h;cases h;rfl
section
variable{st:Stmt}{x y:Str}{p pos:Pos}{e:Expr}{es:bS}{pn:ae}{ps:cM}{j m n:Nat}{z:Bool}
theorem yu{K:ao}{c d f:ah}{x g b:Str}{st:Stmt}{ps:ae}{r:dJ K c x b st ps}(e:W.findIn K (.ref d) g=some (some (.ref f)))(i:W.isFn K (.ref f)=true)(k:W.keepIn K (.ref f)=true)(h:r.a=f):jX K d g r.a:=by
 rw[h];exact⟨e,i,k⟩
theorem qN{K:ao}{c d f:ah}{b:Str}{st:Stmt}{ps:ae}{r:jc K c b st ps}(m:W.makesIn K d=true)(e:W.findIn K (.ref d) "__init__"=some (some (.ref f)))(i:W.isFn K (.ref f)=true)(k:W.keepIn K (.ref d)=true)(h:r.a=f):Mk K d r.a:=by
 rw[h];exact⟨m,e,i,k⟩
theorem qM{K:ao}{b:aP}{mg:bA}{f:ah}{x y:Str}{st:Stmt}{ps:ae}{r:cV K mg x st ps}(X:K.In b)(G:b.Ns mainGlobals mg)(e:W.nsIn K mainGlobals y=some (some (.ref f)))(h:r.a=f):mg y=some (.ref r.a):=by
 rw[h];exact W.mg_of X G e
end
theorem Ep:a9 X (.type "str") (λxs H Q=>(∃i,xs=[.int i]/\i.natAbs.log2<1920/\Q (.str (toString i)) H)\/∃x,xs=[.str x]/\Q (.str x) H):=by
 intro aa s j H xs us Q I r h;rcases h with h |⟨x,rfl,q⟩
 .exact xf aa s j H xs us Q I r h
 .obtain⟨u,rfl,t,rfl⟩:=gX r;exact PySem.P.str_of_str ⟨.str _,H,I,⟨_,rfl⟩,q⟩
def sq(a:ai)(Q:ar):Prop:=match a with
 |[.int i]=>i.natAbs.log2 < 1920 /\ Q (.str (toString i))
 |[.str x]=>Q (.str x)
 |_=>False
theorem E9:gy K k (λxs H Q=>(∃i,xs=[.int i]/\i.natAbs.log2<1920/\Q (.str (toString i)) H)\/∃x,xs=[.str x]/\Q (.str x) H) sq:=λF B H xs e c Q a s b z r d p q=>by
 unfold sq at p;split at p
 .obtain⟨v,rfl,rfl,_⟩:=r.one;exact .inl ⟨_,rfl,p.1,q _ _ F H [] p.2 (Gr.aH s) ⟨rfl,rfl⟩ .nil λ_ m=>nomatch m⟩
 .obtain⟨v,rfl,rfl,_⟩:=r.one;exact .inr ⟨_,rfl,q _ _ F H [] p (Gr.aH s) ⟨rfl,rfl⟩ .nil λ_ m=>nomatch m⟩
 .exact p.elim
def z4(a b:Str):ax:=[.str (Txt.partition a b).1,.str (Txt.partition a b).2.1,.str (Txt.partition a b).2.2]
theorem UC:TM X "str.partition" λa b H Q=>(b.length == 0)=false/\a.length<=1000000/\∀p,H p=none->Q (.ref p) (a6 H p (.aY (z4 a b))):=λaa s G H a b t u Q I ⟨f,h1,q⟩=>by
 have d:H ⇑s=none:=I.aV.fresh (le_refl _);have q:=q _ d;have sz:=sizeLine_eq;refine call_meets F.slot_str_partition (typeIs_str s a t) F.entry_str_partition (F.args_str_partition_2 _ _) (meets_str_partition a b t u f (by rw[sz];omega)) ?_;unfold z4 Txt.partition at q;have c:∀(x y z:Str)(i j l k:Nat),Q (.ref ⇑s) (a6 H ⇑s (.aY [.str x,.str y,.str z]))->EP X aa G Q (.ref ⇑s) { s with toks:=k,heap:=s.heap.push { cls:=.type "tuple",data:=.seq [.str x i,.str y j,.str z l].toArray } }:=λx y z i j l k q=>
  ⟨.ref _,_,I.laid (t':=k) (o:=.aY [.str x,.str y,.str z]) (λb g q=>Heap.get?_push_of_some _ q) (le_refl _) ⟨(show (3:Nat)<=sizeLine by rw[sz];decide),[.str x i,.str y j,.str z l],.cons ⟨_,rfl⟩ (.cons ⟨_,rfl⟩ (.cons ⟨_,rfl⟩ .nil)),_,Heap.get?_push_size _ rfl,rfl,_,rfl⟩,rfl,q⟩
 split
 .rename_i e;rw[e] at q;exact c _ _ _ _ _ _ _ q
 .rename_i e;rw[e] at q;exact c _ _ _ _ _ _ _ q
def we(a b:Str)(Q:ar):Prop:=(b.length == 0)=false/\a.length<=1000000/\Q (.aY [.str (Txt.partition a b).1,.str (Txt.partition a b).2.1,.str (Txt.partition a b).2.2])
theorem RE:rq K (λa b H Q=>(b.length == 0)=false/\a.length<=1000000/\∀p,H p=none->Q (.ref p) (a6 H p (.aY (z4 a b)))) we:=λF B H a b Q i s _ ⟨d,h1,p⟩ q=>⟨d,h1,λl e=>by
 let⟨c,f,g,h⟩:=yq (K:=K) (B:=B) s (qh [(Txt.partition a b).1,(Txt.partition a b).2.1,(Txt.partition a b).2.2]) .nil e;exact q _ _ c _ _ p ⟨f,g,h,λp m=>nomatch m⟩⟩
theorem WY(f:QE X k o po)(he:QE X k e pe)(m:M1 X o "partition" apos e bB):QE X k (.Call (.Attribute o "partition" apos) [e] [] bB) (q0 we po pe):=by
 ∎;let⟨g,c,d⟩:=f.h;let⟨i,a,b⟩:=he.h;∎;exact⟨_,zD F.slot_str_partition F.type_str_partition UC c a m,yP RE d b⟩
inductive m4 (K:W.Frag) (H:Hp):List V->List Str->Prop
 |nil:m4 K H [] []
 |cons {a:Addr} {z:Str} {vs:List V} {zs:List Str}:bM K H a [.str z] -> m4 K H vs zs -> m4 K H (.ref a::vs) (z::zs)
def CI(K:ao):R2:=λx y H Q=>∃p q a b c,x=.ref p/\bM K H p a/\a.all gC=true/\y=.ref q/\bM K H q b/\m4 K H b c/\Q (.bl (c.any λz=>decide (a=[.str z]))) H
theorem RF(I:aw X aa i H s){Au:Around}(A:Au.units+2<cLine){a p:ah}{z:Str}{xs:ax}(h:bM X.K H a [.str z])(g:bM X.K H p xs)(f:xs.all gC=true):SeqAt.EqAt Au s (.ref a) (.ref p) (decide (xs=[.str z])):=by
 ∎;let⟨us,r1,q,_⟩:=I.list h;let⟨C,r2,r,_⟩:=I.list g;∎;have m:=r1.length;have B:=r2.length;by_cases e:a=p
 .subst e;have:=yi I h g;rw[decide_eq_true this.symm];exact SeqAt.EqAt.same _
 .refine SeqAt.EqAt.of_refs e ?_;by_cases b:xs.length=1
  .obtain⟨y,rfl⟩:=List.length_eq_one_iff.mp b;have l:gC y=true:=by simpa using f
   have d:=yj (Au:=Au) I h g ⋯ rfl (λ_=>fZ (.str z) y) (λj x D u v ex k n o=>by
    cases j with
    |zero=>cases ex;cases k;exact mu n o rfl l
    |succ j=>cases ex)
   have e:((List.range [V.str z].length).all λ_=>fZ (.str z) y)=decide ([y]=[V.str z]):=by
    show (fZ (.str z) y&&true)=_;rw[Bool.and_true];cases y with
    |str x=>
     by_cases c:z=x
     .rw[c,decide_eq_true rfl];exact beq_self_eq_true x
     .rw[decide_eq_false (λh=>c (by injection h with h _;injection h with h;exact h.symm))];exact beq_eq_false_iff_ne.mpr c
    |_=>rw[decide_eq_false (λh=>by injection h with h _;cases h)];rfl
   rw[e] at d;exact d
  .rw[decide_eq_false (λw=>b (by rw[w];rfl))];exact SeqAt.RcAt.lists_lengths q.isList r.isList (by simp at m ⊢;omega) ⋯
theorem UD(I:aw X aa j H s){Au:Around}(d:Au.units+2<cLine){p:ah}{xs:ax}(g:bM X.K H p xs)(f:xs.all gC=true)(e:ag->Bool)(he:∀a z,bM X.K H a [.str z]->e (.ref a)=decide (xs=[.str z])):∀{vs:ax}{b:ae}{us:aJ},m4 X.K H vs b->aF vs us->us.any e=(b.any λz=>decide (xs=[.str z]))/\∀u∈us,SeqAt.EqAt Au s u (.ref p) (e u):=by
 intro vs b us h
 induction h generalizing us with
 |nil=>intro r;cases r;exact⟨rfl,λ_ m=>nomatch m⟩
 |@cons a z vs b c n l=>
  intro r;cases r with
  |@cons _ u _ us r1 r2=>
   obtain rfl:u=Value.ref a:=r1;let⟨i,k⟩:=l r2;refine⟨by rw[any_cons,any_cons,i,he a z c],λw m=>?_⟩;rcases mem_cons.mp m with rfl |m
   .rw[he a z c];exact RF I d c g f
   .exact k w m
theorem WZ(J:X.A.units+64<cLine:=by exact bj.units (by assumption)):bZ X (compareOp .In) (CI X.K):=by
 intro aa s j H x y v u Q I E G h;let⟨p,q,d,L,N,rfl,o,f,rfl,B,al,k⟩:=h;obtain rfl:v=Value.ref p:=E;obtain rfl:u=Value.ref q:=G;let⟨b,r,D,_⟩:=I.list B
 let e:ag->Bool:=λy=>match y with |.ref a=>@decide (∃z,bM X.K H a [.str z]/\d=[.str z]) (Classical.propDecidable _) |_=>false
 have n:∀a z,bM X.K H a [.str z]->e (.ref a)=decide (d=[.str z]):=λa z ha=>by
  show @decide _ (Classical.propDecidable _)=_;by_cases c:d=[.str z]
  .rw[decide_eq_true c];exact @decide_eq_true _ (Classical.propDecidable _) ⟨z,ha,c⟩
  .rw[decide_eq_false c];refine @decide_eq_false _ (Classical.propDecidable _) λw=>c ?_
   let⟨M,l,m⟩:=w;rw[m,yi I ha l]
 let⟨g,i⟩:=UD I (Au:=X.A.in1) (by rw[me];omega) o f e n al r;refine SeqAt.in_listAt e D.isList (λw C=>i w (by simpa using C)) ⟨.bl _,H,I,rfl,?_⟩;rw[show b.toArray.any e=b.any e by simp,g];exact k
def wZ:Tr->Option Str
 |.ak _ [.str s]=>some s |_=>none
def ku:ai->Str->Bool
 |[.str x],z=>decide (x=z) |_,_=>false
def CJ(x y:Tr)(Q:ar):Prop:=match x,y with
 |.ak _ xs,.ak _ ys=>xs.all iP=true /\ ∃a:ae,ys.map wZ=a.map some /\ Q (.bl (a.any λz=>ku xs z))
 |_,_=>False
theorem XZ:∀{xs:ai}(z:Str),xs.all iP=true->decide (xs.map kT=[V.str z])=ku xs z
 |[],z,_=>rfl
 |[.str x],z,_=>by
  show decide ([V.str x]=[V.str z])=decide (x=z);rw[decide_eq_decide];constructor
  .intro h;cases h;rfl
  .intro h;rw[h]
 |[.int x],z,_=>decide_eq_false (λh=>by cases h)
 |[.bl x],z,_=>decide_eq_false (λh=>by cases h)
 |[.aX],z,_=>decide_eq_false (λh=>by cases h)
 |x::y::xs,z,_=>by rw[show ku (x::y::xs) z=false by unfold ku;split;(rename_i h;cases h);rfl];exact decide_eq_false (λh=>absurd (congrArg List.length h) (by simp))
theorem Hc(s:aA F H)(b:∀k,aA (B k) H):∀{f:ai}{g:ae}{vs:ax}{cs:Cs},f.map wZ=g.map some->Rs K F B f vs cs->au F H cs->m4 K H vs g
 |[],[],_,_,_,r,_=>by rw[r.1];exact .nil
 |y::f,z::g,_,_,e,r,hc=>by
  let⟨v,r,c,d,j,l,m,n⟩:=r;rw[map_cons,map_cons] at e;injection e with e1 e2
  rw[l] at hc;rw[j];unfold wZ at e1;split at e1
  .cases e1;∎;let⟨a,us,x,rfl,h,i,_⟩:=m.cj s b hc.left;let⟨w,C,q,u,o,A,k3,p⟩:=i;∎;rw[o,k3.1,p.1] at h;exact .cons h (Hc s b e2 n hc.right)
  .cases e1
theorem Vx:cW K k (CI K) CJ:=λF B H x y tx ty w A Q v s b z o r i j hd p q=>by
 unfold CJ at p;split at p
 .obtain⟨h1,zs,h2,p⟩:=p;∎;let⟨a,vs,C,rfl,g,h,D,_⟩:=o.cj s b i;let⟨c,u,f,rfl,l,n,k3,_⟩:=r.cj s b j;let⟨d,e⟩:=tU h h1;∎;refine⟨a,c,vs,u,zs,rfl,g,e,rfl,l,Hc s b h2 n k3,q _ _ F H [] p (Gr.aH s) ⟨?_,rfl⟩ .nil λ_ m=>nomatch m⟩;rw[d];congr 2;exact funext λz=>XZ z h1
 .exact p.elim
theorem Fc{it l:ah}{items:cO}(a:l≠it):∀(n i:Nat)(s:aj)(Q:aJ->aj->Prop),s.heap.IsListIter it l i->s.heap.IsList l items->i+n<=items.size->(∀h',h'.IsListIter it l (i+n)->Heap.SameBut it s.heap h'->Q ((items.toList.drop i).take n) { s with heap:=h' })->wpAny (model P w) A (draw (.ref it) n) Q E s
 |0,i,s,Q,hit,_,_,hQ=>wpAny_pure (by simpa using hQ s.heap hit (Heap.SameBut.refl ..))
 |n + 1,i,s,Q,hit,ht,hle,hQ=>by
  have lt:i<items.size:=⋯
  show wpAny _ _ (_ >>= _) Q E s;refine wpAny_bind (wpAny_pyNext_list_item hit ht (x:=items[i]) (by simp[lt]) λh d b=>wpAny_bind (wpAny_holding (Fc a n (i+1) _ _ d (ht.extBut b.extBut a) ⋯ λc f g=>wpAny_pure ?_)));have e:items.toList.drop i=items[i]::items.toList.drop (i+1):=by simp[drop_eq_getElem_cons,lt]
  have q:=hQ c (by rw[show i+(n+1)=i+1+n by omega];exact f) (b.trans g);rw[e] at q;exact q
theorem Vy{env:Env}{c:bS}{x1:Nat}{pos:Pos}{l:ah}{items:cO}{Q:Unit->aj->Prop}{s:aj}(j:A.handled=none)(a:s.heap.IsList l items)(hn:(assignEach c env).length=items.size)(hs:(assignEach c env).findIdx? (·.1)=none)(h:∀h',Heap.ExtBut ⇑s s.heap h'->wpAny (model P w) A (assignInOrder ((assignEach c env).map (·.2)) items.toList) Q E { s with heap:=h' }):wpAny (model P w) A (assign (.Tuple c x1 pos) env (.ref l)) Q E s:=by
 have lt:l≠⇑s:=by let⟨o,k,_⟩:=a;exact ne_of_lt (Heap.lt_size k)
 rw[PyProof.Rows.assign_Tuple];refine wpAny_bind (wpAny_standAt ?_);unfold unpack;rw[hn,hs];refine wpAny_bind (wpAny_holding ?_);unfold unpackItems;refine wpAny_bind ?_;unfold notIterableAtAll;refine wpAny_bind (wpAny_specialOf a.typeIs slot_list_iter.lookup (wpAny_pure ?_));simp only[false_eq_true,if_false];refine wpAny_bind (wpAny_holding (wpAny_pyIter_list a (wpAny_bind (wpAny_holding (Fc lt items.size 0 _ _ ⟨_,Heap.get?_push_size _ rfl,rfl,rfl⟩ (a.push _) ⋯ λn m f=>?_)))));rw[show List.take items.size (List.drop 0 items.toList)=items.toList by rw[List.drop_zero];exact take_of_length_le (by simp),if_neg (by simp)];refine wpAny_bind (wpAny_holding (wpAny_pyNext_list_end j m ((a.push _).extBut f.extBut lt) (by simp) λi g=>?_));simp only[Option.isSome_none,false_eq_true,if_false];exact wpAny_pure (h i λb o d e=>g b o d (f.extBut b o d (Heap.get?_push_of_some _ e)))
def CK(K:ao)(n:Nat)(t:kI):TG:=λv j H Q=>∃a b,v=.ref a/\bM K H a b/\b.length=n/\t b j H Q
theorem W0{c:bS}{k:Nat}{t:kI}{n:Nat}(m:X.calm=true)(h:m7 X c t)(hn:do (assignEach c X.env).length=n)(d:do (assignEach c X.env).findIdx? (·.1)=none):PG X (.Tuple c k pos) (CK X.K n t):=by
 intro aa s j H v u Q I r f;let⟨a,z,rfl,q,p,f⟩:=f;obtain rfl:u=Value.ref a:=r;let⟨y,g,w,A⟩:=I.list q;refine Vy (I.ok.hd m) w.isList (by simp[hn,<- p,g.length]) d λl x=>?_
 have i:aw X aa j H { s with heap:=l }:=I.kept (t':=s.toks) λb o e=>x b o (ne_of_lt (Heap.lt_size e)) e
 exact h aa _ j H z _ Q i (by simpa using g) f
def uQ(n:Nat)(a:ai->ai->(aG)->Prop):eV:=λt j Q=>match t with |.ak .f ts=>ts.length=n/\a ts j Q |_=>False
theorem W5(h:nv K k lo tr pr):l6 K k lo (CK K n tr) (uQ n pr):=λus b c F H j y e x t Q d W r p q=>by
 unfold uQ at p;split at p
 .obtain⟨_,a,vs,rfl,h1,h2⟩:=r;exact⟨a,vs,rfl,W.g.s.seq h1,h2.length.trans p.1,h us b c F H j y e vs _ Q d W h2 p.2 q⟩
 .exact p.elim
theorem IE(c:X.calm=true)(h:oq X k lo es pr)(hn:do (assignEach es X.env).length=n)(d:do (assignEach es X.env).findIdx? (·.1)=none):QG X k lo (.Tuple es kk pos) (uQ n pr):=by
 let⟨e,a,b⟩:=h.h;exact⟨_,W0 c a hn d,W5 b⟩
def w5(b:Bool):ag->Bool
 |.bool c=>c == b
 |_=>false
theorem nJ{b:Bool}{v:ag}(h:w5 b v=true):v=.bool b:=by
 cases v<;>simp only[w5,false_eq_true,beq_iff_eq] at h
 rw[h]
def pA(P:Program)(w:World):KeyKind P w Bool where
 is:=w5
 hash b:=if b=true then 1 else 0
 inj:=λv a b ha d=>by
  have e:=(nJ ha).symm.trans (nJ d);injection e
 byValue:=λk v h=>by rw[nJ h];rfl
 pyHash:=λ{A E s k v Q} c h=>by
  rw[nJ c];refine W.pyHash_slot (T:="bool") rfl F.slot_bool_hash entry_int_hash (args_int_hash _) (beq_builtin_none _) (.inl rfl) ?_;cases k
  .exact (show wpAny _ _ (mkInt 0 >>= λx=>ret x) _ _ s from wpAny_bind (wpAny_mkInt (wpAny_pure ⟨_,_,rfl,h⟩)))
  .exact (show wpAny _ _ (mkInt 1 >>= λx=>ret x) _ _ s from wpAny_bind (wpAny_mkInt (wpAny_pure ⟨_,_,rfl,h⟩)))
 eqBool:=λ{A E s a b u v Q} f c h=>by
  rw[nJ f,nJ c];have e:=mu (A:=A) (s:=s) (y:=.bl a) (x:=.bl b) rfl rfl rfl rfl;have z:fZ (.bl a) (.bl b)=decide (a=b):=by show (a == b)=_;rw[Bool.beq_eq_decide_eq]
  rw[z] at e;exact e _ _ _ _ h
 «strs»:=λk x t v h=>by cases h
def g7(P:Program)(w:World)(a:ah)(ks:List Bool):HO:=.ext λh=>(a == sysModules)=false/\ks.length<=10/\∃b:List (Bool×ag),b.map (·.1)=ks/\h.DictOf (pA P w) a b
def fL(ks:List Bool)(b:Bool):List Bool:=if b∈ks then ks else ks++[b]
theorem FT{P:Program}{w:World}{a:ah}{ks:List Bool}(b c:aP)(x:(a == sysModules)=false/\ks.length<=10/\∃kvs:List (Bool×ag),kvs.map (·.1)=ks/\b.DictOf (pA P w) a kvs)(k:∀o,b.get? a=some o->c.get? a=some o):(a == sysModules)=false/\ks.length<=10/\∃kvs:List (Bool×ag),kvs.map (·.1)=ks/\c.DictOf (pA P w) a kvs:=by
 let⟨z,l,kvs,e,o,f,d,g,r⟩:=x;exact⟨z,l,kvs,e,o,f,d,k _ g,r⟩
def Ck(P:Program)(w:World):TE:=λ_ H Q=>∀p,H p=none->Q (.ref p) (a6 H p (g7 P w p []))
theorem Vz:PE X (.Dict [] [] pos) (Ck X.prog X.w):=λaa s j H Q I h=>
 wpAny_Dict_empty ⟨.ref ⇑s,_,I.laid (a:=⇑s) (o:=g7 X.prog X.w ⇑s []) (t':=s.toks) (λ_ _ q=>Heap.get?_push_of_some _ q) (le_refl _)
  ⟨⟨beq_eq_false_iff_ne.mpr (Ne.symm (ne_of_lt I.big)),zero_le _,[],rfl,Heap.DictOf.new s.heap⟩,⟨_,Heap.get?_push_size _ rfl⟩,FT⟩,rfl,h _ (I.aV.fresh (le_refl _))⟩
def aig(P:Program)(w:World)(g ty h:TE):TS:=λD j H=>h j H λ_ e=>g j e λx f=>ty j f λy d=>∃a c b,x=.ref a/\d a=some (g7 P w a c)/\y=.bl b/\c.length<10/\D.nx j (a6 d a (g7 P w a (fL c b)))
theorem Nq(kvs:List (Bool×ag))(b:Bool)(v:ag):(stored kvs b v).map (·.1)=fL (kvs.map (·.1)) b:=by
 unfold stored fL;have e:(kvs.any λa=>decide (a.1=b))=decide (b∈kvs.map (·.1)):=by
  rw[Bool.eq_iff_iff,List.any_eq_true,decide_eq_true_eq,mem_map];exact⟨λ⟨x,m,h⟩=>⟨x,m,of_decide_eq_true h⟩,λ⟨x,m,h⟩=>⟨x,m,decide_eq_true h⟩⟩
 rw[e];by_cases c:b∈kvs.map (·.1)
 .rw[if_pos (decide_eq_true c),if_pos c,map_map];refine List.map_congr_left λx _=>?_
  show (if x.1=b then (x.1,v) else x).1=x.1;split<;>rfl
 .rw[if_neg (λz=>c (of_decide_eq_true z)),if_neg c,map_append];rfl
theorem W6{A:Around}{Q:Unit->aj->Prop}{E:ag->aj->Prop}(I:aw X aa j H s)(e:H a=some (g7 X.prog X.w a ks))(u:ks.length<10)(h:∀s',aw X aa j (a6 H a (g7 X.prog X.w a (fL ks b))) s'->Q () s'):wpAny (model X.prog X.w) A (setItem (.ref a) (.bool b) r) Q E s:=by
 let⟨⟨z,_,d,g,l⟩,_⟩:=I.aV a _ e;have p:d.length<=sizeLine:=by rw[sizeLine_eq,<- length_map (f:=(·.1)),g];omega
 refine wpAny_setItem_pairs (hsz:=p) (knd:=pA X.prog X.w) (k:=b) (by show (b == b)=true;simp) l λm c o=>h _ ?_
 have i:∃q,m.get? a=some q:=by let⟨q,_,_,n,_⟩:=c;exact⟨q,n⟩
 refine T7 I (by rw[e];exact True.intro) o i ⟨⟨z,?_,_,?_,c⟩,i,FT⟩
 .unfold fL;split
  .omega
  .rw[length_append,List.length_singleton];omega
 .rw[Nq,g]
theorem VA(p:PE X o td)(n:PE X i ty)(q:PE X value tv)(hs:swapsWith value (some (.Subscript o i pos')) pos.line X.env=pure false):PS X (.Assign [.Subscript o i pos'] value pos) (aig X.prog X.w td ty tv):=by
 intro aa s j H D I h;refine wpAny_Assign_Subscript (bo (q aa s j H _ I h) λr J M=>?_) hs;let⟨v,c,f,Y,A⟩:=M;refine bo (p aa J j c _ f A) λu L N=>?_
 let⟨x,d,g,E,B⟩:=N;refine bo (n aa L j d _ g B) λz s3 O=>?_
 let⟨y,Q,k,G,a,U,b,rfl,e,rfl,l,C⟩:=O;obtain rfl:u=Value.ref a:=E;obtain rfl:z=Value.bool b:=G;exact W6 k e l λs4 m=>⟨j,_,m,C⟩
theorem Qa:a9 X (.builtin "len") (λxs H Q=>∃a ks,xs=[V.ref a]/\H a=some (g7 X.prog X.w a ks)/\Q (.int ks.length) H):=by
 intro aa s j H xs us Q I r h;∎;let⟨a,ks,rfl,e,q⟩:=h;let⟨u,rfl,g⟩:=gX r;∎;cases g;let⟨⟨z,l,b,d,c⟩,_⟩:=I.aV a _ e;have f:b.length=ks.length:=by rw[<- d,length_map]
 refine call_len_dict (knd:=pA X.prog X.w) z c ⋯ ?_;rw[f];exact⟨.int ks.length,H,I.tok _,⟨_,rfl⟩,q⟩
def rj(t:Tr):Prop:=∀(K:ao)(F:Hp)(B a:Bool->Hp)(v:V)(c:Cs),R K F B t v c->R K F a t v c
abbrev hY:=(List Bool->aG)->List Bool->aG
def iC(K:ao)(k:Md)(lo:Nat)(O:List Bool->HO)(a:ah)(g:TS)(f:hY):Prop:=∀(us:ax)(c d F H:Hp)(j:St)(y:ai)(e:Nat->Cs)(D:Ends)(nx:List Bool->aG)(b:List Bool),d a=none->c a=none->a7 K k lo us c (a6 d a (O b)) F H j y e->f nx b y->
 (∀b F H j y e,a7 K k lo us c (a6 d a (O b)) F H j y e->nx b y->D.nx j H)->g D j H
def uP(ps:cc):hY:=λnx a j=>ps { nx:=nx a,rt:=λ_ _=>False } j
theorem Hd(h:cK K k lo ts ps):iC K k lo O a ts (uP ps):=λus c e F H j y b D nx d _ _ W p L=>
 h us c _ F H j y b D _ W p ⟨λF H j y b W q=>L d F H j y b W q,λ_ _ _ _ _ _ _ _ _ _ _ _ _ _ z=>z.elim,λ_ _ _ _ _ _ z=>z.elim,λ_ _ _ _ _ _ z=>z.elim⟩
def sr(p q:hY):hY:=λnx=>p (q nx)
theorem Fd(h:iC K k lo O a t p)(h':iC K k lo O a u q):iC K k lo O a (nB t u) (sr p q):=λus d g F H j y b D nx c e f W p L=>
 h us d g F H j y b _ _ c e f W p λc F H j y b W p=>h' us d g F H j y b D nx c e f W p L
def w6(c:di)(p q:hY):hY:=λnx a j=>c (j.map aM) λb=>if b=true then p nx a j else q nx a j
theorem VB(o:fb K k tc pc)(h:iC K k lo O a t p)(h':iC K k lo O a u q):iC K k lo O a (sy tc t u) (w6 pc p q):=λus d l F H j y m D nx n e f W p L=>by
 refine o F (Bq _ H) H j _ _ _ W.eA p λb c i q g=>?_
 cases b with
 |true=>exact h us d l c i j y m D nx n e f (W.gr g) q L
 |false=>exact h' us d l c i j y m D nx n e f (W.gr g) q L
def Cm(f:di)(p:hY):hY:=λnx a j=>∃I:Nat->List Bool->aG,(∃m,I m a j)/\∀m a j,I m a j->f (j.map aM) λb=>if b=true then p (λc e=>∃d,d<m/\I d c e) a j else nx a j
theorem RG(A:fb K k tc pc)(x:iC K k lo O a tb p):iC K k lo O a (rW tc tb) (Cm pc p):=λus o r F H j y d D nx c e f W p L=>by
 let⟨I,⟨C,B⟩,step⟩:=p;refine⟨λm j H=>∃c F y d,a7 K k lo us o (a6 r a (O c)) F H j y d/\I m c y,⟨C,c,F,y,d,W,B⟩,?_⟩;rintro m j H ⟨c,F,y,d,W,i⟩;refine A F (Bq _ H) H j _ _ _ W.eA (step m c y i) λb s v q g=>?_
 cases b with
 |false=>exact L c s v j y d (W.gr g) q
 |true=>
  refine⟨λw u=>∃n,n<m/\∃c F y d,a7 K k lo us o (a6 r a (O c)) F u w y d/\I n c y,λw u h=>h,?_⟩;exact x us o r s v j y d _ _ c e f (W.gr g) q λc F H j y d W z=>by let⟨n,l,i⟩:=z;exact⟨n,l,c,F,y,d,W,i⟩
theorem a7.swap{O:List Bool->HO}{ks r:List Bool}(W:a7 K k lo us Fb (a6 Hb a (O ks)) F H j y cs)(f:Fb a=none)(x:∀t∈y,rj t)(A:∀o,¬ k.q o):a7 K k lo us Fb (a6 Hb a (O r)) F (a6 H a (O r)) j y cs:=by
 have w:F a=none:=by
  cases e:F a with
  |none=>rfl
  |some u=>have:=W.g.n a u e f;rw[e7] at this;cases this
 have ne:∀i,∀p∈cs i,p.1≠a:=λi p m e=>by
  have:=W.n i p m;rw[e,e7] at this;cases this
 refine⟨⟨⟨λb u h=>?_,W.g.f,λb u h=>?_,λb u h e=>?_⟩,W.g.z⟩,W.z,W.l,λi t h=>(W.e i t h).imp id λ⟨v,h1,h2⟩=>⟨v,h1,x t (mem_of_getElem? h) _ _ _ _ _ _ h2⟩,λi=>⟨λp m=>?_,(W.c i).f,(W.c i).nd⟩,λi p m=>?_,W.d,W.p,λo _ _ _ q=>absurd q (A o)⟩
 .by_cases e:b=a
  .subst e;rw[e7] at h ⊢;exact h
  .rw[bR e] at h ⊢;exact W.g.h b u (by rw[bR e];exact h)
 .have e:b≠a:=λz=>by rw[z,w] at h;cases h
  rw[bR e];exact W.g.s b u h
 .have z:b≠a:=λz=>by rw[z,w] at h;cases h
  have:=W.g.n b u h e;rw[bR z] at this ⊢;exact this
 .rw[bR (ne i p m)];exact (W.c i).h p m
 .have:=W.n i p m;rw[bR (ne i p m)] at this ⊢;exact this
def w9(t:Tr)(Q:Bool->Prop):Prop:=match t with |.bl b=>Q b |_=>False
def wg(i:Nat)(a:ah)(d:aW):hY:=λnx c j=>j[i]?=some (.cl a)/\(∀t∈j,rj t)/\c.length<10/\d (j.map aM) λt=>w9 t λb=>nx (fL c b) j
theorem RH{i:Nat}(C:bu K k ty pk)(B:∀b,¬ k.q b):iC K k lo (g7 P w a) a (aig P w (jv i) ty (tC (.bl true))) (wg i a pk):=λus G J F H j y l D nx E e f W p L=>by
 let⟨s,x,A,p⟩:=p;rcases W.e i _ s with z |⟨v,m,n⟩
 .cases z
 .refine⟨v,m,C F (Bq _ H) H j _ _ _ W.eA p λt u d I c q o=>?_⟩;unfold w9 at q;split at q
  .refine⟨a,E,_,n.1,o.g.h a _ (W.g.h a _ e7),o.r.1,A,?_⟩;exact L _ d _ j y l ((W.gr o.g).swap f x B) q
  .exact q.elim
structure kF(X:Cx)(k:Md)(lo:Nat)(sts:List Stmt)(pb:ah->hY):Prop where
 h:∃ts,eW X sts ts/\∀a,iC X.K k lo (g7 X.prog X.w a) a ts (pb a)
theorem zK(h:QB X k lo sts ps):kF X k lo sts λ_=>uP ps:=by
 let⟨c,a,b⟩:=h.h;exact⟨c,a,λ_=>Hd b⟩
theorem W7(j:QT X k e pc)(h:kF X k lo s1 p)(h':kF X k lo s2 q)(l:kF X k lo rs r):kF X k lo (.If e s1 s2 pos::rs) λa=>sr (w6 pc (p a) (q a)) (r a):=by
 ∎;let⟨o,b,c⟩:=j.h;let⟨m,d,f⟩:=h.h;let⟨n,g,i⟩:=h'.h;let⟨tr,r1,r2⟩:=l.h;∎;exact⟨_,nP (zi b d g) r1,λa=>Fd (VB c (f a) (i a)) (r2 a)⟩
theorem VC(i:Nat)(c:QE X k j pk)(f:kF X k lo rs r)(e:∀b,¬ k.q b)(d:PE X o (jv i))(hs:do swapsWith (.Constant (.bool true) kk cp) (some (.Subscript o j pos')) pos.line X.env=pure false):kF X k lo (.Assign [.Subscript o j pos'] (.Constant (.bool true) kk cp) pos::rs) λa=>sr (wg i a pk) (r a):=by
 ∎;let⟨tk,g,l⟩:=c.h;let⟨tr,r1,r2⟩:=f.h;∎;exact⟨_,nP (VA d g HE hs) r1,λa=>Fd (RH l e) (r2 a)⟩
def G5(i:Nat)(n:Int)(f:cc)(e:di)(d:ah->hY):cc:=λD j=>∀a,uP f (λb=>Cm e (d a) (λb j=>j[i]?=some (.cl a)/\∀c,D.rt (.bl (decide ((b.length:Int)=n))) c) b) [] (j.set i (.cl a))
theorem W8{M:cc}{i:Nat}(hi:lo<=i)(J:∀o,¬ k.q o)(E:cK K k lo t1 M)(hc:fb K k tc pc)(hb:∀a,iC K k lo (g7 P w a) a tb (pb a)):
  cK K k lo (nB (jw (Ck P w) (jr i)) (nB t1 (nB (rW tc tb) (sx (mX uU (lO (λxs H Q=>∃a ks,xs=[V.ref a]/\H a=some (g7 P w a ks)/\Q (.int ks.length) H) (ib (jv i) ic)) (tC (.int n))))))) (G5 i n M pc pb):=λus A x F H j y B D D' W p L=>by
 intro a ha;have C:F a=none:=W.g.s.free ha;have I:A a=none:=W.g.f.free C;have r:x a=none:=W.g.h.free ha;have N:a7 K k lo us A (a6 x a (g7 P w a [])) F (a6 H a (g7 P w a [])) j y B:=by
  have le:aA x (a6 x a (g7 P w a [])):=λb u h=>by rw[bR (λz=>by rw[z,r] at h;cases h)];exact h
  have ne:∀i,∀p∈B i,p.1≠a:=λi p m e=>by
   have:=(W.c i).h p m;rw[e,ha] at this;cases this
  refine⟨⟨⟨λb u h=>?_,W.g.f,λb u h=>?_,λb u h e=>?_⟩,W.g.z⟩,W.z,W.l,λi t h=>(W.e i t h).imp id λ⟨v,E,h2⟩=>⟨v,E,h2.mo (Le.refl _) (λ_=>Le.of le) t⟩,λi=>⟨λp m=>?_,(W.c i).f,(W.c i).nd⟩,λi p m=>?_,W.d,W.p,λo _ _ _ q=>absurd q (J o)⟩
  .by_cases e:b=a
   .subst e;rw[e7] at h ⊢;exact h
   .rw[bR e] at h ⊢;exact W.g.h b u h
  .rw[bR (λz=>by rw[z,C] at h;cases h)];exact W.g.s b u h
  .rw[bR (λz=>by rw[z,C] at h;cases h)];exact W.g.n b u h e
  .rw[bR (ne i p m)];exact (W.c i).h p m
  .rw[bR (ne i p m)];exact W.n i p m
 have O:=N.set hi (t:=.cl a) (v:=.ref a) (c:=[]) ⟨rfl,rfl⟩ .nil .nil λ_ _ _ _ _ m=>nomatch m
 refine Hd E us A x _ _ _ _ _ _ _ [] r I O (p a) λks F H j y B W q=>?_
 refine RG hc (hb a) us A x F H j y B _ _ ks r I W q λks F H j y B W q=>?_
 let⟨q1,q2⟩:=q;rcases W.e i _ q1 with z |⟨v,Y,g2⟩
 .cases z
 .refine⟨v,Y,a,ks,by rw[g2.1],W.g.h a _ e7,rfl,?_⟩;have e:decide (V.int ks.length=V.int n)=decide ((ks.length:Int)=n):=decide_eq_decide.mpr ⟨λh=>V.int.inj h,λh=>by rw[h]⟩;rw[e];have G:∀{b u},x b=some u->b≠a:=λh z=>by rw[z,r] at h;cases h
  have U:a7 K k lo us A x F H j (List.replicate y.length .aL) (λ_=>[]):=by
   refine⟨⟨⟨λb u h=>W.g.h b u (by rw[bR (G h)];exact h),W.g.f,W.g.s,λb u h e=>?_⟩,W.g.z⟩,W.z,by rw[List.length_replicate];exact W.l,λi t h=>.inl ?_,λ_=>.nil,λ_=>.nil,(λ_ _ _ _ m=>nomatch m),W.p,λo _ _ _ q=>absurd q (J o)⟩
   .have:=W.g.n b u h e;by_cases z:b=a
    .rw[z];exact r
    .rw[bR z] at this;exact this
   .exact (List.mem_replicate.mp (mem_of_getElem? h)).2
  exact L.rt F H j _ _ _ (.bl _) [] U ⟨rfl,rfl⟩ .nil .nil (λ_ _ m=>nomatch m) rfl (q2 _)
theorem X0{d:cc}(i:Nat)(r:QS X k lo s1 d)(u:QT X k c pc)(s:kF X k lo body pb)(y:lo<=i)(B:∀b,¬ k.q b)(hz:X.mg "len"=none)(v:Gl X "len")(z:PassesOwn (model X.prog X.w) X.A X.env X.xe)(D:∀{f:TE}{e:Expr}{a pos:Pos},PE X (.Dict [] [] a) f->PS X (.Assign [.Name x y0] (.Dict [] [] a) pos) (jw f (jr i)))(C:PE X (.Name x y5) (jv i)):
  QB X k lo [.Assign [.Name x y0] (.Dict [] [] y2) y3,s1,.While c body [] y4,.Return (some (.Compare (.Call (.Name "len" y6) [.Name x y5] [] y7) [.Eq] [.Constant (.int n) kk y8] y9)) pf0] (G5 i n d pc pb):=by
 ∎;let⟨E,g,j⟩:=r.h;let⟨H,o,p⟩:=u.h;let⟨G,l,m⟩:=s.h;∎;exact⟨_,nP (D (e:=.Dict [] [] y2) Vz) (nP g (nP (E3 z o l) (ye (yM (FU B5 (sS Qa v hz rfl (iD C iS)) GL rfl))))),W8 y B j p m⟩
theorem SS(n:Nat)(b:ai->ai->(aG)->Prop)(a j:ai)(Q:aG):uQ n b (.ak .f a) j Q=(a.length=n/\b a j Q):=rfl
theorem Qb:we a b Q=((b.length == 0)=false/\a.length<=1000000/\Q (.aY [.str (Txt.partition a b).1,.str (Txt.partition a b).2.1,.str (Txt.partition a b).2.2])):=rfl
theorem Fe(i:Int)(Q:ar):sq [.int i] Q=(i.natAbs.log2<1920/\Q (.str (toString i))):=rfl
theorem Ff(x:Str)(Q:ar):sq [.str x] Q=Q (.str x):=rfl
theorem TR(ps:cc)(nx:List Bool->aG)(ks:List Bool)(j:ai):uP ps nx ks j=ps { nx:=nx ks,rt:=λ_ _=>False } j:=rfl
theorem N5(p q:hY)(nx:List Bool->aG)(ks:List Bool)(j:ai):sr p q nx ks j=p (q nx) ks j:=rfl
theorem Qc(a:di)(p q:hY)(nx:List Bool->aG)(ks:List Bool)(j:ai):w6 a p q nx ks j=a (j.map aM) λb=>if b=true then p nx ks j else q nx ks j:=rfl
theorem N6(i:Nat)(a:ah)(c:aW)(nx:List Bool->aG)(ks:List Bool)(j:ai):wg i a c nx ks j=(j[i]?=some (.cl a)/\(∀t∈j,rj t)/\ks.length<10/\c (j.map aM) λt=>w9 t λb=>nx (fL ks b) j):=rfl
end Pu
namespace Sf
open PySem L2 Vc Pu
local macro_rules | `(tactic| walk_at "z") => `(tactic| first | exact id | exact fun _ => rfl)
local macro_rules | `(tactic| walk_at "c") => `(tactic| exact ⟨rfl, rfl, rfl, by decide +kernel, rfl, by decide +kernel, by decide +kernel⟩)
local macro_rules | `(tactic| walk_at "k") => `(tactic| decide +kernel)
def inClass(s:Stmt)(j:Nat):Stmt:=match s with
 |.ClassDef _ _ _ a _ _ _ _ _ _ _=>a.getD j (.Pass ⟨0,0,0,0⟩)
 |_=>.Pass ⟨0,0,0,0⟩
def top(i:Nat):Stmt:=PySem.Challenge.pw_springframe_k16_what_is_no_wish.main.body.getD i (.Pass ⟨0,0,0,0⟩)
abbrev BP:Stmt:=top 12
abbrev AH:Stmt:=top 13
abbrev AX:Stmt:=top 20
abbrev Bm:Stmt:=top 21
abbrev Bn:Stmt:=top 22
abbrev BH:Stmt:=top 45
abbrev BG:Stmt:=top 47
abbrev A9:Stmt:=top 48
abbrev Ba:Stmt:=top 59
abbrev Bo:Stmt:=top 60
abbrev Bp:Stmt:=top 62
abbrev AY:Stmt:=top 63
abbrev AZ:Stmt:=top 64
abbrev A0:Stmt:=top 65
abbrev A1:Stmt:=top 66
abbrev Br:Stmt:=top 67
abbrev Bb:Stmt:=top 68
abbrev AS:Stmt:=top 69
abbrev Bs:Stmt:=top 70
abbrev Bc:Stmt:=top 71
abbrev A2:Stmt:=top 72
abbrev Bt:Stmt:=top 73
abbrev Be:Stmt:=top 74
abbrev A3:Stmt:=top 75
abbrev A4:Stmt:=top 76
abbrev AU:Stmt:=top 77
abbrev A5:Stmt:=top 78
abbrev A6:Stmt:=top 79
abbrev Co:Stmt:=top 80
abbrev AN:Stmt:=inClass (top 50) 0
abbrev Bz:Stmt:=inClass (top 49) 0
abbrev Bf:Stmt:=inClass (top 49) 1
abbrev Bu:Stmt:=inClass (top 50) 2
abbrev Ay:Stmt:=inClass (top 51) 0
abbrev BA:Stmt:=inClass (top 51) 1
abbrev Bg:Stmt:=inClass (top 51) 3
abbrev AQ:Stmt:=inClass (top 52) 0
abbrev Bv:Stmt:=inClass (top 52) 1
abbrev BB:Stmt:=inClass (top 52) 3
abbrev Az:Stmt:=inClass (top 53) 0
abbrev A7:Stmt:=inClass (top 53) 1
abbrev Bh:Stmt:=inClass (top 53) 3
abbrev AR:Stmt:=inClass (top 54) 0
abbrev Bw:Stmt:=inClass (top 54) 1
abbrev A8:Stmt:=inClass (top 54) 3
abbrev AA:Stmt:=inClass (top 32) 0
abbrev Bi:Stmt:=inClass (top 32) 5
abbrev Bj:Stmt:=inClass (top 33) 1
abbrev Bk:Stmt:=inClass (top 34) 1
abbrev Bx:Stmt:=inClass (top 35) 1
abbrev AO:Stmt:=inClass (top 58) 0
abbrev Bl:Stmt:=inClass (top 58) 1
abbrev By:Stmt:=inClass (top 58) 2
abbrev AB:Stmt:=inClass (top 58) 3
abbrev AD:Stmt:=inClass (top 58) 4
abbrev AE:Stmt:=inClass (top 58) 5
abbrev AI:Stmt:=inClass (top 58) 6
abbrev AJ:Stmt:=inClass (top 58) 7
abbrev AK:Stmt:=inClass (top 58) 8
abbrev AG:Stmt:=inClass (top 58) 9
abbrev AL:Stmt:=inClass (top 58) 10
abbrev AM:Stmt:=inClass (top 58) 11
abbrev AF:Stmt:=inClass (top 58) 12
theorem VD:adr ["top","bottom","divisor"] ["top","bottom"] (bh BP):=by walk_at "c"
theorem Lc:adr ["one","other","remainder"] ["one","other"] (bh AH):=by walk_at "c"
theorem Nr:adr ["word","most"] ["word","most"] (bh AX):=by walk_at "c"
theorem LV:adr ["word","pieces","figures","bottom","number"] ["word"] (bh Bm):=by walk_at "c"
theorem LW:adr ["number","top","bottom"] ["number"] (bh Bn):=by walk_at "c"
theorem OX:adr ["word"] ["word"] (bh BH):=by walk_at "c"
theorem Qd:adr ["word"] ["word"] (bh BG):=by walk_at "c"
theorem MJ:adr ["term","text"] ["term"] (bh A9):=by walk_at "c"
theorem MK:adr ["text"] ["text"] (bh Ba):=by walk_at "c"
theorem LX:adr ["text","names","reader","near","verb","far","rank","weight"] ["text","names"] (bh Bo):=by walk_at "c"
theorem LY:adr ["_law_script","_law_k"] ["_law_script","_law_k"] (bh Bp):=by walk_at "c"
theorem Nt:adr ["_law_cell","_law_way","_law_words"] ["_law_cell","_law_way"] (bh AY):=by walk_at "c"
theorem Nu:adr ["_law_cell","_law_way"] ["_law_cell","_law_way"] (bh AZ):=by walk_at "c"
theorem Nv:adr ["_law_cells","_law_way","_law_text_here","_law_cell","_law_turn"] ["_law_cells","_law_way"] (bh A0):=by walk_at "c"
theorem Nw:adr ["_law_cell","_law_some"] ["_law_cell"] (bh A1):=by walk_at "c"
theorem LZ:adr ["_law_text_here","_law_cell","_law_words","_law_at","_law_way","_law_here","_law_there"] ["_law_text_here","_law_cell"] (bh Br):=by walk_at "c"
theorem ML:adr ["_law_word_here","_law_most","_law_sign"] ["_law_word_here","_law_most"] (bh Bb):=by walk_at "c"
theorem LD:adr ["_law_word_here","_law_plain","_law_top","_law_slash","_law_bottom","_law_one","_law_two"] ["_law_word_here"] (bh AS):=by walk_at "c"
theorem L0:adr ["_law_words","_law_at","_law_known","_law_name"] ["_law_words","_law_at"] (bh Bs):=by walk_at "c"
theorem MM:adr ["_law_words","_law_found","_law_at"] ["_law_words"] (bh Bc):=by walk_at "c"
theorem Nx:adr ["_law_sign"] ["_law_sign"] (bh A2):=by walk_at "c"
theorem L1:adr ["_law_some","_law_k","_law_left","_law_amid","_law_right","_law_bare","_law_ahead"] ["_law_some"] (bh Bt):=by walk_at "c"
theorem MN:adr ["_law_some","_law_shorter_here"] ["_law_some"] (bh Be):=by walk_at "c"
theorem Ny:adr ["_law_some"] ["_law_some"] (bh A3):=by walk_at "c"
theorem Nz:adr ["_law_words","_law_some","_law_k","_law_end","_law_left"] ["_law_words"] (bh A4):=by walk_at "c"
theorem LF:adr ["_law_words","_law_found","_law_at"] ["_law_words"] (bh AU):=by walk_at "c"
theorem rV:adr ["_law_text_here","_law_found","e","_law_others"] ["_law_text_here"] (bh A5):=by walk_at "c"
theorem NA:adr ["_law_script","_law_first","_law_way","_law_near","_law_far","_law_cell","_law_text_here"] ["_law_script"] (bh A6):=by walk_at "c"
theorem W9:adr ["_law_script","_law_text_here","_law_cell","_law_words","_law_told_here"] ["_law_script"] (bh Co):=by walk_at "c"
theorem K8:adr ["self","number"] ["self","number"] (bh AN):=by walk_at "c"
theorem Mn:adr ["self"] ["self"] (bh Bz):=by walk_at "c"
theorem MO:adr ["self"] ["self"] (bh Bf):=by walk_at "c"
theorem L3:adr ["self"] ["self"] (bh Bu):=by walk_at "c"
theorem LG:adr ["self","word","name"] ["self","word","name"] (bh Ay):=by walk_at "c"
theorem MA:adr ["self"] ["self"] (bh BA):=by walk_at "c"
theorem MP:adr ["self","word","name"] ["self"] (bh Bg):=by walk_at "c"
theorem Lu:adr ["self","number","inner"] ["self","number","inner"] (bh AQ):=by walk_at "c"
theorem Du:adr ["self"] ["self"] (bh Bv):=by walk_at "c"
theorem DC:adr ["self","number","inner"] ["self"] (bh BB):=by walk_at "c"
theorem LH:adr ["self","one","other"] ["self","one","other"] (bh Az):=by walk_at "c"
theorem DD:adr ["self"] ["self"] (bh A7):=by walk_at "c"
theorem DB:adr ["self","one","other"] ["self"] (bh Bh):=by walk_at "c"
theorem Lv:adr ["self","one","other"] ["self","one","other"] (bh AR):=by walk_at "c"
theorem Dv:adr ["self"] ["self"] (bh Bw):=by walk_at "c"
theorem DE:adr ["self","one","other"] ["self"] (bh A8):=by walk_at "c"
theorem LI:adr ["self","near","far","rank","weight"] ["self","near","far","rank","weight"] (bh AA):=by walk_at "c"
theorem MQ:adr ["self","near","verb","far","said","rank","weight"] ["self"] (bh Bi):=by walk_at "c"
theorem MR:adr ["self"] ["self"] (bh Bj):=by walk_at "c"
theorem LB:adr ["self"] ["self"] (bh Bk):=by walk_at "c"
theorem L4:adr ["self"] ["self"] (bh Bx):=by walk_at "c"
theorem K9:adr ["self","text","names"] ["self","text","names"] (bh AO):=by walk_at "c"
theorem LC:adr ["self"] ["self"] (bh Bl):=by walk_at "c"
theorem L5:adr ["self","word"] ["self"] (bh By):=by walk_at "c"
theorem LJ:adr ["self","word"] ["self","word"] (bh AB):=by walk_at "c"
theorem LK:adr ["self"] ["self"] (bh AD):=by walk_at "c"
theorem LL:adr ["self"] ["self"] (bh AE):=by walk_at "c"
theorem Dt:adr ["self","word","inner","number"] ["self"] (bh AI):=by walk_at "c"
theorem Ld:adr ["self","word","name"] ["self","word"] (bh AJ):=by walk_at "c"
theorem Lf:adr ["self","word"] ["self"] (bh AK):=by walk_at "c"
theorem K3:adr ["self","term"] ["self"] (bh AG):=by walk_at "c"
theorem Lg:adr ["self","word","behind"] ["self"] (bh AL):=by walk_at "c"
theorem Lh:adr ["self","word"] ["self"] (bh AM):=by walk_at "c"
theorem K1:adr ["self","word"] ["self"] (bh AF):=by walk_at "c"
set_option genInjectivity false in
set_option genSizeOf false in
structure Tx(w:World)(K:ao)(mg:bA) where
 {aaa:ah}
 Jm:mg "Number"=some (.ref aaa)
 ou:dF K aaa
 An:aD K aaa "number"
 {aae:ah}
 Jn:mg "Edge"=some (.ref aae)
 jQ:dF K aae
 vj:aD K aae "word"
 vk:aD K aae "name"
 {aaj:ah}
 Jo:mg "Times"=some (.ref aaj)
 jg:dF K aaj
 Ao:aD K aaj "number"
 vm:aD K aaj "inner"
 {aao:ah}
 Ap:mg "Plus"=some (.ref aao)
 iN:dF K aao
 vn:aD K aao "one"
 vo:aD K aao "other"
 {aat:ah}
 Aq:mg "Minus"=some (.ref aat)
 iO:dF K aat
 vp:aD K aat "one"
 vq:aD K aat "other"
 {aay:ah}
 Jp:mg "Just"=some (.ref aay)
 ve:dF K aay
 IY:aD K aay "near"
 IZ:aD K aay "far"
 I0:aD K aay "rank"
 Ja:aD K aay "weight"
 {aaF:ah}
 Jb:mg "AtLeast"=some (.ref aaF)
 vf:dF K aaF
 Jc:aD K aaF "near"
 Jd:aD K aaF "far"
 Je:aD K aaF "rank"
 Jf:aD K aaF "weight"
 {aaM:ah}
 Jg:mg "AtMost"=some (.ref aaM)
 vg:dF K aaM
 Jh:aD K aaM "near"
 Ji:aD K aaM "far"
 Jj:aD K aaM "rank"
 Jk:aD K aaM "weight"
 {aaT:ah}
 Jl:mg "Reader"=some (.ref aaT)
 fo:dF K aaT
 Al:aD K aaT "words"
 Am:aD K aaT "names"
 vi:aD K aaT "place"
 rK:cV K mg "part" BP ["top","bottom"]
 rE:cV K mg "greatest_divisor" AH ["one","other"]
 m9:cV K mg "is_whole" AX ["word","most"]
 rF:cV K mg "read_number" Bm ["word"]
 nc:cV K mg "show_number" Bn ["number"]
 rG:cV K mg "is_name" BH ["word"]
 rH:cV K mg "way_of" BG ["word"]
 ng:cV K mg "bracketed" A9 ["term"]
 ot:cV K mg "read_wish" Ba ["text"]
 rJ:cV K mg "read_filled" Bo ["text","names"]
 kJ:cV K mg "_law_cell_at" Bp ["_law_script","_law_k"]
 oP:cV K mg "_law_edge" AY ["_law_cell","_law_way"]
 nh:cV K mg "_law_leaf" AZ ["_law_cell","_law_way"]
 oR:cV K mg "_law_side" A0 ["_law_cells","_law_way"]
 oS:cV K mg "_law_word" A1 ["_law_cell"]
 rL:cV K mg "_law_changed" Br ["_law_text_here","_law_cell"]
 ni:cV K mg "_law_whole" Bb ["_law_word_here","_law_most"]
 oU:cV K mg "_law_is_number" AS ["_law_word_here"]
 oV:cV K mg "_law_is_edge" Bs ["_law_words","_law_at"]
 rM:cV K mg "_law_signs" Bc ["_law_words"]
 jT:cV K mg "_law_term" A2 ["_law_sign"]
 oW:cV K mg "_law_shorter" Bt ["_law_some"]
 oX:cV K mg "_law_taken" Be ["_law_some"]
 rN:cV K mg "_law_tail" A3 ["_law_some"]
 rO:cV K mg "_law_good" A4 ["_law_words"]
 rP:cV K mg "_law_both_ways" AU ["_law_words"]
 rQ:cV K mg "_law_told" A5 ["_law_text_here"]
 rR:cV K mg "_law_text" A6 ["_law_script"]
 kL:cV K mg "law" Co ["_law_script"]
 rS:jc K aaa "Number.__init__" AN ["self","number"]
 oY:dJ K aaa "edges" "Term.edges" Bz ["self"]
 ia:dJ K aaa "ways" "Term.ways" Bf ["self"]
 oZ:dJ K aaa "text" "Number.text" Bu ["self"]
 rT:jc K aae "Edge.__init__" Ay ["self","word","name"]
 o6:dJ K aae "edges" "Edge.edges" BA ["self"]
 o7:dJ K aae "text" "Edge.text" Bg ["self"]
 ox:jc K aaj "Times.__init__" AQ ["self","number","inner"]
 jh:dJ K aaj "edges" "Times.edges" Bv ["self"]
 ji:dJ K aaj "text" "Times.text" BB ["self"]
 oy:jc K aao "Plus.__init__" Az ["self","one","other"]
 jj:dJ K aao "edges" "Plus.edges" A7 ["self"]
 jk:dJ K aao "text" "Plus.text" Bh ["self"]
 oz:jc K aat "Minus.__init__" AR ["self","one","other"]
 jl:dJ K aat "edges" "Minus.edges" Bw ["self"]
 jm:dJ K aat "text" "Minus.text" A8 ["self"]
 jR:jc K aay "Wish.__init__" AA ["self","near","far","rank","weight"]
 jS:dJ K aay "text" "Wish.text" Bi ["self"]
 oA:dJ K aay "verb" "Just.verb" Bj ["self"]
 oB:dJ K aaF "verb" "AtLeast.verb" Bk ["self"]
 oC:dJ K aaM "verb" "AtMost.verb" Bx ["self"]
 oD:jc K aaT "Reader.__init__" AO ["self","text","names"]
 oE:dJ K aaT "ahead" "Reader.ahead" Bl ["self"]
 oF:dJ K aaT "step" "Reader.step" By ["self"]
 oG:dJ K aaT "expect" "Reader.expect" AB ["self","word"]
 oH:dJ K aaT "at_end" "Reader.at_end" AD ["self"]
 oI:dJ K aaT "finish" "Reader.finish" AE ["self"]
 kK:dJ K aaT "read_term" "Reader.read_term" AI ["self"]
 oJ:dJ K aaT "read_edge" "Reader.read_edge" AJ ["self","word"]
 oK:dJ K aaT "read_name" "Reader.read_name" AK ["self"]
 oM:dJ K aaT "read_terms" "Reader.read_terms" AG ["self"]
 oN:dJ K aaT "read_verb" "Reader.read_verb" AL ["self"]
 oO:dJ K aaT "read_rank" "Reader.read_rank" AM ["self"]
 ow:dJ K aaT "read_weight" "Reader.read_weight" AF ["self"]
 {ab1:ah}
 Jq:mg "ACROSS"=some (.ref ab1)
 Jr:rC K ab1 ((["left","width","right","middle","gap"]:ae).map V.str)
 {ab4:ah}
 Ar:mg "DOWN"=some (.ref ab4)
 As:rC K ab4 ((["top","height","bottom","centre","drop"]:ae).map V.str)
 {ab7:ah}
 Js:mg "SPANS"=some (.ref ab7)
 Jt:rC K ab7 ((["gap","drop"]:ae).map V.str)
 {aca:ah}
 vr:mg "RANKS"=some (.ref aca)
 vt:rC K aca ((["must","hand","strong","fair","faint"]:ae).map V.str)
 {ace:Tok}
 JV:mg "FRAME"=some (.str "frame" ace)
 {acg:Tok}
 JW:mg "FIGURES"=some (.str "0123456789" acg)
 {aci:Tok}
 JX:mg "LETTERS"=some (.str "abcdefghijklmnopqrstuvwxyz" aci)
 {ack:Tok}
 acl:mg "MOST_FIGURES"=some (.int (6) ack)
 {acm:Tok}
 JY:mg "MOST_WORDS"=some (.int (60) acm)
 {aco:Tok}
 JZ:mg "WEIGHT_FIGURES"=some (.int (7) aco)
 {acq:Tok}
 J3:mg "MOST_WEIGHT"=some (.int (1000000) acq)
 {act:Tok}
 J4:mg "MOST_LETTERS"=some (.int (8) act)
 {acv:ah}
 ir:mg "NoWish"=some (.ref acv)
 jo:W.excIn K acv [.type "ValueError",.type "Exception",.type "BaseException",.type "object"] "ValueError.__new__"=true
 {acy:ah}
 vu:mg "Mixed"=some (.ref acy)
 JC:W.excIn K acy [.type "ValueError",.type "Exception",.type "BaseException",.type "object"] "ValueError.__new__"=true
 {acB:ah}
 YD:mg "NoPart"=some (.ref acB)
 {acD:ah}
 Ax:mg "FrameError"=some (.ref acD)
 {acF:ah}
 JD:mg "NoName"=some (.ref acF)
 {acH:ah}
 JE:mg "NoPane"=some (.ref acH)
 {acJ:ah}
 JF:mg "NoRank"=some (.ref acJ)
 {acL:ah}
 JG:mg "NoSize"=some (.ref acL)
 JH:jX K aae "ways" ia.a
 JI:jX K aaj "ways" ia.a
 JJ:jX K aao "ways" ia.a
 JK:jX K aat "ways" ia.a
 JL:Mk K aaF jR.a
 JM:jX K aaF "text" jS.a
 JN:Mk K aaM jR.a
 JO:jX K aaM "text" jS.a
 JQ:∀o:Obj,K.lookup aca=some o->o.dict=none
 JR:fP K aaa
 JS:fP K aae
 JT:fP K aaj
 JU:fP K aao
 Ju:fP K aat
 Jv:W.kitAny K (.ref aaa) [.ref aao,.ref aat]=some false
 Jw:W.kitAny K (.ref aae) [.ref aao,.ref aat]=some false
 Jx:W.kitAny K (.ref aaj) [.ref aao,.ref aat]=some false
 Jy:W.kitAny K (.ref aao) [.ref aao,.ref aat]=some true
 Jz:W.kitAny K (.ref aat) [.ref aao,.ref aat]=some true
 Av:dM K acv
 Aw:dM K acy
 JA:W.kitOne K (.ref acv) (.ref acD)=some true
 JB:W.kitOne K (.ref acy) (.ref acD)=some true
 J8:W.kitOne K (.ref acy) (.ref acv)=some false
 J9:W.kitAny K (.ref acv) [.ref acy,.ref acF,.ref acH,.ref acJ,.ref acL]=some false
 adc:W.exmOne K (.ref acv) (.ref acv)=some true
 Ka:W.exmOne K (.ref acy) (.ref acv)=some false
 Kb:W.exmOne K (.ref acy) (.ref acy)=some true
 AV:mg "abs"=none
 cY:mg "len"=none
 o8:mg "range"=none
 nj:mg "isinstance"=none
 Kc:mg "list"=none
 AW:mg "set"=none
 Kd:mg "sorted"=none
 jq:mg "int"=none
 vx:mg "all"=none
 o9:mg "str"=none
def tx(L:List Nat):Str:=⟨L.toArray⟩
theorem gz(x:Str):tx x.cps.toList=x:=by cases x;rfl
theorem dy(L:List Nat):(tx L).cps.toList=L:=rfl
theorem He{L M:List Nat}:tx L=tx M↔L=M:=⟨λh=>by rw[<- dy L,h,dy],λh=>by rw[h]⟩
theorem nT(L M:List Nat):tx L++tx M=tx (L++M):=by
 show (⟨L.toArray++M.toArray⟩:Str)=⟨(L++M).toArray⟩
 rw[List.append_toArray]
theorem b6(L:List Nat):(tx L).length=L.length:=by show L.toArray.size=_;rw[size_toArray]
def dig(L:List Nat):Bool:=L.all λc=>decide (48<=c)&&decide (c<=57)
def whole(n:Nat)(L:List Nat):Bool:=!decide (L=[])&&(decide (L.length<=n)&&(dig L&&(decide (L=[48]) || !decide (L.head?=some 48))))
abbrev vl(L:List Nat):Nat:=NumText.digitsVal L
def dc(n:Nat):List Nat:=(Nat.toDigits 10 n).map Char.toNat
theorem k6{L:List Nat}(h:dig L=true):NumText.AllDigits L:=λc m=>by
 have:=all_eq_true.mp h c m;simpa using this
theorem OY{L:List Nat}(h:NumText.AllDigits L):(L.map Char.ofNat).map Char.toNat=L:=by
 rw[map_map]
 conv=>rhs;rw[<- List.map_id L]
 refine List.map_congr_left λc m=>?_
 have:=h c m;show (Char.ofNat c).toNat=c;have a:c=48\/c=49\/c=50\/c=51\/c=52\/c=53\/c=54\/c=55\/c=56\/c=57:=⋯
 rcases a with h |h |h |h |h |h |h |h |h |h<;>subst h<;>rfl
theorem gQ{n:Nat}{L:List Nat}(h:whole n L=true):L≠[]/\L.length<=n/\dig L=true/\(L=[48]\/¬ L.head?=some 48):=by
 unfold whole at h;simpa using h
theorem uf{n:Nat}{L:List Nat}(h:whole n L=true):dc (vl L)=L:=by
 let⟨d,_,e,b⟩:=gQ h;have a:=k6 e;unfold dc vl;rw[NumText.toDigits_digitsVal (L.length - 1) L (by have:=List.length_pos_iff.mpr d;omega) a ?_,OY a];rcases b with b |b
 .left;rw[b];rfl
 .right;cases L with
  |nil=>exact absurd rfl d
  |cons c r=>
   refine⟨c,r,rfl,?_⟩;have:=a c mem_cons_self;have:¬ c=48:=λz=>b (by rw[z];rfl)
   omega
theorem lg(n:Nat):vl (dc n)=n:=W.KIN.val_back n
theorem iX(n:Nat):∀c∈dc n,48<=c/\c<=57:=λc m=>by
 unfold dc at m;let⟨d,hd,rfl⟩:=mem_map.mp m;have:=Nat.isDigit_of_mem_toDigits ∎ ∎ hd;unfold Char.isDigit at this;simp at this;have a:=this.1;have b:=this.2;constructor
 .exact a
 .exact b
def dec(a:Int):List Nat:=if a<0 then 45::dc a.natAbs else dc a.natAbs
theorem Gg(m:Nat):Str.ofString (toString (m:Int))=tx (dc m):=by
 rw[<- gz (Str.ofString (toString (m:Int))),W.KIN.signs_num];rfl
theorem Qe(s:String):Str.ofString ("-"++s)=tx (45::(Str.ofString s).cps.toList):=by
 unfold Str.ofString;rw[String.toByteArray_append];simp;have e:"-".toByteArray.data.toList=[45]:=∎
 rw[e];show (⟨(cpsOfBytes 0 0 (45::s.toByteArray.data.toList)).toArray⟩:Str)=⟨(45::cpsOfBytes 0 0 s.toByteArray.data.toList).toArray⟩;congr 2
theorem Gh(a:Int):Str.ofString (toString a)=tx (dec a):=by
 unfold dec;by_cases h:a<0
 .rw[if_pos h,PyProof.Rows.toString_neg h,Qe];have e:0 - a=(a.natAbs:Int):=⋯
  rw[e,Gg,dy]
 .rw[if_neg h];have e:a=(a.natAbs:Int):=⋯
  conv=>lhs;rw[e]
  exact Gg _
def bH(c:Nat):List Nat->List (List Nat)
 |[]=>[[]]
 |x::r=>if x=c then []::bH c r else match bH c r with |[]=>[[x]] |p::ps=>(x::p)::ps
def eh(c:Nat):List (List Nat)->List Nat
 |[]=>[]
 |[p]=>p
 |p::ps=>p ++ c::eh c ps
theorem jC(c:Nat)(L:List Nat):bH c L≠[]:=by
 cases L with
 |nil=>exact λz=>nomatch z
 |cons x r=>
  unfold bH;split
  .exact λz=>nomatch z
  .split<;>exact λz=>nomatch z
theorem qb{c:Nat}:∀{p r:List Nat},c ∉ p->bH c (p++c::r)=p::bH c r
 |[],r,_=>by
  have e:bH c (c::r)=if c=c then []::bH c r else match bH c r with |[]=>[[c]] |p::ps=>(c::p)::ps:=rfl
  show bH c (c::r)=_;rw[e,if_pos rfl]
 |x::p,r,h=>by
  have a:¬ x=c:=λz=>h (by rw[z];exact mem_cons_self)
  have b:=qb (p:=p) (r:=r) λz=>h (mem_cons_of_mem _ z)
  have e:bH c (x::(p++c::r))=if x=c then []::bH c (p++c::r) else match bH c (p++c::r) with |[]=>[[x]] |p::ps=>(x::p)::ps:=rfl
  show bH c (x::(p++c::r))=_;rw[e,if_neg a,b]
theorem k7{c:Nat}:∀{p:List Nat},c ∉ p->bH c p=[p]
 |[],_=>rfl
 |x::p,h=>by
  have a:¬ x=c:=λz=>h (by rw[z];exact mem_cons_self)
  have e:bH c (x::p)=if x=c then []::bH c p else match bH c p with |[]=>[[x]] |p::ps=>(x::p)::ps:=rfl
  rw[e,if_neg a,k7 (p:=p) λz=>h (mem_cons_of_mem _ z)]
theorem xk{c:Nat}:∀{ps:List (List Nat)},ps≠[]->(∀p∈ps,c ∉ p)->bH c (eh c ps)=ps
 |[],h,_=>absurd rfl h
 |[p],_,h=>k7 (h p mem_cons_self)
 |p::q::ps,_,h=>by
  show bH c (p++c::eh c (q::ps))=_;rw[qb (h p mem_cons_self),xk (ps:=q::ps) (λz=>nomatch z) λr m=>h r (mem_cons_of_mem _ m)]
theorem D3(c:Nat):∀(ps:List (List Nat))(a:List Nat),(ps.foldl (λb p=>b++[c]++p) a)=eh c (a::ps)
 |[],a=>rfl
 |p::ps,a=>by
  rw[foldl_cons,D3 c ps (a++[c]++p)];show eh c ((a++[c]++p)::ps)=a++c::eh c (p::ps);cases ps with
  |nil=>show a++[c]++p=a++c::p;simp
  |cons q ps=>show a++[c]++p++c::eh c (q::ps)=a++c::(p++c::eh c (q::ps));simp
theorem Ed(c:Nat):∀(ps:ae)(a:Array Nat),(ps.foldl (λb p=>b++(tx [c]).cps++p.cps) a).toList=eh c (a.toList::ps.map (·.cps.toList)):=by
 intro ps a;rw[<- D3]
 induction ps generalizing a with
 |nil=>rfl
 |cons p ps d=>
  rw[foldl_cons,map_cons,foldl_cons,d];simp[tx]
theorem sV(x:Str)(c:Nat):Txt.split x (tx [c])=(bH c x.cps.toList).map tx:=by
 have ne:Txt.split x (tx [c])≠[]:=by
  unfold Txt.split;split
  .exact λz=>nomatch z
  .split
   .exact λz=>nomatch z
   .rw[StrLaws.partsBetween_eq];unfold StrLaws.partsFrom;split<;>exact λz=>nomatch z
 have f:eh c ((Txt.split x (tx [c])).map (·.cps.toList))=x.cps.toList:=by
  unfold Txt.split;split
  .rfl
  .split
   .rfl
   .have g:=StrLaws.glued_between_self x (tx [c]) (x.length+1);have i:(tx [c]).length=1:=rfl;generalize Builtin.Str.partsBetween x (Builtin.Str.occurrences x (tx [c]) 0 x.length (x.length+1)) (tx [c]).length=a at g;unfold Builtin.Str.glued at g;cases a with
    |nil=>rw[<- g];rfl
    |cons p a=>
     have d:=Ed c a p.cps;rw[<- g];exact d.symm
 have b:∀p∈(Txt.split x (tx [c])).map (·.cps.toList),c ∉ p:=λp m=>by
  let⟨q,h,rfl⟩:=mem_map.mp m;exact StrLaws.split_free x c q h
 have e:=xk (by intro z;exact ne (List.map_eq_nil_iff.mp z)) b;rw[f] at e;rw[e,map_map]
 conv=>lhs;rw[<- List.map_id (Txt.split x (tx [c]))]
 exact List.map_congr_left λq _=>(gz q).symm
def neg(L:List Nat):Bool:=decide (L.head?=some 45)
def strip(L:List Nat):List Nat:=if L.head?=some 45 then L.tail else L
def sgn(L:List Nat)(n:Nat):Int:=if L.head?=some 45 then -(n:Int) else n
def d9(L:List Nat):Option (Int×Int):=match bH 47 (strip L) with
 |[t]=>if whole 6 t=true /\ ¬ (vl t=0 /\ L.head? = some 45) then some (sgn L (vl t),1) else none
 |[t,b]=>if whole 6 t=true /\ whole 6 b=true /\ 2 <= vl b /\ Nat.gcd (vl t) (vl b)=1 /\ ¬ (vl t=0 /\ L.head? = some 45) then some (sgn L (vl t),vl b) else none
 |_=>none
def b3(q:Rat):List Nat:=if q.den=1 then dec q.num else dec q.num++47::dc q.den
theorem sW(a:Int):47 ∉ dec a:=λm=>by
 unfold dec at m;split at m
 .rcases mem_cons.mp m with h |h
  .cases h
  .have:=iX _ _ h;omega
 .have:=iX _ _ m;omega
theorem Fg(n:Nat):47 ∉ dc n:=λm=>by have:=iX _ _ m;omega
theorem Hf(n:Nat):dc n≠[]:=λh=>by
 have e:=lg n;rw[h] at e;have e:0=n:=e;subst e;exact absurd h ∎
theorem RI(n:Nat):¬ (dc n).head?=some 45:=λh=>by
 have:=iX n 45 (List.mem_of_mem_head? h);omega
theorem nS(a:Int):(dec a).head?=some 45↔a<0:=by
 unfold dec;split
 .exact⟨λ_=>by assumption,λ_=>rfl⟩
 .rename_i h;exact⟨λz=>absurd z (RI _),λz=>absurd z h⟩
theorem xA(a:Int):strip (dec a)=dc a.natAbs:=by
 unfold strip;by_cases h:a<0
 .rw[if_pos ((nS a).mpr h)];unfold dec;rw[if_pos h];rfl
 .rw[if_neg (λz=>h ((nS a).mp z))];unfold dec;rw[if_neg h]
theorem NB(L:List Nat):∃p ps,bH 47 L=p::ps/\bH 47 (strip L)=strip p::ps/\p.head?=L.head?\/(bH 47 L=p::ps/\p=[]/\bH 47 (strip L)=p::ps/\¬ L.head?=some 45):=by
 cases L with
 |nil=>exact⟨[],[],.inr ⟨rfl,rfl,rfl,λz=>nomatch z⟩⟩
 |cons x r=>
  have e:bH 47 (x::r)=if x=47 then []::bH 47 r else match bH 47 r with |[]=>[[x]] |p::ps=>(x::p)::ps:=rfl
  by_cases h:x=47
  .rw[if_pos h] at e;refine⟨[],bH 47 r,.inr ⟨e,rfl,?_,?_⟩⟩
   .have hn:¬ (x::r).head?=some 45:=λz=>by rw[h] at z;cases z
    unfold strip;rw[if_neg hn,e]
   .intro z;rw[h] at z;cases z
  .rw[if_neg h] at e;cases hs:bH 47 r with
   |nil=>exact absurd hs (jC _ _)
   |cons p ps=>
    rw[hs] at e;refine⟨x::p,ps,.inl ⟨e,?_,rfl⟩⟩;by_cases a:x=45
    .subst a;show bH 47 r=p::ps;exact hs
    .have hn:¬ (x::r).head?=some 45:=λz=>a (by simpa using z)
     have b:¬ (x::p).head?=some 45:=λz=>a (by simpa using z)
     unfold strip;rw[if_neg hn,if_neg b];exact e
theorem n7{L p:List Nat}{ps:List (List Nat)}(h:bH 47 L=p::ps):bH 47 (strip L)=strip p::ps/\(p.head?=some 45↔L.head?=some 45):=by
 obtain⟨g,f,a |a⟩:=NB L
 .rw[h] at a;let⟨e,b,c⟩:=a;cases e;exact⟨b,by rw[c]⟩
 .rw[h] at a;let⟨e,d,b,c⟩:=a;cases e;subst d;exact⟨b,⟨(λz=>nomatch z),λz=>absurd z c⟩⟩
theorem pY(c:Nat):∀L:List Nat,eh c (bH c L)=L
 |[]=>rfl
 |x::r=>by
  have a:=pY c r;have e:bH c (x::r)=if x=c then []::bH c r else match bH c r with |[]=>[[x]] |p::b=>(x::p)::b:=rfl
  rw[e];by_cases h:x=c
  .rw[if_pos h];cases hs:bH c r with
   |nil=>exact absurd hs (jC _ _)
   |cons p b=>
    rw[hs] at a;show []++c::eh c (p::b)=x::r;rw[a,h];rfl
  .rw[if_neg h];cases hs:bH c r with
   |nil=>exact absurd hs (jC _ _)
   |cons p b=>
    rw[hs] at a;cases b with
    |nil=>
     have a:p=r:=a;show x::p=x::r;rw[a]
    |cons q b=>
     have a:p++c::eh c (q::b)=r:=a;show (x::p)++c::eh c (q::b)=x::r;rw[<- a];rfl
theorem xZ{p:List Nat}(h:¬ p.head?=some 45):strip p=p:=if_neg h
theorem Fh{p:List Nat}(h:p.head?=some 45):p=45::strip p:=by
 unfold strip;rw[if_pos h];cases p with
 |nil=>cases h
 |cons x r=>cases h;rfl
theorem Gi{L p:List Nat}(e:p.head?=some 45↔L.head?=some 45)(a:whole 6 (strip p)=true)(b:¬ (vl (strip p)=0/\L.head?=some 45)):dec (sgn L (vl (strip p)))=p:=by
 unfold sgn;by_cases h:L.head?=some 45
 .rw[if_pos h];have c:¬ vl (strip p)=0:=λz=>b ⟨z,h⟩
  unfold dec;rw[if_pos ⋯,show (-((vl (strip p):Nat):Int)).natAbs=vl (strip p) by omega,uf a];exact (Fh (e.mpr h)).symm
 .rw[if_neg h];unfold dec;rw[if_neg ⋯,Int.natAbs_natCast,uf a];exact xZ (λz=>h (e.mp z))
theorem lh(L:List Nat)(n:Nat):(sgn L n).natAbs=n:=by unfold sgn;split<;>omega
theorem uy{L p:List Nat}(hs:bH 47 L=[p])(a:whole 6 (strip p)=true):(b3 (Rat.divInt (sgn L (vl (strip p))) 1)=L->d9 L=some (sgn L (vl (strip p)),1))/\(¬ b3 (Rat.divInt (sgn L (vl (strip p))) 1)=L->d9 L=none):=by
 let⟨f,g⟩:=n7 hs;have c:L=p:=by have:=pY 47 L;rw[hs] at this;exact this.symm
 have d:Rat.divInt (sgn L (vl (strip p))) 1=((sgn L (vl (strip p)):Int):Rat):=by rw[<- Rat.num_divInt_den ((sgn L (vl (strip p)):Int):Rat),Rat.num_intCast,Rat.den_intCast];rfl
 have e:b3 (Rat.divInt (sgn L (vl (strip p))) 1)=dec (sgn L (vl (strip p))):=by
  rw[d];unfold b3;rw[Rat.den_intCast,Rat.num_intCast,if_pos rfl]
 rw[e];unfold d9;rw[f];dsimp only;constructor
 .intro h;refine if_pos ⟨a,λz=>?_⟩;have b:sgn L (vl (strip p))=0:=by have:=lh L (vl (strip p));omega
  rw[b] at h;have:(dec 0).head?=some 45:=by rw[h];exact z.2
  exact absurd ((nS 0).mp this) ∎
 .intro h;rw[if_neg];rintro⟨_,z⟩;exact h ((Gi g a z).trans c.symm)
theorem uz{L p b:List Nat}(hs:bH 47 L=[p,b])(n:whole 6 (strip p)=true)(m:whole 6 b=true)(l:¬ vl b=0):(b3 (Rat.divInt (sgn L (vl (strip p))) (vl b))=L->d9 L=some ((Rat.divInt (sgn L (vl (strip p))) (vl b)).num,(((Rat.divInt (sgn L (vl (strip p))) (vl b)).den:Nat):Int)))/\(¬ b3 (Rat.divInt (sgn L (vl (strip p))) (vl b))=L->d9 L=none):=by
 let⟨u,k⟩:=n7 hs;have o:p++47::b=L:=by have:=pY 47 L;rw[hs] at this;exact this
 have a:Nat.gcd (vl (strip p)) (vl b)=1->(Rat.divInt (sgn L (vl (strip p))) (vl b)).num=sgn L (vl (strip p))/\(Rat.divInt (sgn L (vl (strip p))) (vl b)).den=vl b:=λg=>by
  have e:Rat.divInt (sgn L (vl (strip p))) (vl b)=⟨sgn L (vl (strip p)),vl b,l,by rw[lh];exact g⟩:=by
   conv=>rhs;rw[<- Rat.num_divInt_den (⟨sgn L (vl (strip p)),vl b,l,by rw[lh];exact g⟩:Rat)]
  rw[e];exact⟨rfl,rfl⟩
 have v:d9 L=if whole 6 (strip p)=true/\whole 6 b=true/\2<=vl b/\Nat.gcd (vl (strip p)) (vl b)=1/\¬ (vl (strip p)=0/\L.head?=some 45) then some (sgn L (vl (strip p)),((vl b:Nat):Int)) else none:=by
  unfold d9;rw[u]
 rw[v];constructor
 .intro h;generalize x:Rat.divInt (sgn L (vl (strip p))) (vl b)=q at h a;have c:bH 47 (b3 q)=[p,b]:=by rw[h];exact hs
  unfold b3 at c;by_cases hd:q.den=1
  .rw[if_pos hd,k7 (sW _)] at c;cases c
  .rw[if_neg hd,qb (sW _),k7 (Fg _)] at c;let⟨j,d⟩:=List.cons.inj c;let⟨d,_⟩:=List.cons.inj d;have r:q.den=vl b:=by rw[<- d,lg]
   have s:q.num.natAbs=vl (strip p):=by rw[<- j,xA,lg]
   have g:Nat.gcd (vl (strip p)) (vl b)=1:=by rw[<- s,<- r];exact q.reduced
   have dp:=q.den_pos;let⟨f,i⟩:=a g;rw[f,i];refine if_pos ⟨n,m,⋯,g,λz=>?_⟩
   .have hl:p.head?=some 45:=k.mpr z.2;rw[<- j] at hl;have:=(nS _).mp hl;have:=z.1;omega
 .intro h;rw[if_neg];rintro⟨_,_,w,g,z⟩;let⟨f,i⟩:=a g;apply h;unfold b3;rw[f,i,if_neg ⋯,Gi k n z,uf m];exact o
theorem tD{L p:List Nat}{ps:List (List Nat)}(hs:bH 47 L=p::ps)(h:2<(p::ps).length\/((strip p::ps).all (whole 6))=false):d9 L=none:=by
 let⟨a,e⟩:=n7 hs;unfold d9;rw[a];cases ps with
 |nil=>
  rcases h with h |h
  .exact absurd h (by show ¬ 2<1;omega)
  .refine if_neg ?_;rintro⟨z,_⟩;rw[all_cons,z] at h;cases h
 |cons b ps=>
  cases ps with
  |nil=>
   rcases h with h |h
   .exact absurd h (by show ¬ 2<2;omega)
   .refine if_neg ?_;rintro⟨z,d,_⟩;rw[all_cons,z,all_cons,d] at h;cases h
  |cons c ps=>rfl
theorem Er{L p b:List Nat}(hs:bH 47 L=[p,b])(d:vl b=0):d9 L=none:=by
 let⟨a,c⟩:=n7 hs;unfold d9;rw[a];dsimp only;rw[if_neg];rintro⟨_,_,z,_⟩;omega
inductive Tm where
 |num (q:Rat) |bC (w n:Str) |times (q:Rat) (t:Tm) |plus (a b:Tm) |minus (a b:Tm)
def Tm.tag:Tm->Nat
 |.num _=>0 |.bC _ _=>1 |.times _ _=>2 |.plus _ _=>3 |.minus _ _=>4
def Tm.dep:Tm->Nat
 |.num _=>0 |.bC _ _=>0 |.times _ t=>t.dep + 1 |.plus a b=>max a.dep b.dep + 1 |.minus a b=>max a.dep b.dep + 1
def cu:Tm->List (Str×Str)
 |.num _=>[] |.bC w n=>[(w,n)] |.times _ t=>cu t |.plus a b=>cu a ++ cu b |.minus a b=>cu a ++ cu b
section
variable{P:Program}{w:World}{K:ao}{mg:bA}{base:aP}
@[inline] def Ip:String:="WX SS Qb Fe Ff TR N5 Qc N6 N4 N3 SO P9 N2 SN P7 Ni Mi VY P0 M8 NX SI NY M9 SJ Na Nb NZ P1 SK SM Nc Nd Nf N0 Ng yF EM yE zG zH zI zJ lK yG P4 Nh N1 P5 dg f5 g9 dB fi Sz XB QD SA SD SE SF SG M7 NW SH QF Xl Xm Xn O8 N7 O9 Pa Xo Pb SV Pc N8 Pe N9 SW Pf Oa Pg Ph MY Ob Xq MZ Oc SX M0 Mh SY Pj Pk S1 Pl Pm Pn Od Oe S2 S3 S4 M3 Of xQ Po Og M4 Qg NP xR Qh D6 xS NQ mn Qi D7 D8 Qj D9 NR NS NT Ea Eb Qk Ec xT GP Ql NU lZ getD_some Qm S5 S6 Xs S7 S8 S9 Ta Sl length_map Sw Qx Qy xU NV Sy Qn Qo xW Qp Qq Fn Qr w_lt Xt Sn So Xu Sq Sr Ss Su Qs Qt Sv Qu Qv Qw pU sJ at2 SQ SR List.getElem?_cons_succ List.getElem?_cons_zero List.set_cons_zero List.set_cons_succ cP bP cq dC eQ Bool.and_self if_true if_false true_and and_true cons_append nil_append List.replicate Nat.reduceSub length_cons length_nil Nat.reduceAdd Nat.reduceLeDiff decide_true decide_false Bool.not_true Bool.not_false false_eq_true Bool.true_eq_false M5 M6 SU nW Lq DG Lp xB DH mF HH qL zC ly yL E1 E2 xV reduceCtorEq"
local macro_rules |`(tactic|rfl')=>do
 let a:=((Ip++" Xp").splitOn " ").toArray.map λx=>Lean.mkIdent x.toName
 `(tactic|simp only[$[$a:ident],*])
local macro_rules |`(tactic|walk_at "q")=>do
 let a:=(Ip.splitOn " ").toArray.map λx=>Lean.mkIdent x.toName
 `(tactic|simp only[$[$a:ident],*])
theorem Li(T:Tx w K mg){z:Bool}:aB P w K mg base bq 1 T.rE.a T.rE.d ["one","other"] (bx K z 0 2 KY):=by
 refine b0 T.rE.F Lc rfl ∎ λaR A outer s H E l n k=>?_
 refine⟨_,(aO (nZ (bc g8 gR (qv 1) aE) (aO (bp 2 (d7 (qv 0) (qv 1)))
  (aO (bp 0 (qv 1))
  (aN (bp 1 (qv 2))))))
  (aN (br (qv 0)))),?_⟩
 rintro o i _ ⟨_,a,b,rfl,ha,g,q⟩;refine⟨λm j=>∃x y z,j=[.int x,.int y,z]/\0<=x/\0<=y/\gd x y=gd a b/\m=y.toNat,⟨_,a,b,.aL,rfl,ha,g,rfl,rfl⟩,?_⟩;rintro m j ⟨x,y,z,rfl,f,h,e,rfl⟩;rfl';by_cases c:y=0
 .subst c;rfl';rw[<- e,Ua x f] at q;exact q _
 .rw[if_pos (by simp[c])];refine⟨⋯,?_⟩;refine⟨(x % y).toNat,?_,_,_,_,rfl,h,Int.emod_nonneg _ c,?_,rfl⟩
  .have:=Int.emod_lt_of_pos x (show 0<y by omega);have:=Int.emod_nonneg x c;omega
  .rw[WE f ⋯];exact e
theorem VE(T:Tx w K mg){z:Bool}:aB P w K mg base bq 2 T.rK.a T.rK.d ["top","bottom"] (bx K z 0 2 BN):=by
 refine b0 T.rK.F VD rfl ∎ λaR A outer s H E i k g=>?_
 refine⟨_,(aO (bI (bc bY bW (qv 1) aE) (aN tQ) bX)
  (aO (bp 2 (qc T.rE (Li T) (aq (cA E5 F9 T.AV (aq (qv 0) aI)) (aq (cA E5 F9 T.AV (aq (qv 1) aI)) aI))))
  (aO (bI (bc iZ iT (qv 1) aE) (aN (bp 2 (zm (qv 2)))) bX)
  (aN (br (qF (aq (dW (qv 0) (qv 2)) (aq (dW (qv 1) (qv 2)) aI)))))))),?_⟩
 rintro l f _ ⟨_,a,b,rfl,c,e,q⟩;rfl';rw[if_neg (by simp[c])];refine⟨rfl,_,_,rfl,by split<;>omega,by split<;>omega,λj=>?_⟩;rw[Td];rw[HW,<- QY c,<- QZ c] at q;unfold dv at q;by_cases h:b<0
 .rw[if_pos h] at q;rw[if_pos (decide_eq_true h)];rfl';exact⟨Fm c e,Fm c e,q _⟩
 .rw[if_neg h] at q;rw[if_neg (by simp[h])];rfl';exact⟨Ge c e,Ge c e,q _⟩
theorem Gj(c:Nat):kU (Str.ofString "0123456789") ⟨#[c]⟩=(decide (48<=c)&&decide (c<=57)):=by
 unfold kU;rw[StrLaws.found_one];have e:(Str.ofString "0123456789").cps.toList=[48,49,50,51,52,53,54,55,56,57]:=by walk_at "k"
 rw[e,Bool.eq_iff_iff];simp;omega
theorem Hg:Str.ofString ""=tx []:=by walk_at "k"
theorem HI:Str.ofString "0"=tx [48]:=by walk_at "k"
theorem HJ:Str.ofString "-"=tx [45]:=by walk_at "k"
theorem z8:Str.ofString "/"=tx [47]:=by walk_at "k"
theorem qs(k:Bool)(x:Str)(Q:ar):pN k [.str x] Q=(x.length<=1000000/\Q (.int x.length)):=rfl
theorem kf(L M:List Nat):decide (tx L=tx M)=decide (L=M):=decide_eq_decide.mpr He
theorem Hh{c:Nat}{r:List Nat}{Q:ar}(h:(c::r).length<=1000000)(q:Q (.str (tx [c]))):jY (.str (tx (c::r))) (.int 0) Q:=by
 refine⟨by rw[b6];exact h,?_⟩;rw[dy,pU];exact q
def Kt:cf:=dR 2 λa Q=>∃(L:List Nat)(n:Nat),a=[.str (tx L),.int n]/\L.length<=100000/\Q (.bl (whole n L))
theorem xo(T:Tx w K mg){z:Bool}:aB P w K mg base bq 1 T.m9.a T.m9.d ["word","most"] (bx K z 0 2 Kt):=by
 refine b0 T.m9.F Nr rfl ∎ λaR A outer s H E B C x=>?_
 refine⟨_,(aO (bI (QW.t (e9 (bc bY bW (qv 0) aC) (e9 (bc kn ke (cA dk dt T.cY (aq (qv 0) aI)) (qv 1)) (gk (kc (eE (cA (xt rfl) yt T.vx (aq (la ["sign"] [none] (uJ (qv 0)) (lH 0) (λ_ _ _ _ _=>(fB EA FJ (qv 0) (Aa T.JW)))) aI)))))))) (aN (br i1)) bX)
  (aN (br (qP (fB bY bW (qv 0) aC) (kd (fB g8 gR (b7 (qv 0) aE) aC)))))),?_⟩
 rintro D m _ ⟨_,L,n,rfl,v,q⟩;rfl';rw[Hg,HI,kf,kf];split
 .rename_i c;have c:L=[]:=of_decide_eq_true c;subst c;exact q _
 rename_i f;have f:¬ L=[]:=λz=>f (decide_eq_true z)
 rw[qs];refine⟨by rw[b6];omega,?_⟩;rfl';rw[b6];have l:(¬ L.length<=n\/dig L=false\/(¬ L=[48]/\L.head?=some 48))->∀j,m (.bl false) j:=λh=>by
  have e:whole n L=false:=by
   cases e:whole n L with
   |false=>rfl
   |true=>
    let⟨_,a,b,d⟩:=gQ e;rcases h with h |h |h
    .exact absurd a h
    .rw[h] at b;cases b
    .rcases d with d |d
     .exact absurd d h.1
     .exact absurd h.2 d
  rw[e] at q;exact q
 have o:L.length<=n->dig L=true->(L=[48]\/¬ L.head?=some 48)->∀j,m (.bl true) j:=λa b d=>by
  have e:whole n L=true:=by unfold whole;rw[decide_eq_false f,decide_eq_true a,b];simpa using d
  rw[e] at q;exact q
 split
 .rename_i c;have c:=of_decide_eq_true c;exact l (.inl ⋯) _
 rename_i g;have g:L.length<=n:=by
  have:¬ ((n:Int)<L.length):=λz=>g (decide_eq_true z)
  omega
 rw[dy];refine bN.map L _ (λc=>decide (48<=c)&&decide (c<=57)) ⋯ (λc y R u=>?_) ?_
 .rfl';rw[Gj];exact u
 refine⟨_,rfl,?_⟩;rfl';have p:(L.map λc=>decide (48<=c)&&decide (c<=57)).all id=dig L:=by unfold dig;rw[all_map];rfl
 rw[p];split
 .rename_i c;exact l (.inr (.inl (by simpa using c))) _
 rename_i i;have i:dig L=true:=by simpa using i
 split
 .rename_i c;exact o g i (.inl (of_decide_eq_true c)) _
 rename_i k;have k:¬ L=[48]:=λz=>k (decide_eq_true z)
 cases L with
 |nil=>exact absurd rfl f
 |cons c r=>
  refine Hh ⋯ ?_;rfl';rw[kf];by_cases h:c=48
  .subst h;rw[decide_eq_true rfl];exact l (.inr (.inr ⟨k,rfl⟩)) _
  .rw[decide_eq_false (λz=>h (by simpa using z))];exact o g i (.inr λz=>h (by simpa using z)) _
theorem Xa{q:Rat}{k:Nat}(h:bs q<=k):bi q.num<=k:=le_trans (WH q) h
def BQ:cf:=dR 1 λa Q=>∃q:Rat,a=[av.t q]/\bs q<=400/\Q (.str (tx (b3 q)))
theorem VF{n k:Nat}(h:n<2 ^ k):(dc n).length<=k+1:=by
 unfold dc;rw[length_map];refine (Nat.length_toDigits_le_iff ∎ (Nat.succ_pos k)).mpr (lt_of_lt_of_le h ?_);exact le_trans (Nat.pow_le_pow_left ∎ k) (Nat.pow_le_pow_right ∎ (le_succ k))
theorem tK{a:Int}{k:Nat}(h:bi a<=k):(dec a).length<=k+2:=by
 have:=VF (nY h);unfold dec;split
 .rw[length_cons];omega
 .omega
theorem yN{a:Int}{k:Nat}(h:bi a<=k)(b:k<=1900):a.natAbs.log2<1920:=by
 unfold bi bl at h;split at h
 .rename_i z;rw[z];decide
 .omega
theorem Ia(i:Int)(Q:ar)(h:i.natAbs.log2<1920)(q:Q (.str (tx (dec i)))):wu [.int i] Q:=⟨h,by rw[Gh];exact q⟩
theorem VG(q:Rat):dec (q.den:Int)=dc q.den:=by unfold dec;rw[if_neg ⋯,Int.natAbs_natCast]
theorem xg(T:Tx w K mg){z:Bool}:aB P w K mg base bq 1 T.nc.a T.nc.d ["number"] (bx K z 0 1 BQ):=by
 refine b0 T.nc.F LW rfl ∎ λaR A outer s H E l m i=>?_
 refine⟨_,(aO (bp 1 (gG xf Ga T.o9 (aq (b7 (qv 0) aE) aI)))
  (aO (bI (bc bY bW (b7 (qv 0) aE) aE) (aN (br (qv 1))) bX)
  (aO (bp 2 (gG xf Ga T.o9 (aq (b7 (qv 0) aE) aI)))
  (aN (br (iV (fk (qv 1) (gF (fk (qv 2) iU))))))))),?_⟩
 rintro p h _ ⟨_,q,rfl,g,k⟩;rfl';have b:=Xa g;have f:=le_trans (WI q) g;have n:=tK b;have o:=tK f;refine Ia _ _ (yN b ∎) ?_;rfl';unfold b3 at k;split
 .rename_i c;have c:(q.den:Int)=1:=of_decide_eq_true c;rw[if_pos ⋯] at k;exact k _
 .rename_i c;have c:¬ (q.den:Int)=1:=λz=>c (decide_eq_true z)
  rw[if_neg ⋯,<- VG] at k;refine Ia _ _ (yN f ∎) ?_;rfl';have e:Str.empty=tx []:=rfl;rw[e,z8,nT,nT,nT,b6,b6,b6,b6,b6];have k:∀j,h (.str (tx ([]++dec q.num++[47]++dec q.den))) j:=by rw[show []++dec q.num++[47]++dec (q.den:Int)=dec q.num++47::dec (q.den:Int) by simp];exact k
  simp only[length_append,length_nil,length_cons];exact⟨⋯,⋯,⋯,⋯,⋯,⋯,k _⟩
def Kz(C:ah):dY:=λc Q q=>c.length=1/\∃L:List Nat,c=[.str (tx L)]/\L.length<=20000/\(∀a b,d9 L=some (a,b)->∀j,Q (.aY [.int a,.int b]) j)/\(d9 L=none->q (.ref C))
theorem xj(c:Nat):∀L:List Nat,(bH c L).length<=L.length+1
 |[]=>le_refl _
 |x::r=>by
  have b:=xj c r;have e:bH c (x::r)=if x=c then []::bH c r else match bH c r with |[]=>[[x]] |p::a=>(x::p)::a:=rfl
  rw[e];split
  .rw[length_cons,length_cons];omega
  .cases hs:bH c r with
   |nil=>show 1<=_;omega
   |cons p a=>rw[hs] at b;show a.length+1<=_;rw[length_cons] at b ⊢;omega
theorem sP{c:Nat}:∀{L p:List Nat},p∈bH c L->p.length<=L.length
 |[],p,m=>by rw[mem_singleton.mp m];exact le_refl _
 |x::r,p,m=>by
  have e:bH c (x::r)=if x=c then []::bH c r else match bH c r with |[]=>[[x]] |p::b=>(x::p)::b:=rfl
  rw[e] at m;have a:=λ{p:List Nat}(m:p∈bH c r)=>sP m
  split at m
  .rcases mem_cons.mp m with m |m
   .rw[m];exact zero_le _
   .exact Nat.le_succ_of_le (a m)
  .cases hs:bH c r with
   |nil=>exact absurd hs (jC _ _)
   |cons q b=>
    rw[hs] at m a;rcases mem_cons.mp m with m |m
    .rw[m];exact Nat.succ_le_succ (a mem_cons_self)
    .exact Nat.le_succ_of_le (a (mem_cons_of_mem _ m))
theorem IF(L:List Nat):oj (tx L) (tx [45])=decide (L.head?=some 45):=by
 unfold oj;cases L with
 |nil=>rfl
 |cons c r=>
  have h:=StrLaws.subAt_one (tx (c::r)) 45 0;rw[dy] at h;have h:0+(tx [45]).length<=(tx (c::r)).length/\Builtin.Str.subAt (tx (c::r)) (tx [45]) 0=true↔(c::r)[0]?=some 45:=h;rw[Bool.eq_iff_iff,and_eq_true,decide_eq_true_eq,decide_eq_true_eq,h];rfl
theorem Iq{L:List Nat}:Txt.slice (tx L) (some 1) none=tx L.tail:=by
 show StrLaws.sliceText (tx L) (some 1) none=_;cases L with
 |nil=>rfl
 |cons c r=>
  rw[StrLaws.sliceText_from ⟨∎,by rw[dy,length_cons];omega⟩];rw[dy];show tx (List.take ((((c::r).length:Nat):Int) - 1).toNat (List.drop 1 (c::r)))=tx r;rw[List.drop_one,List.tail_cons,take_of_length_le (by rw[length_cons];omega)]
theorem qJ{L:List Nat}(h:whole 6 L=true):vl L<1000000:=by
 have e:=uf h;have l:=(gQ h).2.1;rw[<- e] at l;unfold dc at l;rw[length_map] at l;exact (Nat.length_toDigits_le_iff ∎ ∎).mp l
theorem Ib{b:List Nat}(h:whole 6 b=true):intText? (tx b)=some (vl b:Int):=by
 let⟨a,d,c,_⟩:=gQ h;exact intText_digits (k6 c) a (by rw[b6];omega)
theorem X1{L p:List Nat}(f:p.head?=some 45↔L.head?=some 45)(h:whole 6 (strip p)=true):intText? (tx p)=some (sgn L (vl (strip p))):=by
 let⟨a,d,b,_⟩:=gQ h;unfold sgn;by_cases c:L.head?=some 45
 .rw[if_pos c];have e:=Fh (f.mpr c);exact intText_neg (cs:=strip p) e (k6 b) a (by rw[b6,e,length_cons];omega)
 .rw[if_neg c];have e:=xZ (λz=>c (f.mp z));rw[e] at h ⊢;exact Ib h
theorem Es(p:List Nat):(strip p).length<=p.length:=by
 unfold strip;split
 .rw[List.length_tail];omega
 .exact le_refl _
theorem OZ(p:List Nat):p.length<=(strip p).length+1:=by
 unfold strip;split
 .rw[List.length_tail];omega
 .omega
theorem Et(ps:List (List Nat)):((ps.map tx).map λx:Str=>whole 6 x.cps.toList).all id=ps.all (whole 6):=by
 rw[map_map,all_map];rfl
theorem IG(x t:Tr)(xs:ai)(Q:aG):kM (x::xs) (.int 0) t Q=Q (t::xs):=by
 have e:gp (x::xs).length 0=some 0:=by unfold gp;rw[if_pos ∎,if_pos (by rw[length_cons];omega)];rfl
 unfold kM;dsimp only;rw[e];rfl
theorem uA(x:Str)(l h:bt)(Q:ar):rh (.str x) l h Q=(x.length<=1000000/\Q (.str (Txt.slice x l h))):=rfl
theorem tL{q:Rat}(h:bs q<=400){Q:Tr->aG}(k:∀j,Q (.str (tx (b3 q))) j):BQ [av.t q] Q:=⟨rfl,q,rfl,h,k⟩
theorem Gk{a b:Int}(c:b≠0)(h:bi b<=7990){Q:Tr->aG}(k:∀j,Q (av.t (Rat.divInt a b)) j):BN [.int a,.int b] Q:=⟨rfl,a,b,rfl,c,h,k⟩
theorem L6(T:Tx w K mg){z:Bool}:aB P w K mg base (b4 P w) 3 T.rF.a T.rF.d ["word"] (cv K z 0 1 (Kz T.acv)):=by
 refine gn T.rF.F LV rfl ∎ λaR A outer s H E qx hr hu hN=>?_
 refine⟨_,(aO (bp 1 (tV (qv 0) aC ⟨rfl,rfl,rfl,rfl⟩))
  (aO (lB 2 (gG (Wf rfl) R6 T.Kc (aq (qv 1) aI)))
  (aO (bI (eE (Sb (qv 0) aC ⟨rfl,rfl,rfl,rfl⟩)) (aN (ud (ew 2) aE (dX (b7 (qv 1) aE) (cS aE) eG))) bX)
  (aO (bI (QW.t (e9 (bc kn ke (cA dk dt T.cY (aq (qv 1) aI)) aE) (gk (kc (eE (cA (xt rfl) yt T.vx (aq (la ["piece"] [none] (uI (qv 2)) (lH 0) (λ_ _ _ _ _=>(qc T.m9 (xo T) (aq (qv 0) (aq (qQ T.acl) aI))))) aI))))))) (aN (iW rfl rfl rfl rfl rfl rfl T.ir PySem.F.excBase_ValueError T.jo aC)) bX)
  (aO (bp 3 (zo (bc bY bW (cA dk dt T.cY (aq (qv 1) aI)) aE) (gG mh mj T.jq (aq (b7 (qv 1) aE) aI)) aE))
  (aO (bI (bc bY bW (qv 3) aE) (aN (iW rfl rfl rfl rfl rfl rfl T.ir PySem.F.excBase_ValueError T.jo aC)) bX)
  (aO (bp 4 (qc T.rK (VE T) (aq (gG mh mj T.jq (aq (b7 (qv 1) aE) aI)) (aq (qv 3) aI))))
  (aO (bI (bc g8 gR (qc T.nc (xg T) (aq (qv 4) aI)) (qv 0)) (aN (iW rfl rfl rfl rfl rfl rfl T.ir PySem.F.excBase_ValueError T.jo aC)) bX)
  (aN (br (qv 4))))))))))),?_⟩
 rintro xs Q' _ ⟨_,L,rfl,O,q,n⟩;rfl';rw[z8,HJ,IF,sV,dy];have D:=xj 47 L;cases hs:bH 47 L with
 |nil=>exact absurd hs (jC _ _)
 |cons p e=>
  rw[hs] at D;let⟨f1,r⟩:=n7 hs;have pl:=sP (c:=47) (L:=L) (p:=p) (by rw[hs];exact mem_cons_self);have bl:∀b∈e,b.length<=20000:=λb m=>le_trans (sP (c:=47) (L:=L) (by rw[hs];exact mem_cons_of_mem _ m)) O
  have sl:=Es p;rw[length_map];refine⟨rfl,by rw[b6];omega,⋯,?_⟩;rfl';simp only[map_some];have J:¬ ((2:Int)<((e.length+1:Nat):Int))->e=[]\/∃b,e=[b]:=λh=>by
   cases e with
   |nil=>exact .inl rfl
   |cons b e=>cases e with
    |nil=>exact .inr ⟨b,rfl⟩
    |cons c e=>exact absurd (by simp only[length_cons];omega) h
  have wl:∀x∈(strip p::e).map tx,∃M:List Nat,x=tx M/\M.length<=20000:=λx m=>by
   let⟨M,i,rfl⟩:=mem_map.mp m;refine⟨M,rfl,?_⟩;rcases mem_cons.mp i with rfl |i
   .omega
   .exact bl M i
  split
  case' isTrue=>
   rename_i c;have c:=of_decide_eq_true c;rfl';rw[uA];refine⟨by rw[b6];omega,?_⟩;rw[Iq,show p.tail=strip p by unfold strip;rw[if_pos (r.mpr c)]];rfl';rw[IG]
  case' isFalse=>
   rename_i c;have c:¬ L.head?=some 45:=λz=>c (decide_eq_true z)
   have B:strip p=p:=xZ (λz=>c (r.mp z))
  all_goals
   split
   .rename_i o;exact n (tD hs (.inl (by have:=of_decide_eq_true o;rw[length_cons];omega)))
   rename_i o;have I:=J (λz=>o (decide_eq_true z));rfl'
  case' isTrue.isFalse=>
   refine bN.map ((strip p::e).map tx) av.t (λx=>whole 6 x.cps.toList) (by rw[length_map,length_cons];rw[length_cons] at D;omega) (λx v R u=>?_) ?_
  case' isFalse.isFalse=>
   refine bN.map ((p::e).map tx) av.t (λx=>whole 6 x.cps.toList) (by rw[length_map];omega) (λx v R u=>?_) ?_
  case isTrue.isFalse.refine_1=>
   let⟨M,rfl,i⟩:=wl x v;rfl';exact⟨rfl,M,6,rfl,⋯,λj=>u⟩
  case isFalse.isFalse.refine_1=>
   rw[B] at wl;let⟨M,rfl,i⟩:=wl x v;rfl';exact⟨rfl,M,6,rfl,⋯,λj=>u⟩
  case' isTrue.isFalse.refine_2=>
   refine⟨_,rfl,?_⟩;rw[if_pos rfl,Et]
  case' isFalse.isFalse.refine_2=>
   refine⟨_,rfl,?_⟩;rw[if_pos rfl,Et,show (p::e).all (whole 6)=(strip p::e).all (whole 6) by rw[B]]
  all_goals
   rfl';split
   .rename_i g;exact n (tD hs (.inr (by rw[Bool.not_eq_true'] at g;exact g)))
   rename_i g;have g:(strip p::e).all (whole 6)=true:=by simpa using g
   rw[all_cons,and_eq_true] at g;have l:=g.1;have Y:=(gQ l).2.1;have U:=OZ p;have hv:=qJ l;have C:=X1 (L:=L) r l;have y:bi (sgn L (vl (strip p)))<=20:=ET 20 (by rw[lh];omega);rcases I with rfl |⟨b,rfl⟩
   .split
    .rename_i z;exact absurd (of_decide_eq_true z) (show ¬ ((1:Nat):Int)=2 by decide)
    rw[if_neg ∎];refine⟨_,C,by rw[b6];omega,Gk ∎ (by walk_at "k") λj=>?_⟩;let⟨r1,r2⟩:=uy hs l;rfl';refine tL (le_trans (EJ (k:=20) ∎ y (by walk_at "k")) ∎) λj=>?_
    rfl';rw[kf];split
    .rename_i f;exact n (r2 (by simpa using f))
    .rename_i f;have d:=q _ _ (r1 (by simpa using f));have N:Rat.divInt (sgn L (vl (strip p))) 1=((sgn L (vl (strip p)):Int):Rat):=by rw[<- Rat.num_divInt_den ((sgn L (vl (strip p)):Int):Rat),Rat.num_intCast,Rat.den_intCast];rfl
     rw[N];exact d _
   .have hb:whole 6 b=true:=by simpa using g.2
    have Q:=qJ hb;have G:bi (vl b:Int)<=20:=ET 20 ⋯;have lb:=(gQ hb).2.1;split;rotate_left
    .rename_i z;exact absurd (decide_eq_true (show ((2:Nat):Int)=2 by decide)) z
    refine uw _ _ (tx b) (sJ _ _ _) ?_;rfl';refine⟨_,Ib hb,by rw[b6];omega,?_⟩;split
    .rename_i f;have f:((vl b:Nat):Int)=0:=of_decide_eq_true f;exact n (Er hs ⋯)
    rename_i f;have f:¬ ((vl b:Nat):Int)=0:=λz=>f (decide_eq_true z)
    refine⟨_,C,by rw[b6];omega,Gk f ⋯ λj=>?_⟩;let⟨r1,r2⟩:=uz hs l hb ⋯;rfl';refine tL (le_trans (EJ (k:=20) f y G) ∎) λj=>?_
    rfl';rw[kf];split
    .rename_i c7;exact n (r2 (by simpa using c7))
    .rename_i c7;exact q _ _ (r1 (by simpa using c7)) _
theorem sX(x:Str):∀ns:ae,i6 (.str x) (ns.map Tr.str)=decide (x∈ns)
 |[]=>rfl
 |n::ns=>by
  have a:=sX x ns;unfold i6 qO at a ⊢;rw[map_cons,map_cons,any_cons,a];by_cases h:x=n
  .simp[h,kT,fZ]
  .simp[h,kT,fZ,Ne.symm h]
theorem b9:∀ns:ae,(ns.map Tr.str).all iP=true
 |[]=>rfl
 |n::ns=>by rw[map_cons,all_cons,b9 ns];rfl
theorem mC{neg:Bool}{x:Str}{ns:ae}{Q:ar}(q:Q (.bl (if neg=true then !decide (x∈ns) else decide (x∈ns)))):kC neg (.str x) (.aY (ns.map Tr.str)) Q:=⟨rfl,b9 ns,by rw[sX];exact q⟩
theorem lj(a:Str):Str.empty++a=a:=by
 cases a with |mk c=>show Str.mk (#[]++c)=_;rw[Array.empty_append]
theorem ba(a b:Str):(a++b).length=a.length+b.length:=by
 show (a.cps++b.cps).size=_;rw[Array.size_append];rfl
def cB(x:Str):Bool:=decide (x∈([("top":Str),"height","bottom","centre","drop"]:ae))
def j4(x:Str):Str:=if cB x=true then "down" else "across"
def KO:cf:=dR 1 λa Q=>∃x:Str,a=[.str x]/\Q (.str (j4 x))
theorem Qf(T:Tx w K mg){z:Bool}:aB P w K mg base bq 1 T.rH.a T.rH.d ["word"] (bx K z 0 1 KO):=by
 refine b0 T.rH.F Qd rfl ∎ λaR A outer s H E e f c=>?_
 refine⟨_,(aN (br (zo (bc lG k9 (qv 0) (n6 ["top","height","bottom","centre","drop"] rfl T.Ar T.As)) aC aC))),?_⟩;rintro g b _ ⟨_,x,rfl,q⟩;rfl';refine mC (ns:=["top","height","bottom","centre","drop"]) ?_;rw[show j4 x=(if decide (x∈([("top":Str),"height","bottom","centre","drop"]:ae))=true then ("down":Str) else "across") from rfl] at q;rfl';by_cases h:x∈([("top":Str),"height","bottom","centre","drop"]:ae)
 .rw[if_pos (decide_eq_true h)] at q ⊢;exact q _
 .rw[if_neg (by rw[decide_eq_true_eq];exact h)] at q ⊢;exact q _
def Cp(C:ah)(f:Str):cf:=λa Q=>a.length=2/\∃v:Tr,a=[Tr.ins .o C [],v]/\Cl v=true/\v≠.aL/\∀j:ai,j[0]?=some (Tr.ins .o C [(f,v)])->Q .aX j
def ny(C:ah)(f g:Str):cf:=λa Q=>a.length=3/\∃v u:Tr,a=[Tr.ins .o C [],v,u]/\Cl v=true/\v≠.aL/\Cl u=true/\u≠.aL/\∀j:ai,j[0]?=some (Tr.ins .o C [(f,v),(g,u)])->Q .aX j
theorem j7{t:Tr}{Q:ar}(h:t≠.aL)(q:Q t):pV (some t) Q:=by
 cases t with
 |aL=>exact absurd rfl h
 |_=>exact q
theorem lC{f g:Str}{v u:Tr}(h:¬ f=g):gi g u [(f,v)]=[(f,v),(g,u)]:=by
 show (if f=g then _ else _)=_;rw[if_neg h];rfl
theorem La(T:Tx w K mg){z:Bool}:aB P w K mg base bq 1 T.rS.a T.rS.d ["self","number"] (bx K z 1 2 (Cp T.aaa "number")):=by
 refine b0 T.rS.F K8 rfl ∎ λaR A outer s H E h i g=>?_
 refine⟨_,(aN (gm (ew 0) (qv 1))),?_⟩;rintro j f _ ⟨_,v,rfl,b,e,q⟩;have c:=ez v b;rfl';rw[c.l];exact j7 e ⟨c.t,⟨T.ou,T.An⟩,∎,q _ rfl⟩
theorem LM(T:Tx w K mg){z:Bool}:aB P w K mg base bq 1 T.rT.a T.rT.d ["self","word","name"] (bx K z 1 3 (ny T.aae "word" "name")):=by
 refine b0 T.rT.F LG rfl ∎ λaR A outer s H E j k i=>?_
 refine⟨_,(aO (gm (ew 0) (qv 1))
  (aN (gm (ew 0) (qv 2)))),?_⟩
 rintro m h _ ⟨_,v,u,rfl,b,e,f,g,q⟩;have c:=ez v b;have d:=ez u f;rfl';rw[c.l,d.l];exact j7 e ⟨c.t,⟨T.jQ,T.vj⟩,∎,j7 g ⟨d.t,⟨T.jQ,T.vk⟩,∎,q _ (by rw[lC (by walk_at "k")];rfl)⟩⟩
theorem Lw(T:Tx w K mg){z:Bool}:aB P w K mg base bq 1 T.ox.a T.ox.d ["self","number","inner"] (bx K z 1 3 (ny T.aaj "number" "inner")):=by
 refine b0 T.ox.F Lu rfl ∎ λaR A outer s H E j k i=>?_
 refine⟨_,(aO (gm (ew 0) (qv 1))
  (aN (gm (ew 0) (qv 2)))),?_⟩
 rintro m h _ ⟨_,v,u,rfl,b,e,f,g,q⟩;have c:=ez v b;have d:=ez u f;rfl';rw[c.l,d.l];exact j7 e ⟨c.t,⟨T.jg,T.Ao⟩,∎,j7 g ⟨d.t,⟨T.jg,T.vm⟩,∎,q _ (by rw[lC (by walk_at "k")];rfl)⟩⟩
theorem LN(T:Tx w K mg){z:Bool}:aB P w K mg base bq 1 T.oy.a T.oy.d ["self","one","other"] (bx K z 1 3 (ny T.aao "one" "other")):=by
 refine b0 T.oy.F LH rfl ∎ λaR A outer s H E j k i=>?_
 refine⟨_,(aO (gm (ew 0) (qv 1))
  (aN (gm (ew 0) (qv 2)))),?_⟩
 rintro m h _ ⟨_,v,u,rfl,b,e,f,g,q⟩;have c:=ez v b;have d:=ez u f;rfl';rw[c.l,d.l];exact j7 e ⟨c.t,⟨T.iN,T.vn⟩,∎,j7 g ⟨d.t,⟨T.iN,T.vo⟩,∎,q _ (by rw[lC (by walk_at "k")];rfl)⟩⟩
theorem Lx(T:Tx w K mg){z:Bool}:aB P w K mg base bq 1 T.oz.a T.oz.d ["self","one","other"] (bx K z 1 3 (ny T.aat "one" "other")):=by
 refine b0 T.oz.F Lv rfl ∎ λaR A outer s H E j k i=>?_
 refine⟨_,(aO (gm (ew 0) (qv 1))
  (aN (gm (ew 0) (qv 2)))),?_⟩
 rintro m h _ ⟨_,v,u,rfl,b,e,f,g,q⟩;have c:=ez v b;have d:=ez u f;rfl';rw[c.l,d.l];exact j7 e ⟨c.t,⟨T.iO,T.vp⟩,∎,j7 g ⟨d.t,⟨T.iO,T.vq⟩,∎,q _ (by rw[lC (by walk_at "k")];rfl)⟩⟩
def bz(T:Tx w K mg):Tm->Tr
 |.num q=>.ins .f T.aaa [("number",av.t q)]
 |.bC a n=>.ins .f T.aae [("word",.str a),("name",.str n)]
 |.times q t=>.ins .f T.aaj [("number",av.t q),("inner",bz T t)]
 |.plus a b=>.ins .f T.aao [("one",bz T a),("other",bz T b)]
 |.minus a b=>.ins .f T.aat [("one",bz T a),("other",bz T b)]
theorem gH(T:Tx w K mg):∀t:Tm,Cl (bz T t)=true
 |.num q=>by show (Cl (av.t q)&&true)=true;rw[av.c];rfl
 |.bC a n=>rfl
 |.times q t=>by show (Cl (av.t q)&&(Cl (bz T t)&&true))=true;rw[av.c,gH T t];rfl
 |.plus a b=>by show (Cl (bz T a)&&(Cl (bz T b)&&true))=true;rw[gH T a,gH T b];rfl
 |.minus a b=>by show (Cl (bz T a)&&(Cl (bz T b)&&true))=true;rw[gH T a,gH T b];rfl
theorem qK(T:Tx w K mg)(t:Tm):bz T t≠.aL:=by cases t<;>exact λz=>by cases z
theorem ft(T:Tx w K mg)(t:Tm):aM (bz T t)=bz T t:=(ez _ (gH T t)).l
theorem il(T:Tx w K mg)(t:Tm):Pu.aU (bz T t)=bz T t:=(ez _ (gH T t)).f
theorem eP(T:Tx w K mg)(t:Tm):dn (bz T t)=bz T t:=(ez _ (gH T t)).d
theorem kx(T:Tx w K mg)(t:Tm):ck (bz T t)=true:=(ez _ (gH T t)).o
theorem oa(T:Tx w K mg)(t:Tm):b8 (bz T t)=true:=(ez _ (gH T t)).t
theorem ky(T:Tx w K mg)(t:Tm)(Q:ar):pV (some (bz T t)) Q=Q (bz T t):=by cases t<;>rfl
def DT(T:Tx w K mg)(C:ah)(g:Nat):Prop:=(C=T.aaa/\g=0)\/(C=T.aae/\g=1)\/(C=T.aaj/\g=2)\/(C=T.aao/\g=3)\/(C=T.aat/\g=4)
theorem NK{m f:Str}{v:Tr}(h:(m == f)=false):[(f,v)].lookup m=none:=by simp[List.lookup,h]
theorem uD{m f g:Str}{v u:Tr}(h:(m == f)=false)(h':(m == g)=false):[(f,v),(g,u)].lookup m=none:=by simp[List.lookup,h,h']
theorem yO(T:Tx w K mg){m:Str}{t:Tm}{Q:Nat->Prop}(a:(m == ("number":Str))=false)(d:(m == ("word":Str))=false)(e:(m == ("name":Str))=false)(f:(m == ("inner":Str))=false)(b:(m == ("one":Str))=false)(c:(m == ("other":Str))=false)(q:Q t.tag):fq (DT T) m (bz T t) Q:=by
 cases t with
 |num _=>exact⟨0,.inl ⟨rfl,rfl⟩,NK a,q⟩
 |bC _ _=>exact⟨1,.inr (.inl ⟨rfl,rfl⟩),uD d e,q⟩
 |times _ _=>exact⟨2,.inr (.inr (.inl ⟨rfl,rfl⟩)),uD a f,q⟩
 |plus _ _=>exact⟨3,.inr (.inr (.inr (.inl ⟨rfl,rfl⟩))),uD b c,q⟩
 |minus _ _=>exact⟨4,.inr (.inr (.inr (.inr ⟨rfl,rfl⟩))),uD b c,q⟩
theorem lD{f g:Str}{c:ah}{k:Fl}{x:Tr}{r:bT}{Q:ar}(a:dF K c)(b:aD K c f)(q:Q x):gV K f (.ins k c ((f,x)::r)) Q:=by
 refine⟨⟨a,b⟩,?_⟩;rw[List.lookup_cons_self];exact q
theorem lE{f g:Str}{c:ah}{k:Fl}{x y:Tr}{Q:ar}(a:dF K c)(b:aD K c f)(h:(f == g)=false)(q:Q x):gV K f (.ins k c [(g,y),(f,x)]) Q:=by
 refine⟨⟨a,b⟩,?_⟩;rw[lookup_cons,h,List.lookup_cons_self];exact q
theorem Ir{t:Tm}(h:t.tag=0):∃q,t=.num q:=by cases t<;>first |exact⟨_,rfl⟩ |cases h
theorem Iu{t:Tm}(h:t.tag=1):∃a b,t=.bC a b:=by cases t<;>first |exact⟨_,_,rfl⟩ |cases h
theorem uL{t:Tm}(h:t.tag=2):∃a b,t=.times a b:=by cases t<;>first |exact⟨_,_,rfl⟩ |cases h
theorem uM{t:Tm}(h:t.tag=3):∃a b,t=.plus a b:=by cases t<;>first |exact⟨_,_,rfl⟩ |cases h
theorem uN{t:Tm}(h:t.tag=4):∃a b,t=.minus a b:=by cases t<;>first |exact⟨_,_,rfl⟩ |cases h
def gS(T:Tx w K mg)(n g:Nat):cf:=dR 1 λa Q=>∃t:Tm,a=[bz T t]/\t.tag=g/\t.dep<=n/\(cu t).length<=1000/\Q (.ak .o ((cu t).map av.t))
theorem nH(T:Tx w K mg){n:Nat}{t:Tm}(hd:t.dep<=n)(a:(cu t).length<=1000){Q:Tr->aG}(q:∀j,Q (.ak .o ((cu t).map av.t)) j):fq (DT T) "edges" (bz T t) λg=>gS T n g [bz T t] Q:=yO T (by walk_at "k") (by walk_at "k") (by walk_at "k") (by walk_at "k") (by walk_at "k") (by walk_at "k") ⟨rfl,t,rfl,rfl,hd,a,q⟩
theorem tE{j:Type}[av j](xs:List j):dC ↥xs=true:=zC xs
theorem MB(T:Tx w K mg)(n:Nat):aB P w K mg base bq 1 T.oY.a T.oY.d ["self"] (bx K true 0 1 (gS T n 0)):=by
 refine b0 T.oY.F Mn rfl ∎ λaR A outer s H E h i e=>?_
 refine⟨_,(aN (br (cF aI))),?_⟩;rintro j c _ ⟨_,t,rfl,b,hd,g,q⟩;let⟨a,rfl⟩:=Ir b;rw[show bz T (.num a)=.ins .f T.aaa [("number",av.t a)] from rfl];rfl';exact q _
theorem MC(T:Tx w K mg)(n:Nat):aB P w K mg base bq 1 T.o6.a T.o6.d ["self"] (bx K true 0 1 (gS T n 1)):=by
 refine b0 T.o6.F MA rfl ∎ λaR A outer s H E j k h=>?_
 refine⟨_,(aN (br (cF (aq (qF (aq (dz K (qv 0)) (aq (dz K (qv 0)) aI))) aI)))),?_⟩;rintro l e _ ⟨_,t,rfl,c,hd,i,q⟩;let⟨a,b,rfl⟩:=Iu c;rw[show bz T (.bC a b)=.ins .f T.aae [("word",.str a),("name",.str b)] from rfl];rfl';refine lD (g:="name") T.jQ T.vj ?_;rfl';refine lE T.jQ T.vk (by walk_at "k") ?_;rfl';exact q _
theorem L7(T:Tx w K mg)(m:Nat)(h:∀C g,DT T C g->aQ P w K mg base bq (m+1) "edges" C ["self"] (bx K true 0 1 (gS T m g))):aB P w K mg base bq (m+2) T.jh.a T.jh.d ["self"] (bx K true 0 1 (gS T (m+1) 2)):=by
 refine b0 T.jh.F Du rfl ∎ λaR A outer s H E l n k=>?_
 refine⟨_,(aN (br (eK (h) (dz K (qv 0))))),?_⟩;rintro o i _ ⟨_,t,rfl,e,hd,c,q⟩;let⟨b,t,rfl⟩:=uL e;rw[show bz T (.times b t)=.ins .f T.aaj [("number",av.t b),("inner",bz T t)] from rfl];rfl';refine lE T.jg T.vm (by walk_at "k") ?_;simp only[ft,eP];exact nH T (Nat.le_of_succ_le_succ hd) c λj=>⟨tE (cu t),q _⟩
theorem MD(T:Tx w K mg)(m:Nat)(e:∀C g,DT T C g->aQ P w K mg base bq (m+1) "edges" C ["self"] (bx K true 0 1 (gS T m g))):aB P w K mg base bq (m+2) T.jj.a T.jj.d ["self"] (bx K true 0 1 (gS T (m+1) 3)):=by
 refine b0 T.jj.F DD rfl ∎ λaR A outer s H E l n k=>?_
 refine⟨_,(aN (br (bG (eK (e) (dz K (qv 0))) (eK (e) (dz K (qv 0)))))),?_⟩;rintro o i _ ⟨_,t,rfl,h,hd,c,q⟩;let⟨a,b,rfl⟩:=uM h;have hd:max a.dep b.dep+1<=m+1:=hd;have c:(cu a++cu b).length<=1000:=c;rw[length_append] at c;rw[show bz T (.plus a b)=.ins .f T.aao [("one",bz T a),("other",bz T b)] from rfl];rfl';refine lD (g:="other") T.iN T.vn ?_;simp only[ft,eP];refine nH T ⋯ ⋯ λj=>?_
 try rfl'
 refine lE T.iN T.vo (by walk_at "k") ?_;simp only[ft,eP];refine nH T ⋯ ⋯ λj=>?_
 rfl';rw[<- map_append];exact⟨⋯,tE _,q _⟩
theorem L8(T:Tx w K mg)(m:Nat)(e:∀C g,DT T C g->aQ P w K mg base bq (m+1) "edges" C ["self"] (bx K true 0 1 (gS T m g))):aB P w K mg base bq (m+2) T.jl.a T.jl.d ["self"] (bx K true 0 1 (gS T (m+1) 4)):=by
 refine b0 T.jl.F Dv rfl ∎ λaR A outer s H E l n k=>?_
 refine⟨_,(aN (br (bG (eK (e) (dz K (qv 0))) (eK (e) (dz K (qv 0)))))),?_⟩;rintro o i _ ⟨_,t,rfl,h,hd,c,q⟩;let⟨a,b,rfl⟩:=uN h;have hd:max a.dep b.dep+1<=m+1:=hd;have c:(cu a++cu b).length<=1000:=c;rw[length_append] at c;rw[show bz T (.minus a b)=.ins .f T.aat [("one",bz T a),("other",bz T b)] from rfl];rfl';refine lD (g:="other") T.iO T.vp ?_;simp only[ft,eP];refine nH T ⋯ ⋯ λj=>?_
 try rfl'
 refine lE T.iO T.vq (by walk_at "k") ?_;simp only[ft,eP];refine nH T ⋯ ⋯ λj=>?_
 rfl';rw[<- map_append];exact⟨⋯,tE _,q _⟩
theorem L9(T:Tx w K mg):aB P w K mg base bq 1 T.jh.a T.jh.d ["self"] (bx K true 0 1 (gS T 0 2)):=by
 refine b0 T.jh.F Du rfl ∎ λaR A outer s H E g h f=>⟨_,aN tQ,?_⟩
 rintro i e _ ⟨_,t,rfl,c,hd,_⟩;let⟨a,b,rfl⟩:=uL c;exact absurd hd (Nat.not_succ_le_zero _)
theorem ME(T:Tx w K mg):aB P w K mg base bq 1 T.jj.a T.jj.d ["self"] (bx K true 0 1 (gS T 0 3)):=by
 refine b0 T.jj.F DD rfl ∎ λaR A outer s H E g h f=>⟨_,aN tQ,?_⟩
 rintro i e _ ⟨_,t,rfl,c,hd,_⟩;let⟨a,b,rfl⟩:=uM c;exact absurd hd (Nat.not_succ_le_zero _)
theorem Ma(T:Tx w K mg):aB P w K mg base bq 1 T.jl.a T.jl.d ["self"] (bx K true 0 1 (gS T 0 4)):=by
 refine b0 T.jl.F Dv rfl ∎ λaR A outer s H E g h f=>⟨_,aN tQ,?_⟩
 rintro i e _ ⟨_,t,rfl,c,hd,_⟩;let⟨a,b,rfl⟩:=uN c;exact absurd hd (Nat.not_succ_le_zero _)
theorem RJ(T:Tx w K mg):∀n,∀C g,DT T C g->aQ P w K mg base bq (n+1) "edges" C ["self"] (bx K true 0 1 (gS T n g)):=λn=>by
 have a:∀n C g,(C=T.aaa/\g=0)\/(C=T.aae/\g=1)->aQ P w K mg base bq 1 "edges" C ["self"] (bx K true 0 1 (gS T n g)):=λn C g h=>by
  rcases h with⟨rfl,rfl⟩ |⟨rfl,rfl⟩
  .exact⟨T.ou,_,_,T.oY.t,(MB T n).mono ∎,T.oY.b⟩
  .exact⟨T.jQ,_,_,T.o6.t,(MC T n).mono ∎,T.o6.b⟩
 induction n with
 |zero=>
  intro C g h;rcases h with h |h |⟨rfl,rfl⟩ |⟨rfl,rfl⟩ |⟨rfl,rfl⟩
  .exact a 0 C g (.inl h)
  .exact a 0 C g (.inr h)
  .exact⟨T.jg,_,_,T.jh.t,(L9 T).mono ∎,T.jh.b⟩
  .exact⟨T.iN,_,_,T.jj.t,(ME T).mono ∎,T.jj.b⟩
  .exact⟨T.iO,_,_,T.jl.t,(Ma T).mono ∎,T.jl.b⟩
 |succ m c=>
  intro C g h;rcases h with h |h |⟨rfl,rfl⟩ |⟨rfl,rfl⟩ |⟨rfl,rfl⟩
  .exact (a (m+1) C g (.inl h)).mono ⋯
  .exact (a (m+1) C g (.inr h)).mono ⋯
  .exact⟨T.jg,_,_,T.jh.t,(L7 T m c).mono ⋯,T.jh.b⟩
  .exact⟨T.iN,_,_,T.jj.t,(MD T m c).mono ⋯,T.jj.b⟩
  .exact⟨T.iO,_,_,T.jl.t,(L8 T m c).mono ⋯,T.jl.b⟩
noncomputable def cC(t:Tm):ae:=mV (cI ((cu t).map λe=>j4 e.1))
def vO(T:Tx w K mg)(n:Nat):cf:=dR 1 λa Q=>∃t:Tm,a=[bz T t]/\t.dep<=n/\(cu t).length<60/\Q (.ak .o ((cC t).map av.t))
theorem pX(T:Tx w K mg)(n:Nat):aB P w K mg base bq (n+3) T.ia.a T.ia.d ["self"] (bx K true 0 1 (vO T n)):=by
 refine b0 T.ia.F MO rfl ∎ λaR A outer s H E i k g=>?_
 refine⟨_,(aN (br (IC rfl rfl T.Kd rfl T.AW (la ["edge"] [none] (uI (eK (RJ T n) (qv 0))) (lH 0) (λ_ _ _ _ _=>(qc T.rH (Qf T) (aq (b7 (qv 0) aE) aI))))))),?_⟩;rintro l f _ ⟨_,t,rfl,hd,c,q⟩;simp only[cons_append,nil_append];rfl';simp only[ft,eP,ky];refine nH T hd ⋯ λj=>?_
 rfl';refine bN.map (cu t) av.t (λe=>j4 e.1) ⋯ (λe h R b=>?_) ?_
 .rw[show (av.t e:Tr)=.aY [.str e.1,.str e.2] from rfl];rfl';exact⟨rfl,e.1,rfl,λj=>b⟩
 .exact⟨.o,_,rfl,by rw[length_map];exact c,tE _,q _⟩
theorem Gm(T:Tx w K mg)(n:Nat):∀C g,DT T C g->aQ P w K mg base bq (n+3) "ways" C ["self"] (bx K true 0 1 (vO T n)):=λC g h=>by
 rcases h with⟨rfl,_⟩ |⟨rfl,_⟩ |⟨rfl,_⟩ |⟨rfl,_⟩ |⟨rfl,_⟩
 .exact⟨T.ou,_,_,T.ia.t,pX T n,T.ia.b⟩
 .exact⟨T.jQ,_,_,T.JH,pX T n,T.ia.b⟩
 .exact⟨T.jg,_,_,T.JI,pX T n,T.ia.b⟩
 .exact⟨T.iN,_,_,T.JJ,pX T n,T.ia.b⟩
 .exact⟨T.iO,_,_,T.JK,pX T n,T.ia.b⟩
theorem tF{X:Cx}{k:Md}{lo:Nat}{a:List Stmt}:QB X k lo a vH:=⟨λ_ _ _=>False,λ_ _ _ _ _ _ h=>h.elim,λ_ _ _ _ _ _ _ _ _ _ _ h _=>h⟩
mutual
noncomputable def txt:Tm->Str
 |.num q=>tx (b3 q)
 |.bC a n=>a ++ " of " ++ n
 |.times q t=>tx (b3 q) ++ " times " ++ brk t
 |.plus a b=>txt a ++ " and " ++ brk b
 |.minus a b=>txt a ++ " less " ++ brk b
noncomputable def brk:Tm->Str
 |.plus a b=> "( " ++ (txt a ++ " and " ++ brk b) ++ " )"
 |.minus a b=> "( " ++ (txt a ++ " less " ++ brk b) ++ " )"
 |.num q=>tx (b3 q)
 |.bC a n=>a ++ " of " ++ n
 |.times q t=>tx (b3 q) ++ " times " ++ brk t
end
theorem VH(t:Tm):(txt t).length<=(brk t).length:=by
 cases t with
 |plus a b=>show (txt a ++ " and " ++ brk b).length <= ("( " ++ (txt a ++ " and " ++ brk b) ++ " )").length;simp only[ba];omega
 |minus a b=>show (txt a ++ " less " ++ brk b).length <= ("( " ++ (txt a ++ " less " ++ brk b) ++ " )").length;simp only[ba];omega
 |_=>exact le_refl _
def Tm.sm:Tm->Prop
 |.num q=>bs q <= 400 |.bC _ _=>True |.times q t=>bs q <= 400 /\ t.sm |.plus a b=>a.sm /\ b.sm |.minus a b=>a.sm /\ b.sm
def gB(T:Tx w K mg)(n g:Nat):cf:=dR 1 λa Q=>∃t:Tm,a=[bz T t]/\t.tag=g/\t.dep<=n/\t.sm/\(txt t).length<=100000/\Q (.str (txt t))
theorem p6(T:Tx w K mg){n:Nat}{t:Tm}(hd:t.dep<=n)(hs:t.sm)(a:(txt t).length<=100000){Q:Tr->aG}(q:∀j,Q (.str (txt t)) j):fq (DT T) "text" (bz T t) λg=>gB T n g [bz T t] Q:=yO T (by walk_at "k") (by walk_at "k") (by walk_at "k") (by walk_at "k") (by walk_at "k") (by walk_at "k") ⟨rfl,t,rfl,rfl,hd,hs,a,q⟩
def Cr(T:Tx w K mg)(n:Nat):cf:=dR 1 λa Q=>∃t:Tm,a=[bz T t]/\t.dep<=n/\t.sm/\(brk t).length<=100000/\Q (.str (brk t))
theorem Mb(T:Tx w K mg)(n:Nat):aB P w K mg base bq 8 T.oZ.a T.oZ.d ["self"] (bx K true 0 1 (gB T n 0)):=by
 refine b0 T.oZ.F L3 rfl ∎ λaR A outer s H E k l h=>?_
 refine⟨_,(aN (br (qc T.nc (xg T) (aq (dz K (qv 0)) aI)))),?_⟩;rintro m e _ ⟨_,t,rfl,c,hd,b,i,q⟩;let⟨a,rfl⟩:=Ir c;rw[show bz T (.num a)=.ins .f T.aaa [("number",av.t a)] from rfl];rfl';refine lD (g:="name") T.ou T.An ?_;rfl';exact tL b λj=>⟨rfl,q _⟩
theorem MS(T:Tx w K mg)(n:Nat):aB P w K mg base bq 8 T.o7.a T.o7.d ["self"] (bx K true 0 1 (gB T n 1)):=by
 refine b0 T.o7.F MP rfl ∎ λaR A outer s H E j l i=>?_
 refine⟨_,(aO (bp 1 (dz K (qv 0)))
  (aO (bp 2 (dz K (qv 0)))
  (aN (br (iV (fk (qv 1) (gF (fk (qv 2) iU)))))))),?_⟩
 rintro m h _ ⟨_,t,rfl,e,hd,k,c,q⟩;let⟨a,b,rfl⟩:=Iu e;have c:(a++" of "++b).length<=100000:=c;rw[ba,ba] at c;rw[show bz T (.bC a b)=.ins .f T.aae [("word",.str a),("name",.str b)] from rfl];rfl';refine lD (g:="name") T.jQ T.vj ?_;rfl';refine lE T.jQ T.vk (by walk_at "k") ?_;rfl';simp only[lj,ba];exact⟨⋯,⋯,⋯,⋯,⋯,⋯,q _⟩
theorem xl(T:Tx w K mg){l:Nat}(m:Nat)(h:∀C g,DT T C g->aQ P w K mg base bq l "text" C ["self"] (bx K true 0 1 (gB T m g))):aB P w K mg base bq (l+1) T.ng.a T.ng.d ["term"] (bx K true 0 1 (Cr T m)):=by
 refine b0 T.ng.F MJ rfl ∎ λaR A outer s H E n o k=>?_
 refine⟨_,(aO (bp 1 (eK (h) (qv 0)))
  (aO (bI (eE (XH K rfl rfl T.nj rfl (aq (qv 0) (aq (qF (aq (jI T.Ap) (aq (jI T.Aq) aI))) aI)))) (aN (br (iV (gF (fk (qv 1) (gF iU)))))) bX)
  (aN (br (qv 1))))),?_⟩
 rintro p i _ ⟨_,t,rfl,hd,f,c,q⟩;have bl:=VH t;simp only[cons_append,nil_append];rfl';simp only[ft,eP,ky,il];refine p6 T hd f ⋯ λj=>?_
 try rfl'
 clear bl;cases t with
 |num a=>
  refine⟨[T.aao,T.aat],false,rfl,T.JR,T.Jv,?_⟩;dsimp only[cU];rw[if_neg ∎];exact q _
 |bC a b=>
  refine⟨[T.aao,T.aat],false,rfl,T.JS,T.Jw,?_⟩;dsimp only[cU];rw[if_neg ∎];exact q _
 |times a b=>
  refine⟨[T.aao,T.aat],false,rfl,T.JT,T.Jx,?_⟩;dsimp only[cU];rw[if_neg ∎];exact q _
 |plus a b=>
  refine⟨[T.aao,T.aat],true,rfl,T.JU,T.Jy,?_⟩;dsimp only[cU];rw[if_pos rfl];have e:brk (.plus a b)="( "++txt (.plus a b)++" )":=rfl;rw[e] at q;rw[e,ba,ba] at c;simp only[lj,ba];exact⟨⋯,⋯,⋯,⋯,⋯,q _⟩
 |minus a b=>
  refine⟨[T.aao,T.aat],true,rfl,T.Ju,T.Jz,?_⟩;dsimp only[cU];rw[if_pos rfl];have e:brk (.minus a b)="( "++txt (.minus a b)++" )":=rfl;rw[e] at q;rw[e,ba,ba] at c;simp only[lj,ba];exact⟨⋯,⋯,⋯,⋯,⋯,q _⟩
theorem x8(T:Tx w K mg){n:Nat}{t:Tm}(hd:t.dep<=n)(hs:t.sm)(a:(brk t).length<=100000){Q:Tr->aG}(q:∀j,Q (.str (brk t)) j):Cr T n [bz T t] Q:=⟨rfl,t,rfl,hd,hs,a,q⟩
theorem MF(T:Tx w K mg){l:Nat}(h:8<=l)(m:Nat)(k:∀C g,DT T C g->aQ P w K mg base bq l "text" C ["self"] (bx K true 0 1 (gB T m g))):aB P w K mg base bq (l+2) T.ji.a T.ji.d ["self"] (bx K true 0 1 (gB T (m+1) 2)):=by
 refine b0 T.ji.F DC rfl ∎ λaR A outer s H E p r o=>?_
 refine⟨_,(aO (bp 1 (qc T.nc (xg T) (aq (dz K (qv 0)) aI)))
  (aO (bp 2 (qc T.ng (xl T m k) (aq (dz K (qv 0)) aI)))
  (aN (br (iV (fk (qv 1) (gF (fk (qv 2) iU)))))))),?_⟩
 rintro u n _ ⟨_,t,rfl,i,hd,e,c,q⟩;let⟨a,b,rfl⟩:=uL i;have c:(tx (b3 a)++" times "++brk b).length<=100000:=c;rw[ba,ba] at c;rw[show bz T (.times a b)=.ins .f T.aaj [("number",av.t a),("inner",bz T b)] from rfl];rfl';refine lD (g:="inner") T.jg T.Ao ?_
 try rfl'
 refine tL e.1 λj=>?_
 try rfl'
 refine lE T.jg T.vm (by walk_at "k") ?_
 try simp only[ft,eP,il]
 refine x8 T (Nat.le_of_succ_le_succ hd) e.2 ⋯ λj=>?_
 try rfl'
 simp only[lj,ba];exact⟨⋯,⋯,⋯,⋯,⋯,⋯,q _⟩
theorem MT(T:Tx w K mg){l:Nat}(m:Nat)(h:∀C g,DT T C g->aQ P w K mg base bq l "text" C ["self"] (bx K true 0 1 (gB T m g))):aB P w K mg base bq (l+2) T.jk.a T.jk.d ["self"] (bx K true 0 1 (gB T (m+1) 3)):=by
 refine b0 T.jk.F DB rfl ∎ λaR A outer s H E p r o=>?_
 refine⟨_,(aO (bp 1 (eK (h) (dz K (qv 0))))
  (aO (bp 2 (qc T.ng (xl T m h) (aq (dz K (qv 0)) aI)))
  (aN (br (iV (fk (qv 1) (gF (fk (qv 2) iU)))))))),?_⟩
 rintro u k _ ⟨_,t,rfl,i,hd,e,c,q⟩;let⟨a,b,rfl⟩:=uM i;have hd:max a.dep b.dep+1<=m+1:=hd;have c:(txt a++" and "++brk b).length<=100000:=c;rw[ba,ba] at c;rw[show bz T (.plus a b)=.ins .f T.aao [("one",bz T a),("other",bz T b)] from rfl];rfl';refine lD (g:="other") T.iN T.vn ?_
 try simp only[ft,eP,il]
 refine p6 T ⋯ e.1 ⋯ λj=>?_
 try rfl'
 refine lE T.iN T.vo (by walk_at "k") ?_
 try simp only[ft,eP,il]
 refine x8 (n:=m) T ⋯ e.2 ⋯ λj=>?_
 try rfl'
 simp only[lj,ba];exact⟨⋯,⋯,⋯,⋯,⋯,⋯,q _⟩
theorem MG(T:Tx w K mg){l:Nat}(m:Nat)(h:∀C g,DT T C g->aQ P w K mg base bq l "text" C ["self"] (bx K true 0 1 (gB T m g))):aB P w K mg base bq (l+2) T.jm.a T.jm.d ["self"] (bx K true 0 1 (gB T (m+1) 4)):=by
 refine b0 T.jm.F DE rfl ∎ λaR A outer s H E p r o=>?_
 refine⟨_,(aO (bp 1 (eK (h) (dz K (qv 0))))
  (aO (bp 2 (qc T.ng (xl T m h) (aq (dz K (qv 0)) aI)))
  (aN (br (iV (fk (qv 1) (gF (fk (qv 2) iU)))))))),?_⟩
 rintro u k _ ⟨_,t,rfl,i,hd,e,c,q⟩;let⟨a,b,rfl⟩:=uN i;have hd:max a.dep b.dep+1<=m+1:=hd;have c:(txt a++" less "++brk b).length<=100000:=c;rw[ba,ba] at c;rw[show bz T (.minus a b)=.ins .f T.aat [("one",bz T a),("other",bz T b)] from rfl];rfl';refine lD (g:="other") T.iO T.vp ?_
 try simp only[ft,eP,il]
 refine p6 T ⋯ e.1 ⋯ λj=>?_
 try rfl'
 refine lE T.iO T.vq (by walk_at "k") ?_
 try simp only[ft,eP,il]
 refine x8 (n:=m) T ⋯ e.2 ⋯ λj=>?_
 try rfl'
 simp only[lj,ba];exact⟨⋯,⋯,⋯,⋯,⋯,⋯,q _⟩
theorem MH(T:Tx w K mg):aB P w K mg base bq 1 T.ji.a T.ji.d ["self"] (bx K true 0 1 (gB T 0 2)):=by
 refine b0 T.ji.F DC rfl ∎ λaR A outer s H E g h f=>⟨_,tF,?_⟩
 rintro i e _ ⟨_,t,rfl,c,hd,_⟩;let⟨a,b,rfl⟩:=uL c;exact absurd hd (Nat.not_succ_le_zero _)
theorem MU(T:Tx w K mg):aB P w K mg base bq 1 T.jk.a T.jk.d ["self"] (bx K true 0 1 (gB T 0 3)):=by
 refine b0 T.jk.F DB rfl ∎ λaR A outer s H E g h f=>⟨_,tF,?_⟩
 rintro i e _ ⟨_,t,rfl,c,hd,_⟩;let⟨a,b,rfl⟩:=uM c;exact absurd hd (Nat.not_succ_le_zero _)
theorem MI(T:Tx w K mg):aB P w K mg base bq 1 T.jm.a T.jm.d ["self"] (bx K true 0 1 (gB T 0 4)):=by
 refine b0 T.jm.F DE rfl ∎ λaR A outer s H E g h f=>⟨_,tF,?_⟩
 rintro i e _ ⟨_,t,rfl,c,hd,_⟩;let⟨a,b,rfl⟩:=uN c;exact absurd hd (Nat.not_succ_le_zero _)
theorem Gn(T:Tx w K mg):∀n,∀C g,DT T C g->aQ P w K mg base bq (2*n+8) "text" C ["self"] (bx K true 0 1 (gB T n g)):=λn=>by
 have a:∀n C g,(C=T.aaa/\g=0)\/(C=T.aae/\g=1)->aQ P w K mg base bq 8 "text" C ["self"] (bx K true 0 1 (gB T n g)):=λn C g h=>by
  rcases h with⟨rfl,rfl⟩ |⟨rfl,rfl⟩
  .exact⟨T.ou,_,_,T.oZ.t,Mb T n,T.oZ.b⟩
  .exact⟨T.jQ,_,_,T.o7.t,MS T n,T.o7.b⟩
 induction n with
 |zero=>
  intro C g h;rcases h with h |h |⟨rfl,rfl⟩ |⟨rfl,rfl⟩ |⟨rfl,rfl⟩
  .exact a 0 C g (.inl h)
  .exact a 0 C g (.inr h)
  .exact⟨T.jg,_,_,T.ji.t,(MH T).mono ∎,T.ji.b⟩
  .exact⟨T.iN,_,_,T.jk.t,(MU T).mono ∎,T.jk.b⟩
  .exact⟨T.iO,_,_,T.jm.t,(MI T).mono ∎,T.jm.b⟩
 |succ m c=>
  intro C g h;rcases h with h |h |⟨rfl,rfl⟩ |⟨rfl,rfl⟩ |⟨rfl,rfl⟩
  .exact (a (m+1) C g (.inl h)).mono ⋯
  .exact (a (m+1) C g (.inr h)).mono ⋯
  .exact⟨T.jg,_,_,T.ji.t,(MF T ⋯ m c).mono ⋯,T.ji.b⟩
  .exact⟨T.iN,_,_,T.jk.t,(MT T m c).mono ⋯,T.jk.b⟩
  .exact⟨T.iO,_,_,T.jm.t,(MG T m c).mono ⋯,T.jm.b⟩
theorem zL{f g h:Str}{v u x:Tr}(a:¬ f=h)(b:¬ g=h):gi h x [(f,v),(g,u)]=[(f,v),(g,u),(h,x)]:=by
 unfold gi;rw[if_neg a,lC b]
theorem X2{f g h k:Str}{v u x y:Tr}(a:¬ f=k)(b:¬ g=k)(c:¬ h=k):gi k y [(f,v),(g,u),(h,x)]=[(f,v),(g,u),(h,x),(k,y)]:=by
 unfold gi;rw[if_neg a,zL b c]
theorem Gp(t:Tm):(cC t).length<=(cu t).length:=by
 unfold cC;rw[Tt];exact le_trans (sT _) (by rw[length_map];exact le_refl _)
theorem Eu(T:Tx w K mg){n:Nat}{t:Tm}(hd:t.dep<=n)(a:(cu t).length<60){Q:Tr->aG}(q:∀j,Q (.ak .o ((cC t).map av.t)) j):fq (DT T) "ways" (bz T t) λg=>vO T n [bz T t] Q:=yO T (by walk_at "k") (by walk_at "k") (by walk_at "k") (by walk_at "k") (by walk_at "k") (by walk_at "k") ⟨rfl,t,rfl,hd,a,q⟩
theorem w_fld(T:Tx w K mg){C:ah}(h:C=T.aay\/C=T.aaF\/C=T.aaM):dF K C/\aD K C "near"/\aD K C "far"/\aD K C "rank"/\aD K C "weight":=by
 rcases h with rfl |rfl |rfl
 .exact⟨T.ve,T.IY,T.IZ,T.I0,T.Ja⟩
 .exact⟨T.vf,T.Jc,T.Jd,T.Je,T.Jf⟩
 .exact⟨T.vg,T.Jh,T.Ji,T.Jj,T.Jk⟩
def Ct(T:Tx w K mg):dY:=λc Q q=>c.length=5/\∃(C:ah)(a b:Tm)(r v:Int),c=[.ins .o C [],bz T a,bz T b,.int r,.int v]/\(C=T.aay\/C=T.aaF\/C=T.aaM)/\a.dep<=64/\b.dep<=64/\(cu a).length+(cu b).length<60/\
 (1<(cI (cC a++cC b)).length->q (.ref T.acy))/\((cI (cC a++cC b)).length<=1->∀j:ai,j[0]?=some (Tr.ins .o C [("near",bz T a),("far",bz T b),("rank",.int r),("weight",.int v)])->Q .aX j)
theorem xc(T:Tx w K mg):aB P w K mg base (b4 P w) 70 T.jR.a T.jR.d ["self","near","far","rank","weight"] (cv K true 1 5 (Ct T)):=by
 refine gn T.jR.F LI rfl ∎ λaR A outer s H E q y B u=>?_
 refine⟨_,(aO (bI (bc kn ke (ID rfl rfl T.cY rfl T.AW (bG (eK (Gm T 64) (qv 1)) (eK (Gm T 64) (qv 2)))) aE) (aN (iW rfl rfl rfl rfl rfl rfl T.vu PySem.F.excBase_ValueError T.JC aC)) bX)
  (aO (gm (ew 0) (qv 1))
  (aO (gm (ew 0) (qv 2))
  (aO (gm (ew 0) (qv 3))
  (aN (gm (ew 0) (qv 4))))))),?_⟩
 rintro I p _ ⟨_,C,a,b,r,v,rfl,h,ha,i,x,f,g⟩;simp only[cons_append,nil_append];rfl'
 try simp only[ft,eP,ky,il,oa]
 refine Eu T ha ⋯ λj=>?_
 try rfl'
 try simp only[ft,eP,ky,il,oa]
 refine Eu T i ⋯ λj=>?_
 try rfl'
 have D:=Gp a;have G:=Gp b;let⟨e,k,l,m,n⟩:=w_fld T h;rw[<- map_append];refine⟨⋯,.o,_,rfl,by rw[length_append];omega,?_⟩;walk_at "q";split
 .rename_i c;exact f (by have:=of_decide_eq_true c;omega)
 rename_i c;have c:¬ (1:Int)<_:=λz=>c (decide_eq_true z)
 simp only[lC (show ¬ ("near":Str)="far" by walk_at "k"),zL (show ¬ ("near":Str)="rank" by walk_at "k") (show ¬ ("far":Str)="rank" by walk_at "k"),X2 (show ¬ ("near":Str)="weight" by walk_at "k") (show ¬ ("far":Str)="weight" by walk_at "k") (show ¬ ("rank":Str)="weight" by walk_at "k")];exact⟨⟨e,k⟩,∎,⟨e,l⟩,∎,⟨e,m⟩,by simp only[length_cons,length_nil];decide,⟨e,n⟩,by simp only[length_cons,length_nil];decide,g ⋯ _ rfl⟩
def DW(T:Tx w K mg)(C:ah)(g:Nat):Prop:=(C=T.aay/\g=0)\/(C=T.aaF/\g=1)\/(C=T.aaM/\g=2)
structure Wi where
 k:Nat
 a:Tm
 b:Tm
 r:Int
 v:Int
def rf(T:Tx w K mg)(k:Nat):ah:=if k=0 then T.aay else if k=1 then T.aaF else T.aaM
def fG(k:Nat):Str:=if k=0 then "is" else if k=1 then "at least" else "at most"
def fH(T:Tx w K mg)(f:Fl)(x:Wi):Tr:=.ins f (rf T x.k) [("near",bz T x.a),("far",bz T x.b),("rank",.int x.r),("weight",.int x.v)]
theorem dw(T:Tx w K mg){k:Nat}(h:k<3):DW T (rf T k) k:=by
 have:k=0\/k=1\/k=2:=⋯
 rcases this with rfl |rfl |rfl
 .exact .inl ⟨rfl,rfl⟩
 .exact .inr (.inl ⟨rfl,rfl⟩)
 .exact .inr (.inr ⟨rfl,rfl⟩)
def se(g:Nat):cf:=dR 1 λ_ Q=>Q (.str (fG g))
theorem MV(T:Tx w K mg):aB P w K mg base bq 1 T.oA.a T.oA.d ["self"] (bx K true 0 1 (se 0)):=by
 refine b0 T.oA.F MR rfl ∎ λaR A outer s H E e f c=>?_
 refine⟨_,(aN (br aC)),?_⟩;rintro g b _ ⟨_,q⟩;rfl';exact q _
theorem Mc(T:Tx w K mg):aB P w K mg base bq 1 T.oB.a T.oB.d ["self"] (bx K true 0 1 (se 1)):=by
 refine b0 T.oB.F LB rfl ∎ λaR A outer s H E e f c=>?_
 refine⟨_,(aN (br aC)),?_⟩;rintro g b _ ⟨_,q⟩;rfl';exact q _
theorem Mo(T:Tx w K mg):aB P w K mg base bq 1 T.oC.a T.oC.d ["self"] (bx K true 0 1 (se 2)):=by
 refine b0 T.oC.F L4 rfl ∎ λaR A outer s H E e f c=>?_
 refine⟨_,(aN (br aC)),?_⟩;rintro g b _ ⟨_,q⟩;rfl';exact q _
theorem VI(T:Tx w K mg):∀C g,DW T C g->aQ P w K mg base bq 1 "verb" C ["self"] (bx K true 0 1 (se g)):=λC g h=>by
 rcases h with⟨rfl,rfl⟩ |⟨rfl,rfl⟩ |⟨rfl,rfl⟩
 .exact⟨T.ve,_,_,T.oA.t,MV T,T.oA.b⟩
 .exact⟨T.vf,_,_,T.oB.t,Mc T,T.oB.b⟩
 .exact⟨T.vg,_,_,T.oC.t,Mo T,T.oC.b⟩
def dD:ae:=["must","hand","strong","fair","faint"]
def gP(r v:Int):Str:=if r=0 then "" else if v=1 then " by "++(dD[r.toNat]?).getD "" else " by "++(dD[r.toNat]?).getD ""++" "++tx (dec v)
def fN(x:Wi):Str:=txt x.a++" "++fG x.k++" "++txt x.b++gP x.r x.v
def Wi.ok(x:Wi):Prop:=x.k<3/\x.a.dep<=64/\x.b.dep<=64/\x.a.sm/\x.b.sm/\(txt x.a).length<=1000/\(txt x.b).length<=1000/\0<=x.r/\x.r<5/\1<=x.v/\x.v<=1000000
def qU:Fl->Fl |.o=>.l true |.f=>.f |.l b=>.l b
def jJ:Fl->Fl |.o=>.o |.f=>.f |.l _=>.l false
theorem IH(T:Tx w K mg)(f:Fl)(x:Wi):aM (fH T f x)=fH T (qU f) x:=by
 cases f<;>simp only[fH,qU,yF,zI,zJ,dg,ft,xQ]
theorem z9(T:Tx w K mg)(f:Fl)(x:Wi):dn (fH T f x)=fH T (jJ f) x:=by
 cases f<;>simp only[fH,jJ,yE,zH,zG,g9,eP,xS]
theorem II(T:Tx w K mg)(f:Fl)(x:Wi)(Q:ar):pV (some (fH T f x)) Q=Q (fH T f x):=rfl
theorem lI(T:Tx w K mg){x:Wi}(h:x.k<3):rf T x.k=T.aay\/rf T x.k=T.aaF\/rf T x.k=T.aaM:=by
 rcases dw T h with h |h |h
 .exact .inl h.1
 .exact .inr (.inl h.1)
 .exact .inr (.inr h.1)
theorem VJ(T:Tx w K mg){f:Fl}{x:Wi}(h:x.k<3){Q:ar}(q:Q (bz T x.a)):gV K "near" (fH T f x) Q:=⟨⟨(w_fld T (lI T h)).1,(w_fld T (lI T h)).2.1⟩,q⟩
theorem Xb(T:Tx w K mg){f:Fl}{x:Wi}(h:x.k<3){Q:ar}(q:Q (bz T x.b)):gV K "far" (fH T f x) Q:=⟨⟨(w_fld T (lI T h)).1,(w_fld T (lI T h)).2.2.1⟩,q⟩
theorem Gq(T:Tx w K mg){f:Fl}{x:Wi}(h:x.k<3){Q:ar}(q:Q (.int x.r)):gV K "rank" (fH T f x) Q:=⟨⟨(w_fld T (lI T h)).1,(w_fld T (lI T h)).2.2.2.1⟩,q⟩
theorem Ew(T:Tx w K mg){f:Fl}{x:Wi}(h:x.k<3){Q:ar}(q:Q (.int x.v)):gV K "weight" (fH T f x) Q:=⟨⟨(w_fld T (lI T h)).1,(w_fld T (lI T h)).2.2.2.2⟩,q⟩
theorem VL(T:Tx w K mg){f:Fl}{x:Wi}(h:x.k<3){Q:Nat->Prop}(q:Q x.k):fq (DW T) "verb" (fH T f x) Q:=⟨x.k,dw T h,by simp only[List.lookup,show (("verb":Str) == "near")=false by walk_at "k",show (("verb":Str) == "far")=false by walk_at "k",show (("verb":Str) == "rank")=false by walk_at "k",show (("verb":Str) == "weight")=false by walk_at "k"],q⟩
def Cu(T:Tx w K mg):cf:=dR 1 λa Q=>∃(f:Fl)(x:Wi),a=[fH T f x]/\x.ok/\Q (.str (fN x))
theorem Gs(a:Str):a++("":Str)=a:=W.KFm.cat_t
theorem jE(a b c:Str):a++b++c=a++(b++c):=by
 show (⟨(a.cps++b.cps)++c.cps⟩:Str)=⟨a.cps++(b.cps++c.cps)⟩
 rw[Array.append_assoc]
theorem xm(T:Tx w K mg):aB P w K mg base bq 140 T.jS.a T.jS.d ["self"] (bx K true 0 1 (Cu T)):=by
 refine b0 T.jS.F MQ rfl ∎ λaR A outer s H E u U Q=>?_
 refine⟨_,(aO (bp 1 (eK (Gn T 64) (dz K (qv 0))))
  (aO (bp 2 (eK (VI T) (qv 0)))
  (aO (bp 3 (eK (Gn T 64) (dz K (qv 0))))
  (aO (bp 4 (iV (fk (qv 1) (gF (fk (qv 2) (gF (fk (qv 3) iU)))))))
  (aO (bI (bc bY bW (dz K (qv 0)) aE) (aN (br (qv 4))) bX)
  (aO (bp 5 (b7 (n6 ["must","hand","strong","fair","faint"] rfl T.vr T.vt) (dz K (qv 0))))
  (aO (bI (bc bY bW (dz K (qv 0)) aE) (aN (br (iV (fk (qv 4) (gF (fk (qv 5) iU)))))) bX)
  (aO (bp 6 (dz K (qv 0)))
  (aN (br (iV (fk (qv 4) (gF (fk (qv 5) (gF (XJ (qv 6) iU)))))))))))))))),?_⟩
 rintro xs L _ ⟨_,f,x,rfl,⟨e,i,l,m,n,C,D,G,I,g,h⟩,q⟩;simp only[cons_append,nil_append];rfl';simp only[IH,z9,II];refine VJ T e ?_;simp only[eP];refine p6 T i m ⋯ λj=>⟨rfl,?_⟩
 refine VL T e ⟨rfl,λj=>⟨rfl,?_⟩⟩;refine Xb T e ?_;simp only[eP];refine p6 T l n ⋯ λj=>⟨rfl,?_⟩
 rfl';have J:(fG x.k).length<=8:=by
  unfold fG;split
  .decide
  .split<;>decide
 have o:(txt x.a++" "++fG x.k++" "++txt x.b).length<=2020:=by
  simp only[ba];have:(" ":Str).length=1:=rfl;omega
 have M:(" ":Str).length=1:=rfl;simp only[lj];refine⟨⋯,⋯,by simp only[ba];omega,⋯,by simp only[ba];omega,by simp only[ba];omega,⋯,⋯,⋯,?_⟩;let⟨k,a,b,r,v⟩:=x;unfold fN at q;simp only at e i l m n C D G I g h J o q ⊢;generalize txt a++" "++fG k++" "++txt b=S at o q ⊢;refine Gq T e ?_;rfl';split
 .rename_i c;have c:=of_decide_eq_true c;subst c;rw[show gP 0 v="" from rfl,Gs] at q;exact q _
 rename_i c;have c:¬ r=0:=λz=>c (decide_eq_true z)
 refine Gq T e ?_;have p:bi v<=20:=qA ⋯;have Y:(tx (dec v)).length<=30:=by
  rw[b6];exact le_trans (tK p) ∎
 have u:∃R:Str,dD[r.toNat]?=some R/\cN (dD.map Tr.str) r=some (.str R)/\R.length<=6:=by
  have:r=1\/r=2\/r=3\/r=4:=⋯
  rcases this with rfl |rfl |rfl |rfl
  .exact⟨"hand",rfl,rfl,∎⟩
  .exact⟨"strong",rfl,rfl,∎⟩
  .exact⟨"fair",rfl,rfl,∎⟩
  .exact⟨"faint",rfl,rfl,∎⟩
 let⟨R,y,B,N⟩:=u;unfold gP at q;rw[if_neg c,y] at q;simp only[getD_some] at q;show (match cN (dD.map Tr.str) r with |some t=>_ |none=>False);rw[B];rfl';refine Ew T e ?_;rfl';have O:(" by ":Str).length=4:=rfl;split
 .rename_i d;rw[if_pos (of_decide_eq_true d),<- jE] at q;simp only[ba];exact⟨⋯,⋯,⋯,⋯,⋯,⋯,q _⟩
 .rename_i d;rw[if_neg (λz=>d (decide_eq_true z))] at q;rw[<- jE,<- jE,<- jE] at q;refine Ew T e ?_;rfl';rw[Gh];simp only[ba];exact⟨⋯,⋯,⋯,⋯,⋯,⋯,yN p ∎,⋯,⋯,q _⟩
theorem Fi(T:Tx w K mg):∀C g,DW T C g->aQ P w K mg base bq 140 "text" C ["self"] (bx K true 0 1 (Cu T)):=λC g h=>by
 rcases h with⟨rfl,rfl⟩ |⟨rfl,rfl⟩ |⟨rfl,rfl⟩
 .exact⟨T.ve,_,_,T.jS.t,xm T,T.jS.b⟩
 .exact⟨T.vf,_,_,T.JM,xm T,T.jS.b⟩
 .exact⟨T.vg,_,_,T.JO,xm T,T.jS.b⟩
theorem Gu(T:Tx w K mg){f:Fl}{x:Wi}(h:x.k<3){Q:Nat->Prop}(q:Q x.k):fq (DW T) "text" (fH T f x) Q:=⟨x.k,dw T h,by simp only[List.lookup,show (("text":Str) == "near")=false by walk_at "k",show (("text":Str) == "far")=false by walk_at "k",show (("text":Str) == "rank")=false by walk_at "k",show (("text":Str) == "weight")=false by walk_at "k"],q⟩
def ay(ws:ae)(p:Nat):Str:=(ws[p]?).getD ""
def cb(T:Tx w K mg)(f:Fl)(a ns:ae)(p:Nat):Tr:=.ins f T.aaT [("words",.ak f ↥a),("names",.ak .f ↥ns),("place",.int p)]
def DR(T:Tx w K mg)(C:ah)(g:Nat):Prop:=C=T.aaT/\g=0
theorem c8(T:Tx w K mg)(f:Fl)(a ns:ae)(p:Nat):aM (cb T f a ns p)=cb T (qU f) a ns p:=by
 cases f<;>simp only[cb,qU,yF,zI,zJ,dg,Ea,yL,Up,Xr,mF,xQ]
theorem dm(T:Tx w K mg)(f:Fl)(a ns:ae)(p:Nat):dn (cb T f a ns p)=cb T (jJ f) a ns p:=by
 have e:∀f:Fl,dn (.ak f ↥a)=.ak (jJ f) ↥a:=λf=>by
  cases f with
  |f=>show Tr.ak .f (cq _)=_;rw[qL];rfl
  |o=>show Tr.ak .o (cq _)=_;rw[qL];rfl
  |l b=>show Tr.ak (.l false) (cq _)=_;rw[qL];rfl
 cases f<;>simp only[cb,jJ,yE,zH,zG,g9,e,E2,qL,xS]
theorem dq(T:Tx w K mg)(f:Fl)(a ns:ae)(p:Nat)(Q:ar):pV (some (cb T f a ns p)) Q=Q (cb T f a ns p):=rfl
theorem Iv(T:Tx w K mg)(a ns:ae)(p:Nat):ck (cb T .o a ns p)=true:=by
 simp only[cb,lK,dB,Uq,Ec,GP,yL,zC,mn,Bool.and_self]
theorem tG(T:Tx w K mg){f:Fl}{a ns:ae}{p:Nat}{Q:ar}(q:Q (.ak f ↥a)):gV K "words" (cb T f a ns p) Q:=⟨⟨T.fo,T.Al⟩,q⟩
theorem Fj(T:Tx w K mg){f:Fl}{a ns:ae}{p:Nat}{Q:ar}(q:Q (.ak .f ↥ns)):gV K "names" (cb T f a ns p) Q:=⟨⟨T.fo,T.Am⟩,q⟩
theorem x9(T:Tx w K mg){f:Fl}{a ns:ae}{p:Nat}{Q:ar}(q:Q (.int p)):gV K "place" (cb T f a ns p) Q:=⟨⟨T.fo,T.vi⟩,q⟩
theorem uh(T:Tx w K mg){m:Str}{f:Fl}{d ns:ae}{p:Nat}{Q:Nat->Prop}(a:(m == "words")=false)(b:(m == "names")=false)(c:(m == "place")=false)(q:Q 0):fq (DR T) m (cb T f d ns p) Q:=⟨0,⟨rfl,rfl⟩,by simp only[List.lookup,a,b,c],q⟩
def bL(x:Str):ae:=(bH 32 x.cps.toList).map tx
theorem uG:Str.ofString " "=tx [32]:=by walk_at "k"
def iI(a:ae):Prop:=a.length<=60/\∀x∈a,x.length<=20000
theorem ll{a:ae}(h:iI a)(p:Nat):(ay a p).length<=20000:=by
 unfold ay;cases e:a[p]? with
 |none=>exact zero_le _
 |some x=>exact h.2 x (mem_of_getElem? e)
def eY(T:Tx w K mg)(m:ae->ae->Nat->(Tr->Nat->Prop)->(ag->Prop)->Prop):dY:=λb Q q=>b.length=1/\∃(a ns:ae)(p:Nat),b=[cb T .o a ns p]/\iI a/\m a ns p (λt c=>∀j:ai,j[0]?=some (cb T .o a ns c)->Q t j) q
def nz(T:Tx w K mg)(m:Str->ae->ae->Nat->(Tr->Nat->Prop)->(ag->Prop)->Prop):dY:=λb Q q=>b.length=2/\∃(a ns:ae)(p:Nat)(x:Str),b=[cb T .o a ns p,.str x]/\iI a/\m x a ns p (λt c=>∀j:ai,j[0]?=some (cb T .o a ns c)->Q t j) q
theorem Hi(T:Tx w K mg){b ns:ae}{F:Tr->ar}:(λ(t:Tr)(a:Nat)=>∀j:ai,j[0]?=some (cb T .o b ns a)->pV j[0]? λu=>ck u=true/\F t u)=λt a=>F t (cb T .o b ns a):=by
 funext t a;refine propext ⟨λh=>(h [cb T .o b ns a] rfl).2,λh j e=>?_⟩;rw[e];exact⟨Iv T _ _ _,h⟩
theorem fx(T:Tx w K mg){n:Str}{m:ae->ae->Nat->(Tr->Nat->Prop)->(ag->Prop)->Prop}{a ns:ae}{p:Nat}{q:ag->Prop}{F:Tr->ar}(e:iI a)(h:m a ns p (λt g=>F t (cb T .o a ns g)) q)(b:(n == ("words":Str))=false:=by walk_at "k")(c:(n == ("names":Str))=false:=by walk_at "k")(d:(n == ("place":Str))=false:=by walk_at "k"):fq (DR T) n (cb T .o a ns p) λ_=>eY T m [cb T .o a ns p] (λt f=>pV f[0]? λu=>ck u=true/\F t u) q:=
 uh T b c d ⟨rfl,a,ns,p,rfl,e,by rw[Hi];exact h⟩
theorem tH(T:Tx w K mg){n x:Str}{m:Str->ae->ae->Nat->(Tr->Nat->Prop)->(ag->Prop)->Prop}{a ns:ae}{p:Nat}{q:ag->Prop}{F:Tr->ar}(e:iI a)(h:m x a ns p (λt g=>F t (cb T .o a ns g)) q)(b:(n == ("words":Str))=false:=by walk_at "k")(c:(n == ("names":Str))=false:=by walk_at "k")(d:(n == ("place":Str))=false:=by walk_at "k"):fq (DR T) n (cb T .o a ns p) λ_=>nz T m [cb T .o a ns p,.str x] (λt f=>pV f[0]? λu=>ck u=true/\F t u) q:=
 uh T b c d ⟨rfl,a,ns,p,x,rfl,e,by rw[Hi];exact h⟩
def KP(T:Tx w K mg):dY:=λa Q q=>a.length=3/\∃(x:Str)(ns:ae),a=[.ins .o T.aaT [],.str x,.ak .f ↥ns]/\x.length<=20000/\(60<(bL x).length->q (.ref T.acv))/\((bL x).length<=60->∀j:ai,j[0]?=some (cb T .o (bL x) ns 0)->Q .aX j)
theorem yw(x:Str):(bL x).length<=x.length+1:=by
 unfold bL;rw[length_map];exact xj 32 _
theorem nK{x:Str}(h:(bL x).length<=60)(a:x.length<=20000):iI (bL x):=⟨h,λy m=>by
 unfold bL at m;let⟨p,b,rfl⟩:=mem_map.mp m;rw[b6];exact le_trans (sP b) a⟩
theorem Lz(T:Tx w K mg):aB P w K mg base (b4 P w) 1 T.oD.a T.oD.d ["self","text","names"] (cv K true 1 3 (KP T)):=by
 refine gn T.oD.F K9 rfl ∎ λaR A outer s H E q j k h=>?_
 refine⟨_,(aO (gm (ew 0) (tV (qv 1) aC ⟨rfl,rfl,rfl,rfl⟩))
  (aO (gm (ew 0) (qv 2))
  (aO (gm (ew 0) aE)
  (aN (bI (bc kn ke (cA dk dt T.cY (aq (dz K (qv 0)) aI)) (qQ T.JY)) (aN (iW rfl rfl rfl rfl rfl rfl T.ir PySem.F.excBase_ValueError T.jo aC)) bX))))),?_⟩
 rintro n g _ ⟨_,x,ns,rfl,m,b,e⟩;have i:=yw x;simp only[cons_append,nil_append];rfl';rw[uG,sV,show (bH 32 x.cps.toList).map tx=bL x from rfl];refine⟨rfl,⋯,⋯,⟨T.fo,T.Al⟩,∎,⟨T.fo,T.Am⟩,∎,⟨T.fo,T.vi⟩,by rw[lC (show ¬ ("words":Str)="names" by walk_at "k")];simp only[length_cons,length_nil];decide,?_⟩;rw[lC (show ¬ ("words":Str)="names" by walk_at "k"),zL (show ¬ ("words":Str)="place" by walk_at "k") (show ¬ ("names":Str)="place" by walk_at "k")];rw[show (Tr.ins (.l true) T.aaT (dg [((Str.ofString "words"),Tr.ak .o ((bL x).map av.t)),((Str.ofString "names"),Tr.ak .f ↥ns),((Str.ofString "place"),Tr.int 0)]))=cb T (qU .o) (bL x) ns 0 from (c8 T .o (bL x) ns 0)];refine tG T ?_;walk_at "q";split
 .rename_i c;exact b (by have:=of_decide_eq_true c;omega)
 .rename_i c;have c:¬ (60:Int)<_:=λz=>c (decide_eq_true z)
  exact e ⋯ _ rfl
def vC(T:Tx w K mg):cf:=dR 1 λb Q=>∃(f:Fl)(a ns:ae)(p:Nat),b=[cb T f a ns p]/\Q (.str (ay a p))
theorem Me(T:Tx w K mg):aB P w K mg base bq 1 T.oE.a T.oE.d ["self"] (bx K true 0 1 (vC T)):=by
 refine b0 T.oE.F LC rfl ∎ λaR A outer s H E h i g=>?_
 refine⟨_,(aN (br (zo (bc iZ iT (dz K (qv 0)) (cA dk dt T.cY (aq (dz K (qv 0)) aI))) (b7 (dz K (qv 0)) (dz K (qv 0))) aC))),?_⟩;rintro j e _ ⟨_,f,b,ns,p,rfl,q⟩;simp only[cons_append,nil_append];rfl';simp only[c8,dm,dq];refine x9 T ?_
 try rfl'
 refine tG T ?_
 try rfl'
 unfold ay at q;by_cases c:p<b.length
 .rw[if_pos (decide_eq_true ⋯)];refine tG T (x9 T ?_);rw[xW,xU,gZ b ⋯ (by simpa using c)];rw[List.getElem?_eq_getElem c] at q;exact⟨rfl,q _⟩
 .rw[if_neg (by simpa using (show b.length<=p by omega))];rw[getElem?_eq_none ⋯] at q;exact q _
def vP(T:Tx w K mg):cf:=dR 1 λb Q=>∃(f:Fl)(a ns:ae)(p:Nat),b=[cb T f a ns p]/\Q (.bl (decide (a.length<=p)))
theorem LO(T:Tx w K mg):aB P w K mg base bq 1 T.oH.a T.oH.d ["self"] (bx K true 0 1 (vP T)):=by
 refine b0 T.oH.F LK rfl ∎ λaR A outer s H E g h e=>?_
 refine⟨_,(aN (br (fB HF GR (dz K (qv 0)) (cA dk dt T.cY (aq (dz K (qv 0)) aI))))),?_⟩;rintro i c _ ⟨_,f,b,ns,p,rfl,q⟩;simp only[cons_append,nil_append];rfl';simp only[c8,dm,dq];refine x9 T ?_
 try rfl'
 refine tG T ?_
 try rfl'
 rw[show decide ((b.length:Int)<=(p:Int))=decide (b.length<=p) from decide_eq_decide.mpr ⋯];exact q _
theorem tI(T:Tx w K mg):∀C g,DR T C g->aQ P w K mg base bq 1 "ahead" C ["self"] (bx K true 0 1 (vC T)):=λC g h=>by
 let⟨rfl,rfl⟩:=h;exact⟨T.fo,_,_,T.oE.t,Me T,T.oE.b⟩
theorem xM(T:Tx w K mg):∀C g,DR T C g->aQ P w K mg base bq 1 "at_end" C ["self"] (bx K true 0 1 (vP T)):=λC g h=>by
 let⟨rfl,rfl⟩:=h;exact⟨T.fo,_,_,T.oH.t,LO T,T.oH.b⟩
theorem sQ(T:Tx w K mg){f:Fl}{a ns:ae}{p:Nat}{Q:ar}(h:Q (.str (ay a p))):fq (DR T) "ahead" (cb T f a ns p) λ_=>vC T [cb T (jJ f) a ns p] λt _=>Q t:=uh T (by walk_at "k") (by walk_at "k") (by walk_at "k") ⟨rfl,jJ f,a,ns,p,rfl,λ_=>h⟩
theorem xN(T:Tx w K mg){f:Fl}{a ns:ae}{p:Nat}{Q:ar}(h:Q (.bl (decide (a.length<=p)))):fq (DR T) "at_end" (cb T f a ns p) λ_=>vP T [cb T (jJ f) a ns p] λt _=>Q t:=uh T (by walk_at "k") (by walk_at "k") (by walk_at "k") ⟨rfl,jJ f,a,ns,p,rfl,λ_=>h⟩
def lX(b a:ae)(p:Nat)(Q:Tr->Nat->Prop)(c:ag->Prop):Prop:=Q (.str (ay b p)) (p+1)
theorem Xc(T:Tx w K mg){a ns:ae}{p:Nat}{Q:ah->bT->Prop}(q:Q T.aaT [("words",.ak .o ↥a),("names",.ak .f ↥ns),("place",.int p)]):rg (some (cb T .o a ns p)) λt=>kN K "place" t Q:=⟨⟨T.fo,T.vi⟩,by simp only[length_cons,length_nil];decide,q⟩
theorem Mp(T:Tx w K mg):aB P w K mg base (b4 P w) 2 T.oF.a T.oF.d ["self"] (cv K true 1 1 (eY T lX)):=by
 refine gn T.oF.F L5 rfl ∎ λaR A outer s H E q g i e=>?_
 refine⟨_,(aO (bp 1 (eK (tI T) (qv 0)))
  (aO (RA (ew 0) aE)
  (aN (br (qv 1))))),?_⟩
 rintro k c _ ⟨_,b,ns,p,rfl,j,h⟩;simp only[cons_append,nil_append];rfl';simp only[c8,dm,dq];refine sQ T ⟨rfl,?_⟩;refine Xc T ?_;rw[show List.lookup (Str.ofString "place") [((Str.ofString "words"),Tr.ak .o ↥b),((Str.ofString "names"),Tr.ak .f ↥ns),((Str.ofString "place"),Tr.int p)]=some (.int p) by simp only[List.lookup,show (("place":Str) == "words")=false by walk_at "k",show (("place":Str) == "names")=false by walk_at "k",show (("place":Str) == "place")=true by walk_at "k"]];refine⟨rfl,h _ ?_⟩;show some _=some _;simp only[gi,if_neg (show ¬ ("words":Str)="place" by walk_at "k"),if_neg (show ¬ ("names":Str)="place" by walk_at "k"),if_true];rfl
theorem j9(T:Tx w K mg):∀C g,DR T C g->aQ P w K mg base (b4 P w) 2 "step" C ["self"] (cv K true 1 1 (eY T lX)):=λC g h=>by
 let⟨rfl,rfl⟩:=h;exact⟨T.fo,_,_,T.oF.t,Mp T,T.oF.b⟩
def Cv(T:Tx w K mg)(x:Str)(b a:ae)(p:Nat)(Q:Tr->Nat->Prop)(q:ag->Prop):Prop:=x.length<=1000/\(if ay b p=x then Q .aX (p+1) else q (.ref T.acv))
theorem LP(T:Tx w K mg):aB P w K mg base (b4 P w) 3 T.oG.a T.oG.d ["self","word"] (cv K true 2 2 (nz T (Cv T))):=by
 refine gn T.oG.F LJ rfl ∎ λaR A outer s H E q b n m=>?_
 refine⟨_,(aN (G8 g8 gR (e8 0 ((λC g d=>aQ.mono (j9 T C g d) ⋯)) (du (dG rfl rfl rfl rfl)) (by walk_at "z") (λ_ _ _ _ h=>h.1) b) (qR (qv 1)) (by with_unfolding_all rfl) (aN (iW rfl rfl rfl rfl rfl rfl T.ir PySem.F.excBase_ValueError T.jo (iV (gF (fk (qv 1) (gF iU)))))) bX)),?_⟩;rintro r i _ ⟨_,f,ns,p,x,rfl,e,o,h⟩;simp only[cons_append,nil_append];walk_at "q";simp only[c8,dm,dq];refine fx T e ?_;unfold lX;walk_at "q";by_cases c:ay f p=x
 .rw[if_pos c] at h;rw[if_neg (by simp[c])];exact h _ rfl
 .rw[if_neg c] at h;rw[if_pos (by simp[c])];have j:(Str.empty:Str).length=0:=rfl;have k:(Str.ofString "the word ").length=9:=by walk_at "k"
  have l:(Str.ofString " is missing").length=11:=by walk_at "k"
  simp only[ba];exact⟨⋯,⋯,⋯,⋯,⋯,h⟩
theorem xO(T:Tx w K mg):∀C g,DR T C g->aQ P w K mg base (b4 P w) 3 "expect" C ["self","word"] (cv K true 2 2 (nz T (Cv T))):=λC g h=>by
 let⟨rfl,rfl⟩:=h;exact⟨T.fo,_,_,T.oG.t,LP T,T.oG.b⟩
def wh(T:Tx w K mg)(b a:ae)(p:Nat)(Q:Tr->Nat->Prop)(q:ag->Prop):Prop:=if b.length<=p then Q .aX p else q (.ref T.acv)
theorem LQ(T:Tx w K mg):aB P w K mg base (b4 P w) 3 T.oI.a T.oI.d ["self"] (cv K true 1 1 (eY T (wh T))):=by
 refine gn T.oI.F LL rfl ∎ λaR A outer s H E q g i f=>?_
 refine⟨_,(aN (bI (kc (eE (eK (xM T) (qv 0)))) (aN (iW rfl rfl rfl rfl rfl rfl T.ir PySem.F.excBase_ValueError T.jo aC)) bX)),?_⟩;rintro k e _ ⟨_,b,ns,p,rfl,j,h⟩;simp only[cons_append,nil_append];rfl';simp only[c8,dm,dq];refine xN T ?_;unfold wh at h;rfl';by_cases c:b.length<=p
 .rw[if_pos c] at h;rw[if_neg (by simp[c])];exact h _ rfl
 .rw[if_neg c] at h;rw[if_pos (by simp[c])];exact h
theorem Rm(T:Tx w K mg):∀C g,DR T C g->aQ P w K mg base (b4 P w) 3 "finish" C ["self"] (cv K true 1 1 (eY T (wh T))):=λC g h=>by
 let⟨rfl,rfl⟩:=h;exact⟨T.fo,_,_,T.oI.t,LQ T,T.oI.b⟩
def gj(L:List Nat):Bool:=decide (1<=L.length)&&(decide (L.length<=8)&&L.all λc=>decide (97<=c)&&decide (c<=122))
theorem Gv(c:Nat):kU (Str.ofString "abcdefghijklmnopqrstuvwxyz") ⟨#[c]⟩=(decide (97<=c)&&decide (c<=122)):=by
 unfold kU;rw[StrLaws.found_one];have e:(Str.ofString "abcdefghijklmnopqrstuvwxyz").cps.toList=(List.range 26).map (·+97):=by walk_at "k"
 rw[e,Bool.eq_iff_iff];simp;constructor
 .rintro⟨a,h,rfl⟩;omega
 .intro h;exact⟨c - 97,⋯,⋯⟩
def KA:cf:=dR 1 λa Q=>∃L:List Nat,a=[.str (tx L)]/\L.length<=100000/\Q (.bl (gj L))
theorem OE(T:Tx w K mg){z:Bool}:aB P w K mg base bq 1 T.rG.a T.rG.d ["word"] (bx K z 0 1 KA):=by
 refine b0 T.rG.F OX rfl ∎ λaR A outer s H E m n k=>?_
 refine⟨_,(aO (bI (QW.t (e9 (kc (eE (XT K T.nj (aq (qv 0) (aq (XU T.o9) aI))))) (gk (kc (xY lz k8 lz k8 aE (cA dk dt T.cY (aq (qv 0) aI)) (qQ T.J4)))))) (aN (br i1)) bX)
  (aN (br (cA (xt rfl) yt T.vx (aq (la ["sign"] [none] (uJ (qv 0)) (lH 0) (λ_ _ _ _ _=>(fB EA FJ (qv 0) (Aa T.JX)))) aI))))),?_⟩
 rintro o i _ ⟨_,L,rfl,j,q⟩;have g:∀X:Str,X=tx L->∀Q:ar,Q (.bl true)->u0 K [Tr.str X,Tr.ty "str"] Q:=λX _ Q h=>⟨true,rfl,h⟩
 rfl';refine g _ rfl _ ?_;rfl';rw[qs];refine⟨by rw[b6];omega,?_⟩;rfl';rw[b6];unfold gj at q;split;rotate_left
 .rename_i c;rw[show decide (1<=L.length)=false from decide_eq_false λz=>c (decide_eq_true ⋯)] at q;exact q _
 rename_i e;rw[show decide (1<=L.length)=true from decide_eq_true (by have:=of_decide_eq_true e;omega)] at q;split
 .rename_i c;rw[show decide (L.length<=8)=false from decide_eq_false λz=>by simp at c;omega] at q;exact q _
 rename_i b;have b:L.length<=8:=by simp at b;omega
 rw[show decide (L.length<=8)=true from decide_eq_true b] at q;rw[dy];refine bN.map L _ (λc=>decide (97<=c)&&decide (c<=122)) ⋯ (λc l R f=>?_) ?_
 .rfl';rw[Gv];exact f
 refine⟨_,rfl,?_⟩;rfl';rw[all_map];exact q _
def iG(ns:ae)(x:Str):Str:=if whole 1 x.cps.toList=true/\1<=vl x.cps.toList/\vl x.cps.toList<=ns.length then (ns[vl x.cps.toList - 1]?).getD "" else x
def Cw(a ns:ae)(p:Nat)(Q:Tr->Nat->Prop)(b:ag->Prop):Prop:=ns.length<=100000/\Q (.str (iG ns (ay a p))) (p+1)
theorem Lj(T:Tx w K mg):aB P w K mg base (b4 P w) 3 T.oK.a T.oK.d ["self"] (cv K true 1 1 (eY T Cw)):=by
 refine gn T.oK.F Lf rfl ∎ λaR A outer s H E q m y v=>?_
 refine⟨_,(aO (gc 1 (e8 0 ((λC g d=>aQ.mono (j9 T C g d) ⋯)) (du (dG rfl rfl rfl rfl)) (by walk_at "z") (λ_ _ _ _ h=>h.1) m))
  (aO (bI (QW.t (fI (eE (qc T.m9 (xo T) (aq (qv 1) (aq aE aI)))) (jD (xY lz k8 lz k8 aE (gG mh mj T.jq (aq (qv 1) aI)) (cA dk dt T.cY (aq (dz K (qv 0)) aI)))))) (aN (br (b7 (dz K (qv 0)) (qD (gG mh mj T.jq (aq (qv 1) aI)) aE)))) bX)
  (aN (br (qv 1))))),?_⟩
 rintro G u _ ⟨_,r,ns,p,rfl,k,x,h⟩;simp only[cons_append,nil_append];rfl';simp only[c8,dm,dq];refine fx T k ?_;unfold lX;rfl';have l:=ll k p;unfold iG at h;obtain⟨L,e⟩:∃L,ay r p=tx L:=⟨_,(gz _).symm⟩;rw[e] at l ⊢;simp only[e,dy] at h;rw[b6] at l;refine⟨rfl,L,1,rfl,⋯,λj=>?_⟩;rfl';by_cases b:whole 1 L=true;rotate_left
 .rw[if_neg b];rw[if_neg (λz=>b z.1)] at h;exact h _ rfl
 rw[if_pos b];let⟨n,B,o,D⟩:=gQ b;have i:intText? (tx L)=some (vl L:Int):=intText_digits (k6 o) n (by rw[b6];omega);refine⟨_,i,by rw[b6];omega,?_⟩;simp only[c8,dm,dq];by_cases c:1<=vl L;rotate_left
 .rw[if_neg (λz=>c (by have:=of_decide_eq_true z;omega))];rw[if_neg (λz=>c z.2.1)] at h;exact h _ rfl
 rw[if_pos (decide_eq_true ⋯)];refine Fj T ?_;rfl';by_cases f:vl L<=ns.length;rotate_left
 .rw[if_neg (λz=>f (by have:=of_decide_eq_true z;omega))];rw[if_neg (λz=>f z.2.2)] at h;exact h _ rfl
 rw[if_pos (decide_eq_true ⋯)];rw[if_pos ⟨b,c,f⟩] at h;refine Fj T ?_;refine⟨_,i,by rw[b6];omega,?_⟩;rw[xW,xU,gZ ns ⋯ ⋯];rw[List.getElem?_eq_getElem (show vl L - 1<ns.length by omega)] at h;have e:((vl L:Int) - 1).toNat=vl L - 1:=⋯
 simp only[e];exact⟨rfl,h _ rfl⟩
theorem MW(T:Tx w K mg):∀C g,DR T C g->aQ P w K mg base (b4 P w) 3 "read_name" C ["self"] (cv K true 1 1 (eY T Cw)):=λC g h=>by
 let⟨rfl,rfl⟩:=h;exact⟨T.fo,_,_,T.oK.t,Lj T,T.oK.b⟩
def kB(T:Tx w K mg):Tm->Tr
 |.num q=>.ins .o T.aaa [("number",av.t q)]
 |.bC a n=>.ins .o T.aae [("word",.str a),("name",.str n)]
 |.times q t=>.ins .o T.aaj [("number",av.t q),("inner",bz T t)]
 |.plus a b=>.ins .o T.aao [("one",bz T a),("other",bz T b)]
 |.minus a b=>.ins .o T.aat [("one",bz T a),("other",bz T b)]
theorem zM(T:Tx w K mg)(t:Tm):Pu.aU (kB T t)=bz T t:=by
 cases t<;>simp only[kB,bz,EM,f5,DG,il,D6]
theorem uO(T:Tx w K mg)(t:Tm):ck (kB T t)=true:=by
 cases t<;>simp only[kB,lK,dB,xB,kx,D7,Bool.and_self]
theorem O0(T:Tx w K mg)(t:Tm):b8 (kB T t)=true:=by
 cases t<;>simp only[kB,yG,fi,DH,oa,D9,Bool.and_self]
def mY(T:Tx w K mg)(t:Tm)(v:Tr):Prop:=v=bz T t\/v=kB T t
theorem mS(T:Tx w K mg){t:Tm}{v:Tr}(h:mY T t v):Pu.aU v=bz T t:=by
 rcases h with rfl |rfl
 .exact il T t
 .exact zM T t
theorem HD(T:Tx w K mg){t:Tm}{v:Tr}(h:mY T t v):ck v=true:=by
 rcases h with rfl |rfl
 .exact kx T t
 .exact uO T t
theorem Rw(T:Tx w K mg){t:Tm}{v:Tr}(h:mY T t v):b8 v=true:=by
 rcases h with rfl |rfl
 .exact oa T t
 .exact O0 T t
theorem Xd{C:ah}{f:Str}{v:Tr}{P:ar}(a:Cl v=true)(b:v≠.aL)(p:P (.ins .o C [(f,v)])):Cp C f [Tr.ins .o C [],v] λt c=>t=.aX/\gW c[0]? P:=
 ⟨rfl,v,rfl,a,b,λj e=>⟨rfl,by rw[e];exact⟨by show (ck v&&true)=true;rw[(ez v a).o];rfl,p⟩⟩⟩
theorem ui{C:ah}{f g:Str}{v u:Tr}{P:ar}(a:Cl v=true)(c:v≠.aL)(b:Cl u=true)(d:u≠.aL)(p:P (.ins .o C [(f,v),(g,u)])):ny C f g [Tr.ins .o C [],v,u] λt h=>t=.aX/\gW h[0]? P:=
 ⟨rfl,v,u,rfl,a,c,b,d,λj e=>⟨rfl,by rw[e];exact⟨by show (ck v&&(ck u&&true))=true;rw[(ez v a).o,(ez u b).o];rfl,p⟩⟩⟩
inductive PR where
 |ok (t:Tm) (p:Nat) |er |out
def PR.bind(r:PR)(f:Tm->Nat->PR):PR:=match r with |.ok t p=>f t p |.er=>.er |.out=>.out
def PR.run(T:Tx w K mg)(r:PR)(Q:Tr->Nat->Prop)(q:ag->Prop):Prop:=match r with |.ok t p=>∀v,mY T t v->Q v p |.er=>q (.ref T.acv) |.out=>False
def d8:ae:=["left","width","right","middle","gap"]
def kP(a ns:ae)(x:Str)(p:Nat):PR:=if ay a p="of" then (if gj (iG ns (ay a (p+1))).cps.toList=true/\¬ (iG ns (ay a (p+1))="frame"/\(x="gap"\/x="drop")) then .ok (.bC x (iG ns (ay a (p+1)))) (p+2) else .er) else .er
def lM(ns:ae):Prop:=ns.length<=100000/\∀x∈ns,x.length<=20000
theorem VM{ns:ae}(h:lM ns){x:Str}(a:x.length<=20000):(iG ns x).length<=20000:=by
 unfold iG;split
 .cases e:ns[vl x.cps.toList - 1]? with
  |none=>exact zero_le _
  |some y=>exact h.2 y (mem_of_getElem? e)
 .exact a
theorem Ll(T:Tx w K mg):aB P w K mg base (b4 P w) 4 T.oJ.a T.oJ.d ["self","word"] (cv K true 2 2 (nz T λx k ns p Q q=>lM ns/\(kP k ns x p).run T Q q)):=by
 refine gn T.oJ.F Ld rfl ∎ λaR A outer s H E q m y v=>?_
 refine⟨_,(aO (qi (tX 0 ((λC g d=>aQ.mono (xO T C g d) ⋯)) (du (dG rfl rfl rfl rfl)) (by walk_at "z") (λ_ _ _ _ h=>h.1) m (uK aC ue)))
  (aO (gc 2 (e8 0 ((λC g d=>aQ.mono (MW T C g d) ⋯)) (du (dG rfl rfl rfl rfl)) (by walk_at "z") (λ_ _ _ _ h=>h.1) m))
  (aO (bI (QW.t (e9 (kc (eE (qc T.rG (OE T) (aq (qv 2) aI)))) (gk (QW.t (fI (bc bY bW (qv 2) (Aa T.JV)) (jD (bc lG k9 (qv 1) (n6 ["gap","drop"] rfl T.Js T.Jt)))))))) (aN (iW rfl rfl rfl rfl rfl rfl T.ir PySem.F.excBase_ValueError T.jo aC)) bX)
  (aN (br (Hk T.rT (LM T) T.Jn (QA.aU (aq (qv 1) (aq (qv 2) aI))))))))),?_⟩
 rintro B r _ ⟨_,k,ns,p,x,rfl,l,hn,h⟩;simp only[cons_append,nil_append];rfl';simp only[c8,dm,dq];refine tH T l ⟨by walk_at "k",?_⟩;unfold kP at h;split;rotate_left
 .rename_i c;rw[if_neg c] at h;exact h
 rename_i c;rw[if_pos c] at h
 try rfl'
 try simp only[c8,dm,dq]
 refine fx T l ⟨hn.1,?_⟩
 try rfl'
 have n:=VM hn (ll l (p+1));generalize iG ns (ay k (p+1))=N at h n ⊢;obtain⟨L,rfl⟩:∃L,N=tx L:=⟨_,(gz _).symm⟩
 rw[b6] at n;rw[dy] at h;refine⟨rfl,L,rfl,⋯,λj=>?_⟩;rfl';by_cases e:gj L=true;rotate_left
 .rw[if_pos (by simp[e])];rw[if_neg (λz=>e z.1)] at h;exact h
 rw[if_neg (by simp[e])];have b:¬ (tx L="frame"/\(x="gap"\/x="drop"))->ny T.aae (Str.ofString "word") (Str.ofString "name") [Tr.ins Fl.o T.aae [],Tr.str x,Tr.str (tx L)] λt u=>t=Tr.aX/\gW u[0]? λt=>ck t=true/\r t [cb T Fl.o k ns (p+1+1),Tr.str x,Tr.str (tx L)]:=λc=>by
  rw[if_pos ⟨e,c⟩] at h;exact ui rfl (by intro z;cases z) rfl (by intro z;cases z) ⟨uO T (.bC x (tx L)),h _ (.inr rfl) _ rfl⟩
 by_cases f:tx L=Str.ofString "frame";rotate_left
 .rw[if_neg (λz=>f (of_decide_eq_true z))];exact b λz=>f z.1
 rw[if_pos (decide_eq_true f)];refine mC (ns:=["gap","drop"]) ?_;rfl';by_cases i:x∈([("gap":Str),"drop"]:ae)
 .rw[if_pos (decide_eq_true i)];rw[if_neg (λz=>z.2 ⟨f,by simpa using i⟩)] at h;exact h
 .rw[if_neg (λz=>i (of_decide_eq_true z))];exact b λz=>i (by simpa using z.2)
theorem MX(T:Tx w K mg):∀C g,DR T C g->aQ P w K mg base (b4 P w) 4 "read_edge" C ["self","word"] (cv K true 2 2 (nz T λx a ns p Q q=>lM ns/\(kP a ns x p).run T Q q)):=λC g h=>by
 let⟨rfl,rfl⟩:=h;exact⟨T.fo,_,_,T.oJ.t,Ll T,T.oJ.b⟩
theorem Gw{L:List Nat}{a b:Int}(h:d9 L=some (a,b)):(Rat.divInt a b).num=a/\(((Rat.divInt a b).den:Nat):Int)=b:=by
 unfold d9 at h;split at h
 .split at h
  .cases h;have f:∀i:Int,Rat.divInt i 1=(i:Rat):=λi=>by rw[<- Rat.num_divInt_den (i:Rat),Rat.num_intCast,Rat.den_intCast];rfl
   rw[f,Rat.num_intCast,Rat.den_intCast];exact⟨rfl,rfl⟩
  .cases h
 .split at h
  .rename_i t b' _ c;cases h;have d:¬ vl b'=0:=⋯
   have e:Rat.divInt (sgn L (vl t)) (vl b')=⟨sgn L (vl t),vl b',d,by rw[lh];exact c.2.2.2.1⟩:=by
    conv=>rhs;rw[<- Rat.num_divInt_den (⟨sgn L (vl t),vl b',d,by rw[lh];exact c.2.2.2.1⟩:Rat)]
   rw[e];exact⟨rfl,rfl⟩
  .cases h
 .cases h
def fT(a:ae)(G:Nat->PR):Nat->Tm->Nat->PR
 |0,_,_=>.out
 |k + 1,t,p=>if ay a p = "and" then (G (p + 1)).bind λu b=>fT a G k (.plus t u) b else if ay a p = "less" then (G (p + 1)).bind λu b=>fT a G k (.minus t u) b else .ok t p
def fU(b:ae)(G:Nat->PR)(p:Nat):PR:=(G p).bind λt a=>fT b G 61 t a
def cx(c ns:ae):Nat->Nat->PR
 |0,_=>.out
 |n + 1,p=>
  if ay c p="(" then (fU c (cx c ns n) (p+1)).bind λt d=>if ay c d=")" then .ok t (d+1) else .er
  else if ay c p∈d8\/cB (ay c p)=true then kP c ns (ay c p) (p+1)
  else match d9 (ay c p).cps.toList with
   |none=>.er
   |some (a,b)=>if ay c (p+1)="times" then (cx c ns n (p+2)).bind λt d=>.ok (.times (Rat.divInt a b) t) d else .ok (.num (Rat.divInt a b)) (p+1)
def pD(T:Tx w K mg)(n:Nat)(a ns:ae)(p:Nat)(Q:Tr->Nat->Prop)(q:ag->Prop):Prop:=lM ns/\(cx a ns n p).run T Q q
def vD(T:Tx w K mg)(n:Nat)(a ns:ae)(p:Nat)(Q:Tr->Nat->Prop)(q:ag->Prop):Prop:=lM ns/\(fU a (cx a ns n) p).run T Q q
theorem qk(T:Tx w K mg){r:PR}{f:Tm->Nat->PR}{Q a:Tr->Nat->Prop}{q:ag->Prop}(h:(r.bind f).run T Q q)(k:∀t b v,mY T t v->(f t b).run T Q q->a v b):r.run T a q:=by
 cases r with
 |ok t p=>exact λv c=>k t p v c h
 |er=>exact h
 |out=>exact h
theorem nO(T:Tx w K mg){a ns:ae}{p:Nat}{q:ag->Prop}{F:Tr->ar}(b:iI a)(h:F (.str (ay a p)) (cb T .o a ns (p+1))):fq (DR T) "step" (cb T .o a ns p) λ_=>eY T lX [cb T .o a ns p] (λt c=>pV c[0]? λu=>ck u=true/\F t u) q:=fx T b h
theorem RK(T:Tx w K mg){r:PR}{Q a:Tr->Nat->Prop}{q:ag->Prop}(h:r.run T Q q)(k:∀t c v,mY T t v->Q v c->a v c):r.run T a q:=by
 cases r with
 |ok t p=>exact λv b=>k t p v b (h v b)
 |er=>exact h
 |out=>exact h
theorem Lb(T:Tx w K mg)(n:Nat)(y:∀C g,DR T C g->aQ P w K mg base (b4 P w) (2*n+6) "read_term" C ["self"] (cv K true 1 1 (eY T (pD T n)))):aB P w K mg base (b4 P w) (2*n+7) T.oM.a T.oM.d ["self"] (cv K true 1 1 (eY T (vD T n))):=by
 refine gn T.oM.F K3 rfl ∎ λaR A outer s H E q i G D=>?_
 refine⟨_,(aO (gc 1 (e8 0 ((λC g d=>aQ.mono (y C g d) ⋯)) (du (dG rfl rfl rfl rfl)) (by walk_at "z") (λ_ _ _ _ h=>h.1) i))
  (aO (nZ (QW.t (e9 (bc bY bW (eK (tI T) (qv 0)) aC) (gk (bc bY bW (eK (tI T) (qv 0)) aC)))) (aN (G8 bY bW (e8 0 ((λC g d=>aQ.mono (j9 T C g d) ⋯)) (du (dG rfl rfl rfl rfl)) (by walk_at "z") (λ_ _ _ _ h=>h.1) i) (qR aC) (by with_unfolding_all rfl) (aN (gc 1 (yd T.oy.t ((LN T).mono ⋯) (by walk_at "z") (λ_ _ h=>h.1) i rfl T.Ap T.oy.b (nR (qR (qv 1)) (nR (e8 0 ((λC g d=>aQ.mono (y C g d) ⋯)) (du (dG rfl rfl rfl rfl)) (by walk_at "z") (λ_ _ _ _ h=>h.1) i) yb))))) (aN (gc 1 (yd T.oz.t ((Lx T).mono ⋯) (by walk_at "z") (λ_ _ h=>h.1) i rfl T.Aq T.oz.b (nR (qR (qv 1)) (nR (e8 0 ((λC g d=>aQ.mono (y C g d) ⋯)) (du (dG rfl rfl rfl rfl)) (by walk_at "z") (λ_ _ _ _ h=>h.1) i) yb))))))))
  (aN (br (qv 1))))),?_⟩
 rintro I B _ ⟨_,l,ns,p,rfl,r,hn,h⟩;simp only[cons_append,nil_append];rfl';simp only[c8,dm,dq];refine fx T r ⟨hn,qk T h λt c v e h=>?_⟩;simp only[mS T e,HD T e,Rw T e,true_and];refine⟨λm j=>∃t c,j=[cb T .o l ns c,bz T t]/\(fT l (cx l ns n) m t c).run T (λt c=>∀(j:ai),j[0]?=some (cb T Fl.o l ns c)->B t j) q,⟨61,t,c,rfl,h⟩,?_⟩;clear h e v t c;rintro m j ⟨t,p1,rfl,h⟩;cases m with
 |zero=>exact h.elim
 |succ k=>
 unfold fT at h;rfl';simp only[c8,dm,dq];refine sQ T ?_;rfl';by_cases f:ay l p1=Str.ofString "and"
 .rw[if_pos (decide_eq_true f)];rw[if_pos f] at h;refine fx T r ?_;unfold lX;rfl';rw[if_pos (decide_eq_true f)];simp only[c8,dm,dq,ft,ky,oa,eP,il,true_and];refine fx T r ⟨hn,qk T h λu c v e h=>?_⟩;simp only[mS T e,eP];refine ui (gH T t) (qK T t) (gH T u) (qK T u) ⟨k,⋯,.plus t u,c,?_,h⟩;rw[show Tr.ins .o T.aao [(Str.ofString "one",bz T t),(Str.ofString "other",bz T u)]=kB T (.plus t u) from rfl,zM]
 .rw[if_neg (λz=>f (of_decide_eq_true z))];rw[if_neg f] at h;refine sQ T ?_;rfl';by_cases x:ay l p1=Str.ofString "less"
  .rw[if_pos (decide_eq_true x)];rw[if_pos x] at h;refine fx T r ?_;unfold lX;rfl';rw[if_neg (λz=>f (of_decide_eq_true z))];simp only[c8,dm,dq,ft,ky,oa,eP,il,true_and];refine fx T r ⟨hn,qk T h λu c v e h=>?_⟩;simp only[mS T e,eP];refine ui (gH T t) (qK T t) (gH T u) (qK T u) ⟨k,⋯,.minus t u,c,?_,h⟩;rw[show Tr.ins .o T.aat [(Str.ofString "one",bz T t),(Str.ofString "other",bz T u)]=kB T (.minus t u) from rfl,zM]
  .rw[if_neg (λz=>x (of_decide_eq_true z))];rw[if_neg x] at h;simp only[ft,ky,kx,true_and];exact h _ (.inl rfl) _ rfl
theorem Fw(T:Tx w K mg)(n:Nat)(a:∀C g,DR T C g->aQ P w K mg base (b4 P w) (2*n+6) "read_term" C ["self"] (cv K true 1 1 (eY T (pD T n)))):∀C g,DR T C g->aQ P w K mg base (b4 P w) (2*n+7) "read_terms" C ["self"] (cv K true 1 1 (eY T (vD T n))):=λC g h=>by
 let⟨rfl,rfl⟩:=h;exact⟨T.fo,_,_,T.oM.t,Lb T n a,T.oM.b⟩
theorem Lm(T:Tx w K mg)(n:Nat)(I:∀C g,DR T C g->aQ P w K mg base (b4 P w) (2*n+6) "read_term" C ["self"] (cv K true 1 1 (eY T (pD T n)))):aB P w K mg base (b4 P w) (2*(n+1)+6) T.kK.a T.kK.d ["self"] (cv K true 1 1 (eY T (pD T (n+1)))):=by
 refine gn T.kK.F Dt rfl ∎ λaR A outer s H E q i hu hN=>?_
 refine⟨_,(aO (gc 1 (e8 0 ((λC g d=>aQ.mono (j9 T C g d) ⋯)) (du (dG rfl rfl rfl rfl)) (by walk_at "z") (λ_ _ _ _ h=>h.1) i))
  (aO (bI (bc bY bW (qv 1) aC) (aO (gc 2 (e8 0 ((λC g d=>aQ.mono (Fw T n I C g d) ⋯)) (du (dG rfl rfl rfl rfl)) (by walk_at "z") (λ_ _ _ _ h=>h.1) i))
  (aO (qi (tX 0 ((λC g d=>aQ.mono (xO T C g d) ⋯)) (du (dG rfl rfl rfl rfl)) (by walk_at "z") (λ_ _ _ _ h=>h.1) i (uK aC ue)))
  (aN (br (qv 2))))) bX)
  (aO (bI (QW.t (e9 (bc lG k9 (qv 1) (n6 ["left","width","right","middle","gap"] rfl T.Jq T.Jr)) (gk (bc lG k9 (qv 1) (n6 ["top","height","bottom","centre","drop"] rfl T.Ar T.As))))) (aN (yR (tX 0 ((λC g d=>aQ.mono (MX T C g d) ⋯)) (du (dG rfl rfl rfl rfl)) (by walk_at "z") (λ_ _ _ _ h=>h.1) i (uK (qv 1) ue)))) bX)
  (aO (bp 3 (uT T.rF (L6 T) (aq (qv 1) aI)))
  (aO (bI (bc g8 gR (eK (tI T) (qv 0)) aC) (aN (br (Hk T.rS (La T) T.Jm (QA.aU (aq (qv 3) aI))))) bX)
  (aO (qi (e8 0 ((λC g d=>aQ.mono (j9 T C g d) ⋯)) (du (dG rfl rfl rfl rfl)) (by walk_at "z") (λ_ _ _ _ h=>h.1) i))
  (aN (yR (yd T.ox.t ((Lw T).mono ⋯) (by walk_at "z") (λ_ _ h=>h.1) i rfl T.Jo T.ox.b (nR (qR (qv 3)) (nR (e8 0 ((λC g d=>aQ.mono (I C g d) ⋯)) (du (dG rfl rfl rfl rfl)) (by walk_at "z") (λ_ _ _ _ h=>h.1) i) yb))))))))))),?_⟩
 rintro xs N _ ⟨_,f,ns,p,rfl,k,hn,h⟩;simp only[cons_append,nil_append];rfl';simp only[c8,dm,dq];refine nO T k ?_;rfl';unfold cx at h;simp only[c8,dm,dq];by_cases u:ay f p=Str.ofString "("
 .rw[if_pos (decide_eq_true u)];rw[if_pos u] at h;refine fx T k ⟨hn,qk T h λt M v l h=>?_⟩;simp only[mS T l,ft,ky,kx,c8,dm,dq,true_and];refine tH T k ⟨by walk_at "k",?_⟩;split
  .rename_i c;rw[if_pos c] at h;exact h _ (.inl rfl) _ rfl
  .rename_i c;rw[if_neg c] at h;exact h
 rw[if_neg (λz=>u (of_decide_eq_true z))];rw[if_neg u] at h;have G:ay f p∈d8\/cB (ay f p)=true->fq (DR T) (Str.ofString "read_edge") (cb T Fl.o f ns (p+1)) λc=>nz T (λx f ns p Q q=>lM ns/\PR.run T (kP f ns x p) Q q) [cb T (jJ .o) f ns (p+1),Tr.str (ay f p)] (λt j'=>pV j'[0]? λm=>ck m=true/\ck t=true/\N t [m,Tr.str (ay f p),Tr.aL,Tr.aL]) q:=λc=>by
  rw[if_pos c] at h;exact tH T k ⟨hn,RK T h λt M v l h=>⟨HD T l,h _ rfl⟩⟩
 refine mC (ns:=d8) ?_;rfl';by_cases y:ay f p∈d8
 .rw[if_pos (decide_eq_true y)];exact G (.inl y)
 rw[if_neg (λz=>y (of_decide_eq_true z))];refine mC (ns:=["top","height","bottom","centre","drop"]) ?_;rfl';by_cases B:ay f p∈([("top":Str),"height","bottom","centre","drop"]:ae)
 .rw[if_pos (decide_eq_true B)];exact G (.inr (decide_eq_true B))
 rw[if_neg (λz=>B (of_decide_eq_true z))];rw[if_neg (λz=>z.elim y λz=>B (of_decide_eq_true z))] at h;have J:=ll k p;obtain⟨L,e⟩:∃L,ay f p=tx L:=⟨_,(gz _).symm⟩;rw[e,dy] at h;rw[e,b6] at J;rw[e];refine⟨rfl,L,rfl,J,λa b hd j=>?_,λhd=>?_⟩;rotate_left
 .rw[hd] at h;exact h
 rw[hd] at h;dsimp only at h;let⟨O,U⟩:=Gw hd;have Y:Tr.aY [.int a,.int b]=av.t (Rat.divInt a b):=by rw[HW,O,U]
 rw[Y];generalize Rat.divInt a b=r at h;rfl'
 try simp only[c8,dm,dq]
 refine sQ T ?_;rfl';by_cases D:ay f (p+1)=Str.ofString "times"
 .rw[if_neg (by simp[D])];rw[if_pos D] at h;refine nO T k ?_;simp only[c8,dm,dq,true_and]
  try rfl'
  refine fx T k ⟨hn,qk T h λt M v l h=>?_⟩;simp only[mS T l,eP];exact ui (av.c r) (av.h r) (gH T t) (qK T t) ⟨uO T (.times r t),h _ (.inr rfl) _ rfl⟩
 .rw[if_pos (by simp[D])];rw[if_neg D] at h;exact Xd (av.c r) (av.h r) ⟨uO T (.num r),h _ (.inr rfl) _ rfl⟩
theorem DP(T:Tx w K mg):∀n,∀C g,DR T C g->aQ P w K mg base (b4 P w) (2*n+6) "read_term" C ["self"] (cv K true 1 1 (eY T (pD T n)))
 |0=>λC g h=>by
  let⟨rfl,rfl⟩:=h;refine⟨T.fo,_,_,T.kK.t,?_,T.kK.b⟩;refine gn T.kK.F Dt rfl ∎ λaR A outer s H E q e f d=>⟨_,tF,?_⟩
  rintro k c _ ⟨_,j,ns,p,rfl,i,hn,h⟩;exact h.elim
 |n + 1=>λC g h=>by
  have a:=DP T n;let⟨rfl,rfl⟩:=h;exact⟨T.fo,_,_,T.kK.t,Lm T n a,T.kK.b⟩
theorem DF(T:Tx w K mg)(n:Nat):∀C g,DR T C g->aQ P w K mg base (b4 P w) (2*n+7) "read_terms" C ["self"] (cv K true 1 1 (eY T (vD T n))):=Fw T n (DP T n)
def da(a:ae)(p:Nat):Str×Nat:=if ay a p="at" then ("at "++ay a (p+1),p+2) else (ay a p,p+1)
def hU:ae:=["is","at least","at most"]
def vQ(T:Tx w K mg)(a b:ae)(p:Nat)(Q:Tr->Nat->Prop)(q:ag->Prop):Prop:=if (da a p).1∈hU then Q (.str (da a p).1) (da a p).2 else q (.ref T.acv)
theorem Ln(T:Tx w K mg):aB P w K mg base (b4 P w) 3 T.oN.a T.oN.d ["self"] (cv K true 1 1 (eY T (vQ T))):=by
 refine gn T.oN.F Lg rfl ∎ λaR A outer s H E q e l k=>?_
 refine⟨_,(aO (gc 1 (e8 0 ((λC g d=>aQ.mono (j9 T C g d) ⋯)) (du (dG rfl rfl rfl rfl)) (by walk_at "z") (λ_ _ _ _ h=>h.1) e))
  (aO (bI (bc bY bW (qv 1) aC) (aO (gc 2 (e8 0 ((λC g d=>aQ.mono (j9 T C g d) ⋯)) (du (dG rfl rfl rfl rfl)) (by walk_at "z") (λ_ _ _ _ h=>h.1) e))
  (aN (bp 1 (iV (gF (fk (qv 2) iU)))))) bX)
  (aO (bI (bc mv mf (qv 1) (qF (aq aC (aq aC (aq aC aI))))) (aN (iW rfl rfl rfl rfl rfl rfl T.ir PySem.F.excBase_ValueError T.jo aC)) bX)
  (aN (br (qv 1)))))),?_⟩
 rintro n i _ ⟨_,f,ns,p,rfl,b,h⟩;simp only[cons_append,nil_append];rfl';simp only[c8,dm,dq];refine nO T b ?_;rfl';unfold vQ da at h;by_cases c:ay f p=Str.ofString "at"
 .rw[if_pos (decide_eq_true c)];rw[if_pos c] at h;simp only[c8,dm,dq];refine nO T b ?_;rfl';have m:=ll b (p+1);have j:(Str.ofString "at ").length=3:=by walk_at "k"
  rw[lj];refine⟨⋯,⋯,by rw[ba];omega,by rw[ba];omega,?_⟩;refine mC (ns:=hU) ?_;rfl';split
  .rename_i d;rw[if_neg (by simpa using d)] at h;exact h
  .rename_i d;rw[if_pos (by simpa using d)] at h;exact h _ rfl
 .rw[if_neg (λz=>c (of_decide_eq_true z))];rw[if_neg c] at h;refine mC (ns:=hU) ?_;rfl';split
  .rename_i d;rw[if_neg (by simpa using d)] at h;exact h
  .rename_i d;rw[if_pos (by simpa using d)] at h;exact h _ rfl
theorem NH(T:Tx w K mg):∀C g,DR T C g->aQ P w K mg base (b4 P w) 3 "read_verb" C ["self"] (cv K true 1 1 (eY T (vQ T))):=λC g h=>by
 let⟨rfl,rfl⟩:=h;exact⟨T.fo,_,_,T.oN.t,Ln T,T.oN.b⟩
def pE(T:Tx w K mg)(a b:ae)(p:Nat)(Q:Tr->Nat->Prop)(q:ag->Prop):Prop:=if a.length<=p then Q (.int 0) p else if ay a p="by"/\ay a (p+1)∈dD.tail then (∀j:Nat,dD[j]?=some (ay a (p+1))->Q (.int j) (p+2)) else q (.ref T.acv)
theorem Lo(T:Tx w K mg):aB P w K mg base (b4 P w) 4 T.oO.a T.oO.d ["self"] (cv K true 1 1 (eY T (pE T))):=by
 refine gn T.oO.F Lh rfl ∎ λaR A outer s H E q i n m=>?_
 refine⟨_,(aO (bI (eE (eK (xM T) (qv 0))) (aN (br aE)) bX)
  (aO (qi (tX 0 ((λC g d=>aQ.mono (xO T C g d) ⋯)) (du (dG rfl rfl rfl rfl)) (by walk_at "z") (λ_ _ _ _ h=>h.1) i (uK aC ue)))
  (aO (gc 1 (e8 0 ((λC g d=>aQ.mono (j9 T C g d) ⋯)) (du (dG rfl rfl rfl rfl)) (by walk_at "z") (λ_ _ _ _ h=>h.1) i))
  (aO (bI (bc mv mf (qv 1) (XX (n6 ["must","hand","strong","fair","faint"] rfl T.vr T.vt) (cS aE) eG)) (aN (iW rfl rfl rfl rfl rfl rfl T.ir PySem.F.excBase_ValueError T.jo aC)) bX)
  (aN (br (RB ["must","hand","strong","fair","faint"] rfl T.vr T.vt T.JQ (qv 1) ⟨rfl,rfl,rfl,rfl⟩))))))),?_⟩
 rintro o l _ ⟨_,b,ns,p,rfl,j,h⟩;simp only[cons_append,nil_append];rfl';simp only[c8,dm,dq];refine xN T ?_;rfl';unfold pE at h;by_cases c:b.length<=p
 .rw[if_pos (decide_eq_true c)];rw[if_pos c] at h;exact h _ rfl
 rw[if_neg (λz=>c (of_decide_eq_true z))];rw[if_neg c] at h
 try simp only[c8,dm,dq]
 refine tH T j ⟨by walk_at "k",?_⟩;by_cases f:ay b p="by";rotate_left
 .rw[if_neg f];rw[if_neg (λz=>f z.1)] at h;exact h
 rw[if_pos f]
 try simp only[c8,dm,dq]
 refine nO T j ?_;rfl';refine⟨∎,dD,rfl,?_⟩;refine mC (ns:=dD.tail) ?_;rfl';split
 .rename_i d;rw[if_neg (λz=>absurd z.2 (by simpa using d))] at h;exact h
 .rename_i d;have d:ay b (p+1)∈dD.tail:=by simpa using d
  rw[if_pos ⟨f,d⟩] at h;have k:ay b (p+1)="hand"\/ay b (p+1)="strong"\/ay b (p+1)="fair"\/ay b (p+1)="faint":=by
   unfold dD at d;simpa using d
  rcases k with e |e |e |e
  .rw[e] at h ⊢;exact⟨1,by walk_at "k",by walk_at "k",h 1 (by walk_at "k") _ rfl⟩
  .rw[e] at h ⊢;exact⟨2,by walk_at "k",by walk_at "k",h 2 (by walk_at "k") _ rfl⟩
  .rw[e] at h ⊢;exact⟨3,by walk_at "k",by walk_at "k",h 3 (by walk_at "k") _ rfl⟩
  .rw[e] at h ⊢;exact⟨4,by walk_at "k",by walk_at "k",h 4 (by walk_at "k") _ rfl⟩
theorem NI(T:Tx w K mg):∀C g,DR T C g->aQ P w K mg base (b4 P w) 4 "read_rank" C ["self"] (cv K true 1 1 (eY T (pE T))):=λC g h=>by
 let⟨rfl,rfl⟩:=h;exact⟨T.fo,_,_,T.oO.t,Lo T,T.oO.b⟩
def pI(T:Tx w K mg)(a b:ae)(p:Nat)(Q:Tr->Nat->Prop)(q:ag->Prop):Prop:=if a.length<=p then Q (.int 1) p else if whole 7 (ay a p).cps.toList=true/\2<=vl (ay a p).cps.toList/\vl (ay a p).cps.toList<=1000000 then Q (.int (vl (ay a p).cps.toList)) (p+1) else q (.ref T.acv)
theorem K2(T:Tx w K mg):aB P w K mg base (b4 P w) 4 T.ow.a T.ow.d ["self"] (cv K true 1 1 (eY T (pI T))):=by
 refine gn T.ow.F K1 rfl ∎ λaR A outer s H E q o y x=>?_
 refine⟨_,(aO (bI (eE (eK (xM T) (qv 0))) (aN (br aE)) bX)
  (aO (gc 1 (e8 0 ((λC g d=>aQ.mono (j9 T C g d) ⋯)) (du (dG rfl rfl rfl rfl)) (by walk_at "z") (λ_ _ _ _ h=>h.1) o))
  (aO (bI (QW.t (e9 (kc (eE (qc T.m9 (xo T) (aq (qv 1) (aq (qQ T.JZ) aI))))) (gk (kc (xY lz k8 lz k8 aE (gG mh mj T.jq (aq (qv 1) aI)) (qQ T.J3)))))) (aN (iW rfl rfl rfl rfl rfl rfl T.ir PySem.F.excBase_ValueError T.jo aC)) bX)
  (aN (br (gG mh mj T.jq (aq (qv 1) aI))))))),?_⟩
 rintro G v _ ⟨_,n,ns,p,rfl,l,h⟩;simp only[cons_append,nil_append];rfl';simp only[c8,dm,dq];refine xN T ?_;rfl';unfold pI at h;by_cases c:n.length<=p
 .rw[if_pos (decide_eq_true c)];rw[if_pos c] at h;exact h _ rfl
 rw[if_neg (λz=>c (of_decide_eq_true z))];rw[if_neg c] at h
 try simp only[c8,dm,dq]
 refine nO T l ?_;rfl';have m:=ll l p;obtain⟨L,e⟩:∃L,ay n p=tx L:=⟨_,(gz _).symm⟩;rw[e] at m ⊢;simp only[e,dy] at h;rw[b6] at m;refine⟨rfl,L,7,rfl,⋯,λj=>?_⟩;rfl';by_cases b:whole 7 L=true;rotate_left
 .rw[if_pos (by simp[b])];rw[if_neg (λz=>b z.1)] at h;exact h
 rw[if_neg (by simp[b])];let⟨r,B,u,D⟩:=gQ b;have k:intText? (tx L)=some (vl L:Int):=intText_digits (k6 u) r (by rw[b6];omega);refine⟨_,k,by rw[b6];omega,?_⟩;by_cases f:2<=vl L;rotate_left
 .rw[if_neg (λz=>f (by have:=of_decide_eq_true z;omega))];rw[if_neg (λz=>f z.2.1)] at h;exact h
 rw[if_pos (decide_eq_true ⋯)];by_cases i:vl L<=1000000;rotate_left
 .rw[if_pos (by simp;omega)];rw[if_neg (λz=>i z.2.2)] at h;exact h
 rw[if_neg (by simp;omega)];rw[if_pos ⟨b,f,i⟩] at h;exact⟨_,k,by rw[b6];omega,h _ rfl⟩
theorem Mq(T:Tx w K mg):∀C g,DR T C g->aQ P w K mg base (b4 P w) 4 "read_weight" C ["self"] (cv K true 1 1 (eY T (pI T))):=λC g h=>by
 let⟨rfl,rfl⟩:=h;exact⟨T.fo,_,_,T.ow.t,K2 T,T.ow.b⟩
theorem IJ(T:Tx w K mg)(a ns:ae)(p:Nat):b8 (cb T .o a ns p)=true:=by
 simp only[cb,yG,fi,xT,xV,ly,D8,Bool.and_self]
theorem Xe(T:Tx w K mg){a ns:ae}{p:Nat}{Q:ar}(h:Q (cb T .o a ns p)):gW (some (cb T .o a ns p)) Q:=⟨Iv T _ _ _,h⟩
theorem VN:lM []:=⟨zero_le _,λ_ m=>nomatch m⟩
structure u6(ws ns:ae)(x:Wi)(p1 p3 p4 p5:Nat):Prop where
 k:x.k<3
 a:fU ws (cx ws ns 63) 0=.ok x.a p1
 v:(da ws p1).1=fG x.k
 b:fU ws (cx ws ns 63) (da ws p1).2=.ok x.b p3
 r:(ws.length<=p3/\x.r=0/\p4=p3)\/(¬ ws.length<=p3/\ay ws p3="by"/\1<=x.r/\x.r<5/\dD[x.r.toNat]?=some (ay ws (p3+1))/\p4=p3+2)
 w:(ws.length<=p4/\x.v=1/\p5=p4)\/(¬ ws.length<=p4/\whole 7 (ay ws p4).cps.toList=true/\x.v=vl (ay ws p4).cps.toList/\2<=x.v/\x.v<=1000000/\p5=p4+1)
 e:ws.length<=p5
theorem Gx{i j:Nat}{x:Str}(c:dD[i]?=some x)(d:dD[j]?=some x):i=j:=by
 have a:i<5:=by
  rcases lt_or_ge i 5 with z |z
  .exact z
  .rw[getElem?_eq_none (by exact z)] at c;cases c
 have b:j<5:=by
  rcases lt_or_ge j 5 with z |z
  .exact z
  .rw[getElem?_eq_none (by exact z)] at d;cases d
 exact (show ∀i,i<5->∀j,j<5->dD[i]?=dD[j]?->i=j by walk_at "k") i a j b (c.trans d.symm)
theorem Hl(T:Tx w K mg){r:PR}{t:Tm}{p:Nat}{Q:Tr->Nat->Prop}{q:ag->Prop}(e:r=.ok t p)(h:∀v,mY T t v->Q v p):r.run T Q q:=by rw[e];exact h
inductive FR where
 |cm (k:Nat) (a b:Tm) (r v:Int) |no |out
def oi(w:Str):Int:=if w="hand" then 1 else if w="strong" then 2 else if w="fair" then 3 else 4
def lY(a:ae)(p:Nat):Option (Int×Nat):=if a.length<=p then some (0,p) else if ay a p="by"/\ay a (p+1)∈dD.tail then some (oi (ay a (p+1)),p+2) else none
def kY(a:ae)(p:Nat):Option (Int×Nat):=if a.length<=p then some (1,p) else if whole 7 (ay a p).cps.toList=true/\2<=vl (ay a p).cps.toList/\vl (ay a p).cps.toList<=1000000 then some ((vl (ay a p).cps.toList:Int),p+1) else none
def lQ(w:Str):Nat:=if w="at least" then 1 else if w="at most" then 2 else 0
def nE(c:ae)(k:Nat)(a b:Tm)(p3:Nat):FR:=match lY c p3 with
 |none=>.no
 |some (r,p4)=>match kY c p4 with
  |none=>.no
  |some (v,p5)=>if c.length<=p5 then .cm k a b r v else .no
def sH(c ns:ae)(k:Nat)(a:Tm)(p2:Nat):FR:=match fU c (cx c ns 63) p2 with
 |.er=>.no
 |.out=>.out
 |.ok b p3=>nE c k a b p3
def iR(b ns:ae):FR:=match fU b (cx b ns 63) 0 with
 |.er=>.no
 |.out=>.out
 |.ok a p1=>if (da b p1).1 ∈ hU then sH b ns (lQ (da b p1).1) a (da b p1).2 else .no
theorem yT{w:Str}(h:w∈dD.tail):∃j:Nat,dD[j]?=some w/\oi w=j:=by
 have a:w="hand"\/w="strong"\/w="fair"\/w="faint":=by unfold dD at h;simpa using h
 rcases a with rfl |rfl |rfl |rfl
 .exact⟨1,by walk_at "k",by walk_at "k"⟩
 .exact⟨2,by walk_at "k",by walk_at "k"⟩
 .exact⟨3,by walk_at "k",by walk_at "k"⟩
 .exact⟨4,by walk_at "k",by walk_at "k"⟩
theorem VO(T:Tx w K mg){b ns:ae}{p:Nat}{Q:Tr->Nat->Prop}{q:ag->Prop}(e:lY b p=none->q (.ref T.acv))(a:∀r f,lY b p=some (r,f)->Q (.int r) f):pE T b ns p Q q:=by
 unfold pE;unfold lY at e a;by_cases c:b.length<=p
 .rw[if_pos c] at a ⊢;exact a 0 p rfl
 .rw[if_neg c] at e a ⊢;by_cases d:ay b p="by"/\ay b (p+1)∈dD.tail
  .rw[if_pos d] at a ⊢;intro j k;let⟨l,g,h⟩:=yT d.2;have i:=Gx k g;rw[i,<- h];exact a _ _ rfl
  .rw[if_neg d] at e ⊢;exact e rfl
theorem Xf(T:Tx w K mg){e ns:ae}{p:Nat}{Q:Tr->Nat->Prop}{q:ag->Prop}(b:kY e p=none->q (.ref T.acv))(a:∀r f,kY e p=some (r,f)->Q (.int r) f):pI T e ns p Q q:=by
 unfold pI;unfold kY at b a;by_cases c:e.length<=p
 .rw[if_pos c] at a ⊢;exact a 1 p rfl
 .rw[if_neg c] at b a ⊢;split
  .rename_i d;rw[if_pos d] at a;exact a _ _ rfl
  .rename_i d;rw[if_neg d] at b;exact b rfl
def su(T:Tx w K mg)(Q:ar)(q:ag->Prop):FR->Prop
 |.cm k a b r v=>a.dep <= 64 /\ b.dep <= 64 /\ (cu a).length + (cu b).length < 60 /\ (1 < (cI (cC a ++ cC b)).length -> q (.ref T.acy)) /\ ((cI (cC a ++ cC b)).length <= 1 -> Q (fH T .o ⟨k,a,b,r,v⟩))
 |.no=>q (.ref T.acv)
 |.out=>False
def KC(T:Tx w K mg):dY:=λa Q q=>a.length=2/\∃(x:Str)(ns:ae),a=[.str x,.ak .f ↥ns]/\lM ns/\x.length<=20000/\(60<(bL x).length->q (.ref T.acv))/\((bL x).length<=60->su T (λt=>∀j,Q t j) q (iR (bL x) ns))
theorem yU(T:Tx w K mg){C:ah}{a b:Tm}{r v:Int}{Q:ar}{q:ag->Prop}(i:C=T.aay\/C=T.aaF\/C=T.aaM)(c:a.dep<=64)(d:b.dep<=64)(f:(cu a).length+(cu b).length<60)(g:1<(cI (cC a++cC b)).length->q (.ref T.acy))(h:(cI (cC a++cC b)).length<=1->Q (Tr.ins .o C [("near",bz T a),("far",bz T b),("rank",.int r),("weight",.int v)])):Ct T [.ins .o C [],bz T a,bz T b,.int r,.int v] (λt l=>t=.aX/\gW l[0]? Q) q:=
 ⟨rfl,C,a,b,r,v,rfl,i,c,d,f,g,λk j e=>⟨rfl,by rw[e];exact⟨by simp only[lK,dB,kx,mn,Bool.and_self],h k⟩⟩⟩
theorem Mr(T:Tx w K mg):aB P w K mg base (b4 P w) 140 T.rJ.a T.rJ.d ["text","names"] (cv K true 0 2 (KC T)):=by
 refine gn T.rJ.F LX rfl ∎ λaR A outer s H E q c N M=>?_
 refine⟨_,(aO (lB 2 (tW T.oD.t ((Lz T).mono ⋯) (du (dG rfl rfl rfl rfl)) (by walk_at "z") (λ_ _ _ h=>h.1) c rfl T.Jl T.oD.b (QA.aU (aq (qv 0) (aq (qv 1) aI)))))
  (aO (gc 3 (e8 2 ((λC g d=>aQ.mono (DF T 63 C g d) ⋯)) (du (dG rfl rfl rfl rfl)) (by walk_at "z") (λ_ _ _ _ h=>h.1) c))
  (aO (gc 4 (e8 2 ((λC g d=>aQ.mono (NH T C g d) ⋯)) (du (dG rfl rfl rfl rfl)) (by walk_at "z") (λ_ _ _ _ h=>h.1) c))
  (aO (gc 5 (e8 2 ((λC g d=>aQ.mono (DF T 63 C g d) ⋯)) (du (dG rfl rfl rfl rfl)) (by walk_at "z") (λ_ _ _ _ h=>h.1) c))
  (aO (gc 6 (e8 2 ((λC g d=>aQ.mono (NI T C g d) ⋯)) (du (dG rfl rfl rfl rfl)) (by walk_at "z") (λ_ _ _ _ h=>h.1) c))
  (aO (gc 7 (e8 2 ((λC g d=>aQ.mono (Mq T C g d) ⋯)) (du (dG rfl rfl rfl rfl)) (by walk_at "z") (λ_ _ _ _ h=>h.1) c))
  (aO (qi (e8 2 ((λC g d=>aQ.mono (Rm T C g d) ⋯)) (du (dG rfl rfl rfl rfl)) (by walk_at "z") (λ_ _ _ _ h=>h.1) c))
  (aO (bI (bc bY bW (qv 4) aC) (aN (br (tW T.JL ((xc T).mono ⋯) (du (dG rfl rfl rfl rfl)) (by walk_at "z") (λ_ _ _ h=>h.1) c rfl T.Jb T.jR.b (QA.aU (aq (qv 3) (aq (qv 5) (aq (qv 6) (aq (qv 7) aI)))))))) bX)
  (aO (bI (bc bY bW (qv 4) aC) (aN (br (tW T.JN ((xc T).mono ⋯) (du (dG rfl rfl rfl rfl)) (by walk_at "z") (λ_ _ _ h=>h.1) c rfl T.Jg T.jR.b (QA.aU (aq (qv 3) (aq (qv 5) (aq (qv 6) (aq (qv 7) aI)))))))) bX)
  (aN (br (tW T.jR.t ((xc T).mono ⋯) (du (dG rfl rfl rfl rfl)) (by walk_at "z") (λ_ _ _ h=>h.1) c rfl T.Jp T.jR.b (QA.aU (aq (qv 3) (aq (qv 5) (aq (qv 6) (aq (qv 7) aI))))))))))))))))),?_⟩
 rintro Q L _ ⟨_,x,ns,rfl,hn,D,G,I⟩;simp only[cons_append,nil_append];rfl';refine⟨rfl,x,ns,rfl,D,G,λi j e=>⟨rfl,?_⟩⟩;have f:=nK i D;have h:=I i;rw[e];refine Xe T ⟨IJ T _ _ _,?_⟩;simp only[c8,dm,dq];generalize bL x=W at h f ⊢;unfold iR at h;cases ea:fU W (cx W ns 63) 0 with
 |er=>rw[ea] at h;exact fx T f ⟨hn,by rw[ea];exact h⟩
 |out=>rw[ea] at h;exact h.elim
 |ok a p1=>
 rw[ea] at h;dsimp only at h;refine fx T f ⟨hn,Hl T ea λv l=>?_⟩;simp only[mS T l,c8,dm,dq,true_and];clear l v;refine fx T f ?_;show (if _ then _ else _);by_cases k:(da W p1).1∈hU;rotate_left
 .rw[if_neg k] at h ⊢;exact h
 rw[if_pos k] at h ⊢;rfl'
 try simp only[c8,dm,dq]
 generalize (da W p1).1=vv at k h ⊢;generalize (da W p1).2=p2 at h ⊢;unfold sH at h;cases eb:fU W (cx W ns 63) p2 with
 |er=>rw[eb] at h;exact fx T f ⟨hn,by rw[eb];exact h⟩
 |out=>rw[eb] at h;exact h.elim
 |ok b p3=>
 rw[eb] at h;dsimp only at h;refine fx T f ⟨hn,Hl T eb λv l=>?_⟩;simp only[mS T l,c8,dm,dq,true_and];clear l v;unfold nE at h;refine fx T f (VO T (λer=>by rw[er] at h;exact h) λr O er=>?_);rw[er] at h;dsimp only at h;simp only[xR,c8,dm,dq];refine fx T f (Xf T (λn=>by rw[n] at h;exact h) λv J n=>?_);rw[n] at h;dsimp only at h;simp only[xR,c8,dm,dq];refine fx T f ?_;show (if _ then _ else _);by_cases B:W.length<=J;rotate_left
 .rw[if_neg B] at h ⊢;exact h
 rw[if_pos B] at h ⊢;let⟨o,p,u,y,z⟩:=h;simp only[ft,ky,eP,il];have m:vv="is"\/vv="at least"\/vv="at most":=by unfold hU at k;simpa using k
 rcases m with rfl |rfl |rfl
 .rw[if_neg (by walk_at "k"),if_neg (by walk_at "k")];exact yU T (.inl rfl) o p u y λi=>⟨by simp only[lK,dB,kx,mn,Bool.and_self],z i _⟩
 .rw[if_pos (by walk_at "k")];exact yU T (.inr (.inl rfl)) o p u y λi=>⟨by simp only[lK,dB,kx,mn,Bool.and_self],z i _⟩
 .rw[if_neg (by walk_at "k"),if_pos (by walk_at "k")];exact yU T (.inr (.inr rfl)) o p u y λi=>⟨by simp only[lK,dB,kx,mn,Bool.and_self],z i _⟩
theorem Xg{f ns:ae}{y:Wi}{p1 p3 l o:Nat}(h:u6 f ns y p1 p3 l o):iR f ns=.cm y.k y.a y.b y.r y.v:=by
 have x:=h.k;have n:(da f p1).1∈hU/\lQ (da f p1).1=y.k:=by
  rw[h.v];have:y.k=0\/y.k=1\/y.k=2:=⋯
  rcases this with e |e |e<;>rw[e]<;>decide +kernel
 have er:lY f p3=some (y.r,l):=by
  unfold lY;rcases h.r with⟨a,b,c⟩ |⟨a,b,c,d,e,g⟩
  .rw[if_pos a,b,c]
  .have m:ay f (p3+1)∈dD.tail:=by
    refine mem_of_getElem? (i:=y.r.toNat - 1) ?_;rw[List.getElem?_tail,show y.r.toNat - 1+1=y.r.toNat by omega];exact e
   let⟨j,p,q⟩:=yT m;have s:=Gx p e;rw[if_neg a,if_pos ⟨b,m⟩,q,s,g];congr 2;omega
 have u:kY f l=some (y.v,o):=by
  unfold kY;rcases h.w with⟨a,b,c⟩ |⟨a,b,c,d,e,g⟩
  .rw[if_pos a,b,c]
  .rw[if_neg a,if_pos ⟨b,⋯,⋯⟩,g,c]
 unfold iR;rw[h.a];dsimp only;rw[if_pos n.1,n.2];unfold sH;rw[h.b];dsimp only;unfold nE;rw[er];dsimp only;rw[u];dsimp only;rw[if_pos h.e]
theorem OF(T:Tx w K mg){Q c:ar}{q:ag->Prop}(k:∀t k a b r v,t=fH T .o ⟨k,a,b,r,v⟩->Q t->c t):∀{f:FR},su T Q q f->su T c q f
 |.cm _ _ _ _ _,h=>by let⟨d,e,g,i,j⟩:=h;exact⟨d,e,g,i,λl=>k _ _ _ _ _ _ rfl (j l)⟩
 |.no,h=>h
 |.out,h=>h
def BU(T:Tx w K mg):dY:=λa Q q=>a.length=1/\∃x:Str,a=[.str x]/\x.length<=20000/\(60<(bL x).length->q (.ref T.acv))/\((bL x).length<=60->su T (λt=>∀j,Q t j) q (iR (bL x) []))
theorem DQ(T:Tx w K mg):aB P w K mg base (b4 P w) 141 T.ot.a T.ot.d ["text"] (cv K true 0 1 (BU T)):=by
 refine gn T.ot.F MK rfl ∎ λaR A outer s H E q n o m=>?_
 refine⟨_,(aN (br (uT T.rJ (Mr T) (aq (qv 0) (aq (cF aI) aI))))),?_⟩;rintro p l _ ⟨_,x,rfl,i,c,f⟩;rfl';refine⟨rfl,x,[],rfl,VN,i,c,λg=>OF T (λt k a b r v e h j=>⟨?_,h _⟩) (f g)⟩;rw[e];simp only[fH,lK,dB,kx,mn,Bool.and_self]
theorem Ex{k n:Nat}(g:0<k)(h:n<10 ^ k):whole k (dc n)=true:=by
 have i:(dc n).length<=k:=by
  unfold dc;rw[length_map];exact (Nat.length_toDigits_le_iff ∎ g).mpr h
 have b:dig (dc n)=true:=all_eq_true.mpr λc m=>by have:=iX n c m;simp;omega
 have hd:dc n=[48]\/¬ (dc n).head?=some 48:=by
  cases e:dc n with
  |nil=>exact absurd e (Hf n)
  |cons c r=>
   by_cases a:c=48
   .subst a;cases r with
    |nil=>exact .inl rfl
    |cons d r=>
     exfalso;have v:=lg n;rw[e] at v;have j:vl (d::r)=n:=by rw[<- v];exact NumText.digitsVal_zero.symm
     have al:NumText.AllDigits (d::r):=λc m=>iX n c (by rw[e];exact mem_cons_of_mem _ m)
     have t:=NumText.toDigits_all (d::r) al;have f:dc n=(Nat.toDigits 10 (vl (d::r))).map Char.toNat:=by rw[j];rfl
     have len:(dc n).length=r.length+2:=by rw[e];rfl
     rw[f,length_map] at len;unfold vl at len;rw[t] at len;have dl:(List.dropWhile (λx=>x == 48) (d::r)).length<=r.length+1:=by
      have:=(List.dropWhile_sublist (p:=λx=>x == 48) (l:=d::r)).length_le;exact this
     cases hdw:List.dropWhile (λx=>x == 48) (d::r) with
     |nil=>rw[hdw] at len;have len:1=r.length+2:=len;omega
     |cons x y=>
      rw[hdw] at len dl;rw[length_map] at len;omega
   .exact .inr λz=>a (by simpa using z)
 unfold whole;rw[decide_eq_false (Hf n),decide_eq_true i,b];rcases hd with hd |hd
 .rw[decide_eq_true hd];rfl
 .rw[decide_eq_false hd];simp
theorem Ey{n:Nat}(h:n<1000000):whole 6 (dc n)=true:=Ex ∎ h
theorem Gy{L:List Nat}{a:Int}(h:L.head?=some 45↔a<0):sgn L a.natAbs=a:=by
 unfold sgn;by_cases c:a<0
 .rw[if_pos (h.mpr c)];omega
 .rw[if_neg (λz=>c (h.mp z))];omega
theorem Gz{q:Rat}(h:q.num.natAbs<1000000)(i:q.den<1000000):d9 (b3 q)=some (q.num,(q.den:Int)):=by
 have a:vl (strip (dec q.num))=q.num.natAbs:=by rw[xA,lg]
 have d:whole 6 (strip (dec q.num))=true:=by rw[xA];exact Ey h
 by_cases hd:q.den=1
 .have e:b3 q=dec q.num:=by unfold b3;rw[if_pos hd]
  have b:bH 47 (b3 q)=[dec q.num]:=by rw[e];exact k7 (sW _)
  let⟨r1,_⟩:=uy b d;have c:sgn (b3 q) (vl (strip (dec q.num)))=q.num:=by rw[a];exact Gy (by rw[e];exact nS _)
  rw[c] at r1;have g:Rat.divInt q.num 1=q:=by
   have z:=Rat.num_divInt_den q;rw[hd] at z;exact z
  rw[g] at r1;rw[r1 rfl,hd];rfl
 .have e:b3 q=dec q.num++47::dc q.den:=by unfold b3;rw[if_neg hd]
  have b:bH 47 (b3 q)=[dec q.num,dc q.den]:=by rw[e,qb (sW _),k7 (Fg _)]
  have dp:=q.den_pos;let⟨r1,_⟩:=uz b d (Ey i) (by rw[lg];omega);have j:(b3 q).head?=some 45↔q.num<0:=by
   have f:=(n7 b).2;rw[<- f];exact nS _
  have c:sgn (b3 q) (vl (strip (dec q.num)))=q.num:=by rw[a];exact Gy j
  rw[c,lg,Rat.num_divInt_den] at r1;exact r1 rfl
def Tm.gd(d:Bool):Tm->Prop
 |.num q=>q.num.natAbs < 1000000 /\ q.den < 1000000
 |.bC a n=>(a ∈ d8 \/ cB a=true) /\ cB a=d /\ gj n.cps.toList=true /\ ¬ (n = "frame" /\ (a = "gap" \/ a = "drop"))
 |.times q t=>(q.num.natAbs < 1000000 /\ q.den < 1000000) /\ t.gd d
 |.plus a b=>a.gd d /\ b.gd d
 |.minus a b=>a.gd d /\ b.gd d
abbrev bE:Str:="and"
abbrev aZ:Str:="less"
abbrev cg:Str:="times"
abbrev lR:Str:="of"
abbrev eD:Str:="("
abbrev eU:Str:=")"
inductive Wt:Bool->Tm->List Str->Prop
 |num (b:Bool) (q:Rat):Wt b (.num q) [tx (b3 q)]
 |bC (b:Bool) (a n:Str):Wt b (.bC a n) [a,lR,n]
 |times (b:Bool) (q:Rat) {t:Tm} {ws:List Str}:Wt true t ws -> Wt b (.times q t) (tx (b3 q)::cg::ws)
 |par (b:Bool) {t:Tm} {ws:List Str}:Wt false t ws -> Wt b t (eD::(ws ++ [eU]))
 |plus {a b:Tm} {x y:List Str}:Wt false a x -> Wt true b y -> Wt false (.plus a b) (x ++ bE::y)
 |minus {a b:Tm} {x y:List Str}:Wt false a x -> Wt true b y -> Wt false (.minus a b) (x ++ aZ::y)
theorem Wt.low:∀{b:Bool}{t:Tm}{c:ae},Wt b t c->Wt false t c
 |_,_,_,.num _ q=>.num _ q
 |_,_,_,.bC _ a n=>.bC _ a n
 |_,_,_,.times _ q h=>.times _ q h
 |_,_,_,.par _ h=>.par _ h
 |_,_,_,.plus h g=>.plus h g
 |_,_,_,.minus h g=>.minus h g
theorem fm{W pre r:ae}{x:Str}{p:Nat}(h:W=pre++x::r)(a:p=pre.length):ay W p=x:=by
 subst h a;unfold ay;rw[getElem?_append_right (le_refl _),Nat.sub_self];rfl
theorem Hm{W pre r:ae}{p:Nat}(h:W=pre++r)(a:p=pre.length):ay W p=(r.head?).getD "":=by
 subst h a;unfold ay;rw[getElem?_append_right (le_refl _),Nat.sub_self,List.head?_eq_getElem?]
theorem yV{x:Str}{r:Int×Int}(h:d9 x.cps.toList=some r):¬ x="("/\¬ (x∈d8\/cB x=true):=by
 have a:∀y∈(["(","left","width","right","middle","gap","top","height","bottom","centre","drop"]:ae),d9 y.cps.toList=none:=by walk_at "k"
 refine⟨λz=>?_,λz=>?_⟩
 .rw[z,a "(" (by simp)] at h;cases h
 .have m:x∈(["(","left","width","right","middle","gap","top","height","bottom","centre","drop"]:ae):=by
   rcases z with z |z
   .unfold d8 at z;simp only[mem_cons,not_mem_nil,or_false] at z ⊢;rcases z with z |z |z |z |z<;>simp[z]
   .have z:x∈([("top":Str),"height","bottom","centre","drop"]:ae):=of_decide_eq_true z;simp only[mem_cons,not_mem_nil,or_false] at z ⊢;rcases z with z |z |z |z |z<;>simp[z]
  rw[a x m] at h;cases h
theorem GA(x:Str):iG [] x=x:=if_neg λz=>by have a:=z.2.1;have b:_<=0:=z.2.2;omega
theorem Xh{x:Str}(h:x∈d8\/cB x=true):¬ x="(":=λz=>by
 subst z;exact absurd h (by walk_at "k")
def JP(W:ae)(n p:Nat)(t:Tm)(a l:Nat):Prop:=∃j,j<=l/\∀k,(cx W [] n p).bind (λt a=>fT W (cx W [] n) (k+j) t a)=fT W (cx W [] n) k t a
theorem JP.one{W:ae}{n p:Nat}{t:Tm}{a l:Nat}(h:cx W [] n p=.ok t a):JP W n p t a l:=⟨0,zero_le _,λk=>by rw[h];rfl⟩
theorem Xi{d:Bool}:∀{b:Bool}{t:Tm}{f:ae},Wt b t f->t.gd d->∀(n:Nat)(W pre post:ae),W=pre++f++post->f.length<=n->f.length<=60->¬ post.head?=some cg->(b=true->cx W [] n pre.length=.ok t (pre.length+f.length))/\JP W n pre.length t (pre.length+f.length) f.length:=by
 intro b t f h
 induction h with
 |num b q=>
  intro g n W pre post e hn o p;have c:cx W [] n pre.length=.ok (.num q) (pre.length+1):=by
   cases n with
   |zero=>exact absurd hn (by simp)
   |succ n=>
    have l:ay W pre.length=tx (b3 q):=fm (r:=post) (by rw[e];simp) rfl;have u:¬ ay W (pre.length+1)="times":=by
     rw[Hm (pre:=pre++[tx (b3 q)]) (r:=post) e (by simp)];cases hh:post.head? with
     |none=>decide +kernel
     |some x=>exact λz=>p (by rw[hh];exact congrArg some z)
    have hd:=Gz g.1 g.2;let⟨B,C⟩:=yV (x:=tx (b3 q)) hd;unfold cx;rw[l,if_neg B,if_neg C,dy,hd];dsimp only;rw[if_neg u,Rat.num_divInt_den]
  exact⟨λ_=>c,.one c⟩
 |bC b a m=>
  intro g n W pre post e hn o p;let⟨D,N,H,I⟩:=g;have c:cx W [] n pre.length=.ok (.bC a m) (pre.length+3):=by
   cases n with
   |zero=>exact absurd hn (by simp)
   |succ n=>
    have l:ay W pre.length=a:=fm (r:=lR::m::post) (by rw[e];simp) rfl;have u:ay W (pre.length+1)="of":=fm (pre:=pre++[a]) (r:=m::post) (by rw[e];simp) (by simp);have G:ay W (pre.length+1+1)=m:=fm (pre:=pre++[a,lR]) (r:=post) (by rw[e];simp) (by simp);unfold cx;rw[l,if_neg (Xh D),if_pos D];unfold kP;rw[u,if_pos rfl,G,GA,if_pos ⟨H,I⟩]
  exact⟨λ_=>c,.one c⟩
 |@times b q t f h A=>
  intro g n W pre post e hn o p;simp only[length_cons] at hn o ⊢;have c:cx W [] n pre.length=.ok (.times q t) (pre.length+(f.length+1+1)):=by
   cases n with
   |zero=>exact absurd hn (by simp)
   |succ n=>
    have l:ay W pre.length=tx (b3 q):=fm (r:=cg::(f++post)) (by rw[e];simp) rfl;have u:ay W (pre.length+1)="times":=fm (pre:=pre++[tx (b3 q)]) (r:=f++post) (by rw[e];simp) (by simp);have hd:=Gz g.1.1 g.1.2;let⟨B,C⟩:=yV (x:=tx (b3 q)) hd;have i:=(A g.2 n W (pre++[tx (b3 q),cg]) post (by rw[e];simp) ⋯ ⋯ p).1 rfl;rw[length_append] at i;have i:cx W [] n (pre.length+2)=.ok t (pre.length+2+f.length):=i;unfold cx;rw[l,if_neg B,if_neg C,dy,hd];dsimp only;rw[if_pos u,i,Rat.num_divInt_den];show PR.ok _ _=_;congr 1;omega
  exact⟨λ_=>c,.one c⟩
 |@par b t f h A=>
  intro g n W pre post e hn o p;simp only[length_cons,length_append,length_nil] at hn o ⊢;have c:cx W [] n pre.length=.ok t (pre.length+(f.length+(0+1)+1)):=by
   cases n with
   |zero=>exact absurd hn (by simp)
   |succ n=>
    have l:ay W pre.length=eD:=fm (r:=f++eU::post) (by rw[e];simp) rfl;have u:ay W (pre.length+1+f.length)=")":=fm (pre:=pre++eD::f) (r:=post) (by rw[e];simp) (by simp;omega);let⟨j,E,i⟩:=(A g n W (pre++[eD]) (eU::post) (by rw[e];simp) ⋯ ⋯ (by show ¬ some _=some _;decide +kernel)).2;rw[length_append] at i;have i:=i (60 - j+1);rw[show 60 - j+1+j=61 by omega] at i;unfold cx;rw[l,if_pos rfl];unfold fU;have i:(cx W [] n (pre.length+1)).bind (λt M=>fT W (cx W [] n) 61 t M)=fT W (cx W [] n) (60 - j+1) t (pre.length+1+f.length):=i;rw[i];unfold fT;rw[u,if_neg (by walk_at "k"),if_neg (by walk_at "k")];show (if ay W (pre.length+1+f.length)=")" then PR.ok t (pre.length+1+f.length+1) else PR.er)=_;rw[if_pos u];congr 1;omega
  exact⟨λ_=>c,.one c⟩
 |@plus a b x y J L v w=>
  intro g n W pre post e hn o p;simp only[length_cons,length_append] at hn o ⊢;refine⟨(λz=>nomatch z),?_⟩;have l:ay W (pre.length+x.length)="and":=fm (pre:=pre++x) (r:=y++post) (by rw[e];simp) (by simp);let⟨j,E,i⟩:=(v g.1 n W pre (bE::(y++post)) (by rw[e];simp) ⋯ ⋯ (by show ¬ some _=some _;decide +kernel)).2;have s:=(w g.2 n W (pre++x++[bE]) post (by rw[e];simp) ⋯ ⋯ p).1 rfl;rw[length_append,length_append] at s;have s:cx W [] n (pre.length+x.length+1)=.ok b (pre.length+x.length+1+y.length):=s;refine⟨j+1,⋯,λk=>?_⟩;have i:=i (k+1);rw[show k+1+j=k+(j+1) by omega] at i;rw[i]
  conv=>lhs;unfold fT
  rw[if_pos l,s];show fT _ _ _ _ _=_;congr 1;omega
 |@minus a b x y J L v w=>
  intro g n W pre post e hn o p;simp only[length_cons,length_append] at hn o ⊢;refine⟨(λz=>nomatch z),?_⟩;have l:ay W (pre.length+x.length)="less":=fm (pre:=pre++x) (r:=y++post) (by rw[e];simp) (by simp);let⟨j,E,i⟩:=(v g.1 n W pre (aZ::(y++post)) (by rw[e];simp) ⋯ ⋯ (by show ¬ some _=some _;decide +kernel)).2;have s:=(w g.2 n W (pre++x++[aZ]) post (by rw[e];simp) ⋯ ⋯ p).1 rfl;rw[length_append,length_append] at s;have s:cx W [] n (pre.length+x.length+1)=.ok b (pre.length+x.length+1+y.length):=s;refine⟨j+1,⋯,λk=>?_⟩;have i:=i (k+1);rw[show k+1+j=k+(j+1) by omega] at i;rw[i]
  conv=>lhs;unfold fT
  rw[l,if_neg (by walk_at "k"),if_pos rfl,s];show fT _ _ _ _ _=_;congr 1;omega
theorem Hn{d:Bool}{t:Tm}{a W pre post:ae}(h:Wt false t a)(g:t.gd d)(b:W=pre++a++post)(c:W.length<=60)(k:¬ post.head?=some cg)(ha:¬ post.head?=some bE)(f:¬ post.head?=some aZ):fU W (cx W [] 63) pre.length=.ok t (pre.length+a.length):=by
 have l:a.length<=60:=by rw[b] at c;simp only[length_append] at c;omega
 let⟨j,n,i⟩:=(Xi h g 63 W pre post b ⋯ l k).2;have i:=i (60 - j+1);rw[show 60 - j+1+j=61 by omega] at i;unfold fU;rw[i];unfold fT;have e:=Hm (p:=pre.length+a.length) (pre:=pre++a) (r:=post) b (by simp);have ne:∀x:Str,¬ x=""->¬ post.head?=some x->¬ ay W (pre.length+a.length)=x:=λx m h z=>by
  rw[e] at z;cases hh:post.head? with
  |none=>rw[hh] at z;exact m z.symm
  |some y=>rw[hh] at z h;exact h (congrArg some z)
 rw[if_neg (ne _ (by walk_at "k") ha),if_neg (ne _ (by walk_at "k") f)]
def jn(a:ae):Str:=tx (eh 32 (a.map (·.cps.toList)))
theorem Ez(c:Nat):∀(a b:List (List Nat)),a≠[]->b≠[]->eh c (a++b)=eh c a++c::eh c b
 |[],_,h,_=>absurd rfl h
 |[p],b,_,h=>by
  cases b with
  |nil=>exact absurd rfl h
  |cons q b=>rfl
 |p::q::a,b,_,h=>by
  have d:=Ez c (q::a) b (λz=>nomatch z) h;show p++c::eh c ((q::a)++b)=(p++c::eh c (q::a))++c::eh c b;rw[d];simp
theorem mD(x:Str):jn [x]=x:=gz x
theorem X3:(" ":Str)=tx [32]:=by walk_at "k"
theorem kg{a b:ae}(ha:a≠[])(c:b≠[]):jn (a++b)=jn a++" "++jn b:=by
 unfold jn;rw[map_append,Ez 32 _ _ (by simpa using ha) (by simpa using c),X3,nT,nT];simp
def ff(ws:ae):Prop:=∀y∈ws,32 ∉ y.cps.toList
theorem Ho{a:ae}(h:a≠[])(f:ff a):bL (jn a)=a:=by
 unfold bL jn;rw[dy,xk (by simpa using h) (λp m=>by let⟨y,b,rfl⟩:=mem_map.mp m;exact f y b),map_map]
 conv=>rhs;rw[<- List.map_id a]
 exact List.map_congr_left λy _=>gz y
theorem Wt.ne:∀{b:Bool}{t:Tm}{a:ae},Wt b t a->a≠[]
 |_,_,_,.num _ _=>λz=>nomatch z
 |_,_,_,.bC _ _ _=>λz=>nomatch z
 |_,_,_,.times _ _ _=>λz=>nomatch z
 |_,_,_,.par _ _=>λz=>nomatch z
 |_,_,_,.plus _ _=>λz=>by simp at z
 |_,_,_,.minus _ _=>λz=>by simp at z
def Wx(b:Bool)(t:Tm)(x:Str):Prop:=∃a,Wt b t a/\ff a/\x=jn a
def nq(q:Rat):Prop:=q.num.natAbs<1000000/\q.den<1000000
theorem yx(q:Rat):32 ∉ b3 q:=λm=>by
 have hd:∀a:Int,32 ∉ dec a:=λa m=>by
  unfold dec at m;split at m
  .rcases mem_cons.mp m with h |h
   .cases h
   .have:=iX _ _ h;omega
  .have:=iX _ _ m;omega
 unfold b3 at m;split at m
 .exact hd _ m
 .rcases mem_append.mp m with h |h
  .exact hd _ h
  .rcases mem_cons.mp h with h |h
   .cases h
   .have:=iX _ _ h;omega
theorem nL{x:Str}(h:32 ∉ x.cps.toList):ff [x]:=λy m=>by rw[mem_singleton.mp m];exact h
theorem kb{x:Str}{a:ae}(h:32 ∉ x.cps.toList)(f:ff a):ff (x::a):=λy m=>(mem_cons.mp m).elim (λe=>by rw[e];exact h) (f y)
theorem lq{a b:ae}(f:ff a)(g:ff b):ff (a++b):=λy m=>(mem_append.mp m).elim (f y) (g y)
theorem Xj{L:List Nat}(h:gj L=true):32 ∉ L:=λm=>by
 unfold gj at h;simp only[and_eq_true,all_eq_true] at h;have:=h.2.2 32 m;exact absurd this.1 ∎
theorem yW{a:Str}(h:a∈d8\/cB a=true):32 ∉ a.cps.toList/\a.length<=6:=by
 have b:∀a∈d8,32 ∉ a.cps.toList/\a.length<=6:=by walk_at "k"
 have c:∀a∈([("top":Str),"height","bottom","centre","drop"]:ae),32 ∉ a.cps.toList/\a.length<=6:=by walk_at "k"
 rcases h with h |h
 .exact b a h
 .exact c a (of_decide_eq_true h)
theorem kv(x:Str){c:ae}(h:c≠[]):jn (x::c)=x++" "++jn c:=by
 have e:=kg (a:=[x]) (b:=c) (λz=>nomatch z) h;rw[mD] at e;exact e
theorem IK:(" of ":Str)=" "++lR++" ":=by walk_at "k"
theorem RL:(" times ":Str)=" "++cg++" ":=by walk_at "k"
theorem X4:(" and ":Str)=" "++bE++" ":=by walk_at "k"
theorem Xk:(" less ":Str)=" "++aZ++" ":=by walk_at "k"
theorem IL:("( ":Str)=eD++" ":=by walk_at "k"
theorem IM:(" )":Str)=" "++eU:=by walk_at "k"
theorem Wx.low{b:Bool}{t:Tm}{x:Str}(h:Wx b t x):Wx false t x:=by
 let⟨d,a,c,e⟩:=h;exact⟨d,a.low,c,e⟩
def vw(k:Nat):ae:=if k=0 then ["is"] else if k=1 then ["at","least"] else ["at","most"]
def tw(r v:Int):ae:=if r=0 then [] else if v=1 then ["by",(dD[r.toNat]?).getD ""] else ["by",(dD[r.toNat]?).getD "",tx (dec v)]
theorem zu{k:Nat}(h:k<3):jn (vw k)=fG k/\ff (vw k)/\vw k≠[]:=by
 have:k=0\/k=1\/k=2:=⋯
 rcases this with rfl |rfl |rfl
 .exact⟨by walk_at "k",by unfold ff;decide +kernel,by walk_at "k"⟩
 .exact⟨by walk_at "k",by unfold ff;decide +kernel,by walk_at "k"⟩
 .exact⟨by walk_at "k",by unfold ff;decide +kernel,by walk_at "k"⟩
theorem yX{r:Int}(a:0<=r)(b:r<5):∃R:Str,dD[r.toNat]?=some R/\32 ∉ R.cps.toList/\R.length<=6:=by
 have:r=0\/r=1\/r=2\/r=3\/r=4:=⋯
 rcases this with rfl |rfl |rfl |rfl |rfl
 .exact⟨"must",rfl,by walk_at "k",∎⟩
 .exact⟨"hand",rfl,by walk_at "k",∎⟩
 .exact⟨"strong",rfl,by walk_at "k",∎⟩
 .exact⟨"fair",rfl,by walk_at "k",∎⟩
 .exact⟨"faint",rfl,by walk_at "k",∎⟩
theorem VP(a:Int):32 ∉ dec a:=λm=>by
 unfold dec at m;split at m
 .rcases mem_cons.mp m with h |h
  .cases h
  .have:=iX _ _ h;omega
 .have:=iX _ _ m;omega
theorem Iw:(" by ":Str)=" "++Str.ofString "by"++" ":=by walk_at "k"
theorem Hq{r:Int}(v:Int)(a:0<=r)(b:r<5):ff (tw r v):=by
 let⟨R,e,f,_⟩:=yX a b;unfold tw;rw[e,getD_some];split
 .exact λ_ m=>nomatch m
 .split
  .exact kb (by walk_at "k") (nL f)
  .exact kb (by walk_at "k") (kb f (nL (VP v)))
theorem Ic{a:ae}(r v:Int)(h:a≠[]):jn (a++tw r v)=jn a++gP r v:=by
 unfold tw gP;split
 .rw[append_nil,Gs]
 .split
  .rw[kg h (cons_ne_nil _ _),kv _ (cons_ne_nil _ _),mD,Iw];simp only[jE]
  .rw[kg h (cons_ne_nil _ _),kv _ (cons_ne_nil _ _),kv _ (cons_ne_nil _ _),mD,Iw];simp only[jE]
theorem yy{W:ae}{p:Nat}(h:W.length<=p):ay W p="":=by
 unfold ay;rw[getElem?_eq_none h];rfl
theorem Hr{v:Int}(h:0<=v):dec v=dc v.toNat:=by
 unfold dec;rw[if_neg ⋯,show v.natAbs=v.toNat by omega]
theorem Ye{d:Bool}{y:Wi}{x z:Str}(O:Wx false y.a x)(hz:Wx false y.b z)(ga:y.a.gd d)(gb:y.b.gd d)(u:y.k<3)(s:0<=y.r)(l:y.r<5)(v0:1<=y.v)(v1:y.v<=1000000)(A:y.r=0->y.v=1)(o:(bL (x++" "++fG y.k++" "++z++gP y.r y.v)).length<=60):∃p1 p3 e f,u6 (bL (x++" "++fG y.k++" "++z++gP y.r y.v)) [] y p1 p3 e f:=by
 ∎;let⟨k,a,b,r,v⟩:=y;let⟨us,j,N,rfl⟩:=O;let⟨vs,q,M,rfl⟩:=hz;∎;simp only at j q ga gb u s l v0 v1 A o ⊢;let⟨w1,w2,w3⟩:=zu u;have J:jn us++" "++fG k++" "++jn vs++gP r v=jn (us++vw k++vs++tw r v):=by
  rw[Ic r v (by simp[j.ne]),kg (by simp[j.ne]) q.ne,kg j.ne w3,w1]
 have I:bL (jn us++" "++fG k++" "++jn vs++gP r v)=us++vw k++vs++tw r v:=by
  rw[J];exact Ho (by simp[j.ne]) (lq (lq (lq N w2) M) (Hq v s l))
 rw[I] at o ⊢;let⟨R,n,fR,_⟩:=yX s l;have vh:∃c rest,vw k=c::rest/\¬ c=cg/\¬ c=bE/\¬ c=aZ:=by
  have:k=0\/k=1\/k=2:=⋯
  rcases this with rfl |rfl |rfl
  .exact⟨_,_,rfl,by walk_at "k",by walk_at "k",by walk_at "k"⟩
  .exact⟨_,_,rfl,by walk_at "k",by walk_at "k",by walk_at "k"⟩
  .exact⟨_,_,rfl,by walk_at "k",by walk_at "k",by walk_at "k"⟩
 let⟨c,rest,L,E,G,H⟩:=vh;have hd:∀x:Str,¬ c=x->¬ (vw k++vs++tw r v).head?=some x:=λx h z=>by rw[L] at z;exact h (Option.some.inj z)
 have C:=Hn (W:=us++vw k++vs++tw r v) (pre:=[]) (post:=vw k++vs++tw r v) j ga (by simp) o (hd _ E) (hd _ G) (hd _ H);rw[length_nil,Nat.zero_add] at C;have pv:da (us++vw k++vs++tw r v) us.length=(fG k,us.length+(vw k).length):=by
  have:k=0\/k=1\/k=2:=⋯
  unfold da;rcases this with rfl |rfl |rfl
  .have e1:ay (us++vw 0++vs++tw r v) us.length="is":=fm (pre:=us) (r:=vs++tw r v) (by simp[vw]) rfl;rw[e1,if_neg (by walk_at "k")];rfl
  .have e1:ay (us++vw 1++vs++tw r v) us.length="at":=fm (pre:=us) (r:=Str.ofString "least"::(vs++tw r v)) (by simp[vw]) rfl;have p:ay (us++vw 1++vs++tw r v) (us.length+1)="least":=fm (pre:=us++[Str.ofString "at"]) (r:=vs++tw r v) (by simp[vw]) (by simp);rw[e1,if_pos rfl,p];show (_,_)=(_,_)
   congr 1
  .have e1:ay (us++vw 2++vs++tw r v) us.length="at":=fm (pre:=us) (r:=Str.ofString "most"::(vs++tw r v)) (by simp[vw]) rfl;have p:ay (us++vw 2++vs++tw r v) (us.length+1)="most":=fm (pre:=us++[Str.ofString "at"]) (r:=vs++tw r v) (by simp[vw]) (by simp);rw[e1,if_pos rfl,p];show (_,_)=(_,_)
   congr 1
 have i:∀x:Str,¬ Str.ofString "by"=x->¬ (tw r v).head?=some x:=λx h z=>by
  unfold tw at z;split at z
  .cases z
  .split at z
   .exact h (Option.some.inj z)
   .exact h (Option.some.inj z)
 have D:=Hn (W:=us++vw k++vs++tw r v) (pre:=us++vw k) (post:=tw r v) q gb rfl o (i _ (by walk_at "k")) (i _ (by walk_at "k")) (i _ (by walk_at "k"));rw[length_append] at D;have lW:(us++vw k++vs++tw r v).length=us.length+(vw k).length+vs.length+(tw r v).length:=by simp only[length_append]
 have g:∀e f,((us++vw k++vs++tw r v).length<=us.length+(vw k).length+vs.length/\r=0/\e=us.length+(vw k).length+vs.length\/¬ (us++vw k++vs++tw r v).length<=us.length+(vw k).length+vs.length/\ay (us++vw k++vs++tw r v) (us.length+(vw k).length+vs.length)="by"/\1<=r/\r<5/\dD[r.toNat]?=some (ay (us++vw k++vs++tw r v) (us.length+(vw k).length+vs.length+1))/\e=us.length+(vw k).length+vs.length+2)->((us++vw k++vs++tw r v).length<=e/\v=1/\f=e\/¬ (us++vw k++vs++tw r v).length<=e/\whole 7 (ay (us++vw k++vs++tw r v) e).cps.toList=true/\v=vl (ay (us++vw k++vs++tw r v) e).cps.toList/\2<=v/\v<=1000000/\f=e+1)->(us++vw k++vs++tw r v).length<=f->∃p1 p3 e f,u6 (us++vw k++vs++tw r v) [] ⟨k,a,b,r,v⟩ p1 p3 e f:=λe f Q U Y=>⟨us.length,us.length+(vw k).length+vs.length,e,f,u,C,by rw[pv],by rw[pv];exact D,Q,U,Y⟩
 by_cases m:r=0
 .have et:tw r v=[]:=by unfold tw;rw[if_pos m]
  have B:(tw r v).length=0:=by rw[et];rfl
  exact g _ _ (.inl ⟨⋯,m,rfl⟩) (.inl ⟨⋯,A m,rfl⟩) ⋯
 .by_cases hv1:v=1
  .have et:tw r v=[Str.ofString "by",R]:=by unfold tw;rw[if_neg m,if_pos hv1,n];rfl
   have B:(tw r v).length=2:=by rw[et];rfl
   refine g _ _ (.inr ⟨⋯,?_,⋯,l,?_,rfl⟩) (.inl ⟨⋯,hv1,rfl⟩) ⋯
   .exact fm (pre:=us++vw k++vs) (r:=[R]) (by rw[et]) (by first |(simp;done) |(simp;omega))
   .rw[n,fm (x:=R) (pre:=us++vw k++vs++[Str.ofString "by"]) (r:=[]) (by rw[et];simp) (by first |(simp;done) |(simp;omega))]
  .have et:tw r v=[Str.ofString "by",R,tx (dec v)]:=by unfold tw;rw[if_neg m,if_neg hv1,n];rfl
   have B:(tw r v).length=3:=by rw[et];rfl
   have w:ay (us++vw k++vs++tw r v) (us.length+(vw k).length+vs.length+2)=tx (dec v):=fm (pre:=us++vw k++vs++[Str.ofString "by",R]) (r:=[]) (by rw[et];simp) (by first |(simp;done) |(simp;omega));refine g _ _ (.inr ⟨⋯,?_,⋯,l,?_,rfl⟩) (.inr ⟨⋯,?_,?_,⋯,⋯,rfl⟩) ⋯
   .exact fm (pre:=us++vw k++vs) (r:=[R,tx (dec v)]) (by rw[et]) (by first |(simp;done) |(simp;omega))
   .rw[n,fm (x:=R) (pre:=us++vw k++vs++[Str.ofString "by"]) (r:=[tx (dec v)]) (by rw[et];simp) (by first |(simp;done) |(simp;omega))]
   .rw[w,dy,Hr ⋯];exact Ex ∎ ⋯
   .rw[w,dy,Hr ⋯,lg];omega
theorem GB(ks:ae)(x:Str):x∈mV ks↔x∈ks:=(Classical.epsilon_spec (G1 ks)).1.mem_iff
mutual
noncomputable def cw:Tm->Nat
 |.num _=>1 |.bC _ _=>3 |.times _ t=>2 + bw t |.plus a b=>cw a + 1 + bw b |.minus a b=>cw a + 1 + bw b
noncomputable def bw:Tm->Nat
 |.num _=>1 |.bC _ _=>3 |.times _ t=>2 + bw t |.plus a b=>cw a + 1 + bw b + 2 |.minus a b=>cw a + 1 + bw b + 2
end
theorem uB(t:Tm):cw t<=bw t:=by cases t<;>simp[cw,bw]<;>omega
theorem X5(t:Tm):bw t<=cw t+2:=by cases t<;>simp[cw,bw]<;>omega
theorem jG:∀{b:Bool}{t:Tm}{c:ae},Wt b t c->(if b=true then bw t else cw t)<=c.length
 |b,_,_,.num _ q=>by cases b <;> simp[cw,bw]
 |b,_,_,.bC _ a n=>by cases b <;> simp[cw,bw]
 |b,_,_,.times _ q h=>by
  have:=jG h;rw[if_pos rfl] at this;cases b<;>simp[cw,bw]<;>omega
 |b,t,_,.par _ h=>by
  have:=jG h;have k:=X5 t;have d:=uB t;rw[if_neg ∎] at this;cases b<;>simp<;>omega
 |_,_,_,.plus h g=>by
  have h:=jG h;have g:=jG g;rw[if_neg ∎] at h ⊢;rw[if_pos rfl] at g;simp[cw];omega
 |_,_,_,.minus h g=>by
  have h:=jG h;have g:=jG g;rw[if_neg ∎] at h ⊢;rw[if_pos rfl] at g;simp[cw];omega
inductive Tk where
 |e (d:Bool) |w (x:Str)
 deriving DecidableEq
def df(x:Str):Bool:=(d9 x.cps.toList).isSome
inductive Sx where |E |N |H
 deriving DecidableEq
def dH:Tk->Sx->Nat->Option (Sx×Nat)
 |.e _,.E,d=>some (.H,d)
 |.w x,.E,d=>if df x=true then some (.N,d) else if x=eD then some (.E,d + 1) else none
 |.e _,_,_=>none
 |.w x,s,d=>if x=bE \/ x=aZ then some (.E,d) else if x=eU /\ 0 < d then some (.H,d - 1) else if x=cg /\ s=.N then some (.E,d) else none
def af:List Tk->Sx->Nat->Bool
 |[],s,d=>!decide (s=.E)&&decide (d=0)
 |t::r,s,d=>match dH t s d with |some (s',d')=>af r s' d' |none=>false
def mx:List Tk->Sx->Nat->List Tk×Bool×Nat
 |[],s,d=>([],!decide (s=.E),d)
 |t::r,s,d=>match dH t s d with |some (s',d')=>mx r s' d' |none=>(t::r,!decide (s=.E),d)
theorem lF(x:Str)(d:Nat):dH (.w x) .E d=if df x=true then some (.N,d) else if x=eD then some (.E,d+1) else none:=rfl
theorem jH(x:Str)(s:Sx)(d:Nat)(h:s≠.E):dH (.w x) s d=if x=bE\/x=aZ then some (.E,d) else if x=eU/\0<d then some (.H,d - 1) else if x=cg/\s=.N then some (.E,d) else none:=by
 cases s with
 |E=>exact absurd rfl h
 |_=>rfl
def eZ:Tk->Bool
 |.e _=>true |.w x=>df x
theorem X6:df bE=false:=by walk_at "k"
theorem Yf:df aZ=false:=by walk_at "k"
theorem GC:df cg=false:=by walk_at "k"
theorem IP:df eD=false:=by walk_at "k"
theorem Iy:df eU=false:=by walk_at "k"
theorem uH{x y:Str}(h:df x=true)(g:df y=false):¬ x=y:=λe=>by rw[e,g] at h;cases h
theorem my{x:Str}(h:df x=true)(s:Sx)(d:Nat):dH (.w x) s d=if s=.E then some (.N,d) else none:=by
 by_cases a:s=.E
 .rw[a,lF,if_pos h,if_pos rfl]
 .rw[if_neg a,jH _ _ _ a,if_neg (λz=>z.elim (uH h X6) (uH h Yf)),if_neg (λz=>uH h Iy z.1),if_neg (λz=>uH h GC z.1)]
theorem lr{t:Tk}(h:eZ t=true):(∀d,∃s,s≠.E/\dH t .E d=some (s,d))/\∀s d,s≠.E->dH t s d=none:=by
 cases t with
 |e b=>exact⟨λd=>⟨.H,∎,rfl⟩,λs d a=>by cases s <;> first |exact absurd rfl a |rfl⟩
 |w x=>exact⟨λd=>⟨.N,∎,by rw[my h,if_pos rfl]⟩,λs d a=>by rw[my h,if_neg a]⟩
theorem uj(s:Sx)(d:Nat):dH (.w eD) s d=if s=.E then some (.E,d+1) else none:=by
 by_cases a:s=.E
 .rw[a,lF,IP,if_neg ∎,if_pos rfl,if_pos rfl]
 .rw[if_neg a,jH _ _ _ a,if_neg (by walk_at "k"),if_neg (λz=>absurd z.1 (by walk_at "k")),if_neg (λz=>absurd z.1 (by walk_at "k"))]
theorem yY{o:Str}(h:o=bE\/o=aZ)(s:Sx)(d:Nat):dH (.w o) s d=if s=.E then none else some (.E,d):=by
 by_cases a:s=.E
 .rw[a,lF,if_neg (by rcases h with rfl |rfl<;>decide +kernel),if_neg (by rcases h with rfl |rfl<;>decide +kernel),if_pos rfl]
 .rw[if_neg a,jH _ _ _ a,if_pos h]
theorem yZ(s:Sx)(d:Nat):dH (.w eU) s d=if s=.E then none else if 0<d then some (.H,d - 1) else none:=by
 by_cases a:s=.E
 .rw[a,lF,Iy,if_neg ∎,if_neg (by walk_at "k"),if_pos rfl]
 .rw[if_neg a,jH _ _ _ a,if_neg (by walk_at "k")];by_cases c:0<d
  .rw[if_pos ⟨rfl,c⟩,if_pos c]
  .rw[if_neg (λz=>c z.2),if_neg c,if_neg (λz=>absurd z.1 (by walk_at "k"))]
theorem y1(s:Sx)(d:Nat):dH (.w cg) s d=if s=.N then some (.E,d) else none:=by
 by_cases a:s=.E
 .rw[a,lF,GC,if_neg ∎,if_neg (by walk_at "k"),if_neg ∎]
 .rw[jH _ _ _ a,if_neg (by walk_at "k"),if_neg (λz=>absurd z.1 (by walk_at "k"))];by_cases c:s=.N
  .rw[if_pos ⟨rfl,c⟩,if_pos c]
  .rw[if_neg (λz=>c z.2),if_neg c]
def gI(r:List Tk):Prop:=¬ r.head?=some (.w cg)
theorem Fx{t:Tk}(h:¬ t=.w cg)(d:Nat):dH t .N d=dH t .H d:=by
 cases t with
 |e b=>rfl
 |w x=>
  have a:¬ x=cg:=λz=>h (by rw[z])
  rw[jH _ _ _ ∎,jH _ _ _ ∎,if_neg (λz:x=cg/\Sx.N=.N=>a z.1),if_neg (λz:x=cg/\Sx.H=.N=>a z.1)]
theorem GD{r:List Tk}(h:gI r)(s:Sx)(hs:s≠.E)(d:Nat):af r s d=af r .H d:=by
 cases s with
 |E=>exact absurd rfl hs
 |H=>rfl
 |N=>
  cases r with
  |nil=>rfl
  |cons t r=>
   show (match dH t .N d with |some (s',d')=>af r s' d' |none=>false)=match dH t .H d with |some (s',d')=>af r s' d' |none=>false
   rw[Fx (λz=>h (by rw[z];rfl))]
theorem VQ{r:List Tk}(h:gI r)(s:Sx)(hs:s≠.E)(d:Nat):mx r s d=mx r .H d:=by
 cases s with
 |E=>exact absurd rfl hs
 |H=>rfl
 |N=>
  cases r with
  |nil=>rfl
  |cons t r=>
   show (match dH t .N d with |some (s',d')=>mx r s' d' |none=>(t::r,!decide (Sx.N=Sx.E),d))=match dH t .H d with |some (s',d')=>mx r s' d' |none=>(t::r,!decide (Sx.H=Sx.E),d)
   rw[Fx (λz=>h (by rw[z];rfl))];rfl
theorem fy{t:Tk}{r:List Tk}{s s':Sx}{d d':Nat}(h:dH t s d=some (s',d')):af (t::r) s d=af r s' d':=by
 show (match dH t s d with |some (s',d')=>af r s' d' |none=>false)=_;rw[h]
theorem iY{t:Tk}{r:List Tk}{s:Sx}{d:Nat}(h:dH t s d=none):af (t::r) s d=false:=by
 show (match dH t s d with |some (s',d')=>af r s' d' |none=>false)=_;rw[h]
theorem ka{t:Tk}{r:List Tk}{s s':Sx}{d d':Nat}(h:dH t s d=some (s',d')):mx (t::r) s d=mx r s' d':=by
 show (match dH t s d with |some (s',d')=>mx r s' d' |none=>_)=_;rw[h]
theorem nM{t:Tk}{r:List Tk}{s:Sx}{d:Nat}(h:dH t s d=none):mx (t::r) s d=(t::r,!decide (s=.E),d):=by
 show (match dH t s d with |some (s',d')=>mx r s' d' |none=>_)=_;rw[h]
theorem Hs{x y:List Tk}(h:∀s d,af x s d=af y s d):∀(p:List Tk)(s:Sx)(d:Nat),af (p++x) s d=af (p++y) s d
 |[],s,d=>h s d
 |t::p,s,d=>by
  cases e:dH t s d with
  |none=>rw[cons_append,cons_append,iY e,iY e]
  |some z=>rw[cons_append,cons_append,fy (s':=z.1) (d':=z.2) e,fy (s':=z.1) (d':=z.2) e];exact Hs h p _ _
structure lU(p:List Tk)(a b c:Tk)(q:List Tk):Prop where
 h:(b=.w cg/\(∃x,a=.w x/\df x=true)/\eZ c=true/\gI q)\/(a=.w eD/\eZ b=true/\c=.w eU/\∀d,¬ p.getLast?=some (.e d))\/((b=.w bE\/b=.w aZ)/\eZ a=true/\eZ c=true/\gI q/\∀o,o=cg\/o=bE\/o=aZ->¬ p.getLast?=some (.w o))
theorem lN{b:Tk}(h:b=.w bE\/b=.w aZ):∃o,b=.w o/\(o=bE\/o=aZ):=by
 rcases h with h |h
 .exact⟨_,h,.inl rfl⟩
 .exact⟨_,h,.inr rfl⟩
theorem lU.af{p:List Tk}{a b c:Tk}{q:List Tk}(h:lU p a b c q)(f:Bool)(s:Sx)(d:Nat):Sf.af (p++a::b::c::q) s d=Sf.af (p++.e f::q) s d:=by
 refine Hs (λs d=>?_) p s d;by_cases l:s=.E
 .subst l;rw[fy (t:=.e f) (s':=.H) (d':=d) rfl];rcases h.h with⟨rfl,⟨x,rfl,n⟩,j,k⟩ |⟨rfl,i,rfl,_⟩ |⟨i,ha,j,k,_⟩
  .obtain⟨s',m,g⟩:=(lr j).1 d;rw[fy (s':=.N) (d':=d) (by rw[my n,if_pos rfl]),fy (s':=.E) (d':=d) (by rw[y1,if_pos rfl]),fy g];exact GD k _ m d
  .obtain⟨s',m,g⟩:=(lr i).1 (d+1);rw[fy (s':=.E) (d':=d+1) (by rw[uj,if_pos rfl]),fy g,fy (s':=.H) (d':=d) (by rw[yZ,if_neg m,if_pos (Nat.succ_pos d)];rfl)]
  .obtain⟨o,rfl,ho⟩:=lN i;∎;let⟨s',m,g⟩:=(lr ha).1 d;let⟨v,u,r⟩:=(lr j).1 d;∎;rw[fy g,fy (s':=.E) (d':=d) (by rw[yY ho,if_neg m]),fy r];exact GD k _ u d
 .rw[iY (t:=.e f) ((lr (t:=.e f) rfl).2 s d l)];rcases h.h with⟨rfl,⟨x,rfl,n⟩,j,k⟩ |⟨rfl,i,rfl,_⟩ |⟨i,ha,j,k,_⟩
  .exact iY (by rw[my n,if_neg l])
  .exact iY (by rw[uj,if_neg l])
  .exact iY ((lr ha).2 s d l)
inductive Cq where |st |lp |tm |op
def Ctx(d:Nat)(p:List Tk):Cq->Prop
 |.st=>p=[] /\ d=0
 |.lp=>0 < d /\ ∃q,p=q ++ [.w eD] /\ ∀f,¬ q.getLast? = some (.e f)
 |.tm=>∃q x,p=q ++ [.w x,.w cg] /\ df x=true
 |.op=>∃q a o,p=q ++ [a,.w o] /\ eZ a=true /\ (o=bE \/ o=aZ) /\ ∀z,z=cg \/ z=bE \/ z=aZ -> ¬ q.getLast? = some (.w z)
def kQ(l:List Tk):Prop:=∃p a b c q,l=p++a::b::c::q/\lU p a b c q
theorem zv{q:List Tk}{b:Tk}:(q++[b]).getLast?=some b:=by simp
theorem Ie{q:List Tk}{a b:Tk}:(q++[a,b]).getLast?=some b:=by
 rw[show q++[a,b]=(q++[a])++[b] by simp,zv]
theorem Ctx.ne{d:Nat}{p:List Tk}{c:Cq}(h:Ctx d p c)(f:Bool):¬ p.getLast?=some (.e f):=λe=>by
 cases c with
 |st=>rw[h.1] at e;cases e
 |lp=>let⟨_,q,rfl,_⟩:=h;rw[zv] at e;cases e
 |tm=>let⟨q,x,rfl,_⟩:=h;rw[Ie] at e;cases e
 |op=>let⟨q,a,o,rfl,_⟩:=h;rw[Ie] at e;cases e
theorem Ctx.hd{d:Nat}{p:List Tk}{c:Cq}(h:Ctx d p c)(b:c=.st\/c=.lp):∀z,z=cg\/z=bE\/z=aZ->¬ p.getLast?=some (.w z):=λz a e=>by
 rcases b with rfl |rfl
 .rw[h.1] at e;cases e
 .obtain⟨_,q,rfl,_⟩:=h;rw[zv] at e;have e:eD=z:=by injection e with e;injection e
  rw[<- e] at a;exact absurd a (by walk_at "k")
theorem za{p l:List Tk}{d:Nat}{t:Tk}(h:Ctx d p .tm)(ht:eZ t=true)(a:gI l):kQ (p++t::l):=by
 let⟨q,x,rfl,b⟩:=h;exact⟨q,_,_,t,l,by simp,⟨.inl ⟨rfl,⟨x,rfl,b⟩,ht,a⟩⟩⟩
theorem zb{p l:List Tk}{d:Nat}{t:Tk}(h:Ctx d p .op)(ht:eZ t=true)(b:gI l):kQ (p++t::l):=by
 let⟨q,a,o,rfl,ha,c,e⟩:=h;refine⟨q,a,.w o,t,l,by simp,⟨.inr (.inr ⟨?_,ha,ht,b,e⟩)⟩⟩;rcases c with rfl |rfl
 .exact .inl rfl
 .exact .inr rfl
theorem nU:∀(l:List Tk)(d:Nat)(p:List Tk)(c:Cq),Ctx d p c->(af l .E d=true->(∃t,p=[]/\l=[t]/\eZ t=true)\/kQ (p++l))/\
  ∀t s,eZ t=true->s≠.E->(s=.N->∃x,t=.w x)->af l s d=true->(p=[]/\l=[])\/kQ (p++t::l)
 |[],d,p,c,h=>by
  refine⟨(λe=>by cases e),λt s g i hn e=>?_⟩;have hd:d=0:=by
   have:(!decide (s=.E)&&decide (d=0))=true:=e;rw[and_eq_true] at this;exact of_decide_eq_true this.2
  have b:gI ([]:List Tk):=λz=>by cases z
  cases c with
  |st=>exact .inl ⟨h.1,rfl⟩
  |lp=>have:=h.1;omega
  |tm=>exact .inr (za h g b)
  |op=>exact .inr (zb h g b)
 |u::l,d,p,c,h=>by
  refine⟨λe=>?_,λt s g i hn e=>?_⟩
  .cases u with
   |e f=>
    rw[fy (s':=.H) (d':=d) rfl] at e;rcases (nU l d p c h).2 (.e f) .H rfl ∎ (λz=>by cases z) e with⟨a,m⟩ |a
    .exact .inl ⟨_,a,by rw[m],rfl⟩
    .exact .inr a
   |w x=>
    by_cases k:df x=true
    .rw[fy (s':=.N) (d':=d) (by rw[my k,if_pos rfl])] at e;rcases (nU l d p c h).2 (.w x) .N k ∎ (λ_=>⟨x,rfl⟩) e with⟨a,m⟩ |a
     .exact .inl ⟨.w x,a,by rw[m],k⟩
     .exact .inr a
    .by_cases hl:x=eD
     .subst hl;rw[fy (s':=.E) (d':=d+1) (by rw[uj,if_pos rfl])] at e;rcases (nU l (d+1) (p++[.w eD]) .lp ⟨Nat.succ_pos d,p,rfl,h.ne⟩).1 e with⟨_,z,_⟩ |a
      .exact absurd (congrArg List.length z) (by simp)
      .rw[append_assoc] at a;exact .inr a
     .rw[iY (by rw[lF,if_neg k,if_neg hl])] at e;cases e
  .have bare:∀{y:Str},y≠cg->gI (.w y::l):=λr z=>by
    injection z with z;injection z with z;exact r z
   cases u with
   |e f=>rw[iY ((lr (t:=.e f) rfl).2 s d i)] at e;cases e
   |w x=>
    by_cases j:x=bE\/x=aZ
    .have b:gI (.w x::l):=bare (by rcases j with rfl |rfl<;>decide +kernel);rw[fy (s':=.E) (d':=d) (by rw[yY j,if_neg i])] at e;have go:c=.st\/c=.lp->(p=[]/\Tk.w x::l=[])\/kQ (p++t::.w x::l):=λn=>by
      rcases (nU l d (p++[t,.w x]) .op ⟨p,t,x,rfl,g,j,h.hd n⟩).1 e with⟨_,z,_⟩ |a
      .exact absurd (congrArg List.length z) (by simp)
      .rw[append_assoc] at a;exact .inr a
     cases c with
     |st=>exact go (.inl rfl)
     |lp=>exact go (.inr rfl)
     |tm=>exact .inr (za h g b)
     |op=>exact .inr (zb h g b)
    .by_cases hr:x=eU
     .subst hr;have b:gI (.w eU::l):=bare (by walk_at "k");cases c with
      |st=>
       rw[iY (by rw[yZ,if_neg i,if_neg (by have:=h.2;omega)])] at e;cases e
      |lp=>
       let⟨_,q,rfl,o⟩:=h;exact .inr ⟨q,_,t,_,l,by simp,⟨.inr (.inl ⟨rfl,g,rfl,o⟩)⟩⟩
      |tm=>exact .inr (za h g b)
      |op=>exact .inr (zb h g b)
     .by_cases hm:x=cg/\s=.N
      .obtain⟨rfl,rfl⟩:=hm;let⟨y,rfl⟩:=hn rfl;rw[fy (s':=.E) (d':=d) (by rw[y1,if_pos rfl])] at e;rcases (nU l d (p++[.w y,.w cg]) .tm ⟨p,y,rfl,g⟩).1 e with⟨_,z,_⟩ |a
       .exact absurd (congrArg List.length z) (by simp)
       .rw[append_assoc] at a;exact .inr a
      .rw[iY (by rw[jH _ _ _ i,if_neg j,if_neg (λz=>hr z.1),if_neg hm])] at e;cases e
theorem VR{l:List Tk}(h:¬ kQ l):af l .E 0=true↔∃t,l=[t]/\eZ t=true:=by
 constructor
 .intro e;rcases (nU l 0 [] .st ⟨rfl,rfl⟩).1 e with⟨t,_,a,b⟩ |a
  .exact⟨t,a,b⟩
  .exact absurd a h
 .rintro⟨t,rfl,ht⟩;let⟨s,n,e⟩:=(lr ht).1 0;rw[fy e];cases s<;>first |exact absurd rfl n |rfl
theorem RM{L:List Nat}{a b:Int}(h:d9 L=some (a,b)):b3 (Rat.divInt a b)=L/\(Rat.divInt a b).num.natAbs<1000000/\(Rat.divInt a b).den<1000000:=by
 let⟨i,g⟩:=Gw h;refine⟨?_,?_⟩
 .cases hs:bH 47 L with
  |nil=>exact absurd hs (jC _ _)
  |cons p e=>
   by_cases d:((strip p::e).all (whole 6))=true;rotate_left
   .rw[tD hs (.inr (by simpa using d))] at h;cases h
   cases e with
   |nil=>
    have d:whole 6 (strip p)=true:=by simpa using d
    by_cases c:b3 (Rat.divInt (sgn L (vl (strip p))) 1)=L
    .have:=(uy hs d).1 c;rw[h] at this;injection this with this
     injection this with h1 h2
     rw[h1,h2];exact c
    .rw[(uy hs d).2 c] at h;cases h
   |cons x e=>
    cases e with
    |nil=>
     have d:whole 6 (strip p)=true/\whole 6 x=true:=by simpa using d
     by_cases f:vl x=0
     .rw[Er hs f] at h;cases h
     by_cases c:b3 (Rat.divInt (sgn L (vl (strip p))) (vl x))=L
     .have:=(uz hs d.1 d.2 f).1 c;rw[h] at this;injection this with this
      injection this with h1 h2
      rw[h1,h2,Rat.num_divInt_den];exact c
     .rw[(uz hs d.1 d.2 f).2 c] at h;cases h
    |cons y e=>rw[tD hs (.inl (by simp))] at h;cases h
 .rw[i];have g:(Rat.divInt a b).den=b.toNat:=⋯
  rw[g];unfold d9 at h;split at h
  .split at h
   .rename_i t _ c;cases h;rw[lh];exact⟨qJ c.1,∎⟩
   .cases h
  .split at h
   .rename_i t x _ c;cases h;rw[lh];exact⟨qJ c.1,by have:=qJ c.2.1;omega⟩
   .cases h
  .cases h
def g0:Tm->Prop
 |.num q=>q.num.natAbs < 1000000 /\ q.den < 1000000
 |.bC a n=>(a ∈ d8 \/ cB a=true) /\ gj n.cps.toList=true /\ ¬ (n = "frame" /\ (a = "gap" \/ a = "drop"))
 |.times q t=>(q.num.natAbs < 1000000 /\ q.den < 1000000) /\ g0 t
 |.plus a b=>g0 a /\ g0 b
 |.minus a b=>g0 a /\ g0 b
theorem mG{d:Bool}:∀{t:Tm},g0 t->(∀e∈cu t,cB e.1=d)->t.gd d
 |.num _,h,_=>h
 |.bC a n,h,k=>⟨h.1,k (a,n) (.head _),h.2.1,h.2.2⟩
 |.times _ _,h,k=>⟨h.1,mG h.2 k⟩
 |.plus _ _,h,k=>⟨mG h.1 λe m=>k e (mem_append_left _ m),mG h.2 λe m=>k e (mem_append_right _ m)⟩
 |.minus _ _,h,k=>⟨mG h.1 λe m=>k e (mem_append_left _ m),mG h.2 λe m=>k e (mem_append_right _ m)⟩
def fh(W:ae)(p:Nat):Bool:=decide ((ay W p∈d8\/cB (ay W p)=true)/\ay W (p+1)="of"/\gj (ay W (p+2)).cps.toList=true/\¬ (ay W (p+2)="frame"/\(ay W p="gap"\/ay W p="drop")))
def iq(x:Str):Str:=if x="" then "?" else x
def tk(W:ae)(p:Nat):List Tk:=if W.length<=p then [] else if fh W p=true then .e (cB (ay W p))::tk W (p+3) else .w (iq (ay W p))::tk W (p+1)
termination_by W.length - p
theorem g6{W:ae}{p:Nat}(h:W.length<=p):tk W p=[]:=by rw[tk,if_pos h]
theorem jB{W:ae}{p:Nat}(h:¬ ay W p=""):p<W.length:=Nat.lt_of_not_le λz=>h (yy z)
theorem qy{W:ae}{p:Nat}(h:fh W p=true):p+2<W.length:=by
 have h:=of_decide_eq_true h;refine jB λe=>?_
 have:=h.2.2.1;rw[e] at this;exact absurd this (by walk_at "k")
theorem i3{W:ae}{p:Nat}(h:fh W p=true):tk W p=.e (cB (ay W p))::tk W (p+3):=by
 have:=qy h;rw[tk,if_neg ⋯,if_pos h]
theorem iF{W:ae}{p:Nat}(a:p<W.length)(h:fh W p=false):tk W p=.w (iq (ay W p))::tk W (p+1):=by
 rw[tk,if_neg ⋯,if_neg (by rw[h];decide)]
theorem Ig{W:ae}{p:Nat}(h:¬ (ay W p∈d8\/cB (ay W p)=true)):fh W p=false:=decide_eq_false λz=>h z.1
theorem ig{W:ae}{p:Nat}{x:Str}(h:ay W p=x)(a:¬ x="")(b:¬ (x∈d8\/cB x=true)):tk W p=.w x::tk W (p+1):=by
 rw[iF (jB (by rw[h];exact a)) (Ig (by rw[h];exact b)),h,iq,if_neg a]
theorem jF{W:ae}{p:Nat}(h:p<W.length):W.drop p=ay W p::W.drop (p+1):=by
 rw[drop_eq_getElem_cons h];congr 1;unfold ay;rw[List.getElem?_eq_getElem h];rfl
theorem VS{W:ae}{p:Nat}(h:¬ ay W p=cg):gI (tk W p):=λz=>by
 by_cases a:W.length<=p
 .rw[g6 a] at z;cases z
 .cases he:fh W p with
  |true=>rw[i3 he] at z;cases z
  |false=>
   rw[iF ⋯ he] at z;injection z with z
   injection z with z
   unfold iq at z;split at z
   .exact absurd z (by walk_at "k")
   .exact h z
theorem yz{W:ae}{p:Nat}(ha:¬ ay W p=bE)(a:¬ ay W p=aZ)(d:Nat)(c:¬ ay W p=eU\/d=0):mx (tk W p) .H d=(tk W p,true,d):=by
 by_cases b:W.length<=p
 .rw[g6 b];rfl
 .cases he:fh W p with
  |true=>rw[i3 he];exact nM rfl
  |false=>
   rw[iF ⋯ he];refine nM ?_;have k:∀y:Str,¬ y="?"->iq (ay W p)=y->ay W p=y:=λy e z=>by
    unfold iq at z;split at z
    .exact absurd z.symm e
    .exact z
   rw[jH _ _ _ ∎,if_neg (λz=>z.elim (λz=>ha (k _ (by walk_at "k") z)) λz=>a (k _ (by walk_at "k") z)),if_neg (λz=>c.elim (λr=>r (k _ (by walk_at "k") z.1)) λr=>by have:=z.2;omega),if_neg (λz=>by cases z.2)]
def Bd(d:Nat)(z:List Tk×Bool×Nat):Prop:=z.2.1=false\/d<z.2.2
def fA:List Tk->List Bool
 |[]=>[] |.e d::r=>d::fA r |.w _::r=>fA r
theorem kZ:∀a b:List Tk,fA (a++b)=fA a++fA b
 |[],_=>rfl
 |.e d::r,b=>congrArg (d::·) (kZ r b)
 |.w _::r,b=>kZ r b
abbrev dE(t:Tm):List Bool:=(cu t).map λe=>cB e.1
structure m6(b:Bool)(W:ae)(p:Nat)(t:Tm)(p':Nat):Prop where
 l:p<p'
 m:p'<=W.length
 x:∀d,mx (tk W p) .E d=mx (tk W p') .H d
 q:∃q,tk W p=q++tk W p'/\fA q=dE t
 w:∃ws,W.drop p=ws++W.drop p'/\Wt b t ws
 g:g0 t
def kH(W:ae)(p:Nat):PR->Prop
 |.out=>False |.er=>∀d,Bd d (mx (tk W p) .E d) |.ok t a=>m6 true W p t a
structure rp(W:ae)(p:Nat)(t:Tm)(p':Nat):Prop extends m6 false W p t p' where
 a:¬ ay W p'=bE
 b:¬ ay W p'=aZ
def rB(W:ae)(p:Nat):PR->Prop
 |.out=>False |.er=>∀d,Bd d (mx (tk W p) .E d) |.ok t a=>rp W p t a
theorem uC:∀x:Str,x=bE\/x=aZ\/x=cg\/x=eD\/x=eU->¬ x=""/\¬ (x∈d8\/cB x=true):=λx h=>by
 rcases h with rfl |rfl |rfl |rfl |rfl<;>exact⟨by walk_at "k",by walk_at "k"⟩
theorem GF{W:ae}{G:Nat->PR}{C:Nat}(z:∀p,C<=p->p<=W.length->kH W p (G p)):∀(k:Nat)(p1 p:Nat)(t:Tm),C<=p->p<=W.length->W.length+1<=p+k->m6 false W p1 t p->rB W p1 (fT W G k t p)
 |0,p1,p,t,_,hp,hk,_=>absurd hk ⋯
 |k + 1,p1,p,t,h0,hp,hk,ho=>by
  have f:∀(o:Str)(c:Tm->Tm->Tm),(o=bE\/o=aZ)->ay W p=o->(∀a b,dE (c a b)=dE a++dE b)->(∀a b,g0 a->g0 b->g0 (c a b))->(∀a b x y,Wt false a x->Wt true b y->Wt false (c a b) (x++o::y))->rB W p1 ((G (p+1)).bind λu n=>fT W G k (c t u) n):=λo c v s U Y h5=>by
   let⟨B,n2⟩:=uC o (v.imp id .inl);have D:=ig s B n2;have lt:p<W.length:=jB (by rw[s];exact B);have r:=z (p+1) ⋯ ⋯;have A:∀d,mx (tk W p1) .E d=mx (tk W (p+1)) .E d:=λd=>by rw[ho.x,D,ka (by rw[yY v,if_neg ∎])]
   cases e:G (p+1) with
   |out=>rw[e] at r;exact r.elim
   |er=>
    rw[e] at r;intro d;rw[A];exact r d
   |ok u n=>
    rw[e] at r;have r:m6 true W (p+1) u n:=r;∎;let⟨q1,H,I⟩:=ho.q;let⟨q2,J,L⟩:=r.q;let⟨w1,M,N⟩:=ho.w;let⟨w2,O,Q⟩:=r.w;∎;have l1:=ho.l;have l2:=r.l;refine GF z k p1 n (c t u) ⋯ r.m ⋯ ⟨⋯,r.m,λd=>by rw[A,r.x],⟨q1++.w o::q2,?_,?_⟩,⟨w1++o::w2,?_,h5 _ _ _ _ N Q⟩,Y _ _ ho.g r.g⟩
    .rw[H,D,J];simp
    .rw[kZ,I,U,<- L];rfl
    .rw[M,jF lt,s,O];simp
  show rB W p1 (if ay W p=bE then _ else if ay W p=aZ then _ else .ok t p);by_cases i:ay W p=bE
  .rw[if_pos i];exact f bE .plus (.inl rfl) i (λa b=>map_append) (λa b h g=>⟨h,g⟩) λa b x y h g=>.plus h g
  rw[if_neg i];by_cases j:ay W p=aZ
  .rw[if_pos j];exact f aZ .minus (.inr rfl) j (λa b=>map_append) (λa b h g=>⟨h,g⟩) λa b x y h g=>.minus h g
  rw[if_neg j];exact⟨ho,i,j⟩
theorem ya{W:ae}{G:Nat->PR}{p:Nat}(h:W.length<=60)(b:∀a,p<=a->a<=W.length->kH W a (G a))(c:p<=W.length):rB W p (fU W G p):=by
 unfold fU;have r:=b p (le_refl _) c;cases e:G p with
 |out=>rw[e] at r;exact r.elim
 |er=>rw[e] at r;exact r
 |ok t a=>
  rw[e] at r;have r:m6 true W p t a:=r;have l:=r.l;let⟨w,d,f⟩:=r.w;exact GF b 61 p a t ⋯ r.m ⋯ ⟨r.l,r.m,r.x,r.q,⟨w,d,f.low⟩,r.g⟩
theorem Ht{x y:Str}(a:¬ y="?")(h:iq x=y):x=y:=by
 unfold iq at h;split at h
 .exact absurd h.symm a
 .exact h
theorem X7(x:Str)(h:df x=false):df (iq x)=false:=by
 unfold iq;split
 .decide +kernel
 .exact h
theorem Ih{W:ae}{p:Nat}(he:fh W p=false)(hn:df (ay W p)=false)(a:¬ ay W p=eD)(d:Nat):Bd d (mx (tk W p) .E d):=by
 by_cases h:W.length<=p
 .rw[g6 h];exact .inl rfl
 .rw[iF ⋯ he,nM (by rw[lF,X7 _ hn,if_neg ∎,if_neg (λz=>a (Ht (by walk_at "k") z))])];exact .inl rfl
theorem yA{W:ae}(y:W.length<=60):∀(n p:Nat),p<=W.length->W.length+1<=p+n->kH W p (cx W [] n p)
 |0,p,hp,hn=>absurd hn ⋯
 |n + 1,p,hp,hn=>by
  show kH W p (if ay W p=eD then (fU W (cx W [] n) (p+1)).bind λt c=>if ay W c=eU then .ok t (c+1) else .er else if ay W p∈d8\/cB (ay W p)=true then kP W [] (ay W p) (p+1) else match d9 (ay W p).cps.toList with |none=>.er |some (a,b)=>if ay W (p+1)=cg then (cx W [] n (p+2)).bind λt c=>.ok (.times (Rat.divInt a b) t) c else .ok (.num (Rat.divInt a b)) (p+1));by_cases k:ay W p=eD
  .rw[if_pos k];let⟨O,n2⟩:=uC eD (.inr (.inr (.inr (.inl rfl))));have j:=ig k O n2;have lt:p<W.length:=jB (by rw[k];exact O);have o:∀d,mx (tk W p) .E d=mx (tk W (p+1)) .E (d+1):=λd=>by rw[j,ka (by rw[uj,if_pos rfl])]
   have r:=ya (W:=W) (G:=cx W [] n) (p:=p+1) y (λc h1 U=>yA y n c U ⋯) ⋯;cases e:fU W (cx W [] n) (p+1) with
   |out=>rw[e] at r;exact r.elim
   |er=>
    rw[e] at r;intro d;rw[o];exact (r (d+1)).imp id λh=>⋯
   |ok t c=>
    rw[e] at r;have r:rp W (p+1) t c:=r;have l1:=r.l;show kH W p (if ay W c=eU then .ok t (c+1) else .er);by_cases f:ay W c=eU
    .rw[if_pos f];let⟨s,B⟩:=uC eU (.inr (.inr (.inr (.inr rfl))));have u:=ig f s B;have A:c<W.length:=jB (by rw[f];exact s);∎;let⟨q,C,D⟩:=r.q;let⟨L,I,J⟩:=r.w;∎;refine⟨⋯,⋯,λd=>by rw[o,r.x,u,ka (by rw[yZ,if_neg ∎,if_pos (Nat.succ_pos d)])];rfl,⟨.w eD::(q++[.w eU]),?_,?_⟩,⟨eD::(L++[eU]),?_,.par _ J⟩,r.g⟩
     .rw[j,C,u];simp
     .rw[<- D];show fA (q++[.w eU])=_;rw[kZ];simp[fA]
     .rw[jF lt,k,I,jF A,f];simp
    .rw[if_neg f];intro d;rw[o,r.x,yz r.a r.b _ (.inl f)];exact .inr (lt_succ_self d)
  rw[if_neg k];by_cases f:ay W p∈d8\/cB (ay W p)=true
  .rw[if_pos f];have nn:df (ay W p)=false:=by
    cases e:df (ay W p) with
    |false=>rfl
    |true=>
     let⟨z,Y⟩:=isSome_iff_exists.mp e;exact absurd f (yV Y).2
   unfold kP;rw[GA];cases he:fh W p with
   |true=>
    have h:=of_decide_eq_true he;rw[if_pos h.2.1,if_pos h.2.2];have lt:=qy he;have j:=i3 he;refine⟨⋯,⋯,λd=>by rw[j,ka (s':=.H) (d':=d) rfl],⟨[.e (cB (ay W p))],j,rfl⟩,⟨[ay W p,lR,ay W (p+2)],?_,.bC _ _ _⟩,⟨f,h.2.2⟩⟩;rw[jF (show p<_ by omega),jF (show p+1<_ by omega),jF lt,h.2.1];rfl
   |false=>
    have h:¬ _:=of_decide_eq_false he;have er:kH W p .er:=Ih he nn k;by_cases i:ay W (p+1)="of"
    .rw[if_pos i];rw[if_neg (λz=>h ⟨f,i,z⟩)];exact er
    .rw[if_neg i];exact er
  rw[if_neg f];cases e:d9 (ay W p).cps.toList with
  |none=>exact Ih (Ig f) (by unfold df;rw[e];rfl) k
  |some z=>
   let⟨a,b⟩:=z;have v:df (ay W p)=true:=by unfold df;rw[e];rfl
   have N:¬ ay W p="":=λz=>by rw[z] at v;exact absurd v (by walk_at "k")
   have j:=ig rfl N f;have lt:p<W.length:=jB N;let⟨u1,Q⟩:=RM e;have M:tx (b3 (Rat.divInt a b))=ay W p:=by rw[u1,gz]
   show kH W p (if ay W (p+1)=cg then (cx W [] n (p+2)).bind λt c=>.ok (.times (Rat.divInt a b) t) c else .ok (.num (Rat.divInt a b)) (p+1));by_cases i:ay W (p+1)=cg
   .rw[if_pos i];let⟨s,B⟩:=uC cg (.inr (.inr (.inl rfl)));have u:=ig i s B;have A:p+1<W.length:=jB (by rw[i];exact s);have o:∀d,mx (tk W p) .E d=mx (tk W (p+2)) .E d:=λd=>by rw[j,ka (by rw[my v,if_pos rfl]),u,ka (by rw[y1,if_pos rfl])]
    have r:=yA y n (p+2) ⋯ ⋯;cases e2:cx W [] n (p+2) with
    |out=>rw[e2] at r;exact r.elim
    |er=>
     rw[e2] at r;intro d;rw[o];exact r d
    |ok t c=>
     rw[e2] at r;have r:m6 true W (p+2) t c:=r;have l1:=r.l;∎;let⟨q,C,D⟩:=r.q;let⟨L,I,J⟩:=r.w;∎;refine⟨⋯,r.m,λd=>by rw[o,r.x],⟨.w (ay W p)::.w cg::q,?_,D⟩,⟨tx (b3 (Rat.divInt a b))::cg::L,?_,.times _ _ J⟩,⟨Q,r.g⟩⟩
     .rw[j,u,C];rfl
     .rw[jF lt,jF A,i,I,M];rfl
   .rw[if_neg i];refine⟨⋯,⋯,λd=>by rw[j,ka (by rw[my v,if_pos rfl]),VQ (VS i) _ ∎],⟨[.w (ay W p)],j,rfl⟩,⟨[tx (b3 (Rat.divInt a b))],?_,.num _ _⟩,Q⟩;rw[jF lt,M];rfl
def jd(r:List Tk):Prop:=∀t,r.head?=some t->∀s d,dH t s d=none
theorem Hu:∀x:Str,x="is"\/x="at"\/x="by"->∀s d,dH (.w x) s d=none:=λx h s d=>by
 by_cases a:s=.E
 .rw[a,lF];rcases h with rfl |rfl |rfl<;>rw[if_neg (by walk_at "k"),if_neg (by walk_at "k")]
 .rw[jH _ _ _ a];rcases h with rfl |rfl |rfl<;>rw[if_neg (by walk_at "k"),if_neg (λz=>absurd z.1 (by walk_at "k")),if_neg (λz=>absurd z.1 (by walk_at "k"))]
theorem jd.nil:jd []:=λ_ h=>by cases h
theorem jd.kw{x:Str}{r:List Tk}(h:x="is"\/x="at"\/x="by"):jd (.w x::r):=λt e=>by
 cases e;exact Hu x h
theorem jd.mx{r:List Tk}(h:jd r)(s:Sx)(d:Nat):Sf.mx r s d=(r,!decide (s=.E),d):=by
 cases r with
 |nil=>rfl
 |cons t r=>exact nM (h t rfl s d)
theorem qz{r:List Tk}(h:jd r):∀(g:List Tk)(s:Sx)(d:Nat),af g s d=true↔mx (g++r) s d=(r,true,0)
 |[],s,d=>by
  show ((!decide (s=.E)&&decide (d=0))=true)↔mx r s d=_;rw[h.mx,and_eq_true];constructor
  .rintro⟨h1,h2⟩;rw[h1,of_decide_eq_true h2]
  .intro z;injection z with _ z;injection z with z1 z2;exact⟨z1,decide_eq_true z2⟩
 |t::g,s,d=>by
  cases e:dH t s d with
  |none=>
   rw[iY e,cons_append,nM e];refine⟨(λz=>by cases z),λz=>?_⟩;injection z with z _
   have:=congrArg List.length z;simp at this;omega
  |some z=>rw[fy (s':=z.1) (d':=z.2) e,cons_append,ka (s':=z.1) (d':=z.2) e];exact qz h g _ _
def uF(t:Tk):Prop:=∀x:Str,x="is"\/x="at"\/x="by"->¬ t=.w x
theorem zc:∀(l:List Tk)(s:Sx)(d:Nat),∃q,l=q++(mx l s d).1/\∀t∈q,uF t
 |[],_,_=>⟨[],rfl,λ_ m=>nomatch m⟩
 |t::r,s,d=>by
  cases e:dH t s d with
  |none=>rw[nM e];exact⟨[],rfl,λ_ m=>nomatch m⟩
  |some z=>
   rw[ka (s':=z.1) (d':=z.2) e];let⟨q,a,b⟩:=zc r z.1 z.2;refine⟨t::q,congrArg (t::·) a,λu m=>?_⟩;rcases mem_cons.mp m with rfl |m
   .intro x hx z';rw[z',Hu x hx] at e;cases e
   .exact b u m
def vb(a:List Tk)(k:Nat):Option Nat:=if a[k]?=some (.w "is") then some (k+1) else if a[k]?=some (.w "at")/\(a[k+1]?=some (.w "least")\/a[k+1]?=some (.w "most")) then some (k+2) else none
def cH(t:Tk):Bool:=!decide (t=.w "by")
def kA:Tk->Bool
 |.w x=>decide (x ∈ dD.tail) |_=>false
def ri:Tk->Bool
 |.w x=>whole 7 x.cps.toList&&(decide (2 <= vl x.cps.toList)&&decide (vl x.cps.toList <= 1000000)) |_=>false
def jM:List Tk->Bool
 |[]=>true |[a,b]=>!cH a&&kA b |[a,b,c]=>!cH a&&(kA b&&ri c) |_=>false
def ik(a:List Tk)(k e:Nat):Bool:=af (a.take k) .E 0&&(af ((a.drop e).takeWhile cH) .E 0&&jM ((a.drop e).dropWhile cH))
def lJ(a:List Tk):Nat->Nat->Bool
 |0,_=>false
 |n + 1,k=>match vb a k with |some e=>ik a k e |none=>lJ a n (k + 1)
def jt(W:ae):Bool:=lJ (tk W 0) (tk W 0).length 0
theorem Fy{a:List Tk}:∀{n k:Nat},lJ a n k=true->∃k e,vb a k=some e/\ik a k e=true
 |0,_,h=>by cases h
 |n + 1,k,h=>by
  have h:(match vb a k with |some e=>ik a k e |none=>lJ a n (k+1))=true:=h;cases e:vb a k with
  |some z=>rw[e] at h;exact⟨k,z,e,h⟩
  |none=>rw[e] at h;exact Fy h
theorem zd{d:List Tk}{i e:Nat}(h:vb d i=some e):∀{n k:Nat},k<=i->i<k+n->(∀j,k<=j->j<i->vb d j=none)->lJ d n k=ik d i e
 |0,k,h1,h2,_=>⋯
 |n + 1,k,h1,h2,h3=>by
  show (match vb d k with |some e=>ik d k e |none=>lJ d n (k+1))=_;by_cases c:k=i
  .subst c;rw[h]
  .rw[h3 k (le_refl _) ⋯];exact zd h ⋯ ⋯ λj a b=>h3 j ⋯ b
theorem GG{a:List Tk}{k e:Nat}(h:vb a k=some e):(a.drop k=.w "is"::a.drop e/\e=k+1)\/∃x:Str,(x="least"\/x="most")/\a.drop k=.w "at"::.w x::a.drop e/\e=k+2:=by
 have at_:∀{j:Nat}{t:Tk},a[j]?=some t->a.drop j=t::a.drop (j+1):=λ{j t} h=>by
  let⟨b,e⟩:=List.getElem?_eq_some_iff.mp h;rw[drop_eq_getElem_cons b,e]
 unfold vb at h;split at h
 .rename_i c;cases h;exact .inl ⟨at_ c,rfl⟩
 .split at h
  .rename_i c;cases h;rcases c.2 with d |d
   .exact .inr ⟨_,.inl rfl,by rw[at_ c.1,at_ d],rfl⟩
   .exact .inr ⟨_,.inr rfl,by rw[at_ c.1,at_ d],rfl⟩
  .cases h
theorem Hv{a:List Tk}{k e:Nat}(h:vb a k=some e):jd (a.drop k):=by
 rcases GG h with⟨h,_⟩ |⟨x,_,h,_⟩
 .rw[h];exact .kw (.inl rfl)
 .rw[h];exact .kw (.inr (.inl rfl))
theorem zw(l:List Tk):jd (l.dropWhile cH):=by
 cases e:l.dropWhile cH with
 |nil=>exact .nil
 |cons t r=>
  have:cH t=false:=by
   have h:=List.head?_dropWhile_not (p:=cH) (l:=l);rw[e] at h;simpa using h
  have:t=.w "by":=by
   unfold cH at this;simpa using this
  rw[this];exact .kw (.inr (.inr rfl))
theorem nN{W:ae}{p:Nat}{x:Str}{r:List Tk}(h:tk W p=.w x::r)(b:¬ x="?"):ay W p=x/\r=tk W (p+1)/\p<W.length:=by
 by_cases a:W.length<=p
 .rw[g6 a] at h;cases h
 .cases he:fh W p with
  |true=>rw[i3 he] at h;cases h
  |false=>
   rw[iF ⋯ he] at h;injection h with h1 h2
   injection h1 with h1
   exact⟨Ht b h1,h2.symm,⋯⟩
theorem Cy{x:Str}:("at "++x∈hU↔x="least"\/x="most"):=by
 have e:("at ":Str)=tx [97,116,32]:=by walk_at "k"
 have a:("is":Str)=tx [105,115]:=by walk_at "k"
 have b:("at least":Str)=tx [97,116,32,108,101,97,115,116]:=by walk_at "k"
 have c:("at most":Str)=tx [97,116,32,109,111,115,116]:=by walk_at "k"
 have d:("least":Str)=tx [108,101,97,115,116]:=by walk_at "k"
 have f:("most":Str)=tx [109,111,115,116]:=by walk_at "k"
 unfold hU;rw[<- gz x,e,nT,a,b,c,d,f];simp only[mem_cons,not_mem_nil,or_false,He];simp
theorem VT{x:Str}(h:32 ∉ x.cps.toList)(b:x∈hU):x="is":=by
 unfold hU at b;have b:x="is"\/x="at least"\/x="at most":=by simpa using b
 rcases b with a |a |a
 .exact a
 .rw[a] at h;exact absurd (by walk_at "k") h
 .rw[a] at h;exact absurd (by walk_at "k") h
theorem VU{W:ae}(h:ff W)(p:Nat):32 ∉ (ay W p).cps.toList:=by
 unfold ay;cases e:W[p]? with
 |none=>decide +kernel
 |some x=>exact h x (mem_of_getElem? e)
theorem qd(c:Nat):∀(L p:List Nat),p∈bH c L->c ∉ p
 |[],p,m=>by rw[mem_singleton.mp m];exact λz=>nomatch z
 |x::r,p,m=>by
  have e:bH c (x::r)=if x=c then []::bH c r else match bH c r with |[]=>[[x]] |p::a=>(x::p)::a:=rfl
  rw[e] at m;split at m
  .rcases mem_cons.mp m with m |m
   .rw[m];exact λz=>nomatch z
   .exact qd c r p m
  .rename_i hx;cases hs:bH c r with
   |nil=>exact absurd hs (jC _ _)
   |cons q a=>
    rw[hs] at m;rcases mem_cons.mp m with m |m
    .rw[m];intro z;rcases mem_cons.mp z with z |z
     .exact hx z.symm
     .exact qd c r q (by rw[hs];exact mem_cons_self) z
    .exact qd c r p (by rw[hs];exact mem_cons_of_mem _ m)
theorem GH(x:Str):ff (bL x):=λy m=>by
 unfold bL at m;let⟨p,a,rfl⟩:=mem_map.mp m;exact qd 32 _ p a
structure sI(W:ae)(k:Nat)(a b:Tm)(r v:Int):Prop where
 k3:k<3
 g:jt W=true
 d:fA (tk W 0)=dE a++dE b
 w:∃ws us,Wt false a ws/\Wt false b us/\ws.length+us.length+(vw k).length+(tw r v).length<=W.length
 ga:g0 a
 gb:g0 b
 r0:0<=r
 r1:r<5
 v0:1<=v
 v1:v<=1000000
 z:r=0->v=1
theorem Hw{q q' r:List Tk}(h:q++r=q'++r):q=q':=List.append_cancel_right h
theorem Yg{q:List Tk}(h:∀t∈q,uF t)(r:List Tk):(q++r).takeWhile cH=q++r.takeWhile cH/\(q++r).dropWhile cH=r.dropWhile cH:=by
 have a:∀t∈q,cH t=true:=λt m=>by
  unfold cH;rw[decide_eq_false (h t m _ (.inr (.inr rfl)))];rfl
 exact⟨List.takeWhile_append_of_pos a,List.dropWhile_append_of_pos a⟩
theorem Hx{x:Str}(h:x∈dD.tail):¬ x=""/\¬ (x∈d8\/cB x=true)/\¬ x="?":=by
 have a:x="hand"\/x="strong"\/x="fair"\/x="faint":=by unfold dD at h;simpa using h
 rcases a with rfl |rfl |rfl |rfl<;>exact⟨by walk_at "k",by walk_at "k",by walk_at "k"⟩
theorem X8{x:Str}(h:whole 7 x.cps.toList=true):¬ x=""/\¬ (x∈d8\/cB x=true):=by
 refine⟨λe=>?_,λm=>?_⟩
 .rw[e] at h;exact absurd h (by walk_at "k")
 .have:x="left"\/x="width"\/x="right"\/x="middle"\/x="gap"\/x="top"\/x="height"\/x="bottom"\/x="centre"\/x="drop":=by
   unfold d8 cB at m;simpa [or_assoc] using m
  rcases this with rfl |rfl |rfl |rfl |rfl |rfl |rfl |rfl |rfl |rfl<;>exact absurd h (by walk_at "k")
theorem nA:¬ ("by":Str)=""/\¬ (("by":Str)∈d8\/cB "by"=true):=⟨by walk_at "k",by walk_at "k"⟩
theorem uY(a b:Tk):jM [a,b]=(!cH a&&kA b):=rfl
theorem rb(a b c:Tk):jM [a,b,c]=(!cH a&&(kA b&&ri c)):=rfl
theorem uk:cH (.w "by")=false:=by walk_at "k"
theorem Yh{W:ae}{k:Nat}{a b:Tm}{p3:Nat}(C:p3<=W.length):
  match nE W k a b p3 with
  |.out=>False
  |.no=>jM (tk W p3)=false\/¬ (W.length<=p3\/ay W p3="by")
  |.cm E y A r v=>E=k/\y=a/\A=b/\jM (tk W p3)=true/\(W.length<=p3\/ay W p3="by")/\fA (tk W p3)=[]/\p3+(tw r v).length<=W.length/\0<=r/\r<5/\1<=v/\v<=1000000/\(r=0->v=1):=by
 unfold nE lY;by_cases f:W.length<=p3
 .rw[if_pos f];dsimp only;unfold kY;rw[if_pos f];dsimp only;rw[if_pos f];dsimp only;rw[g6 f];exact⟨rfl,rfl,rfl,rfl,.inl f,rfl,C,∎,∎,∎,∎,λ_=>rfl⟩
 rw[if_neg f];by_cases c:ay W p3="by"/\ay W (p3+1)∈dD.tail;rotate_left
 .rw[if_neg c];dsimp only;by_cases d:ay W p3="by"
  .refine .inl ?_;rw[ig d nA.1 nA.2];have H:∀t r,tk W (p3+1)=t::r->kA t=false:=λt r e=>by
    cases t with
    |e _=>rfl
    |w x=>
     refine decide_eq_false λm=>?_
     let⟨h,_⟩:=nN e (Hx m).2.2;exact c ⟨d,by rw[h];exact m⟩
   cases e:tk W (p3+1) with
   |nil=>rfl
   |cons t r=>
    have:=H t r e;cases r with
    |nil=>rw[uY,this,Bool.and_false]
    |cons u r=>cases r with
     |nil=>rw[rb,this,Bool.false_and,Bool.and_false]
     |cons _ _=>rfl
  .exact .inr λz=>z.elim f d
 rw[if_pos c];dsimp only;let⟨p,G,O⟩:=Hx c.2;have l:=ig c.1 nA.1 nA.2;have n:tk W (p3+1)=.w (ay W (p3+1))::tk W (p3+2):=ig rfl p G;have lt:=jB p;have q:kA (.w (ay W (p3+1)))=true:=decide_eq_true c.2;let⟨j,L,M⟩:=yT c.2;have N:1<=oi (ay W (p3+1))/\oi (ay W (p3+1))<5:=by
  unfold oi
  repeat' split
  all_goals decide
 have i:∀v:Int,(tw (oi (ay W (p3+1))) v).length=if v=1 then 2 else 3:=λv=>by
  unfold tw;rw[if_neg ⋯];split<;>rfl
 unfold kY;by_cases d:W.length<=p3+2
 .rw[if_pos d];dsimp only;rw[if_pos d];dsimp only;rw[l,n,g6 d,i,if_pos rfl];refine⟨rfl,rfl,rfl,?_,.inr c.1,rfl,⋯,⋯,⋯,∎,∎,λz=>rfl⟩;rw[uY,q,uk];rfl
 rw[if_neg d];by_cases g:whole 7 (ay W (p3+2)).cps.toList=true/\2<=vl (ay W (p3+2)).cps.toList/\vl (ay W (p3+2)).cps.toList<=1000000
 .rw[if_pos g];dsimp only;let⟨I,J⟩:=X8 g.1;have s:tk W (p3+2)=.w (ay W (p3+2))::tk W (p3+3):=ig rfl I J;by_cases o:W.length<=p3+2+1
  .rw[if_pos o];dsimp only;rw[l,n,s,g6 o,i,if_neg ⋯];refine⟨rfl,rfl,rfl,?_,.inr c.1,rfl,⋯,⋯,⋯,⋯,⋯,λz=>⋯⟩;rw[rb,q,uk];show (true&&(true&&(whole 7 _&&(decide _&&decide _))))=true;rw[g.1,decide_eq_true g.2.1,decide_eq_true g.2.2];rfl
  .rw[if_neg o];dsimp only;refine .inl ?_;rw[l,n,s];cases e:tk W (p3+3) with
   |nil=>
    exfalso;cases he:fh W (p3+3) with
    |true=>rw[i3 he] at e;cases e
    |false=>rw[iF ⋯ he] at e;cases e
   |cons _ _=>rfl
 .rw[if_neg g];dsimp only;refine .inl ?_;rw[l,n];cases e:tk W (p3+2) with
  |nil=>
   exfalso;cases he:fh W (p3+2) with
   |true=>rw[i3 he] at e;cases e
   |false=>rw[iF ⋯ he] at e;cases e
  |cons t r=>
   cases r with
   |cons _ _=>rfl
   |nil=>
    rw[rb];have:ri t=false:=by
     cases t with
     |e _=>rfl
     |w x=>
      cases h:ri (.w x) with
      |false=>rfl
      |true=>
       have h:(whole 7 x.cps.toList&&(decide (2<=vl x.cps.toList)&&decide (vl x.cps.toList<=1000000)))=true:=h;rw[and_eq_true,and_eq_true] at h;have D:¬ x="?":=λz=>by rw[z] at h;exact absurd h.1 (by walk_at "k")
       let⟨B,_⟩:=nN e D;rw[<- B] at h;exact absurd ⟨h.1,of_decide_eq_true h.2.1,of_decide_eq_true h.2.2⟩ g
    rw[this,Bool.and_false,Bool.and_false]
theorem RN{W:ae}(a:ff W){p:Nat}(h:(da W p).1∈hU):(ay W p="is"/\da W p=(("is":Str),p+1))\/∃x:Str,(x="least"\/x="most")/\ay W p="at"/\ay W (p+1)=x/\da W p=(("at ":Str)++x,p+2):=by
 unfold da at h ⊢;by_cases c:ay W p="at"
 .rw[if_pos c] at h ⊢;exact .inr ⟨ay W (p+1),Cy.mp h,c,rfl,rfl⟩
 .rw[if_neg c] at h ⊢;have e:=VT (VU a p) h;exact .inl ⟨e,by rw[e]⟩
theorem Yi(x:Str):lQ x<3:=by unfold lQ;split;decide;split<;>decide
theorem Yj{x:Str}(h:x="is"\/x="at least"\/x="at most"):(vw (lQ x)).length=if x="is" then 1 else 2:=by
 rcases h with rfl |rfl |rfl<;>decide +kernel
theorem FA{W:ae}(Q:W.length<=60)(hf:ff W):
  match iR W [] with
  |.out=>False
  |.no=>jt W=false
  |.cm k a b r v=>sI W k a b r v:=by
 have hG:∀p0 H,p0<=H->H<=W.length->kH W H (cx W [] 63 H):=λ_ H _ h=>yA Q 63 H h ⋯
 have no:(∀k e,vb (tk W 0) k=some e->ik (tk W 0) k e=true->False)->jt W=false:=λh=>by
  cases e:jt W with
  |false=>rfl
  |true=>let⟨k,z,d,f⟩:=Fy e;exact (h k z d f).elim
 have first:∀k e,vb (tk W 0) k=some e->ik (tk W 0) k e=true->mx (tk W 0) .E 0=((tk W 0).drop k,true,0):=λk e d f=>by
  unfold ik at f;rw[and_eq_true] at f;have:=(qz (Hv d) _ _ _).mp f.1;rwa[List.take_append_drop] at this
 have r1:=ya (p:=0) Q (hG 0) (zero_le _);unfold iR;cases ea:fU W (cx W [] 63) 0 with
 |out=>rw[ea] at r1;exact r1.elim
 |er=>
  rw[ea] at r1;dsimp only;refine no λk e d f=>?_
  have:=r1 0;rw[first k e d f] at this;rcases this with z |z
  .cases z
  .exact absurd (show (0:Nat)<0 from z) ∎
 |ok a p1=>
 rw[ea] at r1;have r1:rp W 0 a p1:=r1;dsimp only;have U:mx (tk W 0) .E 0=(tk W p1,true,0):=by rw[r1.x,yz r1.a r1.b 0 (.inr rfl)]
 let⟨q,B,q2⟩:=r1.q;have qn:∀t∈q,uF t:=by
  let⟨q',d,f⟩:=zc (tk W 0) .E 0;rw[U,B] at d;rw[Hw d];exact f
 by_cases J:(da W p1).1∈hU;rotate_left
 .rw[if_neg J];dsimp only;refine no λk e d f=>J ?_
  have A:=(first k e d f).symm.trans U;injection A with A _
  unfold da;rcases GG d with⟨h,_⟩ |⟨x,G,h,_⟩
  .rw[h] at A;let⟨y,_⟩:=nN A.symm (by walk_at "k");rw[if_neg (by rw[y];decide +kernel),y];show ("is":Str)∈hU;decide +kernel
  .rw[h] at A;∎;let⟨y,D,_⟩:=nN A.symm (by walk_at "k");let⟨w3,_⟩:=nN D.symm (by rcases G with rfl |rfl<;>decide +kernel);∎;rw[if_pos y,w3];exact Cy.mpr G
 rw[if_pos J];have hv:vb (tk W 0) q.length=some (q.length+((da W p1).2 - p1))/\(tk W 0).drop (q.length+((da W p1).2 - p1))=tk W (da W p1).2/\p1+(vw (lQ (da W p1).1)).length=(da W p1).2/\(da W p1).2<=W.length/\fA (tk W p1)=fA (tk W (da W p1).2)/\(tk W p1).head?≠none:=by
  have pU:(tk W 0)[q.length]?=(tk W p1)[0]?:=by rw[B,getElem?_append_right (le_refl _),Nat.sub_self]
  have sJ:(tk W 0)[q.length+1]?=(tk W p1)[1]?:=by rw[B,getElem?_append_right ⋯];congr 1;omega
  have dr:∀n,(tk W 0).drop (q.length+n)=(tk W p1).drop n:=λn=>by rw[B,List.drop_append];simp
  rcases RN hf J with⟨y,D⟩ |⟨x,G,y,D,w3⟩
  .have C:=ig y (by walk_at "k") (by walk_at "k");have lt:=jB (W:=W) (p:=p1) (by rw[y];decide +kernel);rw[D];dsimp only;rw[show p1+1 - p1=1 by omega,dr,C];refine⟨?_,rfl,by rw[Yj (.inl rfl)];rfl,⋯,rfl,by simp⟩;unfold vb;exact if_pos (by rw[pU,C];rfl)
  .have hx0:¬ x=""/\¬ (x∈d8\/cB x=true):=by rcases G with rfl |rfl<;>exact⟨by walk_at "k",by walk_at "k"⟩
   have C:=ig y (by walk_at "k") (by walk_at "k");have L:=ig D hx0.1 hx0.2;have lt:=jB (W:=W) (p:=p1+1) (by rw[D];exact hx0.1);rw[w3];dsimp only;rw[show p1+2 - p1=2 by omega,dr,C,L];refine⟨?_,rfl,?_,⋯,rfl,by simp⟩
   .unfold vb;have a0:(tk W 0)[q.length]?=some (.w "at"):=by rw[pU,C];rfl
    have a1:(tk W 0)[q.length+1]?=some (.w x):=by rw[sJ,C,L];rfl
    rw[a0,a1,if_neg (by walk_at "k"),if_pos ⟨rfl,by rcases G with rfl |rfl;exact .inl rfl;exact .inr rfl⟩]
   .rcases G with rfl |rfl<;>rfl
 let⟨v1,v2,v3,v4,v5,v6⟩:=hv;have α:q.length<(tk W 0).length:=by
  rw[B,length_append];cases h:tk W p1 with
  |nil=>rw[h] at v6;exact absurd rfl v6
  |cons _ _=>rw[length_cons];omega
 have I:jt W=ik (tk W 0) q.length (q.length+((da W p1).2 - p1)):=by
  refine zd v1 (zero_le _) ⋯ λj _ O=>?_
  have hm:∃t,(tk W 0)[j]?=some t/\t∈q:=by
   rw[B,getElem?_append_left O];exact⟨q[j],List.getElem?_eq_getElem O,getElem_mem O⟩
  let⟨t,d,f⟩:=hm;unfold vb;rw[d,if_neg (λz=>by injection z with z;exact qn t f _ (.inl rfl) z),if_neg (λz=>by have z:=z.1;injection z with z;exact qn t f _ (.inr (.inl rfl)) z)]
 have g1:af ((tk W 0).take q.length) .E 0=true:=by
  rw[B,List.take_left];refine (qz ?_ q _ _).mpr (by rw[<- B];exact U);have:=Hv v1;rwa[B,List.drop_left] at this
 unfold ik at I;rw[g1,Bool.true_and,v2] at I;generalize β:(da W p1).1=vv at *;generalize (da W p1).2=p2 at *;have r2:=ya (p:=p2) Q (hG p2) v4;unfold sH;have i:af ((tk W p2).takeWhile cH) .E 0=true->mx (tk W p2) .E 0=((tk W p2).dropWhile cH,true,0):=λh=>by
  have:=(qz (zw (tk W p2)) _ _ _).mp h;rwa[List.takeWhile_append_dropWhile] at this
 cases eb:fU W (cx W [] 63) p2 with
 |out=>rw[eb] at r2;exact r2.elim
 |er=>
  rw[eb] at r2;dsimp only;rw[I];cases e:af ((tk W p2).takeWhile cH) .E 0 with
  |false=>rfl
  |true=>
   have:=r2 0;rw[i e] at this;rcases this with z |z
   .cases z
   .exact absurd (show (0:Nat)<0 from z) ∎
 |ok b p3=>
 rw[eb] at r2;have r2:rp W p2 b p3:=r2;dsimp only;have Y:mx (tk W p2) .E 0=(tk W p3,true,0):=by rw[r2.x,yz r2.a r2.b 0 (.inr rfl)]
 let⟨u,M,u2⟩:=r2.q;have un:∀t∈u,uF t:=by
  let⟨q',d,f⟩:=zc (tk W p2) .E 0;rw[Y,M] at d;rw[Hw d];exact f
 let⟨b1,N⟩:=Yg un (tk W p3);rw[<- M] at b1 N;have o:(W.length<=p3\/ay W p3="by")->jd (tk W p3)/\(tk W p3).takeWhile cH=[]/\(tk W p3).dropWhile cH=tk W p3:=λh=>by
  rcases h with h |h
  .rw[g6 h];exact⟨.nil,rfl,rfl⟩
  .rw[ig h nA.1 nA.2];exact⟨.kw (.inr (.inr rfl)),by rw[List.takeWhile_cons,uk];rfl,by rw[List.dropWhile_cons,uk];rfl⟩
 have r3:=Yh (k:=lQ vv) (a:=a) (b:=b) r2.m;cases ee:nE W (lQ vv) a b p3 with
 |out=>rw[ee] at r3;exact r3
 |no=>
  rw[ee] at r3;dsimp only at r3 ⊢;rw[I];by_cases c:W.length<=p3\/ay W p3="by"
  .rcases r3 with r3 |r3
   .rw[N,(o c).2.2,r3,Bool.and_false]
   .exact absurd c r3
  .cases e:af ((tk W p2).takeWhile cH) .E 0 with
   |false=>rfl
   |true=>
    exfalso;have A:=(i e).symm.trans Y;injection A with A _
    cases h:tk W p3 with
    |nil=>
     have:W.length<=p3:=Nat.le_of_not_lt λz=>by
      cases he:fh W p3 with
      |true=>rw[i3 he] at h;cases h
      |false=>rw[iF z he] at h;cases h
     exact c (.inl this)
    |cons t r=>
     have s:=zw (tk W p2);have hb:t=.w "by":=by
      have hh:=List.head?_dropWhile_not (p:=cH) (l:=tk W p2);rw[A,h] at hh;have:cH t=false:=by simpa using hh
      unfold cH at this;simpa using this
     rw[hb] at h;exact c (.inr (nN h (by walk_at "k")).1)
 |cm k' a' b' r v=>
  rw[ee] at r3;dsimp only at r3 ⊢;∎;let⟨rfl,rfl,rfl,C,L,t3,t4,t5,t6,t7,t8,t9⟩:=r3;let⟨s1,s2,s3⟩:=o L;let⟨ws,y,D⟩:=r1.w;let⟨us,x1,x2⟩:=r2.w;∎;refine⟨Yi _,?_,?_,⟨ws,us,D,x2,?_⟩,r1.g,r2.g,t5,t6,t7,t8,t9⟩
  .rw[I,b1,s2,append_nil,N,s3,C,(qz s1 u .E 0).mpr (by rw[<- M];exact Y)];rfl
  .rw[B,kZ,q2,v5,M,kZ,u2,t3,append_nil]
  .have l1:=congrArg List.length y;have l2:=congrArg List.length x1;rw[length_append,length_drop,length_drop] at l1 l2;have:=r1.l;have:=r1.m;have:=r2.l;have:=r2.m;omega
theorem tM{q:Rat}(h:nq q):(b3 q).length<=14:=by
 have d:∀n:Nat,n<1000000->(dc n).length<=6:=λn h=>by
  unfold dc;rw[length_map];exact (Nat.length_toDigits_le_iff ∎ ∎).mpr h
 have a:=d _ h.1;have b:=d _ h.2;have c:(dec q.num).length<=7:=by
  unfold dec;split
  .rw[length_cons];omega
  .omega
 unfold b3;split
 .omega
 .rw[length_append,length_cons];omega
theorem Ii{q:Rat}(h:nq q):bs q<=20:=by
 have a:bi q.num<=20:=qA (by have:=h.1;omega);have b:bi (q.den:Int)<=20:=qA (by have:=h.2;omega);unfold bs;exact Nat.max_le.mpr ⟨a,b⟩
theorem mH{d:Bool}:∀{t:Tm},t.gd d->t.sm
 |.num q,h=>le_trans (Ii h) ∎
 |.bC _ _,_=>trivial
 |.times q t,h=>⟨le_trans (Ii h.1) ∎,mH h.2⟩
 |.plus a b,h=>⟨mH h.1,mH h.2⟩
 |.minus a b,h=>⟨mH h.1,mH h.2⟩
theorem VV{r v:Int}(a:0<=r)(b:r<5)(v0:1<=v)(v1:v<=1000000):(gP r v).length<=50:=by
 let⟨R,e,_,l⟩:=yX a b;have c:bi v<=20:=qA ⋯;have g:(dec v).length<=30:=le_trans (tK c) ∎;have d:(Str.ofString " by ").length=4:=by walk_at "k"
 have f:(Str.ofString " ").length=1:=by walk_at "k"
 unfold gP;rw[e,getD_some];split
 .decide
 .split
  .rw[ba];omega
  .rw[ba,ba,ba,b6];omega
theorem Hy{n:Str}(h:gj n.cps.toList=true):n.length<=8:=by
 unfold gj at h;rw[and_eq_true,and_eq_true] at h;have:=of_decide_eq_true h.2.1;rwa[length_toList] at this
mutual
theorem nV{d:Bool}:∀{t:Tm},t.gd d->(txt t).length<=15*cw t
 |.num q,h=>by have:=tM h;show (tx (b3 q)).length <= 15 * 1;rw[b6];omega
 |.bC a n,h=>by
  have c:=(yW h.1).2;have f:=Hy h.2.2.1;have e:(Str.ofString " of ").length=4:=by walk_at "k"
  show (a++" of "++n).length<=15*3;rw[ba,ba];omega
 |.times q t,h=>by
  have c:=tM h.1;have f:=d5 h.2;have e:(Str.ofString " times ").length=7:=by walk_at "k"
  show (tx (b3 q)++" times "++brk t).length<=15*(2+bw t);rw[ba,ba,b6];omega
 |.plus a b,h=>by
  have c:=nV h.1;have f:=d5 h.2;have e:(Str.ofString " and ").length=5:=by walk_at "k"
  show (txt a++" and "++brk b).length<=15*(cw a+1+bw b);rw[ba,ba];omega
 |.minus a b,h=>by
  have c:=nV h.1;have f:=d5 h.2;have e:(Str.ofString " less ").length=6:=by walk_at "k"
  show (txt a++" less "++brk b).length<=15*(cw a+1+bw b);rw[ba,ba];omega
theorem d5{d:Bool}:∀{t:Tm},t.gd d->(brk t).length<=15*bw t
 |.num q,h=>by have:=tM h;show (tx (b3 q)).length <= 15 * 1;rw[b6];omega
 |.bC a n,h=>by
  have c:=(yW h.1).2;have f:=Hy h.2.2.1;have e:(Str.ofString " of ").length=4:=by walk_at "k"
  show (a++" of "++n).length<=15*3;rw[ba,ba];omega
 |.times q t,h=>by
  have c:=tM h.1;have f:=d5 h.2;have e:(Str.ofString " times ").length=7:=by walk_at "k"
  show (tx (b3 q)++" times "++brk t).length<=15*(2+bw t);rw[ba,ba,b6];omega
 |.plus a b,h=>by
  have c:=nV h.1;have f:=d5 h.2;have e:(Str.ofString " and ").length=5:=by walk_at "k"
  have g:(Str.ofString "( ").length=2:=by walk_at "k"
  have i:(Str.ofString " )").length=2:=by walk_at "k"
  show ("( "++(txt a++" and "++brk b)++" )").length<=15*(cw a+1+bw b+2);rw[ba,ba,ba,ba];omega
 |.minus a b,h=>by
  have c:=nV h.1;have f:=d5 h.2;have e:(Str.ofString " less ").length=6:=by walk_at "k"
  have g:(Str.ofString "( ").length=2:=by walk_at "k"
  have i:(Str.ofString " )").length=2:=by walk_at "k"
  show ("( "++(txt a++" less "++brk b)++" )").length<=15*(cw a+1+bw b+2);rw[ba,ba,ba,ba];omega
end
theorem kh:∀t:Tm,t.dep<=cw t/\3*(cu t).length<=cw t
 |.num _=>⟨zero_le _,zero_le _⟩
 |.bC _ _=>⟨zero_le _,le_refl _⟩
 |.times q t=>by
  have h:=kh t;have k:=uB t;show t.dep+1<=2+bw t/\3*(cu t).length<=2+bw t;omega
 |.plus a b=>by
  have h:=kh a;have g:=kh b;have k:=uB b;show max a.dep b.dep+1<=cw a+1+bw b/\3*(cu a++cu b).length<=cw a+1+bw b;rw[length_append];omega
 |.minus a b=>by
  have h:=kh a;have g:=kh b;have k:=uB b;show max a.dep b.dep+1<=cw a+1+bw b/\3*(cu a++cu b).length<=cw a+1+bw b;rw[length_append];omega
def Ow(b:Bool)(t:Tm)(x:Str)(n:Nat):Prop:=∃a,Wt b t a/\ff a/\x=jn a/\a.length=n
theorem Iz{a b:Tm}{o g:Str}{c:Tm->Tm->Tm}(ha:Ow false a (txt a) (cw a))(z:Ow true b (brk b) (bw b))(j:∀{x y:ae},Wt false a x->Wt true b y->Wt false (c a b) (x++o::y))(hs:g=" "++o++" ")(A:32 ∉ o.cps.toList)(k:txt (c a b)=txt a++g++brk b)(m:brk (c a b)="( "++(txt a++g++brk b)++" )")(n:cw (c a b)=cw a+1+bw b)(p:bw (c a b)=cw a+1+bw b+2):Ow false (c a b) (txt (c a b)) (cw (c a b))/\Ow true (c a b) (brk (c a b)) (bw (c a b)):=by
 ∎;let⟨d,i,u,v,w⟩:=ha;let⟨us,h,q,r,s⟩:=z;∎;have f:ff (d++o::us):=lq u (kb A q);have e:txt a++g++brk b=jn (d++o::us):=by
  rw[kg i.ne (cons_ne_nil _ _),kv o h.ne,v,r,hs];simp only[jE]
 have l:(d++o::us).length=cw a+1+bw b:=by rw[length_append,length_cons,w,s];omega
 rw[k,m,n,p,e];refine⟨⟨_,j i h,f,rfl,l⟩,⟨eD::((d++o::us)++[eU]),.par _ (j i h),kb (by walk_at "k") (lq f (nL (by walk_at "k"))),?_,by rw[length_cons,length_append,l];rfl⟩⟩;have ne:d++o::us≠[]:=by simp
 rw[kv eD (by simp),kg ne (cons_ne_nil _ _),mD,IL,IM];simp only[jE]
theorem mI{d:Bool}:∀{t:Tm},t.gd d->Ow false t (txt t) (cw t)/\Ow true t (brk t) (bw t)
 |.num q,h=>⟨⟨_,.num _ q,nL (yx q),(mD _).symm,rfl⟩,⟨_,.num _ q,nL (yx q),(mD _).symm,rfl⟩⟩
 |.bC a n,h=>by
  have f:ff [a,lR,n]:=kb (yW h.1).1 (kb (by walk_at "k") (nL (Xj h.2.2.1)));have e:a++" of "++n=jn [a,lR,n]:=by
   rw[kv a (cons_ne_nil _ _),kv lR (cons_ne_nil _ _),mD,IK];simp only[jE]
  exact⟨⟨_,.bC _ a n,f,e,rfl⟩,⟨_,.bC _ a n,f,e,rfl⟩⟩
 |.times q t,h=>by
  let⟨_,j,i,k,m,p⟩:=mI h.2;have f:ff (tx (b3 q)::cg::j):=kb (yx q) (kb (by walk_at "k") k);have e:tx (b3 q)++" times "++brk t=jn (tx (b3 q)::cg::j):=by
   rw[m,kv _ (cons_ne_nil _ _),kv cg i.ne,RL];simp only[jE]
  have l:(tx (b3 q)::cg::j).length=2+bw t:=by rw[length_cons,length_cons,p];omega
  exact⟨⟨_,.times _ q i,f,e,l⟩,⟨_,.times _ q i,f,e,l⟩⟩
 |.plus a b,h=>Iz (o:=bE) (c:=.plus) (mI h.1).1 (mI h.2).2 (λh g=>.plus h g) X4 (by walk_at "k") rfl rfl rfl rfl
 |.minus a b,h=>Iz (o:=aZ) (c:=.minus) (mI h.1).1 (mI h.2).2 (λh g=>.minus h g) Xk (by walk_at "k") rfl rfl rfl rfl
theorem FC{W:ae}{k:Nat}{a b:Tm}{r v:Int}(G:sI W k a b r v)(hl:W.length<=60)(A:(cI (cC a++cC b)).length<=1):Wi.ok ⟨k,a,b,r,v⟩/\(fN ⟨k,a,b,r,v⟩).length<=20000/\(bL (fN ⟨k,a,b,r,v⟩)).length<=60/\iR (bL (fN ⟨k,a,b,r,v⟩)) []=.cm k a b r v:=by
 have one:∃d,(∀e∈cu a,cB e.1=d)/\∀e∈cu b,cB e.1=d:=by
  have mem:∀t:Tm,∀e∈cu t,j4 e.1∈cC t:=λt e m=>by
   unfold cC;rw[GB,(sO _).2];exact mem_map.mpr ⟨e,m,rfl⟩
  have all:∀e∈cu a++cu b,j4 e.1∈cI (cC a++cC b):=λe m=>by
   rw[(sO _).2];exact (mem_append.mp m).elim (λm=>mem_append_left _ (mem a e m)) λm=>mem_append_right _ (mem b e m)
  have inj:∀x y:Str,j4 x=j4 y->cB x=cB y:=λx y h=>by
   unfold j4 at h;cases hx:cB x<;>cases hy:cB y<;>rw[hx,hy] at h<;>first |rfl |exact absurd h (by walk_at "k")
  cases e:cu a++cu b with
  |nil=>
   let⟨I,J⟩:=List.append_eq_nil_iff.mp e;rw[I,J];exact⟨false,(λ_ m=>nomatch m),λ_ m=>nomatch m⟩
  |cons f _=>
   have j:∀g∈cu a++cu b,cB g.1=cB f.1:=λg m=>by
    have c:=all g m;have i:=all f (by rw[e];exact mem_cons_self);generalize cI (cC a++cC b)=l at c i A;cases l with
    |nil=>cases c
    |cons x l=>cases l with
     |nil=>exact inj _ _ ((mem_singleton.mp c).trans (mem_singleton.mp i).symm)
     |cons _ _=>exact absurd A (by simp)
   exact⟨cB f.1,λg m=>j g (mem_append_left _ m),λg m=>j g (mem_append_right _ m)⟩
 let⟨d,E,H⟩:=one;have ga:=mG G.ga E;have gb:=mG G.gb H;let⟨ws,us,w1,w2,w3⟩:=G.w;have C:=jG w1;have D:=jG w2;rw[if_neg ∎] at C D;have d1:=kh a;have d2:=kh b;have t1:=nV ga;have t2:=nV gb;∎;let⟨⟨n,c,i,u,h4⟩,_⟩:=mI ga;let⟨⟨o,p,q,s,g4⟩,_⟩:=mI gb;∎;have lt:=VV G.r0 G.r1 G.v0 G.v1;have lv:(fG k).length<=10:=by
  unfold fG;split
  .decide
  .split<;>decide
 have e6:(Str.ofString " ").length=1:=by walk_at "k"
 have M:(fN ⟨k,a,b,r,v⟩).length<=20000:=by
  show (txt a++" "++fG k++" "++txt b++gP r v).length<=20000;rw[ba,ba,ba,ba,ba];omega
 let⟨v1,Y,v3⟩:=zu G.k3;have L:bL (fN ⟨k,a,b,r,v⟩)=n++vw k++o++tw r v:=by
  show bL (txt a++" "++fG k++" "++txt b++gP r v)=_;rw[u,s,show jn n++" "++fG k++" "++jn o++gP r v=jn (n++vw k++o++tw r v) from by
   rw[Ic r v (by simp[c.ne]),kg (by simp[c.ne]) p.ne,kg c.ne v3,v1]]
  exact Ho (by simp[c.ne]) (lq (lq (lq i Y) q) (Hq v G.r0 G.r1))
 have B:(bL (fN ⟨k,a,b,r,v⟩)).length<=60:=by
  rw[L,length_append,length_append,length_append];omega
 let⟨p1,p3,p4,p5,F⟩:=Ye (y:=⟨k,a,b,r,v⟩) ⟨n,c,i,u⟩ ⟨o,p,q,s⟩ ga gb G.k3 G.r0 G.r1 G.v0 G.v1 G.z B;have N:a.dep<=64:=⋯
 have O:b.dep<=64:=⋯
 have Q:(txt a).length<=1000:=⋯
 have U:(txt b).length<=1000:=⋯
 exact⟨⟨G.k3,N,O,mH ga,mH gb,Q,U,G.r0,G.r1,G.v0,G.v1⟩,M,B,Xg F⟩
theorem FD{W:ae}{k:Nat}{a b:Tm}{r v:Int}(G:sI W k a b r v)(l:W.length<=60):a.dep<=64/\b.dep<=64/\(cu a).length+(cu b).length<60:=by
 let⟨n,us,g,h,m⟩:=G.w;have c:=jG g;have d:=jG h;rw[if_neg ∎] at c d;have i:=kh a;have j:=kh b;have e:(vw k).length≠0:=by
  let⟨_,_,f⟩:=zu G.k3;exact λz=>f (List.length_eq_zero_iff.mp z)
 omega
theorem RO{a b:Tm}:1<(cI (cC a++cC b)).length↔true∈dE a++dE b/\false∈dE a++dE b:=by
 let⟨o,q⟩:=sO (cC a++cC b);have mem:∀(t:Tm)(x:Str),x∈cC t↔∃f∈dE t,x=if f=true then ("down":Str) else "across":=λt x=>by
  unfold cC;rw[GB,(sO _).2,mem_map];constructor
  .rintro⟨e,m,rfl⟩;exact⟨cB e.1,mem_map.mpr ⟨e,m,rfl⟩,rfl⟩
  .rintro⟨f,m,rfl⟩;let⟨e,p,rfl⟩:=mem_map.mp m;exact⟨e,p,rfl⟩
 have c:∀x:Str,x∈cI (cC a++cC b)↔∃f∈dE a++dE b,x=if f=true then ("down":Str) else "across":=λx=>by
  rw[q,mem_append,mem,mem];constructor
  .rintro (⟨f,m,h⟩ |⟨f,m,h⟩)
   .exact⟨f,mem_append_left _ m,h⟩
   .exact⟨f,mem_append_right _ m,h⟩
  .rintro⟨f,m,h⟩;exact (mem_append.mp m).imp (λm=>⟨f,m,h⟩) λm=>⟨f,m,h⟩
 have ne:¬ ("down":Str)="across":=by walk_at "k"
 constructor
 .intro h;generalize r:cI (cC a++cC b)=l at *;cases l with
  |nil=>exact absurd h ∎
  |cons x l=>cases l with
   |nil=>exact absurd h (by simp)
   |cons y l=>
    ∎;let⟨f,i,k⟩:=(c x).mp (.head _);let⟨g,j,n⟩:=(c y).mp (.tail _ (.head _));∎;have d:¬ x=y:=λz=>by rw[z] at o;exact absurd o (by simp)
    cases f<;>cases g
    .exact absurd (k.trans n.symm) d
    .exact⟨j,i⟩
    .exact⟨i,j⟩
    .exact absurd (k.trans n.symm) d
 .rintro⟨h1,h2⟩;have i:=(c "down").mpr ⟨true,h1,rfl⟩;have j:=(c "across").mpr ⟨false,h2,rfl⟩;generalize cI (cC a++cC b)=l at *;cases l with
  |nil=>cases i
  |cons x l=>cases l with
   |nil=>exact absurd ((mem_singleton.mp i).trans (mem_singleton.mp j).symm) ne
   |cons y l=>simp
def BI:cf:=dR 2 λb Q=>∃(f:Fl)(a:d3)(k:Int),Fp f/\b=[.ak f ↥a,.int k]/\0<=k/\∀c:Int,Q (.int c)
theorem pZ(T:Tx w K mg){z:Bool}:aB P w K mg base bq 1 T.kJ.a T.kJ.d ["_law_script","_law_k"] (bx K z 0 2 BI):=by
 refine b0 T.kJ.F LY rfl ∎ λaR A outer s H E i j h=>?_
 refine⟨_,(aO (bI (bc iZ iT (qv 1) (cA dk dt T.cY (aq (qv 0) aI))) (aN (br (b7 (qv 0) (qv 1)))) bX)
  (aN (br aE))),?_⟩
 rintro l g _ ⟨_,f,b,k,_,rfl,e,q⟩;rfl';split
 .rename_i c;exact uw _ _ _ (gZ b e (by have:=of_decide_eq_true c;omega)) ⟨xB _,q _ _⟩
 .exact q _ _
theorem eF{j:Int}(h:j.natAbs<2 ^ 100):j.natAbs<2 ^ 8000:=lt_of_lt_of_le h (Nat.pow_le_pow_right ∎ ⋯)
theorem ml{ns:ae}{r:Int}{n:Nat}{Q:ar}(a:0<=r)(c:r<ns.length)(b:ns.all (λx=>decide (x.length<=n))=true)(q:∀x:Str,x.length<=n->Q (.str x)):oQ (cN (ns.map Tr.str) r) Q:=by
 rw[gZ (ns.map Tr.str) a (by rw[length_map];omega),List.getElem_map];exact q _ (of_decide_eq_true (all_eq_true.mp b _ (getElem_mem _)))
theorem Rn{ns:ae}{r:Int}{n:Nat}{Q:ar}(a:0<=r)(c:r<ns.length)(b:ns.all (λx=>decide (x.length<=n))=true)(q:∀x:Str,x.length<=n->Q (.str x)):oQ ((cN ns r).map av.t) Q:=by
 rw[gZ ns a ⋯];exact q _ (of_decide_eq_true (all_eq_true.mp b _ (getElem_mem _)))
theorem gL(c:Int){k:Int}(h: ~~~(0<k)):0<=c % k:=Int.emod_nonneg _ ⋯
theorem hH(c:Int){k:Int}(h: ~~~(0<k)):c % k<k:=Int.emod_lt_of_pos _ h
theorem n8{xs:ai}{i:Nat}{r:Int}{t:Tr}{Q:ar}(h:r=i)(e:xs[i]?=some t)(q:Q t):oQ (cN xs r) Q:=by
 rw[h,gZ xs ⋯ (by have:=(List.getElem?_eq_some_iff.mp e).1;omega)];have:xs[((i:Nat):Int).toNat]?=some t:=by rw[toNat_natCast];exact e
 rw[(List.getElem?_eq_some_iff.mp this).2];exact q
def nr(n:Nat)(p:aG)(l:Nat):cf:=dR n λa Q=>p a/\∀x:Str,x.length<=l->Q (.str x)
def xa(xs:ai):Prop:=∃(c d:Int),xs=[.int c,.int d]/\(d=0\/d=1)
def DI(d:Int):ae:=if d=0 then ["left","width","right","middle","gap"] else ["top","height","bottom","centre","drop"]
theorem DM(T:Tx w K mg){z:Bool}:aB P w K mg base bq 1 T.oP.a T.oP.d ["_law_cell","_law_way"] (bx K z 0 2 (nr 2 xa 18)):=by
 refine b0 T.oP.F Nt rfl ∎ λaR A outer s H E h j g=>?_
 refine⟨_,(aO (bp 2 (b7 (cF (aq (cF (aq aC (aq aC (aq aC (aq aC (aq aC aI)))))) (aq (cF (aq aC (aq aC (aq aC (aq aC (aq aC aI)))))) aI))) (qv 1)))
  (aN (br (bG (bG (b7 (qv 2) (d7 (qv 0) aE)) aC) (b7 (cF (aq aC (aq aC (aq aC (aq aC (aq aC (aq aC aI))))))) (d7 (dW (qv 0) aE) aE)))))),?_⟩
 rintro m e _ ⟨_,⟨c,d,rfl,hd⟩,q⟩;rfl';have f:(Str.ofString " of ").length=4:=by walk_at "k"
 refine n8 (i:=d.toNat) ⋯ (t:=.ak .o ((DI d).map av.t)) (by rcases hd with rfl |rfl<;>rfl) ?_;rfl';have b:(DI d).length=5:=by rcases hd with rfl |rfl<;>rfl
 refine⟨∎,Rn (gL c) (by rw[b];exact hH c) (n:=6) (by rcases hd with rfl |rfl<;>decide +kernel) λx k=>?_⟩;rfl';refine⟨⋯,⟨∎,eF ∎⟩,∎,ml (ns:=["a","bb","longname","is","by","at"]) (gL _) (hH _) (n:=8) (by walk_at "k") λy l=>?_⟩;rfl';exact⟨by rw[ba];omega,q _ (by rw[ba,ba];omega) _⟩
theorem xp(T:Tx w K mg){z:Bool}:aB P w K mg base bq 2 T.nh.a T.nh.d ["_law_cell","_law_way"] (bx K z 0 2 (nr 2 xa 18)):=by
 refine b0 T.nh.F Nu rfl ∎ λaR A outer s H E g h f=>?_
 refine⟨_,(aO (bI (bc bY bW (d7 (qv 0) aE) aE) (aN (br (b7 (cF (aq aC (aq aC (aq aC (aq aC (aq aC (aq aC aI))))))) (d7 (dW (qv 0) aE) aE)))) bX)
  (aN (br (qc T.oP (DM T) (aq (dW (qv 0) aE) (aq (qv 1) aI)))))),?_⟩
 rintro k e _ ⟨_,⟨c,d,rfl,hd⟩,q⟩;rfl';refine⟨∎,?_⟩;split
 .refine⟨⟨∎,eF ∎⟩,∎,ml (ns:=["0","4","-7","3/2","-12/35","999999"]) (gL _) (hH _) (n:=6) (by walk_at "k") λy i=>?_⟩;rfl';exact q _ ⋯ _
 .exact⟨⟨∎,eF ∎⟩,rfl,⟨_,_,rfl,hd⟩,λx b j=>⟨rfl,q x b _⟩⟩
def Cz(xs:ai):Prop:=∃(f:Fl)(a:d3)(d:Int),Fp f/\xs=[.ak f ↥a,.int d]/\(d=0\/d=1)/\1<=a.length/\a.length<=4
theorem Yk{j:Type}(xs:List j)(k:Nat)(h:bt):(dQ xs (some (k:Int)) h).length<=xs.length - k:=by
 unfold dQ;rw[length_take,length_drop,HT.bQ];omega
theorem tN{c d:Int}(hd:d=0\/d=1){Q:Tr->aG}(q:∀x:Str,x.length<=18->∀j,Q (.str x) j):nr 2 xa 18 [.int c,.int d] Q:=⟨rfl,⟨c,d,rfl,hd⟩,q⟩
theorem DN(T:Tx w K mg){z:Bool}:aB P w K mg base bq 3 T.oR.a T.oR.d ["_law_cells","_law_way"] (bx K z 0 2 (nr 2 Cz 90)):=by
 refine b0 T.oR.F Nv rfl ∎ λaR A outer s H E C D B=>?_
 refine⟨_,(aO (bp 2 (qc T.nh (xp T) (aq (b7 (qv 0) aE) (aq (qv 1) aI))))
  (aO (qG (uI (dX (qv 0) (cS aE) eG)) (i2 3) (aO (bp 4 (d7 (qv 3) aE))
  (aN (bI (bc bY bW (qv 4) aE) (aN (bp 2 (bG (bG (qv 2) aC) (qc T.nh (xp T) (aq (dW (qv 3) aE) (aq (qv 1) aI)))))) (aN (bI (bc bY bW (qv 4) aE) (aN (bp 2 (bG (bG (qc T.nh (xp T) (aq (dW (qv 3) aE) (aq (qv 1) aI))) aC) (qv 2)))) (aN (bI (bc bY bW (qv 4) aE) (aN (bp 2 (bG (bG aC (qv 2)) aC))) (aN (bI (bc bY bW (qv 4) aE) (aN (bp 2 (bG (bG aC (qv 2)) aC))) (aN (bI (bc bY bW (qv 4) aE) (aN (bp 2 (bG aC (qv 2)))) bX))))))))))))
  (aN (br (qv 2))))),?_⟩
 rintro J k _ ⟨_,⟨f,e,d,_,rfl,hd,u,v⟩,q⟩;have l:(Str.ofString " and ").length=5:=by walk_at "k"
 have m:(Str.ofString " less ").length=6:=by walk_at "k"
 have n:(Str.ofString "( ").length=2:=by walk_at "k"
 have o:(Str.ofString " )").length=2:=by walk_at "k"
 have p:(Str.ofString "2/3 times ( ").length=12:=by walk_at "k"
 have r:(Str.ofString "5 times ").length=8:=by walk_at "k"
 have I:(dQ e (some 1) none).length<=e.length - 1:=Yk e 1 none;rfl';refine uw _ _ _ (gZ e ∎ (by show 0<e.length;omega)) ?_;rfl';refine tN hd λx G j=>?_
 rfl';refine Loop.map _ _ (λi j=>∃(x:Str)(a b:Tr),j=[.ak f ↥e,.int d,.str x,a,b]/\x.length<=18+24*i) ⟨x,_,_,rfl,⋯⟩ ?_ ?_
 .rintro i c j g ⟨x,a,b,rfl,hl⟩;have g:=(List.getElem?_eq_some_iff.mp g).1;have g:i<3:=⋯
  rfl';refine⟨∎,?_⟩;split
  .refine⟨⋯,⟨∎,eF ∎⟩,tN hd λy h j=>?_⟩;rfl';exact⟨by rw[ba];omega,_,_,_,rfl,by rw[ba,ba];omega⟩
  split
  .refine⟨⟨∎,eF ∎⟩,tN hd λy h j=>?_⟩;rfl';exact⟨⋯,by rw[ba];omega,_,_,_,rfl,by rw[ba,ba];omega⟩
  split
  .exact⟨⋯,by rw[ba];omega,_,_,_,rfl,by rw[ba,ba];omega⟩
  split
  .exact⟨⋯,by rw[ba];omega,_,_,_,rfl,by rw[ba,ba];omega⟩
  split
  .exact⟨⋯,_,_,_,rfl,by rw[ba];omega⟩
  .exact⟨_,_,_,rfl,⋯⟩
 .rintro j ⟨x,a,b,rfl,hl⟩;rfl';exact q x ⋯ _
theorem DO(T:Tx w K mg){z:Bool}:aB P w K mg base bq 1 T.oS.a T.oS.d ["_law_cell"] (bx K z 0 1 (nr 1 (λxs=>∃c:Int,xs=[.int c]) 10)):=by
 refine b0 T.oS.F Nw rfl ∎ λaR A outer s H E g h f=>?_
 refine⟨_,(aO (bp 1 (cF (aq aC (aq aC (aq aC (aq aC (aq aC (aq aC (aq aC (aq aC (aq aC (aq aC (aq aC (aq aC (aq aC (aq aC aI))))))))))))))))
  (aO (bp 1 (bG (qv 1) (cF (aq aC (aq aC (aq aC (aq aC (aq aC (aq aC (aq aC (aq aC (aq aC (aq aC (aq aC (aq aC (aq aC (aq aC aI)))))))))))))))))
  (aO (bp 1 (bG (qv 1) (cF (aq aC (aq aC (aq aC (aq aC (aq aC (aq aC (aq aC (aq aC (aq aC (aq aC (aq aC (aq aC aI)))))))))))))))
  (aN (br (b7 (qv 1) (d7 (qv 0) aE))))))),?_⟩
 rintro xs e _ ⟨_,⟨c,rfl⟩,q⟩;rfl';refine⟨∎,ml (ns:=(["left","top","width","middle","centre","gap","drop","of","frame","a","is","at","least","most","by","hand","strong","fair","faint","must","and","less","times","(",")","0","3","-1","1/2","2/4","01","1000000","1000001","A","ninelongx","","Left","()","weak","+1"]:List String).map Str.ofString) (gL _) (hH _) (n:=10) (by walk_at "k") λx b=>⟨rfl,q x b _⟩⟩
def wl(ws:ae):Nat:=(ws.map λx=>x.length+1).sum
theorem ki(a b:ae):wl (a++b)=wl a+wl b:=by unfold wl;rw[map_append,List.sum_append]
theorem xP(c:Nat):∀(ps:List (List Nat)),ps≠[]->(eh c ps).length+1=(ps.map λx=>x.length+1).sum
 |[],h=>absurd rfl h
 |[p],_=>by simp[eh]
 |p::q::ps,_=>by
  have a:=xP c (q::ps) (cons_ne_nil _ _);show (p++c::eh c (q::ps)).length+1=(p.length+1)+((q::ps).map λx=>x.length+1).sum;rw[length_append,length_cons,<- a];omega
theorem Yl(x:Str):wl (bL x)=x.length+1:=by
 have h:=xP 32 (bH 32 x.cps.toList) (jC _ _);rw[pY,length_toList] at h;rw[show x.length=x.cps.size from rfl,h];unfold wl bL;rw[map_map];congr 1
theorem RP(a:ae):(Txt.join (Str.ofString " ") a).length<=wl a/\(a≠[]->(Txt.join (Str.ofString " ") a).length+1=wl a):=by
 cases a with
 |nil=>exact⟨zero_le _,λh=>absurd rfl h⟩
 |cons x r=>
  have e:(Txt.join (Str.ofString " ") (x::r)).cps.toList=eh 32 ((x::r).map (·.cps.toList)):=by
   rw[uG];exact Ed 32 r x.cps
  have h:=xP 32 ((x::r).map (·.cps.toList)) (by simp);rw[<- e,length_toList,map_map] at h;have h:(Txt.join (Str.ofString " ") (x::r)).length+1=wl (x::r):=h;exact⟨⋯,λ_=>h⟩
theorem yB{W:ae}{n:Nat}{y:Str}(h:W[n]?=some y):wl W=wl (W.take n)+(y.length+1)+wl (W.drop (n+1)):=by
 let⟨a,e⟩:=List.getElem?_eq_some_iff.mp h;have:W=W.take n++y::W.drop (n+1):=by rw[<- e,<- drop_eq_getElem_cons a,List.take_append_drop]
 conv=>lhs;rw[this,ki]
 rw[show wl (y::W.drop (n+1))=y.length+1+wl (W.drop (n+1)) from sum_cons];omega
theorem zx{j:Type}(W:List j)(n:Nat):dQ W none (some (n:Int))=W.take n:=by
 unfold dQ;rw[HT.bQ,HT.f7,Nat.sub_zero,List.drop_zero];rcases Nat.le_total n W.length with h |h
 .rw[min_eq_left h]
 .rw[Nat.min_eq_right h,take_of_length_le (le_refl _),take_of_length_le h]
theorem zy{j:Type}(W:List j)(n:Nat):dQ W (some (n:Int)) none=W.drop n:=by
 unfold dQ;rw[HT.bQ,HT.f7];rcases Nat.le_total n W.length with h |h
 .rw[min_eq_left h];exact take_of_length_le (by rw[length_drop];exact le_refl _)
 .rw[Nat.min_eq_right h,drop_of_length_le (le_refl _),drop_of_length_le h,take_nil]
theorem RQ(y:Str)(L:ae):Tr.str y::List.map av.t L=List.map av.t (y::L):=rfl
theorem Ym(U:ae)(m:Nat)(y:Str):wl (U.take m++y::U.drop m)=wl U+(y.length+1):=by
 rw[ki,show wl (y::U.drop m)=y.length+1+wl (U.drop m) from sum_cons]
 conv=>rhs;rw[<- List.take_append_drop m U,ki]
 omega
theorem Yn{W:ae}{n:Nat}{u:Str}{Q:aG}(hn:n<W.length)(q:Q ((W.set n u).map av.t)):kM ↥W (.int n) (.str u) Q:=by
 have e:gp (W.map (av.t:Str->Tr)).length (n:Int)=some n:=by unfold gp;rw[if_pos ⋯,if_pos (by rw[length_map];omega)];rfl
 unfold kM;dsimp only;rw[e];dsimp only;rw[List.map_set] at q;exact q
theorem Yo{W:ae}{n:Nat}{y:Str}(u:Str)(h:W[n]?=some y):wl (W.set n u)+(y.length+1)=wl W+(u.length+1):=by
 have b:=(List.getElem?_eq_some_iff.mp h).1;have e:=yB h;have a:=yB (W:=W.set n u) (n:=n) (y:=u) (by rw[getElem?_set_self b]);have c:(W.set n u).take n=W.take n:=List.take_set_of_le (le_refl _);have d:(W.set n u).drop (n+1)=W.drop (n+1):=List.drop_set_of_lt (lt_succ_self _);rw[c,d] at a;omega
theorem gY{t:Tr}{Q:ar}:oQ (some t) Q=Q t:=rfl
def KQ:cf:=dR 2 λa Q=>∃(x:Str)(c:Int),a=[.str x,.int c]/\x.length<=10000/\∀y:Str,y.length<=2*x.length+20->Q (.str y)
theorem Ms(T:Tx w K mg){z:Bool}:aB P w K mg base bq 2 T.rL.a T.rL.d ["_law_text_here","_law_cell"] (bx K z 0 2 KQ):=by
 refine b0 T.rL.F LZ rfl ∎ λaR A outer s H E hr hu hN=>?_
 refine⟨_,(aO (lB 2 (tV (qv 0) aC ⟨rfl,rfl,rfl,rfl⟩))
  (aO (bp 3 (d7 (dW (qv 1) aE) (cA dk dt T.cY (aq (qv 2) aI))))
  (aO (bp 4 (d7 (qv 1) aE))
  (aO (bI (bc bY bW (qv 4) aE) (aN (lB 2 (bG (dX (qv 2) eG (cS (qv 3))) (dX (qv 2) (cS (bG (qv 3) aE)) eG)))) (aN (bI (bc bY bW (qv 4) aE) (aN (lB 2 (bG (bG (dX (qv 2) eG (cS (qv 3))) (cF (aq (b7 (qv 2) (qv 3)) aI))) (dX (qv 2) (cS (qv 3)) eG)))) (aN (bI (bc bY bW (qv 4) aE) (aO (bp 5 (b7 (qv 2) (qv 3)))
  (aO (lB 2 (bG (dX (qv 2) eG (cS (qv 3))) (dX (qv 2) (cS (bG (qv 3) aE)) eG)))
  (aN (XY (ew 2) (bG (qv 3) aE) (qv 5))))) (aN (bI (bc bY bW (qv 4) aE) (aN (lB 2 (bG (bG (dX (qv 2) eG (cS (qv 3))) (cF (aq (qc T.oS (DO T) (aq (dW (dW (qv 1) aE) (cA dk dt T.cY (aq (qv 2) aI))) aI)) aI))) (dX (qv 2) (cS (qv 3)) eG)))) (aN (bI (bc bY bW (qv 4) aE) (aN (ud (ew 2) (qv 3) (qc T.oS (DO T) (aq (dW (dW (qv 1) aE) (cA dk dt T.cY (aq (qv 2) aI))) aI)))) (aN (bI (bc bY bW (qv 4) aE) (aN (ud (ew 2) (qv 3) (bG (b7 (qv 2) (qv 3)) (b7 aC (d7 (dW (dW (qv 1) aE) (cA dk dt T.cY (aq (qv 2) aI))) aE))))) (aN (bI (bc bY bW (qv 4) aE) (aN (ud (ew 2) (qv 3) (dX (b7 (qv 2) (qv 3)) (cS aE) eG))) (aO (bp 6 (d7 (dW (qv 1) aE) (bG (cA dk dt T.cY (aq (qv 0) aI)) aE)))
  (aN (br (bG (bG (dX (qv 0) eG (cS (qv 6))) (b7 (cF (aq aC (aq aC aI))) (d7 (dW (qv 1) aE) aE))) (dX (qv 0) (cS (bG (qv 6) (d7 (dW (qv 1) aE) aE))) eG))))))))))))))))))
  (aN (br (Ha aC (qv 2)))))))),?_⟩
 rintro B C _ ⟨_,x,c,rfl,hx,q⟩;rfl';have M:Txt.split x (Str.ofString " ")=bL x:=by rw[uG];exact sV x 32
 have Q:=yw x;have O:=Yl x;rw[M];have Y:0<(bL x).length:=by unfold bL;rw[length_map];exact List.length_pos_iff.mpr (jC _ _)
 generalize bL x=W at Q O Y ⊢;have e:∀(r:Fl)(b:ae)(j:ai),wl b<=2*x.length+21->sk (Str.ofString " ") (.ak r ↥b) λt=>ck t=true/\C t j:=λr b j h=>by
  let⟨N,D⟩:=RP b;have L:(Str.ofString " ").length=1:=by walk_at "k"
  have e2:(b.map (·.length)).sum+b.length<=wl b:=by
   unfold wl;clear N D h
   induction b with
   |nil=>exact le_refl _
   |cons y b ih=>rw[map_cons,map_cons,sum_cons,sum_cons,length_cons];omega
  refine⟨r,b,rfl,by rw[L];omega,rfl,q _ ?_ _⟩;cases b with
  |nil=>exact zero_le _
  |cons y b=>have:=D (cons_ne_nil _ _);omega
 have G:0<=c.fdiv 8 % (W.length:Int):=Int.emod_nonneg _ ⋯;have p1:c.fdiv 8 % (W.length:Int)<W.length:=Int.emod_lt_of_pos _ ⋯;generalize c.fdiv 8 % (W.length:Int)=p at G p1 ⊢;let⟨n,rfl⟩:=Int.eq_ofNat_of_zero_le G;have hn:n<W.length:=⋯
 obtain⟨y,g⟩:∃y,W[n]?=some y:=⟨_,List.getElem?_eq_getElem hn⟩;have I:cN W (n:Int)=some y:=by rw[gZ W ⋯ ⋯,<- g];exact (List.getElem?_eq_getElem hn).symm
 have wy:=yB g;have J:((n:Int)+1)=((n+1:Nat):Int):=⋯
 rw[J];simp only[zx,zy,I,map_some];have lt:=List.length_take_le n W;have ld:(W.drop (n+1)).length<=W.length:=by rw[length_drop];omega
 have U:(W.drop n).length<=W.length:=by rw[length_drop];omega
 refine⟨by walk_at "k",⋯,⋯,⟨∎,eF ∎⟩,⋯,∎,?_⟩;split
 .rw[<- map_append,mF,ly];exact⟨⋯,rfl,e _ _ _ (by rw[ki];omega)⟩
 split
 .rw[gY,show [(av.t y:Tr)]=[y].map av.t from rfl,<- map_append,<- map_append,mF,ly,length_map,length_append];exact⟨⋯,by simp;omega,rfl,e _ _ _ (by rw[ki,ki,show wl [y]=y.length+1 from rfl,show wl (W.drop n)=y.length+1+wl (W.drop (n+1)) by rw[drop_eq_getElem_cons hn,show W[n]=y from by have:=(List.getElem?_eq_getElem hn).symm.trans g;injection this];exact sum_cons];omega)⟩
 split
 .rw[gY];rfl';rw[<- map_append,ly,length_map,length_append,<- List.map_take,<- List.map_drop,RQ,<- map_append,mF];exact⟨⋯,rfl,⋯,by rw[length_take,length_drop];omega,⋯,e _ _ _ (by rw[Ym,ki];omega)⟩
 have m:dI (c.fdiv 8) (W.length:Int):=⟨⋯,eF (by
  have:W.length<2 ^ 20:=⋯
  exact lt_of_lt_of_le this (Nat.pow_le_pow_right ∎ ∎))⟩
 have f:∀(u:Str)(j:ai->ai),u.length<=y.length+10->kM (List.map av.t W) (.int n) (.str u) λi=>sk (Str.ofString " ") (.ak (.l true) (cP i)) λt=>ck t=true/\C t (j i):=λu j v=>by
  have:=Yo u g;refine Yn hn ?_;rw[mF];exact e _ _ _ ⋯
 split
 .refine⟨⟨∎,eF ∎⟩,m,rfl,⟨_,rfl⟩,λu v j=>?_⟩;dsimp only;rw[show [Tr.str u]=[u].map av.t from rfl,<- map_append,<- map_append,mF,ly,length_map,length_append];exact⟨⋯,by simp;omega,rfl,e _ _ _ (by rw[ki,ki,show wl [u]=u.length+1 from rfl,show wl (W.drop n)=y.length+1+wl (W.drop (n+1)) by rw[drop_eq_getElem_cons hn,show W[n]=y from by have:=(List.getElem?_eq_getElem hn).symm.trans g;injection this];exact sum_cons];omega)⟩
 split
 .exact⟨⟨∎,eF ∎⟩,m,rfl,⟨_,rfl⟩,λu v j=>⟨rfl,f u (λB=>_) ⋯⟩⟩
 split
 .rw[gY];refine⟨⟨∎,eF ∎⟩,m,∎,by walk_at "k",?_⟩;have o:(Str.ofString "az-/07 8xA.").cps.toList.length=11:=by walk_at "k"
  rw[gZ _ (gL _) (by rw[o];have:=hH ((c.fdiv 8).fdiv (W.length:Int)) (k:=11);have:=gL ((c.fdiv 8).fdiv (W.length:Int)) (k:=11);omega)];dsimp only;rw[nW,Fn];exact⟨by show y.length+1<=_;omega,rfl,f _ (λB=>_) (by rw[ba];show y.length+1<=_;omega)⟩
 split
 .rw[gY,nW,uA];have:=Txt.slice_le y (some 1) none;exact⟨⋯,rfl,f _ (λB=>_) ⋯⟩
 refine⟨⟨∎,eF ∎⟩,⋯,?_⟩;rfl';have s1:=Txt.slice_le x none (some (c.fdiv 16 % ((x.length:Int)+1)));have s2:=Txt.slice_le x (some (c.fdiv 16 % ((x.length:Int)+1)+c.fdiv 8 % 2)) none;refine⟨⋯,⋯,⟨∎,eF ∎⟩,∎,ml (ns:=[" ",""]) (gL _) (hH _) (n:=1) (by walk_at "k") λu v=>?_⟩;rfl';refine⟨⋯,⟨∎,eF ∎⟩,∎,⋯,?_⟩;rfl';exact⟨by rw[ba];omega,q _ (by rw[ba,ba];omega) _⟩
theorem X9{n:Nat}{L:List Nat}(a:¬ L=[])(b:L.length<=n)(c:dig L=true)(d:L=[48]\/¬ L.head?=some 48):whole n L=true:=by
 unfold whole;rw[decide_eq_false a,decide_eq_true b,c];rcases d with h |h
 .rw[decide_eq_true h];rfl
 .rw[decide_eq_false h,Bool.or_comm];rfl
def jb(n:Nat)(L:List Nat):Int:=if whole n L=true then (vl L:Int) else -1
def CA:cf:=dR 2 λa Q=>∃(L:List Nat)(n:Nat),a=[.str (tx L),.int n]/\L.length<=20000/\n<=7/\Q (.int (jb n L))
theorem xn(T:Tx w K mg){z:Bool}:aB P w K mg base bq 1 T.ni.a T.ni.d ["_law_word_here","_law_most"] (bx K z 0 2 CA):=by
 refine b0 T.ni.F ML rfl ∎ λaR A outer s H E I J G=>?_
 refine⟨_,(aO (bI (QW.t (e9 (bc bY bW (qv 0) aC) (e9 (bc kn ke (cA dk dt T.cY (aq (qv 0) aI)) (qv 1)) (gk (QW.t (fI (bc kn ke (cA dk dt T.cY (aq (qv 0) aI)) aE) (jD (bc bY bW (b7 (qv 0) aE) aC)))))))) (aN (br (zm aE))) bX)
  (aO (qG (uJ (qv 0)) (i2 2) (aN (bI (bc Dz D1 (qv 2) aC) (aN (br (zm aE))) bX)))
  (aN (br (gG mh mj T.jq (aq (qv 0) aI)))))),?_⟩
 rintro M g _ ⟨_,L,n,rfl,C,D,q⟩;have no:whole n L=false->∀u,g (.int (-1)) u:=λh=>by
  have e:jb n L=-1:=by unfold jb;rw[h];rfl
  rw[e] at q;exact q
 have o:(whole n L=true->False)->∀u,g (.int (-1)) u:=λh=>no (eq_false_iff.mpr h)
 rfl';rw[Hg,HI,kf];split
 .rename_i c;have c:L=[]:=of_decide_eq_true c;exact o (λh=>(gQ h).1 c) _
 rename_i f;have f:¬ L=[]:=λz=>f (decide_eq_true z)
 rw[qs];refine⟨by rw[b6];omega,?_⟩;rfl';rw[b6];split
 .rename_i c;have c:=of_decide_eq_true c;exact o (λh=>by have:=(gQ h).2.1;omega) _
 rename_i p;have p:L.length<=n:=by
  have:¬ ((n:Int)<L.length):=λz=>p (decide_eq_true z)
  omega
 have b:(L=[48]\/¬ L.head?=some 48)->Loop (List.map (λc=>Tr.str { cps:=#[c] }) (tx L).cps.toList) (oh 2) (sD (pT (p2 (sF true) (c9 2) (pC (Tr.str (Str.ofString "0123456789"))))) (kS (p1 pK (pC (Tr.int 1)))) sh)
   { nx:=kS (pB sj (gT (c9 0) gD)) { nx:=λu=>g Tr.aX u,rt:=g },rt:=g } [Tr.str (tx L),Tr.int n,Tr.aL]:=λhd=>by
  rw[dy];refine Loop.map L _ (λi u=>∃a,u=[.str (tx L),.int n,a]/\∀j c,j<i->L[j]?=some c->48<=c/\c<=57) ⟨_,rfl,λj c h=>absurd h (not_lt_zero _)⟩ ?_ ?_
  .rintro i c u hi ⟨a,rfl,ha⟩;rfl';rw[Gj];split
   .rename_i h;refine o (λz=>?_) _;have:=k6 (gQ z).2.2.1 c (mem_of_getElem? hi);have k:(decide (48<=c)&&decide (c<=57))=true:=by rw[decide_eq_true this.1,decide_eq_true this.2];rfl
    rw[k] at h;exact absurd h ∎
   .rename_i h;refine⟨_,rfl,λj d v e=>?_⟩;rcases lt_or_ge j i with l |l
    .exact ha j d l e
    .have:j=i:=⋯
     subst this;rw[hi] at e;cases e;simpa using h
  .rintro u ⟨a,rfl,ha⟩;have x:dig L=true:=by
    unfold dig;rw[all_eq_true];intro c m;let⟨j,v,e⟩:=List.mem_iff_getElem.mp m;have:=ha j c v (by rw[List.getElem?_eq_getElem v,e]);rw[decide_eq_true this.1,decide_eq_true this.2];rfl
   have B:=X9 f p x hd;have e:jb n L=(vl L:Int):=by unfold jb;rw[if_pos B]
   rw[e] at q;rfl';exact⟨_,intText_digits (k6 x) f (by rw[b6];omega),by rw[b6];omega,q _⟩
 refine⟨by rw[b6];omega,?_⟩;rfl';rw[b6];split
 .rename_i c;have c:=of_decide_eq_true c;cases L with
  |nil=>exact absurd rfl f
  |cons d r=>
   refine Hh ⋯ ?_;rfl';rw[kf];by_cases h:d=48
   .subst h;rw[if_pos (decide_eq_true rfl)];refine o (λz=>?_) _;rcases (gQ z).2.2.2 with y |y
    .rw[y] at c;exact absurd c ∎
    .exact y rfl
   .rw[if_neg (λz=>h (by simpa using z))];exact b (.inr λz=>h (by simpa using z))
 .rename_i c;have c:¬ (1:Int)<L.length:=λz=>c (decide_eq_true z)
  refine b ?_;cases L with
  |nil=>exact absurd rfl f
  |cons d r=>
   cases r with
   |nil=>
    by_cases h:d=48
    .exact .inl (by rw[h])
    .exact .inr λz=>h (by simpa using z)
   |cons _ _=>exact absurd (by simp;omega) c
theorem Ya(L:List Nat):Txt.slice (tx L) none (some 1)=tx (L.take 1):=by
 show StrLaws.sliceText (tx L) none (some 1)=_;cases L with
 |nil=>rfl
 |cons c r=>
  rw[StrLaws.sliceText_to ⟨∎,by rw[dy,length_cons];omega⟩,dy];rfl
theorem VW(M:List Nat)(c:Nat):(c ∉ M/\Txt.partition (tx M) (tx [c])=(tx M,Str.empty,Str.empty))\/∃a b,M=a++c::b/\c ∉ a/\Txt.partition (tx M) (tx [c])=(tx a,tx [c],tx b):=by
 have at_:∀i,StrLaws.At (tx M) (tx [c]) (tx M).length i↔M[i]?=some c:=λi=>by
  have h:=StrLaws.subAt_one (tx M) c i;rw[dy] at h;exact h
 unfold Txt.partition;rcases StrLaws.occ_head (tx M) (tx [c]) 1 (le_refl _) with⟨e,hn⟩ |⟨i,r,e,f,k⟩
 .refine .inl ⟨λm=>?_,by rw[e]⟩;let⟨j,d⟩:=List.mem_iff_getElem?.mp m;exact hn j ((at_ j).mpr d)
 .have f:=(at_ i).mp f;let⟨l,g⟩:=List.getElem?_eq_some_iff.mp f;refine .inr ⟨M.take i,M.drop (i+1),?_,λm=>?_,?_⟩
  .rw[<- g,<- drop_eq_getElem_cons l,List.take_append_drop]
  .obtain⟨j,d⟩:=List.mem_iff_getElem?.mp m;have n:=(List.getElem?_eq_some_iff.mp d).1;rw[length_take] at n;rw[List.getElem?_take_of_lt ⋯] at d;exact k j ⋯ ((at_ j).mpr d)
  .rw[e];have o:Builtin.Str.strSub (tx M) 0 i=tx (M.take i):=by rw[<- gz (Builtin.Str.strSub (tx M) 0 i),StrLaws.strSub_toList,dy,List.drop_zero,Nat.sub_zero]
   have p:Builtin.Str.strSub (tx M) (i+1) (tx M).length=tx (M.drop (i+1)):=by rw[<- gz (Builtin.Str.strSub (tx M) (i+1) (tx M).length),StrLaws.strSub_toList,dy,b6,take_of_length_le (by rw[length_drop];exact le_refl _)]
   show (Builtin.Str.strSub (tx M) 0 i,tx [c],Builtin.Str.strSub (tx M) (i+1) (tx M).length)=_;rw[o,p]
theorem IQ{n:Nat}{L:List Nat}(h:47∈L):whole n L=false:=by
 refine eq_false_iff.mpr λz=>?_
 have:=k6 (gQ z).2.2.1 47 h;exact absurd this.1 ∎
theorem VX{L:List Nat}(h:47 ∉ strip L):df (tx L)=(whole 6 (strip L) && !(decide (vl (strip L)=0)&&decide (L.head?=some 45))):=by
 unfold df d9;rw[dy,k7 h];dsimp only;by_cases b:whole 6 (strip L)=true
 .rw[b];by_cases a:vl (strip L)=0/\L.head?=some 45
  .rw[if_neg (λz=>z.2 a),decide_eq_true a.1,decide_eq_true a.2];rfl
  .rw[if_pos ⟨rfl,a⟩];show true=(true && !(decide _&&decide _));rw[<- Bool.decide_and,decide_eq_false a];rfl
 .rw[if_neg (λz=>b z.1),eq_false_iff.mpr b];rfl
theorem yC{L a b:List Nat}(h:strip L=a++47::b)(ha:47 ∉ a):df (tx L)=true↔whole 6 a=true/\whole 6 b=true/\2<=vl b/\Nat.gcd (vl a) (vl b)=1/\¬ vl a=0:=by
 unfold df d9;rw[dy,h,qb ha];by_cases d:47∈b
 .have:¬ whole 6 b=true:=by rw[IQ d];decide
  refine⟨λz=>?_,λz=>absurd z.2.1 this⟩;exfalso;cases e:bH 47 b with
  |nil=>exact jC _ _ e
  |cons p f=>
   rw[e] at z;cases f with
   |nil=>
    have:=pY 47 b;rw[e] at this;have:p=b:=this;have k:=qd 47 b p (by rw[e];exact mem_cons_self);rw[this] at k;exact k d
   |cons _ _=>cases z
 .rw[k7 d];dsimp only;constructor
  .intro z;split at z
   .rename_i c;refine⟨c.1,c.2.1,c.2.2.1,c.2.2.2.1,λe=>?_⟩;have:=c.2.2.2.1;rw[e,Nat.gcd_zero_left] at this;have:=c.2.2.1;omega
   .cases z
  .rintro⟨c1,c2,c3,c4,c5⟩;rw[if_pos ⟨c1,c2,c3,c4,λe=>c5 e.1⟩];rfl
def KD:cf:=dR 1 λa Q=>∃x:Str,a=[.str x]/\x.length<=20000/\Q (.bl (df x))
theorem sg{n:Nat}{L:List Nat}:jb n L<0↔¬ whole n L=true:=by
 unfold jb;split
 .rename_i h;exact⟨λz=>⋯,λz=>absurd h z⟩
 .rename_i h;exact⟨λ_=>h,λ_=>∎⟩
theorem tO{n:Nat}{L:List Nat}(h:whole n L=true):jb n L=(vl L:Int):=if_pos h
theorem Dy(T:Tx w K mg){z:Bool}:aB P w K mg base bq 2 T.oU.a T.oU.d ["_law_word_here"] (bx K z 0 1 KD):=by
 refine b0 T.oU.F LD rfl ∎ λaR A outer s H E I J o=>?_
 refine⟨_,(aO (bp 1 (qv 0))
  (aO (bI (bc bY bW (dX (qv 0) eG (cS aE)) aC) (aN (bp 1 (dX (qv 0) (cS aE) eG))) bX)
  (aO (HV (WY (qv 1) aC ⟨rfl,rfl,rfl,rfl⟩) (IB (n:=3) rfl (nQ (i2 2) (nQ (i2 3) (nQ (i2 4) Gd)))))
  (aO (bp 5 (qc T.ni (xn T) (aq (qv 2) (aq aE aI))))
  (aO (bI (QW.t (e9 (bc iZ iT (qv 5) aE) (gk (QW.t (fI (bc bY bW (qv 5) aE) (jD (QW.t (e9 (bc g8 gR (qv 1) (qv 0)) (gk (bc g8 gR (qv 3) aC)))))))))) (aN (br i1)) bX)
  (aO (bI (bc bY bW (qv 3) aC) (aN (br i1)) bX)
  (aO (bp 6 (qc T.ni (xn T) (aq (qv 4) (aq aE aI))))
  (aO (bI (bc iZ iT (qv 6) aE) (aN (br i1)) bX)
  (aO (nZ (bc g8 gR (qv 6) aE) (aN (XQ 5 6 (aq (qv 6) (aq (d7 (qv 5) (qv 6)) aI)))))
  (aN (br (fB bY bW (qv 5) aE)))))))))))),?_⟩
 rintro O u _ ⟨_,x,rfl,C,q⟩;obtain⟨L,rfl⟩:∃L,x=tx L:=⟨_,(gz x).symm⟩;rw[b6] at C;walk_at "q";have D:=Es L;refine join (λj=>j=[.str (tx L),.str (tx (strip L)),.aL,.aL,.aL,.aL,.aL]) (λN o=>?_) ?_
 .rfl';rw[uA,b6];refine⟨⋯,?_⟩;rw[Ya,HJ];rfl';rw[kf];by_cases c:L.head?=some 45
  .have e:L.take 1=[45]:=by
    cases L with
    |nil=>cases c
    |cons d r=>cases c;rfl
   rw[if_pos (decide_eq_true e),uA,b6,Iq];refine⟨⋯,?_⟩;rfl';exact o _ (by unfold strip;rw[if_pos c])
  .have e:¬ L.take 1=[45]:=λz=>c (by
    cases L with
    |nil=>cases z
    |cons d r=>injection z with z;rw[z];rfl)
   rw[if_neg (λz=>e (of_decide_eq_true z))];exact o _ (by unfold strip;rw[if_neg c])
 rintro j rfl;walk_at "q";rw[z8];refine⟨by walk_at "k",by rw[b6];omega,?_⟩;have g:decide (tx (strip L)=tx L)=!decide (L.head?=some 45):=by
  rw[kf];unfold strip;by_cases c:L.head?=some 45
  .rw[if_pos c,decide_eq_true c];cases L with
   |nil=>cases c
   |cons d r=>exact decide_eq_false (λz=>absurd (congrArg List.length z) (by simp))
  .rw[if_neg c,decide_eq_false c,decide_eq_true rfl];rfl
 rcases VW (strip L) 47 with⟨l,e⟩ |⟨a,b,k,ha,e⟩
 .rw[e];rfl';refine⟨rfl,strip L,6,rfl,⋯,∎,λj=>?_⟩;rfl';rw[VX l] at q;have v:decide (Str.empty=Str.ofString "")=true:=by walk_at "k"
  rw[g,v];by_cases f:whole 6 (strip L)=true;rotate_left
  .rw[if_pos (decide_eq_true (sg.mpr f))];rw[eq_false_iff.mpr f] at q;exact q _
  rw[if_neg (λz=>sg.mp (of_decide_eq_true z) f),tO f];rw[f] at q;by_cases v0:vl (strip L)=0
  .rw[if_pos (decide_eq_true ⋯)];rw[decide_eq_true v0] at q;by_cases c:L.head?=some 45
   .rw[decide_eq_true c] at q ⊢;exact q _
   .rw[decide_eq_false c] at q ⊢;exact q _
  .rw[if_neg (λz=>v0 (by have:=of_decide_eq_true z;omega))];rw[decide_eq_false v0] at q;exact q _
 .rw[e];have M:a.length+b.length+1<=20000:=by rw[k,length_append,length_cons] at D;omega
  have B:decide (tx [47]=Str.ofString "")=false:=by walk_at "k"
  have no:¬ (whole 6 a=true/\whole 6 b=true/\2<=vl b/\Nat.gcd (vl a) (vl b)=1/\¬ vl a=0)->∀j,u (.bl false) j:=λh=>by
   have:df (tx L)=false:=eq_false_iff.mpr λz=>h ((yC k ha).mp z)
   rw[this] at q;exact q
  rfl';refine⟨rfl,a,6,rfl,⋯,∎,λj=>?_⟩;rfl';rw[g,B];by_cases f:whole 6 a=true;rotate_left
  .rw[if_pos (decide_eq_true (sg.mpr f))];exact no (λz=>f z.1) _
  rw[if_neg (λz=>sg.mp (of_decide_eq_true z) f),tO f];by_cases v0:vl a=0
  .rw[if_pos (decide_eq_true ⋯)];by_cases c:L.head?=some 45
   .rw[decide_eq_true c];exact no (λz=>z.2.2.2.2 v0) _
   .rw[decide_eq_false c];exact no (λz=>z.2.2.2.2 v0) _
  rw[if_neg (λz=>v0 (by have:=of_decide_eq_true z;omega)),if_neg ∎];refine⟨rfl,b,6,rfl,⋯,∎,λj=>?_⟩;rfl';by_cases i:whole 6 b=true/\2<=vl b;rotate_left
  .refine (if_pos (decide_eq_true ?_)).mpr (no (λz=>i ⟨z.2.1,z.2.2.1⟩) _);unfold jb;split
   .rename_i h;have:¬ 2<=vl b:=λz=>i ⟨h,z⟩;omega
   .decide
  rw[tO i.1,if_neg (λz=>by have:=of_decide_eq_true z;omega)];refine⟨λm j=>∃x y:Nat,j=[.str (tx L),.str (tx (strip L)),.str (tx a),.str (tx [47]),.str (tx b),.int x,.int y]/\Nat.gcd x y=Nat.gcd (vl a) (vl b)/\m=y,⟨_,_,_,rfl,rfl,rfl⟩,?_⟩;rintro m j ⟨x,y,rfl,p,rfl⟩;rfl';by_cases G:m=0
  .subst G;rw[Nat.gcd_zero_right] at p;rw[if_neg ∎]
   try rfl'
   have e:decide ((x:Int)=1)=df (tx L):=by
    by_cases c:x=1
    .rw[decide_eq_true ⋯,(yC k ha).mpr ⟨f,i.1,i.2,⋯,v0⟩]
    .rw[decide_eq_false ⋯];exact (eq_false_iff.mpr λz=>c (by rw[p];exact ((yC k ha).mp z).2.2.2.1)).symm
   rw[<- e] at q;exact q _
  .rw[if_pos (by simp;omega)];refine⟨⋯,x % m,Nat.mod_lt _ ⋯,m,x % m,?_,?_,rfl⟩
   .rw[Int.natCast_emod]
   .rw[<- p,Nat.gcd_comm x m,Nat.gcd_rec m x,Nat.gcd_comm]
theorem IS{neg:Bool}{f g:Fl}{xs:ae}{u:Str}{Q:ar}(h:xs.length<=1)(q:Q (.bl (if neg=true then !decide (xs=[u]) else decide (xs=[u])))):gs neg (.ak f ↥xs) (.ak g [.str u]) Q:=by
 refine .inr ⟨decide (xs=[u]),?_,?_,?_,q⟩
 .cases xs with
  |nil=>rfl
  |cons x r=>
   cases r with
   |nil=>
    show (if (1:Nat)=1 then (some (decide (x=u))).bind λa=>(some true).bind λb=>some (a&&b) else some false)=_;rw[if_pos rfl];show some (decide (x=u)&&true)=_;rw[Bool.and_true];congr 1;exact decide_eq_decide.mpr ⟨λe=>by rw[e],λe=>by injection e⟩
   |cons _ _=>exact absurd h (by simp)
 .cases xs with
  |nil=>show (0:Nat)+1<=60;decide
  |cons x r=>cases r with
   |nil=>show max 0 0+1<=60;decide
   |cons _ _=>exact absurd h (by simp)
 .cases xs with
  |nil=>exact le_refl _
  |cons x r=>exact Nat.succ_le_succ (zero_le _)
theorem FE:∀xs:ae,eM ↥xs=0
 |[]=>rfl
 |x::xs=>by show max 0 (eM ↥xs)=0;rw[FE xs];rfl
theorem IT{f g:Fl}{xs:ae}{Q:ar}(q:Q (.bl (decide (xs=[])))):gs false (.ak f ↥xs) (.ak g []) Q:=by
 refine .inr ⟨decide (xs=[]),?_,?_,?_,q⟩
 .cases xs with
  |nil=>rfl
  |cons x r=>rfl
 .show eM ↥xs+1<=60;rw[FE];decide
 .exact Nat.succ_le_succ (zero_le _)
theorem GI{j:Type}(W:List j)(n:Nat):dQ W (some ((n:Nat):Int)) (some ((n+1:Nat):Int))=(W.drop n).take 1:=by
 unfold dQ;rw[HT.bQ,HT.bQ];rcases lt_or_ge n W.length with h |h
 .rw[min_eq_left ⋯,min_eq_left ⋯,show n+1 - n=1 by omega]
 .rw[Nat.min_eq_right h,drop_of_length_le (le_refl _),drop_of_length_le h,take_nil,take_nil]
theorem pW{W:ae}{p:Nat}(h:p<W.length):cN W (p:Int)=some (ay W p):=by
 rw[gZ W ⋯ ⋯];unfold ay;rw[List.getElem?_eq_getElem h];rfl
def nF:ae:=["left","width","right","middle","gap","top","height","bottom","centre","drop"]
theorem Ij(x:Str):x∈nF↔x∈d8\/cB x=true:=by
 unfold nF d8 cB;simp[or_assoc]
theorem um{neg:Bool}{f:Fl}{x:Str}{ns:ae}{Q:ar}(q:Q (.bl (if neg=true then !decide (x∈ns) else decide (x∈ns)))):kC neg (.str x) (.ak f ↥ns) Q:=by
 refine⟨rfl,b9 ns,?_⟩;have e:i6 (.str x) ↥ns=decide (x∈ns):=sX x ns;rw[e];exact q
def KG:cf:=dR 2 λa Q=>∃(f:Fl)(W:ae)(p:Nat),Fp f/\a=[.ak f ↥W,.int p]/\p<W.length/\iI W/\Q (.bl (fh W p))
theorem Dw(T:Tx w K mg){z:Bool}:aB P w K mg base bq 1 T.oV.a T.oV.d ["_law_words","_law_at"] (bx K z 0 2 KG):=by
 refine b0 T.oV.F L0 rfl ∎ λaR A outer s H E hr hu g=>?_
 refine⟨_,(aO (bp 2 (cF (aq aC (aq aC (aq aC (aq aC (aq aC (aq aC (aq aC (aq aC (aq aC (aq aC aI))))))))))))
  (aO (bI (QW.t (e9 (bc mv mf (b7 (qv 0) (qv 1)) (qv 2)) (e9 (bc g8 gR (dX (qv 0) (cS (bG (qv 1) aE)) (cS (bG (qv 1) aE))) (cF (aq aC aI))) (gk (bc iZ iT (cA dk dt T.cY (aq (qv 0) aI)) (bG (qv 1) aE)))))) (aN (br i1)) bX)
  (aO (bp 3 (b7 (qv 0) (bG (qv 1) aE)))
  (aO (bI (QW.t (e9 (bc iZ iT (cA dk dt T.cY (aq (qv 3) aI)) aE) (e9 (bc kn ke (cA dk dt T.cY (aq (qv 3) aI)) aE) (gk (QW.t (fI (bc bY bW (qv 3) aC) (jD (bc lG k9 (b7 (qv 0) (qv 1)) (cF (aq aC (aq aC aI))))))))))) (aN (br i1)) bX)
  (aN (br (fB bY bW (la ["_law_sign"] [none] (uJ (qv 3)) (lH 0) (λ_ _ _ _ _=>(qv 0)) (ht:=λ_ _ _ _ _=>(Ul (bc Dz D1 (qv 0) aC)))) (cF aI)))))))),?_⟩
 rintro xs x _ ⟨_,f,W,p,_,rfl,r,I,q⟩;have no:¬ ((ay W p∈d8\/cB (ay W p)=true)/\ay W (p+1)="of"/\gj (ay W (p+2)).cps.toList=true/\¬ (ay W (p+2)="frame"/\(ay W p="gap"\/ay W p="drop")))->∀j,x (.bl false) j:=λh=>by
  have e:fh W p=false:=decide_eq_false h;rw[e] at q;exact q
 walk_at "q";rw[show [Tr.str (Str.ofString "left"),Tr.str (Str.ofString "width"),Tr.str (Str.ofString "right"),Tr.str (Str.ofString "middle"),Tr.str (Str.ofString "gap"),Tr.str (Str.ofString "top"),Tr.str (Str.ofString "height"),Tr.str (Str.ofString "bottom"),Tr.str (Str.ofString "centre"),Tr.str (Str.ofString "drop")]=↥nF from rfl];refine join (λj=>j=[.ak f ↥W,.int p,.ak .f ↥nF,.aL]/\(ay W p∈d8\/cB (ay W p)=true)/\ay W (p+1)="of"/\p+2<W.length) (λN g=>?_) ?_
 .rfl';rw[pW r,map_some,gY,nW];refine um ?_;rfl';by_cases i:ay W p∈nF;rotate_left
  .rw[decide_eq_false i];exact no (λz=>i ((Ij _).mpr z.1)) _
  rw[decide_eq_true i];rfl';rw[show ((p:Int)+1)=((p+1:Nat):Int) from rfl,show ((p:Int)+2)=((p+1+1:Nat):Int) from rfl,GI];refine IS (by rw[length_take];omega) ?_;rfl';have ht:decide ((W.drop (p+1)).take 1=[Str.ofString "of"])=decide (ay W (p+1)="of"):=by
   refine decide_eq_decide.mpr ?_;rcases lt_or_ge (p+1) W.length with h |h
   .rw[jF h];exact⟨λe=>by injection e,λe=>by rw[e];rfl⟩
   .rw[drop_of_length_le h,yy h];exact⟨(λe=>by cases e),λe=>absurd e (by walk_at "k")⟩
  rw[ht];by_cases k:ay W (p+1)="of";rotate_left
  .rw[decide_eq_false k];exact no (λz=>k z.2.1) _
  rw[decide_eq_true k];rw[if_neg ∎];split
  .rename_i c;have c:=of_decide_eq_true c;refine no (λz=>?_) _;have e:ay W (p+2)="":=yy ⋯;have:=z.2.2.1;rw[e] at this;exact absurd this (by walk_at "k")
  .rename_i c;have c:¬ (W.length:Int)<(p:Int)+3:=λz=>c (decide_eq_true z)
   exact g _ ⟨rfl,(Ij _).mp i,k,⋯⟩
 rintro j ⟨rfl,J,L,G⟩;have U:=ll I (p+2);walk_at "q";rw[show ((p:Int)+2)=((p+2:Nat):Int) from rfl,pW G,map_some,gY];walk_at "q";obtain⟨M,e⟩:∃M,ay W (p+2)=tx M:=⟨_,(gz _).symm⟩;rw[e,b6] at U;rw[e,dy] at no;rw[e];have v:¬ (1<=M.length/\M.length<=8)->¬ gj M=true:=λh z=>h (by
  unfold gj at z;rw[and_eq_true,and_eq_true] at z;exact⟨of_decide_eq_true z.1,of_decide_eq_true z.2.1⟩)
 refine join (λj=>j=[.ak f ↥W,.int p,.ak .f ↥nF,.str (tx M)]/\1<=M.length/\M.length<=8/\¬ (tx M="frame"/\(ay W p="gap"\/ay W p="drop"))) (λN g=>?_) ?_
 .rfl';rw[qs,b6];refine⟨⋯,?_⟩;rfl';split
  .rename_i c;have c:=of_decide_eq_true c;exact no (λz=>v ⋯ z.2.2.1) _
  rename_i n;have n:¬ (M.length:Int)<1:=λz=>n (decide_eq_true z)
  rw[qs,b6];refine⟨⋯,?_⟩;rfl';split
  .rename_i c;have c:=of_decide_eq_true c;exact no (λz=>v ⋯ z.2.2.1) _
  rename_i o;have o:¬ (8:Int)<M.length:=λz=>o (decide_eq_true z)
  split
  .rename_i b;have b:=of_decide_eq_true b;rw[pW r,map_some,gY,nW,show [Tr.str (Str.ofString "gap"),Tr.str (Str.ofString "drop")]=(["gap","drop"]:ae).map av.t from rfl];refine um ?_;rfl';have u:ay W p∈(["gap","drop"]:ae)↔ay W p="gap"\/ay W p="drop":=by simp
   split
   .rename_i c6;exact no (λz=>z.2.2.2 ⟨b,u.mp (of_decide_eq_true c6)⟩) _
   .rename_i c6;exact g _ ⟨rfl,⋯,⋯,λz=>c6 (decide_eq_true (u.mpr z.2))⟩
  .rename_i b;exact g _ ⟨rfl,⋯,⋯,λz=>b (decide_eq_true z.1)⟩
 rintro j ⟨rfl,O,Q,D⟩;rfl';rw[dy];refine bN.filter M _ (λc=>!(decide (97<=c)&&decide (c<=122))) (λc=>(⟨#[c]⟩:Str)) ⋯ (λc Y A R B C=>?_) ?_
 .rfl';rw[Gv];cases hb:(decide (97<=c)&&decide (c<=122)) with
  |true=>exact C (by rw[hb];rfl)
  |false=>exact B (by rw[hb];rfl)
 .refine IT ⟨rfl,?_⟩;have y:decide ((M.filter λc=>!(decide (97<=c)&&decide (c<=122))).map (λc=>(⟨#[c]⟩:Str))=[])=fh W p:=by
   unfold fh;refine decide_eq_decide.mpr ?_;rw[List.map_eq_nil_iff,List.filter_eq_nil_iff,e,dy];have l:(∀a∈M,¬ (!(decide (97<=a)&&decide (a<=122)))=true)↔gj M=true:=by
    unfold gj;rw[and_eq_true,and_eq_true,all_eq_true];constructor
    .exact λh=>⟨decide_eq_true O,decide_eq_true Q,λa m=>by simpa using h a m⟩
    .exact λh a m=>by simpa using h.2.2 a m
   rw[l];exact⟨λh=>⟨J,L,h,D⟩,λh=>h.2.2.1⟩
  rw[y];exact q _
def cz:Tk->Tr
 |.e _=>.int 1 |.w x=>.str x
def fM(ts:List Tk):Prop:=∀x,Tk.w x∈ts->x.length<=20000
def Ku:cf:=dR 1 λa Q=>∃t:Tk,a=[cz t]/\fM [t]/\Q (.bl (eZ t))
theorem str_int{neg:Bool}{x:Str}{n:Int}{Q:ar}(q:Q (.bl neg)):gs neg (.str x) (.int n) Q:=by
 refine .inl ⟨rfl,?_⟩;have e:decide (V.str x=V.int n)=false:=decide_eq_false (λh=>by cases h);rw[e];cases neg<;>exact q
theorem nG(T:Tx w K mg){z:Bool}:aB P w K mg base bq 3 T.jT.a T.jT.d ["_law_sign"] (bx K z 0 1 Ku):=by
 refine b0 T.jT.F Nx rfl ∎ λaR A outer s H E g h f=>?_
 refine⟨_,(aN (br (qP (fB bY bW (qv 0) aE) (kd (qc T.oU (Dy T) (aq (gG Ep E9 T.o9 (aq (qv 0) aI)) aI)))))),?_⟩;rintro i c _ ⟨_,t,rfl,b,q⟩;cases t with
 |e d=>
  rw[show cz (.e d)=.int 1 from rfl];rfl';exact q _
 |w x=>
  rw[show cz (.w x)=.str x from rfl];rfl';refine str_int ?_;rfl';exact⟨rfl,x,rfl,b x (.head _),λj=>⟨rfl,q _⟩⟩
def KH:cf:=dR 1 λa Q=>∃(f:Fl)(W:ae),Fp f/\a=[.ak f ↥W]/\iI W/\Q (.ak .o ((tk W 0).map cz))
theorem Ik(a:List Tk):dC (a.map cz)=true:=by
 induction a with
 |nil=>rfl
 |cons t a b=>cases t <;> exact b
theorem NJ(T:Tx w K mg){z:Bool}:aB P w K mg base bq 3 T.rM.a T.rM.d ["_law_words"] (bx K z 0 1 KH):=by
 refine b0 T.rM.F MM rfl ∎ λaR A outer s H E G I D=>?_
 refine⟨_,(aO (lB 1 (cF aI))
  (aO (bp 2 aE)
  (aO (nZ (bc iZ iT (qv 2) (cA dk dt T.cY (aq (qv 0) aI))) (aN (bI (eE (qc T.oV (Dw T) (aq (qv 0) (aq (qv 2) aI)))) (aO (zA (ew 1) aE)
  (aN (bp 2 (bG (qv 2) aE)))) (aN (bI (eE (qc T.oU (Dy T) (aq (b7 (qv 0) (qv 2)) aI))) (aO (zA (ew 1) (b7 (qv 0) (qv 2)))
  (aN (bp 2 (bG (qv 2) aE)))) (aO (zA (ew 1) (b7 (cF (aq aC (aq (b7 (qv 0) (qv 2)) aI))) (gG xu xI T.jq (aq (fB g8 gR (b7 (qv 0) (qv 2)) aC) aI))))
  (aN (bp 2 (bG (qv 2) aE)))))))))
  (aN (yR (XW 1)))))),?_⟩
 rintro J B _ ⟨_,f,W,_,rfl,k,q⟩;rfl';have v:=k.1;refine⟨λm j=>∃(b:List Tk)(p:Nat),j=[.ak f ↥W,.ak .o (b.map cz),.int p]/\tk W 0=b++tk W p/\m=100 - p/\b.length<=p/\p<=62,⟨100,[],0,rfl,rfl,rfl,le_refl _,∎⟩,?_⟩;rintro m j ⟨b,p,rfl,h,hm,lt,lp⟩;have add:∀{t:Tk}{c:Nat},tk W p=t::tk W c->p<c->c<=62->b.length<1000000/\∃l,l<m/\∃(us:List Tk)(p:Nat),[Tr.ak f ↥W,.ak .o (b.map cz++[cz t]),.int c]=[.ak f ↥W,.ak .o (us.map cz),.int p]/\tk W 0=us++tk W p/\l=100 - p/\us.length<=p/\p<=62:=λ{t c} r C u=>
  ⟨⋯,100 - c,⋯,b++[t],c,by rw[map_append];rfl,by rw[h,r];simp,rfl,by rw[length_append,List.length_singleton];omega,u⟩
 rfl';by_cases g:p<W.length;rotate_left
 .rw[if_neg (λz=>g (by have:=of_decide_eq_true z;omega))];have n:=g6 (W:=W) (p:=p) ⋯;rw[n,append_nil] at h;rw[h] at q;exact⟨Ik b,q _⟩
 rw[if_pos (decide_eq_true ⋯)];refine⟨rfl,f,W,p,‹Fp f›,rfl,g,k,λj=>?_⟩;dsimp only[cU];cases he:fh W p with
 |true=>
  have:=qy he;exact add (i3 he) ⋯ ⋯
 |false=>
  rw[if_neg ∎];have tw:=iF g he;have x:=ll k p;rw[pW g,map_some,gY,gY,gY]
  try rfl'
  refine⟨rfl,ay W p,rfl,x,λj=>?_⟩;dsimp only
  try rfl'
  by_cases e:ay W p=""
  .rw[e];rw[e] at tw;have y:df ""=false:=by walk_at "k"
   rw[y,if_neg ∎,decide_eq_true rfl];exact n8 (i:=0) rfl rfl ⟨rfl,add tw ⋯ ⋯⟩
  .rw[show iq (ay W p)=ay W p from if_neg e] at tw;have:=add tw ⋯ ⋯;split
   .exact this
   .rw[decide_eq_false e];exact n8 (i:=1) rfl rfl ⟨rfl,this⟩
theorem int_str{neg:Bool}{x:Str}{n:Int}{Q:ar}(q:Q (.bl neg)):gs neg (.int n) (.str x) Q:=by
 refine .inl ⟨rfl,?_⟩;have e:decide (V.int n=V.str x)=false:=decide_eq_false (λh=>by cases h);rw[e];cases neg<;>exact q
theorem eqT{neg:Bool}{t:Tk}{x:Str}{Q:ar}(q:Q (.bl (if neg=true then !decide (t=.w x) else decide (t=.w x)))):gs neg (cz t) (.str x) Q:=by
 cases t with
 |e d=>
  rw[decide_eq_false (λh=>by cases h)] at q;exact int_str (by cases neg<;>exact q)
 |w y=>
  have e:decide (Tk.w y=.w x)=decide (y=x):=decide_eq_decide.mpr ⟨λh=>by injection h,λh=>by rw[h]⟩;rw[e] at q;exact q
def n9:Tk->Bool
 |.e _=>true |.w _=>false
theorem eq1{neg:Bool}{t:Tk}{Q:ar}(q:Q (.bl (if neg=true then !n9 t else n9 t))):gs neg (cz t) (.int 1) Q:=by
 cases t with
 |e d=>exact q
 |w y=>exact str_int (by cases neg <;> exact q)
theorem yD:∀t:Tk,iP (cz t)=true
 |.e _=>rfl
 |.w _=>rfl
theorem IU{neg:Bool}{f:Fl}{t:Tk}{Q:ar}(q:Q (.bl (if neg=true then !n9 t else n9 t))):kC neg (cz t) (.ak f [.int 1]) Q:=by
 refine⟨yD t,rfl,?_⟩;have e:i6 (cz t) [.int 1]=n9 t:=by cases t<;>rfl
 rw[e];exact q
theorem ur{neg:Bool}{f:Fl}{t:Tk}{ns:ae}{Q:ar}(q:Q (.bl (if neg=true then !decide (∃x∈ns,t=.w x) else decide (∃x∈ns,t=.w x)))):kC neg (cz t) (.ak f ↥ns) Q:=by
 refine⟨yD t,b9 ns,?_⟩;have e:i6 (cz t) ↥ns=decide (∃x∈ns,t=.w x):=by
  cases t with
  |e d=>
   rw[decide_eq_false (λ⟨_,_,h⟩=>by cases h)];show qO (.int 1) ((↥ns).map kT)=false
   induction ns with
   |nil=>rfl
   |cons x ns b=>exact b (by rwa[decide_eq_false (λ⟨_,_,h⟩=>by cases h)] at q ⊢)
  |w y=>
   have a:i6 (cz (.w y)) ↥ns=decide (y∈ns):=sX y ns;rw[a];exact decide_eq_decide.mpr ⟨λh=>⟨y,h,rfl⟩,λ⟨x,m,h⟩=>by injection h with h;rw[h];exact m⟩
 rw[e];exact q
noncomputable instance YE:av Tk:=⟨cz,λt=>by cases t<;>rfl,λt z=>by cases t<;>cases z⟩
theorem qT{A B:cc}(J:aG)(a:∀N:aG,(∀j,J j->N j)->A { D with nx:=N } j)(b:∀j,J j->B D j):sC A B D j:=a (B D) b
def ju(r:List Tk):Bool:=!decide (r.head?=some (.w cg))
def ma(p:List Tk):Bool:=match p.getLast? with |none=>true |some t=>!decide (∃x∈([cg,bE,aZ]:ae),t=.w x)
def BJ:cf:=dR 1 λg Q=>∃d:List Tk,g=[.ak .f (d.map cz)]/\fM d/\d.length<=60/\(∀p a b c q,d=p++a::b::c::q->lU p a b c q->Q (.ak .o ((p++.e false::q).map cz)))/\(¬ kQ d->Q (.ak .f (d.map cz)))
theorem Dx(T:Tx w K mg){z:Bool}:aB P w K mg base bq 4 T.oW.a T.oW.d ["_law_some"] (bx K z 0 1 BJ):=by
 refine b0 T.oW.F L1 rfl ∎ λaR A outer s H E hr hu B=>?_
 refine⟨_,(aO (qG (zz T.o8 (aq (qD (cA dk dt T.cY (aq (qv 0) aI)) aE) aI)) (i2 1) (aO (HV (dX (qv 0) (cS (qv 1)) (cS (bG (qv 1) aE))) (IE (n:=3) rfl (nQ (i2 2) (nQ (i2 3) (nQ (i2 4) Gd)))))
  (aO (bp 5 (qP (fB HF GR (bG (qv 1) aE) (cA dk dt T.cY (aq (qv 0) aI))) (kd (fB g8 gR (b7 (qv 0) (bG (qv 1) aE)) aC))))
  (aO (bI (QW.t (fI (bc bY bW (qv 3) aC) (fI (bc g8 gR (qv 2) aE) (fI (eE (qc T.jT (nG T) (aq (qv 2) aI))) (fI (eE (qc T.jT (nG T) (aq (qv 4) aI))) (jD (eE (qv 5)))))))) (aN (br (bG (bG (dX (qv 0) eG (cS (qv 1))) (cF (aq aE aI))) (dX (qv 0) (cS (bG (qv 1) aE)) eG)))) bX)
  (aO (bI (QW.t (fI (bc bY bW (qv 2) aC) (fI (eE (qc T.jT (nG T) (aq (qv 3) aI))) (fI (bc bY bW (qv 4) aC) (jD (QW.t (e9 (bc bY bW (qv 1) aE) (gk (bc mv mf (b7 (qv 0) (qD (qv 1) aE)) (cF (aq aE aI))))))))))) (aN (br (bG (bG (dX (qv 0) eG (cS (qv 1))) (cF (aq aE aI))) (dX (qv 0) (cS (bG (qv 1) aE)) eG)))) bX)
  (aO (bp 6 (qP (fB bY bW (qv 1) aE) (kd (fB mv mf (b7 (qv 0) (qD (qv 1) aE)) (cF (aq aC (aq aC (aq aC aI))))))))
  (aN (bI (QW.t (fI (bc lG k9 (qv 3) (cF (aq aC (aq aC aI)))) (fI (eE (qc T.jT (nG T) (aq (qv 2) aI))) (fI (eE (qc T.jT (nG T) (aq (qv 4) aI))) (fI (eE (qv 5)) (jD (eE (qv 6)))))))) (aN (br (bG (bG (dX (qv 0) eG (cS (qv 1))) (cF (aq aE aI))) (dX (qv 0) (cS (bG (qv 1) aE)) eG)))) bX))))))))
  (aN (br (qv 0)))),?_⟩
 rintro xs Q' _ ⟨_,u,rfl,h1,θ,q1,q2⟩;rw[show u.map cz=↥u from rfl];rfl';refine⟨⋯,⋯,Loop.map _ _ (λi j=>∃a b c d e g:Tr,j=[.ak .f ↥u,a,b,c,d,e,g]/\∀p a b c q,u=p++a::b::c::q->p.length<i->¬ lU p a b c q) ⟨_,_,_,_,_,_,rfl,λp _ _ _ _ _ h=>absurd h (not_lt_zero _)⟩ ?_ ?_⟩;rotate_left
 .rintro j ⟨_,_,_,_,_,_,rfl,h⟩;rfl';refine q2 (λz=>?_) _;let⟨p,a,b,c,q,e,r⟩:=z;refine h p a b c q e ?_ r;have:=congrArg List.length e;rw[length_append,length_cons,length_cons,length_cons] at this;rw[length_range];omega
 rintro i k j hi ⟨x1,x2,x3,x4,x5,x6,rfl,ζ⟩;let⟨ε,rfl⟩:=List.getElem?_eq_some_iff.mp hi;rw[length_range] at ε;rw[List.getElem_range];obtain⟨p,a,b,c,r,v,lp⟩:∃p a b c r,u=p++a::b::c::r/\p.length=i:=by
  refine⟨u.take i,u[i]'⋯,u[i+1]'⋯,u[i+2]'⋯,u.drop (i+3),?_,by rw[length_take];omega⟩;rw[<- drop_eq_getElem_cons,<- drop_eq_getElem_cons,<- drop_eq_getElem_cons,List.take_append_drop]
 have only:∀I L M O Q,u=I++L::M::O::Q->I.length=i->I=p/\L=a/\M=b/\O=c/\Q=r:=λI L M O Q e l=>by
  rw[v] at e;let⟨e1,e2⟩:=List.append_inj e ⋯;injection e2 with e2 e3
  injection e3 with e3 e4
  injection e4 with e4 e5
  exact⟨e1.symm,e2.symm,e3.symm,e4.symm,e5.symm⟩
 have α:u.length=i+3+r.length:=by rw[v,length_append,length_cons,length_cons,length_cons];omega
 have qg:dQ u (some (i:Int)) (some ((i:Int)+3))=[a,b,c]:=by
  unfold dQ;rw[show ((i:Int)+3)=((i+3:Nat):Int) from rfl,HT.bQ,HT.bQ,min_eq_left ⋯,min_eq_left ⋯,show i+3 - i=3 by omega,v,<- lp,List.drop_left];rfl
 have D:dQ u none (some (i:Int))=p:=by rw[zx,v,<- lp,List.take_left]
 have G:dQ u (some ((i:Int)+3)) none=r:=by
  rw[show ((i:Int)+3)=((i+3:Nat):Int) from rfl,zy,v,show i+3=(p++[a,b,c]).length by rw[length_append];simp;omega,show p++a::b::c::r=(p++[a,b,c])++r by simp,List.drop_left]
 have ret:∀{j:ai},lU p a b c r->(↥p++[Tr.int 1]).length+r.length<=1000000/\dC (↥p++[Tr.int 1]++↥r)=true/\Q' (.ak .o (↥p++[Tr.int 1]++↥r)) j:=λ{j} h=>by
  rw[length_append,length_map];have k:=q1 p a b c r v h j;rw[map_append,map_cons] at k;have e:↥p++[Tr.int 1]++↥r=(p++.e false::r).map cz:=by rw[map_append,append_assoc];rfl
  refine⟨by show p.length+1+r.length<=_;omega,by rw[e];exact Ik _,?_⟩;rw[append_assoc];exact k
 have lw:fM [a]/\fM [b]/\fM [c]:=by
  have mm:∀t,t∈[a,b,c]->fM [t]:=λt m x J=>h1 x (by rw[mem_singleton.mp J,v];exact mem_append_right _ (by simp at m ⊢;rcases m with rfl |rfl |rfl<;>simp))
  exact⟨mm a (by simp),mm b (by simp),mm c (by simp)⟩
 have η:u[i+3]?=r.head?:=by rw[v,getElem?_append_right ⋯,show i+3 - p.length=3 by omega];cases r<;>rfl
 have δ:∀{t:Tk},p.getLast?=some t->¬ i=0/\cN u ((i:Int) - 1)=some t:=λ{t} h=>by
  have h0:i≠0:=λz=>by rw[z] at lp;rw[List.length_eq_zero_iff.mp lp] at h;cases h
  refine⟨h0,?_⟩;rw[show (i:Int) - 1=((i - 1:Nat):Int) by omega,gZ u ⋯ ⋯];have e:u[i - 1]?=some t:=by
   rw[v,getElem?_append_left ⋯,<- lp,<- List.getLast?_eq_getElem?];exact h
  rw[<- e];exact (List.getElem?_eq_getElem _).symm
 have γ:p.getLast?=none↔i=0:=by rw[List.getLast?_eq_none_iff,<- List.length_eq_zero_iff,lp]
 refine qT (λj=>j=[.ak .f ↥u,.int i,av.t a,av.t b,av.t c,x5,x6]) (λN B=>?_) ?_
 .rfl';rw[qg];rfl';exact B _ rfl
 rintro j rfl;refine qT (λj=>j=[.ak .f ↥u,.int i,av.t a,av.t b,av.t c,.bl (ju r),x6]) (λN B=>?_) ?_
 .rfl';cases r with
  |nil=>
   rw[if_pos (decide_eq_true (by rw[α];simp))];exact B _ rfl
  |cons t r=>
   rw[length_cons] at α;rw[if_neg (λz=>by have:=of_decide_eq_true z;omega),show ((i:Int)+3)=((i+3:Nat):Int) from rfl,gZ u ⋯ ⋯];have e:u[((i+3:Nat):Int).toNat]'⋯=t:=by
    have:u[i+3]?=some t:=η;exact (List.getElem?_eq_some_iff.mp this).2
   rw[map_some,gY,e];refine eqT ?_;rfl';refine B _ ?_;unfold ju;rw[List.head?_cons,show decide (some t=some (Tk.w cg))=decide (t=.w cg) from decide_eq_decide.mpr ⟨λh=>by injection h,λh=>by rw[h]⟩]
 rintro j rfl;have bare:ju r=true↔gI r:=by
  unfold ju gI;rw[Bool.not_eq_true',decide_eq_false_iff_not]
 refine qT (λj=>j=[.ak .f ↥u,.int i,av.t a,av.t b,av.t c,.bl (ju r),x6]/\¬ (b=.w cg/\(∃x,a=.w x/\df x=true)/\eZ c=true/\gI r)) (λN B=>?_) ?_
 .rfl';refine eqT ?_;rfl';by_cases C:b=.w cg;rotate_left
  .rw[if_neg (λz=>C (of_decide_eq_true z))];exact B _ ⟨rfl,λz=>C z.1⟩
  rw[if_pos (decide_eq_true C)];refine eq1 ?_;rfl';cases a with
  |e d=>
   refine (if_neg (λz=>by cases z)).mpr (B _ ⟨rfl,λz=>?_⟩);let⟨x,J,_⟩:=z.2.1;cases J
  |w x=>
   refine (if_pos rfl).mpr ⟨rfl,.w x,rfl,lw.1,λj=>?_⟩;dsimp only[cU];cases J:eZ (.w x) with
   |false=>
    refine (if_neg ∎).mpr (B _ ⟨rfl,λz=>?_⟩);let⟨y,hy,hn⟩:=z.2.1;rw[hy] at J;exact absurd (show df y=false from J) (by rw[hn];decide)
   |true=>
    refine (if_pos rfl).mpr ⟨rfl,c,rfl,lw.2.2,λj=>?_⟩;dsimp only[cU];cases hc:eZ c with
    |false=>exact (if_neg ∎).mpr (B _ ⟨rfl,λz=>by rw[z.2.2.1] at hc;cases hc⟩)
    |true=>
     refine (if_pos rfl).mpr ?_;cases hb:ju r with
     |false=>exact (if_neg ∎).mpr (B _ ⟨by rw[hb],λz=>by rw[bare.mpr z.2.2.2] at hb;cases hb⟩)
     |true=>
      refine (if_pos rfl).mpr ?_
      try rfl'
      rw[D,G];exact⟨⋯,ret ⟨.inl ⟨C,⟨x,rfl,J⟩,hc,bare.mp hb⟩⟩⟩
 rintro j ⟨rfl,n1⟩;refine qT (λj=>j=[.ak .f ↥u,.int i,av.t a,av.t b,av.t c,.bl (ju r),x6]/\¬ (a=.w eD/\eZ b=true/\c=.w eU/\∀d,¬ p.getLast?=some (.e d))) (λN B=>?_) ?_
 .rfl';refine eqT ?_;rfl';by_cases C:a=.w eD;rotate_left
  .rw[if_neg (λz=>C (of_decide_eq_true z))];exact B _ ⟨rfl,λz=>C z.1⟩
  rw[if_pos (decide_eq_true C)];refine⟨rfl,b,rfl,lw.2.1,λj=>?_⟩;dsimp only[cU];cases hb:eZ b with
  |false=>exact (if_neg ∎).mpr (B _ ⟨rfl,λz=>by rw[z.2.1] at hb;cases hb⟩)
  |true=>
   refine (if_pos rfl).mpr (eqT ?_);rfl';by_cases Y:c=.w eU;rotate_left
   .rw[if_neg (λz=>Y (of_decide_eq_true z))];exact B _ ⟨rfl,λz=>Y z.2.2.1⟩
   rw[if_pos (decide_eq_true Y)];cases hp:p.getLast? with
   |none=>
    rw[if_pos (decide_eq_true (by have:=γ.mp hp;omega))];rw[D,G];exact⟨⋯,ret ⟨.inr (.inl ⟨C,hb,Y,λd z=>by rw[hp] at z;cases z⟩)⟩⟩
   |some t=>
    let⟨i0,e⟩:=δ hp;rw[if_neg (λz=>i0 (by have:=of_decide_eq_true z;omega)),e,map_some,gY];refine IU ?_;rfl';cases t with
    |e d=>exact (if_neg (λz=>by cases z)).mpr (B _ ⟨rfl,λz=>z.2.2.2 d hp⟩)
    |w x=>
     rw[D,G];exact (if_pos rfl).mpr ⟨⋯,ret ⟨.inr (.inl ⟨C,hb,Y,λd z=>by rw[hp] at z;cases z⟩)⟩⟩
 rintro j ⟨rfl,n2⟩;refine qT (λj=>j=[.ak .f ↥u,.int i,av.t a,av.t b,av.t c,.bl (ju r),.bl (ma p)]) (λN B=>?_) ?_
 .rfl';cases hp:p.getLast? with
  |none=>
   rw[if_pos (decide_eq_true (by have:=γ.mp hp;omega))];exact B _ (by unfold ma;rw[hp])
  |some t=>
   let⟨i0,e⟩:=δ hp;rw[if_neg (λz=>i0 (by have:=of_decide_eq_true z;omega)),e,map_some,gY,show [Tr.str (Str.ofString "times"),Tr.str (Str.ofString "and"),Tr.str (Str.ofString "less")]=([cg,bE,aZ]:ae).map av.t from rfl];refine ur ?_;rfl';exact B _ (by unfold ma;rw[hp])
 rintro j rfl;have U:ma p=true↔∀o,o=cg\/o=bE\/o=aZ->¬ p.getLast?=some (.w o):=by
  unfold ma;cases hp:p.getLast? with
  |none=>exact⟨(λ_ o _ z=>by cases z),λ_=>rfl⟩
  |some t=>
   dsimp only;rw[Bool.not_eq_true',decide_eq_false_iff_not];constructor
   .intro h o ho z;injection z with z
    exact h ⟨o,by rcases ho with rfl |rfl |rfl<;>simp,z⟩
   .rintro h ⟨o,m,e⟩;refine h o ?_ (by rw[e]);simpa using m
 rfl';rw[show [Tr.str (Str.ofString "and"),Tr.str (Str.ofString "less")]=([bE,aZ]:ae).map av.t from rfl];refine ur ?_;rfl';have β:(∃x∈([bE,aZ]:ae),b=.w x)↔b=.w bE\/b=.w aZ:=by
  constructor
  .rintro⟨x,m,e⟩;have:x=bE\/x=aZ:=by simpa using m
   rcases this with rfl |rfl
   .exact .inl e
   .exact .inr e
  .rintro (e |e)
   .exact⟨_,by simp,e⟩
   .exact⟨_,by simp,e⟩
 have go:¬ ((b=.w bE\/b=.w aZ)/\eZ a=true/\eZ c=true/\gI r/\∀o,o=cg\/o=bE\/o=aZ->¬ p.getLast?=some (.w o))->∃a1 b1 C d1 e1 g1:Tr,[Tr.ak .f ↥u,.int i,av.t a,av.t b,av.t c,.bl (ju r),.bl (ma p)]=[.ak .f ↥u,a1,b1,C,d1,e1,g1]/\∀p a b c q,u=p++a::b::c::q->p.length<i+1->¬ lU p a b c q:=λn3=>by
  refine⟨_,_,_,_,_,_,rfl,λI L M O Q e l h=>?_⟩;rcases lt_or_ge I.length i with h' |h'
  .exact ζ I L M O Q e h' h
  .obtain⟨rfl,rfl,rfl,rfl,rfl⟩:=only I L M O Q e ⋯;rcases h.h with h |h |h
   .exact n1 h
   .exact n2 h
   .exact n3 h
 by_cases C:∃x∈([bE,aZ]:ae),b=.w x;rotate_left
 .rw[if_neg (λz=>C (of_decide_eq_true z))];exact go λz=>C (β.mpr z.1)
 rw[if_pos (decide_eq_true C)];refine⟨rfl,a,rfl,lw.1,λj=>?_⟩;dsimp only[cU];cases ha:eZ a with
 |false=>exact (if_neg ∎).mpr (go λz=>by rw[z.2.1] at ha;cases ha)
 |true=>
  refine (if_pos rfl).mpr ⟨rfl,c,rfl,lw.2.2,λj=>?_⟩;dsimp only[cU];cases hc:eZ c with
  |false=>exact (if_neg ∎).mpr (go λz=>by rw[z.2.2.1] at hc;cases hc)
  |true=>
   refine (if_pos rfl).mpr ?_;cases hb:ju r with
   |false=>
    have:=go λz=>by rw[bare.mpr z.2.2.2.1] at hb;cases hb
    rw[hb] at this;exact (if_neg ∎).mpr this
   |true=>
    refine (if_pos rfl).mpr ?_;cases hp:ma p with
    |false=>
     have:=go λz=>by rw[U.mpr z.2.2.2.2] at hp;cases hp
     rw[hb,hp] at this;exact (if_neg ∎).mpr this
    |true=>
     refine (if_pos rfl).mpr ?_
     try rfl'
     rw[D,G];exact⟨⋯,ret ⟨.inr (.inr ⟨β.mp C,ha,hc,bare.mp hb,U.mp hp⟩)⟩⟩
def iy(f:List Tk->Bool):cf:=dR 1 λb Q=>∃a:List Tk,b=[.ak .f (a.map cz)]/\fM a/\a.length<=60/\Q (.bl (f a))
theorem U6{p:List Tk}{a b c:Tk}{q:List Tk}(h:fM (p++a::b::c::q)):fM (p++.e false::q):=λx m=>h x (by
 rcases mem_append.mp m with m |m
 .exact mem_append_left _ m
 .rcases mem_cons.mp m with m |m
  .cases m
  .exact mem_append_right _ (.tail _ (.tail _ (.tail _ m))))
def Ak(a us:List Tk):Prop:=(us=a/\¬ kQ a)\/(us.length<a.length/\fM us/\af us .E 0=af a .E 0)
theorem Hz{d:List Tk}(g:fM d)(i:d.length<=60){Q:Tr->aG}(q:∀(us:List Tk)(f:Fl),(f=.o\/f=.f)->Ak d us->∀j,Q (.ak f ↥us) j):BJ [.ak .f ↥d] Q:=by
 refine⟨rfl,d,rfl,g,i,λp a b c r e h=>?_,λh=>q d .f (.inr rfl) (.inl ⟨rfl,h⟩)⟩;refine q _ .o (.inl rfl) (.inr ⟨?_,by rw[e] at g;exact U6 g,by rw[e];exact (h.af false .E 0).symm⟩);rw[e];simp
theorem DS(T:Tx w K mg){z:Bool}:aB P w K mg base bq 5 T.oX.a T.oX.d ["_law_some"] (bx K z 0 1 (iy λb=>af b .E 0)):=by
 refine b0 T.oX.F MN rfl ∎ λaR A outer s H E L M J=>?_
 refine⟨_,(aO (bp 1 (qc T.oW (Dx T) (aq (qv 0) aI)))
  (aO (nZ (bc iZ iT (cA dk dt T.cY (aq (qv 1) aI)) (cA dk dt T.cY (aq (qv 0) aI))) (aO (bp 0 (qv 1))
  (aN (bp 1 (qc T.oW (Dx T) (aq (qv 0) aI))))))
  (aN (br (qE (fB bY bW (cA dk dt T.cY (aq (qv 0) aI)) aE) (kd (qc T.jT (nG T) (aq (b7 (qv 0) aE) aI)))))))),?_⟩
 rintro N x _ ⟨_,b,rfl,u,g,q⟩;rw[show b.map cz=↥b from rfl];rfl';refine Hz u g λus f v C j=>?_
 have k:∀{us:List Tk}{f:Fl},f=.o\/f=.f->b8 (.ak f ↥us)=true/\Pu.aU (.ak f ↥us)=.ak .f ↥us:=λ{us f} h=>by
  rcases h with rfl |rfl
  .exact⟨by rw[xT];exact ly us,by rw[Eb,HH]⟩
  .exact⟨xV,E1⟩
 try dsimp only
 rw[(k v).2];refine⟨(k v).1,λm j=>∃vs us:List Tk,j=[.ak .f ↥vs,.ak .f ↥us]/\fM vs/\vs.length<=60/\af vs .E 0=af b .E 0/\Ak vs us/\m=vs.length,⟨_,b,us,rfl,u,g,rfl,C,rfl⟩,?_⟩;rintro m j ⟨vs,us,rfl,y,I,p,e,rfl⟩;rfl';rcases e with⟨rfl,e⟩ |⟨e,r,B⟩
 .rw[if_neg (λz=>by have:=of_decide_eq_true z;omega)];have n:af us .E 0=(decide (us.length=1)&&(us.head?.map eZ).getD false):=by
   rw[Bool.eq_iff_iff,VR e,and_eq_true];constructor
   .rintro⟨t,rfl,ht⟩;exact⟨rfl,ht⟩
   .rintro⟨e1,e2⟩;let⟨t,rfl⟩:=List.length_eq_one_iff.mp (of_decide_eq_true e1);exact⟨t,rfl,e2⟩
  have q:∀j,x (.bl (af b .E 0)) j:=q
  rw[<- p,n] at q;by_cases c:us.length=1
  .obtain⟨t,rfl⟩:=List.length_eq_one_iff.mp c;rw[if_pos (decide_eq_true (by simp))];refine uw _ _ t (gZ [t] ∎ (by simp)) ?_
   try rfl'
   exact⟨rfl,t,rfl,y,λj=>⟨rfl,q _⟩⟩
  .rw[if_neg (λz=>c (by have:=of_decide_eq_true z;omega))];rw[decide_eq_false c] at q;exact q _
 .rw[if_pos (decide_eq_true ⋯)];refine Hz r ⋯ λD G i l j=>?_
  try dsimp only
  rw[(k i).2];exact⟨(k i).1,us.length,e,us,D,rfl,r,⋯,B.trans p,l,rfl⟩
theorem Lr{neg:Bool}{f g:Fl}{a:List Tk}{Q:ar}(q:Q (.bl (if neg=true then !decide (a=[]) else decide (a=[])))):gs neg (.ak f (a.map cz)) (.ak g []) Q:=by
 have b:eM (a.map cz)=0:=by
  clear q
  induction a with
  |nil=>rfl
  |cons t a c=>show max (dep (cz t)) (eM (a.map cz))=0;rw[c];cases t<;>rfl
 refine .inr ⟨decide (a=[]),?_,?_,Nat.succ_le_succ (zero_le _),q⟩
 .cases a<;>rfl
 .show eM (a.map cz)+1<=60;rw[b];decide
theorem IV{n:Nat}{Q:ar}(q:Q (.bl (!decide (n=2\/n=3)))):kC true (.int n) (.ak .o [.int 2,.int 3]) Q:=by
 refine⟨rfl,rfl,?_⟩;have e:i6 (.int n) [.int 2,.int 3]=decide (n=2\/n=3):=by
  show ((2:Int) == (n:Int) || ((3:Int) == (n:Int) || false))=_;rw[Bool.or_false,Bool.eq_iff_iff,Bool.or_eq_true,beq_iff_eq,beq_iff_eq,decide_eq_true_eq];omega
 rw[e];exact q
theorem Il(t:Tk):decide (∃x∈(["hand","strong","fair","faint"]:ae),t=.w x)=kA t:=by
 cases t with
 |e d=>exact decide_eq_false (λ⟨_,_,h⟩=>by cases h)
 |w y=>
  show _=decide (y∈dD.tail);exact decide_eq_decide.mpr ⟨λ⟨x,m,h⟩=>by injection h with h;rw[h];exact m,λh=>⟨y,h,rfl⟩⟩
theorem NC(T:Tx w K mg){z:Bool}:aB P w K mg base bq 5 T.rN.a T.rN.d ["_law_some"] (bx K z 0 1 (iy jM)):=by
 refine b0 T.rN.F Ny rfl ∎ λaR A outer s H E o D C=>?_
 refine⟨_,(aO (bI (bc bY bW (qv 0) (cF aI)) (aN (br i1)) bX)
  (aO (bI (QW.t (e9 (bc g8 gR (b7 (qv 0) aE) aC) (e9 (bc mv mf (cA dk dt T.cY (aq (qv 0) aI)) (cF (aq aE (aq aE aI)))) (gk (bc mv mf (b7 (qv 0) aE) (cF (aq aC (aq aC (aq aC (aq aC aI)))))))))) (aN (br i1)) bX)
  (aN (br (qP (fB bY bW (cA dk dt T.cY (aq (qv 0) aI)) aE) (kd (Uv lz k8 lz k8 aE (qc T.ni (xn T) (aq (gG Ep E9 T.o9 (aq (b7 (qv 0) aE) aI)) (aq aE aI))) (XO aE aE)))))))),?_⟩
 rintro G m _ ⟨_,g,rfl,u,v,q⟩;rfl';refine Lr ?_;rfl';cases g with
 |nil=>exact q _
 |cons a g=>
 rw[decide_eq_false (λz=>by cases z),if_neg ∎];refine n8 (i:=0) rfl rfl (eqT ?_);rfl';have B:(!decide (a=Tk.w (Str.ofString "by")))=cH a:=rfl;rw[B];have no:jM (a::g)=false->∀y,m (.bl false) y:=λh=>by rw[h] at q;exact q
 cases hb:cH a with
 |true=>
  refine (if_pos rfl).mpr (no ?_ _);cases g with
  |nil=>rfl
  |cons b g=>cases g with
   |nil=>rw[uY,hb];rfl
   |cons c g=>cases g with
    |nil=>rw[rb,hb];rfl
    |cons _ _=>rfl
 |false=>
 refine (if_neg ∎).mpr (IV ?_);rfl';cases g with
 |nil=>exact no rfl _
 |cons b g=>
 have o:[Tr.str (Str.ofString "hand"),Tr.str (Str.ofString "strong"),Tr.str (Str.ofString "fair"),Tr.str (Str.ofString "faint")]=(["hand","strong","fair","faint"]:ae).map av.t:=rfl;cases g with
 |nil=>
  refine (if_neg (by simp)).mpr (n8 (i:=1) rfl rfl ?_);rw[o];refine ur ?_;rfl';rw[Il];rw[uY,hb] at q;cases hk:kA b with
  |false=>rw[hk] at q;exact q _
  |true=>rw[hk] at q;exact q _
 |cons c g=>
 cases g with
 |cons d g=>
  refine (if_pos ?_).mpr (no rfl _);rw[decide_eq_false (λz=>by simp at z)];rfl
 |nil=>
  refine (if_neg (by simp)).mpr (n8 (i:=1) rfl rfl ?_);rw[o];refine ur ?_;rfl';rw[Il];rw[rb,hb] at q no;cases hk:kA b with
  |false=>rw[hk] at q;exact q _
  |true=>
  rw[hk] at q no;refine (if_neg ∎).mpr ((if_neg (λz=>absurd (of_decide_eq_true z) ∎)).mpr ?_);have l:∀x:Str,x.length<=20000->ri c=(whole 7 x.cps.toList&&(decide (2<=vl x.cps.toList)&&decide (vl x.cps.toList<=1000000)))->CA [.str x,.int 7] λt _=>gf (λ_ _=>True) (λi j=>Tr.bl (decide (i<=j))) (.int 2) t λz=>cU z λr=>if r=true then wC 10 6/\gf (λ_ _=>True) (λi j=>Tr.bl (decide (i<=j))) t (.int (10 ^ Int.toNat 6)) λt=>ck t=true/\m t [.ak .f [cz a,cz b,cz c]] else m (.bl false) [.ak .f [cz a,cz b,cz c]]:=λx p k=>by
   obtain⟨L,rfl⟩:∃L,x=tx L:=⟨_,(gz x).symm⟩;rw[b6] at p;rw[dy] at k;rw[k] at q;refine⟨rfl,L,7,rfl,p,le_refl _,λy=>?_⟩;dsimp only;refine⟨trivial,?_⟩;dsimp only[cU];cases k:whole 7 L with
   |false=>
    rw[k] at q;have e:jb 7 L=-1:=by unfold jb;rw[k];rfl
    rw[e];exact (if_neg ∎).mpr (q _)
   |true=>
    rw[k] at q;rw[tO k];by_cases n:2<=vl L
    .rw[decide_eq_true n] at q;refine (if_pos (decide_eq_true ⋯)).mpr ⟨⟨∎,∎,∎⟩,trivial,rfl,?_⟩;have e:decide ((vl L:Int)<=10 ^ Int.toNat 6)=decide (vl L<=1000000):=decide_eq_decide.mpr (by rw[show ((10:Int) ^ Int.toNat 6)=1000000 from rfl];omega);dsimp only;rw[e];exact q _
    .rw[decide_eq_false n] at q;exact (if_neg (λz=>n (by have:=of_decide_eq_true z;omega))).mpr (q _)
  cases c with
  |e d=>
   rw[show cz (.e d)=.int 1 from rfl,Fe];refine⟨∎,l _ (by walk_at "k") ?_⟩;show false=_;decide +kernel
  |w x=>
   rw[show cz (.w x)=.str x from rfl,Ff];exact l x (u x (.tail _ (.tail _ (.head _)))) rfl
def KI(f:ae->Bool):cf:=dR 1 λb Q=>∃(a:Fl)(W:ae),Fp a/\b=[.ak a ↥W]/\iI W/\Q (.bl (f W))
theorem ze(W:ae):∀(n p:Nat),W.length - p<=n->(tk W p).length<=W.length - p
 |0,p,h=>by rw[g6 ⋯];exact zero_le _
 |n + 1,p,h=>by
  by_cases a:W.length<=p
  .rw[g6 a];exact zero_le _
  .cases he:fh W p with
   |true=>
    have:=ze W n (p+3) ⋯;have:=qy he;rw[i3 he,length_cons];omega
   |false=>
    have:=ze W n (p+1) ⋯;rw[iF ⋯ he,length_cons];omega
theorem zf{W:ae}(a:iI W):∀(n p:Nat),W.length - p<=n->fM (tk W p)
 |0,p,h=>by rw[g6 ⋯];exact λ_ m=>nomatch m
 |n + 1,p,h=>by
  by_cases b:W.length<=p
  .rw[g6 b];exact λ_ m=>nomatch m
  .cases he:fh W p with
   |true=>
    rw[i3 he];intro x m;rcases mem_cons.mp m with m |m
    .cases m
    .exact zf a n (p+3) ⋯ x m
   |false=>
    rw[iF ⋯ he];intro x m;rcases mem_cons.mp m with m |m
    .injection m with m
     rw[m];have:=ll a p;unfold iq;split
     .decide
     .exact this
    .exact zf a n (p+1) ⋯ x m
theorem FF{c:List Tk}:∀{n k:Nat},(∀j,k<=j->j<k+n->vb c j=none)->lJ c n k=false
 |0,_,_=>rfl
 |n + 1,k,h=>by
  show (match vb c k with |some e=>ik c k e |none=>lJ c n (k+1))=_;rw[h k (le_refl _) ⋯];exact FF λj a b=>h j ⋯ ⋯
theorem HB(a:List Tk)(n:Nat)(z:Str):ku (((a.drop n).take 1).map av.t) z=decide (a[n]?=some (.w z)):=by
 rcases lt_or_ge n a.length with h |h
 .rw[drop_eq_getElem_cons h,List.getElem?_eq_getElem h];show ku [cz a[n]] z=_;cases e:a[n] with
  |e d=>exact (decide_eq_false (λh=>by cases h)).symm
  |w x=>exact decide_eq_decide.mpr ⟨λh=>by rw[h],λh=>by injection h with h;injection h⟩
 .rw[drop_of_length_le h,getElem?_eq_none h];exact (decide_eq_false (λh=>by cases h)).symm
theorem atT{a:List Tk}{n:Nat}{t:Tk}{Q:ar}(h:a[n]?=some t)(q:Q (cz t)):oQ ((cN a (n:Int)).map av.t) Q:=by
 have b:=(List.getElem?_eq_some_iff.mp h).1;rw[gZ a ⋯ ⋯,show a[(n:Int).toNat]'⋯=t from (List.getElem?_eq_some_iff.mp h).2];exact q
theorem RS(a:List Tk):(↥a).all iP=true:=by
 rw[all_eq_true];intro x m;let⟨t,_,rfl⟩:=mem_map.mp m;exact yD t
theorem yS{f:List Tk->Bool}{a:List Tk}(b:fM a)(c:a.length<=60){Q:Tr->aG}(q:∀j,Q (.bl (f a)) j):iy f [.ak .f ↥a] Q:=⟨rfl,a,rfl,b,c,q⟩
theorem ND(T:Tx w K mg){z:Bool}:aB P w K mg base bq 6 T.rO.a T.rO.d ["_law_words"] (bx K z 0 1 (KI jt)):=by
 refine b0 T.rO.F Nz rfl ∎ λaR A outer s H E hr hu L=>?_
 refine⟨_,(aO (bp 1 (qc T.rM (NJ T) (aq (qv 0) aI)))
  (aO (qG (zz T.o8 (aq (cA dk dt T.cY (aq (qv 1) aI)) aI)) (i2 2) (aO (bp 3 (bG (qv 2) aE))
  (aO (bI (QW.t (fI (bc bY bW (b7 (qv 1) (qv 2)) aC) (jD (bc WZ Vx (dX (qv 1) (cS (bG (qv 2) aE)) (cS (bG (qv 2) aE))) (cF (aq (cF (aq aC aI)) (aq (cF (aq aC aI)) aI))))))) (aN (bp 3 (bG (qv 2) aE))) bX)
  (aN (bI (QW.t (e9 (bc bY bW (b7 (qv 1) (qv 2)) aC) (gk (bc bY bW (qv 3) (bG (qv 2) aE))))) (aO (bp 4 (qv 3))
  (aO (nZ (QW.t (fI (bc iZ iT (qv 4) (cA dk dt T.cY (aq (qv 1) aI))) (jD (bc g8 gR (b7 (qv 1) (qv 4)) aC)))) (aN (bp 4 (bG (qv 4) aE))))
  (aN (br (qE (qc T.oX (DS T) (aq (dX (qv 1) eG (cS (qv 2))) aI)) (qE (qc T.oX (DS T) (aq (dX (qv 1) (cS (qv 3)) (cS (qv 4))) aI)) (kd (qc T.rN (NC T) (aq (dX (qv 1) (cS (qv 4)) eG) aI))))))))) bX)))))
  (aN (br i1)))),?_⟩
 rintro xs Q' _ ⟨_,f,W,_,rfl,hw,q⟩;rfl';refine⟨rfl,f,W,‹Fp f›,rfl,hw,λy=>?_⟩;have β:(tk W 0).length<=60:=le_trans (ze W 60 0 (by have:=hw.1;omega)) (by have:=hw.1;omega);have hk:fM (tk W 0):=zf hw 60 0 (by have:=hw.1;omega);unfold jt at q;rw[show (tk W 0).map cz=(tk W 0).map av.t from rfl];generalize tk W 0=g at q β hk;rfl';refine⟨⋯,⋯,Loop.map _ _ (λi y=>∃a b c:Tr,y=[.ak f ↥W,.ak .f ↥g,a,b,c]/\∀j,j<i->vb g j=none) ⟨_,_,_,rfl,λj h=>absurd h (not_lt_zero _)⟩ ?_ ?_⟩;rotate_left
 .rintro y ⟨a,b,c,rfl,h⟩;rfl';rw[FF λj _ hj=>h j (by rw[length_range];omega)] at q;exact q _
 rintro i k y hi ⟨x1,x2,x3,rfl,Y⟩;let⟨γ,rfl⟩:=List.getElem?_eq_some_iff.mp hi;rw[length_range] at γ;rw[List.getElem_range];have δ:i<g.length:=⋯
 obtain⟨t,ht⟩:∃t,g[i]?=some t:=⟨_,List.getElem?_eq_getElem δ⟩;walk_at "q";refine join (λy=>∃e:Nat,y=[.ak f ↥W,.ak .f ↥g,.int i,.int e,x3]/\((e=i+2/\t=.w "at"/\(g[i+1]?=some (.w "least")\/g[i+1]?=some (.w "most")))\/(e=i+1/\¬ (t=.w "at"/\(g[i+1]?=some (.w "least")\/g[i+1]?=some (.w "most")))))) (λN L=>?_) ?_
 .rfl';refine atT ht (eqT ?_);rfl';by_cases v:t=.w "at";rotate_left
  .rw[if_neg (λz=>v (of_decide_eq_true z))];exact L _ ⟨i+1,rfl,.inr ⟨rfl,λz=>v z.1⟩⟩
  rw[if_pos (decide_eq_true v),show ((i:Int)+1)=((i+1:Nat):Int) from rfl,show ((i:Int)+2)=((i+1+1:Nat):Int) from rfl,GI];refine⟨RS _,["least","most"],rfl,?_⟩;dsimp only[cU];have e:(["least","most"]:ae).any (λz=>ku (((g.drop (i+1)).take 1).map av.t) z)=decide (g[i+1]?=some (.w "least")\/g[i+1]?=some (.w "most")):=by
   show (ku _ _ || (ku _ _ || false))=_;rw[HB,HB,Bool.or_false,Bool.decide_or]
  rw[e];split
  .rename_i c;exact L _ ⟨i+2,rfl,.inl ⟨rfl,v,of_decide_eq_true c⟩⟩
  .rename_i c;exact L _ ⟨i+1,rfl,.inr ⟨rfl,λz=>c (decide_eq_true z.2)⟩⟩
 rintro y ⟨e,rfl,he⟩;have ε:(¬ t=.w "is"/\¬ e=i+2)->∃a b c:Tr,[Tr.ak f ↥W,.ak .f ↥g,.int i,.int e,x3]=[.ak f ↥W,.ak .f ↥g,a,b,c]/\∀j,j<i+1->vb g j=none:=λh=>by
  refine⟨_,_,_,rfl,λj hj=>?_⟩;rcases lt_or_ge j i with h' |h'
  .exact Y j h'
  .have:j=i:=⋯
   subst this;unfold vb;rw[ht,if_neg (λz=>h.1 (by injection z)),if_neg (λz=>?_)];rcases he with⟨B,_⟩ |⟨_,M⟩
   .exact h.2 B
   .exact M ⟨by have:=z.1;injection this,z.2⟩
 have α:(t=.w "is"\/e=i+2)->vb g i=some e:=λh=>by
  unfold vb;rw[ht];by_cases c:t=.w "is"
  .rw[if_pos (by rw[c])];rcases he with⟨_,M,_⟩ |⟨B,_⟩
   .rw[M] at c;exact absurd c (by walk_at "k")
   .rw[B]
  .rw[if_neg (λz=>c (by injection z))];rcases he with⟨B,M,e3⟩ |⟨B,_⟩
   .rw[if_pos ⟨by rw[M],e3⟩,B]
   .rcases h with h |h
    .exact absurd h c
    .omega
 walk_at "q";refine join (λy=>y=[.ak f ↥W,.ak .f ↥g,.int i,.int e,x3]/\¬ t=.w "is"/\¬ e=i+2) (λN L=>?_) ?_;rotate_left
 .rintro y ⟨rfl,h⟩;exact ε h
 have C:vb g i=some e->∀D:Pd,D.rt=Q'->wO (sA (pT (p2 u3 (c9 4) (pB (pN (Md.base z).z) (gT (c9 1) gD)))) (pT (p2 (gs true) (p2 jY (c9 1) (c9 4)) (pC (Tr.str (Str.ofString "by")))))) (pG 4 (p2 l5 (c9 4) (pC (Tr.int 1))))
   { D with nx:=kS (jV (iA (iy λg=>af g Sx.E 0) (gU (gT (iH (c9 1) kz (gO (c9 2))) gD))) (jV (iA (iy λg=>af g Sx.E 0) (gU (gT (iH (c9 1) (gO (c9 3)) (gO (c9 4))) gD))) (iA (iy jM) (gU (gT (iH (c9 1) (gO (c9 4)) kz) gD))))) D } [.ak f ↥W,.ak .f ↥g,.int i,.int e,.int e]:=λhv D hD=>by
  have u:∀y,Q' (.bl (ik g i e)) y:=by
   rw[zd hv (zero_le _) ⋯ λj _ hj=>Y j hj] at q;exact q
  have o:=List.takeWhile_append_dropWhile (p:=cH) (l:=g.drop e);have ζ:=zw (g.drop e);unfold ik at u;have hR:∀t r,(g.drop e).dropWhile cH=t::r->cH t=false:=λt r h=>by
   have hh:=List.head?_dropWhile_not (p:=cH) (l:=g.drop e);rw[h] at hh;simpa using hh
  have hT:∀x∈(g.drop e).takeWhile cH,cH x=true:=λx m=>all_eq_true.mp List.all_takeWhile x m
  generalize (g.drop e).takeWhile cH=U at o u hT;generalize (g.drop e).dropWhile cH=R at o u hR;have J:=congrArg List.length o;rw[length_append,length_drop] at J;have el:e<=g.length:=by
   rcases he with⟨B,_,e3⟩ |⟨B,_⟩
   .have:i+1<g.length:=by rcases e3 with h |h<;>exact (List.getElem?_eq_some_iff.mp h).1
    omega
   .omega
  refine⟨λm y=>∃n:Nat,y=[.ak f ↥W,.ak .f ↥g,.int i,.int e,.int ((e+n:Nat):Int)]/\n<=U.length/\m=U.length - n,⟨_,0,rfl,zero_le _,rfl⟩,?_⟩;rintro m y ⟨n,rfl,hn,rfl⟩;have at_:g[e+n]?=(U++R)[n]?:=by rw[o,List.getElem?_drop]
  have O:n=U.length->kS (jV (iA (iy λg=>af g Sx.E 0) (gU (gT (iH (c9 1) kz (gO (c9 2))) gD))) (jV (iA (iy λg=>af g Sx.E 0) (gU (gT (iH (c9 1) (gO (c9 3)) (gO (c9 4))) gD))) (iA (iy jM) (gU (gT (iH (c9 1) (gO (c9 4)) kz) gD))))) D [.ak f ↥W,.ak .f ↥g,.int i,.int e,.int ((e+n:Nat):Int)]:=λQ=>by
   have k1:dQ g none (some (i:Int))=g.take i:=zx g i;have k2:dQ g (some (e:Int)) (some ((e+n:Nat):Int))=U:=by
    unfold dQ;rw[HT.bQ,HT.bQ,min_eq_left ⋯,min_eq_left ⋯,<- o,Q,show e+U.length - e=U.length by omega,List.take_left]
   have k3:dQ g (some ((e+n:Nat):Int)) none=R:=by rw[zy,<- List.drop_drop,<- o,Q,List.drop_left]
   have s1:fM (g.take i):=λx m=>hk x (List.mem_of_mem_take m)
   have s2:fM U:=λx m=>hk x (List.mem_of_mem_drop (by rw[<- o];exact mem_append_left _ m))
   have s3:fM R:=λx m=>hk x (List.mem_of_mem_drop (by rw[<- o];exact mem_append_right _ m))
   rfl';rw[k1,k2,k3,hD];refine yS s1 (by rw[length_take];omega) λy=>?_
   rfl';cases h1:af (g.take i) .E 0 with
   |false=>rw[h1] at u;exact (if_neg ∎).mpr (u _)
   |true=>
    rw[h1] at u;refine (if_pos rfl).mpr (yS s2 ⋯ λy=>?_);rfl';cases h2:af U .E 0 with
    |false=>rw[h2] at u;exact (if_neg ∎).mpr (u _)
    |true=>
     rw[h2] at u;exact (if_pos rfl).mpr (yS s3 ⋯ λy=>⟨rfl,u _⟩)
  rcases lt_or_ge n U.length with h |h
  .rfl';rw[if_pos (decide_eq_true ⋯)];have hu:g[e+n]?=some U[n]:=by rw[at_,getElem?_append_left h,List.getElem?_eq_getElem h]
   refine atT hu (eqT ?_);rfl';have:=hT U[n] (getElem_mem h);unfold cH at this;rw[if_pos this];exact⟨U.length - (n+1),⋯,n+1,rfl,⋯,rfl⟩
  .have Q:n=U.length:=⋯
   have I:=O Q;generalize kS (jV (iA (iy λg=>af g Sx.E 0) (gU (gT (iH (c9 1) kz (gO (c9 2))) gD))) (jV (iA (iy λg=>af g Sx.E 0) (gU (gT (iH (c9 1) (gO (c9 3)) (gO (c9 4))) gD))) (iA (iy jM) (gU (gT (iH (c9 1) (gO (c9 4)) kz) gD))))) D=G at I ⊢;rfl';cases R with
   |nil=>
    rw[length_nil] at J;rw[if_neg (λz=>by have:=of_decide_eq_true z;omega)];exact I
   |cons t r=>
    rw[length_cons] at J;rw[if_pos (decide_eq_true ⋯)];have hu:g[e+n]?=some t:=by rw[at_,Q,getElem?_append_right (le_refl _),Nat.sub_self];rfl
    refine atT hu (eqT ?_);rfl';have:=hR t r rfl;unfold cH at this;rw[this];exact (if_neg ∎).mpr I
 rfl';refine atT ht (eqT ?_);rfl';by_cases v:t=.w "is"
 .rw[if_pos (decide_eq_true v)];exact C (α (.inl v)) _ rfl
 rw[if_neg (λz=>v (of_decide_eq_true z))];by_cases c2:e=i+2
 .rw[if_pos (decide_eq_true ⋯)];exact C (α (.inr c2)) _ rfl
 .rw[if_neg (λz=>c2 (by have:=of_decide_eq_true z;omega))];exact L _ ⟨rfl,v,c2⟩
theorem GJ(l:List Bool):∀ks:List Bool,ks.Nodup->(l.foldl fL ks).Nodup/\∀b,b∈l.foldl fL ks↔b∈ks\/b∈l:=by
 induction l with
 |nil=>exact λks h=>⟨h,λb=>by simp⟩
 |cons c l j=>
  intro ks h;have a:(fL ks c).Nodup/\∀b,b∈fL ks c↔b∈ks\/b=c:=by
   unfold fL;split
   .rename_i m;exact⟨h,λb=>⟨.inl,λz=>z.elim id λe=>by rw[e];exact m⟩⟩
   .rename_i m;refine⟨?_,λb=>by simp⟩;rw[nodup_append];exact⟨h,by simp,λx g y i e=>m (by rw[mem_singleton.mp i] at e;rw[<- e];exact g)⟩
  let⟨d,f⟩:=j _ a.1;refine⟨d,λb=>?_⟩;rw[foldl_cons,f,a.2,mem_cons,or_assoc]
theorem U7(l:List Bool):decide (((l.foldl fL []).length:Int)=2)=decide (true∈l/\false∈l):=by
 let⟨n,m⟩:=GJ l [] List.nodup_nil;have m:∀b,b∈l.foldl fL []↔b∈l:=λb=>by rw[m];simp
 refine decide_eq_decide.mpr ?_;rw[<- m,<- m];clear m;generalize l.foldl fL []=a at n;cases a with
 |nil=>simp
 |cons x a=>cases a with
  |nil=>cases x<;>simp
  |cons y a=>cases a with
   |nil=>cases x<;>cases y<;>simp at n ⊢
   |cons z a=>cases x<;>cases y<;>cases z<;>simp at n
theorem U8(l:List Bool):(l.foldl fL []).length<10:=by
 let⟨n,_⟩:=GJ l [] List.nodup_nil;generalize l.foldl fL []=a at n;cases a with
 |nil=>decide
 |cons x a=>cases a with
  |nil=>show 1<10;decide
  |cons y a=>cases a with
   |nil=>show 2<10;decide
   |cons z a=>cases x<;>cases y<;>cases z<;>simp at n
theorem Yb(W:ae):rj (.ak .f ↥W):=λK F B p v c h=>by
 let⟨m,a,vs,n,d,g⟩:=h;refine⟨m,a,vs,n,d,?_⟩;clear d
 induction W generalizing vs with
 |nil=>exact g
 |cons x W o=>
  let⟨u,r,i,q,j,k,l,b⟩:=g;have e:=List.append_eq_nil_iff.mp k.symm;rw[e.2] at b;exact⟨u,r,i,[],j,by rw[e.1];rfl,l,o r b⟩
theorem LR(T:Tx w K mg){z:Bool}:aB P w K mg base bq 2 T.rP.a T.rP.d ["_law_words"] (bx K z 0 1 (dR 1 λxs Q=>∃W:ae,xs=[.ak .f ↥W]/\iI W/\Q (.bl (decide (true∈fA (tk W 0)/\false∈fA (tk W 0)))))):=by
 refine b0 T.rP.F LF rfl ∎ λaR A outer s H E v x n=>?_
 refine⟨_,(X0 1 (bp 2 aE) (bc iZ iT (qv 2) (cA dk dt T.cY (aq (qv 0) aI))) (W7 (eE (qc T.oV (Dw T) (aq (qv 0) (aq (qv 2) aI)))) (VC 1 (fB lG k9 (b7 (qv 0) (qv 2)) (cF (aq aC (aq aC (aq aC (aq aC (aq aC aI))))))) (zK (aN (bp 2 (bG (qv 2) aE)))) (λ_ h=>h) (lu rfl (by first |exact Or.inl rfl |exact Or.inr (Or.inl rfl) |exact Or.inr (Or.inr rfl)))) (zK bX) (zK (aN (bp 2 (bG (qv 2) aE))))) ∎ (λ_ h=>h) T.cY rfl PassesOwn.never (λh=>qw n rfl (Or.inl rfl) h) (lu rfl (by first |exact Or.inl rfl |exact Or.inr (Or.inl rfl) |exact Or.inr (Or.inr rfl)))),?_⟩;rintro xs r _ ⟨_,W,rfl,i,q⟩;intro a;rfl';have o:=i.1;refine⟨λm k j=>∃(u:List Tk)(p:Nat),j=[.ak .f ↥W,.cl a,.int p]/\p<=62/\m=100 - p/\tk W 0=u++tk W p/\k=(fA u).foldl fL [],⟨100,[],0,rfl,∎,rfl,rfl,rfl⟩,?_⟩;rintro m k j ⟨u,p,rfl,lp,hm,c,rfl⟩;rfl';by_cases g:p<W.length;rotate_left
 .rw[if_neg (λz=>g (by have:=of_decide_eq_true z;omega))];have l:=g6 (W:=W) (p:=p) ⋯;rw[l,append_nil] at c;rw[c] at q;intro y;rw[U7];exact q _
 rw[if_pos (decide_eq_true ⋯)];refine⟨rfl,.f,W,p,inferInstance,rfl,g,i,λj=>?_⟩;dsimp only[cU];cases he:fh W p with
 |true=>
  have lt:=qy he;refine (if_pos rfl).mpr ⟨λt b=>?_,U8 _,?_⟩
  .rcases mem_cons.mp b with rfl |b
   .exact Yb W
   .rcases mem_cons.mp b with rfl |b
    .exact λ_ _ _ _ _ _ h=>h
    .rw[mem_singleton.mp b];exact λ_ _ _ _ _ _ h=>h
  .rw[pW g,map_some,gY,nW,show [Tr.str (Str.ofString "top"),Tr.str (Str.ofString "height"),Tr.str (Str.ofString "bottom"),Tr.str (Str.ofString "centre"),Tr.str (Str.ofString "drop")]=(["top","height","bottom","centre","drop"]:ae).map av.t from rfl];refine um ?_;refine⟨100 - (p+3),⋯,u++[.e (cB (ay W p))],p+3,rfl,⋯,rfl,by rw[c,i3 he];simp,?_⟩;rw[kZ,List.foldl_append];rfl
 |false=>
  refine (if_neg ∎).mpr ⟨100 - (p+1),⋯,u++[.w (iq (ay W p))],p+1,rfl,⋯,rfl,by rw[c,iF g he];simp,?_⟩;rw[kZ,List.foldl_append];rfl
def BV(T:Tx w K mg):cf:=dR 1 λc Q=>∃x:Str,c=[.str x]/\x.length<=20000/\(60<(bL x).length->Q (.str "refused"))/\((bL x).length<=60->match iR (bL x) [] with |.out=>False |.no=>Q (.str "refused") |.cm k a b r v=>if 1<(cI (cC a++cC b)).length then Q (.str "mixed") else Q (.str (fN ⟨k,a,b,r,v⟩)))
theorem NF(T:Tx w K mg):aB P w K mg base bq 142 T.rQ.a T.rQ.d ["_law_text_here"] (bx K true 0 1 (BV T)):=by
 refine b0 T.rQ.F rV rfl ∎ λaR A outer s H E I J G=>?_
 refine⟨_,(aO (bp 1 aC)
  (aO (WW (pe:=λq=>sG _ _ _ (rY q _ _) _) rfl rfl (R8 (i:=1) ∎) (λpn xe L h=>qw (i:=1) rV.nd rfl (Or.inl rfl) h) (λpn xe R n q=>(eK (Fi T) (uT T.ot (DQ T) (aq (qv 0) aI)))) (G9 (i:=2) rfl T.ir rV.nd ∎ rfl rfl (λv=>(aO (bp 3 (XA K rfl rfl T.nj rfl (aq (qv 2) (aq (qF (aq (jI T.vu) (aq (jI T.JD) (aq (jI T.JE) (aq (jI T.JF) (aq (jI T.JG) aI)))))) aI))))
  (aN (bp 1 (b7 (cF (aq aC (aq aC aI))) (gG xu xI T.jq (aq (qE (zB K T.nj (aq (qv 2) (aq (jI T.Ax) aI))) (kd (GW (qv 3)))) aI))))))) (G9 (i:=2) rfl T.vu rV.nd ∎ rfl rfl (λv=>(aN (bp 1 (b7 (cF (aq aC (aq aC aI))) (gG xu xI T.jq (aq (qE (zB K T.nj (aq (qv 2) (aq (jI T.Ax) aI))) (kd (GW (zB K T.nj (aq (qv 2) (aq (jI T.ir) aI)))))) aI)))))) UA)))
  (aN (br (qv 1))))),?_⟩
 rintro M c _ ⟨_,x,rfl,n,B,C⟩;rfl';refine (λ(f:∀(q:ag->Prop) (Q:Tr->aG),((∀j,c (.str "refused") j)->q (.ref T.acv))->((∀j,c (.str "mixed") j)->q (.ref T.acy))->(∀k a b r v,Wi.ok ⟨k,a,b,r,v⟩->(∀j,c (.str (fN ⟨k,a,b,r,v⟩)) j)->∀j,Q (fH T .o ⟨k,a,b,r,v⟩) j)->BU T [.str x] Q q)=>f _ _ (λh=>?_) (λh=>?_) λk a b r v g h j=>?_) λq Q p D k3=>?_
 .refine .inl ⟨T.adc,_,rfl,[T.acy,T.acF,T.acH,T.acJ,T.acL],false,rfl,T.Av,T.J9,rfl,true,T.Av,T.JA,?_⟩;rfl';unfold Pd.less;dsimp only;rfl';exact h _
 .refine .inr ⟨T.Ka,.inl ⟨T.Kb,_,rfl,true,T.Aw,T.JB,?_⟩⟩;rfl';refine⟨false,T.Aw,T.J8,?_⟩;rfl';unfold Pd.less;dsimp only;rfl';exact h _
 .refine Gu T g.1 ?_;rw[z9];refine⟨rfl,_,_,rfl,g,λj=>?_⟩;rfl';exact h _
 .refine⟨rfl,x,rfl,n,λl=>p (B l),λl=>?_⟩;have fg:=FA (W:=bL x) l (GH x);have h:=C l;cases e:iR (bL x) [] with
  |out=>rw[e] at h;exact h
  |no=>rw[e] at h;exact p h
  |cm k a b r v=>
   rw[e] at h fg;dsimp only at h fg;let⟨u,y,z⟩:=FD fg l;refine⟨u,y,z,λm=>D (by rw[if_pos m] at h;exact h),λm=>?_⟩;rw[if_neg ⋯] at h;exact k3 k a b r v (FC fg l m).1 h
theorem U9(T:Tx w K mg){x:Str}(i:x.length<=20000){Q:Tr->aG}(c:(60<(bL x).length\/jt (bL x)=false)->∀j,Q (.str "refused") j)(f:(bL x).length<=60->jt (bL x)=true->(true∈fA (tk (bL x) 0)/\false∈fA (tk (bL x) 0))->∀j,Q (.str "mixed") j)(h:(bL x).length<=60->jt (bL x)=true->¬ (true∈fA (tk (bL x) 0)/\false∈fA (tk (bL x) 0))->∀k a b r v,sI (bL x) k a b r v->(cI (cC a++cC b)).length<=1->∀j,Q (.str (fN ⟨k,a,b,r,v⟩)) j):BV T [.str x] Q:=by
 refine⟨rfl,x,rfl,i,λl=>c (.inl l),λl=>?_⟩;have fg:=FA (W:=bL x) l (GH x);cases e:iR (bL x) [] with
 |out=>rw[e] at fg;exact fg
 |no=>rw[e] at fg;exact c (.inr fg)
 |cm k a b r v=>
  rw[e] at fg;dsimp only at fg ⊢;have tw:=RO (a:=a) (b:=b);rw[<- fg.d] at tw;split
  .rename_i m;exact f l fg.g (tw.mp m)
  .rename_i m;exact h l fg.g (λz=>m (tw.mpr z)) k a b r v fg ⋯
theorem bN.mem{u j:Type}[av j](f:List u)(g:u->Tr)(h:j->Prop){pg:eV}{pe:aW}{n:ai}{Q:ar}(v:f.length<=1000000)(step:∀y∈f,∀R:ar,(∀b:j,h b->R (av.t b))->pg (g y) n λs=>pe s R)(q:∀c:List j,c.length=f.length->(∀z∈c,h z)->Q (.ak .o ↥c)):bN (f.map g) pg pO pe n Q:=by
 refine⟨λi d=>∃c:List j,d=↥c/\c.length=min i f.length/\∀z∈c,h z,⟨[],rfl,by rw[length_nil];omega,λ_ m=>nomatch m⟩,λi t d e a=>?_,λd a=>?_⟩
 .rw[getElem?_map] at e;cases e':f[i]? with
  |none=>rw[e'] at e;cases e
  |some y=>
   rw[e'] at e;cases e;have l:=(List.getElem?_eq_some_iff.mp e').1;let⟨c,rfl,p,k⟩:=a;refine step y (mem_of_getElem? e') _ λb r=>⟨?_,c++[b],?_,?_,?_⟩
   .rw[length_map];omega
   .rw[map_append];rfl
   .rw[length_append,List.length_singleton];omega
   .intro z m;rcases mem_append.mp m with m |m
    .exact k z m
    .rw[mem_singleton.mp m];exact r
 .obtain⟨c,rfl,p,k⟩:=a;rw[length_map] at p ⊢;exact⟨⋯,q c ⋯ k⟩
theorem Va(b:Str)(d:ae):(Txt.join b d).length<=(d.map λy=>y.length+b.length).sum:=by
 cases d with
 |nil=>exact zero_le _
 |cons x r=>
  have g:∀(r:ae)(a:Array Nat),(r.foldl (λc p=>c++b.cps++p.cps) a).size=a.size+(r.map λy=>y.length+b.length).sum:=by
   intro r
   induction r with
   |nil=>intro a;rfl
   |cons y r e=>
    intro a;rw[foldl_cons,e,Array.size_append,Array.size_append,map_cons,sum_cons];show a.size+b.length+y.length+_=_;omega
  show (r.foldl (λc p=>c++b.cps++p.cps) x.cps).size<=_;rw[g r x.cps,map_cons,sum_cons];show x.length+_<=_;omega
theorem GK(x:Str)(k:Nat):∀n:Nat,((List.range n).map λ_=>x.length+k).sum=n*(x.length+k):=λn=>by
 rw[List.map_const',length_range,List.sum_replicate_nat]
def Km:cf:=dR 1 λa Q=>∃(f:Fl)(sc:d3),Fp f/\a=[.ak f ↥sc]/\∀x:Str,x.length<=1700->Q (.str x)
theorem qj{f:Fl}[Fp f]{sc:d3}{k:Int}(h:0<=k){Q:Tr->aG}(q:∀(c:Int) j,Q (.int c) j):BI [.ak f ↥sc,.int k] Q:=⟨rfl,f,sc,k,inferInstance,rfl,h,q⟩
theorem Gf{cs:d3}{d:Int}(hd:d=0\/d=1)(a:1<=cs.length)(b:cs.length<=4){Q:Tr->aG}(q:∀x:Str,x.length<=90->∀j,Q (.str x) j):nr 2 Cz 90 [.ak .f ↥cs,.int d] Q:=⟨rfl,⟨.f,cs,d,inferInstance,rfl,hd,a,b⟩,q⟩
theorem NG(T:Tx w K mg){z:Bool}:aB P w K mg base bq 4 T.rR.a T.rR.d ["_law_script"] (bx K z 0 1 Km):=by
 refine b0 T.rR.F NA rfl ∎ λaR A outer s H E hr l e=>?_
 refine⟨_,(aO (bp 1 (qc T.kJ (pZ T) (aq (qv 0) (aq aE aI))))
  (aO (bp 2 (d7 (qv 1) aE))
  (aO (bp 3 (qc T.oR (DN T) (aq (la ["_law_k","_law_script"] [none,some 0] (HU T.o8 (aq aE (aq (bG aE (d7 (dW (qv 1) aE) aE)) aI))) (lH 0) (λ_ _ _ _ _=>(qc T.kJ (pZ T) (aq (qv 1) (aq (qv 0) aI))))) (aq (qv 2) aI))))
  (aO (bp 4 (qc T.oR (DN T) (aq (la ["_law_k","_law_script"] [none,some 0] (HU T.o8 (aq aE (aq (bG aE (d7 (dW (qv 1) aE) aE)) aI))) (lH 0) (λ_ _ _ _ _=>(qc T.kJ (pZ T) (aq (qv 1) (aq (qv 0) aI))))) (aq (qv 2) aI))))
  (aO (bI (bc bY bW (d7 (dW (qv 1) aE) aE) aE) (aN (bp 3 (Ha aC (la ["_law_k","_law_near"] [none,some 3] (zz T.o8 (aq (bG aE (d7 (dW (qv 1) aE) aE)) aI)) (lH 0) (λ_ _ _ _ _=>(qv 1)))))) bX)
  (aO (bI (bc bY bW (d7 (dW (qv 1) aE) aE) aE) (aN (bp 4 (bG (bG (qv 4) aC) (qc T.oP (DM T) (aq (dW (qv 1) aE) (aq (qD aE (qv 2)) aI)))))) bX)
  (aO (bp 5 (qc T.kJ (pZ T) (aq (qv 0) (aq aE aI))))
  (aO (bp 6 (bG (bG (qv 3) (b7 (cF (aq aC (aq aC (aq aC aI)))) (d7 (qv 5) aE))) (qv 4)))
  (aO (bI (bc kn ke (d7 (dW (qv 5) aE) aE) aE) (aN (bp 6 (bG (bG (qv 6) aC) (b7 (cF (aq aC (aq aC (aq aC (aq aC (aq aC aI)))))) (d7 (dW (qv 5) aE) aE))))) bX)
  (aO (bI (bc bY bW (d7 (dW (qv 5) aE) aE) aE) (aN (bp 6 (bG (bG (qv 6) aC) (b7 (cF (aq aC (aq aC (aq aC (aq aC (aq aC (aq aC (aq aC (aq aC aI))))))))) (d7 (dW (qv 5) aE) aE))))) bX)
  (aN (br (qv 6))))))))))))),?_⟩
 rintro xs L _ ⟨_,f,sc,hf,rfl,q⟩;walk_at "q";refine qj ∎ λc j=>?_
 walk_at "q";have O:=gL c (k:=2);have Q:=hH c (k:=2);have hd:c % 2=0\/c % 2=1:=⋯
 have m0:=gL (c.fdiv 2) (k:=4);have m1:=hH (c.fdiv 2) (k:=4);have m2:=gL (c.fdiv 8) (k:=4);have m3:=hH (c.fdiv 8) (k:=4);refine⟨∎,⟨∎,eF ∎⟩,∎,⟨∎,∎,⋯,⋯⟩,bN.mem (List.range (2+c.fdiv 2 % 4 - 1).toNat) _ (λ_:Int=>True) (by rw[length_range];omega) (λn hn R g=>?_) λzs J _=>?_⟩
 .rfl';exact qj ⋯ λc j=>g c trivial
 rw[length_range] at J;walk_at "q";refine Gf hd ⋯ ⋯ λx D j=>?_
 walk_at "q";refine⟨⟨∎,eF ∎⟩,∎,⟨∎,∎,⋯,⋯⟩,bN.mem (List.range (6+c.fdiv 8 % 4 - 5).toNat) _ (λ_:Int=>True) (by rw[length_range];omega) (λn hn R g=>?_) λus I _=>?_⟩
 .rfl';exact qj ⋯ λc j=>g c trivial
 rw[length_range] at I;walk_at "q";refine Gf hd ⋯ ⋯ λy G j=>?_
 walk_at "q";refine join (λj=>∃x:Str,j=[.ak f ↥sc,.int c,.int (c % 2),.str x,.str y,.aL,.aL]/\x.length<=1520) (λN e=>?_) ?_
 .rfl';refine⟨⟨∎,eF ∎⟩,∎,?_⟩;split
  .have n0:=gL (c.fdiv 256) (k:=16);have n1:=hH (c.fdiv 256) (k:=16);have B:(Str.ofString " and ").length=5:=by walk_at "k"
   refine⟨⟨∎,eF ∎⟩,∎,⋯,⋯,bN.map (List.range (1+c.fdiv 256 % 16).toNat) _ (λ_=>x) (by rw[length_range];omega) (λn hn R g=>?_) ?_⟩
   .rfl';exact g
   .have b:=Va (Str.ofString " and ") ((List.range (1+c.fdiv 256 % 16).toNat).map λ_=>x);rw[map_map] at b;have p:=GK x (Str.ofString " and ").length (1+c.fdiv 256 % 16).toNat;have m:=GK x 0 (1+c.fdiv 256 % 16).toNat;have r:(1+c.fdiv 256 % 16).toNat*(x.length+(Str.ofString " and ").length)<=16*95:=Nat.mul_le_mul ⋯ ⋯;have M:(1+c.fdiv 256 % 16).toNat*(x.length+0)<=16*95:=Nat.mul_le_mul ⋯ ⋯;have i:(((List.range (1+c.fdiv 256 % 16).toNat).map λ_=>x).map (·.length)).sum=((List.range (1+c.fdiv 256 % 16).toNat).map λ_=>x.length+0).sum:=by rw[map_map];rfl
    refine⟨.o,_,rfl,?_,?_⟩
    .rw[i,m,length_map,length_range,B];omega
    .rfl';refine e _ ⟨_,rfl,le_trans b ?_⟩;show ((List.range (1+c.fdiv 256 % 16).toNat).map λ_=>x.length+(Str.ofString " and ").length).sum<=1520;rw[p];exact r
  .exact e _ ⟨x,rfl,⋯⟩
 rintro j ⟨x,rfl,D⟩;walk_at "q";refine join (λj=>∃y:Str,j=[.ak f ↥sc,.int c,.int (c % 2),.str x,.str y,.aL,.aL]/\y.length<=114) (λN e=>?_) ?_
 .rfl';refine⟨⟨∎,eF ∎⟩,∎,?_⟩;have Y:(Str.ofString " less ").length=6:=by walk_at "k"
  split
  .refine⟨⋯,⟨∎,eF ∎⟩,tN ⋯ λu l j=>?_⟩;rfl';exact⟨by rw[ba];omega,e _ ⟨_,rfl,by rw[ba,ba];omega⟩⟩
  .exact e _ ⟨y,rfl,⋯⟩
 rintro j ⟨y,rfl,G⟩;walk_at "q";refine qj ∎ λd j=>?_
 walk_at "q";refine⟨∎,ml (ns:=[" is "," at least "," at most "]) (gL _) (hH _) (n:=10) (by walk_at "k") λu l=>?_⟩;walk_at "q";refine⟨⋯,by rw[ba];omega,?_⟩;have h:(x++u++y).length<=1644:=by rw[ba,ba];omega
 generalize x++u++y=X at h;have U:(Str.ofString " by ").length=4:=by walk_at "k"
 have i:(Str.ofString " ").length=1:=by walk_at "k"
 refine join (λj=>∃X:Str,j=[.ak f ↥sc,.int c,.int (c % 2),.str x,.str y,.int d,.str X]/\X.length<=1654) (λN e=>?_) ?_
 .rfl';refine⟨⟨∎,eF ∎⟩,∎,?_⟩;split
  .refine⟨⋯,⟨∎,eF ∎⟩,∎,ml (ns:=["hand","strong","fair","faint","must"]) (gL _) (hH _) (n:=6) (by walk_at "k") λv C=>?_⟩;rfl';exact⟨by rw[ba];omega,e _ ⟨_,rfl,by rw[ba,ba];omega⟩⟩
  .exact e _ ⟨X,rfl,⋯⟩
 rintro j ⟨X,rfl,h⟩;walk_at "q";refine join (λj=>∃X:Str,j=[.ak f ↥sc,.int c,.int (c % 2),.str x,.str y,.int d,.str X]/\X.length<=1700) (λN e=>?_) ?_
 .rfl';refine⟨⟨∎,eF ∎⟩,∎,?_⟩;split
  .refine⟨⋯,⟨∎,eF ∎⟩,∎,ml (ns:=["2","1","1000000","1000001","0","02","77","3/2"]) (gL _) (hH _) (n:=7) (by walk_at "k") λv C=>?_⟩;rfl';exact⟨by rw[ba];omega,e _ ⟨_,rfl,by rw[ba,ba];omega⟩⟩
  .exact e _ ⟨X,rfl,⋯⟩
 rintro j ⟨X,rfl,h⟩;rfl';exact q X h _
def vR(K:ao):Sp:=λvs H Q _=>∃(a:ah)(ns:d3),vs=[.ref a]/\bM K H a (ns.map V.int)/\ns.length<=63/\∀b,Q (.bl true) b
def CB:cf:=dR 1 λa Q=>∃ns:d3,a=[.ak (.l false) ↥ns]/\ns.length<=63/\Q (.bl true)
theorem eI{K:ao}{F:Hp}{B:Bool->Hp}:∀ns:d3,Rs K F B ↥ns (ns.map V.int) []
 |[]=>⟨rfl,rfl⟩
 |n::ns=>⟨_,_,[],[],rfl,rfl,⟨rfl,rfl⟩,eI ns⟩
theorem Yp{K:ao}(vs:ax)(H:Hp)(Q:VK)(E:XK)(h:vR K vs H Q E):bx K true 0 1 CB vs H Q E:=by
 let⟨a,ns,rfl,b,d,k⟩:=h;refine⟨rfl,λ_=>none,H,[.ak (.l false) ↥ns],λ_=>[],λt _=>t=.bl true,λ_=>False,⟨?_,(λ_ _ _ _ z=>by cases z),rfl,?_,(λ_=>.nil),(λ_ _ m=>nomatch m),(λ_ _ _ _ m=>nomatch m),(λi h=>absurd h (not_lt_zero i)),λ_ _ _ _ z=>z.elim⟩,⟨rfl,ns,rfl,d,λ_=>rfl⟩,?_⟩
 .exact Gr.aH (λ_ _ z=>by cases z)
 .intro i t e;cases i with
  |zero=>cases e;exact .inr ⟨.ref a,rfl,rfl,a,_,rfl,b,eI ns⟩
  |succ i=>cases e
 .intro F' H' j' g' cs' v t c _ r _ _ _ _ e;subst e;rw[r.1];exact k _
theorem Yq{k:Nat}{a b:Tm}{r v:Int}:¬ fN ⟨k,a,b,r,v⟩∈(["none","refused","mixed","other"]:ae):=λm=>by
 have h:32∈(fN ⟨k,a,b,r,v⟩).cps.toList:=by
  show 32∈(txt a++" "++fG k++" "++txt b++gP r v).cps.toList;have e:∀x y:Str,(x++y).cps.toList=x.cps.toList++y.cps.toList:=λx y=>Array.toList_append
  rw[e,e,e,e,e];simp only[mem_append];exact .inl (.inl (.inl (.inl (.inr (by walk_at "k")))))
 have:fN ⟨k,a,b,r,v⟩="none"\/fN ⟨k,a,b,r,v⟩="refused"\/fN ⟨k,a,b,r,v⟩="mixed"\/fN ⟨k,a,b,r,v⟩="other":=by simpa using m
 rcases this with e |e |e |e<;>rw[e] at h<;>exact absurd h (by walk_at "k")
theorem Vb(T:Tx w K mg):aB P w K mg base bq 160 T.kL.a T.kL.d ["_law_script"] (bx K true 0 1 CB):=by
 refine b0 T.kL.F W9 rfl ∎ λaR A outer s H E U Y Q=>?_
 refine⟨_,(aO (bp 1 (qc T.rR (NG T) (aq (qv 0) aI)))
  (aO (qG (uI (dX (qv 0) (cS aE) (cS (bG aE (d7 (dW (qc T.kJ (pZ T) (aq (qv 0) (aq aE aI))) aE) aE))))) (i2 2) (aN (bp 1 (qc T.rL (Ms T) (aq (qv 1) (aq (qv 2) aI))))))
  (aO (bp 3 (tV (qv 1) aC ⟨rfl,rfl,rfl,rfl⟩))
  (aO (bp 4 (qc T.rQ (NF T) (aq (qv 1) aI)))
  (aO (bI (QW.t (e9 (bc kn ke (cA dk dt T.cY (aq (qv 3) aI)) aE) (gk (kc (eE (qc T.rO (ND T) (aq (qv 3) aI))))))) (aN (br (fB bY bW (qv 4) aC))) bX)
  (aO (bI (eE (qc T.rP (LR T) (aq (qv 3) aI))) (aN (br (fB bY bW (qv 4) aC))) bX)
  (aO (bI (bc lG k9 (qv 4) (cF (aq aC (aq aC (aq aC (aq aC aI)))))) (aN (br i1)) bX)
  (aN (br (fB bY bW (eK (Fi T) (uT T.ot (DQ T) (aq (qv 4) aI))) (qv 4))))))))))),?_⟩
 rintro xs O _ ⟨_,ns,rfl,J,q⟩;walk_at "q";refine⟨rfl,.l false,ns,inferInstance,rfl,λx e j=>?_⟩;walk_at "q";refine qj ∎ λc j=>?_
 walk_at "q";have N:=gL (c.fdiv 360) (k:=4);have m1:=hH (c.fdiv 360) (k:=4);refine⟨⟨∎,eF ∎⟩,∎,?_⟩;have M:(dQ ns (some 10) (some (10+c.fdiv 360 % 4))).length<=3:=by
  let⟨n,hn⟩:=Int.eq_ofNat_of_zero_le N;rw[hn,show (10:Int)+(n:Int)=((10+n:Nat):Int) by omega];unfold dQ;rw[show (10:Int)=((10:Nat):Int) from rfl,HT.bQ,HT.bQ,length_take];omega
 refine Loop.map _ _ (λi j=>∃(x:Str)(a:Tr),j=[.ak (.l false) ↥ns,.str x,a,.aL,.aL]/\x.length<=2 ^ i*1700+20*(2 ^ i - 1)) ⟨x,_,rfl,⋯⟩ ?_ ?_
 .rintro i y j g ⟨x,a,rfl,p⟩;have g:=(List.getElem?_eq_some_iff.mp g).1;have g:i=0\/i=1\/i=2:=⋯
  have o:x.length<=10000:=by rcases g with rfl |rfl |rfl<;>omega
  rfl';refine⟨rfl,x,y,rfl,o,λz hz j=>?_⟩;rfl';exact⟨_,_,rfl,by rcases g with rfl |rfl |rfl<;>omega⟩
 rintro j ⟨x,a,rfl,p⟩;have e:x.length<=20000:=by
  generalize (dQ ns (some 10) (some (10+c.fdiv 360 % 4))).length=i at p M;rcases (by omega:i=0\/i=1\/i=2\/i=3) with rfl |rfl |rfl |rfl<;>omega
 clear p;have I:Txt.split x (Str.ofString " ")=bL x:=by rw[uG];exact sV x 32
 have lW:=yw x;walk_at "q";rw[I];refine⟨by walk_at "k",⋯,⋯,?_⟩
 try walk_at "q"
 refine U9 T e (λh j=>?_) (λl m hm j=>?_) λl m hm k a b r v G u j=>?_
 .try rfl'
  rcases h with h |h
  .rw[if_pos (decide_eq_true ⋯)]
   try rfl'
   exact q _
  .by_cases l:60<(bL x).length
   .rw[if_pos (decide_eq_true ⋯)]
    try rfl'
    exact q _
   .rw[if_neg (λz=>l (by have:=of_decide_eq_true z;omega))];refine⟨rfl,.f,bL x,inferInstance,rfl,nK ⋯ e,λj=>?_⟩;dsimp only;rw[h]
    try rfl'
    exact q _
 .try rfl'
  rw[if_neg (λz=>by have:=of_decide_eq_true z;omega)];refine⟨rfl,.f,bL x,inferInstance,rfl,nK l e,λj=>?_⟩;dsimp only;rw[m]
  try rfl'
  refine⟨rfl,bL x,rfl,nK l e,λj=>?_⟩;dsimp only;rw[decide_eq_true hm]
  try rfl'
  exact q _
 .obtain⟨o1,o2,o3,o4⟩:=FC G l u;let⟨B,C,D⟩:=FD G l;have ne:=Yq (k:=k) (a:=a) (b:=b) (r:=r) (v:=v);generalize L:fN ⟨k,a,b,r,v⟩=X at o2 o3 o4 ne
  try rfl'
  rw[if_neg (λz=>by have:=of_decide_eq_true z;omega)];refine⟨rfl,.f,bL x,inferInstance,rfl,nK l e,λj=>?_⟩;dsimp only;rw[m]
  try rfl'
  refine⟨rfl,bL x,rfl,nK l e,λj=>?_⟩;dsimp only;rw[decide_eq_false hm]
  try rfl'
  rw[show [Tr.str (Str.ofString "none"),Tr.str (Str.ofString "refused"),Tr.str (Str.ofString "mixed"),Tr.str (Str.ofString "other")]=(["none","refused","mixed","other"]:ae).map av.t from rfl];refine um ?_
  try rfl'
  rw[decide_eq_false ne];refine (if_neg ∎).mpr ⟨rfl,X,rfl,o2,λz=>absurd o3 ⋯,λ_=>?_⟩;rw[o4];refine⟨B,C,D,λz=>absurd u ⋯,λ_ j=>?_⟩;refine Gu T o1.1 ?_;rw[z9];refine⟨rfl,_,_,rfl,o1,λj=>?_⟩;rw[L]
  try rfl'
  exact q _
theorem Yr(T:Tx w K mg):aB P w K mg base bq 160 T.kL.a T.kL.d ["_law_script"] (vR K):=(Vb T).imp Yp
end
theorem walk{l:W.OpenLaw}{q:Program}{b:ae}{r:(bA)->aP->Prop}{o:World->aP->Prop}{d:DefRec}{K:Params->ao}(hn:l.most=some 63)(g:d.params.defaults=[])(j:d.name="law")(y:∀(w:World)(h:aP),o w h->(K w.params).In h)(F:∀(w:World)(mg:bA)(h:aP),(K w.params).In h->h.Ns mainGlobals mg->Nonempty (Tx w (K w.params) mg)):
  W.WalkO q b r o l.row.toRowW d [] (λf vs=>PySem.call f vs):=by
 refine L2.kD (n:=63) (k:=160) (x:="_law_script") (CX:=λ_=>bq) (sp:=λw=>vR (K w.params)) hn ∎ g ⟨rfl,∎,∎⟩ y ?_ (λ_ _ a ns B _ u=>⟨a,ns,rfl,u,B,λ_=>rfl⟩) λ_ _ _ _ _ z=>z
 intro w mg C h p G c;let⟨T⟩:=F w mg h p G;rw[j] at c;have e:=c.symm.trans T.kL.m;cases e;refine⟨T.kL.d,λs v=>?_,λbase _ _=>Yr T⟩;let⟨oc,od,kV,doc,pm,an,aR,ct,osl,i,D,A⟩:=T.kL.F.ex;rw[i];exact .of_eq rfl
end Sf
structure PySem.W.Fast:Prop where(tw7845253087466247478 tw7991978110655890131 tw17869005640439860741 tw7156549357653530691 tw9367296450847514239 tw14139457419023302535 tw13331683113854935657 tw11921962894394357290 tw16030937452768548193 tw6900739237865066368 tw8450968546177311492 tw1983229458555102803 tw13590595783760567848 tw16875384809052756051 tw6861489376272599532 tw12672070713916787632 tw8963777904476495312 tw6614609944281183805 tw12850034907022085924 tw10125731286757826539 tw10332076261964005707 tw17201462516060033798 tw352259460912230334 tw3417862064337905263 tw16197352797795018738 tw9019311106319998552 tw7333393884322492587 tw1817234649407384263 tw4079987874356103027 tw16558587762748764072 tw2056123506888803682 tw6484469243706365124 tw16543169600690167112 tw17489764946742624787 tw353108904681666143 tw8458856614982744436 tw2617780700527475870 tw11448883028705487973 tw15650006854225494034 tw6318900535796328419 tw2083534256298084095 tw6415766428413859760 tw198518843100934621 tw8647330842097527708 tw8639820451209267397 tw10704612798179163282 tw11255872380694066 tw8290439480565272081 tw1784872426661471477 tw7675916597644963664 tw10115030152469940124 tw2612374050703181934 tw11757723264116120031 tw3987431304368603070 tw15375670562550309311 tw16930300571931694163 tw8704572499242256016 tw1590542336730563992 tw2459046004564324138 tw1910315013928516603 tw12786392016106802073 tw8091535043198213852 tw11074918967964017766 tw9660183153175975296 tw16861634137712042900 tw16050070865394712177 tw13103439110569835939 tw227856301184260120 tw11213284928049401776 tw4959325434882869861 tw14716666834075371946 tw3254495732113008127 tw899485259436870693 tw17605719152734024897 tw10080709346974474878 tw891142514093281462 tw9825727550363674510 tw9756409414741893172 tw12607072208586810248 tw11738849071277925569 tw13229104804476685862 tw160404453368862467 tw5447513057962397471 tw9421362442441588380 tw9766472629994697354 tw15477168220509654860 tw1289794769763336754 tw813933175503059824 tw593564718723505911 tw951142048020703359 tw7187658000411262359 tw9510205171522291112 tw3814436357856037014 tw12529975935823837154 tw5451500779684417521 tw1501379852469106631 tw2737201412785481346 tw9097916505107855426 tw14053142046377734657 tw14085794262001562224 tw18054361757146842765 tw3191449849708379222 tw13954708052635656934 tw4303846346610480306 tw5592491757718079191 tw14401800689156777492 tw8787008827415996464 tw15188695671126810331 tw3410856844880461021 tw16198316894676823104 tw1526548471517294274 tw3788729851110775463 tw13198678845110885913 tw11915062863536115784 tw6924322259655564301 tw2301513869764979867 tw272555423857126898 tw1380723787459673522 tw4544774705200248068 tw17194032324708385606 tw14669354880843638255 tw2035858865208352336 tw5847811998550029018 tw6575870637524826660 tw5062210735657748594 tw9565699052590652525 tw16013168793723623906 tw10476246804142062106 tw3059780840289853188 tw7240872213326006484 tw17615165481853237439 tw12995658726423045879 tw11782174832487295142 tw15896801172768911890 tw13154192234537758343 tw4001681433488842281 tw13132414259714712607 tw9504084288322224100 tw17910632356373233515 tw2096776082762255338 tw14923652484178569116 tw8251657521407600235 tw7644521630663856932 tw2188064626223663093 tw15797686626005138366 tw6690514134565840045 tw11323437625676413209 tw6179881741687476307 tw10612287312615811602 tw15685540919928152218 tw2242177397596847600 tw17390290387037812398 tw16930436290107135544 tw15326699817612453232 tw10885265728863608385 tw8354419359370466533 tw6042305159155712110 tw10335010573536636821 tw16394886001182991816 tw3047868317261493789 tw15431667628386025865 tw15954407831422395590 tw1894625058697151104 tw11937765969747273091 tw14128033603467149858 tw11285743092710237518 tw12443896713520107650 tw8311126163175448882 tw17171220015847805424 tw6420664036312939172 tw3318212593965264434 tw2790383376022422145 tw4405554844225900114 tw10761740285741587421 tw14121312931131063362 tw10954651438179562203 tw7611141104991035054 tw12105556248543763129 tw9412058410561937313 tw15375988178001194906 tw3324009482872045333 tw11503090352112900226 tw15197914095257160198 tw10132820406477649451 tw11501509878796010958 tw11255970700026542861 tw6191212006559274144 tw11363717126462076773 tw15925137410967403192 tw15982310014631882484 tw1159035974114805105 tw14847639829627244791 tw12431963413158783205 tw11012060119222791290 tw11922376475371226853 tw12590497992837334244 tw9645718960848508458 tw6823213685445003096 tw986160331871397619 tw10908745099524702164 tw1677807978267973045 tw15836916589221007046 tw15336312482126195413 tw7217840655404119092 tw13641184185253819045 tw16359361726830485671 tw2170042500994013895 tw17361651546951818543 tw15459772276023750951 tw17593241910248438186 tw1370395536171706268 tw3795180118723098758 tw2869660063173615900 tw16386134408608441659 tw5675700207936503710 tw2052882119899830369 tw3412396353962683680 tw13311865852590124853 tw13522662682766544766 tw6286864616964517677 tw39431703366482439 tw7143371592776973556 tw6741456018582325469 tw14211457777213048804 tw12127936393682103406 tw14134142612785451084 tw13869421383282501449 tw11785713922686740778 tw4635000897865404338 tw13441059448109210638 tw11917346490982457990 tw15866538285929423376 tw2359450688099407497 tw3553441850905915422 tw17796750269654829835 tw7144595433761394167 tw8345810651503835659 tw15415442189385068565 tw15619099582750757255 tw16414238649240110217 tw9605157769956403623 tw12349330986496611226 tw9157567656276853150 tw493023483473986231 tw15329331767666609336 tw10066476464941031344 tw8391359408525869016 tw15119219610937739356 tw2969769783597790568 tw6737129643504491102 tw17160730982162057878 tw579575142621443012 tw14621981085142199234 tw16277841888787887669 tw17137159951959315152 tw6183068577168608118 tw14776566966534443027 tw8677938876398260246 tw10766417264902851148 tw10218173511664279987 tw10785343592289286944 tw13641790454693655249 tw7437500644847253829 tw8126982931592243268 tw8539473780671650350 tw10660718376541077453 tw8904130960847030271 tw18438819174946707905 tw2236212268892653520 tw18225548029057067840 tw13446322128099267844 tw8334863129517297109 tw16927305113363454068 tw2700261701873374080 tw7740775806203235125 tw13090122872179825168 tw2123152726334444562 tw17151834998084723850 tw13313034518705196214 tw8358815873107407822 tw8043955738264928079 tw1037411624432930382 tw14898555177531346776 tw3579403938122146568 tw10035533963409635414 tw9697746182370248109 tw18197464913418699884 tw1714800126855945515 tw15307617923161504565 tw13175848143424378483 tw8135593451311387996 tw4455786683285609459 tw2993780200842565082 tw13865830913689296305 tw1604457467193571473 tw8786760410012353323 tw14336006192879521881 tw12820715337931815661 tw16332201196277234284 tw14052912828318488390 tw14002137273705574120 tw3385735814564144304 tw1627777723806949693 tw8117237272822017670 tw17750877552728191865 tw8358367946953633815 tw14888567819316202120 tw12635896140835334591 tw16160138428970766880 tw11459540036583833977 tw785030469973586259 tw2267961833039752697 tw16727359895894762822 tw14418113442283061623 tw8107832321035718323 tw8596953434688379436 tw17251628436139631518 tw2497705973978646384 tw13728113783699345002 tw7315168103970581381 tw3221871253895523440 tw10768037382343542938 tw9686081982926229839 tw10085483884867509849 tw12231250065902234053 tw3312980418655541906 tw18351014276705031667 tw8773130677490811921 tw17850335809489620196 tw2976283444763099433 tw11029194140297689615 tw3482673179246136624 tw2020121112550487995 tw5763319554455043865 tw9001070954089951609 tw9437106273201306343 tw1537202418066784294 tw344043910101066828 tw14215463925324769889 tw2446368075652208088 tw5800696477464397000 tw1977258192681166586 tw7541236792811109065 tw4597221034204267715 tw7490630860722268819 tw13443331804748166111 tw11673709073406207201 tw14112602632993428085 tw946609057751978771 tw14054288298449373571 tw4599540729702269605 tw8142800526624053961 tw18373737906450129855 tw10971869168774407300 tw11554131329707904017 tw12436538465064347116 tw1876759838749974015 tw18210964642596855612 tw9217540573578907880 tw17723729572003635761 tw206624123399524356 tw9944190534499187402 tw4471494801640956154 tw16785412195031456401 tw2284824119536946374 tw2720861835982211366 tw1835355168796078979 tw9576400033318484114 tw13061855666009108080 tw11841383965203547221 tw8076471044751033550 tw17868872364087656672 tw14983700621236652874 tw5313326980643381851 tw13750484105121946236 tw200663653273068533 tw7820398300726721061 tw8212898679569728347 tw5807644942428035965 tw8468828008466120869 tw11939663082485750936 tw7265675002506214375 tw17465875777736467474 tw11834442699011305222 tw2387246343465372167 tw6503650883838032959 tw5927623670761201104 tw4777490785935594170 tw1316021476222143275 tw2368398883910292206 tw16530947370839741457 tw914286429372217581 tw4342277111719118139 tw6671783761920129985 tw5804123215692342879 tw6843319600671341583 tw10357307000437113159 tw10122443301284788654 tw1766621914411123768 tw8390850071253215184 tw10510601782403932250 tw6133952224285480696 tw17811570843351871121 tw9253681255477262486 tw8032526540152005232 tw3806210816219364811 tw16329173182226241148 tw7905211592297710394 tw10577188725014255544 tw3973064018427239589 tw14224544779548196665 tw17734427507653739380 tw3888721724043629251 tw7865845443600120164 tw13859792282584046499 tw6446282624518290217 tw5939365690852225681 tw1232860198525543758 tw4500277393034197959 tw8895380480231980063 tw12526876469776634735 tw9637259265213132242 tw15376491809163327449 tw7370829341958395039 tw15091193120640057810 tw2132371359698437832 tw7776122913118949272 tw17375484565994256919 tw653701531307983474 tw11971271031051202944 tw928563221208146001 tw18272058981326823770 tw17110144873193965014 tw675433181412304862 tw15957230814954181248 tw9330098503964238322 tw17536626519636500599 tw8183618581251410745 tw13098504986631449646 tw9011054216027717079 tw11859428546917139638 tw2224203810016318303 tw3787409954187928807 tw16158943371003482222 tw15871591980989544746 tw8466832015969950957 tw12649134037064358318 tw12996311661220435609 tw14549818833443596085 tw16776414110104149340 tw9640811811840271833 tw14039486999783069239 tw2316705833554525603 tw11547056762858904658 tw5709141248867393329 tw17457359074223807218 tw576234621907220597 tw16850595136379595359 tw6873843779533225094 tw3534682985101052929 tw15053255527582818905 tw6383680985103621647 tw3177249744389247007 tw12836506907471422089 tw18185586067813171673 tw18314952354000190585 tw4183710468344665541 tw9809624627801935385 tw6813205707832839206 tw17223578356537195160 tw11136517496562406672 tw13479846227121851553 tw16532520174261035049 tw4559450133220520490 tw18215237229798718097 tw6701358363706171763 tw12426723736090977750 tw8419309453021625254 tw661861262883819812 tw6648311607879134760 tw13452807984140161181 tw12999838850789552367 tw6874014734766784028 tw11259757378804275249 tw371052550289528731 tw7562583327889959824 tw9995569475671099227 tw11840914479744148405 tw16663680717525946116 tw2324561111736266235 tw2442442933604971823 tw13229327396037784236 tw13656466947239181599 tw14086137772826540153 tw9359664025001475607 tw14184474020373101694 tw17974686091635530381 tw8332434933275081058 tw3445892016877448563 tw2866008373656270159 tw13846700593547841101 tw4497306174172437380 tw12067714755458580691 tw12194018479007801966 tw17667840229948634516 tw5837281275058296689 tw16832057063443701569 tw8311637988857911080 tw14818370530354589423 tw3980788903552206989 tw820925710845761853 tw17499042666757080769 tw4284932252448027633 tw3519011792474928286 tw17363648846339036984 tw435853804840995934 tw7288992482894268931 tw5029126723097209831 tw275424874095858191 tw8119103894877105486 tw16069397189628293375 tw15185940679741947987 tw7807457888500789788 tw8330608044568459834 tw16152360383290765998 tw11506417368578638861 tw8046722701737232905 tw11973554716010253532 tw818694942762984160 tw15007556815867356191 tw10775711240828092934 tw1503658049489149424 tw5157111899676447939 tw8233675547364263979 tw14426369224912293234 tw5105056938553724893 tw6024483459286503443 tw8782173847663289910 tw15276256643977015099 tw12512737438130474411 tw6296146067453625172 tw6131582577502217553 tw1353637836654107455 tw1526456576252376807 tw5692639726953089793 tw11539314255126544347 tw10266573161737346915 tw4850121172898143600 tw8424062339578216420 tw10100843977794023894 tw9172126250495348784 tw9465717771392637469 tw8370319344994798344 tw4361049826586072521 tw2567400444527106053 tw3069111842575648079 tw15465962448446305404 tw4856064108498558946 tw13873724424498865776 tw4907873871388932393 tw10249103724359151442 tw16235418055831725104 tw7282548349345550408 tw16233820540490724808 tw1588082849026878169 tw7669822653944184520 tw11131477693611360359 tw10823051556930562925 tw10412349817105642158 tw12604772025105120901 tw2966492051393646267 tw10873160279539237911 tw1105563418625511920 tw16875475854506798330 tw11503919799349607746 tw12292788259720217362 tw4876461912072227000 tw9862215045930538163 tw7627624999499568880 tw10257646016498925070 tw8090317465675411356 tw15892201930763236926 tw13516673938179458563 tw1925787477378288415 tw352115539326425237 tw10179235900068673798 tw13233873357010558745 tw4741209192788458382 tw5346738760859186359 tw4250157319310329413 tw6279695025024234134 tw13249204645884720900 tw31801950249443778 tw2425847818155008521 tw872088150545049718 tw17911514724424623461 tw15675636160667331552 tw9805297827028216035 tw6183967231259471586 tw5429399446127098073 tw2709599850764692619 tw10148415471657016030 tw11583857020062312213 tw6566210878355918303 tw11048921936306767368 tw14497765326052273983 tw4147892784710413016 tw10701778723825101072 tw14436729429270982874 tw15259266399963502721 tw13370629541537343774 tw5668310487509960459 tw11108023165593628137 tw8563419896208353217 tw7203863705021976691 tw4813763867746013581 tw4810358709379939187 tw1658540316735571316 tw597349371429637919 tw13899496339361386759 tw2383795012005327665 tw16933065141607690019 tw5823555353781956295 tw4883420174091903227 tw5067643421800860084 tw16366655910489949232 tw204652526134880172 tw17801849204524980983 tw646243070328787102 tw15307094441862787703 tw7713360542661870967 tw10832039179031988098 tw6783774842769527355 tw8540483111943079920 tw11397044298930139404 tw5222213841554153952 tw11986858195705054945 tw8948129873309884548 tw11835653673865309189 tw4706765236613914746 tw11702689656049061773 tw10425108513056112784 tw15180634496455009207 tw12865000384877957091 tw9880371462075877156 tw15385944059858793365 tw17884287298984219185 tw7235481242881655886 tw18332460943961785237 tw488448230824360420 tw15520349441115495963 tw1909513131045713612 tw6697107774607711092 tw9355144461686836701 tw12972890067800711102 tw7611221558005169198 tw16952621022667904133 tw15252595685991061769 tw14066599357625826445 tw10987826416228090488 tw5739761004224015653 tw1320013432893466789 tw2542749929673345307 tw14914814919149575654 tw16616913488223953181 tw3243536318959821139 tw10594400926374598174 tw2115882130626138172 tw8259570295819992108 tw14598131171349870823 tw16719019609375040876 tw6457484491070931294 tw7955764774315771933 tw4965526177374005096 tw8391006817884351384 tw1528828454093041888 tw4047980362290255356 tw12802071615273001332 tw16481943660430899166 tw12795144603940522263 tw4823771299962906834 tw4536367938103560056 tw17218187954202534410 tw7708105833995537298 tw13932455318517318218 tw8504699546072967022 tw11854504794969342569 tw4202038706912145165 tw14147080480489093610 tw12774667253341862467 tw236779305427775771 tw1732530370904340712 tw17398695289085929669 tw14639704421719624671 tw2944363618569851776 tw8103446373471509357 tw15337309891041735753 tw7339694801891050581 tw2741321166825296493 tw997219455631809864:True)
open PySem PySem.W PyProof.Rows
local macro_rules |`(tactic|walk_at "b")=>`(tactic|first |exact λ_ _ _ _ _ _=>Pu.FG λ_=>rfl |exact λ_ _ _ _ _ _=>Pu.ln2 λ_ _=>rfl |exact λ_ _ _ _ _ _=>Pu.FH λ_ _ _=>rfl |exact λ_ _ _ _ _ _=>Pu.NO λ_ _ _ _ _=>rfl)
set_option maxRecDepth 100000 in
set_option maxHeartbeats 0 in
theorem PySem.Challenge.cw_springframe_k16_what_is_no_wish_holds : PySem.Challenge.rw_springframe_k16_what_is_no_wish.Holds := by
 w_on;o_law;k_head;(case hw=>w_witness2)
 k_fill
 refine Sf.walk (l:=PySem.Challenge.rw_springframe_k16_what_is_no_wish) rfl rfl rfl (λw h Y=>PySem.W.kIn_of Y) ?F
 case F=>
  intro w mg h KX G;refine⟨?_⟩;apply Sf.Tx.mk
  iterate 2 all_goals try first |exact Pu.K4 KX G (by k_is) (L2.mL (by k_is) (by k_is) (by k_is)) (by walk_at "b") |exact Pu.K6 (by k_is) (L2.mL (by k_is) (by k_is) (by k_is)) (by k_is) (by walk_at "b") |exact Pu.K5 (by k_is) (L2.mL (by k_is) (by k_is) (by k_is)) (by k_is) (by k_is) (by k_is) (by walk_at "b") |exact mg_of KX G (by k_is) |exact mg_none_of KX G (by k_is) |exact Pu.zq (by k_is) |exact L2.dF.mk (by k_is) (by k_is) (by k_is) (by k_is) |exact L2.dM.mk (by k_is) (by k_is) (by k_is) (by k_is) (by k_is) |exact⟨_,_,_,by k_is,rfl,rfl,Nat.le_of_ble_eq_true rfl,by repeat first |exact .nil |refine .cons ⟨_,rfl⟩ ?_⟩ |exact L2.fP.mk (L2.dF.mk (by k_is) (by k_is) (by k_is) (by k_is)) (by k_is) (by k_is) (by k_is) (by k_is) |exact Pu.Tb (by k_is) |exact Pu.yu (by k_is) (by k_is) (by k_is) (by rfl) |exact Pu.qN (by k_is) (by k_is) (by k_is) (by k_is) (by rfl) |exact Pu.qM KX G (by k_is) (by rfl) |k_is |kit_is |k_exc |kts_exm
#print axioms PySem.Challenge.cw_springframe_k16_what_is_no_wish_holds
