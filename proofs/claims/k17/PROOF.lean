import PyProof.Rows.All
import Wide.All
import OpenK.AllK
import Wide.FinOn
import Lean
import PyProof.EqAt
import PyProof.EqKinds
import PyProof.TupleCall
import PySem.Challenge.RW_springframe_k17_whole_wishes_of_texts
set_option Elab.async false
set_option linter.all false
set_option maxRecDepth 100000
open Nat (le_refl le_trans ne_of_lt lt_of_lt_of_le zero_le lt_irrefl le_succ lt_of_le_of_lt pow_add lt_succ_self le_of_lt not_succ_le_zero mul_le_mul ne_of_gt lt_or_ge)
open List (mem_append length_cons length_map mem_cons length_append mem_map map_cons size_toArray getElem?_map mem_cons_of_mem cons_append mem_singleton nil_append append_nil lookup_cons mem_cons_self length_set mem_append_right map_map nodup_cons map_append append_assoc mem_of_getElem? all_cons find?_cons any_cons getElem?_set_ne filterMap_cons take_length cons_ne_nil length_take getElem?_set_self mem_append_left length_nil foldl_cons nodup_append nodup_nil not_mem_nil not_lt mem_range getElem?_eq_none mem_filterMap map_congr_left flatMap_append length_filter_le all_eq_true take_add_one length_range all_map)
open Bool (and_eq_true false_eq_true)
open Array (getElem?_eq_getElem length_toList)
open Int (emod_nonneg emod_lt_of_pos natAbs_natCast natAbs_mul toNat_natCast mul_pos)
open Option (isSome_iff_exists map_some getD_some)
local macro_rules|`(tactic|omega)=>`(tactic|first|decide|lia)
abbrev ag:=List PySem.Str
abbrev aN:=List PySem.Value
abbrev aT:=List (PySem.Addr×PySem.Obj)
abbrev cW:=List Int
abbrev bI:=List (Option Nat)
abbrev bD:=PySem.Str->Option PySem.Value
abbrev bG:=Option PySem.Value
abbrev bE:=Option Int
abbrev bT:=List PySem.Expr
abbrev b7:=List PySem.Addr
abbrev bL:=Option PySem.Addr
abbrev dh:=Array PySem.Value
abbrev cz:=List PySem.Env
abbrev ak:=PySem.W.Frag
abbrev ai:=PySem.Shared
abbrev af:=PySem.Value
abbrev ae:=PySem.Addr
abbrev aP:=PySem.Heap
theorem autoR(_:0=0:=by rfl):True:=.intro
theorem autoD(_:0=0:=by decide):True:=.intro
def Ng(G:Prop):Prop:=G->False
theorem dN{G}(h:Ng G->False):G:=Classical.byContradiction h
local macro_rules|`(tactic|∎)=>do
 let z:=Lean.mkIdent `zzz
 `(tactic|first|(refine $z ?_;clear $z)|(refine dN ?_;intro $z:ident))
local macro_rules|`(tactic|let $p:term:=$e)=>do
 let k:=λx a=>Lean.Syntax.node .none (`Lean.Parser.Tactic++x) a
 let m:=λx=>k `rcasesPatMed #[Lean.mkNullNode #[x]]
 let q:=p.raw.rewriteBottomUp λx=>match x with|.ident ..=>k `rcasesPat.one #[x]|.node _ `Lean.Parser.Term.hole a=>k `rcasesPat.ignore a|.node _ `Lean.Parser.Term.anonymousCtor a=>k `rcasesPat.tuple (a.modify 1 λs=>Lean.mkNullNode (s.getArgs.map λy=>if y.isAtom then y else k `rcasesPatLo #[m y,Lean.mkNullNode]))|_=>x
 if p.raw[1].getNumArgs<4 then `(tactic|obtain $(⟨m q⟩):rcasesPatMed:=$e) else
 `(tactic|first|(guard_target =ₛ False;obtain $(⟨m q⟩):rcasesPatMed:=$e)|(∎;obtain $(⟨m q⟩):rcasesPatMed:=$e;refine $(Lean.mkIdent `zzz) ?_;clear $(Lean.mkIdent `zzz))|obtain $(⟨m q⟩):rcasesPatMed:=$e)
local macro_rules|`(⋯)=>`(by omega)|`(∎)=>`(by decide)|`(⇑$x)=>`(($x).heap.objs.size)|`(↥$x)=>`(($x).map $(Lean.mkIdent `Pu.ao.t))|`(do $x:term)=>`(autoParam $x $(Lean.mkIdent `autoR._auto_1))|`(~~~$x)=>`(autoParam $x $(Lean.mkIdent `autoD._auto_1))
set_option bootstrap.genMatcherCode false
local macro_rules|`(command|def $i:declId $s:optDeclSig $v:declVal)=>`(command|noncomputable def $i:declId $s:optDeclSig $v:declVal)|`(command|abbrev $i:declId $s:optDeclSig $v:declVal)=>`(command|noncomputable abbrev $i:declId $s:optDeclSig $v:declVal)|`(command|instance $s:declSig $v:declVal)=>`(command|noncomputable instance $s:declSig $v:declVal)
namespace L2
open PySem PySem.Spec PyProof.Rows
abbrev cI(x:Str):Prop:=(x == ("__debug__":Str))=false
abbrev eA(e:Expr)(es:bT)(n:Env):Prop:=starEach (e::es) n=(false,eval e n)::starEach es n
abbrev nv(e:Expr)(n:Env):Prop:=starEach [e] n=[(false,eval e n)]
abbrev Qst(e f:Expr)(n:Env):Prop:=starEach [e,f] n=[(false,eval e n),(false,eval f n)]
abbrev e9(p:Pos)(es:bT)(n:Env):Prop:=(backTo p (starEach es n)).any (·.1)=false
abbrev aU:=Sum Int Str
def nO:aU->af->Bool
 |.inl k,v=>Value.isInt k v
 |.inr x,v=>Value.isStrOf x v
def NB(w:World):aU->Int
 |.inl k=>hashInt k
 |.inr x=>hashStr w x
theorem i4:∀{k:aU}{v:af},nO k v=true->(∃i t,k=Sum.inl i/\v=Value.int i t)\/(∃x t,k=Sum.inr x/\v=Value.str x t)
 |.inl i,v,h=>by
  let⟨t,e⟩:=Value.isInt_shape (k:=i) (v:=v) h;exact .inl ⟨i,t,rfl,e⟩
 |.inr x,v,h=>by
  let⟨t,e⟩:=Value.isStrOf_shape (x:=x) (v:=v) h;exact .inr ⟨x,t,rfl,e⟩
theorem Sk(i:Int)(t:Tok):nO (.inl i) (.int i t)=true:=by simp[nO,Value.isInt]
theorem Sl(x:Str)(t:Tok):nO (.inr x) (.str x t)=true:=by simp[nO,Value.isStrOf]
theorem ZN(a b:Int):decide ((Sum.inl a:aU)=Sum.inl b)=(a == b):=by
 by_cases e:a=b
 .subst e;simp
 .have h:¬ (Sum.inl a:aU)=Sum.inl b:=λq=>e (Sum.inl.inj q)
  rw[decide_eq_false h];exact (beq_eq_false_iff_ne.mpr e).symm
theorem ZO(a b:Str):decide ((Sum.inr a:aU)=Sum.inr b)=decide (a=b):=by
 by_cases e:a=b
 .subst e;simp
 .have h:¬ (Sum.inr a:aU)=Sum.inr b:=λq=>e (Sum.inr.inj q)
  rw[decide_eq_false h,decide_eq_false e]
theorem ZP(a:Int)(b:Str):decide ((Sum.inl a:aU)=Sum.inr b)=false:=decide_eq_false (λq=>nomatch q)
theorem ZQ(a:Str)(b:Int):decide ((Sum.inr a:aU)=Sum.inl b)=false:=decide_eq_false (λq=>nomatch q)
def dz(prog:Program)(w:World):PySem.KeyKind prog w aU where
 is:=nO
 hash:=NB w
 inj:=λv a b ha c=>by
  rcases i4 ha with⟨i,t,rfl,rfl⟩ |⟨x,t,rfl,rfl⟩
  .rcases i4 c with⟨j,u,rfl,e⟩ |⟨y,u,rfl,e⟩
   .injection e with e1 _;rw[e1]
   .exact nomatch e
  .rcases i4 c with⟨j,u,rfl,e⟩ |⟨y,u,rfl,e⟩
   .exact nomatch e
   .injection e with e1 _;rw[e1]
 byValue:=λk v h=>by
  rcases i4 h with⟨i,t,rfl,rfl⟩ |⟨x,t,rfl,rfl⟩<;>rfl
 pyHash:=λhv h=>by
  rcases i4 hv with⟨i,t,rfl,rfl⟩ |⟨x,t,rfl,rfl⟩
  .exact wpAny_pyHash_int h
  .exact wpAny_pyHash_str h
 eqBool:=λhu hv h=>by
  rcases i4 hu with⟨i,t,rfl,rfl⟩ |⟨x,t,rfl,rfl⟩
  .rcases i4 hv with⟨j,u,rfl,rfl⟩ |⟨y,u,rfl,rfl⟩
   .rw[ZN] at h;exact wpAny_eqBool_int h
   .rw[ZP] at h;exact SeqAt.EqAt.int_str i t y u _ _ _ _ h
  .rcases i4 hv with⟨j,u,rfl,rfl⟩ |⟨y,u,rfl,rfl⟩
   .rw[ZQ] at h;exact SeqAt.EqAt.str_int x t j u _ _ _ _ h
   .rw[ZO] at h;exact wpAny_eqBool_str h
 «strs»:=λk x t v h=>by
  rcases i4 h with⟨i,u,rfl,e⟩ |⟨y,u,rfl,e⟩
  .exact nomatch e
  .injection e with e1 _
   subst e1;cases v<;>rfl
theorem Rc(prog:Program)(w:World)(i:Int)(t:Tok):(dz prog w).is (.inl i) (.int i t)=true:=Sk i t
theorem x6(prog:Program)(w:World)(x:Str)(t:Tok):(dz prog w).is (.inr x) (.str x t)=true:=Sl x t
inductive V where
 |aZ |bl (b:Bool) |int (i:Int) |str (x:Str) |gg (b:Array UInt8) |ka (b:UInt64) |ref (a:Addr) |ty (n:String)
 deriving DecidableEq
abbrev cv:=List (aU×V)
abbrev ax:=List V
def aC:V->af->Prop
 |.aZ,u=>u=Value.none
 |.bl b,u=>u=Value.bool b
 |.int i,u=>∃t,u=Value.int i t
 |.str x,u=>∃t,u=Value.str x t
 |.gg b,u=>∃t,u=Value.bytes b t
 |.ka b,u=>∃t,u=Value.float b t
 |.ref a,u=>u=Value.ref a
 |.ty n,u=>u=Value.type n
abbrev aL:ax->aN->Prop:=Paired aC
theorem aL.length(r:aL xs us):xs.length=us.length:=Paired.length r
theorem aL.get:∀{xs:ax}{us:aN}{i:Nat}{x:V},aL xs us->xs[i]?=some x->∃u,us[i]?=some u/\aC x u
 |_,_,_,_,.nil,e=>by simp at e
 |_,_,0,_,.cons r _,e=>by simp at e;subst e;exact⟨_,rfl,r⟩
 |_,_,i + 1,x,.cons _ t,e=>by
  let⟨u,a,b⟩:=aL.get (i:=i) (x:=x) t (by simpa using e);exact⟨u,by simpa using a,b⟩
theorem aL.set(r:aC x u):∀{xs:ax}{us:aN}(i:Nat),aL xs us->aL (xs.set i x) (us.set i u)
 |_,_,_,.nil=>.nil
 |_,_,0,.cons _ t=>.cons r t
 |_,_,i + 1,.cons q t=>.cons q (aL.set r i t)
theorem aL.append:∀{xs ys:ax}{us a:aN},aL xs us->aL ys a->aL (xs++ys) (us++a)
 |_,_,_,_,.nil,s=>s
 |_,_,_,_,.cons r t,s=>.cons r (aL.append t s)
theorem aL.take:∀{xs:ax}{us:aN}(n:Nat),aL xs us->aL (xs.take n) (us.take n)
 |_,_,0,_=>.nil
 |_,_,_ + 1,.nil=>.nil
 |_,_,n + 1,.cons r t=>.cons r (aL.take n t)
theorem aL.drop:∀{xs:ax}{us:aN}(n:Nat),aL xs us->aL (xs.drop n) (us.drop n)
 |_,_,0,r=>r
 |_,_,_ + 1,.nil=>.nil
 |_,_,n + 1,.cons _ t=>aL.drop n t
def cj:Option V->bG->Prop
 |some v,some u=>aC v u
 |none,none=>True
 |_,_=>False
def KV{j:Type}:List (j×V)->List (j×af)->Prop:=Paired λ(p:j×V)(q:j×af)=>p.1=q.1/\aC p.2 q.2
def kV:aU->V
 |.inl i=>.int i
 |.inr x=>.str x
inductive HO where
 /-- a list -/
 |av (xs:List V)
 /-- a tuple (never changes) -/
 |aA (xs:List V)
 /-- a dict whose keys are ints and texts;one whose keys are tuples of ints and texts (the empty one is both) -/
 |dK (kvs:List (aU × V)) |dT (kvs:List (List aU × V))
 /-- a set of ints: bo members,bo size -/
 |set (S:Int -> Bool) (n:Nat)
 /-- an instance of the class at C,bo dict at dx,bo attributes -/
 |ins (C dx:Addr) (fs:List (Str × V))
 /-- the dict of the instance at x -/
 |own (x:Addr)
 /-- the dict of an exception -/
 |xd (fs:List (Str × V))
 /-- a bound method,f of x -/
 |met (f x:Addr)
 /-- a range object lo,lo + 1,.. below hi -/
 |vR (lo hi:Int)
 /-- a thing that is known to the object (the script;a dict while a loop walks it): read,never written while it is so -/
 |aB (o:Obj) (u:HO)
 /-- a code object's table -/
 |lA (ps:Array Value)
 /-- any other thing,by what is true of bo one object (a def of one's own: SetO a S n:=HO.ext λh=>..) -/
 |ext (φ:Heap -> Prop)
abbrev Hp:=Addr->Option HO
def aW(H:Hp)(a:ae)(o:HO):Hp:=λb=>if b=a then some o else H b
theorem fb:aW H a o a=some o:=by unfold aW;rw[if_pos rfl]
theorem bR{H:Hp}(h:b≠a):aW H a o b=H b:=by unfold aW;rw[if_neg h]
theorem K2{H:Hp}(h:H a=some o)(h':H b=some u)(d:o≠u):a≠b:=by
 intro e;subst e;rw[h] at h';exact d (Option.some.inj h')
theorem g7{H:Hp}(h:H a=some o)(h':H b=none):a≠b:=by
 intro e;subst e;rw[h] at h';cases h'
section
variable(P:Program)(w:World)
def a8(H:Hp)(h:aP)(a:ae):HO->Prop
 |.av d=>d.length <= sizeLine /\ ∃(b:aN)(n:Nat),aL d b /\ h.get? a=some { cls:=.type "list",data:=.seq b.toArray n }
 |.aA d=>d.length <= sizeLine /\ ∃b:aN,aL d b /\ IsTup h a b.toArray
 |.dK c=>c.length <= sizeLine /\ (a == sysModules)=false /\ ∃vs,KV c vs /\ h.DictOf (dz P w) a vs
 |.dT c=>c.length <= sizeLine /\ (a == sysModules)=false /\ ∃d:List (List aU × Addr × Value),
   Paired (λ(p:List aU×V)(q:List aU×ae×af)=>p.1=q.1/\H q.2.1=some (.aA (p.1.map kV))/\aC p.2 q.2.2) c d/\
   ∃o j r,h.get? a=some o/\o.ExactDict/\o.data=.dict j r/\j.toList=d.map (entryOfKey (tupleKind (dz P w)))/\(d.map (·.1)).Nodup
 |.set S n=>h.SetOf (intKind P w) a S n
 |.ins C g fs=>H g=some (.own a) /\ fs.length <= 1000 /\ g ≠ a /\ h.get? a=some (W.instObj C g) /\
   ∃e,h.Ns1 g e/\(∀f,cj (fs.lookup f) (e f))/\PySem.Within e (fs.map (·.1))
 |.own _=>∃o,h.get? a=some o
 |.xd fs=>∃e,h.Ns1 a e /\ ∀f,cj (fs.lookup f) (e f)
 |.vR lo s=>∃t u v,h.get? a=some { cls:=.type "range",data:=.fields #[.int lo t,.int s u,.int 1 v] }
 |.aB o u=>h.get? a=some o /\ a8 H h a u
 |.lA y=>h.get? a=some { cls:=.none,data:=.fields y }
 |.met f x=>h.get? a=some (W.methodObj (.ref f) (.ref x))
 |.ext i=>i h /\ (∃o,h.get? a=some o) /\ ∀l m:Heap,i l -> (∀o,l.get? a=some o -> m.get? a=some o) -> i m
def cS(H:Hp)(h:aP):Prop:=∀a o,H a=some o->a8 P w H h a o
end
section
variable{P:Program}{w:World}{H H':Hp}{h h':aP}{a:ae}{o:HO}
theorem a8.lt(x:a8 P w H h a o):a<h.objs.size:=by
 cases o with
 |av c=>let⟨_,_,_,_,e⟩:=x;exact Heap.lt_size e
 |aA c=>let⟨_,_,_,p⟩:=x;exact p.lt
 |dK b=>let⟨_,_,_,_,o,_,_,e,_⟩:=x;exact Heap.lt_size e
 |dT b=>let⟨_,_,_,_,o,_,_,e,_⟩:=x;exact Heap.lt_size e
 |set S n=>let⟨o,_,_,_,e,_⟩:=x;exact Heap.lt_size e
 |ins C d fs=>let⟨_,_,_,e,_⟩:=x;exact Heap.lt_size e
 |own y=>let⟨_,e⟩:=x;exact Heap.lt_size e
 |xd fs=>let⟨_,⟨_,_,_,e,_⟩,_⟩:=x;exact Heap.lt_size e
 |vR lo g=>let⟨_,_,_,e⟩:=x;exact Heap.lt_size e
 |aB ob u=>let⟨e,_⟩:=x;exact Heap.lt_size e
 |lA i=>exact Heap.lt_size (show h.get? a=some _ from x)
 |met f y=>exact Heap.lt_size (show h.get? a=some _ from x)
 |ext j=>let⟨_,⟨_,e⟩,_⟩:=x;exact Heap.lt_size e
theorem Paired.mW{F G:j->y->Prop}:∀{c:List j}{d:List y},Paired F c d->(∀a b,F a b->G a b)->Paired G c d
 |_,_,.nil,_=>.nil
 |_,_,.cons r t,f=>.cons (f _ _ r) (Paired.mW t f)
theorem a8.eh(x:a8 P w H h a o)(k:∀b u,(b=a\/H b=some (.own a))->h.get? b=some u->h'.get? b=some u)(B:∀b,H b=some (.own a)->H' b=some (.own a))(D:∀b xs,H b=some (.aA xs)->H' b=some (.aA xs)):a8 P w H' h' a o:=by
 induction o with
 |av xs=>let⟨z,j,n,r,e⟩:=x;exact⟨z,j,n,r,k _ _ (.inl rfl) e⟩
 |aA xs=>let⟨z,j,r,ob,e,c⟩:=x;exact⟨z,j,r,ob,k _ _ (.inl rfl) e,c⟩
 |dK l=>let⟨z,y,vs,r,ob,i,g,e,c⟩:=x;exact⟨z,y,vs,r,ob,i,g,k _ _ (.inl rfl) e,c⟩
 |dT l=>
  let⟨z,y,xs,r,ob,i,g,e,c⟩:=x;exact⟨z,y,xs,Paired.mW r λp q z=>⟨z.1,D _ _ z.2.1,z.2.2⟩,ob,i,g,k _ _ (.inl rfl) e,c⟩
 |set S n=>let⟨ob,i,g,t,e,c⟩:=x;exact⟨ob,i,g,t,k _ _ (.inl rfl) e,c⟩
 |ins C G fs=>
  let⟨d,z,ne,e,m,⟨od,i,g,A,c⟩,r⟩:=x;exact⟨B _ d,z,ne,k _ _ (.inl rfl) e,m,⟨od,i,g,k _ _ (.inr d) A,c⟩,r⟩
 |own y=>let⟨ob,e⟩:=x;exact⟨ob,k _ _ (.inl rfl) e⟩
 |xd fs=>let⟨m,⟨od,i,g,e,c⟩,r⟩:=x;exact⟨m,⟨od,i,g,k _ _ (.inl rfl) e,c⟩,r⟩
 |vR lo I=>let⟨t,u,v,e⟩:=x;exact⟨t,u,v,k _ _ (.inl rfl) e⟩
 |aB ob u E=>let⟨e,q⟩:=x;exact⟨k _ _ (.inl rfl) e,E q⟩
 |lA s=>
  have e:h.get? a=some { cls:=.none,data:=.fields s }:=x;show h'.get? a=some { cls:=.none,data:=.fields s };exact k a _ (.inl rfl) e
 |met f y=>
  have e:h.get? a=some (W.methodObj (.ref f) (.ref y)):=x;show h'.get? a=some (W.methodObj (.ref f) (.ref y));exact k a _ (.inl rfl) e
 |ext J=>let⟨p,⟨o,e⟩,st⟩:=x;exact⟨st _ _ p λo q=>k _ _ (.inl rfl) q,⟨o,k _ _ (.inl rfl) e⟩,st⟩
theorem cS.lt(x:cS P w H h)(e:H a=some o):a<h.objs.size:=(x a o e).lt
theorem cS.fresh(x:cS P w H h)(e:h.objs.size<=a):H a=none:=by
 cases q:H a with
 |none=>rfl
 |some u=>exact absurd (lt_of_lt_of_le (x.lt q) e) (lt_irrefl _)
theorem cS.kept(x:cS P w H h)(k:∀b u,h.get? b=some u->h'.get? b=some u):cS P w H h':=λa o e=>
 (x a o e).eh (λb u _ q=>k b u q) (λ_ q=>q) λ_ _ q=>q
theorem cS.laid(x:cS P w H h)(k:∀b u,h.get? b=some u->h'.get? b=some u)(g:h.objs.size<=a)(d:a8 P w (aW H a o) h' a o):cS P w (aW H a o) h':=λb u e=>by
 have hn:=x.fresh g;by_cases f:b=a
 .subst f;rw[fb] at e;cases e;exact d
 .rw[bR f] at e;exact (x b u e).eh (λc v _ q=>k c v q) (λc q=>by rw[bR (g7 q hn)];exact q) λc i q=>by rw[bR (g7 q hn)];exact q
end
def Rd(H:Hp)(a:ae)(u:HO):Prop:=H a=some u\/∃o,H a=some (.aB o u)
theorem Rd.of{H:Hp}(h:H a=some u):Rd H a u:=.inl h
theorem Rd.ok(r:Rd H a u)(x:cS P w H h):a8 P w H h a u:=by
 rcases r with r |⟨o,r⟩
 .exact x a u r
 .obtain⟨_,q⟩:=x a _ r;exact q
def pw:Option HO->Prop
 |some (.av _)=>True
 |some (.dK _)=>True
 |some (.dT _)=>True
 |some (.set _ _)=>True
 |some (.ins _ _ _)=>True
 |some (.ext _)=>True
 |_=>False
section
variable{P:Program}{w:World}{H:Hp}{h h':aP}{x e:ae}{o':HO}
theorem cS.write(ok:cS P w H h)(j:pw (H x))(he:e=x\/H e=some (.own x))(k:∀b u,b≠e->h.get? b=some u->h'.get? b=some u)(m:∃u,h'.get? e=some u)(n:a8 P w (aW H x o') h' x o'):cS P w (aW H x o') h':=λb u q=>by
 have d:∀c y,H c=some (.own y)->c≠x:=λc y r z=>by subst z;rw[r] at j;exact j
 have f:∀c l,H c=some (.aA l)->c≠x:=λc l r z=>by subst z;rw[r] at j;exact j
 by_cases g:b=x
 .subst g;rw[fb] at q;cases q;exact n
 .rw[bR g] at q;by_cases a:b=e
  .have q':H b=some (.own x):=by
    rcases he with z |z
    .exact absurd (a.trans z) g
    .rw[a];exact z
   rw[q] at q';cases q';let⟨v,hv⟩:=m;exact⟨v,by rw[a];exact hv⟩
  .refine (ok b u q).eh (λc v i r=>k c v ?_ r) (λc r=>by rw[bR (d c b r)];exact r) λc l r=>by rw[bR (f c l r)];exact r
   rcases i with rfl |i
   .exact a
   .rintro rfl;rcases he with z |z
    .exact d c b i z
    .rw[i] at z;cases z;exact g rfl
end
structure Un(fs ex:b7)(H H':Hp)(h h':aP):Prop where
 keep:∀b o,h.get? b=some o->H b=none->b ∉ fs->b ∉ ex->h'.get? b=some o
 slot:∀b o,h.get? b=some o->H b=none->b∈fs->b ∉ ex->∃sl,h'.get? b=some { o with slots:=sl }
 free:∀b o,h.get? b=some o->H b=none->b ∉ ex->H' b=none
 there:∀b o,h.get? b=some o->b ∉ ex->∃o',h'.get? b=some o'
 eP:∀b xs,H b=some (.aA xs)->H' b=some (.aA xs)
 bV:∀b o u,H b=some (.aB o u)->H' b=some (.aB o u)
 eO:∀b ps,H b=some (.lA ps)->∃more,H' b=some (.lA (ps++more))
section
variable{fs fs' ex ex':b7}{H H1 H2:Hp}{h h1 h2 h':aP}{a x e:ae}{o:HO}
theorem Un.any(u:Un fs ex H H1 h h1){ob:Obj}(q:h.get? b=some ob)(n:H b=none)(d:b ∉ ex):∃f,h1.get? b=some { ob with slots:=f }:=by
 by_cases c:b∈fs
 .exact u.slot b ob q n c d
 .exact⟨ob.slots,u.keep b ob q n c d⟩
theorem Un.kept(k:∀b u,h.get? b=some u->h'.get? b=some u):Un fs ex H H h h':=
 ⟨λb ob q _ _ _=>k b ob q,λb ob q _ _ _=>⟨ob.slots,k b ob q⟩,λ_ _ _ n _=>n,λb ob q _=>⟨ob,k b ob q⟩,λ_ _ q=>q,λ_ _ _ q=>q,λ_ c q=>⟨#[],by rw[q];simp⟩⟩
theorem Un.refl:Un fs ex H H h h:=Un.kept λ_ _ q=>q
theorem Un.laid(k:∀b u,h.get? b=some u->h'.get? b=some u)(c:h.objs.size<=a)(hn:H a=none):Un fs ex H (aW H a o) h h' where
 keep:=λb u q _ _ _=>k b u q
 slot:=λb u q _ _ _=>⟨u.slots,k b u q⟩
 free:=λb u q n _=>by rw[bR (ne_of_lt (lt_of_lt_of_le (Heap.lt_size q) c))];exact n
 there:=λb u q _=>⟨u,k b u q⟩
 eP:=λb d q=>by rw[bR (g7 q hn)];exact q
 bV:=λb u d q=>by rw[bR (g7 q hn)];exact q
 eO:=λb f q=>⟨#[],by rw[bR (g7 q hn),q];simp⟩
theorem Un.write(d:pw (H x))(he:e=x\/H e=some (.own x))(k:∀b u,b≠e->h.get? b=some u->h'.get? b=some u)(f:∃u,h'.get? e=some u):Un fs ex H (aW H x o) h h':=by
 have i:∀b,H b=none->b≠x:=λb n z=>by subst z;rw[n] at d;exact d
 have g:∀b,H b=none->b≠e:=λb n z=>by
  subst z;rcases he with r |r
  .exact i b n r
  .rw[n] at r;cases r
 have hm:∀b u,H b=some u->¬ pw (some u)->b≠x:=λb u q nm z=>by subst z;rw[q] at d;exact nm d
 refine⟨λb u q n _ _=>k b u (g b n) q,λb u q n _ _=>⟨u.slots,k b u (g b n) q⟩,λb u q n _=>by rw[bR (i b n)];exact n,λb u q _=>?_,
  λb j q=>by rw[bR (hm b _ q λz=>z)];exact q,λb u j q=>by rw[bR (hm b _ q λz=>z)];exact q,λb l q=>⟨#[],by rw[bR (hm b _ q λz=>z),q];simp⟩⟩
 by_cases c:b=e
 .subst c;exact f
 .exact⟨u,k b u c q⟩
end
def vT(h:aP)(H:Hp):b7:=(List.range h.objs.size).filter λa=>(H a).isSome
def jK(h:aP)(H:Hp):aP:=W.hideAll h (vT h H)
theorem Sn(h:aP)(H:Hp):(jK h H).objs.size=h.objs.size:=W.hideAll_size _ _
theorem Uz{H:Hp}(e:h.get? b=some o)(n:H b=none):(jK h H).get? b=some o:=
 W.hideAll_get _ e λhm=>by
  have q:(H b).isSome=true:=(List.mem_filter.mp hm).2;rw[n] at q;simp at q
theorem WV{H:Hp}(e:(jK h H).get? b=some o):h.get? b=some o/\H b=none:=by
 have a:h.get? b=some o:=W.of_hideAll (vT h H) e;refine⟨a,?_⟩;cases q:H b with
 |none=>rfl
 |some x=>
  have hm:b∈vT h H:=List.mem_filter.mpr ⟨mem_range.mpr (Heap.lt_size a),by simp[q]⟩;have z:(jK h H).get? b=none:=W.hideAll_none (vT h H) hm;rw[z] at e;cases e
def MU(g h:aP)(L:ae):aT:=(List.range h.objs.size).filterMap λa=>if a=L\/(g.get? a).isSome=true then none else (h.get? a).map λo=>(a,o)
def rest(g h:aP)(L d:ae):aT:=(MU g h L).filter λp=>decide (p.1≠d)
structure Mod(K:ak)(mg:bD)(base:aP):Prop where
 mT:K.In base
 glob:base.Ns mainGlobals mg
 blt:∃mb,base.Ns builtinsNs mb/\∀x:Str,x≠"__name__"->mb x=bootBuiltins x
 nolimit:base.NoLimit
structure Cx where
 prog:Program
 w:World
 K:W.Frag
 mg:bD
 base:Heap
 A:Around
 N:ag
 s₀:Shared
 H₀:Hp
 env:Env
 outer:cz
 stack:cz
 ex:b7
 fn:Str->Bool
 calm:Bool
 pn:aT
 xe:af->ai->Prop
abbrev kq(X:Cx)(x:Str):Prop:=X.fn x=true\/X.env.scope.names.lookup x=some .local
def ff(l:cz):b7:=l.filterMap (·.frame)
abbrev Cx.fs(X:Cx):b7:=ff X.outer
def jz(sc:Scope)(x:Str):Prop:=sc.names.lookup x=some .local\/sc.names.lookup x=some .cell\/sc.names.lookup x=some .free
def Loc(sc:Scope)(x:Str):Prop:=sc.names.lookup x=some .local\/sc.names.lookup x=some .cell
def NC(env:Env)(h:aP)(m:bD)(x:Str)(u:af):Prop:=
 (env.kindOf x=some .local/\m x=some u)\/((env.kindOf x=some .cell\/env.kindOf x=some .free)/\∃c,env.cells.lookup x=some c/\h.IsCell c (some u))
structure Cx.Ok(X:Cx):Prop where
 mod:Mod X.K X.mg X.base
 kind:X.env.scope.kind=.function
 glob:X.env.globals=mainGlobals
 blt:X.env.builtins=builtinsNs
 above:⇑X.s₀<=X.env.locals
 inj:∀x y c,X.env.cells.lookup x=some c->X.env.cells.lookup y=some c->x=y
 has:∀x,(X.env.kindOf x=some .cell\/X.env.kindOf x=some .free)->∃c,X.env.cells.lookup x=some c
 oz:∀x c,X.fn x=true->X.env.cells.lookup x=some c->⇑X.s₀<=c
 hd:X.calm=true->X.A.handled=none
 frames:X.A.frames=some X.stack
 se:X.stack=X.outer\/(X.stack=X.env::X.outer/\X.env.frame=some X.env.locals)
 rm:∀b∈X.ex,b≠X.env.locals/\∀x c,X.env.cells.lookup x=some c->c≠b
 bs:∀b o,X.base.get? b=some o->X.s₀.heap.get? b=some o/\X.H₀ b=none
 iz:X.base.objs.size<=⇑X.s₀
 hX:∀b o,X.base.get? b=some o->b ∉ X.ex
 hV:∀b∈X.ex,b ∉ X.fs
 dR:X.s₀.heap.FunFrames X.base X.outer
 lh:∀b∈X.fs,X.H₀ b=none
structure au(X:Cx)(aa:aT)(j:List (Option V))(H:Hp)(s:ai):Prop where
 ok:X.Ok
 os:s.os=X.s₀.os
 bare:AllBare s.gens
 base:Un X.fs X.ex X.H₀ H X.s₀.heap s.heap
 loc:∃m,s.heap.Ns X.env.locals m/\∀(i:Nat)(x:Str)(v:V),X.N[i]?=some x->j[i]?=some (some v)->jz X.env.scope x->∃u,aC v u/\NC X.env s.heap m x u
 cell:∀x c,X.env.cells.lookup x=some c->∃v,s.heap.IsCell c v
 free:H X.env.locals=none
 cf:∀x c,X.env.cells.lookup x=some c->H c=none
 pin:∀p∈X.pn++aa,s.heap.get? p.1=some p.2/\H p.1=none/\p.1≠X.env.locals/\p.1 ∉ X.fs/\∀v,p.2.data≠.cell v
 aS:cS X.prog X.w H s.heap
 len:j.length=X.N.length
section
variable{X:Cx}{aa:aT}{σ:List (Option V)}{H H':Hp}{s:ai}{h':aP}
theorem Cx.Ok.zQ(ok:X.Ok)(e:X.base.get? b=some o):b ∉ X.fs:=λa=>by
 have:=(ok.dR.mem a).1;rw[e] at this;cases this
theorem au.bs(I:au X aa σ H s):∀b o,X.base.get? b=some o->s.heap.get? b=some o/\H b=none:=λb o e=>
 ⟨I.base.keep b o (I.ok.bs b o e).1 (I.ok.bs b o e).2 (I.ok.zQ e) (I.ok.hX b o e),I.base.free b o (I.ok.bs b o e).1 (I.ok.bs b o e).2 (I.ok.hX b o e)⟩
theorem au.bk(I:au X aa σ H s):∀b o,X.base.get? b=some o->s.heap.get? b=some o:=λb o e=>(I.bs b o e).1
theorem au.mod(I:au X aa σ H s):Mod X.K X.mg X.base:=I.ok.mod
theorem au.cP(I:au X aa σ H s):X.K.In s.heap:=I.ok.mod.mT.keeps I.bk
theorem au.lt(I:au X aa σ H s):X.env.locals<⇑s:=let ⟨_,hn,_⟩:=I.loc;hn.lt
theorem au.sz(I:au X aa σ H s):⇑X.s₀<=⇑s:=le_trans I.ok.above (le_of_lt I.lt)
theorem au.zR(I:au X aa σ H s)(h:⇑s<=a):a ∉ X.fs:=λb=>by
 let⟨_,o,c,_⟩:=I.ok.dR.mem b;exact absurd (lt_of_lt_of_le (Heap.lt_size c) (le_trans I.sz h)) (lt_irrefl _)
theorem au.mu(I:au X aa σ H s):∀x c,X.env.cells.lookup x=some c->c≠X.env.locals:=λx c e z=>by
 ∎;let⟨v,o,d,hd⟩:=I.cell x c e;let⟨m,⟨h,g,f,b,a,_⟩,_⟩:=I.loc;∎;rw[z,b] at d;cases d;rw[a] at hd;cases hd
theorem au.dR(I:au X aa σ H s):s.heap.FunFrames X.base X.outer:=by
 have all:∀(l:cz),(∀b∈ff l,b∈X.fs)->X.s₀.heap.FunFrames X.base l->s.heap.FunFrames X.base l:=by
  intro l
  induction l with
  |nil=>intro _ _;trivial
  |cons env r m=>
   intro f h;let⟨g,⟨L,o,d,hn,i,hd⟩,j⟩:=h;have a:L∈X.fs:=f L (by unfold ff;rw[filterMap_cons,d];exact mem_cons_self);let⟨n,e⟩:=I.base.slot L o i (I.ok.lh L a) a λz=>I.ok.hV L z a
   exact⟨g,⟨L,_,d,hn,e,hd⟩,m (λb c=>f b (by unfold ff;rw[filterMap_cons,d];exact mem_cons_of_mem _ c)) j⟩
 exact all X.outer (λ_ c=>c) I.ok.dR
theorem au.stack(I:au X aa σ H s):s.heap.FunFrames X.base X.stack:=by
 rcases I.ok.se with e |⟨e,a⟩
 .rw[e];exact I.dR
 .rw[e];let⟨m,hn,_⟩:=I.loc;refine .cons (by rw[I.ok.kind];decide) a hn ?_ I.dR;exact Heap.get?_none_of_le (le_trans I.ok.iz I.ok.above)
theorem au.eN(I:au X aa σ H s):∀b∈ff X.stack,b∈X.env.locals::X.fs:=λb a=>by
 rcases I.ok.se with e |⟨e,c⟩
 .rw[e] at a;exact mem_cons_of_mem _ a
 .rw[e] at a;unfold ff at a;rw[filterMap_cons,c] at a;exact a
theorem au.fA(I:au X aa σ H s):∀b∈ff X.stack,H b=none:=λb a=>by
 rcases mem_cons.mp (I.eN b a) with e |a
 .rw[e];exact I.free
 .obtain⟨_,o,ho,_⟩:=I.ok.dR.mem a;exact I.base.free b o ho (I.ok.lh b a) λz=>I.ok.hV b z a
theorem au.step{g':Array GenState}{t':Nat}{d':Drawn}{ch:b7}(I:au X aa σ H s)(g:∀b∈ch,(b∈X.ex\/⇑X.s₀<=b)/\b≠X.env.locals/\(∀x c,X.env.cells.lookup x=some c->c≠b)/\∀p∈X.pn++aa,p.1≠b)(keep:∀b o,b≠X.env.locals->b ∉ X.fs->b ∉ ch->s.heap.get? b=some o->H b=none->h'.get? b=some o)(slot:∀b o,b≠X.env.locals->b∈X.fs->b ∉ ch->s.heap.get? b=some o->H b=none->∃E,h'.get? b=some { o with slots:=E })(free:∀b o,b ∉ ch->s.heap.get? b=some o->H b=none->H' b=none)(there:∀b o,b ∉ ch->s.heap.get? b=some o->∃o',h'.get? b=some o')(eP:∀b xs,H b=some (.aA xs)->H' b=some (.aA xs))(bV:∀b o u,H b=some (.aB o u)->H' b=some (.aB o u))(eO:∀b ps,H b=some (.lA ps)->∃C,H' b=some (.lA (ps++C)))(ns:∀m,s.heap.Ns X.env.locals m->h'.Ns X.env.locals m)(aS:cS X.prog X.w H' h')(N:AllBare g'):
  au X aa σ H' { s with heap:=h',gens:=g',drawn:=d',toks:=t' }:=by
 have D:∀b o,X.s₀.heap.get? b=some o->b≠X.env.locals:=λb o e=>ne_of_lt (lt_of_lt_of_le (Heap.lt_size e) I.ok.above)
 have y:∀b o,X.s₀.heap.get? b=some o->b ∉ X.ex->b ∉ ch:=λb o e a A=>by
  rcases (g b A).1 with z |z
  .exact a z
  .exact absurd (lt_of_lt_of_le (Heap.lt_size e) z) (lt_irrefl _)
 have f:∀x c,X.env.cells.lookup x=some c->∀v,s.heap.IsCell c v->h'.IsCell c v:=λx c e v ⟨o,ho,hd⟩=>by
  have h:c ∉ ch:=λz=>(g c z).2.2.1 x c e rfl
  by_cases J:c∈X.fs
  .obtain⟨E,q⟩:=slot c o (I.mu x c e) J h ho (I.cf x c e);exact⟨_,q,hd⟩
  .exact⟨o,keep c o (I.mu x c e) J h ho (I.cf x c e),hd⟩
 refine⟨I.ok,I.os,N,⟨λb o e n A a=>?_,λb o e n A a=>?_,λb o e n a=>?_,λb o e a=>?_,λb xs e=>eP b xs (I.base.eP b xs e),λb o xs e=>bV b o xs (I.base.bV b o xs e),λb ps e=>?_⟩,?_,λx c e=>?_,?_,λx c e=>?_,λp L=>?_,aS,I.len⟩
 .exact keep b o (D b o e) A (y b o e a) (I.base.keep b o e n A a) (I.base.free b o e n a)
 .obtain⟨E,j⟩:=I.base.slot b o e n A a;let⟨G,B⟩:=slot b _ (D b o e) A (y b o e a) j (I.base.free b o e n a);exact⟨G,B⟩
 .obtain⟨o',j⟩:=I.base.there b o e a;exact free b o' (y b o e a) j (I.base.free b o e n a)
 .obtain⟨o',j⟩:=I.base.there b o e a;exact there b o' (y b o e a) j
 .obtain⟨m1,j⟩:=I.base.eO b ps e;let⟨O,B⟩:=eO b _ j;exact⟨m1++O,by rw[B,Array.append_assoc]⟩
 .obtain⟨m,hn,hl⟩:=I.loc;refine⟨m,ns m hn,λi x v j B M=>?_⟩;let⟨u,r,l⟩:=hl i x v j B M;refine⟨u,r,?_⟩;rcases l with l |⟨k,c,e,z⟩
  .exact .inl l
  .exact .inr ⟨k,c,e,f x c e _ z⟩
 .obtain⟨v,z⟩:=I.cell x c e;exact⟨v,f x c e v z⟩
 .obtain⟨m,⟨o,_,_,ho,_⟩,_⟩:=I.loc;exact free _ o (λz=>(g _ z).2.1 rfl) ho I.free
 .obtain⟨v,o,ho,hd⟩:=I.cell x c e;exact free c o (λz=>(g c z).2.2.1 x c e rfl) ho (I.cf x c e)
 .obtain⟨e,n,ne,nf,d⟩:=I.pin p L;have h:p.1 ∉ ch:=λz=>(g p.1 z).2.2.2 p L rfl
  exact⟨keep p.1 p.2 ne nf h e n,free p.1 p.2 h e n,ne,nf,d⟩
theorem au.un{t':Nat}(I:au X aa σ H s)(u:Un X.fs [] H H' s.heap h')(aS:cS X.prog X.w H' h'):au X aa σ H' { s with heap:=h',toks:=t' }:=by
 ∎;let⟨m,⟨o,l,j,g,r⟩,_⟩:=id I.loc;let⟨v,h⟩:=u.any g I.free (by simp);∎;exact I.step (g':=s.gens) (d':=s.drawn) (ch:=[]) (λ_ z=>nomatch z) (λb o _ f _ e n=>u.keep b o e n f (by simp)) (λb o _ f _ e n=>u.slot b o e n f (by simp)) (λb o _ e n=>u.free b o e n (by simp)) (λb o _ e=>u.there b o e (by simp)) u.eP u.bV u.eO (λp hm=>by
  let⟨q,d,c,a,i⟩:=hm;rw[g] at a;cases a;exact⟨_,d,c,h,i⟩) aS I.bare
theorem au.call{g':Array GenState}{t':Nat}{d':Drawn}{ch:b7}(I:au X aa σ H s)(u:Un (ff X.stack) ch H H' s.heap h')(aS:cS X.prog X.w H' h')(q:AllBare g')(d:∀b∈ch,(b∈X.ex\/⇑X.s₀<=b)/\b≠X.env.locals/\(∀x c,X.env.cells.lookup x=some c->c≠b)/\∀p∈X.pn++aa,p.1≠b):
  au X aa σ H' { s with heap:=h',gens:=g',drawn:=d',toks:=t' }:=by
 let⟨m,⟨o,A,y,j,r⟩,_⟩:=id I.loc;let⟨D,i⟩:=u.any j I.free λz=>(d _ z).2.1 rfl
 exact I.step (ch:=ch) d (λb o i l a e n=>u.keep b o e n (λz=>(mem_cons.mp (I.eN b z)).elim i l) a) (λb o _ _ a e n=>u.any e n a) (λb o a e n=>u.free b o e n a) (λb o a e=>u.there b o e a) u.eP u.bV u.eO (λB hm=>by
  let⟨C,h,g,f,v⟩:=hm;rw[j] at f;cases f;exact⟨_,h,g,i,v⟩) aS q
theorem au.turned{t':Nat}{it:ae}(I:au X aa σ H s)(k:∀b o,b≠it->s.heap.get? b=some o->h'.get? b=some o)(hn:H it=none)(f:it≠X.env.locals)(g:it∈X.ex\/⇑X.s₀<=it)(h:∀x c,X.env.cells.lookup x=some c->c≠it)(i:∀p∈X.pn++aa,p.1≠it):au X aa σ H { s with heap:=h',toks:=t' }:=by
 have d:∀b u,H b=some u->b≠it:=λb u e z=>by rw[z,hn] at e;cases e
 refine I.step (g':=s.gens) (d':=s.drawn) (ch:=[it]) (λb j=>?_) (λb o _ _ a e _=>k b o (λz=>a (by simp[z])) e) (λb o _ _ a e _=>⟨o.slots,k b o (λz=>a (by simp[z])) e⟩) (λ_ _ _ _ n=>n)
  (λb o a e=>⟨o,k b o (λz=>a (by simp[z])) e⟩) (λ_ _ e=>e) (λ_ _ _ e=>e) (λb l e=>⟨#[],by rw[e];simp⟩) (λm hm=>?_) (λb u e=>?_) I.bare
 .have e:b=it:=by simpa using j
  subst e;exact⟨g,f,h,i⟩
 .obtain⟨o,es,ep,ho,r⟩:=hm;exact⟨o,es,ep,k _ o (Ne.symm f) ho,r⟩
 .refine (I.aS b u e).eh (λc v a q=>k c v ?_ q) (λ_ q=>q) λ_ _ q=>q
  rcases a with z |z
  .rw[z];exact d b u e
  .exact d c _ z
theorem au.tok(I:au X aa σ H s)(t:Nat):au X aa σ H { s with toks:=t }:=I.un (h':=s.heap) (t':=t) Un.refl I.aS
theorem au.kept(I:au X aa σ H s)(k:∀b u,s.heap.get? b=some u->h'.get? b=some u):au X aa σ H { s with heap:=h',toks:=t' }:=I.un (Un.kept k) (I.aS.kept k)
theorem au.laid(I:au X aa σ H s)(k:∀b u,s.heap.get? b=some u->h'.get? b=some u)(c:⇑s<=a)(d:a8 X.prog X.w (aW H a o) h' a o):
  au X aa σ (aW H a o) { s with heap:=h',toks:=t' }:=I.un (Un.laid k c (I.aS.fresh c)) (I.aS.laid k c d)
theorem au.write(I:au X aa σ H s)(d:pw (H x))(he:e=x\/H e=some (.own x))(k:∀b u,b≠e->s.heap.get? b=some u->h'.get? b=some u)(a:∃u,h'.get? e=some u)(c:a8 X.prog X.w (aW H x o) h' x o):au X aa σ (aW H x o) { s with heap:=h',toks:=t' }:=I.un (Un.write d he k a) (I.aS.write d he k a c)
theorem au.weak(I:au X aa σ H s)(d:σ'.length=σ.length)(w:∀(i:Nat) v,σ'[i]?=some (some v)->σ[i]?=some (some v)):au X aa σ' H s:=
 ⟨I.ok,I.os,I.bare,I.base,let ⟨m,hn,hl'⟩:=I.loc;⟨m,hn,λi x v a b c=>hl' i x v a (w i v b) c⟩,I.cell,I.free,I.cf,I.pin,I.aS,d.trans I.len⟩
theorem au.eD(I:au X aa σ H s)(h:∀p∈a,s.heap.get? p.1=some p.2/\H p.1=none/\p.1≠X.env.locals/\p.1 ∉ X.fs/\∀v,p.2.data≠.cell v):au X a σ H s:=
 ⟨I.ok,I.os,I.bare,I.base,I.loc,I.cell,I.free,I.cf,λp b=>(mem_append.mp b).elim (λz=>I.pin p (mem_append_left _ z)) (h p),I.aS,I.len⟩
theorem FN{N:ag}(e:N.Nodup){i j:Nat}{x:Str}(a:N[i]?=some x)(b:N[j]?=some x):i=j:=by
 let⟨f,c⟩:=List.getElem?_eq_some_iff.mp a;let⟨g,d⟩:=List.getElem?_eq_some_iff.mp b;exact (List.getElem_inj e).mp (c.trans d.symm)
theorem So{M:Model}{A:Around}{E:af->ai->Prop}{i:Nat}{x:Str}{v:V}{u:af}{Q:Unit->ai->Prop}(I:au X aa σ H s)(hN:X.N.Nodup)(hi:X.N[i]?=some x)(C:Loc X.env.scope x)(r:aC v u)(h:∀s',au X aa (σ.set i (some v)) H s'->(∃a,Heap.SameBut a s.heap s'.heap/\(a=X.env.locals\/X.env.cells.lookup x=some a))->Q () s')(hf:kq X x:=by first |exact .inl rfl |exact .inr rfl |assumption):wpAny M A (storeName X.env x u) Q E s:=by
 let⟨m,hn,hl⟩:=id I.loc;have Y:(X.env.scope.kind == .class || (X.env.scope.kind == .module&&X.env.locals != X.env.globals))=false:=by rw[I.ok.kind];rfl
 have J:i<σ.length:=by rw[I.len];exact (List.getElem?_eq_some_iff.mp hi).1
 have mu:=I.mu;have l:∀{a:ae}{h':aP},(∃o,s.heap.get? a=some o/\H a=none)->Heap.SameBut a s.heap h'->cS X.prog X.w H h':=λ{a h'} ha f b ob e=>by
  let⟨_,_,D⟩:=ha;refine (I.aS b ob e).eh (λc w' B q=>(f.2 c ?_).trans q) (λ_ q=>q) λ_ _ q=>q
  rintro rfl;rcases B with rfl |B
  .rw[D] at e;cases e
  .rw[D] at B;cases B
 rcases C with L |L
 .refine wpAny_storeName_local L hn (λh' γ f=>?_) Y;let⟨oL,_,_,δ,_⟩:=id hn;refine h _ ⟨I.ok,I.os,I.bare,⟨λb o e n O C=>?_,λb o e n O C=>?_,I.base.free,λb o e C=>?_,I.base.eP,I.base.bV,I.base.eO⟩,⟨_,γ,λj y v' g G e3=>?_⟩,λy c e=>?_,I.free,I.cf,λp hp=>?_,l ⟨oL,δ,I.free⟩ f,by simpa using I.len⟩ ⟨_,f,.inl rfl⟩
  .exact (f.2 b (ne_of_lt (lt_of_lt_of_le (Heap.lt_size e) I.ok.above))).trans (I.base.keep b o e n O C)
  .obtain⟨sl,g⟩:=I.base.slot b o e n O C;exact⟨sl,(f.2 b (ne_of_lt (lt_of_lt_of_le (Heap.lt_size e) I.ok.above))).trans g⟩
  .obtain⟨o',g⟩:=I.base.there b o e C;exact⟨o',(f.2 b (ne_of_lt (lt_of_lt_of_le (Heap.lt_size e) I.ok.above))).trans g⟩
  .by_cases hj:j=i
   .subst hj;rw[hi] at g;cases g;rw[getElem?_set_self J] at G;cases G;exact⟨u,r,.inl ⟨L,by simp⟩⟩
   .rw[getElem?_set_ne (Ne.symm hj)] at G;let⟨u',r',q⟩:=hl j y v' g G e3;refine⟨u',r',?_⟩;rcases q with⟨k,e⟩ |⟨k,c,e,z⟩
    .refine .inl ⟨k,?_⟩;have:y≠x:=λe=>hj (FN hN g (e ▸ hi))
     simp[this,e]
    .exact .inr ⟨k,c,e,z.sameBut f (mu y c e)⟩
  .obtain⟨w',z⟩:=I.cell y c e;exact⟨w',z.sameBut f (mu y c e)⟩
  .obtain⟨e,n,ne,nf,d⟩:=I.pin p hp;exact⟨(f.2 p.1 ne).trans e,n,ne,nf,d⟩
 .have hfn:X.fn x=true:=by
   rcases hf with z |z
   .exact z
   .rw[z] at L;cases L
  let⟨c,B⟩:=I.ok.has x (.inl L);let⟨w',z⟩:=I.cell x c B;refine wpAny_storeName_cell I.ok.kind L B z (λh' U f=>?_);let⟨oc,α,β⟩:=id z;refine h { s with heap:=h' } ⟨I.ok,I.os,I.bare,⟨λb o e n O C=>?_,λb o e n O C=>?_,I.base.free,λb o e C=>?_,I.base.eP,I.base.bV,I.base.eO⟩,⟨m,hn.sameBut f (Ne.symm (mu x c B)),λj y v' g G e3=>?_⟩,λy c' e=>?_,I.free,I.cf,λp hp=>?_,l ⟨oc,α,I.cf x c B⟩ f,by simpa using I.len⟩ ⟨c,f,.inr B⟩
  .exact (f.2 b (ne_of_lt (lt_of_lt_of_le (Heap.lt_size e) (I.ok.oz x c hfn B)))).trans (I.base.keep b o e n O C)
  .obtain⟨sl,g⟩:=I.base.slot b o e n O C;exact⟨sl,(f.2 b (ne_of_lt (lt_of_lt_of_le (Heap.lt_size e) (I.ok.oz x c hfn B)))).trans g⟩
  .obtain⟨o',g⟩:=I.base.there b o e C;exact⟨o',(f.2 b (ne_of_lt (lt_of_lt_of_le (Heap.lt_size e) (I.ok.oz x c hfn B)))).trans g⟩
  .by_cases hj:j=i
   .subst hj;rw[hi] at g;cases g;rw[getElem?_set_self J] at G;cases G;exact⟨u,r,.inr ⟨.inl L,c,B,U⟩⟩
   .rw[getElem?_set_ne (Ne.symm hj)] at G;let⟨u',r',q⟩:=hl j y v' g G e3;refine⟨u',r',?_⟩;rcases q with q |⟨k,c',e,z'⟩
    .exact .inl q
    .refine .inr ⟨k,c',e,z'.sameBut f ?_⟩;rintro rfl;exact hj (FN hN g (I.ok.inj _ _ _ e B ▸ hi))
  .by_cases hcc:c'=c
   .subst hcc;exact⟨_,U⟩
   .obtain⟨w2,z2⟩:=I.cell y c' e;exact⟨w2,z2.sameBut f hcc⟩
  .obtain⟨e,n,ne,nf,d⟩:=I.pin p hp;refine⟨(f.2 p.1 ?_).trans e,n,ne,nf,d⟩;intro q;rw[q,α] at e;have q':oc=p.2:=Option.some.inj e;exact d w' (by rw[<- q'];exact β)
theorem uk{Q:Unit->ai->Prop}(I:au X aa σ H s)(b:X.N.Nodup)(d:X.N[i]?=some x)(e:Loc X.env.scope x)(r:aC v u)(h:∀s',au X aa (σ.set i (some v)) H s'->Q () s')(c:kq X x:=by first |exact .inl rfl |exact .inr rfl |assumption):wpAny M A (storeName X.env x u) Q E s:=
 So I b d e r (λs' a _=>h s' a) c
theorem au.gU(I:au X aa σ H s)(f:s'.os=s.os)(u:Un (ff X.stack) ch H H' s.heap s'.heap)(aS:cS X.prog X.w H' s'.heap)(d:AllBare s'.gens)(a:∀b∈ch,(b∈X.ex\/⇑X.s₀<=b)/\b≠X.env.locals/\(∀x c,X.env.cells.lookup x=some c->c≠b)/\∀p∈X.pn++aa,p.1≠b):au X aa σ H' s':=by
 let⟨h',g',d',t',g⟩:=s';have e:g=s.os:=f;subst e;exact I.call (g':=g') (t':=t') (d':=d') u aS d a
end
abbrev XK:=Value->bL->Hp->Prop
abbrev St:=List (Option V)
abbrev VK:=V->Hp->Prop
abbrev TE:=St->Hp->VK->Prop
abbrev TT:=St->Hp->(Bool->Hp->Prop)->Prop
abbrev TA:=St->Hp->(ax->Hp->Prop)->Prop
structure g9 where
 nx:St->Hp->Prop
 rt:VK
 bk:St->Hp->Prop:=λ_ _=>False
 ct:St->Hp->Prop:=λ_ _=>False
abbrev TS:=g9->St->Hp->Prop
def EP(X:Cx)(aa:aT)(j:St)(Q:VK)(u:af)(s':ai):Prop:=∃v a,au X aa j a s'/\aC v u/\Q v a
def TP(X:Cx)(aa:aT)(j:St)(Q:Bool->Hp->Prop)(b:Bool)(s':ai):Prop:=∃a,au X aa j a s'/\Q b a
def AP(X:Cx)(aa:aT)(j:St)(Q:ax->Hp->Prop)(us:aN)(s':ai):Prop:=∃vs a,au X aa j a s'/\aL vs us/\Q vs a
def SP(X:Cx)(aa:aT)(D:g9)(f:Flow)(s':ai):Prop:=
 match f with
 |.next=>∃b a,au X aa b a s' /\ D.nx b a
 |.brk=>∃b a,au X aa b a s' /\ D.bk b a
 |.cont=>∃b a,au X aa b a s' /\ D.ct b a
 |.ret u=>∃v b a,au X aa b a s' /\ aC v u /\ D.rt v a
def PE(X:Cx)(e:Expr)(t:TE):Prop:=
 ∀(aa:aT)(s:ai)(j:St)(H:Hp)(Q:VK),au X aa j H s->t j H Q->wpAny (model X.prog X.w) X.A (eval e X.env) (EP X aa j Q) X.xe s
def PT(X:Cx)(e:Expr)(t:TT):Prop:=
 ∀(aa:aT)(s:ai)(j:St)(H:Hp)(Q:Bool->Hp->Prop),au X aa j H s->t j H Q->wpAny (model X.prog X.w) X.A (isTrue e X.env (eval e X.env)) (TP X aa j Q) X.xe s
def PW(X:Cx)(e:Expr)(t:TT):Prop:=
 ∀(whole:Sem Value)(aa:aT)(s:ai)(j:St)(H:Hp)(Q:Bool->Hp->Prop),au X aa j H s->t j H Q->wpAny (model X.prog X.w) X.A (isTrue e X.env whole) (TP X aa j Q) X.xe s
theorem PW.pt(h:PW X e t):PT X e t:=h _
def PA(X:Cx)(a:bT)(t:TA):Prop:=
 ∀(pos:Pos)(aa:aT)(s:ai)(j:St)(H:Hp)(Q:ax->Hp->Prop),au X aa j H s->t j H Q->wpAny (model X.prog X.w) X.A (spliced (backTo pos (starEach a X.env))) (AP X aa j Q) X.xe s
def PS(X:Cx)(st:Stmt)(t:TS):Prop:=
 ∀(aa:aT)(s:ai)(j:St)(H:Hp)(D:g9),au X aa j H s->t D j H->wpAny (model X.prog X.w) X.A (exec st X.env) (SP X aa D) X.xe s
def fC(X:Cx)(st:List Stmt)(t:TS):Prop:=
 ∀(aa:aT)(s:ai)(j:St)(H:Hp)(D:g9),au X aa j H s->t D j H->wpAny (model X.prog X.w) X.A (execs st X.env) (SP X aa D) X.xe s
theorem bq{Q b:j->ai->Prop}(h:wpAny M A t Q E s)(c:∀a s,Q a s->b a s):wpAny M A t b E s:=wpAny_mono h c λ_ _ x=>x
section
variable{X:Cx}
def lQ(i:Nat):TE:=λj H Q=>∃v,j[i]?=some (some v)/\Q v H
def tC(v:V):TE:=λ_ H Q=>Q v H
theorem l9(n:X.N[i]?=some x)(hv:jz X.env.scope x)(hd: ~~~(cI x))(f: ~~~((x == ("__classdict__":Str))=false)):PE X (.Name x pos) (lQ i):=by
 intro aa s j H Q I h;∎;let⟨v,e,h⟩:=h;let⟨m,hn,o⟩:=I.loc;let⟨u,r,l⟩:=o i x v n e hv;∎;have b:EP X aa j Q u s:=⟨v,H,I,r,h⟩;rcases l with⟨d,hm⟩ |⟨d,c,g,a⟩
 .exact wpAny_Name (wpAny_loadName_local I.ok.kind d hn hm b) hd
 .rcases d with d |d
  .exact wpAny_Name (wpAny_loadName_cell I.ok.kind d g a b) hd
  .exact wpAny_Name (wpAny_loadName_free I.ok.kind d g a b f) hd
theorem ZR{i j pos}:PE X (.Constant (.int i) j pos) (tC (.int i)):=λ_ _ _ H _ I h=>wpAny_Constant_int ⟨.int i,H,I.tok _,⟨_,rfl⟩,h⟩
theorem K3{b j pos}:PE X (.Constant (.bool b) j pos) (tC (.bl b)):=λ_ _ _ H _ I h=>Constant_bool ⟨.bl b,H,I,rfl,h⟩
theorem ZS{x j pos}:PE X (.Constant (.str x) j pos) (tC (.str x)):=λ_ _ _ H _ I h=>Calls.Constant_str ⟨.str x,H,I.tok _,⟨_,rfl⟩,h⟩
def Gl(X:Cx)(x:Str):Prop:=X.env.kindOf x=some .globalImplicit
theorem n9{Q:af->ai->Prop}(I:au X aa j H s)(a:Gl X x)(hm:X.mg x=some u)(h:Q u s)(hd: ~~~(cI x)):wpAny (model X.prog X.w) X.A (eval (.Name x pos) X.env) Q E s:=
 Calls.Name_function_global I.ok.kind a (Calls.loadGlobal_global (by rw[I.ok.glob];exact I.mod.glob.keeps I.bk) hm h) hd
theorem ri{Q:af->ai->Prop}(I:au X aa j H s)(c:Gl X x)(hm:X.mg x=none)(hv:bootBuiltins x=some u)(h:Q u s)(hn: ~~~(x≠"__name__"))(hd: ~~~(cI x)):wpAny (model X.prog X.w) X.A (eval (.Name x pos) X.env) Q E s:=by
 let⟨d,a,b⟩:=I.mod.blt;exact Calls.Name_function_global I.ok.kind c (Calls.loadGlobal_builtin (by rw[I.ok.glob];exact I.mod.glob.keeps I.bk) hm (by rw[I.ok.blt];exact a.keeps I.bk) ((b x hn).trans hv) h) hd
theorem Gq(a:Gl X x)(hm:X.mg x=some u)(r:aC v u)(hd: ~~~(cI x)):PE X (.Name x pos) (tC v):=
 λ_ _ _ H _ I h=>n9 I a hm ⟨v,H,I,r,h⟩ hd
theorem WW(a:Gl X x)(hm:X.mg x=none)(hv:bootBuiltins x=some u)(r:aC v u)(hn: ~~~(x≠"__name__"))(hd: ~~~(cI x)):PE X (.Name x pos) (tC v):=
 λ_ _ _ H _ I h=>ri I a hm hv ⟨v,H,I,r,h⟩ hn hd
variable{a b:Expr}{ta tb:TE}{pos:Pos}
def tB(t:TE):TT:=λj H Q=>t j H λx H1=>∃c,x=.bl c/\Q c H1
theorem ZT(h:PE X e t)(he:∀whole,isTrue e X.env whole=(do let v <- whole;standAt e.pos;holding [v] (truthy v)):=by intro _;rfl):PT X e (tB t):=by
 intro aa s j H Q I hw;refine isTrue_plain (bq (h aa s j H _ I hw) λv l c=>?_) (he _);∎;let⟨x,f,g,r1,i⟩:=c;let⟨d,rfl,q⟩:=i;∎;cases r1;exact wpAny_truthy_bool ⟨f,g,q⟩
variable{tA tB':TT}{rest:bT}
def Dx(t u:TT):TT:=λj H Q=>t j H λc d=>if c=true then u j d Q else Q false d
def IP(t u:TT):TT:=λj H Q=>t j H λc d=>if c=true then Q true d else u j d Q
def Dy(t:TT):TT:=λj H Q=>t j H λc H1=>Q (!c) H1
theorem XR(ha:PT X a tA):PW X (.BoolOp .And [a] pos) tA:=by
 intro f aa s j H Q I h;refine isTrue_and (bq (ha aa s j H Q I h) λc d e=>?_);cases c with
 |true=>exact isTrue_and_nil e
 |false=>exact e
theorem ZU(ha:PT X a tA):PW X (.BoolOp .Or [a] pos) tA:=by
 intro f aa s j H Q I h;refine isTrue_or (bq (ha aa s j H Q I h) λc d e=>?_);cases c with
 |false=>exact isTrue_or_nil e
 |true=>exact e
theorem ZV(ha:PT X a tA)(i:PW X (.BoolOp .And (b::rest) pos) tB'):PW X (.BoolOp .And (a::b::rest) pos) (Dx tA tB'):=by
 intro m aa s j H Q I h;refine isTrue_and (bq (ha aa s j H _ I h) λc l d=>?_);let⟨e,f,g⟩:=d;cases c with
 |true=>exact i m aa l j e Q f g
 |false=>exact⟨e,f,g⟩
theorem K4(ha:PT X a tA)(i:PW X (.BoolOp .Or (b::rest) pos) tB'):PW X (.BoolOp .Or (a::b::rest) pos) (IP tA tB'):=by
 intro m aa s j H Q I h;refine isTrue_or (bq (ha aa s j H _ I h) λc l d=>?_);let⟨e,f,g⟩:=d;cases c with
 |true=>exact⟨e,f,g⟩
 |false=>exact i m aa l j e Q f g
theorem ZW(ha:PT X a tA):PT X (.UnaryOp .Not a pos) (Dy tA):=by
 intro aa s j H Q I h;exact isTrue_not (ha aa s j H (λc d=>Q (!c) d) I h)
def Dl(ta tb:TE):TE:=λj H Q=>ta j H λx d=>∃c,x=.bl c/\if c=true then tb j d Q else Q (.bl false) d
def Dz(ta tb:TE):TE:=λj H Q=>ta j H λx d=>∃c,x=.bl c/\if c=true then Q (.bl true) d else tb j d Q
def Dm(ta:TE):TE:=λj H Q=>ta j H λx d=>∃c,x=.bl c/\Q (.bl (!c)) d
theorem ZX{op}(h:PE X a t):PE X (.BoolOp op [a] pos) t:=λaa s j H Q I hw=>BoolOp_one (h aa s j H Q I hw)
theorem ZY(ha:PE X a ta)(i:PE X (.BoolOp .And (b::rest) pos) tb):PE X (.BoolOp .And (a::b::rest) pos) (Dl ta tb):=by
 intro aa s j H Q I h;refine BoolOp_and (bq (ha aa s j H _ I h) λv l e=>?_);∎;let⟨x,f,g,r1,d⟩:=e;let⟨c,rfl,d⟩:=d;∎;cases r1;refine wpAny_truthy_bool ?_;cases c with
 |true=>exact i aa l j f Q g d
 |false=>exact⟨.bl false,f,g,rfl,d⟩
theorem K5(ha:PE X a ta)(i:PE X (.BoolOp .Or (b::rest) pos) tb):PE X (.BoolOp .Or (a::b::rest) pos) (Dz ta tb):=by
 intro aa s j H Q I h;refine BoolOp_or (bq (ha aa s j H _ I h) λv l e=>?_);∎;let⟨x,f,g,r1,d⟩:=e;let⟨c,rfl,d⟩:=d;∎;cases r1;refine wpAny_truthy_bool ?_;cases c with
 |false=>exact i aa l j f Q g d
 |true=>exact⟨.bl true,f,g,rfl,d⟩
theorem Y9(ha:PE X a ta):PE X (.UnaryOp .Not a pos) (Dm ta):=by
 intro aa s j H Q I h;refine UnaryOp_ (bq (ha aa s j H _ I h) λv i e=>?_);∎;let⟨x,f,g,r1,d⟩:=e;let⟨c,rfl,d⟩:=d;∎;cases r1;exact not_of (wpAny_truthy_bool ⟨.bl (!c),f,g,rfl,d⟩)
def IL(t:TT)(ta tb:TE):TE:=λj H Q=>t j H λc d=>if c=true then ta j d Q else tb j d Q
theorem UA(n:PT X c tA)(ha:PE X a ta)(m:PE X b tb):PE X (.IfExp c a b pos) (IL tA ta tb):=by
 intro aa s j H Q I h;refine wpAny_IfExp (bq (n aa s j H _ I h) λd l e=>?_);let⟨f,g,i⟩:=e;cases d with
 |true=>exact ha aa l j f Q g i
 |false=>exact m aa l j f Q g i
end
def bY(K:ak)(H:Hp)(a:ae)(xs:ax):Prop:=
 Rd H a (.av xs)\/
  ∃(o:Obj)(b:dh)(n:Nat),K.lookup a=some o/\o.cls=.type "list"/\o.dict=none/\o.data=.seq b n/\b.size<=sizeLine/\aL xs b.toList
def ck(K:ak)(H:Hp)(a:ae)(xs:ax):Prop:=
 Rd H a (.aA xs)\/
  ∃(o:Obj)(b:dh)(n:Nat),K.lookup a=some o/\o.cls=.type "tuple"/\o.data=.seq b n/\b.size<=sizeLine/\aL xs b.toList
def ND:af->Option V
 |.none=>some .aZ
 |.bool b=>some (.bl b)
 |.int i _=>some (.int i)
 |.str x _=>some (.str x)
 |.bytes b _=>some (.gg b)
 |.float b _=>some (.ka b)
 |.ref a=>some (.ref a)
 |.type n=>some (.ty n)
 |_=>none
theorem aC.abs(r:aC x u):ND u=some x:=by
 cases x with
 |aZ=>cases r;rfl
 |bl _=>cases r;rfl
 |int _=>let⟨t,rfl⟩:=r;rfl
 |str _=>let⟨t,rfl⟩:=r;rfl
 |gg _=>let⟨t,rfl⟩:=r;rfl
 |ka _=>let⟨t,rfl⟩:=r;rfl
 |ref _=>cases r;rfl
 |ty _=>cases r;rfl
theorem aC.inj(r:aC x u)(q:aC y u):x=y:=Option.some.inj (r.abs.symm.trans q.abs)
theorem aL.inj:∀{xs ys:ax}{us:aN},aL xs us->aL ys us->xs=ys
 |_,_,_,.nil,.nil=>rfl
 |_,_,_,.cons r t,.cons r' t'=>by rw[r.inj r',aL.inj t t']
section
variable{X:Cx}{aa:aT}{σ:St}{H:Hp}{s:ai}{a:ae}{xs ys:ax}
theorem bY.of{K:ak}(h:H a=some (.av xs)):bY K H a xs:=.inl (.inl h)
theorem ck.of{K:ak}(h:H a=some (.aA xs)):ck K H a xs:=.inl (.inl h)
theorem au.list(I:au X aa σ H s)(h:bY X.K H a xs):∃bo:aN,aL xs bo/\PlainL s.heap a bo.toArray/\xs.length<=sizeLine:=by
 rcases h with h |⟨o,bo,n,c,b,hd,d,f,r⟩
 .obtain⟨z,bo,n,r,e⟩:=h.ok I.aS;exact⟨bo,r,⟨_,n,e,rfl,rfl,rfl⟩,z⟩
 .refine⟨bo.toList,r,⟨o,n,I.cP a o c,b,hd,by simpa using d⟩,?_⟩;have e:=r.length;simp only[length_toList] at e;omega
theorem au.tuple(I:au X aa σ H s)(h:ck X.K H a xs):∃bo:aN,aL xs bo/\IsTup s.heap a bo.toArray/\xs.length<=sizeLine:=by
 rcases h with h |⟨o,bo,n,c,b,d,f,r⟩
 .obtain⟨z,bo,r,p⟩:=h.ok I.aS;exact⟨bo,r,p,z⟩
 .refine⟨bo.toList,r,⟨o,I.cP a o c,b,n,by simpa using d⟩,?_⟩;have e:=r.length;simp only[length_toList] at e;omega
theorem au.list_inj(I:au X aa σ H s)(h:bY X.K H a xs)(h':bY X.K H a ys):xs=ys:=by
 ∎;let⟨c,r,⟨o,n,e,_,_,d⟩,_⟩:=I.list h;let⟨b,i,⟨l,j,g,_,_,f⟩,_⟩:=I.list h';∎;rw[e] at g;cases g;rw[d] at f;injection f with d1 _
 have:c=b:=by simpa using congrArg Array.toList d1
 subst this;exact r.inj i
theorem au.hY(I:au X aa σ H s)(h:ck X.K H a xs)(h':ck X.K H a ys):xs=ys:=by
 ∎;let⟨c,r,⟨o,e,_,n,d⟩,_⟩:=I.tuple h;let⟨b,i,⟨l,g,_,j,f⟩,_⟩:=I.tuple h';∎;rw[e] at g;cases g;rw[d] at f;injection f with d1 _
 have:c=b:=by simpa using congrArg Array.toList d1
 subst this;exact r.inj i
end
abbrev Cx.e6(X:Cx)(E:af->ai->Prop):Cx:={ X with xe:=E }
abbrev Cx.o7(X:Cx):Cx:=X.e6 λ_ _=>False
theorem Cx.Ok.e6{X:Cx}(ok:X.Ok)(E:af->ai->Prop):(X.e6 E).Ok:=
 ⟨ok.mod,ok.kind,ok.glob,ok.blt,ok.above,ok.inj,ok.has,ok.oz,ok.hd,ok.frames,ok.se,ok.rm,ok.bs,ok.iz,ok.hX,ok.hV,ok.dR,ok.lh⟩
theorem Cx.Ok.cR{X:Cx}{E:af->ai->Prop}(ok:(X.e6 E).Ok):X.Ok:=
 ⟨ok.mod,ok.kind,ok.glob,ok.blt,ok.above,ok.inj,ok.has,ok.oz,ok.hd,ok.frames,ok.se,ok.rm,ok.bs,ok.iz,ok.hX,ok.hV,ok.dR,ok.lh⟩
section
variable{X:Cx}{aa:aT}{σ:St}{H:Hp}{s:ai}{E:af->ai->Prop}
theorem au.e6(I:au X aa σ H s)(E:af->ai->Prop):au (X.e6 E) aa σ H s:=⟨I.ok.e6 E,I.os,I.bare,I.base,I.loc,I.cell,I.free,I.cf,I.pin,I.aS,I.len⟩
theorem au.cR(I:au (X.e6 E) aa σ H s):au X aa σ H s:=⟨I.ok.cR,I.os,I.bare,I.base,I.loc,I.cell,I.free,I.cf,I.pin,I.aS,I.len⟩
theorem SP.cR(h:SP (X.e6 E) aa D f s'):SP X aa D f s':=by
 cases f with
 |next=>let⟨a,b,I,q⟩:=h;exact⟨a,b,I.cR,q⟩
 |brk=>let⟨a,b,I,q⟩:=h;exact⟨a,b,I.cR,q⟩
 |cont=>let⟨a,b,I,q⟩:=h;exact⟨a,b,I.cR,q⟩
 |ret u=>let⟨v,a,b,I,r,q⟩:=h;exact⟨v,a,b,I.cR,r,q⟩
theorem fC.o7{st:List Stmt}{t:TS}(h:fC X.o7 st t):fC X st t:=λaa s σ H D I hw=>
 wpAny_mono (h aa s σ H D (I.e6 _) hw) (λ_ _ q=>q.cR) λ_ _ z=>False.elim z
end
section
variable{X:Cx}{st:Stmt}{rest:List Stmt}{t u:TS}{e:Expr}{te:TE}{pos:Pos}
def Dn:TS:=λD j H=>D.nx j H
def DO(t u:TS):TS:=λD j H=>t { D with nx:=u D } j H
theorem XS:fC X [] Dn:=λ_ _ j H _ I h=>wpAny_execs_nil ⟨j,H,I,h⟩
theorem UB(c:PS X st t)(d:fC X rest u):fC X (st::rest) (DO t u):=by
 intro aa s j H D I h;refine wpAny_execs_cons (bq (c aa s j H { D with nx:=u D } I h) λf i q=>?_);cases f with
 |next=>
  let⟨g,a,b,q⟩:=q;exact d aa i g a D b q
 |ret v=>exact q
 |brk=>exact q
 |cont=>exact q
theorem XT(a:PS X st t):fC X [st] t:=by
 intro aa s j H D I h;refine wpAny_execs_cons (bq (a aa s j H D I h) λf b q=>?_);cases f with
 |next=>exact wpAny_execs_nil q
 |ret v=>exact q
 |brk=>exact q
 |cont=>exact q
theorem au.quiet(I:au X aa j H s):interactive X.env=false:=by simp[interactive,I.ok.kind]
def Dp(te:TE):TS:=λD j H=>te j H λ_ H1=>D.nx j H1
theorem XU(he:PE X e te)(hs:do swapsWith e none pos.line X.env=pure false):PS X (.Expr e pos) (Dp te):=by
 intro aa s j H D I h;exact wpAny_Expr_any (bq (he aa s j H _ I h) λv f a=>by let⟨x,b,c,r1,d⟩:=a;exact⟨j,b,c,d⟩) I.quiet hs
def xK(te:TE):TS:=λD j H=>te j H D.rt
theorem Hz(he:PE X e te):PS X (.Return (some e) pos) (xK te):=by
 intro aa s j H D I h;exact wpAny_Return_some (bq (he aa s j H _ I h) λv f a=>by let⟨x,b,c,r1,d⟩:=a;exact⟨x,j,b,c,r1,d⟩)
def xM(c:TT)(t u:TS):TS:=λD j H=>c j H λb a=>if b=true then t D j a else u D j a
theorem Jb(o:PT X c tc)(ha:fC X a t)(n:fC X b u):PS X (.If c a b pos) (xM tc t u):=by
 intro aa s j H D I h;refine wpAny_If (bq (o aa s j H _ I h) λd m f=>?_);let⟨g,i,l⟩:=f;cases d with
 |true=>exact ha aa m j g D i l
 |false=>exact n aa m j g D i l
def Ni:TS:=λ_ _ _=>False
theorem UC:PS X st Ni:=λ_ _ _ _ _ _ h=>h.elim
end
abbrev TG:=V->St->Hp->(St->Hp->Prop)->Prop
abbrev ny:=ax->St->Hp->(St->Hp->Prop)->Prop
def PG(X:Cx)(a:Expr)(t:TG):Prop:=
 ∀(aa:aT)(s:ai)(j:St)(H:Hp)(v:V)(u:af)(Q:St->Hp->Prop),au X aa j H s->aC v u->t v j H Q->
  wpAny (model X.prog X.w) X.A (assign a X.env u) (λ_ d=>∃c b,au X aa c b d/\Q c b) X.xe s
def pz(X:Cx)(d:bT)(t:ny):Prop:=
 ∀(aa:aT)(s:ai)(j:St)(H:Hp)(vs:ax)(us:aN)(Q:St->Hp->Prop),au X aa j H s->aL vs us->t vs j H Q->
  wpAny (model X.prog X.w) X.A (assignInOrder ((assignEach d X.env).map (·.2)) us) (λ_ c=>∃b a,au X aa b a c/\Q b a) X.xe s
abbrev DP:=V->V->V->Hp->(Hp->Prop)->Prop
def DQ(X:Cx)(t:DP):Prop:=
 ∀(aa:aT)(s:ai)(j:St)(H:Hp)(o i v:V)(c b u:af)(Q:Hp->Prop),au X aa j H s->aC o c->aC i b->aC v u->t o i v H Q->
  wpAny (model X.prog X.w) X.A (setItem c b u) (λ_ d=>∃a,au X aa j a d/\Q a) X.xe s
section
variable{X:Cx}{pos:Pos}
def lK(i:Nat):TG:=λv j H Q=>Q (j.set i (some v)) H
theorem Gs(b:X.N.Nodup)(d:X.N[i]?=some x)(e:Loc X.env.scope x)(c:kq X x:=by first |exact .inl rfl |exact .inr rfl |assumption):PG X (.Name x pos) (lK i):=by
 intro aa s j H v u Q I r h;exact wpAny_assign_Name (uk I b d e r (λf a=>⟨_,H,a,h⟩) c)
def DS:ny:=λvs j H Q=>vs=[]/\Q j H
def Dq(t:TG)(u:ny):ny:=λvs j H Q=>∃v r,vs=v::r/\t v j H λb a=>u r b a Q
theorem XW:pz X [] DS:=by
 intro aa s j H vs us Q I r h;let⟨e,h⟩:=h;subst e;cases r;exact assignInOrder_nil ⟨j,H,I,h⟩
theorem UD(f:PG X e t)(g:pz X es u)(hs:do (assignEach (e::es) X.env).map (·.2)=assign e X.env::(assignEach es X.env).map (·.2)):pz X (e::es) (Dq t u):=by
 intro aa s j H vs us Q I r h;let⟨v,o,d,h⟩:=h;subst d;cases r with
 |cons r m=>
  rw[hs];refine assignInOrder_cons (bq (f aa s j H _ _ _ I r h) λ_ n a=>?_);let⟨i,b,c,l⟩:=a;exact g aa n i b _ _ Q c m l
def DU(K:ak)(n:Nat)(t:ny):TG:=λv j H Q=>∃a b,v=.ref a/\ck K H a b/\b.length=n/\t b j H Q
theorem Za(l:X.calm=true)(h:pz X es t)(hn:do (assignEach es X.env).length=n)(c:do (assignEach es X.env).findIdx? (·.1)=none):PG X (.Tuple es k pos) (DU X.K n t):=by
 intro aa s j H v u Q I r hw;let⟨a,y,g,p,m,hw⟩:=hw;subst g;cases r;let⟨x,d,q,z⟩:=I.tuple p;refine assign_Tuple_tuple (I.ok.hd l) q (by simp[hn,<- m,d.length]) c λi w=>?_
 have f:au X aa j H { s with heap:=i }:=I.kept (t':=s.toks) λb o e=>w b o (ne_of_lt (Heap.lt_size e)) e
 exact h aa _ j H y _ Q f (by simpa using d) hw
def DV(e d:TE)(t:DP):TG:=λv j H Q=>e j H λo a=>d j a λi b=>t o i v b λc=>Q j c
theorem Zb(p:PE X o to)(n:PE X i ti)(hs:DQ X t)(ha:∀v,assign (.Subscript o i pos) X.env v=(do
   let b <- holding [v] (eval o X.env)
   let c <- holding [v,b] (eval i X.env)
   standAt pos
   holding [v,b,c] (setItem b c v)
   release [v,b,c] []):=by intro _;rfl):PG X (.Subscript o i pos) (DV to ti t):=by
 intro aa s j H v u Q I r h;rw[ha];refine wpAny_bind (wpAny_holding (bq (p aa s j H _ I h) λb A a=>?_));let⟨x,d,g,r1,q⟩:=a;refine wpAny_bind (wpAny_holding (bq (n aa A j d _ g q) λc B a=>?_));let⟨y,e,l,r2,w⟩:=a;refine wpAny_bind (wpAny_standAt (wpAny_bind (wpAny_holding (bq (hs aa B j e x y v b c u _ l r1 r2 r w) λ_ C a=>?_))));let⟨f,m,z⟩:=a;exact wpAny_release ⟨j,f,m,z⟩
def lT(b:TE)(g:TG):TS:=λD j H=>b j H λx a=>g x j a D.nx
theorem HB(he:PE X e te)(f:PG X tg g)(hs:do swapsWithSole [tg] e pos.line X.env=pure false)(hw:do swappedStores [tg] e X.env=pure none)(d:do (assignEach [tg] X.env).map (·.2)=[assign tg X.env]):PS X (.Assign [tg] e pos) (lT te g):=by
 intro aa s j H D I h;refine wpAny_Assign_stores (bq (he aa s j H _ I h) λv l a=>?_) hs hw;let⟨x,b,c,r1,i⟩:=a;rw[d];exact bq (f aa l j b x v _ c r1 i) λ_ m q=>q
theorem zB(f:X.N.Nodup)(l:X.N[i]?=some x)(m:Loc X.env.scope x)(he:PE X e te)(hs:do swapsWith e (some (.Name x pos')) pos.line X.env=pure false)(g:kq X x:=by first |exact .inl rfl |exact .inr rfl |assumption):
  PS X (.Assign [.Name x pos'] e pos) (lT te (lK i)):=by
 intro aa s j H D I h;refine wpAny_Assign_Name (bq (he aa s j H _ I h) λv o a=>?_) hs;let⟨y,b,c,r1,n⟩:=a;exact uk c f l m r1 (λp d=>⟨_,b,d,n⟩) g
def DX(i j:Nat)(b:TA):TS:=λD y H=>b y H λvs a=>∃v w,vs=[v,w]/\D.nx ((y.set i (some v)).set j (some w)) a
theorem Zc{kt k2 pt2}(Q:X.calm=true)(B:X.N.Nodup)(U:X.N[i]?=some x)(Y:X.N[j]?=some y)(g:i≠j)(C:X.env.scope.names.lookup x=some .local)(E:X.env.scope.names.lookup y=some .local)(ha:PA X [a,b] ta)(hw:swappedStores [.Tuple [.Name x px,.Name y py] kt pt] (.Tuple [a,b] k2 pt2) X.env=pure (some [x,y]))(hs:do swapsWithSole [.Tuple [.Name x px,.Name y py] kt pt] (.Tuple [a,b] k2 pt2) pos.line X.env=pure false):
  PS X (.Assign [.Tuple [.Name x px,.Name y py] kt pt] (.Tuple [a,b] k2 pt2) pos) (DX i j ta):=by
 intro aa s u H D I h;rw[exec_Assign_arm];refine wpAny_bind (wpAny_standAt ?_);rw[hs];refine wpAny_bind (wpAny_pure ?_);rw[if_neg ∎];refine wpAny_bind (Tuple_ (bq (ha _ aa s u H _ I h) λus c n=>?_));∎;let⟨vs,r,G,r1,m⟩:=n;let⟨v,w,O,m⟩:=m;∎;subst O;obtain⟨d,f,rfl,rv,eM⟩:∃d f,us=[d,f]/\aC v d/\aC w f:=by
  cases r1 with
  |cons p q=>
   cases q with
   |cons p' q'=>
    cases q';exact⟨_,_,rfl,p,p'⟩
 refine wpAny_newObj_type ?_ (by show 2<=sizeLine;decide);have J:au X aa u r { c with heap:=c.heap.push { cls:=.type "tuple",data:=.seq [d,f].toArray } }:=G.kept (t':=c.toks) λb o e=>Heap.get?_push_of_some _ e
 rw[hw];refine wpAny_bind (wpAny_pure ?_);show wpAny (model X.prog X.w) X.A (do rule "assign.swapped-stores";let items <- unpackItems (.ref ⇑c) 2 none;assignInOrder [λv=>bindName X.env y v,λv=>bindName X.env x v] items.reverse;pure Flow.next) _ _ _;refine wpAny_bind (wpAny_rule (wpAny_bind (unpackItems_tuple (items:=#[d,f]) (I.ok.hd Q) (IsTup.new c.heap _) λh' l=>?_)));have L:=J.kept (h':=h') (t':=c.toks) λb o e=>l b o (ne_of_lt (Heap.lt_size e)) e
 show wpAny _ _ (assignInOrder [λv=>bindName X.env y v,λv=>bindName X.env x v] [f,d] >>= λ_=>pure Flow.next) _ _ _;refine wpAny_bind (assignInOrder_cons (wpAny_bindName (uk L B Y (.inl E) eM (λs2 M=>?_) (.inr E))));refine assignInOrder_cons (wpAny_bindName (uk M B U (.inl C) rv (λs3 z=>assignInOrder_nil (wpAny_pure ?_)) (.inr C)));rw[List.set_comm _ _ (Ne.symm g)] at z;exact⟨_,r,z,m⟩
end
section
variable{X:Cx}{pos:Pos}
def CL(c:TT)(g:TS):TS:=λD j H=>∃W:Nat->St->Hp->Prop,(∃m,W m j H)/\∀m j H,W m j H->
 c j H λb d=>if b=true then ∃N:St->Hp->Prop,(∀e a,N e a->∃f,f<m/\W f e a)/\g { D with nx:=N,ct:=N,bk:=D.nx } j d else D.nx j d
theorem UE(C:PassesOwn (model X.prog X.w) X.A X.env X.xe)(L:PT X c tc)(J:fC X body tb):PS X (.While c body [] pos) (CL tc tb):=by
 intro aa s j H D I h;let⟨W,⟨M,Y⟩,e⟩:=h;refine wpAny_While (codeAny_whileLoop (λn O=>∃E u,au X aa E u O/\W n E u) ?_ M ⟨j,H,I,Y⟩);rintro n Q ⟨g,x,G,w1⟩;refine wpAny_passesOwn C (bq (L aa Q g x _ G (e n g x w1)) λb U r=>?_);let⟨y,z,i⟩:=r;cases b with
 |true=>
  let⟨N,B,i⟩:=i;rw[if_pos rfl];refine wpAny_passesOwn C (bq (J aa U g y _ z i) λf s3 l=>?_);cases f with
  |next=>
   ∎;let⟨d,a,m,p⟩:=l;let⟨o,hm,q⟩:=B d a p;∎;exact⟨o,hm,d,a,m,q⟩
  |cont=>
   ∎;let⟨d,a,m,p⟩:=l;let⟨o,hm,q⟩:=B d a p;∎;exact⟨o,hm,d,a,m,q⟩
  |brk=>exact l
  |ret v=>exact l
 |false=>
  rw[if_neg Bool.false_ne_true];exact wpAny_execs_nil ⟨g,y,z,i⟩
end
structure It where
 go:Nat->Hp->Prop
 ki:Nat->Hp->V->Hp->Prop
 stop:Nat->Hp->Prop
def gO(X:Cx)(aa:aT)(H:Hp)(b:ae):Prop:=
 H b=none/\b≠X.env.locals/\b ∉ X.fs/\(b∈X.ex\/⇑X.s₀<=b)/\(∀x c,X.env.cells.lookup x=some c->c≠b)/\∀p∈X.pn++aa,p.1≠b
theorem au.gC{H d:Hp}(I:au X aa j H s)(a:⇑s<=b)(hn:d b=none):gO X aa d b:=by
 refine⟨hn,ne_of_gt (lt_of_lt_of_le I.lt a),I.zR a,.inr (le_trans I.sz a),λx c e z=>?_,λp f z=>?_⟩
 .obtain⟨v,q⟩:=I.cell x c e;exact absurd (lt_of_lt_of_le q.lt (by rw[z];exact a)) (lt_irrefl _)
 .exact absurd (lt_of_lt_of_le (Heap.lt_size (I.pin p f).1) (by rw[z];exact a)) (lt_irrefl _)
structure kF(P:Program)(w:World)(K:ak)(tg:Expr)(J:It)(fp:b7)(it:ae)(tn:Nat->aP->Prop):Prop where
 mem:it∈fp
 obj:∀i h,tn i h->∀b∈fp,∃o,h.get? b=some o/\∀v,o.data≠.cell v
 keep:∀i h h',tn i h->(∀b∈fp,∀o,h.get? b=some o->h'.get? b=some o)->tn i h'
 item:∀(X:Cx),X.prog=P->X.w=w->X.K=K->X.calm=true->∀(i:Nat)(aa:aT)(s:ai)(j:St)(H:Hp)(E:af->ai->Prop),au X aa j H s->(∀b∈fp,gO X aa H b)->tn i s.heap->J.go i H->
  wpAny (model P w) X.A (pyNext (.ref it)) (λr s1=>∃u,r=some u/\
   wpAny (model P w) X.A (letOwnedTupleGo tg (.ref it) u) (λ_ s2=>∃x H',au X aa j H' s2/\aC x u/\J.ki i H x H'/\tn (i+1) s2.heap/\∀b∈fp,H' b=none) E s1) E s
 done:∀(X:Cx),X.prog=P->X.w=w->X.K=K->X.calm=true->∀(i:Nat)(aa:aT)(s:ai)(j:St)(H:Hp)(E:af->ai->Prop),au X aa j H s->(∀b∈fp,gO X aa H b)->tn i s.heap->J.stop i H->
  wpAny (model P w) X.A (pyNext (.ref it)) (λr s1=>r=none/\au X aa j H s1) E s
 self:∀(A:Around)(i:Nat)(s:ai)(Q:af->ai->Prop)(E:af->ai->Prop),tn i s.heap->Q (.ref it) s->wpAny (model P w) A (pyIter (.ref it)) Q E s
abbrev TI:=St->Hp->(It->Hp->Prop)->Prop
def AU(X:Cx)(aa:aT)(j:St)(g:Expr)(R:It->Hp->Prop)(c:af)(e:ai):Prop:=
 ∃(it:ae)(d:b7)(f:Nat->aP->Prop)(J:It)(a:Hp),c=.ref it/\au X aa j a e/\kF X.prog X.w X.K g J d it f/\f 0 e.heap/\(∀b∈d,gO X aa a b)/\R J a
def PI(X:Cx)(c a:Expr)(d:TI):Prop:=
 ∀(aa:aT)(s:ai)(j:St)(H:Hp)(R:It->Hp->Prop),au X aa j H s->d j H R->
  wpAny (model X.prog X.w) X.A (eval a X.env) (λv b=>wpAny (model X.prog X.w) X.A (pyIter v) (AU X aa j c R) X.xe b) X.xe s
theorem vq{Q:Unit->ai->Prop}(c:s.heap.get? it=some o)(b:o.cls=.type n)(hd:o.data=.fields vs)(hn:["enumerate","zip","dict_itemiterator","dict_reverseitemiterator","odict_iterator","itertools.zip_longest","itertools.pairwise"].contains n=false)(a:Q () s):wpAny M A (letOwnedTupleGo tg (.ref it) u) Q E s:=by
 unfold letOwnedTupleGo;cases tg<;>first
  |exact wpAny_pure a
  |(cases u<;>first
    |exact wpAny_pure a
    | (refine wpAny_bind (wpAny_load c ?_)
       rw[b,hd];show wpAny M A (if (["enumerate","zip","dict_itemiterator","dict_reverseitemiterator","odict_iterator","itertools.zip_longest","itertools.pairwise"].contains n&&vs[0]? == some (rawInt _))=true then _ else _) Q E s;rw[if_neg (by intro h;rw[hn,Bool.false_and] at h;cases h)];exact wpAny_pure a))
def sr(K:ak)(a:ae):It:=
 ⟨λi H=>∃b x,bY K H a b/\b[i]?=some x,λi H x c=>c=H/\∀b,bY K H a b->b[i]?=some x,λi H=>∃b,bY K H a b/\b.length<=i⟩
def su(K:ak)(a:ae):It:=
 ⟨λi H=>∃b x,ck K H a b/\b[i]?=some x,λi H x c=>c=H/\∀b,ck K H a b->b[i]?=some x,λi H=>∃b,ck K H a b/\b.length<=i⟩
def nt(lo:Int)(n:Nat):It:=⟨λi _=>i<n,λi H x a=>a=H/\x=.int (lo+i),λi _=>n<=i⟩
theorem Sq{P:Program}{w:World}{K:ak}{tg:Expr}(a it:ae):kF P w K tg (sr K a) [it] it (λi h=>h.IsListIter it a i) where
 mem:=by simp
 obj:=λi h st b f=>by
  have e:b=it:=by simpa using f
  subst e;let⟨o,e,c,d⟩:=st;exact⟨o,e,λv z=>by rw[d] at z;cases z⟩
 keep:=λi h l st k=>st.at λo e=>k it (by simp) o e
 item:=by
  intro X D hw C N i aa s j H E I m st G;subst D hw C;∎;let⟨xs,x,n,J⟩:=G;let⟨L,M,p,hz⟩:=I.list n;let⟨u,hu,ru⟩:=M.get J;let⟨q,r,U,y,A,B⟩:=m it (by simp);∎;refine wpAny_pyNext_list_item st p.isList (x:=u) (by simpa using hu) λl g sb=>?_
  have O:au X aa j H { s with heap:=l }:=I.turned (t':=s.toks) (λb o f e=>(sb.2 b f).trans e) q r y A B;let⟨o,e,c,d⟩:=id g;exact⟨u,rfl,vq (s:={ s with heap:=l }) e c d ∎ ⟨x,H,O,ru,⟨rfl,λys Y=>by rw[I.list_inj Y n];exact J⟩,g,λb f=>(m b f).1⟩⟩
 done:=by
  intro X D hw C N i aa s j H E I m st G;subst D hw C;∎;let⟨xs,n,J⟩:=G;let⟨L,M,p,hz⟩:=I.list n;let⟨q,r,U,y,A,B⟩:=m it (by simp);∎;have hl:=M.length;exact wpAny_pyNext_list_end (I.ok.hd N) st p.isList (by simp;omega) λl Q=>⟨rfl,I.turned (t':=s.toks) (λb o f e=>Q b o f e) q r y A B⟩
 self:=λ_ _ _ _ _ st h=>wpAny_pyIter_listiter st h
theorem Se{P:Program}{w:World}{K:ak}{tg:Expr}(a it:ae):kF P w K tg (su K a) [it] it (λi h=>h.IsTupleIter it a i) where
 mem:=by simp
 obj:=λi h st b f=>by
  have e:b=it:=by simpa using f
  subst e;let⟨o,e,c,d⟩:=st;exact⟨o,e,λv z=>by rw[d] at z;cases z⟩
 keep:=λi h m st k=>st.at λo e=>k it (by simp) o e
 item:=by
  intro X G hw D N i aa s j H E I n st J;subst G hw D;∎;let⟨xs,x,q,L⟩:=J;let⟨g,M,p,hz⟩:=I.tuple q;let⟨u,hu,ru⟩:=M.get L;let⟨r,y,U,A,B,C⟩:=n it (by simp);∎;refine wpAny_pyNext_tuple_item st (show s.heap.IsTuple a g.toArray from p) (x:=u) (by simpa using hu) λm l sb=>?_
  have O:au X aa j H { s with heap:=m }:=I.turned (t':=s.toks) (λb o f e=>(sb.2 b f).trans e) r y A B C;let⟨o,e,c,d⟩:=id l;exact⟨u,rfl,vq (s:={ s with heap:=m }) e c d ∎ ⟨x,H,O,ru,⟨rfl,λys Y=>by rw[I.hY Y q];exact L⟩,l,λb f=>(n b f).1⟩⟩
 done:=by
  intro X G hw D N i aa s j H E I n st J;subst G hw D;∎;let⟨xs,q,L⟩:=J;let⟨g,M,p,hz⟩:=I.tuple q;let⟨r,y,U,A,B,C⟩:=n it (by simp);∎;have hl:=M.length;exact wpAny_pyNext_tuple_end (I.ok.hd N) st (show s.heap.IsTuple a g.toArray from p) (by simp;omega) λm Q=>⟨rfl,I.turned (t':=s.toks) (λb o f e=>Q b o f e) r y A B C⟩
 self:=λ_ _ _ _ _ st h=>wpAny_pyIter_tupleiter st h
theorem Sg{P:Program}{w:World}{K:PySem.W.Frag}{J:Expr}(it:ae)(lo:Int)(n:Nat):kF P w K J (nt lo n) [it] it (λi h=>IsRangeIter h it (lo+(i:Nat)*1) ((n:Int) - (i:Nat)) 1) where
 mem:=by simp
 obj:=λi h st b a=>by
  have e:b=it:=by simpa using a
  subst e;exact⟨_,st,λv z=>by
   have L:Data.fields _=Data.cell v:=z;cases L⟩
 keep:=λi h d st k=>k it (by simp) _ st
 item:=by
  intro X u hw r x i aa s j H E I f st y;subst u hw r;let⟨g,l,D,m,p,q⟩:=f it (by simp);have W:=Walks.range (prog:=X.prog) (w:=X.w) (I.ok.hd x) it lo 1 n;refine W.item i s _ _ y st λv d A hv c G=>?_
  let⟨t,rfl⟩:=hv;have B:au X aa j H { s with heap:=d,toks:=A }:=I.turned (λb o a e=>G b o (by simpa using a) e) g l m p q;refine⟨_,rfl,vq (s:={ s with heap:=d,toks:=A }) (n:="range_iterator") c rfl rfl ∎ ⟨.int (lo+i),H,B,⟨t,?_⟩,⟨rfl,rfl⟩,c,λb a=>(f b a).1⟩⟩;rw[Int.mul_one]
 done:=by
  intro X u hw r x i aa s j H E I f st y;subst u hw r;let⟨g,l,D,m,p,q⟩:=f it (by simp);exact wpAny_pyNext_range_end (I.ok.hd x) st (by have:n<=i:=y;omega) λd C=>⟨rfl,I.turned (t':=s.toks) (λb o a e=>C b o a e) g l m p q⟩
 self:=λ_ _ _ _ _ st h=>wpAny_pyIter_rangeiter st h
section
variable{X:Cx}{tg:Expr}
def Dr(K:ak)(c:TE):TI:=λj H R=>c j H λx b=>∃a,x=.ref a/\(∃d,bY K b a d)/\R (sr K a) b
def DY(K:ak)(c:TE):TI:=λj H R=>c j H λx b=>∃a,x=.ref a/\(∃d,ck K b a d)/\R (su K a) b
theorem XX{l:Expr}{g:TE}(n:PE X l g):PI X tg l (Dr X.K g):=by
 intro aa s j H R I h;refine bq (n aa s j H _ I h) λv d f=>?_
 ∎;let⟨x,i,c,r1,w⟩:=f;let⟨a,e,⟨A,r⟩,q⟩:=w;∎;subst e;cases r1;let⟨u,z,p,y⟩:=c.list r;refine wpAny_pyIter_list p.isList ?_;refine⟨⇑d,[⇑d],_,_,i,rfl,c.kept (t':=d.toks) λb o e=>Heap.get?_push_of_some _ e,Sq a _,⟨_,Heap.get?_push_size _ rfl,rfl,rfl⟩,λb m=>?_,q⟩;have e:b=⇑d:=by simpa using m
 subst e;exact c.gC (le_refl _) (c.aS.fresh (le_refl _))
theorem Zd{l:Expr}{i:TE}(r:PE X l i):PI X tg l (DY X.K i):=by
 intro aa s j H R I h;refine bq (r aa s j H _ I h) λv c g=>?_
 ∎;let⟨x,m,d,r1,w⟩:=g;let⟨a,e,⟨A,u⟩,q⟩:=w;∎;subst e;cases r1;let⟨f,z,p,y⟩:=d.tuple u;refine wpAny_pyIter_tuple (show c.heap.IsTuple a f.toArray from p) ?_;refine⟨⇑c,[⇑c],_,_,m,rfl,d.kept (t':=c.toks) λb o e=>Heap.get?_push_of_some _ e,Se a _,⟨_,Heap.get?_push_size _ rfl,rfl,rfl⟩,λb n=>?_,q⟩;have e:b=⇑c:=by simpa using n
 subst e;exact d.gC (le_refl _) (d.aS.fresh (le_refl _))
theorem UG{aa:aT}{j:St}{H:Hp}{s:ai}{R:It->Hp->Prop}{E:af->ai->Prop}{lo a:Int}{t u v:Tok}{d:Nat}(I:au X aa j H s)(g:-(2 ^ 62)<=lo)(h:lo<2 ^ 62)(i:-(2 ^ 62)<=a)(l:a<2 ^ 62)(q:R (nt lo (a - lo).toNat) H):wpAny (model X.prog X.w) X.A (pyIter (.ref ⇑s)) (AU X aa j tg R) E { s with heap:=s.heap.push { cls:=.type "range",data:=.fields #[.int lo t,.int a u,.int 1 v] },toks:=d }:=by
 refine wpAny_pyIter_range (IsRange.new ..) (small_one g h i l) ?_;have c:au X aa j H { s with heap:=s.heap.push { cls:=.type "range",data:=.fields #[.int lo t,.int a u,.int 1 v] },toks:=d }:=I.kept λb o e=>Heap.get?_push_of_some _ e
 refine⟨(s.heap.push { cls:=.type "range",data:=.fields #[.int lo t,.int a u,.int 1 v] }).objs.size,[(s.heap.push { cls:=.type "range",data:=.fields #[.int lo t,.int a u,.int 1 v] }).objs.size],_,_,H,rfl,
  c.kept (t':=d) λb o e=>Heap.get?_push_of_some _ e,Sg _ lo (a - lo).toNat,?_,λb m=>?_,q⟩
 .have e1:lo+((0:Nat):Int)*1=lo:=by simp
  have f:(((a - lo).toNat:Nat):Int) - ((0:Nat):Int)=Builtin.Range.rangeSize lo a 1:=by rw[rangeSize_one];split<;>omega
  show IsRangeIter _ _ (lo+((0:Nat):Int)*1) ((((a - lo).toNat:Nat):Int) - ((0:Nat):Int)) 1;rw[e1,f];exact Heap.get?_push_size _ rfl
 .have e:b=(s.heap.push { cls:=.type "range",data:=.fields #[.int lo t,.int a u,.int 1 v] }).objs.size:=by simpa using m
  subst e;exact c.gC (le_refl _) (c.aS.fresh (le_refl _))
def Ds(b:TA):TI:=λy H R=>b y H λvs a=>∃j:Int,vs=[.int j]/\-(2 ^ 62)<=j/\j<2 ^ 62/\R (nt 0 j.toNat) a
theorem Sr{a:Expr}{d:TA}{p pos:Pos}(g:Gl X "range")(hm:X.mg "range"=none)(ha:PA X [a] d)(hs:do nv a X.env):PI X tg (.Call (.Name "range" p) [a] [] pos) (Ds d):=by
 intro aa s y H R I h;refine Call_ (ri I g hm boot_range (PyProof.Rows.callWith_type1 (bq (ha pos aa s y H _ I h) λus n c=>?_) hs rfl));∎;let⟨vs,m,f,r1,b⟩:=c;let⟨j,e,b,i,q⟩:=b;∎;subst e;cases r1 with
 |cons r l=>
  cases l;let⟨t,rfl⟩:=r;exact call_range_1 (UG f ⋯ ⋯ b i (by simpa using q))
def xN(l:TI)(g:TG)(h:TS):TS:=λD j H=>l j H λJ d=>∃W:Nat->Nat->St->Hp->Prop,(∃m,W 0 m j d)/\∀i m j H,W i m j H->
 (J.stop i H/\D.nx j H)\/(J.go i H/\∃N:St->Hp->Prop,(∀b a,N b a->∃c,c<m/\W (i+1) c b a)/\∀x a,J.ki i H x a->g x j a λf e=>h { D with nx:=N,ct:=N,bk:=D.nx } f e)
def qy(fp:b7)(h:aP):aT:=fp.filterMap λb=>(h.get? b).map λo=>(b,o)
theorem tZ(a:b∈fp)(e:h.get? b=some o):(b,o)∈qy fp h:=mem_filterMap.mpr ⟨b,a,by rw[e];rfl⟩
theorem Ss(d:p∈qy fp h):p.1∈fp/\h.get? p.1=some p.2:=by
 let⟨b,c,e⟩:=mem_filterMap.mp d;cases q:h.get? b with
 |none=>rw[q] at e;cases e
 |some o=>
  rw[q] at e;have a:(b,o)=p:=Option.some.inj e;subst a;exact⟨c,q⟩
theorem au.pinned(I:au X aa j H s)(i:∀b∈fp,gO X aa H b)(l:∀b∈fp,∃o,s.heap.get? b=some o/\∀v,o.data≠.cell v):au X (aa++qy fp s.heap) j H s:=
 I.eD λp m=>(mem_append.mp m).elim (λz=>I.pin p (mem_append_right _ z)) λz=>by
  ∎;let⟨c,e⟩:=Ss z;let⟨f,g,h,_⟩:=i p.1 c;let⟨o,a,d⟩:=l p.1 c;∎;rw[e] at a;cases a;exact⟨e,f,g,h,d⟩
theorem au.eQ(I:au X (aa++pl) j H s):au X aa j H s:=I.eD λp a=>I.pin p (mem_append_right _ (mem_append_left _ a))
theorem HC(L:PassesOwn (model X.prog X.w) X.A X.env X.xe)(hc:X.calm=true)(hi:PI X tg iter wi)(hg:PG X tg g)(p:fC X body tb)(hs:∀x,foldedSetIterable iter X.env x=pure x:=by intro _;rfl):PS X (.For tg iter body [] pos) (xN wi g tb):=by
 intro aa s j H D I h;refine wpAny_For (bq (hi aa s j H _ I h) λv s1 h1=>bq h1 λδ s2 h2=>?_) hs;let⟨it,E,tn,J,H2,e,I2,T,γ,f2,W,⟨m0,w0⟩,Y⟩:=h2;subst e;have y:∀{z:Hp},(∀b∈E,z b=none)->∀b∈E,gO X aa z b:=λhn b p=>⟨hn b p,(f2 b p).2⟩
 refine codeAny_forLoop_any (λn s'=>∃i M z,au X aa M z s'/\tn i s'.heap/\(∀b∈E,z b=none)/\W i n M z) ?_ m0 ⟨0,j,H2,I2,γ,λb p=>(f2 b p).1,w0⟩;rintro n s3 ⟨i,O,H3,I3,U,G,w3⟩;rcases Y i n O H3 w3 with⟨stop,qn⟩ |⟨go,N,hN,step⟩
 .refine wpAny_passesOwn L (bq (T.done X rfl rfl rfl hc i aa s3 O H3 X.xe I3 (y G) U stop) λr s4 a=>?_);let⟨hr,I4⟩:=a;subst hr;exact wpAny_execs_nil ⟨O,H3,I4,qn⟩
 .refine wpAny_passesOwn L (bq (T.item X rfl rfl rfl hc i aa s3 O H3 X.xe I3 (y G) U go) λr s4 a=>?_);let⟨u,hr,h4⟩:=a;subst hr;refine wpAny_passesOwn L (bq h4 λ_ s5 a=>?_);let⟨x,H5,I5,r5,y5,C,β⟩:=a;have α:=I5.pinned (y β) (T.obj _ _ C);refine wpAny_passesOwn L (bq (hg _ s5 O H5 x u _ α r5 (step x H5 y5)) λ_ s6 a=>?_);let⟨j6,H6,I6,q6⟩:=a;refine wpAny_passesOwn L (bq (p _ s6 j6 H6 _ I6 q6) λf s7 B=>?_);have again:∀{q:St}{c:Hp},au X (aa++qy E s5.heap) q c s7->N q c->∃m,m<n/\∃i M z,au X aa M z s7/\tn i s7.heap/\(∀b∈E,z b=none)/\W i m M z:=λ{q c} l Q=>by
   let⟨m',hm,w7⟩:=hN q c Q;refine⟨m',hm,i+1,q,c,l.eQ,T.keep _ _ _ C λb p o e=>(l.pin (b,o) (mem_append_right _ (mem_append_right _ (tZ p e)))).1,λb p=>?_,w7⟩;let⟨o,e,d⟩:=T.obj _ _ C b p;exact (l.pin (b,o) (mem_append_right _ (mem_append_right _ (tZ p e)))).2.1
  cases f with
  |next=>let⟨q,c,l,Q⟩:=B;exact again l Q
  |cont=>let⟨q,c,l,Q⟩:=B;exact again l Q
  |brk=>let⟨q,c,l,B⟩:=B;exact⟨q,c,l.eQ,B⟩
  |ret v=>let⟨x7,q,c,l,r7,B⟩:=B;exact⟨x7,q,c,l.eQ,r7,B⟩
end
abbrev R2:=V->V->Hp->VK->Prop
def b6(X:Cx)(f:af->af->Sem Value)(r:R2):Prop:=
 ∀(aa:aT)(s:ai)(j:St)(H:Hp)(x y:V)(v u:af)(Q:VK),au X aa j H s->aC x v->aC y u->r x y H Q->
  wpAny (model X.prog X.w) X.A (f v u) (EP X aa j Q) X.xe s
def v7(X:Cx)(f:af->Sem Value)(r:V->Hp->VK->Prop):Prop:=
 ∀(aa:aT)(s:ai)(j:St)(H:Hp)(x:V)(v:af)(Q:VK),au X aa j H s->aC x v->r x H Q->
  wpAny (model X.prog X.w) X.A (f v) (EP X aa j Q) X.xe s
def bA(X:Cx)(f:af)(r:ax->Hp->VK->Prop):Prop:=
 ∀(aa:aT)(s:ai)(j:St)(H:Hp)(a:ax)(us:aN)(Q:VK),au X aa j H s->aL a us->r a H Q->
  wpAny (model X.prog X.w) X.A (call f us) (EP X aa j Q) X.xe s
def o9(r:R2)(c d:TE):TE:=λj H Q=>c j H λx a=>d j a λy b=>r x y b Q
def IS(r:V->Hp->VK->Prop)(b:TE):TE:=λj H Q=>b j H λx a=>r x a Q
def rI(C:Int->Int->Prop)(g:Int->Int->V):R2:=λx y H Q=>∃i j,x=.int i/\y=.int j/\C i j/\Q (g i j) H
def gH(g:Int->Int->V):R2:=λx y H Q=>∃i j,x=.int i/\y=.int j/\Q (g i j) H
def rU(g:Int->V):V->Hp->VK->Prop:=λx H Q=>∃i,x=.int i/\Q (g i) H
section
variable{X:Cx}{a b c:Expr}{ta tb tc:TE}{pos:Pos}
theorem AB(ha:PE X a ta)(p:PE X b tb){R:V->V->Hp->Prop}(I:au X aa j H s)(h:ta j H λx m=>tb j m λy e=>R x y e){f:af->af->Sem Value}(q:∀v u l x y e,au X aa j e l->aC x v->aC y u->R x y e->wpAny (model X.prog X.w) X.A (f v u) Q X.xe l):
  wpAny (model X.prog X.w) X.A (eval a X.env) (λv g=>wpAny (model X.prog X.w) X.A (eval b X.env) (λu i=>wpAny (model X.prog X.w) X.A (f v u) Q X.xe i) X.xe g) X.xe s:=by
 refine bq (ha aa s j H _ I h) λv B d=>?_
 let⟨x,m,n,r1,r⟩:=d;refine bq (p aa B j m _ n r) λu l d=>?_
 let⟨y,e,o,r2,z⟩:=d;exact q v u l x y e o r1 r2 z
theorem K6(g:b6 X (binaryOp op) r)(ha:PE X a ta)(f:PE X b tb):PE X (.BinOp a op b pos) (o9 r ta tb):=by
 intro aa s j H Q I h;exact wpAny_BinOp (AB ha f I h λv u m x y d e i l q=>g aa m j d x y v u Q e i l q)
theorem K7(g:v7 X (unaryOp op) r)(ha:PE X a ta):PE X (.UnaryOp op a pos) (IS r ta):=by
 intro aa s j H Q I h;exact UnaryOp_ (bq (ha aa s j H _ I h) λv l d=>by let⟨x,e,f,r1,i⟩:=d;exact g aa l j e x v Q f r1 i)
theorem vD{f:af->af->Sem Value}{C:Int->Int->Prop}{g:Int->Int->Int}(rule:∀(i j:Int)(t u:Tok)(s:ai)(Q:af->ai->Prop)(E:af->ai->Prop),C i j->Q (.int (g i j) s.toks) { s with toks:=s.toks+1 }->wpAny (model X.prog X.w) X.A (f (.int i t) (.int j u)) Q E s):
  b6 X f (rI C λi j=>.int (g i j)):=by
 intro aa s G H x y v u Q I e l h;∎;let⟨i,j,rfl,rfl,d,q⟩:=h;let⟨t,rfl⟩:=e;let⟨m,rfl⟩:=l;∎;exact rule i j t m s _ _ d ⟨.int (g i j),H,I.tok _,⟨_,rfl⟩,q⟩
theorem Jy{f:af->af->Sem Value}{g:Int->Int->Int}(rule:∀(i j:Int)(t u:Tok)(s:ai)(Q:af->ai->Prop)(E:af->ai->Prop),Q (.int (g i j) s.toks) { s with toks:=s.toks+1 }->wpAny (model X.prog X.w) X.A (f (.int i t) (.int j u)) Q E s):
  b6 X f (gH λi j=>.int (g i j)):=by
 intro aa s G H x y v u Q I d e h;∎;let⟨i,j,rfl,rfl,q⟩:=h;let⟨t,rfl⟩:=d;let⟨l,rfl⟩:=e;∎;exact rule i j t l s _ _ ⟨.int (g i j),H,I.tok _,⟨_,rfl⟩,q⟩
theorem vB{f:af->af->Sem Value}{g:Int->Int->Bool}(rule:∀(i j:Int)(t u:Tok)(s:ai)(Q:af->ai->Prop)(E:af->ai->Prop),Q (.bool (g i j)) s->wpAny (model X.prog X.w) X.A (f (.int i t) (.int j u)) Q E s):
  b6 X f (gH λi j=>.bl (g i j)):=by
 intro aa s G H x y v u Q I d e h;∎;let⟨i,j,rfl,rfl,q⟩:=h;let⟨t,rfl⟩:=d;let⟨l,rfl⟩:=e;∎;exact rule i j t l s _ _ ⟨.bl (g i j),H,I,rfl,q⟩
def qM(i j:Int):Prop:=0<=j/\j<=1000000/\i.natAbs<2 ^ 64
def jw(i j:Int):Prop:=(-(2 ^ 64)<i/\i<2 ^ 64)\/(-(2 ^ 64)<j/\j<2 ^ 64)
theorem jw.ok(h:jw i j):IntMulOk i j:=by
 rcases h with⟨d,e⟩ |⟨d,e⟩
 .exact .of_left (intBits_le_64 d e)
 .exact .of_right (intBits_le_64 d e)
theorem Nj:b6 X (binaryOp .Add) (gH λi j=>.int (i+j)):=Jy λ_ _ _ _ _ _ _ q=>add_int q
theorem Ze:b6 X (binaryOp .Sub) (gH λi j=>.int (i - j)):=Jy λ_ _ _ _ _ _ _ q=>sub_int q
theorem Zf:b6 X (binaryOp .Mod) (rI (λ_ j=>0<j) λi j=>.int (i % j)):=vD λi j _ _ _ _ _ d q=>by
 have e:(0:Int)<j:=d;exact mod_int' ⋯ (by rw[Int.fmod_eq_emod_of_nonneg i ⋯];exact q)
theorem Zg:b6 X (binaryOp .Pow) (rI qM λi j=>.int (i ^ j.toNat)):=vD λ_ _ _ _ _ _ _ d q=>pow_int_small d.1 d.2.1 d.2.2 q
theorem WH{f:af->Sem Value}{g:Int->Int}(rule:∀(i:Int)(t:Tok)(s:ai)(Q:af->ai->Prop)(E:af->ai->Prop),Q (.int (g i) s.toks) { s with toks:=s.toks+1 }->wpAny (model X.prog X.w) X.A (f (.int i t)) Q E s):
  v7 X f (rU λi=>.int (g i)):=by
 intro aa s j H x v Q I d h;∎;let⟨i,rfl,q⟩:=h;let⟨t,rfl⟩:=d;∎;exact rule i t s _ _ ⟨.int (g i),H,I.tok _,⟨_,rfl⟩,q⟩
theorem Zh:v7 X (unaryOp .USub) (rU λi=>.int (-i)):=WH λ_ _ _ _ _ q=>neg_int q
end
def xO:V->V->Bool
 |.aZ,.aZ=>true |.aZ,.int _=>true |.int _,.aZ=>true |.aZ,.bl _=>true |.bl _,.aZ=>true |.aZ,.str _=>true |.str _,.aZ=>true
 |.int _,.int _=>true |.bl _,.bl _=>true |.str _,.str _=>true |.gg _,.gg _=>true
 |.int _,.str _=>true |.str _,.int _=>true |.bl _,.str _=>true |.str _,.bl _=>true
 |_,_=>false
def Az:R2:=λx y H Q=>xO x y=true/\Q (.bl (decide (x=y))) H
def AA:R2:=λx y H Q=>xO x y=true/\Q (.bl (!decide (x=y))) H
theorem Gu:decide (V.int i=V.int j)=(i == j):=by
 rw[Bool.eq_iff_iff];simp
theorem HD:decide (V.bl i=V.bl j)=(i == j):=by
 rw[Bool.eq_iff_iff];simp
theorem Gv:decide (V.str i=V.str j)=(i == j):=by
 rw[Bool.eq_iff_iff];simp
theorem Gw:decide (V.gg i=V.gg j)=(i.toList == j.toList):=by
 rw[Bool.eq_iff_iff];cases i;cases j;simp
section
variable{X:Cx}{a b c:Expr}{ta tb tc:TE}{pos:Pos}
theorem cX{Q:VK}(I:au X aa j H s)(q:Q (.bl k) H)(e:k=k'):EP X aa j Q (.bool k') s:=by
 subst e;exact⟨.bl k,H,I,rfl,q⟩
theorem Nx:b6 X (compareOp .Eq) Az:=by
 intro aa s G H x y v u Q I g d h;let⟨f,q⟩:=h;cases x with
 |aZ=>
  cases g;cases y with
  |aZ=>cases d;exact PySem.EqNone.eq_none_none (cX I q (by simp))
  |bl j=>cases d;exact PySem.EqNone.eq_none_bool (cX I q (by simp))
  |int j=>let⟨e,rfl⟩:=d;exact PySem.EqNone.eq_none_int (cX I q (by simp))
  |str j=>let⟨e,rfl⟩:=d;exact PySem.EqNone.eq_none_str (cX I q (by simp))
  |_=>exact absurd (show false=true from f) Bool.false_ne_true
 |bl i=>
  cases g;cases y with
  |aZ=>cases d;exact PySem.EqNone.eq_bool_none (cX I q (by simp))
  |bl j=>cases d;exact eq_bool (cX I q HD)
  |str j=>let⟨e,rfl⟩:=d;exact PySem.EqMixed.eq_bool_str (cX I q (by simp))
  |_=>exact absurd (show false=true from f) Bool.false_ne_true
 |int i=>
  let⟨t,rfl⟩:=g;cases y with
  |aZ=>cases d;exact PySem.EqNone.eq_int_none (cX I q (by simp))
  |int j=>let⟨e,rfl⟩:=d;exact eq_int (cX I q Gu)
  |str j=>let⟨e,rfl⟩:=d;exact PySem.EqMixed.eq_int_str (cX I q (by simp))
  |_=>exact absurd (show false=true from f) Bool.false_ne_true
 |str i=>
  let⟨t,rfl⟩:=g;cases y with
  |aZ=>cases d;exact PySem.EqNone.eq_str_none (cX I q (by simp))
  |bl j=>cases d;exact PySem.EqMixed.eq_str_bool (cX I q (by simp))
  |int j=>let⟨e,rfl⟩:=d;exact PySem.EqMixed.eq_str_int (cX I q (by simp))
  |str j=>let⟨e,rfl⟩:=d;exact eq_str (cX I q Gv)
  |_=>exact absurd (show false=true from f) Bool.false_ne_true
 |gg i=>
  let⟨t,rfl⟩:=g;cases y with
  |gg j=>let⟨e,rfl⟩:=d;exact W.eq_bytes (cX I q Gw)
  |_=>exact absurd (show false=true from f) Bool.false_ne_true
 |_=>cases y <;> exact absurd (show false=true from f) Bool.false_ne_true
theorem Ny:b6 X (compareOp .NotEq) AA:=by
 intro aa s G H x y v u Q I g d h;let⟨f,q⟩:=h;cases x with
 |aZ=>
  cases g;cases y with
  |aZ=>cases d;exact PySem.EqNone.ne_none_none (cX I q (by simp))
  |bl j=>cases d;exact PySem.EqNone.ne_none_bool (cX I q (by simp))
  |int j=>let⟨e,rfl⟩:=d;exact PySem.EqNone.ne_none_int (cX I q (by simp))
  |str j=>let⟨e,rfl⟩:=d;exact PySem.EqNone.ne_none_str (cX I q (by simp))
  |_=>exact absurd (show false=true from f) Bool.false_ne_true
 |bl i=>
  cases g;cases y with
  |aZ=>cases d;exact PySem.EqNone.ne_bool_none (cX I q (by simp))
  |bl j=>cases d;exact ne_bool (cX I q (congrArg not HD))
  |str j=>let⟨e,rfl⟩:=d;exact PySem.EqMixed.ne_bool_str (cX I q (by simp))
  |_=>exact absurd (show false=true from f) Bool.false_ne_true
 |int i=>
  let⟨t,rfl⟩:=g;cases y with
  |aZ=>cases d;exact PySem.EqNone.ne_int_none (cX I q (by simp))
  |int j=>let⟨e,rfl⟩:=d;exact ne_int (cX I q (congrArg not Gu))
  |str j=>let⟨e,rfl⟩:=d;exact PySem.EqMixed.ne_int_str (cX I q (by simp))
  |_=>exact absurd (show false=true from f) Bool.false_ne_true
 |str i=>
  let⟨t,rfl⟩:=g;cases y with
  |aZ=>cases d;exact PySem.EqNone.ne_str_none (cX I q (by simp))
  |bl j=>cases d;exact PySem.EqMixed.ne_str_bool (cX I q (by simp))
  |int j=>let⟨e,rfl⟩:=d;exact PySem.EqMixed.ne_str_int (cX I q (by simp))
  |str j=>let⟨e,rfl⟩:=d;exact ne_str (cX I q (congrArg not Gv))
  |_=>exact absurd (show false=true from f) Bool.false_ne_true
 |gg i=>
  let⟨t,rfl⟩:=g;cases y with
  |gg j=>let⟨e,rfl⟩:=d;exact W.ne_bytes (cX I q (congrArg not Gw))
  |_=>exact absurd (show false=true from f) Bool.false_ne_true
 |_=>cases y <;> exact absurd (show false=true from f) Bool.false_ne_true
theorem Nz:b6 X (compareOp .Lt) (gH λi j=>.bl (decide (i<j))):=vB λ_ _ _ _ _ _ _ q=>lt_int q
theorem oM:b6 X (compareOp .LtE) (gH λi j=>.bl (decide (i<=j))):=vB λ_ _ _ _ _ _ _ q=>le_int q
theorem NA:b6 X (compareOp .Gt) (gH λi j=>.bl (decide (j<i))):=vB λ_ _ _ _ _ _ _ q=>gt_int q
theorem K8:b6 X (compareOp .GtE) (gH λi j=>.bl (decide (j<=i))):=vB λ_ _ _ _ _ _ _ q=>ge_int q
theorem Su:b6 X (compareOp .Lt) (λx y H Q=>∃i j,x=.str i/\y=.str j/\Q (.bl (decide (i.cps.toList<j.cps.toList))) H):=by
 intro aa s G H x y v u Q I d e h;∎;let⟨i,j,rfl,rfl,q⟩:=h;let⟨t,rfl⟩:=d;let⟨f,rfl⟩:=e;∎;exact lt_str (cX I q rfl)
theorem Fx:b6 X (compareOp .In) (λx y H Q=>∃i j,x=.str i/\y=.str j/\Q (.bl (!(Builtin.Str.occurrences j i 0 j.length 1).isEmpty)) H):=by
 intro aa s G H x y v u Q I d e h;∎;let⟨i,j,rfl,rfl,q⟩:=h;let⟨t,rfl⟩:=d;let⟨f,rfl⟩:=e;∎;exact in_str (cX I q rfl)
theorem b6.or{r d:R2}(h:b6 X f r)(h':b6 X f d):b6 X f (λx y H Q=>r x y H Q\/d x y H Q):=by
 intro aa s j H x y v u Q I e g q;rcases q with q |q
 .exact h aa s j H x y v u Q I e g q
 .exact h' aa s j H x y v u Q I e g q
theorem XY(g:b6 X (compareOp op) r)(ha:PE X a ta)(f:PE X b tb)(hm:behindInMarks op b=false):PE X (.Compare a [op] [b] pos) (o9 r ta tb):=by
 intro aa s j H Q I h;exact wpAny_Compare1 (AB ha f I h λv u m x y d e i l q=>g aa m j d x y v u Q e i l q) hm
def wX(t:TE):TT:=λj H Q=>t j H λx H'=>∃k,x=.bl k/\Q k H'
theorem Gx(f:b6 X (compareOp op) r)(ha:PE X a ta)(d:PE X b tb)(hm:behindInMarks op b=false):PT X (.Compare a [op] [b] pos) (wX (o9 r ta tb)):=by
 intro aa s j H Q I h;refine wpAny_isTrue_Compare1 (bq (ha aa s j H _ I h) λv g ⟨x,H1,I1,r1,q1⟩=>bq (d aa g j H1 _ I1 q1) λu i ⟨y,H2,I2,r2,q2⟩=>
  bq (f aa i j H2 x y v u _ I2 r1 r2 q2) λc l ⟨z,H3,I3,r3,k,e,q3⟩=>?_) hm
 subst e;cases r3;exact wpAny_truthy_bool ⟨H3,I3,q3⟩
def CM(r h:R2)(ta tb tc:TE):TE:=λj H Q=>ta j H λx e=>tb j e λy f=>r x y f λz d=>∃k,z=.bl k/\
 (if k=true then tc j d λi g=>h y i g Q else Q (.bl false) d)
theorem UH(B:b6 X (compareOp op) r)(f:b6 X (compareOp op') r')(ha:PE X a ta)(w:PE X b tb)(A:PE X c tc)(hm:lastMarks [op,op'] [b,c]=false:=by with_unfolding_all rfl):PT X (.Compare a [op,op'] [b,c] pos) (wX (CM r r' ta tb tc)):=by
 intro aa s j H Q I h;refine isTrue_chain (bq (ha aa s j H _ I h) λv G ⟨x,H1,I1,r1,q1⟩=>test_link (bq (w aa G j H1 _ I1 q1) λu J ⟨y,H2,I2,r2,q2⟩=>
  bq (B aa J j H2 x y v u _ I2 r1 r2 q2) λd L ⟨z,H3,I3,r3,k,e,q3⟩=>?_)) hm
 subst e;cases r3;refine wpAny_truthy_bool ?_;cases k with
 |false=>
  let⟨Y,p,C⟩:=q3;cases p;exact ite_ff ⟨H3,I3,C⟩
 |true=>
  refine ite_tt (test_last (bq (A aa L j H3 _ I3 q3) λN M g=>?_));let⟨O,l,n,r4,D⟩:=g;refine bq (f aa M j l y O u N _ n r2 r4 D) λU s5 i=>?_
  let⟨z2,m,o,r5,k2,q,E⟩:=i;subst q;cases r5;exact wpAny_truthy_bool ⟨m,o,E⟩
theorem rj:(sizeLine:Nat)<2 ^ 63:=by rw[sizeLine_eq];decide
theorem MS:b6 X (binaryOp .Add) (λx y H Q=>∃i j,x=.str i/\y=.str j/\i.length+j.length<=sizeLine/\Q (.str (i++j)) H):=by
 intro aa s G H x y v u Q I e f h;∎;let⟨i,j,rfl,rfl,d,q⟩:=h;let⟨t,rfl⟩:=e;let⟨g,rfl⟩:=f;∎;exact add_str (λg l=>⟨.str (i++j),H,I.tok _,⟨_,rfl⟩,q⟩) d
theorem iw(r:aL [x] us):∃u,us=[u]/\aC x u:=by
 cases r with
 |cons r1 r2=>cases r2;exact⟨_,rfl,r1⟩
theorem zS(r:aL [x,y] us):∃u d,us=[u,d]/\aC x u/\aC y d:=by
 cases r with
 |cons r1 r2=>
  cases r2 with
  |cons r3 r4=>cases r4;exact⟨_,_,rfl,r1,r3⟩
theorem qS:bA X (.builtin "abs") (λxs H Q=>∃i,xs=[.int i]/\Q (.int (if i<0 then -i else i)) H):=by
 intro aa s j H xs us Q I r h;∎;let⟨i,rfl,q⟩:=h;let⟨u,rfl,t,rfl⟩:=iw r;∎;exact call_abs_int λu d=>⟨.int (if i<0 then -i else i),H,I.tok _,⟨_,rfl⟩,q⟩
theorem n8:bA X (.type "str") (λxs H Q=>∃i,xs=[.int i]/\i.natAbs.log2<1920/\Q (.str (toString i)) H):=by
 intro aa s j H xs us Q I r h;∎;let⟨i,rfl,d,q⟩:=h;let⟨u,rfl,t,rfl⟩:=iw r;∎;exact PySem.P.str_of_int d ⟨.str _,H,I.tok _,⟨_,rfl⟩,q⟩
def DZ(K:ak)(x:V)(H:Hp)(n:Nat):Prop:=
 match x with
 |.str y=>y.length <= sizeLine /\ n=y.length
 |.gg y=>y.size <= sizeLine /\ n=y.size
 |.ref p=>(∃d,bY K H p d /\ n=d.length) \/ ∃d,ck K H p d /\ n=d.length
 |_=>False
theorem MO:bA X (.builtin "len") (λxs H Q=>∃x n,xs=[x]/\DZ X.K x H n/\Q (.int n) H):=by
 intro aa s j H xs us Q I r h;∎;let⟨x,n,rfl,e,q⟩:=h;let⟨u,rfl,o⟩:=iw r;∎;have z:=rj;have A:sizeLine=16777216:=sizeLine_eq;cases x with
 |str y=>
  let⟨t,rfl⟩:=o;obtain⟨v,f⟩:y.length<=sizeLine/\n=y.length:=e;subst f;exact len_str ⋯ ⟨.int _,H,I.tok _,⟨_,rfl⟩,q⟩
 |gg y=>
  let⟨t,rfl⟩:=o;obtain⟨v,f⟩:y.size<=sizeLine/\n=y.size:=e;subst f;exact W.len_bytes ⋯ ⟨.int _,H,I.tok _,⟨_,rfl⟩,q⟩
 |ref p=>
  cases o;have f:(∃xs,bY X.K H p xs/\n=xs.length)\/∃xs,ck X.K H p xs/\n=xs.length:=e;rcases f with⟨xs,g,f⟩ |⟨xs,g,f⟩
  .subst f;let⟨i,m,l,w⟩:=I.list g;have d:=m.length;exact Calls.call_len_list l.isList (by simp only[size_toArray];omega) ⟨.int xs.length,H,I.tok _,⟨_,by simp only[size_toArray];rw[d]⟩,q⟩
  .subst f;let⟨i,m,l,w⟩:=I.tuple g;have d:=m.length;exact len_tuple l (by simp only[size_toArray];omega) ⟨.int xs.length,H,I.tok _,⟨_,by simp only[size_toArray];rw[d]⟩,q⟩
 |_=>exact (show False from e).elim
end
structure fI(h:aP)(x dx C:ae)(mA:bD):Prop where
 obj:h.get? x=some (W.instObj C dx)
 ns:h.Ns1 dx mA
 ne:dx≠x
theorem Sv{h:aP}{c:ae}{f:bD}(n:h.Ns1 c f):∃od,h.get? c=some od/\∀name,W.lookIn name od=some (f name):=by
 let⟨o,d,m,j,hd,i,_,hm⟩:=n;refine⟨o,j,λname=>?_⟩;have e:=hm name;unfold nsFind findBy at e;rw[<- Array.find?_toList] at e;unfold W.lookIn;rw[hd];dsimp only;split
 .rename_i y q;rw[q] at e;exact congrArg some e
 .rename_i q;rw[q] at e;have a:d.toList.any (·.refKey)=false:=by
   rw[List.any_eq_false];intro y l;let⟨z,t,b⟩:=i y (Array.mem_toList_iff.mp l);simp[DictEntry.refKey,b]
  have g:¬ d.toList.any (·.refKey)=true:=by rw[a];exact Bool.false_ne_true
  rw[if_neg g];exact congrArg some e
theorem fI.look{a:bD}(I:fI h x dx C a):∃od,W.InstAt h x (W.instObj C dx) C (some od)/\∀name,W.lookIn name od=some (a name):=
 let ⟨od,ho,hl⟩:=Sv I.ns
 ⟨od,⟨I.obj,rfl,rfl,ho⟩,hl⟩
section
variable{prog:Program}{w:World}{A:Around}{E:af->ai->Prop}{s:ai}{K:ak}{x dx C f:ae}{mA:bD}{name:Str}{v:af}
theorem Gy{Q:af->ai->Prop}(X:K.In s.heap)(I:fI s.heap x dx C mA)(b:W.plainGet K C name=true)(c:W.hasDictIn K C=true)(ha:W.findIn K (.ref C) name=some none)(hv:mA name=some v)(a:W.handedIn v=true)(h:Q v { s with toks:=s.toks+1 }):
  wpAny (model prog w) A (getAttr (.ref x) name expr) Q E s:=by
 let⟨od,J,d⟩:=I.look;exact W.get_value X J (W.plainGet_of b).1 (W.findObj_own c ha rfl (by rw[d,hv])) a h
theorem FO{Q:af×aN->ai->Prop}(X:K.In s.heap)(I:fI s.heap x dx C mA)(a:W.plainGet K C name=true)(b:W.findIn K (.ref C) name=some (some (.ref f)))(d:W.isFn K (.ref f)=true)(hv:mA name=none)(h:Q (.ref f,[.ref x]) s):
  wpAny (model prog w) A (getMethod (.ref x) name pl) Q E s:=by
 let⟨od,J,c⟩:=I.look;exact W.method_fn X J (W.plainGet_of a).1 (W.plainGet_of a).2 b (beq_iff_eq.mp d) (by show (W.lookIn name od).map (·.isSome)=some false;rw[c,hv];rfl) h
theorem XZ{Q:Unit->ai->Prop}(X:K.In s.heap)(I:fI s.heap x dx C mA)(hs:W.findIn K (.ref C) "__setattr__"=some (some (.builtin "object.__setattr__")))(p:W.plainOver K C=true)(q:W.takerIn K C name=some none)(o:W.hasDictIn K C=true)(hw:PySem.Within mA ns)(hsz:ns.length<=sizeLine)(h:∀h',fI h' x dx C (λy=>if y=name then some v else mA y)->Heap.SameBut dx s.heap h'->Q () { s with heap:=h',toks:=s.toks+2 }):
  wpAny (model prog w) A (setAttr (.ref x) name v) Q E s:=by
 let⟨od,J,B⟩:=I.look;refine W.set_plain X J hs (W.osa_open (s:={ s with toks:=s.toks+1 }) (r:=none) X J p q λb=>?_);let⟨z,n,g⟩:=W.any_some o;have u:s.heap.get? x=some ⟨.ref C,some dx,.plain,#[]⟩:=I.obj;refine wpAny_bind (wpAny_pure (wpAny_bind (wpAny_bind (wpAny_loadPart u (wpAny_bind (W.Looks.here (s:={ s with toks:=s.toks+1 }) (W.looks_clsIn X n) ?_))))));rw[g];refine wpAny_pure (a:=some dx) (wpAny_bind (wpAny_pure (wpAny_bind ?_)));refine wpAny_nsSet1 (s:={ s with toks:=s.toks+1 }) I.ns λh' c d=>?_
 let⟨D,m,l,j,i,e⟩:=c.count (PySem.Within.cons name v hw);refine wpAny_bind (wpAny_lookBehind j (by rw[i];exact pastItsLine_dict (le_trans e (by rw[length_cons];omega))) ?_);exact wpAny_pure (h _ ⟨(d.2 _ (Ne.symm I.ne)).trans I.obj,c,I.ne⟩ d)
theorem UI(X:K.In s.heap)(hm:W.makesIn K C=true)(b:W.findIn K (.ref C) "__init__"=some (some (.ref f)))(a:W.typeIn K (.ref f)=some (.type "function"))(h:codeAny (model prog w) (A.under (.builtin "type.__call__" ⟨.ref C::vs,kw⟩)) (.call (.ref f) ⟨.ref (⇑s+1)::vs,kw⟩) (W.InitBack (⇑s+1) R)
   { s with heap:=(s.heap.push W.emptyDict).push (W.instObj C ⇑s) }):
  codeAny (model prog w) A (.call (.ref C) ⟨vs,kw⟩) R s:=by
 let⟨c,g,d,t,os⟩:=s;exact W.make_core (W.makes_of X hm) (W.looks_findIn X b) (λself=>W.bind_fn X self a) (.inl rfl) h
end
def eJ(f:Str)(v:V):List (Str×V)->List (Str×V)
 |[]=>[(f,v)]
 |(g,x)::r=>if g=f then (g,v)::r else (g,x)::eJ f v r
theorem EE(f g:Str)(v:V):∀fs:List (Str×V),(eJ f v fs).lookup g=if g=f then some v else fs.lookup g
 |[]=>by
  show List.lookup g [(f,v)]=_;by_cases h:g=f
  .have hb:(g == f)=true:=beq_iff_eq.mpr h;simp only[List.lookup,hb,if_pos h]
  .have hb:(g == f)=false:=beq_eq_false_iff_ne.mpr h;simp only[List.lookup,hb,if_neg h]
 |(k,x)::r=>by
  have b:=EE f g v r;rw[show eJ f v ((k,x)::r)=(if k=f then (k,v)::r else (k,x)::eJ f v r) from rfl];by_cases a:k=f
  .rw[if_pos a];by_cases h:g=k
   .have hb:(g == k)=true:=beq_iff_eq.mpr h;simp only[List.lookup,hb,if_pos (h.trans a)]
   .have hb:(g == k)=false:=beq_eq_false_iff_ne.mpr h;simp only[List.lookup,hb,if_neg (λe:g=f=>h (e.trans a.symm))]
  .rw[if_neg a];by_cases h:g=k
   .have hb:(g == k)=true:=beq_iff_eq.mpr h;simp only[List.lookup,hb,if_neg (λe:g=f=>a (h.symm.trans e))]
   .have hb:(g == k)=false:=beq_eq_false_iff_ne.mpr h;simp only[List.lookup,hb];exact b
theorem yd(f:Str)(v:V):∀fs:List (Str×V),f∈(eJ f v fs).map (·.1)/\∀g,g∈fs.map (·.1)->g∈(eJ f v fs).map (·.1)
 |[]=>⟨by simp[eJ],λg h=>by simp at h⟩
 |(k,x)::r=>by
  let⟨b,c⟩:=yd f v r;rw[show eJ f v ((k,x)::r)=(if k=f then (k,v)::r else (k,x)::eJ f v r) from rfl];by_cases a:k=f
  .rw[if_pos a];subst a;exact⟨by simp,λg h=>by simpa using h⟩
  .rw[if_neg a];refine⟨?_,λg h=>?_⟩
   .rw[map_cons];exact mem_cons_of_mem _ b
   .rw[map_cons] at h ⊢;rcases mem_cons.mp h with e |e
    .exact mem_cons.mpr (.inl e)
    .exact mem_cons_of_mem _ (c g e)
theorem EF(f:Str)(v:V):∀fs:List (Str×V),(eJ f v fs).length<=fs.length+1
 |[]=>by simp[eJ]
 |(k,x)::r=>by
  have b:=EF f v r;rw[show eJ f v ((k,x)::r)=(if k=f then (k,v)::r else (k,x)::eJ f v r) from rfl];by_cases a:k=f
  .rw[if_pos a,length_cons,length_cons];omega
  .rw[if_neg a,length_cons,length_cons];omega
theorem cj.some_of(r:cj (some v) o):∃u,o=some u/\aC v u:=by
 cases o with
 |none=>exact (show False from r).elim
 |some u=>exact⟨u,rfl,r⟩
theorem cj.none_of(r:cj none o):o=none:=by
 cases o with
 |none=>rfl
 |some u=>exact (show False from r).elim
theorem Fy(r:aC v u):W.handedIn u=true:=by
 cases v with
 |aZ=>cases (show u=Value.none from r);rfl
 |bl b=>cases (show u=Value.bool b from r);rfl
 |int i=>let⟨t,e⟩:=(show ∃t,u=Value.int i t from r);cases e;rfl
 |str x=>let⟨t,e⟩:=(show ∃t,u=Value.str x t from r);cases e;rfl
 |gg b=>let⟨t,e⟩:=(show ∃t,u=Value.bytes b t from r);cases e;rfl
 |ka b=>let⟨t,e⟩:=(show ∃t,u=Value.float b t from r);cases e;rfl
 |ref a=>cases (show u=Value.ref a from r);rfl
 |ty n=>cases (show u=Value.type n from r);rfl
section
variable{P:Program}{w:World}{H H':Hp}{h h':aP}{a C dx:ae}{fs fs':List (Str×V)}
theorem y8(aS:cS P w H h)(e:H a=some (.ins C dx fs)):∃b,fI h a dx C b/\(∀f,cj (fs.lookup f) (b f))/\PySem.Within b (fs.map (·.1))/\fs.length<=1000/\H dx=some (.own a):=by
 let⟨d,z,ne,ob,b,n,r,q⟩:=(show a8 P w H h a (.ins C dx fs) from aS a _ e);exact⟨b,⟨ob,n,ne⟩,r,q,z,d⟩
end
structure du(K:ak)(C:ae):Prop where
 pg:W.plainGet K C Str.empty=true
 hd:W.hasDictIn K C=true
 po:W.plainOver K C=true
 sa:W.findIn K (.ref C) "__setattr__"=some (some (.builtin "object.__setattr__"))
theorem du.get{K:ak}{C:ae}(c:du K C)(f:Str):W.plainGet K C f=true:=c.pg
def aD(K:ak)(C:ae)(f:Str):Prop:=W.findIn K (.ref C) f=some none
theorem aD.sf{K:ak}{C:ae}{f:Str}(n:aD K C f):W.takerIn K C f=some none:=by
 unfold W.takerIn;rw[show W.findIn K (.ref C) f=some none from n];rfl
structure hF(K:ak)(C:ae)(m:Str)(f:ae):Prop where
 at_:W.findIn K (.ref C) m=some (some (.ref f))
 fn:W.isFn K (.ref f)=true
 kp:W.keepIn K (.ref f)=true
section
variable{X:Cx}{aa:aT}{σ:St}{H:Hp}{s:ai}{a C dx:ae}{fs:List (Str×V)}{f:Str}{v:V}{A:Around}{E:af->ai->Prop}
theorem RK{Q:af->ai->Prop}(I:au X aa σ H s)(e:H a=some (.ins C dx fs))(c:du X.K C)(n:aD X.K C f)(l:fs.lookup f=some v)(h:∀u s',au X aa σ H s'->aC v u->Q u s'):wpAny (model X.prog X.w) A (getAttr (.ref a) f b) Q E s:=by
 ∎;let⟨g,O,r,_,_,_⟩:=y8 I.aS e;let⟨u,hu,d⟩:=cj.some_of (v:=v) (o:=g f) (by rw[<- l];exact r f);∎;exact Gy I.cP O (c.get f) c.hd n hu (Fy d) (h u _ (I.tok _) d)
theorem ED{Q:Unit->ai->Prop}(I:au X aa σ H s)(e:H a=some (.ins C dx fs))(c:du X.K C)(n:aD X.K C f)(L:fs.length<1000)(G:aC y u)(h:∀s',au X aa σ (aW H a (.ins C dx (eJ f y fs))) s'->Q () s'):wpAny (model X.prog X.w) A (setAttr (.ref a) f u) Q E s:=by
 let⟨j,O,r,l,_,i⟩:=y8 I.aS e;have D:(fs.map (·.1)).length<=sizeLine:=by rw[length_map,sizeLine_eq];omega
 refine XZ I.cP O c.sa c.po n.sf c.hd l D λm d J=>h _ ?_
 have hd:∃o,m.get? dx=some o:=let ⟨o,_,_,e',_⟩:=d.ns;⟨o,e'⟩
 refine I.write (x:=a) (e:=dx) (by rw[e];exact True.intro) (.inr i) (λb q p z=>(J.2 b p).trans z) hd ?_;refine⟨by rw[bR O.ne];exact i,?_,O.ne,d.obj,_,d.ns,λg=>?_,λg B=>?_⟩
 .have:=EF f y fs;omega
 .show cj ((eJ f y fs).lookup g) (if g=f then some u else j g);rw[EE];by_cases q:g=f
  .rw[if_pos q,if_pos q];exact G
  .rw[if_neg q,if_neg q];exact r g
 .by_cases q:g=f
  .rw[q];exact (yd f y fs).1
  .refine (yd f y fs).2 g (l g λz=>B ?_);show (if g=f then some u else j g)=none;rw[if_neg q];exact z
theorem au.made(I:au X aa σ H s):au X aa σ (aW (aW H ⇑s (.own (⇑s+1))) (⇑s+1) (.ins C ⇑s []))
  { s with heap:=(s.heap.push W.emptyDict).push (W.instObj C ⇑s) }:=by
 have c:(s.heap.push W.emptyDict).get? ⇑s=some W.emptyDict:=Heap.get?_push_size s.heap rfl;have g:((s.heap.push W.emptyDict).push (W.instObj C ⇑s)).get? (⇑s+1)=some (W.instObj C ⇑s):=by
  have:=Heap.get?_push_size (s.heap.push W.emptyDict) (o:=W.instObj C ⇑s) rfl;rwa[Heap.size_push] at this
 have h:(s.heap.push W.emptyDict).Ns ⇑s (λ_=>none):=⟨W.emptyDict,#[],_,c,rfl,(λe i=>absurd i (by simp)),λ_=>rfl⟩
 have d:=I.laid (a:=⇑s) (o:=.own (⇑s+1)) (h':=s.heap.push W.emptyDict) (t':=s.toks) (λb u q=>Heap.get?_push_of_some _ q) (le_refl _) ⟨_,c⟩;refine d.laid (a:=⇑s+1) (o:=.ins C ⇑s []) (t':=s.toks) (λb u q=>Heap.get?_push_of_some _ q) (Nat.le_of_eq (Heap.size_push _ _)) ?_;have ne:⇑s≠⇑s+1:=ne_of_lt (lt_succ_self _);refine⟨by rw[bR ne,fb],zero_le _,ne,g,λ_=>none,(Heap.Ns1.of_empty h).at λo q=>Heap.get?_push_of_some _ q,λ_=>True.intro,λy j=>absurd rfl j⟩
theorem X0(c:attributeBase e f env (eval e env)=eval e env)(h:wpAny (model prog w) A (eval e env) (λo b=>wpAny (model prog w) A (getAttr o f true) Q E b) E s):wpAny (model prog w) A (eval (.Attribute e f pos) env) Q E s:=
 Attribute_any_ h (by rw[arm_eval_Attribute,c])
end
def D0(K:ak)(e g:TE)(f:Str):TS:=λD j H=>g j H λy d=>e j d λx b=>∃a C c fs,x=.ref a/\b a=some (.ins C c fs)/\du K C/\aD K C f/\fs.length<1000/\
 D.nx j (aW b a (.ins C c (eJ f y fs)))
def D1(X:Cx)(a:Operator)(rd:V->V->Hp->VK->Prop):Prop:=
 ∀(aa:aT)(s:ai)(j:St)(H:Hp)(x y:V)(u v:af)(Q:VK),au X aa j H s->aC x u->aC y v->rd x y H Q->wpAny (model X.prog X.w) X.A (inplaceOp a u v) (EP X aa j Q) X.xe s
def CC(K:ak)(i l:TE)(rd:V->V->Hp->VK->Prop)(f:Str):TS:=λD j H=>i j H λx d=>∃a C h fs v,x=.ref a/\d a=some (.ins C h fs)/\du K C/\aD K C f/\fs.lookup f=some v/\
 l j d λy g=>rd v y g λz e=>∃c b,e a=some (.ins C c b)/\b.length<1000/\D.nx j (aW e a (.ins C c (eJ f z b)))
section
variable{X:Cx}{o e value:Expr}{f:Str}{pos pos' tpos:Pos}{ta tv:TE}
theorem Zi(ha:PE X o ta)(hv:PE X value tv)(hs:swapsWith value (some (.Attribute o f pos')) pos.line X.env=pure false):PS X (.Assign [.Attribute o f pos'] value pos) (D0 X.K ta tv f):=by
 intro aa s j H D I h;refine plainObj_wpAny_Assign_Attribute (bq (hv aa s j H _ I h) λu B b=>?_) hs;let⟨y,g,i,A,q⟩:=b;refine bq (ha aa B j g _ i q) λv J d=>?_
 let⟨x,E,m,z,a,C,G,fs,ex,r,c,n,l,w⟩:=d;subst ex;obtain rfl:v=Value.ref a:=z;exact ED m r c n l A λL p=>⟨j,_,p,w⟩
theorem Sw(ha:PE X o ta)(hv:PE X value tv)(g:D1 X op rd):PS X (.AugAssign (.Attribute o f tpos) op value pos) (CC X.K ta tv rd f):=by
 intro aa s j H D I h;refine wpAny_AugAssign_AttributeAny (bq (ha aa s j H _ I h) λN s1 b=>?_);let⟨x,m,r,Y,a,C,dx,fs,v,ex,J,c,n,l,q⟩:=b;subst ex;obtain rfl:N=Value.ref a:=Y;refine RK r J c n l λu s2 w U=>bq (hv aa s2 j m _ w q) λw3 s3 b=>?_
 let⟨y,p,A,ry,O⟩:=b;refine bq (g aa s3 j p v y u w3 _ A U ry O) λw4 s4 i=>?_
 let⟨z,H3,B,rz,G,L,d,M,Q⟩:=i;exact ED B d c n M rz λs5 E=>⟨j,_,E,Q⟩
def D2:V->V->Hp->VK->Prop:=λx y H Q=>∃i j,x=.int i/\y=.int j/\Q (.int (i+j)) H
theorem Zj:D1 X .Add D2:=by
 rintro aa s G H x y u v Q I b c ⟨i,j,rfl,rfl,q⟩;let⟨t,rfl⟩:=(show ∃t,u=Value.int i t from b);let⟨a,rfl⟩:=(show ∃a,v=Value.int j a from c);exact PyProof.Rows.iadd_int ⟨.int (i+j),H,I.tok _,⟨_,rfl⟩,q⟩
end
section
variable{X:Cx}{aa:aT}{σ:St}{H:Hp}{s:ai}{A:Around}{E:af->ai->Prop}{Q:af->ai->Prop}{c:af}{b:Bool}
inductive dD (K:W.Frag) (H:Hp):V->Value->Prop where
 |aZ:dD K H .aZ (.type "NoneType")
 |bl (x:Bool):dD K H (.bl x) (.type "bool")
 |int (i:Int):dD K H (.int i) (.type "int")
 |str (x:Str):dD K H (.str x) (.type "str")
 |ka (x:UInt64):dD K H (.ka x) (.type "float")
 |av {a:Addr} {xs:List V} (e:H a=some (.av xs)):dD K H (.ref a) (.type "list")
 |aB {a:Addr} {o:Obj} {xs:List V} (e:H a=some (.aB o (.av xs))):dD K H (.ref a) (.type "list")
 |aA {a:Addr} {xs:List V} (e:H a=some (.aA xs)):dD K H (.ref a) (.type "tuple")
 |dK {a:Addr} {kvs:List (aU × V)} (e:H a=some (.dK kvs)):dD K H (.ref a) (.type "dict")
 |dT {a:Addr} {kvs:List (List aU × V)} (e:H a=some (.dT kvs)):dD K H (.ref a) (.type "dict")
 |ins {a C dx:Addr} {fs:List (Str × V)} (e:H a=some (.ins C dx fs)) (cl:du K C) (ha:W.findIn K (.ref C) "__class__" = some (some (.builtin "object.__class__")))
   (hn:W.specialIn K (.builtin "object.__class__") "__get__"=some (some (.builtin "getset_descriptor.__get__"))) (vg:W.takesIn K (.builtin "object.__class__")=some true)
   (hm:W.mroIn K C (.type "object")=some true):dD K H (.ref a) (.ref C)
theorem Sx(I:au X aa σ H s)(f:aC x u)(ty:dD X.K H x t)(e:W.kitOne X.K t c=some b)(h:∀B,Q (.bool b) { s with toks:=B }):
  wpAny (model X.prog X.w) A (call (.builtin "isinstance") [u,c]) Q E s:=by
 cases ty with
 |aZ=>cases (show u=Value.none from f);exact W.kia_one W.kitx_none I.cP True.intro e (λz=>nomatch z) h
 |bl y=>cases (show u=Value.bool y from f);exact W.kia_one W.kitx_bool I.cP True.intro e (λz=>nomatch z) h
 |int i=>let⟨t,q⟩:=(show ∃t,u=Value.int i t from f);cases q;exact W.kia_one W.kitx_int I.cP True.intro e (λz=>nomatch z) h
 |str y=>let⟨t,q⟩:=(show ∃t,u=Value.str y t from f);cases q;exact W.kia_one W.kitx_str I.cP True.intro e (λz=>nomatch z) h
 |ka y=>let⟨t,q⟩:=(show ∃t,u=Value.float y t from f);cases q;exact W.kia_one W.kitx_float I.cP True.intro e (λz=>nomatch z) h
 |@av a l d=>
  cases (show u=Value.ref a from f);let⟨_,_,n,_,g⟩:=(show a8 X.prog X.w H s.heap a (.av l) from I.aS a _ d);exact W.kia_one W.kitx_list I.cP ⟨_,g,rfl⟩ e (λz=>nomatch z) h
 |@aB a ob l d=>
  cases (show u=Value.ref a from f);let⟨_,_,_,n,_,g⟩:=(show a8 X.prog X.w H s.heap a (.aB ob (.av l)) from I.aS a _ d);exact W.kia_one W.kitx_list I.cP ⟨_,g,rfl⟩ e (λz=>nomatch z) h
 |@aA a l d=>
  cases (show u=Value.ref a from f);∎;let⟨_,_,_,p⟩:=(show a8 X.prog X.w H s.heap a (.aA l) from I.aS a _ d);let⟨o,g,m,_⟩:=p;∎;exact W.kia_one W.kitx_tuple I.cP ⟨o,g,m⟩ e (λz=>nomatch z) h
 |@dK a j d=>
  cases (show u=Value.ref a from f);∎;let⟨_,_,vs,_,p⟩:=(show a8 X.prog X.w H s.heap a (.dK j) from I.aS a _ d);let⟨o,v,r,g,m,_⟩:=p;∎;exact W.kia_one W.kitx_dict I.cP ⟨o,g,m.1⟩ e (λz=>nomatch z) h
 |@dT a j d=>
  cases (show u=Value.ref a from f);let⟨_,_,l,_,o,v,r,g,m,_⟩:=(show a8 X.prog X.w H s.heap a (.dT j) from I.aS a _ d);exact W.kia_one W.kitx_dict I.cP ⟨o,g,m.1⟩ e (λz=>nomatch z) h
 |@ins a C D fs d cl ha hn vg hm=>
  cases (show u=Value.ref a from f);∎;let⟨G,O,_⟩:=y8 I.aS d;let⟨od,J,_⟩:=O.look;∎;exact W.kia_one (W.kitx_own (cl.get _) cl.hd ha hn vg hm) I.cP J e (λz=>nomatch z) h
end
structure bh(k:Nat)(A:Around):Prop where
 hd:A.handled=none
 dp:A.depth+3*k+5<recursionLimit
 un:A.units+16*k+200<cLine
theorem bh.mono(r:bh k A)(h:j<=k):bh j A:=⟨r.hd,by have:=r.dp;omega,by have:=r.un;omega⟩
theorem bh.deeper(r:bh (k+1) A)(env:Env):bh k (A.deeper env):=
 ⟨r.hd,by have:=r.dp;show A.depth+1+3*k+5<_;omega,by have:=r.un;show A.units+3+16*k+200<_;omega⟩
theorem RL{A:Around}{C:ae}{us:aN}{a:List (Str×af)}:(A.under (.builtin "type.__call__" ⟨.ref C::us,a⟩)).depth=A.depth+1:=by
 first |rfl |simp[Around.under,Code.weight,Code.isCreation,Code.isGuard,Code.isCaller,Code.frames,Code.isFrame,guardIds]
theorem RM{A:Around}{C:ae}{us:aN}{a:List (Str×af)}:(A.under (.builtin "type.__call__" ⟨.ref C::us,a⟩)).units=A.units+1:=by
 first |rfl |simp[Around.under,Code.cUnits,Code.frames,Code.isFrame]
theorem bh.make(r:bh (k+1) A)(C:ae)(us:aN)(a:List (Str×af)):bh k (A.under (.builtin "type.__call__" ⟨.ref C::us,a⟩)):=
 ⟨r.hd,by have:=r.dp;rw[RL];omega,by have:=r.un;rw[RM];omega⟩
theorem bh.depth(r:bh k A):A.depth<recursionLimit:=by have:=r.dp;omega
theorem bh.units(r:bh k A):A.units+64<cLine:=by have:=r.un;omega
def jL:TA:=λ_ H Q=>Q [] H
def jH(c:TE)(tr:TA):TA:=λj H Q=>c j H λx a=>tr j a λd b=>Q (x::d) b
section
variable{X:Cx}{e:Expr}{es:bT}{te:TE}{t:TA}{pos:Pos}
theorem me:PA X [] jL:=λ_ _ _ _ H Q I h=>Calls.spliced_nil ⟨[],H,I,.nil,h⟩
theorem kS(ha:PE X e te)(i:PA X es t)(hs:do eA e es X.env):PA X (e::es) (jH te t):=by
 intro pos aa s j H Q I h;rw[hs];show wpAny _ _ (spliced ((false,eval e X.env)::backTo pos (starEach es X.env))) _ _ s;refine Calls.spliced_cons (bq (ha aa s j H _ I h) λu n a=>?_);let⟨x,c,f,r1,l⟩:=a;exact bq (i pos aa n j c _ f l) λus p b=>by let⟨o,d,g,r2,m⟩:=b;exact⟨x::o,d,g,.cons r1 r2,m⟩
def xP(t:TA):TE:=λj H Q=>t j H λb a=>b.length<=sizeLine/\∀p,a p=none->Q (.ref p) (aW a p (.aA b))
def D3(t:TA):TE:=λj H Q=>t j H λb a=>b.length<=sizeLine/\∀p,a p=none->Q (.ref p) (aW a p (.av b))
theorem HE{x1}(h:PA X es t):PE X (.Tuple es x1 pos) (xP t):=by
 intro aa s j H Q I i;refine wpAny_Tuple_spliced (bq (h pos aa s j H _ I i) λus a c=>?_);let⟨l,d,f,r,z,q⟩:=c;refine⟨by rw[<- r.length];exact z,?_⟩;have g:d ⇑a=none:=f.aS.fresh (le_refl _);refine⟨.ref ⇑a,aW d ⇑a (.aA l),f.laid (t':=a.toks) (λb u e=>Heap.get?_push_of_some _ e) (le_refl _) ?_,rfl,q _ g⟩;exact⟨z,us,r,⟨_,Heap.get?_push_size _ rfl,rfl,_,rfl⟩⟩
theorem Zk(h:PA X es t):PE X (.List es pos) (D3 t):=by
 intro aa s j H Q I i;refine wpAny_List_spliced (bq (h pos aa s j H _ I i) λus a c=>?_);let⟨l,d,f,r,z,q⟩:=c;refine⟨by rw[<- r.length];exact z,?_⟩;have g:d ⇑a=none:=f.aS.fresh (le_refl _);refine⟨.ref ⇑a,aW d ⇑a (.av l),f.laid (t':=a.toks) (λb u e=>Heap.get?_push_of_some _ e) (le_refl _) ?_,rfl,q _ g⟩;exact⟨z,us,0,r,Heap.get?_push_size _ rfl⟩
end
abbrev Sp:=ax->Hp->VK->XK->Prop
abbrev e7:=cz->Hp->ai->XK->af->ai->Prop
structure gk(P:Program)(w:World)(K:ak)(mg:bD)(base:aP)(A:Around)(outer:cz)(s:ai)(H:Hp):Prop where
 frames:A.frames=some outer
 mod:Mod K mg base
 bs:∀b o,base.get? b=some o->s.heap.get? b=some o/\H b=none
 iz:base.objs.size<=⇑s
 dR:s.heap.FunFrames base outer
 lh:∀b∈ff outer,H b=none
 aS:cS P w H s.heap
 bare:AllBare s.gens
def CE(outer:cz)(P:Program)(w:World)(H:Hp)(s:ai)(Q:VK)(u:af)(s':ai):Prop:=
 ∃v a,s'.os=s.os/\AllBare s'.gens/\Un (ff outer) [] H a s.heap s'.heap/\cS P w a s'.heap/\aC v u/\Q v a
def CR(CX:e7)(outer:cz)(P:Program)(w:World)(H:Hp)(s:ai)(Q:VK)(E:XK)(r:Result)(s':ai):Prop:=
 match r with
 |.ok (.ret u)=>CE outer P w H s Q u s'
 |.ok _=>False
 |.error e=>CX outer H s E e s'
structure aw(P:Program)(w:World)(K:ak)(mg:bD)(base:aP)(CX:e7)(k:Nat)(f:ae)(fd:FuncData)(ps:ag)(sp:Sp):Prop where
 len:∀vs H Q E,sp vs H Q E->vs.length=ps.length
 run:∀(A:Around)(outer:cz)(s:ai)(H:Hp)(args:Args)(us:aN)(vs:ax)(Q:VK)(E:XK),bh k A->gk P w K mg base A outer s H->BindsTo s fd args (ps.zip us)->aL vs us->sp vs H Q E->
  codeAny (model P w) A (.call (.ref f) args) (CR CX outer P w H s Q E) s
theorem aw.mono{P:Program}{w:World}{K:ak}{mg:bD}{base:aP}{CX:e7}{j k:Nat}{f:ae}{a:FuncData}{ps:ag}{sp:Sp}(F:aw P w K mg base CX j f a ps sp)(h:j<=k):
  aw P w K mg base CX k f a ps sp:=⟨F.len,λA outer s H args us vs Q E b=>F.run A outer s H args us vs Q E (b.mono h)⟩
theorem aw.imp{P:Program}{w:World}{K:ak}{mg:bD}{base:aP}{CX:e7}{k:Nat}{f:ae}{b:FuncData}{ps:ag}{sp a:Sp}(F:aw P w K mg base CX k f b ps sp)(h:∀vs H Q E,a vs H Q E->sp vs H Q E):aw P w K mg base CX k f b ps a:=
 ⟨λvs H Q E q=>F.len vs H Q E (h _ _ _ _ q),λA outer s H args us vs Q E e d c hv g=>F.run A outer s H args us vs Q E e d c hv (h _ _ _ _ g)⟩
theorem gk.make{P:Program}{w:World}{K:ak}{mg:bD}{base:aP}{A:Around}{outer:cz}{s:ai}{H:Hp}(e:gk P w K mg base A outer s H)(C:ae)(us:aN)(a:List (Str×af)):
  gk P w K mg base (A.under (.builtin "type.__call__" ⟨.ref C::us,a⟩)) outer s H:=⟨by first |exact e.frames |(simpa [Around.under,Code.envs,Code.isFrame,pushEnvs] using e.frames),e.mod,e.bs,e.iz,e.dR,e.lh,e.aS,e.bare⟩
section
variable{X:Cx}{aa:aT}{σ:St}{H:Hp}{s s':ai}
theorem au.mQ(I:au X aa σ H s):gk X.prog X.w X.K X.mg X.base X.A X.stack s H:=
 ⟨I.ok.frames,I.ok.mod,I.bs,le_trans I.ok.iz I.sz,I.stack,I.fA,I.aS,I.bare⟩
theorem au.after(I:au X aa σ H s)(h:CE X.stack X.prog X.w H s Q u s'):EP X aa σ Q u s':=by
 ∎;let⟨v,c,os,bare,un,aS,r,q⟩:=h;let⟨e,g,d,t,a⟩:=s';∎;obtain rfl:a=s.os:=os;exact⟨v,c,I.call (h':=e) (g':=g) (d':=d) (t':=t) (ch:=[]) un aS bare (λb z=>absurd z (by simp)),r,q⟩
end
def Du(sp:Sp)(a:ax)(E:XK)(t:TA):TE:=λj H Q=>t j H λvs b=>sp (vs++a) b Q E
def Binds(K:ak)(b:FuncData)(ps:ag)(a:aN):Prop:=
 ∀(s:ai)(us:aN),K.In s.heap->(us++a).length=ps.length->BindsTo s b ⟨us,[]⟩ (ps.zip (us++a))
theorem Binds.all{K:ak}{a:FuncData}{ps:ag}(h:∀us:aN,us.length=ps.length->bindArgs a ⟨us,[]⟩=pure (ps.zip us)):Binds K a ps []:=λs us _ b=>by
 rw[append_nil] at b ⊢;exact .of_eq (h us b)
def lI(CX:e7)(X:Cx)(E:XK):Prop:=∀(aa:aT)(j:St)(H:Hp)(s:ai)(e:af)(a:ai),au X aa j H s->CX X.stack H s E e a->X.xe e a
section
variable{X:Cx}{CX:e7}{k:Nat}{f C:ae}{fd:FuncData}{ps:ag}{sp:Sp}{dvs:ax}{ds:aN}{E:XK}{x m:Str}{p pos apos:Pos}{e o:Expr}{es:bT}{ta:TE}{t:TA}
theorem Zl(F:aw X.prog X.w X.K X.mg X.base CX k f fd ps sp)(g:bh k X.A)(c:Binds X.K fd ps ds)(hd:aL dvs ds)(i:lI CX X E)(I:au X aa j H s)(r:aL vs us)(h:sp (vs++dvs) H Q E):wpAny (model X.prog X.w) X.A (call (.ref f) us) (EP X aa j Q) X.xe s:=by
 have r2:aL (vs++dvs) (us++ds):=r.append hd;have d:(us++ds).length=ps.length:=by rw[<- r2.length];exact F.len _ _ _ _ h
 refine wpAny_call (codeAny_mono (F.run X.A X.stack s H ⟨us,[]⟩ (us++ds) (vs++dvs) Q E g I.mQ (c s us I.cP d) r2 h) λr l a=>?_);cases r with
 |error e=>exact i aa j H s e l I a
 |ok b=>
  cases b with
  |ret u=>exact I.after a
  |next=>exact False.elim a
  |brk=>exact False.elim a
  |cont=>exact False.elim a
theorem Gz(F:aw X.prog X.w X.K X.mg X.base CX k f fd ps sp)(n:bh k X.A)(i:Gl X x)(hm:X.mg x=some (.ref f))(l:W.keepIn X.K (.ref f)=true)(g:Binds X.K fd ps ds)(hd:aL dvs ds)(u:lI CX X E)(ha:PA X (e::es) t)(a: ~~~(cI x))(he:do eA e es X.env)(b:do e9 pos es X.env):
  PE X (.Call (.Name x p) (e::es) [] pos) (Du sp dvs E t):=by
 intro aa s j H Q I h;refine wpAny_Call_Name_kw (n9 I i hm ?_ a);refine W.callWith_K (h₀:=X.base) I.ok.mod.mT l (bq (ha pos aa s j H _ I h) λus y c=>?_) he b;let⟨vs,v,d,r,q⟩:=c;refine⟨d.cP,?_⟩;exact Zl F n g hd u d r q
structure Mk(K:ak)(C f:ae):Prop where
 makes:W.makesIn K C=true
 init:W.findIn K (.ref C) "__init__"=some (some (.ref f))
 fn:W.isFn K (.ref f)=true
 kp:W.keepIn K (.ref C)=true
end
structure bj(N P:ag)(sc:Scope):Prop where
 kind:sc.kind=.function
 co:sc.isCoroutine=false
 gen:sc.isGenerator=false
 nd:N.Nodup
 pre:N.take P.length=P
 par:∀x∈P,sc.names.lookup x=some .local\/sc.names.lookup x=some .cell
 mX:∀y∈sc.names,y.2≠.free
theorem FA{kindOf:Str->Option NameKind}{x:Str}:∀{binds:List (Str×af)}{m:bD},(∀v,(x,v) ∉ binds)->bindL kindOf binds m x=m x
 |[],_,_=>rfl
 |(n,v)::r,m,h=>by
  unfold bindL;rw[FA λw hw=>h w (mem_cons_of_mem _ hw)];split
  .have:x≠n:=by rintro rfl;exact h v mem_cons_self
   simp[this]
  .rfl
theorem FC{kindOf:Str->Option NameKind}{x:Str}:∀{binds:List (Str×af)}{m:bD},(∀v,(x,v) ∉ binds)->bindC kindOf binds m x=m x
 |[],_,_=>rfl
 |(n,v)::r,m,h=>by
  unfold bindC;rw[FC λw hw=>h w (mem_cons_of_mem _ hw)];split
  .rfl
  .have:x≠n:=by rintro rfl;exact h v mem_cons_self
   simp[this]
theorem FD{kindOf:Str->Option NameKind}{v:af}:∀{P:ag}{vs:aN}{i:Nat}{m:bD},P.Nodup->P[i]?=some x->vs[i]?=some v->kindOf x=some .local->
  bindL kindOf (P.zip vs) m x=some v
 |[],_,_,_,_,h,_,_=>by simp at h
 |_::_,[],_,_,_,_,h,_=>by simp at h
 |p::P,w::vs,0,m,nd,h1,h2,hk=>by
  simp at h1 h2;subst h1;subst h2;show bindL kindOf ((p,w)::P.zip vs) m p=_;unfold bindL;rw[FA λv hv=>(nodup_cons.mp nd).1 (List.of_mem_zip hv).1,if_pos hk];simp
 |p::P,w::vs,i + 1,m,nd,h1,h2,hk=>by
  show bindL kindOf ((p,w)::P.zip vs) m x=_;unfold bindL;exact FD (i:=i) (nodup_cons.mp nd).2 (by simpa using h1) (by simpa using h2) hk
theorem FE{kindOf:Str->Option NameKind}{v:af}:∀{P:ag}{vs:aN}{i:Nat}{m:bD},P.Nodup->P[i]?=some x->vs[i]?=some v->kindOf x≠some .local->
  bindC kindOf (P.zip vs) m x=some v
 |[],_,_,_,_,h,_,_=>by simp at h
 |_::_,[],_,_,_,_,h,_=>by simp at h
 |p::P,w::vs,0,m,nd,h1,h2,hk=>by
  simp at h1 h2;subst h1;subst h2;show bindC kindOf ((p,w)::P.zip vs) m p=_;unfold bindC;rw[FC λv hv=>(nodup_cons.mp nd).1 (List.of_mem_zip hv).1,if_neg hk];simp
 |p::P,w::vs,i + 1,m,nd,h1,h2,hk=>by
  show bindC kindOf ((p,w)::P.zip vs) m x=_;unfold bindC;exact FE (i:=i) (nodup_cons.mp nd).2 (by simpa using h1) (by simpa using h2) hk
def start(N:ag)(vs:ax):St:=vs.map some++List.replicate (N.length - vs.length) none
def ip(CX:e7)(P:Program)(w:World)(K:ak)(mg:bD)(base:aP)(N:ag)(b:Str)(a:Scope)(f:ae)(d:af)(A:Around)(outer:cz)(s:ai)(H:Hp)(E:XK):Cx where
 prog:=P
 w:=w
 K:=K
 mg:=mg
 base:=base
 A:=A.deeper (envOfC b a ⇑s f d)
 N:=N
 s₀:=s
 H₀:=H
 env:=envOfC b a ⇑s f d
 outer:=outer
 stack:=envOfC b a ⇑s f d::outer
 ex:=[]
 calm:=true
 fn:=λ_=>true
 pn:=[]
 xe:=λe h=>wpAny (model P w) (A.deeper (envOfC b a ⇑s f d)) (leaving (envOfC b a ⇑s f d) e) (λ_ c=>CX outer H s E e c) (λg c=>CX outer H s E g c) h
theorem FP{sc:Scope}{n:Nat}{x:Str}(h:sc.names.lookup x=some .cell):∃c,(cellsFrom n sc.names []).lookup x=some c:=by
 have q:=W.cellsFrom_some sc.names n [] (.inl h);exact isSome_iff_exists.mp q
theorem Sy{CX:e7}{P:Program}{w:World}{K:ak}{mg:bD}{base:aP}{N ps:ag}{g:Str}{d:Scope}{f:ae}{D:af}{A:Around}{outer:cz}{s L:ai}{H:Hp}{E:XK}{us:aN}{vs:ax}(S:bj N ps d)(hd:A.handled=none)(l:gk P w K mg base A outer s H)(U:vs.length=ps.length)(r:aL vs us)(x:InCallC s ⇑s (bindL (envOfC g d ⇑s f D).kindOf (ps.zip us) λ_=>none) (cellsFrom (⇑s+1) d.names []) (bindC (envOfC g d ⇑s f D).kindOf (ps.zip us) λ_=>none) L):
  au (ip CX P w K mg base N g d f D A outer s H E) [] (start N vs) H L:=by
 have M:ps.length<=N.length:=by have:=congrArg List.length S.pre;rw[length_take] at this;omega
 let⟨G,Y,rfl,J⟩:=x.done;have o:∀b:Addr,b ∉ (ip CX P w K mg base N g d f D A outer s H E).ex:=λb z=>absurd (show b∈([]:b7) from z) (by simp)
 refine⟨⟨l.mod,S.kind,rfl,rfl,le_refl _,λy z c G j=>?_,λy m=>?_,λy c _ h=>?_,λ_=>hd,Around.frames_deeper l.frames,.inr ⟨rfl,rfl⟩,λb z=>absurd z (o b),l.bs,l.iz,λb _ _=>o b,λb z=>absurd z (o b),l.dR,l.lh⟩,
  rfl,l.bare,Un.kept J,⟨_,x.toInCall.ns,λi y v G j Q=>?_⟩,λy c h=>⟨_,x.cell y c h⟩,l.aS.fresh (le_refl _),λy c h=>?_,λp B=>absurd (show p∈([]:aT) from B) (by simp),l.aS.kept J,?_⟩
 .exact name_of_addr x.apart (PySem.mem_of_lookup G) (PySem.mem_of_lookup j)
 .have m:d.names.lookup y=some .cell\/d.names.lookup y=some .free:=m;rcases m with m |m
  .exact FP m
  .exact absurd rfl (S.mX _ (PySem.mem_of_lookup m))
 .exact le_of_lt (x.above y c (PySem.mem_of_lookup h))
 .have I:i<vs.length:=by
   unfold start at j;by_cases I:i<vs.length
   .exact I
   .rw[List.getElem?_append_right (by simpa using I)] at j;rw[List.getElem?_replicate] at j;split at j<;>cases j
  have ha:vs[i]?=some v:=by
   unfold start at j;rw[List.getElem?_append_left (by simpa using I),getElem?_map] at j;cases e:vs[i]? with
   |none=>rw[e] at j;cases j
   |some a=>rw[e] at j;cases j;rfl
  let⟨u,hu,O⟩:=r.get ha;have B:ps[i]?=some y:=by
   rw[<- S.pre,List.getElem?_take_of_lt ⋯];exact G
  have C:ps.Nodup:=by rw[<- S.pre];exact S.nd.sublist (List.take_sublist _ _)
  refine⟨u,O,?_⟩;rcases S.par y (mem_of_getElem? B) with k |k
  .exact .inl ⟨k,FD C B hu k⟩
  .obtain⟨c,e⟩:=FP (n:=⇑s+1) k;refine .inr ⟨.inl k,c,e,?_⟩;have q:=x.cell y c e;rw[FE C B hu (by show d.names.lookup y≠_;rw[k];decide)] at q;exact q
 .exact l.aS.fresh (le_of_lt (x.above y c (PySem.mem_of_lookup h)))
 .unfold start;show _=N.length;rw[length_append,length_map,List.length_replicate];omega
theorem Jc{CX:e7}{P:Program}{w:World}{K:ak}{mg:bD}{base:aP}{k:Nat}{f:ae}{name c:Str}{d:Arguments}{g:List Stmt}{a:Scope}{U kV doc pm aM ct oc:af}{an od:bL}{osl:Array (bG)}{N ps:ag}{sp:Sp}(lk:K.lookup f=some ⟨oc,od,.func (W.fnOf name c d g a U kV doc pm an aM ct),osl⟩)(C:W.codeIn K aM c=true)(S:bj N ps a)(len:∀vs H Q E,sp vs H Q E->vs.length=ps.length)(i:∀(A:Around)(outer:cz)(s:ai)(H:Hp)(vs:ax)(Q:VK)(E:XK),bh k (A.deeper (envOfC c a ⇑s f aM))->sp vs H Q E->
   ∃t,fC (ip CX P w K mg base N c a f aM A outer s H E) g t/\t { nx:=λ_ h=>Q .aZ h,rt:=Q } (start N vs) H):
  aw P w K mg base CX (k+1) f (W.fnOf name c d g a U kV doc pm an aM ct) ps sp:=by
 refine⟨len,λA outer s H args us vs Q E D m hb r z=>?_⟩;have hl:=len _ _ _ _ z;have O:K.In s.heap:=m.mod.mT.keeps λb o e=>(m.bs b o e).1
 have G:s.heap.NoLimit:=m.mod.nolimit.keeps λb o e=>(m.bs b o e).1
 have j:∀y∈ps.zip us,a.names.lookup y.1=some .local\/(a.names.lookup y.1=some .cell/\((cellsFrom (⇑s+1) a.names []).lookup y.1).isSome=true):=λ⟨n,v⟩ hy=>by
  rcases S.par n (List.of_mem_zip hy).1 with q |q
  .exact .inl q
  .exact .inr ⟨q,W.cellsFrom_some _ _ _ (.inl q)⟩
 refine codeAny_call_function D.depth (O _ _ lk) rfl S.co S.gen rfl (W.codeRec_of O C) (hb _ _ _ _ ?_);refine wpAny_newFunctionEnv_cells S.kind j λenv he Y x=>?_
 subst he;refine⟨G.keeps x.toInCall.keep,codeAny_func ?_⟩;let⟨t,ht,hq⟩:=i A outer s H vs Q E (D.deeper _) z;have I:au (ip CX P w K mg base N c a f aM A outer s H E) [] (start N vs) H Y:=Sy S D.hd m hl r x;refine wpAny_mono (ht [] Y (start N vs) H _ I hq) (λfl M l=>?_) λe M l=>l
 have p:∀{B:St}{h:Hp}{v:V}{u:af},au (ip CX P w K mg base N c a f aM A outer s H E) [] B h M->aC v u->Q v h->CE outer P w H s Q u M:=
  λ{B h v u} J L q=>⟨v,h,J.os,J.bare,J.base,J.aS,L,q⟩
 cases fl with
 |ret u=>
  let⟨v,B,h,J,L,q⟩:=l;exact p J L q
 |next=>
  let⟨B,h,J,q⟩:=l;exact p (v:=V.aZ) (u:=Value.none) J rfl q
 |brk=>
  let⟨_,_,_,q⟩:=l;exact False.elim q
 |cont=>
  let⟨_,_,_,q⟩:=l;exact False.elim q
section
variable{X:Cx}{x:Str}{p pos:Pos}{e:Expr}{es:bT}{t:TA}{id T:String}{r:ax->Hp->VK->Prop}
def m8(r:ax->Hp->VK->Prop)(t:TA):TE:=λj H Q=>t j H λvs a=>r vs a Q
theorem yS(g:bA X (.builtin id) r)(i:Gl X x)(hm:X.mg x=none)(hv:bootBuiltins x=some (.builtin id))(ha:PA X (e::es) t)(hn: ~~~(x≠"__name__"))(a: ~~~(cI x))(he:do eA e es X.env)(b:do e9 pos es X.env):PE X (.Call (.Name x p) (e::es) [] pos) (m8 r t):=by
 intro aa s j H Q I h;refine wpAny_Call_Name_kw (ri I i hm hv ?_ hn a);exact PyProof.Rows.callWith_builtin1 (bq (ha pos aa s j H _ I h) λus m c=>by let⟨vs,d,f,r1,l⟩:=c;exact g aa m j d vs us Q f r1 l) he b
theorem ye(g:bA X (.type T) r)(i:Gl X x)(hm:X.mg x=none)(hv:bootBuiltins x=some (.type T))(ha:PA X (e::es) t)(hn: ~~~(x≠"__name__"))(a: ~~~(cI x))(he:do eA e es X.env)(b:do e9 pos es X.env):PE X (.Call (.Name x p) (e::es) [] pos) (m8 r t):=by
 intro aa s j H Q I h;refine wpAny_Call_Name_kw (ri I i hm hv ?_ hn a);exact PyProof.Rows.callWith_type1 (bq (ha pos aa s j H _ I h) λus m c=>by let⟨vs,d,f,r1,l⟩:=c;exact g aa m j d vs us Q f r1 l) he b
end
section
variable{κ:Type}[DecidableEq κ]
def fm(kvs:List (κ×V))(k:κ):Option V:=(kvs.find? λa=>decide (a.1=k)).map (·.2)
def gv(kvs:List (κ×V))(k:κ)(v:V):List (κ×V):=
 if (kvs.any λa=>decide (a.1=k))=true then kvs.map (λa=>if a.1=k then (a.1,v) else a) else kvs++[(k,v)]
theorem yT{p:κ×V}{r:List (κ×V)}{k:κ}(e:p.1=k):fm (p::r) k=some p.2:=by simp[fm,find?_cons,e]
theorem yU{p:κ×V}{r:List (κ×V)}{k:κ}(e:¬ p.1=k):fm (p::r) k=fm r k:=by simp[fm,find?_cons,e]
theorem FQ(k:κ):∀kvs:List (κ×V),(kvs.any λa=>decide (a.1=k))=(fm kvs k).isSome
 |[]=>rfl
 |p::r=>by
  rw[any_cons];by_cases e:p.1=k
  .simp only[yT e,decide_eq_true e,Bool.true_or,Option.isSome_some]
  .rw[yU e,decide_eq_false e,Bool.false_or];exact FQ k r
theorem EG(kvs:List (κ×V))(k:κ)(v:V):(gv kvs k v).length<=kvs.length+1:=by
 unfold gv;split
 .rw[length_map];omega
 .rw[length_append,length_cons,length_nil];omega
theorem cj.cE(r:cj o u):o.isSome=u.isSome:=by
 cases o with
 |none=>cases u with
  |none=>rfl
  |some _=>exact (show False from r).elim
 |some _=>cases u with
  |none=>exact (show False from r).elim
  |some _=>rfl
theorem cj.getD(r:cj o u)(rd:aC d d'):aC (o.getD d) (u.getD d'):=by
 cases o with
 |none=>cases u with
  |none=>exact rd
  |some _=>exact (show False from r).elim
 |some _=>cases u with
  |none=>exact (show False from r).elim
  |some _=>exact r
theorem KV.val{kvs:List (κ×V)}{vs:List (κ×af)}(r:KV kvs vs)(k:κ):cj (fm kvs k) (valueAt vs k):=by
 unfold KV at r
 induction r with
 |nil=>exact True.intro
 |@cons p q g a h t f=>
  let⟨c,d⟩:=h;by_cases e:p.1=k
  .have e':q.1=k:=c.symm.trans e;have b:valueAt (q::a) k=some q.2:=by simp[valueAt,find?_cons,e']
   rw[yT e,b];exact d
  .have e':¬ q.1=k:=λz=>e (c.trans z)
   have b:valueAt (q::a) k=valueAt a k:=by simp[valueAt,find?_cons,e']
   rw[yU e,b];exact f
theorem KV.any(r:KV kvs vs)(k:κ):(kvs.any λa=>decide (a.1=k))=vs.any λa=>decide (a.1=k):=by
 unfold KV at r
 induction r with
 |nil=>rfl
 |cons h t b=>rw[any_cons,any_cons,b,h.1]
theorem KV.iW(r:KV kvs vs)(k:κ)(f:aC y u):
  KV (kvs.map λa=>if a.1=k then (a.1,y) else a) (vs.map λa=>if a.1=k then (a.1,u) else a):=by
 unfold KV at r ⊢
 induction r with
 |nil=>exact .nil
 |@cons p q g i h t d=>
  rw[map_cons,map_cons];refine .cons ?_ d;let⟨b,c⟩:=h;by_cases e:p.1=k
  .rw[if_pos e,if_pos (b.symm.trans e)];exact⟨b,f⟩
  .rw[if_neg e,if_neg (λz=>e (b.trans z))];exact⟨b,c⟩
theorem KV.put(r:KV kvs vs)(k:κ)(a:aC y u):KV (gv kvs k y) (stored vs k u):=by
 unfold gv stored;rw[r.any k];by_cases e:(vs.any λb=>decide (b.1=k))=true
 .rw[if_pos e,if_pos e];exact r.iW k a
 .rw[if_neg e,if_neg e];exact Paired.snoc r ⟨rfl,a⟩
theorem KV.length(r:KV kvs vs):kvs.length=vs.length:=Paired.length r
end
theorem kZ(r:aC (kV k) u):(dz P w).is k u=true:=by
 cases k with
 |inl i=>let⟨t,e⟩:=(show ∃t,u=Value.int i t from r);subst e;exact Rc P w i t
 |inr x=>let⟨t,e⟩:=(show ∃t,u=Value.str x t from r);subst e;exact x6 P w x t
theorem FF:∀{ks:List aU}{us:aN},aL (ks.map kV) us->ItemsAre (dz P w) ks us
 |[],_,r=>by rw[List.map_nil] at r;cases r;exact .nil
 |k::ks,_,r=>by
  rw[map_cons] at r;cases r with
  |cons h t=>exact .cons (kZ h) (FF t)
abbrev KT(H:Hp):List (List aU×V)->List (List aU×ae×af)->Prop:=Paired λp q=>p.1=q.1/\H q.2.1=some (.aA (p.1.map kV))/\aC p.2 q.2.2
theorem KT.val{H:Hp}{kvs:List (List aU×V)}{xs:List (List aU×ae×af)}(r:KT H kvs xs)(k:List aU):cj (fm kvs k) ((atKey xs k).map (·.2)):=by
 induction r with
 |nil=>exact True.intro
 |@cons p q g a h t f=>
  let⟨c,_,d⟩:=h;by_cases e:p.1=k
  .have e':q.1=k:=c.symm.trans e;have b:atKey (q::a) k=some q.2:=by simp[atKey,find?_cons,e']
   rw[yT e,b];exact d
  .have e':¬ q.1=k:=λz=>e (c.trans z)
   have b:atKey (q::a) k=atKey a k:=by simp[atKey,find?_cons,e']
   rw[yU e,b];exact f
theorem KT.iW(r:KT H kvs xs)(k:List aU)(g:aC y u):
  KT H (kvs.map λb=>if b.1=k then (b.1,y) else b) (xs.map (putAt k u)):=by
 induction r with
 |nil=>exact .nil
 |@cons p q i j h t f=>
  rw[map_cons,map_cons];refine .cons ?_ f;let⟨a,c,d⟩:=h;unfold putAt;by_cases e:p.1=k
  .rw[if_pos e,if_pos (a.symm.trans e)];exact⟨a,c,g⟩
  .rw[if_neg e,if_neg (λz=>e (a.trans z))];exact⟨a,c,d⟩
theorem KT.put{H:Hp}(r:KT H kvs xs)(k:List aU)(c:H b=some (.aA (k.map kV)))(a:aC y u):
  KT H (gv kvs k y) (storedH xs k b u):=by
 have e:(kvs.any λd=>decide (d.1=k))=(atKey xs k).isSome:=by
  rw[FQ,(r.val k).cE,Option.isSome_map]
 unfold gv storedH;rw[e];by_cases q:(atKey xs k).isSome=true
 .rw[if_pos q,if_pos q];exact r.iW k a
 .rw[if_neg q,if_neg q];exact Paired.snoc r ⟨rfl,c,a⟩
theorem KT.keeps{H a:Hp}(r:KT H kvs xs)(c:∀b ys,H b=some (.aA ys)->a b=some (.aA ys)):KT a kvs xs:=
 Paired.mW r λ_ _ z=>⟨z.1,c _ _ z.2.1,z.2.2⟩
section
variable{P:Program}{w:World}{H:Hp}{h:aP}{a:ae}
theorem Jd(ok:cS P w H h)(e:Rd H a u):a8 P w H h a u:=e.ok ok
theorem hJ(ok:cS P w H h)(e:Rd H a (.dK kvs)):kvs.length<=sizeLine/\(a == sysModules)=false/\∃vs,KV kvs vs/\h.DictOf (dz P w) a vs:=
 show a8 P w H h a (.dK kvs) from Jd ok e
theorem Je(ok:cS P w H h)(e:H a=some (.dK kvs)):kvs.length<=sizeLine/\(a == sysModules)=false/\∃vs,KV kvs vs/\h.DictOf (dz P w) a vs:=hJ ok (.inl e)
theorem oA(ok:cS P w H h)(e:H a=some (.aA (ks.map kV))):(tupleKind (dz P w)).is h ks a:=by
 let⟨_,b,r,o,c,d,n,f⟩:=(show a8 P w H h a (.aA (ks.map kV)) from ok a _ e);exact⟨o,b.toArray,n,c,d,f,by simpa using FF r⟩
theorem mI(ok:cS P w H h)(e:Rd H a (.dT kvs)):kvs.length<=sizeLine/\(a == sysModules)=false/\
  ∃xs,KT H kvs xs/\h.DictOfH (tupleKind (dz P w)) a xs:=by
 let⟨z,y,xs,r,o,f,d,g,i,j,n,s⟩:=(show a8 P w H h a (.dT kvs) from Jd ok e);refine⟨z,y,xs,r,o,f,d,g,i,j,n,λx b=>?_,s⟩;have all:∀{l:List (List aU×V)}{m:List (List aU×ae×af)},KT H l m->∀x∈m,(tupleKind (dz P w)).is h x.1 x.2.1:=by
  intro l m q
  induction q with
  |nil=>intro x b;exact nomatch b
  |@cons p q v A c t u=>
   intro x b;rcases mem_cons.mp b with e |b
   .subst e;exact oA ok (by rw[<- c.1];exact c.2.1)
   .exact u x b
 exact all r x b
theorem K9(ok:cS P w H h)(e:H a=some (.dT kvs)):kvs.length<=sizeLine/\(a == sysModules)=false/\
  ∃xs,KT H kvs xs/\h.DictOfH (tupleKind (dz P w)) a xs:=mI ok (.inl e)
end
def kG(H:Hp)(a:ae)(y:V)(r:Option V):Prop:=
 (∃c k,Rd H a (.dK c)/\y=kV k/\r=fm c k)\/∃c k b,Rd H a (.dT c)/\y=.ref b/\H b=some (.aA (k.map kV))/\r=fm c k
def iE(H:Hp)(a:ae)(y v:V)(d:Hp):Prop:=
 (∃c k,H a=some (.dK c)/\y=kV k/\c.length<sizeLine/\d=aW H a (.dK (gv c k v)))\/
 ∃c k b,H a=some (.dT c)/\y=.ref b/\H b=some (.aA (k.map kV))/\c.length<sizeLine/\d=aW H a (.dT (gv c k v))
theorem iE.k{H:Hp}{a:ae}{kvs:cv}{k:aU}{v:V}(e:H a=some (.dK kvs))(b:kvs.length<sizeLine):iE H a (kV k) v (aW H a (.dK (gv kvs k v))):=.inl ⟨kvs,k,e,rfl,b,rfl⟩
section
variable{X:Cx}{aa:aT}{σ:St}{H:Hp}{s:ai}{a:ae}{y v:V}{u r:af}{o:Option V}{A:Around}{E:af->ai->Prop}
theorem au.big(I:au X aa σ H s):sysModules<⇑s:=by
 have h:mainGlobals<⇑s:=(I.mod.glob.keeps I.bk).lt;exact Nat.lt_trans ∎ h
theorem Sz{Q:af->ai->Prop}(hu:A.units+1<cLine)(I:au X aa σ H s)(g:kG H a y (some v))(n:aC y u)(h:∀d s',au X aa σ H s'->aC v d->Q d s'):
  wpAny (model X.prog X.w) A (getItem (.ref a) u) Q E s:=by
 rcases g with⟨m,k,e,i,l⟩ |⟨m,k,b,e,i,q,l⟩
 .subst i;∎;let⟨z,hd,vs,c,f⟩:=hJ I.aS e;let⟨d,hw,eM⟩:=cj.some_of (v:=v) (o:=valueAt vs k) (by rw[l];exact c.val k);∎;exact wpAny_getItem_of (kZ n) f.mapOf hw (h d _ (I.tok _) eM)
 .subst i;cases (show u=Value.ref b from n);∎;let⟨z,hd,B,c,f⟩:=mI I.aS e;let⟨d,hw,eM⟩:=cj.some_of (v:=v) (o:=(atKey B k).map (·.2)) (by rw[l];exact c.val k);let⟨p,x,j⟩:=Option.map_eq_some_iff.mp hw;∎;refine wpAny_getItem_heap (tupleKind_room_in1 hu) (oA I.aS q) f x ?_;rw[j];exact h d _ (I.tok _) eM
theorem KL{Q:af->ai->Prop}(hu:A.units+1<cLine)(I:au X aa σ H s)(g:kG H a y o)(j:aC y u)(h:∀s',au X aa σ H s'->Q (.bool o.isSome) s'):
  wpAny (model X.prog X.w) A (compareOp .In u (.ref a)) Q E s:=by
 rcases g with⟨i,k,e,f,l⟩ |⟨i,k,b,e,f,m,l⟩
 .subst f;let⟨z,hd,vs,c,d⟩:=hJ I.aS e;refine wpAny_in_of (kZ j) hd d.mapOf ?_;rw[<- (c.val k).cE,<- l];exact h _ (I.tok _)
 .subst f;cases (show u=Value.ref b from j);let⟨z,hd,n,c,d⟩:=mI I.aS e;refine wpAny_in_heap (tupleKind_room_in1 hu) (oA I.aS m) hd d ?_;have q:=(c.val k).cE;rw[Option.isSome_map] at q;rw[<- q,<- l];exact h _ (I.tok _)
theorem X1{Q:af->ai->Prop}(hu:A.units+1<cLine)(I:au X aa σ H s)(g:kG H a y o)(j:aC y u)(h:∀s',au X aa σ H s'->Q (.bool (!o.isSome)) s'):
  wpAny (model X.prog X.w) A (compareOp .NotIn u (.ref a)) Q E s:=by
 rcases g with⟨i,k,e,f,l⟩ |⟨i,k,b,e,f,m,l⟩
 .subst f;let⟨z,hd,vs,c,d⟩:=hJ I.aS e;refine wpAny_notIn_of (kZ j) hd d.mapOf ?_;rw[<- (c.val k).cE,<- l];exact h _ (I.tok _)
 .subst f;cases (show u=Value.ref b from j);let⟨z,hd,n,c,d⟩:=mI I.aS e;refine wpAny_notIn_heap (tupleKind_room_in1 hu) (oA I.aS m) hd d ?_;have q:=(c.val k).cE;rw[Option.isSome_map] at q;rw[<- q,<- l];exact h _ (I.tok _)
theorem GA(I:au X aa σ H s)(f:pw (H a))(hs:Heap.SameBut a s.heap h')(he:∃q,h'.get? a=some q)(c:a8 X.prog X.w (aW H a ob) h' a ob):
  au X aa σ (aW H a ob) { s with heap:=h',toks:=t' }:=
 I.write (x:=a) (e:=a) f (.inl rfl) (λb q d z=>(hs.2 b d).trans z) he c
theorem HF(z:kvs.length<=sizeLine)(hd:(a == sysModules)=false)(b:KV kvs vs)(dd:h'.DictOf (dz P w) a vs):
  a8 P w H' h' a (.dK kvs):=⟨z,hd,vs,b,dd⟩
theorem SA{Q:Unit->ai->Prop}(hu:A.units+1<cLine)(I:au X aa σ H s)(g:iE H a y v H')(M:aC y u)(L:aC v r)(h:∀s',au X aa σ H' s'->Q () s'):
  wpAny (model X.prog X.w) A (setItem (.ref a) u r) Q E s:=by
 rcases g with⟨d,k,e,p,l,n⟩ |⟨d,k,b,e,p,D,l,n⟩
 .subst p n;let⟨z,hd,vs,f,m⟩:=Je I.aS e;have C:vs.length<=sizeLine:=by rw[<- f.length];exact z
  have x:(gv d k v).length<=sizeLine:=by have:=EG d k v;omega
  refine wpAny_setItem_pairs (hsz:=C) (kZ M) m λJ i B=>h _ ?_
  have he:∃q,J.get? a=some q:=let ⟨q,_,_,j,_⟩:=i;⟨q,j⟩
  exact GA I (by rw[e];exact True.intro) B he (HF x hd (f.put k L) i)
 .subst p n;cases (show u=Value.ref b from M);let⟨z,hd,xs,f,m⟩:=K9 I.aS e;have C:xs.length<=sizeLine:=by rw[<- Paired.length f];exact z
  have x:(gv d k v).length<=sizeLine:=by have:=EG d k v;omega
  refine wpAny_setItem_heap (hsz:=C) (tupleKind_room_in1 hu) (oA I.aS D) m λJ i B=>h _ ?_
  let⟨q,O,N,j,U,Y,h4,_,h5⟩:=i;refine GA I (by rw[e];exact True.intro) B ⟨q,j⟩ ⟨x,hd,_,(f.put k D L).keeps λc ys G=>?_,q,O,N,j,U,Y,h4,h5⟩;rw[bR (K2 G e (λz=>nomatch z))];exact G
end
section
variable{X:Cx}{aa:aT}{σ:St}{H:Hp}{s:ai}{a:ae}{kvs:cv}{k:aU}{u:af}{A:Around}{E:af->ai->Prop}
theorem La{Q:af->ai->Prop}(I:au X aa σ H s)(e:Rd H a (.dK kvs))(h:∀t s',au X aa σ H s'->Q (.int kvs.length t) s'):wpAny (model X.prog X.w) A (call (.builtin "len") [.ref a]) Q E s:=by
 let⟨z,hd,vs,b,c⟩:=hJ I.aS e;refine call_len_dict hd c (by rw[<- b.length];rw[sizeLine_eq] at z;omega) ?_;rw[<- b.length];exact h _ _ (I.tok _)
end
def xQ(i:Expr):Prop:=∀b a,subscripted i false b a=operate [b,a] (getItem b a)
theorem X2{prog:Program}{w:World}{A:Around}{E:af->ai->Prop}{s:ai}{env:Env}{value a:Expr}{pos:Pos}{T id:String}{Q:af->ai->Prop}(m:typeLookup (.type T) "__getitem__"=pure (some (.builtin id)))(hs:xQ a)(h:wpAny (model prog w) A (eval value env) (λo d=>wpAny (model prog w) A (eval a env) (λi b=>b.TypeIs o T/\wpAny (model prog w) A (getItem o i) Q E b) E d) E s):
  wpAny (model prog w) A (eval (.Subscript value a pos) env) Q E s:=by
 refine Subscript_ (wpAny_mono h (λo d g=>wpAny_mono g (λi b c=>?_) λ_ _ x=>x) λ_ _ x=>x);let⟨l,c⟩:=c;unfold subscriptTail;refine wpAny_bind ?_;rw[getitemInPython_of_ne l.not_modules];refine wpAny_bind (wpAny_specialOf l m ?_);have f:wpAny (model prog w) A (subscripted a false o i) (λr e=>wpAny (model prog w) A (letTemporaryGo value o r >>= λ_=>pure r) Q E e) E b:=by
  rw[hs o i];exact wpAny_operating (wpAny_mono c (λr e j=>wpAny_bind (wpAny_letTemporaryGo (wpAny_pure j))) λ_ _ x=>x)
 first
  |exact wpAny_pure (wpAny_bind f)
  |exact wpAny_bind (wpAny_pure (wpAny_bind f))
  |exact wpAny_bind f
theorem Rg(I:au X aa j H s)(g:kG H a y o):s.TypeIs (.ref a) "dict":=by
 rcases g with⟨c,k,e,_,_⟩ |⟨c,k,b,e,_,_,_⟩
 .obtain⟨_,_,vs,_,dd⟩:=hJ I.aS e;exact dd.typeIs
 .obtain⟨_,_,xs,_,dd⟩:=mI I.aS e;exact dd.typeIs
def Dw(f ty g:TE):TS:=λD j H=>g j H λv c=>f j c λx d=>ty j d λy e=>∃a b,x=.ref a/\iE e a y v b/\D.nx j b
section
variable{X:Cx}{o i e value:Expr}{pos pos' tpos:Pos}{td ty tv:TE}
theorem X3(hu:X.A.units+1<cLine)(B:PE X o td)(z:PE X i ty)(hv:PE X value tv)(hs:swapsWith value (some (.Subscript o i pos')) pos.line X.env=pure false):
  PS X (.Assign [.Subscript o i pos'] value pos) (Dw td ty tv):=by
 intro aa s j H D I h;refine wpAny_Assign_Subscript (bq (hv aa s j H _ I h) λr N b=>?_) hs;let⟨v,f,n,J,C⟩:=b;refine bq (B aa N j f _ n C) λu O c=>?_
 let⟨x,l,p,L,E⟩:=c;refine bq (z aa O j l _ p E) λU Y d=>?_
 let⟨y,Q,q,M,a,m,ex,g,G⟩:=d;subst ex;obtain rfl:u=Value.ref a:=L;exact SA hu q g M J λs4 w=>⟨j,m,w,G⟩
end
theorem UJ(h:aP)(a:sysModules<h.objs.size):a8 P w H (h.push { cls:=.type "dict",data:=.dict #[] }) h.objs.size (.dK []):=
 ⟨zero_le _,beq_eq_false_iff_ne.mpr (Ne.symm (ne_of_lt a)),[],.nil,Heap.DictOf.new h⟩
def CN:TE:=λ_ H Q=>∀p,H p=none->Q (.ref p) (aW H p (.dK []))
section
variable{X:Cx}{pos:Pos}
theorem UK:PE X (.Dict [] [] pos) CN:=λaa s j H Q I h=>
 wpAny_Dict_empty ⟨.ref ⇑s,_,I.laid (a:=⇑s) (o:=.dK []) (t':=s.toks) (λ_ _ q=>Heap.get?_push_of_some _ q) (le_refl _) (UJ s.heap I.big),rfl,h _ (I.aS.fresh (le_refl _))⟩
end
structure M1(X:Cx)(o:Expr)(m:Str)(apos:Pos)(e:Expr)(bP:Pos):Prop where
 base:attributeBase o m X.env (eval o X.env)=eval o X.env
 uO:((backTo bP (starEach [e] X.env)).all (λx=>!x.1)&&(backToKw bP (keywordEach [] X.env)).all (λx=>x.1.isSome)
  && decide (([e]:bT).length+([]:List Keyword).length+(if ([]:List Keyword).isEmpty then 0 else 1)<30))=true
 line:(apos.endLine == bP.line)=true
 trees:backTo bP (starEach [e] X.env)=[(false,eval e X.env)]
structure M2(X:Cx)(o:Expr)(m:Str)(apos:Pos)(e f:Expr)(bP:Pos):Prop where
 base:attributeBase o m X.env (eval o X.env)=eval o X.env
 uO:((backTo bP (starEach [e,f] X.env)).all (λx=>!x.1)&&(backToKw bP (keywordEach [] X.env)).all (λx=>x.1.isSome)
  && decide (([e,f]:bT).length+([]:List Keyword).length+(if ([]:List Keyword).isEmpty then 0 else 1)<30))=true
 line:(apos.endLine == bP.line)=true
 trees:backTo bP (starEach [e,f] X.env)=[(false,eval e X.env),(false,eval f X.env)]
def AR(H:Hp)(a:ae):Prop:=(∃b,Rd H a (.dK b))\/∃b,Rd H a (.dT b)
theorem HM(I:au X aa j H s)(d:AR H a):
  s.TypeIs (.ref a) "dict"/\(∀b,Value.ref a=.ref b->∃ob,s.heap.get? b=some ob/\ob.dict=none)/\(a == sysModules)=false:=by
 rcases d with⟨g,e⟩ |⟨g,e⟩
 .obtain⟨_,hd,vs,_,dd⟩:=hJ I.aS e;refine⟨dd.typeIs,λb q=>?_,hd⟩;cases q;let⟨ob,_,_,c,f,_⟩:=dd;exact⟨ob,c,f.2.1⟩
 .obtain⟨_,hd,xs,_,dd⟩:=mI I.aS e;refine⟨dd.typeIs,λb q=>?_,hd⟩;cases q;let⟨ob,_,_,c,f,_⟩:=dd;exact⟨ob,c,f.2.1⟩
section
variable{X:Cx}{aa:aT}{σ:St}{H:Hp}{s:ai}{a:ae}{y d:V}{u r:af}{o:Option V}{A:Around}{E:af->ai->Prop}
theorem Zm{Q:af->ai->Prop}(hu:A.units+1<cLine)(I:au X aa σ H s)(g:kG H a y o)(m:aC y u)(rd:aC d r)(h:∀n s',au X aa σ H s'->aC (o.getD d) n->Q n s'):
  wpAny (model X.prog X.w) A (call (.builtin "dict.get") [.ref a,u,r]) Q E s:=by
 rcases g with⟨j,k,e,i,l⟩ |⟨j,k,b,e,i,p,l⟩
 .subst i;let⟨z,hd,vs,c,f⟩:=hJ I.aS e;refine call_meetsIn PySem.F.slot_dict_get f.typeIs PySem.F.entry_dict_get (PySem.F.args_dict_get_3 _ _ _) (meets_dict_get_default (dz X.prog X.w) a (kZ m) hd r) ⟨_,f.mapOf,h _ _ (I.tok _) ?_⟩;rw[l];exact (c.val k).getD rd
 .subst i;cases (show u=Value.ref b from m);let⟨z,hd,q,c,f⟩:=mI I.aS e;refine call_meetsIn PySem.F.slot_dict_get f.typeIs PySem.F.entry_dict_get (PySem.F.args_dict_get_3 _ _ _) (meetsH_dict_get_default (tupleKind (dz X.prog X.w)) a b hd r) ⟨tupleKind_room_in1 hu,k,q,oA I.aS p,f,h _ _ (I.tok _) ?_⟩;rw[l];exact (c.val k).getD rd
end
def CO(e ty tx:TE):TE:=λj H Q=>e j H λx b=>∃a,x=.ref a/\AR b a/\ty j b λy d=>tx j d λz c=>∃o,kG c a y o/\Q (o.getD z) c
section
variable{X:Cx}{o e f:Expr}{apos bP:Pos}{td ty tx:TE}
theorem UL(hu:X.A.units+1<cLine)(p:PE X o td)(he:PE X e ty)(n:PE X f tx)(m:M2 X o "get" apos e f bP):PE X (.Call (.Attribute o "get" apos) [e,f] [] bP) (CO td ty tx):=by
 intro aa s j H Q I h;refine wpAny_Call_method m.base m.uO m.line PySem.F.plainAttrs_dict PySem.F.slot_dict_get PySem.F.type_dict_get (bq (p aa s j H _ I h) λu v b=>?_);let⟨x,i,c,r,a,ex,d,q⟩:=b;subst ex;obtain rfl:u=Value.ref a:=r;let⟨B,C,_⟩:=HM c d;refine⟨B,C,?_⟩;rw[m.trees];refine Calls.callWith_builtin rfl (Calls.evalArgs_plain (Calls.spliced_cons (bq (he aa v j i _ c q) λE w ⟨y,H2,I2,ry,q2⟩=>
  Calls.spliced_cons (bq (n aa w j H2 _ I2 q2) λD G ⟨z,H3,I3,rz,ov,g,q3⟩=>Calls.spliced_nil ?_))))
 exact Zm hu I3 g ry rz λL J l eM=>⟨_,H3,l,eM,q3⟩
end
section
variable{X:Cx}{aa:aT}{σ:St}{H:Hp}{s:ai}{a:ae}{kvs:cv}{A:Around}{E:af->ai->Prop}
theorem UM{Q:af->ai->Prop}(I:au X aa σ H s)(e:Rd H a (.dK kvs))(h:∀p s',H p=none->au X aa σ (aW H p (.dK kvs)) s'->Q (.ref p) s'):wpAny (model X.prog X.w) A (call (.type "dict") [.ref a]) Q E s:=by
 let⟨z,hd,vs,c,g⟩:=hJ I.aS e;refine kt_call_dict hd g (by rw[<- c.length];exact z) λj d i=>?_
 refine h _ _ (I.aS.fresh (le_refl _)) (I.laid (a:=⇑s) (o:=.dK kvs) (t':=s.toks) (λb q f=>?_) (le_refl _) (HF z (beq_eq_false_iff_ne.mpr (Ne.symm (ne_of_lt I.big))) c d));exact (i.2 b (ne_of_lt (Heap.lt_size f))).trans (Heap.get?_push_of_some _ f)
end
end L2
namespace HT
open PySem PyProof.Rows
section
variable{prog:Program}{w:World}{A:Around}{E:af->ai->Prop}{s:ai}
def bO(n d:Nat):bE->Nat
 |none=>d
 |some v=>if v < 0 then (v + (n:Int)).toNat else min v.toNat n
theorem Zn(n d:Nat)(hd:d<=n)(o:bE):bO n d o<=n:=by
 cases o with
 |none=>exact hd
 |some v=>
  show (if v<0 then (v+(n:Int)).toNat else min v.toNat n)<=n;by_cases hv:v<0
  .rw[if_pos hv];omega
  .rw[if_neg hv];exact Nat.min_le_right _ _
theorem GB(v:Int)(n d:Nat):(if v<0 then max (v+(n:Int)) 0 else min v (n:Int))=((bO n d (some v):Nat):Int):=by
 show (if v<0 then max (v+(n:Int)) 0 else min v (n:Int))=(((if v<0 then (v+(n:Int)).toNat else min v.toNat n):Nat):Int)
 by_cases hv:v<0
 .simp only[if_pos hv];omega
 .simp only[if_neg hv];omega
theorem RN(lo a:bE)(n:Nat):Builtin.Slice.sliceAdjust lo a 1 (n:Int)=(((bO n 0 lo:Nat):Int),((bO n n a:Nat):Int)):=by
 have b:¬ ((1:Int)<0):=⋯
 unfold Builtin.Slice.sliceAdjust;simp only[b,if_false];refine Prod.ext ?_ ?_
 .cases lo with
  |none=>rfl
  |some v=>exact GB v n 0
 .cases a with
  |none=>rfl
  |some v=>exact GB v n n
theorem RO(i j:Nat):Builtin.Slice.slicePlaces (i:Int) (j:Int) 1=j - i:=by
 unfold Builtin.Slice.slicePlaces;have a:(1:Int) > 0:=⋯
 simp only[a,if_true,Int.ediv_one];split<;>omega
theorem ER{Q:bE->ai->Prop}(p:IsPart v o)(h:Q o s):wpAny (model prog w) A (Builtin.Slice.slicePartIndex v) Q E s:=by
 cases p with
 |none=>exact slicePart_none h
 |int i t=>exact slicePart_int h
theorem OC{e:ae}{vl d:af}{lo b:bE}{n:Nat}{Q:Int×Int×Nat->ai->Prop}(hs:s.heap.IsSliceOf e vl d .none)(pl:IsPart vl lo)(g:IsPart d b)(h:Q (((bO n 0 lo:Nat):Int),1,bO n n b - bO n 0 lo) s):wpAny (model prog w) A (Builtin.Slice.sliceApplied (.ref e) (pure (n:Int))) Q E s:=by
 let⟨os,c,f,a⟩:=id hs;unfold Builtin.Slice.sliceApplied Builtin.Slice.sliceFields;refine wpAny_bind (wpAny_bind (wpAny_field c a (x:=vl) rfl (wpAny_bind (wpAny_field c a (x:=d) rfl (wpAny_bind (wpAny_field c a (x:=.none) rfl (wpAny_pure ?_)))))));refine wpAny_bind (slicePart_none ?_);show wpAny _ _ (if ((1:Int) == 0)=true then _ else _) _ _ s;rw[if_neg ∎];refine wpAny_bind (ER pl (wpAny_bind (ER g (wpAny_bind (wpAny_pure ?_)))));show wpAny _ _ (match Builtin.Slice.sliceAdjust lo b 1 (n:Int) with |(lo,b)=>pure (lo,(1:Int),Builtin.Slice.slicePlaces lo b 1)) _ _ s;rw[RN lo b n];show wpAny _ _ (pure (((bO n 0 lo:Nat):Int),(1:Int),Builtin.Slice.slicePlaces ((bO n 0 lo:Nat):Int) ((bO n n b:Nat):Int) 1)) _ _ s;rw[RO];exact wpAny_pure h
theorem UN(xs:dh)(i k:Nat):((List.range k).filterMap λ(m:Nat)=>xs[((i:Int)+(m:Int)*1).toNat]?).toArray=((xs.toList.drop i).take k).toArray:=by
 have e:(λ(m:Nat)=>xs[((i:Int)+(m:Int)*1).toNat]?)=λm=>xs[i+m]?:=by
  funext m;have:((i:Int)+(m:Int)*1).toNat=i+m:=⋯
  rw[this]
 rw[e];have:=pick_run xs i k;rw[List.filterMap_map] at this;have a:((λx=>xs[x]?) ∘ λx=>i+x)=λm=>xs[i+m]?:=rfl
 rw[a] at this;rw[this]
theorem dH{t i:ae}{items:dh}{vl j:af}{lo b:bE}{Q:af->ai->Prop}(c:IsTup s.heap t items)(hs:s.heap.IsSliceOf i vl j .none)(pl:IsPart vl lo)(n:IsPart j b)(hw:¬ (bO items.size 0 lo=0/\bO items.size items.size b=items.size))(h:Q (.ref ⇑s) { s with heap:=s.heap.push { cls:=.type "tuple",data:=.seq ((items.toList.drop (bO items.size 0 lo)).take (bO items.size items.size b - bO items.size 0 lo)).toArray } })(hsz:items.size<=sizeLine):wpAny (model prog w) A (getItem (.ref t) (.ref i)) Q E s:=by
 have a:sizeOk (.seq ((items.toList.drop (bO items.size 0 lo)).take (bO items.size items.size b - bO items.size 0 lo)).toArray):=by
  show ((items.toList.drop (bO items.size 0 lo)).take (bO items.size items.size b - bO items.size 0 lo)).toArray.size<=sizeLine;rw[size_toArray,length_take,List.length_drop,length_toList];omega
 have o:bO items.size items.size b<=items.size:=Zn _ _ (le_refl _) b;let⟨os,g,e,l⟩:=id hs;have d:s.TypeIs (.ref i) "slice":=⟨os,g,e⟩
 unfold getItem
 try with_reducible refine wpAny_holding ?_
 first |refine wpAny_bind (wpAny_pure ?_) |skip
 refine wpAny_bind (wpAny_sequenceKey c.typeIs ∎ ?_);refine wpAny_bind (wpAny_callSpecial?_slot (name:=Str.ofString "__getitem__") c.typeIs PyProof.Rows.slot_tuple_getitem
  (wpAny_call_entry PyProof.Rows.slot_tuple_getitem c.typeIs entry_tuple_getitem ?_ (args_tuple_getitem _ _)))
 show wpAny _ _ (Builtin.Tuple.tupleItemsOf (.ref t) >>= _) _ _ s;refine wpAny_bind (tupleItemsOf_ c ?_);refine wpAny_bind (wpAny_typeOf d ?_);rw[if_pos ∎];refine wpAny_bind (OC hs pl n ?_);have f:¬ ((((bO items.size 0 lo:Nat):Int) == 0&&(1:Int) == 1&&(bO items.size items.size b - bO items.size 0 lo) == items.size)=true):=by
  intro q;rw[and_eq_true,and_eq_true] at q;have p:((bO items.size 0 lo:Nat):Int)=0:=eq_of_beq q.1.1;have r:bO items.size items.size b - bO items.size 0 lo=items.size:=eq_of_beq q.2;exact hw ⟨⋯,⋯⟩
 show wpAny _ _ (if (((bO items.size 0 lo:Nat):Int) == 0&&(1:Int) == 1&&(bO items.size items.size b - bO items.size 0 lo) == items.size)=true then _ else _) _ _ s;rw[if_neg f,UN];first
  |exact wpAny_bind (m:=Builtin.Tuple.tupleExact _) (wpAny_newObj_type (wpAny_pure ⟨_,rfl,wpAny_pure h⟩) a)
  |exact wpAny_bind (m:=Builtin.Tuple.tupleExact _) (wpAny_newObj_type (wpAny_bind (wpAny_pure (wpAny_pure ⟨_,rfl,wpAny_pure h⟩))) a)
  |exact wpAny_bind (wpAny_bind (m:=Builtin.Tuple.tupleExact _) (wpAny_newObj_type (wpAny_pure (wpAny_pure ⟨_,rfl,wpAny_pure h⟩)) a))
  |exact wpAny_bind (wpAny_bind (m:=Builtin.Tuple.tupleExact _) (wpAny_newObj_type (wpAny_pure ⟨_,rfl,wpAny_pure h⟩) a))
end
end HT
namespace L2
open PySem PySem.Spec PyProof.Rows
abbrev TO:=St->Hp->(bE->Hp->Prop)->Prop
def PO(X:Cx)(e:Option Expr)(t:TO):Prop:=
 ∀(aa:aT)(s:ai)(j:St)(H:Hp)(Q:bE->Hp->Prop),au X aa j H s->t j H Q->
  wpAny (model X.prog X.w) X.A (evalPart e X.env) (λu b=>∃o a,au X aa j a b/\IsPart u o/\Q o a) X.xe s
def CD:TO:=λ_ H Q=>Q none H
def C3(t:TE):TO:=λj H Q=>t j H λx a=>∃i,x=.int i/\Q (some i) a
section
variable{X:Cx}{e:Expr}{te:TE}{lo hi:Option Expr}{tl th:TO}{pos p2:Pos}
theorem X4:PO X none CD:=by
 intro aa s j H Q I h;rw[evalPart_none];exact wpAny_pure ⟨none,H,I,.none,h⟩
theorem X5(h:PE X e te):PO X (some e) (C3 te):=by
 intro aa s j H Q I hw;rw[evalPart_some];refine bq (h aa s j H _ I hw) λu f a=>?_
 ∎;let⟨x,b,c,r1,d⟩:=a;let⟨i,rfl,q⟩:=d;let⟨t,rfl⟩:=r1;∎;exact⟨some i,b,c,.int i t,q⟩
def jy(X:Cx)(r:V->bE->bE->Hp->VK->Prop):Prop:=
 ∀(aa:aT)(s:ai)(j:St)(H:Hp)(x:V)(v vl b:af)(lo hi:bE)(a:ae)(Q:VK),au X aa j H s->aC x v->s.heap.IsSliceOf a vl b .none->IsPart vl lo->IsPart b hi->r x lo hi H Q->
  ∃T id,typeLookup (.type T) "__getitem__"=pure (some (.builtin id))/\s.TypeIs v T/\wpAny (model X.prog X.w) X.A (getItem v (.ref a)) (EP X aa j Q) X.xe s
theorem jy.or{r d:V->bE->bE->Hp->VK->Prop}(h:jy X r)(h':jy X d):jy X (λx lo hi H Q=>r x lo hi H Q\/d x lo hi H Q):=by
 intro aa s j H x v vl i lo hi g Q I f a b c q;rcases q with q |q
 .exact h aa s j H x v vl i lo hi g Q I f a b c q
 .exact h' aa s j H x v vl i lo hi g Q I f a b c q
def AG(r:V->bE->bE->Hp->VK->Prop)(te:TE)(tl th:TO):TE:=λj H Q=>te j H λx a=>tl j a λl b=>th j b λu c=>r x l u c Q
theorem FR(D:jy X r)(he:PE X e te)(C:PO X lo tl)(hu:PO X hi th):PE X (.Subscript e (.Slice lo hi none p2) pos) (AG r te tl th):=by
 intro aa s j H Q I h;refine Subscript_ (bq (he aa s j H _ I h) λv O c=>?_);let⟨x,i,n,r1,L⟩:=c;refine wpAny_Slice (bq (C aa O j i _ n L) λvl U c=>?_);let⟨l,m,o,G,M⟩:=c;refine bq (hu aa U j m _ o M) λd a f=>?_
 let⟨u,g,p,J,N⟩:=f;rw[evalPart_none];refine wpAny_pure ?_;have y:au X aa j g { a with heap:=a.heap.push { cls:=.type "slice",data:=.fields #[vl,d,.none] } }:=p.kept (t':=a.toks) λb ob q=>Heap.get?_push_of_some _ q
 let⟨T,id,z,E,B⟩:=D aa { a with heap:=a.heap.push { cls:=.type "slice",data:=.fields #[vl,d,.none] } } j g x v vl d l u ⇑a Q y r1 (Heap.IsSliceOf.new ..) G J N;show wpAny (model X.prog X.w) X.A (subscriptTail e (.Slice lo hi none p2) v (.ref ⇑a)) (EP X aa j Q) X.xe { a with heap:=a.heap.push { cls:=.type "slice",data:=.fields #[vl,d,.none] } };exact tail_any (ops:=[.ref ⇑a,v]) E z B (by with_unfolding_all rfl)
def kH(xs:ax)(lo hi:bE):ax:=(xs.drop (HT.bO xs.length 0 lo)).take (HT.bO xs.length xs.length hi - HT.bO xs.length 0 lo)
theorem EH(xs:ax)(lo hi:bE):(kH xs lo hi).length<=xs.length:=by
 unfold kH;rw[length_take,List.length_drop];omega
def D4(K:ak):V->bE->bE->Hp->VK->Prop:=λx lo hi H Q=>∃a b,x=.ref a/\ck K H a b/\
 ¬ (HT.bO b.length 0 lo=0/\HT.bO b.length b.length hi=b.length)/\∀p,H p=none->Q (.ref p) (aW H p (.aA (kH b lo hi)))
theorem Zo:jy X (D4 X.K):=by
 intro aa s j H x v vl y lo hi w Q I u l n p h;let⟨a,d,rfl,m,hw,q⟩:=h;cases u;let⟨f,r,g,i⟩:=I.tuple m;have c:f.toArray.size=d.length:=by rw[size_toArray];exact r.length.symm
 refine⟨"tuple",_,PyProof.Rows.slot_tuple_getitem.lookup,g.typeIs,?_⟩;refine HT.dH g l n p (by rw[c];exact hw) ?_ (by rw[c];exact i);rw[c];refine⟨.ref ⇑s,_,I.laid (t':=s.toks) (o:=.aA (kH d lo hi)) (λb ob q=>Heap.get?_push_of_some _ q) (le_refl _) ?_,rfl,q _ (I.aS.fresh (le_refl _))⟩;exact⟨le_trans (EH d lo hi) i,_,(r.drop (HT.bO d.length 0 lo)).take (HT.bO d.length d.length hi - HT.bO d.length 0 lo),IsTup.new _ _⟩
end
def hW(n:Nat)(i:Int):Option Nat:=if 0<=i then (if i<n then some i.toNat else none) else if -(n:Int)<=i then some (i+n).toNat else none
def cU{y:Type}(xs:List y)(i:Int):Option y:=(hW xs.length i).bind λj=>xs[j]?
theorem GC(h:hW n i=some j):seqIndex? i n=some j/\j<n/\-(n:Int)<=i/\i<n:=by
 unfold hW at h;by_cases b:0<=i
 .rw[if_pos b] at h;by_cases a:i<n
  .rw[if_pos a] at h;have e:i.toNat=j:=Option.some.inj h;exact⟨by rw[seqIndex_of b a,e],⋯,⋯,a⟩
  .rw[if_neg a] at h;cases h
 .rw[if_neg b] at h;by_cases a:-(n:Int)<=i
  .rw[if_pos a] at h;have e:(i+n).toNat=j:=Option.some.inj h;exact⟨by rw[seqIndex_neg ⋯ a,e],⋯,a,⋯⟩
  .rw[if_neg a] at h;cases h
theorem y9(h:cU xs i=some v):∃j,seqIndex? i xs.length=some j/\xs[j]?=some v/\j<xs.length/\-(xs.length:Int)<=i/\i<xs.length:=by
 unfold cU at h;cases e:hW xs.length i with
 |none=>rw[e] at h;cases h
 |some j=>
  rw[e] at h;let⟨a,b,c,d⟩:=GC e;exact⟨j,a,h,b,c,d⟩
def CF(b:Expr):Prop:=∀o i,subscripted b false o i=operate [o,i] (getItem o i)
def iF(X:Cx)(r:R2):Prop:=
 ∀(value a:Expr)(aa:aT)(s:ai)(j:St)(H:Hp)(x y:V)(v u:af)(Q:VK),au X aa j H s->aC x v->aC y u->r x y H Q->
  subscripted a false v u=operate [v,u] (getItem v u)->wpAny (model X.prog X.w) X.A (subscriptTail value a v u) (EP X aa j Q) X.xe s
section
variable{X:Cx}{a b:Expr}{ta tb:TE}{pos:Pos}
theorem iF.or{r e:R2}(h:iF X r)(h':iF X e):iF X (λx y H Q=>r x y H Q\/e x y H Q):=by
 intro value c aa s j H x y v u Q I f g q d;rcases q with q |q
 .exact h value c aa s j H x y v u Q I f g q d
 .exact h' value c aa s j H x y v u Q I f g q d
theorem Lb(f:iF X r)(ha:PE X a ta)(e:PE X b tb)(hs:CF b):PE X (.Subscript a b pos) (o9 r ta tb):=by
 intro aa s j H Q I h;exact Subscript_ (AB ha e I h λv u l x y c d g i q=>f a b aa l j c x y v u Q d g i q (hs _ _))
def D5(K:ak):R2:=λx y H Q=>∃p c i v,x=.ref p/\y=.int i/\bY K H p c/\cU c i=some v/\Q v H
def D6(K:ak):R2:=λx y H Q=>∃p c i v,x=.ref p/\y=.int i/\ck K H p c/\cU c i=some v/\Q v H
def D7:R2:=λx y H Q=>∃z i c,x=.str z/\y=.int i/\z.length<=sizeLine/\cU z.cps.toList i=some c/\Q (.str ⟨#[c]⟩) H
theorem MV:iF X (D5 X.K):=by
 intro value g aa s G H x y v u Q I J L h n;let⟨p,U,i,z,rfl,rfl,E,C,q⟩:=h;cases J;∎;let⟨t,rfl⟩:=L;let⟨e,r,f,O⟩:=I.list E;let⟨j,d,o,N,A,B⟩:=y9 C;let⟨w,l,eM⟩:=r.get o;∎;have D:=r.length;have hn:=rj;have c:EP X aa G Q w s:=⟨z,H,I,eM,q⟩;by_cases m:0<=i
 .have hj:i.toNat=j:=by
   rw[seqIndex_of m B] at d;exact Option.some.inj d
  exact item_listR f.isList m ⋯ (by rw[hj];simpa using l) c n
 .have hj:(i+(e.toArray.size:Int)).toNat=j:=by
   rw[seqIndex_neg ⋯ A] at d;rw[size_toArray,<- D];exact Option.some.inj d
  exact subscriptTail_builtinR (x:=w) f.isList.typeIs slot_list_getitem.lookup
   (wpAny_getItem_list_neg (Q:=λr M=>r=w/\EP X aa G Q r M) f.isList ⋯ (by rw[size_toArray]<;>omega) ⋯ (by rw[hj];simpa using l) ⟨rfl,c⟩) n
theorem M6:iF X (D6 X.K):=by
 intro value d aa s G H x y v u Q I C D h A;let⟨p,O,i,z,rfl,rfl,o,m,q⟩:=h;cases C;∎;let⟨t,rfl⟩:=D;let⟨B,r,e,N⟩:=I.tuple o;let⟨j,g,l,J,L,M⟩:=y9 m;let⟨w,f,eM⟩:=r.get l;∎;have n:=r.length;have hn:=rj;have c:EP X aa G Q w s:=⟨z,H,I,eM,q⟩;exact subscriptTail_builtinR (x:=w) e.typeIs slot_tuple_getitem.lookup
  (getItem_tuple (j:=j) (Q:=λr E=>r=w/\EP X aa G Q r E) e ⋯ ⋯ (by rw[size_toArray,<- n];exact g) (by simpa using f) ⟨rfl,c⟩) A
theorem Zp:iF X D7:=by
 intro value d aa s G H x y v u Q I w A h r;∎;let⟨z,i,c,rfl,rfl,C,o,q⟩:=h;let⟨t,rfl⟩:=w;let⟨D,rfl⟩:=A;let⟨j,e,l,B,m,n⟩:=y9 o;∎;have p:z.cps.toList.length=z.length:=by simp[Str.length]
 rw[p] at e m n;have hn:=rj;exact tail_any (typeIs_str s z t) slot_str_getitem.lookup (getItem_str (c:=c) (by
  have f:decide (i < -(2 ^ 63:Int))=false:=decide_eq_false ⋯;have g:decide (i ≥ 2 ^ 63)=false:=decide_eq_false ⋯;rw[f,g,Bool.or_false]) (by rw[e];simpa using l) ⟨.str ⟨#[c]⟩,H,I.tok _,⟨_,rfl⟩,q⟩) r
def Ig(K:ak):R2:=λx y H Q=>D5 K x y H Q\/D6 K x y H Q\/D7 x y H Q
theorem M7:iF X (Ig X.K):=MV.or (M6.or Zp)
theorem RP(bo:aN)(n j:Nat)(u:af):Obj.mapSeq (·.setIfInBounds j u) { cls:=.type "list",data:=.seq bo.toArray n }={ cls:=.type "list",data:=.seq (bo.set j u).toArray n }:=by
 simp[Obj.mapSeq]
theorem au.av{H:Hp}(I:au X aa j H s)(h:H p=some (.av xs)):
  ∃(bo:aN)(n:Nat),aL xs bo/\s.heap.get? p=some { cls:=.type "list",data:=.seq bo.toArray n }/\xs.length<=sizeLine:=by
 let⟨z,bo,n,r,e⟩:=I.aS p _ h;exact⟨bo,n,r,e,z⟩
theorem au.mU{aa:aT}{j:St}{H:Hp}{s:ai}{p:ae}{xs ys:ax}{bo c:aN}{n n':Nat}{f:Obj->Obj}(I:au X aa j H s)(h:H p=some (.av xs))(i:s.heap.get? p=some { cls:=.type "list",data:=.seq bo.toArray n })(d:f { cls:=.type "list",data:=.seq bo.toArray n }={ cls:=.type "list",data:=.seq c.toArray n' })(r:aL ys c)(hz:ys.length<=sizeLine)(t:Nat):
  au X aa j (aW H p (.av ys)) { s with heap:=s.heap.update p f,toks:=t }:=by
 have e:(s.heap.update p f).get? p=some { cls:=.type "list",data:=.seq c.toArray n' }:=by
  rw[Heap.get?_update_self f i (by rw[d]<;>rfl),d]
 refine I.write (x:=p) (e:=p) (by rw[h];trivial) (.inl rfl) (λb u g q=>(Heap.get?_update_other _ _ (Ne.symm g)).trans q) ⟨_,e⟩ ?_;exact⟨hz,c,n',r,e⟩
def C4:V->V->V->Hp->(Hp->Prop)->Prop:=λo i v H Q=>∃p c k j,o=.ref p/\i=.int k/\H p=some (.av c)/\hW c.length k=some j/\Q (aW H p (.av (c.set j v)))
theorem UO:DQ X C4:=by
 intro aa s y H o i v L J u Q I C B D h;let⟨p,E,k,j,rfl,rfl,x,z,q⟩:=h;cases C;∎;let⟨t,rfl⟩:=B;let⟨c,n,r,f,A⟩:=I.av x;let⟨d,G,m,w⟩:=GC z;∎;have e:=r.length;have hn:=rj;have g:au X aa y (aW H p (.av (E.set j v))) { s with heap:=s.heap.update p (Obj.mapSeq (·.setIfInBounds j u)) }:=
  I.mU x f (RP c n j u) (r.set D j) (by rw[length_set];exact A) s.toks
 by_cases l:0<=k
 .have hk:k.toNat=j:=by
   rw[seqIndex_of l w] at d;exact Option.some.inj d
  exact W.ki_setAt f l ⋯ (by rw[size_toArray,<- e];exact w) (by rw[hk];exact⟨_,g,q⟩)
 .have hk:(k+(c.toArray.size:Int)).toNat=j:=by
   rw[seqIndex_neg ⋯ m] at d;rw[size_toArray,<- e];exact Option.some.inj d
  exact W.ki_setBack f ⋯ (by rw[size_toArray,<- e];exact m) ⋯ (by rw[hk];exact⟨_,g,q⟩)
theorem Pr(lo c:bE)(n:Nat):(sliceBounds lo c none n).1=((HT.bO n 0 lo:Nat):Int)/\(sliceBounds lo c none n).2.1=((HT.bO n n c:Nat):Int)/\(sliceBounds lo c none n).2.2=1:=by
 refine⟨?_,?_,rfl⟩
 .cases lo with
  |none=>simp[sliceBounds,HT.bO]
  |some i=>
   simp only[sliceBounds,HT.bO,Option.getD_none,show (1:Int) > 0 by decide,if_true];by_cases h:i<0
   .simp only[h,if_true]<;>omega
   .simp only[h,if_false]<;>omega
 .cases c with
  |none=>simp[sliceBounds,HT.bO]
  |some i=>
   simp only[sliceBounds,HT.bO,Option.getD_none,show (1:Int) > 0 by decide,if_true];by_cases h:i<0
   .simp only[h,if_true]<;>omega
   .simp only[h,if_false]<;>omega
theorem Pb(bo:aN)(lo c:bE):slicePick bo.toArray lo c none=((bo.drop (HT.bO bo.length 0 lo)).take (HT.bO bo.length bo.length c - HT.bO bo.length 0 lo)).toArray:=by
 let⟨d,e,f⟩:=Pr lo c bo.toArray.size;unfold slicePick;rw[d,e,f];simp only[sliceRange_one,pick_run,size_toArray]<;>rfl
def D8(K:ak):V->bE->bE->Hp->VK->Prop:=λx lo d H Q=>∃a c,x=.ref a/\bY K H a c/\∀p,H p=none->Q (.ref p) (aW H p (.av (kH c lo d)))
theorem MW:jy X (D8 X.K):=by
 intro aa s j H x v vl y lo e w Q I u g n p h;let⟨a,c,rfl,i,q⟩:=h;cases u;let⟨m,r,f,l⟩:=I.list i;have d:=r.length;refine⟨"list",_,slot_list_getitem.lookup,f.isList.typeIs,?_⟩;refine wpAny_getItem_list_slice f.isList g n p .none (by simp) ?_ (by rw[size_toArray]<;>omega);rw[Pb,<- d];refine⟨.ref ⇑s,_,I.laid (t':=s.toks) (o:=.av (kH c lo e)) (λb ob q=>Heap.get?_push_of_some _ q) (le_refl _) ?_,rfl,q _ (I.aS.fresh (le_refl _))⟩;exact⟨le_trans (EH c lo e) l,_,0,(r.drop (HT.bO c.length 0 lo)).take (HT.bO c.length c.length e - HT.bO c.length 0 lo),Heap.get?_push_size _ rfl⟩
def gs:V->Bool
 |.aZ=>true
 |.bl _=>true
 |.int _=>true
 |.str _=>true
 |_=>false
def gB:V->V->Bool
 |.aZ,.aZ=>true
 |.bl a,.bl b=>a == b
 |.bl a,.int b=>(if a then 1 else 0) == b
 |.int a,.bl b=>a == (if b then 1 else 0)
 |.int a,.int b=>a == b
 |.str a,.str b=>a == b
 |_,_=>false
theorem mw(f:aC y u)(c:aC x v)(g:gs y=true)(e:gs x=true):SeqAt.EqAt A s u v (gB y x):=by
 cases y with
 |aZ=>
  cases f;cases x with
  |aZ=>cases c;exact SeqAt.EqAt.same _
  |bl b=>cases c;exact SeqAt.EqAt.none_bool b
  |int b=>let⟨t,rfl⟩:=c;exact SeqAt.EqAt.none_int b t
  |str b=>let⟨t,rfl⟩:=c;exact SeqAt.EqAt.none_str b t
  |_=>exact absurd (show false=true from e) Bool.false_ne_true
 |bl a=>
  cases f;cases x with
  |aZ=>cases c;exact SeqAt.EqAt.bool_none a
  |bl b=>cases c;exact SeqAt.EqAt.bool_bool a b
  |int b=>let⟨t,rfl⟩:=c;exact SeqAt.EqAt.bool_int a b t
  |str b=>let⟨t,rfl⟩:=c;exact SeqAt.EqAt.bool_str a b t
  |_=>exact absurd (show false=true from e) Bool.false_ne_true
 |int a=>
  let⟨d,rfl⟩:=f;cases x with
  |aZ=>cases c;exact SeqAt.EqAt.int_none a d
  |bl b=>cases c;exact SeqAt.EqAt.int_bool a d b
  |int b=>let⟨t,rfl⟩:=c;exact SeqAt.EqAt.int_int a d b t
  |str b=>let⟨t,rfl⟩:=c;exact SeqAt.EqAt.int_str a d b t
  |_=>exact absurd (show false=true from e) Bool.false_ne_true
 |str a=>
  let⟨d,rfl⟩:=f;cases x with
  |aZ=>cases c;exact SeqAt.EqAt.str_none a d
  |bl b=>cases c;exact SeqAt.EqAt.str_bool a d b
  |int b=>let⟨t,rfl⟩:=c;exact SeqAt.EqAt.str_int a d b t
  |str b=>let⟨t,rfl⟩:=c;exact SeqAt.EqAt.str_str a d b t
  |_=>exact absurd (show false=true from e) Bool.false_ne_true
 |_=>exact absurd (show false=true from g) Bool.false_ne_true
def gA(x:V)(u:af):Bool:=match u with
 |.none=>gB .aZ x
 |.bool b=>gB (.bl b) x
 |.int i _=>gB (.int i) x
 |.str z _=>gB (.str z) x
 |_=>false
theorem HN(r:aC y u)(f:gs y=true):gA x u=gB y x:=by
 cases y with
 |aZ=>cases r;rfl
 |bl b=>cases r;rfl
 |int i=>let⟨t,rfl⟩:=r;rfl
 |str z=>let⟨t,rfl⟩:=r;rfl
 |_=>exact absurd (show false=true from f) Bool.false_ne_true
theorem qV:∀{xs:ax}{us:aN},aL xs us->xs.all gs=true->us.any (gA x)=xs.any λy=>gB y x
 |_,_,.nil,_=>rfl
 |y::xs,u::us,.cons r t,f=>by
  rw[all_cons,and_eq_true] at f;rw[any_cons,any_cons,HN r f.1,qV t f.2]
theorem rg(d:aC x v)(c:gs x=true):∀{xs:ax}{us:aN},aL xs us->xs.all gs=true->∀u∈us,SeqAt.EqAt A s u v (gA x u)
 |_,_,.nil,_=>λu hu=>by cases hu
 |y::xs,u::us,.cons r t,f=>λe hu=>by
  rw[all_cons,and_eq_true] at f;rcases mem_cons.mp hu with rfl |hu
  .rw[HN r f.1];exact mw r d f.1 c
  .exact rg d c t f.2 e hu
def vj(x:V)(xs:ax):Bool:=xs.any λy=>gB y x
def sd(K:ak)(neg:Bool):R2:=λx y H Q=>∃p c,y=.ref p/\(bY K H p c\/ck K H p c)/\gs x=true/\c.all gs=true/\Q (.bl (if neg then !vj x c else vj x c)) H
theorem MT:b6 X (compareOp .In) (sd X.K false):=by
 intro aa s j H x y v u Q I e f h;let⟨p,g,rfl,c,d,fs,q⟩:=h;cases f;rcases c with c |c
 .obtain⟨bo,r,pl,hz⟩:=I.list c;refine SeqAt.in_listAt (gA x) pl.isList (λw hw=>rg e d r fs w (by simpa using hw)) ⟨.bl _,H,I,rfl,?_⟩;rw[show bo.toArray.any (gA x)=bo.any (gA x) by simp,qV r fs];exact q
 .obtain⟨bo,r,pl,hz⟩:=I.tuple c;refine SeqAt.in_tupleAt (gA x) pl (λw hw=>rg e d r fs w (by simpa using hw)) ⟨.bl _,H,I,rfl,?_⟩;rw[show bo.toArray.any (gA x)=bo.any (gA x) by simp,qV r fs];exact q
theorem MM:b6 X (compareOp .NotIn) (sd X.K true):=by
 intro aa s j H x y v u Q I e f h;let⟨p,g,rfl,c,d,fs,q⟩:=h;cases f;rcases c with c |c
 .obtain⟨bo,r,pl,hz⟩:=I.list c;refine SeqAt.notIn_listAt (gA x) pl.isList (λw hw=>rg e d r fs w (by simpa using hw)) ⟨.bl _,H,I,rfl,?_⟩;rw[show bo.toArray.any (gA x)=bo.any (gA x) by simp,qV r fs];exact q
 .obtain⟨bo,r,pl,hz⟩:=I.tuple c;refine SeqAt.notIn_tupleAt (gA x) pl (λw hw=>rg e d r fs w (by simpa using hw)) ⟨.bl _,H,I,rfl,?_⟩;rw[show bo.toArray.any (gA x)=bo.any (gA x) by simp,qV r fs];exact q
theorem bA.or{r c:ax->Hp->VK->Prop}(h:bA X f r)(h':bA X f c):bA X f (λxs H Q=>r xs H Q\/c xs H Q):=by
 intro aa s j H xs us Q I rs q;rcases q with q |q
 .exact h aa s j H xs us Q I rs q
 .exact h' aa s j H xs us Q I rs q
theorem MN:bA X (.type "list") (λxs H Q=>∃p ys,xs=[.ref p]/\(bY X.K H p ys\/ck X.K H p ys)/\∀l,H l=none->Q (.ref l) (aW H l (.av ys))):=by
 intro aa s j H xs us Q I r h;∎;let⟨p,ys,rfl,v,q⟩:=h;let⟨u,rfl,B⟩:=iw r;∎;cases B;have i:∀(c:aN),aL ys c->ys.length<=sizeLine->∀(d:aP)(f:Nat),(∀b A,s.heap.get? b=some A->d.get? b=some A)->
   d.get? ⇑s=some { cls:=.type "list",dict:=none,data:=.seq c.toArray f,slots:=#[] }->EP X aa j Q (.ref ⇑s) { s with heap:=d }:=λc g x d f kp e=>
  ⟨.ref ⇑s,_,I.laid (t':=s.toks) kp (le_refl _) (show a8 X.prog X.w _ d _ (.av ys) from ⟨x,c,f,g,e⟩),rfl,q _ (I.aS.fresh (le_refl _))⟩
 rcases v with v |v
 .obtain⟨c,g,pl,x⟩:=I.list v;have m:=g.length;let⟨o,z,y,n,hd⟩:=pl.isList;exact call_list_seq p (.inl rfl) z y hd (λd f kp e=>i c g x d f kp e) (by simp only[size_toArray]<;>omega)
 .obtain⟨c,g,pl,x⟩:=I.tuple v;have m:=g.length;let⟨o,z,y,n,hd⟩:=pl;exact call_list_seq p (.inr rfl) z y hd (λd f kp e=>i c g x d f kp e) (by simp only[size_toArray]<;>omega)
variable{o e:Expr}{es:bT}{to:TE}{t:TA}{name:Str}{apos bP:Pos}{T id:String}{r:V->ax->Hp->VK->Prop}
end
section
variable{X:Cx}{aa:aT}{σ:St}{H:Hp}{s:ai}{l b:ae}{xs ys zs:ax}
theorem au.zH(I:au X aa σ H s)(hv:aL ys bo)(hz:ys.length<=sizeLine):
  au X aa σ (aW H ⇑s (.av ys)) { s with heap:=s.heap.push { cls:=.type "list",data:=.seq bo.toArray },toks:=t' }:=
 I.laid (λ_ _ q=>Heap.get?_push_of_some _ q) (le_refl _) ⟨hz,bo,0,hv,Heap.get?_push_size _ rfl⟩
theorem au.fresh(I:au X aa σ H s):H ⇑s=none:=I.aS.fresh (le_refl _)
end
end L2
namespace Att
open PySem PySem.W PySem.Calls PyProof.Rows
theorem OL:∀(ns:cW)(vs:aN),WellAll P h vs (ns.map WData.int)->IntsAre vs ns:=by
 intro ns
 induction ns with
 |nil=>
  intro vs w;rw[List.map_nil] at w;cases w;exact .nil
 |cons n ns c=>
  intro vs w;rw[map_cons] at w;cases w with
  |cons a b=>
   cases a;exact .cons _ _ (c _ b)
theorem Te{l:OpenLaw}{n:Nat}(hn:l.most=some n){P:Params}{h:aP}{args:List WData}{c:aN}(b:l.row.toRowW.claim.pre args=true)(m:WellAll P h c args):
  ∃a vs ns,c=[Value.ref a]/\args=[WData.list (ns.map WData.int)]/\h.get? a=some { cls:=.type "list",data:=.seq vs.toArray }/\IntsAre vs ns/\ns.length<=n:=by
 have j:WShape.hasAll [] args [.list .int]=true:=(pre_splitW b).1;have o:l.pre.holds [] { args:=args }=true:=(pre_splitW b).2;let⟨d,r,rfl,p,s⟩:=hasAllW_cons j;obtain rfl:=hasAllW_nil s;∎;let⟨z,rfl,u⟩:=hasW_list p;let⟨ns,rfl⟩:=items_int u;∎;have f:ns.length<=n:=by
  unfold OpenLaw.pre at o;have g:(WTm.not (.lt (.lit (.int (n:Int))) (.len (.arg 0)))).holds [] { args:=[.list (ns.map .int)] }=true:=by
   have g:=(holds_andW o).1;rw[hn] at g;exact g
  have i:=condW_of g (w_not (w_lt w_lit (w_len_list (w_arg rfl))));rw[length_map] at i;refine Nat.le_of_not_lt λq=>?_
  have w:(n:Int)<((ns.length:Nat):Int):=⋯
  first
   |(rw[decide_eq_true w] at i;exact absurd i ∎)
   |(simp at i;omega)
 cases m with
 |cons x y=>
  cases y;cases x with
  |list v e=>exact⟨_,_,ns,rfl,rfl,v,OL ns _ e,f⟩
theorem Tf(l:OpenLaw)(args:List WData):l.row.toRowW.claim.post args (.bool true) args=true:=
 postW_of (r:=l.row.toRowW) (X:=(true == true))
  (show WShape.has [] (.bool true) .bool=true by first |rfl |decide |simp[WShape.has,WShape.arms,WShape.armsAll])
  (show (WTm.eq .res (.lit (.bool true))).value [] { args:=args,res:=some (.bool true),after:=args }=some (.bool (true == true)) from w_eq_bool (w_res rfl) w_lit) rfl
theorem fL{l:OpenLaw}{n:Nat}{q:Program}{c:ag}{y:(bD)->aP->Prop}{z:World->aP->Prop}{d:DefRec}(hn:l.most=some n)(s:d.params.defaults=[])(call:∀(w:World)(s₀ b:ai)(mg x:bD)(g:ae)(o:Obj)(pm m doc:af)(a:ae)(vs:aN)(ns:cW),
   Ground q c [] y w s₀ mg x b.heap->z w b.heap->
   b.heap.get? g=some o->o.data=.func (docDef d.name d.params d.body d.scope pm m doc)->b.heap.CodeRec m d.name->mg d.name=some (.ref g)->
   b.heap.get? a=some { cls:=.type "list",data:=.seq vs.toArray }->IntsAre vs ns->ns.length<=n->b.gens=#[]->
   codeAny (model l.prog w) callerA (.call (.ref g) ⟨[.ref a],[]⟩) (λr s'=>r=.ok (.ret (.bool true))/\OldK b.heap s'.heap/\s'.os=b.os/\AllBare s'.gens) b):
  WalkO q c y z l.row.toRowW d [] (λf vs=>PySem.call f vs):=by
 intro w s₀ b mg x G Y g o pm m doc D kV M hd p A u J args C Q j B O v L;obtain rfl:D=.none:=Dflts.none A s;obtain rfl:kV=.none:=Dflts.noKw A;let⟨a,vs,ns,rfl,rfl,i,e,h⟩:=Te hn j v;refine enter_call (codeAny_mono (call w s₀ b mg x g o pm m doc a vs ns G Y M (fd_plain hd) p u i e h J) λr s' N=>?_);let⟨rfl,E,H,I⟩:=N;exact⟨.inl ⟨.bool true,.bool true,[],rfl,λ_=>rfl,.bool true,Tf l _,λ_=>⟨List.Pairwise.nil,λ_ hm=>(nomatch hm)⟩⟩,E,H,I⟩
end Att
namespace L2
open PySem PySem.Spec PyProof.Rows
theorem FG:∀{vs:aN}{ns:cW},IntsAre vs ns->aL (ns.map V.int) vs
 |_,_,.nil=>.nil
 |_,_,.cons n t h=>.cons ⟨t,rfl⟩ (FG h)
def xR(H:Hp):Prop:=∀b,H b=none\/∃o a,H b=some (.aB o (.av a))
theorem UP{P:Program}{w:World}{K:ak}{mg N:bD}{CX:e7}{k:Nat}{I a:ae}{Y:FuncData}{x:Str}{sp:Sp}{c:ai}{vs:aN}{ns:cW}(Q:K.In c.heap)(B:c.heap.Ns mainGlobals mg)(g:c.heap.Ns builtinsNs N)(L:∀x:Str,x≠"__name__"->N x=bootBuiltins x)(A:c.heap.NoLimit)(hg:c.gens=#[])(ha:c.heap.get? a=some { cls:=.type "list",data:=.seq vs.toArray })(hi:IntsAre vs ns)(hl:ns.length<=sizeLine)(hr:bh k callerA)(F:∀base:Heap,K.In base->base.Ns mainGlobals mg->aw P w K mg base CX k I Y [x] sp)(j:∀(s:ai)(u:af),BindsTo s Y ⟨[u],[]⟩ [(x,u)])(M:∀H:Hp,xR H->bY K H a (ns.map V.int)->sp [.ref a] H (λv _=>v=.bl true) λ_ _ _=>False)(J:∀H e s',CX [] H c (λ_ _ _=>False) e s'->False):
  codeAny (model P w) callerA (.call (.ref I) ⟨[.ref a],[]⟩) (λr s'=>r=.ok (.ret (.bool true))/\OldK c.heap s'.heap/\s'.os=c.os/\AllBare s'.gens) c:=by
 have rv:=FG hi;have D:=hi.length;have core:∀H:Hp,xR H->bY K H a (ns.map V.int)->cS P w H c.heap->(∀b,H b≠none->b=a)->(H a≠none->K.lookup a=none)->
   codeAny (model P w) callerA (.call (.ref I) ⟨[.ref a],[]⟩) (λr s'=>r=.ok (.ret (.bool true))/\OldK c.heap s'.heap/\s'.os=c.os/\AllBare s'.gens) c:=by
  intro H hO hS aS hA hK;have f:∀{b:ae}{o:Obj},c.heap.get? b=some o->H b=none->(jK c.heap H).get? b=some o:=λe n=>Uz e n
  have O:∀{b:ae}{o:Obj}{p:Array DictEntry}{l:Nat},c.heap.get? b=some o->o.data=.dict p l->H b=none:=λ{b o p l} e d=>by
   cases q:H b with
   |none=>rfl
   |some u=>
    have G:b=a:=hA b (by rw[q];simp);subst G;rw[ha] at e;cases e;have d':Data.seq vs.toArray _=Data.dict p l:=d;cases d'
  have i:∀{b:ae}{m:bD},c.heap.Ns b m->(jK c.heap H).Ns b m:=λ{b m} ⟨o,p,l,e,d,r⟩=>⟨o,p,l,f e (O e d),d,r⟩
  have y:K.In (jK c.heap H):=λb o e=>f (Q b o e) (by
   cases q:H b with
   |none=>rfl
   |some u=>
    have G:b=a:=hA b (by rw[q];simp);subst G;rw[hK (by rw[q];simp)] at e;cases e)
  have hM:Mod K mg (jK c.heap H):=⟨y,i B,⟨N,i g,L⟩,let ⟨mc,h1,h2⟩:=A;⟨mc,i h1,h2⟩⟩
  have e0:gk P w K mg (jK c.heap H) callerA [] c H:=⟨rfl,hM,λb o e=>WV e,Nat.le_of_eq (Sn _ _),trivial,λb g=>absurd (show b∈([]:b7) from g) (by simp),aS,.of_eq hg⟩
  refine codeAny_mono ((F _ y (i B)).run callerA [] c H ⟨[.ref a],[]⟩ [.ref a] [.ref a] _ _ hr e0 (j c (.ref a)) (.cons rfl .nil) (M H hO hS)) λr s' h=>?_
  cases r with
  |error e=>exact (J H e s' h).elim
  |ok fl=>
   cases fl with
   |next=>exact False.elim h
   |brk=>exact False.elim h
   |cont=>exact False.elim h
   |ret u=>
    let⟨v,H',os,bare,un,C,r',q⟩:=h;have q':v=.bl true:=q;subst q';obtain rfl:u=Value.bool true:=r';refine⟨rfl,OldK.of_keep λb o e=>?_,os,bare⟩;cases q:H b with
    |none=>exact un.keep b o e q (by intro z;exact absurd (show b∈([]:b7) from z) (by simp)) (by simp)
    |some u=>
     rcases hO b with z |⟨ob,xs,z⟩
     .rw[q] at z;cases z
     .have z2:=un.bV b ob _ z;let⟨U,_⟩:=aS b _ z;let⟨e2,_⟩:=C b _ z2;rw[e] at U;cases U;exact e2
 cases hk:K.lookup a with
 |some o=>
  have e:=Q a o hk;rw[ha] at e;cases e;refine core (λ_=>none) (λ_=>.inl rfl) (.inr ⟨_,vs.toArray,_,hk,rfl,rfl,rfl,by rw[size_toArray,D];exact hl,by simpa using rv⟩) (λb u z=>by have E:(none:Option HO)=some u:=z;cases E) (λb z=>absurd rfl z) λz=>absurd rfl z
 |none=>
  refine core (λb=>if b=a then some (.aB { cls:=.type "list",data:=.seq vs.toArray } (.av (ns.map V.int))) else none) (λb=>?_) (.inl (.inr ⟨{ cls:=.type "list",data:=.seq vs.toArray },if_pos rfl⟩)) (λb u z=>?_) (λb z=>?_) λ_=>hk
  .by_cases g:b=a
   .exact .inr ⟨_,_,if_pos g⟩
   .exact .inl (if_neg g)
  .by_cases g:b=a
   .have E:=(if_pos g).symm.trans z;cases E;subst g;exact⟨ha,by rw[length_map];exact hl,vs,_,rv,ha⟩
   .have E:=(if_neg g).symm.trans z;cases E
  .by_cases g:b=a
   .exact g
   .exact absurd (if_neg g) z
theorem kh{l:W.OpenLaw}{n k:Nat}{q:Program}{j:ag}{J:(bD)->aP->Prop}{I:World->aP->Prop}{d:DefRec}{K:Params->ak}{CX:World->e7}{sp:World->Sp}{x:Str}(hn:l.most=some n)(C:n<=sizeLine)(A:d.params.defaults=[])(hr:bh k callerA)(O:∀(w:World)(h:aP),I w h->(K w.params).In h)(F:∀(w:World)(mg:bD)(r:ae)(h:aP),(K w.params).In h->h.Ns mainGlobals mg->mg d.name=some (.ref r)->
   ∃y:FuncData,(∀(s:ai)(u:af),BindsTo s y ⟨[u],[]⟩ [(x,u)])/\
    ∀base:Heap,(K w.params).In base->base.Ns mainGlobals mg->aw l.prog w (K w.params) mg base (CX w) k r y [x] (sp w))(D:∀(w:World)(H:Hp)(a:ae)(ns:cW),ns.length<=n->xR H->bY (K w.params) H a (ns.map V.int)->sp w [.ref a] H (λv _=>v=.bl true) λ_ _ _=>False)(z:∀(w:World)(H:Hp)(s:ai)(e:af)(s':ai),CX w [] H s (λ_ _ _=>False) e s'->False):
  W.WalkO q j J I l.row.toRowW d [] (λf vs=>PySem.call f vs):=by
 refine Att.fL hn A λw s₀ p mg mb r o pm cd doc a vs ns G Y ho hd U B m i c hg=>?_
 have E:=O w _ Y;let⟨y,Q,L⟩:=F w mg r _ E G.T.g B;exact UP E G.T.g G.T.b G.T.builtins G.T.nolimit hg m i (le_trans c C) hr L Q (λH M N=>D w H a ns c M N) λH e s'=>z w H p e s'
def inClass(s:Stmt)(j:Nat):Stmt:=match s with
 |.ClassDef _ _ _ a _ _ _ _ _ _ _=>a.getD j (.Pass ⟨0,0,0,0⟩)
 |_=>.Pass ⟨0,0,0,0⟩
def nN(s:Stmt):Arguments:=match s with
 |.FunctionDef _ a _ _ _ _ _ _ _ _=>a
 |_=>{ posonlyargs:=[],args:=[],vararg:=none,kwonlyargs:=[],kw_defaults:=[],kwarg:=none,defaults:=[] }
def ie(s:Stmt):List Stmt:=match s with
 |.FunctionDef _ _ b _ _ _ _ _ _ _=>b
 |_=>[]
def a7(s:Stmt):Scope:=match s with
 |.FunctionDef _ _ _ _ _ _ sc _ _ _=>sc
 |_=>{ kind:=.function,names:=[],isGenerator:=false,isCoroutine:=false }
abbrev aV:e7:=λ_ _ _ _ _ _=>False
abbrev E0:XK:=λ_ _ _=>False
theorem oN:lI aV X E0:=λ_ _ _ _ _ _ _ h=>h.elim
structure gm(K:ak)(x qual:Str)(st:Stmt)(f:ae)(fd:FuncData):Prop where
 ex:∃(oc:af)(od:bL)(kV doc pm:af)(an:bL)(aM ct:af)(osl:Array (bG)),
  fd=W.fnOf x qual (nN st) (ie st) (a7 st) .none kV doc pm an aM ct/\K.lookup f=some ⟨oc,od,.func fd,osl⟩/\W.codeIn K aM qual=true
 kp:W.keepIn K (.ref f)=true
section
variable{P:Program}{w:World}{K:ak}{mg:bD}{base:aP}
theorem gm.ok{x a:Str}{st:Stmt}{f:ae}{e:FuncData}{N ps:ag}{k:Nat}{sp:Sp}(F:gm K x a st f e)(S:bj N ps (a7 st))(len:∀vs H Q E,sp vs H Q E->vs.length=ps.length)(b:∀(aM:af)(A:Around)(outer:cz)(s:ai)(H:Hp)(vs:ax)(Q:VK)(E:XK),bh k (A.deeper (envOfC a (a7 st) ⇑s f aM))->sp vs H Q E->
   ∃t,fC (ip aV P w K mg base N a (a7 st) f aM A outer s H E).o7 (ie st) t/\t { nx:=λ_ g=>Q .aZ g,rt:=Q } (start N vs) H):aw P w K mg base aV (k+1) f e ps sp:=by
 let⟨oc,od,kV,doc,pm,an,aM,ct,osl,rfl,j,c⟩:=F.ex;refine Jc j c S len λA outer s H vs Q E i d=>?_
 let⟨t,h,q⟩:=b aM A outer s H vs Q E i d;exact⟨t,h.o7,q⟩
theorem gm.binds{x a:Str}{st:Stmt}{f:ae}{b:FuncData}{ps:ag}(F:gm K x a st f b)(h:∀(kV doc pm:af)(an:bL)(aM ct:af)(us:aN),us.length=ps.length->bindArgs (W.fnOf x a (nN st) (ie st) (a7 st) .none kV doc pm an aM ct) ⟨us,[]⟩=pure (ps.zip us)):Binds K b ps []:=by
 let⟨oc,od,kV,doc,pm,an,aM,ct,osl,rfl,d,c⟩:=F.ex;exact .all (h kV doc pm an aM ct)
theorem Zq{x a:Str}{st:Stmt}{f:ae}{oc:af}{od an:bL}{osl:Array (bG)}{kV doc pm aM ct:af}(l:K.lookup f=some ⟨oc,od,.func (W.fnOf x a (nN st) (ie st) (a7 st) .none kV doc pm an aM ct),osl⟩)(c:W.codeIn K aM a=true)(k:W.keepIn K (.ref f)=true):gm K x a st f (W.fnOf x a (nN st) (ie st) (a7 st) .none kV doc pm an aM ct):=⟨⟨oc,od,kV,doc,pm,an,aM,ct,osl,rfl,l,c⟩,k⟩
end
theorem Jf(a:bh k A):A.units+1<cLine:=lt_of_le_of_lt (Nat.add_le_add_left (by decide:1<=64) _) a.units
section
variable{X:Cx}
theorem pv(i:Nat)(b:do X.N[i]?=some x)(hv:jz X.env.scope x:=by first |exact Or.inl rfl |exact Or.inr (Or.inl rfl) |exact Or.inr (Or.inr rfl))(hd: ~~~(cI x))(a: ~~~((x == ("__classdict__":Str))=false)):PE X (.Name x pos) (lQ i):=l9 b hv hd a
end
def az(H H':Hp):Prop:=∀b o,H b=some o->H' b=some o
theorem az.refl(H:Hp):az H H:=λ_ _ h=>h
theorem az.trans(a:az H H1)(b:az H1 H2):az H H2:=λc o h=>b c o (a c o h)
theorem az.free{H a:Hp}(e:az H a)(h:a l=Option.none):H l=Option.none:=by
 cases q:H l with
 |none=>rfl
 |some o=>
  rw[e l o q] at h;cases h
theorem az.seq{K:ak}{H b:Hp}{a:ae}{xs:ax}(e:az H b)(h:bY K H a xs):bY K b a xs:=by
 rcases h with (h |⟨o,h⟩) |h
 .exact .inl (.inl (e _ _ h))
 .exact .inl (.inr ⟨o,e _ _ h⟩)
 .exact .inr h
section
variable{X:Cx}
theorem Tg:bA X (.builtin "len") (λxs H Q=>∃a kvs,xs=[V.ref a]/\H a=some (.dK kvs)/\Q (.int kvs.length) H):=by
 intro aa s j H xs us Q I r h;∎;let⟨a,kvs,rfl,ha,q⟩:=h;let⟨u,rfl,c⟩:=iw r;∎;cases c;exact La I (.inl ha) λt d b=>⟨.int kvs.length,H,b,⟨t,rfl⟩,q⟩
end
end L2
set_option Elab.async false
set_option linter.all false
set_option maxRecDepth 100000
set_option maxHeartbeats 4000000
namespace L2
open PySem PySem.Spec PyProof.Rows
def gI(i j:Int):Prop:=∃n:Nat,n<=60000000/\i.natAbs<2 ^ n/\j.natAbs<2 ^ n
theorem GR(h:x.natAbs<2 ^ n):Builtin.Int.intBits x<=n:=by
 unfold Builtin.Int.intBits;by_cases e:(x == 0)=true
 .rw[if_pos e];exact zero_le _
 .rw[if_neg e];have a:x.natAbs≠0:=by
   intro z;have:x=0:=⋯
   rw[this] at e;exact e rfl
  exact (Nat.log2_lt a).mpr h
theorem gI.ok(h:gI i j):IntMulOk i j:=by
 let⟨n,hn,a,b⟩:=h;have d:=GR a;have f:=GR b;intro z;simp only[and_eq_true,Builtin.Int.intTooBig,decide_eq_true_eq] at z;have e:(bitsLine:Nat)=134217728:=∎
 have c:=z.2;rw[e] at c;omega
def ky(i j:Int):Prop:=jw i j\/gI i j
def dY(_ j:Int):Prop:=j≠0/\j.natAbs<2 ^ 8000
theorem dY.ok(h:dY i j):Builtin.divisionGoesByPylong i j=false:=by
 refine PyProof.noPylong_of_log2 ?_;have a:j.natAbs≠0:=by have:=h.1;omega
 have:=(Nat.log2_lt a).mpr h.2;omega
section
variable{X:Cx}
theorem MX:b6 X (binaryOp .Mult) (rI ky λi j=>.int (i*j)):=vD λ_ _ _ _ _ _ _ a q=>mul_int q (a.elim jw.ok gI.ok)
theorem UQ:b6 X (binaryOp .FloorDiv) (rI dY λi j=>.int (i.fdiv j)):=vD λ_ _ _ _ _ _ _ a q=>floordiv_int a.1 q (.inl a.ok)
end
section
variable{X:Cx}{aa:aT}{σ:St}{H:Hp}{s:ai}{a:ae}{kvs:cv}
theorem au.freeze(I:au X aa σ H s)(e:H a=some (.dK kvs)):∃o,s.heap.get? a=some o/\au X aa σ (aW H a (.aB o (.dK kvs))) s:=by
 have ok:a8 X.prog X.w H s.heap a (.dK kvs):=I.aS a _ e;let⟨z,y,vs,r,o,f,d,b,c⟩:=id ok;refine⟨o,b,?_⟩;exact I.write (h':=s.heap) (t':=s.toks) (x:=a) (e:=a) (by rw[e];exact True.intro) (.inl rfl) (λ_ _ _ q=>q) ⟨o,b⟩ ⟨b,z,y,vs,r,o,f,d,b,c⟩
theorem au.fB(I:au X aa σ H s)(e:H a=some (.aB o (.dK kvs)))(hn:∀o u,X.H₀ a≠some (.aB o u)):au X aa σ (aW H a (.dK kvs)) s:=by
 have ne:∀b u,H b=some u->(∀o r,u≠.aB o r)->b≠a:=λb u h d z=>by
  subst z;rw[e] at h;exact d _ _ (Option.some.inj h).symm
 let⟨v,ok⟩:=(show a8 X.prog X.w H s.heap a (.aB o (.dK kvs)) from I.aS a _ e);refine⟨I.ok,I.os,I.bare,⟨λb ob q n g f=>I.base.keep b ob q n g f,λb ob q n g f=>I.base.slot b ob q n g f,λb ob q n f=>?_,λb ob q f=>I.base.there b ob q f,λb i q=>?_,λb ob u q=>?_,λb l q=>?_⟩,I.loc,I.cell,?_,λx c q=>?_,λp j=>?_,λb u q=>?_,I.len⟩
 .have z:=I.base.free b ob q n f;rw[bR (by intro y;subst y;rw[e] at z;cases z)];exact z
 .have z:=I.base.eP b i q;rw[bR (ne b _ z (λ_ _ y=>by cases y))];exact z
 .have z:=I.base.bV b ob u q;rw[bR (by intro y;subst y;exact hn _ _ q)];exact z
 .obtain⟨m,z⟩:=I.base.eO b l q;exact⟨m,by rw[bR (ne b _ z (λ_ _ y=>by cases y))];exact z⟩
 .rw[bR (by intro y;have z:=I.free;rw[y,e] at z;cases z)];exact I.free
 .rw[bR (by intro y;have z:=I.cf x c q;rw[y,e] at z;cases z)];exact I.cf x c q
 .obtain⟨p1,p2,p3,p4,p5⟩:=I.pin p j;refine⟨p1,?_,p3,p4,p5⟩;rw[bR (by intro y;rw[y,e] at p2;cases p2)];exact p2
 .by_cases g:b=a
  .subst g;rw[fb] at q;cases q;exact ok
  .rw[bR g] at q;exact (I.aS b u q).eh (λ_ _ _ z=>z) (λc z=>by rw[bR (ne c _ z (λ_ _ y=>by cases y))];exact z) λc i z=>by rw[bR (ne c _ z (λ_ _ y=>by cases y))];exact z
end
def pq(a:ae)(ob:Obj)(kvs:cv):It:=
 ⟨λi H=>i<kvs.length/\H a=some (.aB ob (.dK kvs)),λi H x b=>∃p k v,kvs[i]?=some (k,v)/\H p=none/\x=.ref p/\b=aW H p (.aA [kV k,v]),λi H=>kvs.length<=i/\H a=some (.aB ob (.dK kvs))⟩
theorem yV(h:(dz P w).is k u=true):aC (kV k) u:=by
 rcases i4 (k:=k) (v:=u) h with⟨i,t,rfl,rfl⟩ |⟨x,t,rfl,rfl⟩
 .exact⟨t,rfl⟩
 .exact⟨t,rfl⟩
theorem KV.at(r:KV kvs vs):∀{i:Nat}{k:aU}{v:V},kvs[i]?=some (k,v)->∃u,vs[i]?=some (k,u)/\aC v u:=by
 unfold KV at r
 induction r with
 |nil=>intro i k v h;simp at h
 |@cons p q c d h t b=>
  intro i k v e;cases i with
  |zero=>
   simp at e;subst e;have a:k=q.1:=h.1;exact⟨q.2,by rw[a];rfl,h.2⟩
  |succ i=>simpa using b (i:=i) (k:=k) (v:=v) (by simpa using e)
theorem RQ{P:Program}{w:World}{K:ak}{elts:bT}{x1:Nat}{pos:Pos}(a it:ae)(ob:Obj)(kvs:cv)(ζ:a≠it):
  kF P w K (.Tuple elts x1 pos) (pq a ob kvs) [it] it (λi h=>∃f ep ok m,ob.data=.dict f ep/\IsItemIter h it a i kvs.length ep ok m) where
 mem:=by simp
 obj:=λi h st b l=>by
  have e:b=it:=by simpa using l
  subst e;let⟨f,ep,ok,m,hd,e⟩:=st;exact⟨_,e,λv z=>by cases z⟩
 keep:=λi h h' st k=>by
  let⟨f,ep,ok,m,hd,e⟩:=st;exact⟨f,ep,ok,m,hd,k it (by simp) _ e⟩
 item:=by
  intro X hP hw hK hc i aa s j H E I hf st hg;subst hP hw hK;∎;let⟨f,ep,ok,m,hd,c⟩:=st;let⟨hi,hH⟩:=hg;let⟨B,z,y,vs,r,J,β,α,d,N,n,O,U,Y⟩:=(show a8 X.prog X.w H s.heap a (.aB ob (.dK kvs)) from I.aS a _ hH);∎;have eo:J=ob:=by rw[B] at d;exact (Option.some.inj d).symm
  subst eo;rw[hd] at n;cases n;have hm:s.heap.DictAt (dz X.prog X.w) a vs ep:=⟨J,f,B,N,hd,O,U,Y⟩;obtain⟨⟨k,v⟩,x⟩:∃q,kvs[i]?=some q:=⟨kvs[i],by simp[hi]⟩;let⟨u,hu,ru⟩:=r.at x;have M:kvs.length=vs.length:=KV.length r;rw[M] at c;let⟨L,f1,f2,f3,f4,f5⟩:=hf it (by simp);refine wpAny_pyNext_items_item c hm hu λg h' p C hT η hk=>?_
  refine⟨.ref ⇑s,rfl,wpAny_letOwnedTupleGo_items C λh2 he hs=>?_⟩;have ε:it<⇑s:=Heap.lt_size c;have I1:=I.laid (a:=⇑s) (o:=.aA [kV k,v]) (h':=s.heap.push { cls:=.type "tuple",data:=.seq #[g,u] }) (t':=s.toks) (λb q D=>Heap.get?_push_of_some _ D) (le_refl _)
   ⟨by show 2<=sizeLine;decide,[g,u],.cons (yV p) (.cons ru .nil),⟨_,Heap.get?_push_size _ rfl,rfl,_,rfl⟩⟩
  have δ:H ⇑s=none:=I.aS.fresh (le_refl _);have G:it≠⇑s:=ne_of_lt ε;refine⟨.ref ⇑s,aW H ⇑s (.aA [kV k,v]),?_,rfl,⟨_,k,v,x,δ,rfl,rfl⟩,⟨f,ep,g,u,hd,by rw[M];exact he⟩,λb l=>?_⟩
  .have I2:au X aa j (aW H ⇑s (.aA [kV k,v])) { s with heap:=h2,toks:=s.toks }:=au.turned (s:={ s with heap:=s.heap.push { cls:=.type "tuple",data:=.seq #[g,u] },toks:=s.toks }) I1 (h':=h2) (t':=s.toks) (it:=it) (λb q l D=>?_) (by rw[bR G];exact L) f1 f3 f4 f5
   .exact I2
   .refine hs.extBut b q l ?_;rcases Heap.get?_push_cases D with⟨γ,eq⟩ |D
    .subst γ;subst eq;exact hT
    .exact hk b q l D
  .have e:b=it:=by simpa using l
   subst e;rw[bR G];exact L
 done:=by
  intro X hP hw hK hc i aa s j H E I hf st hg;subst hP hw hK;∎;let⟨f,ep,ok,m,hd,c⟩:=st;let⟨hi,hH⟩:=hg;let⟨B,z,y,vs,r,J,β,α,d,N,n,O,U,Y⟩:=(show a8 X.prog X.w H s.heap a (.aB ob (.dK kvs)) from I.aS a _ hH);∎;have eo:J=ob:=by rw[B] at d;exact (Option.some.inj d).symm
  subst eo;rw[hd] at n;cases n;have hm:s.heap.DictAt (dz X.prog X.w) a vs ep:=⟨J,f,B,N,hd,O,U,Y⟩;have M:kvs.length=vs.length:=KV.length r;rw[M] at c;let⟨L,f1,f2,f3,f4,f5⟩:=hf it (by simp);exact wpAny_pyNext_items_end (I.ok.hd hc) c hm (by simp;omega) λh' eb=>⟨rfl,I.turned (t':=s.toks) (λb o l e=>eb b o l e) L f1 f3 f4 f5⟩
 self:=λA i s Q E st h=>by
  let⟨f,ep,ok,m,hd,c⟩:=st;exact W.kcp_self c h
section
variable{X:Cx}
def CP(X:Cx)(d:TE):TI:=λj H R=>d j H λx c=>∃a b,x=.ref a/\c a=some (.dK b)/\∀ob,(∀o u,X.H₀ a≠some (.aB o u))->R (pq a ob b) (aW c a (.aB ob (.dK b)))
theorem UR(ho:PE X o td)(i:attributeBase o "items" X.env (eval o X.env)=eval o X.env)(l:(apos.endLine == bP.line)=true):
  PI X (.Tuple elts x1 pos) (.Call (.Attribute o "items" apos) [] [] bP) (CP X td):=by
 intro aa s j H R I h;refine wpAny_Call_method0_late i l (bq (ho aa s j H _ I h) λv g E=>?_);let⟨x,G,n,r1,a,f,ex,p,q⟩:=E;subst ex;obtain rfl:v=Value.ref a:=r1;let⟨M,t2,hd⟩:=HM n (.inl ⟨f,.inl p⟩);refine⟨"dict","dict.items",PySem.F.plainAttrs_dict,PySem.F.slot_dict_items,PySem.F.type_dict_items,M,t2,Calls.callWith_builtin rfl (PySem.evalArgs_none ?_)⟩;let⟨z,y,vs,r,J⟩:=Je n.aS p;refine call_meetsIn PySem.F.slot_dict_items M PySem.F.entry_dict_items (PySem.F.args_dict_items_1 _) (meets_dict_items (dz X.prog X.w) a hd) ⟨⟨vs,J⟩,?_⟩;have A:au X aa j G { g with heap:=g.heap.push { cls:=.type "dict_items",data:=.fields #[.ref a] } }:=n.kept (t':=g.toks) λb o e=>Heap.get?_push_of_some _ e
 have D:∀o u,X.H₀ a≠some (.aB o u):=λo u z=>by
  have:=n.base.bV a o u z;rw[p] at this;cases this
 let⟨B,C⟩:=J.dictAt;have c:=C.push { cls:=.type "dict_items",data:=.fields #[.ref a] };refine wpAny_pyIter_items (v:=⇑g) (d:=a) ⟨_,Heap.get?_push_size _ rfl,rfl,rfl⟩ c ?_;let⟨ob,m,N⟩:=(A.kept (t':=g.toks) (h':=(g.heap.push { cls:=.type "dict_items",data:=.fields #[.ref a] }).push { cls:=.type "dict_itemiterator",data:=.fields #[.none,.bool false,.ref a,.int 0 0,.int vs.length 0,.int B 0,.none,.none] }) λb o e=>Heap.get?_push_of_some _ e).freeze p;have L:a<(g.heap.push { cls:=.type "dict_items",data:=.fields #[.ref a] }).objs.size:=c.lt_size;have Y:f.length=vs.length:=KV.length r;refine⟨_,[_],_,_,aW G a (.aB ob (.dK f)),rfl,N,RQ a (g.heap.push { cls:=.type "dict_items",data:=.fields #[.ref a] }).objs.size ob f (ne_of_lt L),?_,λb U=>?_,q ob D⟩
 .obtain⟨o2,es,ho2,c1,c2,_⟩:=c;have O:ob=o2:=by
   have Q:=Heap.get?_push_of_some { cls:=.type "dict_itemiterator",data:=.fields #[.none,.bool false,.ref a,.int 0 0,.int vs.length 0,.int B 0,.none,.none] } ho2;rw[Q] at m;exact (Option.some.inj m).symm
  subst O;refine⟨es,B,.none,.none,c2,?_⟩;rw[Y];exact Heap.get?_push_size _ rfl
 .have e:b=(g.heap.push { cls:=.type "dict_items",data:=.fields #[.ref a] }).objs.size:=by simpa using U
  subst e;refine A.gC (le_refl _) ?_;rw[bR (ne_of_gt L)];exact A.aS.fresh (le_refl _)
def tL(X:Cx)(R:Hp->Prop)(H:Hp):Prop:=∃a ob b,H a=some (.aB ob (.dK b))/\(∀o u,X.H₀ a≠some (.aB o u))/\R (aW H a (.dK b))
def wY(X:Cx)(D:g9):g9:={ nx:=λj=>tL X (D.nx j),rt:=λv=>tL X (D.rt v),bk:=λj=>tL X (D.bk j),ct:=λj=>tL X (D.ct j) }
def C5(X:Cx)(b:TE)(g:TG)(a:TS):TS:=λD j H=>xN (CP X b) g a (wY X D) j H
theorem X6(B:PassesOwn (model X.prog X.w) X.A X.env X.xe)(p:X.calm=true)(z:PE X o td)(y:PG X (.Tuple elts x1 pos) g)(n:fC X body tb)(c:do attributeBase o "items" X.env (eval o X.env)=eval o X.env)(d:do (apos.endLine == bP.line)=true)(hs:∀x,foldedSetIterable (.Call (.Attribute o "items" apos) [] [] bP) X.env x=pure x:=by intro _;rfl):PS X (.For (.Tuple elts x1 pos) (.Call (.Attribute o "items" apos) [] [] bP) body [] fpos) (C5 X td g tb):=by
 intro aa s j H D I h;have base:=HC (pos:=fpos) B p (UR (elts:=elts) (x1:=x1) (pos:=pos) z c d) y n hs aa s j H (wY X D) I h;refine bq base λf E q=>?_
 cases f with
 |next=>let⟨i,m,b,a,ob,l,e,hn,r⟩:=q;exact⟨i,_,b.fB e hn,r⟩
 |brk=>let⟨i,m,b,a,ob,l,e,hn,r⟩:=q;exact⟨i,_,b.fB e hn,r⟩
 |cont=>let⟨i,m,b,a,ob,l,e,hn,r⟩:=q;exact⟨i,_,b.fB e hn,r⟩
 |ret u=>let⟨v,i,m,b,C,a,ob,l,e,hn,r⟩:=q;exact⟨v,i,_,b.fB e hn,C,r⟩
end
theorem Th{a:ae}{ob:Obj}{kvs:cv}{g:TG}{n:TS}{D:g9}{j:St}{H:Hp}(Pv:Nat->St->Hp->Prop)(s:Pv 0 j H)(w:∀i j H,i<=kvs.length->Pv i j H->H a=some (.aB ob (.dK kvs)))(hs:∀i k v j H p,kvs[i]?=some (k,v)->Pv i j H->H p=none->g (.ref p) j (aW H p (.aA [kV k,v])) λh d=>n { D with nx:=Pv (i+1),ct:=Pv (i+1),bk:=D.nx } h d)(hd:∀j H,Pv kvs.length j H->D.nx j H):
  ∃W:Nat->Nat->St->Hp->Prop,(∃m,W 0 m j H)/\∀i m j H,W i m j H->
   ((pq a ob kvs).stop i H/\D.nx j H)\/((pq a ob kvs).go i H/\∃N:St->Hp->Prop,(∀f b,N f b->∃l,l<m/\W (i+1) l f b)/\∀x b,(pq a ob kvs).ki i H x b->g x j b λh d=>n { D with nx:=N,ct:=N,bk:=D.nx } h d):=by
 refine⟨λi m j H=>m=kvs.length - i/\i<=kvs.length/\Pv i j H,⟨kvs.length,by simp,zero_le _,s⟩,?_⟩;rintro i m j H ⟨rfl,u,p⟩;have q:=w i j H u p;by_cases c:i<kvs.length
 .refine .inr ⟨⟨c,q⟩,Pv (i+1),λf b z=>⟨kvs.length - (i+1),⋯,rfl,c,z⟩,λx b y=>?_⟩;let⟨A,k,v,o,r,rfl,rfl⟩:=y;exact hs i k v j H A o p r
 .have e:i=kvs.length:=⋯
  subst e;exact .inl ⟨⟨le_refl _,q⟩,hd j H p⟩
section
variable{X:Cx}
theorem ES:bA X (.type "dict") (λxs H Q=>∃a kvs,xs=[.ref a]/\Rd H a (.dK kvs)/\∀p,H p=none->Q (.ref p) (aW H p (.dK kvs))):=by
 intro aa s j H xs us Q I r h;∎;let⟨a,kvs,rfl,ha,q⟩:=h;let⟨u,rfl,d⟩:=iw r;∎;cases d;exact UM I ha λp e c b=>⟨.ref p,_,b,rfl,q p c⟩
theorem RS(M:X.calm=true):bA X (.type "list") (λxs H Q=>∃a kvs,xs=[.ref a]/\Rd H a (.dK kvs)/\∀p,H p=none->Q (.ref p) (aW H p (.av (kvs.map λg=>kV g.1)))):=by
 intro aa s i H xs us Q I r h;∎;let⟨a,kvs,rfl,ha,q⟩:=h;let⟨u,rfl,U⟩:=iw r;∎;cases U;∎;let⟨z,y,vs,l,J⟩:=hJ I.aS ha;let⟨ep,A⟩:=J.dictAt;∎;have D:kvs.length=vs.length:=KV.length l;refine W.kdl_call (W.kdl_dict (knd:=dz X.prog X.w) (kvs:=vs) (ep:=ep) y) (I.ok.hd M) A (by rw[<- D];exact z) λh' Y b G N L c=>?_
 have B:H ⇑s=none:=I.aS.fresh (le_refl _);refine⟨.ref ⇑s,_,I.laid (a:=⇑s) (o:=.av (kvs.map λg=>kV g.1)) (h':=h') (t':=Y) N (le_refl _) ⟨by rw[length_map];exact z,b.toList,G,?_,by simpa using L⟩,rfl,q _ B⟩;have hn:b.toList.length=vs.length:=by rw[length_toList];exact c.1
 have gen:∀(kvs:cv)(us:aN),us.length=kvs.length->(∀(j:Nat) k v u,kvs[j]?=some (k,v)->us[j]?=some u->aC (kV k) u)->aL (kvs.map λg=>kV g.1) us:=by
  intro kvs
  induction kvs with
  |nil=>intro us e _;cases us with
   |nil=>exact .nil
   |cons _ _=>simp at e
  |cons p r O=>
   intro us e f;cases us with
   |nil=>simp at e
   |cons u us=>
    refine .cons (f 0 p.1 p.2 u rfl rfl) (O us (by simpa using e) λj k v w m n=>f (j+1) k v w (by simpa using m) (by simpa using n))
 refine gen kvs b.toList (by rw[hn,D]) λj k v u m n=>?_
 ∎;let⟨k',x,E,d⟩:=c.2 j u (by rw[<- Array.getElem?_toList];exact n);let⟨u',C,_⟩:=l.at m;∎;rw[C] at E;cases E;exact yV d
def tM:V->bG
 |.ty n=>some (.type n)
 |.ref a=>some (.ref a)
 |_=>none
theorem US:bA X (.builtin "isinstance") (λxs H Q=>∃x c t b u,xs=[x,c]/\dD X.K H x t/\tM c=some u/\W.kitOne X.K t u=some b/\Q (.bl b) H):=by
 intro aa s j H xs us Q I r h;∎;let⟨x,c,t,b,u,rfl,ty,d,e,q⟩:=h;let⟨v,m,rfl,g,eM⟩:=zS r;∎;have f:m=u:=by
  cases c with
  |ref a=>cases d;exact eM
  |ty n=>cases d;exact eM
  |aZ=>cases d
  |bl n=>cases d
  |int i=>cases d
  |str i=>cases d
  |gg i=>cases d
  |ka i=>cases d
 subst f;exact Sx I g ty e λl=>⟨.bl b,H,I.tok l,rfl,q⟩
end
def eG(R:V->V->Prop):ax->ax->Prop
 |[],[]=>True
 |x::xs,y::ys=>R x y /\ eG R xs ys
 |_,_=>False
theorem eG.length:∀{xs ys:ax},eG R xs ys->xs.length=ys.length
 |[],[],_=>rfl
 |_::xs,_::ys,h=>by rw[length_cons,length_cons,eG.length h.2]
 |[],_::_,h=>h.elim
 |_::_,[],h=>h.elim
theorem eG.get{R:V->V->Prop}:∀{xs ys:ax}{j:Nat}{x y:V},eG R xs ys->xs[j]?=some x->ys[j]?=some y->R x y
 |x::xs,y::ys,0,_,_,h,e1,e2=>by simp at e1 e2;subst e1 e2;exact h.1
 |_::xs,_::ys,j + 1,x,y,h,e1,e2=>eG.get (xs:=xs) (ys:=ys) (j:=j) h.2 (by simpa using e1) (by simpa using e2)
 |[],[],_,_,_,_,e1,_=>by simp at e1
 |[],_::_,_,_,_,h,_,_=>h.elim
 |_::_,[],_,_,_,h,_,_=>h.elim
def hZ(K:ak)(H:Hp):Nat->V->V->Prop
 |0,x,y=>gs x=true /\ x=y
 |n + 1,x,y=>(gs x=true /\ x=y) \/ ∃p q a b,x=.ref p /\ y=.ref q /\ ((ck K H p a /\ ck K H q b) \/ (bY K H p a /\ bY K H q b)) /\ eG (hZ K H n) a b
theorem FT(h:gs x=true):gB x x=true:=by
 cases x<;>first |rfl |(simp[gB];done) |(simp[gs] at h)
theorem kP(A:Around):A.in1.units=A.units+1:=rfl
section
variable{X:Cx}{aa:aT}{σ:St}{H:Hp}{s:ai}
theorem Zr(I:au X aa σ H s)(w:(ck X.K H p xs/\ck X.K H q ys)\/(bY X.K H p xs/\bY X.K H q ys))(hu:A.units<cLine)(D:xs.length=ys.length)(he:∀(j:Nat) x y u v,xs[j]?=some x->ys[j]?=some y->aC x u->aC y v->SeqAt.EqAt A.in1 s u v true):SeqAt.RcAt A s (.ref p) (.ref q) true:=by
 have f:∀(b a:aN),aL xs b->aL ys a->∀j (c:j<b.toArray.size) (d:j<a.toArray.size),SeqAt.EqAt A.in1 s b.toArray[j] a.toArray[j] true:=by
  intro b a r1 r2 j c d;have m:=r1.length;have n:=r2.length;simp only[size_toArray] at c d;∎;let⟨u,g,B⟩:=r1.get (i:=j) (x:=xs[j]'⋯) (by simp);let⟨v,h,C⟩:=r2.get (i:=j) (x:=ys[j]'⋯) (by simp);∎;have o:b.toArray[j]'(by simpa using c)=u:=by
   have:=List.getElem?_eq_some_iff.mp g;let⟨_,z⟩:=this;simpa using z
  have r:a.toArray[j]'(by simpa using d)=v:=by
   have:=List.getElem?_eq_some_iff.mp h;let⟨_,z⟩:=this;simpa using z
  rw[o,r];exact he j _ _ u v (by simp) (by simp) B C
 rcases w with⟨c,d⟩ |⟨c,d⟩
 .obtain⟨b,r1,t1,_⟩:=I.tuple c;let⟨a,r2,l,_⟩:=I.tuple d;have m:=r1.length;have n:=r2.length;have z:=SeqAt.RcAt.tuples (A:=A) (e:=λ_=>true) t1 l hu (f b a r1 r2);have e:((List.range (min b.toArray.size a.toArray.size)).all (λ_=>true)&&b.toArray.size == a.toArray.size)=true:=by
   simp only[size_toArray];simp;omega
  rw[e] at z;exact z
 .obtain⟨b,r1,t1,_⟩:=I.list c;let⟨a,r2,l,_⟩:=I.list d;have m:=r1.length;have n:=r2.length;have z:=SeqAt.RcAt.lists (A:=A) (e:=λ_=>true) t1.isList l.isList (by simp;omega) hu (f b a r1 r2);have e:(List.range b.toArray.size).all (λ_=>true)=true:=by simp
  rw[e] at z;exact z
theorem HP(I:au X aa σ H s):∀(n:Nat){A:Around}{x y:V}{u v:af},hZ X.K H n x y->aC x u->aC y v->A.units+n<cLine->SeqAt.EqAt A s u v true
 |0,A,x,y,u,v,⟨f,e⟩,ru,rv,_=>by
  subst e;have z:=mw (A:=A) (s:=s) ru rv f f;rw[FT f] at z;exact z
 |n + 1,A,x,y,u,v,.inl ⟨f,e⟩,ru,rv,_=>by
  subst e;have z:=mw (A:=A) (s:=s) ru rv f f;rw[FT f] at z;exact z
 |n + 1,A,x,y,u,v,.inr ⟨p,q,xs,ys,hx,hy,hk,al⟩,ru,rv,hu=>by
  subst hx hy;cases ru;cases rv;by_cases e:p=q
  .subst e;exact SeqAt.EqAt.same _
  .refine SeqAt.EqAt.of_refs e (Zr I hk ⋯ al.length λj x y u v a b r1 r2=>?_);exact HP I n (A:=A.in1) (al.get a b) r1 r2 (by rw[kP];omega)
end
section
variable{X:Cx}
theorem RT{kvs:cv}{vs:List (aU×af)}{k:aU}{y:V}(r:KV kvs vs)(e:fm kvs k=some y):∃u,valueAt vs k=some u/\aC y u:=
 cj.some_of (v:=y) (o:=valueAt vs k) (by rw[<- e];exact r.val k)
def NF(K:ak)(H:Hp)(n:Nat)(a b:cv):Prop:=a.length=b.length/\∀k v,(k,v)∈a->∃y,fm b k=some y/\hZ K H n v y
theorem Lc{aa:aT}{j:St}{H:Hp}{s:ai}{A:Around}{n:Nat}{c:cv}{e:List (aU×af)}(I:au X aa j H s)(hu:A.units+n<cLine)(x:KV c e):
  ∀{a:cv}{b:List (aU×af)},KV a b->(∀k v,(k,v)∈a->∃y,fm c k=some y/\hZ X.K H n v y)->W.KeqHits A s e b true:=by
 intro a b d;unfold KV at d
 induction d with
 |nil=>intro _;exact .nil
 |@cons p q C w h t o=>
  intro f;∎;let⟨y,g,i⟩:=f p.1 p.2 (mem_cons_self ..);let⟨u,l,B⟩:=RT x g;∎;have z:=W.KeqHits.hit (A:=A) (s:=s) (k:=q.1) (v:=q.2) (y:=u) (r:=w) (by rw[<- h.1];exact l) (HP I n (A:=A) i h.2 B hu) (o λk v m=>f k v (mem_cons_of_mem _ m));simpa using z
def xS(K:ak)(b:Bool):R2:=λx y H Q=>∃n p q a c,n<=40/\x=.ref p/\y=.ref q/\Rd H p (.dK a)/\Rd H q (.dK c)/\NF K H n a c/\Q (.bl b) H
theorem Zs(hu:X.A.units+64<cLine):b6 X (compareOp .NotEq) (xS X.K false):=by
 intro aa s j H x y v u Q I o w h;let⟨n,p,q,l,m,hn,rfl,rfl,f,g,⟨C,al⟩,i⟩:=h;cases o;cases w;∎;let⟨G,z,a,r1,c⟩:=hJ I.aS f;let⟨J,B,b,r2,d⟩:=hJ I.aS g;∎;have D:l.length=a.length:=KV.length r1;have E:m.length=b.length:=KV.length r2;refine W.keq_ne (r:=true) z B c d ⋯ (λ_=>Lc I (by rw[kP];omega) r2 r1 al) ?_;have e:(a.length == b.length&&true)=true:=by simp;omega
 rw[e];exact⟨.bl false,H,I,rfl,i⟩
end
section
variable{σ:St}{H:Hp}{Q:VK}{D:g9}{K:ak}
theorem az.aW(h:H a=none):az H (aW H a o):=λb u e=>by rw[bR (g7 e h)];exact e
theorem az.aA(e:az H H')(h:ck K H a xs):ck K H' a xs:=by
 rcases h with (h |⟨o,h⟩) |h
 .exact .inl (.inl (e _ _ h))
 .exact .inl (.inr ⟨o,e _ _ h⟩)
 .exact .inr h
theorem az.rd(e:az H H')(h:Rd H a u):Rd H' a u:=by
 rcases h with h |⟨o,h⟩
 .exact .inl (e _ _ h)
 .exact .inr ⟨o,e _ _ h⟩
end
section
variable{σ:St}{H:Hp}{Q:VK}{D:g9}{K:ak}{X:Cx}
theorem az.ng(e:az H H')(n:H a=none):az H (L2.aW H' a o):=λb u q=>by rw[bR (g7 q n)];exact e b u q
end
end L2
namespace Sf
def gd(a b:Int):Int:=(Int.gcd a b:Nat)
theorem GU(a:Int)(h:0<=a):gd a 0=a:=by
 unfold gd;rw[Int.gcd_zero_right];omega
theorem HQ(ha:0<=a)(c:0<b):gd b (a % b)=gd a b:=by
 unfold gd Int.gcd;have e:(a % b).natAbs=a.natAbs % b.natAbs:=by
  let⟨m,rfl⟩:=Int.eq_ofNat_of_zero_le ha;let⟨n,rfl⟩:=Int.eq_ofNat_of_zero_le (Int.le_of_lt c);simp only[natAbs_natCast];rw[<- Int.natCast_emod,natAbs_natCast]
 rw[e,Nat.gcd_comm b.natAbs,Nat.gcd_comm a.natAbs,Nat.gcd_rec b.natAbs a.natAbs]
theorem oB(h:b≠0):0<gd a b:=by
 unfold gd;have:=Int.gcd_pos_of_ne_zero_right a h;omega
theorem HR(a b:Int):gd (a.natAbs:Int) (b.natAbs:Int)=gd a b:=by
 unfold gd;simp[Int.gcd]
theorem uY(a:Int):(if a<0 then -a else a)=(a.natAbs:Int):=by split<;>omega
theorem X7(a b:Int):gd (if a<0 then -a else a) (if b<0 then -b else b)=gd a b:=by
 rw[uY,uY,HR]
def dv(t b:Int):Int:=if b<0 then -(gd t b) else gd t b
theorem IT(h:b≠0):dv t b≠0:=by
 have:=oB (a:=t) h;unfold dv;split<;>omega
theorem yW(t b:Int):gd t b ∣ t:=Int.gcd_dvd_left ..
theorem uo(t b:Int):gd t b ∣ b:=Int.gcd_dvd_right ..
theorem UT(t b:Int):dv t b ∣ t:=by
 unfold dv;split
 .exact Int.neg_dvd.mpr (yW t b)
 .exact yW t b
theorem UU(t b:Int):dv t b ∣ b:=by
 unfold dv;split
 .exact Int.neg_dvd.mpr (uo t b)
 .exact uo t b
theorem IU{x d:Int}(h:d ∣ x):x.fdiv d*d=x:=by
 rw[Int.fdiv_mul_cancel h]
theorem FU{t b:Int}(h:b≠0):t.fdiv (dv t b)=(Rat.divInt t b).num:=by
 have hd:=IT (t:=t) h;refine Int.eq_of_mul_eq_mul_right hd ?_;rw[IU (UT t b),Rat.num_divInt];have e:b.gcd t=t.gcd b:=Int.gcd_comm ..;rw[e];have d:((t.gcd b:Nat):Int) ∣ t:=Int.gcd_dvd_left ..;have i:=oB (a:=t) h;unfold gd at i;unfold dv gd;rw[Int.mul_ediv_assoc _ d];let⟨k,f⟩:=d;generalize j:((t.gcd b:Nat):Int)=g at *;have c:t / g=k:=by rw[f];exact Int.mul_ediv_cancel_left k ⋯
 rw[c];split
 .rename_i hb;rw[Int.sign_eq_neg_one_of_neg hb];grind
 .rename_i hb;rw[Int.sign_eq_one_of_pos ⋯];grind
theorem FV{t b:Int}(h:b≠0):b.fdiv (dv t b)=((Rat.divInt t b).den:Int):=by
 have hd:=IT (t:=t) h;refine Int.eq_of_mul_eq_mul_right hd ?_;rw[IU (UU t b),Rat.den_divInt,if_neg h];have e:b.gcd t=t.gcd b:=Int.gcd_comm ..;rw[e];have f:(t.gcd b) ∣ b.natAbs:=by rw[<- Int.ofNat_dvd_left];exact Int.gcd_dvd_right ..
 have j:=oB (a:=t) h;unfold gd at j;unfold dv gd;let⟨k,d⟩:=f;have c:b.natAbs / t.gcd b=k:=by rw[d];exact Nat.mul_div_cancel_left k ⋯
 rw[c];generalize t.gcd b=g at *;have i:(b.natAbs:Int)=(g:Int)*(k:Int):=by rw[d];exact Int.natCast_mul ..
 split<;>grind
theorem den_pos(q:Rat):0<(q.den:Int):=by have:=q.den_nz;omega
end Sf
namespace Sf
def Sm(n:Nat)(q:Rat):Prop:=q.num.natAbs<2 ^ n/\q.den<2 ^ n
theorem FH(h:b≠0):(Rat.divInt t b).num.natAbs<=t.natAbs/\(Rat.divInt t b).den<=b.natAbs:=by
 let⟨m,hm,g,i⟩:=Rat.divInt_num_den (n:=t) (d:=b) h (n':=(Rat.divInt t b).num) (d':=(Rat.divInt t b).den) (z':=(Rat.divInt t b).den_nz) (c:=(Rat.divInt t b).reduced) rfl;have a:1<=m.natAbs:=⋯
 have f:=congrArg Int.natAbs g;have e:=congrArg Int.natAbs i;rw[natAbs_mul] at f e;rw[natAbs_natCast] at e;constructor
 .rw[f];exact Nat.le_mul_of_pos_right _ a
 .rw[e];exact Nat.le_mul_of_pos_right _ a
theorem uf(h:b≠0)(a:t.natAbs<2 ^ n)(c:b.natAbs<2 ^ n):Sm n (Rat.divInt t b):=
 ⟨lt_of_le_of_lt (FH h).1 a,lt_of_le_of_lt (FH h).2 c⟩
theorem ET(a b:Rat):a+b=Rat.divInt (a.num*b.den+b.num*a.den) (a.den*b.den):=by
 rw[Rat.add_def',<- Rat.divInt_ofNat];rfl
theorem EU(a b:Rat):a - b=Rat.divInt (a.num*b.den - b.num*a.den) (a.den*b.den):=by
 rw[Rat.sub_def',<- Rat.divInt_ofNat];rfl
theorem qT(a b:Rat):a*b=Rat.divInt (a.num*b.num) (a.den*b.den):=by
 rw[Rat.mul_def',<- Rat.divInt_ofNat];rfl
theorem og(a b:Rat):(a.den*b.den:Int)≠0:=by
 have c:=den_pos a;have d:=den_pos b;exact Int.ne_of_gt (mul_pos c d)
theorem Zt(a:x<2 ^ n)(b:y<2 ^ m):x*y<2 ^ (n+m):=by
 rw[pow_add];exact Nat.mul_lt_mul'' a b
theorem jX{x y:Int}{n m:Nat}(a:x.natAbs<2 ^ n)(b:y.natAbs<2 ^ m):(x*y).natAbs<2 ^ (n+m):=by
 rw[natAbs_mul];exact Zt a b
theorem RU{x y:Int}{n:Nat}(a:x.natAbs<2 ^ n)(b:y.natAbs<2 ^ n):(x+y).natAbs<2 ^ (n+1):=by
 rw[Nat.pow_succ];omega
theorem RV{x y:Int}{n:Nat}(a:x.natAbs<2 ^ n)(b:y.natAbs<2 ^ n):(x - y).natAbs<2 ^ (n+1):=by
 rw[Nat.pow_succ];omega
theorem ji(h:Sm n q):(q.den:Int).natAbs<2 ^ n:=by rw[natAbs_natCast];exact h.2
theorem Jg{x:Int}{n m:Nat}(h:x.natAbs<2 ^ n)(k:n<=m):x.natAbs<2 ^ m:=lt_of_lt_of_le h (Nat.pow_le_pow_right ∎ k)
theorem Zu{n m:Nat}{a b:Rat}(c:Sm n a)(d:Sm m b):Sm (n+m+1) (a+b):=by
 rw[ET];refine uf (og a b) ?_ ?_
 .refine RU (jX c.1 (ji d)) ?_;rw[Nat.add_comm n m];exact jX d.1 (ji c)
 .exact Jg (jX (ji c) (ji d)) ⋯
theorem Zv{n m:Nat}{a b:Rat}(c:Sm n a)(d:Sm m b):Sm (n+m+1) (a - b):=by
 rw[EU];refine uf (og a b) ?_ ?_
 .refine RV (jX c.1 (ji d)) ?_;rw[Nat.add_comm n m];exact jX d.1 (ji c)
 .exact Jg (jX (ji c) (ji d)) ⋯
theorem Zw(c:Sm n a)(d:Sm m b):Sm (n+m) (a*b):=by
 rw[qT];exact uf (og a b) (jX c.1 d.1) (jX (ji c) (ji d))
end Sf
namespace Sf
section
variable{κ:Type}[DecidableEq κ]
abbrev FL(κ:Type):=List (κ×Rat)
def gt(m:FL κ)(k:κ):Option Rat:=(m.find? λp=>decide (p.1=k)).map (·.2)
def pt(m:FL κ)(k:κ)(q:Rat):FL κ:=if (m.any λp=>decide (p.1=k))=true then m.map (λp=>if p.1=k then (p.1,q) else p) else m++[(k,q)]
def nz(m:FL κ):FL κ:=m.filter λp=>decide (p.2≠0)
def sc(m:FL κ)(n:Rat):FL κ:=m.map λp=>(p.1,p.2*n)
def Nd(m:FL κ):Prop:=(m.map (·.1)).Nodup
theorem Zx(k:κ):gt ([]:FL κ) k=none:=rfl
theorem fU{p:κ×Rat}{r:FL κ}{k:κ}(e:p.1=k):gt (p::r) k=some p.2:=by simp[gt,find?_cons,e]
theorem fV{p:κ×Rat}{r:FL κ}{k:κ}(e:¬ p.1=k):gt (p::r) k=gt r k:=by simp[gt,find?_cons,e]
theorem rl(k:κ):∀m:FL κ,(m.any λp=>decide (p.1=k))=(gt m k).isSome
 |[]=>rfl
 |p::r=>by
  rw[any_cons];by_cases e:p.1=k
  .simp[fU e,e]
  .rw[fV e,rl k r];simp[e]
theorem l0(k:κ):∀m:FL κ,gt m k=none↔k ∉ m.map (·.1)
 |[]=>by simp[Zx]
 |p::r=>by
  by_cases e:p.1=k
  .simp[fU e,e]
  .rw[fV e,l0 k r];simp[Ne.symm e]
theorem lZ{k:κ}{q:Rat}:∀{m:FL κ},Nd m->(k,q)∈m->gt m k=some q
 |p::r,n,h=>by
  let⟨a,b⟩:=nodup_cons.mp (show (p.1::r.map (·.1)).Nodup from n);rcases mem_cons.mp h with e |h
  .subst e;exact fU rfl
  .have ne:¬ p.1=k:=λz=>a (by rw[z];exact mem_map.mpr ⟨_,h,rfl⟩)
   rw[fV ne];exact lZ b h
theorem z'a{m:FL κ}{k:κ}(q:Rat)(h:gt m k=none):pt m k q=m++[(k,q)]:=by
 unfold pt;rw[rl,h];rfl
theorem Ti(f:κ×Rat->Bool)(n:Nd m):Nd (m.filter f):=by
 unfold Nd at *;exact List.Pairwise.sublist (List.Sublist.map _ List.filter_sublist) n
theorem Tj(k:κ)(q:Rat)(m:FL κ):(m.map (λp=>if p.1=k then (p.1,q) else p)).map (·.1)=m.map (·.1):=by
 rw[map_map];refine map_congr_left λp _=>?_
 show (if p.1=k then (p.1,q) else p).1=p.1;split<;>rfl
theorem IV(n:Nd m)(k:κ)(q:Rat):Nd (pt m k q):=by
 unfold pt;by_cases h:(m.any λp=>decide (p.1=k))=true
 .rw[if_pos h];unfold Nd;rw[Tj];exact n
 .rw[if_neg h];have hn:gt m k=none:=by
   rw[rl] at h;cases z:gt m k with
   |none=>rfl
   |some _=>rw[z] at h;simp at h
  unfold Nd at *;rw[map_append];refine nodup_append.mpr ⟨n,by simp,?_⟩;intro a ha b c;have:b=k:=by simpa using c
  subst this;exact λz=>(l0 b m).mp hn (z ▸ ha)
theorem rF(n:Nd m)(x:Rat):Nd (sc m x):=by
 unfold Nd sc at *;rw[map_map];exact n
theorem GV(k j:κ)(q:Rat):∀m:FL κ,gt (m.map (λp=>if p.1=k then (p.1,q) else p)) j=(gt m j).map λx=>if j=k then q else x
 |[]=>rfl
 |p::r=>by
  have a:=GV k j q r;rw[map_cons];by_cases h:p.1=k
  .rw[if_pos h];by_cases e:p.1=j
   .rw[fU (p:=(p.1,q)) e,fU e];simp[<- e,h]
   .rw[fV (p:=(p.1,q)) e,fV e,a]
  .rw[if_neg h];by_cases e:p.1=j
   .rw[fU e,fU e];simp[<- e,h]
   .rw[fV e,fV e,a]
theorem GW(k j:κ)(q:Rat):∀m:FL κ,gt m k=none->gt (m++[(k,q)]) j=if j=k then some q else gt m j
 |[],_=>by
  by_cases e:k=j
  .rw[if_pos e.symm];exact fU (p:=(k,q)) e
  .rw[if_neg (Ne.symm e)];exact fV (p:=(k,q)) e
 |p::r,h=>by
  have a:¬ p.1=k:=λz=>by rw[fU z] at h;cases h
  rw[fV a] at h;have b:=GW k j q r h;rw[cons_append];by_cases e:p.1=j
  .rw[fU e,fU e,if_neg (λz=>a (e.trans z))]
  .rw[fV e,fV e,b]
theorem IW(m:FL κ)(k j:κ)(q:Rat):gt (pt m k q) j=if j=k then some q else gt m j:=by
 unfold pt;by_cases h:(m.any λp=>decide (p.1=k))=true
 .rw[if_pos h,GV];rw[rl] at h;by_cases e:j=k
  .subst e;let⟨x,a⟩:=isSome_iff_exists.mp h;simp[a]
  .simp[e]
 .rw[if_neg h];refine GW k j q m ?_;rw[rl] at h;cases z:gt m k with
  |none=>rfl
  |some _=>rw[z] at h;simp at h
def run(P:κ->Rat)(r:Rat)(m:FL κ):Rat:=m.foldl (λt p=>t+p.2*P p.1) r
end
end Sf
namespace Sf
section
variable{κ:Type}[DecidableEq κ]
theorem FI{j:Type}{m:List j}{i:Nat}{p:j}(e:m[i]?=some p):m.take (i+1)=m.take i++[p]:=by
 rw[take_add_one,e];rfl
theorem FW{m:FL κ}(n:Nd m){i:Nat}{x:κ}{q:Rat}(e:m[i]?=some (x,q)):gt (m.take i) x=none:=by
 rw[l0];intro h;have l:i<m.length:=(List.getElem?_eq_some_iff.mp e).1;have hm:(m.map (·.1))[i]?=some x:=by rw[getElem?_map,e];rfl
 rw[List.map_take] at h;let⟨j,f,d⟩:=List.mem_take_iff_getElem.mp h;have b:j<i:=by simp at f;omega
 have g:(m.map (·.1)).Nodup:=n;have:=List.getElem?_eq_some_iff.mp hm;let⟨a,c⟩:=this;have:=(List.pairwise_iff_getElem.mp g) j i ⋯ a b;exact this (by rw[c];exact d)
theorem RW{m:FL κ}{x:κ}(n:Rat)(h:gt m x=none):gt (sc m n) x=none:=by
 rw[l0] at h ⊢;unfold sc;rw[map_map];exact h
theorem X8{m:FL κ}{i:Nat}{x:κ}{q:Rat}(n:Rat)(e:m[i]?=some (x,q)):sc (m.take (i+1)) n=sc (m.take i) n++[(x,q*n)]:=by
 rw[FI e];unfold sc;rw[map_append];rfl
def eZ(a b:FL κ):FL κ:=b.foldl (λm p=>pt m p.1 ((gt m p.1).getD 0+p.2)) a
theorem Tn{a b:FL κ}{i:Nat}{x:κ}{q:Rat}(e:b[i]?=some (x,q)):eZ a (b.take (i+1))=pt (eZ a (b.take i)) x ((gt (eZ a (b.take i)) x).getD 0+q):=by
 rw[FI e];unfold eZ;rw[List.foldl_append];rfl
theorem uC:∀(b a:FL κ),Nd a->Nd (eZ a b)
 |[],a,h=>h
 |p::r,a,h=>uC r _ (IV h _ _)
theorem Er:∀(b a:FL κ),x ∉ b.map (·.1)->gt (eZ a b) x=gt a x
 |[],a,_=>rfl
 |p::r,a,h=>by
  have c:¬ x=p.1:=λz=>h (by rw[z];simp)
  have d:=Er (x:=x) r (pt a p.1 ((gt a p.1).getD 0+p.2)) (λz=>h (by simp[z]));show gt (eZ (pt a p.1 ((gt a p.1).getD 0+p.2)) r) x=_;rw[d,IW,if_neg c]
theorem Pc{a b:FL κ}(n:Nd b){i:Nat}{x:κ}{q:Rat}(e:b[i]?=some (x,q)):gt (eZ a (b.take i)) x=gt a x:=
 Er _ _ ((l0 x _).mp (FW n e))
theorem uZ(m:FL κ):(nz m).length<=m.length:=length_filter_le _ _
theorem u0(m:FL κ)(n:Rat):(sc m n).length=m.length:=length_map ..
theorem vr{m:FL κ}(n:Nd m):Nd (nz m):=Ti _ n
end
end Sf
namespace Sf
section
variable{κ:Type}[DecidableEq κ]
theorem GX{x:κ}:∀(b a:FL κ),Nd b->gt (eZ a b) x=match gt b x with |none=>gt a x |some q=>some ((gt a x).getD 0+q)
 |[],a,_=>rfl
 |p::r,a,n=>by
  let⟨d,f⟩:=nodup_cons.mp (show (p.1::r.map (·.1)).Nodup from n);have c:=GX (x:=x) r (pt a p.1 ((gt a p.1).getD 0+p.2)) f;show gt (eZ (pt a p.1 ((gt a p.1).getD 0+p.2)) r) x=_;rw[c,IW];by_cases e:p.1=x
  .have hn:gt r x=none:=(l0 x r).mpr (e ▸ d);rw[hn,fU e,if_pos e.symm];simp[e]
  .rw[fV e,if_neg (λz=>e z.symm)]
theorem rG{x:κ}:∀{m:FL κ},Nd m->gt (nz m) x=match gt m x with |none=>none |some q=>if q=0 then none else some q
 |[],_=>rfl
 |p::r,n=>by
  let⟨b,c⟩:=nodup_cons.mp (show (p.1::r.map (·.1)).Nodup from n);have a:=rG (x:=x) c;unfold nz at a ⊢;by_cases e:p.1=x
  .have hn:gt r x=none:=(l0 x r).mpr (e ▸ b);rw[hn] at a;rw[fU e];by_cases h:p.2=0
   .rw[List.filter_cons_of_neg (by simp[h]),a];simp[h]
   .rw[List.filter_cons_of_pos (by simp[h]),fU e];simp[h]
  .rw[fV e];by_cases h:p.2=0
   .rw[List.filter_cons_of_neg (by simp[h]),a]
   .rw[List.filter_cons_of_pos (by simp[h]),fV e,a]
theorem zT{x:κ}(n:Rat):∀m:FL κ,gt (sc m n) x=(gt m x).map (·*n)
 |[]=>rfl
 |p::r=>by
  have a:=zT (x:=x) n r;unfold sc at a ⊢;rw[map_cons];by_cases e:p.1=x
  .rw[fU (p:=(p.1,p.2*n)) e,fU e];rfl
  .rw[fV (p:=(p.1,p.2*n)) e,fV e,a]
end
end Sf
namespace Sf
open PySem L2
def fr(q:Rat):ax:=[.int q.num,.int (q.den:Int)]
end Sf
namespace Vc
open PySem L2 Sf
def Le(F b:Hp):Prop:=∀a u,(∀o w,u≠.aB o w)->Rd F a u->Rd b a u
theorem Le.refl(F:Hp):Le F F:=λ_ _ _ h=>h
theorem Le.trans(a:Le F G)(b:Le G H):Le F H:=λx u n h=>b x u n (a x u n h)
theorem Le.of(e:az F F'):Le F F':=λa u _ h=>e.rd h
theorem Le.aA(e:Le F F')(h:ck K F a xs):ck K F' a xs:=by
 rcases h with h |h
 .exact .inl (e _ _ (by intro o w z;cases z) h)
 .exact .inr h
theorem Le.av(e:Le F F')(h:bY K F a xs):bY K F' a xs:=by
 rcases h with h |h
 .exact .inl (e _ _ (by intro o w z;cases z) h)
 .exact .inr h
theorem Le.a9(e:Le F F')(h:Rd F a (.dK kvs)):Rd F' a (.dK kvs):=e _ _ (by intro o w z;cases z) h
def Fz(S:ae->Prop)(F:Hp):Prop:=∀a o u,F a=some (.aB o u)->S a
abbrev S0:ae->Prop:=λ_=>False
def xk(F:Hp):ae->Prop:=λa=>∃o u,F a=some (.aB o u)
structure Gr0(F H F' H':Hp):Prop where
 h:az H H'
 f:az F F'
 s:az F' H'
 n:∀a u,F' a=some u->F a=none->H a=none
structure Gr(F H F' H':Hp):Prop extends Gr0 F H F' H' where
 z:Fz (xk F) F'
theorem Gr0.refl(s:az F H):Gr0 F H F H:=⟨az.refl _,az.refl _,s,(λa u h e=>by rw[h] at e;cases e)⟩
theorem Fz.refl(F:Hp):Fz (xk F) F:=λ_ o u h=>⟨o,u,h⟩
theorem Gr.of(g:Gr0 F H F' H')(z:Fz (xk F) F'):Gr F H F' H':=⟨g,z⟩
theorem Gr.le(g:Gr F H F' H'):Le F F':=.of g.f
theorem Gr.fz(g:Gr F H F' H')(c:Fz S F):Fz S F':=λa o u h=>by
 let⟨b,d,e⟩:=g.z a o u h;exact c a b d e
theorem Gr0.trans(a:Gr0 F H F1 H1)(b:Gr0 F1 H1 F2 H2):Gr0 F H F2 H2:=
 ⟨a.h.trans b.h,a.f.trans b.f,b.s,(λx u h e=>match q:F1 x with
  |none=>a.h.free (b.n x u h q)
  |some w=>a.n x w q e)⟩
theorem Gr0.tr(a:Gr0 F H F1 H1)(b:Gr F1 H1 F2 H2):Gr0 F H F2 H2:=a.trans b.toGr0
theorem Gr.own{F H a b:Hp}(g:Gr F H a b)(c:F o=none)(d:H o=some u):a o=none:=by
 cases q:a o with
 |none=>rfl
 |some w=>have:=g.n o w q c;rw[d] at this;cases this
theorem al{F H:Hp}{R:V->Hp->Prop}(i:az F H)(l:∀x u,o≠.aB x u)(h:∀(p:ae)(f g:Hp),Gr F H f g->f p=some o->R (.ref p) g):∀p,H p=none->R (.ref p) (aW H p o):=λp d=>by
 have j:F p=none:=i.free d;refine h p (aW F p o) (aW H p o) ⟨⟨az.aW d,az.aW j,?_,λa u e q=>?_⟩,λa x u e=>?_⟩ fb
 .intro b u e;by_cases c:b=p
  .subst c;rw[fb] at e ⊢;exact e
  .rw[bR c] at e ⊢;exact i b u e
 .by_cases c:a=p
  .subst c;exact d
  .rw[bR c,q] at e;cases e
 .by_cases c:a=p
  .subst c;rw[fb] at e;exact absurd (Option.some.inj e) (l x u)
  .rw[bR c] at e;exact⟨_,_,e⟩
theorem NP{F H:Hp}{R:Hp->Prop}(j:az F H)(i:∀x u,o≠.aB x u)(c:H p=none)(h:∀b a:Hp,Gr F H b a->b p=some o->R a):R (aW H p o):=by
 have:=al (R:=λv a=>∀q,v=.ref q->q=p->R a) j i (λq b a g e z f d=>by cases f;subst d;exact h b a g e) p c;exact this p rfl rfl
theorem Eh{F H:Hp}(f:az F H)(d:∀x u,o≠.aB x u)(c:H p=none):∃a,Gr F H a (aW H p o)/\a p=some o:=
 NP (R:=λb=>∃a,Gr F H a b/\a p=some o) f d c λa _ g e=>⟨a,g,e⟩
theorem aB{Fb Hb F H:Hp}(d:Gr0 Fb Hb F H)(j:Fz S F)(g:Hb p=none)(i:F p=none)(l:H p=some o)(m:∀x u,o≠.aB x u):∃c,Gr0 Fb Hb c H/\Fz S c/\az F c/\c p=some o/\∀a,a≠p->c a=F a:=by
 refine⟨aW F p o,⟨d.h,d.f.trans (az.aW i),?_,λa u e q=>?_⟩,λa x u e=>?_,az.aW i,fb,λ_ e=>bR e⟩
 .intro b u e;by_cases g:b=p
  .subst g;rw[fb] at e;cases e;exact l
  .rw[bR g] at e;exact d.s b u e
 .by_cases hb':a=p
  .subst hb';exact g
  .rw[bR hb'] at e;exact d.n a u e q
 .by_cases hb':a=p
  .subst hb';rw[fb] at e;exact absurd (Option.some.inj e) (m x u)
  .rw[bR hb'] at e;exact j a x u e
def fz(X:Hp)(a:ae)(o:HO):Hp:=λb=>if b=a then (if X a=none then none else some o) else X b
theorem eB{X:Hp}(h:b≠a):fz X a o b=X b:=by unfold fz;rw[if_neg h]
theorem gb:fz X a o a=if X a=none then none else some o:=by unfold fz;rw[if_pos rfl]
theorem uD{X:Hp}(h:fz X a o a=some u):X a≠none/\some o=some u:=by
 rw[gb] at h;split at h
 .cases h
 .rename_i q;exact⟨q,h⟩
theorem Ld(z:HO)(c:Gr0 Fb Hb F H):Gr0 (fz Fb a z) (fz Hb a z) (fz F a z) (aW H a z):=by
 refine⟨λb u e=>?_,λb u e=>?_,λb u e=>?_,λb u e q=>?_⟩
 .by_cases hb:b=a
  .subst hb;rw[fb];exact (uD e).2
  .rw[eB hb] at e;rw[bR hb];exact c.h b u e
 .by_cases hb:b=a
  .subst hb;rw[gb] at e ⊢;split at e
   .cases e
   .rename_i h;let⟨w,hw⟩:=Option.ne_none_iff_exists'.mp h;rw[if_neg (by rw[c.f _ _ hw];intro z;cases z)];exact e
  .rw[eB hb] at e ⊢;exact c.f b u e
 .by_cases hb:b=a
  .subst hb;rw[fb];exact (uD e).2
  .rw[eB hb] at e;rw[bR hb];exact c.s b u e
 .by_cases hb:b=a
  .subst hb;rw[gb] at e q ⊢;split at e
   .cases e
   .rename_i h;let⟨w,hw⟩:=Option.ne_none_iff_exists'.mp h;split at q
    .rename_i hf;rw[if_pos (c.n _ _ hw hf)]
    .cases q
  .rw[eB hb] at e q ⊢;exact c.n b u e q
theorem vt{F:Hp}(c:F a=none\/F a=some (.dK kvs)):Le F (fz F a (.aB ob (.dK kvs))):=λb u n h=>by
 by_cases d:b=a
 .subst d;rcases c with c |c
  .rcases h with h |⟨o,h⟩<;>(rw[c] at h;cases h)
  .rcases h with h |⟨o,h⟩
   .rw[c] at h;cases h;refine .inr ⟨ob,?_⟩;rw[gb,if_neg (by rw[c];intro z;cases z)]
   .rw[c] at h;cases h
 .rcases h with h |⟨o,h⟩
  .exact .inl (by rw[eB d];exact h)
  .exact .inr ⟨o,by rw[eB d];exact h⟩
theorem VZ{Fb Hb F H i m:Hp}{S:ae->Prop}{R:Hp->Prop}(y:Gr0 Fb Hb F H)(C:H a=some (.dK kvs))(g:F a=none\/F a=some (.dK kvs))(r:Gr0 (fz Fb a (.aB ob (.dK kvs))) (fz Hb a (.aB ob (.dK kvs))) i m)(v:i a=fz F a (.aB ob (.dK kvs)) a)(A:Fz (λb=>b=a\/S b) i)(h:∀d j:Hp,Gr0 Fb Hb d j->Fz S d->Le i d->d a=F a->j a=some (.dK kvs)->(∀b,b≠a->d b=i b)->(∀b,b≠a->j b=m b)->R j):R (aW m a (.dK kvs)):=by
 have l:i  a=none\/i a=some (.aB ob (.dK kvs)):=by
  rw[v,gb];split
  .exact .inl rfl
  .exact .inr rfl
 refine h (fz i a (.dK kvs)) (aW m a (.dK kvs)) ⟨λb u e=>?_,λb u e=>?_,λb u e=>?_,λb u e q=>?_⟩ (λb o u e=>?_) (λb u n e=>?_) ?_ fb (λb c=>eB c) (λb c=>bR c)
 .by_cases c:b=a
  .subst c;rw[fb];have:=y.h _ _ e;rw[C] at this;exact this
  .rw[bR c];exact r.h b u (by rw[eB c];exact e)
 .by_cases c:b=a
  .subst c;have p:=y.f _ _ e;rcases g with g |g
   .rw[g] at p;cases p
   .rw[g] at p;have B:i b=some (.aB ob (.dK kvs)):=by rw[v,gb,if_neg (by rw[g];intro z;cases z)]
    rw[gb,if_neg (by rw[B];intro z;cases z)];exact p
  .rw[eB c];exact r.f b u (by rw[eB c];exact e)
 .by_cases c:b=a
  .subst c;rw[fb];exact (uD e).2
  .rw[eB c] at e;rw[bR c];exact r.s b u e
 .by_cases c:b=a
  .subst c;rw[gb] at e;split at e
   .cases e
   .rename_i hn;rw[v,gb] at hn;split at hn
    .exact absurd rfl hn
    .rename_i hf;let⟨w,hw⟩:=Option.ne_none_iff_exists'.mp hf;exact y.n _ _ hw q
  .rw[eB c] at e;have:=r.n b u e (by rw[eB c];exact q);rw[eB c] at this;exact this
 .by_cases c:b=a
  .subst c;cases (uD e).2
  .rw[eB c] at e;rcases A b o u e with x |x
   .exact absurd x c
   .exact x
 .by_cases c:b=a
  .subst c;rcases l with l |l
   .rcases e with e |⟨o,e⟩<;>(rw[l] at e;cases e)
   .rcases e with e |⟨o,e⟩
    .rw[l] at e;cases e;exact absurd rfl (n _ _)
    .rw[l] at e;cases e;refine .inl ?_;rw[gb,if_neg (by rw[l];intro z;cases z)]
  .rcases e with e |⟨o,e⟩
   .exact .inl (by rw[eB c];exact e)
   .exact .inr ⟨o,by rw[eB c];exact e⟩
 .rw[gb,v,gb];rcases g with g |g<;>rw[g]
  .rfl
  .rfl
theorem GY{F:Hp}(c:Fz S0 F)(h:Rd F a (.dK kvs)):F a=some (.dK kvs):=by
 rcases h with h |⟨o,h⟩
 .exact h
 .exact (c _ _ _ h).elim
abbrev Rep(j:Type):=Hp->V->j->Prop
def rS:Rep Str:=λ_ v s=>v=.str s
def vQ(K:ak):Rep Rat:=λF v q=>∃a,v=.ref a/\ck K F a (fr q)
def r2(K:ak){j y:Type}(A:Rep j)(B:Rep y):Rep (j×y):=λF v x=>∃a v1 b,v=.ref a/\ck K F a [v1,b]/\A F v1 x.1/\B F b x.2
def r3(K:ak){j y u:Type}(A:Rep j)(B:Rep y)(C:Rep u):Rep (j×y×u):=λF v x=>∃a v1 b c,v=.ref a/\ck K F a [v1,b,c]/\A F v1 x.1/\B F b x.2.1/\C F c x.2.2
def r5(K:ak){j y u f g:Type}(A:Rep j)(B:Rep y)(C:Rep u)(D:Rep f)(E:Rep g):Rep (j×y×u×f×g):=λF v x=>∃a v1 b c d e,v=.ref a/\ck K F a [v1,b,c,d,e]/\A F v1 x.1/\B F b x.2.1/\C F c x.2.2.1/\D F d x.2.2.2.1/\E F e x.2.2.2.2
def Al{j:Type}(A:Rep j)(F:Hp):ax->List j->Prop
 |[],[]=>True
 |v::vs,x::xs=>A F v x /\ Al A F vs xs
 |_,_=>False
section
variable{α:Type}
def b3(m:List (Str×α))(k:Str):Option α:=(m.find? λp=>decide (p.1=k)).map (·.2)
def gh(m:List (Str×α))(k:Str)(y:α):List (Str×α):=if (m.any λp=>decide (p.1=k))=true then m.map (λp=>if p.1=k then (p.1,y) else p) else m++[(k,y)]
theorem HS(m:FL Str)(k:Str):b3 m k=gt m k:=rfl
theorem iM(e:p.1=k):b3 (p::r) k=some p.2:=by simp[b3,find?_cons,e]
theorem iN(e:¬ p.1=k):b3 (p::r) k=b3 r k:=by simp[b3,find?_cons,e]
theorem GZ(k:Str):∀m:List (Str×α),(m.any λp=>decide (p.1=k))=(b3 m k).isSome
 |[]=>rfl
 |p::r=>by
  rw[any_cons,GZ k r];by_cases e:p.1=k
  .rw[iM e,decide_eq_true e];rfl
  .rw[iN e,decide_eq_false e];rfl
theorem oh(m:List (Str×α))(k j:Str)(y:α):b3 (gh m k y) j=if j=k then some y else b3 m j:=by
 have iW:∀m:List (Str×α),b3 (m.map (λp=>if p.1=k then (p.1,y) else p)) j=(b3 m j).map λx=>if j=k then y else x:=by
  intro m
  induction m with
  |nil=>rfl
  |cons p r a=>
   rw[map_cons];by_cases e:p.1=k
   .rw[if_pos e];by_cases f:p.1=j
    .rw[iM (p:=(p.1,y)) f,iM f,map_some,if_pos (f.symm.trans e)]
    .rw[iN (p:=(p.1,y)) f,iN f,a]
   .rw[if_neg e];by_cases f:p.1=j
    .rw[iM f,iM f,map_some,if_neg (λz=>e (f.trans z))]
    .rw[iN f,iN f,a]
 unfold gh;rw[GZ];by_cases h:(b3 m k).isSome=true
 .rw[if_pos h,iW];by_cases f:j=k
  .subst f;let⟨v,e⟩:=isSome_iff_exists.mp h;rw[e,if_pos rfl];simp
  .rw[if_neg f];simp[f]
 .rw[if_neg h];have hn:b3 m k=none:=by simpa using h
  have snoc:∀m:List (Str×α),b3 m k=none->b3 (m++[(k,y)]) j=if j=k then some y else b3 m j:=by
   intro m
   induction m with
   |nil=>
    intro _;by_cases f:j=k
    .rw[if_pos f];exact iM f.symm
    .rw[if_neg f];exact iN (λz=>f z.symm)
   |cons p r a=>
    intro hm;by_cases e:p.1=k
    .rw[iM e] at hm;cases hm
    .rw[iN e] at hm;rw[cons_append];by_cases f:p.1=j
     .rw[iM f,iM f,if_neg (λz=>e (f.trans z))]
     .rw[iN f,iN f,a hm]
  exact snoc m hn
end
def bl(n:Nat):Nat:=if n=0 then 0 else Nat.log2 n+1
theorem jI:n<2 ^ k↔bl n<=k:=by
 unfold bl;by_cases h:n=0
 .subst h;simp[Nat.two_pow_pos]
 .rw[if_neg h,<- Nat.log2_lt h];omega
theorem G0(n:Nat):n<2 ^ bl n:=jI.mpr (le_refl _)
def bi(x:Int):Nat:=bl x.natAbs
def bs(q:Rat):Nat:=max (bl q.num.natAbs) (bl q.den)
theorem Lf(h:bs q<=n):Sm n q:=⟨jI.mpr (by unfold bs at h;omega),jI.mpr (by unfold bs at h;omega)⟩
theorem oO(h:Sm n q):bs q<=n:=by
 have a:=jI.mp h.1;have b:=jI.mp h.2;unfold bs;omega
theorem jZ(q:Rat):Sm (bs q) q:=Lf (le_refl _)
theorem mx(a b:Rat):bs (a+b)<=bs a+bs b+1:=oO (Zu (jZ a) (jZ b))
theorem HU(a b:Rat):bs (a - b)<=bs a+bs b+1:=oO (Zv (jZ a) (jZ b))
theorem iK(a b:Rat):bs (a*b)<=bs a+bs b:=oO (Zw (jZ a) (jZ b))
theorem G1:bs 0=1:=by decide +kernel
theorem rH(h:x.natAbs<2 ^ k):bi x<=k:=jI.mp h
theorem k4(h:bi x<=k):x.natAbs<2 ^ k:=jI.mpr h
theorem oC(x y:Int):bi (x*y)<=bi x+bi y:=jI.mp (jX (G0 _) (G0 _))
theorem kO(k:Nat)(h:x.natAbs<2 ^ k):bi x<=k:=jI.mp h
theorem fj(q:Rat):bi q.num<=bs q:=by unfold bi bs;omega
theorem dP(q:Rat):bi (q.den:Int)<=bs q:=by unfold bi bs;rw[natAbs_natCast];omega
theorem yf(h:b≠0)(a:bi t<=k)(c:bi b<=k):bs (Rat.divInt t b)<=k:=oO (uf h (k4 a) (k4 c))
theorem rJ(a:bi x<=60000000)(b:bi y<=60000000):ky x y:=.inr ⟨60000000,le_refl _,k4 a,k4 b⟩
section
variable{σ:St}{H:Hp}{Q:VK}{D:g9}{K:ak}
theorem HV(a:q.num=t)(c:(q.den:Int)=b):fr q=[.int t,.int b]:=by unfold fr;rw[a,c]
end
def i3(K:ak)(H:Hp)(x:V)(t:af):Prop:=dD K H x t\/(t=.type "tuple"/\∃a c,x=.ref a/\ck K H a c)\/(t=.type "list"/\∃a c,x=.ref a/\bY K H a c)\/(t=.type "dict"/\∃a b,x=.ref a/\Rd H a (.dK b))
section
variable{K:ak}{H:Hp}
theorem z'b(h:ck K H a xs):i3 K H (.ref a) (.type "tuple"):=.inr (.inl ⟨rfl,a,xs,rfl,h⟩)
theorem z'c(h:bY K H a xs):i3 K H (.ref a) (.type "list"):=.inr (.inr (.inl ⟨rfl,a,xs,rfl,h⟩))
theorem z'd(h:Rd H a (.dK kvs)):i3 K H (.ref a) (.type "dict"):=.inr (.inr (.inr ⟨rfl,a,kvs,rfl,h⟩))
theorem z'e:i3 K H (.int i) (.type "int"):=.inl (.int i)
theorem z'f:i3 K H (.str i) (.type "str"):=.inl (.str i)
theorem Lg:i3 K H (.bl i) (.type "bool"):=.inl (.bl i)
theorem z'g:i3 K H .aZ (.type "NoneType"):=.inl .aZ
end
section
open PySem.Spec PyProof.Rows
variable{X:Cx}
theorem UW:bA X (.builtin "isinstance") (λxs H Q=>∃x c t b u,xs=[x,c]/\i3 X.K H x t/\tM c=some u/\W.kitOne X.K t u=some b/\Q (.bl b) H):=by
 intro aa s j H xs us Q I r h;let⟨x,c,t,b,u,rfl,ty,d,e,q⟩:=h;rcases ty with ty |⟨rfl,a,C,rfl,l⟩ |⟨rfl,a,C,rfl,l⟩ |⟨rfl,a,y,rfl,l⟩
 .exact US aa s j H [x,c] us Q I r ⟨x,c,t,b,u,rfl,ty,d,e,q⟩
 all_goals
  let⟨v,B,rfl,A,eM⟩:=zS r;have w:B=u:=by
   cases c with
   |ref a=>cases d;exact eM
   |ty n=>cases d;exact eM
   |aZ=>cases d
   |bl n=>cases d
   |int i=>cases d
   |str i=>cases d
   |gg i=>cases d
   |ka i=>cases d
  subst w;cases (show v=Value.ref a from A)
 .obtain⟨bo,_,p,_⟩:=I.tuple l;let⟨o,f,g,_⟩:=p;exact W.kia_one W.kitx_tuple I.cP ⟨o,f,g⟩ e (λz=>nomatch z) λm=>⟨.bl b,H,I.tok m,rfl,q⟩
 .obtain⟨bo,_,p,_⟩:=I.list l;let⟨o,f,g,_⟩:=p.isList;exact W.kia_one W.kitx_list I.cP ⟨o,f,g⟩ e (λz=>nomatch z) λm=>⟨.bl b,H,I.tok m,rfl,q⟩
 .obtain⟨_,_,vs,_,p⟩:=hJ I.aS l;let⟨o,E,D,f,g,_⟩:=p;exact W.kia_one W.kitx_dict I.cP ⟨o,f,g.1⟩ e (λz=>nomatch z) λm=>⟨.bl b,H,I.tok m,rfl,q⟩
end
def sgn(z:Str)(i:Int):Str:=⟨#[z.cps.toList.getD i.toNat 0]⟩
section
variable{X:Cx}{aa:aT}{σ:St}{F H:Hp}{s:ai}{Au:Around}
theorem X9:∀{x y:V}{u:af},aC x u->aC y u->x=y:=by
 intro x y u b a;cases x<;>cases y<;>simp only[aC] at b a<;>first
  |rfl
  |(subst b;simp at a;subst a;rfl)
  |(subst b;simp at a;done)
  |(let⟨t,rfl⟩:=b;let⟨c,e⟩:=a;simp at e;rw[e.1])
  |(let⟨t,rfl⟩:=b;simp at a;done)
  |(let⟨t,rfl⟩:=a;simp at b;done)
theorem yX:∀{xs ys:ax}{us:aN},aL xs us->aL ys us->xs=ys
 |[],[],_,_,_=>rfl
 |_::_,_::_,_,.cons h t,.cons h' t'=>by rw[X9 h h',yX t t']
 |[],_::_,_,h,h'=>by cases h;cases h'
 |_::_,[],_,h,h'=>by cases h';cases h
theorem Ya(I:au X aa σ H s)(g:ck X.K H a xs)(h:ck X.K H a ys):xs=ys:=by
 ∎;let⟨us,r1,⟨o,f,j,m,d⟩,_⟩:=I.tuple g;let⟨i,r2,⟨p,c,l,n,b⟩,_⟩:=I.tuple h;∎;rw[f] at c;cases c;rw[d] at b;injection b with e _
 have:us=i:=by simpa using e
 subst this;exact yX r1 r2
theorem Yb(I:au X aa σ H s)(g:bY X.K H a xs)(h:bY X.K H a ys):xs=ys:=by
 ∎;let⟨us,r1,p1,_⟩:=I.list g;let⟨i,r2,p2,_⟩:=I.list h;let⟨o,f,j,m,d⟩:=p1.isList;let⟨p,c,l,n,b⟩:=p2.isList;∎;rw[f] at c;cases c;rw[d] at b;injection b with e _
 have:us=i:=by simpa using e
 subst this;exact yX r1 r2
theorem G4(I:au X aa σ H s)(d:ck X.K H a xs)(f:ck X.K H b ys)(hu:Au.units<cLine)(B:xs.length=ys.length)(e:Nat->Bool)(he:∀(j:Nat) x y u v,xs[j]?=some x->ys[j]?=some y->aC x u->aC y v->SeqAt.EqAt Au.in1 s u v (e j)):SeqAt.RcAt Au s (.ref a) (.ref b) ((List.range xs.length).all e):=by
 ∎;let⟨us,r1,r,_⟩:=I.tuple d;let⟨c,r2,w,_⟩:=I.tuple f;∎;have C:=r1.length;have D:=r2.length;have z:=SeqAt.RcAt.tuples (A:=Au) (e:=e) r w hu (λj d f=>?_)
 .have e0:((List.range (min us.toArray.size c.toArray.size)).all e&&us.toArray.size == c.toArray.size)=(List.range xs.length).all e:=by
   simp only[size_toArray];have g:min us.length c.length=xs.length:=⋯
   have h:(us.length == c.length)=true:=by simp;omega
   rw[g,h,Bool.and_true]
  rw[e0] at z;exact z
 .simp only[size_toArray] at d f;∎;let⟨u,g,p⟩:=r1.get (i:=j) (x:=xs[j]'⋯) (by simp);let⟨v,h,q⟩:=r2.get (i:=j) (x:=ys[j]'⋯) (by simp);let⟨_,l⟩:=List.getElem?_eq_some_iff.mp g;let⟨_,m⟩:=List.getElem?_eq_some_iff.mp h;∎;have n:us.toArray[j]'(by simpa using d)=u:=by simpa using l
  have o:c.toArray[j]'(by simpa using f)=v:=by simpa using m
  rw[n,o];exact he j _ _ u v (by simp) (by simp) p q
theorem G5(I:au X aa σ H s)(c:bY X.K H a xs)(d:bY X.K H b ys)(hu:Au.units<cLine)(C:xs.length=ys.length)(e:Nat->Bool)(he:∀(j:Nat) x y u v,xs[j]?=some x->ys[j]?=some y->aC x u->aC y v->SeqAt.EqAt Au.in1 s u v (e j)):SeqAt.RcAt Au s (.ref a) (.ref b) ((List.range xs.length).all e):=by
 ∎;let⟨us,r1,r,_⟩:=I.list c;let⟨B,r2,w,_⟩:=I.list d;∎;have o:=r1.length;have D:=r2.length;have z:=SeqAt.RcAt.lists (A:=Au) (e:=e) r.isList w.isList (by simp;omega) hu (λj c d=>?_)
 .have e0:(List.range us.toArray.size).all e=(List.range xs.length).all e:=by
   simp only[size_toArray];rw[<- o]
  rw[e0] at z;exact z
 .simp only[size_toArray] at c d;∎;let⟨u,f,p⟩:=r1.get (i:=j) (x:=xs[j]'⋯) (by simp);let⟨v,g,q⟩:=r2.get (i:=j) (x:=ys[j]'⋯) (by simp);let⟨_,h⟩:=List.getElem?_eq_some_iff.mp f;let⟨_,l⟩:=List.getElem?_eq_some_iff.mp g;∎;have m:us.toArray[j]'(by simpa using c)=u:=by simpa using h
  have n:B.toArray[j]'(by simpa using d)=v:=by simpa using l
  rw[m,n];exact he j _ _ u v (by simp) (by simp) p q
end
theorem UX(r1:aC (.int i) u)(r2:aC (.int j) v):SeqAt.EqAt Au s u v (decide (i=j)):=by
 have z:=mw (A:=Au) (s:=s) r1 r2 rfl rfl;have e:gB (.int i) (.int j)=decide (i=j):=by show (i == j)=_;rw[Bool.beq_eq_decide_eq]
 rw[e] at z;exact z
theorem HW:∀{n:Nat}{x y:V},hZ K H n x y->hZ K H (n+1) x y
 |0,_,_,h=>.inl h
 |n + 1,_,_,.inl h=>.inl h
 |n + 1,_,_,.inr ⟨p,q,b,a,h1,h2,h3,h4⟩=>.inr ⟨p,q,b,a,h1,h2,h3,by
  have gen:∀{b a:ax},eG (hZ K H n) b a->eG (hZ K H (n+1)) b a:=by
   intro b
   induction b with
   |nil=>intro a h;cases a with
    |nil=>exact True.intro
    |cons _ _=>exact h.elim
   |cons x b c=>intro a h;cases a with
    |nil=>exact h.elim
    |cons y a=>exact⟨HW h.1,c h.2⟩
  exact gen h4⟩
theorem Vx(h:hZ K H n x y)(k:n<=m):hZ K H m x y:=by
 induction k with
 |refl=>exact h
 |step _ a=>exact HW a
end Vc
namespace L2
open PySem PySem.Spec PyProof.Rows
def ik(env:Env)(cs:List (Str×ae))(y:Str×NameKind):List (Str×ae):=if (y.2 == .free)=true then (match env.cells.lookup y.1 with |some a=>(y.1,a)::cs |none=>cs) else cs
def jg(a:Scope)(env:Env):List (Str×ae):=a.names.foldl (ik env) []
def jJ(a:Scope)(env:Env):Bool:=a.names.all λy=>!(y.2 == .free) || (env.cells.lookup y.1).isSome
theorem OM(h:jJ scope env=true):closureFor scope env=pure (jg scope env):=by
 unfold closureFor jg;unfold jJ at h;have gen:∀(l:List (Str×NameKind))(b:List (Str×ae)),(l.all λy=>!(y.2 == .free) || (env.cells.lookup y.1).isSome)=true->
   (forIn l b λx r=>match x with |(name,kind)=>if (kind == NameKind.free)=true then (do let a <- cellOf env name;pure (ForInStep.yield ((name,a)::r))) else pure (ForInStep.yield r):Sem (List (Str×ae)))=pure (l.foldl (ik env) b):=by
  intro l
  induction l with
  |nil=>intro b _;rfl
  |cons y r f=>
   intro b ha;rw[all_cons,and_eq_true] at ha;let⟨n,k⟩:=y;rw[List.forIn_cons,foldl_cons];by_cases c:(k == NameKind.free)=true
   .have h1:=ha.1;simp only[c,Bool.not_true,Bool.false_or] at h1;let⟨a,e⟩:=isSome_iff_exists.mp h1;have d:ik env b (n,k)=(n,a)::b:=by unfold ik;simp[c,e]
    have g:cellOf env n=pure a:=by unfold cellOf;rw[e]
    rw[d,<- f _ ha.2];simp only[c,if_true,g,pure_bind]
   .have d:ik env b (n,k)=b:=by unfold ik;simp[c]
    rw[d,<- f _ ha.2];simp only[c,if_false,pure_bind,false_eq_true]
 have:=gen scope.names [] h;simp only[this,pure_bind]
theorem mf(h:(jg scope env).lookup x=some c):env.cells.lookup x=some c:=by
 unfold jg at h;have gen:∀(l:List (Str×NameKind))(b:List (Str×ae)),(b.lookup x=some c->env.cells.lookup x=some c)->(l.foldl (ik env) b).lookup x=some c->env.cells.lookup x=some c:=by
  intro l
  induction l with
  |nil=>intro b f g;exact f g
  |cons y r i=>
   intro b f g;rw[foldl_cons] at g;refine i _ (λz=>?_) g;unfold ik at z;split at z
   .split at z
    .rename_i a e;rw[lookup_cons] at z;by_cases d:(x == y.1)=true
     .rw[d] at z;have:=eq_of_beq d;subst this;simp at z;rw[<- z];exact e
     .simp only[d] at z;exact f z
    .exact f z
   .exact f z
 exact gen scope.names [] (λz=>by cases z) h
theorem FX(ha:jJ scope env=true)(h:scope.names.lookup x=some .free):∃c,(jg scope env).lookup x=some c:=by
 unfold jg;unfold jJ at ha;have keep:∀(l:List (Str×NameKind))(b:List (Str×ae)),(∃c,b.lookup x=some c)->∃c,(l.foldl (ik env) b).lookup x=some c:=by
  intro l
  induction l with
  |nil=>intro b f;exact f
  |cons y r g=>
   intro b f;rw[foldl_cons];refine g _ ?_;unfold ik;split
   .split
    .rw[lookup_cons];by_cases d:(x == y.1)=true
     .rw[d];exact⟨_,rfl⟩
     .simp only[d];exact f
    .exact f
   .exact f
 have gen:∀(l:List (Str×NameKind))(b:List (Str×ae)),(l.all λy=>!(y.2 == .free) || (env.cells.lookup y.1).isSome)=true->l.lookup x=some .free->∃c,(l.foldl (ik env) b).lookup x=some c:=by
  intro l
  induction l with
  |nil=>intro b _ f;cases f
  |cons y r g=>
   intro b ha f;rw[all_cons,and_eq_true] at ha;let⟨n,k⟩:=y;rw[foldl_cons];rw[lookup_cons] at f;by_cases d:(x == n)=true
   .rw[d] at f;have:=eq_of_beq d;subst this;simp at f;subst f;refine keep r _ ?_;have i:(env.cells.lookup x).isSome=true:=ha.1;let⟨a,e⟩:=isSome_iff_exists.mp i;refine⟨a,?_⟩;unfold ik;rw[if_pos (show ((NameKind.free) == NameKind.free)=true from rfl)];dsimp only;rw[e];dsimp only;rw[lookup_cons,d]
   .simp only[d] at f;exact g _ ha.2 f
 exact gen scope.names [] ha h
theorem Rh(b:∀y∈a.names,y.2≠.cell)(h:(relabel a env).names.lookup x=some .cell\/(relabel a env).names.lookup x=some .free):a.names.lookup x=some .free:=by
 unfold relabel at h;dsimp only at h;have gen:∀l:List (Str×NameKind),(∀y∈l,y.2≠.cell)->((l.map λ(n,k)=>if (k == NameKind.free&&env.scope.kind == .function&&env.kindOf n == some .cell) then (n,NameKind.cell) else (n,k)).lookup x=some .cell\/(l.map λ(n,k)=>if (k == NameKind.free&&env.scope.kind == .function&&env.kindOf n == some .cell) then (n,NameKind.cell) else (n,k)).lookup x=some .free)->l.lookup x=some .free:=by
  intro l
  induction l with
  |nil=>intro _ f;rcases f with f |f<;>cases f
  |cons y r j=>
   intro e f;let⟨n,k⟩:=y;have g:k≠.cell:=e (n,k) (mem_cons_self ..);rw[map_cons] at f;rw[lookup_cons];by_cases c:(x == n)=true
   .rw[c];dsimp only at f ⊢;by_cases d:(k == NameKind.free&&env.scope.kind == .function&&env.kindOf n == some .cell)=true
    .have:k=.free:=by
      simp only[and_eq_true] at d;exact eq_of_beq d.1.1
     rw[this]
    .rw[if_neg d,lookup_cons,c] at f;simp only[Option.some.injEq] at f;rcases f with f |f
     .exact absurd f g
     .rw[f]
   .simp only[c];refine j (λy i=>e y (mem_cons_of_mem _ i)) ?_;dsimp only at f;split at f<;>(rw[lookup_cons] at f;simp only[c] at f;exact f)
 exact gen a.names b h
inductive Wk:St->St->Prop
 |nil:Wk [] []
 |aZ {a b:St} {x:Option V}:Wk a b -> Wk (none::a) (x::b)
 |vS {a b:St} {v:V}:Wk a b -> Wk (some v::a) (some v::b)
theorem Wk.length(h:Wk a b):b.length=a.length:=by
 induction h with
 |nil=>rfl
 |aZ _ c=>simp[c]
 |vS _ c=>simp[c]
theorem Wk.get(h:Wk a b):∀{i:Nat}{v:V},a[i]?=some (some v)->b[i]?=some (some v):=by
 induction h with
 |nil=>intro i v e;simp at e
 |aZ _ c=>
  intro i v e;cases i with
  |zero=>simp at e
  |succ i=>simpa using c (i:=i) (v:=v) (by simpa using e)
 |vS _ c=>
  intro i v e;cases i with
  |zero=>simpa using e
  |succ i=>simpa using c (i:=i) (v:=v) (by simpa using e)
theorem zg:∀a:St,Wk a a
 |[]=>.nil
 |none::a=>.aZ (zg a)
 |some _::a=>.vS (zg a)
def eX(ix:bI)(j:St):St:=ix.map λo=>match o with |none=>none |some i=>(j[i]?).getD none
def bU(X:Cx)(sc:Scope):ag->bI->Prop
 |[],[]=>True
 |_::N,none::ix=>bU X sc N ix
 |x::N,some i::ix=>X.N[i]? = some x /\ X.env.kindOf x=some .cell /\ sc.names.lookup x=some .free /\ bU X sc N ix
 |_,_=>False
theorem bU.length:∀{N:ag}{ix:bI},bU X sc N ix->ix.length=N.length
 |[],[],_=>rfl
 |_::N,none::ix,h=>by rw[length_cons,length_cons,bU.length (X:=X) (sc:=sc) (N:=N) (ix:=ix) h]
 |_::N,some i::ix,h=>by rw[length_cons,length_cons,bU.length (X:=X) (sc:=sc) (N:=N) (ix:=ix) h.2.2.2]
 |[],_::_,h=>h.elim
 |_::_,[],h=>h.elim
theorem bU.get:∀{N:ag}{ix:bI}{j:Nat}{x:Str}{v:V},bU X sc N ix->N[j]?=some x->(eX ix u)[j]?=some (some v)->∃i:Nat,X.N[i]?=some x/\X.env.kindOf x=some .cell/\sc.names.lookup x=some .free/\u[i]?=some (some v)
 |_::N,none::ix,0,x,v,h,e1,e2=>by simp[eX] at e2
 |_::N,none::ix,j + 1,x,v,h,e1,e2=>bU.get (N:=N) (ix:=ix) (j:=j) h (by simpa using e1) (by simpa [eX] using e2)
 |y::N,some i::ix,0,x,v,h,e1,e2=>by
  simp at e1;subst e1;refine⟨i,h.1,h.2.1,h.2.2.1,?_⟩;simp[eX] at e2;cases q:u[i]? with
  |none=>rw[q] at e2;simp at e2
  |some o=>rw[q] at e2;simp at e2;rw[e2]
 |y::N,some i::ix,j + 1,x,v,h,e1,e2=>bU.get (N:=N) (ix:=ix) (j:=j) h.2.2.2 (by simpa using e1) (by simpa [eX] using e2)
 |[],[],_,_,_,_,e1,_=>by simp at e1
 |[],_::_,_,_,_,h,_,_=>h.elim
 |_::_,[],_,_,_,h,_,_=>h.elim
theorem Pt(h:scope.names.lookup x=some .free):(relabel scope env).names.lookup x=some .cell\/(relabel scope env).names.lookup x=some .free:=by
 unfold relabel;dsimp only;have gen:∀l:List (Str×NameKind),l.lookup x=some .free->((l.map λ(n,k)=>if (k == NameKind.free&&env.scope.kind == .function&&env.kindOf n == some .cell) then (n,NameKind.cell) else (n,k)).lookup x=some .cell\/(l.map λ(n,k)=>if (k == NameKind.free&&env.scope.kind == .function&&env.kindOf n == some .cell) then (n,NameKind.cell) else (n,k)).lookup x=some .free):=by
  intro l
  induction l with
  |nil=>intro f;cases f
  |cons y r b=>
   intro f;let⟨n,k⟩:=y;rw[lookup_cons] at f;rw[map_cons];by_cases a:(x == n)=true
   .rw[a] at f;simp at f;subst f;dsimp only;split
    .left;rw[lookup_cons,a]
    .right;rw[lookup_cons,a]
   .simp only[a] at f;dsimp only;split<;>(rw[lookup_cons];simp only[a];exact b f)
 exact gen scope.names h
def dQ(X:Cx)(a:Scope)(N:ag)(C:ae)(s:ai)(H:Hp)(fp:b7)(pl:aT):Cx where
 prog:=X.prog
 w:=X.w
 K:=X.K
 mg:=X.mg
 base:=X.base
 A:=X.A
 N:=N
 s₀:=s
 H₀:=H
 env:=compEnvC a (jg a X.env) C X.env
 outer:=X.stack
 stack:=X.stack
 ex:=fp
 fn:=λ_=>false
 calm:=X.calm
 pn:=X.pn++pl
 xe:=λ_ _=>False
def sx(Y:Cx)(a:bT)(t:TT):Prop:=
 ∀(aa:aT)(s:ai)(j:St)(H:Hp)(Q:Bool->Hp->Prop),au Y aa j H s->t j H Q->
  wpAny (model Y.prog Y.w) Y.A (forIn a true λc r=>if r=true then do let ok <- isTrue c Y.env (eval c Y.env);pure (ForInStep.yield ok) else pure (ForInStep.yield r)) (TP Y aa j Q) Y.xe s
def D9:TT:=λ_ H Q=>Q true H
theorem Yc:sx Y [] D9:=λ_ _ _ H _ I h=>wpAny_tests_nil ⟨H,I,h⟩
theorem Pw{R:Result->ai->Prop}(I:Nat->ai->Prop)(y:∀n s,I n s->wpAny (model prog w) A (pyNext it) (λr b=>match r with
   |none=>R (.ok .next) b
   |some v=>wpAny (model prog w) A (letOwnedTupleGo target it v) (λ_ s₀=>wpAny (model prog w) A (assign target env v) (λ_ i=>
     wpAny (model prog w) A (forIn ifs true λc r=>if r=true then do let ok <- isTrue c env (eval c env);pure (ForInStep.yield ok) else pure (ForInStep.yield r)) (λok d=>
      if ok=true then wpAny (model prog w) A (eval elt env) (λx j=>
       wpAny (model prog w) A (call (.builtin "list.append") [acc,x]) (λ_ l=>∃m,m<n/\I m l) (notedBy (model prog w) A env λe s'=>R (.error e) s') j) (notedBy (model prog w) A env λe s'=>R (.error e) s') d
      else ∃m,m<n/\I m d) (notedBy (model prog w) A env λe s'=>R (.error e) s') i) (notedBy (model prog w) A env λe s'=>R (.error e) s') s₀) (notedBy (model prog w) A env λe s'=>R (.error e) s') b) (notedBy (model prog w) A env λe s'=>R (.error e) s') s)(n:Nat)(h:I n s):codeAny (model prog w) A (.compLoop (.ListComp elt [⟨target,iter,ifs,0⟩] scope pos) 0 it acc env) R s:=by
 refine codeAny_loop rfl I (λn s z=>?_) n h;show wpAny _ A ((compTurn (.ListComp elt [⟨target,iter,ifs,0⟩] scope pos) 0 it acc env).onRaise (λx=>do noteFrame x env;theTreesLotGoes x)) _ _ s;refine wpAny_noted ?_;rw[compTurn_list];refine wpAny_bind (wpAny_standAt (wpAny_bind (wpAny_mono (y n s z) (λr b f=>?_) λ_ _ a=>a)));cases r with
 |none=>exact wpAny_pure f
 |some v=>
  refine wpAny_bind (wpAny_mono f (λ_ s₀ o=>?_) λ_ _ a=>a);refine wpAny_bind (wpAny_mono o (λ_ i p=>wpAny_bind (wpAny_mono p (λok d g=>?_) λ_ _ a=>a)) λ_ _ a=>a);cases ok with
  |false=>exact wpAny_pure ⟨rfl,g⟩
  |true=>
   exact wpAny_bind (wpAny_bind (wpAny_mono g (λx j q=>wpAny_bind (wpAny_mono q (λ_ l u=>wpAny_pure (wpAny_pure ⟨rfl,u⟩)) λ_ _ a=>a)) λ_ _ a=>a))
section
variable{X:Cx}{aa:aT}{σ:St}{H:Hp}{s:ai}{scope:Scope}{N:ag}{fp:b7}{C:ae}
theorem Yd(I:au X aa σ H s)(l:⇑s<=C)(i:∀b∈fp,gO X aa H b)(j:∀b∈fp,∃o,s.heap.get? b=some o)(f:scope.kind=.function)(d:∀y∈scope.names,y.2≠.cell)(g:jJ scope X.env=true):
  (dQ X scope N C s H fp aa).Ok where
 mod:=I.ok.mod
 kind:=f
 glob:=I.ok.glob
 blt:=I.ok.blt
 above:=l
 inj:=λx y c m n=>I.ok.inj x y c (mf m) (mf n)
 has:=λx h=>FX g (Rh d h)
 oz:=λx c h=>by cases h
 hd:=I.ok.hd
 frames:=I.ok.frames
 se:=.inl rfl
 rm:=λb a=>⟨λz=>by let⟨o,e⟩:=j b a;have:=Heap.lt_size e;subst z;exact absurd (lt_of_lt_of_le this l) (lt_irrefl _),λx c e=>(i b a).2.2.2.2.1 x c (mf e)⟩
 bs:=I.bs
 iz:=le_trans I.ok.iz I.sz
 hX:=λb o e a=>by
  rcases (i b a).2.2.2.1 with z |z
  .exact I.ok.hX b o e z
  .exact absurd (lt_of_lt_of_le (Heap.lt_size e) (le_trans I.ok.iz z)) (lt_irrefl _)
 hV:=λb a hm=>by
  rcases mem_cons.mp (I.eN b hm) with z |z
  .exact (i b a).2.1 z
  .exact (i b a).2.2.1 z
 dR:=I.stack
 lh:=I.fA
theorem Vy(I:au X aa σ H s)(ok:(dQ X scope N C s H fp aa).Ok)(w:⇑s<=C)(k:∀b o,s.heap.get? b=some o->h'.get? b=some o)(hn:h'.Ns C m)(g:bU X scope N ix)(a:jJ scope X.env=true):
  au (dQ X scope N C s H fp aa) [] (eX ix σ) H { s with heap:=h',toks:=t' } where
 ok:=ok
 os:=rfl
 bare:=I.bare
 base:=Un.kept k
 loc:=⟨m,hn,λi x v A B Q=>by
  ∎;let⟨L,D,y,f,l⟩:=g.get A B;let⟨U,_,G⟩:=I.loc;let⟨u,r,look⟩:=G L x v D l (.inr (.inl y));∎;rcases look with⟨z,_⟩ |⟨_,c,E,o,h,hd⟩
  .rw[y] at z;cases z
  .obtain⟨c',hc'⟩:=FX a f;have e:=mf hc';rw[E] at e;cases e;exact⟨u,r,.inr ⟨Pt f,c,hc',o,k _ _ h,hd⟩⟩⟩
 cell:=λx c e=>by
  let⟨v,o,h,hd⟩:=I.cell x c (mf e);exact⟨v,o,k _ _ h,hd⟩
 free:=I.aS.fresh w
 cf:=λx c e=>I.cf x c (mf e)
 pin:=λp J=>by
  have j:p∈X.pn++aa:=by simpa [dQ] using J
  let⟨e,n,ne,M,d⟩:=I.pin p j;refine⟨k _ _ e,n,λz=>?_,λz=>?_,d⟩
  .have:=Heap.lt_size e;have O:p.1=C:=z;rw[O] at this;exact absurd (lt_of_lt_of_le this w) (lt_irrefl _)
  .rcases mem_cons.mp (I.eN p.1 z) with q |q
   .exact ne q
   .exact M q
 aS:=I.aS.kept k
 len:=by
  have:=g.length;simp[eX,dQ,this]
theorem To{h:Hp}(I:au X aa σ H s)(J:au (dQ X scope N C s H fp aa) pl σ' h s')(j:D=⇑s)(f:∀b∈fp,gO X aa H b)(m:s'.heap.PlainList D bo.toArray)(hv:aL acc bo)(hz:acc.length<=sizeLine)(hn:h D=none):au X aa σ (aW h D (.av acc)) s':=by
 have i:∀b o,s.heap.get? b=some o->b≠D:=λb o e z=>by rw[z,j] at e;exact absurd (Heap.lt_size e) (lt_irrefl _)
 have a:H D=none:=I.aS.fresh (by rw[j];exact le_refl _);refine I.gU (ch:=fp) J.os ⟨J.base.keep,J.base.slot,λb o e n p=>?_,J.base.there,λb l e=>?_,λb o u e=>?_,λb r e=>?_⟩ (λb u e=>?_) J.bare λb d=>⟨(f b d).2.2.2.1,(f b d).2.1,(f b d).2.2.2.2.1,(f b d).2.2.2.2.2⟩
 .rw[bR (i b o e)];exact J.base.free b o e n p
 .rw[bR (g7 e a)];exact J.base.eP b l e
 .rw[bR (g7 e a)];exact J.base.bV b o u e
 .obtain⟨mo,e2⟩:=J.base.eO b r e;exact⟨mo,by rw[bR (g7 e a)];exact e2⟩
 .by_cases d:b=D
  .subst d;rw[fb] at e;cases e;let⟨n,g⟩:=m;exact⟨hz,bo,n,hv,g⟩
  .rw[bR d] at e;exact (J.aS b u e).eh (λ_ _ _ q=>q) (λc q=>by rw[bR (g7 q hn)];exact q) λc l q=>by rw[bR (g7 q hn)];exact q
end
def C6(s:TI)(g:TG)(r:TT)(q:TE)(ix:bI):TE:=λj H Q=>s j H λJ l=>∃W:Nat->Nat->ax->Hp->Prop,(∃m,W 0 m [] l)/\∀i m a H,W i m a H->
 (J.stop i H/\a.length<=sizeLine/\∀p,H p=none->Q (.ref p) (aW H p (.av a)))\/
 (J.go i H/\∃N:ax->Hp->Prop,(∀c d,N c d->∃h,h<m/\W (i+1) h c d)/\∀x d,J.ki i H x d->g x (eX ix j) d λe n=>Wk (eX ix j) e/\r e n λb f=>if b=true then q e f λv o=>a.length<sizeLine/\N (a++[v]) o else N a f)
section
variable{X:Cx}{elt target iter:Expr}{ifs:bT}{scope:Scope}{pos:Pos}{N:ag}{ix:bI}{wi:TI}{g:TG}{ti:TT}{te:TE}
theorem Vz{Q:VK}{RR:af->ae->Result->ai->Prop}{tn:Nat->aP->Prop}(hc:X.calm=true)(hg:∀C s H fp pl,PG (dQ X scope N C s H fp pl) target g)(ht:∀C s H fp pl,sx (dQ X scope N C s H fp pl) ifs ti)(he:∀C s H fp pl,PE (dQ X scope N C s H fp pl) elt te)(ε:scope.kind=.function)(δ:∀y∈scope.names,y.2≠.cell)(π:jJ scope X.env=true)(hpk:bU X scope N ix)(I2:au X aa j O a)(T:kF X.prog X.w X.K target J fp it tn)(st2:tn 0 a.heap)(f2:∀b∈fp,gO X aa O b)(h:∃W:Nat->Nat->ax->Hp->Prop,(∃m,W 0 m [] O)/\∀i m f H,W i m f H->
   (J.stop i H/\f.length<=sizeLine/\∀p,H p=none->Q (.ref p) (aW H p (.av f)))\/
   (J.go i H/\∃N:ax->Hp->Prop,(∀ξ M,N ξ M->∃m',m'<m/\W (i+1) m' ξ M)/\∀x M,J.ki i H x M->g x (eX ix j) M λj2 O=>Wk (eX ix j) j2/\ti j2 O λb H3=>if b=true then te j2 H3 λv H4=>f.length<sizeLine/\N (f++[v]) H4 else N f H3))(hR:∀(D C:ae)(s':ai)(M:Hp)(m:bD),au X aa j M s'->s'.heap.Ns C m->M C=none->⇑a<=C->Q (.ref D) M->RR (.ref D) C (.ok .next) s'):
  wpAny (model X.prog X.w) X.A (newList []) (λf U=>wpAny (model X.prog X.w) X.A (newFunctionEnv scope X.env.globals (jg scope X.env) [] X.env.qual none .none (some X.env)) (λο s₄=>
   codeAny (model X.prog X.w) X.A (.compStart (.ListComp elt [⟨target,iter,ifs,0⟩] scope pos) 0 (.ref it) f { ο with scope:=relabel scope X.env }) (RR f ο.locals) s₄) E U) E a:=by
 let⟨W,⟨m0,w0⟩,turn⟩:=h;refine wpAny_newObj_type (wpAny_newFunctionEnv δ (by intro y hy;simp at hy) (λβ L G=>?_) ε);dsimp only at L G ⊢;generalize τ:a.heap.push { cls:=.type "list",dict:=none,data:=.seq ([]:aN).toArray }=P2 at L G ⊢;have hC:P2.objs.size=⇑a+1:=by rw[<- τ,Heap.size_push]
 have κ:⇑a≠P2.objs.size:=by rw[hC];exact ne_of_lt (lt_succ_self _)
 have γ:⇑a<=P2.objs.size:=by rw[hC];exact le_succ _
 have Y:∀b,b<⇑a->b≠P2.objs.size/\b≠⇑a:=λb l=>⟨by rw[hC];exact ne_of_lt (Nat.lt_succ_of_lt l),ne_of_lt l⟩
 have old:∀b o,a.heap.get? b=some o->β.get? b=some o:=λb o e=>G.extBut b o (Y b (Heap.lt_size e)).1 (Heap.get?_push_of_some _ (τ ▸ Heap.get?_push_of_some _ e))
 have hacc:β.PlainList ⇑a #[]:=⟨_,G.extBut _ _ κ (Heap.get?_push_of_some _ (τ ▸ Heap.get?_push_size _ rfl))⟩
 have hfo:∀b∈fp,∃o,a.heap.get? b=some o:=λb l=>let ⟨o,e,_⟩:=T.obj 0 _ st2 b l;⟨o,e⟩
 have υ:⇑a ∉ fp:=λhm=>by let⟨o,e⟩:=hfo _ hm;exact absurd (Heap.lt_size e) (lt_irrefl _)
 have ok:=Yd (N:=N) (C:=P2.objs.size) I2 γ f2 hfo ε δ π;have st1:tn 0 β:=T.keep 0 _ _ st2 λb _ o e=>old b o e
 have J0:=Vy (t':=a.toks+([]:List (Str×af)).length) (ix:=ix) I2 ok γ old L hpk π;have pnD:∀p∈X.pn++aa,p.1≠⇑a:=λp hp=>(Y _ (Heap.lt_size (I2.pin p hp).1)).2
 have σ:∀x c,(jg scope X.env).lookup x=some c->c≠⇑a:=λx c e=>by
  let⟨v,o,ho,_⟩:=I2.cell x c (mf e);exact (Y _ (Heap.lt_size ho)).2
 have θ:∀{pl:aT}{M:Hp},(∀b∈fp,M b=none)->(∀p∈pl,p.1=⇑a)->∀b∈fp,gO (dQ X scope N P2.objs.size a O fp aa) pl M b:=λ{pl M} hn hp b l=>by
  refine⟨hn b l,(ok.rm b l).1,ok.hV b l,.inl l,(ok.rm b l).2,λp hm=>?_⟩;rcases mem_append.mp hm with z |z
  .exact (f2 b l).2.2.2.2.2 p z
  .rw[hp p z];intro q;rw[q] at υ;exact υ l
 have ρ:∀U:Shared,U={ a with heap:=β,toks:=a.toks+([]:List (Str×af)).length }->
   codeAny (model X.prog X.w) X.A (.compLoop (.ListComp elt [⟨target,iter,ifs,0⟩] scope pos) 0 (.ref it) (.ref ⇑a) (compEnvC scope (jg scope X.env) P2.objs.size X.env)) (RR (.ref ⇑a) P2.objs.size) U:=by
  rintro U rfl;refine Pw (λn s'=>∃i f I j' M,au (dQ X scope N P2.objs.size a O fp aa) [] j' M s'/\Wk (eX ix j) j'/\tn i s'.heap/\(∀b∈fp,M b=none)/\s'.heap.PlainList ⇑a (List.toArray I)/\aL f I/\M ⇑a=none/\W i n f M) ?_ m0
   ⟨0,[],[],_,O,J0,zg _,st1,λb l=>(f2 b l).1,hacc,.nil,I2.aS.fresh (le_refl _),w0⟩
  rintro n s3 ⟨i,f,I,j3,H3,I3,wk3,st3,ω,pl3,ν,χ,w3⟩;let⟨kk,g3⟩:=id pl3;have ψ:au (dQ X scope N P2.objs.size a O fp aa) [(⇑a,⟨.type "list",none,.seq (List.toArray I) kk,#[]⟩)] j3 H3 s3:=I3.eD λp hp=>by
   have e:=mem_singleton.mp hp;subst e;refine⟨g3,χ,κ,λz=>?_,λv q=>by cases q⟩;let⟨_,o,ho,_⟩:=(I2.stack).mem z;exact absurd (Heap.lt_size ho) (lt_irrefl _)
  have α:∀p∈[((⇑a,⟨.type "list",none,.seq (List.toArray I) kk,#[]⟩):ae×Obj)],p.1=⇑a:=λp hp=>by
   rw[mem_singleton.mp hp]
  rcases turn i n f H3 w3 with⟨stop,hlen,fin⟩ |⟨go,NN,hNN,step⟩
  .refine wpAny_mono (T.done (dQ X scope N P2.objs.size a O fp aa) rfl rfl rfl hc i _ s3 j3 H3 _ ψ (θ ω α) st3 stop) (λr s4 h4=>?_) λ_ _ z=>z
   let⟨hr,I4⟩:=h4;subst hr;have g4:=(I4.pin (⇑a,_) (mem_append_right _ (mem_singleton.mpr rfl))).1;let⟨mm,hnm,_⟩:=I4.loc;have B:=To I2 I4 rfl f2 ⟨kk,g4⟩ ν hlen χ;refine hR _ _ s4 _ mm B hnm ?_ γ (fin _ χ);rw[bR (Ne.symm κ)];exact I4.free
  .refine wpAny_mono (T.item (dQ X scope N P2.objs.size a O fp aa) rfl rfl rfl hc i _ s3 j3 H3 _ ψ (θ ω α) st3 go) (λr s4 h4=>?_) λ_ _ z=>z
   let⟨u,hr,h4⟩:=h4;subst hr;refine wpAny_mono h4 (λ_ s5 h5=>?_) λ_ _ z=>z
   let⟨x,H5,I5,r5,y5,μ,fr5⟩:=h5;have I5w:=I5.weak wk3.length.symm (λi v e=>wk3.get e);have I5':=I5w.pinned (fp:=fp) (θ fr5 α) (T.obj _ _ μ);refine wpAny_mono (hg P2.objs.size a O fp aa _ s5 _ H5 x u _ I5' r5 (step x H5 y5)) (λ_ s6 h6=>?_) λ_ _ z=>z.elim
   let⟨j6,H6,I6,wk6,q6⟩:=h6;refine wpAny_mono (ht P2.objs.size a O fp aa _ s6 j6 H6 _ I6 q6) (λok s7 h7=>?_) λ_ _ z=>z.elim
   let⟨H7,I7,q7⟩:=h7;have η:∀{j8:St}{H8:Hp}{s8:ai},au (dQ X scope N P2.objs.size a O fp aa) ([((⇑a,⟨.type "list",none,.seq (List.toArray I) kk,#[]⟩):ae×Obj)]++qy fp s5.heap) j8 H8 s8->
     (∀b∈fp,∀o,s5.heap.get? b=some o->s8.heap.get? b=some o)/\(∀b∈fp,H8 b=none):=λ{j8 H8 s8} I8=>by
    refine⟨λb l o e=>(I8.pin (b,o) (mem_append_right _ (mem_append_right _ (tZ l e)))).1,λb l=>?_⟩;let⟨o,e,d⟩:=T.obj _ _ μ b l;exact (I8.pin (b,o) (mem_append_right _ (mem_append_right _ (tZ l e)))).2.1
   have ι:∀{j8:St}{H8:Hp}{s8:ai}{pl:aT},au (dQ X scope N P2.objs.size a O fp aa) pl j8 H8 s8->au (dQ X scope N P2.objs.size a O fp aa) [] j8 H8 s8:=λI8=>I8.eD λp hp=>by cases hp
   cases ok with
   |false=>
    simp only[false_eq_true,if_false] at q7 ⊢;let⟨m',hm,w7⟩:=hNN _ _ q7;have p7:=I7.pin (⇑a,_) (mem_append_right _ (mem_append_left _ (mem_singleton.mpr rfl)));let⟨k1,k2⟩:=η I7;exact⟨m',hm,i+1,f,I,j6,H7,ι I7,wk6,T.keep _ _ _ μ k1,k2,⟨kk,p7.1⟩,ν,p7.2.1,w7⟩
   |true=>
    simp only[if_true] at q7 ⊢;refine wpAny_mono (he P2.objs.size a O fp aa _ s7 j6 H7 _ I7 q7) (λy s8 h8=>?_) λ_ _ z=>z.elim
    ∎;let⟨v,H8,I8,r8,hlt,q8⟩:=h8;let⟨m',hm,w8⟩:=hNN _ _ q8;∎;have p8:=I8.pin (⇑a,_) (mem_append_right _ (mem_append_left _ (mem_singleton.mpr rfl)));let⟨k1,k2⟩:=η I8;have hl:=ν.length;refine wpAny_list_append_plain (items:=List.toArray I) (hsz:=by rw[size_toArray,<- hl];exact le_of_lt hlt) ⟨kk,p8.1⟩ λh₅ φ ζ=>?_
    have I9:au (dQ X scope N P2.objs.size a O fp aa) [] j6 H8 { s8 with heap:=h₅ }:=(ι I8).turned (t':=s8.toks) (it:=⇑a) (λb o l e=>ζ.extBut b o l e) p8.2.1 κ (.inr (le_refl _)) σ (λp hp=>by
     have hp':p∈X.pn++aa:=by simpa [dQ] using hp
     exact pnD p hp')
    refine⟨m',hm,i+1,f++[v],I++[y],j6,H8,I9,wk6,T.keep _ _ _ μ λb l o e=>ζ.extBut b o (λz=>υ (z ▸ l)) (k1 b l o e),k2,?_,ν.append (.cons r8 .nil),p8.2.1,w8⟩;have e:(I++[y]).toArray=I.toArray.push y:=by simp
    rw[e];exact φ
 exact codeAny_compStart_list (ρ _ rfl) (T.self X.A 0 _ _ _ st1 (ρ _ rfl))
theorem Ye(hc:X.calm=true)(hi:PI X target iter wi)(hg:∀C s H fp pl,PG (dQ X scope N C s H fp pl) target g)(ht:∀C s H fp pl,sx (dQ X scope N C s H fp pl) ifs ti)(he:∀C s H fp pl,PE (dQ X scope N C s H fp pl) elt te)(z:bU X scope N ix)(a:do scope.kind=.function)(l: ~~~(∀y∈scope.names,y.2≠.cell))(f: ~~~(∀x∈scope.names,x.2=.local->scope.names.lookup x.1=some .local))(i:do jJ scope X.env=true)(hs:∀x,foldedSetIterable iter X.env x=pure x:=by intro _;rfl):PE X (.ListComp elt [⟨target,iter,ifs,0⟩] scope pos) (C6 wi g ti te ix):=by
 intro aa s j H Q I h;rw[eval_ListComp];refine wpAny_comprehension_free (use:=none) rfl hs (OM i) a f ?_;refine bq (hi aa s j H _ I h) λv s1 O=>bq O λα s2 U=>?_
 let⟨it,fp,tn,J,H2,e,n,T,G,M,h⟩:=U;subst e;refine Vz (RR:=λr C=>compPost (model X.prog X.w) X.A X.xe none (EP X aa j Q) r C) hc hg ht he a l i z n T G M h ?_;intro D C s' L m B hn u d q;refine⟨m,hn,λh' E=>⟨.ref D,L,B.turned (t':=s'.toks) (it:=C) (λb o Y e=>E.extBut b o Y e) u (ne_of_gt (lt_of_lt_of_le n.lt d)) (.inr (le_trans n.sz d)) (λx c e=>?_) (λp hp=>?_),rfl,q⟩⟩
 .obtain⟨v,o,ho,_⟩:=n.cell x c e;exact ne_of_lt (lt_of_lt_of_le (Heap.lt_size ho) d)
 .exact ne_of_lt (lt_of_lt_of_le (Heap.lt_size (n.pin p hp).1) d)
end
section
variable{g:TG}{ti:TT}{te:TE}{ix:bI}{σ:St}{Q:VK}
def Nr(J:It)(g:TG)(ti:TT)(te:TE)(ix:bI)(σ:St)(Q:VK)(j:Hp):Prop:=∃W:Nat->Nat->ax->Hp->Prop,(∃m,W 0 m [] j)/\∀i m a H,W i m a H->
 (J.stop i H/\a.length<=sizeLine/\∀p,H p=none->Q (.ref p) (aW H p (.av a)))\/
 (J.go i H/\∃N:ax->Hp->Prop,(∀c e,N c e->∃h,h<m/\W (i+1) h c e)/\∀x e,J.ki i H x e->g x (eX ix σ) e λd l=>Wk (eX ix σ) d/\ti d l λb f=>if b=true then te d f λv n=>a.length<sizeLine/\N (a++[v]) n else N a f)
theorem Lh(Pv:Nat->ax->Hp->Prop)(s:Pv 0 [] H1)(h:∀i a H,i<n->Pv i a H->J.go i H)(j:∀a H,Pv n a H->J.stop n H)(hs:∀i x a H f,i<n->Pv i a H->J.ki i H x f->g x (eX ix σ) f λd q=>Wk (eX ix σ) d/\ti d q λb l=>if b=true then te d l λv r=>a.length<sizeLine/\Pv (i+1) (a++[v]) r else Pv (i+1) a l)(hd:∀a H,Pv n a H->a.length<=sizeLine/\∀p,H p=none->Q (.ref p) (aW H p (.av a))):Nr J g ti te ix σ Q H1:=by
 refine⟨λi m a H=>m=n - i/\i<=n/\Pv i a H,⟨n,by simp,zero_le _,s⟩,?_⟩;rintro i m a H ⟨rfl,w,p⟩;by_cases c:i<n
 .exact .inr ⟨h i a H c p,Pv (i+1),λo f u=>⟨n - (i+1),⋯,rfl,c,u⟩,λx f y=>hs i x a H f c p y⟩
 .have e:i=n:=⋯
  subst e;exact .inl ⟨j a H p,hd a H p⟩
end
section
variable{X:Cx}
def Ea:V->bE->bE->Hp->VK->Prop:=λx lo a H Q=>∃z,x=.str z/\z.length<=sizeLine/\Q (.str (Txt.slice z lo a)) H
theorem z'h:jy X Ea:=by
 intro aa s y H x v vl w lo n r Q I p c o g h;∎;let⟨z,rfl,d,q⟩:=h;let⟨t,rfl⟩:=(show ∃t,v=Value.str z t from p);∎;refine⟨"str",_,F.slot_str_getitem.lookup,typeIs_str _ _ _,?_⟩;have a:∀(f:Tok)(k:Nat),EP X aa y Q (.str (Txt.slice z lo n) f) { s with toks:=k }:=λf k=>⟨.str _,H,I.tok k,⟨f,rfl⟩,q⟩
 cases o with
 |none=>
  cases g with
  |none=>exact wpAny_getItem_str_slice (l:=none) (u:=none) (st:=none) c rfl (post_val_or_str ⟨le_trans (Txt.slice_le z _ _) d,λb k=>a b k⟩)
  |int j e=>exact wpAny_getItem_str_slice (l:=none) (u:=some (j,e)) (st:=none) c rfl (post_val_or_str ⟨le_trans (Txt.slice_le z _ _) d,λb k=>a b k⟩)
 |int i m=>
  cases g with
  |none=>exact wpAny_getItem_str_slice (l:=some (i,m)) (u:=none) (st:=none) c rfl (post_val_or_str ⟨le_trans (Txt.slice_le z _ _) d,λb k=>a b k⟩)
  |int j e=>exact wpAny_getItem_str_slice (l:=some (i,m)) (u:=some (j,e)) (st:=none) c rfl (post_val_or_str ⟨le_trans (Txt.slice_le z _ _) d,λb k=>a b k⟩)
end
def Cn(_:ae)(_:aP):Prop:=True
section
variable{M:Model}{A:Around}{E:af->ai->Prop}{s:ai}{base:aP}{env:Env}{outer:cz}{L e:ae}
theorem Pe{a a0:af}{Q:Unit->ai->Prop}(fr:A.frames=some (env::outer))(d:s.heap.FunFrames base (env::outer))(f:env.frame=some L)(t:s.heap.TracedW base e a a0)(i:base.StaysIn s.heap)(b:base.get? e=none)(c:Cn e s.heap)(h:∀k,Heap.LeftW base (env::outer) e a a0 s.heap k->Cn e k->Q () { s with heap:=k }):wpAny M A (leaving env (.ref e)) Q E s:=
 wpAny_leaving_nextW fr d f t i b λk g=>h k g trivial
theorem O7{o:Obj}{vs:dh}{a0:af}{Q:Unit->ai->Prop}(fr:A.frames=some (env::outer))(b:s.heap.FunFrames base (env::outer))(c:env.frame=some L)(he:s.heap.get? e=some o)(i:base.StaysIn s.heap)(a:base.get? e=none)(hd:o.data=.fields vs)(f:vs[1]?=some .none)(d:vs[0]?=some a0)(j:vs[2]?=some .none)(h:∀k,Heap.LeftW base (env::outer) e o.cls a0 s.heap k->Cn e k->Q () { s with heap:=k }):wpAny M A (leaving env (.ref e)) Q E s:=
 wpAny_leaving_firstW fr b c he i a hd f d λk g=>h k g trivial
end
def nr(c h:aP)(H:Hp)(x:ae)(a:af):Prop:=
 c.get? x=none/\H x=none/\∃f b vs T d e,c.get? T=none/\H T=none/\h.get? x=some b/\b.cls=a/\vs[0]?=some f/\b.data=.fields vs/\vs[1]?=some (.ref T)/\T≠x/\h.get? T=some d/\d.data=.fields e/\e[3]?=some .none/\Cn x h
def b9(P:Program)(w:World):e7:=λouter H s E e b=>∃x a c,e=.ref x/\b.os=s.os/\AllBare b.gens/\Un (ff outer) [] H c s.heap b.heap/\cS P w c b.heap/\nr s.heap b.heap c x a/\E a none c
theorem a8.has(x:a8 P w H h a o):∃u,h.get? a=some u:=by
 cases o with
 |av c=>let⟨_,_,_,_,e⟩:=x;exact⟨_,e⟩
 |aA c=>let⟨_,_,_,u,e,_⟩:=x;exact⟨_,e⟩
 |dK b=>let⟨_,_,_,_,u,_,_,e,_⟩:=x;exact⟨_,e⟩
 |dT b=>let⟨_,_,_,_,u,_,_,e,_⟩:=x;exact⟨_,e⟩
 |set S n=>let⟨u,_,_,_,e,_⟩:=x;exact⟨_,e⟩
 |ins C d fs=>let⟨_,_,_,e,_⟩:=x;exact⟨_,e⟩
 |own y=>exact x
 |xd fs=>let⟨_,⟨u,_,_,e,_⟩,_⟩:=x;exact⟨_,e⟩
 |vR lo g=>let⟨_,_,_,e⟩:=x;exact⟨_,e⟩
 |aB ob u=>let⟨e,_⟩:=x;exact⟨_,e⟩
 |lA i=>exact⟨_,x⟩
 |met f y=>exact⟨_,x⟩
 |ext j=>exact x.2.1
theorem z'i{P:Program}{w:World}{fs fr l bad:b7}{H a:Hp}{h i j:aP}(u:Un fs [] H a h i)(aS:cS P w a i)(M:∀b∈l,b∈bad\/b∈fr)(E:∀b∈bad,h.get? b=none/\a b=none)(m:∀b∈fr,(b∈fs\/h.get? b=none)/\a b=none/\∃o,i.get? b=some o/\∀vs,o.data≠.fields vs)(I:∀b∈fs,b∈fr)(k:(W.hideAll i l).StaysIn j)(sm:i.UpToSlots j):
  Un fs [] H a h j/\cS P w a j/\∀x s a0,j.TracedW (W.hideAll i l) x s a0->Cn x j->h.get? x=none->a x=none->nr h j a x s:=by
 have gt:∀b o,i.get? b=some o->b ∉ bad->b ∉ fr->j.get? b=some o:=λb o e Q U=>k b o (W.hideAll_get _ e λz=>(M b z).elim Q U)
 have N:∀b o,h.get? b=some o->b ∉ bad:=λb o e z=>by rw[(E b z).1] at e;cases e
 have slots:∀b o,b∈fr->i.get? b=some o->∃C,j.get? b=some { o with slots:=C }:=λb o g e=>by
  let⟨_,_,y,f,d⟩:=m b g;rw[e] at f;cases f;exact sm b o e d
 have tr:∀b u,a b=some u->b ∉ bad/\b ∉ fr:=λb u e=>⟨λz=>(by rw[(E b z).2] at e;cases e),λz=>(by rw[(m b z).2.1] at e;cases e)⟩
 refine⟨⟨λb o e n g p=>?_,λb o e n g p=>?_,λb o e n p=>u.free b o e n p,λb o e p=>?_,u.eP,u.bV,u.eO⟩,λb v e=>?_,λx s a0 O G p D=>?_⟩
 .refine gt b o (u.keep b o e n g p) (N b o e) λz=>?_
  rcases (m b z).1 with q |q
  .exact g q
  .rw[e] at q;cases q
 .obtain⟨C,e1⟩:=u.slot b o e n g p;let⟨J,A⟩:=slots b _ (I b g) e1;exact⟨J,A⟩
 .obtain⟨y,e1⟩:=u.there b o e p;by_cases g:b∈fr
  .obtain⟨C,A⟩:=slots b y g e1;exact⟨_,A⟩
  .exact⟨y,gt b y e1 (N b o e) g⟩
 .refine (aS b v e).eh (λc o B q=>?_) (λ_ q=>q) λ_ _ q=>q
  rcases B with rfl |B
  .exact gt c o q (tr c v e).1 (tr c v e).2
  .exact gt c o q (tr c _ B).1 (tr c _ B).2
 .obtain⟨oe,vs,T,oT,ts,t1,⟨t2,t3⟩,t4,t5,t6,t7,t8,t9,t10⟩:=O;have L:h.get? T=none/\a T=none:=by
   cases q:i.get? T with
   |none=>
    refine⟨?_,?_⟩
    .cases r:h.get? T with
     |none=>rfl
     |some o=>let⟨y,f⟩:=u.there T o r (by simp);rw[q] at f;cases f
    .cases r:a T with
     |none=>rfl
     |some v=>let⟨y,f⟩:=(aS T v r).has;rw[q] at f;cases f
   |some o=>
    by_cases hm:T∈l
    .rcases M T hm with z |z
     .exact E T z
     .obtain⟨C,A⟩:=slots T o z q;let⟨_,_,y,f,d⟩:=m T z;rw[q] at f;cases f;rw[t8] at A;cases A;exact absurd t9 (d ts)
    .have:=W.hideAll_get _ q hm;rw[t6] at this;cases this
  exact⟨p,D,a0,oe,vs,T,oT,ts,L.1,L.2,t1,t2,t3,t4,t5,t7,t8,t9,t10,G⟩
theorem nr.nc{H:Hp}(f:nr h0 h H x cls):∃T a0,h0.get? T=none/\H T=none/\∀l:b7,T∈l->h.TracedW (W.hideAll h l) x cls a0:=by
 let⟨_,_,a0,e,vs,T,d,s,g,i,j,m,n,o,p,q,r,a,b,_⟩:=f;exact⟨T,a0,g,i,λl c=>⟨e,vs,T,d,s,j,⟨m,n⟩,o,p,W.hideAll_none _ c,q,r,a,b⟩⟩
theorem nr.cn{H:Hp}(f:nr h0 h H x cls):Cn x h:=by
 let⟨_,_,d,g,vs,T,e,s,i,j,l,m,n,o,p,q,r,a,b,c⟩:=f;exact c
section
variable{X:Cx}{aa:aT}{σ:St}{H:Hp}{s:ai}
theorem G6:∀env∈l,∀a,env.frame=some a->a∈ff l:=λenv b a c=>mem_filterMap.mpr ⟨env,b,c⟩
theorem au.Og(I:au X aa σ H s):∀b∈ff X.stack,(b∈X.fs\/X.s₀.heap.get? b=none)/\H b=none/\∃o,s.heap.get? b=some o/\∀vs,o.data≠.fields vs:=λb a=>by
 refine⟨?_,I.fA b a,(I.stack.mem a).2⟩;rcases mem_cons.mp (I.eN b a) with e |e
 .exact .inr (by rw[e];exact Heap.get?_none_of_le I.ok.above)
 .exact .inl e
theorem HX{E:XK}{x:ae}{a:af}(hs:X.stack=X.env::X.outer)(m:X.env.frame=some X.env.locals)(h:X.ex=[])(I:au X aa σ H s){l bad:b7}{c:aP}(n:∀b∈l,b∈bad\/b∈ff X.stack)(f:∀b∈bad,X.s₀.heap.get? b=none/\H b=none)(k:(W.hideAll s.heap l).StaysIn c)(sm:s.heap.UpToSlots c){a0:af}(o:c.TracedW (W.hideAll s.heap l) x a a0)(g:Cn x c)(p:X.s₀.heap.get? x=none)(d:H x=none)(e:E a none H):b9 X.prog X.w X.outer X.H₀ X.s₀ E (.ref x) { s with heap:=c }:=by
 have i:=I.base;rw[h] at i;let⟨u,ok,j⟩:=z'i i I.aS n f I.Og (λb f=>by rw[hs];unfold ff;rw[filterMap_cons,m];exact mem_cons_of_mem _ f) k sm;exact⟨x,a,H,rfl,I.os,I.bare,u,ok,j x a a0 o g p d,e⟩
def sC(X:Cx)(E:XK):Prop:=X.xe=λe c=>wpAny (model X.prog X.w) X.A (leaving X.env e) (λ_ a=>b9 X.prog X.w X.outer X.H₀ X.s₀ E e a) (λb a=>b9 X.prog X.w X.outer X.H₀ X.s₀ E b a) c
theorem dy{E:XK}(hs:X.stack=X.env::X.outer)(g:X.env.frame=some X.env.locals)(f:X.ex=[])(m:sC X E):lI (b9 X.prog X.w) X E:=by
 intro aa σ H s e r I C;let⟨x,v,u,rfl,os,bare,un,aS,c,y⟩:=C;have J:au X aa σ u r:=I.gU (ch:=[]) os un aS bare (λb z=>absurd z (by simp));have n:∀b,s.heap.get? b=none->X.s₀.heap.get? b=none:=λb z=>by
  cases q:X.s₀.heap.get? b with
  |none=>rfl
  |some o=>let⟨Q,p⟩:=I.base.there b o q (by rw[f];simp);rw[z] at p;cases p
 let⟨T,N,h,B,l⟩:=c.nc;rw[m];have j:∀env∈X.env::X.outer,∀a,env.frame=some a->a∈x::T::ff X.stack:=λenv D a g=>.tail _ (.tail _ (by rw[hs];exact G6 env D a g))
 refine Pe (base:=W.hideAll r.heap (x::T::ff X.stack)) (by rw[J.ok.frames,hs]) (W.funFrames_hide (hs ▸ J.stack) j) g (l _ (.tail _ (.head _))) (λb o q=>W.of_hideAll _ q)
  (W.hideAll_none _ (.head _)) c.cn λO A i=>?_
 let⟨G,_,L,M⟩:=A;exact HX hs g f J (bad:=[x,T]) (λb d=>by
  rcases mem_cons.mp d with z |d
  .exact .inl (by rw[z];exact .head _)
  .rcases mem_cons.mp d with z |d
   .exact .inl (by rw[z];exact .tail _ (.head _))
   .exact .inr d) (λb d=>by
  rcases mem_cons.mp d with z |d
  .rw[z];exact⟨n _ c.1,c.2.1⟩
  .have z:b=T:=by simpa using d
   rw[z];exact⟨n _ h,B⟩) G M L i (n _ c.1) c.2.1 y
end
theorem Yf{K:ak}{h:aP}{C:ae}{b:aN}{a:String}(X:K.In h)(q:W.excIn K C b a=true):
  ∃bm N nm f bs hd sn sub ab col dd k0 k1 k2 k3 k5 mN,h.get? C=some (excClassObj nm f C N bs bm hd sn sub ab col dd k0 k1 k2 k3 k5 a)/\h.Ns N mN/\mN "__init__"=none/\OwnTail h b bm:=by
 unfold W.excIn at q;split at q
 case h_2=>cases q
 case h_1 ddc cdc slc hlook=>
  split at q
  case h_2=>cases q
  case h_1 Cc bmc k0 k1 k2 k3 nn k5 hmro hslots=>
   simp only[and_eq_true,beq_iff_eq,Bool.not_eq_true'] at q;∎;let⟨⟨⟨⟨⟨i,j⟩,d⟩,l⟩,c⟩,e⟩:=q;let⟨nm,bs,m,ns,f,hd,sn,sub,ab,col,g⟩:=cdc;∎;dsimp only at hmro d c e;let⟨n⟩:=slc;simp only at hslots;subst i j d hmro hslots;exact⟨_,_,_,_,_,_,_,_,_,_,_,_,_,_,_,_,_,X _ _ hlook,.of_isNs (W.isNs_of_in X c),W.nsMap_none_of_in X c e,W.tail_of_in X l⟩
def CQ(C:ae)(E:XK)(b:TE):TS:=λ_ j H=>b j H λ_ a=>E (.ref C) none a
section
variable{X:Cx}
theorem VA{E:XK}{x:Str}{np f pos:Pos}{d:Expr}{te:TE}{C:ae}{B g i:String}{n:aN}(hs:X.stack=X.env::X.outer)(L:X.env.frame=some X.env.locals)(A:X.ex=[])(β:sC X E)(m:X.calm=true)(hg:Gl X x)(hm:X.mg x=some (.ref C))(FB:ExcBaseFacts B g i n)(hq:W.excIn X.K C n g=true)(he:PE X d te)(Q: ~~~(cI x))(G:do eA d [] X.env)(α:do e9 f [] X.env):
  PS X (.Raise (some (.Call (.Name x np) [d] [] f)) none pos) (CQ C E te):=by
 intro aa s j H D I h;let⟨bm,N,nm,qn,bs,hd,sn,sub,ab,col,dd,k0,k1,k2,k3,k5,mN,hC,hN,Y,T⟩:=Yf I.ok.mod.mT hq;refine wpAny_Raise_call_subT (C:=C) (nm:=nm) (q:=qn) (N:=N) (bs:=bs) (bm:=bm) (hdct:=hd) (sn:=sn) (sub:=sub) (ab:=ab) (col:=col) (dd:=dd) (k0:=k0) (k1:=k1) (k2:=k2) (k3:=k3) (k5:=k5)
  FB (mN:=mN) (T.hasType FB.hasBase) (I.ok.hd m) (by rw[G];show (false || (backTo f (starEach [] X.env)).any (·.1))=false;rw[α];rfl) Y (n9 I hg hm ⟨rfl,?_⟩ Q)
 rw[G];refine Calls.evalArgs_plain ?_;refine Calls.spliced_cons ?_;refine bq (he aa s j H _ I h) λu s1 γ=>?_
 let⟨v,M,l,_,q1⟩:=γ;refine Calls.spliced_nil ?_;refine⟨rfl,by show (1:Nat)<=sizeLine;decide,l.bk _ _ hC,hN.keeps l.bk,T.keeps l.bk,λh' e c=>?_⟩;let⟨t,ht,δ,ε⟩:=c.there;have J:au X aa j M { s1 with heap:=h' }:=l.gU (ch:=[]) rfl (Un.kept c.keeps) (l.aS.kept c.keeps) l.bare (λb z=>absurd z (by simp));have up:∀b,s1.heap.get? b=none->X.s₀.heap.get? b=none:=λb z=>by
  cases q:X.s₀.heap.get? b with
  |none=>rfl
  |some o=>let⟨o',p⟩:=l.base.there b o q (by rw[A];simp);rw[z] at p;cases p
 have w:M e=none:=by
  cases r:M e with
  |none=>rfl
  |some v=>let⟨o',p⟩:=(l.aS e v r).has;rw[c.new] at p;cases p
 rw[β];have U:∀env∈X.env::X.outer,∀a,env.frame=some a->a∈e::ff X.stack:=λenv he a L=>.tail _ (by rw[hs];exact G6 env he a L)
 refine O7 (base:=W.hideAll h' (e::ff X.stack)) (a0:=.ref t) (by rw[J.ok.frames,hs]) (W.funFrames_hide (hs ▸ J.stack) U) L ht (λb o q=>W.of_hideAll _ q)
  (W.hideAll_none _ (.head _)) rfl rfl rfl rfl λh2 hL O=>?_
 let⟨l1,_,l3,l4⟩:=hL;exact HX hs L A J (bad:=[e]) (λb y=>by
  rcases mem_cons.mp y with z |y
  .exact .inl (by rw[z];exact .head _)
  .exact .inr y) (λb y=>by
  have z:b=e:=by simpa using y
  rw[z];exact⟨up _ c.new,w⟩) l1 l4 l3 O (up _ c.new) w q1
end
section
variable{P:Program}{w:World}{K:ak}{mg:bD}{base:aP}
theorem gm.zY{x a:Str}{st:Stmt}{f:ae}{e:FuncData}{N ps:ag}{k:Nat}{sp:Sp}(F:gm K x a st f e)(S:bj N ps (a7 st))(len:∀vs H Q E,sp vs H Q E->vs.length=ps.length)(b:∀(aM:af)(A:Around)(outer:cz)(s:ai)(H:Hp)(vs:ax)(Q:VK)(E:XK),bh k (A.deeper (envOfC a (a7 st) ⇑s f aM))->sp vs H Q E->
   ∃t,fC (ip (b9 P w) P w K mg base N a (a7 st) f aM A outer s H E) (ie st) t/\t { nx:=λ_ g=>Q .aZ g,rt:=Q } (start N vs) H):aw P w K mg base (b9 P w) (k+1) f e ps sp:=by
 let⟨oc,od,kV,doc,pm,an,aM,ct,osl,rfl,i,c⟩:=F.ex;exact Jc i c S len λA outer s H vs Q E h d=>b aM A outer s H vs Q E h d
end
section
variable{X:Cx}
def il(CX:e7)(X:Cx)(j:St)(E:XK):Prop:=∀(aa:aT)(H:Hp)(s:ai)(e:af)(a:ai),au X aa j H s->CX X.stack H s E e a->X.xe e a
def CS(sp:Sp)(a:ax)(R:St->XK)(t:TA):TE:=λj H Q=>t j H λvs b=>sp (vs++a) b Q (R j)
variable{CX:e7}{k:Nat}{f:ae}{fd:FuncData}{ps:ag}{sp:Sp}{dvs:ax}{ds:aN}{x:Str}{p pos:Pos}{e:Expr}{es:bT}{t:TA}
theorem zh(F:aw X.prog X.w X.K X.mg X.base CX k f fd ps sp)(d:bh k X.A)(b:Binds X.K fd ps ds)(hd:aL dvs ds)(g:il CX X j E)(I:au X aa j H s)(r:aL vs us)(h:sp (vs++dvs) H Q E):wpAny (model X.prog X.w) X.A (call (.ref f) us) (EP X aa j Q) X.xe s:=by
 have r2:=r.append hd;have c:(us++ds).length=ps.length:=r2.length ▸ F.len _ _ _ _ h;refine wpAny_call (codeAny_mono (F.run X.A X.stack s H ⟨us,[]⟩ (us++ds) (vs++dvs) Q E d I.mQ (b s us I.cP c) r2 h) λr i a=>?_)
 match r,a with
 |.error e,a=>exact g aa H s e i I a
 |.ok (.ret u),a=>exact I.after a
 |.ok .next,a=>exact a.elim
 |.ok .brk,a=>exact a.elim
 |.ok .cont,a=>exact a.elim
theorem VB{R:St->XK}(F:aw X.prog X.w X.K X.mg X.base CX k f fd ps sp)(m:bh k X.A)(i:Gl X x)(hm:X.mg x=some (.ref f))(l:W.keepIn X.K (.ref f)=true)(g:Binds X.K fd ps ds)(hd:aL dvs ds)(n:∀j,il CX X j (R j))(ha:PA X (e::es) t)(a: ~~~(cI x))(he:do eA e es X.env)(b:do e9 pos es X.env):PE X (.Call (.Name x p) (e::es) [] pos) (CS sp dvs R t):=by
 intro aa s j H Q I h;refine wpAny_Call_Name_kw (n9 I i hm ?_ a);exact W.callWith_K (h₀:=X.base) I.ok.mod.mT l (bq (ha pos aa s j H _ I h) λus u c=>by let⟨vs,o,d,r,q⟩:=c;exact⟨d.cP,zh F m g hd (n j) d r q⟩) he b
end
end L2
namespace L2
open PySem PySem.Spec PyProof.Rows PySem.W Builtin Builtin.ObjectAttr Builtin.Getset_descriptor
def NG(x C:ae)(h:aP):Prop:=∃o,h.get? x=some o/\o.cls=.ref C
def yo(x C:ae):HO:=.ext λh=>NG x C h/\Cn x h
end L2
namespace L2
open PySem PySem.Spec PyProof.Rows
theorem z'j:lI (b9 P w) X E0:=λ_ _ _ _ _ _ _ a=>by let⟨_,_,_,_,_,_,_,_,_,h⟩:=a;exact h.elim
end L2
namespace Vc
open PySem L2 Sf
theorem Le.exc(e:Le F F')(h:Rd F a (yo a B)):Rd F' a (yo a B):=e _ _ (by intro o w z;cases z) h
end Vc
namespace L2
open PySem PySem.Spec PyProof.Rows
def sq(K:ak)(a:ae):It:=
 ⟨λi H=>∃b x,bY K H a b/\b[i]?=some x,λi H y c=>∃p x,y=.ref p/\H p=none/\(∀b,bY K H a b->b[i]?=some x)/\c=aW H p (.aA [.int i,x]),λi H=>∃b,bY K H a b/\b.length<=i⟩
theorem au.kg{s:ai}(I:au X aa j H s)(k:∀c o,c≠a->c≠b->s.heap.get? c=some o->h'.get? c=some o)(ha:gO X aa H a)(y:gO X aa H b)(C:∃o,h'.get? a=some o)(D:∃o,h'.get? b=some o):au X aa j H { s with heap:=h',toks:=t' }:=by
 ∎;let⟨g,i,A,l,m,p⟩:=ha;let⟨h,r,B,v,w,x⟩:=y;∎;refine I.gU (s':={ s with heap:=h',toks:=t' }) (ch:=[a,b]) rfl ⟨λc o e _ _ f=>?_,λc o e _ _ f=>⟨o.slots,?_⟩,λ_ _ _ n _=>n,λc o e f=>⟨o,?_⟩,λ_ _ q=>q,λ_ _ _ q=>q,λ_ E q=>⟨#[],by rw[q];simp⟩⟩ (λc u e=>?_) I.bare (λc f=>?_)
 .exact k c o (λz=>f (by simp[z])) (λz=>f (by simp[z])) e
 .exact k c o (λz=>f (by simp[z])) (λz=>f (by simp[z])) e
 .exact k c o (λz=>f (by simp[z])) (λz=>f (by simp[z])) e
 .refine (I.aS c u e).eh (λd o hd q=>k d o ?_ ?_ q) (λ_ q=>q) λ_ _ q=>q
  .rintro rfl;rcases hd with z |z
   .rw[<- z,g] at e;cases e
   .rw[g] at z;cases z
  .rintro rfl;rcases hd with z |z
   .rw[<- z,h] at e;cases e
   .rw[h] at z;cases z
 .rcases mem_cons.mp f with z |f
  .rw[z];exact⟨l,i,m,p⟩
  .have z:c=b:=by simpa using f
   rw[z];exact⟨v,r,w,x⟩
theorem Tp{P:Program}{w:World}{K:ak}{elts:bT}{x1:Nat}{pos:Pos}(a it n:ae)(y:n≠it):
  kF P w K (.Tuple elts x1 pos) (sq K a) [n,it] n (λi h=>(∃g,IsEnum h n it i g)/\h.IsListIter it a i) where
 mem:=by simp
 obj:=λi h st b l=>by
  let⟨⟨g,O⟩,o,Q,c,d⟩:=st;rcases mem_cons.mp l with z |l
  .rw[z];exact⟨_,O,λv z=>by cases z⟩
  .have z:b=it:=by simpa using l
   rw[z];exact⟨o,Q,λv z=>by rw[d] at z;cases z⟩
 keep:=λi h h' st k=>by
  let⟨⟨g,O⟩,Q⟩:=st;exact⟨⟨g,k n (by simp) _ O⟩,Q.at λo e=>k it (by simp) o e⟩
 item:=by
  intro X Y hw U hc i aa s j H E I M st hg;subst Y hw U;∎;let⟨⟨g,A⟩,r⟩:=st;let⟨xs,x,m,hx⟩:=hg;let⟨δ,rv,p,hz⟩:=I.list m;let⟨u,hu,ru⟩:=rv.get hx;∎;have fe:=M n (by simp);have fi:=M it (by simp);refine wpAny_pyNext_enum_item A r p.isList (x:=u) (by simpa using hu) y λh' G C hT ε hk=>?_
  refine⟨.ref ⇑s,rfl,wpAny_letOwnedTupleGo_enum G λh2 B hs=>?_⟩;have le:n<⇑s:=Heap.lt_size A;have li:it<⇑s:=let ⟨o,e,_⟩:=r;Heap.lt_size e;have β:H ⇑s=none:=I.aS.fresh (le_refl _);have J:n≠⇑s:=ne_of_lt le;have L:it≠⇑s:=ne_of_lt li;have I1:=I.laid (a:=⇑s) (o:=.aA [.int i,x]) (h':=s.heap.push { cls:=.type "tuple",data:=.seq #[.int i s.toks,u] }) (t':=s.toks) (λb q m=>Heap.get?_push_of_some _ m) (le_refl _)
   ⟨by show 2<=sizeLine;decide,[.int i s.toks,u],.cons ⟨_,rfl⟩ (.cons ru .nil),⟨_,Heap.get?_push_size _ rfl,rfl,_,rfl⟩⟩
  have up:∀{b:ae},b≠⇑s->gO X aa H b->gO X aa (aW H ⇑s (.aA [.int i,x])) b:=λl f=>⟨by rw[bR l];exact f.1,f.2⟩
  have γ:∀b q,b≠n->b≠it->(s.heap.push { cls:=.type "tuple",data:=.seq #[.int i s.toks,u] }).get? b=some q->h2.get? b=some q:=λb q h1 h3 m=>by
   refine hs.extBut b q h1 ?_;rcases Heap.get?_push_cases m with⟨α,eq⟩ |m
   .subst α;subst eq;exact hT
   .exact hk b q h1 h3 m
  let⟨N,ei,ci,di⟩:=C;have D:h2.IsListIter it a (i+1):=⟨N,hs.extBut it N (Ne.symm y) ei,ci,di⟩;refine⟨.ref ⇑s,aW H ⇑s (.aA [.int i,x]),?_,rfl,⟨_,x,rfl,β,λys hy=>by rw[I.list_inj hy m];exact hx,rfl⟩,⟨⟨_,B⟩,D⟩,λb l=>?_⟩
  .exact au.kg (s:={ s with heap:=s.heap.push { cls:=.type "tuple",data:=.seq #[.int i s.toks,u] },toks:=s.toks }) (t':=s.toks+1) I1 γ (up J fe) (up L fi) ⟨_,B⟩ ⟨N,hs.extBut it N (Ne.symm y) ei⟩
  .rcases mem_cons.mp l with z |l
   .rw[z,bR J];exact fe.1
   .have z:b=it:=by simpa using l
    rw[z,bR L];exact fi.1
 done:=by
  intro X Y hw U hc i aa s j H E I M st hg;subst Y hw U;∎;let⟨⟨g,A⟩,r⟩:=st;let⟨xs,m,hx⟩:=hg;let⟨δ,rv,p,hz⟩:=I.list m;∎;have hl:=rv.length;let⟨f0,f1,f2,f3,f4,f5⟩:=M it (by simp);exact wpAny_pyNext_enum_end (I.ok.hd hc) A r p.isList (by simp;omega) λh' eb=>⟨rfl,I.turned (t':=s.toks) (λb o l e=>eb b o l e) f0 f1 f3 f4 f5⟩
 self:=λ_ _ _ _ _ st h=>let ⟨⟨_,A⟩,_⟩:=st;wpAny_pyIter_enum A h
section
variable{X:Cx}
def C7(K:ak)(c:TA):TI:=λj H R=>c j H λvs b=>∃a,vs=[.ref a]/\(∃d,bY K b a d)/\R (sq K a) b
theorem Yg{l:Expr}{o:TA}{elts:bT}{x1:Nat}{f p pos:Pos}(w:Gl X "enumerate")(hm:X.mg "enumerate"=none)(ha:PA X [l] o)(hs:do nv l X.env):
  PI X (.Tuple elts x1 f) (.Call (.Name "enumerate" p) [l] [] pos) (C7 X.K o):=by
 intro aa s j H R I h;refine Call_ (ri I w hm (u:=.type "enumerate") rfl (PyProof.Rows.callWith_type1 (bq (ha pos aa s j H _ I h) λus c m=>?_) hs rfl));let⟨vs,v,d,r1,a,e,⟨J,y⟩,q⟩:=m;subst e;cases r1 with
 |cons r C=>
  cases C;cases r;let⟨B,G,p,E⟩:=d.list y;refine call_enumerate_list p.isList λD n i A x=>wpAny_pyIter_enum n ?_
  have ne:⇑c+1≠⇑c:=⋯
  refine⟨⇑c+1,[⇑c+1,⇑c],_,_,v,rfl,d.kept (t':=c.toks) x,Tp a _ _ ne,⟨⟨_,n⟩,i⟩,λb g=>?_,q⟩;rcases mem_cons.mp g with z |g
  .rw[z];exact d.gC ⋯ (d.aS.fresh ⋯)
  .have z:b=⇑c:=by simpa using g
   rw[z];exact d.gC (le_refl _) (d.aS.fresh (le_refl _))
end
theorem EV:∀{bs:List Bool}{us:aN},aL (bs.map V.bl) us->us=bs.map Value.bool
 |[],_,.nil=>rfl
 |b::r,_,.cons h t=>by
  have e:=EV (bs:=r) t;subst e;cases h;rfl
theorem Tq(bs:List Bool):(List.range bs.length).all (λi=>bs.getD i false)=bs.all id:=by
 rw[Bool.eq_iff_iff,all_eq_true,all_eq_true];constructor
 .intro h b hb;let⟨i,a,rfl⟩:=List.getElem_of_mem hb;have z:=h i (mem_range.mpr a);rw[List.getD_eq_getElem?_getD,List.getElem?_eq_getElem a] at z;exact z
 .intro h i a;rw[mem_range] at a;rw[List.getD_eq_getElem?_getD,List.getElem?_eq_getElem a];exact h _ (List.getElem_mem a)
theorem Ri(bs:List Bool):TruthOf prog w A (λi v=>(bs.map Value.bool).toArray[i]?=some v) (λi=>bs.getD i false):=by
 intro i v s Q E a c;simp only[List.getElem?_toArray,getElem?_map] at a;cases q:bs[i]? with
 |none=>rw[q] at a;cases a
 |some b=>
  rw[q] at a;cases a;have c:Q (bs.getD i false) s:=c;rw[List.getD_eq_getElem?_getD,q] at c;exact wpAny_pure c
section
variable{X:Cx}
theorem yu(f:X.calm=true):bA X (.builtin "all") (λxs H Q=>∃(a:ae)(bs:List Bool),xs=[.ref a]/\bY X.K H a (bs.map V.bl)/\Q (.bl (bs.all id)) H):=by
 intro aa s j H xs us Q I r h;∎;let⟨a,bs,rfl,i,q⟩:=h;let⟨u,rfl,n⟩:=iw r;∎;cases n;let⟨l,v,p,x⟩:=I.list i;obtain rfl:=EV v;have d:=p.isList;have m:a<⇑s:=(let ⟨_,e,_⟩:=d;Heap.lt_size e);refine call_all_walk (wpAny_pyIter_list d ?_);refine⟨⇑s,_,_,_,_,_,_,rfl,Walks.list (by exact I.ok.hd f) _ a (ne_of_lt m) _,⟨⟨_,Heap.get?_push_size _ rfl,rfl,rfl⟩,(let ⟨o,e,c⟩:=d;⟨o,Heap.get?_push_of_some _ e,c⟩)⟩,Ri bs,λw y g=>?_⟩;refine⟨.bl (bs.all id),H,I.kept λb o e=>g b o (λz=>absurd (Heap.lt_size e) (by rw[show b=⇑s from by simpa using z];exact lt_irrefl _)) (Heap.get?_push_of_some _ e),?_,q⟩;rw[<- Tq];show _=_;simp
end
section
variable{X:Cx}
def PJ(X:Cx)(a:bT)(t:Str->TE):Prop:=
 ∀(out:Str)(aa:aT)(s:ai)(j:St)(H:Hp)(Q:VK),au X aa j H s->t out j H Q->wpAny (model X.prog X.w) X.A (joinParts out (evalEach a X.env)) (EP X aa j Q) X.xe s
def Eb:Str->TE:=λout _ H Q=>out.length<=sizeLine/\Q (.str out) H
def Ec(x:Str)(t:Str->TE):Str->TE:=λout j H Q=>(out++x).length<=sizeLine/\t (out++x) j H Q
def Ed(b:TE)(t:Str->TE):Str->TE:=λout j H Q=>b j H λv a=>∃y,v=.str y/\y.length<=sizeLine/\(out++y).length<=sizeLine/\t (out++y) j a Q
theorem z'k:PJ X [] Eb:=λout aa s j H Q I h=>joinParts_nil ⟨.str out,H,I.tok _,⟨_,rfl⟩,h.2⟩ h.1
theorem z'l(a:PJ X es t):PJ X (.Constant (.str x) j pos::es) (Ec x t):=λout aa s y H Q I h=>
 joinParts_cons (rest:=evalEach es X.env) (Calls.Constant_str ⟨h.1,a (out++x) aa _ y H Q (I.tok _) h.2⟩)
theorem z'm(he:PE X e te)(a:PJ X es t):PJ X (.FormattedValue e (-1) none pos::es) (Ed te t):=λout aa s j H Q I h=>
 joinParts_cons (rest:=evalEach es X.env) (FormattedValue_plain (bq (he aa s j H _ I h) λv c ⟨x,H1,I1,r1,y,e1,hz,hq,q1⟩=>by
  subst e1;let⟨b,rfl⟩:=r1;exact formatField_str (λb d=>⟨hq,a (out++y) aa _ j H1 Q (I1.tok _) q1⟩) hz))
def tJ(t:Str->TE):TE:=t Str.empty
theorem Yh(h:PJ X (a::b::es) t):PE X (.JoinedStr (a::b::es) pos) (tJ t):=λaa s j H Q I q=>
 JoinedStr_many (h Str.empty aa s j H Q I q)
end
end L2
namespace Vc
open PySem L2 Sf
section
variable{X:Cx}{aa:aT}{σ:St}{H:Hp}{s:ai}{Au:Around}
theorem Xp(I:au X aa σ H s)(c:bY X.K H a xs)(d:bY X.K H b ys)(hu:Au.units<cLine)(C:xs.length=ys.length)(e:Nat->Bool)(he:∀(j:Nat) x y u v,xs[j]?=some x->ys[j]?=some y->aC x u->aC y v->SeqAt.EqAt Au.in1 s u v (e j)):SeqAt.RcNeAt Au s (.ref a) (.ref b) (!(List.range xs.length).all e):=by
 ∎;let⟨us,r1,r,_⟩:=I.list c;let⟨B,r2,w,_⟩:=I.list d;∎;have o:=r1.length;have D:=r2.length;have z:=SeqAt.RcNeAt.lists (A:=Au) (e:=e) r.isList w.isList (by simp;omega) hu (λj c d=>?_)
 .have e0:(List.range us.toArray.size).all e=(List.range xs.length).all e:=by
   simp only[size_toArray];rw[<- o]
  rw[e0] at z;exact z
 .simp only[size_toArray] at c d;∎;let⟨u,f,p⟩:=r1.get (i:=j) (x:=xs[j]'⋯) (by simp);let⟨v,g,q⟩:=r2.get (i:=j) (x:=ys[j]'⋯) (by simp);let⟨_,h⟩:=List.getElem?_eq_some_iff.mp f;let⟨_,l⟩:=List.getElem?_eq_some_iff.mp g;∎;have m:us.toArray[j]'(by simpa using c)=u:=by simpa using h
  have n:B.toArray[j]'(by simpa using d)=v:=by simpa using l
  rw[m,n];exact he j _ _ u v (by simp) (by simp) p q
end
theorem cV:∀xs:ag,(xs.map V.str).all gs=true
 |[]=>rfl
 |y::r=>by rw[map_cons,all_cons,cV r];rfl
end Vc
namespace L2
open PySem PySem.Spec PyProof.Rows
def C8:R2:=λx y H Q=>∃z n,x=.str z/\y=.int n/\z.length<=100/\0<=n/\n<=1000/\Q (.str (Txt.mul z n)) H
theorem RX:b6 X (binaryOp .Mult) C8:=by
 intro aa s j H x y v u Q I b c h;∎;let⟨z,n,rfl,rfl,a,e,f,q⟩:=h;let⟨t,rfl⟩:=b;let⟨d,rfl⟩:=c;∎;exact SB.mul (mulOk_of 100 1000 a ⋯ ⋯ ∎ ∎) λd k=>⟨.str _,H,I.tok _,⟨_,rfl⟩,q⟩
section
variable{X:Cx}
theorem FJ(h:StrsAre us ks):aL (ks.map V.str) us:=by
 induction h with
 |nil=>exact .nil
 |cons _ _ _ a=>exact .cons ⟨_,rfl⟩ a
end
end L2
namespace Vc
open PySem L2 Sf
theorem QD{a b:List Nat}(c:¬ a<b)(d:¬ b<a):a=b:=by
 rw[not_lt] at c d;exact List.le_antisymm d c
theorem EW:∀(l:ag),PyProof.Rows.sortedS l=true->l.Pairwise (λa b=>¬ b.cps.toList<a.cps.toList)
 |[],_=>.nil
 |x::r,h=>by
  have tr:∀a b c:List Nat,¬ b<a->¬ c<b->¬ c<a:=λa b c d i=>by
   rw[not_lt] at d i ⊢;exact List.le_trans d i
  have gen:∀(r:ag)(p:Str),PyProof.Rows.risingS p r=true->(p::r).Pairwise (λa b=>¬ b.cps.toList<a.cps.toList):=by
   intro r
   induction r with
   |nil=>intro p _;exact List.pairwise_singleton _ _
   |cons y t j=>
    intro p h;have f:(!PySem.Spec.ltCps y.cps.toList p.cps.toList&&PyProof.Rows.risingS y t)=true:=h;rw[and_eq_true,PyProof.Rows.ltCps_eq] at f;have d:¬ y.cps.toList<p.cps.toList:=by simpa using f.1
    have w:=j y f.2;refine List.pairwise_cons.mpr ⟨λb g=>?_,w⟩;rcases mem_cons.mp g with e |g
    .rw[e];exact d
    .exact tr _ _ _ d ((List.pairwise_cons.mp w).1 b g)
  exact gen r x h
theorem RY{a b:ag}(e:PyProof.Rows.sortedS a=true)(f:PyProof.Rows.sortedS b=true)(p:a.Perm b):a=b:=by
 refine List.Perm.eq_of_pairwise (le:=λa b=>¬ b.cps.toList<a.cps.toList) (λx y _ _ c d=>?_) (EW a e) (EW b f) p;have:=QD d c;cases x;cases y;simpa using this
noncomputable def m7(ks:ag):ag:=Classical.epsilon λl=>l.Perm ks/\PyProof.Rows.sortedS l=true
theorem z'n(h:l.Perm ks)(g:PyProof.Rows.sortedS l=true):l=m7 ks:=by
 have:=Classical.epsilon_spec (p:=λl:ag=>l.Perm ks/\PyProof.Rows.sortedS l=true) ⟨l,h,g⟩;exact RY g this.2 (h.trans this.1.symm)
theorem zi(h:b3 m x=some y):(x,y)∈m:=by
 induction m with
 |nil=>cases h
 |cons p r a=>
  by_cases e:p.1=x
  .rw[iM e] at h;cases h;subst e;exact mem_cons_self ..
  .rw[iN e] at h;exact mem_cons_of_mem _ (a h)
theorem G7{j:Type}{m:List (Str×j)}{x:Str}{y:j}(h:∀p∈m,p.1≠x):gh m x y=m++[(x,y)]:=by
 unfold gh;rw[if_neg];intro z;rw[List.any_eq_true] at z;let⟨p,a,e⟩:=z;exact h p a (by simpa using e)
theorem G8{u:Type}{m:List (Str×u)}(n:(m.map (·.1)).Nodup){i:Nat}{x:Str}{y:u}(h:m[i]?=some (x,y)):∀p∈m.take i,p.1≠x:=by
 intro p f e;let⟨j,a⟩:=List.getElem?_of_mem f;have b:j<i:=by
  have:=(List.getElem?_eq_some_iff.mp a).1;rw[length_take] at this;omega
 rw[List.getElem?_take_of_lt b] at a;have c:(m.map (·.1))[j]?=some x:=by rw[getElem?_map,a,map_some,e]
 have d:(m.map (·.1))[i]?=some x:=by rw[getElem?_map,h];rfl
 have:=(List.getElem?_inj (List.getElem?_eq_some_iff.mp c).1 n).mp (c.trans d.symm);omega
def ij(m:List (Str×Rat)):List (Str×Rat):=m.filter λp=>!decide (p.2.num=0)
theorem VC{m:List (Str×Rat)}(n:(m.map (·.1)).Nodup){i:Nat}{x:Str}{q:Rat}(h:m[i]?=some (x,q))(d:¬ q.num=0):gh (ij (m.take i)) x q=ij (m.take (i+1)):=by
 have b:∀p∈ij (m.take i),p.1≠x:=λp c=>G8 n h p (List.mem_filter.mp c).1
 rw[G7 b,take_add_one,h];unfold ij;rw[List.filter_append];congr 1;have a:¬ q=0:=λz=>d (by rw[z];rfl)
 simp[a]
theorem Ts{m:List (Str×Rat)}{i:Nat}{x:Str}{q:Rat}(h:m[i]?=some (x,q))(a:q.num=0):ij (m.take i)=ij (m.take (i+1)):=by
 rw[take_add_one,h];unfold ij;rw[List.filter_append,Option.toList_some,List.filter_cons,List.filter_nil,a];simp
theorem VD(m:List (Str×Rat)):(ij m).length<=m.length:=length_filter_le _ _
theorem HY(ks:ag):∃l:ag,l.Perm ks/\PyProof.Rows.sortedS l=true:=by
 have e:∃l:ag,l.Perm ks/\PyProof.Rows.sortedS l=true:=by
  refine⟨ks.mergeSort (λa b=>!decide (b.cps.toList<a.cps.toList)),List.mergeSort_perm _ _,PyProof.Rows.sortedS_of_pairwise _ ?_⟩;have:=List.pairwise_mergeSort (le:=λa b:Str=>!decide (b.cps.toList<a.cps.toList)) (λa b c g i=>by
   have d:¬ b.cps.toList<a.cps.toList:=by simpa using g
   have f:¬ c.cps.toList<b.cps.toList:=by simpa using i
   rw[not_lt] at d f;have:=not_lt.mpr (List.le_trans d f);simpa using this) (λa b=>by
   rcases List.le_total a.cps.toList b.cps.toList with h |h
   .have:=not_lt.mpr h;simp[this]
   .have:=not_lt.mpr h;simp[this]) ks
  refine this.imp λh=>?_
  rw[PyProof.Rows.ltCps_eq];simpa using h
 exact e
theorem Xq(ks:ag):(m7 ks).length=ks.length:=(Classical.epsilon_spec (HY ks)).1.length_eq
def r4(K:ak){j y u e:Type}(A:Rep j)(B:Rep y)(C:Rep u)(D:Rep e):Rep (j×y×u×e):=λF v x=>∃a v1 b c d,v=.ref a/\ck K F a [v1,b,c,d]/\A F v1 x.1/\B F b x.2.1/\C F c x.2.2.1/\D F d x.2.2.2
end Vc
namespace L2
open PySem PySem.Spec PyProof.Rows
section
variable{X:Cx}
theorem Tt:b6 X (compareOp .Gt) (λx y H Q=>∃i j,x=.str i/\y=.str j/\Q (.bl (decide (j.cps.toList<i.cps.toList))) H):=by
 intro aa s G H x y v u Q I a b h;∎;let⟨i,j,rfl,rfl,q⟩:=h;let⟨t,rfl⟩:=a;let⟨c,rfl⟩:=b;∎;exact PySem.P.gt_str (cX I q rfl)
end
end L2
namespace Vc
open PySem L2
theorem KN{Fb Hb F H d e:Hp}{S:ae->Prop}(h:Gr0 Fb Hb F H)(s:H a=some (.dK kvs))(r:F a=none\/F a=some (.dK kvs))(i:Gr0 (fz Fb a (.aB ob (.dK kvs))) (fz Hb a (.aB ob (.dK kvs))) d e)(u:d a=fz F a (.aB ob (.dK kvs)) a)(g:Fz (λb=>b=a\/S b) d):
  ∃c:Hp,Gr0 Fb Hb c (aW e a (.dK kvs))/\Fz S c/\Le d c/\c a=F a/\(aW e a (.dK kvs)) a=some (.dK kvs)/\(∀b,b≠a->c b=d b)/\∀b,b≠a->(aW e a (.dK kvs)) b=e b:=
 VZ (R:=λU=>∃c:Hp,Gr0 Fb Hb c U/\Fz S c/\Le d c/\c a=F a/\U a=some (.dK kvs)/\(∀b,b≠a->c b=d b)/\∀b,b≠a->U b=e b) h s r i u g λf v j l m n o p q=>⟨f,j,l,m,n,o,p,q⟩
end Vc
namespace L2
open PySem PySem.Spec PyProof.Rows
section
variable{X:Cx}
def C9(K:ak):R2:=λx y H Q=>∃l b a c,x=.ref l/\y=.ref b/\bY K H l a/\bY K H b c/\a.length+c.length<=sizeLine/\∀p,H p=none->Q (.ref p) (aW H p (.av (a++c)))
theorem Xr:b6 X (binaryOp .Add) (C9 X.K):=by
 intro aa s j H x y v u Q I C D h;let⟨l,b,U,zs,rfl,rfl,B,A,J,q⟩:=h;cases C;cases D;∎;let⟨c,r,p1,Y⟩:=I.list B;let⟨a,r2,p2,z2⟩:=I.list A;∎;have L:=r.length;have M:=r2.length;∎;let⟨⟨E,w,N,g⟩,p,o,n,hd⟩:=p1.isList;let⟨⟨G,z,O,i⟩,f,d,m,e⟩:=p2.isList;∎;simp only at o hd d e;subst o hd d e;refine concat_meets ⟨_,p,rfl⟩ ⟨_,f,rfl⟩ noFill_list_add seq_list_add PySem.F.slot_list_add PySem.F.entry_list_add (PySem.F.args_list_add_2 _ _) (list_addW l b c.toArray a.toArray n m w z g i (by simp;omega)) ⟨p,f,?_⟩;rw[show c.toArray++a.toArray=(c++a).toArray by simp];exact⟨.ref _,_,I.zH (t':=s.toks) (r.append r2) (by rw[length_append];omega),rfl,q _ I.fresh⟩
end
end L2
namespace Vc
open PySem L2
def ve(a b:ae)(H:Hp):Hp:=λx=>if x=a\/x=b then none else H x
end Vc
namespace L2
open PySem
def fJ(xs:Array Nat):Prop:=∀i j (b:j<xs.size) (a:i<j),xs[i]'(Nat.lt_trans a b)<xs[j]
theorem VE(xs:Array Nat)(j:Nat)(m:fJ xs):∀(a lo b:Nat),b - lo<=a->lo<=b->b<=xs.size->(∀i (h:i<xs.size),i<lo->xs[i]<j)->(∀i (h:i<xs.size),b<=i->j<=xs[i])->
  SetTable.below.go xs j a lo b<=xs.size/\(∀i (h:i<xs.size),i<SetTable.below.go xs j a lo b->xs[i]<j)/\(∀i (h:i<xs.size),SetTable.below.go xs j a lo b<=i->j<=xs[i]):=by
 intro a
 induction a with
 |zero=>intro lo b q r l c d;unfold SetTable.below.go;exact⟨⋯,c,λi h e=>d i h ⋯⟩
 |succ f o=>
  intro lo b q r l c d;unfold SetTable.below.go;by_cases n:lo<b
  .rw[if_pos n];dsimp only;have hm:(lo+b) / 2<xs.size:=⋯
   have p:xs.getD ((lo+b) / 2) j=xs[(lo+b) / 2]:=by rw[Array.getD_eq_getD_getElem?,getElem?_eq_getElem hm];rfl
   rw[p];by_cases g:xs[(lo+b) / 2]<j
   .rw[if_pos g];refine o _ _ ⋯ ⋯ l (λi h e=>?_) d;by_cases z:i=(lo+b) / 2
    .subst z;exact g
    .exact Nat.lt_trans (m i _ hm ⋯) g
   .rw[if_neg g];refine o _ _ ⋯ ⋯ ⋯ c λi h e=>?_
    by_cases z:i=(lo+b) / 2
    .subst z;omega
    .have:=m ((lo+b) / 2) i h ⋯;omega
  .rw[if_neg n];exact⟨⋯,c,λi h e=>d i h ⋯⟩
theorem yg(a:fJ xs)(j:Nat):SetTable.below xs j<=xs.size/\(∀i (h:i<xs.size),i<SetTable.below xs j->xs[i]<j)/\(∀i (h:i<xs.size),SetTable.below xs j<=i->j<=xs[i]):=
 VE xs j a _ _ _ ⋯ ⋯ (le_refl _) (λi h e=>⋯) (λi h e=>⋯)
theorem VF(d:fJ xs)(h:i<xs.size):SetTable.below xs (xs[i]+1)=i+1:=by
 let⟨a,b,c⟩:=yg d (xs[i]+1);have e:¬ SetTable.below xs (xs[i]+1)<=i:=λz=>by have:=c i h z;omega
 by_cases z:i+1<SetTable.below xs (xs[i]+1)
 .have h2:i+1<xs.size:=⋯
  have:=b (i+1) h2 z;have:=d i (i+1) h2 ⋯;omega
 .omega
theorem RZ(d:fJ xs):SetTable.below xs 0=0:=by
 let⟨a,b,c⟩:=yg d 0;by_cases z:0<SetTable.below xs 0
 .have:=b 0 ⋯ z;omega
 .omega
theorem R0(l:fJ xs)(hn:xs[SetTable.below xs j]?≠some j):fJ (SetTable.insertAt xs (SetTable.below xs j) j):=by
 let⟨a,b,c⟩:=yg l j;generalize SetTable.below xs j=p at *;have y:(SetTable.insertAt xs p j).size=xs.size+1:=by unfold SetTable.insertAt;simp;omega
 have at':∀i,(SetTable.insertAt xs p j)[i]?=if i<p then xs[i]? else if i=p then some j else xs[i - 1]?:=by
  intro i;unfold SetTable.insertAt;have A:((xs.extract 0 p).push j).size=p+1:=by simp;omega
  rw[Array.getElem?_append];rw[A];by_cases m:i<p
  .rw[if_pos ⋯,if_pos m,Array.getElem?_push_lt (by simp;omega)];simp[Array.getElem_extract]
  .rw[if_neg m];by_cases n:i=p
   .rw[if_pos ⋯,if_pos n];have:(xs.extract 0 p).size=i:=by simp;omega
    rw[<- this,Array.getElem?_push_size]
   .rw[if_neg ⋯,if_neg n];rw[Array.getElem?_extract];have e:p+(i - (p+1))=i - 1:=⋯
    rw[e];by_cases q:i - (p+1)<min xs.size xs.size - p
    .rw[if_pos q]
    .rw[if_neg q,Array.getElem?_eq_none ⋯]
 have f:∀i (h:i<xs.size),p<=i->j<xs[i]:=by
  intro i h B;have o:p<xs.size:=⋯
  have m:=c p o (le_refl _);have n:xs[p]≠j:=λz=>hn (by rw[getElem?_eq_getElem o,z])
  by_cases z:i=p
  .subst z;omega
  .have:=l p i h ⋯;omega
 intro i k r x;have d:=at' i;have g:=at' k;rw[getElem?_eq_getElem ⋯] at d;rw[getElem?_eq_getElem r] at g;rw[y] at r;by_cases v:k<p
 .rw[if_pos v,getElem?_eq_getElem ⋯] at g;rw[if_pos ⋯,getElem?_eq_getElem ⋯] at d;rw[Option.some.inj d,Option.some.inj g];exact l i k ⋯ x
 .rw[if_neg v] at g;by_cases w:k=p
  .rw[if_pos w] at g;rw[if_pos ⋯,getElem?_eq_getElem ⋯] at d;rw[Option.some.inj d,Option.some.inj g];exact b i ⋯ ⋯
  .rw[if_neg w,getElem?_eq_getElem ⋯] at g;rw[Option.some.inj g];by_cases s:i<p
   .rw[if_pos s,getElem?_eq_getElem ⋯] at d;rw[Option.some.inj d];exact l i (k - 1) ⋯ ⋯
   .rw[if_neg s] at d;by_cases u:i=p
    .rw[if_pos u] at d;rw[Option.some.inj d];exact f (k - 1) ⋯ ⋯
    .rw[if_neg u,getElem?_eq_getElem ⋯] at d;rw[Option.some.inj d];exact l (i - 1) (k - 1) ⋯ ⋯
theorem VG{l:List Nat}(h:l.Pairwise (·<·)):fJ l.toArray:=by
 intro i j b a;have:=List.pairwise_iff_getElem.mp h i j (by simpa using Nat.lt_trans a b) (by simpa using b) a;simpa using this
theorem ug(n:Nat):fJ (Array.range n):=by
 intro i j b a;simp only[Array.getElem_range];exact a
theorem Tu:fJ #[]:=λi j hj hi=>absurd hj (by simp)
theorem R1:∀(a:Nat)(p:SetTable.Probe),(∀d,p.dummy=some d->t.place[SetTable.below t.place d]?≠some d)->
  ∀j d,SetTable.probe.go t hf h a p=some (.empty j d)->t.place[SetTable.below t.place (d.getD j)]?≠some (d.getD j):=by
 intro a
 induction a with
 |zero=>intro p _ j d e;unfold SetTable.probe.go at e;cases e
 |succ f g=>
  intro p c j d e;unfold SetTable.probe.go at e;have l:(t.slot p.j=.empty\/t.slot p.j=.dummy)->t.place[SetTable.below t.place p.j]?≠some p.j:=by
   intro z q;unfold SetTable.slot at z;dsimp only at z;rw[if_pos (by rw[q];exact beq_self_eq_true _)] at z;rcases z with z |z<;>cases z
  have b:∀q:SetTable.Probe,(t.advance q).dummy=q.dummy:=λq=>by unfold SetTable.advance;split<;>rfl
  split at e
  .rename_i hs;cases e;cases q:p.dummy with
   |none=>exact l (.inl hs)
   |some d=>exact c d q
  .rename_i hs;refine g _ (λd q=>?_) j d e;rw[b] at q;cases q;exact l (.inr hs)
  .rename_i i hs;split at e
   .cases e
   .refine g _ (λd q=>c d (by rw[b] at q;exact q)) j d e
theorem Tv{t:SetTable}{h:Int}{s:Nat}{b:Bool}(e:t.freeSlot h=some (s,b)):t.place[SetTable.below t.place s]?≠some s:=by
 unfold SetTable.freeSlot at e;split at e
 .rename_i j d q;cases e;exact R1 _ _ (λd z=>by cases z) j d q
 .cases e
theorem Pf{t:SetTable}(a:fJ t.place)(n:Nat):fJ (t.orStandIn n).place/\(t.orStandIn n).led=t.led:=by
 unfold SetTable.orStandIn;split
 .exact⟨a,rfl⟩
 .exact⟨ug _,rfl⟩
theorem R3{t:SetTable}(c:fJ t.place)(a:Array (Int×af))(h:Int)(x:af):fJ (layNew t a h x).2.1.place/\(layNew t a h x).2.1.led=t.led:=by
 unfold layNew;split
 .rename_i s b e;exact Pf (t:=(t.put s).1) (R0 c (Tv e)) _
 .exact⟨ug _,rfl⟩
theorem Px{t:SetTable}(l:fJ t.place)(f:Array (Int×af))(n:Nat):fJ (relayAll t f n).2.1.place/\(relayAll t f n).2.1.led=t.led:=by
 unfold relayAll;split
 .rename_i t' o e;dsimp only;split
  .unfold SetTable.relaid SetTable.laid at e;cases q:SetTable.layClean (SetTable.sizeAbove n - 1) (f.map (·.1)) with
   |none=>rw[q] at e;cases e
   |some h=>
    rw[q] at e;cases e;refine⟨VG ?_,rfl⟩;rw[List.pairwise_map];refine List.Pairwise.filterMap (R:=(·<·)) _ (λa i g b d j c=>?_) List.pairwise_lt_range;cases z1:h.getD a none with
    |none=>rw[z1] at d;cases d
    |some m=>
     rw[z1] at d;cases d;cases z2:h.getD i none with
     |none=>rw[z2] at c;cases c
     |some p=>rw[z2] at c;cases c;exact g
  .exact⟨ug _,rfl⟩
 .exact⟨ug _,rfl⟩
theorem yh:∀(l:List j)(i:Nat)(h:i<l.length),(l[i]::l.eraseIdx i).Perm l
 |[],_,h=>absurd h (by simp)
 |_::_,0,_=>.refl _
 |x::r,i + 1,h=>(List.Perm.swap x _ _).trans (List.Perm.cons x (yh r i (by simpa using h)))
theorem Xs(nx:Nat->Nat):∀(a k:Nat)(left:List j)(out:Array j),left.length<=a->(pickOrder.go nx a k left out).toList.Perm (out.toList++left):=by
 intro a
 induction a with
 |zero=>intro k left out h;unfold pickOrder.go;cases left with
  |nil=>simp
  |cons _ _=>simp at h
 |succ f b=>
  intro k left out h;unfold pickOrder.go;cases left with
  |nil=>simp
  |cons y r=>
   have hm:nx k % (y::r).length<(y::r).length:=Nat.mod_lt _ (by simp);rw[List.getElem?_eq_getElem hm];dsimp only;refine (b _ _ _ (by rw[List.length_eraseIdx_of_lt hm];simp at h ⊢;omega)).trans ?_;rw[Array.toList_push,append_assoc];refine List.Perm.append_left _ ?_;exact yh _ _ hm
theorem Tw(nx:Nat->Nat)(xs:Array j):(pickOrder nx xs).toList.Perm xs.toList:=by
 unfold pickOrder;simpa using Xs nx xs.size 0 xs.toList #[] (by simp)
section
variable{prog:Program}{w:World}{K:Type}[DecidableEq K]
noncomputable def gX(knd:KeyKind prog w K)(v:af):Option K:=by
 classical exact if h:∃k,knd.is k v=true then some h.choose else none
variable{knd:KeyKind prog w K}
theorem oD(h:knd.is k v=true):gX knd v=some k:=by
 unfold gX;have ex:∃k,knd.is k v=true:=⟨k,h⟩;rw[dif_pos ex];exact congrArg some (knd.inj v _ _ ex.choose_spec h)
def fW(w:World):Bool:=!(w.params.followText "set-order")
def GS(knd:KeyKind prog w K)(o:Obj)(ks:List K):Prop:=
 o.ExactSet/\∃a b t,o.data=.set a b t/\ElemsOf knd a.toList/\t.fits a.size=true/\fJ t.place/\t.led=fW w/\(a.toList.filterMap λe=>gX knd e.2).Perm ks
theorem FK:∀{a:List (Int×af)},ElemsOf knd a->(a.filterMap λe=>gX knd e.2).length=a.length
 |[],_=>rfl
 |e::r,h=>by
  let⟨⟨k,b,_⟩,_⟩:=h.head;rw[filterMap_cons,oD b];simp[FK h.tail]
theorem zj{o:Obj}{a:Array (Int×af)}{ks:List K}(h:ElemsOf knd a.toList)(p:(a.toList.filterMap λe=>gX knd e.2).Perm ks):a.size=ks.length:=by
 rw[<- p.length_eq,FK h,length_toList]
theorem VH(h:ElemsOf knd a)(k:K):(k∈a.filterMap λe=>gX knd e.2)↔∃e∈a,knd.is k e.2=true:=by
 rw[mem_filterMap];constructor
 .rintro⟨e,he,q⟩;let⟨⟨c,b,_⟩,_⟩:=h e he;rw[oD b] at q;cases q;exact⟨e,he,b⟩
 .rintro⟨e,he,q⟩;exact⟨e,he,oD q⟩
variable{A:Around}{E:af->ai->Prop}{s:ai}
theorem HI{h:aP}{a:ae}{o:Obj}{b es':Array (Int×af)}{ep:Nat}{t t':SetTable}(c:h.get? a=some o)(hd:o.data=.set b ep t):
  (h.update a (Obj.putSet es' t')).get? a=some { o with data:=.set es' (ep+1) t' }:=by
 have:=Heap.get?_update_self (Obj.putSet es' t') c (by rw[putSet_of es' t' hd];rfl);rw[putSet_of es' t' hd] at this;exact this
theorem G9{g:Bool->Sem Unit}(G:∀(b:Bool)(f:ai)(r:Unit->ai->Prop),r () f->wpAny (model prog w) A (g b) r E f){a:ae}{o:Obj}{C:Array (Int×af)}{ep:Nat}{t:SetTable}(y:s.heap.get? a=some o)(l:o.ExactSet)(hd:o.data=.set C ep t){c:Array (Int×af)}{d:SetTable}{ks:List K}(j:ElemsOf knd c.toList)(z:(c.toList.filterMap λe=>gX knd e.2).Perm ks)(x:c.size<scanBound)(D:d.fits c.size=true)(v:fJ d.place)(u:d.led=fW w){H:Bool}{R:Option Bool->ai->Prop}(h:∀h' o',Heap.SameBut a s.heap h'->h'.get? a=some o'->GS knd o' ks->R (some true) { s with heap:=h' }):
  wpAny (model prog w) A (do
    storeSet a c d
    if (!H&&d.tooFull)=true then do
      g (relayAll d c (SetTable.grown c.size)).2.2
      storeSet a (relayAll d c (SetTable.grown c.size)).1 (relayAll d c (SetTable.grown c.size)).2.1
      pure (some true)
     else pure (some true)) R E s:=by
 refine wpAny_bind (wpAny_storeSet_of y hd ?_ (fits_of_scanBound x));have i:=HI (es':=c) (t':=d) y hd;have m:=Heap.SameBut.update s.heap a (Obj.putSet c d);split
 .have q1:=relayAll_perm d c (SetTable.grown c.size);have B:=relayAll_fits d c (SetTable.grown c.size);have q:=Px v c (SetTable.grown c.size);generalize relayAll d c (SetTable.grown c.size)=Rl at q1 B q ⊢;have p:Rl.1.size=c.size:=by rw[<- length_toList,q1.length_eq,length_toList]
  refine wpAny_bind (G _ _ _ ?_);refine wpAny_bind (wpAny_storeSet_of i rfl ?_ (fits_of_scanBound (by rw[p];exact x)));have n:=HI (es':=Rl.1) (t':=Rl.2.1) i rfl;exact wpAny_pure (h _ _ (m.trans (Heap.SameBut.update _ a _)) n ⟨l,_,_,_,rfl,j.perm q1,B,q.1,q.2.trans u,(q1.filterMap _).trans z⟩)
 .exact wpAny_pure (h _ _ m i ⟨l,_,_,_,rfl,j,D,v,u,z⟩)
def d3(ks:List K)(k:K):List K:=if k∈ks then ks else ks++[k]
theorem z'o{a:ae}{o:Obj}{ks:List K}{k:K}{x:af}{Q:Bool->ai->Prop}(f:knd.is k x=true)(u:x.scannable=true)(D:s.heap.get? a=some o)(hG:GS knd o ks)(r:ks.length+1<scanBound)(h:∀(b:Bool) h' o',Heap.SameBut a s.heap h'->h'.get? a=some o'->GS knd o' (d3 ks k)->Q b { s with heap:=h' }):
  wpAny (model prog w) A (setAddHashed a x (knd.hash k)) Q E s:=by
 let⟨p,m,ep,t,hd,d,M,hR,J,G⟩:=hG;have hn:=zj (o:=o) d G;have i:=VH d k;unfold setAddHashed setAddHashedIn;refine wpAny_holding (wpAny_bind (wpAny_setState_of D hd M ?_));dsimp only;rw[byScan_of u (by rw[hn];omega) d];simp only[↓reduceIte];unfold setAddByScan;refine wpAny_bind (wpAny_bind (wpAny_rule (wpAny_bind (wpAny_setScan_of f D hd M d ?_))));cases hr:List.findIdx? (λe=>knd.is k e.2) m.toList with
 |some j=>
  dsimp only;let⟨hj,U,_⟩:=List.findIdx?_eq_some_iff_getElem.mp hr;have O:k∈ks:=G.mem_iff.mp (i.mpr ⟨m.toList[j],List.getElem_mem hj,U⟩);refine wpAny_pure (wpAny_pure ?_);have:=h false s.heap o (Heap.SameBut.refl a s.heap) D ⟨p,m,ep,t,hd,d,M,hR,J,by unfold d3;rw[if_pos O];exact G⟩;have e:s={ s with heap:=s.heap }:=by cases s;rfl
  rw[e];exact this
 |none=>
  dsimp only;have O:¬ k∈ks:=λz=>by
   let⟨e,he,q⟩:=i.mp (G.mem_iff.mpr z);have:=List.findIdx?_eq_none_iff.mp hr e he;rw[q] at this;cases this
  have N:∀(b:Bool){c:ai}{B:Unit->ai->Prop},B () c->wpAny (model prog w) A (match b with |true=>rule "set.scan.the-table-gave-way" |false=>pure ()) B E c:=
   λb c B l=>by cases b<;>first |exact wpAny_pure l |exact wpAny_rule l
  have v:=layNew_perm t m (knd.hash k) x;have I:=layNew_fits t m (knd.hash k) x;have y:=R3 hR m (knd.hash k) x;generalize layNew t m (knd.hash k) x=L at v I y ⊢;let⟨n,t1,wd,Y⟩:=L;dsimp only at v I y ⊢;rw[Array.toList_push] at v;have g:ElemsOf knd n.toList:=(d.push f u).perm v;have H:(n.toList.filterMap λe=>gX knd e.2).Perm (d3 ks k):=by
   refine (v.filterMap _).trans ?_;rw[List.filterMap_append];unfold d3;rw[if_neg O];refine List.Perm.append G ?_;rw[filterMap_cons,oD (show knd.is k ((knd.hash k,x):Int×af).2=true from f)];exact .refl _
  have C:n.size<scanBound:=by rw[<- length_toList,v.length_eq,length_append,length_toList,hn];exact r
  refine wpAny_bind (N _ ?_);split
  .refine wpAny_bind ?_;rw[hashByValue_scannable 8 u];refine wpAny_pure ?_;refine G9 ?_ D p hd g H C ?_ ?_ ?_ ?_
   .intro b c B l;cases b<;>first |exact wpAny_pure l |exact wpAny_rule l
   .split
    .exact I
    .exact SetTable.fits_plain_off I
   .split<;>exact y.1
   .split<;>exact y.2.trans J
   .intro h' o' hsb ho' hG';dsimp only;exact wpAny_pure (h true h' o' hsb ho' hG')
  .refine wpAny_bind (wpAny_pure ?_);simp only[↓reduceIte];refine G9 ?_ D p hd g H C I y.1 (y.2.trans J) ?_
   .intro b c B l;cases b<;>first |exact wpAny_pure l |exact wpAny_rule l
   .intro h' o' hsb ho' hG';dsimp only;exact wpAny_pure (h true h' o' hsb ho' hG')
def dA(ks:List K):List K:=ks.foldl d3 []
theorem SO(ks:List K)(k:K):dA (ks++[k])=d3 (dA ks) k:=by unfold dA;rw[List.foldl_append];rfl
theorem VI(ks:List K)(k:K):(d3 ks k).length<=ks.length+1:=by unfold d3;split<;>simp
theorem Py:∀ks:List K,(ks.reverse.foldr (λx a=>d3 a x) []).length<=ks.length:=by
 intro ks;rw[List.foldr_reverse];generalize b:([]:List K)=a0;have:∀(l a:List K),(l.foldl d3 a).length<=a.length+l.length:=by
  intro l
  induction l with
  |nil=>intro a;exact le_refl _
  |cons x r c=>intro a;have:=c (d3 a x);have:=VI a x;simp only[foldl_cons,length_cons];omega
 have:=this ks a0;rw[<- b] at this ⊢;simpa using this
theorem uq(ks:List K):(dA ks).length<=ks.length:=by
 have:=Py ks;rw[List.foldr_reverse] at this;exact this
end
theorem ic:Slot "set_iterator" "__next__" "set_iterator.__next__":=
 .of (owner:="set_iterator") (n:="__next__") (by rw[typeLookup_type,builtinLookup_eq_fast];kernel_rfl) (by decide +kernel) (by decide +kernel) (by decide +kernel)
  (by first |exact .inl (by decide +kernel) |exact .inr (by decide +kernel)) (by rw[isSubtype_type];kernel_rfl)
theorem tX:entryFor table "set_iterator.__next__"=some Builtin.«set_iterator.__next__»:=entryFor_of_fast (by kernel_rfl)
theorem tY(a:af):argsOk "set_iterator.__next__" ⟨[a],[]⟩:=by unfold argsOk;kernel_rfl
theorem Ek:Slot "set_iterator" "__iter__" "set_iterator.__iter__":=
 .of (owner:="set_iterator") (n:="__iter__") (by rw[typeLookup_type,builtinLookup_eq_fast];kernel_rfl) (by decide +kernel) (by decide +kernel) (by decide +kernel)
  (by first |exact .inl (by decide +kernel) |exact .inr (by decide +kernel)) (by rw[isSubtype_type];kernel_rfl)
theorem Ob:entryFor table "set_iterator.__iter__"=some Builtin.«dict_keyiterator.__iter__»:=
 entryFor_alias (id':="dict_keyiterator.__iter__") (by kernel_rfl) rfl (by decide +kernel) (by kernel_rfl)
theorem Ox(a:af):argsOk "set_iterator.__iter__" ⟨[a],[]⟩:=by unfold argsOk;kernel_rfl
theorem O8:entryFor table "set.__iter__"=some Builtin.«frozenset.__iter__»:=
 entryFor_alias (id':="frozenset.__iter__") (by kernel_rfl) rfl (by decide +kernel) (by kernel_rfl)
def iX(first:af)(i a n ep:Nat):Obj:={ cls:=.type "set_iterator",data:=.fields #[first,.int i 0,.ref a,.int n 0,.int ep 0] }
section
variable{prog:Program}{w:World}{A:Around}{E:af->ai->Prop}{s:ai}
theorem FY{Q:af->ai->Prop}(c:s.heap.get? I=some (iX first i a n ep))(h:Q (.ref I) s):wpAny (model prog w) A (pyIter (.ref I)) Q E s:=by
 have b:s.TypeIs (.ref I) "set_iterator":=⟨_,c,rfl⟩
 refine wpAny_pyIter_slot b Ek (wpAny_call_entry Ek b Ob ?_ (Ox _));show wpAny _ _ (ret (.ref I)) _ _ s;exact wpAny_pure ⟨_,rfl,"set_iterator",_,b,ic.lookup,h⟩
theorem VJ{I a o es ep t n}{d b i:Nat}{x:af}{Q:bG->ai->Prop}(c:s.heap.get? I=some (iX (.int d 0) i a n ep))(q:s.heap.get? a=some o)(hd:o.data=.set es ep t)(p:t.fits es.size=true)(hn:es.size=n)(r:∀(h:Around)(j:af->ai->Prop)(e:Option (af×Nat)->ai->Prop),e (some (x,b)) s->wpAny (model prog w) h (setNext a d i ep) e j s)(m:∀h',h'.get? I=some (iX (.int b 0) (i+1) a n ep)->Heap.SameBut I s.heap h'->Q (some x) { s with heap:=h' }):wpAny (model prog w) A (pyNext (.ref I)) Q E s:=by
 have g:s.TypeIs (.ref I) "set_iterator":=⟨_,c,rfl⟩
 unfold pyNext;refine wpAny_bind (wpAny_attempt (wpAny_callSpecial?_slot (name:=Str.ofString "__next__") g ic (wpAny_call_entry ic g tX ?_ (tY _))));show wpAny _ _ (fieldsOf (.ref I) >>= _) _ _ s;refine wpAny_bind (wpAny_fieldsOf c rfl ?_);show wpAny _ _ (setEntries a >>= _) _ _ s;refine wpAny_bind (wpAny_setEntries_of q hd p ?_);rw[if_neg (by rw[hn];simp)];show wpAny _ _ (setNext a (Int.toNat d) (Int.toNat i) (Int.toNat ep) >>= _) _ _ s;simp only[toNat_natCast];refine wpAny_bind (r _ _ _ ?_);dsimp only;refine wpAny_bind (wpAny_setField c rfl (by simp) ?_);have f:=Heap.get?_update_self (Obj.mapFields (·.setIfInBounds 0 (rawInt b))) c rfl;refine wpAny_bind (wpAny_setField f rfl (by simp[iX,Obj.mapFields]) (wpAny_pure ⟨x,rfl,wpAny_pure (m _ ?_ ((Heap.SameBut.update ..).trans (Heap.SameBut.update ..)))⟩));have l:=Heap.get?_update_self (Obj.mapFields (·.setIfInBounds 1 (rawInt ((i:Int)+1)))) f rfl;exact l
theorem Xt{I a o es ep t n}{d i:Nat}{Q:bG->ai->Prop}(p:A.handled=none)(c:s.heap.get? I=some (iX (.int d 0) i a n ep))(q:s.heap.get? a=some o)(hd:o.data=.set es ep t)(l:t.fits es.size=true)(hn:es.size=n)(r:∀(g:Around)(h:af->ai->Prop)(e:Option (af×Nat)->ai->Prop),e none s->wpAny (model prog w) g (setNext a d i ep) e h s)(j:∀h',Heap.ExtBut I s.heap h'->Q none { s with heap:=h' }):wpAny (model prog w) A (pyNext (.ref I)) Q E s:=by
 have f:s.TypeIs (.ref I) "set_iterator":=⟨_,c,rfl⟩
 unfold pyNext;refine wpAny_bind (wpAny_attempt (wpAny_callSpecial?_slot (name:=Str.ofString "__next__") f ic (wpAny_call_entry ic f tX ?_ (tY _))));show wpAny _ _ (fieldsOf (.ref I) >>= _) _ _ s;refine wpAny_bind (wpAny_fieldsOf c rfl ?_);show wpAny _ _ (setEntries a >>= _) _ _ s;refine wpAny_bind (wpAny_setEntries_of q hd l ?_);rw[if_neg (by rw[hn];simp)];show wpAny _ _ (setNext a (Int.toNat d) (Int.toNat i) (Int.toNat ep) >>= _) _ _ s;simp only[toNat_natCast];refine wpAny_bind (r _ _ _ ?_);dsimp only;refine wpAny_bind (wpAny_setField c rfl (by simp) ?_);show wpAny _ _ (newExc (.type "StopIteration") [] >>= _) _ _ _;refine wpAny_bind ?_;simp only[newExc,newTuple];refine wpAny_bind (wpAny_newObj_type ?_ (by size_fits));refine wpAny_bind (m:=firstArgMember _ _) (wpAny_of_eq (a:=Value.none) (by first |rfl |(simp only[firstArgMember];rfl)) ?_);refine wpAny_newObj_type ?_ (by size_fits);simp only[raiseNew];refine wpAny_bind (wpAny_handled ?_);rw[show A.in1.handled=none from p];refine wpAny_bind (wpAny_pure (wpAny_throw ?_));refine wpAny_bind (wpAny_isInstance (T:="StopIteration") (b:=true) ⟨_,Heap.get?_push_size _ rfl,rfl⟩ isSubtype_stop ?_);exact wpAny_pure (j _ (((Heap.SameBut.update ..).extBut.push _).push _))
theorem SQ{I a o es ep t n tp pl pn}{i j:Nat}{x:af}{Q:bG->ai->Prop}{po:Obj}(b:s.heap.get? I=some (iX (.ref tp) i a n ep))(g:s.heap.get? a=some o)(hd:o.data=.set es ep t)(f:t.fits es.size=true)(hn:es.size=n)(p:s.heap.get? tp=some po)(c:po.data=.seq pl pn)(m:pl[i]?=some (.int j 0))(d:∃h,es[j]?=some (h,x))(l:∀h',h'.get? I=some (iX (.ref tp) (i+1) a n ep)->Heap.SameBut I s.heap h'->Q (some x) { s with heap:=h' }):wpAny (model prog w) A (pyNext (.ref I)) Q E s:=by
 have e:s.TypeIs (.ref I) "set_iterator":=⟨_,b,rfl⟩
 let⟨hv,d⟩:=d;unfold pyNext;refine wpAny_bind (wpAny_attempt (wpAny_callSpecial?_slot (name:=Str.ofString "__next__") e ic (wpAny_call_entry ic e tX ?_ (tY _))));show wpAny _ _ (fieldsOf (.ref I) >>= _) _ _ s;refine wpAny_bind (wpAny_fieldsOf b rfl ?_);show wpAny _ _ (setEntries a >>= _) _ _ s;refine wpAny_bind (wpAny_setEntries_of g hd f ?_);rw[if_neg (by rw[hn];simp)];show wpAny _ _ (seqItems? (.ref tp) >>= _) _ _ s;refine wpAny_bind (wpAny_seqItems p c ?_);dsimp only;simp only[toNat_natCast,m];refine wpAny_bind ?_;unfold setNextDrawn;refine wpAny_bind (wpAny_setState_of g hd f ?_);simp only[toNat_natCast,bne_self_eq_false,false_eq_true,if_false,d];refine wpAny_pure ?_;refine wpAny_bind (wpAny_setField b rfl (by simp) (wpAny_pure ⟨x,rfl,wpAny_pure (l _ ?_ (Heap.SameBut.update ..))⟩));exact Heap.get?_update_self (Obj.mapFields (·.setIfInBounds 1 (rawInt ((i:Int)+1)))) b rfl
theorem VL{I a o es ep t n tp pl pn}{Q:bG->ai->Prop}(j:A.handled=none)(c:s.heap.get? I=some (iX (.ref tp) i a n ep))(p:s.heap.get? a=some o)(hd:o.data=.set es ep t)(h:t.fits es.size=true)(hn:es.size=n)(q:s.heap.get? tp=some po)(d:po.data=.seq pl pn)(l:pl[i]?=none)(g:∀h',Heap.ExtBut I s.heap h'->Q none { s with heap:=h' }):wpAny (model prog w) A (pyNext (.ref I)) Q E s:=by
 have e:s.TypeIs (.ref I) "set_iterator":=⟨_,c,rfl⟩
 unfold pyNext;refine wpAny_bind (wpAny_attempt (wpAny_callSpecial?_slot (name:=Str.ofString "__next__") e ic (wpAny_call_entry ic e tX ?_ (tY _))));show wpAny _ _ (fieldsOf (.ref I) >>= _) _ _ s;refine wpAny_bind (wpAny_fieldsOf c rfl ?_);show wpAny _ _ (setEntries a >>= _) _ _ s;refine wpAny_bind (wpAny_setEntries_of p hd h ?_);rw[if_neg (by rw[hn];simp)];show wpAny _ _ (seqItems? (.ref tp) >>= _) _ _ s;refine wpAny_bind (wpAny_seqItems q d ?_);dsimp only;simp only[toNat_natCast,l];refine wpAny_bind (wpAny_setField c rfl (by simp) ?_);have f:=Heap.get?_update_self (Obj.mapFields (·.setIfInBounds 0 (rawInt 0))) c rfl;refine wpAny_bind (wpAny_setField f rfl (by simp[iX,Obj.mapFields]) ?_);show wpAny _ _ (newExc (.type "StopIteration") [] >>= _) _ _ _;refine wpAny_bind ?_;simp only[newExc,newTuple];refine wpAny_bind (wpAny_newObj_type ?_ (by size_fits));refine wpAny_bind (m:=firstArgMember _ _) (wpAny_of_eq (a:=Value.none) (by first |rfl |(simp only[firstArgMember];rfl)) ?_);refine wpAny_newObj_type ?_ (by size_fits);simp only[raiseNew];refine wpAny_bind (wpAny_handled ?_);rw[show A.in1.handled=none from j];refine wpAny_bind (wpAny_pure (wpAny_throw ?_));refine wpAny_bind (wpAny_isInstance (T:="StopIteration") (b:=true) ⟨_,Heap.get?_push_size _ rfl,rfl⟩ isSubtype_stop ?_);exact wpAny_pure (g _ ((((Heap.SameBut.update ..).trans (Heap.SameBut.update ..)).extBut.push _).push _))
end
section
variable{prog:Program}{w:World}{A:Around}{E:af->ai->Prop}{s:ai}
variable{a ep:Nat}{o:Obj}{es:Array (Int×af)}{t:SetTable}
theorem uh{Q:Bool->ai->Prop}(h:Q (w.params.followText "set-order") s):wpAny (model prog w) A setsByText Q E s:=by
 unfold setsByText;exact wpAny_bind (wpAny_askSetting (wpAny_pure h))
theorem E8{Q:Option (af×Nat)->ai->Prop}(d:s.heap.get? a=some o)(hd:o.data=.set es ep t)(c:t.fits es.size=true)(b:w.params.followText "set-order"=true)(h:Q (((pickOrder (w.params.setOrder a ep) es)[i]?).map λe=>(e.2,sl)) s):wpAny (model prog w) A (setNext a sl i ep) Q E s:=by
 unfold setNext;refine wpAny_bind (wpAny_setState_of d hd c ?_);refine wpAny_bind (uh ?_);rw[b];simp only[bne_self_eq_false,false_eq_true,if_false,if_true];refine wpAny_bind ?_;unfold setWalk;refine wpAny_bind (wpAny_setState_of d hd c ?_);refine wpAny_bind (uh ?_);rw[b];simp only[if_true];refine wpAny_bind (wpAny_askSetting (wpAny_pure ?_));exact wpAny_pure h
theorem FZ{Q:Option (af×Nat)->ai->Prop}(f:s.heap.get? a=some o)(hd:o.data=.set es ep t)(e:t.fits es.size=true)(b:w.params.followText "set-order"=false)(d:t.led=true)(c:(!t.plain&&decide (es.size > 1))=false)(h:Q (match es[SetTable.below t.place sl]?,t.place[SetTable.below t.place sl]? with |some (_,x),some j=>some (x,j+1) |_,_=>none) s):wpAny (model prog w) A (setNext a sl i ep) Q E s:=by
 unfold setNext;refine wpAny_bind (wpAny_setState_of f hd e ?_);refine wpAny_bind (uh ?_);rw[b];simp only[false_eq_true,if_false];show wpAny _ _ (if (!t.plain&&decide (es.size > 1))=true then _ else _) _ _ _;rw[c];simp only[false_eq_true,if_false];refine wpAny_bind ?_;show wpAny _ _ (if (!t.led && !es.isEmpty)=true then _ else _) _ _ _;rw[d];simp only[Bool.not_true,Bool.false_and,false_eq_true,if_false];exact wpAny_pure (wpAny_pure h)
theorem EX(G:A.handled=none)(I:ae)(z:a≠I)(hd:o.data=.set es ep t)(B:t.fits es.size=true)(c:dh)(L:c.size=es.size)(p:Nat->Nat)(H:∀(s:ai)(f:Around)(g:af->ai->Prop)(d:Option (af×Nat)->ai->Prop)(i:Nat)(x:af),c[i]?=some x->s.heap.get? a=some o->d (some (x,p (i+1))) s->wpAny (model prog w) f (setNext a (p i) i ep) d g s)(he:∀(s:ai)(f:Around)(g:af->ai->Prop)(d:Option (af×Nat)->ai->Prop),s.heap.get? a=some o->d none s->wpAny (model prog w) f (setNext a (p es.size) es.size ep) d g s):
  Walks prog w A I [I,a] [I] es.size (λi v=>c[i]?=some v) (λi h=>h.get? I=some (iX (.int (p i) 0) i a es.size ep)/\h.get? a=some o) where
 sub:=λb j=>by simp at j;simp[j]
 frame:=λ_ _ _ st C=>⟨C I (by simp) _ st.1,C a (by simp) _ st.2⟩
 item:=λi s Q E J st l=>by
  have D:c[i]?=some c[i]:=getElem?_eq_getElem ⋯;refine VJ (n:=es.size) st.1 st.2 hd B rfl (λf g d q=>H s f g d i _ D st.2 q) λr u m=>?_
  exact l _ r s.toks D ⟨u,m.extBut a _ z st.2⟩ λb o j e=>m.extBut b o (λh=>j (by simp[h])) e
 done:=λs Q E st l=>Xt G st.1 st.2 hd B rfl (λf g d q=>he s f g d st.2 q) λr y=>l r s.toks λb o j e=>y b o (λh=>j (by simp[h])) e
 self:=λ_ _ _ _ st l=>FY st.1 l
theorem R4(H:A.handled=none)(I l:ae)(B:a≠I)(C:l≠I)(hd:o.data=.set es ep t)(G:t.fits es.size=true)(c:dh)(L:c.size=es.size)(g:List Nat)(N:g.length=es.size)(hv:∀(i j:Nat),g[i]?=some j->∃h x,c[i]?=some x/\es[j]?=some (h,x)){po:Obj}{pn:Nat}(p:po.data=.seq (g.map λj:Nat=>rawInt j).toArray pn):
  Walks prog w A I [I,a,l] [I] es.size (λi v=>c[i]?=some v) (λi h=>h.get? I=some (iX (.ref l) i a es.size ep)/\h.get? a=some o/\h.get? l=some po) where
 sub:=λb f=>by simp at f;simp[f]
 frame:=λ_ _ _ st z=>⟨z I (by simp) _ st.1,z a (by simp) _ st.2.1,z l (by simp) _ st.2.2⟩
 item:=λi s Q E J st m=>by
  have D:g[i]?=some g[i]:=List.getElem?_eq_getElem ⋯;let⟨h,x,M,y⟩:=hv i _ D;refine SQ (n:=es.size) (j:=g[i]) st.1 st.2.1 hd G rfl st.2.2 p (by rw[List.getElem?_toArray,getElem?_map,D];rfl) ⟨h,y⟩ λq r d=>?_
  exact m _ q s.toks M ⟨r,d.extBut a _ B st.2.1,d.extBut l _ C st.2.2⟩ λb o f e=>d.extBut b o (λh=>f (by simp[h])) e
 done:=λs Q E st m=>VL H st.1 st.2.1 hd G rfl st.2.2 p (by rw[List.getElem?_toArray,getElem?_map,getElem?_eq_none ⋯];rfl) λq u=>m q s.toks λb o f e=>u b o (λh=>f (by simp[h])) e
 self:=λ_ _ _ _ st m=>FY st.1 m
theorem SR:∀(n:Nat)(xs:List j)(s:ai)(Q:List j->ai->Prop),xs.length=n->(∀d' ys,ys.Perm xs->Q ys { s with drawn:=d' })->wpAny (model prog w) A (drawOrder n xs) Q E s:=by
 intro n
 induction n with
 |zero=>intro xs s Q b h;unfold drawOrder;cases xs with
  |nil=>exact wpAny_pure (h s.drawn [] (.refl _))
  |cons _ _=>simp at b
 |succ n e=>
  intro xs s Q b h;cases xs with
  |nil=>simp at b
  |cons x r=>
   unfold drawOrder;refine wpAny_bind ?_;refine λf p d=>⟨by simp,?_⟩
   have hm:(model prog w).w.draws .order (s.drawn.get .order) % (x::r).length<(x::r).length:=Nat.mod_lt _ (by simp);show wpAny (model prog w) A _ Q E { s with drawn:=s.drawn.bump .order };rw[List.getElem?_eq_getElem hm];dsimp only;refine wpAny_bind (e _ _ _ (by rw[List.length_eraseIdx_of_lt hm];simp at b ⊢;omega) λd' ys c=>?_);exact wpAny_pure (h d' _ ((c.cons _).trans (yh _ _ hm)))
theorem Xu{K:Type}[DecidableEq K]{knd:KeyKind prog w K}{ks:List K}(hh:A.handled=none)(D:s.heap.get? a=some o)(hG:GS knd o ks)(hsz:ks.length<=sizeLine){Q:af->ai->Prop}(h:∀(h1:aP)(d1:Drawn)(I:ae)(c:dh)(fp:b7)(St:Nat->aP->Prop),(∀b o,s.heap.get? b=some o->h1.get? b=some o)->(∀b∈fp,b=a\/⇑s<=b/\b<h1.objs.size)->⇑s<=I->
   (∀v∈c.toList,∃k,knd.is k v=true)->(c.toList.filterMap (gX knd)).Perm ks->Walks prog w A I fp [I] c.size (λi v=>c[i]?=some v) St->St 0 h1->Q (.ref I) { s with heap:=h1,drawn:=d1 }):
  wpAny (model prog w) A (pyIter (.ref a)) Q E s:=by
 let⟨δ,es,ep,t,hd,α,d,hR,hL,hp⟩:=hG;have hT:s.TypeIs (.ref a) "set":=⟨o,D,δ.1⟩;have ha:a<⇑s:=Heap.lt_size D;have p:∀c:dh,c.toList.Perm (es.toList.map (·.2))->(∀v∈c.toList,∃k,knd.is k v=true)/\(c.toList.filterMap (gX knd)).Perm ks:=by
  intro c q;refine⟨λv hv=>?_,(q.filterMap _).trans ?_⟩
  .obtain⟨e,he,rfl⟩:=mem_map.mp (q.mem_iff.mp hv);let⟨⟨k,hk,_⟩,_⟩:=α e he;exact⟨k,hk⟩
  .rw[List.filterMap_map];exact hp
 have ε:t.place.size=es.size:=by unfold SetTable.fits at d;simp only[and_eq_true,beq_iff_eq] at d;exact d.1
 refine wpAny_pyIter_slot hT F.slot_set_iter (wpAny_call_entry F.slot_set_iter hT O8 ?_ (F.args_set_iter_1 _));show wpAny _ _ (Builtin.Frozenset.sizeOf a >>= _) _ _ s;refine wpAny_bind ?_;unfold Builtin.Frozenset.sizeOf;refine wpAny_bind (wpAny_setEntries_of D hd d (wpAny_pure ?_));refine wpAny_bind ?_;unfold setDrawn;refine wpAny_bind (wpAny_setState_of D hd d ?_);refine wpAny_bind (uh ?_);show wpAny _ _ (pure (!(w.params.followText "set-order")&&(!t.plain&&decide (es.size > 1)))) _ _ _;refine wpAny_pure ?_;cases hB:w.params.followText "set-order" with
 |true=>
  simp only[Bool.not_true,Bool.false_and,false_eq_true,if_false];refine wpAny_bind (wpAny_pure ?_);refine wpAny_bind (wpAny_setEpoch_of D hd d ?_);refine wpAny_bind (wpAny_newObj_type (wpAny_pure ⟨_,rfl,"set_iterator",_,⟨_,Heap.get?_push_size _ rfl,rfl⟩,ic.lookup,?_⟩));have N:((pickOrder (w.params.setOrder a ep) es).map (·.2)).toList.Perm (es.toList.map (·.2)):=by rw[Array.toList_map];exact (Tw _ es).map _
  have g:((pickOrder (w.params.setOrder a ep) es).map (·.2)).size=es.size:=by rw[<- length_toList,N.length_eq,length_map,length_toList]
  let⟨k1,k2⟩:=p _ N;have W:=EX (prog:=prog) (w:=w) (A:=A) (a:=a) (o:=o) (ep:=ep) (t:=t) hh ⇑s (ne_of_lt ha) hd d _ g (λ_=>0) (λs A' E' Q' i x B f q=>E8 f hd d hB (by rw[Array.getElem?_map] at B;cases z:(pickOrder (w.params.setOrder a ep) es)[i]? with |none=>rw[z] at B;cases B |some y=>rw[z] at B;cases B;exact q)) (λs A' E' Q' f q=>E8 f hd d hB (by rw[Array.getElem?_eq_none (by rw[Array.size_map] at g;omega)];exact q));rw[<- g] at W;refine h _ s.drawn _ _ _ _ (λb o e=>Heap.get?_push_of_some _ e) (λb u=>?_) (le_refl _) k1 k2 W ⟨by rw[g];exact Heap.get?_push_size _ rfl,Heap.get?_push_of_some _ D⟩;rcases mem_cons.mp u with rfl |u
  .exact .inr ⟨le_refl _,by rw[Heap.size_push];exact lt_succ_self _⟩
  .exact .inl (by simpa using u)
 |false=>
  simp only[Bool.not_false,Bool.true_and];cases hD:(!t.plain&&decide (es.size > 1)) with
  |false=>
   simp only[false_eq_true,if_false];refine wpAny_bind (wpAny_pure ?_);refine wpAny_bind (wpAny_setEpoch_of D hd d ?_);refine wpAny_bind (wpAny_newObj_type (wpAny_pure ⟨_,rfl,"set_iterator",_,⟨_,Heap.get?_push_size _ rfl,rfl⟩,ic.lookup,?_⟩));have N:(es.map (·.2)).toList.Perm (es.toList.map (·.2)):=by rw[Array.toList_map]
   have g:(es.map (·.2)).size=es.size:=by rw[Array.size_map]
   let⟨k1,k2⟩:=p _ N;have U:t.led=true:=by rw[hL];unfold fW;rw[hB];rfl
   have Y:∀i,i<=es.size->SetTable.below t.place (if i=0 then 0 else t.place.getD (i - 1) 0+1)=i:=by
    intro i C;by_cases z:i=0
    .rw[if_pos z,z];exact RZ hR
    .rw[if_neg z];have β:i - 1<t.place.size:=⋯
     have:=VF hR β;rw[Array.getD_eq_getD_getElem?,getElem?_eq_getElem β];show SetTable.below t.place (t.place[i - 1]+1)=i;rw[this];omega
   have W:=EX (prog:=prog) (w:=w) (A:=A) (a:=a) (o:=o) (ep:=ep) (t:=t) hh ⇑s (ne_of_lt ha) hd d _ g (λi=>if i=0 then 0 else t.place.getD (i - 1) 0+1) (λs A' E' Q' i x B f q=>FZ f hd d hB U hD (by
      have C:i<es.size:=by have:=(Array.getElem?_eq_some_iff.mp B).1;rw[g] at this;exact this
      rw[Y i (le_of_lt C)];rw[Array.getElem?_map] at B;rw[getElem?_eq_getElem C] at B ⊢;rw[getElem?_eq_getElem (by omega:i<t.place.size)];cases B;have e2:(if i+1=0 then 0 else t.place.getD (i+1 - 1) 0+1)=t.place[i]'⋯+1:=by
       rw[if_neg ⋯,Nat.add_sub_cancel,Array.getD_eq_getD_getElem?,getElem?_eq_getElem ⋯];rfl
      rw[e2] at q;exact q)) (λs A' E' Q' f q=>FZ f hd d hB U hD (by
      rw[Y es.size (le_refl _),Array.getElem?_eq_none (le_refl _)];exact q))
   rw[<- g] at W;refine h _ s.drawn _ _ _ _ (λb o e=>Heap.get?_push_of_some _ e) (λb u=>?_) (le_refl _) k1 k2 W ⟨by rw[g];exact Heap.get?_push_size _ rfl,Heap.get?_push_of_some _ D⟩;rcases mem_cons.mp u with rfl |u
   .exact .inr ⟨le_refl _,by rw[Heap.size_push];exact lt_succ_self _⟩
   .exact .inl (by simpa using u)
  |true=>
   simp only[if_true];refine wpAny_bind (SR es.size _ s _ length_range λd1 m L=>?_);have J:m.length=es.size:=by rw[L.length_eq,length_range]
   have H:∀j∈m,j<es.size:=λj n=>mem_range.mp (L.mem_iff.mp n)
   simp only[newTuple];refine wpAny_bind (wpAny_newObj_type ?_ (by show (List.map _ m).toArray.size<=sizeLine;rw[size_toArray,length_map,J,zj (o:=o) α hp];exact hsz));have γ:(s.heap.push { cls:=.type "tuple",data:=.seq (m.map λj:Nat=>rawInt j).toArray }).get? a=some o:=Heap.get?_push_of_some _ D;refine wpAny_bind (wpAny_setEpoch_of (s:={ s with heap:=s.heap.push { cls:=.type "tuple",data:=.seq (m.map λj:Nat=>rawInt j).toArray },drawn:=d1 }) γ hd d ?_);refine wpAny_bind (wpAny_newObj_type (wpAny_pure ⟨_,rfl,"set_iterator",_,⟨_,Heap.get?_push_size _ rfl,rfl⟩,ic.lookup,?_⟩));have G:∀(l:List Nat),(∀j∈l,j<es.size)->(l.filterMap λj=>es[j]?.map (·.2)).length=l.length:=by
    intro l
    induction l with
    |nil=>intro _;rfl
    |cons j r ih=>
     intro hl;rw[filterMap_cons,getElem?_eq_getElem (hl j mem_cons_self)];simp[ih λi C=>hl i (mem_cons_of_mem _ C)]
   have O:∀(l:List Nat),(∀j∈l,j<es.size)->∀(i j:Nat),l[i]?=some j->(l.filterMap λj=>es[j]?.map (·.2))[i]?=es[j]?.map (·.2):=by
    intro l
    induction l with
    |nil=>intro _ i j e;simp at e
    |cons j r ih=>
     intro hl i k e;have n:=hl j mem_cons_self;rw[filterMap_cons,getElem?_eq_getElem n];cases i with
     |zero=>simp at e;subst e;rw[getElem?_eq_getElem n];rfl
     |succ i=>simpa using ih (λi C=>hl i (mem_cons_of_mem _ C)) i k (by simpa using e)
   have N:(m.filterMap λj=>es[j]?.map (·.2)).toArray.toList.Perm (es.toList.map (·.2)):=by
    refine (L.filterMap _).trans ?_;have:((List.range es.size).filterMap λj=>es[j]?.map (·.2))=es.toList.map (·.2):=by
     refine List.ext_getElem? λi=>?_
     by_cases C:i<es.size
     .rw[O (List.range es.size) (λj n=>mem_range.mp n) i i (by rw[List.getElem?_range C]),getElem?_map,Array.getElem?_toList]
     .rw[getElem?_eq_none (by rw[G _ λj n=>mem_range.mp n,length_range];omega),getElem?_eq_none (by rw[length_map,length_toList];omega)]
    rw[this]
   have g:(m.filterMap λj=>es[j]?.map (·.2)).toArray.size=es.size:=by rw[size_toArray,G m H,J]
   let⟨k1,k2⟩:=p _ N;have M:(s.heap.push { cls:=.type "tuple",data:=.seq (m.map λj:Nat=>rawInt j).toArray }).objs.size=⇑s+1:=Heap.size_push _ _;have W:=R4 (prog:=prog) (w:=w) (A:=A) (a:=a) (o:=o) (ep:=ep) (t:=t) hh (⇑s+1) ⇑s (ne_of_lt (Nat.lt_succ_of_lt ha)) (ne_of_lt (lt_succ_self _)) hd d _ g m J (λi j e=>by
     have n:=H j (mem_of_getElem? e);refine⟨es[j].1,es[j].2,?_,getElem?_eq_getElem n⟩;rw[List.getElem?_toArray,O m H i j e,getElem?_eq_getElem n];rfl) (po:={ cls:=.type "tuple",data:=.seq (m.map λj:Nat=>rawInt j).toArray }) (pn:=0) rfl
   rw[<- g] at W;rw[M];refine h _ d1 (⇑s+1) _ _ _ (λb o e=>Heap.get?_push_of_some _ (Heap.get?_push_of_some _ e)) (λb u=>?_) (le_succ _) k1 k2 W ⟨?_,Heap.get?_push_of_some _ γ,Heap.get?_push_of_some _ (Heap.get?_push_size _ rfl)⟩
   .rw[Heap.size_push,M];simp only[mem_cons,not_mem_nil,or_false] at u;rcases u with rfl |rfl |rfl
    .exact .inr ⟨le_succ _,lt_succ_self _⟩
    .exact .inl rfl
    .exact .inr ⟨le_refl _,Nat.lt_succ_of_lt (lt_succ_self _)⟩
   .rw[<- M,g];exact Heap.get?_push_size _ rfl
theorem Xv(e:s.heap.get? a=some o)(d:o.ExactSet){Q:Bool->ai->Prop}(h:Q false s):wpAny (model prog w) A (Builtin.List.listLengthHint (.ref a)) Q E s:=by
 have c:s.TypeIs (.ref a) "set":=⟨o,e,d.1⟩
 unfold Builtin.List.listLengthHint;refine wpAny_bind (wpAny_specialOf c F.slot_set_len.lookup ?_)
 (generalize ve:("set.__len__":String)=id0;(fail_if_success (clear ve id0));wp_delta;rw[show splitId id0=some ("set","__len__") from by subst ve;decide +kernel];subst ve)
 refine wpAny_bind (wpAny_isInstance (b:=true) c (by rw[isSubtype_type];kernel_rfl) ?_);refine wpAny_ite_split (λz=>absurd z ∎) (λ_=>?_);refine wpAny_ite_split (λ_=>?_) (λz=>absurd (by decide +kernel) z);exact wpAny_bind (wpAny_typeOf c (wpAny_pure h))
theorem R5{K:Type}[DecidableEq K]{knd:KeyKind prog w K}{ks:List K}(hh:A.handled=none)(ho:s.heap.get? a=some o)(Y:GS knd o ks)(hsz:ks.length<=sizeLine){Q:aN->ai->Prop}(h:∀(G:aP)(tk:Nat)(J:Drawn)(vs:aN),(∀b o,s.heap.get? b=some o->G.get? b=some o)->(∀v∈vs,∃k,knd.is k v=true)->(vs.filterMap (gX knd)).Perm ks->Q vs { s with heap:=G,toks:=tk,drawn:=J }):
  wpAny (model prog w) A (collect (.ref a)) Q E s:=by
 have ha:a<⇑s:=Heap.lt_size ho;have C:=Y.1;unfold collect;refine wpAny_bind (wpAny_runValue (codeAny_builtin F.entry_proto_collect ?_));rw[Around.under_plainId F.plain_proto_collect _];show wpAny _ A.in1 (newList [] >>= λl=>again (.builtin "list.__iadd__" ⟨[l,.ref a],[]⟩)) _ _ s;refine wpAny_bind (wpAny_newObj_type ?_);refine wpAny_pure ⟨plainId_quiet F.plain_list_iadd _,codeAny_builtin F.entry_list_iadd ?_⟩;rw[Around.under_plainId F.plain_list_iadd _];show wpAny _ A.in1 (Builtin.List.listExtendWith (.ref ⇑s) (.ref a) (.ref ⇑s)) _ _ _;have p:(s.heap.push { cls:=.type "list",data:=.seq ([]:aN).toArray }).get? ⇑s=some { cls:=.type "list",data:=.seq ([]:aN).toArray }:=Heap.get?_push_size _ rfl;have y:(s.heap.push { cls:=.type "list",data:=.seq ([]:aN).toArray }).get? a=some o:=Heap.get?_push_of_some _ ho;have G:Builtin.List.listSameRef (.ref ⇑s) (.ref a)=false:=by simp[Builtin.List.listSameRef,ne_of_gt ha]
 unfold Builtin.List.listExtendWith;refine wpAny_bind (wpAny_typeOf (T:="set") ⟨o,y,C.1⟩ ?_);rw[if_neg (by rw[G];decide)];refine wpAny_bind (Xu (A:=A.in1) (s:={ s with heap:=s.heap.push { cls:=.type "list",data:=.seq ([]:aN).toArray } }) hh y Y hsz λg J I c fp St D M hI v1 v2 W st=>?_);have hn:c.size<=sizeLine:=by
  have:(c.toList.filterMap (gX knd)).length=c.toList.length:=by
   generalize c.toList=l at v1
   induction l with
   |nil=>rfl
   |cons v r ih=>
    let⟨k,D⟩:=v1 v mem_cons_self;rw[filterMap_cons,oD D];simp[ih λu hu=>v1 u (mem_cons_of_mem _ hu)]
  have e2:=length_toList (xs:=c);rw[<- e2,<- this,v2.length_eq];exact hsz
 have B:⇑s ∉ fp:=λhm=>by
  rcases M _ hm with e |⟨e,_⟩
  .exact absurd e (ne_of_gt ha)
  .have e:(s.heap.push { cls:=.type "list",data:=.seq ([]:aN).toArray }).objs.size<=⇑s:=e;rw[Heap.size_push] at e;omega
 have α:⇑s≠I:=λe=>by
  have z:(s.heap.push { cls:=.type "list",data:=.seq ([]:aN).toArray }).objs.size<=I:=hI;rw[Heap.size_push,<- e] at z;exact absurd z (Nat.not_succ_le_self _)
 refine wpAny_bind (wpAny_holding (Xv (D _ _ y) C ?_));refine wpAny_ite_split (λ_=>?_) (λz=>absurd z ∎);refine wpAny_bind (wpAny_rule ?_);refine wpAny_bind ?_;have f:=D _ _ p;show wpAny _ A.in1 (updateSeq ⇑s (·.push .none) >>= λ_=>updateSeq ⇑s (·.pop)) _ _ _;refine wpAny_bind (wpAny_updateSeq f rfl ?_);have j:=Heap.get?_update_self (Obj.mapSeq (·.push Value.none)) f rfl;refine wpAny_updateSeq (hz:=by seq_fits) j rfl ?_;have q:=Heap.get?_update_self (Obj.mapSeq (·.pop)) j rfl;have eh:∀b o,b≠⇑s->g.get? b=some o->((g.update ⇑s (Obj.mapSeq (·.push Value.none))).update ⇑s (Obj.mapSeq (·.pop))).get? b=some o:=λb o H e=>
  (Heap.get?_update_other _ _ (Ne.symm H)).trans ((Heap.get?_update_other _ _ (Ne.symm H)).trans e)
 refine wpAny_pure ⟨plainId_quiet F.plain_extend_loop _,codeAny_extend_loopS W.toS hn ⇑s B _ c.size 0 _ #[] _ rfl (zero_le _) (W.frame 0 _ _ st λb H o e=>eh b o (λz=>B (z ▸ H)) e) q (ItemsOf.nil _) λs' d c' hm L n=>?_⟩;show wpAny _ A (load ⇑s >>= _) _ _ s';refine wpAny_bind (wpAny_load L ?_);have ev:d=c:=by
  refine Array.ext_getElem? λi=>?_
  by_cases hi:i<d.size
  .rw[n.2 i d[i] (getElem?_eq_getElem hi)];exact getElem?_eq_getElem hi
  .rw[Array.getElem?_eq_none ⋯,Array.getElem?_eq_none (by have:=n.1;omega)]
 subst ev;let⟨h',g',U,O,N⟩:=s';have eg:g'=s.gens:=hm.gens;have ed:U=J:=hm.drawn;have eo:N=s.os:=hm.os;subst eg;subst ed;subst eo;refine wpAny_pure (h h' O U _ (λb o e=>?_) v1 v2);have x:b<⇑s:=Heap.lt_size e;refine hm.heap b o (λm=>?_) (eh b o (ne_of_lt x) (D b o (Heap.get?_push_of_some _ e)));rcases mem_cons.mp m with e' |m
 .exact absurd e' (ne_of_lt x)
 .have z:(s.heap.push { cls:=.type "list",data:=.seq ([]:aN).toArray }).objs.size<=I:=hI;rw[Heap.size_push] at z;rw[<- mem_singleton.mp m] at z;exact absurd (lt_of_lt_of_le x (le_trans (le_succ _) z)) (lt_irrefl _)
end
section
variable{prog:Program}{w:World}{K:Type}[DecidableEq K]{knd:KeyKind prog w K}{A:Around}{E:af->ai->Prop}{s:ai}
section
variable{R:Result->ai->Prop}{I:ae}{fp wr:b7}{G:Array GenState->Array GenState->Prop}{n:Nat}{P:Nat->af->Prop}{St:Nat->ai->Prop}
theorem Xw(W:WalksS prog w A.in1 I fp wr G n P St)(S:ae)(l:S ∉ fp)(ks:List K)(hl:ks.length=n)(z:∀i v,P i v->v.scannable=true/\∀k,ks[i]?=some k->knd.is k v=true)(f:n+1<scanBound):
  ∀(k i:Nat)(s:ai)(o:Obj),n - i=k->i<=n->St i s->s.heap.get? S=some o->GS knd o (dA (ks.take i))->
   (∀s' o',Moved (S::wr) G s s'->s'.heap.get? S=some o'->GS knd o' (dA ks)->R (.ok (.ret .none)) s')->
   codeAny (model prog w) A (.builtin "set.update.loop" ⟨[.ref S,.ref I],[]⟩) R s:=by
 have m:S ∉ wr:=λh=>l (W.sub _ h)
 have a:∀b∈wr,b∈S::wr:=λb f=>mem_cons_of_mem _ f
 intro k
 induction k with
 |zero=>
  intro i s o hk hi d H B D;have L:i=n:=⋯
  subst L;refine codeAny_builtin PyProof.Rows.F.entry_set_update_loop ?_;rw[Around.under_plainId PyProof.Rows.F.plain_set_update_loop _];show wpAny _ A.in1 (pyNext (.ref I) >>= _) _ _ s;refine wpAny_bind (W.done s _ _ d λs' hm=>?_);show wpAny _ A.in1 (ret Value.none) _ _ s';rw[<- hl,take_length] at B;exact wpAny_pure (D s' o (hm.mono a) (hm.heap S _ m H) B)
 |succ k ih=>
  intro i s o hk hi d H B D;have r:i<n:=⋯
  refine codeAny_builtin PyProof.Rows.F.entry_set_update_loop ?_;rw[Around.under_plainId PyProof.Rows.F.plain_set_update_loop _];show wpAny _ A.in1 (pyNext (.ref I) >>= _) _ _ s;refine wpAny_bind (W.item i s _ _ r d λv s' hP y hm=>?_);have q:i<ks.length:=⋯
  let⟨O,M⟩:=z i v hP;have p:=M ks[i] (List.getElem?_eq_getElem q);have J:=hm.heap S _ m H;show wpAny _ A.in1 (holding [v] (setAdd S v) >>= _) _ _ s';refine wpAny_bind (wpAny_holding ?_);unfold setAdd;refine wpAny_holding ?_;refine wpAny_bind (knd.pyHash p ?_);have c:(dA (ks.take i)).length+1<scanBound:=by have:=uq (ks.take i);rw[length_take] at this;omega
  refine z'o (s:={ s' with toks:=s'.toks+1 }) p O J B c λb h' o' x N C=>?_
  have Y:ks.take (i+1)=ks.take i++[ks[i]]:=by rw[List.take_succ,List.getElem?_eq_getElem q];rfl
  refine wpAny_pure ⟨plainId_quiet PyProof.Rows.F.plain_set_update_loop _,ih (i+1) _ o' ⋯ r (W.frame _ s' _ _ y (le_succ _) λb f o e=>?_) N (by rw[Y,SO];exact C) λU Q u j g=>?_⟩
  .rw[x.2 b (λh:b=S=>l (by rw[<- h];exact f))];exact e
  .refine D U Q (Moved.trans W.gtrans ((hm.mono a).then_heap (le_succ _) λb o f e=>?_) u) j g;rw[x.2 b (λh:b=S=>f (by rw[h];exact mem_cons_self))];exact e
end
theorem VM:GS knd { cls:=.type "set",dict:=none,data:=.set #[] 0 (.fresh 0 0 (fW w)) } ([]:List K):=
 ⟨⟨rfl,rfl,rfl⟩,#[],0,_,rfl,λe a=>by simp at a,rfl,Tu,rfl,.refl _⟩
theorem z'p(a:af){Q₁:af->ai->Prop}(h:Q₁ (.ref ⇑s) { s with heap:=s.heap.push { cls:=.type "set",dict:=none,data:=.set #[] 0 (.fresh 0 0 (fW w)) } }):
  codeAny (model prog w) A (.call (.builtin "set.__new__") ⟨[.type "set",a],[]⟩) (wants Q₁ E) s:=by
 refine codeAny_of_tree ?_;show wpAny _ A.in1 (do checkBuiltinCall "set.__new__" ⟨[.type "set",a],[]⟩;again (.builtin "set.__new__" ⟨[.type "set",a],[]⟩)) _ _ s;refine wpAny_bind (wpAny_of_eq (F.newCall_set_1 a) (wpAny_pure ⟨plainId_quiet F.plain_set_new _,codeAny_builtin F.entry_set_new ?_⟩));rw[Around.under_plainId F.plain_set_new _];unfold Builtin.«set.__new__» Builtin.Frozenset.newClass;have b:=sub_set_self;let⟨c,g,d,e,os⟩:=s;dsimp only
 wp_walk
 refine wpAny_askSetting (wpAny_pure ?_);dsimp only;simp only[newObj];refine wpAny_bind (wpAny_alloc (wpAny_pure ?_));exact wpAny_pure h
theorem Xx{Q:af->ai->Prop}(hh:A.handled=none)(hl:s.heap.IsList l items)(M:ks.length=items.size)(hi:∀(i:Nat) v,items[i]?=some v->v.scannable=true/\∀k,ks[i]?=some k->knd.is k v=true)(hb:items.size+1<scanBound)(h:∀(h':aP)(C:Nat)(o:Obj),h'.get? ⇑s=some o->GS knd o (dA ks)->(∀b o,s.heap.get? b=some o->h'.get? b=some o)->Q (.ref ⇑s) { s with heap:=h',toks:=C }):
  wpAny (model prog w) A (call (.type "set") [.ref l]) Q E s:=by
 let⟨c,tl,β⟩:=F.called_set.mro;have N:=F.called_set.made;have ε:=F.called_set.sub;refine wpAny_call (codeAny_of_tree ?_);show wpAny _ _ (callAny (.type "set") _) _ _ _;refine wpAny_pure ⟨Code.quiet_builtin _ (by decide +kernel),codeAny_builtin F.entry_type_call ?_⟩;rw[Around.under_plain (weight_type_call_type "set" [.ref l] []) rfl];have h1:=F.called_set.notType;have h2:=F.called_set.canCreate;have θ:=F.typeCall_set_1 (.ref l)
 repeat (any_goals (first |assumption |wp_step))
 refine codeAny_mono (z'p (.ref l) (E:=E) (Q₁:=λobj f=>obj=.ref ⇑s/\f={ s with heap:=s.heap.push { cls:=.type "set",dict:=none,data:=.set #[] 0 (.fresh 0 0 (fW w)) } }) ⟨rfl,rfl⟩) λr f O=>?_
 have q:GS knd { cls:=.type "set",dict:=none,data:=.set #[] 0 (.fresh 0 0 (fW w)) } ([]:List K):=VM;cases r with
 |error e=>exact O
 |ok fl=>
  cases fl with
  |ret obj=>
   let⟨rfl,rfl⟩:=O;have hS:(s.heap.push { cls:=.type "set",dict:=none,data:=.set #[] 0 (.fresh 0 0 (fW w)) }).get? ⇑s=some { cls:=.type "set",dict:=none,data:=.set #[] 0 (.fresh 0 0 (fW w)) }:=Heap.get?_push_size _ rfl;have hT:Shared.TypeIs { s with heap:=s.heap.push { cls:=.type "set",dict:=none,data:=.set #[] 0 (.fresh 0 0 (fW w)) } } (.ref ⇑s) "set":=⟨_,hS,q.1.1⟩;have ι:=F.called_set.init.lookup;have η:=F.called_set.init.bind (.ref ⇑s)
   repeat (any_goals (first |assumption |wp_step))
   refine codeAny_mono (codeAny_call_builtin (R:=wants (λr g=>r=.none/\∃h' C o,g={ s with heap:=h',toks:=C }/\h'.get? ⇑s=some o/\GS knd o (dA ks)/\
     (∀b o,s.heap.get? b=some o->h'.get? b=some o)) E) F.called_set.init.plain F.entry_set_init (check_set_init_1 hT ?_)) λB g a=>?_
   .obtain⟨ol,iC,hcl,nl,hdl⟩:=hl;let⟨ζ,p,U,d⟩:=ol;simp only at hcl hdl;subst hcl;subst hdl;have z:(s.heap.push { cls:=.type "set",dict:=none,data:=.set #[] 0 (.fresh 0 0 (fW w)) }).get? l=some { cls:=.type "list",dict:=p,data:=.seq items nl,slots:=d }:=Heap.get?_push_of_some _ iC;have δ:=F.sub_list_set;have γ:=F.sub_list_frozenset;have κ:(Value.type "list" == Value.type "dict")=false:=∎
    have vf:(s.heap.push { cls:=.type "set",dict:=none,data:=.set #[] 0 (.fresh 0 0 (fW w)) }).IsList l items:=⟨_,z,rfl,nl,rfl⟩
    unfold Builtin.«set.__init__» noKeywords Builtin.Frozenset.updateFrom;generalize D:pyIter=PI
    wp_walk
    subst D;refine wpAny_pyIter_list vf ?_;refine wpAny_bind (wpAny_runValue ?_);have x:l<⇑s:=Heap.lt_size iC;have J:A.in1.in1.in1.handled=none:=by simp[hh]
    have y:l≠(s.heap.push { cls:=.type "set",dict:=none,data:=.set #[] 0 (.fresh 0 0 (fW w)) }).objs.size:=by rw[Heap.size_push];exact ne_of_lt (Nat.lt_succ_of_lt x)
    have G:⇑s ∉ [(s.heap.push { cls:=.type "set",dict:=none,data:=.set #[] 0 (.fresh 0 0 (fW w)) }).objs.size,l]:=by
     rw[Heap.size_push];simp only[mem_cons,not_mem_nil,or_false,not_or];exact⟨ne_of_lt (lt_succ_self _),ne_of_gt x⟩
    refine Xw (knd:=knd) ((Walks.list J _ l y items).toS) ⇑s G ks M hi hb (items.size - 0) 0 _ { cls:=.type "set",dict:=none,data:=.set #[] 0 (.fresh 0 0 (fW w)) } ⋯ (zero_le _)
     ⟨⟨_,Heap.get?_push_size _ rfl,rfl,rfl⟩,(vf.push _)⟩ (Heap.get?_push_of_some _ hS) q λs' o' hm n m=>?_
    let⟨h',g',d',α,Y⟩:=s';have eg:g'=s.gens:=hm.gens;have ed:d'=s.drawn:=hm.drawn;have eo:Y=s.os:=hm.os;subst eg;subst ed;subst eo;show wpAny _ _ _ _ _ _;refine wpAny_pure ?_;show wpAny _ _ (ret Value.none) _ _ _;refine wpAny_pure ⟨rfl,h',α,o',rfl,n,m,λb o e=>?_⟩;have u:b<⇑s:=Heap.lt_size e;have H:b≠⇑s:=ne_of_lt u;have I:b≠(s.heap.push { cls:=.type "set",dict:=none,data:=.set #[] 0 (.fresh 0 0 (fW w)) }).objs.size:=by rw[Heap.size_push];exact ne_of_lt (Nat.lt_succ_of_lt u)
    exact hm.heap b o (by simp only[mem_cons,not_mem_nil,or_false,not_or];exact⟨H,I⟩) (Heap.get?_push_of_some _ (Heap.get?_push_of_some _ e))
   .cases B with
    |error e=>exact a
    |ok j=>
     cases j with
     |ret r=>
      let⟨rfl,h',C,o',rfl,n,m,L⟩:=a
      repeat (any_goals (first |assumption |wp_step))
      exact h _ _ _ n m L
     |_=>exact a.elim
  |_=>exact O.elim
end
end L2
namespace L2
open PySem PySem.Spec PyProof.Rows
section
def jh(P:Program)(w:World)(a:ae)(ks:List aU):HO:=.ext λh=>∃o,h.get? a=some o/\GS (dz P w) o ks
theorem Xy(e:h.get? a=some o)(g:GS (dz P w) o ks):a8 P w H h a (jh P w a ks):=
 ⟨⟨o,e,g⟩,⟨o,e⟩,λ_ _ ⟨o,e,g⟩ k=>⟨o,k o e,g⟩⟩
theorem Xz(r:aC (kV k) v):v.scannable=true:=by
 cases k<;>(let⟨t,rfl⟩:=r;rfl)
variable{X:Cx}
theorem SS(m:X.calm=true):bA X (.type "set") (λxs H Q=>∃(a:ae)(ks:List aU),xs=[.ref a]/\bY X.K H a (ks.map kV)/\ks.length+1<4096/\∀p,H p=none->Q (.ref p) (aW H p (jh X.prog X.w p (dA ks)))):=by
 intro aa s j H xs us Q I r h;∎;let⟨a,ks,rfl,y,z,q⟩:=h;let⟨u,rfl,d⟩:=iw r;∎;cases d;let⟨f,g,A,D⟩:=I.list y;have b:ks.length=f.toArray.size:=by have:=g.length;rw[length_map] at this;rw[size_toArray,this]
 refine Xx (knd:=dz X.prog X.w) (ks:=ks) (I.ok.hd m) A.isList b (λi v e=>?_) (by rw[<- b];exact z) λC B o n l c=>?_
 .have hi:i<ks.length:=by rw[b];exact (Array.getElem?_eq_some_iff.mp e).1
  let⟨u,hu,d⟩:=g.get (x:=kV ks[i]) (show (ks.map kV)[i]?=some (kV ks[i]) by rw[getElem?_map,List.getElem?_eq_getElem hi];rfl);rw[List.getElem?_toArray,hu] at e;cases e;refine⟨Xz d,λk c=>?_⟩;rw[List.getElem?_eq_getElem hi] at c;cases c;exact kZ d
 .exact⟨.ref ⇑s,_,I.laid (t':=B) c (le_refl _) (Xy n l),rfl,q _ (I.aS.fresh (le_refl _))⟩
theorem au.mF{s:ai}(I:au X aa j H s)(d:Drawn):au X aa j H { s with drawn:=d }:=
 ⟨I.ok,I.os,I.bare,I.base,I.loc,I.cell,I.free,I.cf,I.pin,I.aS,I.len⟩
theorem Ha:∀(vs:aN),(∀v∈vs,∃k,(dz P w).is k v=true)->(∀k∈vs.filterMap (gX (dz P w)),∃n:Str,k=Sum.inr n)->
  ∃ns:ag,StrsAre vs ns/\vs.filterMap (gX (dz P w))=ns.map Sum.inr
 |[],_,_=>⟨[],.nil,rfl⟩
 |v::r,h1,h2=>by
  let⟨k,d⟩:=h1 v mem_cons_self;have e:=oD d;let⟨ns,a,b⟩:=Ha r (λu hu=>h1 u (mem_cons_of_mem _ hu)) λf c=>h2 f (by rw[filterMap_cons,e];exact mem_cons_of_mem _ c)
  let⟨n,rfl⟩:=h2 k (by rw[filterMap_cons,e];exact mem_cons_self);let⟨t,rfl⟩:=yV d;exact⟨n::ns,.cons _ _ a,by rw[filterMap_cons,e,b];rfl⟩
theorem VN{a b:ag}(h:(a.map (Sum.inr:Str->aU)).Perm (b.map Sum.inr)):a.Perm b:=by
 have:=h.filterMap (λk:aU=>match k with |.inl _=>none |.inr x=>some x);have e:∀l:ag,(l.map (Sum.inr:Str->aU)).filterMap (λk:aU=>match k with |.inl _=>none |.inr x=>some x)=l:=λl=>by
  rw[List.filterMap_map];show l.filterMap (λn=>some n)=l;simp
 rw[e,e] at this;exact this
def qs(P:Program)(w:World):ax->Hp->VK->Prop:=λc H Q=>∃(a:ae)(ks:ag),c=[.ref a]/\H a=some (jh P w a (ks.map Sum.inr))/\ks.length<64/\
  ∀b:ag,b.Perm ks->sortedS b=true->∀p,H p=none->Q (.ref p) (aW H p (.av (b.map V.str)))
theorem Pz(Y:X.calm=true):bA X (.builtin "sorted") (qs X.prog X.w):=by
 intro aa s j H xs us Q I r h;∎;let⟨a,ks,rfl,ha,z,q⟩:=h;let⟨u,rfl,ru⟩:=iw r;∎;cases ru;let⟨⟨o,ho,U⟩,_⟩:=I.aS a _ ha;refine Calls.call_function_entry kind_sorted plain_sorted entry_sorted (args_sorted1 _) ?_;unfold Builtin.«sorted»;refine wpAny_bind (m:=checkCount "sorted" 1 1 _) (wpAny_pure ?_);refine wpAny_bind (R5 (A:=X.A.in1) (I.ok.hd Y) ho U (by rw[length_map,sizeLine_eq];omega) λc v y vs C v1 x=>?_);let⟨n1,l,O⟩:=Ha vs v1 (λk hk=>by let⟨n,_,rfl⟩:=mem_map.mp (x.mem_iff.mp hk);exact⟨n,rfl⟩);rw[O] at x;have p:=VN x;have f:vs.length=n1.length:=by have:=(FJ l).length;rw[length_map] at this;exact this.symm
 have D:au X aa j H { s with heap:=c,toks:=v,drawn:=y }:=(I.kept (t':=v) C).mF y;refine wpAny_bind (wpAny_newList ?_ (by rw[f,p.length_eq,sizeLine_eq];omega));have d:(c.push (seqObj "list" vs.toArray 0)).get? c.objs.size=some (seqObj "list" vs.toArray 0):=Heap.get?_push_size _ rfl;show wpAny _ _ _ _ _ { s with heap:=c.push (seqObj "list" vs.toArray 0),toks:=v,drawn:=y };refine wpAny_bind (wpAny_holding (wpAny_call_entry slot_list_sort ⟨_,d,rfl⟩ entry_list_sort (list_sort_treeK strKind_oneLt d l.keysOf (λv1 x rest e=>keyKind_strs (by rw[<- e];exact l)) (by rw[f,p.length_eq];exact z) λi J L=>⟨_,rfl,?_⟩) (args_list_sort _)));let⟨g,M,E,N⟩:=sorted_out_str l J L;refine wpAny_pure ⟨_,rfl,?_⟩;let⟨e,he⟩:=sortedHeap_at (out:=(arrOf i).map (·.2)) d;have B:H c.objs.size=none:=D.aS.fresh (le_refl _);refine⟨.ref c.objs.size,_,D.laid (a:=c.objs.size) (o:=.av (g.map V.str)) (t':=v) (λb o G=>?_) (le_refl _) ⟨?_,((arrOf i).map (·.2)).toList,e,FJ M,by rw[Array.toArray_toList];exact he⟩,rfl,q g (E.trans p) N _ B⟩
 .have lb:b<c.objs.size:=Heap.lt_size G;rw[sortedHeap_old (ne_of_lt lb) (by rw[size_push'];exact Nat.lt_succ_of_lt lb)];exact Heap.get?_push_of_some _ G
 .rw[length_map,E.length_eq,p.length_eq,sizeLine_eq];omega
end
end L2
namespace Vc
open PySem L2 Sf
def dc(l:b7)(H:Hp):Hp:=λx=>if x∈l then none else H x
theorem ro{H:Hp}(a:x ∉ l)(h:H x=some o):dc l H x=some o:=by unfold dc;rw[if_neg a];exact h
theorem z'q(h:x∈l):dc l H x=none:=if_pos h
theorem VO{H:Hp}(h:dc l H x=some o):x ∉ l/\H x=some o:=by
 unfold dc at h;by_cases z:x∈l
 .rw[if_pos z] at h;cases h
 .rw[if_neg z] at h;exact⟨z,h⟩
theorem zC(a:az F H):Gr0 F (dc l H) F H:=⟨λ_ _ e=>(VO e).2,az.refl _,a,λx u h e=>by rw[h] at e;cases e⟩
theorem vf{Hb:Hp}(h:Hb a=none):∀x∈[a],Hb x=none:=λx z=>by rw[mem_singleton.mp z];exact h
theorem ON{Hb:Hp}(h:Hb a=none)(g:Hb b=none):∀x∈[a,b],Hb x=none:=λx z=>(mem_cons.mp z).elim (λe=>by rw[e];exact h) (vf g x)
end Vc
namespace L2
open PySem PySem.Spec PyProof.Rows
section
variable{P:Program}{w:World}{K:ak}
def nP(P:Program)(w:World)(K:ak):ax->Hp->VK->Prop:=λb H Q=>∃(a:ae)(ks:List aU),b=[.ref a]/\bY K H a (ks.map kV)/\ks.length+1<4096/\∀p,H p=none->Q (.ref p) (aW H p (jh P w p (dA ks)))
theorem E9(a:X.calm=true):bA X (.type "set") (nP X.prog X.w X.K):=SS a
end
theorem VP[DecidableEq j][DecidableEq u]{f:j->u}(c:∀x y,f x=f y->x=y)(l:List j):dA (l.map f)=(dA l).map f:=by
 have b:∀(l a:List j),(l.map f).foldl d3 (a.map f)=(l.foldl d3 a).map f:=by
  intro l
  induction l with
  |nil=>intro a;rfl
  |cons x r g=>
   intro a;have e:d3 (a.map f) (f x)=(d3 a x).map f:=by
    unfold d3;by_cases h:x∈a
    .rw[if_pos h,if_pos (mem_map.mpr ⟨x,h,rfl⟩)]
    .rw[if_neg h,if_neg (λz=>by let⟨y,d,e⟩:=mem_map.mp z;exact h (c _ _ e ▸ d)),map_append];rfl
   show ((r.map f).foldl d3 (d3 (a.map f) (f x)))=_;rw[e];exact g _
 exact b l []
theorem yi[DecidableEq j](l:List j):(dA l).Nodup/\∀x,x∈dA l↔x∈l:=by
 have d:∀(l a:List j),a.Nodup->(l.foldl d3 a).Nodup/\∀x,x∈l.foldl d3 a↔x∈a\/x∈l:=by
  intro l
  induction l with
  |nil=>intro a h;exact⟨h,λx=>by simp⟩
  |cons y r n=>
   intro a h;have i:(d3 a y).Nodup:=by
    unfold d3;by_cases c:y∈a
    .rw[if_pos c];exact h
    .rw[if_neg c,nodup_append];exact⟨h,by simp,λu hu v hv e=>by rw[mem_singleton] at hv;exact c (hv ▸ e ▸ hu)⟩
   have m:∀x,x∈d3 a y↔x∈a\/x=y:=by
    intro x;unfold d3;by_cases c:y∈a
    .rw[if_pos c];exact⟨.inl,λz=>z.elim id λe=>e ▸ c⟩
    .rw[if_neg c,mem_append,mem_singleton]
   let⟨f,g⟩:=n (d3 a y) i;refine⟨f,λx=>(g x).trans ?_⟩;rw[m,mem_cons,or_assoc]
 let⟨a,b⟩:=d l [] nodup_nil;exact⟨a,λx=>by rw[show dA l=l.foldl d3 [] from rfl,b x];simp⟩
theorem u6(aS:cS P w H h)(e:Rd H a (.ins C dx fs)):∃b,fI h a dx C b/\∀f,cj (fs.lookup f) (b f):=by
 have x:a8 P w H h a (.ins C dx fs):=by
  rcases e with e |⟨o,e⟩
  .exact aS a _ e
  .exact (aS a _ e).2
 let⟨d,z,ne,ob,b,n,r,q⟩:=x;exact⟨b,⟨ob,n,ne⟩,r⟩
def wZ(K:ak)(d:TE)(f:Str):TE:=λj H Q=>d j H λx b=>∃a C c fs v,x=.ref a/\Rd b a (.ins C c fs)/\du K C/\aD K C f/\fs.lookup f=some v/\Q v b
section
variable{X:Cx}{CX:e7}{k:Nat}{E:XK}{m f:Str}{pos apos:Pos}{o e:Expr}{ta:TE}{D:ae->Nat->Prop}{sp:Nat->Sp}
theorem XA(he:PE X e ta)(w:attributeBase e f X.env (eval e X.env)=eval e X.env):PE X (.Attribute e f pos) (wZ X.K ta f):=by
 intro aa s j H Q I h;refine X0 w (bq (he aa s j H _ I h) λu B d=>?_);let⟨x,i,b,z,a,C,A,fs,v,ex,p,c,n,l,q⟩:=d;subst ex;obtain rfl:u=Value.ref a:=z;∎;let⟨y,O,r⟩:=u6 b.aS p;let⟨u,hu,g⟩:=cj.some_of (v:=v) (o:=y f) (by rw[<- l];exact r f);∎;exact Gy b.cP O (c.get f) c.hd n hu (Fy g) ⟨v,i,b.tok _,g,q⟩
end
def qC(P:Program)(w:World):ax->Hp->VK->Prop:=λb H Q=>∃(a:ae)(ks:List aU),b=[.ref a]/\H a=some (jh P w a ks)/\ks.length<4096/\Q (.int ks.length) H
theorem SU:bA X (.builtin "len") (qC X.prog X.w):=by
 intro aa s j H p us Q I r h;∎;let⟨a,ks,rfl,ha,n,q⟩:=h;let⟨u,rfl,i⟩:=iw r;∎;cases i;let⟨⟨o,f,c,m,l,t,hd,b,e,_,_,g⟩,_⟩:=I.aS a _ ha;have d:=zj (o:=o) b g;exact call_len_set f c hd e (by rw[d];omega) ⟨.int ks.length,H,I.tok _,⟨_,by rw[d]⟩,q⟩
end L2
namespace Vc
open PySem L2 Sf
section
variable{P:Program}{w:World}{K:ak}{F H:Hp}{Q:VK}
theorem XB(h:H a=some (jh P w a (ns.map Sum.inr)))(d:ns.length<64)(q:∀p,H p=none->Q (.ref p) (aW H p (.av ((m7 ns).map V.str)))):qs P w [V.ref a] H Q:=
 ⟨a,ns,rfl,h,d,λf b c p e=>by rw[z'n b c];exact q p e⟩
theorem z'r{j:Type}{f:j->aU}{a:ae}{ns:List j}(h:H a=some (jh P w a (ns.map f)))(b:ns.length<4096)(q:Q (.int (ns.length:Int)) H):qC P w [V.ref a] H Q:=
 ⟨a,ns.map f,rfl,h,by rw[length_map];exact b,by rw[length_map];exact q⟩
end
end Vc
namespace L2
open PySem PySem.Spec PyProof.Rows
section
variable{X:Cx}{CX:e7}{k:Nat}{f C:ae}{fd:FuncData}{ps:ag}{sp:Sp}{dvs:ax}{ds:aN}{x:Str}{p pos:Pos}{e:Expr}{es:bT}{t:TA}
def s9(C:ae)(sp:Sp)(dvs:ax)(R:St->XK)(t:TA):TE:=λj H Q=>t j H λvs b=>∀x a,b x=none->b a=none->a≠x->
 sp (.ref x::(vs++dvs)) (aW (aW b a (.own x)) x (.ins C a [])) (λv c=>v=.aZ/\Q (.ref x) c) (R j)
theorem SV{H:Hp}{Q:VK}(M:Mk X.K C f)(F:aw X.prog X.w X.K X.mg X.base CX k f fd ps sp)(q:bh (k+1) X.A)(n:Binds X.K fd ps ds)(hd:aL dvs ds)(y:il CX X j E)(I:au X aa j H s)(r:aL vs us)(h:∀x c,H x=none->H c=none->c≠x->sp (.ref x::(vs++dvs)) (aW (aW H c (.own x)) x (.ins C c [])) (λv i=>v=.aZ/\Q (.ref x) i) E):
  wpAny (model X.prog X.w) X.A (call (.ref C) us) (EP X aa j Q) X.xe s:=by
 have d:=h (⇑s+1) ⇑s (I.aS.fresh (le_succ _)) (I.aS.fresh (le_refl _)) (ne_of_lt (lt_succ_self _));have b:=au.made (C:=C) I;have r2:aL (V.ref (⇑s+1)::(vs++dvs)) (Value.ref (⇑s+1)::(us++ds)):=.cons rfl (r.append hd);have o:(Value.ref (⇑s+1)::us++ds).length=ps.length:=(r2.length.symm.trans (F.len _ _ _ _ d))
 refine wpAny_call (UI (f:=f) I.cP M.makes M.init (beq_iff_eq.mp M.fn) (codeAny_mono (F.run _ X.stack _ _ ⟨Value.ref (⇑s+1)::us,[]⟩ (Value.ref (⇑s+1)::(us++ds)) _ _ E (q.make C us [])
  (b.mQ.make C us []) (n _ (Value.ref (⇑s+1)::us) b.cP o) r2 d) λm D a=>?_))
 match m,a with
 |.error e,a=>exact y aa _ _ e D b a
 |.ok (.ret u),a=>
  let⟨v,g,l,B,ev,z⟩:=b.after a;subst ev;exact⟨B,⟨V.ref (⇑s+1),g,l,rfl,z⟩⟩
 |.ok .next,a=>exact a.elim
 |.ok .brk,a=>exact a.elim
 |.ok .cont,a=>exact a.elim
theorem yY{R:St->XK}(M:Mk X.K C f)(F:aw X.prog X.w X.K X.mg X.base CX k f fd ps sp)(l:bh (k+1) X.A)(i:Gl X x)(hm:X.mg x=some (.ref C))(g:Binds X.K fd ps ds)(hd:aL dvs ds)(m:∀j,il CX X j (R j))(ha:PA X (e::es) t)(a: ~~~(cI x))(he:do eA e es X.env)(b:do e9 pos es X.env):
  PE X (.Call (.Name x p) (e::es) [] pos) (s9 C sp dvs R t):=by
 intro aa s j H Q I h;refine wpAny_Call_Name_kw (n9 I i hm ?_ a);exact W.callWith_K (h₀:=X.base) I.ok.mod.mT M.kp (bq (ha pos aa s j H _ I h) λus o c=>by let⟨vs,n,d,r,q⟩:=c;exact⟨d.cP,SV M F l g hd (m j) d r q⟩) he b
structure fG(K:ak)(C:ae):Prop where
 cl:du K C
 ha:W.findIn K (.ref C) "__class__"=some (some (.builtin "object.__class__"))
 hn:W.specialIn K (.builtin "object.__class__") "__get__"=some (some (.builtin "getset_descriptor.__get__"))
 vg:W.takesIn K (.builtin "object.__class__")=some true
 hm:W.mroIn K C (.type "object")=some true
end
inductive kn (w:World):List DictEntry->List (Str×Value)->Prop
 |nil:kn w [] []
 |cons {x:Str} {t:Tok} {v:Value} {es:List DictEntry} {kvs:List (Str × Value)}:kn w es kvs -> kn w (⟨PyData.keyHash w.params x,.str x t,v⟩::es) ((x,v)::kvs)
def KD(w:World)(K:ak)(c:ae)(kvs:List (Str×af)):Prop:=
 ∃(a:Array DictEntry)(b:Nat),K.lookup c=some { cls:=.type "dict",data:=.dict a b }/\kn w a.toList kvs/\(kvs.map (·.1)).Nodup
theorem kn.pairs(h:kn w es kvs):Pairs (dz P w) es (kvs.map λp=>((Sum.inr p.1:aU),p.2)):=by
 induction h with
 |nil=>exact .nil
 |cons _ a=>exact .cons (x6 P w _ _) rfl a
theorem kn.keys(h:kn w a kvs):∀e∈a,∃k,(dz P w).is k e.key=true/\e.hash=(dz P w).hash k:=by
 induction h with
 |nil=>intro e z;cases z
 |cons _ b=>
  intro e z;rcases mem_cons.mp z with rfl |z
  .exact⟨.inr _,x6 P w _ _,rfl⟩
  .exact b e z
theorem KD.dict{P:Program}{w:World}{K:ak}{c:ae}{kvs:List (Str×af)}{h:aP}(d:KD w K c kvs)(X:K.In h):h.DictOf (dz P w) c (kvs.map λp=>((Sum.inr p.1:aU),p.2)):=by
 let⟨f,b,i,a,nd⟩:=d;refine⟨_,f,b,X _ _ i,⟨rfl,rfl,rfl⟩,rfl,λe g=>a.keys e (Array.mem_toList_iff.mpr g),a.pairs,?_⟩;rw[map_map];have:((λp:Str×Value=>((Sum.inr p.1:aU),p.2)):Str×af->aU×af)=λp=>(Sum.inr p.1,p.2):=rfl
 rw[show ((λx:aU×Value=>x.1) ∘ λp:Str×Value=>((Sum.inr p.1:aU),p.2))=(λx=>(Sum.inr x:aU)) ∘ λp:Str×Value=>p.1 from rfl,<- map_map];exact List.Pairwise.map _ (λx y (ne:x≠y) e=>ne (Sum.inr.inj e)) nd
theorem KD.at_{kvs:List (Str×af)}{x:Str}{u:af}(h:kvs.lookup x=some u):valueAt (kvs.map λp=>((Sum.inr p.1:aU),p.2)) (Sum.inr x)=some u:=by
 induction kvs with
 |nil=>cases h
 |cons p r a=>
  unfold valueAt;rw[map_cons,find?_cons];by_cases e:p.1=x
  .subst e;rw[lookup_cons,beq_self_eq_true] at h;simp at h ⊢;exact h
  .rw[lookup_cons,beq_false_of_ne (Ne.symm e)] at h;have ne:¬ ((Sum.inr p.1:aU)=Sum.inr x):=λz=>e (Sum.inr.inj z)
   simp only[ne,decide_false];exact a h
def CT(w:World)(K:ak)(g ty:TE):TE:=λj H Q=>g j H λd e=>ty j e λy f=>∃c b x a,d=.ref c/\KD w K c b/\y=.str x/\b.lookup x=some (.ref a)/\Q (.ref a) f
section
variable{X:Cx}{o i:Expr}{pos:Pos}{td ty:TE}
theorem VQ(z:PE X o td)(v:PE X i ty)(hs:xQ i):PE X (.Subscript o i pos) (CT X.w X.K td ty):=by
 intro aa s j H Q I h;refine X2 PySem.F.slot_dict_getitem.lookup hs (bq (z aa s j H _ I h) λu J b=>?_);let⟨d,m,p,E,C⟩:=b;refine bq (v aa J j m _ p C) λL M e=>?_
 let⟨y,n,f,G,c,B,x,a,q,A,r,l,D⟩:=e;subst q;subst r;obtain rfl:u=Value.ref c:=E;have g:=A.dict (P:=X.prog) f.cP;exact⟨g.typeIs,wpAny_getItem_of (kZ (k:=.inr x) G) g.mapOf (KD.at_ l) ⟨.ref a,n,f.tok _,rfl,D⟩⟩
end
def aO(P:Program)(w:World)(K:ak)(mg:bD)(base:aP)(CX:e7)(k:Nat)(m:Str)(C:ae)(ps:ag)(sp:Sp):Prop:=
 du K C/\∃f a,hF K C m f/\aw P w K mg base CX k f a ps sp/\Binds K a ps []
theorem aO.mono{P:Program}{w:World}{K:ak}{mg:bD}{base:aP}{CX:e7}{k a:Nat}{m:Str}{C:ae}{ps:ag}{sp:Sp}(h:aO P w K mg base CX k m C ps sp)(le:k<=a):aO P w K mg base CX a m C ps sp:=by
 let⟨c,f,b,hm,F,d⟩:=h;exact⟨c,f,b,hm,F.mono le,d⟩
def g0(K:ak)(x a:Str)(st:Stmt)(f:ae):Prop:=∃b,gm K x a st f b
theorem mS{K:ak}{x a:Str}{st:Stmt}{f:ae}{oc:af}{od an:bL}{osl:Array (bG)}{kV doc pm aM ct:af}(l:K.lookup f=some ⟨oc,od,.func (W.fnOf x a (nN st) (ie st) (a7 st) .none kV doc pm an aM ct),osl⟩)(c:W.codeIn K aM a=true)(k:W.keepIn K (.ref f)=true):g0 K x a st f:=⟨_,Zq l c k⟩
theorem g0.kp{K:ak}{x a:Str}{st:Stmt}{f:ae}(h:g0 K x a st f):W.keepIn K (.ref f)=true:=h.choose_spec.kp
end L2
namespace Pu
open PySem L2 Vc Sf
inductive Fl where |f |o |l (k:Bool)
 deriving DecidableEq
inductive Tr where
 |int (n:Int) |bl (b:Bool) |str (s:Str) |aZ |aF |ty (n:String) |cl (a:Addr) |exc (b:Addr)
 |aA (xs:List Tr) |av (f:Fl) (xs:List Tr) |a9 (f:Fl) (kvs:List (aU × Tr)) |ins (f:Fl) (c:Addr) (fs:List (Str × Tr))
abbrev aq:=Tr->Prop
abbrev bN:=List (aU×Tr)
abbrev bK:=List (Str×Tr)
abbrev ah:=List Tr
abbrev aG:=ah->Prop
abbrev Cs:=List (ae×HO)
mutual
/-- v stands for the tree: bo frozen parts in F,bo lent ones in B,bo own ones are the cells -/
noncomputable def R(K:W.Frag)(F:Hp)(B:Bool->Hp):Tr->V->Cs->Prop
 |.int n,v,cs=>v=.int n /\ cs=[]
 |.bl b,v,cs=>v=.bl b /\ cs=[]
 |.str s,v,cs=>v=.str s /\ cs=[]
 |.aZ,v,cs=>v=.aZ /\ cs=[]
 |.aF,_,_=>False
 |.ty n,v,cs=>v=.ty n /\ cs=[]
 |.cl a,v,cs=>v=.ref a /\ cs=[]
 |.exc b,v,cs=>cs=[] /\ ∃a,v=.ref a /\ Rd F a (yo a b)
 |.aA xs,v,cs=>∃a vs,v=.ref a /\ ck K F a vs /\ Rs K F B xs vs cs
 |.av .f xs,v,cs=>cs=[] /\ ∃a vs,v=.ref a /\ bY K F a vs /\ Rs K F B xs vs []
 |.av (.l k) xs,v,cs=>cs=[] /\ ∃a vs,v=.ref a /\ bY K (B k) a vs /\ Rs K F B xs vs []
 |.av .o xs,v,cs=>∃a vs d,v=.ref a /\ cs=(a,.av vs)::d /\ Rs K F B xs vs d
 |.a9 .f xs,v,cs=>cs=[] /\ ∃a vs,v=.ref a /\ Rd F a (.dK vs) /\ Rk K F B xs vs [] /\ (xs.map (·.1)).Nodup
 |.a9 (.l k) xs,v,cs=>cs=[] /\ ∃a vs,v=.ref a /\ Rd (B k) a (.dK vs) /\ Rk K F B xs vs [] /\ (xs.map (·.1)).Nodup
 |.a9 .o xs,v,cs=>∃a vs d,v=.ref a /\ cs=(a,.dK vs)::d /\ Rk K F B xs vs d /\ (xs.map (·.1)).Nodup
 |.ins .f c xs,v,cs=>cs=[] /\ ∃a e vs,v=.ref a /\ Rd F a (.ins c e vs) /\ Rf K F B xs vs []
 |.ins (.l k) c xs,v,cs=>cs=[] /\ ∃a e vs,v=.ref a /\ Rd (B k) a (.ins c e vs) /\ Rf K F B xs vs []
 |.ins .o c xs,v,cs=>∃a e vs d,v=.ref a /\ cs=(a,.ins c e vs)::d /\ Rf K F B xs vs d
noncomputable def Rs(K:W.Frag)(F:Hp)(B:Bool->Hp):List Tr->List V->Cs->Prop
 |[],vs,cs=>vs=[] /\ cs=[]
 |x::xs,vs,cs=>∃v r c d,vs=v::r /\ cs=c ++ d /\ R K F B x v c /\ Rs K F B xs r d
noncomputable def Rk(K:W.Frag)(F:Hp)(B:Bool->Hp):List (aU×Tr)->List (aU×V)->Cs->Prop
 |[],vs,cs=>vs=[] /\ cs=[]
 |(k,x)::xs,vs,cs=>∃v r c d,vs=(k,v)::r /\ cs=c ++ d /\ R K F B x v c /\ Rk K F B xs r d
noncomputable def Rf(K:W.Frag)(F:Hp)(B:Bool->Hp):List (Str×Tr)->List (Str×V)->Cs->Prop
 |[],vs,cs=>vs=[] /\ cs=[]
 |(k,x)::xs,vs,cs=>∃v r c d,vs=(k,v)::r /\ cs=c ++ d /\ R K F B x v c /\ Rf K F B xs r d
end
mutual
noncomputable def aJ:Tr->Tr
 |.aA a=>.aA (cQ a)
 |.av .o a=>.av (.l true) (cQ a)
 |.a9 .o a=>.a9 (.l true) (dI a)
 |.ins .o c a=>.ins (.l true) c (de a)
 |t=>t
noncomputable def cQ:List Tr->List Tr
 |[]=>[] |x::xs=>aJ x::cQ xs
noncomputable def dI:List (aU×Tr)->List (aU×Tr)
 |[]=>[] |(k,x)::xs=>(k,aJ x)::dI xs
noncomputable def de:List (Str×Tr)->List (Str×Tr)
 |[]=>[] |(k,x)::xs=>(k,aJ x)::de xs
end
mutual
/-- no one changes it any more -/
noncomputable def aB:Tr->Tr
 |.aA a=>.aA (bV a)
 |.av .o a=>.av .f (bV a)
 |.a9 .o a=>.a9 .f (fw a)
 |.ins .o c a=>.ins .f c (fv a)
 |t=>t
noncomputable def bV:List Tr->List Tr
 |[]=>[] |x::xs=>aB x::bV xs
noncomputable def fw:List (aU×Tr)->List (aU×Tr)
 |[]=>[] |(k,x)::xs=>(k,aB x)::fw xs
noncomputable def fv:List (Str×Tr)->List (Str×Tr)
 |[]=>[] |(k,x)::xs=>(k,aB x)::fv xs
end
mutual
/-- nothing lent in it -/
noncomputable def b5:Tr->Bool
 |.aA a=>dV a
 |.av (.l _) _=>false
 |.a9 (.l _) _=>false
 |.ins (.l _) _ _=>false
 |.av _ a=>dV a
 |.a9 _ a=>gF a
 |.ins _ _ a=>dt a
 |_=>true
noncomputable def dV:List Tr->Bool
 |[]=>true |x::xs=>b5 x&&dV xs
noncomputable def gF:List (aU×Tr)->Bool
 |[]=>true |(_,x)::xs=>b5 x&&gF xs
noncomputable def dt:List (Str×Tr)->Bool
 |[]=>true |(_,x)::xs=>b5 x&&dt xs
end
mutual
/-- nothing lent for now in it -/
noncomputable def bW:Tr->Bool
 |.aA a=>ef a
 |.av (.l true) _=>false
 |.a9 (.l true) _=>false
 |.ins (.l true) _ _=>false
 |.av _ a=>ef a
 |.a9 _ a=>gE a
 |.ins _ _ a=>eL a
 |_=>true
noncomputable def ef:List Tr->Bool
 |[]=>true |x::xs=>bW x&&ef xs
noncomputable def gE:List (aU×Tr)->Bool
 |[]=>true |(_,x)::xs=>bW x&&gE xs
noncomputable def eL:List (Str×Tr)->Bool
 |[]=>true |(_,x)::xs=>bW x&&eL xs
end
mutual
/-- as a callee has it: what is lent is lent to it -/
noncomputable def dn:Tr->Tr
 |.aA a=>.aA (cp a)
 |.av (.l _) a=>.av (.l false) (cp a)
 |.a9 (.l _) a=>.a9 (.l false) (iT a)
 |.ins (.l _) c a=>.ins (.l false) c (gV a)
 |.av .o a=>.av .o (cp a)
 |.a9 .o a=>.a9 .o (iT a)
 |.ins .o c a=>.ins .o c (gV a)
 |.av .f a=>.av .f (cp a)
 |.a9 .f a=>.a9 .f (iT a)
 |.ins .f c a=>.ins .f c (gV a)
 |t=>t
noncomputable def cp:List Tr->List Tr
 |[]=>[] |x::xs=>dn x::cp xs
noncomputable def iT:List (aU×Tr)->List (aU×Tr)
 |[]=>[] |(k,x)::xs=>(k,dn x)::iT xs
noncomputable def gV:List (Str×Tr)->List (Str×Tr)
 |[]=>[] |(k,x)::xs=>(k,dn x)::gV xs
end
mutual
theorem R.mo{B B':Bool->Hp}(e:Le F F')(b:∀k,Le (B k) (B' k)):∀(t:Tr){v:V}{cs:Cs},R K F B t v cs->R K F' B' t v cs
 |.int _,_,_,h=>h
 |.bl _,_,_,h=>h
 |.str _,_,_,h=>h
 |.aZ,_,_,h=>h
 |.aF,_,_,h=>h
 |.ty _,_,_,h=>h
 |.cl _,_,_,h=>h
 |.exc _,_,_,y=>by let⟨z,a,c,d⟩:=y;exact⟨z,a,c,Le.exc e d⟩
 |.aA xs,_,_,y=>by let⟨a,vs,c,d,g⟩:=y;exact⟨a,vs,c,e.aA d,Rs.mo e b xs g⟩
 |.av .f xs,_,_,y=>by let⟨z,a,vs,c,d,g⟩:=y;exact⟨z,a,vs,c,e.av d,Rs.mo e b xs g⟩
 |.av (.l k) xs,_,_,y=>by let⟨z,a,vs,c,d,g⟩:=y;exact⟨z,a,vs,c,(b k).av d,Rs.mo e b xs g⟩
 |.av .o xs,_,_,y=>by let⟨a,vs,i,c,d,g⟩:=y;exact⟨a,vs,i,c,d,Rs.mo e b xs g⟩
 |.a9 .f xs,_,_,y=>by let⟨z,a,vs,c,d,g,m⟩:=y;exact⟨z,a,vs,c,e.a9 d,Rk.mo e b xs g,m⟩
 |.a9 (.l k) xs,_,_,y=>by let⟨z,a,vs,c,d,g,m⟩:=y;exact⟨z,a,vs,c,(b k).a9 d,Rk.mo e b xs g,m⟩
 |.a9 .o xs,_,_,y=>by let⟨a,vs,i,c,d,g,m⟩:=y;exact⟨a,vs,i,c,d,Rk.mo e b xs g,m⟩
 |.ins .f _ xs,_,_,y=>by let⟨z,a,j,vs,c,d,g⟩:=y;exact⟨z,a,j,vs,c,e _ _ (by intro _ _ z;cases z) d,Rf.mo e b xs g⟩
 |.ins (.l k) _ xs,_,_,y=>by let⟨z,a,j,vs,c,d,g⟩:=y;exact⟨z,a,j,vs,c,b k _ _ (by intro _ _ z;cases z) d,Rf.mo e b xs g⟩
 |.ins .o _ xs,_,_,y=>by let⟨a,j,vs,i,c,d,g⟩:=y;exact⟨a,j,vs,i,c,d,Rf.mo e b xs g⟩
theorem Rs.mo{B B':Bool->Hp}(e:Le F F')(b:∀k,Le (B k) (B' k)):∀(t:List Tr){v:List V}{cs:Cs},Rs K F B t v cs->Rs K F' B' t v cs
 |[],_,_,h=>h
 |x::xs,_,_,y=>by let⟨v,r,c,d,a,f,g,i⟩:=y;exact⟨v,r,c,d,a,f,R.mo e b x g,Rs.mo e b xs i⟩
theorem Rk.mo{B B':Bool->Hp}(e:Le F F')(b:∀k,Le (B k) (B' k)):∀(t:List (aU×Tr)){v:List (aU×V)}{cs:Cs},Rk K F B t v cs->Rk K F' B' t v cs
 |[],_,_,h=>h
 |(_,x)::xs,_,_,y=>by let⟨v,r,c,d,a,f,g,i⟩:=y;exact⟨v,r,c,d,a,f,R.mo e b x g,Rk.mo e b xs i⟩
theorem Rf.mo{B B':Bool->Hp}(e:Le F F')(b:∀k,Le (B k) (B' k)):∀(t:List (Str×Tr)){v:List (Str×V)}{cs:Cs},Rf K F B t v cs->Rf K F' B' t v cs
 |[],_,_,h=>h
 |(_,x)::xs,_,_,y=>by let⟨v,r,c,d,a,f,g,i⟩:=y;exact⟨v,r,c,d,a,f,R.mo e b x g,Rf.mo e b xs i⟩
end
section
mutual
theorem R.aJ(b:∀k,Le (B k) (B' k)):∀(t:Tr){v:V}{cs:Cs},R K F B t v cs->(∀p∈cs,B' true p.1=some p.2)->R K F B' (aJ t) v []
 |.int _,_,_,y,_=>by let⟨h,_⟩:=y;exact⟨h,rfl⟩
 |.bl _,_,_,y,_=>by let⟨h,_⟩:=y;exact⟨h,rfl⟩
 |.str _,_,_,y,_=>by let⟨h,_⟩:=y;exact⟨h,rfl⟩
 |.aZ,_,_,y,_=>by let⟨h,_⟩:=y;exact⟨h,rfl⟩
 |.aF,_,_,h,_=>h.elim
 |.ty _,_,_,y,_=>by let⟨h,_⟩:=y;exact⟨h,rfl⟩
 |.cl _,_,_,y,_=>by let⟨h,_⟩:=y;exact⟨h,rfl⟩
 |.exc _,_,_,y,_=>by let⟨_,a,h,n⟩:=y;exact⟨rfl,a,h,n⟩
 |.aA xs,_,_,y,m=>by let⟨a,vs,d,c,e⟩:=y;exact⟨a,vs,d,c,Rs.aJ b xs e m⟩
 |.av .f xs,_,_,y,_=>by let⟨z,a,vs,d,c,e⟩:=y;exact⟨rfl,a,vs,d,c,Rs.mo (Le.refl F) b xs e⟩
 |.av (.l k) xs,_,_,y,_=>by let⟨z,a,vs,d,c,e⟩:=y;exact⟨rfl,a,vs,d,(b k).av c,Rs.mo (Le.refl F) b xs e⟩
 |.av .o xs,_,_,y,m=>by let⟨a,vs,j,d,c,e⟩:=y;exact⟨rfl,a,vs,d,bY.of (m (a,.av vs) (by rw[c];exact .head _)),Rs.aJ b xs e λp q=>m p (by rw[c];exact .tail _ q)⟩
 |.a9 .f xs,_,_,y,_=>by let⟨z,a,vs,d,c,e,i⟩:=y;exact⟨rfl,a,vs,d,c,Rk.mo (Le.refl F) b xs e,i⟩
 |.a9 (.l k) xs,_,_,y,_=>by let⟨z,a,vs,d,c,e,i⟩:=y;exact⟨rfl,a,vs,d,(b k).a9 c,Rk.mo (Le.refl F) b xs e,i⟩
 |.a9 .o xs,_,_,y,m=>by let⟨a,vs,j,d,c,e,i⟩:=y;exact⟨rfl,a,vs,d,Rd.of (m (a,.dK vs) (by rw[c];exact .head _)),Rk.aJ b xs e λp q=>m p (by rw[c];exact .tail _ q),by rw[eK];exact i⟩
 |.ins .f _ xs,_,_,y,_=>by let⟨z,a,g,vs,d,c,e⟩:=y;exact⟨rfl,a,g,vs,d,c,Rf.mo (Le.refl F) b xs e⟩
 |.ins (.l k) _ xs,_,_,y,_=>by let⟨z,a,g,vs,d,c,e⟩:=y;exact⟨rfl,a,g,vs,d,b k _ _ (by intro _ _ z;cases z) c,Rf.mo (Le.refl F) b xs e⟩
 |.ins .o _ xs,_,_,y,m=>by let⟨a,g,vs,j,d,c,e⟩:=y;exact⟨rfl,a,g,vs,d,Rd.of (m (a,.ins _ g vs) (by rw[c];exact .head _)),Rf.aJ b xs e λp q=>m p (by rw[c];exact .tail _ q)⟩
theorem Rs.aJ(b:∀k,Le (B k) (B' k)):∀(t:List Tr){v:List V}{cs:Cs},Rs K F B t v cs->(∀p∈cs,B' true p.1=some p.2)->Rs K F B' (cQ t) v []
 |[],_,_,y,_=>by let⟨h,_⟩:=y;exact⟨h,rfl⟩
 |x::xs,_,_,y,m=>by let⟨v,r,c,d,e,a,f,g⟩:=y;exact⟨v,r,[],[],e,rfl,R.aJ b x f λp q=>m p (by rw[a];exact mem_append.mpr (.inl q)),Rs.aJ b xs g λp q=>m p (by rw[a];exact mem_append.mpr (.inr q))⟩
theorem Rk.aJ(b:∀k,Le (B k) (B' k)):∀(t:List (aU×Tr)){v:List (aU×V)}{cs:Cs},Rk K F B t v cs->(∀p∈cs,B' true p.1=some p.2)->Rk K F B' (dI t) v []
 |[],_,_,y,_=>by let⟨h,_⟩:=y;exact⟨h,rfl⟩
 |(_,x)::xs,_,_,y,m=>by let⟨v,r,c,d,e,a,f,g⟩:=y;exact⟨v,r,[],[],e,rfl,R.aJ b x f λp q=>m p (by rw[a];exact mem_append.mpr (.inl q)),Rk.aJ b xs g λp q=>m p (by rw[a];exact mem_append.mpr (.inr q))⟩
theorem Rf.aJ(b:∀k,Le (B k) (B' k)):∀(t:List (Str×Tr)){v:List (Str×V)}{cs:Cs},Rf K F B t v cs->(∀p∈cs,B' true p.1=some p.2)->Rf K F B' (de t) v []
 |[],_,_,y,_=>by let⟨h,_⟩:=y;exact⟨h,rfl⟩
 |(_,x)::xs,_,_,y,m=>by let⟨v,r,c,d,e,a,f,g⟩:=y;exact⟨v,r,[],[],e,rfl,R.aJ b x f λp q=>m p (by rw[a];exact mem_append.mpr (.inl q)),Rf.aJ b xs g λp q=>m p (by rw[a];exact mem_append.mpr (.inr q))⟩
theorem eK:∀(xs:List (aU×Tr)),(dI xs).map (·.1)=xs.map (·.1)
 |[]=>rfl
 |(_,_)::xs=>by show _::_=_::_;rw[eK xs]
end
theorem Fc:∀(xs:bN),(fw xs).map (·.1)=xs.map (·.1)
 |[]=>rfl
 |(_,_)::xs=>by show _::_=_::_;rw[Fc xs]
mutual
/-- without lent parts B is not asked -/
theorem R.base:∀(t:Tr){v:V}{cs:Cs},b5 t=true->R K F B t v cs->R K F B' t v cs
 |.int _,_,_,_,h=>h
 |.bl _,_,_,_,h=>h
 |.str _,_,_,_,h=>h
 |.aZ,_,_,_,h=>h
 |.aF,_,_,_,h=>h
 |.ty _,_,_,_,h=>h
 |.cl _,_,_,_,h=>h
 |.exc _,_,_,_,h=>h
 |.aA xs,_,_,n,y=>by let⟨a,vs,b,c,d⟩:=y;exact⟨a,vs,b,c,Rs.base xs n d⟩
 |.av .f xs,_,_,n,y=>by let⟨z,a,vs,b,c,d⟩:=y;exact⟨z,a,vs,b,c,Rs.base xs n d⟩
 |.av (.l k) xs,_,_,n,_=>by cases n
 |.av .o xs,_,_,n,y=>by let⟨a,vs,e,b,c,d⟩:=y;exact⟨a,vs,e,b,c,Rs.base xs n d⟩
 |.a9 .f xs,_,_,n,y=>by let⟨z,a,vs,b,c,d,i⟩:=y;exact⟨z,a,vs,b,c,Rk.base xs n d,i⟩
 |.a9 (.l k) xs,_,_,n,_=>by cases n
 |.a9 .o xs,_,_,n,y=>by let⟨a,vs,e,b,c,d,i⟩:=y;exact⟨a,vs,e,b,c,Rk.base xs n d,i⟩
 |.ins .f _ xs,_,_,n,y=>by let⟨z,a,g,vs,b,c,d⟩:=y;exact⟨z,a,g,vs,b,c,Rf.base xs n d⟩
 |.ins (.l k) _ xs,_,_,n,_=>by cases n
 |.ins .o _ xs,_,_,n,y=>by let⟨a,g,vs,e,b,c,d⟩:=y;exact⟨a,g,vs,e,b,c,Rf.base xs n d⟩
theorem Rs.base:∀(t:List Tr){v:List V}{cs:Cs},dV t=true->Rs K F B t v cs->Rs K F B' t v cs
 |[],_,_,_,h=>h
 |x::xs,_,_,n,y=>by
  let⟨v,r,c,d,a,b,e,f⟩:=y;rw[dV,and_eq_true] at n;exact⟨v,r,c,d,a,b,R.base x n.1 e,Rs.base xs n.2 f⟩
theorem Rk.base:∀(t:List (aU×Tr)){v:List (aU×V)}{cs:Cs},gF t=true->Rk K F B t v cs->Rk K F B' t v cs
 |[],_,_,_,h=>h
 |(_,x)::xs,_,_,n,y=>by
  let⟨v,r,c,d,a,b,e,f⟩:=y;rw[gF,and_eq_true] at n;exact⟨v,r,c,d,a,b,R.base x n.1 e,Rk.base xs n.2 f⟩
theorem Rf.base:∀(t:List (Str×Tr)){v:List (Str×V)}{cs:Cs},dt t=true->Rf K F B t v cs->Rf K F B' t v cs
 |[],_,_,_,h=>h
 |(_,x)::xs,_,_,n,y=>by
  let⟨v,r,c,d,a,b,e,f⟩:=y;rw[dt,and_eq_true] at n;exact⟨v,r,c,d,a,b,R.base x n.1 e,Rf.base xs n.2 f⟩
end
mutual
theorem R.aB(b:Le F F'):∀(t:Tr){v:V}{cs:Cs},R K F B t v cs->(∀p∈cs,F' p.1=some p.2)->R K F' B (aB t) v []
 |.int _,_,_,y,_=>by let⟨h,_⟩:=y;exact⟨h,rfl⟩
 |.bl _,_,_,y,_=>by let⟨h,_⟩:=y;exact⟨h,rfl⟩
 |.str _,_,_,y,_=>by let⟨h,_⟩:=y;exact⟨h,rfl⟩
 |.aZ,_,_,y,_=>by let⟨h,_⟩:=y;exact⟨h,rfl⟩
 |.aF,_,_,h,_=>h.elim
 |.ty _,_,_,y,_=>by let⟨h,_⟩:=y;exact⟨h,rfl⟩
 |.cl _,_,_,y,_=>by let⟨h,_⟩:=y;exact⟨h,rfl⟩
 |.exc _,_,_,y,_=>by let⟨_,a,h,n⟩:=y;exact⟨rfl,a,h,Le.exc b n⟩
 |.aA xs,_,_,y,m=>by let⟨a,vs,d,c,e⟩:=y;exact⟨a,vs,d,b.aA c,Rs.aB b xs e m⟩
 |.av .f xs,_,_,y,_=>by let⟨z,a,vs,d,c,e⟩:=y;exact⟨rfl,a,vs,d,b.av c,Rs.mo b (λk=>Le.refl (B k)) xs e⟩
 |.av (.l k) xs,_,_,y,_=>by let⟨z,a,vs,d,c,e⟩:=y;exact⟨rfl,a,vs,d,c,Rs.mo b (λk=>Le.refl (B k)) xs e⟩
 |.av .o xs,_,_,y,m=>by let⟨a,vs,j,d,c,e⟩:=y;exact⟨rfl,a,vs,d,bY.of (m (a,.av vs) (by rw[c];exact .head _)),Rs.aB b xs e λp q=>m p (by rw[c];exact .tail _ q)⟩
 |.a9 .f xs,_,_,y,_=>by let⟨z,a,vs,d,c,e,i⟩:=y;exact⟨rfl,a,vs,d,b.a9 c,Rk.mo b (λk=>Le.refl (B k)) xs e,i⟩
 |.a9 (.l k) xs,_,_,y,_=>by let⟨z,a,vs,d,c,e,i⟩:=y;exact⟨rfl,a,vs,d,c,Rk.mo b (λk=>Le.refl (B k)) xs e,i⟩
 |.a9 .o xs,_,_,y,m=>by let⟨a,vs,j,d,c,e,i⟩:=y;exact⟨rfl,a,vs,d,Rd.of (m (a,.dK vs) (by rw[c];exact .head _)),Rk.aB b xs e λp q=>m p (by rw[c];exact .tail _ q),by rw[Fc];exact i⟩
 |.ins .f _ xs,_,_,y,_=>by let⟨z,a,g,vs,d,c,e⟩:=y;exact⟨rfl,a,g,vs,d,b _ _ (by intro _ _ z;cases z) c,Rf.mo b (λk=>Le.refl (B k)) xs e⟩
 |.ins (.l k) _ xs,_,_,y,_=>by let⟨z,a,g,vs,d,c,e⟩:=y;exact⟨rfl,a,g,vs,d,c,Rf.mo b (λk=>Le.refl (B k)) xs e⟩
 |.ins .o _ xs,_,_,y,m=>by let⟨a,g,vs,j,d,c,e⟩:=y;exact⟨rfl,a,g,vs,d,Rd.of (m (a,.ins _ g vs) (by rw[c];exact .head _)),Rf.aB b xs e λp q=>m p (by rw[c];exact .tail _ q)⟩
theorem Rs.aB(b:Le F F'):∀(t:List Tr){v:List V}{cs:Cs},Rs K F B t v cs->(∀p∈cs,F' p.1=some p.2)->Rs K F' B (bV t) v []
 |[],_,_,y,_=>by let⟨h,_⟩:=y;exact⟨h,rfl⟩
 |x::xs,_,_,y,m=>by let⟨v,r,c,d,e,a,f,g⟩:=y;exact⟨v,r,[],[],e,rfl,R.aB b x f λp q=>m p (by rw[a];exact mem_append.mpr (.inl q)),Rs.aB b xs g λp q=>m p (by rw[a];exact mem_append.mpr (.inr q))⟩
theorem Rk.aB(b:Le F F'):∀(t:List (aU×Tr)){v:List (aU×V)}{cs:Cs},Rk K F B t v cs->(∀p∈cs,F' p.1=some p.2)->Rk K F' B (fw t) v []
 |[],_,_,y,_=>by let⟨h,_⟩:=y;exact⟨h,rfl⟩
 |(_,x)::xs,_,_,y,m=>by let⟨v,r,c,d,e,a,f,g⟩:=y;exact⟨v,r,[],[],e,rfl,R.aB b x f λp q=>m p (by rw[a];exact mem_append.mpr (.inl q)),Rk.aB b xs g λp q=>m p (by rw[a];exact mem_append.mpr (.inr q))⟩
theorem Rf.aB(b:Le F F'):∀(t:List (Str×Tr)){v:List (Str×V)}{cs:Cs},Rf K F B t v cs->(∀p∈cs,F' p.1=some p.2)->Rf K F' B (fv t) v []
 |[],_,_,y,_=>by let⟨h,_⟩:=y;exact⟨h,rfl⟩
 |(_,x)::xs,_,_,y,m=>by let⟨v,r,c,d,e,a,f,g⟩:=y;exact⟨v,r,[],[],e,rfl,R.aB b x f λp q=>m p (by rw[a];exact mem_append.mpr (.inl q)),Rf.aB b xs g λp q=>m p (by rw[a];exact mem_append.mpr (.inr q))⟩
end
def Plain(cs:Cs):Prop:=∀p∈cs,∀x u,p.2≠HO.aB x u
theorem Plain.nil:Plain []:=λ_ h=>nomatch h
theorem Plain.cons{a:ae}{o:HO}{cs:Cs}(h:∀x u,o≠HO.aB x u)(t:Plain cs):Plain ((a,o)::cs):=λp m=>by
 cases m with
 |head=>exact h
 |tail _ m=>exact t p m
theorem Plain.app(h:Plain c)(t:Plain d):Plain (c++d):=λp m=>(mem_append.mp m).elim (h p) (t p)
mutual
theorem R.plain:∀(t:Tr){v:V}{cs:Cs},R K F B t v cs->Plain cs
 |.int _,_,_,y=>by let⟨_,h⟩:=y;rw[h];exact .nil
 |.bl _,_,_,y=>by let⟨_,h⟩:=y;rw[h];exact .nil
 |.str _,_,_,y=>by let⟨_,h⟩:=y;rw[h];exact .nil
 |.aZ,_,_,y=>by let⟨_,h⟩:=y;rw[h];exact .nil
 |.aF,_,_,h=>h.elim
 |.ty _,_,_,y=>by let⟨_,h⟩:=y;rw[h];exact .nil
 |.cl _,_,_,y=>by let⟨_,h⟩:=y;rw[h];exact .nil
 |.exc _,_,_,y=>by let⟨h,_⟩:=y;rw[h];exact .nil
 |.aA xs,_,_,y=>by let⟨a,vs,d,c,b⟩:=y;exact Rs.plain xs b
 |.av .f xs,_,_,y=>by let⟨z,_⟩:=y;rw[z];exact .nil
 |.av (.l k) xs,_,_,y=>by let⟨z,_⟩:=y;rw[z];exact .nil
 |.av .o xs,_,_,y=>by let⟨a,vs,e,d,c,b⟩:=y;rw[c];exact .cons (by intro _ _ z;cases z) (Rs.plain xs b)
 |.a9 .f xs,_,_,y=>by let⟨z,_⟩:=y;rw[z];exact .nil
 |.a9 (.l k) xs,_,_,y=>by let⟨z,_⟩:=y;rw[z];exact .nil
 |.a9 .o xs,_,_,y=>by let⟨a,vs,e,d,c,b,_⟩:=y;rw[c];exact .cons (by intro _ _ z;cases z) (Rk.plain xs b)
 |.ins .f _ xs,_,_,y=>by let⟨z,_⟩:=y;rw[z];exact .nil
 |.ins (.l k) _ xs,_,_,y=>by let⟨z,_⟩:=y;rw[z];exact .nil
 |.ins .o _ xs,_,_,y=>by let⟨a,g,vs,e,d,c,b⟩:=y;rw[c];exact .cons (by intro _ _ z;cases z) (Rf.plain xs b)
theorem Rs.plain:∀(t:List Tr){v:List V}{cs:Cs},Rs K F B t v cs->Plain cs
 |[],_,_,y=>by let⟨_,h⟩:=y;rw[h];exact .nil
 |x::xs,_,_,y=>by let⟨v,r,c,d,f,a,b,e⟩:=y;rw[a];exact (R.plain x b).app (Rs.plain xs e)
theorem Rk.plain:∀(t:List (aU×Tr)){v:List (aU×V)}{cs:Cs},Rk K F B t v cs->Plain cs
 |[],_,_,y=>by let⟨_,h⟩:=y;rw[h];exact .nil
 |(_,x)::xs,_,_,y=>by let⟨v,r,c,d,f,a,b,e⟩:=y;rw[a];exact (R.plain x b).app (Rk.plain xs e)
theorem Rf.plain:∀(t:List (Str×Tr)){v:List (Str×V)}{cs:Cs},Rf K F B t v cs->Plain cs
 |[],_,_,y=>by let⟨_,h⟩:=y;rw[h];exact .nil
 |(_,x)::xs,_,_,y=>by let⟨v,r,c,d,f,a,b,e⟩:=y;rw[a];exact (R.plain x b).app (Rf.plain xs e)
end
structure ar(F H:Hp)(cs:Cs):Prop where
 h:∀p∈cs,H p.1=some p.2
 f:∀p∈cs,F p.1=none
 nd:(cs.map (·.1)).Nodup
theorem ar.nil:ar F H []:=⟨λ_ h=>(nomatch h),λ_ h=>(nomatch h),nodup_nil⟩
theorem ar.gr(c:ar F H cs)(g:Gr F H F' H'):ar F' H' cs:=⟨λp m=>g.h _ _ (c.h p m),λp m=>g.own (c.f p m) (c.h p m),c.nd⟩
def dg(H:Hp)(cs:Cs):Prop:=∀p∈cs,H p.1=none
theorem dg.nil:dg H []:=λ_ h=>nomatch h
theorem dg.back(s:az H H')(n:dg H' cs):dg H cs:=λp m=>s.free (n p m)
theorem ar.app(h:ar F H c)(t:ar F H d)(n:∀p∈c,∀q∈d,p.1≠q.1):ar F H (c++d):=
 ⟨λp m=>(mem_append.mp m).elim (h.h p) (t.h p),λp m=>(mem_append.mp m).elim (h.f p) (t.f p),by
  rw[map_append,nodup_append];refine⟨h.nd,t.nd,λa e b g=>?_⟩;∎;let⟨p,i,rfl⟩:=mem_map.mp e;let⟨q,j,rfl⟩:=mem_map.mp g;∎;exact n p i q j⟩
theorem ar.left(h:ar F H (c++d)):ar F H c:=⟨λp m=>h.h p (mem_append.mpr (.inl m)),λp m=>h.f p (mem_append.mpr (.inl m)),by have:=h.nd;rw[map_append,nodup_append] at this;exact this.1⟩
theorem ar.right(h:ar F H (c++d)):ar F H d:=⟨λp m=>h.h p (mem_append.mpr (.inr m)),λp m=>h.f p (mem_append.mpr (.inr m)),by have:=h.nd;rw[map_append,nodup_append] at this;exact this.2.1⟩
structure Out(K:ak)(F:Hp)(B:Bool->Hp)(H F' H':Hp)(t:Tr)(v:V)(cs:Cs):Prop where
 g:Gr F H F' H'
 r:R K F' B t v cs
 c:ar F' H' cs
 n:dg H cs
structure dO(K:ak)(F:Hp)(B:Bool->Hp)(H F' H':Hp)(t:ah)(v:ax)(cs:Cs):Prop where
 g:Gr F H F' H'
 r:Rs K F' B t v cs
 c:ar F' H' cs
 n:dg H cs
def d7(K:ak)(F:Hp)(B:Bool->Hp)(j:St)(y:ah):Prop:=∀(i:Nat)(t:Tr),y[i]?=some t->t=.aF\/∃v,j[i]?=some (some v)/\R K F B t v []
theorem d7.mo(e:d7 K F B j y)(l:Le F F')(b:∀k,Le (B k) (B' k)):d7 K F' B' j y:=λi t h=>(e i t h).imp id λ⟨v,h1,h2⟩=>⟨v,h1,h2.mo l b t⟩
abbrev aY:=ah->(aq)->Prop
abbrev cG:=ah->(aG)->Prop
abbrev d9:=ah->(Bool->Prop)->Prop
structure Md where
 z:Bool
 E:St->XK
 q:af->Prop
def Md.iV(k:Md):Md:=⟨k.z,k.E,λ_=>False⟩
def Md.walk(k:Md):Md:=⟨false,k.E,λ_=>False⟩
def Md.base(b:Bool):Md:=⟨b,λ_=>E0,λ_=>False⟩
structure gj(K:ak)(k:Md)(F:Hp)(B:Bool->Hp)(H:Hp)(j:St)(y:ah):Prop where
 s:az F H
 b:∀k,az (B k) H
 z:k.z=true->Fz S0 F
 e:d7 K F B j y
 x:∀cls F' H',k.q cls->Gr F H F' H'->k.E j cls none H'
theorem _root_.Vc.Gr.aI(s:az F H):Gr F H F H:=Gr.of (Gr0.refl s) (Fz.refl F)
theorem _root_.Vc.Gr.trans'(a:Gr F H F' H')(b:Gr F' H' F2 H2):Gr F H F2 H2:=Gr.of (a.toGr0.tr b) (b.fz a.z)
theorem gj.gr(c:gj K k F B H j y)(g:Gr F H a d):gj K k a B d j y:=⟨g.s,λk=>(c.b k).trans g.h,λh=>g.fz (c.z h),c.e.mo g.le (λk=>Le.refl (B k)),λf a d q i=>c.x f a d q (g.trans' i)⟩
def bt(K:ak)(k:Md)(f:TE)(e:aY):Prop:=∀(F:Hp)(B:Bool->Hp)(H:Hp)(j:St)(y:ah)(Q:VK)(b:aq),gj K k F B H j y->e y b->(∀t v c a d,b t->Out K F B H c a t v d->Q v a)->f j H Q
def fD(K:ak)(k:Md)(f:TA)(e:cG):Prop:=∀(F:Hp)(B:Bool->Hp)(H:Hp)(j:St)(y:ah)(Q:ax->Hp->Prop)(b:aG),gj K k F B H j y->e y b->(∀t v c a d,b t->dO K F B H c a t v d->Q v a)->f j H Q
def fE(K:ak)(k:Md)(f:TT)(e:d9):Prop:=∀(F:Hp)(B:Bool->Hp)(H:Hp)(j:St)(y:ah)(Q:Bool->Hp->Prop)(c:Bool->Prop),gj K k F B H j y->e y c->(∀b d a,c b->Gr F H d a->Q b a)->f j H Q
theorem Out.same(s:az F H)(r:R K F B t v []):Out K F B H F H t v []:=⟨Gr.aI s,r,.nil,.nil⟩
def tN(i:Nat):aY:=λj Q=>match j[i]? with |some .aF=>False |some t=>Q t |none=>False
theorem XC(i:Nat):bt K k (lQ i) (tN i):=λF B H j y Q d c p q=>by
 unfold tN at p;cases h:y[i]? with
 |none=>rw[h] at p;exact p.elim
 |some t=>
  rcases c.e i t h with rfl |⟨v,a,b⟩
  .rw[h] at p;exact p.elim
  .refine⟨v,a,q t v F H [] ?_ (Out.same c.s b)⟩;rw[h] at p;cases t with
   |aF=>exact p.elim
   |_=>exact p
def pC(t:Tr):aY:=λ_ Q=>Q t
theorem rK(h:∀F B,R K F B t v []):bt K k (tC v) (pC t):=λF B H j y Q a c p q=>q t v F H [] p (Out.same c.s (h F B))
theorem XD:bt K k (tC (.int n)) (pC (.int n)):=rK λ_ _=>⟨rfl,rfl⟩
theorem XE:bt K k (tC (.str n)) (pC (.str n)):=rK λ_ _=>⟨rfl,rfl⟩
theorem z's:bt K k (tC (.bl n)) (pC (.bl n)):=rK λ_ _=>⟨rfl,rfl⟩
def p2(c:Tr->Tr->(aq)->Prop)(a b:aY):aY:=λj Q=>a j λx=>b j λy=>c x y Q
def cZ(K:ak)(k:Md)(r:R2)(g:Tr->Tr->(aq)->Prop):Prop:=∀(F:Hp)(B:Bool->Hp)(H:Hp)(x y:V)(tx ty:Tr)(a b:Cs)(Q:VK)(f:aq),az F H->(∀k,az (B k) H)->(k.z=true->Fz S0 F)->R K F B tx x a->R K F B ty y b->ar F H a->ar F H b->(∀p∈a,∀q∈b,p.1≠q.1)->g tx ty f->
 (∀t v c d e,f t->Gr F H c d->R K c B t v e->ar c d e->(∀p∈e,H p.1=none\/p∈a\/p∈b)->Q v d)->r x y H Q
theorem u7(o:cZ K k r pr)(ha:bt K k ta pa)(M:bt K k tb pb):bt K k (o9 r ta tb) (p2 pr pa pb):=λF B H j i Q E c p q=>by
 refine ha F B H j i _ _ c p λx v f A I p1 d=>?_
 refine M f B A j i _ _ (c.gr d.g) p1 λy u l C J p2 a=>?_
 refine o l B C v u x y I J Q E a.g.s (λk=>((c.b k).trans d.g.h).trans a.g.h) (λh=>a.g.fz (d.g.fz (c.z h))) (d.r.mo a.g.le (λk=>Le.refl (B k)) x) a.r (d.c.gr a.g) a.c (λp N q O e=>by have:=d.c.h p N;rw[e,a.n q O] at this;cases this) p2 λt v' w D L U g Y G n=>?_
 refine q t v' w D L U ⟨(d.g.trans' a.g).trans' g,Y,G,λp m=>?_⟩;rcases n p m with z |z |z
 .exact (d.g.h.trans a.g.h).free z
 .exact d.n p z
 .exact d.g.h.free (a.n p z)
def p1(b:Tr->(aq)->Prop)(a:aY):aY:=λj Q=>a j λx=>b x Q
def AS(K:ak)(k:Md)(r:V->Hp->VK->Prop)(f:Tr->(aq)->Prop):Prop:=∀(F:Hp)(B:Bool->Hp)(H:Hp)(x:V)(tx:Tr)(d:Cs)(Q:VK)(e:aq),az F H->(∀k,az (B k) H)->(k.z=true->Fz S0 F)->R K F B tx x d->ar F H d->f tx e->
 (∀t v a b c,e t->Gr F H a b->R K a B t v c->ar a b c->(∀p∈c,H p.1=none\/p∈d)->Q v b)->r x H Q
theorem z't(o:AS K k r pr)(ha:bt K k ta pa):bt K k (IS r ta) (p1 pr pa):=λF B H j y Q l c p q=>by
 refine ha F B H j y _ _ c p λx v d f w p1 a=>?_
 refine o d B f v x w Q l a.g.s (λk=>(c.b k).trans a.g.h) (λh=>a.g.fz (c.z h)) a.r a.c p1 λt E e i A C g D u n=>?_
 refine q t E e i A C ⟨a.g.trans' g,D,u,λp m=>?_⟩;rcases n p m with z |z
 .exact a.g.h.free z
 .exact a.n p z
def tO:cG:=λ_ Q=>Q []
def w5(b:aY)(a:cG):cG:=λj Q=>b j λx=>a j λc=>Q (x::c)
theorem Hc:fD K k jL tO:=λF B H j y Q a c p q=>q [] [] F H [] p ⟨Gr.aI c.s,⟨rfl,rfl⟩,.nil,.nil⟩
theorem VR(h:bt K k te pe)(ha:fD K k ta pa):fD K k (jH te ta) (w5 pe pa):=λF B H j y Q A c p q=>by
 refine h F B H j y _ _ c p λx v i o d p1 a=>?_
 refine ha i B o j y _ _ (c.gr a.g) p1 λz vs l s f p2 b=>?_
 refine q (x::z) (v::vs) l s (d++f) p2 ⟨a.g.trans' b.g,⟨v,vs,d,f,rfl,rfl,a.r.mo b.g.le (λk=>Le.refl (B k)) x,b.r⟩,(a.c.gr b.g).app b.c λp u q w e=>?_,λp m=>?_⟩
 .have:=a.c.h p u;rw[e,b.n q w] at this;cases this
 .rcases mem_append.mp m with m |m
  .exact a.n p m
  .exact a.g.h.free (b.n p m)
theorem Rs.length:∀{t:ah}{v:ax}{cs:Cs},Rs K F B t v cs->v.length=t.length
 |[],_,_,y=>by let⟨h,_⟩:=y;rw[h];rfl
 |x::xs,_,_,y=>by let⟨v,r,c,d,a,e,f,b⟩:=y;rw[a,length_cons,length_cons,Rs.length b]
theorem Rs.at:∀{t:ah}{v:ax}{cs:Cs}{i:Nat}{x:Tr},Rs K F B t v cs->t[i]?=some x->∃u c,v[i]?=some u/\R K F B x u c/\∀p∈c,p∈cs
 |x::xs,_,_,0,y,y0,h=>by
  let⟨v,r,c,d,a,b,f,g⟩:=y0;cases h;exact⟨v,c,by rw[a];rfl,f,λp m=>by rw[b];exact mem_append.mpr (.inl m)⟩
 |x::xs,_,_,i + 1,y,y0,h=>by
  ∎;let⟨v,r,c,d,a,b,f,g⟩:=y0;let⟨u,e,j,l,n⟩:=Rs.at (i:=i) g h;∎;exact⟨u,e,by rw[a];exact j,l,λp m=>by rw[b];exact mem_append.mpr (.inr (n p m))⟩
theorem Rs.at':∀{t:ah}{v:ax}{cs:Cs}{i:Nat}{x:Tr},Rs K F B t v cs->ar F H cs->t[i]?=some x->∃u c,v[i]?=some u/\R K F B x u c/\ar F H c/\∀p∈c,p∈cs
 |x::xs,_,_,0,y,y0,hc,h=>by
  let⟨v,r,c,d,b,a,f,g⟩:=y0;cases h;rw[a] at hc;exact⟨v,c,by rw[b];rfl,f,hc.left,λp m=>by rw[a];exact mem_append.mpr (.inl m)⟩
 |x::xs,_,_,i + 1,y,y0,hc,h=>by
  let⟨v,r,c,d,b,a,f,g⟩:=y0;rw[a] at hc;let⟨u,e,j,l,n,o⟩:=Rs.at' (i:=i) g hc.right h;exact⟨u,e,by rw[b];exact j,l,n,λp m=>by rw[a];exact mem_append.mpr (.inr (o p m))⟩
theorem Rk.keys:∀{t:bN}{v:cv}{cs:Cs},Rk K F B t v cs->v.map (·.1)=t.map (·.1)
 |[],_,_,y=>by let⟨h,_⟩:=y;rw[h];rfl
 |(k,x)::xs,_,_,y=>by let⟨v,r,c,d,a,e,f,b⟩:=y;rw[a,map_cons,map_cons,Rk.keys b]
theorem Rk.length(h:Rk K F B t v cs):v.length=t.length:=by have:=congrArg List.length h.keys;simpa using this
def look(m:bN)(k:aU):Option Tr:=(m.find? λp=>decide (p.1=k)).map (·.2)
theorem Rk.look:∀{t:bN}{v:cv}{cs:Cs}(k:aU),Rk K F B t v cs->ar F H cs->(look t k=none/\fm v k=none)\/∃x u c,look t k=some x/\fm v k=some u/\R K F B x u c/\ar F H c/\∀p∈c,p∈cs
 |[],_,_,k,y,_=>by let⟨h,_⟩:=y;exact .inl ⟨rfl,by rw[h];rfl⟩
 |(k',x)::xs,_,_,k,y,hc=>by
  let⟨v,r,c,d,b,a,q,s⟩:=y;rw[a] at hc;by_cases e:k'=k
  .refine .inr ⟨x,v,c,?_,?_,q,hc.left,λp m=>by rw[a];exact mem_append.mpr (.inl m)⟩
   .unfold Pu.look;rw[List.find?_cons_of_pos (by simpa using e)];rfl
   .unfold fm;rw[b,List.find?_cons_of_pos (by simpa using e)];rfl
  .have e1:Pu.look ((k',x)::xs) k=Pu.look xs k:=by unfold Pu.look;rw[List.find?_cons_of_neg (by simpa using e)]
   have o:fm ((k',v)::r) k=fm r k:=by unfold fm;rw[List.find?_cons_of_neg (by simpa using e)]
   rw[b,e1,o];rcases Rk.look (t:=xs) (v:=r) (cs:=d) k s hc.right with z |⟨y,u,n,f,g,i,j,l⟩
   .exact .inl z
   .exact .inr ⟨y,u,n,f,g,i,j,λp m=>by rw[a];exact mem_append.mpr (.inr (l p m))⟩
theorem R.cF(s:az F H)(b:∀k,az (B k) H)(r:R K F B (.av f xs) v cs)(c:ar F H cs):∃a vs e,v=.ref a/\bY K H a vs/\Rs K F B xs vs e/\ar F H e/\∀p∈e,p∈cs:=by
 cases f with
 |f=>let⟨z,a,vs,g,d,i⟩:=r;exact⟨a,vs,[],g,s.seq d,i,.nil,λ_ m=>nomatch m⟩
 |l k=>let⟨z,a,vs,g,d,i⟩:=r;exact⟨a,vs,[],g,(b k).seq d,i,.nil,λ_ m=>nomatch m⟩
 |o=>
  let⟨a,vs,e,g,d,i⟩:=r;rw[d] at c;exact⟨a,vs,e,g,bY.of (c.h _ (.head _)),i,ar.right (c:=[_]) c,λp m=>by rw[d];exact .tail _ m⟩
theorem R.cK(s:az F H)(r:R K F B (.aA xs) v cs):∃a vs,v=.ref a/\ck K H a vs/\Rs K F B xs vs cs:=by
 let⟨a,vs,b,c,d⟩:=r;exact⟨a,vs,b,s.aA c,d⟩
theorem R.fN(s:az F H)(b:∀k,az (B k) H)(r:R K F B (.a9 f xs) v cs)(c:ar F H cs):∃a vs e,v=.ref a/\Rd H a (.dK vs)/\Rk K F B xs vs e/\ar F H e/\∀p∈e,p∈cs:=by
 cases f with
 |f=>let⟨z,a,vs,g,d,i,_⟩:=r;exact⟨a,vs,[],g,s.rd d,i,.nil,λ_ m=>nomatch m⟩
 |l k=>let⟨z,a,vs,g,d,i,_⟩:=r;exact⟨a,vs,[],g,(b k).rd d,i,.nil,λ_ m=>nomatch m⟩
 |o=>
  let⟨a,vs,e,g,d,i,_⟩:=r;rw[d] at c;exact⟨a,vs,e,g,Rd.of (c.h _ (.head _)),i,ar.right (c:=[_]) c,λp m=>by rw[d];exact .tail _ m⟩
theorem R.kc(s:az F H)(b:∀k,az (B k) H)(r:R K F B (.ins f C xs) v cs)(c:ar F H cs):∃a d vs g,v=.ref a/\Rd H a (.ins C d vs)/\Rf K F B xs vs g/\ar F H g/\∀p∈g,p∈cs:=by
 cases f with
 |f=>let⟨z,a,d,vs,i,e,j⟩:=r;exact⟨a,d,vs,[],i,s.rd e,j,.nil,λ_ m=>nomatch m⟩
 |l k=>let⟨z,a,d,vs,i,e,j⟩:=r;exact⟨a,d,vs,[],i,(b k).rd e,j,.nil,λ_ m=>nomatch m⟩
 |o=>
  let⟨a,d,vs,g,i,e,j⟩:=r;rw[e] at c;exact⟨a,d,vs,g,i,Rd.of (c.h _ (.head _)),j,ar.right (c:=[_]) c,λp m=>by rw[e];exact .tail _ m⟩
theorem qW(s:az F H)(r:Rs K F B xs vs cs)(c:ar F H cs)(b:H p=none):∃a,Gr F H a (aW H p (.aA vs))/\R K a B (.aA xs) (.ref p) cs/\ar a (aW H p (.aA vs)) cs:=by
 let⟨a,g,e⟩:=Eh (o:=.aA vs) s (by intro _ _ z;cases z) b;exact⟨a,g,⟨p,vs,rfl,ck.of e,r.mo g.le (λk=>Le.refl (B k)) xs⟩,c.gr g⟩
theorem Gr.gG(s:az F H)(b:H p=none):Gr F H F (aW H p o):=⟨⟨az.aW b,az.refl F,s.ng (s.free b),λa u h e=>by rw[h] at e;cases e⟩,Fz.refl F⟩
theorem qX(s:az F H)(c:ar F H cs)(a:H p=none):ar F (aW H p o) ((p,o)::cs):=
 ⟨λq m=>by
  cases m with
  |head=>exact fb
  |tail _ m=>show aW H p o q.1=_;rw[bR (g7 (c.h q m) a)];exact c.h q m,
 λq m=>by
  cases m with
  |head=>exact s.free a
  |tail _ m=>exact c.f q m,
 by
  rw[map_cons,nodup_cons];refine⟨λm=>?_,c.nd⟩;let⟨q,b,e⟩:=mem_map.mp m;have e:q.1=p:=e;have:=c.h q b;rw[e,a] at this;cases this⟩
def xl(b:cG):aY:=λj Q=>b j λa=>a.length<=10000/\Q (.aA a)
def xm(b:cG):aY:=λj Q=>b j λa=>a.length<=10000/\Q (.av .o a)
theorem j4(h:n<=1000000):n<=sizeLine:=le_trans h ∎
theorem XF(h:fD K k ta pa):bt K k (xP ta) (xl pa):=λF B H j y Q o c p q=>by
 refine h F B H j y _ _ c p λi vs l m e p1 b=>⟨by rw[b.r.length];exact j4 (le_trans p1.1 ∎),λa ha=>?_⟩
 let⟨d,g,r,f⟩:=qW b.g.s b.r b.c ha;exact q (.aA i) (.ref a) d _ e p1.2 ⟨b.g.trans' g,r,f,b.n⟩
theorem XG(h:fD K k ta pa):bt K k (D3 ta) (xm pa):=λF B H j y Q l c p q=>by
 refine h F B H j y _ _ c p λf vs e i d p1 b=>⟨by rw[b.r.length];exact j4 (le_trans p1.1 ∎),λa ha=>?_⟩
 refine q (.av .o f) (.ref a) e _ ((a,.av vs)::d) p1.2 ⟨b.g.trans' (Gr.gG b.g.s ha),⟨a,vs,d,rfl,rfl,b.r⟩,qX b.g.s b.c ha,λp m=>?_⟩;cases m with
 |head=>exact b.g.h.free ha
 |tail _ m=>exact b.n p m
end
end Pu
namespace Pu
open PySem PySem.Spec PyProof.Rows L2 Vc Sf
section
def Ee:R2:=λx y H Q=>∃a v,x=.ref a/\kG H a y (some v)/\Q v H
theorem XH(hu:X.A.units+1<cLine):iF X Ee:=by
 intro value c aa s j H x y v u Q I l m h i;let⟨a,z,rfl,g,q⟩:=h;obtain rfl:v=Value.ref a:=l;have e:=Rg I g;unfold subscriptTail;refine wpAny_bind ?_;rw[getitemInPython_of_ne e.not_modules];refine wpAny_bind (wpAny_specialOf e PySem.F.slot_dict_getitem.lookup ?_);have b:wpAny (model X.prog X.w) X.A (subscripted c false (.ref a) u) (λr d=>wpAny (model X.prog X.w) X.A (letTemporaryGo value (.ref a) r >>= λ_=>pure r) (EP X aa j Q) X.xe d) X.xe s:=by
  rw[i];exact wpAny_operating (Sz hu I g m λo n f eM=>wpAny_bind (wpAny_letTemporaryGo (wpAny_pure ⟨z,H,f,eM,q⟩)))
 first
  |exact wpAny_pure (wpAny_bind b)
  |exact wpAny_bind (wpAny_pure (wpAny_bind b))
  |exact wpAny_bind b
def qG(neg:Bool):R2:=λy x H Q=>∃a o,x=.ref a/\kG H a y o/\Q (.bl (if neg then !o.isSome else o.isSome)) H
theorem z'u(hu:X.A.units+1<cLine):b6 X (compareOp .In) (qG false):=by
 intro aa s j H y x u v Q I d c h;let⟨a,o,rfl,g,q⟩:=h;obtain rfl:v=Value.ref a:=c;exact KL hu I g d λe b=>⟨.bl o.isSome,H,b,rfl,q⟩
theorem SW(hu:X.A.units+1<cLine):b6 X (compareOp .NotIn) (qG true):=by
 intro aa s j H y x u v Q I d c h;let⟨a,o,rfl,g,q⟩:=h;obtain rfl:v=Value.ref a:=c;exact X1 hu I g d λe b=>⟨.bl (!o.isSome),H,b,rfl,q⟩
def Dc(K:ak):R2:=λx y H Q=>gH (λi j=>.int (i+j)) x y H Q\/(λx y H Q=>(λx y H Q=>∃i j,x=.str i/\y=.str j/\i.length+j.length<=sizeLine/\Q (.str (i++j)) H) x y H Q\/C9 K x y H Q) x y H Q
theorem Li:b6 X (binaryOp .Add) (Dc X.K):=Nj.or (MS.or Xr)
def Dd:R2:=λx y H Q=>rI ky (λi j=>.int (i*j)) x y H Q\/C8 x y H Q
theorem Lj:b6 X (binaryOp .Mult) Dd:=MX.or RX
def Ef(K:ak):R2:=λx y H Q=>Ig K x y H Q\/Ee x y H Q
theorem KO(hu:X.A.units+1<cLine):iF X (Ef X.K):=M7.or (XH hu)
def Eg:R2:=λx y H Q=>gH (λi j=>.bl (decide (i<j))) x y H Q\/(λx y H Q=>∃i j,x=.str i/\y=.str j/\Q (.bl (decide (i.cps.toList<j.cps.toList))) H) x y H Q
theorem o3:b6 X (compareOp .Lt) Eg:=Nz.or Su
def DC:R2:=λx y H Q=>gH (λi j=>.bl (decide (j<i))) x y H Q\/(λx y H Q=>∃i j,x=.str i/\y=.str j/\Q (.bl (decide (j.cps.toList<i.cps.toList))) H) x y H Q
theorem j9:b6 X (compareOp .Gt) DC:=NA.or Tt
end
section
variable{K:ak}{F F' H H':Hp}{B B':Bool->Hp}{k:Md}
def gN(C:Int->Int->Prop)(g:Int->Int->Tr)(x y:Tr)(Q:aq):Prop:=match x,y with
 |.int i,.int j=>C i j /\ Q (g i j)
 |_,_=>False
theorem zU{g:Int->Int->V}{t:Int->Int->Tr}(h:∀i j F B,R K F B (t i j) (g i j) []):cZ K k (rI C g) (gN C t):=λF B H x y tx ty e f Q d s b z a c l n hd p q=>by
 unfold gN at p;split at p
 .obtain⟨rfl,_⟩:=a;let⟨rfl,_⟩:=c;exact⟨_,_,rfl,rfl,p.1,q _ _ F H [] p.2 (Gr.aI s) (h _ _ F B) .nil λ_ m=>nomatch m⟩
 .exact p.elim
theorem zD{g:Int->Int->V}{t:Int->Int->Tr}(h:∀i j F B,R K F B (t i j) (g i j) []):cZ K k (gH g) (gN (λ_ _=>True) t):=λF B H x y tx ty e f Q d s b z a c l n hd p q=>by
 unfold gN at p;split at p
 .obtain⟨rfl,_⟩:=a;let⟨rfl,_⟩:=c;exact⟨_,_,rfl,rfl,q _ _ F H [] p.2 (Gr.aI s) (h _ _ F B) .nil λ_ m=>nomatch m⟩
 .exact p.elim
def nW(x y:Tr)(Q:aq):Prop:=match x,y with
 |.int i,.int j=>Q (.int (i + j))
 |.str i,.str j=>i.length + j.length <= 1000000 /\ Q (.str (i ++ j))
 |.av _ xs,.av _ ys=>xs.length + ys.length <= 1000000 /\ Q (.av .o (xs ++ ys))
 |_,_=>False
theorem Rs.append:∀{xs ys:ah}{vs us:ax}{c d:Cs},Rs K F B xs vs c->Rs K F B ys us d->Rs K F B (xs++ys) (vs++us) (c++d)
 |[],_,_,_,_,_,y,h=>by let⟨a,b⟩:=y;rw[a,b];exact h
 |x::xs,_,_,_,_,_,y,h=>by let⟨v,r,c,d,a,b,e,f⟩:=y;rw[a,b];exact⟨v,r ++ _,c,d ++ _,rfl,by rw[append_assoc],e,Rs.append f h⟩
theorem oi(s:az F H)(r:Rs K F B xs vs cs)(c:ar F H cs)(a:H p=none):Gr F H F (aW H p (.av vs))/\R K F B (.av .o xs) (.ref p) ((p,.av vs)::cs)/\ar F (aW H p (.av vs)) ((p,.av vs)::cs):=
 ⟨Gr.gG s a,⟨p,vs,cs,rfl,rfl,r⟩,qX s c a⟩
theorem XI:cZ K k (Dc K) nW:=λF B H x y tx ty D E Q A s b z c d j n hd p q=>by
 unfold nW at p;split at p
 .obtain⟨rfl,_⟩:=c;let⟨rfl,_⟩:=d;exact .inl ⟨_,_,rfl,rfl,q _ _ F H [] p (Gr.aI s) ⟨rfl,rfl⟩ .nil λ_ m=>nomatch m⟩
 .obtain⟨rfl,_⟩:=c;let⟨rfl,_⟩:=d;exact .inr (.inl ⟨_,_,rfl,rfl,j4 p.1,q _ _ F H [] p.2 (Gr.aI s) ⟨rfl,rfl⟩ .nil λ_ m=>nomatch m⟩)
 .obtain⟨a,vs,ds,rfl,h1,h2,h3,h4⟩:=c.cF s b j;let⟨C,us,G,rfl,h,e,i,f⟩:=d.cF s b n;refine .inr (.inr ⟨_,_,_,_,rfl,rfl,h1,h,j4 (by rw[h2.length,e.length];exact p.1),λl g=>?_⟩);let⟨u,v,w⟩:=oi s (h2.append e) (h3.app i λp o q r=>hd p (h4 p o) q (f q r)) g;refine q _ _ F _ _ p.2 u v w λp m=>?_
  cases m with
  |head=>exact .inl g
  |tail _ m=>exact (mem_append.mp m).elim (λm=>.inr (.inl (h4 p m))) (λm=>.inr (.inr (f p m)))
 .exact p.elim
def tP(x y:Tr)(Q:aq):Prop:=match x,y with
 |.int i,.int j=>ky i j /\ Q (.int (i * j))
 |_,_=>False
theorem XJ:cZ K k Dd tP:=λF B H x y tx ty e f Q d s b z a c g h hd p q=>by
 unfold tP at p;split at p
 .obtain⟨rfl,_⟩:=a;let⟨rfl,_⟩:=c;exact .inl ⟨_,_,rfl,rfl,p.1,q _ _ F H [] p.2 (Gr.aI s) ⟨rfl,rfl⟩ .nil λ_ m=>nomatch m⟩
 .exact p.elim
def xn:Tr->Option aU
 |.int n=>some (.inl n)
 |.str x=>some (.inr x)
 |_=>none
theorem u9(r:R K F B t v cs)(h:xn t=some y):v=kV y:=by
 cases t with
 |int n=>cases h;exact r.1
 |str n=>cases h;exact r.1
 |_=>cases h
def iq(x y:Tr)(Q:aq):Prop:=match x,y with
 |.aA xs,.int i=>(match cU xs i with |some t=>Q t |none=>False)
 |.av _ xs,.int i=>(match cU xs i with |some t=>Q t |none=>False)
 |.str x,.int i=>x.length <= 1000000 /\ (match cU x.cps.toList i with |some c=>Q (.str ⟨#[c]⟩) |none=>False)
 |.a9 _ m,y=>(match xn y with |some y=>(match look m y with |some t=>Q t |none=>False) |none=>False)
 |_,_=>False
theorem Rs.cU(r:Rs K F B xs vs cs)(c:ar F H cs)(h:L2.cU xs i=some t):∃u d,L2.cU vs i=some u/\R K F B t u d/\ar F H d/\∀p∈d,p∈cs:=by
 unfold L2.cU at h ⊢;rw[r.length];cases e:hW xs.length i with
 |none=>rw[e] at h;cases h
 |some j=>rw[e] at h;exact r.at' c h
theorem XM:cZ K k (Ef K) iq:=λF B H x y tx ty M N Q L s b z h i w O hd p q=>by
 unfold iq at p;split at p
 .obtain⟨rfl,_⟩:=i;split at p
  .rename_i e;∎;let⟨a,vs,rfl,f,g⟩:=h.cK s;let⟨u,d,j,l,n,o⟩:=g.cU w e;∎;exact .inl (.inr (.inl ⟨_,_,_,_,rfl,rfl,f,j,q _ _ F H d p (Gr.aI s) l n λp m=>.inr (.inl (o p m))⟩))
  .exact p.elim
 .obtain⟨rfl,_⟩:=i;split at p
  .rename_i e;∎;let⟨a,vs,I,rfl,f,g,r,v⟩:=h.cF s b w;let⟨u,d,j,l,n,o⟩:=g.cU r e;∎;exact .inl (.inl ⟨_,_,_,_,rfl,rfl,f,j,q _ _ F H d p (Gr.aI s) l n λp m=>.inr (.inl (v p (o p m)))⟩)
  .exact p.elim
 .obtain⟨rfl,_⟩:=i;let⟨rfl,_⟩:=h;let⟨J,p⟩:=p;split at p
  .rename_i e;exact .inl (.inr (.inr ⟨_,_,_,rfl,rfl,j4 J,e,q _ _ F H [] p (Gr.aI s) ⟨rfl,rfl⟩ .nil λ_ m=>nomatch m⟩))
  .exact p.elim
 .split at p
  .rename_i e;split at p
   .rename_i e';let⟨a,vs,I,rfl,f,g,r,v⟩:=h.fN s b w;obtain rfl:=u9 i e;rcases g.look _ r with⟨z,_⟩ |⟨x,u,c,A,C,D,E,G⟩
    .rw[z] at e';cases e'
    .rw[A] at e';cases e';exact .inr ⟨a,u,rfl,.inl ⟨vs,_,f,rfl,C.symm⟩,q _ _ F H c p (Gr.aI s) D E λp m=>.inr (.inl (v p (G p m)))⟩
   .exact p.elim
  .exact p.elim
 .exact p.elim
def AL(x y:Tr)(Q:aq):Prop:=match x,y with
 |.int i,.int j=>Q (.bl (decide (i < j)))
 |.str i,.str j=>Q (.bl (decide (i.cps.toList < j.cps.toList)))
 |_,_=>False
theorem oE:cZ K k Eg AL:=λF B H x y tx ty e f Q d s b z a c g h hd p q=>by
 unfold AL at p;split at p
 .obtain⟨rfl,_⟩:=a;let⟨rfl,_⟩:=c;exact .inl ⟨_,_,rfl,rfl,q _ _ F H [] p (Gr.aI s) ⟨rfl,rfl⟩ .nil λ_ m=>nomatch m⟩
 .obtain⟨rfl,_⟩:=a;let⟨rfl,_⟩:=c;exact .inr ⟨_,_,rfl,rfl,q _ _ F H [] p (Gr.aI s) ⟨rfl,rfl⟩ .nil λ_ m=>nomatch m⟩
 .exact p.elim
def AK(x y:Tr)(Q:aq):Prop:=match x,y with
 |.int i,.int j=>Q (.bl (decide (j < i)))
 |.str i,.str j=>Q (.bl (decide (j.cps.toList < i.cps.toList)))
 |_,_=>False
theorem j7:cZ K k DC AK:=λF B H x y tx ty e f Q d s b z a c g h hd p q=>by
 unfold AK at p;split at p
 .obtain⟨rfl,_⟩:=a;let⟨rfl,_⟩:=c;exact .inl ⟨_,_,rfl,rfl,q _ _ F H [] p (Gr.aI s) ⟨rfl,rfl⟩ .nil λ_ m=>nomatch m⟩
 .obtain⟨rfl,_⟩:=a;let⟨rfl,_⟩:=c;exact .inr ⟨_,_,rfl,rfl,q _ _ F H [] p (Gr.aI s) ⟨rfl,rfl⟩ .nil λ_ m=>nomatch m⟩
 .exact p.elim
theorem oF:cZ K k (gH λi j=>.bl (decide (i<=j))) (gN (λ_ _=>True) λi j=>.bl (decide (i<=j))):=zD λ_ _ _ _=>⟨rfl,rfl⟩
theorem z'v:cZ K k (gH λi j=>.bl (decide (j<=i))) (gN (λ_ _=>True) λi j=>.bl (decide (j<=i))):=zD λ_ _ _ _=>⟨rfl,rfl⟩
theorem XN:cZ K k (gH λi j=>.int (i - j)) (gN (λ_ _=>True) λi j=>.int (i - j)):=zD λ_ _ _ _=>⟨rfl,rfl⟩
theorem VS:cZ K k (rI dY λi j=>.int (i.fdiv j)) (gN dY λi j=>.int (i.fdiv j)):=zU λ_ _ _ _=>⟨rfl,rfl⟩
theorem XO:cZ K k (rI (λ_ j=>0<j) λi j=>.int (i % j)) (gN (λ_ j=>0<j) λi j=>.int (i % j)):=zU λ_ _ _ _=>⟨rfl,rfl⟩
def tQ(x:Tr)(Q:aq):Prop:=match x with
 |.int i=>Q (.int (-i))
 |_=>False
theorem XP:AS K k (L2.rU λi=>.int (-i)) tQ:=λF B H x tx d Q c s b z a e p q=>by
 unfold tQ at p;split at p
 .obtain⟨rfl,_⟩:=a;exact⟨_,rfl,q _ _ F H [] p (Gr.aI s) ⟨rfl,rfl⟩ .nil λ_ m=>nomatch m⟩
 .exact p.elim
def w6:Tr->Option V
 |.int n=>some (.int n) |.bl b=>some (.bl b) |.str x=>some (.str x) |.aZ=>some .aZ |_=>none
theorem va(r:R K F B t v cs)(h:w6 t=some u):v=u:=by
 cases t with
 |int n=>cases h;exact r.1
 |bl n=>cases h;exact r.1
 |str n=>cases h;exact r.1
 |aZ=>cases h;exact r.1
 |_=>cases h
def qH(neg:Bool)(x y:Tr)(Q:aq):Prop:=match w6 x,w6 y with
 |some u,some v=>xO u v=true /\ Q (.bl (if neg then !decide (u=v) else decide (u=v)))
 |_,_=>False
theorem XQ:cZ K k Az (qH false):=λF B H x y tx ty e f Q d s b z a c g h hd p q=>by
 unfold qH at p;split at p
 .rename_i e1 e2;obtain rfl:=va a e1;obtain rfl:=va c e2;exact⟨p.1,q _ _ F H [] p.2 (Gr.aI s) ⟨rfl,rfl⟩ .nil λ_ m=>nomatch m⟩
 .exact p.elim
theorem YJ:cZ K k AA (qH true):=λF B H x y tx ty e f Q d s b z a c g h hd p q=>by
 unfold qH at p;split at p
 .rename_i e1 e2;obtain rfl:=va a e1;obtain rfl:=va c e2;exact⟨p.1,q _ _ F H [] p.2 (Gr.aI s) ⟨rfl,rfl⟩ .nil λ_ m=>nomatch m⟩
 .exact p.elim
def eF(x:Tr)(Q:Bool->Prop):Prop:=match x with
 |.bl b=>Q b
 |_=>False
def pT(pe:aY):d9:=λj Q=>pe j λx=>eF x Q
theorem HJ(h:bt K k te pe):fE K k (tB te) (pT pe):=λF B H j y Q e c p q=>by
 refine h F B H j y _ _ c p λt v b d f p1 a=>?_
 unfold eF at p1;split at p1
 .obtain⟨rfl,_⟩:=a.r;exact⟨_,rfl,q _ b d p1 a.g⟩
 .exact p1.elim
theorem Fd(h:bt K k te pe):fE K k (wX te) (pT pe):=HJ h
def xo(a b:d9):d9:=λj Q=>a j λc=>if c=true then b j Q else Q false
def Ag(a b:d9):d9:=λj Q=>a j λc=>if c=true then Q true else b j Q
def xp(pa:d9):d9:=λj Q=>pa j λc=>Q (!c)
theorem YK(ha:fE K k ta pa)(i:fE K k tb pb):fE K k (Dx ta tb) (xo pa pb):=λF B H j y Q l c p q=>by
 refine ha F B H j y _ _ c p λb d e p1 a=>?_
 cases b with
 |true=>rw[if_pos rfl];exact i d B e j y _ _ (c.gr a) p1 λb f g p2 h=>q b f g p2 (a.trans' h)
 |false=>exact q false d e p1 a
theorem z'w(ha:fE K k ta pa)(i:fE K k tb pb):fE K k (IP ta tb) (Ag pa pb):=λF B H j y Q l c p q=>by
 refine ha F B H j y _ _ c p λb d e p1 a=>?_
 cases b with
 |false=>exact i d B e j y _ _ (c.gr a) p1 λb f g p2 h=>q b f g p2 (a.trans' h)
 |true=>exact q true d e p1 a
theorem YL(ha:fE K k ta pa):fE K k (Dy ta) (xp pa):=λF B H j y Q f c p q=>ha F B H j y _ _ c p λb a d p1 e=>q (!b) a d p1 e
def w9(a b:aY):aY:=λj Q=>a j λx=>eF x λc=>if c=true then b j Q else Q (.bl false)
def xq(a b:aY):aY:=λj Q=>a j λx=>eF x λc=>if c=true then Q (.bl true) else b j Q
def xa(pa:aY):aY:=λj Q=>pa j λx=>eF x λc=>Q (.bl (!c))
theorem Out.bl(g:Gr F H F1 H1):Out K F B H F1 H1 (.bl b) (.bl b) []:=⟨g,⟨rfl,rfl⟩,.nil,.nil⟩
theorem Out.tr(g:Gr F H F1 H1)(o:Out K F1 B H1 F2 H2 t v cs):Out K F B H F2 H2 t v cs:=⟨g.trans' o.g,o.r,o.c,o.n.back g.h⟩
theorem VT(ha:bt K k ta pa)(l:bt K k tb pb):bt K k (Dl ta tb) (w9 pa pb):=λF B H j y Q n c p q=>by
 refine ha F B H j y _ _ c p λt v d e o p1 a=>?_
 unfold eF at p1;split at p1
 .rename_i b;let⟨rfl,_⟩:=a.r;refine⟨b,rfl,?_⟩;cases b with
  |true=>exact l d B e j y _ _ (c.gr a.g) p1 λt v f h i p2 m=>q t v f h i p2 (.tr a.g m)
  |false=>exact q _ _ d e [] p1 (.bl a.g)
 .exact p1.elim
theorem YM(ha:bt K k ta pa)(l:bt K k tb pb):bt K k (Dz ta tb) (xq pa pb):=λF B H j y Q n c p q=>by
 refine ha F B H j y _ _ c p λt v d e o p1 a=>?_
 unfold eF at p1;split at p1
 .rename_i b;let⟨rfl,_⟩:=a.r;refine⟨b,rfl,?_⟩;cases b with
  |false=>exact l d B e j y _ _ (c.gr a.g) p1 λt v f h i p2 m=>q t v f h i p2 (.tr a.g m)
  |true=>exact q _ _ d e [] p1 (.bl a.g)
 .exact p1.elim
theorem VU(ha:bt K k ta pa):bt K k (Dm ta) (xa pa):=λF B H j y Q e c p q=>by
 refine ha F B H j y _ _ c p λt v b d f p1 a=>?_
 unfold eF at p1;split at p1
 .obtain⟨rfl,_⟩:=a.r;exact⟨_,rfl,q _ _ b d [] p1 (.bl a.g)⟩
 .exact p1.elim
def Af(d:d9)(a b:aY):aY:=λj Q=>d j λc=>if c=true then a j Q else b j Q
theorem YN(m:fE K k tc pc)(ha:bt K k ta pa)(l:bt K k tb pb):bt K k (IL tc ta tb) (Af pc pa pb):=λF B H j y Q n c p q=>by
 refine m F B H j y _ _ c p λb h i p1 a=>?_
 cases b with
 |true=>rw[if_pos rfl] at p1 ⊢;exact ha h B i j y _ _ (c.gr a) p1 λt v d e f p2 g=>q t v d e f p2 (.tr a g)
 |false=>rw[if_neg ∎] at p1 ⊢;exact l h B i j y _ _ (c.gr a) p1 λt v d e f p2 g=>q t v d e f p2 (.tr a g)
end
end Pu
namespace Pu
open PySem L2 Vc Sf
section
mutual
theorem R.low:∀(t:Tr){v:V}{cs:Cs},bW t=true->B false=B' false->R K F B t v cs->R K F B' t v cs
 |.int _,_,_,_,_,h=>h
 |.bl _,_,_,_,_,h=>h
 |.str _,_,_,_,_,h=>h
 |.aZ,_,_,_,_,h=>h
 |.aF,_,_,_,_,h=>h
 |.ty _,_,_,_,_,h=>h
 |.cl _,_,_,_,_,h=>h
 |.exc _,_,_,_,_,h=>h
 |.aA xs,_,_,n,e,y=>by let⟨a,vs,b,c,d⟩:=y;exact⟨a,vs,b,c,Rs.low xs n e d⟩
 |.av .f xs,_,_,n,e,y=>by let⟨z,a,vs,b,c,d⟩:=y;exact⟨z,a,vs,b,c,Rs.low xs n e d⟩
 |.av (.l true) xs,_,_,n,_,_=>by cases n
 |.av (.l false) xs,_,_,n,e,y=>by let⟨z,a,vs,b,c,d⟩:=y;exact⟨z,a,vs,b,by rw[<- e];exact c,Rs.low xs n e d⟩
 |.av .o xs,_,_,n,e,y=>by let⟨a,vs,g,b,c,d⟩:=y;exact⟨a,vs,g,b,c,Rs.low xs n e d⟩
 |.a9 .f xs,_,_,n,e,y=>by let⟨z,a,vs,b,c,d,j⟩:=y;exact⟨z,a,vs,b,c,Rk.low xs n e d,j⟩
 |.a9 (.l true) xs,_,_,n,_,_=>by cases n
 |.a9 (.l false) xs,_,_,n,e,y=>by let⟨z,a,vs,b,c,d,j⟩:=y;exact⟨z,a,vs,b,by rw[<- e];exact c,Rk.low xs n e d,j⟩
 |.a9 .o xs,_,_,n,e,y=>by let⟨a,vs,g,b,c,d,j⟩:=y;exact⟨a,vs,g,b,c,Rk.low xs n e d,j⟩
 |.ins .f _ xs,_,_,n,e,y=>by let⟨z,a,i,vs,b,c,d⟩:=y;exact⟨z,a,i,vs,b,c,Rf.low xs n e d⟩
 |.ins (.l true) _ xs,_,_,n,_,_=>by cases n
 |.ins (.l false) _ xs,_,_,n,e,y=>by let⟨z,a,i,vs,b,c,d⟩:=y;exact⟨z,a,i,vs,b,by rw[<- e];exact c,Rf.low xs n e d⟩
 |.ins .o _ xs,_,_,n,e,y=>by let⟨a,i,vs,g,b,c,d⟩:=y;exact⟨a,i,vs,g,b,c,Rf.low xs n e d⟩
theorem Rs.low:∀(t:List Tr){v:List V}{cs:Cs},ef t=true->B false=B' false->Rs K F B t v cs->Rs K F B' t v cs
 |[],_,_,_,_,h=>h
 |x::xs,_,_,n,e,y=>by
  let⟨v,r,c,d,a,b,f,g⟩:=y;rw[ef,and_eq_true] at n;exact⟨v,r,c,d,a,b,R.low x n.1 e f,Rs.low xs n.2 e g⟩
theorem Rk.low:∀(t:List (aU×Tr)){v:List (aU×V)}{cs:Cs},gE t=true->B false=B' false->Rk K F B t v cs->Rk K F B' t v cs
 |[],_,_,_,_,h=>h
 |(_,x)::xs,_,_,n,e,y=>by
  let⟨v,r,c,d,a,b,f,g⟩:=y;rw[gE,and_eq_true] at n;exact⟨v,r,c,d,a,b,R.low x n.1 e f,Rk.low xs n.2 e g⟩
theorem Rf.low:∀(t:List (Str×Tr)){v:List (Str×V)}{cs:Cs},eL t=true->B false=B' false->Rf K F B t v cs->Rf K F B' t v cs
 |[],_,_,_,_,h=>h
 |(_,x)::xs,_,_,n,e,y=>by
  let⟨v,r,c,d,a,b,f,g⟩:=y;rw[eL,and_eq_true] at n;exact⟨v,r,c,d,a,b,R.low x n.1 e f,Rf.low xs n.2 e g⟩
end
mutual
/-- what is lent is lent to the callee -/
theorem R.dn(b:∀k,Le (B k) G):∀(t:Tr){v:V}{cs:Cs},R K F B t v cs->R K F (λ_=>G) (dn t) v cs
 |.int _,_,_,h=>h
 |.bl _,_,_,h=>h
 |.str _,_,_,h=>h
 |.aZ,_,_,h=>h
 |.aF,_,_,h=>h
 |.ty _,_,_,h=>h
 |.cl _,_,_,h=>h
 |.exc _,_,_,h=>h
 |.aA xs,_,_,y=>by let⟨a,vs,c,d,e⟩:=y;exact⟨a,vs,c,d,Rs.dn b xs e⟩
 |.av .f xs,_,_,y=>by let⟨z,a,vs,c,d,e⟩:=y;exact⟨z,a,vs,c,d,Rs.dn b xs e⟩
 |.av (.l k) xs,_,_,y=>by let⟨z,a,vs,c,d,e⟩:=y;exact⟨z,a,vs,c,(b k).av d,Rs.dn b xs e⟩
 |.av .o xs,_,_,y=>by let⟨a,vs,g,c,d,e⟩:=y;exact⟨a,vs,g,c,d,Rs.dn b xs e⟩
 |.a9 .f xs,_,_,y=>by let⟨z,a,vs,c,d,e,j⟩:=y;exact⟨z,a,vs,c,d,Rk.dn b xs e,by rw[dG];exact j⟩
 |.a9 (.l k) xs,_,_,y=>by let⟨z,a,vs,c,d,e,j⟩:=y;exact⟨z,a,vs,c,(b k).a9 d,Rk.dn b xs e,by rw[dG];exact j⟩
 |.a9 .o xs,_,_,y=>by let⟨a,vs,g,c,d,e,j⟩:=y;exact⟨a,vs,g,c,d,Rk.dn b xs e,by rw[dG];exact j⟩
 |.ins .f _ xs,_,_,y=>by let⟨z,a,i,vs,c,d,e⟩:=y;exact⟨z,a,i,vs,c,d,Rf.dn b xs e⟩
 |.ins (.l k) _ xs,_,_,y=>by let⟨z,a,i,vs,c,d,e⟩:=y;exact⟨z,a,i,vs,c,b k _ _ (by intro _ _ z;cases z) d,Rf.dn b xs e⟩
 |.ins .o _ xs,_,_,y=>by let⟨a,i,vs,g,c,d,e⟩:=y;exact⟨a,i,vs,g,c,d,Rf.dn b xs e⟩
theorem Rs.dn(b:∀k,Le (B k) G):∀(t:List Tr){v:List V}{cs:Cs},Rs K F B t v cs->Rs K F (λ_=>G) (cp t) v cs
 |[],_,_,h=>h
 |x::xs,_,_,y=>by let⟨v,r,c,d,a,e,f,g⟩:=y;exact⟨v,r,c,d,a,e,R.dn b x f,Rs.dn b xs g⟩
theorem Rk.dn(b:∀k,Le (B k) G):∀(t:List (aU×Tr)){v:List (aU×V)}{cs:Cs},Rk K F B t v cs->Rk K F (λ_=>G) (iT t) v cs
 |[],_,_,h=>h
 |(_,x)::xs,_,_,y=>by let⟨v,r,c,d,a,e,f,g⟩:=y;exact⟨v,r,c,d,a,e,R.dn b x f,Rk.dn b xs g⟩
theorem Rf.dn(b:∀k,Le (B k) G):∀(t:List (Str×Tr)){v:List (Str×V)}{cs:Cs},Rf K F B t v cs->Rf K F (λ_=>G) (gV t) v cs
 |[],_,_,h=>h
 |(_,x)::xs,_,_,y=>by let⟨v,r,c,d,a,e,f,g⟩:=y;exact⟨v,r,c,d,a,e,R.dn b x f,Rf.dn b xs g⟩
theorem dG:∀(xs:List (aU×Tr)),(iT xs).map (·.1)=xs.map (·.1)
 |[]=>rfl
 |(_,_)::xs=>by show _::_=_::_;rw[dG xs]
end
theorem l8:∀(xs:ah),(cp xs).length=xs.length
 |[]=>rfl
 |_::xs=>by show (cp xs).length + 1=_;rw[l8 xs];rfl
end
structure a6(K:ak)(k:Md)(lo:Nat)(us:ax)(Fb Hb F H:Hp)(y:St)(u:ah)(cs:Nat->Cs):Prop where
 g:Gr Fb Hb F H
 z:k.z=true->Fz S0 F
 l:y.length=u.length
 e:∀(i:Nat)(t:Tr),u[i]?=some t->t=.aF\/∃v,y[i]?=some (some v)/\R K F (λ_=>Hb) t v (cs i)
 c:∀i,ar F H (cs i)
 n:∀i,dg Hb (cs i)
 d:∀i j,i≠j->∀p∈cs i,∀q∈cs j,p.1≠q.1
 p:∀i,i<lo->y[i]?=(us[i]?).map some
 x:∀cls y' F' H',k.q cls->Gr Fb Hb F' H'->k.E y' cls none H'
section
def Bq(Hb H:Hp):Bool->Hp:=λb=>if b then H else Hb
theorem a6.fF(W:a6 K k lo us Fb Hb F H j y cs):gj K k F (Bq Hb H) H j (y.map aJ) where
 s:=W.g.s
 b:=λb=>by
  cases b with
  |true=>exact az.refl H
  |false=>exact W.g.h
 z:=W.z
 e:=λi t h=>by
  rw[getElem?_map] at h;cases q:y[i]? with
  |none=>rw[q] at h;cases h
  |some u=>
   rw[q] at h;cases h;rcases W.e i u q with rfl |⟨v,l,n⟩
   .exact .inl rfl
   .refine .inr ⟨v,l,n.aJ (λb=>?_) u λp m=>(W.c i).h p m⟩;cases b with
    |true=>exact Le.of W.g.h
    |false=>exact Le.refl _
 x:=λa d f q g=>W.x a j d f q (W.g.trans' g)
theorem a6.gr(W:a6 K k lo us Fb Hb F H j y cs)(g:Gr F H F' H'):a6 K k lo us Fb Hb F' H' j y cs:=
 ⟨W.g.trans' g,λh=>g.fz (W.z h),W.l,λi t h=>(W.e i t h).imp id λ⟨v,h1,h2⟩=>⟨v,h1,h2.mo g.le (λ_=>Le.refl _) t⟩,λi=>(W.c i).gr g,W.n,W.d,W.p,W.x⟩
theorem a6.set{i:Nat}{t:Tr}{v:V}{c:Cs}(W:a6 K k lo us Fb Hb F H y G cs)(B:lo<=i)(r:R K F (λ_=>Hb) t v c)(A:ar F H c)(n:dg Hb c)(d:∀j,j≠i->∀p∈cs j,∀q∈c,p.1≠q.1):
  a6 K k lo us Fb Hb F H (y.set i (some v)) (G.set i t) (λj=>if j=i then c else cs j) where
 g:=W.g
 z:=W.z
 l:=by rw[length_set,length_set];exact W.l
 e:=λj u h=>by
  by_cases e:j=i
  .subst e;have w:j<G.length:=by have:=(List.getElem?_eq_some_iff.mp h).1;rw[length_set] at this;exact this
   rw[getElem?_set_self w] at h;cases h;exact .inr ⟨v,getElem?_set_self (by rw[W.l];exact w),by rw[if_pos rfl];exact r⟩
  .rw[getElem?_set_ne (λz=>e z.symm)] at h;rw[if_neg e];exact (W.e j u h).imp id λ⟨v,h1,h2⟩=>⟨v,by rw[getElem?_set_ne (λz=>e z.symm)];exact h1,h2⟩
 c:=λj=>by
  split
  .exact A
  .exact W.c j
 n:=λj=>by
  split
  .exact n
  .exact W.n j
 d:=λa b ne p o q f=>by
  by_cases m:a=i
  .rw[if_pos m] at o;rw[if_neg (λz=>ne (m.trans z.symm))] at f;exact (d b (λz=>ne (m.trans z.symm)) q f p o).symm
  .rw[if_neg m] at o;by_cases s:b=i
   .rw[if_pos s] at f;exact d a m p o q f
   .rw[if_neg s] at f;exact W.d a b ne p o q f
 p:=λj h=>by rw[getElem?_set_ne ⋯];exact W.p j h
 x:=W.x
theorem a6.out{i:Nat}{t:Tr}{v:V}{c:Cs}(W:a6 K k lo us Fb Hb F H y u cs)(o:Out K F (Bq Hb H) H F' H' t v c)(a:lo<=i)(n:bW t=true):
  a6 K k lo us Fb Hb F' H' (y.set i (some v)) (u.set i t) (λj=>if j=i then c else cs j):=
 (W.gr o.g).set a (o.r.low t n rfl) o.c (λp m=>W.g.h.free (o.n p m)) λj _ p b q d e=>by
  have:=(W.c j).h p b;rw[e,o.n q d] at this;cases this
end
structure Pd where
 nx:aG
 rt:Tr->aG
 bk:aG:=λ_=>False
 ct:aG:=λ_=>False
abbrev cL:=Pd->aG
structure Lk(K:ak)(k:Md)(lo:Nat)(us:ax)(Fb Hb:Hp)(D:g9)(D':Pd):Prop where
 nx:∀F H j y cs,a6 K k lo us Fb Hb F H j y cs->D'.nx y->D.nx j H
 rt:∀F H j y cs v t c,a6 K k lo us Fb Hb F H j y cs->R K F (λ_=>Hb) t v c->ar F H c->dg Hb c->(∀i,∀p∈cs i,∀q∈c,p.1≠q.1)->b5 t=true->D'.rt t y->D.rt v H
 bk:∀F H j y cs,a6 K k lo us Fb Hb F H j y cs->D'.bk y->D.bk j H
 ct:∀F H j y cs,a6 K k lo us Fb Hb F H j y cs->D'.ct y->D.ct j H
def cO(K:ak)(k:Md)(lo:Nat)(e:TS)(ps:cL):Prop:=∀(us:ax)(b c F H:Hp)(j:St)(y:ah)(d:Nat->Cs)(D:g9)(a:Pd),a6 K k lo us b c F H j y d->ps a y->Lk K k lo us b c D a->e D j H
section
def xr(p q:cL):cL:=λD j=>p { D with nx:=q D } j
def xb:cL:=λD j=>D.nx j
theorem YO(h:cO K k lo t p)(h':cO K k lo u q):cO K k lo (DO t u) (xr p q):=λus b c F H j y a D d W p L=>
 h us b c F H j y a _ _ W p ⟨λF H j y a W q=>h' us b c F H j y a D d W q L,L.rt,L.bk,L.ct⟩
theorem VV:cO K k lo Dn xb:=λus c d F H j y a D b W p L=>L.nx F H j y a W p
def xt(i:Nat)(a:aY):cL:=λD j=>a (j.map aJ) λt=>bW t=true/\D.nx (j.set i t)
theorem YP(e:lo<=i)(h:bt K k te pe):cO K k lo (lT te (lK i)) (xt i pe):=λus g d F H j y l D f W p L=>by
 refine h F (Bq d H) H j _ _ _ W.fF p λt v a b c q o=>?_
 exact L.nx a b _ _ _ (W.out o e q.1) q.2
def xu(a:aY):cL:=λD j=>a (j.map aJ) λt=>b5 t=true/\D.rt t j
theorem YQ(h:bt K k te pe):cO K k lo (xK te) (xu pe):=λus w d F H j y f D u W p L=>by
 refine h F (Bq d H) H j _ _ _ W.fF p λt v a b c q o=>?_
 refine L.rt a b j y f v t c (W.gr o.g) (o.r.base t q.1) o.c (λp m=>W.g.h.free (o.n p m)) (λi p l q s e=>?_) q.1 q.2;have:=(W.c i).h p l;rw[e,o.n q s] at this;cases this
def xv(a:d9)(p q:cL):cL:=λD j=>a (j.map aJ) λb=>if b=true then p D j else q D j
theorem z'x(l:fE K k tc pc)(h:cO K k lo t p)(h':cO K k lo u q):cO K k lo (xM tc t u) (xv pc p q):=λus e a F H j y i D c W p L=>by
 refine l F (Bq a H) H j _ _ _ W.fF p λb d f q g=>?_
 cases b with
 |true=>exact h us e a d f j y i D c (W.gr g) q L
 |false=>exact h' us e a d f j y i D c (W.gr g) q L
def DD(e:d9)(d:cL):cL:=λD j=>∃I:Nat->aG,(∃m,I m j)/\∀m j,I m j->e (j.map aJ) λb=>if b=true then d { D with nx:=λc=>∃a,a<m/\I a c,ct:=λc=>∃a,a<m/\I a c,bk:=D.nx } j else D.nx j
theorem YR(u:fE K k tc pc)(s:cO K k lo tb pb):cO K k lo (CL tc tb) (DD pc pb):=λus e d F H j y a D x W p L=>by
 let⟨I,⟨w,v⟩,step⟩:=p;refine⟨λm j H=>∃F y a,a6 K k lo us e d F H j y a/\I m y,⟨w,F,y,a,W,v⟩,?_⟩;rintro m j H ⟨F,y,a,W,i⟩;refine u F (Bq d H) H j _ _ _ W.fF (step m y i) λb f o q g=>?_
 cases b with
 |false=>exact L.nx f o j y a (W.gr g) q
 |true=>
  refine⟨λr n=>∃c,c<m/\∃F y a,a6 K k lo us e d F n r y a/\I c y,λr n h=>h,?_⟩;refine s us e d f o j y a _ _ (W.gr g) q ⟨?_,L.rt,?_,?_⟩
  .exact λF H j y a W ⟨c,l,i⟩=>⟨c,l,F,y,a,W,i⟩
  .exact L.nx
  .exact λF H j y a W ⟨c,l,i⟩=>⟨c,l,F,y,a,W,i⟩
end
abbrev bQ:=ah->(Tr->aG)->Prop
abbrev dN:=ah->(Tr->aG)->(af->Prop)->Prop
def cu(K:ak)(z:Bool)(lo n:Nat)(ps:dN):Sp:=λvs H Q E=>vs.length=n/\∃(F b:Hp)(h:ah)(j:Nat->Cs)(f:Tr->aG)(q:af->Prop),a6 K ⟨z,λ_=>E,q⟩ lo vs F b F H (vs.map some) h j/\ps h f q/\
 ∀d e l g a v t c,a6 K ⟨z,λ_=>E,q⟩ lo vs F b d e l g a->R K d (λ_=>b) t v c->ar d e c->dg b c->(∀i,∀p∈a i,∀q∈c,p.1≠q.1)->b5 t=true->f t g->Q v e
def aX(K:ak)(z:Bool)(lo n:Nat)(ps:bQ):Sp:=cu K z lo n λa Q _=>ps a Q
theorem a6.md(W:a6 K k lo us Fb Hb F H j y cs)(hz:k'.z=true->k.z=true)(x:∀a i f b,k'.q a->Gr Fb Hb f b->k'.E i a none b):a6 K k' lo us Fb Hb F H j y cs:=⟨W.g,λh=>W.z (hz h),W.l,W.e,W.c,W.n,W.d,W.p,x⟩
section
theorem a6.start(N:ag)(b:lo<=vs.length)(W:a6 K k lo us Fb Hb F H (vs.map some) j cs):a6 K k lo us Fb Hb F H (start N vs) (j++List.replicate (N.length - j.length) .aF) cs where
 g:=W.g
 z:=W.z
 l:=by
  have:=W.l;rw[length_map] at this;show (vs.map some++List.replicate (N.length - vs.length) none).length=_;rw[length_append,length_append,List.length_replicate,List.length_replicate,length_map,this]
 e:=λi t h=>by
  have a:=W.l;rcases lt_or_ge i j.length with z |z
  .rw[List.getElem?_append_left z] at h;exact (W.e i t h).imp id λ⟨v,h1,h2⟩=>⟨v,by show (vs.map some++List.replicate (N.length - vs.length) none)[i]?=_;rw[List.getElem?_append_left (by rw[a];exact z)];exact h1,h2⟩
  .rw[List.getElem?_append_right z] at h;have m:=mem_of_getElem? h;exact .inl (List.mem_replicate.mp m).2
 c:=W.c
 n:=W.n
 d:=W.d
 p:=λi h=>by
  have e:=W.p i h;show (vs.map some++List.replicate (N.length - vs.length) none)[i]?=_;rw[List.getElem?_append_left (by rw[length_map];omega)];exact e
 x:=W.x
end
theorem Rs.split:∀{n:ah}{vs:ax}{c:Cs},Rs K F B n vs c->ar F H c->∃cs:Nat->Cs,(∀(i:Nat)(t:Tr),n[i]?=some t->∃v,vs[i]?=some v/\R K F B t v (cs i))/\(∀i,∀p∈cs i,p∈c)/\(∀i,ar F H (cs i))/\∀i j,i≠j->∀p∈cs i,∀q∈cs j,p.1≠q.1
 |[],_,_,_,_=>⟨λ_=>[],λi t h=>(by cases h),λ_ _ m=>(nomatch m),λ_=>.nil,λ_ _ _ _ m=>nomatch m⟩
 |x::xs,_,_,y,hc=>by
  let⟨v,r,c,d,g,l,D,E⟩:=y;rw[l] at hc;let⟨cs,o,e,s,w⟩:=Rs.split E hc.right;have f:∀p∈c,∀q∈d,p.1≠q.1:=λp a q b=>by
   have:=hc.nd;rw[map_append,nodup_append] at this;exact this.2.2 _ (mem_map.mpr ⟨p,a,rfl⟩) _ (mem_map.mpr ⟨q,b,rfl⟩)
  refine⟨λi=>match i with |0=>c |j+1=>cs j,λi t h=>?_,λi p m=>?_,λi=>?_,λi j ne p a q b=>?_⟩
  .cases i with
   |zero=>cases h;exact⟨v,by rw[g];rfl,D⟩
   |succ j=>let⟨u,A,C⟩:=o j t h;exact⟨u,by rw[g];exact A,C⟩
  .rw[l];cases i with
   |zero=>exact mem_append.mpr (.inl m)
   |succ j=>exact mem_append.mpr (.inr (e j p m))
  .cases i with
   |zero=>exact hc.left
   |succ j=>exact s j
  .cases i with
   |zero=>
    cases j with
    |zero=>exact absurd rfl ne
    |succ j=>exact f p a q (e j q b)
   |succ i=>
    cases j with
    |zero=>exact (f q b p (e i p a)).symm
    |succ j=>exact w i j (λz=>ne (by rw[z])) p a q b
section
theorem YS{aQ:bQ}(F:gm K x qual st f fd)(S:bj N ps (a7 st))(hn:ps.length=n)(L:lo<=n)(e:∀(aM:af)(A:Around)(outer:cz)(s:ai)(H:Hp)(E:XK),bh m (A.deeper (PyProof.Rows.envOfC qual (a7 st) ⇑s f aM))->
   ∃o B,fC (ip aV P w K mg base N qual (a7 st) f aM A outer s H E).o7 (ie st) o/\cO K (Md.base z) lo o B/\∀xs b,xs.length=n->aQ xs b->B { nx:=λy=>b .aZ y,rt:=b } (xs++List.replicate (N.length - n) .aF)):
  aw P w K mg base aV (m+1) f fd ps (aX K z lo n aQ):=by
 refine F.ok S (λvs H Q E h=>h.1.trans hn.symm) (λaM A outer s H vs Q E O h=>?_);∎;let⟨hl,C,D,o,g,b,q,W,p,a⟩:=h;let⟨Y,B,G,I,M⟩:=e aM A outer s H E O;∎;have i:o.length=n:=by have:=W.l;rw[length_map] at this;omega
 refine⟨Y,G,I vs C D C H _ _ g _ { nx:=λy=>b .aZ y,rt:=b } ((W.start N ⋯).md id λ_ _ _ _ h=>h.elim) (by rw[i];exact M o b i p) ⟨?_,?_,λ_ _ _ _ _ _ (h:False)=>h.elim,λ_ _ _ _ _ _ (h:False)=>h.elim⟩⟩
 .exact λF H j y g u q=>a F H j y g .aZ .aZ [] (u.md id W.x) ⟨rfl,rfl⟩ .nil .nil (λ_ _ _ _ m=>nomatch m) rfl q
 .exact λF H j y g v t c u r J n d U q=>a F H j y g v t c (u.md id W.x) r J n d U q
theorem VW{aQ:dN}(F:gm K x qual st f fd)(S:bj N ps (a7 st))(hn:ps.length=n)(L:lo<=n)(e:∀(aM:af)(A:Around)(outer:cz)(s:ai)(H:Hp)(E:XK)(q:af->Prop),bh m (A.deeper (PyProof.Rows.envOfC qual (a7 st) ⇑s f aM))->
   ∃o B,fC (ip (b9 P w) P w K mg base N qual (a7 st) f aM A outer s H E) (ie st) o/\cO K ⟨z,λ_=>E,q⟩ lo o B/\∀xs b,xs.length=n->aQ xs b q->B { nx:=λy=>b .aZ y,rt:=b } (xs++List.replicate (N.length - n) .aF)):
  aw P w K mg base (b9 P w) (m+1) f fd ps (cu K z lo n aQ):=by
 refine F.zY S (λvs H Q E h=>h.1.trans hn.symm) (λaM A outer s H vs Q E O h=>?_);∎;let⟨hl,C,D,o,g,b,q,W,p,a⟩:=h;let⟨Y,B,G,I,M⟩:=e aM A outer s H E q O;∎;have i:o.length=n:=by have:=W.l;rw[length_map] at this;omega
 refine⟨Y,G,I vs C D C H _ _ g _ { nx:=λy=>b .aZ y,rt:=b } (W.start N ⋯) (by rw[i];exact M o b i p) ⟨?_,?_,λ_ _ _ _ _ _ (h:False)=>h.elim,λ_ _ _ _ _ _ (h:False)=>h.elim⟩⟩
 .exact λF H j y g u q=>a F H j y g .aZ .aZ [] u ⟨rfl,rfl⟩ .nil .nil (λ_ _ _ _ m=>nomatch m) rfl q
 .exact λF H j y g v t c u r J n d U q=>a F H j y g v t c u r J n d U q
end
section
theorem yv{c:Cs}{p:ae×HO}(m:p∈c):dc (c.map (·.1)) H p.1=none:=z'q (mem_map.mpr ⟨p,m,rfl⟩)
theorem uE(n:dg H c)(h:H a=some o):a ∉ c.map (·.1):=λm=>by
 let⟨p,b,rfl⟩:=mem_map.mp m;rw[n p b] at h;cases h
theorem _root_.Vc.Gr.dc(g:Gr F H F1 H1)(n:dg H c)(g':Gr F1 (dc (c.map (·.1)) H1) F' H'):Gr F H F' H':=
 Gr.of ⟨λa u e=>g'.h a u (ro (uE n e) (g.h a u e)),g.f.trans g'.f,g'.s,λa u e z=>by
  cases q:F1 a with
  |some y=>exact g.n a y q z
  |none=>
   have h:=g'.n a u e q;by_cases m:a∈c.map (·.1)
   .obtain⟨p,mp,rfl⟩:=mem_map.mp m;exact n p mp
   .unfold Vc.dc at h;rw[if_neg m] at h;exact g.h.free h⟩ (g'.fz g.z)
def wJ(q:af->Prop)(aQ:dN)(a:cG):aY:=λj Q=>a j λb=>aQ (cp b) (λt _=>Q t) q
def tE(aQ:bQ)(a:cG):aY:=λj Q=>a j λb=>aQ (cp b) λt _=>Q t
theorem Fe{n:Nat}{z:Bool}{aQ:dN}{L:TA}{J:cG}{R':St->XK}{q':af->Prop}(hE:∀(F:Hp)(B:Bool->Hp)(H:Hp)(y:St)(G:ah),gj K k F B H y G->∀f A w,q' f->Gr F H A w->R' y f none w)(hk:z=true->k.z=true)(hn:∀xs Q q,aQ xs Q q->xs.length=n)(h:fD K k L J):bt K k (CS (cu K z 0 n aQ) [] R' L) (wJ q' aQ J):=λF B H y G Q Q' c p q=>by
 refine h F B H y G _ _ c p λl vs D E C p1 d=>?_
 rw[append_nil];let⟨cs,M,N,O,U⟩:=d.r.split d.c;have hl:vs.length=n:=by rw[d.r.length,<- hn _ _ _ p1,l8]
 have hb:∀k,az (B k) (dc (C.map (·.1)) E):=λk a o e=>ro (uE d.n (c.b k a o e)) (d.g.h _ _ (c.b k a o e))
 refine⟨hl,D,dc (C.map (·.1)) E,cp l,cs,_,q',⟨⟨zC d.g.s,Fz.refl D⟩,λh=>d.g.fz (c.z (hk h)),by rw[length_map,l8,d.r.length],?_,O,λi p m=>yv (N i p m),U,λi h=>absurd h (Nat.not_lt_zero i),λf _ A w h g=>hE F B H y G c f A w h (d.g.dc d.n g)⟩,p1,?_⟩
 .intro i t h;have hi:i<l.length:=by have:=(List.getElem?_eq_some_iff.mp h).1;rw[l8] at this;exact this
  have e:∀(l:ah)(i:Nat),(cp l)[i]?=l[i]?.map dn:=by
   intro l
   induction l with
   |nil=>intro i;rfl
   |cons x xs ih=>intro i;cases i with
    |zero=>rfl
    |succ j=>exact ih j
  rw[e] at h;cases z:l[i]? with
  |none=>rw[z] at h;cases h
  |some u=>
   rw[z] at h;cases h;let⟨v,Y,b2⟩:=M i u z;exact .inr ⟨v,by rw[getElem?_map,Y];rfl,b2.dn (λk=>Le.of (hb k)) u⟩
 .intro A w y' G' cs' v t c' W r hc nw dj nl qt;refine q t v A w c' qt ⟨d.g.dc d.n W.g,r.base t nl,hc,λp m=>?_⟩;have z:=nw p m;by_cases I:p.1∈C.map (·.1)
  .obtain⟨q,mq,e⟩:=mem_map.mp I;have e:q.1=p.1:=e;rw[<- e];exact d.n q mq
  .unfold dc at z;rw[if_neg I] at z;exact d.g.h.free z
theorem Ga{aQ:bQ}(a:z=true->k.z=true)(hn:∀xs Q,aQ xs Q->xs.length=n)(h:fD K k ta pa):bt K k (Du (aX K z 0 n aQ) [] E ta) (tE aQ pa):=
 Fe (R':=λ_=>E) (q':=λ_=>False) (aQ:=λxs Q _=>aQ xs Q) (λ_ _ _ _ _ _ _ _ _ h=>h.elim) a (λxs Q _=>hn xs Q) h
def h9(K:ak)(k:Md)(r:ax->Hp->VK->Prop)(h:ah->(aq)->Prop):Prop:=∀(F:Hp)(B:Bool->Hp)(H:Hp)(g:ax)(f:ah)(d:Cs)(Q:VK)(e:aq),az F H->(∀k,az (B k) H)->(k.z=true->Fz S0 F)->Rs K F B f g d->ar F H d->h f e->
 (∀t v a b c,e t->Gr F H a b->R K a B t v c->ar a b c->(∀p∈c,H p.1=none\/p∈d)->Q v b)->r g H Q
def pB(b:ah->(aq)->Prop)(a:cG):aY:=λj Q=>a j λc=>b c Q
theorem HK(o:h9 K k r pr)(h:fD K k ta pa):bt K k (m8 r ta) (pB pr pa):=λF B H j y Q l c p q=>by
 refine h F B H j y _ _ c p λD vs d f w p1 a=>?_
 refine o d B f vs D w Q l a.g.s (λk=>(c.b k).trans a.g.h) (λh=>a.g.fz (c.z h)) a.r a.c p1 λt v e i x A g C u n=>?_
 refine q t v e i x A ⟨a.g.trans' g,C,u,λp m=>?_⟩;rcases n p m with z |z
 .exact a.g.h.free z
 .exact a.n p z
theorem Rs.one(r:Rs K F B [t] xs cs):∃v,xs=[v]/\R K F B t v cs:=by
 let⟨v,r,c,d,b,a,e,rfl,rfl⟩:=r;rw[append_nil] at a;exact⟨v,b,by rw[a];exact e⟩
def xw(a:ah)(Q:aq):Prop:=match a with
 |[.int i]=>Q (.int (if i < 0 then -i else i))
 |_=>False
theorem qY:h9 K k (λxs H Q=>∃i,xs=[.int i]/\Q (.int (if i<0 then -i else i)) H) xw:=λF B H xs e c Q a s b z r d p q=>by
 unfold xw at p;split at p
 .obtain⟨v,rfl,rfl,_⟩:=r.one;exact⟨_,rfl,q _ _ F H [] p (Gr.aI s) ⟨rfl,rfl⟩ .nil λ_ m=>nomatch m⟩
 .exact p.elim
end
structure QE(X:Cx)(k:Md)(e:Expr)(pe:aY):Prop where
 h:∃te,PE X e te/\bt X.K k te pe
structure QT(X:Cx)(k:Md)(e:Expr)(pe:d9):Prop where
 h:∃te,PT X e te/\fE X.K k te pe
structure QW(X:Cx)(k:Md)(e:Expr)(pe:d9):Prop where
 h:∃te,PW X e te/\fE X.K k te pe
structure QA(X:Cx)(k:Md)(es:bT)(pa:cG):Prop where
 h:∃ta,PA X es ta/\fD X.K k ta pa
structure QS(X:Cx)(k:Md)(lo:Nat)(st:Stmt)(ps:cL):Prop where
 h:∃ts,PS X st ts/\cO X.K k lo ts ps
structure QB(X:Cx)(k:Md)(lo:Nat)(sts:List Stmt)(ps:cL):Prop where
 h:∃ts,fC X sts ts/\cO X.K k lo ts ps
section
theorem qv(i:Nat)(b:do X.N[i]?=some x)(hv:jz X.env.scope x:=by first |exact Or.inl rfl |exact Or.inr (Or.inl rfl) |exact Or.inr (Or.inr rfl))(hd: ~~~(cI x))(a: ~~~((x == ("__classdict__":Str))=false)):QE X k (.Name x pos) (tN i):=⟨_,l9 b hv hd a,XC i⟩
theorem ay{i j}:QE X k (.Constant (.int i) j pos) (pC (.int i)):=⟨_,ZR,XD⟩
theorem bc{i j}:QE X k (.Constant (.str i) j pos) (pC (.str i)):=⟨_,ZS,XE⟩
theorem rR{i j}:QE X k (.Constant (.bool i) j pos) (pC (.bl i)):=⟨_,K3,z's⟩
theorem rp(v:V)(a:Gl X x)(hm:X.mg x=some u)(r:aC v u)(b:∀F B,R X.K F B t v [])(hd: ~~~(cI x)):QE X k (.Name x pos) (pC t):=⟨_,Gq a hm r hd,rK b⟩
theorem oP(i:b6 X (binaryOp op) r)(hs:cZ X.K k r pr)(ha:QE X k a pa)(g:QE X k b pb):QE X k (.BinOp a op b pos) (p2 pr pa pb):=by
 ∎;let⟨j,e,f⟩:=ha.h;let⟨l,c,d⟩:=g.h;∎;exact⟨_,K6 i e c,u7 hs f d⟩
theorem cb(ha:QE X k a pa)(c:QE X k b pb):QE X k (.BinOp a .Add b pos) (p2 nW pa pb):=oP Li XI ha c
theorem rL(ha:QE X k a pa)(c:QE X k b pb):QE X k (.BinOp a .Sub b pos) (p2 (gN (λ_ _=>True) λi j=>.int (i - j)) pa pb):=oP Ze XN ha c
theorem ea(ha:QE X k a pa)(c:QE X k b pb):QE X k (.BinOp a .Mult b pos) (p2 tP pa pb):=oP Lj XJ ha c
theorem eI(ha:QE X k a pa)(c:QE X k b pb):QE X k (.BinOp a .FloorDiv b pos) (p2 (gN dY λi j=>.int (i.fdiv j)) pa pb):=oP UQ VS ha c
theorem dk(ha:QE X k a pa)(c:QE X k b pb):QE X k (.BinOp a .Mod b pos) (p2 (gN (λ_ j=>0<j) λi j=>.int (i % j)) pa pb):=oP Zf XO ha c
theorem vu(ha:QE X k a pa):QE X k (.UnaryOp .USub a pos) (p1 tQ pa):=by
 let⟨d,b,c⟩:=ha.h;exact⟨_,K7 Zh b,z't XP c⟩
theorem ba(ha:QE X k a pa)(g:QE X k b pb)(hs:CF b:=by exact λ_ _=>rfl)(hu:X.A.units+1<cLine:=by assumption):QE X k (.Subscript a b pos) (p2 iq pa pb):=by
 ∎;let⟨i,e,f⟩:=ha.h;let⟨j,c,d⟩:=g.h;∎;exact⟨_,Lb (KO hu) e c hs,u7 XM f d⟩
theorem mJ(i:b6 X (compareOp op) r)(hs:cZ X.K k r pr)(ha:QE X k a pa)(g:QE X k b pb)(hm:behindInMarks op b=false:=by with_unfolding_all rfl):QE X k (.Compare a [op] [b] pos) (p2 pr pa pb):=by
 ∎;let⟨j,e,f⟩:=ha.h;let⟨l,c,d⟩:=g.h;∎;exact⟨_,XY i e c hm,u7 hs f d⟩
theorem bX(i:b6 X (compareOp op) r)(hs:cZ X.K k r pr)(ha:QE X k a pa)(g:QE X k b pb)(hm:behindInMarks op b=false:=by with_unfolding_all rfl):QT X k (.Compare a [op] [b] pos) (pT (p2 pr pa pb)):=by
 ∎;let⟨j,e,f⟩:=ha.h;let⟨l,c,d⟩:=g.h;∎;exact⟨_,Gx i e c hm,Fd (u7 hs f d)⟩
theorem gx(h:QE X k e pe)(he:∀whole,isTrue e X.env whole=(do let v <- whole;standAt e.pos;holding [v] (truthy v)):=by intro _;rfl):QT X k e (pT pe):=by
 let⟨c,a,b⟩:=h.h;exact⟨_,ZT a he,HJ b⟩
theorem jm(h:QT X k e pe):QT X k (.UnaryOp .Not e pos) (xp pe):=by
 let⟨c,a,b⟩:=h.h;exact⟨_,ZW a,YL b⟩
theorem QW.t(h:QW X k e pe):QT X k e pe:=by
 let⟨c,a,b⟩:=h.h;exact⟨_,a.pt,b⟩
theorem mj(h:QT X k e pe):QW X k (.BoolOp .And [e] pos) pe:=by
 let⟨c,a,b⟩:=h.h;exact⟨_,XR a,b⟩
theorem iL(h:QT X k e pe):QW X k (.BoolOp .Or [e] pos) pe:=by
 let⟨c,a,b⟩:=h.h;exact⟨_,ZU a,b⟩
theorem mz(h:QT X k e pe)(h':QW X k (.BoolOp .And (f::r) pos) pf):QW X k (.BoolOp .And (e::f::r) pos) (xo pe pf):=by
 ∎;let⟨g,c,d⟩:=h.h;let⟨i,a,b⟩:=h'.h;∎;exact⟨_,ZV c a,YK d b⟩
theorem iB(h:QT X k e pe)(h':QW X k (.BoolOp .Or (f::r) pos) pf):QW X k (.BoolOp .Or (e::f::r) pos) (Ag pe pf):=by
 ∎;let⟨g,c,d⟩:=h.h;let⟨i,a,b⟩:=h'.h;∎;exact⟨_,K4 c a,z'w d b⟩
theorem IX{op}(h:QE X k e pe):QE X k (.BoolOp op [e] pos) pe:=by
 let⟨c,a,b⟩:=h.h;exact⟨_,ZX a,b⟩
theorem IY(h:QE X k e pe)(h':QE X k (.BoolOp .And (f::r) pos) pf):QE X k (.BoolOp .And (e::f::r) pos) (w9 pe pf):=by
 ∎;let⟨g,c,d⟩:=h.h;let⟨i,a,b⟩:=h'.h;∎;exact⟨_,ZY c a,VT d b⟩
theorem KP(h:QE X k e pe)(h':QE X k (.BoolOp .Or (f::r) pos) pf):QE X k (.BoolOp .Or (e::f::r) pos) (xq pe pf):=by
 ∎;let⟨g,c,d⟩:=h.h;let⟨i,a,b⟩:=h'.h;∎;exact⟨_,K5 c a,YM d b⟩
theorem HL(h:QE X k e pe):QE X k (.UnaryOp .Not e pos) (xa pe):=by
 let⟨c,a,b⟩:=h.h;exact⟨_,Y9 a,VU b⟩
theorem zV{pt:d9}(m:QT X k c pt)(ha:QE X k a pa)(l:QE X k b pb):QE X k (.IfExp c a b pos) (Af pt pa pb):=by
 ∎;let⟨p,i,j⟩:=m.h;let⟨n,f,g⟩:=ha.h;let⟨o,d,e⟩:=l.h;∎;exact⟨_,UA i f d,YN j g e⟩
theorem aE:QA X k [] tO:=⟨_,me,Hc⟩
theorem aj(h:QE X k a pa)(h':QA X k es ps)(hs:do eA a es X.env):QA X k (a::es) (w5 pa ps):=by
 ∎;let⟨f,d,e⟩:=h.h;let⟨g,b,c⟩:=h'.h;∎;exact⟨_,kS d b hs,VR e c⟩
theorem dJ{x1}(h:QA X k es ps):QE X k (.Tuple es x1 pos) (xl ps):=by
 let⟨c,a,b⟩:=h.h;exact⟨_,HE a,XF b⟩
theorem gc(h:QA X k es ps):QE X k (.List es pos) (xm ps):=by
 let⟨c,a,b⟩:=h.h;exact⟨_,Zk a,XG b⟩
theorem e4{r:ax->Hp->VK->Prop}{d:ah->(aq)->Prop}{id:String}{x:Str}{p:Pos}{e:Expr}{a:bT}{ps:cG}(i:bA X (.builtin id) r)(l:h9 X.K k r d)(hm:X.mg x=none)(ha:QA X k (e::a) ps)(j:do Gl X x)(hv:do bootBuiltins x=some (.builtin id))(hn: ~~~(x≠"__name__"))(b: ~~~(cI x))(he:do eA e a X.env)(c:do e9 pos a X.env):
  QE X k (.Call (.Name x p) (e::a) [] pos) (pB d ps):=by
 let⟨m,f,g⟩:=ha.h;exact⟨_,yS i j hm hv f hn b he c,HK l g⟩
theorem b4:QB X k lo [] xb:=⟨_,XS,VV⟩
theorem aH(h:QS X k lo st p)(h':QB X k lo r q):QB X k lo (st::r) (xr p q):=by
 ∎;let⟨e,c,d⟩:=h.h;let⟨f,a,b⟩:=h'.h;∎;exact⟨_,UB c a,YO d b⟩
theorem aK(h:QS X k lo st p):QB X k lo [st] p:=by
 let⟨c,a,b⟩:=h.h;exact⟨_,XT a,b⟩
def wK:cL:=λ_ _=>False
theorem ml:QS X k lo st wK:=⟨_,UC,λ_ _ _ _ _ _ _ _ _ _ _ h _=>h⟩
theorem bf(h:QE X k e pe):QS X k lo (.Return (some e) pos) (xu pe):=by
 let⟨c,a,b⟩:=h.h;exact⟨_,Hz a,YQ b⟩
theorem b8(i:QT X k e pe)(h:QB X k lo s1 p)(h':QB X k lo s2 q):QS X k lo (.If e s1 s2 pos) (xv pe p q):=by
 ∎;let⟨m,f,g⟩:=i.h;let⟨j,c,d⟩:=h.h;let⟨l,a,b⟩:=h'.h;∎;exact⟨_,Jb f c a,z'x g d b⟩
theorem zW(f:QT X k e pe)(h:QB X k lo s1 p)(g:PassesOwn (model X.prog X.w) X.A X.env X.xe:=by first |exact PassesOwn.never |exact dW rfl):QS X k lo (.While e s1 [] pos) (DD pe p):=by
 ∎;let⟨j,c,d⟩:=f.h;let⟨i,a,b⟩:=h.h;∎;exact⟨_,UE g c a,YR d b⟩
theorem mK(i:Nat)(h:QE X k e pe)(c:X.N.Nodup:=by assumption)(g: ~~~(lo<=i))(f:do X.N[i]?=some x)(j:Loc X.env.scope x:=by first |exact Or.inl rfl |exact Or.inr rfl)(hs:do swapsWith e (some (.Name x pos')) pos.line X.env=pure false)(d:kq X x:=by first |exact .inl rfl |exact .inr rfl |assumption):
  QS X k lo (.Assign [.Name x pos'] e pos) (xt i pe):=by
 let⟨l,a,b⟩:=h.h;exact⟨_,zB c f j a hs d,YP g b⟩
end
section
theorem bH{aQ:bQ}(F:gm K x qual st f fd)(S:bj N ps (a7 st))(hn:ps.length=n)(d:lo<=n)(a:∀(aM:af)(A:Around)(outer:cz)(s:ai)(H:Hp)(E:XK),bh m (A.deeper (PyProof.Rows.envOfC qual (a7 st) ⇑s f aM))->(A.deeper (PyProof.Rows.envOfC qual (a7 st) ⇑s f aM)).units+1<cLine->N.Nodup->
   ∃b,QB (ip aV P w K mg base N qual (a7 st) f aM A outer s H E).o7 (Md.base z) lo (ie st) b/\∀xs c,xs.length=n->aQ xs c->b { nx:=λj=>c .aZ j,rt:=c } (xs++List.replicate (N.length - n) .aF)):
  aw P w K mg base aV (m+1) f fd ps (aX K z lo n aQ):=YS F S hn d λaM A outer s H E e=>by
 ∎;let⟨b,h,q⟩:=a aM A outer s H E e (Jf e) S.nd;let⟨l,g,i⟩:=h.h;∎;exact⟨l,b,g,i,q⟩
theorem gf{aQ:dN}(F:gm K x qual st f fd)(S:bj N ps (a7 st))(hn:ps.length=n)(d:lo<=n)(a:∀(aM:af)(A:Around)(outer:cz)(s:ai)(H:Hp)(E:XK)(q:af->Prop),bh m (A.deeper (PyProof.Rows.envOfC qual (a7 st) ⇑s f aM))->(A.deeper (PyProof.Rows.envOfC qual (a7 st) ⇑s f aM)).units+1<cLine->N.Nodup->
   ∃b,QB (ip (b9 P w) P w K mg base N qual (a7 st) f aM A outer s H E) ⟨z,λ_=>E,q⟩ lo (ie st) b/\∀xs c,xs.length=n->aQ xs c q->b { nx:=λj=>c .aZ j,rt:=c } (xs++List.replicate (N.length - n) .aF)):
  aw P w K mg base (b9 P w) (m+1) f fd ps (cu K z lo n aQ):=VW F S hn d λaM A outer s H E q e=>by
 ∎;let⟨b,h,q⟩:=a aM A outer s H E q e (Jf e) S.nd;let⟨l,g,i⟩:=h.h;∎;exact⟨l,b,g,i,q⟩
end
section
theorem lay:∀(c:Cs){F:Hp},Gr Fb Hb F H->ar F H c->dg Hb c->Plain c->∃i,Gr Fb Hb i H/\(∀S,Fz S F->Fz S i)/\az F i/\(∀p∈c,i p.1=some p.2)/\∀a,a ∉ c.map (·.1)->i a=F a
 |[],F,g,_,_,_=>⟨F,g,λ_ h=>h,az.refl F,λ_ m=>(nomatch m),λ_ _=>rfl⟩
 |(a,o)::c,F,g,hc,n,pl=>by
  let⟨s,y,D,C,q,l⟩:=Vc.aB g.toGr0 g.z (n _ (.head _)) (hc.f _ (.head _)) (hc.h _ (.head _)) (pl _ (.head _));have nd:=hc.nd;rw[map_cons,nodup_cons] at nd;have j:ar s H c:=⟨λp m=>hc.h p (.tail _ m),λp m=>by rw[l p.1 (λz=>nd.1 (mem_map.mpr ⟨p,m,z⟩))];exact hc.f p (.tail _ m),nd.2⟩;let⟨v,A,E,r,w,B⟩:=lay c ⟨y,D⟩ j (λp m=>n p (.tail _ m)) λp m=>pl p (.tail _ m)
  refine⟨v,A,λS h=>E S λb x u e=>?_,C.trans r,λp m=>?_,λb d=>?_⟩
  .by_cases d:b=a
   .subst d;rw[q] at e;exact absurd (Option.some.inj e) (pl _ (.head _) x u)
   .rw[l b d] at e;exact h b x u e
  .cases m with
   |head=>exact r _ _ q
   |tail _ m=>exact w p m
  .rw[map_cons,mem_cons] at d;rw[B b λz=>d (.inr z),l b λz=>d (.inl z)]
theorem a6.lay{c:Cs}(W:a6 K k lo us Fb Hb F H y u cs)(w:ar F H c)(n:dg Hb c)(pl:Plain c)(d:∀j,∀p∈cs j,∀q∈c,p.1≠q.1):∃a,a6 K k lo us Fb Hb a H y u cs/\az F a/\∀p∈c,a p.1=some p.2:=by
 let⟨o,s,B,b,r,A⟩:=Pu.lay c W.g w n pl;refine⟨o,⟨s,λh=>B _ (W.z h),W.l,λi t h=>(W.e i t h).imp id λ⟨v,h1,h2⟩=>⟨v,h1,h2.mo (Le.of b) (λ_=>Le.refl _) t⟩,λi=>⟨(W.c i).h,λp m=>?_,(W.c i).nd⟩,W.n,W.d,W.p,W.x⟩,b,r⟩;rw[A p.1 λz=>?_]
 .exact (W.c i).f p m
 .obtain⟨q,mq,e⟩:=mem_map.mp z;exact d i p m q mq e.symm
theorem a6.fresh{t:Tr}{v:V}{c:Cs}{B:Bool->Hp}(W:a6 K k lo us Fb Hb F H y u cs)(o:Out K F B H F' H' t v c):dg Hb c/\∀j,∀p∈cs j,∀q∈c,p.1≠q.1:=
 ⟨λp m=>W.g.h.free (o.n p m),λj p a q b e=>by
  have:=(W.c j).h p a;rw[e,o.n q b] at this;cases this⟩
theorem a6.outF{i:Nat}{t:Tr}{v:V}{c:Cs}(W:a6 K k lo us Fb Hb F H j y cs)(o:Out K F (Bq Hb H) H F' H' t v c)(l:lo<=i)(n:bW t=true):
  ∃a b,a6 K k lo us Fb Hb a H' (j.set i (some v)) (y.set i (aB t)) b:=by
 ∎;let⟨p,f⟩:=W.fresh o;let⟨d,e,q,h⟩:=(W.gr o.g).lay o.c p (o.r.plain t) f;∎;exact⟨d,_,e.set l ((R.low (B':=λ_=>Hb) t n rfl o.r).aB (Le.of q) t h) .nil .nil λ_ _ _ _ _ m=>nomatch m⟩
theorem a6.held{t:Tr}{v:V}{c:Cs}(W:a6 K k lo us Fb Hb F H j y cs)(o:Out K F (Bq Hb H) H F' H' t v c)(n:bW t=true):
  ∃a,a6 K k lo us Fb Hb a H' j y cs/\R K a (λ_=>Hb) (aB t) v []:=by
 ∎;let⟨h,e⟩:=W.fresh o;let⟨b,d,i,f⟩:=(W.gr o.g).lay o.c h (o.r.plain t) e;∎;exact⟨b,d,(R.low (B':=λ_=>Hb) t n rfl o.r).aB (Le.of i) t f⟩
def xc(i:Nat)(a:aY):cL:=λD j=>a (j.map aJ) λt=>bW t=true/\D.nx (j.set i (aB t))
theorem VX(g:lo<=i)(h:bt K k te pe):cO K k lo (lT te (lK i)) (xc i pe):=λus n d F H j y r D l W p L=>by
 refine h F (Bq d H) H j _ _ _ W.fF p λt v m b c q o=>?_
 let⟨a,f,e⟩:=W.outF o g q.1;exact L.nx a b _ _ _ e q.2
abbrev eH:=Tr->ah->(aG)->Prop
def lU(K:ak)(k:Md)(lo:Nat)(h:TG)(pg:eH):Prop:=∀(us:ax)(c a F H:Hp)(j:St)(y:ah)(g:Nat->Cs)(x:V)(t:Tr)(Q:St->Hp->Prop)(d:aG),a6 K k lo us c a F H j y g->R K F (λ_=>a) t x []->pg t y d->(∀e f b,a6 K k lo us c a F H e f b->d f->Q e H)->h x j H Q
def r9(i:Nat):eH:=λt j Q=>Q (j.set i t)
theorem z'y(a:lo<=i):lU K k lo (lK i) (r9 i):=λus b c F H j y e x t Q d W r p q=>q _ _ _ (W.set a r .nil .nil λ_ _ _ _ _ m=>nomatch m) p
def qD(K:ak)(k:Md)(lo:Nat)(l:ny)(pg:ah->ah->(aG)->Prop):Prop:=∀(us:ax)(c a F H:Hp)(j:St)(y:ah)(i:Nat->Cs)(g:ax)(f:ah)(Q:St->Hp->Prop)(d:aG),a6 K k lo us c a F H j y i->Rs K F (λ_=>a) f g []->pg f y d->(∀e h b,a6 K k lo us c a F H e h b->d h->Q e H)->l g j H Q
def tm:ah->ah->(aG)->Prop:=λa j Q=>match a with |[]=>Q j |_=>False
def tD(pg:eH)(b:ah->ah->(aG)->Prop):ah->ah->(aG)->Prop:=λc j Q=>match c with |t::r=>pg t j λa=>b r a Q |[]=>False
theorem SX:qD K k lo DS tm:=λus b c F H j y a f e Q d W r p q=>by
 unfold tm at p;split at p
 .exact⟨r.1,q j y a W p⟩
 .exact p.elim
theorem SD(h:lU K k lo tg pg)(h':qD K k lo tr pr):qD K k lo (Dq tg tr) (tD pg pr):=λus b f F H j y l u s Q g W r p q=>by
 unfold tD at p;split at p
 .obtain⟨v,w,c,d,h1,h2,h3,h4⟩:=r;have e:=List.append_eq_nil_iff.mp h2.symm;rw[e.1] at h3;rw[e.2] at h4;exact⟨v,w,h1,h us b f F H j y l v _ _ _ W h3 p λm o a i n=>h' us b f F H m o a w _ Q g i h4 n q⟩
 .exact p.elim
def vN(n:Nat)(b:ah->ah->(aG)->Prop):eH:=λt j Q=>match t with |.aA a=>a.length=n/\b a j Q |_=>False
theorem z'z(h:qD K k lo tr pr):lU K k lo (DU K n tr) (vN n pr):=λus b c F H j y e x t Q d W r p q=>by
 unfold vN at p;split at p
 .obtain⟨a,vs,rfl,h1,h2⟩:=r.cK W.g.s;exact⟨a,vs,rfl,h1,h2.length.trans p.1,h us b c F H j y e vs _ Q d W h2 p.2 q⟩
 .exact p.elim
def xx(a:aY)(pg:eH):cL:=λD j=>a (j.map aJ) λt=>bW t=true/\pg (aB t) j D.nx
theorem YT(h:bt K k te pe)(m:lU K k lo tg pg):cO K k lo (lT te tg) (xx pe pg):=λus f e F H j y l D u W p L=>by
 refine h F (Bq e H) H j _ _ _ W.fF p λt v w d c q o=>?_
 let⟨b,i,r2⟩:=W.held o q.1;exact m us f e b d j y l v _ _ _ i r2 q.2 λn s a g r=>L.nx b d n s a g r
def xy(i j:Nat)(c:cG):cL:=λD y=>c (y.map aJ) λd=>match d with |[a,b]=>bW a=true/\bW b=true/\D.nx ((y.set i (aB a)).set j (aB b)) |_=>False
theorem YU{i j:Nat}{l:TA}{d:cG}(B:lo<=i)(C:lo<=j)(h:fD K k l d):cO K k lo (DX i j l) (xy i j d):=λus O a F H y u z D M W p L=>by
 refine h F (Bq a H) H y _ _ _ W.fF p λQ vs N w c q o=>?_
 split at q
 .obtain⟨v,r,c1,d1,h1,h2,h3,v',r',c2,d2,g1,g2,g3,g4,g5⟩:=o.r;have I:dg a c:=λp m=>W.g.h.free (o.n p m)
  have A:∀j,∀p∈z j,∀q∈c,p.1≠q.1:=λj p E q G e=>by
   have:=(W.c j).h p E;rw[e,o.n q G] at this;cases this
  have J:Plain c:=Rs.plain _ o.r;let⟨s,x,f,b⟩:=(W.gr o.g).lay o.c I J A;refine⟨v,v',by rw[h1,g1,g4],L.nx s w _ _ _ ((x.set B ((R.low (B':=λ_=>a) _ q.1 rfl h3).aB (Le.of f) _ λp m=>b p (by rw[h2];exact mem_append.mpr (.inl m))) .nil .nil λ_ _ _ _ _ m=>nomatch m).set C ((R.low (B':=λ_=>a) _ q.2.1 rfl g3).aB (Le.of f) _ λp m=>b p (by rw[h2,g2];exact mem_append.mpr (.inr (mem_append.mpr (.inl m))))) .nil .nil λ_ _ _ _ _ m=>nomatch m) q.2.2⟩
 .exact q.elim
end
def NH(J:It)(n:Nat)(h:Hp->Prop)(Y:Nat->Hp->V->Hp->Prop):Prop:=∀(g:TG)(f:TS)(D:g9)(j:St)(H:Hp)(Pv:Nat->St->Hp->Prop),Pv 0 j H->(∀i j H,i<=n->Pv i j H->h H)->
 (∀i x j H a,i<n->Pv i j H->Y i H x a->g x j a λc b=>f { D with nx:=Pv (i+1),ct:=Pv (i+1),bk:=D.nx } c b)->(∀j H,Pv n j H->D.nx j H)->
 ∃W:Nat->Nat->St->Hp->Prop,(∃m,W 0 m j H)/\∀i m j H,W i m j H->
  (J.stop i H/\D.nx j H)\/(J.go i H/\∃N:St->Hp->Prop,(∀d a,N d a->∃e,e<m/\W (i+1) e d a)/\∀x a,J.ki i H x a->g x j a λc b=>f { D with nx:=N,ct:=N,bk:=D.nx } c b)
theorem IZ{j:Type}{xs:List j}{i:Nat}{x:j}(h:xs[i]?=some x):i<xs.length:=(List.getElem?_eq_some_iff.mp h).1
structure fH(J:It)(n:Nat)(Kp:Hp->Prop)(Y:Nat->Hp->V->Hp->Prop):Prop where
 go:∀i H,i<n->Kp H->J.go i H
 st:∀H,Kp H->J.stop n H
 yl:∀i H x H',i<n->Kp H->J.ki i H x H'->Y i H x H'
theorem fH.runs(o:fH J n Kp Y):NH J n Kp Y:=λg r D j H Pv f d h hd=>by
 refine⟨λi m j H=>m=n - i/\i<=n/\Pv i j H,⟨n,by simp,zero_le _,f⟩,?_⟩;rintro i m j H ⟨rfl,c,p⟩;by_cases a:i<n
 .exact .inr ⟨o.go i H a (d i j H c p),Pv (i+1),λq b l=>⟨n - (i+1),⋯,rfl,a,l⟩,λx b y=>h i x j H b a p (o.yl i H x b a (d i j H c p) y)⟩
 .have e:i=n:=⋯
  subst e;exact .inl ⟨o.st H (d i j H c p),hd j H p⟩
theorem vv{j:Type}{xs:List j}{i:Nat}(h:i<xs.length):∃x,xs[i]?=some x:=⟨_,List.getElem?_eq_getElem h⟩
theorem YV{K:ak}{a:ae}{xs:ax}:fH (sr K a) xs.length (λH=>bY K H a xs) (λi H x b=>xs[i]?=some x/\b=H):=
 ⟨λi H h q=>by let⟨x,e⟩:=vv h;exact⟨xs,x,q,e⟩,λH q=>⟨xs,q,le_refl _⟩,λi H x b h q y=>⟨y.2 xs q,y.1⟩⟩
theorem ZZ{K:ak}{a:ae}{xs:ax}:fH (su K a) xs.length (λH=>ck K H a xs) (λi H x b=>xs[i]?=some x/\b=H):=
 ⟨λi H h q=>by let⟨x,e⟩:=vv h;exact⟨xs,x,q,e⟩,λH q=>⟨xs,q,le_refl _⟩,λi H x b h q y=>⟨y.2 xs q,y.1⟩⟩
theorem Va:fH (nt l n) n (λ_=>True) (λi H x a=>x=.int (l+i)/\a=H):=⟨λi H h _=>h,λH _=>le_refl _,λi H x a h _ y=>⟨y.2,y.1⟩⟩
theorem YW{K:ak}{a:ae}{xs:ax}:fH (sq K a) xs.length (λH=>bY K H a xs) (λi H y b=>∃x p,xs[i]?=some x/\y=.ref p/\H p=none/\b=aW H p (.aA [.int i,x])):=
 ⟨λi H h q=>by let⟨x,e⟩:=vv h;exact⟨xs,x,q,e⟩,λH q=>⟨xs,q,le_refl _⟩,λi H y b h q z=>by let⟨p,x,c,d,f,g⟩:=z;exact⟨x,p,f xs q,c,d,g⟩⟩
def Src(K:ak)(B:Bool->Hp)(F:Hp)(J:It)(f:ah):Prop:=∃(e:Hp->Prop)(Y:Nat->Hp->V->Hp->Prop),fH J f.length e Y/\(∀b a,Le F b->az b a->(∀k,az (B k) a)->e a)/\
 ∀i t b a x d,f[i]?=some t->Le F b->az b a->(∀k,az (B k) a)->Y i a x d->∃c,Gr b a c d/\R K c B t x []
section
abbrev ia:=ah->(ah->Bool->Prop)->Prop
def kI(K:ak)(k:Md)(i:TI)(h:ia):Prop:=∀(F:Hp)(B:Bool->Hp)(H:Hp)(j:St)(y:ah)(f:It->Hp->Prop)(e:ah->Bool->Prop),gj K k F B H j y->h y e->
 (∀b g J a d,e b g->Gr F H a d->Src K B a J b->(g=true->∀c:Bool->Hp,c false=B false->Src K c a J b)->f J d)->i j H f
theorem _root_.Vc.Gr.base(g:Gr Fb Hb F1 H1)(g':Gr F1 Hb F H):Gr Fb Hb F H:=
 Gr.of ⟨g'.h,g.f.trans g'.f,g'.s,λa u e z=>by
  cases q:F1 a with
  |some w=>exact g.n a w q z
  |none=>exact g'.n a u e q⟩ (g'.fz g.z)
theorem a6.base(a:a6 K k lo us Fb Hb F1 H1 j0 y0 cs0)(W:a6 K k lo us F1 Hb F H j y cs):a6 K k lo us Fb Hb F H j y cs:=⟨a.g.base W.g,W.z,W.l,W.e,W.c,W.n,W.d,W.p,a.x⟩
theorem a6.rebase(W:a6 K k lo us Fb Hb F H j y cs):a6 K k lo us F Hb F H j y cs:=⟨⟨⟨W.g.h,az.refl F,W.g.s,λa u e z=>by rw[e] at z;cases z⟩,Fz.refl F⟩,W.z,W.l,W.e,W.c,W.n,W.d,W.p,λb m f i q g=>W.x b m f i q (W.g.base g)⟩
theorem Lk.rebase(b:a6 K k lo us Fb Hb F1 H1 j0 y0 cs0)(L:Lk K k lo us Fb Hb D D'):Lk K k lo us F1 Hb D D':=
 ⟨λF H j y a W=>L.nx F H j y a (b.base W),λF H j y a v t c W=>L.rt F H j y a v t c (b.base W),λF H j y a W=>L.bk F H j y a (b.base W),λF H j y a W=>L.ct F H j y a (b.base W)⟩
def xA(e:ia)(pg:eH)(d:cL):cL:=λD j=>e (j.map aJ) λa c=>c=true/\∃I:Nat->aG,I 0 j/\(∀i t j,a[i]?=some t->I i j->pg t j λb=>d { D with nx:=I (i+1),ct:=I (i+1),bk:=D.nx } b)/\∀j,I a.length j->D.nx j
theorem YX(c:kI K k wi pi)(N:lU K k lo tg pg)(M:cO K k lo tb pb):cO K k lo (xN wi tg tb) (xA pi pg pb):=λus Fb b F H j u a D D' W p L=>by
 refine c F (Bq b H) H j _ _ _ W.fF p λA nl J d B q E _ r=>?_
 have w:=W.gr E;∎;let⟨n,I,O,step,m⟩:=q;let⟨Kp,Y,o,kp,yl⟩:=r n (λ_=>b) rfl;∎;have run:=o.runs;have e:=L.rebase w;refine run tg tb D j B (λi j H=>∃F u a,a6 K k lo us d b F H j u a/\I i u) ⟨d,u,a,w.rebase,O⟩ ?_ ?_ ?_
 .rintro i j H c ⟨F,u,a,W,_⟩;exact kp F H (Le.of W.g.f) W.g.s λ_=>W.g.h
 .rintro i x j H H' c ⟨F,u,a,W,ii⟩ y;have z:A[i]?=some (A[i]'c):=List.getElem?_eq_getElem c;let⟨v,G,r2⟩:=yl i _ F H x H' z (Le.of W.g.f) W.g.s (λ_=>W.g.h) y;refine N us d b v H' j u a x _ _ _ (W.gr G) r2 (step i _ u z ii) λQ u' l C U=>?_
  exact M us d b v H' Q u' l _ _ C U ⟨λF H j u a W q=>⟨F,u,a,W,q⟩,e.rt,e.nx,λF H j u a W q=>⟨F,u,a,W,q⟩⟩
 .rintro j H ⟨F,u,a,W,q⟩;exact e.nx F H j u a W (m u q)
theorem Z0(l:Le F F')(s:az F' H')(h:bY K F a vs):bY K H' a vs:=s.seq (l.av h)
theorem vx(r:R K F B (.av f xs) v []):∃a vs,v=.ref a/\Rs K F B xs vs []/\∀e c,Le F e->az e c->(∀k,az (B k) c)->bY K c a vs:=by
 cases f with
 |f=>let⟨_,a,vs,g,d,h⟩:=r;exact⟨a,vs,g,h,λe c l s b=>Z0 l s d⟩
 |l q=>let⟨_,a,vs,g,d,h⟩:=r;exact⟨a,vs,g,h,λe c l s b=>(b q).seq d⟩
 |o=>let⟨a,vs,i,g,d,h⟩:=r;cases d
theorem Rs.dU{xs:ah}{vs:ax}{i:Nat}{t:Tr}(r:Rs K F B xs vs [])(h:xs[i]?=some t):∃u,vs[i]?=some u/\R K F B t u []:=by
 let⟨u,c,b,a,d⟩:=r.at h;have e:c=[]:=List.eq_nil_iff_forall_not_mem.mpr λp m=>nomatch d p m
 rw[e] at a;exact⟨u,b,a⟩
theorem Gb{a:ae}{f:Fl}{xs:ah}(r:R K F B (.av f xs) (.ref a) []):Src K B F (sr K a) xs:=by
 let⟨q,vs,m,c,n⟩:=vx r;cases m;refine⟨_,_,c.length ▸ YV (K:=K) (a:=a) (xs:=vs),n,λi t e p x g o l s b y=>?_⟩;∎;let⟨d,rfl⟩:=y;let⟨u,h,j⟩:=c.dU o;∎;rw[h] at d;cases d;exact⟨e,Gr.aI s,j.mo l (λ_=>Le.refl _) t⟩
theorem Hd{a:ae}{xs:ah}(r:R K F B (.aA xs) (.ref a) []):Src K B F (su K a) xs:=by
 let⟨p,vs,m,n,d⟩:=r;cases m;refine⟨_,_,d.length ▸ ZZ (K:=K) (a:=a) (xs:=vs),λc f l s b=>s.aA (l.aA n),λi t c f x g o l s b y=>?_⟩;∎;let⟨e,rfl⟩:=y;let⟨u,h,j⟩:=d.dU o;∎;rw[h] at e;cases e;exact⟨c,Gr.aI s,j.mo l (λ_=>Le.refl _) t⟩
theorem Gd{a:ae}{f:Fl}{xs:ah}(r:R K F B (.av f xs) (.ref a) []):Src K B F (sq K a) (xs.mapIdx λi x=>.aA [.int i,x]):=by
 let⟨D,vs,o,d,v⟩:=vx r;cases o;refine⟨_,_,(by rw[List.length_mapIdx,<- d.length];exact YW (K:=K) (a:=a) (xs:=vs)),v,λi t A C x j c l s b y=>?_⟩;let⟨z,p,e,rfl,w,rfl⟩:=y;rw[List.getElem?_mapIdx] at c;cases q:xs[i]? with
 |none=>rw[q] at c;cases c
 |some u=>
  rw[q] at c;cases c;let⟨E,m,n⟩:=d.dU q;rw[m] at e;cases e;let⟨h,g,r2,_⟩:=qW (xs:=[.int i,u]) (cs:=[]) s ⟨.int i,[z],[],[],rfl,rfl,⟨rfl,rfl⟩,z,[],[],[],rfl,rfl,n.mo l (λ_=>Le.refl _) u,rfl,rfl⟩ .nil w;exact⟨h,g,r2⟩
theorem SY{l:Int}{n:Nat}:Src K B F (nt l n) ((List.range n).map λ(i:Nat)=>.int (l+i)):=by
 refine⟨_,_,(by rw[length_map,length_range];exact Va (l:=l) (n:=n)),λ_ _ _ _ _=>True.intro,λi t d f x e a g s b y=>?_⟩;let⟨rfl,rfl⟩:=y;rw[getElem?_map] at a;cases q:(List.range n)[i]? with
 |none=>rw[q] at a;cases a
 |some u=>
  rw[q] at a;cases a;have c:=IZ q;rw[length_range] at c;rw[List.getElem?_range c] at q;cases q;exact⟨d,Gr.aI s,rfl,rfl⟩
theorem Out.held{t:Tr}{v:V}{c:Cs}(o:Out K F B H F' H' t v c):∃a,Gr F H a H'/\R K a B (aB t) v []:=by
 let⟨b,e,_,f,d,_⟩:=Pu.lay c o.g o.c o.n (o.r.plain t);exact⟨b,e,o.r.aB (Le.of f) t d⟩
theorem dO.held{t:ah}{v:ax}{c:Cs}(o:dO K F B H F' H' t v c):∃a,Gr F H a H'/\Rs K a B (bV t) v []:=by
 let⟨b,e,_,f,d,_⟩:=Pu.lay c o.g o.c o.n (o.r.plain t);exact⟨b,e,o.r.aB (Le.of f) t d⟩
def lV(t:Tr)(Q:aG):Prop:=match t with |.av _ a=>Q a |_=>False
theorem He{Q:aG}(h:lV t Q):∃f xs,t=.av f xs/\Q xs:=by
 unfold lV at h;split at h
 .exact⟨_,_,rfl,h⟩
 .exact h.elim
def Am(a:aY):ia:=λj Q=>a j λt=>lV (aB t) λb=>Q b (bW (aB t))
theorem S1(h:bt K k te pe):kI K k (Dr K te) (Am pe):=λF B H j y w u c p q=>by
 refine h F B H j y _ _ c p λt v r i x p1 o=>?_
 ∎;let⟨g,d,r2⟩:=o.held;let⟨f,z,e,p1⟩:=He p1;∎;rw[e] at r2 p1;let⟨a,vs,rfl,_,m⟩:=vx r2;exact⟨a,rfl,⟨vs,m g i (Le.refl _) d.s λk=>(c.b k).trans d.h⟩,q _ _ _ g i p1 d (Gb r2) λhn n l=>Gb (R.low _ hn l.symm r2)⟩
def vW(t:Tr)(Q:aG):Prop:=match t with |.aA a=>Q a |_=>False
def Ao(a:aY):ia:=λj Q=>a j λt=>vW (aB t) λb=>Q b (bW (aB t))
theorem Vb(h:bt K k te pe):kI K k (DY K te) (Ao pe):=λF B H j y m l c p q=>by
 refine h F B H j y _ _ c p λt v i e n p1 o=>?_
 let⟨d,b,r2⟩:=o.held;generalize aB t=u at r2 p1;unfold vW at p1;split at p1
 .obtain⟨a,vs,rfl,h2,h3⟩:=r2.cK b.s;exact⟨a,rfl,⟨vs,h2⟩,q _ _ _ d e p1 b (Hd r2) λhn g f=>Hd (R.low _ hn f.symm r2)⟩
 .exact p1.elim
def qI(a:ah)(Q:aq):Prop:=match a with |[t]=>Q t |_=>False
theorem YY{Q:aq}(h:qI ts Q):∃t,ts=[t]/\Q t:=by
 unfold qI at h;split at h
 .exact⟨_,rfl,h⟩
 .exact h.elim
def Ak(a:cG):ia:=λj Q=>a j λb=>qI b λt=>lV (aB t) λc=>Q (c.mapIdx λi x=>.aA [.int i,x]) (bW (aB t))
theorem S2(h:fD K k ta pa):kI K k (C7 K ta) (Ak pa):=λF B H j y A z c p q=>by
 refine h F B H j y _ _ c p λD vs x l C p1 o=>?_
 ∎;let⟨t,rfl,p1⟩:=YY p1;let⟨v,rfl,r1⟩:=o.r.one;let⟨i,d,r2⟩:=Out.held ⟨o.g,r1,o.c,o.n⟩;let⟨f,E,e,p1⟩:=He p1;∎;rw[e] at r2 p1;let⟨a,vs,rfl,_,u⟩:=vx r2;exact⟨a,rfl,⟨vs,u i l (Le.refl _) d.s λk=>(c.b k).trans d.h⟩,q _ _ _ i l p1 d (Gd r2) λhn w m=>Gd (R.low _ hn m.symm r2)⟩
theorem Rs.two(r:Rs K F B [t,u] xs cs):∃v w c d,xs=[v,w]/\R K F B t v c/\R K F B u w d/\cs=c++d:=by
 let⟨v,r,c,d,g,h,i,j,m,b,l,e,a,f,rfl,rfl⟩:=r;rw[append_nil] at a;exact⟨v,j,c,b,by rw[g,e],i,f,by rw[h,a]⟩
def tF(a:ah)(Q:Int->Prop):Prop:=match a with |[.int i]=>Q i |_=>False
def xB(a:cG):ia:=λy Q=>a y λb=>tF b λj=>-1000000<=j/\j<=1000000/\Q ((List.range j.toNat).map λ(i:Nat)=>.int i) true
theorem YZ(h:fD K k ta pa):kI K k (Ds ta) (xB pa):=λF B H y u m f c p q=>by
 refine h F B H y u _ _ c p λw vs a e s p1 o=>?_
 unfold tF at p1;split at p1
 .rename_i j;let⟨v,rfl,rfl,_⟩:=o.r.one;have b:∀B,Src K B a (nt 0 j.toNat) ((List.range j.toNat).map λ(i:Nat)=>.int i):=λB=>by
   have:=SY (K:=K) (B:=B) (F:=a) (l:=0) (n:=Int.toNat j);simp only[Int.zero_add] at this;exact this
  exact⟨_,rfl,⋯,⋯,q _ _ _ a e p1.2.2 o.g (b B) λ_ d _=>b d⟩
 .exact p1.elim
end
section
theorem a6.mut{i:Nat}(W:a6 K k lo us Fb Hb F H G J cs)(hv:G[i]?=some (some v))(e:(a,o)∈cs i)(hd:ar F H ds')(hn:dg Hb ds')(ha:∀p∈ds',p.1≠a)(C:∀j,j≠i->∀p∈ds',∀q∈cs j,p.1≠q.1)(B:c'.Perm ((a,o')::ds'))(M:R K F (λ_=>Hb) t' v c'):
  a6 K k lo us Fb Hb F (aW H a o') G (J.set i t') (λj=>if j=i then c' else cs j):=by
 have E:=W.n i _ e;have D:=(W.c i).f _ e;have b:∀j,j≠i->∀p∈cs j,p.1≠a:=λj C p m z=>W.d j i C p m _ e z
 refine⟨⟨⟨W.g.h.ng E,W.g.f,W.g.s.ng D,W.g.n⟩,W.g.z⟩,W.z,by rw[length_set];exact W.l,λj u h=>?_,λj=>?_,λj=>?_,λx y ne p w q r=>?_,W.p,W.x⟩
 .by_cases ej:j=i
  .subst ej;have L:j<J.length:=by have:=(List.getElem?_eq_some_iff.mp h).1;rw[length_set] at this;exact this
   rw[getElem?_set_self L] at h;cases h;exact .inr ⟨v,hv,by rw[if_pos rfl];exact M⟩
  .rw[getElem?_set_ne (λz=>ej z.symm)] at h;rw[if_neg ej];exact W.e j u h
 .split
  .refine⟨λp m=>?_,λp m=>?_,?_⟩
   .rcases mem_cons.mp (B.mem_iff.mp m) with rfl |m
    .exact fb
    .rw[bR (ha p m)];exact hd.h p m
   .rcases mem_cons.mp (B.mem_iff.mp m) with rfl |m
    .exact D
    .exact hd.f p m
   .refine ((B.map (·.1)).nodup_iff).mpr ?_;rw[map_cons,nodup_cons];refine⟨λm=>?_,hd.nd⟩;let⟨p,w,e⟩:=mem_map.mp m;exact ha p w e
  .rename_i ej;exact⟨λp m=>by rw[bR (b j ej p m)];exact (W.c j).h p m,(W.c j).f,(W.c j).nd⟩
 .split
  .intro p m;rcases mem_cons.mp (B.mem_iff.mp m) with rfl |m
   .exact E
   .exact hn p m
  .exact W.n j
 .have key:∀p,p∈c'->∀y,y≠i->∀q∈cs y,p.1≠q.1:=λp m y I q r=>by
   rcases mem_cons.mp (B.mem_iff.mp m) with rfl |m
   .exact (b y I q r).symm
   .exact C y I p m q r
  by_cases ex:x=i
  .have A:y≠i:=λz=>ne (ex.trans z.symm)
   rw[if_pos ex] at w;rw[if_neg A] at r;exact key p w y A q r
  .rw[if_neg ex] at w;by_cases A:y=i
   .rw[if_pos A] at r;exact (key q r x ex p w).symm
   .rw[if_neg A] at r;exact W.d x y ne p w q r
def lX(f:Str)(u:Tr):bK->bK
 |[]=>[]
 |(g,x)::r=>if g=f then (g,u)::r else (g,x)::lX f u r
def jM(t:Tr):ag->Tr
 |[]=>t
 |f::r=>match jM t r with |.ins .o _ fs=>(fs.lookup f).getD .aF |_=>.aF
def nX(t:Tr):ag->Tr->Tr
 |[],u=>u
 |f::r,u=>nX t r (match jM t r with |.ins .o c fs=>.ins .o c (lX f u fs) |y=>y)
def r6(K:ak)(t:Tr):ag->Prop
 |[]=>True
 |f::r=>r6 K t r /\ (match jM t r with |.ins .o c fs=>(du K c /\ aD K c f) /\ (fs.lookup f).isSome=true |_=>False)
def tR(K:ak)(i:Nat):ag->TE
 |[]=>lQ i
 |f::r=>wZ K (tR K i r) f
theorem Rf.at:∀{fs:bK}{vs:List (Str×V)}{m:Cs}{f:Str}{x:Tr},Rf K F B fs vs m->fs.lookup f=some x->∃w c pre post,vs.lookup f=some w/\R K F B x w c/\m=pre++c++post/\∀a,Le F a->∀u d,R K a B u w d->Rf K a B (lX f u fs) vs (pre++d++post)
 |(g,y)::fs,_,_,f,x,y0,h=>by
  let⟨v,r,c,d,i,n,o,p⟩:=y0;by_cases e:g=f
  .subst e;rw[List.lookup_cons_self] at h;cases h;refine⟨v,c,[],d,by rw[i,List.lookup_cons_self],o,by rw[n];rfl,λa l u b j=>?_⟩;unfold lX;rw[if_pos rfl];exact⟨v,r,b,d,i,rfl,j,p.mo l (λ_=>Le.refl _) fs⟩
  .have e':(f == g)=false:=by simpa using λz=>e z.symm
   rw[lookup_cons,e'] at h;let⟨w,D,pre,post,q,s,A,C⟩:=Rf.at (fs:=fs) p h;refine⟨w,D,c++pre,post,by rw[i,lookup_cons,e'];exact q,s,by rw[n,A];simp only[append_assoc],λa l u b j=>?_⟩;unfold lX;rw[if_neg e];exact⟨v,r,c,pre++b++post,i,by simp only[append_assoc],o.mo l (λ_=>Le.refl _) y,C a l u b j⟩
theorem place{B:Bool->Hp}(s:az F H)(b:∀k,az (B k) H)(hv:j[i]?=some (some v))(r0:R K F B t v c0)(L:ar F H c0):∀(r:ag),r6 K t r->∃w c rest,c0.Perm (c++rest)/\R K F B (jM t r) w c/\(∀g,Le F g->∀u d,R K g B u w d->∃p,R K g B (nX t r u) v p/\p.Perm (d++rest))/\∀Q:VK,Q w H->tR K i r j H Q
 |[],_=>⟨v,c0,[],by rw[append_nil],r0,λg l u d G=>⟨d,G,by rw[append_nil]⟩,λQ q=>⟨v,hv,q⟩⟩
 |f::r,ok=>by
  let⟨w,c,rest,p1,r1,cl,rd⟩:=place s b hv r0 L r ok.1;have A:=ok.2;split at A
  .rename_i C fs eg;∎;let⟨⟨zY,D⟩,E⟩:=A;let⟨x,M⟩:=isSome_iff_exists.mp E;∎;rw[eg] at r1;∎;let⟨a,m,vs,ds,I,J,h3⟩:=r1;let⟨z,n,pre,e,N,O,U,Y⟩:=h3.at M;∎;have hm:(a,HO.ins C m vs)∈c0:=p1.mem_iff.mpr (mem_append.mpr (.inl (by rw[J];exact .head _)));refine⟨z,n,(a,.ins C m vs)::(pre++e++rest),?_,?_,λg l u d G=>?_,λQ q=>?_⟩
   .refine p1.trans ?_;rw[J,U];show List.Perm ((a,HO.ins C m vs)::((pre++n++e)++rest)) _;refine List.Perm.trans (List.Perm.cons _ ?_) (List.perm_middle.symm);rw[append_assoc pre n e,<- append_assoc,<- append_assoc,<- append_assoc];refine List.Perm.append_right _ ?_;refine List.Perm.append_right _ ?_;exact List.perm_append_comm
   .show R K F B (match jM t r with |.ins .o _ fs=>(fs.lookup f).getD .aF |_=>.aF) z n;rw[eg];show R K F B ((fs.lookup f).getD .aF) z n;rw[M];exact O
   .obtain⟨p,b1,b2⟩:=cl g l (.ins .o C (lX f u fs)) ((a,.ins C m vs)::(pre++d++e)) ⟨a,m,vs,_,I,rfl,Y g l u d G⟩;refine⟨p,?_,b2.trans ?_⟩
    .show R K g B (nX t r (match jM t r with |.ins .o c fs=>.ins .o c (lX f u fs) |y=>y)) v p;rw[eg];exact b1
    .show List.Perm ((a,HO.ins C m vs)::((pre++d++e)++rest)) _;refine List.Perm.trans (List.Perm.cons _ ?_) (List.perm_middle.symm);rw[append_assoc pre d e,<- append_assoc,<- append_assoc,<- append_assoc];refine List.Perm.append_right _ ?_;refine List.Perm.append_right _ ?_;exact List.perm_append_comm
   .exact rd _ ⟨a,C,m,vs,z,I,Rd.of (L.h _ hm),zY,D,N,q⟩
  .exact A.elim
theorem a6.at(W:a6 K k lo us Fb Hb F H y G cs)(ht:G[i]?=some t)(hn:t≠.aF)(r:ag)(ok:r6 K t r):∃w c,R K F (λ_=>Hb) (jM t r) w c/\(∀p∈c,p∈cs i)/\ar F H c/\(∀Q:VK,Q w H->tR K i r y H Q)/\
  ∀b C,a6 K k lo us Fb Hb b C y G cs->Le F b->∀(a:ae)(o o':HO)(B ds' e:Cs)(u:Tr)(d:Cs),c=(a,o)::B->ds'.Sublist B->ar b C e->dg Hb e->(∀j,∀p∈cs j,∀q∈e,p.1≠q.1)->d.Perm ((a,o')::(ds'++e))->R K b (λ_=>Hb) u w d->∃J,a6 K k lo us Fb Hb b (aW C a o') y (G.set i (nX t r u)) J:=by
 rcases W.e i t ht with z |⟨v,hv,rv⟩
 .exact absurd z hn
 .obtain⟨w,c,rest,p1,r1,cl,rd⟩:=place W.g.s (λ_=>W.g.h) hv rv (W.c i) r ok;have sub:∀{F H:Hp},ar F H (cs i)->ar F H (c++rest):=λh=>⟨λp m=>h.h p (p1.mem_iff.mpr m),λp m=>h.f p (p1.mem_iff.mpr m),((p1.map (·.1)).nodup_iff).mp h.nd⟩
  refine⟨w,c,r1,λp m=>p1.mem_iff.mpr (mem_append.mpr (.inl m)),(sub (W.c i)).left,rd,λb C A l a o o' B ds' e u d L sl he M x pd ru=>?_⟩;let⟨c1,Y,b2⟩:=cl b l u d ru;have U:=sub (A.c i);rw[L] at U;have O:(a,o)∈cs i:=p1.mem_iff.mpr (mem_append.mpr (.inl (by rw[L];exact .head _)));have E:(a ∉ (B++rest).map (·.1))/\((B++rest).map (·.1)).Nodup:=nodup_cons.mp U.nd;have N:(ds'++rest).Sublist (B++rest):=sl.append_right rest;have D:∀p∈ds'++rest,p∈cs i:=λp m=>p1.mem_iff.mpr (by rw[L];exact .tail _ (N.subset m))
  have c3:ar b C (ds'++rest):=⟨λp m=>(A.c i).h p (D p m),λp m=>(A.c i).f p (D p m),List.Sublist.nodup (N.map _) E.2⟩
  refine⟨_,A.mut (o:=o) (o':=o') (ds':=(ds'++rest)++e) hv O (c3.app he λp mp q I=>x i p (D p mp) q I) ?_ ?_ ?_ (b2.trans ((pd.append_right rest).trans ?_)) Y⟩
  .exact λp m=>(mem_append.mp m).elim (λm=>A.n i p (D p m)) (M p)
  .intro p m z;rcases mem_append.mp m with m |m
   .exact E.1 (mem_map.mpr ⟨p,N.subset m,z⟩)
   .exact x i _ O p m z.symm
  .intro j hj p m q I;rcases mem_append.mp m with m |m
   .exact A.d i j (λz=>hj z.symm) p (D p m) q I
   .exact (x j q I p m).symm
  .show List.Perm ((a,o')::((ds'++e)++rest)) ((a,o')::((ds'++rest)++e));refine List.Perm.cons _ ?_;rw[append_assoc,append_assoc];exact List.Perm.append_left _ List.perm_append_comm
end
section
def iD(K:ak)(j:ah)(i:Nat)(r:ag)(Q:Tr->(Tr->ah)->Prop):Prop:=match j[i]? with
 |some .aF=>False
 |some t=>r6 K t r /\ Q (jM t r) λu=>j.set i (nX t r u)
 |none=>False
theorem vb{Q:Tr->(Tr->ah)->Prop}(h:iD K j i r Q):∃t,j[i]?=some t/\t≠.aF/\r6 K t r/\Q (jM t r) λu=>j.set i (nX t r u):=by
 unfold iD at h;split at h
 .exact h.elim
 .rename_i t ne e;exact⟨t,e,ne,h.1,h.2⟩
 .exact h.elim
theorem Rs.set:∀{xs:ah}{vs:ax}{e:Cs}(n:Nat){t:Tr}{v:V},Rs K F B xs vs e->R K F B t v []->∃ds',Rs K F B (xs.set n t) (vs.set n v) ds'/\ds'.Sublist e
 |[],_,e,n,_,_,y,_=>by let⟨a,b⟩:=y;exact⟨[],by rw[a];exact⟨rfl,rfl⟩,by rw[b];exact List.Sublist.refl _⟩
 |x::xs,_,_,0,_,_,y,rt=>by let⟨v,r,c,d,a,b,h,f⟩:=y;exact⟨d,by rw[a];exact⟨_,r,[],d,rfl,rfl,rt,f⟩,by rw[b];exact List.sublist_append_right c d⟩
 |x::xs,_,_,n + 1,_,_,y,rt=>by
  ∎;let⟨v,r,c,d,a,b,h,f⟩:=y;let⟨g,i,j⟩:=Rs.set (xs:=xs) n f rt;∎;exact⟨c++g,by rw[a];exact⟨v,_,c,g,rfl,rfl,h,i⟩,by rw[b];exact j.append_left c⟩
theorem Rs.snoc(h:Rs K F B xs vs ds)(rt:R K F B t v e):Rs K F B (xs++[t]) (vs++[v]) (ds++e):=h.append ⟨v,[],e,[],rfl,by rw[append_nil],rt,rfl,rfl⟩
theorem a6.gD{t:Tr}{v:V}{c:Cs}(W:a6 K k lo us Fb Hb F H j y cs)(o:Out K F (Bq Hb H) H F' H' t v c)(n:bW t=true):
  ∃a,a6 K k lo us Fb Hb a H' j y cs/\R K a (λ_=>Hb) (aB t) v []/\Le F a:=by
 ∎;let⟨i,f⟩:=W.fresh o;let⟨d,e,b,h⟩:=(W.gr o.g).lay o.c i (o.r.plain t) f;∎;exact⟨d,e,(R.low (B':=λ_=>Hb) t n rfl o.r).aB (Le.of b) t h,Le.trans o.g.le (Le.of b)⟩
theorem zk:dg Hb []:=λ_ m=>nomatch m
theorem yw{cs:Nat->Cs}:∀(j:Nat),∀p∈cs j,∀q∈([]:Cs),p.1≠q.1:=λ_ _ _ _ m=>nomatch m
def qE(u:Tr)(Q:aG):Prop:=match u with |.av .o xs=>Q xs |_=>False
theorem Vd{Q:aG}(h:qE u Q):∃xs,u=.av .o xs/\Q xs:=by
 unfold qE at h;split at h
 .exact⟨_,rfl,h⟩
 .exact h.elim
def qz(xs:ah)(y t:Tr)(Q:aG):Prop:=match y with |.int j=>(match hW xs.length j with |some n=>Q (xs.set n t) |none=>False) |_=>False
def wL(K:ak)(i:Nat)(r:ag)(c b:aY):cL:=λD j=>b (j.map aJ) λt=>bW t=true/\iD K j i r λu s=>qE u λd=>c (j.map aJ) λy=>qz d y (aB t) λa=>D.nx (s (.av .o a))
theorem Ve(h:bt K k te pe)(hj:bt K k tj pj):cO K k lo (lT te (DV (tR K i r) tj C4)) (wL K i r pj pe):=λus Fb x F H j G cs D D' W p L=>by
 refine h F (Bq x H) H j _ _ _ W.fF p λu v F1 f c1 q o=>?_
 ∎;let⟨C,l,r2,l2⟩:=W.gD o q.1;let⟨t,O,Q,U,p⟩:=vb q.2;let⟨B,Y,p⟩:=Vd p;let⟨w,c,r1,sub,hc,rd,cl⟩:=l.at O Q r U;∎;rw[Y] at r1;let⟨a,vs,N,rfl,z,A⟩:=r1;have ha:f a=some (.av vs):=hc.h (a,.av vs) (by rw[z];exact .head _);refine rd _ (hj C (Bq x f) f j _ _ _ l.fF p λy vy s E c3 e d=>?_);unfold qz at e;split at e
 .obtain⟨rfl,_⟩:=d.r;split at e
  .rename_i n en;∎;let⟨b,J,M⟩:=(A.mo d.g.le (λ_=>Le.refl _) B).set n (r2.mo d.g.le (λ_=>Le.refl _) _);let⟨m,I⟩:=cl s E (l.gr d.g) d.g.le a (.av vs) (.av (vs.set n v)) N b [] (.av .o (B.set n (aB u))) ((a,.av (vs.set n v))::(b++[])) z M .nil zk yw (List.Perm.refl _) ⟨a,_,b++[],rfl,rfl,by rw[append_nil];exact J⟩;∎;exact⟨a,vs,_,n,rfl,rfl,d.g.h _ _ ha,by rw[A.length];exact en,L.nx s _ j _ m I e⟩
  .exact e.elim
 .exact e.elim
def jN(m:bN)(y:aU)(t:Tr):bN:=
 if (m.any λa=>decide (a.1=y))=true then m.map (λa=>if a.1=y then (a.1,t) else a) else m++[(y,t)]
theorem Rk.any:∀{m:bN}{vs:cv}{b:Cs}{y:aU},Rk K F B m vs b->(vs.any λa=>decide (a.1=y))=m.any λa=>decide (a.1=y)
 |[],_,_,y,y0=>by let⟨h,_⟩:=y0;rw[h];rfl
 |(k,x)::m,_,_,y,y0=>by let⟨v,r,c,d,e,g,i,f⟩:=y0;rw[e,any_cons,any_cons,Rk.any f]
theorem Rk.rep:∀{m:bN}{vs:cv}{i:Cs}{y:aU}{t:Tr}{v:V},Rk K F B m vs i->R K F B t v []->∃ds',Rk K F B (m.map (λa=>if a.1=y then (a.1,t) else a)) (vs.map (λa=>if a.1=y then (a.1,v) else a)) ds'/\ds'.Sublist i
 |[],_,_,y,_,_,y0,_=>by let⟨h,n⟩:=y0;exact⟨[],by rw[h];exact⟨rfl,rfl⟩,by rw[n];exact List.Sublist.refl _⟩
 |(k,x)::m,_,_,y,t,w,y0,rt=>by
  ∎;let⟨v,r,c,d,j,l,o,p⟩:=y0;let⟨b,f,g⟩:=Rk.rep (y:=y) p rt;∎;by_cases e:k=y
  .refine⟨b,?_,by rw[l];exact g.trans (List.sublist_append_right c d)⟩;rw[j,map_cons,map_cons];show Rk K F B ((if k=y then (k,t) else (k,x))::_) ((if k=y then (k,w) else (k,v))::_) _;rw[if_pos e,if_pos e];exact⟨w,_,[],b,rfl,rfl,rt,f⟩
  .refine⟨c++b,?_,by rw[l];exact g.append_left c⟩;rw[j,map_cons,map_cons];show Rk K F B ((if k=y then (k,t) else (k,x))::_) ((if k=y then (k,w) else (k,v))::_) _;rw[if_neg e,if_neg e];exact⟨v,_,c,b,rfl,rfl,o,f⟩
theorem Rk.append:∀{m n:bN}{vs us:cv}{c d:Cs},Rk K F B m vs c->Rk K F B n us d->Rk K F B (m++n) (vs++us) (c++d)
 |[],_,_,_,_,_,y,h=>by let⟨a,b⟩:=y;rw[a,b];exact h
 |(k,x)::m,_,_,_,_,_,y,h=>by let⟨v,r,c,d,a,b,e,f⟩:=y;rw[a,b];exact⟨v,r ++ _,c,d ++ _,rfl,by rw[append_assoc],e,Rk.append f h⟩
theorem Rk.put(h:Rk K F B m vs ds)(rt:R K F B t v []):∃ds',Rk K F B (jN m y t) (gv vs y v) ds'/\ds'.Sublist ds:=by
 unfold jN gv;rw[h.any];split
 .exact h.rep rt
 .exact⟨ds++[],h.append ⟨v,[],[],[],rfl,rfl,rt,rfl,rfl⟩,by rw[append_nil];exact List.Sublist.refl _⟩
theorem S3(n:(m.map (·.1)).Nodup)(y:aU)(t:Tr):((jN m y t).map (·.1)).Nodup:=by
 unfold jN;split
 .have e:(m.map λc=>if c.1=y then (c.1,t) else c).map (·.1)=m.map (·.1):=by
   rw[map_map];refine map_congr_left λp _=>?_
   show (if p.1=y then (p.1,t) else p).1=p.1;split<;>rfl
  rw[e];exact n
 .rename_i h;rw[map_append,nodup_append];refine⟨n,nodup_cons.mpr ⟨λz=>(nomatch z),nodup_nil⟩,λa d b f e=>h ?_⟩;let⟨p,g,rfl⟩:=mem_map.mp d;rw[mem_singleton.mp f] at e;exact List.any_eq_true.mpr ⟨p,g,decide_eq_true e⟩
def nQ(u:Tr)(Q:bN->Prop):Prop:=match u with |.a9 .o xs=>Q xs |_=>False
theorem Vf{Q:bN->Prop}(h:nQ u Q):∃xs,u=.a9 .o xs/\Q xs:=by
 unfold nQ at h;split at h
 .exact⟨_,rfl,h⟩
 .exact h.elim
def kJ(y:Tr)(Q:aU->Prop):Prop:=match xn y with |some y=>Q y |none=>False
def xC(K:ak)(i:Nat)(r:ag)(b a:aY):cL:=λD j=>a (j.map aJ) λt=>bW t=true/\iD K j i r λu s=>nQ u λm=>b (j.map aJ) λy=>kJ y λy=>m.length<1000000/\D.nx (s (.a9 .o (jN m y (aB t))))
theorem Y0(h:bt K k te pe)(hj:bt K k tj pj):cO K k lo (Dw (tR K i r) tj te) (xC K i r pj pe):=λus Fb x F H j G cs D D' W p L=>by
 refine h F (Bq x H) H j _ _ _ W.fF p λu v F1 f c1 q o=>?_
 ∎;let⟨B,l,r2,l2⟩:=W.gD o q.1;let⟨t,N,O,Q,p⟩:=vb q.2;let⟨m,U,p⟩:=Vf p;let⟨w,c,r1,sub,hc,rd,cl⟩:=l.at N O r Q;∎;rw[U] at r1;let⟨a,vs,M,rfl,z,A,Y⟩:=r1;have ha:f a=some (.dK vs):=hc.h (a,.dK vs) (by rw[z];exact .head _);refine rd _ (hj B (Bq x f) f j _ _ _ l.fF p λy vy s C c3 e d=>?_);unfold kJ at e;split at e
 .rename_i yk ey;obtain rfl:=u9 d.r ey;∎;let⟨b,I,J⟩:=(A.mo d.g.le (λ_=>Le.refl _) m).put (y:=yk) (r2.mo d.g.le (λ_=>Le.refl _) _);let⟨n,E⟩:=cl s C (l.gr d.g) d.g.le a (.dK vs) (.dK (gv vs yk v)) M b [] (.a9 .o (jN m yk (aB u))) ((a,.dK (gv vs yk v))::(b++[])) z J .nil zk yw (List.Perm.refl _) ⟨a,_,b++[],rfl,rfl,by rw[append_nil];exact I,S3 Y _ _⟩;∎;exact⟨a,_,rfl,iE.k (d.g.h _ _ ha) (lt_of_lt_of_le (by rw[A.length];exact e.1) ∎),L.nx s _ j _ n E e.2⟩
 .exact e.elim
def wM:aY:=λ_ Q=>Q (.a9 .o [])
theorem Vg:bt K k CN wM:=λF B H j y Q b c p q a ha=>q _ _ F _ _ p ⟨Gr.gG c.s ha,⟨a,[],[],rfl,rfl,⟨rfl,rfl⟩,nodup_nil⟩,qX c.s .nil ha,λp m=>by
 cases m with
 |head=>exact ha
 |tail _ m=>nomatch m⟩
def fX(f:Str)(u:Tr):bK->bK
 |[]=>[(f,u)]
 |(g,x)::r=>if g=f then (g,u)::r else (g,x)::fX f u r
theorem Rf.put:∀{fs:bK}{vs:List (Str×V)}{h:Cs}{f:Str}{t:Tr}{v:V}{e:Cs},Rf K F B fs vs h->R K F B t v e->∃ds' d,Rf K F B (fX f t fs) (eJ f v vs) d/\ds'.Sublist h/\d.Perm (ds'++e)
 |[],_,_,f,t,v,e,y,rt=>by let⟨a,b⟩:=y;exact⟨[],e,by rw[a];exact⟨v,[],e,[],rfl,by rw[append_nil],rt,rfl,rfl⟩,by rw[b];exact List.Sublist.refl _,List.Perm.refl _⟩
 |(g,x)::fs,_,_,f,t,w,e,y,rt=>by
  let⟨v,r,c,d,a,b,j,i⟩:=y;by_cases z:g=f
  .refine⟨d,e++d,?_,by rw[b];exact List.sublist_append_right c d,List.perm_append_comm⟩;rw[a];show Rf K F B (if g=f then (g,t)::fs else _) (if g=f then (g,w)::r else _) _;rw[if_pos z,if_pos z];exact⟨w,r,e,d,rfl,rfl,rt,i⟩
  .obtain⟨d',d2,a1,a2,a3⟩:=Rf.put (f:=f) i rt;refine⟨c++d',c++d2,?_,by rw[b];exact a2.append_left c,by rw[append_assoc];exact a3.append_left c⟩;rw[a];show Rf K F B (if g=f then _ else (g,x)::fX f t fs) (if g=f then _ else (g,v)::eJ f w r) _;rw[if_neg z,if_neg z];exact⟨v,_,c,d2,rfl,rfl,j,a1⟩
theorem Rf.length:∀{fs:bK}{vs:List (Str×V)}{a:Cs},Rf K F B fs vs a->vs.length=fs.length
 |[],_,_,y=>by let⟨h,_⟩:=y;rw[h];rfl
 |(k,x)::xs,_,_,y=>by let⟨v,r,c,d,b,f,g,e⟩:=y;rw[b,length_cons,length_cons,Rf.length e]
def kz(K:ak)(f:Str)(u:Tr)(Q:ae->bK->Prop):Prop:=match u with |.ins .o c fs=>(du K c/\aD K c f)/\fs.length<900/\Q c fs |_=>False
theorem Ge{Q:ae->bK->Prop}(h:kz K f u Q):∃c fs,u=.ins .o c fs/\(du K c/\aD K c f)/\fs.length<900/\Q c fs:=by
 unfold kz at h;split at h
 .exact⟨_,_,rfl,h⟩
 .exact h.elim
def wN(K:ak)(i:Nat)(r:ag)(f:Str)(a:aY):cL:=λD j=>a (j.map aJ) λt=>bW t=true/\iD K j i r λu s=>kz K f u λc fs=>D.nx (s (.ins .o c (fX f t fs)))
theorem Vh(h:bt K k te pe):cO K k lo (D0 K (tR K i r) te f) (wN K i r f pe):=λus Fb s F H j y cs D D' W p L=>by
 refine h F (Bq s H) H j _ _ _ W.fF p λu v m n J q o=>?_
 have x:=W.gr o.g;∎;let⟨n1,M⟩:=W.fresh o;let⟨t,O,Q,U,p⟩:=vb q.2;let⟨C,fs,Y,ok,hl,p⟩:=Ge p;let⟨w,c,r1,sub,hc,rd,cl⟩:=x.at O Q r U;∎;rw[Y] at r1;let⟨a,b,vs,N,rfl,z,A⟩:=r1;have ha:n a=some (.ins C b vs):=hc.h (a,.ins C b vs) (by rw[z];exact .head _);∎;let⟨l,d,E,G,I⟩:=A.put (f:=f) (R.low (B':=λ_=>s) u q.1 rfl o.r);let⟨e,B⟩:=cl m n x (Le.refl _) a (.ins C b vs) (.ins C b (eJ f v vs)) N l J (.ins .o C (fX f u fs)) ((a,.ins C b (eJ f v vs))::d) z G o.c n1 M (List.Perm.cons _ I) ⟨a,b,_,d,rfl,rfl,E⟩;∎;exact rd _ ⟨a,C,b,vs,rfl,ha,ok.1,ok.2,lt_of_lt_of_le (by rw[A.length];exact hl) ∎,L.nx m _ j _ e B p⟩
end
section
theorem Y1{Hb:Hp}(h:Hb a=none\/Hb a=some (.dK vs)):Le (fz Hb a (.aB ob (.dK vs))) Hb:=λb u n r=>by
 by_cases e:b=a
 .subst e;rcases h with h |h
  .rcases r with r |⟨o,r⟩<;>(rw[gb,if_pos h] at r;cases r)
  .have z:fz Hb b (.aB ob (.dK vs)) b=some (.aB ob (.dK vs)):=by rw[gb,if_neg (by rw[h];intro z;cases z)]
   rcases r with r |⟨o,r⟩
   .rw[z] at r;cases r;exact absurd rfl (n _ _)
   .rw[z] at r;cases r;exact .inl h
 .rcases r with r |⟨o,r⟩
  .rw[eB e] at r;exact .inl r
  .rw[eB e] at r;exact .inr ⟨o,r⟩
theorem a6.walk(W:a6 K k lo us F Hb F H j y cs)(b:F a=some (.dK vs)):a6 K k.walk lo us (fz F a (.aB ob (.dK vs))) (fz Hb a (.aB ob (.dK vs))) (fz F a (.aB ob (.dK vs))) (aW H a (.aB ob (.dK vs))) j y cs:=by
 have r:H a=some (.dK vs):=W.g.s _ _ b;have o:Hb a=none\/Hb a=some (.dK vs):=by
  cases q:Hb a with
  |none=>exact .inl rfl
  |some u=>have:=W.g.h _ _ q;rw[r] at this;exact .inr this.symm
 have ne:∀i,∀p∈cs i,p.1≠a:=λi p m e=>by have:=(W.c i).f p m;rw[e,b] at this;cases this
 refine⟨⟨Ld _ W.g.toGr0,Fz.refl _⟩,λh=>(by cases h),W.l,λi t h=>(W.e i t h).imp id λ⟨v,h1,h2⟩=>⟨v,h1,h2.mo (vt (.inr b)) (λ_=>vt o) t⟩,λi=>⟨λp m=>?_,λp m=>?_,(W.c i).nd⟩,λi p m=>?_,W.d,W.p,λ_ _ _ _ h=>h.elim⟩
 .rw[bR (ne i p m)];exact (W.c i).h p m
 .rw[eB (ne i p m)];exact (W.c i).f p m
 .rw[eB (ne i p m)];exact W.n i p m
theorem a6.fB(hz:k.z=true)(w:a6 K k lo us F1 Hb F1 H1 j y cs)(C:F1 a=some (.dK vs))(W:a6 K k.walk lo us (fz F1 a (.aB ob (.dK vs))) (fz Hb a (.aB ob (.dK vs))) F H j' y' A):
  H a=some (.aB ob (.dK vs))/\∃r,a6 K k lo us F1 Hb r (aW H a (.dK vs)) j' y' A/\Le F r/\(∀b,b≠a->r b=F b)/\(∀b,F b=none->b≠a):=by
 have L:H1 a=some (.dK vs):=w.g.s _ _ C;have Y:Hb a=none\/Hb a=some (.dK vs):=by
  cases q:Hb a with
  |none=>exact .inl rfl
  |some u=>have:=w.g.h _ _ q;rw[L] at this;exact .inr this.symm
 have J:fz F1 a (.aB ob (.dK vs)) a=some (.aB ob (.dK vs)):=by rw[gb,if_neg (by rw[C];intro z;cases z)]
 have B:F a=some (.aB ob (.dK vs)):=W.g.f _ _ J;have D:H a=some (.aB ob (.dK vs)):=W.g.s _ _ B;have Q:Fz (λb=>b=a\/S0 b) F:=λb o u e=>by
  let⟨o',u',G⟩:=W.g.z b o u e;by_cases I:b=a
  .exact .inl I
  .rw[eB I] at G;exact .inr (w.z hz b o' u' G)
 let⟨O,U,N,M,e2,n2,E,c2⟩:=KN (Fb:=F1) (Hb:=Hb) (F:=F1) (H:=H1) (S:=S0) w.g.toGr0 L (.inr C) W.g.toGr0 (B.trans J.symm) Q;have ne:∀i,∀p∈A i,p.1≠a:=λi p m e=>by have:=(W.c i).f p m;rw[e,B] at this;cases this
 refine⟨D,O,⟨⟨U,λb o u e=>(N b o u e).elim⟩,λ_=>N,W.l,λi t h=>(W.e i t h).imp id λ⟨v,h1,h2⟩=>⟨v,h1,h2.mo M (λ_=>Y1 Y) t⟩,λi=>⟨λp m=>?_,λp m=>?_,(W.c i).nd⟩,λi p m=>?_,W.d,W.p,w.x⟩,M,E,λb e z=>?_⟩
 .rw[bR (ne i p m)];exact (W.c i).h p m
 .rw[E _ (ne i p m)];exact (W.c i).f p m
 .have:=W.n i p m;rw[eB (ne i p m)] at this;exact this
 .rw[z,B] at e;cases e
def nR:aU->Tr |.inl n=>.int n |.inr s=>.str s
inductive Wm where |it |ks |vs
def wit:Wm->aU×Tr->Tr
 |.it,p=>.aA [nR p.1,p.2]
 |.ks,p=>nR p.1
 |.vs,p=>p.2
def tI(t:Tr)(Q:bN->Prop):Prop:=match t with |.a9 .f m=>Q m |_=>False
def wO(w:Wm)(c:aY)(pg:eH)(b:cL):cL:=λD j=>c (j.map aJ) λt=>bW t=true/\tI (aB t) λm=>∃I:Nat->aG,I 0 j/\(∀i p j,m[i]?=some p->I i j->pg (wit w p) j λa=>b { D with nx:=I (i+1),ct:=I (i+1),bk:=D.nx } a)/\∀j,I m.length j->D.nx j
theorem Rk.dU:∀{m:bN}{vs:cv}{i:Nat}{y:aU}{v:V},Rk K F B m vs []->vs[i]?=some (y,v)->∃t,m[i]?=some (y,t)/\R K F B t v []
 |[],_,i,y,v,y0,e=>by let⟨h,_⟩:=y0;rw[h] at e;cases e
 |(y',x)::m,_,0,y,v,y0,e=>by
  let⟨u,r,c,d,a,b,f,g⟩:=y0;rw[a] at e;cases e;have z:=List.append_eq_nil_iff.mp b.symm;rw[z.1] at f;exact⟨x,rfl,f⟩
 |(y',x)::m,_,i + 1,y,v,y0,e=>by
  let⟨u,r,c,d,a,b,f,g⟩:=y0;rw[a] at e;have z:=List.append_eq_nil_iff.mp b.symm;rw[z.2] at g;exact Rk.dU (i:=i) g e
theorem I0:R K F B (nR y) (kV y) []:=by
 cases y with
 |inl n=>exact⟨rfl,rfl⟩
 |inr n=>exact⟨rfl,rfl⟩
theorem Y2(hz:k.z=true)(b:∀o u,X.H₀ a≠some (.aB o u))(g:a6 K k lo us F1 Hb F1 H1 j y cs)(i:F1 a=some (.dK vs))(L:Lk K k lo us F1 Hb D D'):Lk K k.walk lo us (fz F1 a (.aB ob (.dK vs))) (fz Hb a (.aB ob (.dK vs))) (wY X D) D':=by
 refine⟨λF H j y cs W q=>?_,λF H j y cs v t c W r e n d l q=>?_,λF H j y cs W q=>?_,λF H j y cs W q=>?_⟩
 .obtain⟨h1,F2,W2,_⟩:=g.fB hz i W;exact⟨a,ob,vs,h1,b,L.nx F2 _ j y cs W2 q⟩
 .obtain⟨h1,F2,W2,l2,b2,f2⟩:=g.fB hz i W;refine⟨a,ob,vs,h1,b,L.rt F2 _ j y cs v t c W2 ((r.mo l2 (λ_=>Le.refl _) t).base t l) ⟨λp m=>?_,λp m=>?_,e.nd⟩ (λp m=>?_) d l q⟩
  .rw[bR (f2 _ (e.f p m))];exact e.h p m
  .rw[b2 _ (f2 _ (e.f p m))];exact e.f p m
  .have:=n p m;rw[eB (f2 _ (e.f p m))] at this;exact this
 .obtain⟨h1,F2,W2,_⟩:=g.fB hz i W;exact⟨a,ob,vs,h1,b,L.bk F2 _ j y cs W2 q⟩
 .obtain⟨h1,F2,W2,_⟩:=g.fB hz i W;exact⟨a,ob,vs,h1,b,L.ct F2 _ j y cs W2 q⟩
theorem Ff(c:a6 K k lo us F1 Hb F1 H1 j y cs)(b:F1 a=some (.dK vs))(r:Rk K F1 (λ_=>Hb) m vs [])(W:a6 K k.walk lo us (fz F1 a (.aB ob (.dK vs))) (fz Hb a (.aB ob (.dK vs))) F H j' y' cs'):
  H a=some (.aB ob (.dK vs))/\Rk K F (λ_=>fz Hb a (.aB ob (.dK vs))) m vs []:=by
 have e:Hb a=none\/Hb a=some (.dK vs):=by
  cases q:Hb a with
  |none=>exact .inl rfl
  |some u=>have:=c.g.h _ _ q;rw[c.g.s _ _ b] at this;exact .inr this.symm
 have d:fz F1 a (.aB ob (.dK vs)) a=some (.aB ob (.dK vs)):=by rw[gb,if_neg (by rw[b];intro z;cases z)]
 exact⟨W.g.s _ _ (W.g.f _ _ d),r.mo (Le.trans (vt (.inr b)) (Le.of W.g.f)) (λ_=>vt e) m⟩
theorem Vi(hz:k.z=true)(h:bt K k te pe)(hg:lU K k.walk lo tg pg)(Y:cO K k.walk lo tb pb):cO K k lo (C5 X te tg tb) (wO .it pe pg pb):=λus Fb A F H j G cs D D' W p L=>by
 refine h F (Bq A H) H j _ _ _ W.fF p λt v F1 H1 c p1 o=>?_
 let⟨C,d,r2⟩:=W.held o p1.1;have p2:=p1.2;unfold tI at p2;split at p2
 .rename_i m em;rw[em] at r2;let⟨_,a,vs,rfl,U,r,h4⟩:=r2;have b:=GY (d.z hz) U;let⟨I,i0,step,n⟩:=p2;have f:=d.rebase;have J:=L.rebase d;refine⟨a,vs,rfl,d.g.s _ _ b,λob w=>?_⟩;have L2:=Y2 hz (X:=X) (ob:=ob) w f b J;refine Th (λi j H=>∃F G cs,a6 K k.walk lo us (fz C a (.aB ob (.dK vs))) (fz A a (.aB ob (.dK vs))) F H j G cs/\I i G) ⟨_,G,cs,f.walk b,i0⟩ ?_ ?_ ?_
  .rintro i j H hi ⟨F,G,cs,W,_⟩;exact (Ff f b r W).1
  .rintro i y u j H p e ⟨F,G,cs,W,ii⟩ hp;∎;let⟨_,rk⟩:=Ff f b r W;let⟨B,N,O⟩:=rk.dU e;let⟨x,Q,r4,_⟩:=qW (xs:=[nR y,B]) (cs:=[]) W.g.s ⟨kV y,[u],[],[],rfl,rfl,I0,u,[],[],[],rfl,rfl,O,rfl,rfl⟩ .nil hp;∎;refine hg us _ _ x _ j G cs _ _ _ _ (W.gr Q) r4 (step i (y,B) G N ii) λj' E l M p'=>?_
   exact Y us _ _ x _ j' E l _ _ M p' ⟨λF H j G cs W q=>⟨F,G,cs,W,q⟩,L2.rt,L2.nx,λF H j G cs W q=>⟨F,G,cs,W,q⟩⟩
  .rintro j H ⟨F,G,cs,W,q⟩;exact L2.nx F H j G cs W (n G (by rw[<- r.length];exact q))
 .exact p2.elim
end
section
def De(K:ak):ax->Hp->VK->Prop:=λb H Q=>(λb H Q=>∃x n,b=[x]/\DZ K x H n/\Q (.int n) H) b H Q\/(λb H Q=>∃a c,b=[V.ref a]/\H a=some (.dK c)/\Q (.int c.length) H) b H Q
theorem iR:bA X (.builtin "len") (De X.K):=MO.or Tg
def CU(K:ak):ax->Hp->VK->Prop:=λb H Q=>(λb H Q=>∃p d,b=[.ref p]/\(bY K H p d\/ck K H p d)/\∀l,H l=none->Q (.ref l) (aW H l (.av d))) b H Q\/(λb H Q=>∃a c,b=[.ref a]/\Rd H a (.dK c)/\∀p,H p=none->Q (.ref p) (aW H p (.av (c.map λe=>kV e.1)))) b H Q
theorem Z1(a:X.calm=true):bA X (.type "list") (CU X.K):=MN.or (RS a)
def DE(K:ak):R2:=λx y H Q=>sd K false x y H Q\/qG false x y H Q
theorem vG(hu:X.A.units+1<cLine:=by assumption):b6 X (compareOp .In) (DE X.K):=MT.or (z'u hu)
def Cq(K:ak):R2:=λx y H Q=>sd K true x y H Q\/qG true x y H Q
theorem zl(hu:X.A.units+1<cLine:=by assumption):b6 X (compareOp .NotIn) (Cq X.K):=MM.or (SW hu)
def DF(K:ak):V->bE->bE->Hp->VK->Prop:=λx l h H Q=>D8 K x l h H Q\/Ea x l h H Q
theorem KQ:jy X (DF X.K):=MW.or z'h
end
section
def qJ(k:Bool)(a:ah)(Q:aq):Prop:=match a with
 |[.str x]=>x.length <= 1000000 /\ Q (.int x.length)
 |[.av _ xs]=>Q (.int xs.length)
 |[.aA xs]=>Q (.int xs.length)
 |[.a9 .f m]=>k=true /\ Q (.int m.length)
 |[.a9 .o m]=>Q (.int m.length)
 |_=>False
theorem iO:h9 K k (De K) (qJ k.z):=λF B H o n l Q j s b z r f p q=>by
 unfold qJ at p;split at p
 .obtain⟨v,rfl,rfl,_⟩:=r.one;exact .inl ⟨_,_,rfl,⟨j4 p.1,rfl⟩,q _ _ F H [] p.2 (Gr.aI s) ⟨rfl,rfl⟩ .nil λ_ m=>nomatch m⟩
 .obtain⟨v,rfl,r1⟩:=r.one;let⟨a,vs,g,rfl,d,c,_⟩:=r1.cF s b f;exact .inl ⟨_,_,rfl,.inl ⟨vs,d,rfl⟩,q (.int vs.length) _ F H [] (by rw[<- c.length] at p;exact p) (Gr.aI s) ⟨rfl,rfl⟩ .nil λ_ m=>nomatch m⟩
 .obtain⟨v,rfl,r1⟩:=r.one;let⟨a,vs,rfl,d,c⟩:=r1.cK s;exact .inl ⟨_,_,rfl,.inr ⟨vs,d,rfl⟩,q (.int vs.length) _ F H [] (by rw[<- c.length] at p;exact p) (Gr.aI s) ⟨rfl,rfl⟩ .nil λ_ m=>nomatch m⟩
 .obtain⟨v,rfl,r1⟩:=r.one;let⟨_,a,vs,rfl,c,e,i⟩:=r1;exact .inr ⟨a,vs,rfl,s _ _ (GY (z p.1) c),q (.int vs.length) _ F H [] (by rw[<- e.length] at p;exact p.2) (Gr.aI s) ⟨rfl,rfl⟩ .nil λ_ m=>nomatch m⟩
 .obtain⟨v,rfl,r1⟩:=r.one;let⟨a,vs,g,rfl,c,e,i⟩:=r1;exact .inr ⟨a,vs,rfl,f.h (a,.dK vs) (by rw[c];exact .head _),q (.int vs.length) _ F H [] (by rw[<- e.length] at p;exact p) (Gr.aI s) ⟨rfl,rfl⟩ .nil λ_ m=>nomatch m⟩
 .exact p.elim
theorem Rk.ll:∀{m:bN}{vs:cv}{a:Cs},Rk K F B m vs a->Rs K F B (m.map λp=>nR p.1) (vs.map λf=>kV f.1) []
 |[],_,_,y=>by let⟨h,_⟩:=y;rw[h];exact⟨rfl,rfl⟩
 |(y,x)::m,_,_,y0=>by let⟨v,r,c,d,b,g,i,e⟩:=y0;rw[b];exact⟨kV y,_,[],[],rfl,rfl,I0,Rk.ll e⟩
theorem yZ{xs:ah}{vs:ax}{cs e:Cs}{p:ae}{Q:VK}{d:aq}(s:az F H)(r:Rs K F B xs vs cs)(c:ar F H cs)(sub:∀p∈cs,p∈e)(f:H p=none)(h:d (.av .o xs))(q:∀t v a b cs,d t->Gr F H a b->R K a B t v cs->ar a b cs->(∀p∈cs,H p.1=none\/p∈e)->Q v b):Q (.ref p) (aW H p (.av vs)):=by
 let⟨g,i,j⟩:=oi s r c f;refine q _ _ F _ _ h g i j λp m=>?_
 cases m with
 |head=>exact .inl f
 |tail _ m=>exact .inr (sub p m)
def wQ(a:ah)(Q:aq):Prop:=match a with
 |[.av _ xs]=>Q (.av .o xs)
 |[.aA xs]=>Q (.av .o xs)
 |[.a9 _ m]=>Q (.av .o (m.map λp=>nR p.1))
 |_=>False
theorem Vj:h9 K k (CU K) wQ:=λF B H u o n Q j s b z r f p q=>by
 unfold wQ at p;split at p
 .obtain⟨v,rfl,r1⟩:=r.one;let⟨a,vs,i,rfl,c,d,g,h⟩:=r1.cF s b f;exact .inl ⟨_,_,rfl,.inl c,λl e=>yZ s d g h e p q⟩
 .obtain⟨v,rfl,r1⟩:=r.one;let⟨a,vs,rfl,c,d⟩:=r1.cK s;exact .inl ⟨_,_,rfl,.inr c,λl e=>yZ s d f (λ_ m=>m) e p q⟩
 .obtain⟨v,rfl,r1⟩:=r.one;let⟨a,vs,i,rfl,c,d,g,h⟩:=r1.fN s b f;exact .inr ⟨_,_,rfl,c,λl e=>yZ s d.ll .nil (λ_ m=>nomatch m) e p q⟩
 .exact p.elim
def Df(a:ah)(Q:aq):Prop:=match a with
 |[.a9 _ m]=>Q (.a9 .o m)
 |_=>False
theorem R.yb(r:R K F B (.a9 f xs) v cs):(xs.map (·.1)).Nodup:=by
 cases f with
 |f=>let⟨_,_,_,_,_,_,h⟩:=r;exact h
 |l q=>let⟨_,_,_,_,_,_,h⟩:=r;exact h
 |o=>let⟨_,_,_,_,_,_,h⟩:=r;exact h
theorem Gf:h9 K k (λxs H Q=>∃a kvs,xs=[.ref a]/\Rd H a (.dK kvs)/\∀p,H p=none->Q (.ref p) (aW H p (.dK kvs))) Df:=λF B H xs o n Q j s b z r i p q=>by
 unfold Df at p;split at p
 .obtain⟨v,rfl,r1⟩:=r.one;let⟨a,vs,d,rfl,e,f,g,h⟩:=r1.fN s b i;refine⟨_,_,rfl,e,λl c=>q _ _ F _ ((l,.dK vs)::d) p (Gr.gG s c) ⟨l,vs,d,rfl,rfl,f,r1.yb⟩ (qX s g c) λp m=>?_⟩;cases m with
  |head=>exact .inl c
  |tail _ m=>exact .inr (h p m)
 .exact p.elim
def xD(a:ah)(Q:aq):Prop:=match a with
 |[.int i]=>i.natAbs.log2 < 1920 /\ Q (.str (toString i))
 |_=>False
theorem oj:h9 K k (λxs H Q=>∃i,xs=[.int i]/\i.natAbs.log2<1920/\Q (.str (toString i)) H) xD:=λF B H xs e c Q a s b z r d p q=>by
 unfold xD at p;split at p
 .obtain⟨v,rfl,rfl,_⟩:=r.one;exact⟨_,rfl,p.1,q _ _ F H [] p.2 (Gr.aI s) ⟨rfl,rfl⟩ .nil λ_ m=>nomatch m⟩
 .exact p.elim
def V0:Tr->Option String
 |.int _=>some "int" |.bl _=>some "bool" |.str _=>some "str" |.aZ=>some "NoneType" |.aA _=>some "tuple" |.av _ _=>some "list" |.a9 _ _=>some "dict" |_=>none
def NQ:Tr->bG
 |.ty n=>some (.type n) |.cl a=>some (.ref a) |_=>none
def vV(K:ak)(a:ah)(Q:aq):Prop:=match a with
 |[x,c]=>(match V0 x,NQ c with |some t,some u=>∃b,W.kitOne K (.type t) u=some b /\ Q (.bl b) |_,_=>False)
 |_=>False
theorem Z2:h9 K k (λxs H Q=>∃x c t b u,xs=[x,c]/\i3 K H x t/\tM c=some u/\W.kitOne K t u=some b/\Q (.bl b) H) (vV K):=λF B H xs D A Q o s b z r g p q=>by
 unfold vV at p;split at p
 .rename_i x c;let⟨v,w,y,C,rfl,r1,r2,e⟩:=r.two;rw[e] at g;split at p
  .rename_i t u e1 e2;let⟨h,j,p⟩:=p;have hw:tM w=some u:=by
    cases c with
    |ty n=>cases e2;rw[r2.1];rfl
    |cl a=>cases e2;rw[r2.1];rfl
    |_=>cases e2
   have l:i3 K H v (.type t):=by
    cases x with
    |int n=>cases e1;rw[r1.1];exact z'e
    |bl n=>cases e1;rw[r1.1];exact Lg
    |str n=>cases e1;rw[r1.1];exact z'f
    |aZ=>cases e1;rw[r1.1];exact z'g
    |aA xs=>cases e1;let⟨a,vs,rfl,d,_⟩:=r1.cK s;exact z'b d
    |av f xs=>cases e1;let⟨a,vs,i,rfl,d,_⟩:=r1.cF s b g.left;exact z'c d
    |a9 f xs=>cases e1;let⟨a,vs,i,rfl,d,_⟩:=r1.fN s b g.left;exact z'd d
    |_=>cases e1
   exact⟨v,w,_,h,u,rfl,l,hw,j,q _ _ F H [] p (Gr.aI s) ⟨rfl,rfl⟩ .nil λ_ m=>nomatch m⟩
  .exact p.elim
 .exact p.elim
def lL:Tr->Bool
 |.int _=>true |.bl _=>true |.str _=>true |.aZ=>true |_=>false
def nY:Tr->V
 |.int n=>.int n |.bl b=>.bl b |.str x=>.str x |_=>.aZ
theorem zE(r:R K F B t v cs)(h:lL t=true):v=nY t/\gs v=true:=by
 cases t with
 |int n=>rw[r.1];exact⟨rfl,rfl⟩
 |bl n=>rw[r.1];exact⟨rfl,rfl⟩
 |str n=>rw[r.1];exact⟨rfl,rfl⟩
 |aZ=>rw[r.1];exact⟨rfl,rfl⟩
 |_=>cases h
theorem zm:∀{a:ah}{vs:ax}{cs:Cs},Rs K F B a vs cs->a.all lL=true->vs=a.map nY/\vs.all gs=true
 |[],_,_,⟨h,_⟩,_=>by rw[h];exact⟨rfl,rfl⟩
 |x::xs,_,_,⟨v,r,c,d,h1,h2,h3,h4⟩,h=>by
  rw[all_cons,and_eq_true] at h;let⟨b,f⟩:=zE h3 h.1;let⟨e,g⟩:=zm h4 h.2;rw[h1,e,b];exact⟨rfl,by rw[all_cons,<- e,g,<- b,f];rfl⟩
def o5(x:Tr)(xs:ah):Bool:=vj (nY x) (xs.map nY)
def sh(neg:Bool)(x y:Tr)(Q:aq):Prop:=match y with
 |.av _ a=>lL x=true /\ a.all lL=true /\ Q (.bl (if neg=true then !o5 x a else o5 x a))
 |.aA a=>lL x=true /\ a.all lL=true /\ Q (.bl (if neg=true then !o5 x a else o5 x a))
 |.a9 _ m=>kJ x λy=>Q (.bl (if neg=true then !(look m y).isSome else (look m y).isSome))
 |_=>False
theorem Hf:cZ K k (λx y H Q=>sd K neg x y H Q\/qG neg x y H Q) (sh neg):=λF B H x y tx ty A C Q w s b z j l D n hd p q=>by
 unfold sh at p;split at p
 .obtain⟨h1,h2,p⟩:=p;∎;let⟨a,vs,o,rfl,d,g,_⟩:=l.cF s b n;let⟨e,f⟩:=zE j h1;let⟨h,i⟩:=zm g h2;∎;refine .inl ⟨a,vs,rfl,.inl d,f,i,q _ _ F H [] p (Gr.aI s) ⟨?_,rfl⟩ .nil λ_ m=>nomatch m⟩;rw[e,h];cases neg<;>rfl
 .obtain⟨h1,h2,p⟩:=p;∎;let⟨a,vs,rfl,d,g⟩:=l.cK s;let⟨e,f⟩:=zE j h1;let⟨h,i⟩:=zm g h2;∎;refine .inl ⟨a,vs,rfl,.inr d,f,i,q _ _ F H [] p (Gr.aI s) ⟨?_,rfl⟩ .nil λ_ m=>nomatch m⟩;rw[e,h];cases neg<;>rfl
 .obtain⟨a,vs,o,rfl,d,g,g3,_⟩:=l.fN s b n;unfold kJ at p;split at p
  .rename_i yk ey;obtain rfl:=u9 j ey;rcases g.look yk g3 with⟨r,v⟩ |⟨x,u,c,e,f,_⟩
   .refine .inr ⟨a,none,rfl,.inl ⟨vs,yk,d,rfl,v.symm⟩,q _ _ F H [] p (Gr.aI s) ⟨?_,rfl⟩ .nil λ_ m=>nomatch m⟩;rw[r];cases neg<;>rfl
   .refine .inr ⟨a,some u,rfl,.inl ⟨vs,yk,d,rfl,f.symm⟩,q _ _ F H [] p (Gr.aI s) ⟨?_,rfl⟩ .nil λ_ m=>nomatch m⟩;rw[e];cases neg<;>rfl
  .exact p.elim
 .exact p.elim
theorem vc:cZ K k (DE K) (sh false):=Hf
theorem yx:cZ K k (Cq K) (sh true):=Hf
def gP(K:ak)(f:Str)(x:Tr)(Q:aq):Prop:=match x with
 |.ins _ c fs=>(du K c /\ aD K c f) /\ (match fs.lookup f with |some t=>Q t |none=>False)
 |_=>False
theorem Rf.look:∀{fs:bK}{vs:List (Str×V)}{a:Cs}{f:Str}{x:Tr},Rf K F B fs vs a->ar F H a->fs.lookup f=some x->∃u c,vs.lookup f=some u/\R K F B x u c/\ar F H c/\∀p∈c,p∈a:=λ{fs vs a f x} h d e=>by
 let⟨w,c,pre,g,i,j,b,_⟩:=h.at e;rw[b] at d;exact⟨w,c,i,j,d.left.right,λp m=>by rw[b];exact mem_append.mpr (.inl (mem_append.mpr (.inr m)))⟩
theorem Y3(h:bt K k te pe):bt K k (wZ K te f) (p1 (gP K f) pe):=λF B H j y Q J c p q=>by
 refine h F B H j y _ _ c p λx v i l L p1 e=>?_
 unfold gP at p1;split at p1
 .obtain⟨ok,p1⟩:=p1;split at p1
  .rename_i t et;∎;let⟨a,C,vs,M,rfl,D,E,G,I⟩:=e.r.kc e.g.s (λk=>(c.b k).trans e.g.h) e.c;let⟨u,d,o,w,z,A⟩:=E.look G et;∎;exact⟨a,_,C,vs,u,rfl,D,ok.1,ok.2,o,q _ _ i l d p1 ⟨e.g,w,z,λp m=>e.n p (I p (A p m))⟩⟩
  .exact p1.elim
 .exact p1.elim
def tK(x y z:Tr)(Q:aq):Prop:=match x with
 |.a9 _ m=>kJ y λy=>Q ((look m y).getD z)
 |_=>False
def p3(d:Tr->Tr->Tr->(aq)->Prop)(a b c:aY):aY:=λj Q=>a j λx=>(match x with |.a9 _ _=>True |_=>False)/\b j λy=>c j λz=>d x y z Q
theorem Vk(ha:bt K k ta pa)(hb:bt K k tb pb)(hc:bt K k tc pc):bt K k (CO ta tb tc) (p3 tK pa pb pc):=λF B H j i Q Q' c p q=>by
 refine ha F B H j i _ _ c p λx v J M c1 p1 l=>?_
 let⟨hx,p1⟩:=p1;cases x with
 |a9 f m=>
  have bB:∀{G},az H G->∀k,az (B k) G:=λs k=>(c.b k).trans s
  let⟨a,vs,ds,rfl,I,h2,h3,h4⟩:=l.r.fN l.g.s (bB l.g.h) l.c;refine⟨a,rfl,.inl ⟨vs,I⟩,hb J B M j i _ _ (c.gr l.g) p1 λy u L N c2 p2 A=>?_⟩;refine hc L B N j i _ _ ((c.gr l.g).gr A.g) p2 λz w E D c3 p3 C=>?_
  have e:=A.g.trans' C.g;unfold tK kJ at p3;dsimp only at p3;split at p3
  .rename_i yk ey;obtain rfl:=u9 A.r ey;have o:Rd D a (.dK vs):=(e.h).rd I;rcases (h2.mo e.le (λk=>Le.refl _) m).look yk (h3.gr e) with⟨z1,z2⟩ |⟨x,u,d,O,U,Y,a4,a5⟩
   .rw[z1] at p3;exact⟨none,.inl ⟨vs,yk,o,rfl,z2.symm⟩,q _ _ E D c3 p3 ⟨l.g.trans' e,C.r,C.c,C.n.back (l.g.h.trans A.g.h)⟩⟩
   .rw[O] at p3;exact⟨some u,.inl ⟨vs,yk,o,rfl,U.symm⟩,q _ _ E D d p3 ⟨l.g.trans' e,Y,a4,λp m=>l.n p (h4 p (a5 p m))⟩⟩
  .exact p3.elim
 |_=>exact hx.elim
abbrev jx:=ah->(bE->Prop)->Prop
def lP(K:ak)(k:Md)(f:TO)(e:jx):Prop:=∀(F:Hp)(B:Bool->Hp)(H:Hp)(j:St)(y:ah)(Q:bE->Hp->Prop)(c:bE->Prop),gj K k F B H j y->e y c->(∀b d a,c b->Gr F H d a->Q b a)->f j H Q
def Ax:jx:=λ_ Q=>Q none
def Ay(a:aY):jx:=λj Q=>a j λx=>match x with |.int i=>Q (some i) |_=>False
theorem Z3:lP K k CD Ax:=λF B H j y Q a c p q=>q none F H p (Gr.aI c.s)
theorem Z4(h:bt K k te pe):lP K k (C3 te) (Ay pe):=λF B H j y Q e c p q=>by
 refine h F B H j y _ _ c p λx v b d f p1 a=>?_
 split at p1
 .obtain⟨rfl,_⟩:=a.r;exact⟨_,rfl,q _ b d p1 a.g⟩
 .exact p1.elim
def jO{j:Type}(xs:List j)(l h:bE):List j:=(xs.drop (HT.bO xs.length 0 l)).take (HT.bO xs.length xs.length h - HT.bO xs.length 0 l)
theorem Rs.drop:∀(n:Nat){xs:ah}{vs:ax}{a:Cs},Rs K F B xs vs a->ar F H a->∃d,Rs K F B (xs.drop n) (vs.drop n) d/\ar F H d/\∀p∈d,p∈a
 |0,_,_,a,h,hc=>⟨a,h,hc,λ_ m=>m⟩
 |n + 1,[],_,a,y,_=>by let⟨b,e⟩:=y;exact⟨[],by rw[b];exact⟨rfl,rfl⟩,.nil,λ_ m=>nomatch m⟩
 |n + 1,x::xs,_,_,y,hc=>by
  let⟨v,r,c,d,b,e,o,l⟩:=y;rw[e] at hc;let⟨j,f,g,i⟩:=Rs.drop n l hc.right;exact⟨j,by rw[b];exact f,g,λp m=>by rw[e];exact mem_append.mpr (.inr (i p m))⟩
theorem Rs.take:∀(n:Nat){xs:ah}{vs:ax}{a:Cs},Rs K F B xs vs a->ar F H a->∃d,Rs K F B (xs.take n) (vs.take n) d/\ar F H d/\∀p∈d,p∈a
 |0,_,_,a,h,hc=>⟨[],⟨rfl,rfl⟩,.nil,λ_ m=>nomatch m⟩
 |n + 1,[],_,a,y,_=>by let⟨b,e⟩:=y;exact⟨[],by rw[b];exact⟨rfl,rfl⟩,.nil,λ_ m=>nomatch m⟩
 |n + 1,x::xs,_,_,y,hc=>by
  let⟨v,r,c,d,b,e,l,o⟩:=y;rw[e] at hc;let⟨g,i,j,f⟩:=Rs.take n o hc.right;refine⟨c++g,by rw[b];exact⟨v,_,c,g,rfl,rfl,l,i⟩,hc.left.app j λp s q u=>?_,λp m=>by rw[e];exact (mem_append.mp m).elim (λm=>mem_append.mpr (.inl m)) λm=>mem_append.mpr (.inr (f p m))⟩;have:=hc.nd;rw[map_append,nodup_append] at this;exact this.2.2 _ (mem_map.mpr ⟨p,s,rfl⟩) _ (mem_map.mpr ⟨q,f q u,rfl⟩)
def si(x:Tr)(l h:bE)(Q:aq):Prop:=match x with
 |.av _ a=>Q (.av .o (jO a l h))
 |.str x=>x.length <= 1000000 /\ Q (.str (Txt.slice x l h))
 |_=>False
def Ah(a:aY)(pl b:jx):aY:=λj Q=>a j λx=>pl j λl=>b j λh=>si x l h Q
theorem Z5(h:bt K k te pe)(Y:lP K k tl pl)(U:lP K k th ph):bt K k (AG (DF K) te tl th) (Ah pe pl ph):=λF B H j y Q Q' c p q=>by
 refine h F B H j y _ _ c p λx v z C c1 p1 e=>?_
 refine Y z B C j y _ _ (c.gr e.g) p1 λl A D p2 w=>?_
 refine U A B D j y _ _ ((c.gr e.g).gr w) p2 λh u E p3 O=>?_
 have d:=w.trans' O;have i:=(c.gr e.g).gr d;have r3:=e.r.mo d.le (λk=>Le.refl (B k)) x;have o:=e.c.gr d;unfold si at p3;split at p3
 .obtain⟨a,vs,ds,rfl,h1,h2,h3,h4⟩:=r3.cF i.s i.b o;refine .inl ⟨a,vs,rfl,h1,λl' f=>?_⟩;∎;let⟨d1,G,I,J⟩:=h2.drop (HT.bO vs.length 0 l) h3;let⟨d2,L,M,N⟩:=G.take (HT.bO vs.length vs.length h - HT.bO vs.length 0 l) I;let⟨n1,n2,n3⟩:=oi i.s L M f;∎;refine q _ _ u _ _ p3 ⟨(e.g.trans' d).trans' n1,?_,n3,λp m=>?_⟩
  .unfold jO;rw[<- h2.length];exact n2
  .cases m with
   |head=>exact (e.g.h.trans d.h).free f
   |tail _ m=>exact e.n p (h4 p (J p (N p m)))
 .obtain⟨rfl,_⟩:=r3;exact .inr ⟨_,rfl,j4 p3.1,q _ _ u E [] p3.2 ⟨e.g.trans' d,⟨rfl,rfl⟩,.nil,.nil⟩⟩
 .exact p3.elim
end
section
def lJ(ix:bI)(j:ah):ah:=ix.map λo=>match o with |none=>.aF |some i=>(j[i]?).getD .aF
theorem d7.pick(e:d7 K F B y G):d7 K F B (eX ix y) (lJ ix G):=λj t h=>by
 unfold lJ at h;rw[getElem?_map] at h;cases q:ix[j]? with
 |none=>rw[q] at h;cases h
 |some o=>
  rw[q] at h;cases o with
  |none=>cases h;exact .inl rfl
  |some i=>
   cases z:G[i]? with
   |none=>
    have h:some ((G[i]?).getD .aF)=some t:=h;rw[z] at h;cases h;exact .inl rfl
   |some u=>
    have h:some ((G[i]?).getD .aF)=some t:=h;rw[z] at h;cases h;refine (e i u z).imp id λa=>?_
    let⟨v,b,c⟩:=a;refine⟨v,?_,c⟩;unfold eX;rw[getElem?_map,q];show some ((y[i]?).getD none)=_;rw[b];rfl
theorem z5:∀{a b:St},a.length=b.length->(∀(i:Nat)(v:V),a[i]?=some (some v)->b[i]?=some (some v))->Wk a b
 |[],[],_,_=>.nil
 |[],_::_,h,_=>by cases h
 |_::_,[],h,_=>by cases h
 |none::a,y::b,h,g=>.aZ (z5 (Nat.succ.inj h) λi v e=>g (i + 1) v e)
 |some x::a,y::b,h,g=>by
  have e:=g 0 x rfl;cases e;exact .vS (z5 (Nat.succ.inj h) λi v e=>g (i+1) v e)
def xE(K:ak)(d:List Nat)(e:TG)(pg:eH):Prop:=∀(F:Hp)(B:Bool->Hp)(H:Hp)(j:St)(y:ah)(x:V)(t:Tr)(Q:St->Hp->Prop)(c:aG),az F H->d7 K F B j y->j.length=y.length->R K F B t x []->pg t y c->(∀a b,d7 K F B a b->a.length=b.length->a.length=j.length->(∀i,i ∉ d->a[i]?=j[i]?)->c b->Q a H)->e x j H Q
theorem d7.set(e:d7 K F B y G)(c:y.length=G.length)(r:R K F B t x []):d7 K F B (y.set i (some x)) (G.set i t):=λj u h=>by
 by_cases a:j=i
 .subst a;have b:j<G.length:=by have:=IZ h;rw[length_set] at this;exact this
  rw[getElem?_set_self b] at h;cases h;exact .inr ⟨x,getElem?_set_self (by rw[c];exact b),r⟩
 .rw[getElem?_set_ne (λz=>a z.symm)] at h;exact (e j u h).imp id λ⟨v,h1,h2⟩=>⟨v,by rw[getElem?_set_ne (λz=>a z.symm)];exact h1,h2⟩
theorem Z6:xE K [i] (lK i) (r9 i):=λF B H y u x t Q c s e a r p q=>q _ _ (e.set a r) (by rw[length_set,length_set];exact a) (by rw[length_set]) (λj b=>getElem?_set_ne λz=>b (by rw[z];exact mem_singleton.mpr rfl)) p
def tS:d9:=λ_ Q=>Q true
theorem Y4:fE K k D9 tS:=λF B H j y Q a c p q=>q true F H p (Gr.aI c.s)
def wR(f:ia)(pg:eH)(pt:d9)(e:aY)(ix:bI):aY:=λj Q=>f j λd _=>∃I:Nat->aG,I 0 []/\
 (∀i t a,d[i]?=some t->I i a->pg t (lJ ix j) λc=>pt c λb=>if b=true then e c λx=>a.length<1000000/\I (i+1) (a++[x]) else I (i+1) a)/\∀a,I d.length a->a.length<=1000000/\Q (.av .o a)
theorem Vl{wi:TI}{pi:ia}{js:List Nat}{tg:TG}{pg:eH}{ti:TT}{pt:d9}{te:TE}{pe:aY}{ix:bI}(hi:kI K k wi pi)(hg:xE K js tg pg)(ht:fE K k.iV ti pt)(he:bt K k.iV te pe)(hj:∀j∈js,ix[j]?=some none):bt K k (C6 wi tg ti te ix) (wR pi pg pt pe ix):=λF B H G O Q Q' c p q=>by
 refine hi F B H G O _ _ c p λts nl J F1 H1 p1 E δ _=>?_
 ∎;let⟨I,i0,step,α⟩:=p1;let⟨Kp,Y,C,kp,yl⟩:=δ;∎;have c1:=c.gr E;refine Lh (n:=ts.length) (λi w f=>∃o us d,Gr F1 H1 o f/\Rs K o B us w d/\ar o f d/\dg H1 d/\I i us) ⟨F1,[],[],Gr.aI E.s,⟨rfl,rfl⟩,.nil,.nil,i0⟩ ?_ ?_ ?_ ?_
 .rintro i w f hlt ⟨o,us,d,g2,_⟩;exact C.go i f hlt (kp o f g2.le g2.s (c1.gr g2).b)
 .rintro w f ⟨o,us,d,g2,_⟩;exact C.st f (kp o f g2.le g2.s (c1.gr g2).b)
 .rintro i x w f H3 hlt ⟨o,us,d,g2,r2,hc2,n2,ii⟩ y;have c2:=c1.gr g2;∎;let⟨t,et⟩:=vv hlt;let⟨U,g3,r3⟩:=yl i t o f x H3 et g2.le g2.s c2.b (C.yl i f x H3 hlt (kp o f g2.le g2.s c2.b) y);∎;have D:=c2.gr g3;have β:(eX ix G).length=(lJ ix O).length:=by unfold eX lJ;rw[length_map,length_map]
  refine hg U B H3 _ _ x t _ _ D.s D.e.pick β r3 (step i t us et ii) λG2 O2 e2 l2 γ n3 p2=>⟨z5 γ.symm λj v M=>?_,?_⟩
  .by_cases hjs:j∈js
   .have z:=hj j hjs;unfold eX at M;rw[getElem?_map,z] at M;cases M
   .rw[n3 j hjs];exact M
  .have c3':gj K k.iV U B H3 G2 O2:=⟨D.s,D.b,D.z,e2,λ_ _ _ h=>h.elim⟩
   refine ht U B H3 G2 O2 _ _ c3' p2 λb F4 H4 N g4=>?_
   have l:=g3.trans' g4;cases b with
   |false=>
    rw[if_neg ∎] at N ⊢;exact⟨F4,us,d,g2.trans' l,r2.mo l.le (λk=>Le.refl (B k)) us,hc2.gr l,n2,N⟩
   |true=>
    rw[if_pos rfl] at N ⊢;refine he F4 B H4 G2 O2 _ _ (c3'.gr g4) N λu v F5 H5 c5 p5 L=>?_
    have A:=l.trans' L.g;refine⟨lt_of_lt_of_le (by rw[r2.length];exact p5.1) ∎,F5,us++[u],d++c5,g2.trans' A,(r2.mo A.le (λk=>Le.refl (B k)) us).snoc L.r,(hc2.gr A).app L.c λp mp q mq e=>?_,λp m=>?_,p5.2⟩
    .have:=(hc2.gr l).h p mp;rw[e,L.n q mq] at this;cases this
    .rcases mem_append.mp m with m |m
     .exact n2 p m
     .exact (g2.h.trans l.h).free (L.n p m)
 .rintro w f ⟨o,us,d,g2,r2,hc2,n2,ii⟩;let⟨hl,hq⟩:=α us ii;refine⟨by rw[r2.length];exact j4 hl,λa ha=>?_⟩;let⟨m1,m2,m3⟩:=oi g2.s r2 hc2 ha;refine q _ _ o _ _ hq ⟨(E.trans' g2).trans' m1,m2,m3,λp m=>?_⟩;cases m with
  |head=>exact (E.h.trans g2.h).free ha
  |tail _ m=>exact E.h.free (n2 p m)
end
mutual
noncomputable def e5:Tr->Tr->Option Bool
 |.aA xs,.aA ys=>if xs.length=ys.length then ft xs ys else none
 |.av _ xs,.av _ ys=>if xs.length=ys.length then ft xs ys else some false
 |.int a,.int b=>some (decide (a=b))
 |.str a,.str b=>some (decide (a=b))
 |.bl a,.bl b=>some (decide (a=b))
 |.aZ,.aZ=>some true
 |_,_=>none
noncomputable def ft:List Tr->List Tr->Option Bool
 |[],[]=>some true
 |x::xs,y::ys=>(e5 x y).bind λa=>(ft xs ys).bind λb=>some (a&&b)
 |_,_=>none
end
mutual
noncomputable def dep:Tr->Nat
 |.aA a=>fq a + 1
 |.av _ a=>fq a + 1
 |_=>0
noncomputable def fq:List Tr->Nat
 |[]=>0
 |x::xs=>max (dep x) (fq xs)
end
section
mutual
theorem zF(I:au X aa j H s)(i:az F H)(o:∀k,az (B k) H):∀(t:Tr)(t':Tr)(v:V)(c d:Cs)(b:Bool),e5 t t'=some b->R X.K F B t v c->R X.K F B t' v d->ar F H c->ar F H d->b=true
 |.aA A=>λt' v c d b e r g x h=>by
  cases t' with
  |aA C=>
   unfold e5 at e;split at e
   .obtain⟨a,vs,rfl,w,n⟩:=r.cK i;let⟨l,y,q,u,m⟩:=g.cK i;cases q;have z:=Ya I w u;subst z;exact fu I i o A C vs c d b e n m x h
   .cases e
  |_=>cases e
 |.av f A=>λt' v c d b e r g x h=>by
  cases t' with
  |av J C=>
   unfold e5 at e;∎;let⟨a,vs,D,rfl,w,n,G,_⟩:=r.cF i o x;let⟨l,y,p,q,u,m,E,_⟩:=g.cF i o h;∎;cases q;have z:=Yb I w u;subst z;split at e
   .exact fu I i o A C vs D p b e n m G E
   .rename_i hl;exact absurd (n.length.symm.trans m.length) hl
  |_=>cases e
 |.int a=>λt' v c d b e r g _ _=>by
  cases t' with
  |int l=>cases e;have:=r.1.symm.trans g.1;cases this;exact decide_eq_true rfl
  |_=>cases e
 |.str a=>λt' v c d b e r g _ _=>by
  cases t' with
  |str l=>cases e;have:=r.1.symm.trans g.1;cases this;exact decide_eq_true rfl
  |_=>cases e
 |.bl a=>λt' v c d b e r g _ _=>by
  cases t' with
  |bl l=>cases e;have:=r.1.symm.trans g.1;cases this;exact decide_eq_true rfl
  |_=>cases e
 |.aZ=>λt' v c d b e r g _ _=>by
  cases t' with
  |aZ=>cases e;rfl
  |_=>cases e
 |.aF=>λt' v c d b e _ _ _ _=>by cases t' <;> cases e
 |.ty _=>λt' v c d b e _ _ _ _=>by cases t' <;> cases e
 |.cl _=>λt' v c d b e _ _ _ _=>by cases t' <;> cases e
 |.exc _=>λt' v c d b e _ _ _ _=>by cases t' <;> cases e
 |.a9 _ _=>λt' v c d b e _ _ _ _=>by cases t' <;> cases e
 |.ins _ _ _=>λt' v c d b e _ _ _ _=>by cases t' <;> cases e
theorem fu(I:au X aa j H s)(n:az F H)(m:∀k,az (B k) H):∀(o:List Tr)(d:List Tr)(vs:List V)(c g:Cs)(b:Bool),ft o d=some b->Rs X.K F B o vs c->Rs X.K F B d vs g->ar F H c->ar F H g->b=true
 |[]=>λd vs c g b e _ _ _ _=>by
  cases d with
  |nil=>cases e;rfl
  |cons _ _=>cases e
 |x::xs=>λd vs c g b e r l h f=>by
  cases d with
  |nil=>cases e
  |cons y p=>
   ∎;let⟨v,r,u,z,G,J,L,M⟩:=r;let⟨N,l,w,A,i,C,D,E⟩:=l;∎;rw[G] at i;cases i;rw[J] at h;rw[C] at f;unfold ft at e;cases e1:e5 x y with
   |none=>rw[e1] at e;cases e
   |some a=>
    cases e2:ft xs p with
    |none=>rw[e1,e2] at e;cases e
    |some q=>
     rw[e1,e2] at e;cases e;rw[zF I n m x y v u w a e1 L D h.left f.left,fu I n m xs p r z A q e2 M E h.right f.right];rfl
end
def gz(b a:ah)(j:Nat):Bool:=match b[j]?,a[j]? with |some x,some y=>(e5 x y).getD false |_,_=>false
theorem mn:∀{d c:ah}{b:Bool},ft d c=some b->(List.range d.length).all (gz d c)=b/\∀(j:Nat)(x y:Tr),d[j]?=some x->c[j]?=some y->e5 x y=some (gz d c j)
 |[],[],b,e=>by cases e;exact⟨rfl,λj x y h=>by cases h⟩
 |[],_::_,b,e=>by cases e
 |_::_,[],b,e=>by cases e
 |x::xs,y::ys,b,e=>by
  unfold ft at e;cases e1:e5 x y with
  |none=>rw[e1] at e;cases e
  |some a=>
   cases e2:ft xs ys with
   |none=>rw[e1,e2] at e;cases e
   |some l=>
    rw[e1,e2] at e;cases e;let⟨f,g⟩:=mn e2;refine⟨?_,λj u w hu hw=>?_⟩
    .rw[length_cons,List.range_succ_eq_map,all_cons,all_map];have i:gz (x::xs) (y::ys) 0=a:=by show (e5 x y).getD false=a;rw[e1];rfl
     rw[i,<- f];rfl
    .cases j with
     |zero=>cases hu;cases hw;show e5 x y=some ((e5 x y).getD false);rw[e1];rfl
     |succ j=>exact g j u w hu hw
mutual
theorem Z7(I:au X aa i H s)(G:az F H)(M:∀k,az (B k) H):∀(t:Tr)(t':Tr)(Au:Around)(v g:V)(c h:Cs)(b:Bool)(u l:Value),e5 t t'=some b->R X.K F B t v c->R X.K F B t' g h->ar F H c->ar F H h->aC v u->aC g l->Au.units+dep t<cLine->SeqAt.EqAt Au s u l b
 |.aA C=>λt' Au v g c h b u l e r o N w m d hu=>by
  cases t' with
  |aA D=>
   have fn:=λ(z:v=g)=>zF I G M (.aA C) (.aA D) g c h b e (z ▸ r) o N w
   unfold e5 at e;split at e
   .rename_i hl;∎;let⟨a,vs,rfl,U,E⟩:=r.cK G;let⟨n,J,rfl,Q,L⟩:=o.cK G;∎;obtain rfl:u=Value.ref a:=m;obtain rfl:l=Value.ref n:=d;by_cases z:a=n
    .rw[fn (by rw[z]),z];exact SeqAt.EqAt.same _
    .unfold dep at hu;let⟨al,ix⟩:=mn e;have O:=G4 (Au:=Au) I U Q ⋯ (by rw[E.length,L.length];exact hl) (gz C D) (λj x y p q ex ey rx ry=>cJ I G M C D (gz C D) Au.in1 vs J c h j x y p q ix E L N w ex ey rx ry (by rw[kP];omega));rw[E.length,al] at O;exact SeqAt.EqAt.of_refs z O
   .cases e
  |_=>cases e
 |.av f C=>λt' Au v g c h b u l e r o N w m d hu=>by
  cases t' with
  |av f' D=>
   have fn:=λ(z:v=g)=>zF I G M (.av f C) (.av f' D) g c h b e (z ▸ r) o N w
   unfold e5 at e;∎;let⟨a,vs,ds,rfl,U,E,h3,_⟩:=r.cF G M N;let⟨n,J,Y,rfl,Q,L,g3,_⟩:=o.cF G M w;∎;obtain rfl:u=Value.ref a:=m;obtain rfl:l=Value.ref n:=d;unfold dep at hu;by_cases z:a=n
   .rw[fn (by rw[z]),z];exact SeqAt.EqAt.same _
   .split at e
    .rename_i hl;let⟨al,ix⟩:=mn e;have O:=G5 (Au:=Au) I U Q ⋯ (by rw[E.length,L.length];exact hl) (gz C D) (λj x y p q ex ey rx ry=>cJ I G M C D (gz C D) Au.in1 vs J ds Y j x y p q ix E L h3 g3 ex ey rx ry (by rw[kP];omega));rw[E.length,al] at O;exact SeqAt.EqAt.of_refs z O
    .rename_i hl;cases e;∎;let⟨us,r1,t1,_⟩:=I.list U;let⟨zs,r2,t2,_⟩:=I.list Q;∎;have m1:=r1.length;have m2:=r2.length;have l1:=E.length;have l2:=L.length;exact SeqAt.EqAt.of_refs z (SeqAt.RcAt.lists_lengths t1.isList t2.isList (by simp;omega) ⋯)
  |_=>cases e
 |.int a=>λt' Au v g c h b u l e r o _ _ m d _=>by
  cases t' with
  |int n=>cases e;rw[r.1] at m;rw[o.1] at d;exact UX m d
  |_=>cases e
 |.str a=>λt' Au v g c h b u l e r o _ _ m d _=>by
  cases t' with
  |str n=>
   cases e;rw[r.1] at m;rw[o.1] at d;have z:=mw (A:=Au) (s:=s) m d rfl rfl;have e:gB (.str a) (.str n)=decide (a=n):=by show (a == n)=_;rw[Bool.beq_eq_decide_eq]
   rw[e] at z;exact z
  |_=>cases e
 |.bl a=>λt' Au v g c h b u l e r o _ _ m d _=>by
  cases t' with
  |bl n=>
   cases e;rw[r.1] at m;rw[o.1] at d;have z:=mw (A:=Au) (s:=s) m d rfl rfl;have e:gB (.bl a) (.bl n)=decide (a=n):=by show (a == n)=_;rw[Bool.beq_eq_decide_eq]
   rw[e] at z;exact z
  |_=>cases e
 |.aZ=>λt' Au v g c h b u l e r o _ _ m d _=>by
  cases t' with
  |aZ=>cases e;rw[r.1] at m;rw[o.1] at d;exact mw (A:=Au) (s:=s) m d rfl rfl
  |_=>cases e
 |.aF=>λt' Au v g c h b u l e _ _ _ _ _ _ _=>by cases t' <;> cases e
 |.ty _=>λt' Au v g c h b u l e _ _ _ _ _ _ _=>by cases t' <;> cases e
 |.cl _=>λt' Au v g c h b u l e _ _ _ _ _ _ _=>by cases t' <;> cases e
 |.exc _=>λt' Au v g c h b u l e _ _ _ _ _ _ _=>by cases t' <;> cases e
 |.a9 _ _=>λt' Au v g c h b u l e _ _ _ _ _ _ _=>by cases t' <;> cases e
 |.ins _ _ _=>λt' Au v g c h b u l e _ _ _ _ _ _ _=>by cases t' <;> cases e
theorem cJ(I:au X aa G H s)(C:az F H)(A:∀k,az (B k) H):∀(n:List Tr)(d:List Tr)(e:Nat->Bool)(Au:Around)(vs f:List V)(c o:Cs)(j:Nat)(x y:V)(u h:Value),(∀(j:Nat)(x y:Tr),n[j]?=some x->d[j]?=some y->e5 x y=some (e j))->Rs X.K F B n vs c->Rs X.K F B d f o->ar F H c->ar F H o->vs[j]?=some x->f[j]?=some y->aC x u->aC y h->Au.units+fq n<cLine->SeqAt.EqAt Au s u h (e j)
 |[]=>λd e Au vs f c o j x y u h _ r _ _ _ ex _ _ _ _=>by rw[r.1] at ex;cases ex
 |t::n=>λd e Au vs f c o j x y u h w r p q g ex l z m hu=>by
  cases d with
  |nil=>rw[p.1] at l;cases l
  |cons D d=>
   ∎;let⟨v,r,E,L,Y,h2,h3,h4⟩:=r;let⟨v',p,J,M,N,O,Q,U⟩:=p;∎;rw[Y] at ex;rw[N] at l;rw[h2] at q;rw[O] at g;unfold fq at hu;cases j with
   |zero=>
    cases ex;cases l;exact Z7 I C A t D Au _ _ E J (e 0) u h (w 0 t D rfl rfl) h3 Q q.left g.left z m ⋯
   |succ j=>exact cJ I C A n d (λi=>e (i+1)) Au r p L M j x y u h (λi a b ha hb=>w (i+1) a b ha hb) h4 U q.right g.right ex l z m ⋯
end
theorem Y5(I:au X aa G H s)(d:ck X.K H a xs)(f:ck X.K H b ys)(hu:Au.units<cLine)(B:xs.length=ys.length)(e:Nat->Bool)(he:∀(j:Nat) x y u v,xs[j]?=some x->ys[j]?=some y->aC x u->aC y v->SeqAt.EqAt Au.in1 s u v (e j)):SeqAt.RcNeAt Au s (.ref a) (.ref b) (!(List.range xs.length).all e):=by
 ∎;let⟨us,r1,r,_⟩:=I.tuple d;let⟨c,r2,w,_⟩:=I.tuple f;∎;have C:=r1.length;have D:=r2.length;have z:=SeqAt.RcNeAt.tuples (A:=Au) (e:=e) r w hu (λj d f=>?_)
 .have e0:((List.range (min us.toArray.size c.toArray.size)).all e&&us.toArray.size == c.toArray.size)=(List.range xs.length).all e:=by
   simp only[size_toArray];have g:min us.length c.length=xs.length:=⋯
   have h:(us.length == c.length)=true:=by simp;omega
   rw[g,h,Bool.and_true]
  rw[e0] at z;exact z
 .simp only[size_toArray] at d f;∎;let⟨u,g,p⟩:=r1.get (i:=j) (x:=xs[j]'⋯) (by simp);let⟨v,h,q⟩:=r2.get (i:=j) (x:=ys[j]'⋯) (by simp);let⟨_,l⟩:=List.getElem?_eq_some_iff.mp g;let⟨_,m⟩:=List.getElem?_eq_some_iff.mp h;∎;have n:us.toArray[j]'(by simpa using d)=u:=by simpa using l
  have o:c.toArray[j]'(by simpa using f)=v:=by simpa using m
  rw[n,o];exact he j _ _ u v (by simp) (by simp) p q
def tT(K:ak)(neg:Bool):R2:=λx y H Q=>∃(F:Hp)(B:Bool->Hp)(t d:Tr)(c a:Cs)(b:Bool),az F H/\(∀k,az (B k) H)/\R K F B t x c/\R K F B d y a/\ar F H c/\ar F H a/\e5 t d=some b/\dep t<=60/\1<=dep t/\Q (.bl (if neg=true then !b else b)) H
theorem Z8(hu:X.A.units+64<cLine):b6 X (compareOp .Eq) (tT X.K false):=by
 intro aa s i H x y v u Q I D E h;let⟨F,B,t,t',c,c',b,G,N,r,r',hc,J,e,d,d1,q⟩:=h;have l:∀{p p':ae},SeqAt.RcAt X.A s (.ref p) (.ref p') b->wpAny (model X.prog X.w) X.A (compareOp .Eq (.ref p) (.ref p')) (EP X aa i Q) X.xe s:=λm=>m X.prog X.w X.xe _ ⟨.bl b,H,I,rfl,q⟩
 cases t with
 |aA o=>
  cases t' with
  |aA z=>
   unfold e5 at e;unfold dep at d;split at e
   .rename_i hl;∎;let⟨a,vs,rfl,M,g⟩:=r.cK G;let⟨O,n,rfl,L,C⟩:=r'.cK G;∎;obtain rfl:v=Value.ref a:=D;obtain rfl:u=Value.ref O:=E;let⟨al,ix⟩:=mn e;have m:=G4 (Au:=X.A) I M L ⋯ (by rw[g.length,C.length];exact hl) (gz o z) (λj x y p q ex Y D E=>cJ I G N o z (gz o z) X.A.in1 vs n c c' j x y p q ix g C hc J ex Y D E (by rw[kP];omega));rw[g.length,al] at m;exact l m
   .cases e
  |_=>cases e
 |av f o=>
  cases t' with
  |av f' z=>
   unfold e5 at e;unfold dep at d;∎;let⟨a,vs,ds,rfl,M,g,h3,_⟩:=r.cF G N hc;let⟨O,n,U,rfl,L,C,g3,_⟩:=r'.cF G N J;∎;obtain rfl:v=Value.ref a:=D;obtain rfl:u=Value.ref O:=E;split at e
   .rename_i hl;let⟨al,ix⟩:=mn e;have m:=G5 (Au:=X.A) I M L ⋯ (by rw[g.length,C.length];exact hl) (gz o z) (λj x y p q ex Y D E=>cJ I G N o z (gz o z) X.A.in1 vs n ds U j x y p q ix g C h3 g3 ex Y D E (by rw[kP];omega));rw[g.length,al] at m;exact l m
   .rename_i hl;cases e;∎;let⟨us,r1,t1,_⟩:=I.list M;let⟨zs,r2,t2,_⟩:=I.list L;∎;have m1:=r1.length;have m2:=r2.length;have l1:=g.length;have l2:=C.length;exact l (SeqAt.RcAt.lists_lengths t1.isList t2.isList (by simp;omega) ⋯)
  |_=>cases e
 |_=>exact absurd d1 (by unfold dep;decide)
theorem Z9(hu:X.A.units+64<cLine):b6 X (compareOp .NotEq) (tT X.K true):=by
 intro aa s i H x y v u Q I D E h;let⟨F,B,t,t',c,c',b,G,N,r,r',hc,J,e,d,d1,q⟩:=h;have l:∀{p p':ae},SeqAt.RcNeAt X.A s (.ref p) (.ref p') (!b)->wpAny (model X.prog X.w) X.A (compareOp .NotEq (.ref p) (.ref p')) (EP X aa i Q) X.xe s:=λm=>m X.prog X.w X.xe _ ⟨.bl (!b),H,I,rfl,q⟩
 cases t with
 |aA o=>
  cases t' with
  |aA z=>
   unfold e5 at e;unfold dep at d;split at e
   .rename_i hl;∎;let⟨a,vs,rfl,M,g⟩:=r.cK G;let⟨O,n,rfl,L,C⟩:=r'.cK G;∎;obtain rfl:v=Value.ref a:=D;obtain rfl:u=Value.ref O:=E;let⟨al,ix⟩:=mn e;have m:=Y5 (Au:=X.A) I M L ⋯ (by rw[g.length,C.length];exact hl) (gz o z) (λj x y p q ex Y D E=>cJ I G N o z (gz o z) X.A.in1 vs n c c' j x y p q ix g C hc J ex Y D E (by rw[kP];omega));rw[g.length,al] at m;exact l m
   .cases e
  |_=>cases e
 |av f o=>
  cases t' with
  |av f' z=>
   unfold e5 at e;unfold dep at d;∎;let⟨a,vs,ds,rfl,M,g,h3,_⟩:=r.cF G N hc;let⟨O,n,U,rfl,L,C,g3,_⟩:=r'.cF G N J;∎;obtain rfl:v=Value.ref a:=D;obtain rfl:u=Value.ref O:=E;split at e
   .rename_i hl;let⟨al,ix⟩:=mn e;have m:=Xp (Au:=X.A) I M L ⋯ (by rw[g.length,C.length];exact hl) (gz o z) (λj x y p q ex Y D E=>cJ I G N o z (gz o z) X.A.in1 vs n ds U j x y p q ix g C h3 g3 ex Y D E (by rw[kP];omega));rw[g.length,al] at m;exact l m
   .rename_i hl;cases e;∎;let⟨us,r1,t1,_⟩:=I.list M;let⟨zs,r2,t2,_⟩:=I.list L;∎;have m1:=r1.length;have m2:=r2.length;have l1:=g.length;have l2:=C.length;exact l (SeqAt.RcNeAt.lists_lengths (A:=X.A) t1.isList t2.isList (by simp;omega) ⋯)
  |_=>cases e
 |_=>exact absurd d1 (by unfold dep;decide)
def DG(K:ak):R2:=λx y H Q=>Az x y H Q\/tT K false x y H Q
theorem dE(hu:X.A.units+64<cLine:=by exact bh.units (by assumption)):b6 X (compareOp .Eq) (DG X.K):=Nx.or (Z8 hu)
def DH(K:ak):R2:=λx y H Q=>AA x y H Q\/tT K true x y H Q
theorem iA(hu:X.A.units+64<cLine:=by exact bh.units (by assumption)):b6 X (compareOp .NotEq) (DH X.K):=Ny.or (Z9 hu)
def jv(neg:Bool)(x y:Tr)(Q:aq):Prop:=match x,y with
 |.int a,.int b=>Q (.bl (if neg=true then !decide (a=b) else decide (a=b)))
 |.str a,.str b=>Q (.bl (if neg=true then !decide (a=b) else decide (a=b)))
 |.bl a,.bl b=>Q (.bl (if neg=true then !decide (a=b) else decide (a=b)))
 |x,y=>qH neg x y Q \/ ∃b,e5 x y=some b /\ dep x <= 60 /\ 1 <= dep x /\ Q (.bl (if neg=true then !b else b))
theorem dF:cZ K k (DG K) (jv false):=λF B H x y tx ty f g Q l s b z a c i j hd p q=>by
 unfold jv at p;split at p
 .obtain⟨rfl,_⟩:=a;let⟨rfl,_⟩:=c;refine .inl ⟨rfl,q _ _ F H [] p (Gr.aI s) ⟨?_,rfl⟩ .nil λ_ m=>nomatch m⟩;exact congrArg V.bl (decide_eq_decide.mpr ⟨λh=>V.int.inj h,λh=>by rw[h]⟩)
 .obtain⟨rfl,_⟩:=a;let⟨rfl,_⟩:=c;refine .inl ⟨rfl,q _ _ F H [] p (Gr.aI s) ⟨?_,rfl⟩ .nil λ_ m=>nomatch m⟩;exact congrArg V.bl (decide_eq_decide.mpr ⟨λh=>V.str.inj h,λh=>by rw[h]⟩)
 .obtain⟨rfl,_⟩:=a;let⟨rfl,_⟩:=c;refine .inl ⟨rfl,q _ _ F H [] p (Gr.aI s) ⟨?_,rfl⟩ .nil λ_ m=>nomatch m⟩;exact congrArg V.bl (decide_eq_decide.mpr ⟨λh=>V.bl.inj h,λh=>by rw[h]⟩)
 .rcases p with p |p
  .exact .inl (XQ (k:=k) F B H x y tx ty f g Q l s b z a c i j hd p q)
  .obtain⟨bb,e,d,d1,p⟩:=p;exact .inr ⟨F,B,tx,ty,f,g,bb,s,b,a,c,i,j,e,d,d1,q _ _ F H [] p (Gr.aI s) ⟨rfl,rfl⟩ .nil λ_ m=>nomatch m⟩
theorem iy:cZ K k (DH K) (jv true):=λF B H x y tx ty f g Q l s b z a c i j hd p q=>by
 unfold jv at p;split at p
 .obtain⟨rfl,_⟩:=a;let⟨rfl,_⟩:=c;refine .inl ⟨rfl,q _ _ F H [] p (Gr.aI s) ⟨?_,rfl⟩ .nil λ_ m=>nomatch m⟩;exact congrArg (λb=>V.bl (!b)) (decide_eq_decide.mpr ⟨λh=>V.int.inj h,λh=>by rw[h]⟩)
 .obtain⟨rfl,_⟩:=a;let⟨rfl,_⟩:=c;refine .inl ⟨rfl,q _ _ F H [] p (Gr.aI s) ⟨?_,rfl⟩ .nil λ_ m=>nomatch m⟩;exact congrArg (λb=>V.bl (!b)) (decide_eq_decide.mpr ⟨λh=>V.str.inj h,λh=>by rw[h]⟩)
 .obtain⟨rfl,_⟩:=a;let⟨rfl,_⟩:=c;refine .inl ⟨rfl,q _ _ F H [] p (Gr.aI s) ⟨?_,rfl⟩ .nil λ_ m=>nomatch m⟩;exact congrArg (λb=>V.bl (!b)) (decide_eq_decide.mpr ⟨λh=>V.bl.inj h,λh=>by rw[h]⟩)
 .rcases p with p |p
  .exact .inl (YJ (k:=k) F B H x y tx ty f g Q l s b z a c i j hd p q)
  .obtain⟨bb,e,d,d1,p⟩:=p;exact .inr ⟨F,B,tx,ty,f,g,bb,s,b,a,c,i,j,e,d,d1,q _ _ F H [] p (Gr.aI s) ⟨rfl,rfl⟩ .nil λ_ m=>nomatch m⟩
end
def IM(K:ak)(k:Md)(e:aY):TE:=λj H Q=>∃(F:Hp)(B:Bool->Hp)(y:ah)(b:aq),gj K k F B H j y/\e y b/\∀t v c a d,b t->Out K F B H c a t v d->Q v a
def DI(K:ak)(k:Md)(e:d9):TT:=λj H Q=>∃(F:Hp)(B:Bool->Hp)(y:ah)(c:Bool->Prop),gj K k F B H j y/\e y c/\∀b d a,c b->Gr F H d a->Q b a
section
theorem QE.of(h:QE X k e pe):PE X e (IM X.K k pe):=λaa s j H Q I ⟨F,B,y,Q',h1,h2,h3⟩=>by
 let⟨c,a,b⟩:=h.h;exact a aa s j H Q I (b F B H j y Q Q' h1 h2 h3)
theorem z'L:bt K k (IM K k pe) pe:=λF B H j y Q a b c d=>⟨F,B,y,a,b,c,d⟩
theorem Y6:fE K k (DI K k pe) pe:=λF B H j y Q a b c d=>⟨F,B,y,a,b,c,d⟩
theorem vz(ha:QE X k a pa)(c:QE X k b pb):QE X k (.BinOp a .Pow b pos) (p2 (gN qM λi j=>.int (i ^ j.toNat)) pa pb):=oP Zg (zU λ_ _ _ _=>⟨rfl,rfl⟩) ha c
theorem gy(f:bA X (.type T) r)(i:h9 X.K k r pr)(hm:X.mg x=none)(ha:QA X k (e::es) ps)(g:do Gl X x)(hv:do bootBuiltins x=some (.type T))(hn: ~~~(x≠"__name__"))(a: ~~~(cI x))(he:do eA e es X.env)(b:do e9 pos es X.env):
  QE X k (.Call (.Name x p) (e::es) [] pos) (pB pr ps):=by
 let⟨j,c,d⟩:=ha.h;exact⟨_,ye f g hm hv c hn a he b,HK i d⟩
theorem rq:QE X k (.Dict [] [] pos) wM:=⟨_,UK,Vg⟩
theorem Ll(h:QE X k e pe)(c:do attributeBase e f X.env (eval e X.env)=eval e X.env):QE X k (.Attribute e f pos) (p1 (gP X.K f) pe):=by
 let⟨d,a,b⟩:=h.h;exact⟨_,XA a c,Y3 b⟩
theorem z'M(l:QE X k o po)(he:QE X k e pe)(j:QE X k f pf)(hm:M2 X o "get" apos e f bP:=by exact⟨rfl,rfl,rfl,rfl⟩)(hu:X.A.units+1<cLine:=by assumption):QE X k (.Call (.Attribute o "get" apos) [e,f] [] bP) (p3 tK po pe pf):=by
 ∎;let⟨m,g,i⟩:=l.h;let⟨n,c,d⟩:=he.h;let⟨p,a,b⟩:=j.h;∎;exact⟨_,UL hu g c a hm,Vk i d b⟩
structure QO(X:Cx)(k:Md)(e:Option Expr)(pe:jx):Prop where
 h:∃te,PO X e te/\lP X.K k te pe
theorem Jz:QO X k none Ax:=⟨_,X4,Z3⟩
theorem o4(h:QE X k e pe):QO X k (some e) (Ay pe):=by
 let⟨c,a,b⟩:=h.h;exact⟨_,X5 a,Z4 b⟩
theorem AD{e:Expr}{a:aY}{l h:Option Expr}{pl b:jx}{p2:Pos}(he:QE X k e a)(n:QO X k l pl)(m:QO X k h b):QE X k (.Subscript e (.Slice l h none p2) pos) (Ah a pl b):=by
 ∎;let⟨o,i,j⟩:=he.h;let⟨p,f,g⟩:=n.h;let⟨q,c,d⟩:=m.h;∎;exact⟨_,FR KQ i f c,Z5 j g d⟩
structure QG(X:Cx)(k:Md)(lo:Nat)(e:Expr)(pg:eH):Prop where
 h:∃tg,PG X e tg/\lU X.K k lo tg pg
structure sy(X:Cx)(k:Md)(lo:Nat)(es:bT)(pg:ah->ah->(aG)->Prop):Prop where
 h:∃tg,pz X es tg/\qD X.K k lo tg pg
theorem cM(i:Nat)(a:X.N.Nodup:=by assumption)(d: ~~~(lo<=i))(c:do X.N[i]?=some x)(e:Loc X.env.scope x:=by first |exact Or.inl rfl |exact Or.inr rfl)(b:kq X x:=by first |exact .inl rfl |exact .inr rfl |assumption):QG X k lo (.Name x pos) (r9 i):=⟨_,Gs a c e b,z'y d⟩
theorem fS:sy X k lo [] tm:=⟨_,XW,SX⟩
theorem cT(h:QG X k lo e pg)(h':sy X k lo es pr)(hs:do (assignEach (e::es) X.env).map (·.2)=assign e X.env::(assignEach es X.env).map (·.2)):sy X k lo (e::es) (tD pg pr):=by
 ∎;let⟨f,c,d⟩:=h.h;let⟨g,a,b⟩:=h'.h;∎;exact⟨_,UD c a hs,SD d b⟩
theorem fZ(c:X.calm=true)(h:sy X k lo es pr)(hn:do (assignEach es X.env).length=n)(d:do (assignEach es X.env).findIdx? (·.1)=none):QG X k lo (.Tuple es kk pos) (vN n pr):=by
 let⟨e,a,b⟩:=h.h;exact⟨_,Za c a hn d,z'z b⟩
structure QI(X:Cx)(k:Md)(tg e:Expr)(pi:ia):Prop where
 h:∃ti,PI X tg e ti/\kI X.K k ti pi
section
theorem AE(h:QE X k l pl):QI X k tg l (Am pl):=by
 let⟨c,a,b⟩:=h.h;exact⟨_,XX a,S1 b⟩
theorem KR(h:QE X k l pl):QI X k tg l (Ao pl):=by
 let⟨c,a,b⟩:=h.h;exact⟨_,Zd a,Vb b⟩
theorem Lm(hm:X.mg "range"=none)(h:QA X k [l] ps)(c:do Gl X "range")(hs:do nv l X.env):QI X k tg (.Call (.Name "range" p) [l] [] pos) (xB ps):=by
 let⟨d,a,b⟩:=h.h;exact⟨_,Sr c hm a hs,YZ b⟩
theorem JA(hm:X.mg "enumerate"=none)(h:QA X k [l] ps)(c:do Gl X "enumerate")(hs:do nv l X.env):QI X k (.Tuple es x1 tpos) (.Call (.Name "enumerate" p) [l] [] pos) (Ak ps):=by
 let⟨d,a,b⟩:=h.h;exact⟨_,Yg c hm a hs,S2 b⟩
end
theorem bM(i:Nat)(h:QE X k e pe)(c:X.N.Nodup:=by assumption)(g: ~~~(lo<=i))(f:do X.N[i]?=some x)(j:Loc X.env.scope x:=by first |exact Or.inl rfl |exact Or.inr rfl)(hs:do swapsWith e (some (.Name x pos')) pos.line X.env=pure false)(d:kq X x:=by first |exact .inl rfl |exact .inr rfl |assumption):
  QS X k lo (.Assign [.Name x pos'] e pos) (xc i pe):=by
 let⟨l,a,b⟩:=h.h;exact⟨_,zB c f j a hs d,VX g b⟩
theorem k6(h:QE X k e pe)(j:QG X k lo tg pg)(f:do swapsWithSole [tg] e pos.line X.env=pure false)(g:do swappedStores [tg] e X.env=pure none)(i:do (assignEach [tg] X.env).map (·.2)=[assign tg X.env]):QS X k lo (.Assign [tg] e pos) (xx pe pg):=by
 ∎;let⟨l,a,b⟩:=h.h;let⟨m,c,d⟩:=j.h;∎;exact⟨_,HB a c f g i,YT b d⟩
theorem Ln(i j:Nat){x y:Str}{ps:cG}{g l pt c:Pos}{f k2:Nat}(h:QA X k [a,b] ps)(p:do X.calm=true)(o:X.N.Nodup:=by assumption)(s: ~~~(lo<=i))(e: ~~~(lo<=j))(q:do X.N[i]?=some x)(r:do X.N[j]?=some y)(d: ~~~(i≠j))(u:do X.env.scope.names.lookup x=some .local)(v:do X.env.scope.names.lookup y=some .local)(hs:do swappedStores [.Tuple [.Name x g,.Name y l] f pt] (.Tuple [a,b] k2 c) X.env=pure (some [x,y]))(hw:do swapsWithSole [.Tuple [.Name x g,.Name y l] f pt] (.Tuple [a,b] k2 c) pos.line X.env=pure false):QS X k lo (.Assign [.Tuple [.Name x g,.Name y l] f pt] (.Tuple [a,b] k2 c) pos) (xy i j ps):=by
 let⟨w,m,n⟩:=h.h;exact⟨_,Zc p o q r d u v m hs hw,YU s e n⟩
theorem rM(l:QI X k tg iter pi)(j:QG X k lo tg pg)(g:QB X k lo body pb)(m:PassesOwn (model X.prog X.w) X.A X.env X.xe:=by first |exact PassesOwn.never |exact dW rfl)(i:do X.calm=true)(hs:∀x,foldedSetIterable iter X.env x=pure x:=by intro _;rfl):QS X k lo (.For tg iter body [] pos) (xA pi pg pb):=by
 ∎;let⟨o,e,f⟩:=l.h;let⟨p,c,d⟩:=j.h;let⟨n,a,b⟩:=g.h;∎;exact⟨_,HC m i e c a hs,YX f d b⟩
theorem rr(p:QE X k o po)(n:QG X k.walk lo (.Tuple elts x1 tpos) pg)(l:QB X k.walk lo body pb)(hz:do k.z=true)(q:PassesOwn (model X.prog X.w) X.A X.env X.xe:=by first |exact PassesOwn.never |exact dW rfl)(m:do X.calm=true)(g:do attributeBase o "items" X.env (eval o X.env)=eval o X.env)(i:do (apos.endLine == bP.line)=true)(j:∀x,foldedSetIterable (.Call (.Attribute o "items" apos) [] [] bP) X.env x=pure x:=by intro _;rfl):
  QS X k lo (.For (.Tuple elts x1 tpos) (.Call (.Attribute o "items" apos) [] [] bP) body [] pos) (wO .it po pg pb):=by
 ∎;let⟨s,c,d⟩:=p.h;let⟨u,e,f⟩:=n.h;let⟨r,a,b⟩:=l.h;∎;exact⟨_,X6 q m c e a g i j,Vi hz d f b⟩
theorem ec(i:Nat)(b:do X.N[i]?=some x)(hv:jz X.env.scope x:=by first |exact Or.inl rfl |exact Or.inr (Or.inl rfl) |exact Or.inr (Or.inr rfl))(hd: ~~~(cI x))(a: ~~~((x == ("__classdict__":Str))=false)):PE X (.Name x pos) (tR X.K i []):=l9 b hv hd a
theorem z'P(n:PE X o (tR X.K i r))(m:QE X k j pj)(h:QE X k e pe)(ha:∀v,assign (.Subscript o j pos') X.env v=(do
   let ov <- holding [v] (eval o X.env)
   let iv <- holding [v,ov] (eval j X.env)
   standAt pos'
   holding [v,ov,iv] (setItem ov iv v)
   release [v,ov,iv] []):=by intro _;rfl)(f:do swapsWithSole [.Subscript o j pos'] e pos.line X.env=pure false)(g:do swappedStores [.Subscript o j pos'] e X.env=pure none)(l:do (assignEach [.Subscript o j pos'] X.env).map (·.2)=[assign (.Subscript o j pos') X.env]):
  QS X k lo (.Assign [.Subscript o j pos'] e pos) (wL X.K i r pj pe):=by
 ∎;let⟨p,a,b⟩:=h.h;let⟨q,c,d⟩:=m.h;∎;exact⟨_,HB a (Zb n c UO ha) f g l,Ve b d⟩
theorem mL(g:PE X o (tR X.K i r))(f:QE X k j pj)(h:QE X k e pe)(hu:X.A.units+1<cLine:=by assumption)(hs:do swapsWith e (some (.Subscript o j pos')) pos.line X.env=pure false):QS X k lo (.Assign [.Subscript o j pos'] e pos) (xC X.K i r pj pe):=by
 ∎;let⟨l,a,b⟩:=h.h;let⟨m,c,d⟩:=f.h;∎;exact⟨_,X3 hu g c a hs,Y0 b d⟩
theorem f6(c:PE X o (tR X.K i r))(h:QE X k e pe)(hs:do swapsWith e (some (.Attribute o f pos')) pos.line X.env=pure false):QS X k lo (.Assign [.Attribute o f pos'] e pos) (wN X.K i r f pe):=by
 let⟨d,a,b⟩:=h.h;exact⟨_,Zi c a hs,Vh b⟩
structure AV(X:Cx)(scope:Scope)(N:ag)(js:List Nat)(e:Expr)(pg:eH):Prop where
 h:∃tg,(∀C s H fp pl,PG (dQ X scope N C s H fp pl) e tg)/\xE X.K js tg pg
section
theorem vH(i:Nat)(b: ~~~(N.Nodup))(c:do N[i]?=some x)(a:∀C s H fp pl,(dQ X scope N C s H fp pl).env.scope.names.lookup x=some .local:=by intros;rfl):AV X scope N [i] (.Name x pos) (r9 i):=⟨_,λC s H fp pl=>Gs (X:=dQ X scope N C s H fp pl) b c (.inl (a C s H fp pl)) (.inr (a C s H fp pl)),Z6⟩
structure AW(Y:Cx)(k:Md)(es:bT)(pt:d9):Prop where
 h:sx Y es (DI Y.K k pt)
theorem Y7:AW X k [] tS:=⟨λaa s j H Q I a=>by let⟨F,B,y,b,c,d,e⟩:=a;exact Yc aa s j H Q I (Y4 (k:=k) F B H j y Q b c d e)⟩
variable{elt target iter:Expr}{ifs:bT}{ix:bI}{pi:ia}{pg:eH}{pt:d9}{pe:aY}{js:List Nat}
theorem vd(N:ag)(ix:bI)(p:QI X k target iter pi)(o:AV X a N js target pg)(he:∀C s H fp pl,QE (dQ X a N C s H fp pl) k.iV elt pe)(r:∀C s H fp pl,AW (dQ X a N C s H fp pl) k.iV ifs pt:=by exact λ_ _ _ _ _=>Y7)(n:do X.calm=true)(f:bU X a N ix:=by repeat first |exact True.intro |refine⟨rfl,rfl,rfl,?_⟩)(q: ~~~(∀j∈js,ix[j]?=some none))(d:do a.kind=.function)(c: ~~~(∀y∈a.names,y.2≠.cell))(b: ~~~(∀x∈a.names,x.2=.local->a.names.lookup x.1=some .local))(e:do jJ a X.env=true)(hs:∀x,foldedSetIterable iter X.env x=pure x:=by intro _;rfl):
  QE X k (.ListComp elt [⟨target,iter,ifs,0⟩] a pos) (wR pi pg pt pe ix):=by
 ∎;let⟨u,l,m⟩:=p.h;let⟨v,g,i⟩:=o.h;∎;exact⟨_,Ye n l g (λC s H fp pl=>(r C s H fp pl).h) (λC s H fp pl=>(he C s H fp pl).of) f d c b e hs,Vl m i Y6 z'L q⟩
end
end
section
def wt(q:af->Prop)(C:ae)(a:aY):cL:=λ_ j=>a (j.map aJ) λ_=>q (.ref C)
theorem S4(h:bt K ⟨z,λ_=>E,q⟩ te pe):cO K ⟨z,λ_=>E,q⟩ lo (CQ C E te) (wt q C pe):=λus f d F H j y i D e W p L=>
 h F (Bq d H) H j _ _ _ W.fF p λt v a b c q o=>W.x (.ref C) j a b q (W.g.trans' o.g)
@[reducible] def akX(K:ak)(C:ae)(a:af):Prop:=W.exmOne K a (.ref C)=some true
end
section
theorem dr(h:lI (b9 X.prog X.w) X E):∀j,il (b9 X.prog X.w) X j E:=λj aa H s e a I c=>h aa j H s e a I c
theorem iP(hs:X.stack=X.env::X.outer)(j:X.env.frame=some X.env.locals)(c:X.ex=[])(f:sC X E)(a:X.calm=true)(l:Gl X x)(hm:X.mg x=some (.ref C))(FB:ExcBaseFacts B newId initId bmB)(m:W.excIn X.K C bmB newId=true)(he:QE X ⟨z,λ_=>E,q⟩ e₀ pe)(b: ~~~(cI x))(e:do eA e₀ [] X.env)(d:do e9 bP [] X.env):
  QS X ⟨z,λ_=>E,q⟩ lo (.Raise (some (.Call (.Name x np) [e₀] [] bP)) none pos) (wt q C pe):=by
 let⟨n,g,i⟩:=he.h;exact⟨_,VA hs j c f a l hm FB m g b e d,S4 i⟩
end
section
theorem Rs.Ei:∀{bs:List Bool}{vs:ax}{c:Cs},Rs K F B (bs.map .bl) vs c->vs=bs.map V.bl
 |[],_,_,y=>by let⟨h,_⟩:=y;exact h
 |b::bs,_,_,y=>by let⟨v,r,c,d,a,g,e,f⟩:=y;rw[a,Rs.Ei f,e.1];rfl
def DJ(all:Bool)(a:ah)(Q:aq):Prop:=match a with
 |[.av _ xs]=>∃bs:List Bool,xs=bs.map .bl /\ Q (.bl (if all=true then bs.all id else bs.any id))
 |_=>False
theorem zo:h9 K k (λxs H Q=>∃(a:ae)(bs:List Bool),xs=[.ref a]/\bY K H a (bs.map V.bl)/\Q (.bl (bs.all id)) H) (DJ true):=λF B H xs i g Q f s b z r e p q=>by
 unfold DJ at p;split at p
 .obtain⟨v,rfl,r1⟩:=r.one;∎;let⟨a,vs,h,rfl,c,d,_⟩:=r1.cF s b e;let⟨bs,rfl,p⟩:=p;∎;rw[d.Ei] at c;exact⟨a,bs,rfl,c,q _ _ F H [] p (Gr.aI s) ⟨rfl,rfl⟩ .nil λ_ m=>nomatch m⟩
 .exact p.elim
theorem KS(a:ah)(b:Gl X x)(hm:X.mg x=some (.ref c))(e:∃(o:Obj)(bo:dh)(n:Nat),X.K.lookup c=some o/\o.cls=.type "tuple"/\o.data=.seq bo n/\bo.size<=sizeLine/\aL vs bo.toList)(d:∀F B,Rs X.K F B a vs [])(hd: ~~~(cI x)):QE X k (.Name x pos) (pC (.aA a)):=
 rp (.ref c) b hm rfl (λF B=>⟨c,vs,rfl,.inr e,d F B⟩) hd
theorem Hg:∀(a:cW),Rs K F B (a.map .int) (a.map V.int) []
 |[]=>⟨rfl,rfl⟩
 |i::a=>⟨.int i,a.map V.int,[],[],rfl,rfl,⟨rfl,rfl⟩,Hg a⟩
theorem j5(a:cW)(hm:X.mg x=some (.ref c))(d:∃(o:Obj)(bo:dh)(n:Nat),X.K.lookup c=some o/\o.cls=.type "tuple"/\o.data=.seq bo n/\bo.size<=sizeLine/\aL (a.map V.int) bo.toList)(b:do Gl X x)(hd: ~~~(cI x)):QE X k (.Name x pos) (pC (.aA (a.map .int))):=
 KS _ b hm d (λ_ _=>Hg a) hd
theorem rT(hm:X.mg x=some (.int i t))(a:do Gl X x)(hd: ~~~(cI x)):QE X k (.Name x pos) (pC (.int i)):=rp (.int i) a hm ⟨_,rfl⟩ (λ_ _=>⟨rfl,rfl⟩) hd
theorem vI(hm:X.mg x=some (.str i t))(a:do Gl X x)(hd: ~~~(cI x)):QE X k (.Name x pos) (pC (.str i)):=rp (.str i) a hm ⟨_,rfl⟩ (λ_ _=>⟨rfl,rfl⟩) hd
theorem JB(hm:X.mg x=some (.ref c))(a:do Gl X x)(hd: ~~~(cI x)):QE X k (.Name x pos) (pC (.cl c)):=rp (.ref c) a hm rfl (λ_ _=>⟨rfl,rfl⟩) hd
end
section
theorem Rk.fst:∀{m:bN}{vs:cv}{c:Cs},Rk K F B m vs c->vs.map (·.1)=m.map (·.1)
 |[],_,_,y=>by let⟨h,_⟩:=y;rw[h];rfl
 |(y,x)::m,_,_,y0=>by let⟨v,r,c,d,a,e,f,b⟩:=y0;rw[a,map_cons,map_cons,Rk.fst b]
end
section
theorem vk(K:ak)(hm:X.mg x=none)(ha:QA X k (e::es) ps)(c:do X.K=K)(d:do Gl X x)(hv:do bootBuiltins x=some (.builtin "isinstance"))(hn: ~~~(x≠"__name__"))(a: ~~~(cI x))(he:do eA e es X.env)(b:do e9 pos es X.env):
  QE X k (.Call (.Name x p) (e::es) [] pos) (pB (vV K) ps):=by
 subst c;exact e4 UW Z2 hm ha d hv hn a he b
theorem cm(K:ak)(h:QE X k e pe)(a:do X.K=K)(b:do attributeBase e f X.env (eval e X.env)=eval e X.env):QE X k (.Attribute e f pos) (p1 (gP K f) pe):=by
 subst a;exact Ll h b
end
mutual
noncomputable def Cl:Tr->Bool
 |.aA a=>gi a
 |.av .f a=>gi a
 |.a9 .f a=>lC a
 |.ins .f _ a=>sj a
 |.av _ _=>false
 |.a9 _ _=>false
 |.ins _ _ _=>false
 |_=>true
noncomputable def gi:List Tr->Bool
 |[]=>true |x::xs=>Cl x&&gi xs
noncomputable def lC:List (aU×Tr)->Bool
 |[]=>true |(_,x)::xs=>Cl x&&lC xs
noncomputable def sj:List (Str×Tr)->Bool
 |[]=>true |(_,x)::xs=>Cl x&&sj xs
end
structure LG(t:Tr):Prop where
 l:aJ t=t
 f:aB t=t
 d:dn t=t
 o:b5 t=true
 t:bW t=true
structure NI(t:ah):Prop where
 l:cQ t=t
 f:bV t=t
 d:cp t=t
 o:dV t=true
 t:ef t=true
structure NJ(t:bN):Prop where
 l:dI t=t
 f:fw t=t
 d:iT t=t
 o:gF t=true
 t:gE t=true
structure NK(t:bK):Prop where
 l:de t=t
 f:fv t=t
 d:gV t=t
 o:dt t=true
 t:eL t=true
mutual
theorem d4:∀(t:Tr),Cl t=true->LG t
 |.int _,_=>⟨rfl,rfl,rfl,rfl,rfl⟩
 |.bl _,_=>⟨rfl,rfl,rfl,rfl,rfl⟩
 |.str _,_=>⟨rfl,rfl,rfl,rfl,rfl⟩
 |.aZ,_=>⟨rfl,rfl,rfl,rfl,rfl⟩
 |.aF,_=>⟨rfl,rfl,rfl,rfl,rfl⟩
 |.ty _,_=>⟨rfl,rfl,rfl,rfl,rfl⟩
 |.cl _,_=>⟨rfl,rfl,rfl,rfl,rfl⟩
 |.exc _,_=>⟨rfl,rfl,rfl,rfl,rfl⟩
 |.aA xs,h=>have c:=fM xs h;⟨by show Tr.aA (cQ xs)=_;rw[c.l],by show Tr.aA (bV xs)=_;rw[c.f],by show Tr.aA (cp xs)=_;rw[c.d],c.o,c.t⟩
 |.av .f xs,h=>have c:=fM xs h;⟨rfl,rfl,by show Tr.av .f (cp xs)=_;rw[c.d],c.o,c.t⟩
 |.a9 .f xs,h=>have c:=hU xs h;⟨rfl,rfl,by show Tr.a9 .f (iT xs)=_;rw[c.d],c.o,c.t⟩
 |.ins .f a xs,h=>have c:=qU xs h;⟨rfl,rfl,by show Tr.ins .f a (gV xs)=_;rw[c.d],c.o,c.t⟩
theorem fM:∀(t:List Tr),gi t=true->NI t
 |[],_=>⟨rfl,rfl,rfl,rfl,rfl⟩
 |x::xs,h=>by
  have h:(Cl x&&gi xs)=true:=h;rw[and_eq_true] at h;have a:=d4 x h.1;have b:=fM xs h.2;exact⟨by show aJ x::cQ xs=_;rw[a.l,b.l],by show aB x::bV xs=_;rw[a.f,b.f],by show dn x::cp xs=_;rw[a.d,b.d],by show (b5 x&&dV xs)=_;rw[a.o,b.o];rfl,by show (bW x&&ef xs)=_;rw[a.t,b.t];rfl⟩
theorem hU:∀(t:List (aU×Tr)),lC t=true->NJ t
 |[],_=>⟨rfl,rfl,rfl,rfl,rfl⟩
 |(k,x)::xs,h=>by
  have h:(Cl x&&lC xs)=true:=h;rw[and_eq_true] at h;have a:=d4 x h.1;have b:=hU xs h.2;exact⟨by show (k,aJ x)::dI xs=_;rw[a.l,b.l],by show (k,aB x)::fw xs=_;rw[a.f,b.f],by show (k,dn x)::iT xs=_;rw[a.d,b.d],by show (b5 x&&gF xs)=_;rw[a.o,b.o];rfl,by show (bW x&&gE xs)=_;rw[a.t,b.t];rfl⟩
theorem qU:∀(t:List (Str×Tr)),sj t=true->NK t
 |[],_=>⟨rfl,rfl,rfl,rfl,rfl⟩
 |(k,x)::xs,h=>by
  have h:(Cl x&&sj xs)=true:=h;rw[and_eq_true] at h;have a:=d4 x h.1;have b:=qU xs h.2;exact⟨by show (k,aJ x)::de xs=_;rw[a.l,b.l],by show (k,aB x)::fv xs=_;rw[a.f,b.f],by show (k,dn x)::gV xs=_;rw[a.d,b.d],by show (b5 x&&dt xs)=_;rw[a.o,b.o];rfl,by show (bW x&&eL xs)=_;rw[a.t,b.t];rfl⟩
end
class ao(α:Type) where
 t:α->Tr
 c:∀a,Cl (t a)=true
 h:∀a,t a≠.aF
theorem mB[ao j]:∀xs:List j,gi ↥xs=true
 |[]=>rfl
 |x::xs=>by show (Cl (ao.t x)&&gi ↥xs)=true;rw[ao.c x,mB xs];rfl
theorem om[ao j]:∀xs:List (aU×j),lC (xs.map λp=>(p.1,ao.t p.2))=true
 |[]=>rfl
 |x::xs=>by show (Cl (ao.t x.2)&&lC (xs.map λp=>(p.1,ao.t p.2)))=true;rw[ao.c x.2,om xs];rfl
instance:ao Int:=⟨.int,λ_=>rfl,λ_ z=>by cases z⟩
instance:ao Str:=⟨.str,λ_=>rfl,λ_ z=>by cases z⟩
instance:ao Bool:=⟨.bl,λ_=>rfl,λ_ z=>by cases z⟩
instance:ao Rat:=⟨λq=>.aA [.int q.num,.int (q.den:Int)],λ_=>rfl,λ_ z=>by cases z⟩
instance {j:Type} [ao j]:ao (List j):=⟨λxs=>.av .f ↥xs,λxs=>mB xs,λ_ z=>by cases z⟩
instance {j y:Type} [ao j] [ao y]:ao (j ⊕ y):=⟨λx=>match x with |.inl a=>ao.t a |.inr b=>ao.t b,λx=>by cases x<;>exact ao.c _,λx=>by cases x<;>exact ao.h _⟩
instance {j y:Type} [ao j] [ao y]:ao (j×y):=⟨λx=>.aA [ao.t x.1,ao.t x.2],λx=>by show (Cl _&&(Cl _&&true))=true;rw[ao.c,ao.c];rfl,λ_ z=>by cases z⟩
section
variable{α β:Type}[ao α][ao β](a:α)(xs:List α)
@[simp] theorem V1(n:Int):ao.t n=.int n:=rfl
@[simp] theorem V2(n:Str):ao.t n=.str n:=rfl
@[simp] theorem C'm(n:Bool):ao.t n=.bl n:=rfl
theorem oR(q:Rat):ao.t q=.aA [.int q.num,.int (q.den:Int)]:=rfl
theorem Oa:aJ (ao.t a)=ao.t a:=(d4 _ (ao.c a)).l
theorem uB:aB (ao.t a)=ao.t a:=(d4 _ (ao.c a)).f
theorem ym:dn (ao.t a)=ao.t a:=(d4 _ (ao.c a)).d
theorem fO:b5 (ao.t a)=true:=(d4 _ (ao.c a)).o
theorem yn:bW (ao.t a)=true:=(d4 _ (ao.c a)).t
theorem IK:cQ ↥xs=↥xs:=(fM _ (mB xs)).l
theorem z6:bV ↥xs=↥xs:=(fM _ (mB xs)).f
theorem rP:cp ↥xs=↥xs:=(fM _ (mB xs)).d
theorem z7:dV ↥xs=true:=(fM _ (mB xs)).o
theorem rQ:ef ↥xs=true:=(fM _ (mB xs)).t
end
class inductive Fp:Fl->Prop where
 |f:Fp .f
 |l:Fp (.l false)
instance:Fp .f:=.f
instance:Fp (.l false):=.l
section
variable{f:Fl}[h:Fp f]
theorem zA:aJ (.av f xs)=.av f xs:=by cases h<;>rfl
theorem S5:aB (.av f xs)=.av f xs:=by cases h<;>rfl
theorem Gg:dn (.av f xs)=.av f (cp xs):=by cases h<;>rfl
theorem Gh{j:Type}[ao j]{xs:List j}:bW (.av f ↥xs)=true:=by cases h<;>first |exact rQ xs |rfl
theorem Lo:aJ (.a9 f xs)=.a9 f xs:=by cases h<;>rfl
theorem z'R:aB (.a9 f xs)=.a9 f xs:=by cases h<;>rfl
theorem Gi:dn (.a9 f xs)=.a9 f (iT xs):=by cases h<;>rfl
theorem z'S{j:Type}[ao j]{xs:List (aU×j)}:bW (.a9 f (xs.map λp=>(p.1,ao.t p.2)))=true:=by cases h<;>first |exact (hU _ (om xs)).t |rfl
end
section
variable{α:Type}[ao α]{xs:List (aU×α)}
theorem KU:dI (xs.map λp=>(p.1,ao.t p.2))=xs.map λp=>(p.1,ao.t p.2):=(hU _ (om xs)).l
theorem KW:fw (xs.map λp=>(p.1,ao.t p.2))=xs.map λp=>(p.1,ao.t p.2):=(hU _ (om xs)).f
theorem KY:iT (xs.map λp=>(p.1,ao.t p.2))=xs.map λp=>(p.1,ao.t p.2):=(hU _ (om xs)).d
end
section
def lM(pa:cG):cG:=λj Q=>pa j λts=>Q (bV ts)
theorem Vm(h:fD K k ta pa):fD K k ta (lM pa):=λF B H j y Q g c p q=>by
 refine h F B H j y _ _ c p λl vs f b i p1 e=>?_
 let⟨a,d,r2⟩:=e.held;exact q _ vs a b [] p1 ⟨d,r2,.nil,.nil⟩
theorem QA.aB(h:QA X k es pa):QA X k es (lM pa):=by
 let⟨c,a,b⟩:=h.h;exact⟨c,a,Vm b⟩
end
theorem tV(x:j)(xs:List j):cU (x::xs) 0=some x:=by unfold cU hW;simp
theorem tW(x y:j)(xs:List j):cU (x::y::xs) 1=some y:=by unfold cU hW;rw[if_pos ⋯,if_pos (by simp only[length_cons];omega)];rfl
def cA(n:Nat)(g:ah->(aq)->Prop):bQ:=λa Q=>a.length=n/\g a λt=>∀j,Q t j
def NL:bQ:=cA 2 λc Q=>∃a b,c=[.int a,.int b]/\0<=a/\0<=b/\Q (.int (gd a b))
def CV:bQ:=cA 2 λc Q=>∃a b,c=[.int a,.int b]/\b≠0/\bi b<=7990/\Q (ao.t (Rat.divInt a b))
theorem Ja(e:b≠0)(h:bi b<=k):bi (gd a b)<=k:=by
 refine rH ?_;have c:=k4 h;have d:(gd a b).natAbs<=b.natAbs:=Nat.le_of_dvd ⋯ (Int.natAbs_dvd_natAbs.mpr (uo a b));omega
theorem uF(c:b≠0)(h:bi b<=7990):dY x (gd a b):=⟨by have:=oB (a:=a) c;omega,k4 (le_trans (Ja c h) (show 7990<=8000 by omega))⟩
theorem Gj(c:b≠0)(h:bi b<=7990):dY x (-gd a b):=⟨by have:=oB (a:=a) c;omega,by rw[Int.natAbs_neg];exact k4 (le_trans (Ja c h) (show 7990<=8000 by omega))⟩
def nS(f:Rat->Rat->Rat):bQ:=cA 2 λc Q=>∃a b:Rat,c=[ao.t a,ao.t b]/\bs a+bs b<=7990/\Q (ao.t (f a b))
theorem f7(a:bi x<=n)(b:bi y<=m)(h:n+m<=60000000):ky x y:=rJ ⋯ ⋯
theorem qZ(a b:Rat)(h:bs a+bs b<=7990):bi ((a.den:Int)*b.den)<=7990:=le_trans (oC _ _) (by have:=dP a;have:=dP b;omega)
theorem y1(a b:Rat):(a.num*(b.den:Int)<b.num*(a.den:Int))↔a<b:=by
 rw[Rat.lt_iff]
def Cr:bQ:=cA 2 λc Q=>∃a b:Rat,c=[ao.t a,ao.t b]/\bs a+bs b<=60000000/\Q (.bl (decide (a<b)))
theorem z'T(t:Tr)(a:ah)(Q:aq):pC t a Q=(Q t):=rfl
theorem z'U(c:Tr->Tr->(aq)->Prop)(a b:aY)(j:ah)(Q:aq):p2 c a b j Q=(a j λx=>b j λy=>c x y Q):=rfl
theorem z'V(b:Tr->(aq)->Prop)(a:aY)(j:ah)(Q:aq):Pu.p1 b a j Q=(a j λx=>b x Q):=rfl
theorem S6:tO j' Q=(Q []):=rfl
theorem RF:w5 pe pa j Q=(pe j λx=>pa j λxs=>Q (x::xs)):=rfl
theorem S7:xl pa j Q=(pa j λxs=>xs.length<=10000/\Q (.aA xs)):=rfl
theorem S8:xm pa j Q=(pa j λxs=>xs.length<=10000/\Q (.av .o xs)):=rfl
theorem z'W(a:aY)(j:ah)(Q:Bool->Prop):pT a j Q=(a j λx=>eF x Q):=rfl
theorem S9(a b:d9)(j:ah)(Q:Bool->Prop):xo a b j Q=(a j λc=>if c=true then b j Q else Q false):=rfl
theorem V3(a b:d9)(j:ah)(Q:Bool->Prop):Ag a b j Q=(a j λc=>if c=true then Q true else b j Q):=rfl
theorem Ta(a:d9)(j:ah)(Q:Bool->Prop):xp a j Q=(a j λc=>Q (!c)):=rfl
theorem RG:w9 pa pb j Q=(pa j λx=>eF x λc=>if c=true then pb j Q else Q (.bl false)):=rfl
theorem Tb:xq pa pb j Q=(pa j λx=>eF x λc=>if c=true then Q (.bl true) else pb j Q):=rfl
theorem RH:xa pa j Q=(pa j λx=>eF x λc=>Q (.bl (!c))):=rfl
theorem V4:Af pc pa pb j Q=(pc j λc=>if c=true then pa j Q else pb j Q):=rfl
theorem Tc:xr p q D j=(p { D with nx:=q D } j):=rfl
theorem RI:xb D j=(D.nx j):=rfl
theorem Td(i:Nat)(a:aY)(D:Pd)(j:ah):xt i a D j=(a (j.map aJ) λt=>bW t=true/\D.nx (j.set i t)):=rfl
theorem T6:xu pe D j=(pe (j.map aJ) λt=>b5 t=true/\D.rt t j):=rfl
theorem z'X:xv pc p q D j=(pc (j.map aJ) λb=>if b=true then p D j else q D j):=rfl
theorem Qq:wJ q aQ pa j Q=(pa j λa=>aQ (cp a) (λt _=>Q t) q):=rfl
theorem RJ:tE aQ pa j Q=(pa j λa=>aQ (cp a) λt _=>Q t):=rfl
theorem z'Y(b:ah->(aq)->Prop)(a:cG)(j:ah)(Q:aq):pB b a j Q=(a j λc=>b c Q):=rfl
theorem Qr:wK D' j'=(False):=rfl
theorem Rj(i:Nat)(a:aY)(D:Pd)(j:ah):xc i a D j=(a (j.map aJ) λt=>bW t=true/\D.nx (j.set i (aB t))):=rfl
theorem V5(i:Nat)(t:Tr)(j:ah)(Q:aG):r9 i t j Q=(Q (j.set i t)):=rfl
theorem Qs:tm ts j Q=(match ts with |[]=>Q j |_=>False):=rfl
theorem O9(pg:eH)(a:ah->ah->(aG)->Prop)(b:ah)(j:ah)(Q:aG):tD pg a b j Q=(match b with |t::r=>pg t j λc=>a r c Q |[]=>False):=rfl
theorem V6(n:Nat)(a:ah->ah->(aG)->Prop)(t:Tr)(j:ah)(Q:aG):vN n a t j Q=(match t with |.aA b=>b.length=n/\a b j Q |_=>False):=rfl
theorem T7:xx pe pg D j=(pe (j.map aJ) λt=>bW t=true/\pg (aB t) j D.nx):=rfl
theorem T8(i j:Nat)(c:cG)(D:Pd)(y:ah):xy i j c D y=(c (y.map aJ) λd=>match d with |[a,b]=>bW a=true/\bW b=true/\D.nx ((y.set i (aB a)).set j (aB b)) |_=>False):=rfl
theorem V7(a:aY)(j:ah)(Q:ah->Bool->Prop):Am a j Q=(a j λt=>lV (aB t) λxs=>Q xs (bW (aB t))):=rfl
theorem V8(a:aY)(j:ah)(Q:ah->Bool->Prop):Ao a j Q=(a j λt=>vW (aB t) λxs=>Q xs (bW (aB t))):=rfl
theorem V9(a:cG)(j:ah)(Q:ah->Bool->Prop):Ak a j Q=(a j λb=>qI b λt=>lV (aB t) λxs=>Q (xs.mapIdx λi x=>.aA [.int i,x]) (bW (aB t))):=rfl
theorem T9(a:cG)(y:ah)(Q:ah->Bool->Prop):xB a y Q=(a y λb=>tF b λj=>-1000000<=j/\j<=1000000/\Q ((List.range j.toNat).map λ(i:Nat)=>.int i) true):=rfl
theorem Rm(K:ak)(i:Nat)(r:ag)(c b:aY)(D:Pd)(j:ah):wL K i r c b D j=(b (j.map aJ) λt=>bW t=true/\iD K j i r λu s=>qE u λxs=>c (j.map aJ) λy=>qz xs y (aB t) λa=>D.nx (s (.av .o a))):=rfl
theorem Ua(K:ak)(i:Nat)(r:ag)(b a:aY)(D:Pd)(j:ah):xC K i r b a D j=(a (j.map aJ) λt=>bW t=true/\iD K j i r λu s=>nQ u λm=>b (j.map aJ) λy=>kJ y λy=>m.length<1000000/\D.nx (s (.a9 .o (jN m y (aB t))))):=rfl
theorem Rn:wM j' Q=(Q (.a9 .o [])):=rfl
theorem Ro(K:ak)(i:Nat)(r:ag)(f:Str)(a:aY)(D:Pd)(j:ah):wN K i r f a D j=(a (j.map aJ) λt=>bW t=true/\iD K j i r λu s=>kz K f u λc fs=>D.nx (s (.ins .o c (fX f t fs)))):=rfl
theorem Wa(a:ah)(Q:bE->Prop):Ax a Q=(Q none):=rfl
theorem Wb(a:aY)(j:ah)(Q:bE->Prop):Ay a j Q=(a j λx=>match x with |.int i=>Q (some i) |_=>False):=rfl
theorem Wc:Ah pe pl ph j Q=(pe j λx=>pl j λl=>ph j λh=>si x l h Q):=rfl
theorem Qt:wt q C pe D' j=(pe (j.map aJ) λ_=>q (.ref C)):=rfl
theorem Rp:lM pa j Q=(pa j λts=>Q (bV ts)):=rfl
theorem yp(n:Int):aJ (.int n)=(.int n):=rfl
theorem Rq:aJ (.str n)=(.str n):=rfl
theorem Qu:aJ .aF=.aF:=rfl
theorem ue(n:Int):Pu.aB (.int n)=(.int n):=rfl
theorem EY(n:Str):Pu.aB (.str n)=(.str n):=rfl
theorem yq(n:Int):dn (.int n)=(.int n):=rfl
theorem Rr:dn (.str n)=(.str n):=rfl
theorem mi(n:Int):b5 (.int n)=true:=rfl
theorem Ub:b5 (.bl n)=true:=rfl
theorem EZ(n:Str):b5 (.str n)=true:=rfl
theorem yr(n:Int):bW (.int n)=true:=rfl
theorem E1(n:Str):bW (.str n)=true:=rfl
theorem Rt:aJ (.aA xs)=.aA (cQ xs):=rfl
theorem E2(xs:ah):Pu.aB (.aA xs)=.aA (bV xs):=rfl
theorem Ru:dn (.aA xs)=.aA (cp xs):=rfl
theorem Rv:b5 (.aA xs)=dV xs:=rfl
theorem E3(xs:ah):bW (.aA xs)=ef xs:=rfl
theorem E4(xs:ah):aJ (.av .o xs)=.av (.l true) (cQ xs):=rfl
theorem Rw:Pu.aB (.av .o xs)=.av .f (bV xs):=rfl
theorem Uc:Pu.aB (.av (.l b) xs)=.av (.l b) xs:=rfl
theorem z'Z(b:Bool)(xs:ah):aJ (.av (.l b) xs)=.av (.l b) xs:=rfl
theorem E5(xs:ah):b5 (.av .o xs)=dV xs:=rfl
theorem E6(xs:ah):bW (.av .o xs)=ef xs:=rfl
theorem HG(xs:ah):b5 (.av .f xs)=dV xs:=rfl
theorem Y8(xs:bN):aJ (.a9 .o xs)=.a9 (.l true) (dI xs):=rfl
theorem Rx(xs:bN):Pu.aB (.a9 .o xs)=.a9 .f (fw xs):=rfl
theorem E7(xs:bN):b5 (.a9 .o xs)=gF xs:=rfl
theorem Ry(xs:bN):bW (.a9 .o xs)=gE xs:=rfl
def Loop(a:ah)(pg:eH)(c:cL)(D:Pd)(j:ah):Prop:=∃I:Nat->aG,I 0 j/\(∀i t j,a[i]?=some t->I i j->pg t j λb=>c { D with nx:=I (i+1),ct:=I (i+1),bk:=D.nx } b)/\∀j,I a.length j->D.nx j
theorem Ud:xA pi pg pb D j=(pi (j.map aJ) λb a=>a=true/\Loop b pg pb D j):=rfl
theorem Loop.map(ys:List G)(g:G->Tr){pg:eH}(J:Nat->aG)(b:J 0 u)(step:∀i y u,ys[i]?=some y->J i u->pg (g y) u λc=>pb { D with nx:=J (i+1),ct:=J (i+1),bk:=D.nx } c)(a:∀u,J ys.length u->D.nx u):Loop (ys.map g) pg pb D u:=by
 refine⟨J,b,λi t u h j=>?_,λu h=>a u (by rw[length_map] at h;exact h)⟩;rw[getElem?_map] at h;cases e:ys[i]? with
 |none=>rw[e] at h;cases h
 |some y=>rw[e] at h;cases h;exact step i y u e j
def pV(o:Option Tr)(Q:aq):Prop:=match o with |some .aF=>False |some t=>Q t |none=>False
theorem Ue(i:Nat)(j:ah)(Q:aq):tN i j Q=pV j[i]? Q:=rfl
theorem Wd[ao j](a:j)(Q:aq):pV (some (ao.t a)) Q=Q (ao.t a):=by
 have h:=ao.h a;generalize ao.t a=t at h;cases t with
 |aF=>exact absurd rfl h
 |_=>rfl
theorem We:pV (some (.int n)) Q=Q (.int n):=rfl
theorem Wf:pV (some (.str n)) Q=Q (.str n):=rfl
theorem Wg:pV (some (.aA xs)) Q=Q (.aA xs):=rfl
theorem Wh:pV (some (.av f xs)) Q=Q (.av f xs):=rfl
theorem WX(f:Fl)(xs:bN)(Q:aq):pV (some (.a9 f xs)) Q=Q (.a9 f xs):=rfl
theorem WY(f:Fl)(c:ae)(xs:bK)(Q:aq):pV (some (.ins f c xs)) Q=Q (.ins f c xs):=rfl
theorem Qv(q:Rat)(Q:aq):iq (ao.t q) (.int 0) Q=Q (.int q.num):=rfl
theorem Qw(q:Rat)(Q:aq):iq (ao.t q) (.int 1) Q=Q (.int (q.den:Int)):=rfl
theorem Ug:Tr.aA [.int 0,.int 1]=ao.t (0:Rat):=rfl
def cN(d:ah)(pg:eH)(pt:d9)(f:aY)(e:ah)(Q:aq):Prop:=∃I:Nat->aG,I 0 []/\
 (∀i t a,d[i]?=some t->I i a->pg t e λc=>pt c λb=>if b=true then f c λx=>a.length<1000000/\I (i+1) (a++[x]) else I (i+1) a)/\∀a,I d.length a->a.length<=1000000/\Q (.av .o a)
theorem Rz(b:ia)(pg:eH)(pt:d9)(a:aY)(ix:bI)(j:ah)(Q:aq):wR b pg pt a ix j Q=(b j λc _=>cN c pg pt a (lJ ix j) Q):=rfl
theorem cN.zO(ys:List j)(g:j->Tr)(h:j->Tr){pg:eH}{c:aY}{Q:aq}(d:ys.length<=1000000)(step:∀y∈ys,∀R:aq,R (h y)->pg (g y) j' λf=>c f R)(q:Q (.av .o (ys.map h))):cN (ys.map g) pg tS c j' Q:=by
 refine⟨λi b=>b=(ys.take i).map h,rfl,λi t b e a=>?_,λb a=>?_⟩
 .rw[getElem?_map] at e;cases e':ys[i]? with
  |none=>rw[e'] at e;cases e
  |some y=>
   rw[e'] at e;cases e;have l:=(List.getElem?_eq_some_iff.mp e').1;refine step y (mem_of_getElem? e') _ ⟨?_,?_⟩
   .rw[a,length_map,length_take];omega
   .show b++[h y]=(ys.take (i+1)).map h;rw[a,take_add_one,e',map_append];rfl
 .rw[length_map,take_length] at a;rw[a,length_map];exact⟨d,q⟩
theorem cN.map[ao j](ys:List u)(g:u->Tr)(h:u->j){pg:eH}{a:aY}{Q:aq}(b:ys.length<=1000000)(step:∀y∈ys,∀R:aq,R (ao.t (h y))->pg (g y) j' λc=>a c R)(q:Q (.av .o ((ys.map h).map ao.t))):cN (ys.map g) pg tS a j' Q:=
 cN.zO ys g (λy=>ao.t (h y)) b step (by rw[map_map] at q;exact q)
def bp{j:Type}[ao j](f:Fl)(m:List (Str×j)):Tr:=.a9 f (m.map λp=>(Sum.inr p.1,ao.t p.2))
theorem mC[ao j](m:List (Str×j)):(m.map λp=>((Sum.inr p.1:aU),ao.t p.2))=(m.map λp=>((Sum.inr p.1:aU),p.2)).map λp=>(p.1,ao.t p.2):=by rw[map_map];rfl
theorem GJ[ao j](m:List (Str×j)):Cl (bp .f m)=true:=by
 show lC (m.map λp=>((Sum.inr p.1:aU),ao.t p.2))=true;rw[mC];exact om _
theorem zG[ao j](m:List (Str×j))(x:Str):look (m.map λp=>((Sum.inr p.1:aU),ao.t p.2)) (Sum.inr x)=(b3 m x).map ao.t:=by
 unfold look b3
 induction m with
 |nil=>rfl
 |cons p m a=>
  rw[map_cons,find?_cons,find?_cons];by_cases h:p.1=x
  .rw[decide_eq_true (by rw[h]),decide_eq_true h];rfl
  .rw[decide_eq_false (λz=>h (Sum.inr.inj z)),decide_eq_false h];exact a
theorem WZ[ao j](f:Fl)(m:List (Str×j))(x:Str)(d:j)(Q:aq):tK (bp f m) (.str x) (ao.t d) Q=Q (ao.t ((b3 m x).getD d)):=by
 show Q ((look (m.map λp=>((Sum.inr p.1:aU),ao.t p.2)) (Sum.inr x)).getD (ao.t d))=_;rw[zG];cases b3 m x<;>rfl
def Dg(x:Tr):Prop:=match x with |.a9 _ _=>True |_=>False
theorem J1(d:Tr->Tr->Tr->(aq)->Prop)(a b c:aY)(j:ah)(Q:aq):p3 d a b c j Q=(a j λx=>Dg x/\b j λy=>c j λz=>d x y z Q):=rfl
theorem W0[ao j](f:Fl)(m:List (Str×j)):Dg (bp f m)=True:=rfl
def oQ(o:Option Tr)(Q:aq):Prop:=match o with |some t=>Q t |none=>False
theorem Uh(t:Tr)(Q:aq):oQ (some t) Q=Q t:=rfl
section
theorem Ui:iq (.aA xs) (.int i) Q=oQ (cU xs i) Q:=rfl
theorem y6:iq (.av f xs) (.int i) Q=oQ (cU xs i) Q:=rfl
theorem Uj(C:Int->Int->Prop)(t:Int->Int->Tr):gN C t (.int i) (.int j) Q=(C i j/\Q (t i j)):=rfl
theorem Uk:nW (.int i) (.int j) Q=Q (.int (i+j)):=rfl
theorem Ul:nW (.str x) (.str y) Q=(x.length+y.length<=1000000/\Q (.str (x++y))):=rfl
theorem Um:nW (.av f xs) (.av g ys) Q=(xs.length+ys.length<=1000000/\Q (.av .o (xs++ys))):=rfl
theorem W3:tP (.int i) (.int j) Q=(ky i j/\Q (.int (i*j))):=rfl
theorem w_lt:AL (.int i) (.int j) Q=Q (.bl (decide (i<j))):=rfl
theorem J2:AK (.int i) (.int j) Q=Q (.bl (decide (j<i))):=rfl
theorem W4:tQ (.int i) Q=Q (.int (-i)):=rfl
theorem W5:xw [.int i] Q=Q (.int (if i<0 then -i else i)):=rfl
theorem J3(R:Bool->Prop):eF (.bl b) R=R b:=rfl
theorem W7:jv false (.int i) (.int j) Q=Q (.bl (decide (i=j))):=rfl
theorem W8:jv false (.str x) (.str y) Q=Q (.bl (decide (x=y))):=rfl
theorem W9:jv true (.int i) (.int j) Q=Q (.bl (!decide (i=j))):=rfl
theorem Xa:jv true (.str x) (.str y) Q=Q (.bl (!decide (x=y))):=rfl
theorem Uo(k:Bool):qJ k [.av f xs] Q=Q (.int xs.length):=rfl
theorem Up:wQ [.av f xs] Q=Q (.av .o xs):=rfl
theorem Xb(R:aG):lV (.av f xs) R=R xs:=rfl
theorem Xc(t:Tr):qI [t] Q=Q t:=rfl
theorem Uq(R:Int->Prop):tF [.int i] R=R i:=rfl
end
abbrev kK:=List (Str×Rat)×Str×Rat×Int×Int
noncomputable instance (priority:=high) rowEnc:ao kK:=⟨λr=>.aA [bp .f r.1,.str r.2.1,ao.t r.2.2.1,.int r.2.2.2.1,.int r.2.2.2.2],λr=>by show (Cl (bp .f r.1)&&_)=true;rw[GJ];rfl,λ_ z=>by cases z⟩
theorem Xd(r:kK)(Q:aq):iq (ao.t r) (.int 0) Q=Q (bp .f r.1):=rfl
theorem Xe(r:kK)(Q:aq):iq (ao.t r) (.int 1) Q=Q (.str r.2.1):=rfl
theorem Xf(r:kK)(Q:aq):iq (ao.t r) (.int 2) Q=Q (ao.t r.2.2.1):=rfl
section
def nh(o:Option Tr)(R:aq):Prop:=match o with |some .aF=>False |some t=>R t |none=>False
theorem Xg(j:ah)(i:Nat)(Q:Tr->(Tr->ah)->Prop):iD K j i [] Q=nh j[i]? λt=>Q t λu=>j.set i u:=by
 unfold iD nh;cases j[i]? with
 |none=>rfl
 |some t=>cases t <;> first |rfl |exact propext ⟨λh=>h.2,λh=>⟨trivial,h⟩⟩
theorem Ur(f:Fl)(xs:ah)(R:aq):nh (some (.av f xs)) R=R (.av f xs):=rfl
theorem Us(f:Fl)(xs:bN)(R:aq):nh (some (.a9 f xs)) R=R (.a9 f xs):=rfl
theorem Ut:qE (.av .o xs) Q=Q xs:=rfl
theorem Uu(xs:bN)(Q:bN->Prop):nQ (.a9 .o xs) Q=Q xs:=rfl
end
section
variable{α:Type}[ao α]
theorem yt(xs:List α)(i:Int):cU ↥xs i=(cU xs i).map ao.t:=by
 unfold cU;rw[length_map];cases hW xs.length i with
 |none=>rfl
 |some n=>exact getElem?_map ..
theorem oG(xs:List j)(a:0<=i)(h:i.toNat<xs.length):cU xs i=some (xs[i.toNat]'h):=by
 unfold cU hW;rw[if_pos a,if_pos ⋯];exact List.getElem?_eq_getElem h
theorem mM[ao j](o:Option j)(Q:aq)(x:j)(h:o=some x)(q:Q (ao.t x)):oQ ↥o Q:=by rw[h];exact q
theorem RA(xs:List α)(l h:bE):jO ↥xs l h=(jO xs l h).map ao.t:=by
 unfold jO;rw[length_map,List.map_take,List.map_drop]
theorem Xh(f:Fl)(xs:ah)(l h:bE)(Q:aq):si (.av f xs) l h Q=Q (.av .o (jO xs l h)):=rfl
end
theorem vJ{p:cL}(J:aG)(a:∀N:aG,(∀j,J j->N j)->p { D with nx:=N } j)(b:∀j,J j->D.nx j):p D j:=a D.nx b
section
theorem a6.aF{i:Nat}(W:a6 K k lo us Fb Hb F H y G cs):a6 K k lo us Fb Hb F H y (G.set i .aF) (λj=>if j=i then [] else cs j) where
 g:=W.g
 z:=W.z
 l:=by rw[length_set];exact W.l
 e:=λj u h=>by
  by_cases e:j=i
  .subst e;have s:j<G.length:=by have:=(List.getElem?_eq_some_iff.mp h).1;rw[length_set] at this;exact this
   rw[getElem?_set_self s] at h;cases h;exact .inl rfl
  .rw[getElem?_set_ne (λz=>e z.symm)] at h;rw[if_neg e];exact W.e j u h
 c:=λj=>by
  split
  .exact .nil
  .exact W.c j
 n:=λj=>by
  split
  .exact .nil
  .exact W.n j
 d:=λa b ne p f q m=>by
  by_cases o:a=i
  .rw[if_pos o] at f;cases f
  .rw[if_neg o] at f;by_cases r:b=i
   .rw[if_pos r] at m;cases m
   .rw[if_neg r] at m;exact W.d a b ne p f q m
 p:=W.p
 x:=W.x
theorem a6.fz{i:Nat}(W:a6 K k lo us Fb Hb F H y G cs)(B:G[i]?=some t)(hn:t≠.aF):∃m,a6 K k lo us Fb Hb m H y (G.set i (Pu.aB t)) (λj=>if j=i then [] else cs j):=by
 rcases W.e i t B with rfl |⟨v,w,r⟩
 .exact absurd rfl hn
 let⟨o,a,s,e⟩:=(W.aF (i:=i)).lay (W.c i) (W.n i) (r.plain t) (λj p f q C=>by
  by_cases b:j=i
  .rw[if_pos b] at f;cases f
  .rw[if_neg b] at f;exact W.d j i b p f q C)
 refine⟨o,⟨a.g,a.z,by rw[length_set];exact W.l,λj u h=>?_,a.c,a.n,a.d,a.p,a.x⟩⟩;by_cases b:j=i
 .subst b;have A:j<G.length:=by have:=(List.getElem?_eq_some_iff.mp h).1;rw[length_set] at this;exact this
  rw[getElem?_set_self A] at h;cases h;exact .inr ⟨v,w,by rw[if_pos rfl];exact r.aB (Le.of s) t e⟩
 .exact a.e j u (by rw[getElem?_set_ne (λz=>b z.symm)] at h ⊢;exact h)
def vL(i:Nat)(p:cL):cL:=λD j=>pV j[i]? λt=>p D (j.set i (Pu.aB t))
theorem J4(h:cO K k lo ts p):cO K k lo ts (vL i p):=λus c d F H j y g D a W q L=>by
 unfold vL pV at q;split at q
 .exact q.elim
 .rename_i t hn e;let⟨b,f⟩:=W.fz e (λz=>hn (by rw[z]));exact h us c d b H j _ _ D a f q L
 .exact q.elim
theorem AF(i:Nat)(h:QB X k lo sts p):QB X k lo sts (vL i p):=by
 let⟨c,a,b⟩:=h.h;exact⟨c,a,J4 b⟩
theorem Xi(i:Nat)(p:cL)(D:Pd)(j:ah):vL i p D j=(pV j[i]? λt=>p D (j.set i (Pu.aB t))):=rfl
end
def dZ(w:Wm)(m:bN)(pg:eH)(b:cL)(D:Pd)(j:ah):Prop:=∃I:Nat->aG,I 0 j/\(∀i p j,m[i]?=some p->I i j->pg (wit w p) j λa=>b { D with nx:=I (i+1),ct:=I (i+1),bk:=D.nx } a)/\∀j,I m.length j->D.nx j
theorem RB(w:Wm)(b:aY)(pg:eH)(a:cL)(D:Pd)(j:ah):wO w b pg a D j=(b (j.map aJ) λt=>bW t=true/\tI (Pu.aB t) λm=>dZ w m pg a D j):=rfl
theorem dZ.map[ao G](m:List (Str×G)){pg:eH}(J:Nat->aG)(b:J 0 u)(step:∀i x y u,m[i]?=some (x,y)->J i u->pg (wit w (Sum.inr x,ao.t y)) u λc=>pb { D with nx:=J (i+1),ct:=J (i+1),bk:=D.nx } c)(a:∀u,J m.length u->D.nx u):dZ w (m.map λp=>((Sum.inr p.1:aU),ao.t p.2)) pg pb D u:=by
 refine⟨J,b,λi t u h j=>?_,λu h=>a u (by rw[length_map] at h;exact h)⟩;rw[getElem?_map] at h;cases e:m[i]? with
 |none=>rw[e] at h;cases h
 |some y=>rw[e] at h;cases h;exact step i y.1 y.2 u e j
theorem J5(x:Str)(t:Tr):wit .it (Sum.inr x,t)=.aA [.str x,t]:=rfl
section
variable{α:Type}[ao α](m:List (Str×α)){f:Fl}
theorem Uv(Q:bN->Prop):tI (bp .f m) Q=Q (m.map λp=>((Sum.inr p.1:aU),ao.t p.2)):=rfl
theorem U8[h:Fp f]:aJ (bp f m)=bp f m:=Lo
theorem U7[h:Fp f]:Pu.aB (bp f m)=bp f m:=z'R
theorem IG[h:Fp f]:dn (bp f m)=bp f m:=by
 unfold bp;rw[Gi,mC,KY]
theorem IJ[h:Fp f]:bW (bp f m)=true:=by
 unfold bp;rw[mC];exact z'S
theorem II:b5 (bp .f m)=true:=(d4 _ (GJ m)).o
theorem Uw:pV (some (bp f m)) Q=Q (bp f m):=rfl
theorem Xj(x:Str)(Q:aq):iq (bp f m) (.str x) Q=oQ ((b3 m x).map ao.t) Q:=by
 show (match look (m.map λp=>((Sum.inr p.1:aU),ao.t p.2)) (Sum.inr x) with |some t=>Q t |none=>False)=_;rw[zG];cases b3 m x<;>rfl
theorem Xk:aJ (bp .o m)=bp (.l true) m:=by
 show Tr.a9 (.l true) (dI _)=_;rw[mC,KU];unfold bp;rw[<- mC]
theorem y7:Pu.aB (bp .o m)=bp .f m:=by
 show Tr.a9 .f (fw _)=_;rw[mC,KW];unfold bp;rw[<- mC]
end
section
variable{α:Type}[ao α](m:List (Str×α))(f:Fl)
theorem Lp(x:Str):((m.map λp=>((Sum.inr p.1:aU),ao.t p.2)).any λb=>decide (b.1=Sum.inr x))=m.any λp=>decide (p.1=x):=by
 induction m with
 |nil=>rfl
 |cons p m a=>
  rw[map_cons,any_cons,any_cons,a,decide_eq_decide.mpr (show (Sum.inr p.1:aU)=Sum.inr x↔p.1=x from ⟨λh=>Sum.inr.inj h,λh=>by rw[h]⟩)]
theorem Xl(x:Str)(a:α):jN (m.map λp=>((Sum.inr p.1:aU),ao.t p.2)) (Sum.inr x) (ao.t a)=(gh m x a).map λp=>((Sum.inr p.1:aU),ao.t p.2):=by
 unfold jN gh;rw[Lp];split
 .rw[map_map,map_map];refine map_congr_left λp _=>?_
  show (if (Sum.inr p.1:aU)=Sum.inr x then _ else _)=_;by_cases h:p.1=x
  .rw[if_pos (by rw[h])];show _=((Sum.inr (if p.1=x then (p.1,a) else p).1:aU),ao.t (if p.1=x then (p.1,a) else p).2);rw[if_pos h]
  .rw[if_neg (λz=>h (Sum.inr.inj z))];show _=((Sum.inr (if p.1=x then (p.1,a) else p).1:aU),ao.t (if p.1=x then (p.1,a) else p).2);rw[if_neg h]
 .rw[map_append];rfl
theorem RC(R:aq):nh (some (bp f m)) R=R (bp f m):=rfl
theorem RD(Q:bN->Prop):nQ (bp .o m) Q=Q (m.map λp=>((Sum.inr p.1:aU),ao.t p.2)):=rfl
theorem Ux(x:Str)(Q:aU->Prop):kJ (.str x) Q=Q (Sum.inr x):=rfl
end
mutual
noncomputable def m6:Tr->Tr->Bool
 |.int a,.int b=>decide (a=b)
 |.str a,.str b=>decide (a=b)
 |.bl a,.bl b=>decide (a=b)
 |.aZ,.aZ=>true
 |.aA xs,.aA ys=>iY xs ys
 |.av _ xs,.av _ ys=>iY xs ys
 |_,_=>false
noncomputable def iY:List Tr->List Tr->Bool
 |[],[]=>true
 |x::xs,y::ys=>m6 x y&&iY xs ys
 |_,_=>false
end
def DK:bN->bN->Bool
 |[],[]=>true
 |x::xs,y::ys=>decide (x.1=y.1)&&(m6 x.2 y.2&&DK xs ys)
 |_,_=>false
def DL:bN->Nat
 |[]=>0
 |x::xs=>max (dep x.2) (DL xs)
mutual
noncomputable def U9:Tr->Tr->Bool
 |.int a,.int b=>decide (a=b)
 |.str a,.str b=>decide (a=b)
 |.bl a,.bl b=>decide (a=b)
 |.aZ,.aZ=>true
 |.aA xs,.aA ys=>m5 xs ys
 |.av _ xs,.av _ ys=>m5 xs ys
 |.a9 _ xs,.a9 _ ys=>DK xs ys
 |_,_=>false
noncomputable def m5:List Tr->List Tr->Bool
 |[],[]=>true
 |x::xs,y::ys=>U9 x y&&m5 xs ys
 |_,_=>false
end
mutual
noncomputable def NO:Tr->Nat
 |.aA a=>iS a + 1
 |.av _ a=>iS a + 1
 |.a9 _ a=>DL a + 1
 |_=>0
noncomputable def iS:List Tr->Nat
 |[]=>0
 |x::xs=>max (NO x) (iS xs)
end
section
mutual
theorem H0(l:az F H)(n:∀k,az (B k) H):∀(t t':Tr)(v d:V)(c b:Cs),m6 t t'=true->R K F B t v c->R K F B t' d b->ar F H c->ar F H b->hZ K H (dep t) v d
 |.aA m=>λt' v d c b e r g w i=>by
  cases t' with
  |aA x=>
   unfold m6 at e;∎;let⟨a,vs,rfl,s,u⟩:=r.cK l;let⟨j,h,rfl,p,q⟩:=g.cK l;∎;exact .inr ⟨a,j,vs,h,rfl,rfl,.inl ⟨s,p⟩,fy l n m x vs h c b (fq m) e u q w i (le_refl _)⟩
  |_=>cases e
 |.av f m=>λt' v d c b e r g w i=>by
  cases t' with
  |av C x=>
   unfold m6 at e;∎;let⟨a,vs,y,rfl,s,u,A,_⟩:=r.cF l n w;let⟨j,h,o,rfl,p,q,z,_⟩:=g.cF l n i;∎;exact .inr ⟨a,j,vs,h,rfl,rfl,.inr ⟨s,p⟩,fy l n m x vs h y o (fq m) e u q A z (le_refl _)⟩
  |_=>cases e
 |.int a=>λt' v d c b e r g _ _=>by
  cases t' with
  |int j=>have:=of_decide_eq_true e;subst this;rw[r.1,g.1];exact⟨rfl,rfl⟩
  |_=>cases e
 |.str a=>λt' v d c b e r g _ _=>by
  cases t' with
  |str j=>have:=of_decide_eq_true e;subst this;rw[r.1,g.1];exact⟨rfl,rfl⟩
  |_=>cases e
 |.bl a=>λt' v d c b e r g _ _=>by
  cases t' with
  |bl j=>have:=of_decide_eq_true e;subst this;rw[r.1,g.1];exact⟨rfl,rfl⟩
  |_=>cases e
 |.aZ=>λt' v d c b e r g _ _=>by
  cases t' with
  |aZ=>rw[r.1,g.1];exact⟨rfl,rfl⟩
  |_=>cases e
 |.aF=>λt' v d c b e _ _ _ _=>by cases t' <;> cases e
 |.ty _=>λt' v d c b e _ _ _ _=>by cases t' <;> cases e
 |.cl _=>λt' v d c b e _ _ _ _=>by cases t' <;> cases e
 |.exc _=>λt' v d c b e _ _ _ _=>by cases t' <;> cases e
 |.a9 _ _=>λt' v d c b e _ _ _ _=>by cases t' <;> cases e
 |.ins _ _ _=>λt' v d c b e _ _ _ _=>by cases t' <;> cases e
theorem fy(l:az F H)(j:∀k,az (B k) H):∀(i a:List Tr)(vs b:List V)(c f:Cs)(n:Nat),iY i a=true->Rs K F B i vs c->Rs K F B a b f->ar F H c->ar F H f->fq i<=n->eG (hZ K H n) vs b
 |[]=>λa vs b c f n e r h _ _ _=>by
  cases a with
  |nil=>rw[r.1,h.1];exact True.intro
  |cons _ _=>cases e
 |x::xs=>λa vs b c f n e r h g d hn=>by
  cases a with
  |nil=>cases e
  |cons y L=>
   ∎;let⟨v,q,m,p,C,D,E,G⟩:=r;let⟨J,I,o,s,u,w,z,A⟩:=h;∎;rw[D] at g;rw[w] at d;rw[C,u];unfold iY at e;rw[and_eq_true] at e;unfold fq at hn;exact⟨Vx (H0 l j x y v J m o e.1 E z g.left d.left) ⋯,fy l j xs L q I p s n e.2 G A g.right d.right ⋯⟩
end
end
theorem J6(q:Rat):m6 (ao.t q) (ao.t q)=true:=by show (decide _&&(decide _&&true))=true;rw[decide_eq_true rfl,decide_eq_true rfl];rfl
def TM(X:Cx)(id:String)(r:Str->Str->Hp->VK->Prop):Prop:=∀(aa:aT)(s:ai)(j:St)(H:Hp)(a b:Str)(t u:Tok)(Q:VK),au X aa j H s->r a b H Q->wpAny (model X.prog X.w) X.A (call (.builtin id) [.str a t,.str b u]) (EP X aa j Q) X.xe s
def IQ(r:Str->Str->Hp->VK->Prop)(e ty:TE):TE:=λj H Q=>e j H λx c=>∃a,x=.str a/\ty j c λy d=>∃b,y=.str b/\r a b d Q
section
theorem Jt{o e:Expr}{name:Str}{id:String}{c d:Pos}{i ty:TE}{r:Str->Str->Hp->VK->Prop}(L:Slot "str" name id)(N:typeOf (.builtin id)=pure (.type "method_descriptor"))(w:TM X id r)(A:PE X o i)(he:PE X e ty)(m:M1 X o name c e d):PE X (.Call (.Attribute o name c) [e] [] d) (IQ r i ty):=by
 intro aa s j H Q I h;refine wpAny_Call_method m.base m.uO m.line PySem.F.plainAttrs_str L N (bq (A aa s j H _ I h) λu g f=>?_);let⟨x,l,p,E,a,ex,C⟩:=f;subst ex;let⟨t,rfl⟩:=(show ∃t,u=Value.str a t from E);refine⟨typeIs_str g a t,(λb z=>by cases z),?_⟩;rw[m.trees];refine Calls.callWith_builtin rfl (Calls.evalArgs_plain (Calls.spliced_cons (bq (he aa g j l _ p C) λB J f=>?_)));let⟨y,n,q,G,b,v,D⟩:=f;refine Calls.spliced_nil ?_;subst v;let⟨M,rfl⟩:=(show ∃t,B=Value.str b t from G);exact w aa J j n a b t M Q q D
def o8(a b:Str):Bool:=decide (0+b.length<=a.length)&&Builtin.Str.subAt a b 0
theorem TB:TM X "str.startswith" λa b H Q=>Q (.bl (o8 a b)) H:=λaa s j H a b t u Q I q=>
 call_gives F.slot_str_startswith (typeIs_str s a t) F.entry_str_startswith (F.args_str_startswith_2 _ _) (gives_str_startswith a b t u) ⟨.bl _,H,I,rfl,q⟩
theorem EL:∀(ps:ag)(n:Nat),aL (ps.map V.str) (strsFrom n ps)
 |[],_=>.nil
 |p::ps,n=>.cons ⟨n,rfl⟩ (EL ps (n + 1))
theorem y2{s:ai}{Q:VK}(I:au X aa j H s)(d:aL xs bo)(c:xs.length<=sizeLine)(q:Q (.ref ⇑s) (aW H ⇑s (.av xs))):EP X aa j Q (.ref ⇑s) { s with heap:=s.heap.push { cls:=.type "list",data:=.seq bo.toArray },toks:=t' }:=
 ⟨.ref _,_,I.laid (a:=⇑s) (o:=.av xs) (t':=t') (λb o e=>Heap.get?_push_of_some _ e) (le_refl _) ⟨c,bo,0,d,Heap.get?_push_size _ rfl⟩,rfl,q⟩
theorem Vn:TM X "str.split" λa b H Q=>(b.length == 0)=false/\a.length<=1000000/\(Txt.split a b).length<=1000000/\∀p,H p=none->Q (.ref p) (aW H p (.av ((Txt.split a b).map V.str))):=λaa s j H a b t u Q I ⟨e,h1,h2,q⟩=>by
 have fr:H ⇑s=none:=I.aS.fresh (le_refl _);have q:=q _ fr;have sz:=sizeLine_eq;unfold Txt.split at h2 q;by_cases c:(decide (a.length<b.length) || decide (Builtin.Str.strKind a<Builtin.Str.strKind b))=true
 .rw[if_pos c] at h2 q;refine call_meets F.slot_str_split (typeIs_str s a t) F.entry_str_split (F.args_str_split_2 _ _) (meets_str_split_cannot_occur a b t u c) ?_;exact y2 (t':=s.toks) I (xs:=[.str a]) (bo:=[.str a t]) (.cons ⟨t,rfl⟩ .nil) (show (1:Nat)<=sizeLine by rw[sz];decide) q
 .rw[if_neg c] at h2 q;have c:=Bool.eq_false_iff.mpr c;by_cases d:(Builtin.Str.occurrences a b 0 a.length (a.length+1)).isEmpty=true
  .rw[if_pos d] at h2 q;refine call_meets F.slot_str_split (typeIs_str s a t) F.entry_str_split (F.args_str_split_2 _ _) (meets_str_split_not_found a b t u c e d) ?_;exact y2 (t':=s.toks) I (xs:=[.str a]) (bo:=[.str a t]) (.cons ⟨t,rfl⟩ .nil) (show (1:Nat)<=sizeLine by rw[sz];decide) q
  .rw[if_neg d] at h2 q;refine call_meets F.slot_str_split (typeIs_str s a t) F.entry_str_split (F.args_str_split_2 _ _) (meets_str_split_sep a b t u c e (Bool.eq_false_iff.mpr d) (by rw[sz];omega) (by rw[sz];omega)) ?_;exact y2 I (EL _ _) (by rw[length_map,sz];omega) q
end
def fQ(x:Tr)(R:Str->Prop):Prop:=match x with |.str a=>R a |_=>False
def vM(d:Str->Str->(aq)->Prop)(c e:aY):aY:=λj Q=>c j λx=>fQ x λa=>e j λy=>fQ y λb=>d a b Q
theorem kX{R:Str->Prop}(h:fQ x R):∃a,x=.str a/\R a:=by
 unfold fQ at h;split at h
 .exact⟨_,rfl,h⟩
 .exact h.elim
def wh(a b:Str)(Q:aq):Prop:=Q (.bl (o8 a b))
def wu(a b:Str)(Q:aq):Prop:=(b.length == 0)=false/\a.length<=1000000/\(Txt.split a b).length<=1000000/\Q (.av .o ((Txt.split a b).map Tr.str))
section
def vZ(K:ak)(r:Str->Str->Hp->VK->Prop)(g:Str->Str->(aq)->Prop):Prop:=∀(F:Hp)(B:Bool->Hp)(H:Hp)(a b:Str)(Q:VK)(e:aq),az F H->(∀k,az (B k) H)->g a b e->(∀t v f d c,e t->Out K F B H f d t v c->Q v d)->r a b H Q
theorem H9(o:vZ K r pr)(hd:bt K k td pd)(I:bt K k ty py):bt K k (IQ r td ty) (vM pr pd py):=λF B H j i Q E c p q=>by
 refine hd F B H j i _ _ c p λx v l A L p1 d=>?_
 let⟨a,rfl,p1⟩:=kX p1;refine⟨a,d.r.1,?_⟩;refine I l B A j i _ _ (c.gr d.g) p1 λy u w C M p2 e=>?_
 let⟨b,rfl,p2⟩:=kX p2;refine⟨b,e.r.1,?_⟩;exact o w B C a b Q E e.g.s (λk=>((c.b k).trans d.g.h).trans e.g.h) p2 λt v z D G J f=>q t v z D G J ⟨(d.g.trans' e.g).trans' f.g,f.r,f.c,λp m=>(d.g.h.trans e.g.h).free (f.n p m)⟩
theorem SE:vZ K (λa b H Q=>Q (.bl (o8 a b)) H) wh:=λF B H a b Q c s _ p q=>q _ _ F H [] p (Out.same s ⟨rfl,rfl⟩)
theorem uG:∀ps:ag,Rs K F B (ps.map Tr.str) (ps.map V.str) []
 |[]=>⟨rfl,rfl⟩
 |p::ps=>⟨_,_,[],[],rfl,rfl,⟨rfl,rfl⟩,uG ps⟩
theorem TC:vZ K (λa b H Q=>(b.length == 0)=false/\a.length<=1000000/\(Txt.split a b).length<=1000000/\∀p,H p=none->Q (.ref p) (aW H p (.av ((Txt.split a b).map V.str)))) wu:=λF B H a b Q h s _ ⟨d,h1,h2,p⟩ q=>⟨d,h1,h2,λl c=>by
 let⟨e,f,g⟩:=oi (K:=K) (B:=B) s (uG (Txt.split a b)) .nil c;exact q _ _ F _ _ p ⟨e,f,g,λp m=>by cases m with |head=>exact c |tail _ m=>cases m⟩⟩
end
section
theorem Vo(f:QE X k o po)(he:QE X k e pe)(m:M1 X o "startswith" apos e bP):QE X k (.Call (.Attribute o "startswith" apos) [e] [] bP) (vM wh po pe):=by
 ∎;let⟨g,c,d⟩:=f.h;let⟨i,a,b⟩:=he.h;∎;exact⟨_,Jt F.slot_str_startswith F.type_str_startswith TB c a m,H9 SE d b⟩
theorem zp(f:QE X k o po)(he:QE X k e pe)(m:M1 X o "split" apos e bP):QE X k (.Call (.Attribute o "split" apos) [e] [] bP) (vM wu po pe):=by
 ∎;let⟨g,c,d⟩:=f.h;let⟨i,a,b⟩:=he.h;∎;exact⟨_,Jt F.slot_str_split F.type_str_split Vn c a m,H9 TC d b⟩
end
def sk(x:Str):It:=⟨λi _=>i<x.cps.size,λi H v a=>a=H/\∃c,x.cps[i]?=some c/\v=.str ⟨#[c]⟩,λi _=>x.cps.size<=i⟩
theorem Fg(a:A.handled=none)(it:ae)(x:Str)(t:Tok):Walks prog w A it [it] [it] x.cps.size (SignAt x) (λi h=>h.IsStrIter it (strIterType x) x t i):=by
 cases e:x.cps.all (·<128)
 .have z:strIterType x="str_iterator":=by unfold strIterType;rw[e];rfl
  rw[z];exact Walks.strWide a it x t
 .have z:strIterType x="str_ascii_iterator":=by unfold strIterType;rw[e];rfl
  rw[z];exact Walks.strAscii a it x t
theorem Vp(x:Str)(t:Tok)(it:ae):kF P w K tg (sk x) [it] it (λi h=>i<=x.cps.size/\h.IsStrIter it (strIterType x) x t i) where
 mem:=by simp
 obj:=λi h st b a=>by
  have e:b=it:=by simpa using a
  subst e;let⟨_,o,e,c,d⟩:=st;exact⟨o,e,λv z=>by rw[d] at z;cases z⟩
 keep:=λi h g st k=>by
  let⟨M,o,e,c,d⟩:=st;exact⟨M,o,k it (by simp) o e,c,d⟩
 item:=by
  intro X D hw C G i aa s j H E I l st m;subst D hw C;let⟨n,p,U,r,y,B⟩:=l it (by simp);refine (Fg (prog:=X.prog) (w:=X.w) (I.ok.hd G) it x t).item i s _ _ m st.2 λv g L hv f J=>?_
  have N:au X aa j H { s with heap:=g,toks:=L }:=I.turned (λb o a e=>J b o (by simpa using a) e) n p r y B;let⟨c,u,Y,rfl⟩:=(show ∃c u,x.cps[i]?=some c/\v=Value.str ⟨#[c]⟩ u from hv)
  let⟨o,e,O,d⟩:=id f;refine⟨_,rfl,vq (s:={ s with heap:=g,toks:=L }) e O d ?_ ⟨.str ⟨#[c]⟩,H,N,⟨u,rfl⟩,⟨rfl,c,Y,rfl⟩,⟨m,f⟩,λb a=>(l b a).1⟩⟩;unfold strIterType;split<;>decide
 done:=by
  intro X D hw C G i aa s j H E I l st m;subst D hw C;let⟨n,p,U,r,y,B⟩:=l it (by simp);have e:i=x.cps.size:=Nat.le_antisymm st.1 m;subst e;exact (Fg (prog:=X.prog) (w:=X.w) (I.ok.hd G) it x t).done s _ _ st.2 λg L J=>⟨rfl,I.turned (λb o a e=>J b o (by simpa using a) e) n p r y B⟩
 self:=λA i s Q E st q=>by
  let⟨M,st⟩:=st;cases e:x.cps.all (·<128)
  .have z:strIterType x="str_iterator":=by unfold strIterType;rw[e];rfl
   rw[z] at st;exact wpAny_pyIter_striter_wide st q
  .have z:strIterType x="str_ascii_iterator":=by unfold strIterType;rw[e];rfl
   rw[z] at st;exact wpAny_pyIter_striter_ascii st q
def DM(c:TE):TI:=λj H R=>c j H λx b=>∃a,x=.str a/\R (sk a) b
theorem J7(m:PE X l tl):PI X tg l (DM tl):=by
 intro aa s j H R I h;refine bq (m aa s j H _ I h) λv c f=>?_
 ∎;let⟨x,g,d,r1,n⟩:=f;let⟨a,e,q⟩:=n;∎;subst e;let⟨t,rfl⟩:=(show ∃t,v=Value.str a t from r1);refine wpAny_pyIter_strU ?_;refine⟨⇑c,[⇑c],_,_,g,rfl,d.kept (t':=c.toks) λb o e=>Heap.get?_push_of_some _ e,Vp a t _,⟨zero_le _,_,Heap.get?_push_size _ rfl,rfl,rfl⟩,λb i=>?_,q⟩;have e:b=⇑c:=by simpa using i
 subst e;exact d.gC (le_refl _) (d.aS.fresh (le_refl _))
def kA(x:Str):ah:=x.cps.toList.map λc=>.str ⟨#[c]⟩
def An(a:aY):ia:=λj Q=>a j λt=>fQ t λx=>Q (kA x) true
theorem J8:fH (sk x) (kA x).length (λ_=>True) (λi H v a=>(∃c,x.cps[i]?=some c/\v=.str ⟨#[c]⟩)/\a=H):=by
 have e:(kA x).length=x.cps.size:=by unfold kA;rw[length_map,length_toList]
 rw[e];exact⟨λi H h _=>h,λH _=>le_refl _,λi H x a h _ y=>⟨y.2,y.1⟩⟩
section
theorem GK:Src K B F (sk x) (kA x):=by
 refine⟨_,_,J8,λ_ _ _ _ _=>True.intro,λi t d g v e a h s b y=>?_⟩;let⟨⟨c,f,rfl⟩,rfl⟩:=y;unfold kA at a;rw[getElem?_map,Array.getElem?_toList,f] at a;cases a;exact⟨d,Gr.aI s,rfl,rfl⟩
theorem Vq(h:bt K k te pe):kI K k (DM te) (An pe):=λF B H j y i f c p q=>by
 refine h F B H j y _ _ c p λt v b d l p1 o=>?_
 let⟨a,rfl,p1⟩:=kX p1;exact⟨a,o.r.1,q _ _ _ b d p1 o.g GK λ_ e _=>GK⟩
end
section
theorem AQ(h:QE X k l pl):QI X k tg l (An pl):=by
 let⟨c,a,b⟩:=h.h;exact⟨_,J7 a,Vq b⟩
end
def kL(b a:Str):Bool:=!(Builtin.Str.occurrences b a 0 b.length 1).isEmpty
def DN(neg:Bool)(x y:Tr)(Q:aq):Prop:=fQ x λa=>fQ y λb=>Q (.bl (if neg=true then !kL b a else kL b a))
theorem GL:cZ K k (λx y H Q=>∃i j,x=.str i/\y=.str j/\Q (.bl (!(Builtin.Str.occurrences j i 0 j.length 1).isEmpty)) H) (DN false):=λF B H x y tx ty e f Q d s b z a c g h hd p q=>by
 ∎;let⟨i,rfl,p1⟩:=kX p;let⟨j,rfl,p2⟩:=kX p1;∎;exact⟨i,j,a.1,c.1,q _ _ F H [] p2 (Gr.aI s) ⟨rfl,rfl⟩ .nil λ_ m=>nomatch m⟩
theorem ot:bA X (.type "int") (λxs H Q=>∃x n,xs=[.str x]/\intText? x=some n/\x.length<=640/\Q (.int n) H):=by
 intro aa s j H xs us Q I r h;∎;let⟨x,n,rfl,e,a,q⟩:=h;let⟨u,rfl,b⟩:=iw r;let⟨t,rfl⟩:=(show ∃t,u=Value.str x t from b);∎;exact W.KIN.call_text e a ⟨.int _,H,I.tok _,⟨_,rfl⟩,q⟩
def wU(a:ah)(Q:aq):Prop:=match a with
 |[.str x]=>∃n,intText? x=some n /\ x.length <= 640 /\ Q (.int n)
 |_=>False
theorem ow:h9 K k (λxs H Q=>∃x n,xs=[.str x]/\intText? x=some n/\x.length<=640/\Q (.int n) H) wU:=λF B H xs g d Q c s b z r f p q=>by
 unfold wU at p;split at p
 .obtain⟨v,rfl,rfl,_⟩:=r.one;let⟨n,e,a,p⟩:=p;exact⟨_,n,rfl,e,a,q _ _ F H [] p (Gr.aI s) ⟨rfl,rfl⟩ .nil λ_ m=>nomatch m⟩
 .exact p.elim
def kM(K:ak)(k:Md)(b:Str->TE)(a:Str->aY):Prop:=∀out,bt K k (b out) (a out)
def Aq:Str->aY:=λout _ Q=>out.length<=1000000/\Q (.str out)
def Ar(x:Str)(p:Str->aY):Str->aY:=λout j Q=>(out++x).length<=1000000/\p (out++x) j Q
def As(a:aY)(p:Str->aY):Str->aY:=λout j Q=>a j λt=>fQ t λy=>y.length<=1000000/\(out++y).length<=1000000/\p (out++y) j Q
def HH(p:Str->aY):aY:=p Str.empty
section
theorem rA(h:n<=1000000):n<=sizeLine:=by rw[sizeLine_eq];omega
theorem J9:kM K k Eb Aq:=λout F B H j y Q a c p q=>⟨rA p.1,q _ _ F H [] p.2 (Out.same c.s ⟨rfl,rfl⟩)⟩
theorem Ka(h:kM K k t p):kM K k (Ec x t) (Ar x p):=λout F B H j y Q b c a q=>⟨rA a.1,h _ F B H j y Q b c a.2 q⟩
theorem Kb(he:bt K k te pe)(h:kM K k t p):kM K k (Ed te t) (As pe p):=λout F B H j u Q l c x q=>by
 refine he F B H j u _ _ c x λt v d f A p1 a=>?_
 let⟨y,rfl,s,w,p1⟩:=kX p1;exact⟨y,a.r.1,rA s,rA w,h _ d B f j u Q l (c.gr a.g) p1 λt v e i o z b=>q t v e i o z ⟨a.g.trans' b.g,b.r,b.c,λp m=>a.g.h.free (b.n p m)⟩⟩
end
structure QJ(X:Cx)(k:Md)(es:bT)(pj:Str->aY):Prop where
 h:∃tj,PJ X es tj/\kM X.K k tj pj
section
theorem ir:QJ X k [] Aq:=⟨_,z'k,J9⟩
theorem f9(h:QJ X k es p):QJ X k (.Constant (.str x) j pos::es) (Ar x p):=by
 let⟨t,a,b⟩:=h.h;exact⟨_,z'l a,Ka b⟩
theorem eR(he:QE X k e pe)(h:QJ X k es p):QJ X k (.FormattedValue e (-1) none pos::es) (As pe p):=by
 ∎;let⟨t,c,d⟩:=h.h;let⟨f,a,b⟩:=he.h;∎;exact⟨_,z'm a c,Kb b d⟩
theorem iu(h:QJ X k (a::b::es) p):QE X k (.JoinedStr (a::b::es) pos) (HH p):=by
 let⟨t,c,d⟩:=h.h;exact⟨_,Yh c,d _⟩
end
theorem Ia:∀{b:b7}{vs:ax}{c:Cs},Rs K F B (b.map Tr.cl) vs c->vs=b.map V.ref
 |[],_,_,h=>h.1
 |a::b,_,_,y=>by let⟨v,r,c,d,e,_,f,g⟩:=y;rw[e,f.1,Ia g];rfl
theorem vm(hm:X.mg x=none)(a:do Gl X x)(hv:do bootBuiltins x=some (.type n))(hn: ~~~(x≠"__name__"))(hd: ~~~(cI x)):QE X k (.Name x pos) (pC (.ty n)):=⟨_,WW (v:=.ty n) a hm hv rfl hn hd,rK λ_ _=>⟨rfl,rfl⟩⟩
theorem Xm(d:Str->Str->(aq)->Prop)(c e:aY)(j:ah)(Q:aq):vM d c e j Q=(c j λx=>fQ x λa=>e j λy=>fQ y λb=>d a b Q):=rfl
theorem Kc(a:Str)(R:Str->Prop):fQ (.str a) R=R a:=rfl
theorem TF:kA x=x.cps.toList.map λc=>.str ⟨#[c]⟩:=rfl
theorem Xn(a:aY)(j:ah)(Q:ah->Bool->Prop):An a j Q=(a j λt=>fQ t λx=>Q (kA x) true):=rfl
theorem Xo:HH p j Q=p Str.empty j Q:=rfl
theorem WI(out:Str)(j:ah)(Q:aq):Aq out j Q=(out.length<=1000000/\Q (.str out)):=rfl
theorem WJ(x:Str)(p:Str->aY)(out:Str)(j:ah)(Q:aq):Ar x p out j Q=((out++x).length<=1000000/\p (out++x) j Q):=rfl
theorem WK(a:aY)(p:Str->aY)(out:Str)(j:ah)(Q:aq):As a p out j Q=(a j λt=>fQ t λy=>y.length<=1000000/\(out++y).length<=1000000/\p (out++y) j Q):=rfl
theorem Qx:wh a b Q=Q (.bl (o8 a b)):=rfl
theorem RE:wu a b Q=((b.length == 0)=false/\a.length<=1000000/\(Txt.split a b).length<=1000000/\Q (.av .o ((Txt.split a b).map (ao.t (α:=Str))))):=rfl
theorem WL(neg:Bool)(a b:Str)(Q:aq):DN neg (.str a) (.str b) Q=Q (.bl (if neg=true then !kL b a else kL b a)):=rfl
theorem TH:wU [.str x] Q=(∃n,intText? x=some n/\x.length<=640/\Q (.int n)):=rfl
end Pu
namespace L2
open PySem PySem.Spec PyProof.Rows
abbrev sv(X:Cx)(o:Expr)(m:Str)(b:bT)(a pos:Pos)(pl:Sem Bool):Prop:=eval (.Call (.Attribute o m a) b [] pos) X.env=(do
   let ov <- eval o X.env
   standAt a.atName
   let (f,first) <- holding [ov] (getMethod ov m pl)
   callWith pos f first (backTo pos (starEach b X.env)) (backToKw pos (keywordEach [] X.env)))
def qK(D:ae->Nat->Prop)(m:Str)(sp:Nat->Sp)(R:St->XK)(e:TE)(t:TA):TE:=λj H Q=>e j H λx b=>∃a C d fs g,x=.ref a/\Rd b a (.ins C d fs)/\D C g/\fs.lookup m=none/\t j b λvs c=>sp g (x::vs) c Q (R j)
section
theorem Ib(he:PE X o ta)(B:∀C g,D C g->aO X.prog X.w X.K X.mg X.base CX k m C ps (sp g))(G:bh k X.A)(L:∀j,il CX X j (R j))(ha:PA X (e::es) t)(p:do eA e es X.env)(n:do e9 pos es X.env)(J:do sv X o m (e::es) apos pos pl):
  PE X (.Call (.Attribute o m apos) (e::es) [] pos) (qK D m sp R ta t):=by
 intro aa s j H Q I h;refine W.methodCall_KW (pl:=pl) (bq (he aa s j H _ I h) λu s1 b=>?_) J;let⟨x,y,i,Y,a,C,dx,fs,g,ex,z,d,l,q⟩:=b;subst ex;obtain rfl:u=Value.ref a:=Y;∎;let⟨c,f,fd,hm,F,E⟩:=B C g d;let⟨M,O,r⟩:=u6 i.aS z;∎;have hn:M m=none:=cj.none_of (by rw[<- l];exact r m);refine FO i.cP O (c.get m) hm.at_ hm.fn hn ?_;refine W.callWith_K (first:=[.ref a]) (h₀:=X.base) I.ok.mod.mT hm.kp (bq (ha pos aa s1 j y _ i q) λus s2 b=>?_) p n;let⟨vs,H2,v,U,N⟩:=b;refine⟨v.cP,?_⟩;exact zh (us:=.ref a::us) (vs:=.ref a::vs) F G E .nil (L j) v (.cons rfl U) (by rw[append_nil];exact N)
theorem GN(he:PE X o ta)(n:∀C g,D C g->aO X.prog X.w X.K X.mg X.base CX k m C ps (sp g))(v:bh k X.A)(z:∀j,il CX X j (R j))(y:do sv X o m [] apos pos pl):
  PE X (.Call (.Attribute o m apos) [] [] pos) (qK D m sp R ta jL):=by
 intro aa s j H Q I h;refine W.methodCall_KW (pl:=pl) (bq (he aa s j H _ I h) λu M e=>?_) y;let⟨x,G,b,E,a,C,J,fs,g,ex,i,d,l,q⟩:=e;subst ex;obtain rfl:u=Value.ref a:=E;∎;let⟨c,f,L,hm,F,p⟩:=n C g d;let⟨B,O,r⟩:=u6 b.aS i;∎;have hn:B m=none:=cj.none_of (by rw[<- l];exact r m);refine FO b.cP O (c.get m) hm.at_ hm.fn hn ?_;exact W.callWith_K0 (first:=[.ref a]) b.cP hm.kp (zh (us:=[.ref a]) (vs:=[.ref a]) F v p .nil (z j) b (.cons rfl .nil) (by rw[append_nil];exact q))
theorem vn(h:lI CX X E):∀j,il CX X j E:=λj aa H s e a I c=>h aa j H s e a I c
end
end L2
namespace Pu
open PySem L2 Vc Sf
section
theorem Ic:∀(a:ah)(i:Nat),(cp a)[i]?=a[i]?.map dn
 |[],_=>rfl
 |_::_,0=>rfl
 |_::xs,i + 1=>Ic xs i
theorem ur{aQ:dN}{E:XK}{q':af->Prop}{w:Tr->aG}{Q:VK}(Y:z=true->Fz S0 F)(hn:(cp ts).length=n)(y:∀k,az (B k) H)(b:dO K F B H F1 H1 ts vs c1)(O:∀j f d,q' j->Gr F H f d->E j none d)(p1:aQ (cp ts) w q')(post:∀f d x g' l v t c,Gr F H f d->(∀c,dg (dc (c1.map (·.1)) H1) c->dg H c)->a6 K ⟨z,λ_=>E,q'⟩ lo vs F1 (dc (c1.map (·.1)) H1) f d x g' l->R K f (λ_=>dc (c1.map (·.1)) H1) t v c->ar f d c->dg H c->(∀i,∀p∈l i,∀q∈c,p.1≠q.1)->b5 t=true->w t g'->Q v d):cu K z lo n aQ vs H1 Q E:=by
 let⟨N,D,G,I,J⟩:=b.r.split b.c;have hl:vs.length=n:=by rw[b.r.length,<- hn,l8]
 have U:∀k,az (B k) (dc (c1.map (·.1)) H1):=λk a o e=>ro (uE b.n (y k a o e)) (b.g.h _ _ (y k a o e))
 have C:∀c,dg (dc (c1.map (·.1)) H1) c->dg H c:=λc n p m=>by
  have z:=n p m;by_cases A:p.1∈c1.map (·.1)
  .obtain⟨q,mq,e⟩:=mem_map.mp A;have e:q.1=p.1:=e;rw[<- e];exact b.n q mq
  .unfold dc at z;rw[if_neg A] at z;exact b.g.h.free z
 refine⟨hl,F1,dc (c1.map (·.1)) H1,cp ts,N,_,q',⟨⟨zC b.g.s,Fz.refl F1⟩,λh=>b.g.fz (Y h),by rw[length_map,l8,b.r.length],?_,I,λi p m=>yv (G i p m),J,λi _=>by rw[getElem?_map],λj _ f d h g=>O j f d h (b.g.dc b.n g)⟩,p1,?_⟩
 .intro i t h;rw[Ic] at h;cases z:ts[i]? with
  |none=>rw[z] at h;cases h
  |some u=>
   rw[z] at h;cases h;let⟨v,L,M⟩:=D i u z;exact .inr ⟨v,by rw[getElem?_map,L];rfl,M.dn (λk=>Le.of (U k)) u⟩
 .intro f d x g' l v t c' W r hc n dj nl qt;exact post f d x g' l v t c' (b.g.dc b.n W.g) C W r hc (C _ n) dj nl qt
theorem TJ{aQ:dN}{E:XK}{q':af->Prop}{e:aq}{Q:VK}(j:z=true->Fz S0 F)(hn:(cp ts).length=n)(f:∀k,az (B k) H)(m:dO K F B H F1 H1 ts vs c1)(h:∀d b a,q' d->Gr F H b a->E d none a)(p1:aQ (cp ts) (λt _=>e t) q')(q:∀t v b a cs,e t->Out K F B H b a t v cs->Q v a):cu K z 0 n aQ vs H1 Q E:=
 ur j hn f m h p1 λb a _ _ _ v t c g _ _ r i n _ l o=>q t v b a c o ⟨g,r.base t l,i,n⟩
theorem dO.cons{b f:Hp}{t:Tr}{v:V}{c:Cs}{i:ah}{vs:ax}{d:Cs}(o:Out K F B H F1 H1 t v c)(a:dO K F1 B H1 b f i vs d):dO K F B H b f (t::i) (v::vs) (c++d) where
 g:=o.g.trans' a.g
 r:=⟨v,vs,c,d,rfl,rfl,o.r.mo a.g.le (λ_=>Le.refl _) t,a.r⟩
 c:=(o.c.gr a.g).app a.c λp j q l e=>by
  have:=o.c.h p j;rw[e,a.n q l] at this;cases this
 n:=λp m=>(mem_append.mp m).elim (o.n p) λm=>o.g.h.free (a.n p m)
def eC(D:ae->Nat->Prop)(m:Str)(x:Tr)(Q:Nat->Prop):Prop:=match x with |.ins _ c fs=>∃g,D c g/\fs.lookup m=none/\Q g |_=>False
theorem GO{D:ae->Nat->Prop}{Q:Nat->Prop}(h:eC D m x Q):∃f c fs g,x=.ins f c fs/\D c g/\fs.lookup m=none/\Q g:=by
 unfold eC at h;split at h
 .obtain⟨g,h⟩:=h;exact⟨_,_,_,g,rfl,h⟩
 .exact h.elim
def Nt(q:af->Prop)(D:ae->Nat->Prop)(m:Str)(aQ:Nat->dN)(po:aY)(a:cG):aY:=λj Q=>po j λx=>eC D m x λc=>a j λb=>aQ c (cp (x::b)) (λt _=>Q t) q
def tU(D:ae->Nat->Prop)(m:Str)(aQ:Nat->bQ)(po:aY)(a:cG):aY:=λj Q=>po j λx=>eC D m x λc=>a j λb=>aQ c (cp (x::b)) (λt _=>Q t)
theorem Rf.none_of:∀{fs:bK}{vs:List (Str×V)}{a:Cs}{f:Str},Rf K F B fs vs a->fs.lookup f=none->vs.lookup f=none
 |[],_,_,_,y,_=>by let⟨h,_⟩:=y;rw[h];rfl
 |(g,y)::fs,_,_,f,y0,h=>by
  let⟨v,r,c,d,b,j,l,i⟩:=y0;rw[b];rw[lookup_cons] at h ⊢;cases e:f == g with
  |true=>rw[e] at h;cases h
  |false=>rw[e] at h;exact Rf.none_of i h
theorem Vr{aQ:Nat->dN}{R':St->XK}{q':af->Prop}(I:∀(F:Hp)(B:Bool->Hp)(H:Hp)(j:St)(y:ah),gj K k F B H j y->∀d l i,q' d->Gr F H l i->R' j d none i)(J:z=true->k.z=true)(hn:∀C xs Q q,aQ C xs Q q->xs.length=n)(h:bt K k te po)(ha:fD K k ta pa):bt K k (qK D m (λC=>cu K z 0 n (aQ C)) R' te ta) (Nt q' D m aQ po pa):=λF B H j y Q Y c p q=>by
 refine h F B H j y _ _ c p λx v o u c1 p1 e=>?_
 ∎;let⟨f,C,fs,g,rfl,G,L,p1⟩:=GO p1;let⟨a,w,vs,ds,rfl,A,E,_⟩:=e.r.kc e.g.s (λk=>(c.b k).trans e.g.h) e.c;∎;refine⟨a,C,w,vs,g,rfl,A,G,E.none_of L,ha o B u j y _ _ (c.gr e.g) p1 λts us O U c2 p2 N=>?_⟩;exact TJ (λh=>c.z (J h)) (hn _ _ _ _ p2) c.b (dO.cons e N) (λd l i M g=>I F B H j y c d l i M g) p2 q
theorem GP{aQ:Nat->bQ}(a:z=true->k.z=true)(hn:∀C xs Q,aQ C xs Q->xs.length=n)(h:bt K k te po)(ha:fD K k ta pa):bt K k (qK D m (λC=>aX K z 0 n (aQ C)) (λ_=>E) te ta) (tU D m aQ po pa):=
 Vr (R':=λ_=>E) (q':=λ_=>False) (aQ:=λC xs Q _=>aQ C xs Q) (λ_ _ _ _ _ _ _ _ _ h=>h.elim) a (λC xs Q _=>hn C xs Q) h ha
def gQ(o:Option Tr)(Q:aq):Prop:=match o with |some (.ins f c fs)=>b5 (.ins f c fs)=true/\Q (.ins f c fs) |_=>False
theorem GQ{Q:aq}(h:gQ o Q):∃f c fs,o=some (.ins f c fs)/\b5 (.ins f c fs)=true/\Q (.ins f c fs):=by
 unfold gQ at h;split at h
 .exact⟨_,_,_,rfl,h⟩
 .exact h.elim
def wy(q:af->Prop)(C:ae)(aQ:dN)(b:cG):aY:=λj Q=>b j λc=>aQ (cp (.ins .o C []::c)) (λt a=>t=.aZ/\gQ a[0]? Q) q
def wV(C:ae)(aQ:bQ)(b:cG):aY:=λj Q=>b j λc=>aQ (cp (.ins .o C []::c)) λt a=>t=.aZ/\gQ a[0]? Q
theorem Hh(a:dO K F B H F1 H1 ts vs c1)(f:H1 x=none)(hd:H1 dx=none)(ne:dx≠x):∃b,dO K F B H b (aW (aW H1 dx (.own x)) x (.ins C dx [])) (.ins .o C []::ts) (.ref x::vs) ((x,.ins C dx [])::c1):=by
 let⟨b,e,_⟩:=Eh (o:=.own x) a.g.s (by intro _ _ z;cases z) hd;have d:aW H1 dx (.own x) x=none:=by rw[bR (Ne.symm ne)];exact f
 have i:Gr b (aW H1 dx (.own x)) b (aW (aW H1 dx (.own x)) x (.ins C dx [])):=Gr.gG e.s d;have g:=e.trans' i;refine⟨b,a.g.trans' g,⟨.ref x,vs,[(x,.ins C dx [])],c1,rfl,rfl,⟨x,dx,[],[],rfl,rfl,rfl,rfl⟩,a.r.mo g.le (λ_=>Le.refl _) ts⟩,qX e.s (a.c.gr e) d,λp m=>?_⟩;cases m with
 |head=>exact a.g.h.free f
 |tail _ m=>exact a.n p m
theorem Fh{aQ:dN}{R':St->XK}{q':af->Prop}(E:∀(F:Hp)(B:Bool->Hp)(H:Hp)(j:St)(y:ah),gj K k F B H j y->∀a i d,q' a->Gr F H i d->R' j a none d)(G:z=true->k.z=true)(hn:∀xs Q q,aQ xs Q q->xs.length=n)(ha:fD K k ta pa):bt K k (s9 C (cu K z 1 n aQ) [] R' ta) (wy q' C aQ pa):=λF B H j y Q Q' c p q=>by
 refine ha F B H j y _ _ c p λts vs O Y c1 p1 M x dx J hd ne=>?_
 rw[append_nil];let⟨U,N⟩:=Hh (C:=C) M J hd ne;refine ur (λh=>c.z (G h)) (hn _ _ _ p1) c.b N (λa i d I g=>E F B H j y c a i d I g) p1 λi d j' y' l v t c' g L W r hc n dj nl m=>?_
 ∎;let⟨rfl,m⟩:=m;let⟨f,c,fs,o,s,w⟩:=GQ m;∎;refine⟨r.1,?_⟩;rcases W.e 0 _ o with z |⟨u,A,D⟩
 .cases z
 .have:=W.p 0 Nat.zero_lt_one;rw[A] at this;cases this;exact q _ _ i d (l 0) w ⟨g,D.base _ s,W.c 0,L _ (W.n 0)⟩
theorem Vs{aQ:bQ}(a:z=true->k.z=true)(hn:∀xs Q,aQ xs Q->xs.length=n)(ha:fD K k ta pa):bt K k (s9 C (aX K z 1 n aQ) [] (λ_=>E) ta) (wV C aQ pa):=
 Fh (R':=λ_=>E) (q':=λ_=>False) (aQ:=λxs Q _=>aQ xs Q) (λ_ _ _ _ _ _ _ _ _ h=>h.elim) a (λxs Q _=>hn xs Q) ha
end
section
theorem Jh{D:ae->Nat->Prop}{aQ:Nat->bQ}(l:∀C g,D C g->aO X.prog X.w X.K X.mg X.base aV kj m C ps (aX X.K z 0 n (aQ g)))(r:QE X k o po)(ha:QA X k (e::es) pa)(s:bh km X.A:=by assumption)(p:kj<=km:=by first |decide |omega)(q:z=true->k.z=true:=by first |exact id |exact λ_=>rfl)(hn:∀C xs Q,aQ C xs Q->xs.length=n:=by exact λ_ _ _ h=>h.1)(b:do eA e es X.env)(a:do e9 pos es X.env)(u:do sv X o m (e::es) apos pos pl):QE X k (.Call (.Attribute o m apos) (e::es) [] pos) (tU D m aQ po (lM pa)):=by
 ∎;let⟨x,i,j⟩:=r.h;let⟨v,c,f⟩:=ha.aB.h;∎;exact⟨_,Ib (R:=λ_=>E0) i (λC g d=>(l C g d).mono p) s (vn oN) c b a u,GP q hn j f⟩
theorem c8{D:ae->Nat->Prop}{aQ:Nat->bQ}(c:∀C g,D C g->aO X.prog X.w X.K X.mg X.base aV kj m C ps (aX X.K z 0 n (aQ g)))(i:QE X k o po)(j:bh km X.A:=by assumption)(e:kj<=km:=by first |decide |omega)(f:z=true->k.z=true:=by first |exact id |exact λ_=>rfl)(hn:∀C xs Q,aQ C xs Q->xs.length=n:=by exact λ_ _ _ h=>h.1)(l:do sv X o m [] apos pos pl):QE X k (.Call (.Attribute o m apos) [] [] pos) (tU D m aQ po tO):=by
 let⟨p,a,b⟩:=i.h;exact⟨_,GN (R:=λ_=>E0) a (λC g d=>(c C g d).mono e) j (vn oN) l,GP f hn b Hc⟩
section
theorem uH{aQ:dN}(M:Mk X.K C f)(G:aw X.prog X.w X.K X.mg X.base (b9 X.prog X.w) km f fd ps (cu X.K z 1 n aQ))(I:∀j,il (b9 X.prog X.w) X j (k.E j))(u:z=true->k.z=true)(hn:∀xs Q q,aQ xs Q q->xs.length=n)(D:bh (km+1) X.A)(s:Gl X x)(hm:X.mg x=some (.ref C))(r:Binds X.K fd ps [])(ha:QA X k (e::es) pa)(b: ~~~(cI x))(he:do eA e es X.env)(d:do e9 pos es X.env):
  QE X k (.Call (.Name x p) (e::es) [] pos) (wy k.q C aQ pa):=by
 let⟨J,m,o⟩:=ha.h;exact⟨_,yY M G D s hm r .nil I m b he d,Fh (λF B H j y c a i l v g=>c.x a i l v g) u hn o⟩
end
end
abbrev e8:=ah->(Tr->aG)->Prop
abbrev kN:=ah->(ah->aG)->Prop
structure iG(K:PySem.W.Frag)(k:Md)(lo:Nat)(us:ax)(Fb Hb F F' H':Hp)(j:St)(y:ah)(cs:Nat->Cs)(t:Tr)(v:V)(e:Cs):Prop where
 l:Le F F'
 W:a6 K k lo us Fb Hb F' H' j y cs
 r:R K F' (λ_=>Hb) t v e
 c:ar F' H' e
 n:dg Hb e
 d:∀i,∀p∈cs i,∀q∈e,p.1≠q.1
def gR(K:ak)(k:Md)(lo:Nat)(l:TE)(pl:e8):Prop:=∀(us:ax)(b e F H:Hp)(j:St)(y:ah)(i:Nat->Cs)(Q:VK)(f:Tr->aG),a6 K k lo us b e F H j y i->pl y f->
 (∀t v h d g a c,iG K k lo us b e F h d j g a t v c->f t g->Q v d)->l j H Q
def qA(K:ak)(k:Md)(lo:Nat)(m:TA)(l:kN):Prop:=∀(us:ax)(d b F H:Hp)(j:St)(y:ah)(i:Nat->Cs)(Q:ax->Hp->Prop)(f:ah->aG),a6 K k lo us d b F H j y i->l y f->
 (∀g vs a e h c,Le F a->a6 K k lo us d b a e j h c->Rs K a (λ_=>b) g vs []->f g h->Q vs e)->m j H Q
section
theorem iG.held{t:Tr}{v:V}{c:Cs}(o:iG K k lo us Fb Hb F F' H' j y cs t v c):∃a,Le F a/\a6 K k lo us Fb Hb a H' j y cs/\R K a (λ_=>Hb) (aB t) v []:=by
 let⟨a,e,b,f⟩:=o.W.lay o.c o.n (o.r.plain t) o.d;exact⟨a,o.l.trans (Le.of b),e,o.r.aB (Le.of b) t f⟩
def Aw(a:aY):e8:=λj Q=>a (j.map aJ) λt=>bW t=true/\Q t j
theorem Kd(h:bt K k te pe):gR K k lo te (Aw pe):=λus n a F H j y i Q s W p q=>by
 refine h F (Bq a H) H j _ _ _ W.fF p λt v d e f b o=>?_
 let⟨m,l⟩:=W.fresh o;exact q t v d e y i f ⟨o.g.le,W.gr o.g,R.low (B':=λ_=>a) t b.1 rfl o.r,o.c,m,l⟩ b.2
def wW:kN:=λj Q=>Q [] j
def wz(pl:e8)(c:kN):kN:=λj Q=>pl j λt a=>c a λd b=>Q (aB t::d) b
theorem Vt:qA K k lo jL wW:=λus b c F H j y a Q d W p q=>q [] [] F H y a (Le.refl F) W ⟨rfl,rfl⟩ p
theorem TK(h:gR K k lo te pl)(h':qA K k lo ta pla):qA K k lo (jH te ta) (wz pl pla):=λus c d F H j y r Q A W p q=>by
 refine h us c d F H j y r _ _ W p λt v z i w a B o p1=>?_
 let⟨f,s,m,r2⟩:=o.held;refine h' us c d f i j w a _ _ m p1 λu vs g l x b e n r3 p3=>?_
 exact q (aB t::u) _ g l x b (s.trans e) n ⟨v,vs,[],[],rfl,rfl,r2.mo e (λ_=>Le.refl _) _,r3⟩ p3
theorem a6.zZ(W:a6 K k lo us Fb Hb F H j y cs)(r:Rs K F (λ_=>Hb) ts vs []):dO K F (λ_=>Hb) H F H ts vs []:=⟨Gr.aI W.g.s,r,.nil,.nil⟩
theorem a6.z0{t:Tr}{v:V}{c:Cs}(W:a6 K k lo us Fb Hb F1 H1 j y cs)(l:Le F F1)(o:Out K F1 (λ_=>Hb) H1 F' H' t v c):iG K k lo us Fb Hb F F' H' j y cs t v c:=by
 let⟨b,a⟩:=W.fresh o;exact⟨l.trans o.g.le,W.gr o.g,o.r,o.c,b,a⟩
def Na(q:af->Prop)(C:ae)(aQ:dN)(c:kN):e8:=λj Q=>c j λd b=>aQ (cp (.ins .o C []::d)) (λt a=>t=.aZ/\gQ a[0]? λx=>Q x b) q
theorem SF{aQ:dN}{R':St->XK}{q':af->Prop}(L:∀(us:ax)(Fb Hb F H:Hp)(j:St)(y:ah)(cs:Nat->Cs),a6 K k lo us Fb Hb F H j y cs->∀a i b,q' a->Gr Fb Hb i b->R' j a none b)(M:z=true->k.z=true)(hn:∀xs Q q,aQ xs Q q->xs.length=n)(h:qA K k lo ta pla):gR K k lo (s9 C (cu K z 1 n aQ) [] R' ta) (Na q' C aQ pla):=λus Fb Hb F H j y cs Q Q' W p q=>by
 refine h us Fb Hb F H j y cs _ _ W p λts vs A B w l U d r1 p1 x dx O hd ne=>?_
 rw[append_nil];let⟨F2,o2⟩:=Hh (C:=C) (d.zZ r1) O hd ne;refine ur (λh=>d.z (M h)) (hn _ _ _ p1) (λ_=>d.g.h) o2 (λa i b N g=>L us Fb Hb A B j w l d a i b N (d.g.trans' g)) p1 λi b j' y' o v t c' g Y m r hc n dj nl s=>?_
 ∎;let⟨rfl,s⟩:=s;let⟨f,c,fs,D,E,G⟩:=GQ s;∎;refine⟨r.1,?_⟩;rcases m.e 0 _ D with z |⟨u,I,J⟩
 .cases z
 .have:=m.p 0 Nat.zero_lt_one;rw[I] at this;cases this;exact q _ _ i b w l (o 0) (d.z0 U ⟨g,J.base _ E,m.c 0,Y _ (m.n 0)⟩) G
def Av(e:Tr->Tr->(aq)->Prop)(c:e8)(d:e8):e8:=λj Q=>c j λx a=>d a λy b=>e (aB x) y λt=>Q t b
theorem Yj(o:cZ K k r pr)(ha:gR K k lo te pl)(hb:gR K k lo tf pb):gR K k lo (o9 r te tf) (Av pr pl pb):=λus D f F H j G cs Q Q' W p q=>by
 refine ha us D f F H j G cs _ _ W p λx v F1 H1 Y A c1 o1 p1=>?_
 let⟨N,l2,W2,r2⟩:=o1.held;refine hb us D f N H1 j Y A _ _ W2 p1 λy u O E G3 B I a p3=>?_
 refine o O (λ_=>f) E v u (aB x) y [] I Q _ a.W.g.s (λ_=>a.W.g.h) a.W.z (r2.mo a.l (λ_=>Le.refl _) _) a.r .nil a.c (λp m=>nomatch m) p3 λt w U H4 J q4 L r4 C n4=>?_
 have b:∀p∈J,E p.1=none\/p∈I:=λp m=>(n4 p m).imp id λz=>z.resolve_left (λz=>nomatch z)
 refine q t w U H4 G3 B J ⟨l2.trans (a.l.trans L.le),a.W.gr L,r4,C,λp m=>?_,λi p M q mq e=>?_⟩ q4
 .rcases b p m with z |z
  .exact a.W.g.h.free z
  .exact a.n p z
 .rcases b q mq with z |z
  .have:=(a.W.c i).h p M;rw[e,z] at this;cases this
  .exact a.d i p M q z e
def wA(i:Nat)(pl:e8):cL:=λD j=>pl j λt a=>D.nx (a.set i (aB t))
theorem TL(l:lo<=i)(h:gR K k lo te pl):cO K k lo (lT te (lK i)) (wA i pl):=λus b d F H j y f D n W p L=>by
 refine h us b d F H j y f _ _ W p λt v q c u g r o p1=>?_
 let⟨a,s,e,r2⟩:=o.held;exact L.nx a c _ _ _ (e.set l r2 .nil .nil λ_ _ _ _ _ m=>nomatch m) p1
def wB(pl:e8):cL:=λD j=>pl j λ_ j1=>D.nx j1
theorem TN(h:gR K k lo te pl):cO K k lo (Dp te) (wB pl):=λus b d F H j y e D g W p L=>
 h us b d F H j y e _ _ W p λt v a c l f i o p1=>L.nx a c _ _ _ o.W p1
def xf(pl:e8):cL:=λD j=>pl j λt a=>b5 t=true/\D.rt t a
theorem Vu(h:gR K k lo te pl):cO K k lo (xK te) (xf pl):=λus e g F H j y l D q W p L=>
 h us e g F H j y l _ _ W p λt v b f m a i o p1=>L.rt b f j m a v t i o.W o.r o.c o.n o.d p1.1 p1.2
def xF(pl:e8)(p q:cL):cL:=λD j=>pl j λt a=>eF t λb=>if b=true then p D a else q D a
theorem Yk(h:gR K k lo te pl)(m:cO K k lo ts p)(n:cO K k lo tu q):cO K k lo (xM (tB te) ts tu) (xF pl p q):=λus c d F H j y l D e W p L=>by
 refine h us c d F H j y l _ _ W p λt v f g i a s o p1=>?_
 unfold eF at p1;split at p1
 .rename_i b;let⟨rfl,_⟩:=o.r;refine⟨b,rfl,?_⟩;cases b with
  |true=>exact m us c d f g j i a D e o.W p1 L
  |false=>exact n us c d f g j i a D e o.W p1 L
 .exact p1.elim
end
section
def HA(K:ak)(F Hb:Hp)(j:St)(y:ah):bI->ah->ax->Prop
 |[],ts,vs=>ts=[] /\ vs=[]
 |none::hs,ts,vs=>∃t v a b,ts=t::a /\ vs=v::b /\ R K F (λ_=>Hb) t v [] /\ HA K F Hb j y hs a b
 |some i::hs,ts,vs=>∃t v a b,ts=t::a /\ vs=v::b /\ y[i]? = some t /\ t ≠ .aF /\ j[i]? = some (some v) /\ HA K F Hb j y hs a b
def kC(K:ak)(k:Md)(lo:Nat)(hs:bI)(i:TA)(h:cG):Prop:=∀(us:ax)(c b F H:Hp)(j:St)(y:ah)(f:Nat->Cs)(Q:ax->Hp->Prop)(e:aG),a6 K k lo us c b F H j y f->h y e->
 (∀g vs a d,Le F a->a6 K k lo us c b a d j y f->HA K a b j y hs g vs->e g->Q vs d)->i j H Q
def vO:cG:=λ_ Q=>Q []
def Ai(i:Nat)(a:cG):cG:=λj Q=>pV j[i]? λt=>a j λb=>Q (t::b)
def Aj(a:aY)(b:cG):cG:=λj Q=>a (j.map aJ) λt=>bW t=true/\b j λc=>Q (Pu.aB t::c)
theorem Gk:kC K k lo [] jL vO:=λus a b F H j y d Q c W p q=>q [] [] F H (Le.refl F) W ⟨rfl,rfl⟩ p
theorem vo{Q:aq}(h:pV o Q):∃t,o=some t/\t≠.aF/\Q t:=by
 unfold pV at h;split at h
 .exact h.elim
 .rename_i t hn;exact⟨t,rfl,λz=>hn (by rw[z]),h⟩
 .exact h.elim
theorem Vv(h:kC K k lo hs ta ph):kC K k lo (some i::hs) (jH (lQ i) ta) (Ai i ph):=λus g n F H j y r Q u W p q=>by
 let⟨t,b,c,p⟩:=vo p;rcases W.e i t b with z |⟨v,d,w⟩
 .exact absurd z c
 .exact⟨v,d,h us g n F H j y r _ _ W p λs vs f m l o a p1=>q _ _ f m l o ⟨t,v,s,vs,rfl,rfl,b,c,d,a⟩ p1⟩
theorem Ke(he:bt K k te pe)(h:kC K k lo hs ta ph):kC K k lo (none::hs) (jH te ta) (Aj pe ph):=λus i b F H j y s Q x W p q=>by
 refine he F (Bq b H) H j _ _ _ W.fF p λt v w l z d o=>?_
 let⟨f,n,r2,u⟩:=W.gD o d.1;exact h us i b f l j y s _ _ n d.2 λe vs g m c r a p3=>q (Pu.aB t::e) _ g m (u.trans c) r ⟨Pu.aB t,v,e,vs,rfl,rfl,r2.mo c (λ_=>Le.refl _) _,a⟩ p3
theorem HA.rs(W:a6 K k lo us Fb Hb F H G J cs):∀{hs:bI}{C:ah}{vs:ax},(hs.filterMap id).Nodup->HA K F Hb G J hs C vs->∃c,Rs K F (λ_=>Hb) C vs c/\ar F H c/\dg Hb c/\(∀p∈c,∃i,some i∈hs/\p∈cs i)/\∀i,some i∈hs->∀p∈cs i,p∈c
 |[],_,_,_,y=>by let⟨f,g⟩:=y;exact⟨[],by rw[f,g];exact⟨rfl,rfl⟩,.nil,.nil,(λ_ m=>nomatch m),λ_ m=>nomatch m⟩
 |none::hs,_,_,nd,y=>by
  ∎;let⟨t,v,A,a,f,g,w,x⟩:=y;let⟨c,l,o,r,h,s⟩:=HA.rs W (hs:=hs) nd x;∎;refine⟨c,by rw[f,g];exact⟨v,a,[],c,rfl,rfl,w,l⟩,o,r,λp m=>?_,λi m p b=>?_⟩
  .obtain⟨i,b1,b2⟩:=h p m;exact⟨i,.tail _ b1,b2⟩
  .cases m with
   |tail _ m=>exact s i m p b
 |some i::hs,_,_,nd,y=>by
  let⟨t,v,A,a,f,g,w,x,E,I⟩:=y;have nd:(i::hs.filterMap id).Nodup:=nd;rw[nodup_cons] at nd;let⟨c,l,o,r,h,s⟩:=HA.rs W (hs:=hs) nd.2 I;have M:some i ∉ hs:=λm=>nd.1 (mem_filterMap.mpr ⟨_,m,rfl⟩)
  have rt:R K F (λ_=>Hb) t v (cs i):=by
   rcases W.e i t w with z |⟨u,B,D⟩
   .exact absurd z x
   .rw[E] at B;cases B;exact D
  refine⟨cs i++c,by rw[f,g];exact⟨v,a,cs i,c,rfl,rfl,rt,l⟩,(W.c i).app o λp b q L=>?_,λp m=>(mem_append.mp m).elim (W.n i p) (r p),λp m=>?_,λj m p b=>?_⟩
  .obtain⟨j,b1,b2⟩:=h q L;exact W.d i j (λz=>M (by rw[z];exact b1)) p b q b2
  .rcases mem_append.mp m with m |m
   .exact⟨i,.head _,m⟩
   .obtain⟨j,b1,b2⟩:=h p m;exact⟨j,.tail _ b1,b2⟩
  .rcases mem_cons.mp m with e |m
   .cases e;exact mem_append.mpr (.inl b)
   .exact mem_append.mpr (.inr (s j m p b))
def bJ:bI->ah->ah
 |[],j=>j
 |none::hs,j=>bJ hs j
 |some i::hs,j=>(bJ hs j).set i .aF
theorem ui:∀(hs:bI)(j:ah),(bJ hs j).length=j.length
 |[],_=>rfl
 |none::hs,j=>ui hs j
 |some i::hs,j=>by show ((bJ hs j).set i .aF).length=_;rw[length_set];exact ui hs j
theorem yy:∀(hs:bI)(y:ah),some i ∉ hs->(bJ hs y).set i t=bJ hs (y.set i t)
 |[],_,_=>rfl
 |none::hs,y,h=>yy hs y λm=>h (.tail _ m)
 |some j::hs,y,h=>by
  show ((bJ hs y).set j .aF).set i t=(bJ hs (y.set i t)).set j .aF;rw[List.set_comm _ _ (λz=>h (by rw[z];exact .head _)),yy hs y λm=>h (.tail _ m)]
theorem uu:∀(hs:bI)(y:ah),(bJ hs y)[j]?=some t->t=.aF\/(some j ∉ hs/\y[j]?=some t)
 |[],_,h=>.inr ⟨(λm=>nomatch m),h⟩
 |none::hs,y,h=>(uu hs y h).imp id λ⟨a,b⟩=>⟨λm=>by cases m with |tail _ m=>exact a m,b⟩
 |some i::hs,y,h=>by
  have h:((bJ hs y).set i .aF)[j]?=some t:=h;by_cases e:i=j
  .subst e;have c:=(List.getElem?_eq_some_iff.mp h).1;rw[length_set] at c;rw[getElem?_set_self c] at h;cases h;exact .inl rfl
  .rw[getElem?_set_ne e] at h;exact (uu hs y h).imp id λ⟨a,b⟩=>⟨λm=>by
    rcases mem_cons.mp m with z |m
    .cases z;exact e rfl
    .exact a m,b⟩
theorem a6.past{hs:bI}{c:Cs}(W:a6 K k lo us Fb Hb F H y G cs)(n:dg Hb c)(B:∀p∈c,∃i,some i∈hs/\p∈cs i)(g:Gr F (dc (c.map (·.1)) H) F' H'):a6 K k lo us Fb Hb F' H' y (bJ hs G) (λj=>if some j∈hs then [] else cs j)/\∀j,some j ∉ hs->∀p∈cs j,(dc (c.map (·.1)) H) p.1=some p.2:=by
 have C:Gr Fb Hb F' H':=W.g.dc n g;have keep:∀j,some j ∉ hs->∀p∈cs j,(dc (c.map (·.1)) H) p.1=some p.2:=λj s p o=>by
  refine ro (λm=>?_) ((W.c j).h p o);∎;let⟨q,r,e⟩:=mem_map.mp m;let⟨i,w,A⟩:=B q r;∎;exact W.d j i (λz=>s (by rw[z];exact w)) p o q A e.symm
 refine⟨⟨C,λh=>g.fz (W.z h),by rw[ui];exact W.l,λj t h=>?_,λj=>?_,λj=>?_,λa b ne p o q r=>?_,W.p,W.x⟩,keep⟩
 .rcases uu hs G h with z |⟨z,e⟩
  .exact .inl z
  .rw[if_neg z];exact (W.e j t e).imp id λ⟨v,h1,h2⟩=>⟨v,h1,h2.mo g.le (λ_=>Le.refl _) t⟩
 .split
  .exact .nil
  .rename_i s;refine⟨λp m=>g.h _ _ (keep j s p m),λp m=>?_,(W.c j).nd⟩;cases z:F' p.1 with
   |none=>rfl
   |some u=>
    have:=g.n p.1 u z ((W.c j).f p m);rw[keep j s p m] at this;cases this
 .split
  .exact .nil
  .exact W.n j
 .split at o
  .cases o
  .split at r
   .cases r
   .exact W.d a b ne p o q r
theorem a6.fill{i:Nat}{t:Tr}{v:V}{c:Cs}(W:a6 K k lo us Fb Hb F H y G cs)(hv:y[i]?=some (some v))(r:R K F (λ_=>Hb) t v c)(w:ar F H c)(n:dg Hb c)(d:∀j,j≠i->∀p∈cs j,∀q∈c,p.1≠q.1):
  a6 K k lo us Fb Hb F H y (G.set i t) (λj=>if j=i then c else cs j) where
 g:=W.g
 z:=W.z
 l:=by rw[length_set];exact W.l
 e:=λj u h=>by
  by_cases e:j=i
  .subst e;have A:j<G.length:=by have:=(List.getElem?_eq_some_iff.mp h).1;rw[length_set] at this;exact this
   rw[getElem?_set_self A] at h;cases h;exact .inr ⟨v,hv,by rw[if_pos rfl];exact r⟩
  .rw[getElem?_set_ne (λz=>e z.symm)] at h;rw[if_neg e];exact W.e j u h
 c:=λj=>by
  split
  .exact w
  .exact W.c j
 n:=λj=>by
  split
  .exact n
  .exact W.n j
 d:=λa b ne p o q f=>by
  by_cases m:a=i
  .rw[if_pos m] at o;rw[if_neg (λz=>ne (m.trans z.symm))] at f;exact (d b (λz=>ne (m.trans z.symm)) q f p o).symm
  .rw[if_neg m] at o;by_cases s:b=i
   .rw[if_pos s] at f;exact d a m p o q f
   .rw[if_neg s] at f;exact W.d a b ne p o q f
 p:=W.p
 x:=W.x
def iI:bI->Nat->ah->ah->(aG)->Prop
 |[],_,_,y,Q=>Q y
 |none::hs,j,y',y,Q=>iI hs (j + 1) y' y Q
 |some i::hs,j,y',y,Q=>pV y'[j]? λt=>b5 t=true /\ iI hs (j + 1) y' (y.set i t) Q
theorem y3{Q:Md}{s:Nat}{vs:ax}{B:Hp}{Y:St}{C:ah}{a:Nat->Cs}{G:Prop}{D:aG}(g:a6 K Q s vs F1 B F' H' Y C a)(A:az Hb B):∀(hs:bI)(j:Nat)(J:ah)(f:Nat->Cs),(hs.filterMap id).Nodup->a6 K k lo us Fb Hb F' H' y (bJ hs J) f->(∀n i,hs[n]?=some (some i)->∃v,y[i]?=some (some v)/\vs[j+n]?=some v)->j+hs.length<=s->
  (∀i m,(i<lo\/True)->j<=m->∀p∈f i,∀q∈a m,p.1≠q.1)->iI hs j C J D->(∀w b,a6 K k lo us Fb Hb F' H' y w b->(∀i,∀p∈b i,p∈f i\/∃m,p∈a m)->D w->G)->G
 |[],j,J,f,_,W,_,_,_,p,q=>q J f W (λi p m=>.inl m) p
 |none::hs,j,J,f,nd,W,hv,hl,d,p,q=>by
  refine y3 g A hs (j+1) J f nd W (λn i e=>?_) (by rw[length_cons] at hl;omega) (λi m z hm=>d i m z ⋯) p q;let⟨v,o,r⟩:=hv (n+1) i e;exact⟨v,o,by rw[show j+1+n=j+(n+1) by omega];exact r⟩
 |some i::hs,j,J,f,nd,W,hv,hl,d,p,q=>by
  have nd:(i::hs.filterMap id).Nodup:=nd;rw[nodup_cons] at nd;have U:some i ∉ hs:=λm=>nd.1 (mem_filterMap.mpr ⟨_,m,rfl⟩)
  ∎;let⟨t,I,L,M,p⟩:=vo p;let⟨v,o,r⟩:=hv 0 i rfl;∎;rw[length_cons] at hl;have rt:R K F' (λ_=>Hb) t v (a j):=by
   rcases g.e j t I with z |⟨u,N,O⟩
   .exact absurd z L
   .have:=g.p j ⋯;rw[N,show vs[j]?=some v from r] at this;cases this;exact O.base t M
  have H:a6 K k lo us Fb Hb F' H' y (bJ hs (J.set i t)) (λm=>if m=i then a j else f m):=by
   have:=W.fill (i:=i) o rt (g.c j) (λp m=>A.free (g.n j p m)) λm _ p l q x=>d m j (.inr trivial) (le_refl j) p l q x
   rw[show (bJ (some i::hs) J).set i t=bJ hs (J.set i t) by
    show ((bJ hs J).set i .aF).set i t=_;rw[List.set_set];exact yy hs J U] at this
   exact this
  refine y3 g A hs (j+1) (J.set i t) _ nd.2 H (λn h e=>?_) ⋯ (λh m z hm p l q x=>?_) p λw b E sub=>q w b E λh p m=>?_
  .obtain⟨v,o,r⟩:=hv (n+1) h e;exact⟨v,o,by rw[show j+1+n=j+(n+1) by omega];exact r⟩
  .by_cases ei:h=i
   .rw[if_pos ei] at l;exact g.d j m ⋯ p l q x
   .rw[if_neg ei] at l;exact d h m z ⋯ p l q x
  .rcases sub h p m with z |z
   .by_cases ei:h=i
    .rw[if_pos ei] at z;exact .inr ⟨j,z⟩
    .rw[if_neg ei] at z;exact .inl z
   .exact .inr z
theorem HA.at_:∀{hs:bI}{p:ah}{vs:ax}{n i:Nat},HA K F Hb j G hs p vs->hs[n]?=some (some i)->∃v,j[i]?=some (some v)/\vs[n]?=some v
 |none::hs,_,_,n,i,y,e=>by
  let⟨t,v,d,f,h,c,l,g⟩:=y;cases n with
  |zero=>cases e
  |succ n=>let⟨u,a,b⟩:=HA.at_ (hs:=hs) g e;exact⟨u,a,by rw[c];exact b⟩
 |some x::hs,_,_,n,i,y,e=>by
  let⟨t,v,d,f,h,c,l,g,m,o⟩:=y;cases n with
  |zero=>cases e;exact⟨v,m,by rw[c];rfl⟩
  |succ n=>let⟨u,a,b⟩:=HA.at_ (hs:=hs) o e;exact⟨u,a,by rw[c];exact b⟩
theorem HA.len:∀{hs:bI}{e:ah}{vs:ax},HA K F Hb j u hs e vs->e.length=hs.length
 |[],_,_,y=>by let⟨a,_⟩:=y;rw[a];rfl
 |none::hs,_,_,y=>by let⟨t,v,b,c,a,f,g,d⟩:=y;rw[a,length_cons,length_cons,HA.len d]
 |some i::hs,_,_,y=>by let⟨t,v,b,c,a,f,g,d,l,h⟩:=y;rw[a,length_cons,length_cons,HA.len h]
theorem Vw{hs:bI}{n:Nat}{z:Bool}{aQ:dN}{H:ah}{vs:ax}{E:XK}{q':af->Prop}{O:Tr->aG}{Q:VK}(W:a6 K k lo us Fb Hb F1 H1 j y cs)(l:Le F F1)(a:HA K F1 Hb j y hs H vs)(nd:(hs.filterMap id).Nodup)(hk:z=true->k.z=true)(hn:(cp H).length=n)(hE:∀d f b,q' d->Gr Fb Hb f b->E d none b)(p1:aQ (cp H) (λt B=>iI hs 0 B y λN=>O t N) q')(q:∀t v f b B u c,iG K k lo us Fb Hb F f b j B u t v c->O t B->Q v b):cu K z n n aQ vs H1 Q E:=by
 let⟨C,a1,a2,I,a4,a5⟩:=a.rs W nd;have M:az Hb (dc (C.map (·.1)) H1):=λx o e=>ro (uE I e) (W.g.h _ _ e)
 have o1:dO K F1 (λ_=>Hb) (dc (C.map (·.1)) H1) F1 H1 H vs C:=⟨⟨zC W.g.s,Fz.refl F1⟩,a1,a2,λp m=>yv m⟩
 refine ur (λh=>W.z (hk h)) hn (λ_=>M) o1 (λd f b hq g=>hE d f b hq (W.g.dc I g)) p1 λf b j' B u v t c g nw U r hc G dj nl qt=>?_
 let⟨Y,keep⟩:=W.past I a4 g;have w:∀(J:Cs),dg (dc (C.map (·.1)) H1) J->∀i,∀p∈(if some i∈hs then [] else cs i),∀q∈J,p.1≠q.1:=λJ G i p A q D e=>by
  split at A
  .cases A
  .rename_i hi;have:=keep i hi p A;rw[e,G q D] at this;cases this
 refine y3 U M hs 0 y _ nd Y (λn i e=>?_) (by rw[<- hn,l8,a.len];omega) (λi m _ _=>w (u m) (U.n m) i) qt λN L W2 sub q2=>?_
 .rw[Nat.zero_add];exact a.at_ e
 .refine q t v f b N L c ⟨l.trans g.le,W2,r.base t nl,hc,λp m=>M.free (G p m),λi p A q D=>?_⟩ q2;rcases sub i p A with z |⟨m,z⟩
  .exact w c G i p z q D
  .exact dj m p z q D
def tq(q:af->Prop)(D:ae->Nat->Prop)(m:Str)(i:Nat)(hs:bI)(aQ:Nat->dN)(d:cG):e8:=λj Q=>pV j[i]? λx=>eC D m x λc=>d j λe=>aQ c (cp (x::e)) (λt a=>iI (some i::hs) 0 a j λb=>Q t b) q
theorem Fi{aQ:Nat->dN}{R':St->XK}{q':af->Prop}(N:∀(us:ax)(Fb Hb F H:Hp)(j:St)(y:ah)(cs:Nat->Cs),a6 K k lo us Fb Hb F H j y cs->∀b l d,q' b->Gr Fb Hb l d->R' j b none d)(nd:((some i::hs).filterMap id).Nodup)(O:z=true->k.z=true)(hn:∀C xs Q q,aQ C xs Q q->xs.length=n)(h:kC K k lo hs ta ph):gR K k lo (qK D m (λC=>cu K z n n (aQ C)) R' (lQ i) ta) (tq q' D m i hs aQ ph):=λus Fb Hb F H j y cs Q Q' W p q=>by
 ∎;let⟨x,u,G,p⟩:=vo p;let⟨f,C,fs,g,rfl,M,U,p⟩:=GO p;∎;rcases W.e i _ u with z |⟨v,w,L⟩
 .cases z
 let⟨a,E,vs,ds,rfl,I,J,_⟩:=L.kc W.g.s (λ_=>W.g.h) (W.c i);refine⟨.ref a,w,a,C,E,vs,g,rfl,I,M,J.none_of U,h us Fb Hb F H j y cs _ _ W p λts o A B l1 r ha p1=>?_⟩;exact Vw r l1 (hs:=some i::hs) ⟨_,_,ts,o,rfl,rfl,u,G,w,ha⟩ nd O (hn _ _ _ _ p1) (λb l d Y g=>N us Fb Hb A B j y cs r b l d Y g) p1 q
end
structure QL(X:Cx)(k:Md)(lo:Nat)(e:Expr)(pl:e8):Prop where
 h:∃te,PE X e te/\gR X.K k lo te pl
structure sA(X:Cx)(k:Md)(lo:Nat)(es:bT)(pa:kN):Prop where
 h:∃ta,PA X es ta/\qA X.K k lo ta pa
structure QH(X:Cx)(k:Md)(lo:Nat)(es:bT)(hs:bI)(ph:cG):Prop where
 h:∃ta,PA X es ta/\kC X.K k lo hs ta ph
section
theorem rV(h:QE X k e pe):QL X k lo e (Aw pe):=by
 let⟨c,a,b⟩:=h.h;exact⟨_,a,Kd b⟩
theorem zq:sA X k lo [] wW:=⟨_,me,Vt⟩
theorem ox(h:QL X k lo e pl)(h':sA X k lo es pla)(hs:do eA e es X.env):sA X k lo (e::es) (wz pl pla):=by
 ∎;let⟨f,c,d⟩:=h.h;let⟨g,a,b⟩:=h'.h;∎;exact⟨_,kS c a hs,TK d b⟩
theorem rB:QH X k lo [] [] vO:=⟨_,me,Gk⟩
theorem Kf(i:Nat)(h:QH X k lo es hs ph)(e:do X.N[i]?=some x)(hv:jz X.env.scope x:=by first |exact Or.inl rfl |exact Or.inr (Or.inl rfl) |exact Or.inr (Or.inr rfl))(hd: ~~~(cI x))(a: ~~~((x == ("__classdict__":Str))=false))(b:do starEach (.Name x p::es) X.env=(false,eval (.Name x p) X.env)::starEach es X.env):QH X k lo (.Name x p::es) (some i::hs) (Ai i ph):=by
 let⟨f,c,d⟩:=h.h;exact⟨_,kS (l9 e hv hd a) c b,Vv d⟩
theorem rW(he:QE X k e pe)(h:QH X k lo es hs ph)(a:do eA e es X.env):QH X k lo (e::es) (none::hs) (Aj pe ph):=by
 ∎;let⟨g,d,f⟩:=he.h;let⟨i,b,c⟩:=h.h;∎;exact⟨_,kS d b a,Ke f c⟩
theorem Ie(n:b6 X (compareOp op) r)(hs:cZ X.K k r pr)(ha:QL X k lo a pl)(m:QL X k lo b pl')(hm:behindInMarks op b=false)(h:QB X k lo s1 p)(h':QB X k lo s2 q):QS X k lo (.If (.Compare a [op] [b] pos) s1 s2 ipos) (xF (Av pr pl pl') p q):=by
 ∎;let⟨u,j,l⟩:=ha.h;let⟨v,g,i⟩:=m.h;let⟨o,e,f⟩:=h.h;let⟨s,c,d⟩:=h'.h;∎;exact⟨_,Jb (Gx n j g hm) e c,Yk (Yj hs l i) f d⟩
theorem wx:∀(us:ax)(Fb Hb F H:Hp)(j:St)(y:ah)(cs:Nat->Cs),a6 K k lo us Fb Hb F H j y cs->∀a c b,k.q a->Gr Fb Hb c b->k.E j a none b:=λus Fb Hb F H j y cs W a c b d g=>W.x a j c b d g
section
def CG(C:ae)(aQ:bQ)(c:kN):e8:=λj Q=>c j λd b=>aQ (cp (.ins .o C []::d)) (λt a=>t=.aZ/\gQ a[0]? λx=>Q x b)
theorem zr{aQ:bQ}(M:Mk X.K C f)(G:aw X.prog X.w X.K X.mg X.base aV km f fd ps (aX X.K z 1 n aQ))(j:z=true->k.z=true)(hn:∀xs Q,aQ xs Q->xs.length=n)(l:bh (km+1) X.A)(i:Gl X x)(hm:X.mg x=some (.ref C))(g:Binds X.K fd ps [])(ha:sA X k lo (e::es) pla)(a: ~~~(cI x))(he:do eA e es X.env)(b:do e9 pos es X.env):
  QL X k lo (.Call (.Name x p) (e::es) [] pos) (CG C aQ pla):=by
 let⟨m,c,d⟩:=ha.h;exact⟨_,yY (R:=λ_=>E0) M G l i hm g .nil (vn oN) c a he b,SF (q':=λ_=>False) (aQ:=λxs Q _=>aQ xs Q) (λ_ _ _ _ _ _ _ _ _ _ _ _ h=>h.elim) j (λxs Q _=>hn xs Q) d⟩
theorem uI(i:Nat){D:ae->Nat->Prop}{aQ:Nat->dN}(o:∀C g,D C g->aO X.prog X.w X.K X.mg X.base (b9 X.prog X.w) km m C ps (cu X.K z n n (aQ g)))(y:∀j,il (b9 X.prog X.w) X j (k.E j))(s:z=true->k.z=true)(hn:∀C xs Q q,aQ C xs Q q->xs.length=n)(u:bh km X.A)(ha:QH X k lo (e::es) hs ph)(nd: ~~~(((some i::hs).filterMap id).Nodup))(r:do X.N[i]?=some x)(hv:jz X.env.scope x:=by first |exact Or.inl rfl |exact Or.inr (Or.inl rfl) |exact Or.inr (Or.inr rfl))(hd: ~~~(cI x))(a: ~~~((x == ("__classdict__":Str))=false))(c:do eA e es X.env)(b:do e9 pos es X.env)(v:eval (.Call (.Attribute (.Name x p) m apos) (e::es) [] pos) X.env=(do
   let ov <- eval (.Name x p) X.env
   standAt apos.atName
   let (f,first) <- holding [ov] (getMethod ov m pl)
   callWith pos f first (backTo pos (starEach (e::es) X.env)) (backToKw pos (keywordEach [] X.env))):=by rfl):QL X k lo (.Call (.Attribute (.Name x p) m apos) (e::es) [] pos) (tq k.q D m i hs aQ ph):=by
 let⟨B,d,l⟩:=ha.h;exact⟨_,Ib (l9 r hv hd a) o u y d c b v,Fi wx nd s hn l⟩
theorem eW(i:Nat){D:ae->Nat->Prop}{aQ:Nat->dN}(b:∀C g,D C g->aO X.prog X.w X.K X.mg X.base (b9 X.prog X.w) km m C ps (cu X.K z n n (aQ g)))(l:∀j,il (b9 X.prog X.w) X j (k.E j))(d:z=true->k.z=true)(hn:∀C xs Q q,aQ C xs Q q->xs.length=n)(e:bh km X.A)(c:do X.N[i]?=some x)(hv:jz X.env.scope x:=by first |exact Or.inl rfl |exact Or.inr (Or.inl rfl) |exact Or.inr (Or.inr rfl))(hd: ~~~(cI x))(a: ~~~((x == ("__classdict__":Str))=false))(h:eval (.Call (.Attribute (.Name x p) m apos) [] [] pos) X.env=(do
   let ov <- eval (.Name x p) X.env
   standAt apos.atName
   let (f,first) <- holding [ov] (getMethod ov m pl)
   callWith pos f first (backTo pos (starEach [] X.env)) (backToKw pos (keywordEach [] X.env))):=by rfl):QL X k lo (.Call (.Attribute (.Name x p) m apos) [] [] pos) (tq k.q D m i [] aQ vO):=
 ⟨_,GN (l9 c hv hd a) b e l h,Fi wx (show ([i]:List Nat).Nodup by simp) d hn Gk⟩
end
section
theorem fT(i:Nat)(h:QL X k lo e pl)(c:X.N.Nodup:=by assumption)(g: ~~~(lo<=i))(f:do X.N[i]?=some x)(j:Loc X.env.scope x:=by first |exact Or.inl rfl |exact Or.inr rfl)(hs:do swapsWith e (some (.Name x pos')) pos.line X.env=pure false)(d:kq X x:=by first |exact .inl rfl |exact .inr rfl |assumption):
  QS X k lo (.Assign [.Name x pos'] e pos) (wA i pl):=by
 let⟨l,a,b⟩:=h.h;exact⟨_,zB c f j a hs d,TL g b⟩
theorem q0(h:QL X k lo e pl)(hs:do swapsWith e none pos.line X.env=pure false):QS X k lo (.Expr e pos) (wB pl):=by
 let⟨c,a,b⟩:=h.h;exact⟨_,XU a hs,TN b⟩
theorem uQ(h:QL X k lo e pl):QS X k lo (.Return (some e) pos) (xf pl):=by
 let⟨c,a,b⟩:=h.h;exact⟨_,Hz a,Vu b⟩
end
end
section
theorem zb:∀{ns:ag}{vs:ax}{c:Cs},Rs K F B (ns.map (ao.t (α:=Str))) vs c->vs=ns.map V.str/\c=[]
 |[],_,_,h=>h
 |n::ns,_,_,y=>by
  ∎;let⟨v,r,c,d,g,i,j,l⟩:=y;let⟨a,b⟩:=zb l;let⟨e,f⟩:=(show v=V.str n/\c=[] from j);∎;exact⟨by rw[g,a,e];rfl,by rw[i,f,b];rfl⟩
theorem Hi:∀(ns:ag),Rs K F B (ns.map (ao.t (α:=Str))) (ns.map V.str) []
 |[]=>⟨rfl,rfl⟩
 |n::ns=>⟨.str n,ns.map V.str,[],[],rfl,rfl,⟨rfl,rfl⟩,Hi ns⟩
def Jv(t:Tr)(Q:aq):Prop:=∃(f:Fl)(ns:ag),t=.av f ↥ns/\ns.length<60/\Q (.av .o ((m7 (dA ns)).map ao.t))
def Ju(t:Tr)(Q:aq):Prop:=∃(f:Fl)(ns:ag),t=.av f ↥ns/\ns.length<60/\Q (.int ((dA ns).length:Int))
theorem F0{Q:VK}(s:az F H)(b:∀k,az (B k) H)(r:R K F B (.av f ↥ns) v c1)(g:ar F H c1)(m:ns.length<60)(q:∀p,H p=none->Q (.ref p) (aW H p (jh P w p ((dA ns).map Sum.inr)))):nP P w K [v] H Q:=by
 ∎;let⟨a,vs,i,rfl,c,d,j,l⟩:=r.cF s b g;let⟨rfl,_⟩:=zb d;∎;refine⟨a,ns.map Sum.inr,rfl,?_,by rw[length_map];omega,λp h=>?_⟩
 .rw[map_map];exact c
 .rw[VP (λx y e=>Sum.inr.inj e)];exact q p h
theorem Kg(h:bt K k te pe):bt K k (m8 (qs P w) (jH (m8 (nP P w K) (jH te jL)) jL)) (p1 Jv pe):=λF B H j u Q G c p q=>by
 refine h F B H j u _ _ c p λx v e i I p1 a=>?_
 let⟨f,ns,rfl,z,p1⟩:=p1;have n:nP P w K [v] i (λx o=>qs P w [x] o Q):=?_
 .exact n
 refine F0 a.g.s (λk=>(c.b k).trans a.g.h) a.r a.c z λp A=>?_
 show qs P w [V.ref p] _ Q;refine XB fb (lt_of_le_of_lt (uq _) ⋯) λp2 d=>?_
 have l:Gr e i e (aW i p (jh P w p ((dA ns).map Sum.inr))):=Gr.gG a.g.s A;let⟨C,D,E⟩:=oi (K:=K) (B:=B) l.s (Hi (m7 (dA ns))) .nil d;refine q _ _ e _ _ p1 ⟨(a.g.trans' l).trans' C,D,E,λy m=>?_⟩;cases m with
 |head=>exact a.g.h.free (l.h.free d)
 |tail _ m=>cases m
theorem Kh(h:bt K k te pe):bt K k (m8 (qC P w) (jH (m8 (nP P w K) (jH te jL)) jL)) (p1 Ju pe):=λF B H j y Q u c p q=>by
 refine h F B H j y _ _ c p λx v d e z p1 a=>?_
 let⟨f,ns,rfl,n,p1⟩:=p1;have i:nP P w K [v] e (λx l=>qC P w [x] l Q):=?_
 .exact i
 refine F0 a.g.s (λk=>(c.b k).trans a.g.h) a.r a.c n λp o=>?_
 have m:Gr d e d (aW e p (jh P w p ((dA ns).map Sum.inr))):=Gr.gG a.g.s o;show qC P w [V.ref p] _ Q;exact z'r fb (lt_of_le_of_lt (uq _) ⋯) (q _ _ d _ [] p1 ⟨a.g.trans' m,⟨rfl,rfl⟩,.nil,.nil⟩)
def xg(a:bK)(b:aY):aY:=λj Q=>b j λy=>fQ y λx=>(match a.lookup x with |some t=>Q t |none=>False)
theorem Wj{e:TE}(hd:∀j H (Q:VK),Q (.ref c) H->e j H Q)(o:KD w K c kvs)(n:∀x t,tab.lookup x=some t->∃a,kvs.lookup x=some (.ref a)/\∀F B,R K F B t (.ref a) [])(h:bt K k ty py):bt K k (CT w K e ty) (xg tab py):=λF B H j u Q s i p q=>by
 refine hd _ _ _ (h F B H j u _ _ i p λy v b f z p1 d=>?_);∎;let⟨x,rfl,p2⟩:=kX p1;let⟨rfl,_⟩:=d.r;∎;split at p2
 .rename_i t et;let⟨a,l,m⟩:=n x t et;exact⟨c,kvs,x,a,rfl,o,rfl,l,q t _ b f [] p2 ⟨d.g,m b B,.nil,.nil⟩⟩
 .exact p2.elim
def xG(neg:Bool)(x y:Tr)(Q:aq):Prop:=∃(f g:Fl)(m a:bN)(n:Nat),x=.a9 f m/\y=.a9 g a/\n<=20/\m.length=a.length/\(∀p∈m,∃t,look a p.1=some t/\m6 p.2 t=true/\dep p.2=n)/\Q (.bl (!neg))
theorem Rk.mem:∀{m:bN}{vs:cv}{c:Cs}{y:aU}{u:V},Rk K F B m vs c->ar F H c->(y,u)∈vs->∃x d,(y,x)∈m/\R K F B x u d/\ar F H d
 |[],_,_,_,_,y,_,m=>by let⟨h,_⟩:=y;rw[h] at m;cases m
 |(k',x)::xs,_,_,y,u,y0,hc,m=>by
  let⟨v,r,c,d,a,b,f,g⟩:=y0;rw[b] at hc;rw[a] at m;rcases mem_cons.mp m with e |m
  .cases e;exact⟨x,c,.head _,f,hc.left⟩
  .obtain⟨x',d',a1,a2,a3⟩:=Rk.mem g hc.right m;exact⟨x',d',.tail _ a1,a2,a3⟩
theorem Wl:cZ K k (xS K (!neg)) (xG neg):=λF B H x y tx ty cx cy Q Q' s b z rx ry U Y hd p q=>by
 ∎;let⟨f,g,m,m',n,rfl,rfl,hn,O,al,p⟩:=p;let⟨a,vs,ds,rfl,M,j,N,_⟩:=rx.fN s b U;let⟨o,us,es,rfl,J,i,L,_⟩:=ry.fN s b Y;∎;have l1:vs.length=m.length:=by have:=congrArg List.length j.fst;rw[length_map,length_map] at this;exact this
 have l2:us.length=m'.length:=by have:=congrArg List.length i.fst;rw[length_map,length_map] at this;exact this
 refine⟨n,a,o,vs,us,le_trans hn ∎,rfl,rfl,M,J,⟨by rw[l1,l2];exact O,λkk v mv=>?_⟩,q _ _ F H [] p (Gr.aI s) ⟨rfl,rfl⟩ .nil λ_ m=>nomatch m⟩;∎;let⟨t,d,C,D,E⟩:=j.mem N mv;let⟨t',h,G,I⟩:=al _ C;∎;rcases i.look kk L with⟨l,_⟩ |⟨t2,u,c,e,r,w,A,_⟩
 .rw[h] at l;cases l
 .rw[h] at e;cases e;refine⟨u,r,?_⟩;have:=H0 s b t t' v u d c G D w E A;rw[I] at this;exact this
theorem Yl:cZ K k (xS K false) (xG true):=Wl (neg:=true)
end
section
theorem KZ{p p2 a:Pos}(f:X.calm=true)(l:Gl X "sorted")(hm:X.mg "sorted"=none)(b:Gl X "set")(c:X.mg "set"=none)(h:QE X k e pe)(d:do nv e X.env)(j:do starEach [.Call (.Name "set" p2) [e] [] a] X.env=[(false,eval (.Call (.Name "set" p2) [e] [] a) X.env)]):
  QE X k (.Call (.Name "sorted" p) [.Call (.Name "set" p2) [e] [] a] [] pos) (p1 Jv pe):=by
 let⟨m,g,i⟩:=h.h;exact⟨_,yS (Pz f) l hm rfl (kS (ye (E9 f) b c rfl (kS g me d) (he:=d)) me j),Kg i⟩
theorem Ls{p p2 a:Pos}(j:X.calm=true)(l:Gl X "len")(hm:X.mg "len"=none)(b:Gl X "set")(c:X.mg "set"=none)(h:QE X k e pe)(d:do nv e X.env)(i:do starEach [.Call (.Name "set" p2) [e] [] a] X.env=[(false,eval (.Call (.Name "set" p2) [e] [] a) X.env)]):
  QE X k (.Call (.Name "len" p) [.Call (.Name "set" p2) [e] [] a] [] pos) (p1 Ju pe):=by
 let⟨m,f,g⟩:=h.h;exact⟨_,yS SU l hm rfl (kS (ye (E9 j) b c rfl (kS f me d) (he:=d)) me i),Kh g⟩
theorem Ki(b:bK)(g:Gl X x)(hm:X.mg x=some (.ref c))(j:KD X.w X.K c kvs)(i:∀x t,b.lookup x=some t->∃a,kvs.lookup x=some (.ref a)/\∀F B,R X.K F B t (.ref a) [])(h:QE X k e pe)(hs:xQ e)(hd: ~~~(cI x)):QE X k (.Subscript (.Name x p) e pos) (xg b pe):=by
 let⟨l,d,f⟩:=h.h;exact⟨_,VQ (Gq (v:=.ref c) g hm rfl hd) d hs,Wj (λ_ _ _ q=>q) j i f⟩
end
theorem TQ:tU D m aQ po pa j Q=(po j λx=>eC D m x λc=>pa j λa=>aQ c (cp (x::a)) (λt _=>Q t)):=rfl
theorem P6:wy q C aQ pa j Q=(pa j λb=>aQ (cp (.ins .o C []::b)) (λt a=>t=.aZ/\gQ a[0]? Q) q):=rfl
theorem R6:wV C aQ pa j Q=(pa j λb=>aQ (cp (.ins .o C []::b)) λt a=>t=.aZ/\gQ a[0]? Q):=rfl
theorem WM:Aw pe j Q=(pe (j.map aJ) λt=>bW t=true/\Q t j):=rfl
theorem R7(j:ah)(Q:ah->aG):wW j Q=(Q [] j):=rfl
theorem P7(pl:e8)(a:kN)(j:ah)(Q:ah->aG):wz pl a j Q=(pl j λt b=>a b λd c=>Q (aB t::d) c):=rfl
theorem WN(c:Tr->Tr->(aq)->Prop)(a:e8)(b:e8)(j:ah)(Q:Tr->aG):Av c a b j Q=(a j λx d=>b d λy e=>c (aB x) y λt=>Q t e):=rfl
theorem P8(i:Nat)(pl:e8)(D:Pd)(j:ah):wA i pl D j=(pl j λt a=>D.nx (a.set i (aB t))):=rfl
theorem P9:wB pl D j=(pl j λ_ j1=>D.nx j1):=rfl
theorem R8:xf pl D j=(pl j λt a=>b5 t=true/\D.rt t a):=rfl
theorem TR:xF pl p q D j=(pl j λt a=>eF t λb=>if b=true then p D a else q D a):=rfl
theorem WO:vO j' Q=(Q []):=rfl
theorem WQ(i:Nat)(a:cG)(j:ah)(Q:aG):Ai i a j Q=(pV j[i]? λt=>a j λb=>Q (t::b)):=rfl
theorem WR:Aj pe ph j Q=(pe (j.map aJ) λt=>bW t=true/\ph j λa=>Q (Pu.aB t::a)):=rfl
theorem Qa(q:af->Prop)(D:ae->Nat->Prop)(m:Str)(i:Nat)(hs:bI)(aQ:Nat->dN)(a:cG)(j:ah)(Q:Tr->aG):tq q D m i hs aQ a j Q=(pV j[i]? λx=>eC D m x λc=>a j λe=>aQ c (cp (x::e)) (λt b=>iI (some i::hs) 0 b j λd=>Q t d) q):=rfl
theorem Qb:CG C aQ pa j Q=(pa j λc b=>aQ (cp (.ins .o C []::c)) (λt a=>t=.aZ/\gQ a[0]? λx=>Q x b)):=rfl
theorem R9(a:bK)(b:aY)(j:ah)(Q:aq):xg a b j Q=(b j λy=>fQ y λx=>(match a.lookup x with |some t=>Q t |none=>False)):=rfl
theorem Qc(j:Nat)(a y:ah)(Q:aG):iI [] j a y Q=Q y:=rfl
theorem Sa(hs:bI)(j:Nat)(a y:ah)(Q:aG):iI (none::hs) j a y Q=iI hs (j+1) a y Q:=rfl
theorem Qd(i:Nat)(hs:bI)(j:Nat)(a y:ah)(Q:aG):iI (some i::hs) j a y Q=(pV a[j]? λt=>b5 t=true/\iI hs (j+1) a (y.set i t) Q):=rfl
theorem zv(c:ae)(fs:bK):aJ (.ins .o c fs)=.ins (.l true) c (de fs):=rfl
theorem zu(c:ae)(fs:bK):Pu.aB (.ins .o c fs)=.ins .f c (fv fs):=rfl
theorem zt(c:ae)(fs:bK):dn (.ins .o c fs)=.ins .o c (gV fs):=rfl
theorem z8(b:Bool)(c:ae)(fs:bK):dn (.ins (.l b) c fs)=.ins (.l false) c (gV fs):=rfl
theorem z9(c:ae)(fs:bK):dn (.ins .f c fs)=.ins .f c (gV fs):=rfl
theorem Kj(c:ae)(fs:bK):Pu.aB (.ins .f c fs)=.ins .f c fs:=rfl
theorem Aa(c:ae)(fs:bK):aJ (.ins .f c fs)=.ins .f c fs:=rfl
theorem Ab(b:Bool)(c:ae)(fs:bK):aJ (.ins (.l b) c fs)=.ins (.l b) c fs:=rfl
theorem lj(c:ae)(fs:bK):b5 (.ins .o c fs)=dt fs:=rfl
theorem vi(c:ae)(fs:bK):bW (.ins .o c fs)=eL fs:=rfl
theorem TU(K:ak)(f:Str)(c:ae)(fs:bK)(Q:ae->bK->Prop):kz K f (.ins .o c fs) Q=((du K c/\aD K c f)/\fs.length<900/\Q c fs):=rfl
theorem w_fld(K:ak)(f:Str)(g:Fl)(c:ae)(fs:bK)(Q:aq):gP K f (.ins g c fs) Q=((du K c/\aD K c f)/\(match fs.lookup f with |some t=>Q t |none=>False)):=rfl
theorem Qe:fX f u []=[(f,u)]:=rfl
theorem Sb(f:Fl)(c:ae)(xs:bK)(R:aq):nh (some (.ins f c xs)) R=R (.ins f c xs):=rfl
section
theorem mO(xs:ag)(a:Gl X x)(hm:X.mg x=some (.ref c))(b:∃(o:Obj)(bo:dh)(n:Nat),X.K.lookup c=some o/\o.cls=.type "tuple"/\o.data=.seq bo n/\bo.size<=sizeLine/\aL (xs.map V.str) bo.toList)(hd: ~~~(cI x)):QE X k (.Name x pos) (pC (.aA (xs.map Tr.str))):=
 rp (.ref c) a hm rfl (λF B=>⟨c,_,rfl,.inr b,uG xs⟩) hd
end
section
theorem a6.bJ(W:a6 K k lo us Fb Hb F H y u cs)(hs:bI):a6 K k lo us Fb Hb F H y (Pu.bJ hs u) (λj=>if some j∈hs then [] else cs j):=by
 refine⟨W.g,W.z,by rw[ui];exact W.l,λj t h=>?_,λj=>?_,λj=>?_,λa b ne p f q i=>?_,W.p,W.x⟩
 .rcases uu hs u h with z |⟨z,e⟩
  .exact .inl z
  .rw[if_neg z];exact W.e j t e
 .split
  .exact .nil
  .exact W.c j
 .split
  .exact .nil
  .exact W.n j
 .split at f
  .cases f
  .split at i
   .cases i
   .exact W.d a b ne p f q i
def wC(hs:bI)(b:cG):e8:=λj Q=>b j λa=>a.length<=10000/\Q (.aA a) (bJ hs j)
theorem TV(nd:(hs.filterMap id).Nodup)(h:kC K k lo hs ta ph):gR K k lo (xP ta) (wC hs ph):=λus l m F H y u D Q M W p q=>by
 refine h us l m F H y u D _ _ W p λO vs J L G b a p1=>?_
 let⟨B,e,n,o,v,N⟩:=a.rs b nd;refine⟨by rw[e.length];exact j4 (le_trans p1.1 ∎),λx E=>?_⟩;let⟨f,g,r,C⟩:=qW b.g.s e n E;refine q _ _ f _ _ _ B ⟨G.trans g.le,(b.bJ hs).gr g,r,C,o,λi p c q I=>?_⟩ p1.2;split at c
 .cases c
 .rename_i hi;let⟨j,w,A⟩:=v q I;exact b.d i j (λz=>hi (by rw[z];exact w)) p c q A
def xH(i:Nat):e8:=λj Q=>pV j[i]? λt=>Q t (j.set i .aF)
theorem Ym:gR K k lo (lQ i) (xH i):=λus o r F H y u b Q s W p q=>by
 let⟨t,f,g,p⟩:=vo p;rcases W.e i t f with z |⟨v,h,l⟩
 .exact absurd z g
 refine⟨v,h,q t v F H _ _ (b i) ⟨Le.refl _,W.aF (i:=i),l,W.c i,W.n i,λj p a q m=>?_⟩ p⟩;split at a
 .cases a
 .rename_i hj;exact W.d j i hj p a q m
theorem Qf:wC hs ph j Q=(ph j λa=>a.length<=10000/\Q (.aA a) (bJ hs j)):=rfl
theorem TX(i:Nat)(j:ah)(Q:Tr->aG):xH i j Q=(pV j[i]? λt=>Q t (j.set i .aF)):=rfl
end
section
theorem Yn{x1}(h:QH X k lo es hs ph)(nd: ~~~((hs.filterMap id).Nodup)):QL X k lo (.Tuple es x1 pos) (wC hs ph):=by
 let⟨c,a,b⟩:=h.h;exact⟨_,HE a,TV nd b⟩
theorem Lq(i:Nat)(b:do X.N[i]?=some x)(hv:jz X.env.scope x:=by first |exact Or.inl rfl |exact Or.inr (Or.inl rfl) |exact Or.inr (Or.inr rfl))(hd: ~~~(cI x))(a: ~~~((x == ("__classdict__":Str))=false)):QL X k lo (.Name x pos) (xH i):=⟨_,l9 b hv hd a,Ym⟩
end
theorem wj:Le (λ_=>none) F:=λa u _ h=>by
 rcases h with h |⟨o,h⟩
 .cases h
 .cases h
theorem F3:∀{vs:ax}{xs:List (Str×Rat)},Al (r2 K rS (vQ K)) (λ_=>none) vs xs->Rs K F B ↥xs vs []
 |[],[],_=>⟨rfl,rfl⟩
 |v::vs,(x,q)::xs,h=>by
  let⟨⟨a,u,f,b,c,d,g,j,e⟩,i⟩:=h;subst b;subst j;exact⟨_,vs,[],[],rfl,rfl,⟨a,[u,.ref g],rfl,wj.aA c,u,[.ref g],[],[],rfl,rfl,⟨d,rfl⟩,.ref g,[],[],[],rfl,rfl,⟨g,[.int q.num,.int (q.den:Int)],rfl,wj.aA e,_,_,[],[],rfl,rfl,⟨rfl,rfl⟩,_,_,[],[],rfl,rfl,⟨rfl,rfl⟩,rfl,rfl⟩,rfl,rfl⟩,F3 i⟩
 |[],_::_,h=>h.elim
 |_::_,[],h=>h.elim
def kD(m:List (Str×List (Str×Rat))):bK:=m.map λp=>(p.1,.aA ↥p.2)
theorem Wn(h:(kD m).lookup x=some t):∃xs,(x,xs)∈m/\t=.aA ↥xs:=by
 induction m with
 |nil=>cases h
 |cons p r c=>
  have h:((p.1,Tr.aA ↥p.2)::kD r).lookup x=some t:=h;rw[lookup_cons] at h;cases e:x == p.1 with
  |true=>
   rw[e] at h;cases h;exact⟨p.2,by rw[eq_of_beq e];exact .head _,rfl⟩
  |false=>
   rw[e] at h;let⟨xs,a,b⟩:=c h;exact⟨xs,.tail _ a,b⟩
theorem Kk(h:∃kvs,KD w K c kvs/\∀x xs,(x,xs)∈m->∃a vs,kvs.lookup x=some (.ref a)/\ck K (λ_=>none) a vs/\Al (r2 K rS (vQ K)) (λ_=>none) vs xs)(f:∀kvs,KD w K c kvs->(∀x t,(kD m).lookup x=some t->∃a,kvs.lookup x=some (.ref a)/\∀F B,R K F B t (.ref a) [])->QE X k e pe):QE X k e pe:=by
 let⟨kvs,j,al⟩:=h;refine f kvs j λx t i=>?_
 ∎;let⟨xs,l,rfl⟩:=Wn i;let⟨a,vs,b,d,g⟩:=al x xs l;∎;exact⟨a,b,λF B=>⟨a,vs,rfl,wj.aA d,F3 g⟩⟩
end Pu
namespace L2
open PySem PySem.Spec PyProof.Rows
def Dh(K:ak):ax->Hp->VK->Prop:=λe H Q=>∃(a C d t:ae)(fs:List (Str×V))(c:b7)(b:Bool),e=[.ref a,.ref t]/\Rd H a (.ins C d fs)/\fG K C/\ck K H t (c.map V.ref)/\W.kitAny K (.ref C) (c.map Value.ref)=some b/\Q (.bl b) H
theorem TY:bA X (.builtin "isinstance") (Dh X.K):=by
 intro aa s j H L us Q I r h;∎;let⟨a,C,D,t,fs,d,b,rfl,l,z,i,e,q⟩:=h;let⟨v,y,rfl,u,eM⟩:=zS r;∎;cases (show v=Value.ref a from u);cases (show y=Value.ref t from eM);∎;let⟨E,O,_⟩:=u6 I.aS l;let⟨od,J,_⟩:=O.look;let⟨us,r1,pt,f⟩:=I.tuple i;∎;have m:us=d.map Value.ref:=by
  clear e i q pt f
  induction d generalizing us with
  |nil=>cases r1;rfl
  |cons c d p=>cases r1 with
   |cons a b=>rw[map_cons,p _ b];exact congrArg (·::_) a
 subst m;let⟨⟨A,B,G,w⟩,o,g,n,hd⟩:=pt;simp only at g hd;subst g hd;exact W.kia_tup (W.kitx_own (z.cl.get _) z.cl.hd z.ha z.hn z.vg z.hm) I.cP J o e (λz=>nomatch z) λx=>⟨.bl b,H,I.tok x,rfl,q⟩
end L2
namespace Pu
open PySem L2 Vc Sf
section
def xh(K:ak)(c:ah)(Q:aq):Prop:=match c with
 |[.ins _ C _,.aA cs]=>∃(a:b7)(b:Bool),cs=a.map Tr.cl /\ fG K C /\ W.kitAny K (.ref C) (a.map Value.ref)=some b /\ Q (.bl b)
 |_=>False
theorem Wo:h9 K k (Dh K) (xh K):=λF B H J G C Q y s b z r u p q=>by
 unfold xh at p;split at p
 .obtain⟨v,us,c,d,rfl,rfl,h3,h4⟩:=r;∎;let⟨I,w,A,D,rfl,rfl,l,n⟩:=h4;let⟨rfl,_⟩:=n;let⟨f,g,rfl,i,j,p⟩:=p;let⟨a,h,vs,E,rfl,ha,_⟩:=h3.kc s b u.left;let⟨t,x,rfl,e,o⟩:=l.cK s;∎;rw[Ia o] at e;exact⟨a,_,h,t,vs,f,g,rfl,ha,i,e,j,q _ _ F H [] p (Gr.aI s) ⟨rfl,rfl⟩ .nil λ_ m=>nomatch m⟩
 .exact p.elim
def wD(f a:Tr->Tr->(aq)->Prop)(c d e:aY):aY:=λj Q=>c j λx=>d j λy=>f x y λz=>eF z λb=>if b=true then e j λw=>a y w Q else Q (.bl false)
theorem TZ(o:cZ K k r pr)(o':cZ K k r' pr')(ha:bt K k ta pa)(hb:bt K k tb pb)(hc:bt K k tc pc):bt K k (CM r r' ta tb tc) (wD pr pr' pa pb pc):=λF B H j i Q Q' c p q=>by
 refine ha F B H j i _ _ c p λx v M Y c1 p1 l=>?_
 refine hb M B Y j i _ _ (c.gr l.g) p1 λy u N H2 L p2 d=>?_
 have C:=l.g.trans' d.g;refine o N B H2 v u x y c1 L _ _ d.g.s (λk=>((c.b k).trans l.g.h).trans d.g.h) (λh=>d.g.fz (l.g.fz (c.z h))) (l.r.mo d.g.le (λk=>Le.refl (B k)) x) d.r (l.c.gr d.g) d.c (λp E q G e=>by have:=l.c.h p E;rw[e,d.n q G] at this;cases this) p2 λz v3 I J c3 w A r3 _ _=>?_
 unfold eF at w;split at w
 .rename_i b;let⟨rfl,_⟩:=r3;refine⟨b,rfl,?_⟩;have a:=C.trans' A;cases b with
  |false=>exact q _ _ I J [] w (.bl a)
  |true=>
   rw[if_pos rfl] at w ⊢;refine hc I B J j i _ _ (c.gr a) w λt4 v4 O H4 c4 p4 f=>?_
   have y4:=(d.r.mo A.le (λk=>Le.refl (B k)) y).mo f.g.le (λk=>Le.refl (B k)) y;have yc:=(d.c.gr A).gr f.g;refine o' O B H4 u v4 y t4 L c4 Q Q' f.g.s (λk=>((c.b k).trans a.h).trans f.g.h) (λh=>f.g.fz (a.fz (c.z h))) y4 f.r yc f.c (λp E q G e=>by have:=(d.c.gr A).h p E;rw[e,f.n q G] at this;cases this) p4 λt5 v5 U H5 c5 q5 g5 r5 D n5=>?_
   refine q t5 v5 U H5 c5 q5 ⟨(a.trans' f.g).trans' g5,r5,D,λp m=>?_⟩;rcases n5 p m with z |z |z
   .exact a.h.free (f.g.h.free z)
   .exact l.g.h.free (d.n p z)
   .exact a.h.free (f.n p z)
 .exact w.elim
def wI(o:Option Tr)(Q:Int->Prop):Prop:=match o with |some (.int a)=>Q a |_=>False
theorem Ac{Q:Int->Prop}(h:wI o Q):∃a,o=some (.int a)/\Q a:=by
 unfold wI at h;split at h
 .exact⟨_,rfl,h⟩
 .exact h.elim
def wk(K:ak)(i:Nat)(r:ag)(f:Str)(d:aY):cL:=λD j=>iD K j i r λu s=>kz K f u λc fs=>wI (fs.lookup f) λa=>d (j.map aJ) λt=>wI (some t) λb=>D.nx (s (.ins .o c (fX f (.int (a+b)) fs)))
theorem SG(h:bt K k te pe):cO K k lo (CC K (tR K i r) te D2 f) (wk K i r f pe):=λus Fb M F H j y cs D D' W p L=>by
 ∎;let⟨t,Q,U,Y,p⟩:=vb p;let⟨C,fs,eg,ok,hl,p⟩:=Ge p;let⟨l,el,p⟩:=Ac p;let⟨w,c,r1,sub,hc,rd,cl⟩:=W.at Q U r Y;∎;rw[eg] at r1;let⟨a,m,vs,O,rfl,G,A⟩:=r1;have ha:H a=some (.ins C m vs):=hc.h (a,.ins C m vs) (by rw[G];exact .head _);have lk:vs.lookup f=some (.int l):=by
  let⟨w,c,pre,I,n,s,_⟩:=A.at el;rw[n,s.1]
 refine rd _ ⟨a,C,m,vs,.int l,rfl,ha,ok.1,ok.2,lk,h F (Bq M H) H j _ _ _ W.fF p λu v B J c1 q o=>?_⟩;let⟨b,eu,q⟩:=Ac q;cases eu;∎;let⟨rfl,_⟩:=o.r;let⟨z,d,n,s,E⟩:=(A.mo o.g.le (λ_=>Le.refl _) fs).put (f:=f) (t:=.int (l+b)) (v:=.int (l+b)) (e:=[]) ⟨rfl,rfl⟩;∎;rw[append_nil] at E;let⟨x,N⟩:=cl B J (W.gr o.g) o.g.le a (.ins C m vs) (.ins C m (eJ f (.int (l+b)) vs)) O z [] (.ins .o C (fX f (.int (l+b)) fs)) ((a,.ins C m (eJ f (.int (l+b)) vs))::d) G s .nil zk yw (List.Perm.cons _ (by rw[append_nil];exact E)) ⟨a,m,_,d,rfl,rfl,n⟩;exact⟨l,b,rfl,rfl,m,vs,o.g.h _ _ ha,lt_of_lt_of_le (by rw[A.length];exact hl) ∎,L.nx B _ j _ x N q⟩
end
section
theorem Kl(K:ak)(c:X.K=K)(d:Gl X x)(hm:X.mg x=none)(hv:bootBuiltins x=some (.builtin "isinstance"))(ha:QA X k (e::es) ps)(hn: ~~~(x≠"__name__"))(a: ~~~(cI x))(he:do eA e es X.env)(b:do e9 pos es X.env):
  QE X k (.Call (.Name x p) (e::es) [] pos) (pB (xh K) ps):=by
 subst c;exact e4 TY Wo hm ha d hv hn a he b
theorem yE(p:b6 X (compareOp op) r)(hs:cZ X.K k r pr)(d:b6 X (compareOp op') r')(e:cZ X.K k r' pr')(ha:QE X k a pa)(n:QE X k b pb)(o:QE X k c pc)(hm:lastMarks [op,op'] [b,c]=false:=by with_unfolding_all rfl):QT X k (.Compare a [op,op'] [b,c] pos) (pT (wD pr pr' pa pb pc)):=by
 ∎;let⟨q,l,m⟩:=ha.h;let⟨s,i,j⟩:=n.h;let⟨u,f,g⟩:=o.h;∎;exact⟨_,UH p d l i f hm,Fd (TZ hs e m j g)⟩
theorem Wq(c:PE X o (tR X.K i r))(h:QE X k e pe):QS X k lo (.AugAssign (.Attribute o f tpos) .Add e pos) (wk X.K i r f pe):=by
 let⟨d,a,b⟩:=h.h;exact⟨_,Sw c a Zj,SG b⟩
end
theorem Qg(f a:Tr->Tr->(aq)->Prop)(c d e:aY)(j:ah)(Q:aq):wD f a c d e j Q=(c j λx=>d j λy=>f x y λz=>eF z λb=>if b=true then e j λw=>a y w Q else Q (.bl false)):=rfl
theorem Pa(K:ak)(i:Nat)(r:ag)(f:Str)(d:aY)(D:Pd)(j:ah):wk K i r f d D j=(iD K j i r λu s=>kz K f u λc fs=>wI (fs.lookup f) λa=>d (j.map aJ) λt=>wI (some t) λb=>D.nx (s (.ins .o c (fX f (.int (a+b)) fs)))):=rfl
theorem Yi(n:Int)(Q:Int->Prop):wI (some (.int n)) Q=Q n:=rfl
theorem dW(a:sC X E):PassesOwn (model X.prog X.w) X.A X.env X.xe:=by
 rw[show X.xe=_ from a]
 passes_own
end Pu
namespace Pu
open PySem L2 Vc Sf PyProof.Rows
theorem EM:∀{vs:aN}{ys:ag},StrsAre vs ys->∀i,i<vs.length->∃y t,vs[i]?=some (.str y t)/\ys[i]?=some y
 |_,_,.nil,i,h=>absurd h (Nat.not_lt_zero _)
 |_,_,.cons y t h,0,_=>⟨y,t,rfl,rfl⟩
 |_,_,.cons y t h,i + 1,hi=>by
  let⟨d,c,a,b⟩:=EM h i (Nat.lt_of_succ_lt_succ hi);exact⟨d,c,by rw[List.getElem?_cons_succ];exact a,by rw[List.getElem?_cons_succ];exact b⟩
theorem OO(l:ae)(items:dh)(n:Nat)(dd:bL)(H:Array (bG))(x:Str)(u:Tok)(ys:ag)(D:StrsAre items.toList ys)(j:Nat)(M:j<items.size)(p:ys[j]?=some x)(v:∀m,m<j->ys[m]?≠some x):
  Meets (Builtin.«tuple.index» ⟨[.ref l,.str x u],[]⟩)
   (λA R s=>s.heap.get? l=some { cls:=.type "tuple",dict:=dd,data:=.seq items n,slots:=H }/\R (.ok (.ret (.int j s.toks))) { s with toks:=s.toks+1 }):=
 .of_wp λprog w A R s h=>by
  ∎;let⟨G,g,d,I,os⟩:=s;let⟨E,h⟩:=h;∎;have at_:∀i (hm:i<items.size),∃y t,items[i]?=some (.str y t)/\ys[i]?=some y:=λi hm=>by
   let⟨y,t,f,a⟩:=EM D i (by simpa using hm);exact⟨y,t,by simpa using f,a⟩
  unfold Builtin.«tuple.index»;simp only[Std.Legacy.Range.forIn_eq_forIn_range',Std.Legacy.Range.size]
  wp_walk using wpAny_loadPart' E,wpAny_forIn_list _ (λrest b B=>b.1=none/\B=⟨G,g,d,I,os⟩/\∃i,rest=List.range' i (items.size - i) 1/\i<=j) _
  case turn=>
   rintro y rest b B ⟨C,rfl,i,e,o⟩;have r:i<items.size:=⋯
   rw[show items.size - i=(items.size - (i+1))+1 by omega,List.range'_succ] at e;injection e with h1 h2
   subst h1;let⟨z,t,f,a⟩:=at_ y r;rw[f];refine wpAny_bind (eqBool_str ?_);by_cases c:z=x
   .subst c;have:y=j:=by
     rcases lt_or_ge y j with q |q
     .exact absurd a (v y q)
     .omega
    subst this;rw[if_pos (by simp)]
    wp_walk
    exact⟨_,rfl,h⟩
   .rw[if_neg (by simpa using c)];refine wpAny_pure ?_;refine⟨rfl,rfl,y+1,h2,?_⟩;rcases lt_or_ge y j with q |q
    .exact q
    .have:y=j:=⋯
     subst this;rw[p] at a;exact absurd (Option.some.inj a).symm c
  case fin=>
   rintro⟨J,L⟩ B ⟨C,rfl,i,e,o⟩;rw[show items.size - i=(items.size - (i+1))+1 by omega,List.range'_succ] at e;cases e
  case h=>exact⟨rfl,rfl,0,by simp,zero_le _⟩
theorem EA:∀{ys:ag}{bo:aN},aL (ys.map V.str) bo->StrsAre bo ys
 |[],_,h=>by cases h;exact .nil
 |y::ys,_,h=>by
  cases h with
  |cons a b=>
   let⟨t,rfl⟩:=(show ∃t,_=Value.str y t from a);exact .cons y t (EA b)
def Di(xs:ag)(a:aY):aY:=λu Q=>a u λt=>fQ t λy=>∃j:Nat,xs[j]?=some y/\(∀m,m<j->xs[m]?≠some y)/\Q (.int (j:Int))
section
theorem Wr(xs:ag)(hg:Gl X x)(hm:X.mg x=some (.ref c))(ht:∃(o:Obj)(bo:dh)(n:Nat),X.K.lookup c=some o/\o.cls=.type "tuple"/\o.data=.seq bo n/\bo.size<=sizeLine/\aL (xs.map V.str) bo.toList)(hn:∀o,X.K.lookup c=some o->o.dict=none)(he:QE X k e pe)(m:M1 X (.Name x pos) "index" apos e bP)(hd: ~~~(cI x)):QE X k (.Call (.Attribute (.Name x pos) "index" apos) [e] [] bP) (Di xs pe):=by
 let⟨te,h1,h2⟩:=he.h;refine⟨λu H Q=>te u H λy A=>∃(b:Str)(j:Nat),y=.str b/\xs[j]?=some b/\(∀m,m<j->xs[m]?≠some b)/\Q (.int (j:Int)) A,?_,?_⟩
 .intro aa s u H Q I h;∎;let⟨o,bo,n,w,J,f,hz,hv⟩:=ht;let⟨O,U,t1,E⟩:=o;∎;simp only at J f;subst J f;have l:=I.cP c _ w;refine wpAny_Call_method m.base m.uO m.line PySem.F.plainAttrs_tuple PySem.F.slot_tuple_index PySem.F.type_tuple_index (n9 I hg hm ⟨⟨_,l,rfl⟩,(λa z=>by cases z;exact⟨_,l,hn _ w⟩),?_⟩ hd);rw[m.trees];refine Calls.callWith_builtin rfl (Calls.evalArgs_plain (Calls.spliced_cons (bq (h1 aa s u H _ I h) λiv s2 G=>?_)));let⟨y,A,C,ry,b,j,Y,d,D,q2⟩:=G;refine Calls.spliced_nil ?_;subst Y;let⟨t',rfl⟩:=(show ∃t,iv=Value.str b t from ry);have sa:=EA hv;have hl:xs.length=bo.size:=by simpa using hv.length
  have hj:j<bo.size:=by
   rw[<- hl];rcases lt_or_ge j xs.length with z |z
   .exact z
   .rw[getElem?_eq_none z] at d;cases d
  exact call_meets PySem.F.slot_tuple_index ⟨_,C.cP c _ w,rfl⟩ PySem.F.entry_tuple_index (PySem.F.args_tuple_index_2 _ _) (OO c bo n U E b t' xs sa j hj d D) ⟨C.cP c _ w,⟨.int _,A,C.tok _,⟨_,rfl⟩,q2⟩⟩
 .intro F B H u i Q Q' c p q;refine h2 F B H u i _ _ c p λt v M N O p1 L=>?_
  let⟨y,rfl,j,d,D,p1⟩:=kX p1;exact⟨y,j,L.r.1,d,D,q _ _ M N [] p1 ⟨L.g,⟨rfl,rfl⟩,.nil,λ_ m=>nomatch m⟩⟩
end
def Dj(b:TE)(t:Str->TE):Str->TE:=λout j H Q=>b j H λv a=>∃i:Int,v=.int i/\i.natAbs.log2<1920/\(out++((toString i):Str)).length<=sizeLine/\t (out++((toString i):Str)) j a Q
theorem Yo(he:PE X e te)(a:PJ X es t):PJ X (.FormattedValue e (-1) none pos::es) (Dj te t):=λout aa s j H Q I h=>
 joinParts_cons (rest:=evalEach es X.env) (FormattedValue_plain (bq (he aa s j H _ I h) λv b ⟨x,H1,I1,r1,i,e1,hz,hq,q1⟩=>by
  subst e1;let⟨c,rfl⟩:=(show ∃t,v=Value.int i t from r1);exact formatField_int_small hz ⟨hq,a (out++((toString i):Str)) aa _ j H1 Q (I1.tok _) q1⟩))
def Ap(a:aY)(p:Str->aY):Str->aY:=λout j Q=>a j λt=>wI (some t) λi=>i.natAbs.log2<1920/\(out++((toString i):Str)).length<=1000000/\p (out++((toString i):Str)) j Q
theorem Km{K:ak}{k:Md}{f:TE}{d:aY}{t:Str->TE}{p:Str->aY}(he:bt K k f d)(h:kM K k t p):kM K k (Dj f t) (Ap d p):=λout F B H j y Q w c C q=>by
 refine he F B H j y _ _ c C λt v l s E p1 a=>?_
 ∎;let⟨i,e,p2⟩:=Ac p1;let⟨z,A,p3⟩:=p2;∎;have e:=Option.some.inj e;subst e;exact⟨i,a.r.1,z,rA A,h _ l B s j y Q w (c.gr a.g) p3 λt v o u x D b=>q t v o u x D ⟨a.g.trans' b.g,b.r,b.c,λp m=>a.g.h.free (b.n p m)⟩⟩
theorem Kn(he:QE X k e pe)(h:QJ X k es p):QJ X k (.FormattedValue e (-1) none pos::es) (Ap pe p):=by
 ∎;let⟨t,c,d⟩:=h.h;let⟨f,a,b⟩:=he.h;∎;exact⟨_,Yo a c,Km b d⟩
def xI(x:Tr)(l h:bE)(Q:aq):Prop:=match x with
 |.aA a=>¬ (HT.bO a.length 0 l=0 /\ HT.bO a.length a.length h=a.length) /\ ∃b:ag,a=b.map Tr.str /\ Q (.aA (jO a l h))
 |_=>False
def xJ(a:aY)(pl b:jx):aY:=λj Q=>a j λx=>pl j λl=>b j λh=>xI x l h Q
theorem Yp{K:ak}{F:Hp}{B:Bool->Hp}:∀{ns:ag}{vs:ax}{c:Cs},Rs K F B (ns.map Tr.str) vs c->vs=ns.map V.str/\c=[]:=λh=>zb h
theorem Yq{K:ak}{k:Md}{o:TE}{i:aY}{w u:TO}{pl n:jx}(h:bt K k o i)(O:lP K k w pl)(N:lP K k u n):bt K k (AG (D4 K) o w u) (xJ i pl n):=λF B H j y Q Q' c p q=>by
 refine h F B H j y _ _ c p λx v z D c1 p1 d=>?_
 refine O z B D j y _ _ (c.gr d.g) p1 λl A E p2 f=>?_
 refine N A B E j y _ _ ((c.gr d.g).gr f) p2 λh Y H3 p3 I=>?_
 have b:=f.trans' I;unfold xI at p3;split at p3
 .obtain⟨hw,ss,rfl,p3⟩:=p3;have r3:=d.r.mo b.le (λk=>Le.refl (B k));∎;let⟨a,vs,rfl,L,M⟩:=r3.cK b.s;let⟨rfl,_⟩:=Yp M;∎;refine⟨a,_,rfl,L,by simpa using hw,λp U=>?_⟩;have e:kH (ss.map V.str) l h=((ss.drop (HT.bO ss.length 0 l)).take (HT.bO ss.length ss.length h - HT.bO ss.length 0 l)).map V.str:=by
   unfold kH;simp
  have G:jO (ss.map Tr.str) l h=((ss.drop (HT.bO ss.length 0 l)).take (HT.bO ss.length ss.length h - HT.bO ss.length 0 l)).map Tr.str:=by
   unfold jO;simp
  rw[e];rw[G] at p3;let⟨C,J,r4,c4⟩:=qW (K:=K) (B:=B) b.s (uG _) .nil U;exact q _ _ C _ [] p3 ⟨(d.g.trans' b).trans' J,r4,.nil,λ_ m=>nomatch m⟩
 .exact p3.elim
theorem Lr{X:Cx}{k:Md}{e:Expr}{a:aY}{l h:Option Expr}{pl b:jx}{p2 pos:Pos}(he:QE X k e a)(n:QO X k l pl)(m:QO X k h b):QE X k (.Subscript e (.Slice l h none p2) pos) (xJ a pl b):=by
 ∎;let⟨o,i,j⟩:=he.h;let⟨p,f,g⟩:=n.h;let⟨q,c,d⟩:=m.h;∎;exact⟨_,FR Zo i f c,Yq j g d⟩
theorem Sd:Di xs pe u Q=pe u λt=>fQ t λy=>∃j:Nat,xs[j]?=some y/\(∀m,m<j->xs[m]?≠some y)/\Q (.int (j:Int)):=rfl
theorem WS(a:aY)(p:Str->aY)(out:Str)(j:ah)(Q:aq):Ap a p out j Q=a j λt=>wI (some t) λi=>i.natAbs.log2<1920/\(out++((toString i):Str)).length<=1000000/\p (out++((toString i):Str)) j Q:=rfl
theorem T1:xJ pe pl ph j Q=pe j λx=>pl j λl=>ph j λh=>xI x l h Q:=rfl
end Pu
namespace Pu
open PySem L2 Vc Sf
abbrev PC':=Pd->ah->af->Prop
end Pu
namespace Pu
open PySem PySem.Spec PyProof.Rows
section
variable{p:aN->Prop}
theorem Qz(h:p []):∀us:aN,us.length=0->p us:=λus e=>by
 cases us with
 |nil=>exact h
 |cons=>cases e
theorem rY{p:aN->Prop}{k:Nat}(h:∀a (us:aN),us.length=k->p (a::us)):∀us:aN,us.length=k+1->p us:=λus e=>by
 cases us with
 |nil=>cases e
 |cons a us=>exact h a us (Nat.succ.inj e)
theorem Gm(h:∀a,p [a]):∀us:aN,us.length=[x1].length->p us:=rY λa=>Qz (h a)
theorem ln2(h:∀a b,p [a,b]):∀us:aN,us.length=[x1,x2].length->p us:=rY λa=>Gm (x1:=x2) (p:=λl=>p (a::l)) (h a)
theorem Gn(h:∀a b c,p [a,b,c]):∀us:aN,us.length=[x1,x2,x3].length->p us:=rY λa=>ln2 (x1:=x2) (x2:=x3) (p:=λl=>p (a::l)) (h a)
theorem Gp(h:∀a b c d,p [a,b,c,d]):∀us:aN,us.length=[x1,x2,x3,x4].length->p us:=rY λa=>Gn (x1:=x2) (x2:=x3) (x3:=x4) (p:=λl=>p (a::l)) (h a)
theorem QC(h:∀a b c d e,p [a,b,c,d,e]):∀us:aN,us.length=[x1,x2,x3,x4,x5].length->p us:=rY λa=>Gp (x1:=x2) (x2:=x3) (x3:=x4) (x4:=x5) (p:=λl=>p (a::l)) (h a)
end
end Pu
namespace Pu
open PySem L2 Vc Sf
section
theorem eE:∀(ns:List Nat),Rs K F B (ns.map λi:Nat=>Tr.int (i:Int)) (ns.map λi:Nat=>V.int (i:Int)) []
 |[]=>⟨rfl,rfl⟩
 |n::ns=>⟨.int n,_,[],[],rfl,rfl,⟨rfl,rfl⟩,eE ns⟩
end
section
variable{K:ak}{mg:bD}{h:aP}{x qual:Str}{st:Stmt}{ps:ag}{f c:ae}
set_option genInjectivity false in
set_option genSizeOf false in
structure cC(K:ak)(mg:bD)(x:Str)(st:Stmt)(ps:ag) where
 a:Addr
 d:FuncData
 F:gm K x x st a d
 b:Binds K d ps []
 m:mg x=some (.ref a)
set_option genInjectivity false in
set_option genSizeOf false in
structure cH(K:ak)(c:ae)(x qual:Str)(st:Stmt)(ps:ag) where
 a:Addr
 d:FuncData
 F:gm K x qual st a d
 b:Binds K d ps []
 t:hF K c x a
set_option genInjectivity false in
set_option genSizeOf false in
structure i1(K:ak)(c:ae)(qual:Str)(st:Stmt)(ps:ag) where
 a:Addr
 d:FuncData
 F:gm K "__init__" qual st a d
 b:Binds K d ps []
 t:Mk K c a
abbrev vX(x qual:Str)(st:Stmt)(ps:ag):Prop:=∀(kV doc pm:af)(an:bL)(aM ct:af)(us:aN),us.length=ps.length->bindArgs (W.fnOf x qual (nN st) (ie st) (a7 st) .none kV doc pm an aM ct) ⟨us,[]⟩=pure (ps.zip us)
noncomputable def NU(X:K.In h)(G:h.Ns mainGlobals mg)(e:W.nsIn K mainGlobals x=some (some (.ref f)))(F:g0 K x x st f)(a:vX x x st ps):cC K mg x st ps:=⟨f,F.choose,F.choose_spec,F.choose_spec.binds a,W.mg_of X G e⟩
noncomputable def NW(e:W.findIn K (.ref c) x=some (some (.ref f)))(F:g0 K x qual st f)(i:W.isFn K (.ref f)=true)(a:vX x qual st ps):cH K c x qual st ps:=⟨f,F.choose,F.choose_spec,F.choose_spec.binds a,⟨e,i,F.kp⟩⟩
noncomputable def NV(e:W.findIn K (.ref c) "__init__"=some (some (.ref f)))(F:g0 K "__init__" qual st f)(i:W.isFn K (.ref f)=true)(m:W.makesIn K c=true)(k:W.keepIn K (.ref c)=true)(a:vX "__init__" qual st ps):i1 K c qual st ps:=⟨f,F.choose,F.choose_spec,F.choose_spec.binds a,⟨m,e,i,k⟩⟩
abbrev lD(K:ak)(c:ae)(vs:ax):Prop:=∃(o:Obj)(a:dh)(n:Nat),K.lookup c=some o/\o.cls=.type "tuple"/\o.data=.seq a n/\a.size<=sizeLine/\aL vs a.toList
theorem zP(e:W.findIn K (.ref c) x=some none):aD K c x:=e
end
end Pu
namespace Pu
theorem WT(f:j->y)(a:j)(l:List j):List.map f (a::l)=f a::List.map f l:=rfl
theorem WU(f:j->y):List.map f []=[]:=rfl
open PySem L2 in
theorem Ko(CX:e7)(P:Program)(w:World)(K:ak)(mg:bD)(base:aP)(N:ag)(b:Str)(a:Scope)(f:ae)(c:af)(A:Around)(outer:cz)(s:ai)(H:Hp)(E:XK):(ip CX P w K mg base N b a f c A outer s H E).K=K:=rfl
end Pu
namespace Pu
open PySem L2 Vc Sf
section
variable{st:Stmt}{x:Str}{p pos:Pos}{e:Expr}{es:bT}{pn:ag}{ps:cG}{j m n:Nat}{z:Bool}{C:ae}{qual:Str}
theorem qc{aQ:bQ}(r:cC X.K X.mg x st pn)(G:aw X.prog X.w X.K X.mg X.base aV j r.a r.d pn (aX X.K z 0 n aQ))(ha:QA X k (e::es) ps)(s:bh m X.A:=by assumption)(o:j<=m:=by first |decide |omega)(q:z=true->k.z=true:=by first |exact id |exact λ_=>rfl)(hn:∀xs Q,aQ xs Q->xs.length=n:=by exact λ_ _ h=>h.1)(l:do Gl X x)(c: ~~~(cI x))(he:do eA e es X.env)(f:do e9 pos es X.env):
  QE X k (.Call (.Name x p) (e::es) [] pos) (tE aQ (lM ps)):=by
 let⟨u,g,i⟩:=ha.aB.h;exact⟨_,Gz (E:=E0) (G.mono o) s l r.m r.F.kp r.b .nil oN g c he f,Ga q hn i⟩
theorem vP{aQ:dN}(r:cC X.K X.mg x st pn)(G:aw X.prog X.w X.K X.mg X.base (b9 X.prog X.w) j r.a r.d pn (cu X.K z 0 n aQ))(ha:QA X k (e::es) ps)(O:∀y,il (b9 X.prog X.w) X y (k.E y):=by first |assumption |exact dr (dy rfl rfl rfl rfl) |exact dr z'j)(N:bh m X.A:=by assumption)(J:j<=m:=by first |decide |omega)(L:z=true->k.z=true:=by first |exact id |exact λ_=>rfl)(hn:∀xs Q q,aQ xs Q q->xs.length=n:=by exact λ_ _ _ h=>h.1)(I:do Gl X x)(i: ~~~(cI x))(he:do eA e es X.env)(l:do e9 pos es X.env):
  QE X k (.Call (.Name x p) (e::es) [] pos) (wJ k.q aQ (lM ps)):=by
 let⟨U,v,D⟩:=ha.aB.h;exact⟨_,VB (G.mono J) N I r.m r.F.kp r.b .nil O v i he l,Fe (λF B H y u c f o s M g=>c.x f o s M g) L hn D⟩
theorem HZ{aQ:bQ}(r:i1 X.K C qual st pn)(G:aw X.prog X.w X.K X.mg X.base aV j r.a r.d pn (aX X.K z 1 n aQ))(hm:X.mg x=some (.ref C))(ha:QA X k (e::es) ps)(s:bh (m+1) X.A:=by assumption)(o:j<=m:=by first |decide |omega)(q:z=true->k.z=true:=by first |exact id |exact λ_=>rfl)(hn:∀xs Q,aQ xs Q->xs.length=n:=by exact λ_ _ h=>h.1)(l:do Gl X x)(c: ~~~(cI x))(he:do eA e es X.env)(f:do e9 pos es X.env):
  QE X k (.Call (.Name x p) (e::es) [] pos) (wV C aQ ps):=by
 let⟨u,g,i⟩:=ha.h;exact⟨_,yY (R:=λ_=>E0) r.t (G.mono o) s l hm r.b .nil (vn oN) g c he f,Vs q hn i⟩
end
theorem VY{K:ak}{c:ae}{t:af}{d:Data}{a:Array (bG)}(e:K.lookup c=some ⟨t,none,d,a⟩):∀o:Obj,K.lookup c=some o->o.dict=none:=λo h=>by
 rw[e] at h;cases h;rfl
section
variable{st:Stmt}{x y:Str}{p pos:Pos}{e:Expr}{es:bT}{pn:ag}{ps:cG}{j m n:Nat}{z:Bool}
theorem za{K:ak}{c d f:ae}{x g b:Str}{st:Stmt}{ps:ag}{r:cH K c x b st ps}(e:W.findIn K (.ref d) g=some (some (.ref f)))(i:W.isFn K (.ref f)=true)(k:W.keepIn K (.ref f)=true)(h:r.a=f):hF K d g r.a:=by
 rw[h];exact⟨e,i,k⟩
theorem rO{K:ak}{c d f:ae}{b:Str}{st:Stmt}{ps:ag}{r:i1 K c b st ps}(m:W.makesIn K d=true)(e:W.findIn K (.ref d) "__init__"=some (some (.ref f)))(i:W.isFn K (.ref f)=true)(k:W.keepIn K (.ref d)=true)(h:r.a=f):Mk K d r.a:=by
 rw[h];exact⟨m,e,i,k⟩
theorem rN{K:ak}{b:aP}{mg:bD}{f:ae}{x y:Str}{st:Stmt}{ps:ag}{r:cC K mg x st ps}(X:K.In b)(G:b.Ns mainGlobals mg)(e:W.nsIn K mainGlobals y=some (some (.ref f)))(h:r.a=f):mg y=some (.ref r.a):=by
 rw[h];exact W.mg_of X G e
theorem Tz{aQ:bQ}(r:cC X.K X.mg y st pn)(hm:X.mg x=some (.ref r.a))(G:aw X.prog X.w X.K X.mg X.base aV j r.a r.d pn (aX X.K z 0 n aQ))(ha:QA X k (e::es) ps)(s:bh m X.A:=by assumption)(o:j<=m:=by first |decide |omega)(q:z=true->k.z=true:=by first |exact id |exact λ_=>rfl)(hn:∀xs Q,aQ xs Q->xs.length=n:=by exact λ_ _ h=>h.1)(l:do Gl X x)(c: ~~~(cI x))(he:do eA e es X.env)(f:do e9 pos es X.env):
  QE X k (.Call (.Name x p) (e::es) [] pos) (tE aQ (lM ps)):=by
 let⟨u,g,i⟩:=ha.aB.h;exact⟨_,Gz (E:=E0) (G.mono o) s l hm r.F.kp r.b .nil oN g c he f,Ga q hn i⟩
end
end Pu
namespace Sf
open PySem L2 Vc Pu
local macro_rules | `(tactic| walk_at "z") => `(tactic| first | exact id | exact fun _ => rfl)
local macro_rules | `(tactic| walk_at "c") => `(tactic| exact ⟨rfl, rfl, rfl, by decide +kernel, rfl, by decide +kernel, by decide +kernel⟩)
local macro_rules | `(tactic| walk_at "k") => `(tactic| decide +kernel)
def inClass(s:Stmt)(j:Nat):Stmt:=match s with
 |.ClassDef _ _ _ a _ _ _ _ _ _ _=>a.getD j (.Pass ⟨0,0,0,0⟩)
 |_=>.Pass ⟨0,0,0,0⟩
def top(i:Nat):Stmt:=PySem.Challenge.pw_springframe_k17_whole_wishes_of_texts.main.body.getD i (.Pass ⟨0,0,0,0⟩)
abbrev CH:Stmt:=top 8
abbrev A4:Stmt:=top 9
abbrev CI:Stmt:=top 10
abbrev Ct:Stmt:=top 11
abbrev Cu:Stmt:=top 12
abbrev Cv:Stmt:=top 13
abbrev Cd:Stmt:=top 17
abbrev BW:Stmt:=top 18
abbrev BX:Stmt:=top 19
abbrev CJ:Stmt:=top 22
abbrev Cw:Stmt:=top 23
abbrev B4:Stmt:=top 24
abbrev B1:Stmt:=top 25
abbrev Ce:Stmt:=top 26
abbrev B2:Stmt:=top 29
abbrev B3:Stmt:=top 30
abbrev B5:Stmt:=top 47
abbrev Bw:Stmt:=top 48
abbrev CA:Stmt:=top 49
abbrev Bg:Stmt:=top 50
abbrev Bh:Stmt:=top 61
abbrev BY:Stmt:=top 62
abbrev BZ:Stmt:=top 64
abbrev Bi:Stmt:=top 65
abbrev Bx:Stmt:=top 66
abbrev By:Stmt:=top 67
abbrev Cf:Stmt:=top 68
abbrev Bz:Stmt:=top 69
abbrev B0:Stmt:=top 70
abbrev Cg:Stmt:=top 71
abbrev Ci:Stmt:=top 72
abbrev Cj:Stmt:=top 73
abbrev Ck:Stmt:=top 74
abbrev Cm:Stmt:=top 75
abbrev B6:Stmt:=top 76
abbrev Bj:Stmt:=top 77
abbrev Dk:Stmt:=top 78
abbrev BH:Stmt:=inClass (top 52) 0
abbrev BA:Stmt:=inClass (top 51) 0
abbrev Bk:Stmt:=inClass (top 51) 1
abbrev Bm:Stmt:=inClass (top 52) 2
abbrev BR:Stmt:=inClass (top 52) 1
abbrev BL:Stmt:=inClass (top 53) 0
abbrev BB:Stmt:=inClass (top 53) 1
abbrev Bl:Stmt:=inClass (top 53) 3
abbrev BC:Stmt:=inClass (top 53) 2
abbrev BJ:Stmt:=inClass (top 54) 0
abbrev Bn:Stmt:=inClass (top 54) 1
abbrev BD:Stmt:=inClass (top 54) 3
abbrev Bo:Stmt:=inClass (top 54) 2
abbrev BM:Stmt:=inClass (top 55) 0
abbrev BE:Stmt:=inClass (top 55) 1
abbrev B8:Stmt:=inClass (top 55) 3
abbrev BF:Stmt:=inClass (top 55) 2
abbrev BK:Stmt:=inClass (top 56) 0
abbrev Bp:Stmt:=inClass (top 56) 1
abbrev BG:Stmt:=inClass (top 56) 3
abbrev Br:Stmt:=inClass (top 56) 2
abbrev BN:Stmt:=inClass (top 34) 0
abbrev B9:Stmt:=inClass (top 34) 5
abbrev Ca:Stmt:=inClass (top 35) 1
abbrev Co:Stmt:=inClass (top 34) 3
abbrev Bs:Stmt:=inClass (top 34) 4
abbrev Cb:Stmt:=inClass (top 35) 0
abbrev BS:Stmt:=inClass (top 36) 1
abbrev BU:Stmt:=inClass (top 36) 0
abbrev Bt:Stmt:=inClass (top 37) 1
abbrev Bu:Stmt:=inClass (top 37) 0
abbrev BI:Stmt:=inClass (top 60) 0
abbrev BV:Stmt:=inClass (top 60) 1
abbrev Bv:Stmt:=inClass (top 60) 2
abbrev BO:Stmt:=inClass (top 60) 3
abbrev BP:Stmt:=inClass (top 60) 4
abbrev BQ:Stmt:=inClass (top 60) 5
abbrev A5:Stmt:=inClass (top 60) 6
abbrev A6:Stmt:=inClass (top 60) 7
abbrev A7:Stmt:=inClass (top 60) 8
abbrev Bf:Stmt:=inClass (top 60) 9
abbrev A8:Stmt:=inClass (top 60) 10
abbrev A9:Stmt:=inClass (top 60) 11
abbrev Be:Stmt:=inClass (top 60) 12
theorem Yr:bj ["top","bottom","divisor"] ["top","bottom"] (a7 CH):=by walk_at "c"
theorem NX:bj ["one","other","remainder"] ["one","other"] (a7 A4):=by walk_at "c"
theorem Ys:bj ["one","other"] ["one","other"] (a7 CI):=by walk_at "c"
theorem Ws:bj ["one","other"] ["one","other"] (a7 Ct):=by walk_at "c"
theorem Wu:bj ["one","other"] ["one","other"] (a7 Cu):=by walk_at "c"
theorem Wv:bj ["one","other"] ["one","other"] (a7 Cv):=by walk_at "c"
theorem QF:bj ["word","most"] ["word","most"] (a7 Cd):=by walk_at "c"
theorem OP:bj ["word","pieces","figures","bottom","number"] ["word"] (a7 BW):=by walk_at "c"
theorem OQ:bj ["number","top","bottom"] ["number"] (a7 BX):=by walk_at "c"
theorem Yt:bj ["parts","rest","kept","unknown","number"] ["parts","rest"] (a7 CJ):=by walk_at "c"
theorem Ww:bj ["one","other","together","unknown","number"] ["one","other"] (a7 Cw):=by walk_at "c"
theorem SH:bj ["one","other"] ["one","other"] (a7 B4):=by walk_at "c"
theorem T2:bj ["one","number","grown","unknown","fraction"] ["one","number"] (a7 B1):=by walk_at "c"
theorem QK:bj ["one","placing","total","unknown","number"] ["one","placing"] (a7 Ce):=by walk_at "c"
theorem T3:bj ["one","placing"] ["one","placing"] (a7 B2):=by walk_at "c"
theorem T4:bj ["one","placing","lead"] ["one","placing"] (a7 B3):=by walk_at "c"
theorem SI:bj ["word"] ["word"] (a7 B5):=by walk_at "c"
theorem Pg:bj ["word","name"] ["word","name"] (a7 Bw):=by walk_at "c"
theorem T5:bj ["word"] ["word"] (a7 CA):=by walk_at "c"
theorem Qh:bj ["term","text"] ["term"] (a7 Bg):=by walk_at "c"
theorem Qi:bj ["text"] ["text"] (a7 Bh):=by walk_at "c"
theorem OR:bj ["text","names","reader","near","verb","far","rank","weight"] ["text","names"] (a7 BY):=by walk_at "c"
theorem OS:bj ["_law_script","_law_k"] ["_law_script","_law_k"] (a7 BZ):=by walk_at "c"
theorem Qj:bj ["_law_cell","_law_k","_law_left","_law_turn","_law_number_here"] ["_law_cell","_law_k"] (a7 Bi):=by walk_at "c"
theorem PB:bj ["_law_one","_law_other"] ["_law_one","_law_other"] (a7 Bx):=by walk_at "c"
theorem PC:bj ["_law_top","_law_bottom","_law_shared_here"] ["_law_top","_law_bottom"] (a7 By):=by walk_at "c"
theorem QM:bj ["_law_one","_law_other","_law_sign"] ["_law_one","_law_other","_law_sign"] (a7 Cf):=by walk_at "c"
theorem PD:bj ["_law_cell","_law_one","_law_text"] ["_law_cell"] (a7 Bz):=by walk_at "c"
theorem OT:bj ["_law_cell","_law_placing_here","_law_k","_law_word","_law_j","_law_name","_law_top"] ["_law_cell"] (a7 B0):=by walk_at "c"
theorem QN:bj ["_law_cell","_law_down","_law_placing_here","_law_begin","_law_size","_law_more","_law_name","_law_one","_law_two","_law_worths","_law_words"] ["_law_cell","_law_down","_law_placing_here"] (a7 Cg):=by walk_at "c"
theorem QP:bj ["_law_cell","_law_down","_law_placing_here"] ["_law_cell","_law_down","_law_placing_here"] (a7 Ci):=by walk_at "c"
theorem QQ:bj ["_law_side_here","_law_cell","_law_down","_law_placing_here","_law_text","_law_worth","_law_more","_law_one","_law_figures","_law_many","_law_two"] ["_law_side_here","_law_cell","_law_down","_law_placing_here"] (a7 Cj):=by walk_at "c"
theorem QR:bj ["_law_cells","_law_first","_law_down","_law_placing_here","_law_side_here","_law_cell","_law_longer"] ["_law_cells","_law_first","_law_down","_law_placing_here"] (a7 Ck):=by walk_at "c"
theorem QU:bj ["_law_found","_law_due"] ["_law_found","_law_due"] (a7 Cm):=by walk_at "c"
theorem SJ:bj ["_law_told","_law_placing_here","_law_whole","_law_unknown","_law_number_here","_law_one"] ["_law_told","_law_placing_here"] (a7 B6):=by walk_at "c"
theorem Qk:bj ["_law_script","_law_placing_here","_law_first","_law_near","_law_one","_law_far","_law_two","_law_kind","_law_text","_law_rank"] ["_law_script","_law_placing_here"] (a7 Bj):=by walk_at "c"
theorem Kq:bj ["_law_script","_law_placing_here","_law_text","_law_kind","_law_gap","_law_due","_law_wish","_law_handed"] ["_law_script"] (a7 Dk):=by walk_at "c"
theorem Oc:bj ["self","number"] ["self","number"] (a7 BH):=by walk_at "c"
theorem PF:bj ["self"] ["self"] (a7 BA):=by walk_at "c"
theorem Ql:bj ["self"] ["self"] (a7 Bk):=by walk_at "c"
theorem OU:bj ["self"] ["self"] (a7 Bm):=by walk_at "c"
theorem OD:bj ["self"] ["self"] (a7 BR):=by walk_at "c"
theorem Oh:bj ["self","word","name"] ["self","word","name"] (a7 BL):=by walk_at "c"
theorem PH:bj ["self"] ["self"] (a7 BB):=by walk_at "c"
theorem Qm:bj ["self","word","name"] ["self"] (a7 Bl):=by walk_at "c"
theorem PK:bj ["self","parts","word","share"] ["self"] (a7 BC):=by walk_at "c"
theorem Oy:bj ["self","number","inner"] ["self","number","inner"] (a7 BJ):=by walk_at "c"
theorem Em:bj ["self"] ["self"] (a7 Bn):=by walk_at "c"
theorem Es:bj ["self","number","inner"] ["self"] (a7 BD):=by walk_at "c"
theorem En:bj ["self"] ["self"] (a7 Bo):=by walk_at "c"
theorem Oi:bj ["self","one","other"] ["self","one","other"] (a7 BM):=by walk_at "c"
theorem Et:bj ["self"] ["self"] (a7 BE):=by walk_at "c"
theorem EB:bj ["self","one","other"] ["self"] (a7 B8):=by walk_at "c"
theorem Eu:bj ["self"] ["self"] (a7 BF):=by walk_at "c"
theorem Oz:bj ["self","one","other"] ["self","one","other"] (a7 BK):=by walk_at "c"
theorem Eo:bj ["self"] ["self"] (a7 Bp):=by walk_at "c"
theorem Ew:bj ["self","one","other"] ["self"] (a7 BG):=by walk_at "c"
theorem Ep:bj ["self"] ["self"] (a7 Br):=by walk_at "c"
theorem Oj:bj ["self","near","far","rank","weight"] ["self","near","far","rank","weight"] (a7 BN):=by walk_at "c"
theorem Qn:bj ["self","near","verb","far","said","rank","weight"] ["self"] (a7 B9):=by walk_at "c"
theorem Qo:bj ["self"] ["self"] (a7 Ca):=by walk_at "c"
theorem QV:bj ["self","lead"] ["self"] (a7 Co):=by walk_at "c"
theorem OV:bj ["self","placing"] ["self","placing"] (a7 Bs):=by walk_at "c"
theorem Qp:bj ["self"] ["self"] (a7 Cb):=by walk_at "c"
theorem OE:bj ["self"] ["self"] (a7 BS):=by walk_at "c"
theorem OF:bj ["self"] ["self"] (a7 BU):=by walk_at "c"
theorem OW:bj ["self"] ["self"] (a7 Bt):=by walk_at "c"
theorem OX:bj ["self"] ["self"] (a7 Bu):=by walk_at "c"
theorem Od:bj ["self","text","names"] ["self","text","names"] (a7 BI):=by walk_at "c"
theorem OG:bj ["self"] ["self"] (a7 BV):=by walk_at "c"
theorem OY:bj ["self","word"] ["self"] (a7 Bv):=by walk_at "c"
theorem Ol:bj ["self","word"] ["self","word"] (a7 BO):=by walk_at "c"
theorem Om:bj ["self"] ["self"] (a7 BP):=by walk_at "c"
theorem Oo:bj ["self"] ["self"] (a7 BQ):=by walk_at "c"
theorem El:bj ["self","word","inner","number"] ["self"] (a7 A5):=by walk_at "c"
theorem NY:bj ["self","word","name"] ["self","word"] (a7 A6):=by walk_at "c"
theorem NZ:bj ["self","word"] ["self"] (a7 A7):=by walk_at "c"
theorem N8:bj ["self","term"] ["self"] (a7 Bf):=by walk_at "c"
theorem N0:bj ["self","word","behind"] ["self"] (a7 A8):=by walk_at "c"
theorem N1:bj ["self","word"] ["self"] (a7 A9):=by walk_at "c"
theorem NS:bj ["self","word"] ["self"] (a7 Be):=by walk_at "c"
def fY:List (Str×List (Str×Rat)):=[("left",[("left",Rat.divInt 1 1)]),("width",[("width",Rat.divInt 1 1)]),("right",[("left",Rat.divInt 1 1),("width",Rat.divInt 1 1)]),("middle",[("left",Rat.divInt 1 1),("width",Rat.divInt 1 2)]),("gap",[("gap",Rat.divInt 1 1)]),("top",[("top",Rat.divInt 1 1)]),("height",[("height",Rat.divInt 1 1)]),("bottom",[("top",Rat.divInt 1 1),("height",Rat.divInt 1 1)]),("centre",[("top",Rat.divInt 1 1),("height",Rat.divInt 1 2)]),("drop",[("drop",Rat.divInt 1 1)])]
def B7(w:World)(K:ak)(c:ae):Prop:=∃b,KD w K c b/\∀x d,(x,d)∈fY->∃a vs,b.lookup x=some (.ref a)/\ck K (λ_=>none) a vs/\Al (r2 K rS (vQ K)) (λ_=>none) vs d
theorem gS{K:ak}{a f:ae}{y:Str}{t b:Int}{o p:Obj}{n m:Nat}{x u v:Tok}(i:K.lookup a=some o)(c:o.cls=.type "tuple")(g:o.data=.seq #[Value.str y x,Value.ref f] n)(j:K.lookup f=some p)(d:p.cls=.type "tuple")(h:p.data=.seq #[Value.int t u,Value.int b v] m)(e:fr (Rat.divInt t b)=[.int t,.int b]):r2 K rS (vQ K) (λ_=>none) (.ref a) (y,Rat.divInt t b):=
 ⟨a,.str y,.ref f,rfl,.inr ⟨_,_,_,i,c,g,(by show 2<=sizeLine;decide),.cons ⟨_,rfl⟩ (.cons rfl .nil)⟩,rfl,⟨f,rfl,.inr ⟨_,_,_,j,d,h,(by show 2<=sizeLine;decide),by rw[e];exact .cons ⟨_,rfl⟩ (.cons ⟨_,rfl⟩ .nil)⟩⟩⟩
theorem fx{w:World}{K:ak}{c:ae}{kp:Nat}{N:ae}{kt0:Tok}{kd0:bL}{ks0:Array (bG)}{kz0:Nat}{O:ae}{kt1:Tok}{kd1:bL}{ks1:Array (bG)}{kz1:Nat}{Q:ae}{kt2:Tok}{kd2:bL}{ks2:Array (bG)}{kz2:Nat}{U:ae}{kt3:Tok}{kd3:bL}{ks3:Array (bG)}{kz3:Nat}{Y:ae}{kt4:Tok}{kd4:bL}{ks4:Array (bG)}{kz4:Nat}{α:ae}{kt5:Tok}{kd5:bL}{ks5:Array (bG)}{kz5:Nat}{β:ae}{kt6:Tok}{kd6:bL}{ks6:Array (bG)}{kz6:Nat}{γ:ae}{kt7:Tok}{kd7:bL}{ks7:Array (bG)}{kz7:Nat}{δ:ae}{kt8:Tok}{kd8:bL}{ks8:Array (bG)}{kz8:Nat}{ε:ae}{kt9:Tok}{kd9:bL}{ks9:Array (bG)}{kz9:Nat}{d u:ae}{kx0_0 ky0_0 kw0_0:Tok}{ζ φ:bL}{kr0_0 kv0_0:Array (bG)}{ku0_0 ko0_0:Nat}{e v:ae}{kx1_0 ky1_0 kw1_0:Tok}{η χ:bL}{kr1_0 kv1_0:Array (bG)}{ku1_0 ko1_0:Nat}{f y:ae}{kx2_0 ky2_0 kw2_0:Tok}{θ ψ:bL}{kr2_0 kv2_0:Array (bG)}{ku2_0 ko2_0:Nat}{g z:ae}{kx2_1 ky2_1 kw2_1:Tok}{ι ω:bL}{kr2_1 kv2_1:Array (bG)}{ku2_1 ko2_1:Nat}{i A:ae}{kx3_0 ky3_0 kw3_0:Tok}{κ kh3_0:bL}{kr3_0 kv3_0:Array (bG)}{ku3_0 ko3_0:Nat}{j B:ae}{kx3_1 ky3_1 kw3_1:Tok}{μ kh3_1:bL}{kr3_1 kv3_1:Array (bG)}{ku3_1 ko3_1:Nat}{l C:ae}{kx4_0 ky4_0 kw4_0:Tok}{ν kh4_0:bL}{kr4_0 kv4_0:Array (bG)}{ku4_0 ko4_0:Nat}{m D:ae}{kx5_0 ky5_0 kw5_0:Tok}{ξ kh5_0:bL}{kr5_0 kv5_0:Array (bG)}{ku5_0 ko5_0:Nat}{n E:ae}{kx6_0 ky6_0 kw6_0:Tok}{ο kh6_0:bL}{kr6_0 kv6_0:Array (bG)}{ku6_0 ko6_0:Nat}{o G:ae}{kx7_0 ky7_0 kw7_0:Tok}{π kh7_0:bL}{kr7_0 kv7_0:Array (bG)}{ku7_0 ko7_0:Nat}{p H:ae}{kx7_1 ky7_1 kw7_1:Tok}{ρ kh7_1:bL}{kr7_1 kv7_1:Array (bG)}{ku7_1 ko7_1:Nat}{q I:ae}{kx8_0 ky8_0 kw8_0:Tok}{σ kh8_0:bL}{kr8_0 kv8_0:Array (bG)}{ku8_0 ko8_0:Nat}{r J:ae}{kx8_1 ky8_1 kw8_1:Tok}{τ kh8_1:bL}{kr8_1 kv8_1:Array (bG)}{ku8_1 ko8_1:Nat}{s L:ae}{kx9_0 ky9_0 kw9_0:Tok}{υ kh9_0:bL}{kr9_0 kv9_0:Array (bG)}{ku9_0 ko9_0:Nat}(kl:K.lookup c=some { cls:=.type "dict",data:=.dict #[⟨PyData.keyHash w.params "left",.str "left" kt0,.ref N⟩,⟨PyData.keyHash w.params "width",.str "width" kt1,.ref O⟩,⟨PyData.keyHash w.params "right",.str "right" kt2,.ref Q⟩,⟨PyData.keyHash w.params "middle",.str "middle" kt3,.ref U⟩,⟨PyData.keyHash w.params "gap",.str "gap" kt4,.ref Y⟩,⟨PyData.keyHash w.params "top",.str "top" kt5,.ref α⟩,⟨PyData.keyHash w.params "height",.str "height" kt6,.ref β⟩,⟨PyData.keyHash w.params "bottom",.str "bottom" kt7,.ref γ⟩,⟨PyData.keyHash w.params "centre",.str "centre" kt8,.ref δ⟩,⟨PyData.keyHash w.params "drop",.str "drop" kt9,.ref ε⟩] kp })(kl0:K.lookup N=some ⟨.type "tuple",kd0,.seq #[Value.ref d] kz0,ks0⟩)(km0_0:K.lookup d=some ⟨.type "tuple",ζ,.seq #[Value.str "left" kx0_0,Value.ref u] ku0_0,kr0_0⟩)(kq0_0:K.lookup u=some ⟨.type "tuple",φ,.seq #[Value.int 1 ky0_0,Value.int 1 kw0_0] ko0_0,kv0_0⟩)(kl1:K.lookup O=some ⟨.type "tuple",kd1,.seq #[Value.ref e] kz1,ks1⟩)(km1_0:K.lookup e=some ⟨.type "tuple",η,.seq #[Value.str "width" kx1_0,Value.ref v] ku1_0,kr1_0⟩)(kq1_0:K.lookup v=some ⟨.type "tuple",χ,.seq #[Value.int 1 ky1_0,Value.int 1 kw1_0] ko1_0,kv1_0⟩)(kl2:K.lookup Q=some ⟨.type "tuple",kd2,.seq #[Value.ref f,Value.ref g] kz2,ks2⟩)(km2_0:K.lookup f=some ⟨.type "tuple",θ,.seq #[Value.str "left" kx2_0,Value.ref y] ku2_0,kr2_0⟩)(kq2_0:K.lookup y=some ⟨.type "tuple",ψ,.seq #[Value.int 1 ky2_0,Value.int 1 kw2_0] ko2_0,kv2_0⟩)(km2_1:K.lookup g=some ⟨.type "tuple",ι,.seq #[Value.str "width" kx2_1,Value.ref z] ku2_1,kr2_1⟩)(kq2_1:K.lookup z=some ⟨.type "tuple",ω,.seq #[Value.int 1 ky2_1,Value.int 1 kw2_1] ko2_1,kv2_1⟩)(kl3:K.lookup U=some ⟨.type "tuple",kd3,.seq #[Value.ref i,Value.ref j] kz3,ks3⟩)(km3_0:K.lookup i=some ⟨.type "tuple",κ,.seq #[Value.str "left" kx3_0,Value.ref A] ku3_0,kr3_0⟩)(kq3_0:K.lookup A=some ⟨.type "tuple",kh3_0,.seq #[Value.int 1 ky3_0,Value.int 1 kw3_0] ko3_0,kv3_0⟩)(km3_1:K.lookup j=some ⟨.type "tuple",μ,.seq #[Value.str "width" kx3_1,Value.ref B] ku3_1,kr3_1⟩)(kq3_1:K.lookup B=some ⟨.type "tuple",kh3_1,.seq #[Value.int 1 ky3_1,Value.int 2 kw3_1] ko3_1,kv3_1⟩)(kl4:K.lookup Y=some ⟨.type "tuple",kd4,.seq #[Value.ref l] kz4,ks4⟩)(km4_0:K.lookup l=some ⟨.type "tuple",ν,.seq #[Value.str "gap" kx4_0,Value.ref C] ku4_0,kr4_0⟩)(kq4_0:K.lookup C=some ⟨.type "tuple",kh4_0,.seq #[Value.int 1 ky4_0,Value.int 1 kw4_0] ko4_0,kv4_0⟩)(kl5:K.lookup α=some ⟨.type "tuple",kd5,.seq #[Value.ref m] kz5,ks5⟩)(km5_0:K.lookup m=some ⟨.type "tuple",ξ,.seq #[Value.str "top" kx5_0,Value.ref D] ku5_0,kr5_0⟩)(kq5_0:K.lookup D=some ⟨.type "tuple",kh5_0,.seq #[Value.int 1 ky5_0,Value.int 1 kw5_0] ko5_0,kv5_0⟩)(kl6:K.lookup β=some ⟨.type "tuple",kd6,.seq #[Value.ref n] kz6,ks6⟩)(km6_0:K.lookup n=some ⟨.type "tuple",ο,.seq #[Value.str "height" kx6_0,Value.ref E] ku6_0,kr6_0⟩)(kq6_0:K.lookup E=some ⟨.type "tuple",kh6_0,.seq #[Value.int 1 ky6_0,Value.int 1 kw6_0] ko6_0,kv6_0⟩)(kl7:K.lookup γ=some ⟨.type "tuple",kd7,.seq #[Value.ref o,Value.ref p] kz7,ks7⟩)(km7_0:K.lookup o=some ⟨.type "tuple",π,.seq #[Value.str "top" kx7_0,Value.ref G] ku7_0,kr7_0⟩)(kq7_0:K.lookup G=some ⟨.type "tuple",kh7_0,.seq #[Value.int 1 ky7_0,Value.int 1 kw7_0] ko7_0,kv7_0⟩)(km7_1:K.lookup p=some ⟨.type "tuple",ρ,.seq #[Value.str "height" kx7_1,Value.ref H] ku7_1,kr7_1⟩)(kq7_1:K.lookup H=some ⟨.type "tuple",kh7_1,.seq #[Value.int 1 ky7_1,Value.int 1 kw7_1] ko7_1,kv7_1⟩)(kl8:K.lookup δ=some ⟨.type "tuple",kd8,.seq #[Value.ref q,Value.ref r] kz8,ks8⟩)(km8_0:K.lookup q=some ⟨.type "tuple",σ,.seq #[Value.str "top" kx8_0,Value.ref I] ku8_0,kr8_0⟩)(kq8_0:K.lookup I=some ⟨.type "tuple",kh8_0,.seq #[Value.int 1 ky8_0,Value.int 1 kw8_0] ko8_0,kv8_0⟩)(km8_1:K.lookup r=some ⟨.type "tuple",τ,.seq #[Value.str "height" kx8_1,Value.ref J] ku8_1,kr8_1⟩)(kq8_1:K.lookup J=some ⟨.type "tuple",kh8_1,.seq #[Value.int 1 ky8_1,Value.int 2 kw8_1] ko8_1,kv8_1⟩)(kl9:K.lookup ε=some ⟨.type "tuple",kd9,.seq #[Value.ref s] kz9,ks9⟩)(km9_0:K.lookup s=some ⟨.type "tuple",υ,.seq #[Value.str "drop" kx9_0,Value.ref L] ku9_0,kr9_0⟩)(kq9_0:K.lookup L=some ⟨.type "tuple",kh9_0,.seq #[Value.int 1 ky9_0,Value.int 1 kw9_0] ko9_0,kv9_0⟩): B7 w K c:=by
 have a:fr (Rat.divInt 1 1)=[.int 1,.int 1]:=by rw[HV (t:=1) (b:=1) (by walk_at "k") (by walk_at "k")]
 have M:fr (Rat.divInt 1 2)=[.int 1,.int 2]:=by rw[HV (t:=1) (b:=2) (by walk_at "k") (by walk_at "k")]
 refine⟨_,⟨_,_,kl,(.cons (.cons (.cons (.cons (.cons (.cons (.cons (.cons (.cons (.cons .nil)))))))))),by show (["left","width","right","middle","gap","top","height","bottom","centre","drop"]:ag).Nodup;decide +kernel⟩,λx xs h=>?_⟩;simp only[fY,mem_cons,not_mem_nil,or_false,Prod.mk.injEq] at h;rcases h with⟨rfl,rfl⟩ |⟨rfl,rfl⟩ |⟨rfl,rfl⟩ |⟨rfl,rfl⟩ |⟨rfl,rfl⟩ |⟨rfl,rfl⟩ |⟨rfl,rfl⟩ |⟨rfl,rfl⟩ |⟨rfl,rfl⟩ |⟨rfl,rfl⟩
 .exact⟨N,[V.ref d],rfl,.inr ⟨_,_,_,kl0,rfl,rfl,(by show 1<=sizeLine;decide),(.cons rfl .nil)⟩,⟨gS km0_0 rfl rfl kq0_0 rfl rfl a,True.intro⟩⟩
 .exact⟨O,[V.ref e],rfl,.inr ⟨_,_,_,kl1,rfl,rfl,(by show 1<=sizeLine;decide),(.cons rfl .nil)⟩,⟨gS km1_0 rfl rfl kq1_0 rfl rfl a,True.intro⟩⟩
 .exact⟨Q,[V.ref f,V.ref g],rfl,.inr ⟨_,_,_,kl2,rfl,rfl,(by show 2<=sizeLine;decide),(.cons rfl (.cons rfl .nil))⟩,⟨gS km2_0 rfl rfl kq2_0 rfl rfl a,⟨gS km2_1 rfl rfl kq2_1 rfl rfl a,True.intro⟩⟩⟩
 .exact⟨U,[V.ref i,V.ref j],rfl,.inr ⟨_,_,_,kl3,rfl,rfl,(by show 2<=sizeLine;decide),(.cons rfl (.cons rfl .nil))⟩,⟨gS km3_0 rfl rfl kq3_0 rfl rfl a,⟨gS km3_1 rfl rfl kq3_1 rfl rfl M,True.intro⟩⟩⟩
 .exact⟨Y,[V.ref l],rfl,.inr ⟨_,_,_,kl4,rfl,rfl,(by show 1<=sizeLine;decide),(.cons rfl .nil)⟩,⟨gS km4_0 rfl rfl kq4_0 rfl rfl a,True.intro⟩⟩
 .exact⟨α,[V.ref m],rfl,.inr ⟨_,_,_,kl5,rfl,rfl,(by show 1<=sizeLine;decide),(.cons rfl .nil)⟩,⟨gS km5_0 rfl rfl kq5_0 rfl rfl a,True.intro⟩⟩
 .exact⟨β,[V.ref n],rfl,.inr ⟨_,_,_,kl6,rfl,rfl,(by show 1<=sizeLine;decide),(.cons rfl .nil)⟩,⟨gS km6_0 rfl rfl kq6_0 rfl rfl a,True.intro⟩⟩
 .exact⟨γ,[V.ref o,V.ref p],rfl,.inr ⟨_,_,_,kl7,rfl,rfl,(by show 2<=sizeLine;decide),(.cons rfl (.cons rfl .nil))⟩,⟨gS km7_0 rfl rfl kq7_0 rfl rfl a,⟨gS km7_1 rfl rfl kq7_1 rfl rfl a,True.intro⟩⟩⟩
 .exact⟨δ,[V.ref q,V.ref r],rfl,.inr ⟨_,_,_,kl8,rfl,rfl,(by show 2<=sizeLine;decide),(.cons rfl (.cons rfl .nil))⟩,⟨gS km8_0 rfl rfl kq8_0 rfl rfl a,⟨gS km8_1 rfl rfl kq8_1 rfl rfl M,True.intro⟩⟩⟩
 .exact⟨ε,[V.ref s],rfl,.inr ⟨_,_,_,kl9,rfl,rfl,(by show 1<=sizeLine;decide),(.cons rfl .nil)⟩,⟨gS km9_0 rfl rfl kq9_0 rfl rfl a,True.intro⟩⟩
set_option genInjectivity false in
set_option genSizeOf false in
structure Tx(w:World)(K:ak)(mg:bD) where
 {aaa:ae}
 LX:mg "Number"=some (.ref aaa)
 lG:du K aaa
 v9:aD K aaa "number"
 {aae:ae}
 LY:mg "Edge"=some (.ref aae)
 gJ:du K aae
 sF:aD K aae "word"
 nJ:aD K aae "name"
 {aaj:ae}
 LZ:mg "Times"=some (.ref aaj)
 gK:du K aaj
 wa:aD K aaj "number"
 sG:aD K aaj "inner"
 {aao:ae}
 AZ:mg "Plus"=some (.ref aao)
 gn:du K aao
 sH:aD K aao "one"
 sI:aD K aao "other"
 {aat:ae}
 A0:mg "Minus"=some (.ref aat)
 gp:du K aat
 sJ:aD K aat "one"
 sL:aD K aat "other"
 {aay:ae}
 L0:mg "Just"=some (.ref aay)
 nG:du K aay
 LH:aD K aay "near"
 LI:aD K aay "far"
 LJ:aD K aay "rank"
 LK:aD K aay "weight"
 {aaF:ae}
 LL:mg "AtLeast"=some (.ref aaF)
 nH:du K aaF
 LM:aD K aaF "near"
 LN:aD K aaF "far"
 LO:aD K aaF "rank"
 LP:aD K aaF "weight"
 {aaM:ae}
 LQ:mg "AtMost"=some (.ref aaM)
 nI:du K aaM
 LR:aD K aaM "near"
 LS:aD K aaM "far"
 LU:aD K aaM "rank"
 LV:aD K aaM "weight"
 {aaT:ae}
 LW:mg "Reader"=some (.ref aaT)
 fc:du K aaT
 AX:aD K aaT "words"
 AY:aD K aaT "names"
 v8:aD K aaT "place"
 lF:cC K mg "part" CH ["top","bottom"]
 sD:cC K mg "greatest_divisor" A4 ["one","other"]
 nB:cC K mg "plus" CI ["one","other"]
 nC:cC K mg "minus" Ct ["one","other"]
 nD:cC K mg "times" Cu ["one","other"]
 pD:cC K mg "under" Cv ["one","other"]
 nE:cC K mg "is_whole" Cd ["word","most"]
 sE:cC K mg "read_number" BW ["word"]
 nF:cC K mg "show_number" BX ["number"]
 lE:cC K mg "made" CJ ["parts","rest"]
 pE:cC K mg "added" Cw ["one","other"]
 p6:cC K mg "reduced" B4 ["one","other"]
 p9:cC K mg "scaled" B1 ["one","number"]
 sO:cC K mg "value_at" Ce ["one","placing"]
 sP:cC K mg "sum_at" B2 ["one","placing"]
 qa:cC K mg "missed" B3 ["one","placing"]
 sQ:cC K mg "is_name" B5 ["word"]
 sR:cC K mg "unknown_of" Bw ["word","name"]
 sS:cC K mg "way_of" CA ["word"]
 nK:cC K mg "bracketed" Bg ["term"]
 qb:cC K mg "read_wish" Bh ["text"]
 sT:cC K mg "read_filled" BY ["text","names"]
 ku:cC K mg "_law_cell_at" BZ ["_law_script","_law_k"]
 qd:cC K mg "_law_mixed" Bi ["_law_cell","_law_k"]
 sU:cC K mg "_law_shared" Bx ["_law_one","_law_other"]
 jF:cC K mg "_law_lowest" By ["_law_top","_law_bottom"]
 ib:cC K mg "_law_plus" Cf ["_law_one","_law_other","_law_sign"]
 nL:cC K mg "_law_number" Bz ["_law_cell"]
 sV:cC K mg "_law_placing" B0 ["_law_cell"]
 sW:cC K mg "_law_edge" Cg ["_law_cell","_law_down","_law_placing_here"]
 qe:cC K mg "_law_leaf" Ci ["_law_cell","_law_down","_law_placing_here"]
 sX:cC K mg "_law_step" Cj ["_law_side_here","_law_cell","_law_down","_law_placing_here"]
 qf:cC K mg "_law_side" Ck ["_law_cells","_law_first","_law_down","_law_placing_here"]
 qg:cC K mg "_law_same" Cm ["_law_found","_law_due"]
 sY:cC K mg "_law_off" B6 ["_law_told","_law_placing_here"]
 sZ:cC K mg "_law_texts" Bj ["_law_script","_law_placing_here"]
 kr:cC K mg "law" Dk ["_law_script"]
 sM:i1 K aaa "Number.__init__" BH ["self","number"]
 pO:cH K aaa "edges" "Term.edges" BA ["self"]
 g8:cH K aaa "ways" "Term.ways" Bk ["self"]
 pP:cH K aaa "text" "Number.text" Bm ["self"]
 pQ:cH K aaa "worth" "Number.worth" BR ["self"]
 sN:i1 K aae "Edge.__init__" BL ["self","word","name"]
 pR:cH K aae "edges" "Edge.edges" BB ["self"]
 pS:cH K aae "text" "Edge.text" Bl ["self"]
 pU:cH K aae "worth" "Edge.worth" BC ["self"]
 pW:i1 K aaj "Times.__init__" BJ ["self","number","inner"]
 i5:cH K aaj "edges" "Times.edges" Bn ["self"]
 i6:cH K aaj "text" "Times.text" BD ["self"]
 i7:cH K aaj "worth" "Times.worth" Bo ["self"]
 pX:i1 K aao "Plus.__init__" BM ["self","one","other"]
 i8:cH K aao "edges" "Plus.edges" BE ["self"]
 i9:cH K aao "text" "Plus.text" B8 ["self"]
 ja:cH K aao "worth" "Plus.worth" BF ["self"]
 pY:i1 K aat "Minus.__init__" BK ["self","one","other"]
 jb:cH K aat "edges" "Minus.edges" Bp ["self"]
 jc:cH K aat "text" "Minus.text" BG ["self"]
 jd:cH K aat "worth" "Minus.worth" Br ["self"]
 jC:i1 K aay "Wish.__init__" BN ["self","near","far","rank","weight"]
 jD:cH K aay "text" "Wish.text" B9 ["self"]
 pZ:cH K aay "verb" "Just.verb" Ca ["self"]
 jE:cH K aay "row" "Wish.row" Co ["self"]
 jB:cH K aay "missed" "Wish.missed" Bs ["self","placing"]
 pF:cH K aay "kind" "Just.kind" Cb ["self"]
 pG:cH K aaF "verb" "AtLeast.verb" BS ["self"]
 pH:cH K aaF "kind" "AtLeast.kind" BU ["self"]
 pI:cH K aaM "verb" "AtMost.verb" Bt ["self"]
 pJ:cH K aaM "kind" "AtMost.kind" Bu ["self"]
 pK:i1 K aaT "Reader.__init__" BI ["self","text","names"]
 pL:cH K aaT "ahead" "Reader.ahead" BV ["self"]
 pM:cH K aaT "step" "Reader.step" Bv ["self"]
 pN:cH K aaT "expect" "Reader.expect" BO ["self","word"]
 qh:cH K aaT "at_end" "Reader.at_end" BP ["self"]
 qi:cH K aaT "finish" "Reader.finish" BQ ["self"]
 kv:cH K aaT "read_term" "Reader.read_term" A5 ["self"]
 qj:cH K aaT "read_edge" "Reader.read_edge" A6 ["self","word"]
 qk:cH K aaT "read_name" "Reader.read_name" A7 ["self"]
 ql:cH K aaT "read_terms" "Reader.read_terms" Bf ["self"]
 qm:cH K aaT "read_verb" "Reader.read_verb" A8 ["self"]
 qo:cH K aaT "read_rank" "Reader.read_rank" A9 ["self"]
 qp:cH K aaT "read_weight" "Reader.read_weight" Be ["self"]
 {ack:ae}
 acl:mg "NOUGHT"=some (.ref ack)
 kx:lD K ack (([0,1]:cW).map V.int)
 {acn:ae}
 Mj:mg "MINUS_ONE"=some (.ref acn)
 Ml:lD K acn (([-1,1]:cW).map V.int)
 {acq:ae}
 Mm:mg "ACROSS"=some (.ref acq)
 act:lD K acq ((["left","width","right","middle","gap"]:ag).map V.str)
 {acu:ae}
 A2:mg "DOWN"=some (.ref acu)
 A3:lD K acu ((["top","height","bottom","centre","drop"]:ag).map V.str)
 {acx:ae}
 Mn:mg "SPANS"=some (.ref acx)
 Mo:lD K acx ((["gap","drop"]:ag).map V.str)
 {acA:ae}
 L9:mg "STARTS"=some (.ref acA)
 Ma:lD K acA ((["left","top"]:ag).map V.str)
 {acD:ae}
 wb:mg "RANKS"=some (.ref acD)
 wc:lD K acD ((["must","hand","strong","fair","faint"]:ag).map V.str)
 {acG:Tok}
 A1:mg "FRAME"=some (.str "frame" acG)
 {acI:Tok}
 Mb:mg "FIGURES"=some (.str "0123456789" acI)
 {acK:Tok}
 Mc:mg "LETTERS"=some (.str "abcdefghijklmnopqrstuvwxyz" acK)
 {acM:Tok}
 Me:mg "MOST_FIGURES"=some (.int (6) acM)
 {acO:Tok}
 Mf:mg "MOST_WORDS"=some (.int (60) acO)
 {acQ:Tok}
 Mg:mg "WEIGHT_FIGURES"=some (.int (7) acQ)
 {acS:Tok}
 Mh:mg "MOST_WEIGHT"=some (.int (1000000) acS)
 {acU:Tok}
 Mi:mg "MOST_LETTERS"=some (.int (8) acU)
 {acW:ae}
 je:mg "NoWish"=some (.ref acW)
 jf:W.excIn K acW [.type "ValueError",.type "Exception",.type "BaseException",.type "object"] "ValueError.__new__"=true
 {acZ:ae}
 L1:mg "Mixed"=some (.ref acZ)
 L3:W.excIn K acZ [.type "ValueError",.type "Exception",.type "BaseException",.type "object"] "ValueError.__new__"=true
 {ac2:ae}
 ac3:mg "NoPart"=some (.ref ac2)
 ac4:W.excIn K ac2 [.type "ValueError",.type "Exception",.type "BaseException",.type "object"] "ValueError.__new__"=true
 L4:hF K aae "ways" g8.a
 L5:hF K aaj "ways" g8.a
 L6:hF K aao "ways" g8.a
 L7:hF K aat "ways" g8.a
 L8:Mk K aaF jC.a
 Mt:hF K aaF "text" jD.a
 Mu:hF K aaF "row" jE.a
 adc:hF K aaF "missed" jB.a
 Mv:Mk K aaM jC.a
 Mw:hF K aaM "text" jD.a
 Mx:hF K aaM "row" jE.a
 My:hF K aaM "missed" jB.a
 Mz:mg "missed_rows"=some (.ref qa.a)
 MA:∀o:Obj,K.lookup acD=some o->o.dict=none
 MB:fG K aaa
 MC:fG K aae
 MD:fG K aaj
 ME:fG K aao
 MF:fG K aat
 MG:W.kitAny K (.ref aaa) [.ref aao,.ref aat]=some false
 MH:W.kitAny K (.ref aae) [.ref aao,.ref aat]=some false
 adr:W.kitAny K (.ref aaj) [.ref aao,.ref aat]=some false
 MI:W.kitAny K (.ref aao) [.ref aao,.ref aat]=some true
 MJ:W.kitAny K (.ref aat) [.ref aao,.ref aat]=some true
 {adu:ae}
 MK:mg "WORTHS"=some (.ref adu)
 ML:B7 w K adu
 qr:mg "abs"=none
 ig:mg "len"=none
 Mp:mg "range"=none
 qq:mg "isinstance"=none
 Mq:mg "tuple"=none
 Ba:mg "bool"=none
 Bb:mg "dict"=none
 Mr:mg "list"=none
 Bc:mg "set"=none
 Ms:mg "sorted"=none
 nM:mg "int"=none
 wg:mg "all"=none
 lH:mg "str"=none
 Bd:mg "enumerate"=none
def tx(L:List Nat):Str:=⟨L.toArray⟩
theorem kT(x:Str):tx x.cps.toList=x:=by cases x;rfl
theorem fg(L:List Nat):(tx L).cps.toList=L:=rfl
theorem JC{L M:List Nat}:tx L=tx M↔L=M:=⟨λh=>by rw[<- fg L,h,fg],λh=>by rw[h]⟩
theorem kY(L M:List Nat):tx L++tx M=tx (L++M):=by
 show (⟨L.toArray++M.toArray⟩:Str)=⟨(L++M).toArray⟩
 rw[List.append_toArray]
theorem cg(L:List Nat):(tx L).length=L.length:=by show L.toArray.size=_;rw[size_toArray]
def dig(L:List Nat):Bool:=L.all λc=>decide (48<=c)&&decide (c<=57)
def whole(n:Nat)(L:List Nat):Bool:=!decide (L=[])&&(decide (L.length<=n)&&(dig L&&(decide (L=[48]) || !decide (L.head?=some 48))))
abbrev vl(L:List Nat):Nat:=NumText.digitsVal L
def c9(n:Nat):List Nat:=(Nat.toDigits 10 n).map Char.toNat
theorem q9{L:List Nat}(h:dig L=true):NumText.AllDigits L:=λc m=>by
 have:=all_eq_true.mp h c m;simpa using this
theorem SK{L:List Nat}(h:NumText.AllDigits L):(L.map Char.ofNat).map Char.toNat=L:=by
 rw[map_map]
 conv=>rhs;rw[<- List.map_id L]
 refine map_congr_left λc m=>?_
 have:=h c m;show (Char.ofNat c).toNat=c;have a:c=48\/c=49\/c=50\/c=51\/c=52\/c=53\/c=54\/c=55\/c=56\/c=57:=⋯
 rcases a with h |h |h |h |h |h |h |h |h |h<;>subst h<;>rfl
theorem jY{n:Nat}{L:List Nat}(h:whole n L=true):L≠[]/\L.length<=n/\dig L=true/\(L=[48]\/¬ L.head?=some 48):=by
 unfold whole at h;simpa using h
theorem uR{n:Nat}{L:List Nat}(h:whole n L=true):c9 (vl L)=L:=by
 let⟨d,_,e,b⟩:=jY h;have a:=q9 e;unfold c9 vl;rw[NumText.toDigits_digitsVal (L.length - 1) L (by have:=List.length_pos_iff.mpr d;omega) a ?_,SK a];rcases b with b |b
 .left;rw[b];rfl
 .right;cases L with
  |nil=>exact absurd rfl d
  |cons c r=>
   refine⟨c,r,rfl,?_⟩;have:=a c mem_cons_self;have:¬ c=48:=λz=>b (by rw[z];rfl)
   omega
theorem kQ(n:Nat):vl (c9 n)=n:=W.KIN.val_back n
theorem iQ(n:Nat):∀c∈c9 n,48<=c/\c<=57:=λc m=>by
 unfold c9 at m;let⟨d,hd,rfl⟩:=mem_map.mp m;have:=Nat.isDigit_of_mem_toDigits ∎ ∎ hd;unfold Char.isDigit at this;simp at this;have a:=this.1;have b:=this.2;constructor
 .exact a
 .exact b
def dec(a:Int):List Nat:=if a<0 then 45::c9 a.natAbs else c9 a.natAbs
theorem Hj(m:Nat):Str.ofString (toString (m:Int))=tx (c9 m):=by
 rw[<- kT (Str.ofString (toString (m:Int))),W.KIN.signs_num];rfl
theorem UY(s:String):Str.ofString ("-"++s)=tx (45::(Str.ofString s).cps.toList):=by
 unfold Str.ofString;rw[String.toByteArray_append];simp;have e:"-".toByteArray.data.toList=[45]:=∎
 rw[e];show (⟨(cpsOfBytes 0 0 (45::s.toByteArray.data.toList)).toArray⟩:Str)=⟨(45::cpsOfBytes 0 0 s.toByteArray.data.toList).toArray⟩;congr 2
theorem Hk(a:Int):Str.ofString (toString a)=tx (dec a):=by
 unfold dec;by_cases h:a<0
 .rw[if_pos h,PyProof.Rows.toString_neg h,UY];have e:0 - a=(a.natAbs:Int):=⋯
  rw[e,Hj,fg]
 .rw[if_neg h];have e:a=(a.natAbs:Int):=⋯
  conv=>lhs;rw[e]
  exact Hj _
def bS(c:Nat):List Nat->List (List Nat)
 |[]=>[[]]
 |x::r=>if x=c then []::bS c r else match bS c r with |[]=>[[x]] |p::ps=>(x::p)::ps
def eY(c:Nat):List (List Nat)->List Nat
 |[]=>[]
 |[p]=>p
 |p::ps=>p ++ c::eY c ps
theorem qP(c:Nat)(L:List Nat):bS c L≠[]:=by
 cases L with
 |nil=>exact λz=>nomatch z
 |cons x r=>
  unfold bS;split
  .exact λz=>nomatch z
  .split<;>exact λz=>nomatch z
theorem ua{c:Nat}:∀{p r:List Nat},c ∉ p->bS c (p++c::r)=p::bS c r
 |[],r,_=>by
  have e:bS c (c::r)=if c=c then []::bS c r else match bS c r with |[]=>[[c]] |p::ps=>(c::p)::ps:=rfl
  show bS c (c::r)=_;rw[e,if_pos rfl]
 |x::p,r,h=>by
  have a:¬ x=c:=λz=>h (by rw[z];exact mem_cons_self)
  have b:=ua (p:=p) (r:=r) λz=>h (mem_cons_of_mem _ z)
  have e:bS c (x::(p++c::r))=if x=c then []::bS c (p++c::r) else match bS c (p++c::r) with |[]=>[[x]] |p::ps=>(x::p)::ps:=rfl
  show bS c (x::(p++c::r))=_;rw[e,if_neg a,b]
theorem nZ{c:Nat}:∀{p:List Nat},c ∉ p->bS c p=[p]
 |[],_=>rfl
 |x::p,h=>by
  have a:¬ x=c:=λz=>h (by rw[z];exact mem_cons_self)
  have e:bS c (x::p)=if x=c then []::bS c p else match bS c p with |[]=>[[x]] |p::ps=>(x::p)::ps:=rfl
  rw[e,if_neg a,nZ (p:=p) λz=>h (mem_cons_of_mem _ z)]
theorem xX{c:Nat}:∀{ps:List (List Nat)},ps≠[]->(∀p∈ps,c ∉ p)->bS c (eY c ps)=ps
 |[],h,_=>absurd rfl h
 |[p],_,h=>nZ (h p mem_cons_self)
 |p::q::ps,_,h=>by
  show bS c (p++c::eY c (q::ps))=_;rw[ua (h p mem_cons_self),xX (ps:=q::ps) (λz=>nomatch z) λr m=>h r (mem_cons_of_mem _ m)]
theorem EN(c:Nat):∀(ps:List (List Nat))(a:List Nat),(ps.foldl (λb p=>b++[c]++p) a)=eY c (a::ps)
 |[],a=>rfl
 |p::ps,a=>by
  rw[foldl_cons,EN c ps (a++[c]++p)];show eY c ((a++[c]++p)::ps)=a++c::eY c (p::ps);cases ps with
  |nil=>show a++[c]++p=a++c::p;simp
  |cons q ps=>show a++[c]++p++c::eY c (q::ps)=a++c::(p++c::eY c (q::ps));simp
theorem SM(c:Nat):∀(ps:ag)(a:Array Nat),(ps.foldl (λb p=>b++(tx [c]).cps++p.cps) a).toList=eY c (a.toList::ps.map (·.cps.toList)):=by
 intro ps a;rw[<- EN]
 induction ps generalizing a with
 |nil=>rfl
 |cons p ps d=>
  rw[foldl_cons,map_cons,foldl_cons,d];simp[tx]
theorem yF(x:Str)(c:Nat):Txt.split x (tx [c])=(bS c x.cps.toList).map tx:=by
 have ne:Txt.split x (tx [c])≠[]:=by
  unfold Txt.split;split
  .exact λz=>nomatch z
  .split
   .exact λz=>nomatch z
   .rw[StrLaws.partsBetween_eq];unfold StrLaws.partsFrom;split<;>exact λz=>nomatch z
 have d:eY c ((Txt.split x (tx [c])).map (·.cps.toList))=x.cps.toList:=by
  unfold Txt.split;split
  .rfl
  .split
   .rfl
   .have g:=StrLaws.glued_between_self x (tx [c]) (x.length+1);have h:(tx [c]).length=1:=rfl;generalize Builtin.Str.partsBetween x (Builtin.Str.occurrences x (tx [c]) 0 x.length (x.length+1)) (tx [c]).length=a at g;unfold Builtin.Str.glued at g;cases a with
    |nil=>rw[<- g];rfl
    |cons p a=>
     have b:=SM c a p.cps;rw[<- g];exact b.symm
 have fr:∀p∈(Txt.split x (tx [c])).map (·.cps.toList),c ∉ p:=λp m=>by
  let⟨q,f,rfl⟩:=mem_map.mp m;exact StrLaws.split_free x c q f
 have e:=xX (by intro z;exact ne (List.map_eq_nil_iff.mp z)) fr;rw[d] at e;rw[e,map_map]
 conv=>lhs;rw[<- List.map_id (Txt.split x (tx [c]))]
 exact map_congr_left λq _=>(kT q).symm
def neg(L:List Nat):Bool:=decide (L.head?=some 45)
def strip(L:List Nat):List Nat:=if L.head?=some 45 then L.tail else L
def sgn(L:List Nat)(n:Nat):Int:=if L.head?=some 45 then -(n:Int) else n
def fo(L:List Nat):Option (Int×Int):=match bS 47 (strip L) with
 |[t]=>if whole 6 t=true /\ ¬ (vl t=0 /\ L.head? = some 45) then some (sgn L (vl t),1) else none
 |[t,b]=>if whole 6 t=true /\ whole 6 b=true /\ 2 <= vl b /\ Nat.gcd (vl t) (vl b)=1 /\ ¬ (vl t=0 /\ L.head? = some 45) then some (sgn L (vl t),vl b) else none
 |_=>none
def bZ(q:Rat):List Nat:=if q.den=1 then dec q.num else dec q.num++47::c9 q.den
theorem uv(a:Int):47 ∉ dec a:=λm=>by
 unfold dec at m;split at m
 .rcases mem_cons.mp m with h |h
  .cases h
  .have:=iQ _ _ h;omega
 .have:=iQ _ _ m;omega
theorem F6(n:Nat):47 ∉ c9 n:=λm=>by have:=iQ _ _ m;omega
theorem Ik(n:Nat):c9 n≠[]:=λh=>by
 have e:=kQ n;rw[h] at e;have e:0=n:=e;subst e;exact absurd h ∎
theorem Wy(n:Nat):¬ (c9 n).head?=some 45:=λh=>by
 have:=iQ n 45 (List.mem_of_mem_head? h);omega
theorem oy(a:Int):(dec a).head?=some 45↔a<0:=by
 unfold dec;split
 .exact⟨λ_=>by assumption,λ_=>rfl⟩
 .rename_i h;exact⟨λz=>absurd z (Wy _),λz=>absurd z h⟩
theorem yz(a:Int):strip (dec a)=c9 a.natAbs:=by
 unfold strip;by_cases h:a<0
 .rw[if_pos ((oy a).mpr h)];unfold dec;rw[if_pos h];rfl
 .rw[if_neg (λz=>h ((oy a).mp z))];unfold dec;rw[if_neg h]
theorem QX(L:List Nat):∃p ps,bS 47 L=p::ps/\bS 47 (strip L)=strip p::ps/\p.head?=L.head?\/(bS 47 L=p::ps/\p=[]/\bS 47 (strip L)=p::ps/\¬ L.head?=some 45):=by
 cases L with
 |nil=>exact⟨[],[],.inr ⟨rfl,rfl,rfl,λz=>nomatch z⟩⟩
 |cons x r=>
  have e:bS 47 (x::r)=if x=47 then []::bS 47 r else match bS 47 r with |[]=>[[x]] |p::ps=>(x::p)::ps:=rfl
  by_cases h:x=47
  .rw[if_pos h] at e;refine⟨[],bS 47 r,.inr ⟨e,rfl,?_,?_⟩⟩
   .have hn:¬ (x::r).head?=some 45:=λz=>by rw[h] at z;cases z
    unfold strip;rw[if_neg hn,e]
   .intro z;rw[h] at z;cases z
  .rw[if_neg h] at e;cases hs:bS 47 r with
   |nil=>exact absurd hs (qP _ _)
   |cons p ps=>
    rw[hs] at e;refine⟨x::p,ps,.inl ⟨e,?_,rfl⟩⟩;by_cases a:x=45
    .subst a;show bS 47 r=p::ps;exact hs
    .have hn:¬ (x::r).head?=some 45:=λz=>a (by simpa using z)
     have b:¬ (x::p).head?=some 45:=λz=>a (by simpa using z)
     unfold strip;rw[if_neg hn,if_neg b];exact e
theorem oV{L p:List Nat}{ps:List (List Nat)}(h:bS 47 L=p::ps):bS 47 (strip L)=strip p::ps/\(p.head?=some 45↔L.head?=some 45):=by
 obtain⟨g,f,a |a⟩:=QX L
 .rw[h] at a;let⟨e,b,c⟩:=a;cases e;exact⟨b,by rw[c]⟩
 .rw[h] at a;let⟨e,d,b,c⟩:=a;cases e;subst d;exact⟨b,⟨(λz=>nomatch z),λz=>absurd z c⟩⟩
theorem x8(c:Nat):∀L:List Nat,eY c (bS c L)=L
 |[]=>rfl
 |x::r=>by
  have a:=x8 c r;have e:bS c (x::r)=if x=c then []::bS c r else match bS c r with |[]=>[[x]] |p::b=>(x::p)::b:=rfl
  rw[e];by_cases h:x=c
  .rw[if_pos h];cases hs:bS c r with
   |nil=>exact absurd hs (qP _ _)
   |cons p b=>
    rw[hs] at a;show []++c::eY c (p::b)=x::r;rw[a,h];rfl
  .rw[if_neg h];cases hs:bS c r with
   |nil=>exact absurd hs (qP _ _)
   |cons p b=>
    rw[hs] at a;cases b with
    |nil=>
     have a:p=r:=a;show x::p=x::r;rw[a]
    |cons q b=>
     have a:p++c::eY c (q::b)=r:=a;show (x::p)++c::eY c (q::b)=x::r;rw[<- a];rfl
theorem yG{p:List Nat}(h:¬ p.head?=some 45):strip p=p:=if_neg h
theorem F7{p:List Nat}(h:p.head?=some 45):p=45::strip p:=by
 unfold strip;rw[if_pos h];cases p with
 |nil=>cases h
 |cons x r=>cases h;rfl
theorem Hl{L p:List Nat}(e:p.head?=some 45↔L.head?=some 45)(hw:whole 6 (strip p)=true)(a:¬ (vl (strip p)=0/\L.head?=some 45)):dec (sgn L (vl (strip p)))=p:=by
 unfold sgn;by_cases h:L.head?=some 45
 .rw[if_pos h];have hv:¬ vl (strip p)=0:=λz=>a ⟨z,h⟩
  unfold dec;rw[if_pos ⋯,show (-((vl (strip p):Nat):Int)).natAbs=vl (strip p) by omega,uR hw];exact (F7 (e.mpr h)).symm
 .rw[if_neg h];unfold dec;rw[if_neg ⋯,natAbs_natCast,uR hw];exact yG (λz=>h (e.mp z))
theorem oo(L:List Nat)(n:Nat):(sgn L n).natAbs=n:=by unfold sgn;split<;>omega
theorem Ji{L p:List Nat}(hs:bS 47 L=[p])(hw:whole 6 (strip p)=true):(bZ (Rat.divInt (sgn L (vl (strip p))) 1)=L->fo L=some (sgn L (vl (strip p)),1))/\(¬ bZ (Rat.divInt (sgn L (vl (strip p))) 1)=L->fo L=none):=by
 let⟨e,f⟩:=oV hs;have b:L=p:=by have:=x8 47 L;rw[hs] at this;exact this.symm
 have c:Rat.divInt (sgn L (vl (strip p))) 1=((sgn L (vl (strip p)):Int):Rat):=by rw[<- Rat.num_divInt_den ((sgn L (vl (strip p)):Int):Rat),Rat.num_intCast,Rat.den_intCast];rfl
 have d:bZ (Rat.divInt (sgn L (vl (strip p))) 1)=dec (sgn L (vl (strip p))):=by
  rw[c];unfold bZ;rw[Rat.den_intCast,Rat.num_intCast,if_pos rfl]
 rw[d];unfold fo;rw[e];dsimp only;constructor
 .intro h;refine if_pos ⟨hw,λz=>?_⟩;have a:sgn L (vl (strip p))=0:=by have:=oo L (vl (strip p));omega
  rw[a] at h;have:(dec 0).head?=some 45:=by rw[h];exact z.2
  exact absurd ((oy 0).mp this) ∎
 .intro h;rw[if_neg];rintro⟨_,z⟩;exact h ((Hl f hw z).trans b.symm)
theorem Jj{L p b:List Nat}(hs:bS 47 L=[p,b])(hw:whole 6 (strip p)=true)(n:whole 6 b=true)(m:¬ vl b=0):(bZ (Rat.divInt (sgn L (vl (strip p))) (vl b))=L->fo L=some ((Rat.divInt (sgn L (vl (strip p))) (vl b)).num,(((Rat.divInt (sgn L (vl (strip p))) (vl b)).den:Nat):Int)))/\(¬ bZ (Rat.divInt (sgn L (vl (strip p))) (vl b))=L->fo L=none):=by
 let⟨u,l⟩:=oV hs;have o:p++47::b=L:=by have:=x8 47 L;rw[hs] at this;exact this
 have a:Nat.gcd (vl (strip p)) (vl b)=1->(Rat.divInt (sgn L (vl (strip p))) (vl b)).num=sgn L (vl (strip p))/\(Rat.divInt (sgn L (vl (strip p))) (vl b)).den=vl b:=λg=>by
  have e:Rat.divInt (sgn L (vl (strip p))) (vl b)=⟨sgn L (vl (strip p)),vl b,m,by rw[oo];exact g⟩:=by
   conv=>rhs;rw[<- Rat.num_divInt_den (⟨sgn L (vl (strip p)),vl b,m,by rw[oo];exact g⟩:Rat)]
  rw[e];exact⟨rfl,rfl⟩
 have hu:fo L=if whole 6 (strip p)=true/\whole 6 b=true/\2<=vl b/\Nat.gcd (vl (strip p)) (vl b)=1/\¬ (vl (strip p)=0/\L.head?=some 45) then some (sgn L (vl (strip p)),((vl b:Nat):Int)) else none:=by
  unfold fo;rw[u]
 rw[hu];constructor
 .intro h;generalize w:Rat.divInt (sgn L (vl (strip p))) (vl b)=q at h a;have c:bS 47 (bZ q)=[p,b]:=by rw[h];exact hs
  unfold bZ at c;by_cases hd:q.den=1
  .rw[if_pos hd,nZ (uv _)] at c;cases c
  .rw[if_neg hd,ua (uv _),nZ (F6 _)] at c;let⟨j,d⟩:=List.cons.inj c;let⟨d,_⟩:=List.cons.inj d;have r:q.den=vl b:=by rw[<- d,kQ]
   have s:q.num.natAbs=vl (strip p):=by rw[<- j,yz,kQ]
   have g:Nat.gcd (vl (strip p)) (vl b)=1:=by rw[<- s,<- r];exact q.reduced
   have dp:=q.den_pos;let⟨f,i⟩:=a g;rw[f,i];refine if_pos ⟨hw,n,⋯,g,λz=>?_⟩
   .have hl:p.head?=some 45:=l.mpr z.2;rw[<- j] at hl;have:=(oy _).mp hl;have:=z.1;omega
 .intro h;rw[if_neg];rintro⟨_,_,v,g,z⟩;let⟨f,i⟩:=a g;apply h;unfold bZ;rw[f,i,if_neg ⋯,Hl l hw z,uR n];exact o
theorem Fj{L p:List Nat}{ps:List (List Nat)}(hs:bS 47 L=p::ps)(h:2<(p::ps).length\/((strip p::ps).all (whole 6))=false):fo L=none:=by
 let⟨a,e⟩:=oV hs;unfold fo;rw[a];cases ps with
 |nil=>
  rcases h with h |h
  .exact absurd h (by show ¬ 2<1;omega)
  .refine if_neg ?_;rintro⟨z,_⟩;rw[all_cons,z] at h;cases h
 |cons b ps=>
  cases ps with
  |nil=>
   rcases h with h |h
   .exact absurd h (by show ¬ 2<2;omega)
   .refine if_neg ?_;rintro⟨z,d,_⟩;rw[all_cons,z,all_cons,d] at h;cases h
  |cons c ps=>rfl
theorem UZ{L p b:List Nat}(hs:bS 47 L=[p,b])(d:vl b=0):fo L=none:=by
 let⟨a,c⟩:=oV hs;unfold fo;rw[a];dsimp only;rw[if_neg];rintro⟨_,_,z,_⟩;omega
theorem Yu(m:List (Str×Rat)):ij m=nz m:=by
 unfold ij nz;refine List.filter_congr λp _=>?_
 by_cases h:p.2=0
 .simp[h]
 .simp[h]
theorem JD{m:List (Str×Rat)}{i:Nat}{x:Str}{q b:Rat}(n:(m.map (·.1)).Nodup)(h:m[i]?=some (x,q)):gh (sc (m.take i) b) x (q*b)=sc (m.take (i+1)) b:=by
 rw[X8 b h];exact z'a _ (RW b (FW n h))
theorem Yv{m:List (Str×Rat)}{n:Nat}{x:Str}(h:∀x q,gt m x=some q->bs q<=n)(hn:1<=n):bs ((gt m x).getD 0)<=n:=by
 cases e:gt m x with
 |none=>exact le_trans (Nat.le_of_eq G1) hn
 |some q=>exact h x q e
theorem uJ{j:Type}(m:List (Str×j))(x:Str)(y:j):(gh m x y).length<=m.length+1:=by
 unfold gh;split
 .rw[length_map];exact le_succ _
 .rw[length_append];exact le_refl _
theorem oS:bs (-1)=1:=by walk_at "k"
theorem Ej{m:List (Str×Rat)}{n:Nat}{q:Rat}(nd:Nd m)(h:∀x q,gt m x=some q->bs q<=n):∀x y,gt (nz (sc m q)) x=some y->bs y<=n+bs q:=λx y e=>by
 rw[rG (rF nd q),zT] at e;cases g:gt m x with
 |none=>rw[g] at e;cases e
 |some z=>
  rw[g] at e;simp only[map_some] at e;split at e
  .cases e
  .cases e;exact le_trans (iK _ _) (by have:=h x z g;omega)
inductive Tm where
 |num (q:Rat) |aR (w n:Str) |times (q:Rat) (t:Tm) |plus (a b:Tm) |minus (a b:Tm)
def Tm.tag:Tm->Nat
 |.num _=>0 |.aR _ _=>1 |.times _ _=>2 |.plus _ _=>3 |.minus _ _=>4
def Tm.dep:Tm->Nat
 |.num _=>0 |.aR _ _=>0 |.times _ t=>t.dep + 1 |.plus a b=>max a.dep b.dep + 1 |.minus a b=>max a.dep b.dep + 1
def bC:Tm->List (Str×Str)
 |.num _=>[] |.aR w n=>[(w,n)] |.times _ t=>bC t |.plus a b=>bC a ++ bC b |.minus a b=>bC a ++ bC b
def shr(w:Str):List (Str×Rat):=(fY.lookup w).getD []
def xj(w:Str):Bool:=decide (w="left") || decide (w="top")
def iJ(n:Str)(p:Str×Rat):Bool:=!decide (n="frame") || !xj p.1
def cB(w n:Str):Str:=w++(" ":Str)++n
def ez(w n:Str):List (Str×Rat):=((shr w).filter (iJ n)).map λp=>(cB p.1 n,p.2)
def cY:Tm->Str->Rat
 |.num _,_=>0 |.aR w n,u=>(b3 (ez w n) u).getD 0 |.times q t,u=>cY t u * q |.plus a b,u=>cY a u + cY b u |.minus a b,u=>cY a u + cY b u * (-1)
def cD:Tm->Rat
 |.num q=>q |.aR _ _=>0 |.times q t=>cD t * q |.plus a b=>cD a + cD b |.minus a b=>cD a + cD b * (-1)
def bu:Tm->Nat
 |.num q=>bs q + 1 |.aR _ _=>4 |.times q t=>bu t + bs q |.plus a b=>bu a + bu b + 5 |.minus a b=>bu a + bu b + 5
def Tm.ok:Tm->Prop
 |.num _=>True |.aR w n=>(fY.lookup w).isSome=true /\ n.length <= 100 |.times _ t=>t.ok |.plus a b=>a.ok /\ b.ok |.minus a b=>a.ok /\ b.ok
structure d8(m:List (Str×Rat))(f:Str->Rat)(n l:Nat):Prop where
 nd:Nd m
 v:∀u,gt m u=if f u=0 then none else some (f u)
 b:∀x q,gt m x=some q->bs q<=n
 l:m.length<=l
theorem d8.get{m:List (Str×Rat)}{f:Str->Rat}{n l:Nat}(h:d8 m f n l)(u:Str):(gt m u).getD 0=f u:=by
 rw[h.v];split
 .rename_i e;rw[e];rfl
 .rfl
theorem d8.sc{m:List (Str×Rat)}{f:Str->Rat}{n l:Nat}(h:d8 m f n l)(q:Rat):d8 (nz (sc m q)) (λu=>f u*q) (n+bs q) l:=by
 refine⟨vr (rF h.nd q),λu=>?_,Ej h.nd h.b,le_trans (uZ _) (by rw[u0];exact h.l)⟩;rw[rG (rF h.nd q),zT,h.v];by_cases e:f u=0
 .rw[if_pos e,if_pos (by rw[e,Rat.zero_mul])];rfl
 .rw[if_neg e];rfl
theorem yH(b a:List (Str×Rat)):(eZ a b).length<=a.length+b.length:=by
 induction b generalizing a with
 |nil=>exact le_refl _
 |cons p r c=>
  have:=c (pt a p.1 ((gt a p.1).getD 0+p.2));have l:(pt a p.1 ((gt a p.1).getD 0+p.2)).length<=a.length+1:=uJ a p.1 _;show (eZ (pt a p.1 ((gt a p.1).getD 0+p.2)) r).length<=_;rw[length_cons];omega
theorem d8.add{m j:List (Str×Rat)}{f g:Str->Rat}{n n' l o:Nat}(h:d8 m f n l)(h':d8 j g n' o):d8 (nz (eZ m j)) (λu=>f u+g u) (n+n'+1) (l+o):=by
 have d:∀u,gt (nz (eZ m j)) u=if f u+g u=0 then none else some (f u+g u):=λu=>by
  rw[rG (uC _ _ h.nd),GX _ _ h'.nd,h'.v,h.v];by_cases e:g u=0
  .rw[if_pos e,e,Rat.add_zero];dsimp only;by_cases a:f u=0
   .rw[if_pos a]
   .rw[if_neg a];dsimp only;rw[if_neg a]
  .rw[if_neg e];dsimp only;by_cases a:f u=0
   .rw[if_pos a,a];rfl
   .rw[if_neg a];rfl
 refine⟨vr (uC _ _ h.nd),d,λx q e=>?_,le_trans (uZ _) (le_trans (yH _ _) (Nat.add_le_add h.l h'.l))⟩;rw[d] at e;split at e
 .cases e
 .cases e;have i:bs (f x)<=n\/f x=0:=by
   by_cases a:f x=0
   .exact .inr a
   .exact .inl (h.b x _ (by rw[h.v,if_neg a]))
  have c:bs (g x)<=n'\/g x=0:=by
   by_cases a:g x=0
   .exact .inr a
   .exact .inl (h'.b x _ (by rw[h'.v,if_neg a]))
  rcases i with i |i
  .rcases c with c |c
   .exact le_trans (mx _ _) ⋯
   .rw[c,Rat.add_zero];omega
  .rw[i,Rat.zero_add];rcases c with c |c
   .omega
   .rw[c,G1];omega
section
variable{P:Program}{w:World}{K:ak}{mg:bD}{base:aP}
@[inline] def Jw:String:="Ko Sd WS T1 Qg Pa Yi TQ P6 R6 WM R7 P7 WN P8 P9 R8 TR WO WQ WR Qa Qb R9 Qc Sa Qd zv zu zt z8 z9 Kj Aa Ab lj vi TU Qe Sb Qf TX bJ de fv gV dt eL Xm Kc TF Xn Xo WI WJ WK Qx RE WL TH z'T z'U z'V S6 RF S7 S8 z'W S9 V3 Ta RG Tb RH V4 Tc RI Td T6 Qq RJ z'Y Qr Rj V5 Qs O9 V6 T7 T8 V7 V8 V9 T9 Rm Ua Rn Ro Wa Wb Wc Qt Rp yp Rq Qu ue EY yq Rr mi Ub EZ yr E1 Rt E2 Ru Rv E3 E4 Rw Uc E5 E6 HG Rx E7 Ry Ud J1 Rz WZ W0 Xd Xe Xf lJ getD_some Ue Wd We Wf Wg Wh WX WY Xl RC RD Ux Xi RB J5 Uv U8 U7 IG IJ II Uw Xj Xk y7 length_map Xg Ur Us Ut Uu yt RA Xh Uh Ui y6 Uj Uk Ul Um W3 w_lt J2 W4 W5 J3 W7 W8 W9 Xa Uo Up Xb Xc Uq tV tW WT WU List.getElem?_cons_succ List.getElem?_cons_zero List.set_cons_zero List.set_cons_succ cQ bV cp dV ef Bool.and_self if_true if_false true_and cons_append nil_append List.replicate Nat.reduceSub length_cons length_nil Nat.reduceAdd Nat.reduceLeDiff decide_true decide_false Bool.not_true Bool.not_false false_eq_true Qv Qw Ug V1 V2 Oa uB ym fO yn IK z6 rP z7 rQ zA S5 Gg Gh Gi reduceCtorEq"
local macro_rules |`(tactic|rfl')=>do
 let a:=((Jw++" z'X").splitOn " ").toArray.map λx=>Lean.mkIdent x.toName
 `(tactic|simp only[$[$a:ident],*])
local macro_rules |`(tactic|walk_at "q")=>do
 let a:=(Jw.splitOn " ").toArray.map λx=>Lean.mkIdent x.toName
 `(tactic|simp only[$[$a:ident],*])
theorem N2(T:Tx w K mg){z:Bool}:aw P w K mg base aV 1 T.sD.a T.sD.d ["one","other"] (aX K z 0 2 NL):=by
 refine bH T.sD.F NX rfl ∎ λaM A outer s H E n hu l=>?_
 refine⟨_,(aH (zW (bX iA iy (qv 1) ay) (aH (bM 2 (dk (qv 0) (qv 1)))
  (aH (bM 0 (qv 1))
  (aK (bM 1 (qv 2))))))
  (aK (bf (qv 0)))),?_⟩
 rintro o i _ ⟨_,a,b,rfl,ha,g,q⟩;refine⟨λm j=>∃x y z,j=[.int x,.int y,z]/\0<=x/\0<=y/\gd x y=gd a b/\m=y.toNat,⟨_,a,b,.aF,rfl,ha,g,rfl,rfl⟩,?_⟩;rintro m j ⟨x,y,z,rfl,f,h,e,rfl⟩;rfl';by_cases c:y=0
 .subst c;rfl';rw[<- e,GU x f] at q;exact q _
 .rw[if_pos (by simp[c])];refine⟨⋯,?_⟩;refine⟨(x % y).toNat,?_,_,_,_,rfl,h,emod_nonneg _ c,?_,rfl⟩
  .have:=emod_lt_of_pos x (show 0<y by omega);have:=emod_nonneg x c;omega
  .rw[HQ f ⋯];exact e
theorem uK(T:Tx w K mg){z:Bool}:aw P w K mg base aV 2 T.lF.a T.lF.d ["top","bottom"] (aX K z 0 2 CV):=by
 refine bH T.lF.F Yr rfl ∎ λaM A outer s H E i hu g=>?_
 refine⟨_,(aH (b8 (bX dE dF (qv 1) ay) (aK ml) b4)
  (aH (bM 2 (qc T.sD (N2 T) (aj (e4 qS qY T.qr (aj (qv 0) aE)) (aj (e4 qS qY T.qr (aj (qv 1) aE)) aE))))
  (aH (b8 (bX o3 oE (qv 1) ay) (aK (bM 2 (vu (qv 2)))) b4)
  (aK (bf (dJ (aj (eI (qv 0) (qv 2)) (aj (eI (qv 1) (qv 2)) aE)))))))),?_⟩
 rintro l f _ ⟨_,a,b,rfl,c,e,q⟩;rfl';rw[if_neg (by simp[c])];refine⟨rfl,_,_,rfl,by split<;>omega,by split<;>omega,λj=>?_⟩;rw[X7];rw[oR,<- FU c,<- FV c] at q;unfold dv at q;by_cases h:b<0
 .rw[if_pos h] at q;rw[if_pos (decide_eq_true h)];rfl';exact⟨Gj c e,Gj c e,q _⟩
 .rw[if_neg h] at q;rw[if_neg (by simp[h])];rfl';exact⟨uF c e,uF c e,q _⟩
theorem zc(T:Tx w K mg){z:Bool}:aw P w K mg base aV 3 T.nB.a T.nB.d ["one","other"] (aX K z 0 2 (nS (·+·))):=by
 refine bH T.nB.F Ys rfl ∎ λaM A outer s H E g hu f=>?_
 refine⟨_,(aK (bf (qc T.lF (uK T) (aj (cb (ea (ba (qv 0) ay) (ba (qv 1) ay)) (ea (ba (qv 1) ay) (ba (qv 0) ay))) (aj (ea (ba (qv 0) ay) (ba (qv 1) ay)) aE))))),?_⟩;rintro h e _ ⟨_,a,b,rfl,c,q⟩;rfl';refine⟨f7 (fj a) (dP b) ⋯,f7 (fj b) (dP a) ⋯,f7 (dP a) (dP b) ⋯,rfl,_,_,rfl,og a b,qZ a b c,λj=>?_⟩;rw[<- ET];exact⟨fO _,q _⟩
theorem yI(T:Tx w K mg){z:Bool}:aw P w K mg base aV 3 T.nC.a T.nC.d ["one","other"] (aX K z 0 2 (nS (· - ·))):=by
 refine bH T.nC.F Ws rfl ∎ λaM A outer s H E g hu f=>?_
 refine⟨_,(aK (bf (qc T.lF (uK T) (aj (rL (ea (ba (qv 0) ay) (ba (qv 1) ay)) (ea (ba (qv 1) ay) (ba (qv 0) ay))) (aj (ea (ba (qv 0) ay) (ba (qv 1) ay)) aE))))),?_⟩;rintro h e _ ⟨_,a,b,rfl,c,q⟩;rfl';refine⟨f7 (fj a) (dP b) ⋯,f7 (fj b) (dP a) ⋯,f7 (dP a) (dP b) ⋯,rfl,_,_,rfl,og a b,qZ a b c,λj=>?_⟩;rw[<- EU];exact⟨fO _,q _⟩
theorem yJ(T:Tx w K mg){z:Bool}:aw P w K mg base aV 3 T.nD.a T.nD.d ["one","other"] (aX K z 0 2 (nS (·*·))):=by
 refine bH T.nD.F Wu rfl ∎ λaM A outer s H E g hu f=>?_
 refine⟨_,(aK (bf (qc T.lF (uK T) (aj (ea (ba (qv 0) ay) (ba (qv 1) ay)) (aj (ea (ba (qv 0) ay) (ba (qv 1) ay)) aE))))),?_⟩;rintro h e _ ⟨_,a,b,rfl,c,q⟩;rfl';refine⟨f7 (fj a) (fj b) ⋯,f7 (dP a) (dP b) ⋯,rfl,_,_,rfl,og a b,qZ a b c,λj=>?_⟩;rw[<- qT];exact⟨fO _,q _⟩
theorem F8(T:Tx w K mg){z:Bool}:aw P w K mg base aV 1 T.pD.a T.pD.d ["one","other"] (aX K z 0 2 Cr):=by
 refine bH T.pD.F Wv rfl ∎ λaM A outer s H E g hu f=>?_
 refine⟨_,(aK (bf (mJ o3 oE (ea (ba (qv 0) ay) (ba (qv 1) ay)) (ea (ba (qv 1) ay) (ba (qv 0) ay))))),?_⟩;rintro h c _ ⟨_,a,b,rfl,e,q⟩;rfl';refine⟨f7 (fj a) (dP b) ⋯,f7 (fj b) (dP a) ⋯,?_⟩;rw[decide_eq_decide.mpr (y1 a b)];exact q _
theorem Yw(c:Nat):kL (Str.ofString "0123456789") ⟨#[c]⟩=(decide (48<=c)&&decide (c<=57)):=by
 unfold kL;rw[StrLaws.found_one];have e:(Str.ofString "0123456789").cps.toList=[48,49,50,51,52,53,54,55,56,57]:=by walk_at "k"
 rw[e,Bool.eq_iff_iff];simp;omega
theorem JE:Str.ofString ""=tx []:=by walk_at "k"
theorem U6:Str.ofString "0"=tx [48]:=by walk_at "k"
theorem IH:Str.ofString "-"=tx [45]:=by walk_at "k"
theorem AH:Str.ofString "/"=tx [47]:=by walk_at "k"
theorem Il(k:Bool)(x:Str)(Q:aq):qJ k [.str x] Q=(x.length<=1000000/\Q (.int x.length)):=rfl
theorem rC(L M:List Nat):decide (tx L=tx M)=decide (L=M):=decide_eq_decide.mpr JC
theorem JF{c:Nat}{r:List Nat}{Q:aq}(h:(c::r).length<=1000000)(q:Q (.str (tx [c]))):iq (.str (tx (c::r))) (.int 0) Q:=by
 refine⟨by rw[cg];exact h,?_⟩;rw[fg,tV];exact q
def Nb:bQ:=cA 2 λa Q=>∃(L:List Nat)(n:Nat),a=[.str (tx L),.int n]/\L.length<=100000/\Q (.bl (whole n L))
theorem x9(T:Tx w K mg){z:Bool}:aw P w K mg base aV 1 T.nE.a T.nE.d ["word","most"] (aX K z 0 2 Nb):=by
 refine bH T.nE.F QF rfl ∎ λaM A outer s H E C hu y=>?_
 refine⟨_,(aH (b8 (QW.t (iB (bX dE dF (qv 0) bc) (iB (bX j9 j7 (e4 iR iO T.ig (aj (qv 0) aE)) (qv 1)) (iL (jm (gx (e4 (yu rfl) zo T.wg (aj (vd ["sign"] [none] (AQ (qv 0)) (vH 0) (λ_ _ _ _ _=>(mJ Fx GL (qv 0) (vI T.Mb)))) aE)))))))) (aK (bf rR)) b4)
  (aK (bf (KP (mJ dE dF (qv 0) bc) (IX (mJ iA iy (ba (qv 0) ay) bc)))))),?_⟩
 rintro D o _ ⟨_,L,n,rfl,x,q⟩;rfl';rw[JE,U6,rC,rC];split
 .rename_i c;have c:L=[]:=of_decide_eq_true c;subst c;exact q _
 rename_i f;have f:¬ L=[]:=λz=>f (decide_eq_true z)
 rw[Il];refine⟨by rw[cg];omega,?_⟩;rfl';rw[cg];have m:(¬ L.length<=n\/dig L=false\/(¬ L=[48]/\L.head?=some 48))->∀j,o (.bl false) j:=λh=>by
  have e:whole n L=false:=by
   cases e:whole n L with
   |false=>rfl
   |true=>
    let⟨_,a,b,d⟩:=jY e;rcases h with h |h |h
    .exact absurd a h
    .rw[h] at b;cases b
    .rcases d with d |d
     .exact absurd d h.1
     .exact absurd h.2 d
  rw[e] at q;exact q
 have p:L.length<=n->dig L=true->(L=[48]\/¬ L.head?=some 48)->∀j,o (.bl true) j:=λa b d=>by
  have e:whole n L=true:=by unfold whole;rw[decide_eq_false f,decide_eq_true a,b];simpa using d
  rw[e] at q;exact q
 split
 .rename_i c;have c:=of_decide_eq_true c;exact m (.inl ⋯) _
 rename_i g;have g:L.length<=n:=by
  have:¬ ((n:Int)<L.length):=λz=>g (decide_eq_true z)
  omega
 rw[fg];refine cN.map L _ (λc=>decide (48<=c)&&decide (c<=57)) ⋯ (λc B R v=>?_) ?_
 .rfl';rw[Yw];exact v
 refine⟨_,rfl,?_⟩;rfl';have u:(L.map λc=>decide (48<=c)&&decide (c<=57)).all id=dig L:=by unfold dig;rw[all_map];rfl
 rw[u];split
 .rename_i c;exact m (.inr (.inl (by simpa using c))) _
 rename_i i;have i:dig L=true:=by simpa using i
 split
 .rename_i c;exact p g i (.inl (of_decide_eq_true c)) _
 rename_i l;have l:¬ L=[48]:=λz=>l (decide_eq_true z)
 cases L with
 |nil=>exact absurd rfl f
 |cons c r=>
  refine JF ⋯ ?_;rfl';rw[rC];by_cases h:c=48
  .subst h;rw[decide_eq_true rfl];exact m (.inr (.inr ⟨l,rfl⟩)) _
  .rw[decide_eq_false (λz=>h (by simpa using z))];exact p g i (.inr λz=>h (by simpa using z)) _
theorem Im{q:Rat}{k:Nat}(h:bs q<=k):bi q.num<=k:=le_trans (fj q) h
def CK:bQ:=cA 1 λa Q=>∃q:Rat,a=[ao.t q]/\bs q<=400/\Q (.str (tx (bZ q)))
theorem Yx{n k:Nat}(h:n<2 ^ k):(c9 n).length<=k+1:=by
 unfold c9;rw[length_map];refine (Nat.length_toDigits_le_iff ∎ (Nat.succ_pos k)).mpr (lt_of_lt_of_le h ?_);exact le_trans (Nat.pow_le_pow_left ∎ k) (Nat.pow_le_pow_right ∎ (le_succ k))
theorem kU{a:Int}{k:Nat}(h:bi a<=k):(dec a).length<=k+2:=by
 have:=Yx (k4 h);unfold dec;split
 .rw[length_cons];omega
 .omega
theorem mD{a:Int}{k:Nat}(h:bi a<=k)(b:k<=1900):a.natAbs.log2<1920:=by
 unfold bi bl at h;split at h
 .rename_i z;rw[z];decide
 .omega
theorem oU(i:Int)(Q:aq)(h:i.natAbs.log2<1920)(q:Q (.str (tx (dec i)))):xD [.int i] Q:=⟨h,by rw[Hk];exact q⟩
theorem Hm(q:Rat):dec (q.den:Int)=c9 q.den:=by unfold dec;rw[if_neg ⋯,natAbs_natCast]
theorem xV(T:Tx w K mg){z:Bool}:aw P w K mg base aV 1 T.nF.a T.nF.d ["number"] (aX K z 0 1 CK):=by
 refine bH T.nF.F OQ rfl ∎ λaM A outer s H E l hu i=>?_
 refine⟨_,(aH (bM 1 (gy n8 oj T.lH (aj (ba (qv 0) ay) aE)))
  (aH (b8 (bX dE dF (ba (qv 0) ay) ay) (aK (bf (qv 1))) b4)
  (aH (bM 2 (gy n8 oj T.lH (aj (ba (qv 0) ay) aE)))
  (aK (bf (iu (eR (qv 1) (f9 (eR (qv 2) ir))))))))),?_⟩
 rintro o h _ ⟨_,q,rfl,g,k⟩;rfl';have b:=Im g;have f:=le_trans (dP q) g;have m:=kU b;have n:=kU f;refine oU _ _ (mD b ∎) ?_;rfl';unfold bZ at k;split
 .rename_i c;have c:(q.den:Int)=1:=of_decide_eq_true c;rw[if_pos ⋯] at k;exact k _
 .rename_i c;have c:¬ (q.den:Int)=1:=λz=>c (decide_eq_true z)
  rw[if_neg ⋯,<- Hm] at k;refine oU _ _ (mD f ∎) ?_;rfl';have e:Str.empty=tx []:=rfl;rw[e,AH,kY,kY,kY,cg,cg,cg,cg,cg];have k:∀j,h (.str (tx ([]++dec q.num++[47]++dec q.den))) j:=by rw[show []++dec q.num++[47]++dec (q.den:Int)=dec q.num++47::dec (q.den:Int) by simp];exact k
  simp only[length_append,length_nil,length_cons];exact⟨⋯,⋯,⋯,⋯,⋯,⋯,k _⟩
def M8(C:ae):dN:=λc Q q=>c.length=1/\∃L:List Nat,c=[.str (tx L)]/\L.length<=20000/\(∀a b,fo L=some (a,b)->∀j,Q (.aA [.int a,.int b]) j)/\(fo L=none->q (.ref C))
theorem yj(c:Nat):∀L:List Nat,(bS c L).length<=L.length+1
 |[]=>le_refl _
 |x::r=>by
  have b:=yj c r;have e:bS c (x::r)=if x=c then []::bS c r else match bS c r with |[]=>[[x]] |p::a=>(x::p)::a:=rfl
  rw[e];split
  .rw[length_cons,length_cons];omega
  .cases hs:bS c r with
   |nil=>show 1<=_;omega
   |cons p a=>rw[hs] at b;show a.length+1<=_;rw[length_cons] at b ⊢;omega
theorem ub{c:Nat}:∀{L p:List Nat},p∈bS c L->p.length<=L.length
 |[],p,m=>by rw[mem_singleton.mp m];exact le_refl _
 |x::r,p,m=>by
  have e:bS c (x::r)=if x=c then []::bS c r else match bS c r with |[]=>[[x]] |p::b=>(x::p)::b:=rfl
  rw[e] at m;have a:=λ{p:List Nat}(m:p∈bS c r)=>ub m
  split at m
  .rcases mem_cons.mp m with m |m
   .rw[m];exact zero_le _
   .exact Nat.le_succ_of_le (a m)
  .cases hs:bS c r with
   |nil=>exact absurd hs (qP _ _)
   |cons q b=>
    rw[hs] at m a;rcases mem_cons.mp m with m |m
    .rw[m];exact Nat.succ_le_succ (a mem_cons_self)
    .exact Nat.le_succ_of_le (a (mem_cons_of_mem _ m))
theorem Lu(L:List Nat):o8 (tx L) (tx [45])=decide (L.head?=some 45):=by
 unfold o8;cases L with
 |nil=>rfl
 |cons c r=>
  have h:=StrLaws.subAt_one (tx (c::r)) 45 0;rw[fg] at h;have h:0+(tx [45]).length<=(tx (c::r)).length/\Builtin.Str.subAt (tx (c::r)) (tx [45]) 0=true↔(c::r)[0]?=some 45:=h;rw[Bool.eq_iff_iff,and_eq_true,decide_eq_true_eq,decide_eq_true_eq,h];rfl
theorem Lv{L:List Nat}:Txt.slice (tx L) (some 1) none=tx L.tail:=by
 show StrLaws.sliceText (tx L) (some 1) none=_;cases L with
 |nil=>rfl
 |cons c r=>
  rw[StrLaws.sliceText_from ⟨∎,by rw[fg,length_cons];omega⟩];rw[fg];show tx (List.take ((((c::r).length:Nat):Int) - 1).toNat (List.drop 1 (c::r)))=tx r;rw[List.drop_one,List.tail_cons,List.take_of_length_le (by rw[length_cons];omega)]
theorem Jk{L:List Nat}(h:whole 6 L=true):vl L<1000000:=by
 have e:=uR h;have l:=(jY h).2.1;rw[<- e] at l;unfold c9 at l;rw[length_map] at l;exact (Nat.length_toDigits_le_iff ∎ ∎).mp l
theorem Jl{b:List Nat}(h:whole 6 b=true):intText? (tx b)=some (vl b:Int):=by
 let⟨a,d,c,_⟩:=jY h;exact intText_digits (q9 c) a (by rw[cg];omega)
theorem Kr{L p:List Nat}(f:p.head?=some 45↔L.head?=some 45)(h:whole 6 (strip p)=true):intText? (tx p)=some (sgn L (vl (strip p))):=by
 let⟨a,d,b,_⟩:=jY h;unfold sgn;by_cases c:L.head?=some 45
 .rw[if_pos c];have e:=F7 (f.mpr c);exact intText_neg (cs:=strip p) e (q9 b) a (by rw[cg,e,length_cons];omega)
 .rw[if_neg c];have e:=yG (λz=>c (f.mp z));rw[e] at h ⊢;exact Jl h
theorem U0(p:List Nat):(strip p).length<=p.length:=by
 unfold strip;split
 .rw[List.length_tail];omega
 .exact le_refl _
theorem SN(p:List Nat):p.length<=(strip p).length+1:=by
 unfold strip;split
 .rw[List.length_tail];omega
 .omega
theorem Fm(ps:List (List Nat)):((ps.map tx).map λx:Str=>whole 6 x.cps.toList).all id=ps.all (whole 6):=by
 rw[map_map,all_map];rfl
theorem Lw(x t:Tr)(xs:ah)(Q:aG):qz (x::xs) (.int 0) t Q=Q (t::xs):=by
 have e:hW (x::xs).length 0=some 0:=by unfold hW;rw[if_pos ∎,if_pos (by rw[length_cons];omega)];rfl
 unfold qz;dsimp only;rw[e];rfl
theorem Ks(x:Str)(l h:bE)(Q:aq):si (.str x) l h Q=(x.length<=1000000/\Q (.str (Txt.slice x l h))):=rfl
theorem uL{q:Rat}(h:bs q<=400){Q:Tr->aG}(k:∀j,Q (.str (tx (bZ q))) j):CK [ao.t q] Q:=⟨rfl,q,rfl,h,k⟩
theorem Hn{a b:Int}(c:b≠0)(h:bi b<=7990){Q:Tr->aG}(k:∀j,Q (ao.t (Rat.divInt a b)) j):CV [.int a,.int b] Q:=⟨rfl,a,b,rfl,c,h,k⟩
theorem OZ(T:Tx w K mg){z:Bool}:aw P w K mg base (b9 P w) 3 T.sE.a T.sE.d ["word"] (cu K z 0 1 (M8 T.acW)):=by
 refine gf T.sE.F OP rfl ∎ λaM A outer s H E qx hr hu hN=>?_
 refine⟨_,(aH (bM 1 (zp (qv 0) bc ⟨rfl,rfl,rfl,rfl⟩))
  (aH (mK 2 (gy (Z1 rfl) Vj T.Mr (aj (qv 1) aE)))
  (aH (b8 (gx (Vo (qv 0) bc ⟨rfl,rfl,rfl,rfl⟩)) (aK (z'P (ec 2) ay (AD (ba (qv 1) ay) (o4 ay) Jz))) b4)
  (aH (b8 (QW.t (iB (bX j9 j7 (e4 iR iO T.ig (aj (qv 1) aE)) ay) (iL (jm (gx (e4 (yu rfl) zo T.wg (aj (vd ["piece"] [none] (AE (qv 2)) (vH 0) (λ_ _ _ _ _=>(qc T.nE (x9 T) (aj (qv 0) (aj (rT T.Me) aE))))) aE))))))) (aK (iP rfl rfl rfl rfl rfl rfl T.je PySem.F.excBase_ValueError T.jf bc)) b4)
  (aH (bM 3 (zV (bX dE dF (e4 iR iO T.ig (aj (qv 1) aE)) ay) (gy ot ow T.nM (aj (ba (qv 1) ay) aE)) ay))
  (aH (b8 (bX dE dF (qv 3) ay) (aK (iP rfl rfl rfl rfl rfl rfl T.je PySem.F.excBase_ValueError T.jf bc)) b4)
  (aH (bM 4 (qc T.lF (uK T) (aj (gy ot ow T.nM (aj (ba (qv 1) ay) aE)) (aj (qv 3) aE))))
  (aH (b8 (bX iA iy (qc T.nF (xV T) (aj (qv 4) aE)) (qv 0)) (aK (iP rfl rfl rfl rfl rfl rfl T.je PySem.F.excBase_ValueError T.jf bc)) b4)
  (aK (bf (qv 4))))))))))),?_⟩
 rintro xs Q' _ ⟨_,L,rfl,O,q,l⟩;rfl';rw[AH,IH,Lu,yF,fg];have D:=yj 47 L;cases hs:bS 47 L with
 |nil=>exact absurd hs (qP _ _)
 |cons p e=>
  rw[hs] at D;let⟨f1,o⟩:=oV hs;have pl:=ub (c:=47) (L:=L) (p:=p) (by rw[hs];exact mem_cons_self);have bl:∀b∈e,b.length<=20000:=λb m=>le_trans (ub (c:=47) (L:=L) (by rw[hs];exact mem_cons_of_mem _ m)) O
  have sl:=U0 p;rw[length_map];refine⟨rfl,by rw[cg];omega,⋯,?_⟩;rfl';simp only[map_some];have J:¬ ((2:Int)<((e.length+1:Nat):Int))->e=[]\/∃b,e=[b]:=λh=>by
   cases e with
   |nil=>exact .inl rfl
   |cons b e=>cases e with
    |nil=>exact .inr ⟨b,rfl⟩
    |cons c e=>exact absurd (by simp only[length_cons];omega) h
  have v:∀x∈(strip p::e).map tx,∃M:List Nat,x=tx M/\M.length<=20000:=λx m=>by
   let⟨M,i,rfl⟩:=mem_map.mp m;refine⟨M,rfl,?_⟩;rcases mem_cons.mp i with rfl |i
   .omega
   .exact bl M i
  split
  case' isTrue=>
   rename_i c;have c:=of_decide_eq_true c;rfl';rw[Ks];refine⟨by rw[cg];omega,?_⟩;rw[Lv,show p.tail=strip p by unfold strip;rw[if_pos (o.mpr c)]];rfl';rw[Lw]
  case' isFalse=>
   rename_i c;have c:¬ L.head?=some 45:=λz=>c (decide_eq_true z)
   have B:strip p=p:=yG (λz=>c (o.mp z))
  all_goals
   split
   .rename_i n;exact l (Fj hs (.inl (by have:=of_decide_eq_true n;rw[length_cons];omega)))
   rename_i n;have I:=J (λz=>n (decide_eq_true z));rfl'
  case' isTrue.isFalse=>
   refine cN.map ((strip p::e).map tx) ao.t (λx=>whole 6 x.cps.toList) (by rw[length_map,length_cons];rw[length_cons] at D;omega) (λx u R r=>?_) ?_
  case' isFalse.isFalse=>
   refine cN.map ((p::e).map tx) ao.t (λx=>whole 6 x.cps.toList) (by rw[length_map];omega) (λx u R r=>?_) ?_
  case isTrue.isFalse.refine_1=>
   let⟨M,rfl,i⟩:=v x u;rfl';exact⟨rfl,M,6,rfl,⋯,λj=>r⟩
  case isFalse.isFalse.refine_1=>
   rw[B] at v;let⟨M,rfl,i⟩:=v x u;rfl';exact⟨rfl,M,6,rfl,⋯,λj=>r⟩
  case' isTrue.isFalse.refine_2=>
   refine⟨_,rfl,?_⟩;rw[if_pos rfl,Fm]
  case' isFalse.isFalse.refine_2=>
   refine⟨_,rfl,?_⟩;rw[if_pos rfl,Fm,show (p::e).all (whole 6)=(strip p::e).all (whole 6) by rw[B]]
  all_goals
   rfl';split
   .rename_i g;exact l (Fj hs (.inr (by rw[Bool.not_eq_true'] at g;exact g)))
   rename_i g;have g:(strip p::e).all (whole 6)=true:=by simpa using g
   rw[all_cons,and_eq_true] at g;have hw:=g.1;have Y:=(jY hw).2.1;have U:=SN p;have hv:=Jk hw;have C:=Kr (L:=L) o hw;have y:bi (sgn L (vl (strip p)))<=20:=kO 20 (by rw[oo];omega);rcases I with rfl |⟨b,rfl⟩
   .split
    .rename_i z;exact absurd (of_decide_eq_true z) (show ¬ ((1:Nat):Int)=2 by decide)
    rw[if_neg ∎];refine⟨_,C,by rw[cg];omega,Hn ∎ (by walk_at "k") λj=>?_⟩;let⟨r1,r2⟩:=Ji hs hw;rfl';refine uL (le_trans (yf (k:=20) ∎ y (by walk_at "k")) ∎) λj=>?_
    rfl';rw[rC];split
    .rename_i f;exact l (r2 (by simpa using f))
    .rename_i f;have d:=q _ _ (r1 (by simpa using f));have N:Rat.divInt (sgn L (vl (strip p))) 1=((sgn L (vl (strip p)):Int):Rat):=by rw[<- Rat.num_divInt_den ((sgn L (vl (strip p)):Int):Rat),Rat.num_intCast,Rat.den_intCast];rfl
     rw[N];exact d _
   .have hb:whole 6 b=true:=by simpa using g.2
    have Q:=Jk hb;have G:bi (vl b:Int)<=20:=kO 20 ⋯;have lb:=(jY hb).2.1;split;rotate_left
    .rename_i z;exact absurd (decide_eq_true (show ((2:Nat):Int)=2 by decide)) z
    refine mM _ _ (tx b) (tW _ _ _) ?_;rfl';refine⟨_,Jl hb,by rw[cg];omega,?_⟩;split
    .rename_i f;have f:((vl b:Nat):Int)=0:=of_decide_eq_true f;exact l (UZ hs ⋯)
    rename_i f;have f:¬ ((vl b:Nat):Int)=0:=λz=>f (decide_eq_true z)
    refine⟨_,C,by rw[cg];omega,Hn f ⋯ λj=>?_⟩;let⟨r1,r2⟩:=Jj hs hw hb ⋯;rfl';refine uL (le_trans (yf (k:=20) f y G) ∎) λj=>?_
    rfl';rw[rC];split
    .rename_i c7;exact l (r2 (by simpa using c7))
    .rename_i c7;exact q _ _ (r1 (by simpa using c7)) _
theorem zd{a b:Rat}(h:bs a+bs b<=7990){Q:Tr->aG}(q:∀j,Q (ao.t (a+b)) j):nS (·+·) [ao.t a,ao.t b] Q:=⟨rfl,a,b,rfl,h,q⟩
theorem yK{a b:Rat}(h:bs a+bs b<=7990){Q:Tr->aG}(q:∀j,Q (ao.t (a*b)) j):nS (·*·) [ao.t a,ao.t b] Q:=⟨rfl,a,b,rfl,h,q⟩
theorem Ad(m:List (Str×Rat)):b5 (bp .o m)=true:=II (m:=m)
theorem kW(m:List (Str×Rat))(r:Rat):b5 (.aA [bp .o m,ao.t r])=true:=by
 show (b5 (bp .o m)&&(b5 (ao.t r)&&true))=true;rw[Ad,fO];rfl
theorem vp(m:List (Str×Rat)):bW (.a9 .o (m.map λp=>((Sum.inr p.1:aU),ao.t p.2)))=true:=IJ (f:=.f) (m:=m)
def M9:bQ:=cA 2 λa Q=>∃(m:List (Str×Rat))(r:Rat),a=[bp .f m,ao.t r]/\Nd m/\m.length<=200/\Q (.aA [bp .o (nz m),ao.t r])
theorem uM(T:Tx w K mg):aw P w K mg base aV 1 T.lE.a T.lE.d ["parts","rest"] (aX K true 0 2 M9):=by
 refine bH T.lE.F Yt rfl ∎ λaM A outer s H E l hu g=>?_
 refine⟨_,(aH (mK 2 rq)
  (aH (rr (qv 0) (fZ (n:=2) rfl (cT (cM 3) (cT (cM 4) fS))) (aK (b8 (bX iA iy (ba (qv 4) ay) ay) (aK (mL (ec 2) (qv 3) (qv 4))) b4)))
  (aK (uQ (Yn (Kf 2 (rW (qv 1) rB))))))),?_⟩
 rintro u e _ ⟨_,m,r,rfl,nd,h,q⟩;rfl';refine⟨rfl,dZ.map m (λi j=>∃(a b:Tr),j=[bp .f m,ao.t r,bp .o (ij (m.take i)),a,b]) ⟨.aF,.aF,rfl⟩ ?_ ?_⟩
 .rintro i x y j hx ⟨a,b,rfl⟩;rfl';have p:(ij (m.take i)).length<=200:=le_trans (VD _) (by rw[length_take];omega);by_cases c:y.num=0
  .rw[if_neg (by simp[c])];exact⟨_,_,by rw[Ts hx c]⟩
  .rw[if_pos (by simp[c])];rw[VC nd hx c];exact⟨⋯,_,_,rfl⟩
 .rintro j ⟨a,b,rfl⟩;rw[take_length,Yu];rfl';exact⟨by rw[Ad];rfl,q _⟩
def MY:bQ:=cA 2 λa Q=>∃(m:List (Str×Rat))(r q:Rat)(n:Nat),a=[.aA [bp .f m,ao.t r],ao.t q]/\Nd m/\m.length<=100/\(∀x q,gt m x=some q->bs q<=n)/\bs r<=n/\n+bs q<=7000/\Q (.aA [bp .o (nz (sc m q)),ao.t (r*q)])
theorem Fn(T:Tx w K mg):aw P w K mg base aV 4 T.p9.a T.p9.d ["one","number"] (aX K true 0 2 MY):=by
 refine bH T.p9.F T2 rfl ∎ λaM A outer s H E v hu p=>?_
 refine⟨_,(aH (mK 2 rq)
  (aH (rr (ba (qv 0) ay) (fZ (n:=2) rfl (cT (cM 3) (cT (cM 4) fS))) (aK (mL (ec 2) (qv 3) (qc T.nD (yJ T) (aj (qv 4) (aj (qv 1) aE))))))
  (AF 2 (aK (bf (qc T.lE (uM T) (aj (qv 2) (aj (qc T.nD (yJ T) (aj (ba (qv 0) ay) (aj (qv 1) aE))) aE)))))))),?_⟩
 rintro z h _ ⟨_,m,r,b,n,rfl,nd,u,e,g,hn,q⟩;rfl';refine⟨rfl,dZ.map m (λi j=>∃(x y:Tr),j=[.aA [bp .f m,ao.t r],ao.t b,bp .o (sc (m.take i) b),x,y]) ⟨.aF,.aF,rfl⟩ ?_ ?_⟩
 .rintro i x y j hx ⟨a,c,rfl⟩;have l:=e _ _ (lZ nd (mem_of_getElem? hx));rfl';refine yK ⋯ λj=>?_
  rfl';rw[JD nd hx];exact⟨by rw[u0,length_take];omega,_,_,rfl⟩
 .rintro j ⟨a,c,rfl⟩;rw[take_length];rfl';refine yK ⋯ λj=>?_
  rfl';exact⟨rfl,_,_,rfl,rF nd b,by rw[u0];omega,λj=>⟨kW _ _,q _⟩⟩
def Nc:bQ:=cA 2 λd Q=>∃(m a:List (Str×Rat))(r b:Rat)(n c:Nat),d=[.aA [bp .f m,ao.t r],.aA [bp .f a,ao.t b]]/\Nd m/\Nd a/\m.length+a.length<=100/\(∀x q,gt m x=some q->bs q<=n)/\(∀x q,gt a x=some q->bs q<=c)/\bs r+bs b<=7000/\1<=n/\n+c<=7000/\Q (.aA [bp .o (nz (eZ m a)),ao.t (r+b)])
theorem F9(T:Tx w K mg):aw P w K mg base aV 4 T.pE.a T.pE.d ["one","other"] (aX K true 0 2 Nc):=by
 refine bH T.pE.F Ww rfl ∎ λaM A outer s H E I hu D=>?_
 refine⟨_,(aH (mK 2 (gy ES Gf T.Bb (aj (ba (qv 0) ay) aE)))
  (aH (rr (ba (qv 1) ay) (fZ (n:=2) rfl (cT (cM 3) (cT (cM 4) fS))) (aK (mL (ec 2) (qv 3) (qc T.nB (zc T) (aj (z'M (qv 2) (qv 3) (j5 [0,1] T.acl T.kx)) (aj (qv 4) aE))))))
  (AF 2 (aK (bf (qc T.lE (uM T) (aj (qv 2) (aj (qc T.nB (zc T) (aj (ba (qv 0) ay) (aj (ba (qv 1) ay) aE))) aE)))))))),?_⟩
 rintro L z _ ⟨_,m,b,r,v,n,J,rfl,nd,e,G,p,g,u,l,hn,q⟩;rfl';refine⟨vp m,dZ.map b (λi j=>∃(x y:Tr),j=[.aA [bp .f m,ao.t r],.aA [bp .f b,ao.t v],bp .o (eZ m (b.take i)),x,y]) ⟨.aF,.aF,rfl⟩ ?_ ?_⟩
 .rintro i x y j hx ⟨a,c,rfl⟩;have B:=g _ _ (lZ e (mem_of_getElem? hx));have C:bs ((b3 (eZ m (b.take i)) x).getD 0)<=n:=by rw[HS,Pc e hx];exact Yv p l
  have h:=yH (b.take i) m;rw[length_take] at h;rfl';refine zd ⋯ λj=>?_
  rfl';exact⟨⋯,_,_,by rw[Tn hx];rfl⟩
 .rintro j ⟨a,c,rfl⟩;rw[take_length];have h:=yH b m;rfl';refine zd ⋯ λj=>?_
  rfl';exact⟨rfl,_,_,rfl,uC _ _ nd,⋯,λj=>⟨kW _ _,q _⟩⟩
def MP:bQ:=cA 2 λd Q=>∃(m a:List (Str×Rat))(r c:Rat)(n b:Nat),d=[.aA [bp .f m,ao.t r],.aA [bp .f a,ao.t c]]/\Nd m/\Nd a/\m.length+a.length<=100/\(∀x q,gt m x=some q->bs q<=n)/\(∀x q,gt a x=some q->bs q<=b)/\bs r<=n/\bs c<=b/\1<=n/\n+b<=6000/\Q (.aA [bp .o (nz (eZ m (nz (sc a (-1))))),ao.t (r+c*(-1))])
theorem EO(T:Tx w K mg):aw P w K mg base aV 5 T.p6.a T.p6.d ["one","other"] (aX K true 0 2 MP):=by
 refine bH T.p6.F SH rfl ∎ λaM A outer s H E D hu B=>?_
 refine⟨_,(aK (bf (qc T.pE (F9 T) (aj (qv 0) (aj (qc T.p9 (Fn T) (aj (qv 1) (aj (j5 [-1,1] T.Mj T.Ml) aE))) aE))))),?_⟩;rintro G z _ ⟨_,m,g,r,h,n,i,rfl,nd,b,C,u,c,v,f,p,hn,q⟩;have o:Tr.aA [.int (-1),.int 1]=ao.t (-1:Rat):=rfl;have l:=iK h (-1);rw[oS] at l;rfl';simp only[o];refine⟨rfl,g,h,-1,i,rfl,b,⋯,c,f,by rw[oS];omega,λj=>?_⟩;rfl';have y:=uZ (sc g (-1));rw[u0] at y;refine⟨rfl,m,nz (sc g (-1)),r,h*(-1),n,i+1,rfl,nd,vr (rF b _),⋯,u,λx q e=>by have:=Ej b c x q e;rw[oS] at this;exact this,⋯,p,⋯,λj=>⟨kW _ _,q _⟩⟩
theorem GD(x:Str):∀ns:ag,o5 (.str x) (ns.map Tr.str)=decide (x∈ns)
 |[]=>rfl
 |n::ns=>by
  have a:=GD x ns;unfold o5 vj at a ⊢;rw[map_cons,map_cons,any_cons,a];by_cases h:x=n
  .simp[h,nY,gB]
  .simp[h,nY,gB,Ne.symm h]
theorem cV:∀ns:ag,(ns.map Tr.str).all lL=true
 |[]=>rfl
 |n::ns=>by rw[map_cons,all_cons,cV ns];rfl
theorem kR{neg:Bool}{x:Str}{ns:ag}{Q:aq}(q:Q (.bl (if neg=true then !decide (x∈ns) else decide (x∈ns)))):sh neg (.str x) (.aA (ns.map Tr.str)) Q:=⟨rfl,cV ns,by rw[GD];exact q⟩
theorem jQ(a:Str):Str.empty++a=a:=by
 cases a with |mk c=>show Str.mk (#[]++c)=_;rw[Array.empty_append]
theorem bF(a b:Str):(a++b).length=a.length+b.length:=by
 show (a.cps++b.cps).size=_;rw[Array.size_append];rfl
def iU(x:Str):Bool:=decide (x∈([("top":Str),"height","bottom","centre","drop"]:ag))
def qL(x:Str):Str:=if iU x=true then "down" else "across"
def Nk:bQ:=cA 1 λa Q=>∃x:Str,a=[.str x]/\Q (.str (qL x))
theorem U1(T:Tx w K mg){z:Bool}:aw P w K mg base aV 1 T.sS.a T.sS.d ["word"] (aX K z 0 1 Nk):=by
 refine bH T.sS.F T5 rfl ∎ λaM A outer s H E e hu c=>?_
 refine⟨_,(aK (bf (zV (bX vG vc (qv 0) (mO ["top","height","bottom","centre","drop"] rfl T.A2 T.A3)) bc bc))),?_⟩;rintro f b _ ⟨_,x,rfl,q⟩;rfl';refine kR (ns:=["top","height","bottom","centre","drop"]) ?_;rw[show qL x=(if decide (x∈([("top":Str),"height","bottom","centre","drop"]:ag))=true then ("down":Str) else "across") from rfl] at q;rfl';by_cases h:x∈([("top":Str),"height","bottom","centre","drop"]:ag)
 .rw[if_pos (decide_eq_true h)] at q ⊢;exact q _
 .rw[if_neg (by rw[decide_eq_true_eq];exact h)] at q ⊢;exact q _
def CW(C:ae)(f:Str):bQ:=λa Q=>a.length=2/\∃v:Tr,a=[Tr.ins .o C [],v]/\Cl v=true/\v≠.aF/\∀j:ah,j[0]?=some (Tr.ins .o C [(f,v)])->Q .aZ j
def nT(C:ae)(f g:Str):bQ:=λa Q=>a.length=3/\∃v u:Tr,a=[Tr.ins .o C [],v,u]/\Cl v=true/\v≠.aF/\Cl u=true/\u≠.aF/\∀j:ah,j[0]?=some (Tr.ins .o C [(f,v),(g,u)])->Q .aZ j
theorem jR{t:Tr}{Q:aq}(h:t≠.aF)(q:Q t):pV (some t) Q:=by
 cases t with
 |aF=>exact absurd rfl h
 |_=>exact q
theorem k7{f g:Str}{v u:Tr}(h:¬ f=g):fX g u [(f,v)]=[(f,v),(g,u)]:=by
 show (if f=g then _ else _)=_;rw[if_neg h];rfl
theorem Oe(T:Tx w K mg){z:Bool}:aw P w K mg base aV 1 T.sM.a T.sM.d ["self","number"] (aX K z 1 2 (CW T.aaa "number")):=by
 refine bH T.sM.F Oc rfl ∎ λaM A outer s H E h hu g=>?_
 refine⟨_,(aK (f6 (ec 0) (qv 1))),?_⟩;rintro i f _ ⟨_,v,rfl,b,e,q⟩;have c:=d4 v b;rfl';rw[c.l];exact jR e ⟨c.t,⟨T.lG,T.v9⟩,∎,q _ rfl⟩
theorem Oq(T:Tx w K mg){z:Bool}:aw P w K mg base aV 1 T.sN.a T.sN.d ["self","word","name"] (aX K z 1 3 (nT T.aae "word" "name")):=by
 refine bH T.sN.F Oh rfl ∎ λaM A outer s H E j hu i=>?_
 refine⟨_,(aH (f6 (ec 0) (qv 1))
  (aK (f6 (ec 0) (qv 2)))),?_⟩
 rintro m h _ ⟨_,v,u,rfl,b,e,f,g,q⟩;have c:=d4 v b;have d:=d4 u f;rfl';rw[c.l,d.l];exact jR e ⟨c.t,⟨T.gJ,T.sF⟩,∎,jR g ⟨d.t,⟨T.gJ,T.nJ⟩,∎,q _ (by rw[k7 (by walk_at "k")];rfl)⟩⟩
theorem OA(T:Tx w K mg){z:Bool}:aw P w K mg base aV 1 T.pW.a T.pW.d ["self","number","inner"] (aX K z 1 3 (nT T.aaj "number" "inner")):=by
 refine bH T.pW.F Oy rfl ∎ λaM A outer s H E j hu i=>?_
 refine⟨_,(aH (f6 (ec 0) (qv 1))
  (aK (f6 (ec 0) (qv 2)))),?_⟩
 rintro m h _ ⟨_,v,u,rfl,b,e,f,g,q⟩;have c:=d4 v b;have d:=d4 u f;rfl';rw[c.l,d.l];exact jR e ⟨c.t,⟨T.gK,T.wa⟩,∎,jR g ⟨d.t,⟨T.gK,T.sG⟩,∎,q _ (by rw[k7 (by walk_at "k")];rfl)⟩⟩
theorem Ot(T:Tx w K mg){z:Bool}:aw P w K mg base aV 1 T.pX.a T.pX.d ["self","one","other"] (aX K z 1 3 (nT T.aao "one" "other")):=by
 refine bH T.pX.F Oi rfl ∎ λaM A outer s H E j hu i=>?_
 refine⟨_,(aH (f6 (ec 0) (qv 1))
  (aK (f6 (ec 0) (qv 2)))),?_⟩
 rintro m h _ ⟨_,v,u,rfl,b,e,f,g,q⟩;have c:=d4 v b;have d:=d4 u f;rfl';rw[c.l,d.l];exact jR e ⟨c.t,⟨T.gn,T.sH⟩,∎,jR g ⟨d.t,⟨T.gn,T.sI⟩,∎,q _ (by rw[k7 (by walk_at "k")];rfl)⟩⟩
theorem OB(T:Tx w K mg){z:Bool}:aw P w K mg base aV 1 T.pY.a T.pY.d ["self","one","other"] (aX K z 1 3 (nT T.aat "one" "other")):=by
 refine bH T.pY.F Oz rfl ∎ λaM A outer s H E j hu i=>?_
 refine⟨_,(aH (f6 (ec 0) (qv 1))
  (aK (f6 (ec 0) (qv 2)))),?_⟩
 rintro m h _ ⟨_,v,u,rfl,b,e,f,g,q⟩;have c:=d4 v b;have d:=d4 u f;rfl';rw[c.l,d.l];exact jR e ⟨c.t,⟨T.gp,T.sJ⟩,∎,jR g ⟨d.t,⟨T.gp,T.sL⟩,∎,q _ (by rw[k7 (by walk_at "k")];rfl)⟩⟩
def bg(T:Tx w K mg):Tm->Tr
 |.num q=>.ins .f T.aaa [("number",ao.t q)]
 |.aR a n=>.ins .f T.aae [("word",.str a),("name",.str n)]
 |.times q t=>.ins .f T.aaj [("number",ao.t q),("inner",bg T t)]
 |.plus a b=>.ins .f T.aao [("one",bg T a),("other",bg T b)]
 |.minus a b=>.ins .f T.aat [("one",bg T a),("other",bg T b)]
theorem gw(T:Tx w K mg):∀t:Tm,Cl (bg T t)=true
 |.num q=>by show (Cl (ao.t q)&&true)=true;rw[ao.c];rfl
 |.aR a n=>rfl
 |.times q t=>by show (Cl (ao.t q)&&(Cl (bg T t)&&true))=true;rw[ao.c,gw T t];rfl
 |.plus a b=>by show (Cl (bg T a)&&(Cl (bg T b)&&true))=true;rw[gw T a,gw T b];rfl
 |.minus a b=>by show (Cl (bg T a)&&(Cl (bg T b)&&true))=true;rw[gw T a,gw T b];rfl
theorem rD(T:Tx w K mg)(t:Tm):bg T t≠.aF:=by cases t<;>exact λz=>by cases z
theorem dS(T:Tx w K mg)(t:Tm):aJ (bg T t)=bg T t:=(d4 _ (gw T t)).l
theorem gZ(T:Tx w K mg)(t:Tm):Pu.aB (bg T t)=bg T t:=(d4 _ (gw T t)).f
theorem dB(T:Tx w K mg)(t:Tm):dn (bg T t)=bg T t:=(d4 _ (gw T t)).d
theorem kd(T:Tx w K mg)(t:Tm):b5 (bg T t)=true:=(d4 _ (gw T t)).o
theorem mV(T:Tx w K mg)(t:Tm):bW (bg T t)=true:=(d4 _ (gw T t)).t
theorem ke(T:Tx w K mg)(t:Tm)(Q:aq):pV (some (bg T t)) Q=Q (bg T t):=by cases t<;>rfl
def DT(T:Tx w K mg)(C:ae)(g:Nat):Prop:=(C=T.aaa/\g=0)\/(C=T.aae/\g=1)\/(C=T.aaj/\g=2)\/(C=T.aao/\g=3)\/(C=T.aat/\g=4)
theorem Qy{m f:Str}{v:Tr}(h:(m == f)=false):[(f,v)].lookup m=none:=by simp[List.lookup,h]
theorem vA{m f g:Str}{v u:Tr}(h:(m == f)=false)(h':(m == g)=false):[(f,v),(g,u)].lookup m=none:=by simp[List.lookup,h,h']
theorem uS(T:Tx w K mg){m:Str}{t:Tm}{Q:Nat->Prop}(a:(m == ("number":Str))=false)(d:(m == ("word":Str))=false)(e:(m == ("name":Str))=false)(f:(m == ("inner":Str))=false)(b:(m == ("one":Str))=false)(c:(m == ("other":Str))=false)(q:Q t.tag):eC (DT T) m (bg T t) Q:=by
 cases t with
 |num _=>exact⟨0,.inl ⟨rfl,rfl⟩,Qy a,q⟩
 |aR _ _=>exact⟨1,.inr (.inl ⟨rfl,rfl⟩),vA d e,q⟩
 |times _ _=>exact⟨2,.inr (.inr (.inl ⟨rfl,rfl⟩)),vA a f,q⟩
 |plus _ _=>exact⟨3,.inr (.inr (.inr (.inl ⟨rfl,rfl⟩))),vA b c,q⟩
 |minus _ _=>exact⟨4,.inr (.inr (.inr (.inr ⟨rfl,rfl⟩))),vA b c,q⟩
theorem hQ{f g:Str}{c:ae}{k:Fl}{x:Tr}{r:bK}{Q:aq}(a:du K c)(b:aD K c f)(q:Q x):gP K f (.ins k c ((f,x)::r)) Q:=by
 refine⟨⟨a,b⟩,?_⟩;rw[List.lookup_cons_self];exact q
theorem gT{f g:Str}{c:ae}{k:Fl}{x y:Tr}{Q:aq}(a:du K c)(b:aD K c f)(h:(f == g)=false)(q:Q x):gP K f (.ins k c [(g,y),(f,x)]) Q:=by
 refine⟨⟨a,b⟩,?_⟩;rw[lookup_cons,h,List.lookup_cons_self];exact q
theorem AI{t:Tm}(h:t.tag=0):∃q,t=.num q:=by cases t<;>first |exact⟨_,rfl⟩ |cases h
theorem AJ{t:Tm}(h:t.tag=1):∃a b,t=.aR a b:=by cases t<;>first |exact⟨_,_,rfl⟩ |cases h
theorem oX{t:Tm}(h:t.tag=2):∃a b,t=.times a b:=by cases t<;>first |exact⟨_,_,rfl⟩ |cases h
theorem oY{t:Tm}(h:t.tag=3):∃a b,t=.plus a b:=by cases t<;>first |exact⟨_,_,rfl⟩ |cases h
theorem oZ{t:Tm}(h:t.tag=4):∃a b,t=.minus a b:=by cases t<;>first |exact⟨_,_,rfl⟩ |cases h
def gL(T:Tx w K mg)(n g:Nat):bQ:=cA 1 λa Q=>∃t:Tm,a=[bg T t]/\t.tag=g/\t.dep<=n/\(bC t).length<=1000/\Q (.av .o ((bC t).map ao.t))
theorem n6(T:Tx w K mg){n:Nat}{t:Tm}(hd:t.dep<=n)(a:(bC t).length<=1000){Q:Tr->aG}(q:∀j,Q (.av .o ((bC t).map ao.t)) j):eC (DT T) "edges" (bg T t) λg=>gL T n g [bg T t] Q:=uS T (by walk_at "k") (by walk_at "k") (by walk_at "k") (by walk_at "k") (by walk_at "k") (by walk_at "k") ⟨rfl,t,rfl,rfl,hd,a,q⟩
theorem uw{j:Type}[ao j](xs:List j):dV ↥xs=true:=z7 xs
theorem PL(T:Tx w K mg)(n:Nat):aw P w K mg base aV 1 T.pO.a T.pO.d ["self"] (aX K true 0 1 (gL T n 0)):=by
 refine bH T.pO.F PF rfl ∎ λaM A outer s H E h hu e=>?_
 refine⟨_,(aK (bf (gc aE))),?_⟩;rintro i c _ ⟨_,t,rfl,b,hd,g,q⟩;let⟨a,rfl⟩:=AI b;rw[show bg T (.num a)=.ins .f T.aaa [("number",ao.t a)] from rfl];rfl';exact q _
theorem PM(T:Tx w K mg)(n:Nat):aw P w K mg base aV 1 T.pR.a T.pR.d ["self"] (aX K true 0 1 (gL T n 1)):=by
 refine bH T.pR.F PH rfl ∎ λaM A outer s H E j hu h=>?_
 refine⟨_,(aK (bf (gc (aj (dJ (aj (cm K (qv 0)) (aj (cm K (qv 0)) aE))) aE)))),?_⟩;rintro l e _ ⟨_,t,rfl,c,hd,i,q⟩;let⟨a,b,rfl⟩:=AJ c;rw[show bg T (.aR a b)=.ins .f T.aae [("word",.str a),("name",.str b)] from rfl];rfl';refine hQ (g:="name") T.gJ T.sF ?_;rfl';refine gT T.gJ T.nJ (by walk_at "k") ?_;rfl';exact q _
theorem O0(T:Tx w K mg)(m:Nat)(h:∀C g,DT T C g->aO P w K mg base aV (m+1) "edges" C ["self"] (aX K true 0 1 (gL T m g))):aw P w K mg base aV (m+2) T.i5.a T.i5.d ["self"] (aX K true 0 1 (gL T (m+1) 2)):=by
 refine bH T.i5.F Em rfl ∎ λaM A outer s H E n hu l=>?_
 refine⟨_,(aK (bf (c8 (h) (cm K (qv 0))))),?_⟩;rintro o i _ ⟨_,t,rfl,e,hd,c,q⟩;let⟨b,t,rfl⟩:=oX e;rw[show bg T (.times b t)=.ins .f T.aaj [("number",ao.t b),("inner",bg T t)] from rfl];rfl';refine gT T.gK T.sG (by walk_at "k") ?_;simp only[dS,dB];exact n6 T (Nat.le_of_succ_le_succ hd) c λj=>⟨uw (bC t),q _⟩
theorem PN(T:Tx w K mg)(m:Nat)(e:∀C g,DT T C g->aO P w K mg base aV (m+1) "edges" C ["self"] (aX K true 0 1 (gL T m g))):aw P w K mg base aV (m+2) T.i8.a T.i8.d ["self"] (aX K true 0 1 (gL T (m+1) 3)):=by
 refine bH T.i8.F Et rfl ∎ λaM A outer s H E n hu l=>?_
 refine⟨_,(aK (bf (cb (c8 (e) (cm K (qv 0))) (c8 (e) (cm K (qv 0)))))),?_⟩;rintro o i _ ⟨_,t,rfl,h,hd,c,q⟩;let⟨a,b,rfl⟩:=oY h;have hd:max a.dep b.dep+1<=m+1:=hd;have c:(bC a++bC b).length<=1000:=c;rw[length_append] at c;rw[show bg T (.plus a b)=.ins .f T.aao [("one",bg T a),("other",bg T b)] from rfl];rfl';refine hQ (g:="other") T.gn T.sH ?_;simp only[dS,dB];refine n6 T ⋯ ⋯ λj=>?_
 try rfl'
 refine gT T.gn T.sI (by walk_at "k") ?_;simp only[dS,dB];refine n6 T ⋯ ⋯ λj=>?_
 rfl';rw[<- map_append];exact⟨⋯,uw _,q _⟩
theorem O1(T:Tx w K mg)(m:Nat)(e:∀C g,DT T C g->aO P w K mg base aV (m+1) "edges" C ["self"] (aX K true 0 1 (gL T m g))):aw P w K mg base aV (m+2) T.jb.a T.jb.d ["self"] (aX K true 0 1 (gL T (m+1) 4)):=by
 refine bH T.jb.F Eo rfl ∎ λaM A outer s H E n hu l=>?_
 refine⟨_,(aK (bf (cb (c8 (e) (cm K (qv 0))) (c8 (e) (cm K (qv 0)))))),?_⟩;rintro o i _ ⟨_,t,rfl,h,hd,c,q⟩;let⟨a,b,rfl⟩:=oZ h;have hd:max a.dep b.dep+1<=m+1:=hd;have c:(bC a++bC b).length<=1000:=c;rw[length_append] at c;rw[show bg T (.minus a b)=.ins .f T.aat [("one",bg T a),("other",bg T b)] from rfl];rfl';refine hQ (g:="other") T.gp T.sJ ?_;simp only[dS,dB];refine n6 T ⋯ ⋯ λj=>?_
 try rfl'
 refine gT T.gp T.sL (by walk_at "k") ?_;simp only[dS,dB];refine n6 T ⋯ ⋯ λj=>?_
 rfl';rw[<- map_append];exact⟨⋯,uw _,q _⟩
theorem O3(T:Tx w K mg):aw P w K mg base aV 1 T.i5.a T.i5.d ["self"] (aX K true 0 1 (gL T 0 2)):=by
 refine bH T.i5.F Em rfl ∎ λaM A outer s H E g hu f=>⟨_,aK ml,?_⟩
 rintro h e _ ⟨_,t,rfl,c,hd,_⟩;let⟨a,b,rfl⟩:=oX c;exact absurd hd (not_succ_le_zero _)
theorem PQ(T:Tx w K mg):aw P w K mg base aV 1 T.i8.a T.i8.d ["self"] (aX K true 0 1 (gL T 0 3)):=by
 refine bH T.i8.F Et rfl ∎ λaM A outer s H E g hu f=>⟨_,aK ml,?_⟩
 rintro h e _ ⟨_,t,rfl,c,hd,_⟩;let⟨a,b,rfl⟩:=oY c;exact absurd hd (not_succ_le_zero _)
theorem O4(T:Tx w K mg):aw P w K mg base aV 1 T.jb.a T.jb.d ["self"] (aX K true 0 1 (gL T 0 4)):=by
 refine bH T.jb.F Eo rfl ∎ λaM A outer s H E g hu f=>⟨_,aK ml,?_⟩
 rintro h e _ ⟨_,t,rfl,c,hd,_⟩;let⟨a,b,rfl⟩:=oZ c;exact absurd hd (not_succ_le_zero _)
theorem Wz(T:Tx w K mg):∀n,∀C g,DT T C g->aO P w K mg base aV (n+1) "edges" C ["self"] (aX K true 0 1 (gL T n g)):=λn=>by
 have a:∀n C g,(C=T.aaa/\g=0)\/(C=T.aae/\g=1)->aO P w K mg base aV 1 "edges" C ["self"] (aX K true 0 1 (gL T n g)):=λn C g h=>by
  rcases h with⟨rfl,rfl⟩ |⟨rfl,rfl⟩
  .exact⟨T.lG,_,_,T.pO.t,(PL T n).mono ∎,T.pO.b⟩
  .exact⟨T.gJ,_,_,T.pR.t,(PM T n).mono ∎,T.pR.b⟩
 induction n with
 |zero=>
  intro C g h;rcases h with h |h |⟨rfl,rfl⟩ |⟨rfl,rfl⟩ |⟨rfl,rfl⟩
  .exact a 0 C g (.inl h)
  .exact a 0 C g (.inr h)
  .exact⟨T.gK,_,_,T.i5.t,(O3 T).mono ∎,T.i5.b⟩
  .exact⟨T.gn,_,_,T.i8.t,(PQ T).mono ∎,T.i8.b⟩
  .exact⟨T.gp,_,_,T.jb.t,(O4 T).mono ∎,T.jb.b⟩
 |succ m c=>
  intro C g h;rcases h with h |h |⟨rfl,rfl⟩ |⟨rfl,rfl⟩ |⟨rfl,rfl⟩
  .exact (a (m+1) C g (.inl h)).mono ⋯
  .exact (a (m+1) C g (.inr h)).mono ⋯
  .exact⟨T.gK,_,_,T.i5.t,(O0 T m c).mono ⋯,T.i5.b⟩
  .exact⟨T.gn,_,_,T.i8.t,(PN T m c).mono ⋯,T.i8.b⟩
  .exact⟨T.gp,_,_,T.jb.t,(O1 T m c).mono ⋯,T.jb.b⟩
noncomputable def eV(t:Tm):ag:=m7 (dA ((bC t).map λe=>qL e.1))
def wF(T:Tx w K mg)(n:Nat):bQ:=cA 1 λa Q=>∃t:Tm,a=[bg T t]/\t.dep<=n/\(bC t).length<60/\Q (.av .o ((eV t).map ao.t))
theorem qN(T:Tx w K mg)(n:Nat):aw P w K mg base aV (n+3) T.g8.a T.g8.d ["self"] (aX K true 0 1 (wF T n)):=by
 refine bH T.g8.F Ql rfl ∎ λaM A outer s H E i hu g=>?_
 refine⟨_,(aK (bf (KZ rfl rfl T.Ms rfl T.Bc (vd ["edge"] [none] (AE (c8 (Wz T n) (qv 0))) (vH 0) (λ_ _ _ _ _=>(qc T.sS (U1 T) (aj (ba (qv 0) ay) aE))))))),?_⟩;rintro l f _ ⟨_,t,rfl,hd,c,q⟩;simp only[cons_append,nil_append];rfl';simp only[dS,dB,ke];refine n6 T hd ⋯ λj=>?_
 rfl';refine cN.map (bC t) ao.t (λe=>qL e.1) ⋯ (λe h R b=>?_) ?_
 .rw[show (ao.t e:Tr)=.aA [.str e.1,.str e.2] from rfl];rfl';exact⟨rfl,e.1,rfl,λj=>b⟩
 .exact⟨.o,_,rfl,by rw[length_map];exact c,uw _,q _⟩
theorem Ho(T:Tx w K mg)(n:Nat):∀C g,DT T C g->aO P w K mg base aV (n+3) "ways" C ["self"] (aX K true 0 1 (wF T n)):=λC g h=>by
 rcases h with⟨rfl,_⟩ |⟨rfl,_⟩ |⟨rfl,_⟩ |⟨rfl,_⟩ |⟨rfl,_⟩
 .exact⟨T.lG,_,_,T.g8.t,qN T n,T.g8.b⟩
 .exact⟨T.gJ,_,_,T.L4,qN T n,T.g8.b⟩
 .exact⟨T.gK,_,_,T.L5,qN T n,T.g8.b⟩
 .exact⟨T.gn,_,_,T.L6,qN T n,T.g8.b⟩
 .exact⟨T.gp,_,_,T.L7,qN T n,T.g8.b⟩
theorem ux{X:Cx}{k:Md}{lo:Nat}{a:List Stmt}:QB X k lo a wK:=⟨λ_ _ _=>False,λ_ _ _ _ _ _ h=>h.elim,λ_ _ _ _ _ _ _ _ _ _ _ h _=>h⟩
mutual
noncomputable def txt:Tm->Str
 |.num q=>tx (bZ q)
 |.aR a n=>a ++ " of " ++ n
 |.times q t=>tx (bZ q) ++ " times " ++ brk t
 |.plus a b=>txt a ++ " and " ++ brk b
 |.minus a b=>txt a ++ " less " ++ brk b
noncomputable def brk:Tm->Str
 |.plus a b=> "( " ++ (txt a ++ " and " ++ brk b) ++ " )"
 |.minus a b=> "( " ++ (txt a ++ " less " ++ brk b) ++ " )"
 |.num q=>tx (bZ q)
 |.aR a n=>a ++ " of " ++ n
 |.times q t=>tx (bZ q) ++ " times " ++ brk t
end
theorem Yy(t:Tm):(txt t).length<=(brk t).length:=by
 cases t with
 |plus a b=>show (txt a ++ " and " ++ brk b).length <= ("( " ++ (txt a ++ " and " ++ brk b) ++ " )").length;simp only[bF];omega
 |minus a b=>show (txt a ++ " less " ++ brk b).length <= ("( " ++ (txt a ++ " less " ++ brk b) ++ " )").length;simp only[bF];omega
 |_=>exact le_refl _
def Tm.sm:Tm->Prop
 |.num q=>bs q <= 400 |.aR _ _=>True |.times q t=>bs q <= 400 /\ t.sm |.plus a b=>a.sm /\ b.sm |.minus a b=>a.sm /\ b.sm
def gq(T:Tx w K mg)(n g:Nat):bQ:=cA 1 λa Q=>∃t:Tm,a=[bg T t]/\t.tag=g/\t.dep<=n/\t.sm/\(txt t).length<=100000/\Q (.str (txt t))
theorem qQ(T:Tx w K mg){n:Nat}{t:Tm}(hd:t.dep<=n)(hs:t.sm)(a:(txt t).length<=100000){Q:Tr->aG}(q:∀j,Q (.str (txt t)) j):eC (DT T) "text" (bg T t) λg=>gq T n g [bg T t] Q:=uS T (by walk_at "k") (by walk_at "k") (by walk_at "k") (by walk_at "k") (by walk_at "k") (by walk_at "k") ⟨rfl,t,rfl,rfl,hd,hs,a,q⟩
def CY(T:Tx w K mg)(n:Nat):bQ:=cA 1 λa Q=>∃t:Tm,a=[bg T t]/\t.dep<=n/\t.sm/\(brk t).length<=100000/\Q (.str (brk t))
theorem O5(T:Tx w K mg)(n:Nat):aw P w K mg base aV 8 T.pP.a T.pP.d ["self"] (aX K true 0 1 (gq T n 0)):=by
 refine bH T.pP.F OU rfl ∎ λaM A outer s H E l hu h=>?_
 refine⟨_,(aK (bf (qc T.nF (xV T) (aj (cm K (qv 0)) aE)))),?_⟩;rintro m e _ ⟨_,t,rfl,c,hd,b,i,q⟩;let⟨a,rfl⟩:=AI c;rw[show bg T (.num a)=.ins .f T.aaa [("number",ao.t a)] from rfl];rfl';refine hQ (g:="name") T.lG T.v9 ?_;rfl';exact uL b λj=>⟨rfl,q _⟩
theorem Q2(T:Tx w K mg)(n:Nat):aw P w K mg base aV 8 T.pS.a T.pS.d ["self"] (aX K true 0 1 (gq T n 1)):=by
 refine bH T.pS.F Qm rfl ∎ λaM A outer s H E j hu i=>?_
 refine⟨_,(aH (bM 1 (cm K (qv 0)))
  (aH (bM 2 (cm K (qv 0)))
  (aK (bf (iu (eR (qv 1) (f9 (eR (qv 2) ir)))))))),?_⟩
 rintro m h _ ⟨_,t,rfl,e,hd,l,c,q⟩;let⟨a,b,rfl⟩:=AJ e;have c:(a++" of "++b).length<=100000:=c;rw[bF,bF] at c;rw[show bg T (.aR a b)=.ins .f T.aae [("word",.str a),("name",.str b)] from rfl];rfl';refine hQ (g:="name") T.gJ T.sF ?_;rfl';refine gT T.gJ T.nJ (by walk_at "k") ?_;rfl';simp only[jQ,bF];exact⟨⋯,⋯,⋯,⋯,⋯,⋯,q _⟩
theorem xY(T:Tx w K mg){l:Nat}(m:Nat)(h:∀C g,DT T C g->aO P w K mg base aV l "text" C ["self"] (aX K true 0 1 (gq T m g))):aw P w K mg base aV (l+1) T.nK.a T.nK.d ["term"] (aX K true 0 1 (CY T m)):=by
 refine bH T.nK.F Qh rfl ∎ λaM A outer s H E o hu n=>?_
 refine⟨_,(aH (bM 1 (c8 (h) (qv 0)))
  (aH (b8 (gx (Kl K rfl rfl T.qq rfl (aj (qv 0) (aj (dJ (aj (JB T.AZ) (aj (JB T.A0) aE))) aE)))) (aK (bf (iu (f9 (eR (qv 1) (f9 ir)))))) b4)
  (aK (bf (qv 1))))),?_⟩
 rintro p i _ ⟨_,t,rfl,hd,f,c,q⟩;have bl:=Yy t;simp only[cons_append,nil_append];rfl';simp only[dS,dB,ke,gZ];refine qQ T hd f ⋯ λj=>?_
 try rfl'
 clear bl;cases t with
 |num a=>
  refine⟨[T.aao,T.aat],false,rfl,T.MB,T.MG,?_⟩;dsimp only[eF];rw[if_neg ∎];exact q _
 |aR a b=>
  refine⟨[T.aao,T.aat],false,rfl,T.MC,T.MH,?_⟩;dsimp only[eF];rw[if_neg ∎];exact q _
 |times a b=>
  refine⟨[T.aao,T.aat],false,rfl,T.MD,T.adr,?_⟩;dsimp only[eF];rw[if_neg ∎];exact q _
 |plus a b=>
  refine⟨[T.aao,T.aat],true,rfl,T.ME,T.MI,?_⟩;dsimp only[eF];rw[if_pos rfl];have e:brk (.plus a b)="( "++txt (.plus a b)++" )":=rfl;rw[e] at q;rw[e,bF,bF] at c;simp only[jQ,bF];exact⟨⋯,⋯,⋯,⋯,⋯,q _⟩
 |minus a b=>
  refine⟨[T.aao,T.aat],true,rfl,T.MF,T.MJ,?_⟩;dsimp only[eF];rw[if_pos rfl];have e:brk (.minus a b)="( "++txt (.minus a b)++" )":=rfl;rw[e] at q;rw[e,bF,bF] at c;simp only[jQ,bF];exact⟨⋯,⋯,⋯,⋯,⋯,q _⟩
theorem yL(T:Tx w K mg){n:Nat}{t:Tm}(hd:t.dep<=n)(hs:t.sm)(a:(brk t).length<=100000){Q:Tr->aG}(q:∀j,Q (.str (brk t)) j):CY T n [bg T t] Q:=⟨rfl,t,rfl,hd,hs,a,q⟩
theorem PU(T:Tx w K mg){l:Nat}(h:8<=l)(m:Nat)(n:∀C g,DT T C g->aO P w K mg base aV l "text" C ["self"] (aX K true 0 1 (gq T m g))):aw P w K mg base aV (l+2) T.i6.a T.i6.d ["self"] (aX K true 0 1 (gq T (m+1) 2)):=by
 refine bH T.i6.F Es rfl ∎ λaM A outer s H E r hu p=>?_
 refine⟨_,(aH (bM 1 (qc T.nF (xV T) (aj (cm K (qv 0)) aE)))
  (aH (bM 2 (qc T.nK (xY T m n) (aj (cm K (qv 0)) aE)))
  (aK (bf (iu (eR (qv 1) (f9 (eR (qv 2) ir)))))))),?_⟩
 rintro u o _ ⟨_,t,rfl,i,hd,e,c,q⟩;let⟨a,b,rfl⟩:=oX i;have c:(tx (bZ a)++" times "++brk b).length<=100000:=c;rw[bF,bF] at c;rw[show bg T (.times a b)=.ins .f T.aaj [("number",ao.t a),("inner",bg T b)] from rfl];rfl';refine hQ (g:="inner") T.gK T.wa ?_
 try rfl'
 refine uL e.1 λj=>?_
 try rfl'
 refine gT T.gK T.sG (by walk_at "k") ?_
 try simp only[dS,dB,gZ]
 refine yL T (Nat.le_of_succ_le_succ hd) e.2 ⋯ λj=>?_
 try rfl'
 simp only[jQ,bF];exact⟨⋯,⋯,⋯,⋯,⋯,⋯,q _⟩
theorem Q3(T:Tx w K mg){l:Nat}(m:Nat)(h:∀C g,DT T C g->aO P w K mg base aV l "text" C ["self"] (aX K true 0 1 (gq T m g))):aw P w K mg base aV (l+2) T.i9.a T.i9.d ["self"] (aX K true 0 1 (gq T (m+1) 3)):=by
 refine bH T.i9.F EB rfl ∎ λaM A outer s H E r hu p=>?_
 refine⟨_,(aH (bM 1 (c8 (h) (cm K (qv 0))))
  (aH (bM 2 (qc T.nK (xY T m h) (aj (cm K (qv 0)) aE)))
  (aK (bf (iu (eR (qv 1) (f9 (eR (qv 2) ir)))))))),?_⟩
 rintro u o _ ⟨_,t,rfl,i,hd,e,c,q⟩;let⟨a,b,rfl⟩:=oY i;have hd:max a.dep b.dep+1<=m+1:=hd;have c:(txt a++" and "++brk b).length<=100000:=c;rw[bF,bF] at c;rw[show bg T (.plus a b)=.ins .f T.aao [("one",bg T a),("other",bg T b)] from rfl];rfl';refine hQ (g:="other") T.gn T.sH ?_
 try simp only[dS,dB,gZ]
 refine qQ T ⋯ e.1 ⋯ λj=>?_
 try rfl'
 refine gT T.gn T.sI (by walk_at "k") ?_
 try simp only[dS,dB,gZ]
 refine yL (n:=m) T ⋯ e.2 ⋯ λj=>?_
 try rfl'
 simp only[jQ,bF];exact⟨⋯,⋯,⋯,⋯,⋯,⋯,q _⟩
theorem PV(T:Tx w K mg){l:Nat}(m:Nat)(h:∀C g,DT T C g->aO P w K mg base aV l "text" C ["self"] (aX K true 0 1 (gq T m g))):aw P w K mg base aV (l+2) T.jc.a T.jc.d ["self"] (aX K true 0 1 (gq T (m+1) 4)):=by
 refine bH T.jc.F Ew rfl ∎ λaM A outer s H E r hu p=>?_
 refine⟨_,(aH (bM 1 (c8 (h) (cm K (qv 0))))
  (aH (bM 2 (qc T.nK (xY T m h) (aj (cm K (qv 0)) aE)))
  (aK (bf (iu (eR (qv 1) (f9 (eR (qv 2) ir)))))))),?_⟩
 rintro u o _ ⟨_,t,rfl,i,hd,e,c,q⟩;let⟨a,b,rfl⟩:=oZ i;have hd:max a.dep b.dep+1<=m+1:=hd;have c:(txt a++" less "++brk b).length<=100000:=c;rw[bF,bF] at c;rw[show bg T (.minus a b)=.ins .f T.aat [("one",bg T a),("other",bg T b)] from rfl];rfl';refine hQ (g:="other") T.gp T.sJ ?_
 try simp only[dS,dB,gZ]
 refine qQ T ⋯ e.1 ⋯ λj=>?_
 try rfl'
 refine gT T.gp T.sL (by walk_at "k") ?_
 try simp only[dS,dB,gZ]
 refine yL (n:=m) T ⋯ e.2 ⋯ λj=>?_
 try rfl'
 simp only[jQ,bF];exact⟨⋯,⋯,⋯,⋯,⋯,⋯,q _⟩
theorem PX(T:Tx w K mg):aw P w K mg base aV 1 T.i6.a T.i6.d ["self"] (aX K true 0 1 (gq T 0 2)):=by
 refine bH T.i6.F Es rfl ∎ λaM A outer s H E g hu f=>⟨_,ux,?_⟩
 rintro h e _ ⟨_,t,rfl,c,hd,_⟩;let⟨a,b,rfl⟩:=oX c;exact absurd hd (not_succ_le_zero _)
theorem Q4(T:Tx w K mg):aw P w K mg base aV 1 T.i9.a T.i9.d ["self"] (aX K true 0 1 (gq T 0 3)):=by
 refine bH T.i9.F EB rfl ∎ λaM A outer s H E g hu f=>⟨_,ux,?_⟩
 rintro h e _ ⟨_,t,rfl,c,hd,_⟩;let⟨a,b,rfl⟩:=oY c;exact absurd hd (not_succ_le_zero _)
theorem PY(T:Tx w K mg):aw P w K mg base aV 1 T.jc.a T.jc.d ["self"] (aX K true 0 1 (gq T 0 4)):=by
 refine bH T.jc.F Ew rfl ∎ λaM A outer s H E g hu f=>⟨_,ux,?_⟩
 rintro h e _ ⟨_,t,rfl,c,hd,_⟩;let⟨a,b,rfl⟩:=oZ c;exact absurd hd (not_succ_le_zero _)
theorem Hq(T:Tx w K mg):∀n,∀C g,DT T C g->aO P w K mg base aV (2*n+8) "text" C ["self"] (aX K true 0 1 (gq T n g)):=λn=>by
 have a:∀n C g,(C=T.aaa/\g=0)\/(C=T.aae/\g=1)->aO P w K mg base aV 8 "text" C ["self"] (aX K true 0 1 (gq T n g)):=λn C g h=>by
  rcases h with⟨rfl,rfl⟩ |⟨rfl,rfl⟩
  .exact⟨T.lG,_,_,T.pP.t,O5 T n,T.pP.b⟩
  .exact⟨T.gJ,_,_,T.pS.t,Q2 T n,T.pS.b⟩
 induction n with
 |zero=>
  intro C g h;rcases h with h |h |⟨rfl,rfl⟩ |⟨rfl,rfl⟩ |⟨rfl,rfl⟩
  .exact a 0 C g (.inl h)
  .exact a 0 C g (.inr h)
  .exact⟨T.gK,_,_,T.i6.t,(PX T).mono ∎,T.i6.b⟩
  .exact⟨T.gn,_,_,T.i9.t,(Q4 T).mono ∎,T.i9.b⟩
  .exact⟨T.gp,_,_,T.jc.t,(PY T).mono ∎,T.jc.b⟩
 |succ m c=>
  intro C g h;rcases h with h |h |⟨rfl,rfl⟩ |⟨rfl,rfl⟩ |⟨rfl,rfl⟩
  .exact (a (m+1) C g (.inl h)).mono ⋯
  .exact (a (m+1) C g (.inr h)).mono ⋯
  .exact⟨T.gK,_,_,T.i6.t,(PU T ⋯ m c).mono ⋯,T.i6.b⟩
  .exact⟨T.gn,_,_,T.i9.t,(Q3 T m c).mono ⋯,T.i9.b⟩
  .exact⟨T.gp,_,_,T.jc.t,(PV T m c).mono ⋯,T.jc.b⟩
theorem Ae{f g h:Str}{v u x:Tr}(a:¬ f=h)(b:¬ g=h):fX h x [(f,v),(g,u)]=[(f,v),(g,u),(h,x)]:=by
 unfold fX;rw[if_neg a,k7 b]
theorem Kt{f g h k:Str}{v u x y:Tr}(a:¬ f=k)(b:¬ g=k)(c:¬ h=k):fX k y [(f,v),(g,u),(h,x)]=[(f,v),(g,u),(h,x),(k,y)]:=by
 unfold fX;rw[if_neg a,Ae b c]
theorem Hr(t:Tm):(eV t).length<=(bC t).length:=by
 unfold eV;rw[Xq];exact le_trans (uq _) (by rw[length_map];exact le_refl _)
theorem Fo(T:Tx w K mg){n:Nat}{t:Tm}(hd:t.dep<=n)(a:(bC t).length<60){Q:Tr->aG}(q:∀j,Q (.av .o ((eV t).map ao.t)) j):eC (DT T) "ways" (bg T t) λg=>wF T n [bg T t] Q:=uS T (by walk_at "k") (by walk_at "k") (by walk_at "k") (by walk_at "k") (by walk_at "k") (by walk_at "k") ⟨rfl,t,rfl,hd,a,q⟩
theorem w_fld(T:Tx w K mg){C:ae}(h:C=T.aay\/C=T.aaF\/C=T.aaM):du K C/\aD K C "near"/\aD K C "far"/\aD K C "rank"/\aD K C "weight":=by
 rcases h with rfl |rfl |rfl
 .exact⟨T.nG,T.LH,T.LI,T.LJ,T.LK⟩
 .exact⟨T.nH,T.LM,T.LN,T.LO,T.LP⟩
 .exact⟨T.nI,T.LR,T.LS,T.LU,T.LV⟩
def CZ(T:Tx w K mg):dN:=λc Q q=>c.length=5/\∃(C:ae)(a b:Tm)(r v:Int),c=[.ins .o C [],bg T a,bg T b,.int r,.int v]/\(C=T.aay\/C=T.aaF\/C=T.aaM)/\a.dep<=64/\b.dep<=64/\(bC a).length+(bC b).length<60/\
 (1<(dA (eV a++eV b)).length->q (.ref T.acZ))/\((dA (eV a++eV b)).length<=1->∀j:ah,j[0]?=some (Tr.ins .o C [("near",bg T a),("far",bg T b),("rank",.int r),("weight",.int v)])->Q .aZ j)
theorem xU(T:Tx w K mg):aw P w K mg base (b9 P w) 70 T.jC.a T.jC.d ["self","near","far","rank","weight"] (cu K true 1 5 (CZ T)):=by
 refine gf T.jC.F Oj rfl ∎ λaM A outer s H E q B hu x=>?_
 refine⟨_,(aH (b8 (bX j9 j7 (Ls rfl rfl T.ig rfl T.Bc (cb (c8 (Ho T 64) (qv 1)) (c8 (Ho T 64) (qv 2)))) ay) (aK (iP rfl rfl rfl rfl rfl rfl T.L1 PySem.F.excBase_ValueError T.L3 bc)) b4)
  (aH (f6 (ec 0) (qv 1))
  (aH (f6 (ec 0) (qv 2))
  (aH (f6 (ec 0) (qv 3))
  (aK (f6 (ec 0) (qv 4))))))),?_⟩
 rintro I u _ ⟨_,C,a,b,r,v,rfl,h,ha,i,y,f,g⟩;simp only[cons_append,nil_append];rfl'
 try simp only[dS,dB,ke,gZ,mV]
 refine Fo T ha ⋯ λj=>?_
 try rfl'
 try simp only[dS,dB,ke,gZ,mV]
 refine Fo T i ⋯ λj=>?_
 try rfl'
 have D:=Hr a;have G:=Hr b;let⟨e,l,m,n,p⟩:=w_fld T h;rw[<- map_append];refine⟨⋯,.o,_,rfl,by rw[length_append];omega,?_⟩;walk_at "q";split
 .rename_i c;exact f (by have:=of_decide_eq_true c;omega)
 rename_i c;have c:¬ (1:Int)<_:=λz=>c (decide_eq_true z)
 simp only[k7 (show ¬ ("near":Str)="far" by walk_at "k"),Ae (show ¬ ("near":Str)="rank" by walk_at "k") (show ¬ ("far":Str)="rank" by walk_at "k"),Kt (show ¬ ("near":Str)="weight" by walk_at "k") (show ¬ ("far":Str)="weight" by walk_at "k") (show ¬ ("rank":Str)="weight" by walk_at "k")];exact⟨⟨e,l⟩,∎,⟨e,m⟩,∎,⟨e,n⟩,by simp only[length_cons,length_nil];decide,⟨e,p⟩,by simp only[length_cons,length_nil];decide,g ⋯ _ rfl⟩
def DW(T:Tx w K mg)(C:ae)(g:Nat):Prop:=(C=T.aay/\g=0)\/(C=T.aaF/\g=1)\/(C=T.aaM/\g=2)
structure Wi where
 k:Nat
 a:Tm
 b:Tm
 r:Int
 v:Int
def sg(T:Tx w K mg)(k:Nat):ae:=if k=0 then T.aay else if k=1 then T.aaF else T.aaM
def dX(k:Nat):Str:=if k=0 then "is" else if k=1 then "at least" else "at most"
def dC(T:Tx w K mg)(f:Fl)(x:Wi):Tr:=.ins f (sg T x.k) [("near",bg T x.a),("far",bg T x.b),("rank",.int x.r),("weight",.int x.v)]
theorem dw(T:Tx w K mg){k:Nat}(h:k<3):DW T (sg T k) k:=by
 have:k=0\/k=1\/k=2:=⋯
 rcases this with rfl |rfl |rfl
 .exact .inl ⟨rfl,rfl⟩
 .exact .inr (.inl ⟨rfl,rfl⟩)
 .exact .inr (.inr ⟨rfl,rfl⟩)
def tG(g:Nat):bQ:=cA 1 λ_ Q=>Q (.str (dX g))
theorem Q5(T:Tx w K mg):aw P w K mg base aV 1 T.pZ.a T.pZ.d ["self"] (aX K true 0 1 (tG 0)):=by
 refine bH T.pZ.F Qo rfl ∎ λaM A outer s H E e hu c=>?_
 refine⟨_,(aK (bf bc)),?_⟩;rintro f b _ ⟨_,q⟩;rfl';exact q _
theorem OH(T:Tx w K mg):aw P w K mg base aV 1 T.pG.a T.pG.d ["self"] (aX K true 0 1 (tG 1)):=by
 refine bH T.pG.F OE rfl ∎ λaM A outer s H E e hu c=>?_
 refine⟨_,(aK (bf bc)),?_⟩;rintro f b _ ⟨_,q⟩;rfl';exact q _
theorem O6(T:Tx w K mg):aw P w K mg base aV 1 T.pI.a T.pI.d ["self"] (aX K true 0 1 (tG 2)):=by
 refine bH T.pI.F OW rfl ∎ λaM A outer s H E e hu c=>?_
 refine⟨_,(aK (bf bc)),?_⟩;rintro f b _ ⟨_,q⟩;rfl';exact q _
theorem Yz(T:Tx w K mg):∀C g,DW T C g->aO P w K mg base aV 1 "verb" C ["self"] (aX K true 0 1 (tG g)):=λC g h=>by
 rcases h with⟨rfl,rfl⟩ |⟨rfl,rfl⟩ |⟨rfl,rfl⟩
 .exact⟨T.nG,_,_,T.pZ.t,Q5 T,T.pZ.b⟩
 .exact⟨T.nH,_,_,T.pG.t,OH T,T.pG.b⟩
 .exact⟨T.nI,_,_,T.pI.t,O6 T,T.pI.b⟩
def eU:ag:=["must","hand","strong","fair","faint"]
def ew(r v:Int):Str:=if r=0 then "" else if v=1 then " by "++(eU[r.toNat]?).getD "" else " by "++(eU[r.toNat]?).getD ""++" "++tx (dec v)
def Jx(x:Wi):Str:=txt x.a++" "++dX x.k++" "++txt x.b++ew x.r x.v
def Wi.ok(x:Wi):Prop:=x.k<3/\x.a.dep<=64/\x.b.dep<=64/\x.a.sm/\x.b.sm/\(txt x.a).length<=1000/\(txt x.b).length<=1000/\0<=x.r/\x.r<5/\1<=x.v/\x.v<=1000000
def rX:Fl->Fl |.o=>.l true |.f=>.f |.l b=>.l b
def jo:Fl->Fl |.o=>.o |.f=>.f |.l _=>.l false
theorem vK(T:Tx w K mg)(f:Fl)(x:Wi):aJ (dC T f x)=dC T (rX f) x:=by
 cases f<;>simp only[dC,rX,zv,Aa,Ab,de,dS,yp]
theorem rZ(T:Tx w K mg)(f:Fl)(x:Wi):dn (dC T f x)=dC T (jo f) x:=by
 cases f<;>simp only[dC,jo,zt,z9,z8,gV,dB,yq]
theorem vE(T:Tx w K mg)(f:Fl)(x:Wi)(Q:aq):pV (some (dC T f x)) Q=Q (dC T f x):=rfl
theorem lg(T:Tx w K mg){x:Wi}(h:x.k<3):sg T x.k=T.aay\/sg T x.k=T.aaF\/sg T x.k=T.aaM:=by
 rcases dw T h with h |h |h
 .exact .inl h.1
 .exact .inr (.inl h.1)
 .exact .inr (.inr h.1)
theorem Hs(T:Tx w K mg){f:Fl}{x:Wi}(h:x.k<3){Q:aq}(q:Q (bg T x.a)):gP K "near" (dC T f x) Q:=⟨⟨(w_fld T (lg T h)).1,(w_fld T (lg T h)).2.1⟩,q⟩
theorem Io(T:Tx w K mg){f:Fl}{x:Wi}(h:x.k<3){Q:aq}(q:Q (bg T x.b)):gP K "far" (dC T f x) Q:=⟨⟨(w_fld T (lg T h)).1,(w_fld T (lg T h)).2.2.1⟩,q⟩
theorem ze(T:Tx w K mg){f:Fl}{x:Wi}(h:x.k<3){Q:aq}(q:Q (.int x.r)):gP K "rank" (dC T f x) Q:=⟨⟨(w_fld T (lg T h)).1,(w_fld T (lg T h)).2.2.2.1⟩,q⟩
theorem yA(T:Tx w K mg){f:Fl}{x:Wi}(h:x.k<3){Q:aq}(q:Q (.int x.v)):gP K "weight" (dC T f x) Q:=⟨⟨(w_fld T (lg T h)).1,(w_fld T (lg T h)).2.2.2.2⟩,q⟩
theorem YA(T:Tx w K mg){f:Fl}{x:Wi}(h:x.k<3){Q:Nat->Prop}(q:Q x.k):eC (DW T) "verb" (dC T f x) Q:=⟨x.k,dw T h,by simp only[List.lookup,show (("verb":Str) == "near")=false by walk_at "k",show (("verb":Str) == "far")=false by walk_at "k",show (("verb":Str) == "rank")=false by walk_at "k",show (("verb":Str) == "weight")=false by walk_at "k"],q⟩
def C0(T:Tx w K mg):bQ:=cA 1 λa Q=>∃(f:Fl)(x:Wi),a=[dC T f x]/\x.ok/\Q (.str (Jx x))
theorem zf(a:Str):a++("":Str)=a:=W.KFm.cat_t
theorem fh(a b c:Str):a++b++c=a++(b++c):=by
 show (⟨(a.cps++b.cps)++c.cps⟩:Str)=⟨a.cps++(b.cps++c.cps)⟩
 rw[Array.append_assoc]
theorem xZ(T:Tx w K mg):aw P w K mg base aV 140 T.jD.a T.jD.d ["self"] (aX K true 0 1 (C0 T)):=by
 refine bH T.jD.F Qn rfl ∎ λaM A outer s H E u hu O=>?_
 refine⟨_,(aH (bM 1 (c8 (Hq T 64) (cm K (qv 0))))
  (aH (bM 2 (c8 (Yz T) (qv 0)))
  (aH (bM 3 (c8 (Hq T 64) (cm K (qv 0))))
  (aH (bM 4 (iu (eR (qv 1) (f9 (eR (qv 2) (f9 (eR (qv 3) ir)))))))
  (aH (b8 (bX dE dF (cm K (qv 0)) ay) (aK (bf (qv 4))) b4)
  (aH (bM 5 (ba (mO ["must","hand","strong","fair","faint"] rfl T.wb T.wc) (cm K (qv 0))))
  (aH (b8 (bX dE dF (cm K (qv 0)) ay) (aK (bf (iu (eR (qv 4) (f9 (eR (qv 5) ir)))))) b4)
  (aH (bM 6 (cm K (qv 0)))
  (aK (bf (iu (eR (qv 4) (f9 (eR (qv 5) (f9 (Kn (qv 6) ir)))))))))))))))),?_⟩
 rintro U J _ ⟨_,f,x,rfl,⟨e,i,l,m,n,C,D,G,I,g,h⟩,q⟩;simp only[cons_append,nil_append];rfl';simp only[vK,rZ,vE];refine Hs T e ?_;simp only[dB];refine qQ T i m ⋯ λj=>⟨rfl,?_⟩
 refine YA T e ⟨rfl,λj=>⟨rfl,?_⟩⟩;refine Io T e ?_;simp only[dB];refine qQ T l n ⋯ λj=>⟨rfl,?_⟩
 rfl';have hv:(dX x.k).length<=8:=by
  unfold dX;split
  .decide
  .split<;>decide
 have o:(txt x.a++" "++dX x.k++" "++txt x.b).length<=2020:=by
  simp only[bF];have:(" ":Str).length=1:=rfl;omega
 have L:(" ":Str).length=1:=rfl;simp only[jQ];refine⟨⋯,⋯,by simp only[bF];omega,⋯,by simp only[bF];omega,by simp only[bF];omega,⋯,⋯,⋯,?_⟩;let⟨k,a,b,r,v⟩:=x;unfold Jx at q;simp only at e i l m n C D G I g h hv o q ⊢;generalize txt a++" "++dX k++" "++txt b=S at o q ⊢;refine ze T e ?_;rfl';split
 .rename_i c;have c:=of_decide_eq_true c;subst c;rw[show ew 0 v="" from rfl,zf] at q;exact q _
 rename_i c;have c:¬ r=0:=λz=>c (decide_eq_true z)
 refine ze T e ?_;have p:bi v<=20:=rH ⋯;have Q:(tx (dec v)).length<=30:=by
  rw[cg];exact le_trans (kU p) ∎
 have u:∃R:Str,eU[r.toNat]?=some R/\cU (eU.map Tr.str) r=some (.str R)/\R.length<=6:=by
  have:r=1\/r=2\/r=3\/r=4:=⋯
  rcases this with rfl |rfl |rfl |rfl
  .exact⟨"hand",rfl,rfl,∎⟩
  .exact⟨"strong",rfl,rfl,∎⟩
  .exact⟨"fair",rfl,rfl,∎⟩
  .exact⟨"faint",rfl,rfl,∎⟩
 let⟨R,y,B,M⟩:=u;unfold ew at q;rw[if_neg c,y] at q;simp only[getD_some] at q;show (match cU (eU.map Tr.str) r with |some t=>_ |none=>False);rw[B];rfl';refine yA T e ?_;rfl';have N:(" by ":Str).length=4:=rfl;split
 .rename_i d;rw[if_pos (of_decide_eq_true d),<- fh] at q;simp only[bF];exact⟨⋯,⋯,⋯,⋯,⋯,⋯,q _⟩
 .rename_i d;rw[if_neg (λz=>d (decide_eq_true z))] at q;rw[<- fh,<- fh,<- fh] at q;refine yA T e ?_;rfl';rw[Hk];simp only[bF];exact⟨⋯,⋯,⋯,⋯,⋯,⋯,mD p ∎,⋯,⋯,q _⟩
theorem WA(T:Tx w K mg):∀C g,DW T C g->aO P w K mg base aV 140 "text" C ["self"] (aX K true 0 1 (C0 T)):=λC g h=>by
 rcases h with⟨rfl,rfl⟩ |⟨rfl,rfl⟩ |⟨rfl,rfl⟩
 .exact⟨T.nG,_,_,T.jD.t,xZ T,T.jD.b⟩
 .exact⟨T.nH,_,_,T.Mt,xZ T,T.jD.b⟩
 .exact⟨T.nI,_,_,T.Mw,xZ T,T.jD.b⟩
theorem YB(T:Tx w K mg){f:Fl}{x:Wi}(h:x.k<3){Q:Nat->Prop}(q:Q x.k):eC (DW T) "text" (dC T f x) Q:=⟨x.k,dw T h,by simp only[List.lookup,show (("text":Str) == "near")=false by walk_at "k",show (("text":Str) == "far")=false by walk_at "k",show (("text":Str) == "rank")=false by walk_at "k",show (("text":Str) == "weight")=false by walk_at "k"],q⟩
def br(ws:ag)(p:Nat):Str:=(ws[p]?).getD ""
def cc(T:Tx w K mg)(f:Fl)(a ns:ag)(p:Nat):Tr:=.ins f T.aaT [("words",.av f ↥a),("names",.av .f ↥ns),("place",.int p)]
def DR(T:Tx w K mg)(C:ae)(g:Nat):Prop:=C=T.aaT/\g=0
theorem c6(T:Tx w K mg)(f:Fl)(a ns:ag)(p:Nat):aJ (cc T f a ns p)=cc T (rX f) a ns p:=by
 cases f<;>simp only[cc,rX,zv,Aa,Ab,de,E4,zA,Y8,z'Z,IK,yp]
theorem dm(T:Tx w K mg)(f:Fl)(a ns:ag)(p:Nat):dn (cc T f a ns p)=cc T (jo f) a ns p:=by
 have e:∀f:Fl,dn (.av f ↥a)=.av (jo f) ↥a:=λf=>by
  cases f with
  |f=>show Tr.av .f (cp _)=_;rw[rP];rfl
  |o=>show Tr.av .o (cp _)=_;rw[rP];rfl
  |l b=>show Tr.av (.l false) (cp _)=_;rw[rP];rfl
 cases f<;>simp only[cc,jo,zt,z9,z8,gV,e,Gg,rP,yq]
theorem dq(T:Tx w K mg)(f:Fl)(a ns:ag)(p:Nat)(Q:aq):pV (some (cc T f a ns p)) Q=Q (cc T f a ns p):=rfl
theorem AM(T:Tx w K mg)(a ns:ag)(p:Nat):b5 (cc T .o a ns p)=true:=by
 simp only[cc,lj,dt,E7,E5,HG,zA,z7,mi,Bool.and_self]
theorem uy(T:Tx w K mg){f:Fl}{a ns:ag}{p:Nat}{Q:aq}(q:Q (.av f ↥a)):gP K "words" (cc T f a ns p) Q:=⟨⟨T.fc,T.AX⟩,q⟩
theorem GF(T:Tx w K mg){f:Fl}{a ns:ag}{p:Nat}{Q:aq}(q:Q (.av .f ↥ns)):gP K "names" (cc T f a ns p) Q:=⟨⟨T.fc,T.AY⟩,q⟩
theorem yM(T:Tx w K mg){f:Fl}{a ns:ag}{p:Nat}{Q:aq}(q:Q (.int p)):gP K "place" (cc T f a ns p) Q:=⟨⟨T.fc,T.v8⟩,q⟩
theorem uT(T:Tx w K mg){m:Str}{f:Fl}{d ns:ag}{p:Nat}{Q:Nat->Prop}(a:(m == "words")=false)(b:(m == "names")=false)(c:(m == "place")=false)(q:Q 0):eC (DR T) m (cc T f d ns p) Q:=⟨0,⟨rfl,rfl⟩,by simp only[List.lookup,a,b,c],q⟩
def d6(x:Str):ag:=(bS 32 x.cps.toList).map tx
theorem AN:Str.ofString " "=tx [32]:=by walk_at "k"
def m4(a:ag):Prop:=a.length<=60/\∀x∈a,x.length<=20000
theorem ra{a:ag}(h:m4 a)(p:Nat):(br a p).length<=20000:=by
 unfold br;cases e:a[p]? with
 |none=>exact zero_le _
 |some x=>exact h.2 x (mem_of_getElem? e)
def eT(T:Tx w K mg)(m:ag->ag->Nat->(Tr->Nat->Prop)->(af->Prop)->Prop):dN:=λb Q q=>b.length=1/\∃(a ns:ag)(p:Nat),b=[cc T .o a ns p]/\m4 a/\m a ns p (λt c=>∀j:ah,j[0]?=some (cc T .o a ns c)->Q t j) q
def nU(T:Tx w K mg)(m:Str->ag->ag->Nat->(Tr->Nat->Prop)->(af->Prop)->Prop):dN:=λb Q q=>b.length=2/\∃(a ns:ag)(p:Nat)(x:Str),b=[cc T .o a ns p,.str x]/\m4 a/\m x a ns p (λt c=>∀j:ah,j[0]?=some (cc T .o a ns c)->Q t j) q
theorem Ip(T:Tx w K mg){b ns:ag}{F:Tr->aq}:(λ(t:Tr)(a:Nat)=>∀j:ah,j[0]?=some (cc T .o b ns a)->pV j[0]? λu=>b5 u=true/\F t u)=λt a=>F t (cc T .o b ns a):=by
 funext t a;refine propext ⟨λh=>(h [cc T .o b ns a] rfl).2,λh j e=>?_⟩;rw[e];exact⟨AM T _ _ _,h⟩
theorem fK(T:Tx w K mg){n:Str}{m:ag->ag->Nat->(Tr->Nat->Prop)->(af->Prop)->Prop}{a ns:ag}{p:Nat}{q:af->Prop}{F:Tr->aq}(hw:m4 a)(h:m a ns p (λt f=>F t (cc T .o a ns f)) q)(b:(n == ("words":Str))=false:=by walk_at "k")(c:(n == ("names":Str))=false:=by walk_at "k")(d:(n == ("place":Str))=false:=by walk_at "k"):eC (DR T) n (cc T .o a ns p) λ_=>eT T m [cc T .o a ns p] (λt e=>pV e[0]? λu=>b5 u=true/\F t u) q:=
 uT T b c d ⟨rfl,a,ns,p,rfl,hw,by rw[Ip];exact h⟩
theorem uz(T:Tx w K mg){n x:Str}{m:Str->ag->ag->Nat->(Tr->Nat->Prop)->(af->Prop)->Prop}{a ns:ag}{p:Nat}{q:af->Prop}{F:Tr->aq}(hw:m4 a)(h:m x a ns p (λt f=>F t (cc T .o a ns f)) q)(b:(n == ("words":Str))=false:=by walk_at "k")(c:(n == ("names":Str))=false:=by walk_at "k")(d:(n == ("place":Str))=false:=by walk_at "k"):eC (DR T) n (cc T .o a ns p) λ_=>nU T m [cc T .o a ns p,.str x] (λt e=>pV e[0]? λu=>b5 u=true/\F t u) q:=
 uT T b c d ⟨rfl,a,ns,p,x,rfl,hw,by rw[Ip];exact h⟩
def Nl(T:Tx w K mg):dN:=λa Q q=>a.length=3/\∃(x:Str)(ns:ag),a=[.ins .o T.aaT [],.str x,.av .f ↥ns]/\x.length<=20000/\(60<(d6 x).length->q (.ref T.acW))/\((d6 x).length<=60->∀j:ah,j[0]?=some (cc T .o (d6 x) ns 0)->Q .aZ j)
theorem YC(x:Str):(d6 x).length<=x.length+1:=by
 unfold d6;rw[length_map];exact yj 32 _
theorem YD{x:Str}(h:(d6 x).length<=60)(a:x.length<=20000):m4 (d6 x):=⟨h,λy m=>by
 unfold d6 at m;let⟨p,b,rfl⟩:=mem_map.mp m;rw[cg];exact le_trans (ub b) a⟩
theorem Of(T:Tx w K mg):aw P w K mg base (b9 P w) 1 T.pK.a T.pK.d ["self","text","names"] (cu K true 1 3 (Nl T)):=by
 refine gf T.pK.F Od rfl ∎ λaM A outer s H E q j hu h=>?_
 refine⟨_,(aH (f6 (ec 0) (zp (qv 1) bc ⟨rfl,rfl,rfl,rfl⟩))
  (aH (f6 (ec 0) (qv 2))
  (aH (f6 (ec 0) ay)
  (aK (b8 (bX j9 j7 (e4 iR iO T.ig (aj (cm K (qv 0)) aE)) (rT T.Mf)) (aK (iP rfl rfl rfl rfl rfl rfl T.je PySem.F.excBase_ValueError T.jf bc)) b4))))),?_⟩
 rintro n g _ ⟨_,x,ns,rfl,m,b,e⟩;have i:=YC x;simp only[cons_append,nil_append];rfl';rw[AN,yF,show (bS 32 x.cps.toList).map tx=d6 x from rfl];refine⟨rfl,⋯,⋯,⟨T.fc,T.AX⟩,∎,⟨T.fc,T.AY⟩,∎,⟨T.fc,T.v8⟩,by rw[k7 (show ¬ ("words":Str)="names" by walk_at "k")];simp only[length_cons,length_nil];decide,?_⟩;rw[k7 (show ¬ ("words":Str)="names" by walk_at "k"),Ae (show ¬ ("words":Str)="place" by walk_at "k") (show ¬ ("names":Str)="place" by walk_at "k")];rw[show (Tr.ins (.l true) T.aaT (de [((Str.ofString "words"),Tr.av .o ((d6 x).map ao.t)),((Str.ofString "names"),Tr.av .f ↥ns),((Str.ofString "place"),Tr.int 0)]))=cc T (rX .o) (d6 x) ns 0 from (c6 T .o (d6 x) ns 0)];refine uy T ?_;walk_at "q";split
 .rename_i c;exact b (by have:=of_decide_eq_true c;omega)
 .rename_i c;have c:¬ (60:Int)<_:=λz=>c (decide_eq_true z)
  exact e ⋯ _ rfl
def wm(T:Tx w K mg):bQ:=cA 1 λb Q=>∃(f:Fl)(a ns:ag)(p:Nat),b=[cc T f a ns p]/\Q (.str (br a p))
theorem OI(T:Tx w K mg):aw P w K mg base aV 1 T.pL.a T.pL.d ["self"] (aX K true 0 1 (wm T)):=by
 refine bH T.pL.F OG rfl ∎ λaM A outer s H E h hu g=>?_
 refine⟨_,(aK (bf (zV (bX o3 oE (cm K (qv 0)) (e4 iR iO T.ig (aj (cm K (qv 0)) aE))) (ba (cm K (qv 0)) (cm K (qv 0))) bc))),?_⟩;rintro i e _ ⟨_,f,b,ns,p,rfl,q⟩;simp only[cons_append,nil_append];rfl';simp only[c6,dm,dq];refine yM T ?_
 try rfl'
 refine uy T ?_
 try rfl'
 unfold br at q;by_cases c:p<b.length
 .rw[if_pos (decide_eq_true ⋯)];refine uy T (yM T ?_);rw[y6,yt,oG b ⋯ (by simpa using c)];rw[List.getElem?_eq_getElem c] at q;exact⟨rfl,q _⟩
 .rw[if_neg (by simpa using (show b.length<=p by omega))];rw[getElem?_eq_none ⋯] at q;exact q _
def wG(T:Tx w K mg):bQ:=cA 1 λb Q=>∃(f:Fl)(a ns:ag)(p:Nat),b=[cc T f a ns p]/\Q (.bl (decide (a.length<=p)))
theorem Ou(T:Tx w K mg):aw P w K mg base aV 1 T.qh.a T.qh.d ["self"] (aX K true 0 1 (wG T)):=by
 refine bH T.qh.F Om rfl ∎ λaM A outer s H E g hu e=>?_
 refine⟨_,(aK (bf (mJ K8 z'v (cm K (qv 0)) (e4 iR iO T.ig (aj (cm K (qv 0)) aE))))),?_⟩;rintro h c _ ⟨_,f,b,ns,p,rfl,q⟩;simp only[cons_append,nil_append];rfl';simp only[c6,dm,dq];refine yM T ?_
 try rfl'
 refine uy T ?_
 try rfl'
 rw[show decide ((b.length:Int)<=(p:Int))=decide (b.length<=p) from decide_eq_decide.mpr ⋯];exact q _
theorem uA(T:Tx w K mg):∀C g,DR T C g->aO P w K mg base aV 1 "ahead" C ["self"] (aX K true 0 1 (wm T)):=λC g h=>by
 let⟨rfl,rfl⟩:=h;exact⟨T.fc,_,_,T.pL.t,OI T,T.pL.b⟩
theorem yB(T:Tx w K mg):∀C g,DR T C g->aO P w K mg base aV 1 "at_end" C ["self"] (aX K true 0 1 (wG T)):=λC g h=>by
 let⟨rfl,rfl⟩:=h;exact⟨T.fc,_,_,T.qh.t,Ou T,T.qh.b⟩
theorem uc(T:Tx w K mg){f:Fl}{a ns:ag}{p:Nat}{Q:aq}(h:Q (.str (br a p))):eC (DR T) "ahead" (cc T f a ns p) λ_=>wm T [cc T (jo f) a ns p] λt _=>Q t:=uT T (by walk_at "k") (by walk_at "k") (by walk_at "k") ⟨rfl,jo f,a,ns,p,rfl,λ_=>h⟩
theorem yC(T:Tx w K mg){f:Fl}{a ns:ag}{p:Nat}{Q:aq}(h:Q (.bl (decide (a.length<=p)))):eC (DR T) "at_end" (cc T f a ns p) λ_=>wG T [cc T (jo f) a ns p] λt _=>Q t:=uT T (by walk_at "k") (by walk_at "k") (by walk_at "k") ⟨rfl,jo f,a,ns,p,rfl,λ_=>h⟩
def lN(b a:ag)(p:Nat)(Q:Tr->Nat->Prop)(c:af->Prop):Prop:=Q (.str (br b p)) (p+1)
theorem JG(T:Tx w K mg){a ns:ag}{p:Nat}{Q:ae->bK->Prop}(q:Q T.aaT [("words",.av .o ↥a),("names",.av .f ↥ns),("place",.int p)]):nh (some (cc T .o a ns p)) λt=>kz K "place" t Q:=⟨⟨T.fc,T.v8⟩,by simp only[length_cons,length_nil];decide,q⟩
theorem Ph(T:Tx w K mg):aw P w K mg base (b9 P w) 2 T.pM.a T.pM.d ["self"] (cu K true 1 1 (eT T lN)):=by
 refine gf T.pM.F OY rfl ∎ λaM A outer s H E q g hu e=>?_
 refine⟨_,(aH (bM 1 (c8 (uA T) (qv 0)))
  (aH (Wq (ec 0) ay)
  (aK (bf (qv 1))))),?_⟩
 rintro i c _ ⟨_,b,ns,p,rfl,hw,h⟩;simp only[cons_append,nil_append];rfl';simp only[c6,dm,dq];refine uc T ⟨rfl,?_⟩;refine JG T ?_;rw[show List.lookup (Str.ofString "place") [((Str.ofString "words"),Tr.av .o ↥b),((Str.ofString "names"),Tr.av .f ↥ns),((Str.ofString "place"),Tr.int p)]=some (.int p) by simp only[List.lookup,show (("place":Str) == "words")=false by walk_at "k",show (("place":Str) == "names")=false by walk_at "k",show (("place":Str) == "place")=true by walk_at "k"]];refine⟨rfl,h _ ?_⟩;show some _=some _;simp only[fX,if_neg (show ¬ ("words":Str)="place" by walk_at "k"),if_neg (show ¬ ("names":Str)="place" by walk_at "k"),if_true];rfl
theorem jT(T:Tx w K mg):∀C g,DR T C g->aO P w K mg base (b9 P w) 2 "step" C ["self"] (cu K true 1 1 (eT T lN)):=λC g h=>by
 let⟨rfl,rfl⟩:=h;exact⟨T.fc,_,_,T.pM.t,Ph T,T.pM.b⟩
def C1(T:Tx w K mg)(x:Str)(b a:ag)(p:Nat)(Q:Tr->Nat->Prop)(q:af->Prop):Prop:=x.length<=1000/\(if br b p=x then Q .aZ (p+1) else q (.ref T.acW))
theorem Ov(T:Tx w K mg):aw P w K mg base (b9 P w) 3 T.pN.a T.pN.d ["self","word"] (cu K true 2 2 (nU T (C1 T))):=by
 refine gf T.pN.F Ol rfl ∎ λaM A outer s H E q b hu m=>?_
 refine⟨_,(aK (Ie iA iy (eW 0 ((λC g d=>aO.mono (jT T C g d) ⋯)) (dr (dy rfl rfl rfl rfl)) (by walk_at "z") (λ_ _ _ _ h=>h.1) b) (rV (qv 1)) (by with_unfolding_all rfl) (aK (iP rfl rfl rfl rfl rfl rfl T.je PySem.F.excBase_ValueError T.jf (iu (f9 (eR (qv 1) (f9 ir)))))) b4)),?_⟩;rintro o f _ ⟨_,e,ns,p,x,rfl,hw,n,h⟩;simp only[cons_append,nil_append];walk_at "q";simp only[c6,dm,dq];refine fK T hw ?_;unfold lN;walk_at "q";by_cases c:br e p=x
 .rw[if_pos c] at h;rw[if_neg (by simp[c])];exact h _ rfl
 .rw[if_neg c] at h;rw[if_pos (by simp[c])];have i:(Str.empty:Str).length=0:=rfl;have j:(Str.ofString "the word ").length=9:=by walk_at "k"
  have l:(Str.ofString " is missing").length=11:=by walk_at "k"
  simp only[bF];exact⟨⋯,⋯,⋯,⋯,⋯,h⟩
theorem yD(T:Tx w K mg):∀C g,DR T C g->aO P w K mg base (b9 P w) 3 "expect" C ["self","word"] (cu K true 2 2 (nU T (C1 T))):=λC g h=>by
 let⟨rfl,rfl⟩:=h;exact⟨T.fc,_,_,T.pN.t,Ov T,T.pN.b⟩
def aig(T:Tx w K mg)(b a:ag)(p:Nat)(Q:Tr->Nat->Prop)(q:af->Prop):Prop:=if b.length<=p then Q .aZ p else q (.ref T.acW)
theorem Ow(T:Tx w K mg):aw P w K mg base (b9 P w) 3 T.qi.a T.qi.d ["self"] (cu K true 1 1 (eT T (aig T))):=by
 refine gf T.qi.F Oo rfl ∎ λaM A outer s H E q g hu f=>?_
 refine⟨_,(aK (b8 (jm (gx (c8 (yB T) (qv 0)))) (aK (iP rfl rfl rfl rfl rfl rfl T.je PySem.F.excBase_ValueError T.jf bc)) b4)),?_⟩;rintro i e _ ⟨_,b,ns,p,rfl,hw,h⟩;simp only[cons_append,nil_append];rfl';simp only[c6,dm,dq];refine yC T ?_;unfold aig at h;rfl';by_cases c:b.length<=p
 .rw[if_pos c] at h;rw[if_neg (by simp[c])];exact h _ rfl
 .rw[if_neg c] at h;rw[if_pos (by simp[c])];exact h
theorem U2(T:Tx w K mg):∀C g,DR T C g->aO P w K mg base (b9 P w) 3 "finish" C ["self"] (cu K true 1 1 (eT T (aig T))):=λC g h=>by
 let⟨rfl,rfl⟩:=h;exact⟨T.fc,_,_,T.qi.t,Ow T,T.qi.b⟩
def kE(L:List Nat):Bool:=decide (1<=L.length)&&(decide (L.length<=8)&&L.all λc=>decide (97<=c)&&decide (c<=122))
theorem YE(c:Nat):kL (Str.ofString "abcdefghijklmnopqrstuvwxyz") ⟨#[c]⟩=(decide (97<=c)&&decide (c<=122)):=by
 unfold kL;rw[StrLaws.found_one];have e:(Str.ofString "abcdefghijklmnopqrstuvwxyz").cps.toList=(List.range 26).map (·+97):=by walk_at "k"
 rw[e,Bool.eq_iff_iff];simp;constructor
 .rintro⟨a,h,rfl⟩;omega
 .intro h;exact⟨c - 97,⋯,⋯⟩
def M3:bQ:=cA 1 λa Q=>∃L:List Nat,a=[.str (tx L)]/\L.length<=100000/\Q (.bl (kE L))
theorem Si(T:Tx w K mg){z:Bool}:aw P w K mg base aV 1 T.sQ.a T.sQ.d ["word"] (aX K z 0 1 M3):=by
 refine bH T.sQ.F SI rfl ∎ λaM A outer s H E n hu l=>?_
 refine⟨_,(aH (b8 (QW.t (iB (jm (gx (vk K T.qq (aj (qv 0) (aj (vm T.lH) aE))))) (iL (jm (yE oM oF oM oF ay (e4 iR iO T.ig (aj (qv 0) aE)) (rT T.Mi)))))) (aK (bf rR)) b4)
  (aK (bf (e4 (yu rfl) zo T.wg (aj (vd ["sign"] [none] (AQ (qv 0)) (vH 0) (λ_ _ _ _ _=>(mJ Fx GL (qv 0) (vI T.Mc)))) aE))))),?_⟩
 rintro o i _ ⟨_,L,rfl,j,q⟩;have g:∀X:Str,X=tx L->∀Q:aq,Q (.bl true)->vV K [Tr.str X,Tr.ty "str"] Q:=λX _ Q h=>⟨true,rfl,h⟩
 rfl';refine g _ rfl _ ?_;rfl';rw[Il];refine⟨by rw[cg];omega,?_⟩;rfl';rw[cg];unfold kE at q;split;rotate_left
 .rename_i c;rw[show decide (1<=L.length)=false from decide_eq_false λz=>c (decide_eq_true ⋯)] at q;exact q _
 rename_i e;rw[show decide (1<=L.length)=true from decide_eq_true (by have:=of_decide_eq_true e;omega)] at q;split
 .rename_i c;rw[show decide (L.length<=8)=false from decide_eq_false λz=>by simp at c;omega] at q;exact q _
 rename_i b;have b:L.length<=8:=by simp at b;omega
 rw[show decide (L.length<=8)=true from decide_eq_true b] at q;rw[fg];refine cN.map L _ (λc=>decide (97<=c)&&decide (c<=122)) ⋯ (λc m R f=>?_) ?_
 .rfl';rw[YE];exact f
 refine⟨_,rfl,?_⟩;rfl';rw[all_map];exact q _
def iC(ns:ag)(x:Str):Str:=if whole 1 x.cps.toList=true/\1<=vl x.cps.toList/\vl x.cps.toList<=ns.length then (ns[vl x.cps.toList - 1]?).getD "" else x
def C2(a ns:ag)(p:Nat)(Q:Tr->Nat->Prop)(b:af->Prop):Prop:=ns.length<=100000/\Q (.str (iC ns (br a p))) (p+1)
theorem N3(T:Tx w K mg):aw P w K mg base (b9 P w) 3 T.qk.a T.qk.d ["self"] (cu K true 1 1 (eT T C2)):=by
 refine gf T.qk.F NZ rfl ∎ λaM A outer s H E q m hu v=>?_
 refine⟨_,(aH (fT 1 (eW 0 ((λC g d=>aO.mono (jT T C g d) ⋯)) (dr (dy rfl rfl rfl rfl)) (by walk_at "z") (λ_ _ _ _ h=>h.1) m))
  (aH (b8 (QW.t (mz (gx (qc T.nE (x9 T) (aj (qv 1) (aj ay aE)))) (mj (yE oM oF oM oF ay (gy ot ow T.nM (aj (qv 1) aE)) (e4 iR iO T.ig (aj (cm K (qv 0)) aE)))))) (aK (bf (ba (cm K (qv 0)) (rL (gy ot ow T.nM (aj (qv 1) aE)) ay)))) b4)
  (aK (bf (qv 1))))),?_⟩
 rintro D u _ ⟨_,r,ns,p,rfl,hw,x,h⟩;simp only[cons_append,nil_append];rfl';simp only[c6,dm,dq];refine fK T hw ?_;unfold lN;rfl';have l:=ra hw p;unfold iC at h;obtain⟨L,e⟩:∃L,br r p=tx L:=⟨_,(kT _).symm⟩;rw[e] at l ⊢;simp only[e,fg] at h;rw[cg] at l;refine⟨rfl,L,1,rfl,⋯,λj=>?_⟩;rfl';by_cases b:whole 1 L=true;rotate_left
 .rw[if_neg b];rw[if_neg (λz=>b z.1)] at h;exact h _ rfl
 rw[if_pos b];let⟨n,y,o,B⟩:=jY b;have i:intText? (tx L)=some (vl L:Int):=intText_digits (q9 o) n (by rw[cg];omega);refine⟨_,i,by rw[cg];omega,?_⟩;simp only[c6,dm,dq];by_cases c:1<=vl L;rotate_left
 .rw[if_neg (λz=>c (by have:=of_decide_eq_true z;omega))];rw[if_neg (λz=>c z.2.1)] at h;exact h _ rfl
 rw[if_pos (decide_eq_true ⋯)];refine GF T ?_;rfl';by_cases f:vl L<=ns.length;rotate_left
 .rw[if_neg (λz=>f (by have:=of_decide_eq_true z;omega))];rw[if_neg (λz=>f z.2.2)] at h;exact h _ rfl
 rw[if_pos (decide_eq_true ⋯)];rw[if_pos ⟨b,c,f⟩] at h;refine GF T ?_;refine⟨_,i,by rw[cg];omega,?_⟩;rw[y6,yt,oG ns ⋯ ⋯];rw[List.getElem?_eq_getElem (show vl L - 1<ns.length by omega)] at h;have e:((vl L:Int) - 1).toNat=vl L - 1:=⋯
 simp only[e];exact⟨rfl,h _ rfl⟩
theorem Q6(T:Tx w K mg):∀C g,DR T C g->aO P w K mg base (b9 P w) 3 "read_name" C ["self"] (cu K true 1 1 (eT T C2)):=λC g h=>by
 let⟨rfl,rfl⟩:=h;exact⟨T.fc,_,_,T.qk.t,N3 T,T.qk.b⟩
def kf(T:Tx w K mg):Tm->Tr
 |.num q=>.ins .o T.aaa [("number",ao.t q)]
 |.aR a n=>.ins .o T.aae [("word",.str a),("name",.str n)]
 |.times q t=>.ins .o T.aaj [("number",ao.t q),("inner",bg T t)]
 |.plus a b=>.ins .o T.aao [("one",bg T a),("other",bg T b)]
 |.minus a b=>.ins .o T.aat [("one",bg T a),("other",bg T b)]
theorem zX(T:Tx w K mg)(t:Tm):Pu.aB (kf T t)=bg T t:=by
 cases t<;>simp only[kf,bg,zu,fv,uB,gZ,EY]
theorem vC(T:Tx w K mg)(t:Tm):b5 (kf T t)=true:=by
 cases t<;>simp only[kf,lj,dt,fO,kd,EZ,Bool.and_self]
theorem Sh(T:Tx w K mg)(t:Tm):bW (kf T t)=true:=by
 cases t<;>simp only[kf,vi,eL,yn,mV,E1,Bool.and_self]
def m9(T:Tx w K mg)(t:Tm)(v:Tr):Prop:=v=bg T t\/v=kf T t
theorem mZ(T:Tx w K mg){t:Tm}{v:Tr}(h:m9 T t v):Pu.aB v=bg T t:=by
 rcases h with rfl |rfl
 .exact gZ T t
 .exact zX T t
theorem Ih(T:Tx w K mg){t:Tm}{v:Tr}(h:m9 T t v):b5 v=true:=by
 rcases h with rfl |rfl
 .exact kd T t
 .exact vC T t
theorem Uy(T:Tx w K mg){t:Tm}{v:Tr}(h:m9 T t v):bW v=true:=by
 rcases h with rfl |rfl
 .exact mV T t
 .exact Sh T t
theorem JH{C:ae}{f:Str}{v:Tr}{P:aq}(a:Cl v=true)(b:v≠.aF)(p:P (.ins .o C [(f,v)])):CW C f [Tr.ins .o C [],v] λt c=>t=.aZ/\gQ c[0]? P:=
 ⟨rfl,v,rfl,a,b,λj e=>⟨rfl,by rw[e];exact⟨by show (b5 v&&true)=true;rw[(d4 v a).o];rfl,p⟩⟩⟩
theorem uU{C:ae}{f g:Str}{v u:Tr}{P:aq}(a:Cl v=true)(c:v≠.aF)(b:Cl u=true)(d:u≠.aF)(p:P (.ins .o C [(f,v),(g,u)])):nT C f g [Tr.ins .o C [],v,u] λt h=>t=.aZ/\gQ h[0]? P:=
 ⟨rfl,v,u,rfl,a,c,b,d,λj e=>⟨rfl,by rw[e];exact⟨by show (b5 v&&(b5 u&&true))=true;rw[(d4 v a).o,(d4 u b).o];rfl,p⟩⟩⟩
inductive PR where
 |ok (t:Tm) (p:Nat) |er |out
def PR.bind(r:PR)(f:Tm->Nat->PR):PR:=match r with |.ok t p=>f t p |.er=>.er |.out=>.out
def PR.run(T:Tx w K mg)(r:PR)(Q:Tr->Nat->Prop)(q:af->Prop):Prop:=match r with |.ok t p=>∀v,m9 T t v->Q v p |.er=>q (.ref T.acW) |.out=>False
def iH:ag:=["left","width","right","middle","gap"]
def nV(a ns:ag)(x:Str)(p:Nat):PR:=if br a p="of" then (if kE (iC ns (br a (p+1))).cps.toList=true/\¬ (iC ns (br a (p+1))="frame"/\(x="gap"\/x="drop")) then .ok (.aR x (iC ns (br a (p+1)))) (p+2) else .er) else .er
def lr(ns:ag):Prop:=ns.length<=100000/\∀x∈ns,x.length<=20000
theorem YF{ns:ag}(h:lr ns){x:Str}(a:x.length<=20000):(iC ns x).length<=20000:=by
 unfold iC;split
 .cases e:ns[vl x.cps.toList - 1]? with
  |none=>exact zero_le _
  |some y=>exact h.2 y (mem_of_getElem? e)
 .exact a
theorem N4(T:Tx w K mg):aw P w K mg base (b9 P w) 4 T.qj.a T.qj.d ["self","word"] (cu K true 2 2 (nU T λx l ns p Q q=>lr ns/\(nV l ns x p).run T Q q)):=by
 refine gf T.qj.F NY rfl ∎ λaM A outer s H E q m hu v=>?_
 refine⟨_,(aH (q0 (uI 0 ((λC g d=>aO.mono (yD T C g d) ⋯)) (dr (dy rfl rfl rfl rfl)) (by walk_at "z") (λ_ _ _ _ h=>h.1) m (rW bc rB)))
  (aH (fT 2 (eW 0 ((λC g d=>aO.mono (Q6 T C g d) ⋯)) (dr (dy rfl rfl rfl rfl)) (by walk_at "z") (λ_ _ _ _ h=>h.1) m))
  (aH (b8 (QW.t (iB (jm (gx (qc T.sQ (Si T) (aj (qv 2) aE)))) (iL (QW.t (mz (bX dE dF (qv 2) (vI T.A1)) (mj (bX vG vc (qv 1) (mO ["gap","drop"] rfl T.Mn T.Mo)))))))) (aK (iP rfl rfl rfl rfl rfl rfl T.je PySem.F.excBase_ValueError T.jf bc)) b4)
  (aK (bf (HZ T.sN (Oq T) T.LY (QA.aB (aj (qv 1) (aj (qv 2) aE))))))))),?_⟩
 rintro y r _ ⟨_,l,ns,p,x,rfl,hw,hn,h⟩;simp only[cons_append,nil_append];rfl';simp only[c6,dm,dq];refine uz T hw ⟨by walk_at "k",?_⟩;unfold nV at h;split;rotate_left
 .rename_i c;rw[if_neg c] at h;exact h
 rename_i c;rw[if_pos c] at h
 try rfl'
 try simp only[c6,dm,dq]
 refine fK T hw ⟨hn.1,?_⟩
 try rfl'
 have n:=YF hn (ra hw (p+1));generalize iC ns (br l (p+1))=N at h n ⊢;obtain⟨L,rfl⟩:∃L,N=tx L:=⟨_,(kT _).symm⟩
 rw[cg] at n;rw[fg] at h;refine⟨rfl,L,rfl,⋯,λj=>?_⟩;rfl';by_cases e:kE L=true;rotate_left
 .rw[if_pos (by simp[e])];rw[if_neg (λz=>e z.1)] at h;exact h
 rw[if_neg (by simp[e])];have b:¬ (tx L="frame"/\(x="gap"\/x="drop"))->nT T.aae (Str.ofString "word") (Str.ofString "name") [Tr.ins Fl.o T.aae [],Tr.str x,Tr.str (tx L)] λt u=>t=Tr.aZ/\gQ u[0]? λt=>b5 t=true/\r t [cc T Fl.o l ns (p+1+1),Tr.str x,Tr.str (tx L)]:=λc=>by
  rw[if_pos ⟨e,c⟩] at h;exact uU rfl (by intro z;cases z) rfl (by intro z;cases z) ⟨vC T (.aR x (tx L)),h _ (.inr rfl) _ rfl⟩
 by_cases f:tx L=Str.ofString "frame";rotate_left
 .rw[if_neg (λz=>f (of_decide_eq_true z))];exact b λz=>f z.1
 rw[if_pos (decide_eq_true f)];refine kR (ns:=["gap","drop"]) ?_;rfl';by_cases i:x∈([("gap":Str),"drop"]:ag)
 .rw[if_pos (decide_eq_true i)];rw[if_neg (λz=>z.2 ⟨f,by simpa using i⟩)] at h;exact h
 .rw[if_neg (λz=>i (of_decide_eq_true z))];exact b λz=>i (by simpa using z.2)
theorem Q7(T:Tx w K mg):∀C g,DR T C g->aO P w K mg base (b9 P w) 4 "read_edge" C ["self","word"] (cu K true 2 2 (nU T λx a ns p Q q=>lr ns/\(nV a ns x p).run T Q q)):=λC g h=>by
 let⟨rfl,rfl⟩:=h;exact⟨T.fc,_,_,T.qj.t,N4 T,T.qj.b⟩
theorem YG{L:List Nat}{a b:Int}(h:fo L=some (a,b)):(Rat.divInt a b).num=a/\(((Rat.divInt a b).den:Nat):Int)=b:=by
 unfold fo at h;split at h
 .split at h
  .cases h;have f:∀i:Int,Rat.divInt i 1=(i:Rat):=λi=>by rw[<- Rat.num_divInt_den (i:Rat),Rat.num_intCast,Rat.den_intCast];rfl
   rw[f,Rat.num_intCast,Rat.den_intCast];exact⟨rfl,rfl⟩
  .cases h
 .split at h
  .rename_i t b' _ c;cases h;have d:¬ vl b'=0:=⋯
   have e:Rat.divInt (sgn L (vl t)) (vl b')=⟨sgn L (vl t),vl b',d,by rw[oo];exact c.2.2.2.1⟩:=by
    conv=>rhs;rw[<- Rat.num_divInt_den (⟨sgn L (vl t),vl b',d,by rw[oo];exact c.2.2.2.1⟩:Rat)]
   rw[e];exact⟨rfl,rfl⟩
  .cases h
 .cases h
def gu(a:ag)(G:Nat->PR):Nat->Tm->Nat->PR
 |0,_,_=>.out
 |k + 1,t,p=>if br a p = "and" then (G (p + 1)).bind λu b=>gu a G k (.plus t u) b else if br a p = "less" then (G (p + 1)).bind λu b=>gu a G k (.minus t u) b else .ok t p
def lO(b:ag)(G:Nat->PR)(p:Nat):PR:=(G p).bind λt a=>gu b G 61 t a
def dM(c ns:ag):Nat->Nat->PR
 |0,_=>.out
 |n + 1,p=>
  if br c p="(" then (lO c (dM c ns n) (p+1)).bind λt d=>if br c d=")" then .ok t (d+1) else .er
  else if br c p∈iH\/iU (br c p)=true then nV c ns (br c p) (p+1)
  else match fo (br c p).cps.toList with
   |none=>.er
   |some (a,b)=>if br c (p+1)="times" then (dM c ns n (p+2)).bind λt d=>.ok (.times (Rat.divInt a b) t) d else .ok (.num (Rat.divInt a b)) (p+1)
def qu(T:Tx w K mg)(n:Nat)(a ns:ag)(p:Nat)(Q:Tr->Nat->Prop)(q:af->Prop):Prop:=lr ns/\(dM a ns n p).run T Q q
def wo(T:Tx w K mg)(n:Nat)(a ns:ag)(p:Nat)(Q:Tr->Nat->Prop)(q:af->Prop):Prop:=lr ns/\(lO a (dM a ns n) p).run T Q q
theorem rh(T:Tx w K mg){r:PR}{f:Tm->Nat->PR}{Q a:Tr->Nat->Prop}{q:af->Prop}(h:(r.bind f).run T Q q)(k:∀t b v,m9 T t v->(f t b).run T Q q->a v b):r.run T a q:=by
 cases r with
 |ok t p=>exact λv hv=>k t p v hv h
 |er=>exact h
 |out=>exact h
theorem ou(T:Tx w K mg){a ns:ag}{p:Nat}{q:af->Prop}{F:Tr->aq}(hw:m4 a)(h:F (.str (br a p)) (cc T .o a ns (p+1))):eC (DR T) "step" (cc T .o a ns p) λ_=>eT T lN [cc T .o a ns p] (λt b=>pV b[0]? λu=>b5 u=true/\F t u) q:=fK T hw h
theorem WB(T:Tx w K mg){r:PR}{Q a:Tr->Nat->Prop}{q:af->Prop}(h:r.run T Q q)(k:∀t b v,m9 T t v->Q v b->a v b):r.run T a q:=by
 cases r with
 |ok t p=>exact λv hv=>k t p v hv (h v hv)
 |er=>exact h
 |out=>exact h
theorem N9(T:Tx w K mg)(n:Nat)(r:∀C g,DR T C g->aO P w K mg base (b9 P w) (2*n+6) "read_term" C ["self"] (cu K true 1 1 (eT T (qu T n)))):aw P w K mg base (b9 P w) (2*n+7) T.ql.a T.ql.d ["self"] (cu K true 1 1 (eT T (wo T n))):=by
 refine gf T.ql.F N8 rfl ∎ λaM A outer s H E q f hu y=>?_
 refine⟨_,(aH (fT 1 (eW 0 ((λC g d=>aO.mono (r C g d) ⋯)) (dr (dy rfl rfl rfl rfl)) (by walk_at "z") (λ_ _ _ _ h=>h.1) f))
  (aH (zW (QW.t (iB (bX dE dF (c8 (uA T) (qv 0)) bc) (iL (bX dE dF (c8 (uA T) (qv 0)) bc)))) (aK (Ie dE dF (eW 0 ((λC g d=>aO.mono (jT T C g d) ⋯)) (dr (dy rfl rfl rfl rfl)) (by walk_at "z") (λ_ _ _ _ h=>h.1) f) (rV bc) (by with_unfolding_all rfl) (aK (fT 1 (zr T.pX.t ((Ot T).mono ⋯) (by walk_at "z") (λ_ _ h=>h.1) f rfl T.AZ T.pX.b (ox (rV (qv 1)) (ox (eW 0 ((λC g d=>aO.mono (r C g d) ⋯)) (dr (dy rfl rfl rfl rfl)) (by walk_at "z") (λ_ _ _ _ h=>h.1) f) zq))))) (aK (fT 1 (zr T.pY.t ((OB T).mono ⋯) (by walk_at "z") (λ_ _ h=>h.1) f rfl T.A0 T.pY.b (ox (rV (qv 1)) (ox (eW 0 ((λC g d=>aO.mono (r C g d) ⋯)) (dr (dy rfl rfl rfl rfl)) (by walk_at "z") (λ_ _ _ _ h=>h.1) f) zq))))))))
  (aK (bf (qv 1))))),?_⟩
 rintro B x _ ⟨_,i,ns,p,rfl,hw,hn,h⟩;simp only[cons_append,nil_append];rfl';simp only[c6,dm,dq];refine fK T hw ⟨hn,rh T h λt c v hv h=>?_⟩;simp only[mZ T hv,Ih T hv,Uy T hv,true_and];refine⟨λm j=>∃t c,j=[cc T .o i ns c,bg T t]/\(gu i (dM i ns n) m t c).run T (λt c=>∀(j:ah),j[0]?=some (cc T Fl.o i ns c)->x t j) q,⟨61,t,c,rfl,h⟩,?_⟩;clear h hv v t c;rintro m j ⟨t,p1,rfl,h⟩;cases m with
 |zero=>exact h.elim
 |succ k=>
 unfold gu at h;rfl';simp only[c6,dm,dq];refine uc T ?_;rfl';by_cases e:br i p1=Str.ofString "and"
 .rw[if_pos (decide_eq_true e)];rw[if_pos e] at h;refine fK T hw ?_;unfold lN;rfl';rw[if_pos (decide_eq_true e)];simp only[c6,dm,dq,dS,ke,mV,dB,gZ,true_and];refine fK T hw ⟨hn,rh T h λu c v hv h=>?_⟩;simp only[mZ T hv,dB];refine uU (gw T t) (rD T t) (gw T u) (rD T u) ⟨k,⋯,.plus t u,c,?_,h⟩;rw[show Tr.ins .o T.aao [(Str.ofString "one",bg T t),(Str.ofString "other",bg T u)]=kf T (.plus t u) from rfl,zX]
 .rw[if_neg (λz=>e (of_decide_eq_true z))];rw[if_neg e] at h;refine uc T ?_;rfl';by_cases l:br i p1=Str.ofString "less"
  .rw[if_pos (decide_eq_true l)];rw[if_pos l] at h;refine fK T hw ?_;unfold lN;rfl';rw[if_neg (λz=>e (of_decide_eq_true z))];simp only[c6,dm,dq,dS,ke,mV,dB,gZ,true_and];refine fK T hw ⟨hn,rh T h λu c v hv h=>?_⟩;simp only[mZ T hv,dB];refine uU (gw T t) (rD T t) (gw T u) (rD T u) ⟨k,⋯,.minus t u,c,?_,h⟩;rw[show Tr.ins .o T.aat [(Str.ofString "one",bg T t),(Str.ofString "other",bg T u)]=kf T (.minus t u) from rfl,zX]
  .rw[if_neg (λz=>l (of_decide_eq_true z))];rw[if_neg l] at h;simp only[dS,ke,kd,true_and];exact h _ (.inl rfl) _ rfl
theorem GG(T:Tx w K mg)(n:Nat)(a:∀C g,DR T C g->aO P w K mg base (b9 P w) (2*n+6) "read_term" C ["self"] (cu K true 1 1 (eT T (qu T n)))):∀C g,DR T C g->aO P w K mg base (b9 P w) (2*n+7) "read_terms" C ["self"] (cu K true 1 1 (eT T (wo T n))):=λC g h=>by
 let⟨rfl,rfl⟩:=h;exact⟨T.fc,_,_,T.ql.t,N9 T n a,T.ql.b⟩
theorem N5(T:Tx w K mg)(n:Nat)(G:∀C g,DR T C g->aO P w K mg base (b9 P w) (2*n+6) "read_term" C ["self"] (cu K true 1 1 (eT T (qu T n)))):aw P w K mg base (b9 P w) (2*(n+1)+6) T.kv.a T.kv.d ["self"] (cu K true 1 1 (eT T (qu T (n+1)))):=by
 refine gf T.kv.F El rfl ∎ λaM A outer s H E q i hu hN=>?_
 refine⟨_,(aH (fT 1 (eW 0 ((λC g d=>aO.mono (jT T C g d) ⋯)) (dr (dy rfl rfl rfl rfl)) (by walk_at "z") (λ_ _ _ _ h=>h.1) i))
  (aH (b8 (bX dE dF (qv 1) bc) (aH (fT 2 (eW 0 ((λC g d=>aO.mono (GG T n G C g d) ⋯)) (dr (dy rfl rfl rfl rfl)) (by walk_at "z") (λ_ _ _ _ h=>h.1) i))
  (aH (q0 (uI 0 ((λC g d=>aO.mono (yD T C g d) ⋯)) (dr (dy rfl rfl rfl rfl)) (by walk_at "z") (λ_ _ _ _ h=>h.1) i (rW bc rB)))
  (aK (bf (qv 2))))) b4)
  (aH (b8 (QW.t (iB (bX vG vc (qv 1) (mO ["left","width","right","middle","gap"] rfl T.Mm T.act)) (iL (bX vG vc (qv 1) (mO ["top","height","bottom","centre","drop"] rfl T.A2 T.A3))))) (aK (uQ (uI 0 ((λC g d=>aO.mono (Q7 T C g d) ⋯)) (dr (dy rfl rfl rfl rfl)) (by walk_at "z") (λ_ _ _ _ h=>h.1) i (rW (qv 1) rB)))) b4)
  (aH (bM 3 (vP T.sE (OZ T) (aj (qv 1) aE)))
  (aH (b8 (bX iA iy (c8 (uA T) (qv 0)) bc) (aK (bf (HZ T.sM (Oe T) T.LX (QA.aB (aj (qv 3) aE))))) b4)
  (aH (q0 (eW 0 ((λC g d=>aO.mono (jT T C g d) ⋯)) (dr (dy rfl rfl rfl rfl)) (by walk_at "z") (λ_ _ _ _ h=>h.1) i))
  (aK (uQ (zr T.pW.t ((OA T).mono ⋯) (by walk_at "z") (λ_ _ h=>h.1) i rfl T.LZ T.pW.b (ox (rV (qv 3)) (ox (eW 0 ((λC g d=>aO.mono (G C g d) ⋯)) (dr (dy rfl rfl rfl rfl)) (by walk_at "z") (λ_ _ _ _ h=>h.1) i) zq))))))))))),?_⟩
 rintro xs M _ ⟨_,f,ns,p,rfl,hw,hn,h⟩;simp only[cons_append,nil_append];rfl';simp only[c6,dm,dq];refine ou T hw ?_;rfl';unfold dM at h;simp only[c6,dm,dq];by_cases m:br f p=Str.ofString "("
 .rw[if_pos (decide_eq_true m)];rw[if_pos m] at h;refine fK T hw ⟨hn,rh T h λt J v hv h=>?_⟩;simp only[mZ T hv,dS,ke,kd,c6,dm,dq,true_and];refine uz T hw ⟨by walk_at "k",?_⟩;split
  .rename_i c;rw[if_pos c] at h;exact h _ (.inl rfl) _ rfl
  .rename_i c;rw[if_neg c] at h;exact h
 rw[if_neg (λz=>m (of_decide_eq_true z))];rw[if_neg m] at h;have D:br f p∈iH\/iU (br f p)=true->eC (DR T) (Str.ofString "read_edge") (cc T Fl.o f ns (p+1)) λc=>nU T (λx f ns p Q q=>lr ns/\PR.run T (nV f ns x p) Q q) [cc T (jo .o) f ns (p+1),Tr.str (br f p)] (λt Y=>pV Y[0]? λl=>b5 l=true/\b5 t=true/\M t [l,Tr.str (br f p),Tr.aF,Tr.aF]) q:=λc=>by
  rw[if_pos c] at h;exact uz T hw ⟨hn,WB T h λt J v hv h=>⟨Ih T hv,h _ rfl⟩⟩
 refine kR (ns:=iH) ?_;rfl';by_cases u:br f p∈iH
 .rw[if_pos (decide_eq_true u)];exact D (.inl u)
 rw[if_neg (λz=>u (of_decide_eq_true z))];refine kR (ns:=["top","height","bottom","centre","drop"]) ?_;rfl';by_cases y:br f p∈([("top":Str),"height","bottom","centre","drop"]:ag)
 .rw[if_pos (decide_eq_true y)];exact D (.inr (decide_eq_true y))
 rw[if_neg (λz=>y (of_decide_eq_true z))];rw[if_neg (λz=>z.elim u λz=>y (of_decide_eq_true z))] at h;have I:=ra hw p;obtain⟨L,e⟩:∃L,br f p=tx L:=⟨_,(kT _).symm⟩;rw[e,fg] at h;rw[e,cg] at I;rw[e];refine⟨rfl,L,rfl,I,λa b hd j=>?_,λhd=>?_⟩;rotate_left
 .rw[hd] at h;exact h
 rw[hd] at h;dsimp only at h;let⟨N,O⟩:=YG hd;have U:Tr.aA [.int a,.int b]=ao.t (Rat.divInt a b):=by rw[oR,N,O]
 rw[U];generalize Rat.divInt a b=r at h;rfl'
 try simp only[c6,dm,dq]
 refine uc T ?_;rfl';by_cases B:br f (p+1)=Str.ofString "times"
 .rw[if_neg (by simp[B])];rw[if_pos B] at h;refine ou T hw ?_;simp only[c6,dm,dq,true_and]
  try rfl'
  refine fK T hw ⟨hn,rh T h λt J v hv h=>?_⟩;simp only[mZ T hv,dB];exact uU (ao.c r) (ao.h r) (gw T t) (rD T t) ⟨vC T (.times r t),h _ (.inr rfl) _ rfl⟩
 .rw[if_pos (by simp[B])];rw[if_neg B] at h;exact JH (ao.c r) (ao.h r) ⟨vC T (.num r),h _ (.inr rfl) _ rfl⟩
theorem EC(T:Tx w K mg):∀n,∀C g,DR T C g->aO P w K mg base (b9 P w) (2*n+6) "read_term" C ["self"] (cu K true 1 1 (eT T (qu T n)))
 |0=>λC g h=>by
  let⟨rfl,rfl⟩:=h;refine⟨T.fc,_,_,T.kv.t,?_,T.kv.b⟩;refine gf T.kv.F El rfl ∎ λaM A outer s H E q e hu d=>⟨_,ux,?_⟩
  rintro i c _ ⟨_,f,ns,p,rfl,hw,hn,h⟩;exact h.elim
 |n + 1=>λC g h=>by
  have a:=EC T n;let⟨rfl,rfl⟩:=h;exact⟨T.fc,_,_,T.kv.t,N5 T n a,T.kv.b⟩
theorem Ex(T:Tx w K mg)(n:Nat):∀C g,DR T C g->aO P w K mg base (b9 P w) (2*n+7) "read_terms" C ["self"] (cu K true 1 1 (eT T (wo T n))):=GG T n (EC T n)
def kB(a:ag)(p:Nat):Str×Nat:=if br a p="at" then ("at "++br a (p+1),p+2) else (br a p,p+1)
def vU:ag:=["is","at least","at most"]
def wH(T:Tx w K mg)(a b:ag)(p:Nat)(Q:Tr->Nat->Prop)(q:af->Prop):Prop:=if (kB a p).1∈vU then Q (.str (kB a p).1) (kB a p).2 else q (.ref T.acW)
theorem N6(T:Tx w K mg):aw P w K mg base (b9 P w) 3 T.qm.a T.qm.d ["self"] (cu K true 1 1 (eT T (wH T))):=by
 refine gf T.qm.F N0 rfl ∎ λaM A outer s H E q b hu j=>?_
 refine⟨_,(aH (fT 1 (eW 0 ((λC g d=>aO.mono (jT T C g d) ⋯)) (dr (dy rfl rfl rfl rfl)) (by walk_at "z") (λ_ _ _ _ h=>h.1) b))
  (aH (b8 (bX dE dF (qv 1) bc) (aH (fT 2 (eW 0 ((λC g d=>aO.mono (jT T C g d) ⋯)) (dr (dy rfl rfl rfl rfl)) (by walk_at "z") (λ_ _ _ _ h=>h.1) b))
  (aK (bM 1 (iu (f9 (eR (qv 2) ir)))))) b4)
  (aH (b8 (bX zl yx (qv 1) (dJ (aj bc (aj bc (aj bc aE))))) (aK (iP rfl rfl rfl rfl rfl rfl T.je PySem.F.excBase_ValueError T.jf bc)) b4)
  (aK (bf (qv 1)))))),?_⟩
 rintro m f _ ⟨_,e,ns,p,rfl,hw,h⟩;simp only[cons_append,nil_append];rfl';simp only[c6,dm,dq];refine ou T hw ?_;rfl';unfold wH kB at h;by_cases c:br e p=Str.ofString "at"
 .rw[if_pos (decide_eq_true c)];rw[if_pos c] at h;simp only[c6,dm,dq];refine ou T hw ?_;rfl';have l:=ra hw (p+1);have i:(Str.ofString "at ").length=3:=by walk_at "k"
  rw[jQ];refine⟨⋯,⋯,by rw[bF];omega,by rw[bF];omega,?_⟩;refine kR (ns:=vU) ?_;rfl';split
  .rename_i d;rw[if_neg (by simpa using d)] at h;exact h
  .rename_i d;rw[if_pos (by simpa using d)] at h;exact h _ rfl
 .rw[if_neg (λz=>c (of_decide_eq_true z))];rw[if_neg c] at h;refine kR (ns:=vU) ?_;rfl';split
  .rename_i d;rw[if_neg (by simpa using d)] at h;exact h
  .rename_i d;rw[if_pos (by simpa using d)] at h;exact h _ rfl
theorem Q8(T:Tx w K mg):∀C g,DR T C g->aO P w K mg base (b9 P w) 3 "read_verb" C ["self"] (cu K true 1 1 (eT T (wH T))):=λC g h=>by
 let⟨rfl,rfl⟩:=h;exact⟨T.fc,_,_,T.qm.t,N6 T,T.qm.b⟩
def qw(T:Tx w K mg)(a b:ag)(p:Nat)(Q:Tr->Nat->Prop)(q:af->Prop):Prop:=if a.length<=p then Q (.int 0) p else if br a p="by"/\br a (p+1)∈eU.tail then (∀j:Nat,eU[j]?=some (br a (p+1))->Q (.int j) (p+2)) else q (.ref T.acW)
theorem N7(T:Tx w K mg):aw P w K mg base (b9 P w) 4 T.qo.a T.qo.d ["self"] (cu K true 1 1 (eT T (qw T))):=by
 refine gf T.qo.F N1 rfl ∎ λaM A outer s H E q i hu m=>?_
 refine⟨_,(aH (b8 (gx (c8 (yB T) (qv 0))) (aK (bf ay)) b4)
  (aH (q0 (uI 0 ((λC g d=>aO.mono (yD T C g d) ⋯)) (dr (dy rfl rfl rfl rfl)) (by walk_at "z") (λ_ _ _ _ h=>h.1) i (rW bc rB)))
  (aH (fT 1 (eW 0 ((λC g d=>aO.mono (jT T C g d) ⋯)) (dr (dy rfl rfl rfl rfl)) (by walk_at "z") (λ_ _ _ _ h=>h.1) i))
  (aH (b8 (bX zl yx (qv 1) (Lr (mO ["must","hand","strong","fair","faint"] rfl T.wb T.wc) (o4 ay) Jz)) (aK (iP rfl rfl rfl rfl rfl rfl T.je PySem.F.excBase_ValueError T.jf bc)) b4)
  (aK (bf (Wr ["must","hand","strong","fair","faint"] rfl T.wb T.wc T.MA (qv 1) ⟨rfl,rfl,rfl,rfl⟩))))))),?_⟩
 rintro n l _ ⟨_,b,ns,p,rfl,hw,h⟩;simp only[cons_append,nil_append];rfl';simp only[c6,dm,dq];refine yC T ?_;rfl';unfold qw at h;by_cases c:b.length<=p
 .rw[if_pos (decide_eq_true c)];rw[if_pos c] at h;exact h _ rfl
 rw[if_neg (λz=>c (of_decide_eq_true z))];rw[if_neg c] at h
 try simp only[c6,dm,dq]
 refine uz T hw ⟨by walk_at "k",?_⟩;by_cases f:br b p="by";rotate_left
 .rw[if_neg f];rw[if_neg (λz=>f z.1)] at h;exact h
 rw[if_pos f]
 try simp only[c6,dm,dq]
 refine ou T hw ?_;rfl';refine⟨∎,eU,rfl,?_⟩;refine kR (ns:=eU.tail) ?_;rfl';split
 .rename_i d;rw[if_neg (λz=>absurd z.2 (by simpa using d))] at h;exact h
 .rename_i d;have d:br b (p+1)∈eU.tail:=by simpa using d
  rw[if_pos ⟨f,d⟩] at h;have j:br b (p+1)="hand"\/br b (p+1)="strong"\/br b (p+1)="fair"\/br b (p+1)="faint":=by
   unfold eU at d;simpa using d
  rcases j with e |e |e |e
  .rw[e] at h ⊢;exact⟨1,by walk_at "k",by walk_at "k",h 1 (by walk_at "k") _ rfl⟩
  .rw[e] at h ⊢;exact⟨2,by walk_at "k",by walk_at "k",h 2 (by walk_at "k") _ rfl⟩
  .rw[e] at h ⊢;exact⟨3,by walk_at "k",by walk_at "k",h 3 (by walk_at "k") _ rfl⟩
  .rw[e] at h ⊢;exact⟨4,by walk_at "k",by walk_at "k",h 4 (by walk_at "k") _ rfl⟩
theorem Q9(T:Tx w K mg):∀C g,DR T C g->aO P w K mg base (b9 P w) 4 "read_rank" C ["self"] (cu K true 1 1 (eT T (qw T))):=λC g h=>by
 let⟨rfl,rfl⟩:=h;exact⟨T.fc,_,_,T.qo.t,N7 T,T.qo.b⟩
def qB(T:Tx w K mg)(a b:ag)(p:Nat)(Q:Tr->Nat->Prop)(q:af->Prop):Prop:=if a.length<=p then Q (.int 1) p else if whole 7 (br a p).cps.toList=true/\2<=vl (br a p).cps.toList/\vl (br a p).cps.toList<=1000000 then Q (.int (vl (br a p).cps.toList)) (p+1) else q (.ref T.acW)
theorem NT(T:Tx w K mg):aw P w K mg base (b9 P w) 4 T.qp.a T.qp.d ["self"] (cu K true 1 1 (eT T (qB T))):=by
 refine gf T.qp.F NS rfl ∎ λaM A outer s H E q o hu x=>?_
 refine⟨_,(aH (b8 (gx (c8 (yB T) (qv 0))) (aK (bf ay)) b4)
  (aH (fT 1 (eW 0 ((λC g d=>aO.mono (jT T C g d) ⋯)) (dr (dy rfl rfl rfl rfl)) (by walk_at "z") (λ_ _ _ _ h=>h.1) o))
  (aH (b8 (QW.t (iB (jm (gx (qc T.nE (x9 T) (aj (qv 1) (aj (rT T.Mg) aE))))) (iL (jm (yE oM oF oM oF ay (gy ot ow T.nM (aj (qv 1) aE)) (rT T.Mh)))))) (aK (iP rfl rfl rfl rfl rfl rfl T.je PySem.F.excBase_ValueError T.jf bc)) b4)
  (aK (bf (gy ot ow T.nM (aj (qv 1) aE))))))),?_⟩
 rintro D v _ ⟨_,n,ns,p,rfl,hw,h⟩;simp only[cons_append,nil_append];rfl';simp only[c6,dm,dq];refine yC T ?_;rfl';unfold qB at h;by_cases c:n.length<=p
 .rw[if_pos (decide_eq_true c)];rw[if_pos c] at h;exact h _ rfl
 rw[if_neg (λz=>c (of_decide_eq_true z))];rw[if_neg c] at h
 try simp only[c6,dm,dq]
 refine ou T hw ?_;rfl';have m:=ra hw p;obtain⟨L,e⟩:∃L,br n p=tx L:=⟨_,(kT _).symm⟩;rw[e] at m ⊢;simp only[e,fg] at h;rw[cg] at m;refine⟨rfl,L,7,rfl,⋯,λj=>?_⟩;rfl';by_cases b:whole 7 L=true;rotate_left
 .rw[if_pos (by simp[b])];rw[if_neg (λz=>b z.1)] at h;exact h
 rw[if_neg (by simp[b])];let⟨r,y,u,B⟩:=jY b;have l:intText? (tx L)=some (vl L:Int):=intText_digits (q9 u) r (by rw[cg];omega);refine⟨_,l,by rw[cg];omega,?_⟩;by_cases f:2<=vl L;rotate_left
 .rw[if_neg (λz=>f (by have:=of_decide_eq_true z;omega))];rw[if_neg (λz=>f z.2.1)] at h;exact h
 rw[if_pos (decide_eq_true ⋯)];by_cases i:vl L<=1000000;rotate_left
 .rw[if_pos (by simp;omega)];rw[if_neg (λz=>i z.2.2)] at h;exact h
 rw[if_neg (by simp;omega)];rw[if_pos ⟨b,f,i⟩] at h;exact⟨_,l,by rw[cg];omega,h _ rfl⟩
theorem Pj(T:Tx w K mg):∀C g,DR T C g->aO P w K mg base (b9 P w) 4 "read_weight" C ["self"] (cu K true 1 1 (eT T (qB T))):=λC g h=>by
 let⟨rfl,rfl⟩:=h;exact⟨T.fc,_,_,T.qp.t,NT T,T.qp.b⟩
theorem Lx(T:Tx w K mg)(a ns:ag)(p:Nat):bW (cc T .o a ns p)=true:=by
 simp only[cc,vi,eL,E6,Gh,rQ,yr,Bool.and_self]
theorem JI(T:Tx w K mg){a ns:ag}{p:Nat}{Q:aq}(h:Q (cc T .o a ns p)):gQ (some (cc T .o a ns p)) Q:=⟨AM T _ _ _,h⟩
theorem YH:lr []:=⟨zero_le _,λ_ m=>nomatch m⟩
structure nk(ws ns:ag)(x:Wi)(p1 p3 p4 p5:Nat):Prop where
 k:x.k<3
 a:lO ws (dM ws ns 63) 0=.ok x.a p1
 v:(kB ws p1).1=dX x.k
 b:lO ws (dM ws ns 63) (kB ws p1).2=.ok x.b p3
 r:(ws.length<=p3/\x.r=0/\p4=p3)\/(¬ ws.length<=p3/\br ws p3="by"/\1<=x.r/\x.r<5/\eU[x.r.toNat]?=some (br ws (p3+1))/\p4=p3+2)
 w:(ws.length<=p4/\x.v=1/\p5=p4)\/(¬ ws.length<=p4/\whole 7 (br ws p4).cps.toList=true/\x.v=vl (br ws p4).cps.toList/\2<=x.v/\x.v<=1000000/\p5=p4+1)
 e:ws.length<=p5
def Wi.mk'(x:Wi):Prop:=x.a.dep<=64/\x.b.dep<=64/\(bC x.a).length+(bC x.b).length<60/\(dA (eV x.a++eV x.b)).length<=1
def M4(T:Tx w K mg):dN:=λa Q q=>a.length=2/\∃(x:Str)(ns:ag),a=[.str x,.av .f ↥ns]/\lr ns/\x.length<=20000/\(60<(d6 x).length->q (.ref T.acW))/\((d6 x).length<=60->∃(y:Wi)(p1 p3 b c:Nat),nk (d6 x) ns y p1 p3 b c/\y.mk'/\∀j,Q (dC T .o y) j)
theorem YI{i j:Nat}{x:Str}(c:eU[i]?=some x)(d:eU[j]?=some x):i=j:=by
 have a:i<5:=by
  rcases lt_or_ge i 5 with z |z
  .exact z
  .rw[getElem?_eq_none (by exact z)] at c;cases c
 have b:j<5:=by
  rcases lt_or_ge j 5 with z |z
  .exact z
  .rw[getElem?_eq_none (by exact z)] at d;cases d
 exact (show ∀i,i<5->∀j,j<5->eU[i]?=eU[j]?->i=j by walk_at "k") i a j b (c.trans d.symm)
theorem Iq(T:Tx w K mg){r:PR}{t:Tm}{p:Nat}{Q:Tr->Nat->Prop}{q:af->Prop}(e:r=.ok t p)(h:∀v,m9 T t v->Q v p):r.run T Q q:=by rw[e];exact h
theorem zI(T:Tx w K mg){C:ae}{a b:Tm}{r v:Int}{Q:aq}{q:af->Prop}(g:C=T.aay\/C=T.aaF\/C=T.aaM)(c:a.dep<=64)(d:b.dep<=64)(f:(bC a).length+(bC b).length<60)(l:(dA (eV a++eV b)).length<=1)(h:Q (Tr.ins .o C [("near",bg T a),("far",bg T b),("rank",.int r),("weight",.int v)])):CZ T [.ins .o C [],bg T a,bg T b,.int r,.int v] (λt i=>t=.aZ/\gQ i[0]? Q) q:=
 ⟨rfl,C,a,b,r,v,rfl,g,c,d,f,λz=>absurd z ⋯,λ_ j e=>⟨rfl,by rw[e];exact⟨by simp only[lj,dt,kd,mi,Bool.and_self],h⟩⟩⟩
theorem Ku(T:Tx w K mg){f ns:ag}{x:Wi}{p1 p3 l s:Nat}(o:nk f ns x p1 p3 l s){F:Tr->Nat->Prop}{q:af->Prop}(h:F (.int x.r) l):qw T f ns p3 F q:=by
 unfold qw;rcases o.r with⟨a,b,c⟩ |⟨a,b,c,d,e,g⟩
 .rw[if_pos a,<- b,<- c];exact h
 .have m:br f (p3+1)∈eU.tail:=by
   refine mem_of_getElem? (i:=x.r.toNat - 1) ?_;rw[List.getElem?_tail,show x.r.toNat - 1+1=x.r.toNat by omega];exact e
  rw[if_neg a,if_pos ⟨b,m⟩];intro j p;have n:=YI p e;rw[n,<- g,show ((x.r.toNat:Nat):Int)=x.r by omega];exact h
theorem Kv(T:Tx w K mg){j ns:ag}{x:Wi}{p1 p3 f i:Nat}(l:nk j ns x p1 p3 f i){F:Tr->Nat->Prop}{q:af->Prop}(h:F (.int x.v) i):qB T j ns f F q:=by
 unfold qB;rcases l.w with⟨a,b,c⟩ |⟨a,b,c,d,e,g⟩
 .rw[if_pos a,<- b,<- c];exact h
 .rw[if_neg a,if_pos ⟨b,⋯,⋯⟩,<- g,<- c];exact h
theorem Pk(T:Tx w K mg):aw P w K mg base (b9 P w) 140 T.sT.a T.sT.d ["text","names"] (cu K true 0 2 (M4 T)):=by
 refine gf T.sT.F OR rfl ∎ λaM A outer s H E q c hu G=>?_
 refine⟨_,(aH (mK 2 (uH T.pK.t ((Of T).mono ⋯) (dr (dy rfl rfl rfl rfl)) (by walk_at "z") (λ_ _ _ h=>h.1) c rfl T.LW T.pK.b (QA.aB (aj (qv 0) (aj (qv 1) aE)))))
  (aH (fT 3 (eW 2 ((λC g d=>aO.mono (Ex T 63 C g d) ⋯)) (dr (dy rfl rfl rfl rfl)) (by walk_at "z") (λ_ _ _ _ h=>h.1) c))
  (aH (fT 4 (eW 2 ((λC g d=>aO.mono (Q8 T C g d) ⋯)) (dr (dy rfl rfl rfl rfl)) (by walk_at "z") (λ_ _ _ _ h=>h.1) c))
  (aH (fT 5 (eW 2 ((λC g d=>aO.mono (Ex T 63 C g d) ⋯)) (dr (dy rfl rfl rfl rfl)) (by walk_at "z") (λ_ _ _ _ h=>h.1) c))
  (aH (fT 6 (eW 2 ((λC g d=>aO.mono (Q9 T C g d) ⋯)) (dr (dy rfl rfl rfl rfl)) (by walk_at "z") (λ_ _ _ _ h=>h.1) c))
  (aH (fT 7 (eW 2 ((λC g d=>aO.mono (Pj T C g d) ⋯)) (dr (dy rfl rfl rfl rfl)) (by walk_at "z") (λ_ _ _ _ h=>h.1) c))
  (aH (q0 (eW 2 ((λC g d=>aO.mono (U2 T C g d) ⋯)) (dr (dy rfl rfl rfl rfl)) (by walk_at "z") (λ_ _ _ _ h=>h.1) c))
  (aH (b8 (bX dE dF (qv 4) bc) (aK (bf (uH T.L8 ((xU T).mono ⋯) (dr (dy rfl rfl rfl rfl)) (by walk_at "z") (λ_ _ _ h=>h.1) c rfl T.LL T.jC.b (QA.aB (aj (qv 3) (aj (qv 5) (aj (qv 6) (aj (qv 7) aE)))))))) b4)
  (aH (b8 (bX dE dF (qv 4) bc) (aK (bf (uH T.Mv ((xU T).mono ⋯) (dr (dy rfl rfl rfl rfl)) (by walk_at "z") (λ_ _ _ h=>h.1) c rfl T.LQ T.jC.b (QA.aB (aj (qv 3) (aj (qv 5) (aj (qv 6) (aj (qv 7) aE)))))))) b4)
  (aK (bf (uH T.jC.t ((xU T).mono ⋯) (dr (dy rfl rfl rfl rfl)) (by walk_at "z") (λ_ _ _ h=>h.1) c rfl T.L0 T.jC.b (QA.aB (aj (qv 3) (aj (qv 5) (aj (qv 6) (aj (qv 7) aE))))))))))))))))),?_⟩
 rintro L D _ ⟨_,x,ns,rfl,hn,p,u,z⟩;simp only[cons_append,nil_append];rfl';refine⟨rfl,x,ns,rfl,p,u,λo j e=>⟨rfl,?_⟩⟩;have hw:=YD o p;let⟨y,p1,p3,I,J,f,hm,h⟩:=z o;rw[e];refine JI T ⟨Lx T _ _ _,?_⟩;simp only[c6,dm,dq];refine fK T hw ⟨hn,Iq T f.a λv hv=>?_⟩;simp only[mZ T hv,c6,dm,dq,true_and];clear hv v;refine fK T hw ?_;show (if _ then _ else _);rw[if_pos (by rw[f.v];unfold dX vU;split<;>(try split)<;>simp)];rfl'
 try simp only[c6,dm,dq]
 refine fK T hw ⟨hn,Iq T f.b λv hv=>?_⟩;simp only[mZ T hv,c6,dm,dq,true_and];clear hv v;refine fK T hw (Ku T f ?_);simp only[ue,c6,dm,dq];refine fK T hw (Kv T f ?_);simp only[ue,c6,dm,dq];refine fK T hw ?_;show (if _ then _ else _);rw[if_pos f.e];let⟨i,l,m,n⟩:=hm;rw[f.v];let⟨k,a,b,r,v⟩:=y;have B:=f.k;simp only at i l m n B ⊢;simp only[dS,ke,dB,gZ];have:k=0\/k=1\/k=2:=⋯
 rcases this with rfl |rfl |rfl
 .rw[show dX 0=Str.ofString "is" from rfl,if_neg (by walk_at "k"),if_neg (by walk_at "k")];refine zI T (.inl rfl) i l m n ⟨by simp only[lj,dt,kd,mi,Bool.and_self],h _⟩
 .rw[show dX 1=Str.ofString "at least" from rfl,if_pos (by walk_at "k")];refine zI T (.inr (.inl rfl)) i l m n ⟨by simp only[lj,dt,kd,mi,Bool.and_self],h _⟩
 .rw[show dX 2=Str.ofString "at most" from rfl,if_neg (by walk_at "k"),if_pos (by walk_at "k")];refine zI T (.inr (.inr rfl)) i l m n ⟨by simp only[lj,dt,kd,mi,Bool.and_self],h _⟩
def Cy(T:Tx w K mg):dN:=λa Q q=>a.length=1/\∃x:Str,a=[.str x]/\x.length<=20000/\(60<(d6 x).length->q (.ref T.acW))/\((d6 x).length<=60->∃(y:Wi)(p1 p3 b c:Nat),nk (d6 x) [] y p1 p3 b c/\y.mk'/\∀j,Q (dC T .o y) j)
theorem Ey(T:Tx w K mg):aw P w K mg base (b9 P w) 141 T.qb.a T.qb.d ["text"] (cu K true 0 1 (Cy T)):=by
 refine gf T.qb.F Qi rfl ∎ λaM A outer s H E q o hu n=>?_
 refine⟨_,(aK (bf (vP T.sT (Pk T) (aj (qv 0) (aj (gc aE) aE))))),?_⟩;rintro p m _ ⟨_,x,rfl,g,b,c⟩;rfl';refine⟨rfl,x,[],rfl,YH,g,b,λf=>?_⟩;let⟨y,p1,p3,i,l,e,hm,h⟩:=c f;exact⟨y,p1,p3,i,l,e,hm,λj=>⟨by simp only[dC,lj,dt,kd,mi,Bool.and_self],h _⟩⟩
theorem Fq{k n:Nat}(g:0<k)(h:n<10 ^ k):whole k (c9 n)=true:=by
 have i:(c9 n).length<=k:=by
  unfold c9;rw[length_map];exact (Nat.length_toDigits_le_iff ∎ g).mpr h
 have b:dig (c9 n)=true:=all_eq_true.mpr λc m=>by have:=iQ n c m;simp;omega
 have hd:c9 n=[48]\/¬ (c9 n).head?=some 48:=by
  cases e:c9 n with
  |nil=>exact absurd e (Ik n)
  |cons c r=>
   by_cases a:c=48
   .subst a;cases r with
    |nil=>exact .inl rfl
    |cons d r=>
     exfalso;have v:=kQ n;rw[e] at v;have j:vl (d::r)=n:=by rw[<- v];exact NumText.digitsVal_zero.symm
     have al:NumText.AllDigits (d::r):=λc m=>iQ n c (by rw[e];exact mem_cons_of_mem _ m)
     have t:=NumText.toDigits_all (d::r) al;have f:c9 n=(Nat.toDigits 10 (vl (d::r))).map Char.toNat:=by rw[j];rfl
     have len:(c9 n).length=r.length+2:=by rw[e];rfl
     rw[f,length_map] at len;unfold vl at len;rw[t] at len;have dl:(List.dropWhile (λx=>x == 48) (d::r)).length<=r.length+1:=by
      have:=(List.dropWhile_sublist (p:=λx=>x == 48) (l:=d::r)).length_le;exact this
     cases hdw:List.dropWhile (λx=>x == 48) (d::r) with
     |nil=>rw[hdw] at len;have len:1=r.length+2:=len;omega
     |cons x y=>
      rw[hdw] at len dl;rw[length_map] at len;omega
   .exact .inr λz=>a (by simpa using z)
 unfold whole;rw[decide_eq_false (Ik n),decide_eq_true i,b];rcases hd with hd |hd
 .rw[decide_eq_true hd];rfl
 .rw[decide_eq_false hd];simp
theorem Fs{n:Nat}(h:n<1000000):whole 6 (c9 n)=true:=Fq ∎ h
theorem Ht{L:List Nat}{a:Int}(h:L.head?=some 45↔a<0):sgn L a.natAbs=a:=by
 unfold sgn;by_cases c:a<0
 .rw[if_pos (h.mpr c)];omega
 .rw[if_neg (λz=>c (h.mp z))];omega
theorem Hu{q:Rat}(g:q.num.natAbs<1000000)(h:q.den<1000000):fo (bZ q)=some (q.num,(q.den:Int)):=by
 have a:vl (strip (dec q.num))=q.num.natAbs:=by rw[yz,kQ]
 have hw:whole 6 (strip (dec q.num))=true:=by rw[yz];exact Fs g
 by_cases hd:q.den=1
 .have e:bZ q=dec q.num:=by unfold bZ;rw[if_pos hd]
  have b:bS 47 (bZ q)=[dec q.num]:=by rw[e];exact nZ (uv _)
  let⟨r1,_⟩:=Ji b hw;have c:sgn (bZ q) (vl (strip (dec q.num)))=q.num:=by rw[a];exact Ht (by rw[e];exact oy _)
  rw[c] at r1;have d:Rat.divInt q.num 1=q:=by
   have z:=Rat.num_divInt_den q;rw[hd] at z;exact z
  rw[d] at r1;rw[r1 rfl,hd];rfl
 .have e:bZ q=dec q.num++47::c9 q.den:=by unfold bZ;rw[if_neg hd]
  have b:bS 47 (bZ q)=[dec q.num,c9 q.den]:=by rw[e,ua (uv _),nZ (F6 _)]
  have dp:=q.den_pos;let⟨r1,_⟩:=Jj b hw (Fs h) (by rw[kQ];omega);have i:(bZ q).head?=some 45↔q.num<0:=by
   have f:=(oV b).2;rw[<- f];exact oy _
  have c:sgn (bZ q) (vl (strip (dec q.num)))=q.num:=by rw[a];exact Ht i
  rw[c,kQ,Rat.num_divInt_den] at r1;exact r1 rfl
def Tm.gd(d:Bool):Tm->Prop
 |.num q=>q.num.natAbs < 1000000 /\ q.den < 1000000
 |.aR a n=>(a ∈ iH \/ iU a=true) /\ iU a=d /\ kE n.cps.toList=true /\ ¬ (n = "frame" /\ (a = "gap" \/ a = "drop"))
 |.times q t=>(q.num.natAbs < 1000000 /\ q.den < 1000000) /\ t.gd d
 |.plus a b=>a.gd d /\ b.gd d
 |.minus a b=>a.gd d /\ b.gd d
abbrev fP:Str:="and"
abbrev d5:Str:="less"
abbrev jG:Str:="times"
abbrev pk:Str:="of"
abbrev lB:Str:="("
abbrev ni:Str:=")"
inductive Wt:Bool->Tm->List Str->Prop
 |num (b:Bool) (q:Rat):Wt b (.num q) [tx (bZ q)]
 |aR (b:Bool) (a n:Str):Wt b (.aR a n) [a,pk,n]
 |times (b:Bool) (q:Rat) {t:Tm} {ws:List Str}:Wt true t ws -> Wt b (.times q t) (tx (bZ q)::jG::ws)
 |par (b:Bool) {t:Tm} {ws:List Str}:Wt false t ws -> Wt b t (lB::(ws ++ [ni]))
 |plus {a b:Tm} {x y:List Str}:Wt false a x -> Wt true b y -> Wt false (.plus a b) (x ++ fP::y)
 |minus {a b:Tm} {x y:List Str}:Wt false a x -> Wt true b y -> Wt false (.minus a b) (x ++ d5::y)
theorem Wt.low:∀{b:Bool}{t:Tm}{c:ag},Wt b t c->Wt false t c
 |_,_,_,.num _ q=>.num _ q
 |_,_,_,.aR _ a n=>.aR _ a n
 |_,_,_,.times _ q h=>.times _ q h
 |_,_,_,.par _ h=>.par _ h
 |_,_,_,.plus h g=>.plus h g
 |_,_,_,.minus h g=>.minus h g
theorem fa{W pre r:ag}{x:Str}{p:Nat}(h:W=pre++x::r)(a:p=pre.length):br W p=x:=by
 subst h a;unfold br;rw[List.getElem?_append_right (le_refl _),Nat.sub_self];rfl
theorem Ir{W pre r:ag}{p:Nat}(h:W=pre++r)(a:p=pre.length):br W p=(r.head?).getD "":=by
 subst h a;unfold br;rw[List.getElem?_append_right (le_refl _),Nat.sub_self,List.head?_eq_getElem?]
theorem Iu{x:Str}{r:Int×Int}(h:fo x.cps.toList=some r):¬ x="("/\¬ (x∈iH\/iU x=true):=by
 have a:∀y∈(["(","left","width","right","middle","gap","top","height","bottom","centre","drop"]:ag),fo y.cps.toList=none:=by walk_at "k"
 refine⟨λz=>?_,λz=>?_⟩
 .rw[z,a "(" (by simp)] at h;cases h
 .have m:x∈(["(","left","width","right","middle","gap","top","height","bottom","centre","drop"]:ag):=by
   rcases z with z |z
   .unfold iH at z;simp only[mem_cons,not_mem_nil,or_false] at z ⊢;rcases z with z |z |z |z |z<;>simp[z]
   .have z:x∈([("top":Str),"height","bottom","centre","drop"]:ag):=of_decide_eq_true z;simp only[mem_cons,not_mem_nil,or_false] at z ⊢;rcases z with z |z |z |z |z<;>simp[z]
  rw[a x m] at h;cases h
theorem Zy(x:Str):iC [] x=x:=if_neg λz=>by have a:=z.2.1;have b:_<=0:=z.2.2;omega
theorem JJ{x:Str}(h:x∈iH\/iU x=true):¬ x="(":=λz=>by
 subst z;exact absurd h (by walk_at "k")
def JP(W:ag)(n p:Nat)(t:Tm)(a l:Nat):Prop:=∃j,j<=l/\∀k,(dM W [] n p).bind (λt a=>gu W (dM W [] n) (k+j) t a)=gu W (dM W [] n) k t a
theorem JP.one{W:ag}{n p:Nat}{t:Tm}{a l:Nat}(h:dM W [] n p=.ok t a):JP W n p t a l:=⟨0,zero_le _,λk=>by rw[h];rfl⟩
theorem JK{d:Bool}:∀{b:Bool}{t:Tm}{f:ag},Wt b t f->t.gd d->∀(n:Nat)(W pre post:ag),W=pre++f++post->f.length<=n->f.length<=60->¬ post.head?=some jG->(b=true->dM W [] n pre.length=.ok t (pre.length+f.length))/\JP W n pre.length t (pre.length+f.length) f.length:=by
 intro b t f h
 induction h with
 |num b q=>
  intro g n W pre post e hn o p;have c:dM W [] n pre.length=.ok (.num q) (pre.length+1):=by
   cases n with
   |zero=>exact absurd hn (by simp)
   |succ n=>
    have l:br W pre.length=tx (bZ q):=fa (r:=post) (by rw[e];simp) rfl;have u:¬ br W (pre.length+1)="times":=by
     rw[Ir (pre:=pre++[tx (bZ q)]) (r:=post) e (by simp)];cases hh:post.head? with
     |none=>decide +kernel
     |some x=>exact λz=>p (by rw[hh];exact congrArg some z)
    have hd:=Hu g.1 g.2;let⟨B,C⟩:=Iu (x:=tx (bZ q)) hd;unfold dM;rw[l,if_neg B,if_neg C,fg,hd];dsimp only;rw[if_neg u,Rat.num_divInt_den]
  exact⟨λ_=>c,.one c⟩
 |aR b a m=>
  intro g n W pre post e hn o p;let⟨D,N,H,I⟩:=g;have c:dM W [] n pre.length=.ok (.aR a m) (pre.length+3):=by
   cases n with
   |zero=>exact absurd hn (by simp)
   |succ n=>
    have l:br W pre.length=a:=fa (r:=pk::m::post) (by rw[e];simp) rfl;have u:br W (pre.length+1)="of":=fa (pre:=pre++[a]) (r:=m::post) (by rw[e];simp) (by simp);have G:br W (pre.length+1+1)=m:=fa (pre:=pre++[a,pk]) (r:=post) (by rw[e];simp) (by simp);unfold dM;rw[l,if_neg (JJ D),if_pos D];unfold nV;rw[u,if_pos rfl,G,Zy,if_pos ⟨H,I⟩]
  exact⟨λ_=>c,.one c⟩
 |@times b q t f h A=>
  intro g n W pre post e hn o p;simp only[length_cons] at hn o ⊢;have c:dM W [] n pre.length=.ok (.times q t) (pre.length+(f.length+1+1)):=by
   cases n with
   |zero=>exact absurd hn (by simp)
   |succ n=>
    have l:br W pre.length=tx (bZ q):=fa (r:=jG::(f++post)) (by rw[e];simp) rfl;have u:br W (pre.length+1)="times":=fa (pre:=pre++[tx (bZ q)]) (r:=f++post) (by rw[e];simp) (by simp);have hd:=Hu g.1.1 g.1.2;let⟨B,C⟩:=Iu (x:=tx (bZ q)) hd;have i:=(A g.2 n W (pre++[tx (bZ q),jG]) post (by rw[e];simp) ⋯ ⋯ p).1 rfl;rw[length_append] at i;have i:dM W [] n (pre.length+2)=.ok t (pre.length+2+f.length):=i;unfold dM;rw[l,if_neg B,if_neg C,fg,hd];dsimp only;rw[if_pos u,i,Rat.num_divInt_den];show PR.ok _ _=_;congr 1;omega
  exact⟨λ_=>c,.one c⟩
 |@par b t f h A=>
  intro g n W pre post e hn o p;simp only[length_cons,length_append,length_nil] at hn o ⊢;have c:dM W [] n pre.length=.ok t (pre.length+(f.length+(0+1)+1)):=by
   cases n with
   |zero=>exact absurd hn (by simp)
   |succ n=>
    have l:br W pre.length=lB:=fa (r:=f++ni::post) (by rw[e];simp) rfl;have u:br W (pre.length+1+f.length)=")":=fa (pre:=pre++lB::f) (r:=post) (by rw[e];simp) (by simp;omega);let⟨j,E,i⟩:=(A g n W (pre++[lB]) (ni::post) (by rw[e];simp) ⋯ ⋯ (by show ¬ some _=some _;decide +kernel)).2;rw[length_append] at i;have i:=i (60 - j+1);rw[show 60 - j+1+j=61 by omega] at i;unfold dM;rw[l,if_pos rfl];unfold lO;have i:(dM W [] n (pre.length+1)).bind (λt M=>gu W (dM W [] n) 61 t M)=gu W (dM W [] n) (60 - j+1) t (pre.length+1+f.length):=i;rw[i];unfold gu;rw[u,if_neg (by walk_at "k"),if_neg (by walk_at "k")];show (if br W (pre.length+1+f.length)=")" then PR.ok t (pre.length+1+f.length+1) else PR.er)=_;rw[if_pos u];congr 1;omega
  exact⟨λ_=>c,.one c⟩
 |@plus a b x y J L v w=>
  intro g n W pre post e hn o p;simp only[length_cons,length_append] at hn o ⊢;refine⟨(λz=>nomatch z),?_⟩;have l:br W (pre.length+x.length)="and":=fa (pre:=pre++x) (r:=y++post) (by rw[e];simp) (by simp);let⟨j,E,i⟩:=(v g.1 n W pre (fP::(y++post)) (by rw[e];simp) ⋯ ⋯ (by show ¬ some _=some _;decide +kernel)).2;have s:=(w g.2 n W (pre++x++[fP]) post (by rw[e];simp) ⋯ ⋯ p).1 rfl;rw[length_append,length_append] at s;have s:dM W [] n (pre.length+x.length+1)=.ok b (pre.length+x.length+1+y.length):=s;refine⟨j+1,⋯,λk=>?_⟩;have i:=i (k+1);rw[show k+1+j=k+(j+1) by omega] at i;rw[i]
  conv=>lhs;unfold gu
  rw[if_pos l,s];show gu _ _ _ _ _=_;congr 1;omega
 |@minus a b x y J L v w=>
  intro g n W pre post e hn o p;simp only[length_cons,length_append] at hn o ⊢;refine⟨(λz=>nomatch z),?_⟩;have l:br W (pre.length+x.length)="less":=fa (pre:=pre++x) (r:=y++post) (by rw[e];simp) (by simp);let⟨j,E,i⟩:=(v g.1 n W pre (d5::(y++post)) (by rw[e];simp) ⋯ ⋯ (by show ¬ some _=some _;decide +kernel)).2;have s:=(w g.2 n W (pre++x++[d5]) post (by rw[e];simp) ⋯ ⋯ p).1 rfl;rw[length_append,length_append] at s;have s:dM W [] n (pre.length+x.length+1)=.ok b (pre.length+x.length+1+y.length):=s;refine⟨j+1,⋯,λk=>?_⟩;have i:=i (k+1);rw[show k+1+j=k+(j+1) by omega] at i;rw[i]
  conv=>lhs;unfold gu
  rw[l,if_neg (by walk_at "k"),if_pos rfl,s];show gu _ _ _ _ _=_;congr 1;omega
theorem Iv{d:Bool}{t:Tm}{a W pre post:ag}(h:Wt false t a)(g:t.gd d)(b:W=pre++a++post)(c:W.length<=60)(m:¬ post.head?=some jG)(ha:¬ post.head?=some fP)(f:¬ post.head?=some d5):lO W (dM W [] 63) pre.length=.ok t (pre.length+a.length):=by
 have l:a.length<=60:=by rw[b] at c;simp only[length_append] at c;omega
 let⟨j,o,i⟩:=(JK h g 63 W pre post b ⋯ l m).2;have i:=i (60 - j+1);rw[show 60 - j+1+j=61 by omega] at i;unfold lO;rw[i];unfold gu;have e:=Ir (p:=pre.length+a.length) (pre:=pre++a) (r:=post) b (by simp);have ne:∀x:Str,¬ x=""->¬ post.head?=some x->¬ br W (pre.length+a.length)=x:=λx n h z=>by
  rw[e] at z;cases hh:post.head? with
  |none=>rw[hh] at z;exact n z.symm
  |some y=>rw[hh] at z h;exact h (congrArg some z)
 rw[if_neg (ne _ (by walk_at "k") ha),if_neg (ne _ (by walk_at "k") f)]
def jn(a:ag):Str:=tx (eY 32 (a.map (·.cps.toList)))
theorem Ft(c:Nat):∀(a b:List (List Nat)),a≠[]->b≠[]->eY c (a++b)=eY c a++c::eY c b
 |[],_,h,_=>absurd rfl h
 |[p],b,_,h=>by
  cases b with
  |nil=>exact absurd rfl h
  |cons q b=>rfl
 |p::q::a,b,_,h=>by
  have d:=Ft c (q::a) b (λz=>nomatch z) h;show p++c::eY c ((q::a)++b)=(p++c::eY c (q::a))++c::eY c b;rw[d];simp
theorem oH(x:Str):jn [x]=x:=kT x
theorem Kw:(" ":Str)=tx [32]:=by walk_at "k"
theorem jk{a b:ag}(ha:a≠[])(c:b≠[]):jn (a++b)=jn a++" "++jn b:=by
 unfold jn;rw[map_append,Ft 32 _ _ (by simpa using ha) (by simpa using c),Kw,kY,kY];simp
def gW(ws:ag):Prop:=∀y∈ws,32 ∉ y.cps.toList
theorem zJ{a:ag}(h:a≠[])(f:gW a):d6 (jn a)=a:=by
 unfold d6 jn;rw[fg,xX (by simpa using h) (λp m=>by let⟨y,b,rfl⟩:=mem_map.mp m;exact f y b),map_map]
 conv=>rhs;rw[<- List.map_id a]
 exact map_congr_left λy _=>kT y
theorem Wt.ne:∀{b:Bool}{t:Tm}{a:ag},Wt b t a->a≠[]
 |_,_,_,.num _ _=>λz=>nomatch z
 |_,_,_,.aR _ _ _=>λz=>nomatch z
 |_,_,_,.times _ _ _=>λz=>nomatch z
 |_,_,_,.par _ _=>λz=>nomatch z
 |_,_,_,.plus _ _=>λz=>by simp at z
 |_,_,_,.minus _ _=>λz=>by simp at z
def Wx(b:Bool)(t:Tm)(x:Str):Prop:=∃a,Wt b t a/\gW a/\x=jn a
def nq(q:Rat):Prop:=q.num.natAbs<1000000/\q.den<1000000
theorem Hv(q:Rat):32 ∉ bZ q:=λm=>by
 have hd:∀a:Int,32 ∉ dec a:=λa m=>by
  unfold dec at m;split at m
  .rcases mem_cons.mp m with h |h
   .cases h
   .have:=iQ _ _ h;omega
  .have:=iQ _ _ m;omega
 unfold bZ at m;split at m
 .exact hd _ m
 .rcases mem_append.mp m with h |h
  .exact hd _ h
  .rcases mem_cons.mp h with h |h
   .cases h
   .have:=iQ _ _ h;omega
theorem rb{x:Str}(h:32 ∉ x.cps.toList):gW [x]:=λy m=>by rw[mem_singleton.mp m];exact h
theorem jl{x:Str}{a:ag}(h:32 ∉ x.cps.toList)(f:gW a):gW (x::a):=λy m=>(mem_cons.mp m).elim (λe=>by rw[e];exact h) (f y)
theorem jU{a b:ag}(f:gW a)(g:gW b):gW (a++b):=λy m=>(mem_append.mp m).elim (f y) (g y)
theorem JL{L:List Nat}(h:kE L=true):32 ∉ L:=λm=>by
 unfold kE at h;simp only[and_eq_true,all_eq_true] at h;have:=h.2.2 32 m;exact absurd this.1 ∎
theorem Iw{a:Str}(h:a∈iH\/iU a=true):32 ∉ a.cps.toList/\a.length<=6:=by
 have b:∀a∈iH,32 ∉ a.cps.toList/\a.length<=6:=by walk_at "k"
 have c:∀a∈([("top":Str),"height","bottom","centre","drop"]:ag),32 ∉ a.cps.toList/\a.length<=6:=by walk_at "k"
 rcases h with h |h
 .exact b a h
 .exact c a (of_decide_eq_true h)
theorem jq(x:Str){c:ag}(h:c≠[]):jn (x::c)=x++" "++jn c:=by
 have e:=jk (a:=[x]) (b:=c) (λz=>nomatch z) h;rw[oH] at e;exact e
theorem Ly:(" of ":Str)=" "++pk++" ":=by walk_at "k"
theorem WC:(" times ":Str)=" "++jG++" ":=by walk_at "k"
theorem Kx:(" and ":Str)=" "++fP++" ":=by walk_at "k"
theorem JM:(" less ":Str)=" "++d5++" ":=by walk_at "k"
theorem Lz:("( ":Str)=lB++" ":=by walk_at "k"
theorem LA:(" )":Str)=" "++ni:=by walk_at "k"
theorem Wx.low{b:Bool}{t:Tm}{x:Str}(h:Wx b t x):Wx false t x:=by
 let⟨d,a,c,e⟩:=h;exact⟨d,a.low,c,e⟩
def vw(k:Nat):ag:=if k=0 then ["is"] else if k=1 then ["at","least"] else ["at","most"]
def tw(r v:Int):ag:=if r=0 then [] else if v=1 then ["by",(eU[r.toNat]?).getD ""] else ["by",(eU[r.toNat]?).getD "",tx (dec v)]
theorem Jm{k:Nat}(h:k<3):jn (vw k)=dX k/\gW (vw k)/\vw k≠[]:=by
 have:k=0\/k=1\/k=2:=⋯
 rcases this with rfl |rfl |rfl
 .exact⟨by walk_at "k",by unfold gW;decide +kernel,by walk_at "k"⟩
 .exact⟨by walk_at "k",by unfold gW;decide +kernel,by walk_at "k"⟩
 .exact⟨by walk_at "k",by unfold gW;decide +kernel,by walk_at "k"⟩
theorem uV{r:Int}(a:0<=r)(b:r<5):∃R:Str,eU[r.toNat]?=some R/\32 ∉ R.cps.toList/\R.length<=6:=by
 have:r=0\/r=1\/r=2\/r=3\/r=4:=⋯
 rcases this with rfl |rfl |rfl |rfl |rfl
 .exact⟨"must",rfl,by walk_at "k",∎⟩
 .exact⟨"hand",rfl,by walk_at "k",∎⟩
 .exact⟨"strong",rfl,by walk_at "k",∎⟩
 .exact⟨"fair",rfl,by walk_at "k",∎⟩
 .exact⟨"faint",rfl,by walk_at "k",∎⟩
theorem Zz(a:Int):32 ∉ dec a:=λm=>by
 unfold dec at m;split at m
 .rcases mem_cons.mp m with h |h
  .cases h
  .have:=iQ _ _ h;omega
 .have:=iQ _ _ m;omega
theorem AO:(" by ":Str)=" "++Str.ofString "by"++" ":=by walk_at "k"
theorem Iy{r:Int}(v:Int)(a:0<=r)(b:r<5):gW (tw r v):=by
 let⟨R,e,f,_⟩:=uV a b;unfold tw;rw[e,getD_some];split
 .exact λ_ m=>nomatch m
 .split
  .exact jl (by walk_at "k") (rb f)
  .exact jl (by walk_at "k") (jl f (rb (Zz v)))
theorem Jn{a:ag}(r v:Int)(h:a≠[]):jn (a++tw r v)=jn a++ew r v:=by
 unfold tw ew;split
 .rw[append_nil,zf]
 .split
  .rw[jk h (cons_ne_nil _ _),jq _ (cons_ne_nil _ _),oH,AO];simp only[fh]
  .rw[jk h (cons_ne_nil _ _),jq _ (cons_ne_nil _ _),jq _ (cons_ne_nil _ _),oH,AO];simp only[fh]
theorem Iz{v:Int}(h:0<=v):dec v=c9 v.toNat:=by
 unfold dec;rw[if_neg ⋯,show v.natAbs=v.toNat by omega]
theorem JN{d:Bool}{y:Wi}{x z:Str}(Q:Wx false y.a x)(hz:Wx false y.b z)(A:y.a.gd d)(B:y.b.gd d)(u:y.k<3)(s:0<=y.r)(l:y.r<5)(v0:1<=y.v)(v1:y.v<=1000000)(hv:y.r=0->y.v=1)(o:(d6 (x++" "++dX y.k++" "++z++ew y.r y.v)).length<=60):∃p1 p3 e f,nk (d6 (x++" "++dX y.k++" "++z++ew y.r y.v)) [] y p1 p3 e f:=by
 ∎;let⟨k,a,b,r,v⟩:=y;let⟨us,j,O,rfl⟩:=Q;let⟨vs,q,N,rfl⟩:=hz;∎;simp only at j q A B u s l v0 v1 hv o ⊢;let⟨w1,w2,w3⟩:=Jm u;have L:jn us++" "++dX k++" "++jn vs++ew r v=jn (us++vw k++vs++tw r v):=by
  rw[Jn r v (by simp[j.ne]),jk (by simp[j.ne]) q.ne,jk j.ne w3,w1]
 have J:d6 (jn us++" "++dX k++" "++jn vs++ew r v)=us++vw k++vs++tw r v:=by
  rw[L];exact zJ (by simp[j.ne]) (jU (jU (jU O w2) N) (Iy v s l))
 rw[J] at o ⊢;let⟨R,n,fR,_⟩:=uV s l;have vh:∃c rest,vw k=c::rest/\¬ c=jG/\¬ c=fP/\¬ c=d5:=by
  have:k=0\/k=1\/k=2:=⋯
  rcases this with rfl |rfl |rfl
  .exact⟨_,_,rfl,by walk_at "k",by walk_at "k",by walk_at "k"⟩
  .exact⟨_,_,rfl,by walk_at "k",by walk_at "k",by walk_at "k"⟩
  .exact⟨_,_,rfl,by walk_at "k",by walk_at "k",by walk_at "k"⟩
 let⟨c,rest,M,G,H,I⟩:=vh;have hd:∀x:Str,¬ c=x->¬ (vw k++vs++tw r v).head?=some x:=λx h z=>by rw[M] at z;exact h (Option.some.inj z)
 have D:=Iv (W:=us++vw k++vs++tw r v) (pre:=[]) (post:=vw k++vs++tw r v) j A (by simp) o (hd _ G) (hd _ H) (hd _ I);rw[length_nil,Nat.zero_add] at D;have pv:kB (us++vw k++vs++tw r v) us.length=(dX k,us.length+(vw k).length):=by
  have:k=0\/k=1\/k=2:=⋯
  unfold kB;rcases this with rfl |rfl |rfl
  .have e1:br (us++vw 0++vs++tw r v) us.length="is":=fa (pre:=us) (r:=vs++tw r v) (by simp[vw]) rfl;rw[e1,if_neg (by walk_at "k")];rfl
  .have e1:br (us++vw 1++vs++tw r v) us.length="at":=fa (pre:=us) (r:=Str.ofString "least"::(vs++tw r v)) (by simp[vw]) rfl;have p:br (us++vw 1++vs++tw r v) (us.length+1)="least":=fa (pre:=us++[Str.ofString "at"]) (r:=vs++tw r v) (by simp[vw]) (by simp);rw[e1,if_pos rfl,p];show (_,_)=(_,_)
   congr 1
  .have e1:br (us++vw 2++vs++tw r v) us.length="at":=fa (pre:=us) (r:=Str.ofString "most"::(vs++tw r v)) (by simp[vw]) rfl;have p:br (us++vw 2++vs++tw r v) (us.length+1)="most":=fa (pre:=us++[Str.ofString "at"]) (r:=vs++tw r v) (by simp[vw]) (by simp);rw[e1,if_pos rfl,p];show (_,_)=(_,_)
   congr 1
 have i:∀x:Str,¬ Str.ofString "by"=x->¬ (tw r v).head?=some x:=λx h z=>by
  unfold tw at z;split at z
  .cases z
  .split at z
   .exact h (Option.some.inj z)
   .exact h (Option.some.inj z)
 have E:=Iv (W:=us++vw k++vs++tw r v) (pre:=us++vw k) (post:=tw r v) q B rfl o (i _ (by walk_at "k")) (i _ (by walk_at "k")) (i _ (by walk_at "k"));rw[length_append] at E;have lW:(us++vw k++vs++tw r v).length=us.length+(vw k).length+vs.length+(tw r v).length:=by simp only[length_append]
 have g:∀e f,((us++vw k++vs++tw r v).length<=us.length+(vw k).length+vs.length/\r=0/\e=us.length+(vw k).length+vs.length\/¬ (us++vw k++vs++tw r v).length<=us.length+(vw k).length+vs.length/\br (us++vw k++vs++tw r v) (us.length+(vw k).length+vs.length)="by"/\1<=r/\r<5/\eU[r.toNat]?=some (br (us++vw k++vs++tw r v) (us.length+(vw k).length+vs.length+1))/\e=us.length+(vw k).length+vs.length+2)->((us++vw k++vs++tw r v).length<=e/\v=1/\f=e\/¬ (us++vw k++vs++tw r v).length<=e/\whole 7 (br (us++vw k++vs++tw r v) e).cps.toList=true/\v=vl (br (us++vw k++vs++tw r v) e).cps.toList/\2<=v/\v<=1000000/\f=e+1)->(us++vw k++vs++tw r v).length<=f->∃p1 p3 e f,nk (us++vw k++vs++tw r v) [] ⟨k,a,b,r,v⟩ p1 p3 e f:=λe f U Y q3=>⟨us.length,us.length+(vw k).length+vs.length,e,f,u,D,by rw[pv],by rw[pv];exact E,U,Y,q3⟩
 by_cases m:r=0
 .have et:tw r v=[]:=by unfold tw;rw[if_pos m]
  have C:(tw r v).length=0:=by rw[et];rfl
  exact g _ _ (.inl ⟨⋯,m,rfl⟩) (.inl ⟨⋯,hv m,rfl⟩) ⋯
 .by_cases hv1:v=1
  .have et:tw r v=[Str.ofString "by",R]:=by unfold tw;rw[if_neg m,if_pos hv1,n];rfl
   have C:(tw r v).length=2:=by rw[et];rfl
   refine g _ _ (.inr ⟨⋯,?_,⋯,l,?_,rfl⟩) (.inl ⟨⋯,hv1,rfl⟩) ⋯
   .exact fa (pre:=us++vw k++vs) (r:=[R]) (by rw[et]) (by first |(simp;done) |(simp;omega))
   .rw[n,fa (x:=R) (pre:=us++vw k++vs++[Str.ofString "by"]) (r:=[]) (by rw[et];simp) (by first |(simp;done) |(simp;omega))]
  .have et:tw r v=[Str.ofString "by",R,tx (dec v)]:=by unfold tw;rw[if_neg m,if_neg hv1,n];rfl
   have C:(tw r v).length=3:=by rw[et];rfl
   have w:br (us++vw k++vs++tw r v) (us.length+(vw k).length+vs.length+2)=tx (dec v):=fa (pre:=us++vw k++vs++[Str.ofString "by",R]) (r:=[]) (by rw[et];simp) (by first |(simp;done) |(simp;omega));refine g _ _ (.inr ⟨⋯,?_,⋯,l,?_,rfl⟩) (.inr ⟨⋯,?_,?_,⋯,⋯,rfl⟩) ⋯
   .exact fa (pre:=us++vw k++vs) (r:=[R,tx (dec v)]) (by rw[et]) (by first |(simp;done) |(simp;omega))
   .rw[n,fa (x:=R) (pre:=us++vw k++vs++[Str.ofString "by"]) (r:=[tx (dec v)]) (by rw[et];simp) (by first |(simp;done) |(simp;omega))]
   .rw[w,fg,Iz ⋯];exact Fq ∎ ⋯
   .rw[w,fg,Iz ⋯,kQ];omega
def Nm:bQ:=cA 2 λb Q=>∃a n:Str,b=[.str a,.str n]/\a.length<=100/\n.length<=100/\Q (.str (cB a n))
theorem PZ(T:Tx w K mg){z:Bool}:aw P w K mg base aV 1 T.sR.a T.sR.d ["word","name"] (aX K z 0 2 Nm):=by
 refine bH T.sR.F Pg rfl ∎ λaM A outer s H E h hu g=>?_
 refine⟨_,(aK (bf (iu (eR (qv 0) (f9 (eR (qv 1) ir)))))),?_⟩;rintro i c _ ⟨_,a,n,rfl,e,f,q⟩;rfl';have b:(Str.ofString " ").length=1:=rfl;simp only[jQ,bF,b];exact⟨⋯,⋯,⋯,⋯,⋯,⋯,q _⟩
theorem Fu{a b n:Str}(h:cB a n=cB b n):a=b:=by
 have c:(a.cps++(Str.ofString " ").cps++n.cps).toList=(b.cps++(Str.ofString " ").cps++n.cps).toList:=congrArg (λx:Str=>x.cps.toList) h;rw[Array.toList_append,Array.toList_append,Array.toList_append,Array.toList_append] at c;have d:=List.append_cancel_right (List.append_cancel_right c);cases a with |mk x=>cases b with |mk y=>exact congrArg Str.mk (Array.toList_inj.mp d)
def ee(n:Str)(l:List (Str×Rat)):List (Str×Rat):=(l.filter (iJ n)).map λp=>(cB p.1 n,p.2)
theorem yN{n:Str}{l:List (Str×Rat)}{p:Str×Rat}(h:p∈ee n l):∃y,(y,p.2)∈l/\p.1=cB y n:=by
 let⟨q,a,rfl⟩:=mem_map.mp h;exact⟨q.1,(List.mem_filter.mp a).1,rfl⟩
theorem uW{j:Type}{l:List j}{i:Nat}{x:j}(h:l[i]?=some x):l.take (i+1)=l.take i++[x]:=by
 rw[take_add_one,h];rfl
theorem Hw{n:Str}{l:List (Str×Rat)}{i:Nat}{x:Str}{q:Rat}(nd:(l.map (·.1)).Nodup)(h:l[i]?=some (x,q))(b:iJ n (x,q)=true):gh (ee n (l.take i)) (cB x n) q=ee n (l.take (i+1)):=by
 have e:ee n (l.take (i+1))=ee n (l.take i)++[(cB x n,q)]:=by
  unfold ee;rw[uW h,List.filter_append,map_append,List.filter_cons_of_pos b];rfl
 rw[e];refine G7 λp c z=>?_
 let⟨y,d,a⟩:=yN c;exact G8 nd h _ d (Fu (a.symm.trans z))
theorem WD{n:Str}{l:List (Str×Rat)}{i:Nat}{x:Str}{q:Rat}(h:l[i]?=some (x,q))(a:iJ n (x,q)=false):ee n (l.take i)=ee n (l.take (i+1)):=by
 unfold ee;rw[uW h,List.filter_append,List.filter_cons_of_neg (by rw[a];exact Bool.false_ne_true)];simp
theorem uX:∀p∈fY,(p.2.map (·.1)).Nodup/\p.2.length<=2/\∀r∈p.2,bs r.2<=4/\r.2≠0/\r.1.length<=100:=by walk_at "k"
theorem rn{a:Str}(h:(fY.lookup a).isSome=true):(a,shr a)∈fY/\(kD fY).lookup a=some (.aA ((shr a).map ao.t)):=by
 let⟨l,b⟩:=isSome_iff_exists.mp h;have c:shr a=l:=by unfold shr;rw[b];rfl
 rw[c];have gen:∀(m:List (Str×List (Str×Rat))),m.lookup a=some l->(a,l)∈m/\(kD m).lookup a=some (.aA ↥l):=λm=>by
  induction m with
  |nil=>intro h;cases h
  |cons p r f=>
   intro h;have d:kD (p::r)=(p.1,.aA ↥p.2)::kD r:=rfl;rw[d];rw[lookup_cons] at h ⊢;cases e:a == p.1 with
   |true=>
    rw[e] at h;cases h;exact⟨by rw[eq_of_beq e];exact .head _,rfl⟩
   |false=>
    rw[e] at h;let⟨x,y⟩:=f h;exact⟨.tail _ x,y⟩
 exact gen fY b
theorem zK{a n:Str}(h:(fY.lookup a).isSome=true):Nd (ee n (shr a)):=by
 have hn:=(uX _ (rn h).1).1;unfold Nd ee;rw[map_map];have:((shr a).filter (iJ n)).Pairwise λp q=>p.1≠q.1:=(List.pairwise_map.mp hn).sublist List.filter_sublist
 refine List.pairwise_map.mpr (this.imp λ{p q} ne e=>ne (Fu e))
theorem ZA{a n:Str}(h:(fY.lookup a).isSome=true):d8 (nz (ee n (shr a))) (cY (.aR a n)) 4 2:=by
 have d:=uX _ (rn h).1;have nd:=zK (n:=n) h;have b:∀x q,gt (ee n (shr a)) x=some q->q≠0/\bs q<=4:=λx q e=>by
  let⟨y,f,_⟩:=yN (zi (show b3 (ee n (shr a)) x=some q from e));exact⟨(d.2.2 _ f).2.1,(d.2.2 _ f).1⟩
 have c:∀u,gt (nz (ee n (shr a))) u=gt (ee n (shr a)) u:=λu=>by
  rw[rG nd];cases e:gt (ee n (shr a)) u with
  |none=>rfl
  |some q=>dsimp only;rw[if_neg (b u q e).1]
 refine⟨vr nd,λu=>?_,λx q e=>?_,le_trans (uZ _) ?_⟩
 .rw[c];show _=if (b3 (ee n (shr a)) u).getD 0=0 then none else some ((b3 (ee n (shr a)) u).getD 0)
  rw[HS];cases e:gt (ee n (shr a)) u with
  |none=>show none=if (0:Rat)=0 then none else some 0;rw[if_pos rfl]
  |some q=>show some q=if q=0 then none else some q;rw[if_neg (b u q e).1]
 .rw[c] at e;exact (b x q e).2
 .unfold ee;rw[length_map];exact le_trans (length_filter_le _ _) d.2.1
theorem uN:∀t:Tm,1<=bu t
 |.num q=>Nat.le_add_left _ _
 |.aR _ _=>by show 1 <= 4;decide
 |.times q t=>le_trans (uN t) (Nat.le_add_right _ _)
 |.plus a b=>by show 1 <= bu a + bu b + 5;omega
 |.minus a b=>by show 1 <= bu a + bu b + 5;omega
def gM(T:Tx w K mg)(n g:Nat):bQ:=cA 1 λa Q=>∃t:Tm,a=[bg T t]/\t.tag=g/\t.dep<=n/\t.ok/\bu t<=2000/\(bC t).length<=40/\∀m,d8 m (cY t) (bu t) (2*(bC t).length)->bs (cD t)<=bu t->Q (.aA [bp .o m,ao.t (cD t)])
theorem lY(T:Tx w K mg){n:Nat}{t:Tm}(hd:t.dep<=n)(b:t.ok)(hw:bu t<=2000)(a:(bC t).length<=40){Q:Tr->aG}(q:∀m,d8 m (cY t) (bu t) (2*(bC t).length)->bs (cD t)<=bu t->∀j,Q (.aA [bp .o m,ao.t (cD t)]) j):eC (DT T) "worth" (bg T t) λg=>gM T n g [bg T t] Q:=uS T (by walk_at "k") (by walk_at "k") (by walk_at "k") (by walk_at "k") (by walk_at "k") (by walk_at "k") ⟨rfl,t,rfl,rfl,hd,b,hw,a,q⟩
theorem mP(m:List (Str×Rat))(r:Rat):Pu.aB (.aA [bp .o m,ao.t r])=.aA [bp .f m,ao.t r]:=by
 show Tr.aA [Pu.aB (bp .o m),Pu.aB (ao.t r)]=_;rw[uB,show Pu.aB (bp .o m)=bp .f m from y7 m]
theorem mG(m:List (Str×Rat))(r:Rat):dn (.aA [bp .f m,ao.t r])=.aA [bp .f m,ao.t r]:=by
 show Tr.aA [dn (bp .f m),dn (ao.t r)]=_;rw[ym,IG]
theorem OJ(T:Tx w K mg)(n:Nat):aw P w K mg base aV 8 T.pQ.a T.pQ.d ["self"] (aX K true 0 1 (gM T n 0)):=by
 refine bH T.pQ.F OD rfl ∎ λaM A outer s H E m hu h=>?_
 refine⟨_,(aK (bf (qc T.lE (uM T) (aj rq (aj (cm K (qv 0)) aE))))),?_⟩;rintro o c _ ⟨_,t,rfl,b,hd,l,hw,i,q⟩;let⟨a,rfl⟩:=AI b;rw[show bg T (.num a)=.ins .f T.aaa [("number",ao.t a)] from rfl];rfl';refine hQ (g:="name") T.lG T.v9 ?_;rfl';exact⟨rfl,[],a,rfl,nodup_nil,∎,λj=>⟨kW _ _,q [] ⟨nodup_nil,λu=>by show none=if (0:Rat)=0 then none else _;rw[if_pos rfl],(λx q e=>by cases e),zero_le _⟩ (le_succ _) _⟩⟩
theorem d8.mono{m:List (Str×Rat)}{f:Str->Rat}{n n' l a:Nat}(h:d8 m f n l)(hn:n<=n')(c:l<=a):d8 m f n' a:=⟨h.nd,h.v,λx q e=>le_trans (h.b x q e) hn,le_trans h.l c⟩
theorem P0(T:Tx w K mg)(G:Nat):aw P w K mg base aV 8 T.pU.a T.pU.d ["self"] (aX K true 0 1 (gM T G 1)):=by
 refine bH T.pU.F PK rfl ∎ λaM A outer s H E Q hu N=>?_
 refine⟨_,(aH (mK 1 rq)
  (aH (rM (KR (Kk T.ML λD C r=>Ki (kD fY) rfl T.MK C r (cm K (qv 0)) (λ_ _=>rfl))) (fZ (n:=2) rfl (cT (cM 2) (cT (cM 3) fS))) (aK (b8 (QW.t (iB (bX iA iy (cm K (qv 0)) (vI T.A1)) (iL (bX zl yx (qv 2) (mO ["left","top"] rfl T.L9 T.Ma))))) (aK (mL (ec 1) (qc T.sR (PZ T) (aj (qv 2) (aj (cm K (qv 0)) aE))) (qv 3))) b4)))
  (AF 1 (aK (bf (qc T.lE (uM T) (aj (qv 1) (aj (j5 [0,1] T.acl T.kx) aE)))))))),?_⟩
 rintro xs M _ ⟨_,t,rfl,r,hd,l,hw,O,q⟩;∎;let⟨a,n,rfl⟩:=AJ r;let⟨l,hn⟩:=l;let⟨I,J⟩:=rn l;∎;have m:=uX _ I;have B:Pu.aB (.aA ((shr a).map ao.t))=.aA ((shr a).map ao.t):=by rw[E2,z6]
 have L:bW (.aA ((shr a).map ao.t))=true:=by rw[E3];exact rQ _
 rw[show bg T (.aR a n)=.ins .f T.aae [("word",.str a),("name",.str n)] from rfl];rfl';refine⟨rfl,hQ (g:="name") T.gJ T.sF ?_⟩;rfl';simp only[J,B];unfold vW;dsimp only;refine⟨L,Loop.map (shr a) ao.t (λi j=>∃(x y:Tr),j=[.ins .f T.aae [("word",.str a),("name",.str n)],bp .o (ee n ((shr a).take i)),x,y]) ⟨.aF,.aF,rfl⟩ ?_ ?_⟩
 .rintro i ⟨x,b⟩ j hx ⟨u,v,rfl⟩;have Y:(ee n ((shr a).take i)).length<=2:=by
   unfold ee;rw[length_map];exact le_trans (length_filter_le _ _) (le_trans (by rw[length_take];exact Nat.min_le_right _ _) m.2.1)
  have z:=(m.2.2 _ (mem_of_getElem? hx)).2.2;rw[show (ao.t (x,b):Tr)=.aA [.str x,ao.t b] from rfl];rfl';refine gT T.gJ T.nJ (by walk_at "k") ?_;rfl';by_cases c:n="frame"
  .rw[if_neg (by simp[c])];refine kR (ns:=["left","top"]) ?_;rfl';by_cases p:x∈([("left":Str),"top"]:ag)
   .rw[if_neg (by simp[p])];have e:iJ n (x,b)=false:=by
     unfold iJ xj;rcases mem_cons.mp p with h |h
     .simp[c,h]
     .simp[c,mem_singleton.mp h]
    exact⟨_,_,by rw[WD hx e]⟩
   .rw[if_pos (by simp[p])];have e:iJ n (x,b)=true:=by unfold iJ xj;simpa [c] using p
    refine gT T.gJ T.nJ (by walk_at "k") ?_;rfl';refine⟨rfl,x,n,rfl,z,hn,λj=>?_⟩;rfl';rw[Hw m.1 hx e];exact⟨⋯,_,_,rfl⟩
  .rw[if_pos (by simp[c])];have e:iJ n (x,b)=true:=by unfold iJ;simp[c]
   refine gT T.gJ T.nJ (by walk_at "k") ?_;rfl';refine⟨rfl,x,n,rfl,z,hn,λj=>?_⟩;rfl';rw[Hw m.1 hx e];exact⟨⋯,_,_,rfl⟩
 .rintro j ⟨u,v,rfl⟩;rw[take_length];rfl';exact⟨rfl,_,_,rfl,zK l,by have U:(shr a).length<=2:=m.2.1;unfold ee;rw[length_map];exact le_trans (length_filter_le _ _) ⋯,λj=>⟨kW _ _,q _ (ZA l) (by show bs 0<=4;decide +kernel) _⟩⟩
theorem Pl(T:Tx w K mg)(m:Nat)(p:∀C g,DT T C g->aO P w K mg base aV (m+8) "worth" C ["self"] (aX K true 0 1 (gM T m g))):aw P w K mg base aV (m+9) T.i7.a T.i7.d ["self"] (aX K true 0 1 (gM T (m+1) 2)):=by
 refine bH T.i7.F En rfl ∎ λaM A outer s H E v hu u=>?_
 refine⟨_,(aK (bf (qc T.p9 (Fn T) (aj (c8 (p) (cm K (qv 0))) (aj (cm K (qv 0)) aE))))),?_⟩;rintro x r _ ⟨_,t,rfl,o,hd,n,hw,c,q⟩;let⟨b,t,rfl⟩:=oX o;have hw:bu t+bs b<=2000:=hw;have c:(bC t).length<=40:=c;rw[show bg T (.times b t)=.ins .f T.aaj [("number",ao.t b),("inner",bg T t)] from rfl];rfl';refine gT T.gK T.sG (by walk_at "k") ?_;simp only[dS,dB];refine lY T (Nat.le_of_succ_le_succ hd) n ⋯ c λi hm h j=>?_
 refine hQ (g:="inner") T.gK T.wa ?_;rw[mP,mG,uB,ym];have e:d8 (nz (sc i b)) (cY (.times b t)) (bu (.times b t)) (2*(bC (.times b t)).length):=hm.sc b;exact⟨rfl,i,cD t,b,bu t,rfl,hm.nd,by have:=hm.l;omega,hm.b,h,⋯,λj=>⟨kW _ _,q _ e (le_trans (iK _ _) (by show _<=bu t+bs b;omega)) _⟩⟩
theorem P1(T:Tx w K mg)(m:Nat)(i:∀C g,DT T C g->aO P w K mg base aV (m+8) "worth" C ["self"] (aX K true 0 1 (gM T m g))):aw P w K mg base aV (m+9) T.ja.a T.ja.d ["self"] (aX K true 0 1 (gM T (m+1) 3)):=by
 refine bH T.ja.F Eu rfl ∎ λaM A outer s H E D hu B=>?_
 refine⟨_,(aK (bf (qc T.pE (F9 T) (aj (c8 (i) (cm K (qv 0))) (aj (c8 (i) (cm K (qv 0))) aE))))),?_⟩;rintro G z _ ⟨_,t,rfl,v,hd,u,hw,h,q⟩;let⟨a,b,rfl⟩:=oY v;have hd:max a.dep b.dep+1<=m+1:=hd;have hw:bu a+bu b+5<=2000:=hw;have h:(bC a++bC b).length<=40:=h;rw[length_append] at h;let⟨x,y⟩:=u;rw[show bg T (.plus a b)=.ins .f T.aao [("one",bg T a),("other",bg T b)] from rfl];rfl';refine hQ (g:="other") T.gn T.sH ?_;simp only[dS,dB];refine lY T ⋯ x ⋯ ⋯ λn c r1 j=>?_
 refine gT T.gn T.sI (by walk_at "k") ?_;simp only[dS,dB];refine lY T ⋯ y ⋯ ⋯ λo e r2 j=>?_
 rw[mP,mP,mG,mG];have p:d8 (nz (eZ n o)) (cY (.plus a b)) (bu a+bu b+5) (2*(bC a++bC b).length):=(c.add e).mono ⋯ (by rw[length_append];omega);have r:=mx (cD a) (cD b);exact⟨rfl,n,o,cD a,cD b,bu a,bu b,rfl,c.nd,e.nd,by have:=c.l;have:=e.l;omega,c.b,e.b,⋯,uN a,⋯,λj=>⟨kW _ _,q _ p (le_trans r (by show _<=bu a+bu b+5;omega)) _⟩⟩
theorem Pm(T:Tx w K mg)(m:Nat)(i:∀C g,DT T C g->aO P w K mg base aV (m+8) "worth" C ["self"] (aX K true 0 1 (gM T m g))):aw P w K mg base aV (m+9) T.jd.a T.jd.d ["self"] (aX K true 0 1 (gM T (m+1) 4)):=by
 refine bH T.jd.F Ep rfl ∎ λaM A outer s H E I hu G=>?_
 refine⟨_,(aK (bf (qc T.p6 (EO T) (aj (c8 (i) (cm K (qv 0))) (aj (c8 (i) (cm K (qv 0))) aE))))),?_⟩;rintro J z _ ⟨_,t,rfl,v,hd,u,hw,h,q⟩;let⟨a,b,rfl⟩:=oZ v;have hd:max a.dep b.dep+1<=m+1:=hd;have hw:bu a+bu b+5<=2000:=hw;have h:(bC a++bC b).length<=40:=h;rw[length_append] at h;let⟨x,y⟩:=u;rw[show bg T (.minus a b)=.ins .f T.aat [("one",bg T a),("other",bg T b)] from rfl];rfl';refine hQ (g:="other") T.gp T.sJ ?_;simp only[dS,dB];refine lY T ⋯ x ⋯ ⋯ λn c r1 j=>?_
 refine gT T.gp T.sL (by walk_at "k") ?_;simp only[dS,dB];refine lY T ⋯ y ⋯ ⋯ λo e r2 j=>?_
 rw[mP,mP,mG,mG];have B:=oS;have p:d8 (nz (eZ n (nz (sc o (-1))))) (cY (.minus a b)) (bu a+bu b+5) (2*(bC a++bC b).length):=(c.add (e.sc (-1))).mono ⋯ (by rw[length_append];omega);have r:=mx (cD a) (cD b*(-1));have D:=iK (cD b) (-1);exact⟨rfl,n,o,cD a,cD b,bu a,bu b,rfl,c.nd,e.nd,by have:=c.l;have:=e.l;omega,c.b,e.b,r1,r2,uN a,⋯,λj=>⟨kW _ _,q _ p (le_trans r (by show _<=bu a+bu b+5;omega)) _⟩⟩
theorem Pn(T:Tx w K mg):aw P w K mg base aV 1 T.i7.a T.i7.d ["self"] (aX K true 0 1 (gM T 0 2)):=by
 refine bH T.i7.F En rfl ∎ λaM A outer s H E g hu f=>⟨_,aK ml,?_⟩
 rintro h e _ ⟨_,t,rfl,c,hd,_⟩;let⟨a,b,rfl⟩:=oX c;exact absurd hd (not_succ_le_zero _)
theorem P4(T:Tx w K mg):aw P w K mg base aV 1 T.ja.a T.ja.d ["self"] (aX K true 0 1 (gM T 0 3)):=by
 refine bH T.ja.F Eu rfl ∎ λaM A outer s H E g hu f=>⟨_,aK ml,?_⟩
 rintro h e _ ⟨_,t,rfl,c,hd,_⟩;let⟨a,b,rfl⟩:=oY c;exact absurd hd (not_succ_le_zero _)
theorem Po(T:Tx w K mg):aw P w K mg base aV 1 T.jd.a T.jd.d ["self"] (aX K true 0 1 (gM T 0 4)):=by
 refine bH T.jd.F Ep rfl ∎ λaM A outer s H E g hu f=>⟨_,aK ml,?_⟩
 rintro h e _ ⟨_,t,rfl,c,hd,_⟩;let⟨a,b,rfl⟩:=oZ c;exact absurd hd (not_succ_le_zero _)
theorem GH(T:Tx w K mg):∀n,∀C g,DT T C g->aO P w K mg base aV (n+8) "worth" C ["self"] (aX K true 0 1 (gM T n g)):=λn=>by
 have a:∀n C g,(C=T.aaa/\g=0)\/(C=T.aae/\g=1)->aO P w K mg base aV 8 "worth" C ["self"] (aX K true 0 1 (gM T n g)):=λn C g h=>by
  rcases h with⟨rfl,rfl⟩ |⟨rfl,rfl⟩
  .exact⟨T.lG,_,_,T.pQ.t,(OJ T n).mono ∎,T.pQ.b⟩
  .exact⟨T.gJ,_,_,T.pU.t,(P0 T n).mono ∎,T.pU.b⟩
 induction n with
 |zero=>
  intro C g h;rcases h with h |h |⟨rfl,rfl⟩ |⟨rfl,rfl⟩ |⟨rfl,rfl⟩
  .exact a 0 C g (.inl h)
  .exact a 0 C g (.inr h)
  .exact⟨T.gK,_,_,T.i7.t,(Pn T).mono ∎,T.i7.b⟩
  .exact⟨T.gn,_,_,T.ja.t,(P4 T).mono ∎,T.ja.b⟩
  .exact⟨T.gp,_,_,T.jd.t,(Po T).mono ∎,T.jd.b⟩
 |succ m c=>
  intro C g h;rcases h with h |h |⟨rfl,rfl⟩ |⟨rfl,rfl⟩ |⟨rfl,rfl⟩
  .exact (a (m+1) C g (.inl h)).mono ⋯
  .exact (a (m+1) C g (.inr h)).mono ⋯
  .exact⟨T.gK,_,_,T.i7.t,(Pl T m c).mono ⋯,T.i7.b⟩
  .exact⟨T.gn,_,_,T.ja.t,(P1 T m c).mono ⋯,T.ja.b⟩
  .exact⟨T.gp,_,_,T.jd.t,(Pm T m c).mono ⋯,T.jd.b⟩
def cq(P:Str->Rat):List (Str×Rat)->Rat
 |[]=>0
 |p::l=>p.2 * P p.1 + cq P l
theorem uP(P:Str->Rat):∀a b:List (Str×Rat),cq P (a++b)=cq P a+cq P b
 |[],b=>by show cq P b=0 + cq P b;rw[Rat.zero_add]
 |p::a,b=>by show p.2 * P p.1 + cq P (a ++ b)=p.2 * P p.1 + cq P a + cq P b;rw[uP P a b,Rat.add_assoc]
theorem yO{m:List (Str×Rat)}{i:Nat}{x:Str}{q:Rat}(P:Str->Rat)(h:m[i]?=some (x,q)):cq P (m.take (i+1))=cq P (m.take i)+q*P x:=by
 rw[uW h,uP];show _+(q*P x+0)=_;rw[Rat.add_zero]
abbrev at'(pl:List (Str×Rat))(x:Str):Rat:=(b3 pl x).getD 0
structure nA(m:List (Str×Rat))(r:Rat)(pl:List (Str×Rat)):Prop where
 k:∀p∈m,(b3 pl p.1).isSome=true/\bs p.2<=2000/\bs (at' pl p.1)<=100
 b:∀i,i<=m.length->bs (r+cq (at' pl) (m.take i))<=3500
def Nn:bQ:=cA 2 λb Q=>∃(g:Fl)(m a:List (Str×Rat))(r:Rat),Fp g/\b=[.aA [bp .f m,ao.t r],bp g a]/\nA m r a/\Q (ao.t (r+cq (at' a) m))
theorem QY(T:Tx w K mg):aw P w K mg base aV 4 T.sO.a T.sO.d ["one","placing"] (aX K true 0 2 Nn):=by
 refine bH T.sO.F QK rfl ∎ λaM A outer s H E I hu G=>?_
 refine⟨_,(aH (bM 2 (ba (qv 0) ay))
  (aH (rr (ba (qv 0) ay) (fZ (n:=2) rfl (cT (cM 3) (cT (cM 4) fS))) (aK (bM 2 (qc T.nB (zc T) (aj (qv 2) (aj (qc T.nD (yJ T) (aj (qv 4) (aj (ba (qv 1) (qv 3)) aE))) aE))))))
  (aK (bf (qv 2))))),?_⟩
 rintro J C _ ⟨_,g,m,o,r,_,rfl,hv,q⟩;rfl';refine dZ.map m (λi j=>∃(c:Rat)(a b:Tr),j=[.aA [bp .f m,ao.t r],bp g o,ao.t c,a,b]/\c=r+cq (at' o) (m.take i)) ⟨r,.aF,.aF,rfl,(Rat.add_zero _).symm⟩ ?_ ?_
 .rintro i x y j hx ⟨c,a,b,rfl,e⟩;have l:=(List.getElem?_eq_some_iff.mp hx).1;let⟨z,B,p⟩:=hv.k _ (mem_of_getElem? hx);have u:=hv.b i ⋯;rw[<- e] at u;let⟨v,h⟩:=isSome_iff_exists.mp z;have ev:at' o x=v:=by unfold at';rw[h];rfl
  dsimp only at B p;rw[ev] at p;have D:=iK y v;rfl';refine mM _ _ v h ?_;rfl';refine yK ⋯ λj=>?_
  rfl';refine zd ⋯ λj=>?_
  rfl';refine⟨_,_,_,rfl,?_⟩;rw[yO _ hx,ev,e,Rat.add_assoc]
 .rintro j ⟨c,a,b,rfl,e⟩;rw[take_length] at e;subst e;rfl';exact q _
theorem yP{a b:Rat}(h:bs a+bs b<=7990){Q:Tr->aG}(q:∀j,Q (ao.t (a - b)) j):nS (· - ·) [ao.t a,ao.t b] Q:=⟨rfl,a,b,rfl,h,q⟩
theorem yQ{a b:Rat}(h:bs a+bs b<=7990){Q:Tr->aG}(q:∀j,Q (.bl (decide (a<b))) j):Cr [ao.t a,ao.t b] Q:=⟨rfl,a,b,rfl,⋯,q⟩
def Np:bQ:=cA 2 λb Q=>∃(g:Fl)(r:kK)(a:List (Str×Rat)),Fp g/\b=[ao.t r,bp g a]/\nA r.1 0 a/\Q (ao.t (cq (at' a) r.1))
theorem U3(T:Tx w K mg):aw P w K mg base aV 5 T.sP.a T.sP.d ["one","placing"] (aX K true 0 2 Np):=by
 refine bH T.sP.F T3 rfl ∎ λaM A outer s H E f hu e=>?_
 refine⟨_,(aK (bf (qc T.sO (QY T) (aj (dJ (aj (ba (qv 0) ay) (aj (j5 [0,1] T.acl T.kx) aE))) (aj (qv 1) aE))))),?_⟩;rintro h c _ ⟨_,g,r,b,_,rfl,hv,q⟩;rfl';refine⟨rfl,g,r.1,b,0,inferInstance,rfl,hv,λj=>?_⟩;rw[Rat.zero_add];rfl';exact q _
def jr(k:Str)(d:Rat):Rat:=if d<0/\k≠"most" then 0 - d else if 0<d/\k≠"least" then d else 0
def M5:bQ:=cA 2 λb Q=>∃(g:Fl)(r:kK)(a:List (Str×Rat)),Fp g/\b=[ao.t r,bp g a]/\nA r.1 0 a/\bs r.2.2.1<=2000/\Q (ao.t (jr r.2.1 (cq (at' a) r.1 - r.2.2.1)))
theorem U4(T:Tx w K mg):aw P w K mg base aV 6 T.qa.a T.qa.d ["one","placing"] (aX K true 0 2 M5):=by
 refine bH T.qa.F T4 rfl ∎ λaM A outer s H E o hu n=>?_
 refine⟨_,(aH (bM 2 (qc T.nC (yI T) (aj (qc T.sP (U3 T) (aj (qv 0) (aj (qv 1) aE))) (aj (ba (qv 0) ay) aE))))
  (aH (b8 (QW.t (mz (gx (qc T.pD (F8 T) (aj (qv 2) (aj (j5 [0,1] T.acl T.kx) aE)))) (mj (bX iA iy (ba (qv 0) ay) bc)))) (aK (bf (qc T.nC (yI T) (aj (j5 [0,1] T.acl T.kx) (aj (qv 2) aE))))) b4)
  (aH (b8 (QW.t (mz (gx (qc T.pD (F8 T) (aj (j5 [0,1] T.acl T.kx) (aj (qv 2) aE)))) (mj (bX iA iy (ba (qv 0) ay) bc)))) (aK (bf (qv 2))) b4)
  (aK (bf (j5 [0,1] T.acl T.kx)))))),?_⟩
 rintro p m _ ⟨_,g,r,h,_,rfl,hv,hn,q⟩;have i:=hv.b r.1.length (le_refl _);rw[take_length,Rat.zero_add] at i;have l:=HU (cq (at' h) r.1) r.2.2.1;have u:bs 0<=1:=by walk_at "k"
 rfl';refine⟨rfl,g,r,h,inferInstance,rfl,hv,λj=>?_⟩;rfl';refine yP ⋯ λj=>?_
 generalize hd:cq (at' h) r.1 - r.2.2.1=d at q l ⊢;rfl';refine yQ ⋯ λj=>?_
 unfold jr at q;rfl';by_cases f:d<0
 .rw[if_pos (decide_eq_true f)];by_cases c:r.2.1="most"
  .have e:¬ 0<d:=Rat.not_lt.mpr (Rat.le_of_lt f);rw[if_neg (by simp[c])];rw[if_neg (λz=>z.2 c),if_neg (λz=>e z.1)] at q;refine yQ ⋯ λj=>?_
   rfl';rw[if_neg (by simpa using e)];exact q _
  .rw[if_pos (by simp[c])];rw[if_pos ⟨f,c⟩] at q;exact yP ⋯ λj=>⟨fO _,q _⟩
 .rw[if_neg (by simpa using f)];rw[if_neg (λz=>f z.1)] at q;refine yQ ⋯ λj=>?_
  rfl';by_cases c:0<d
  .rw[if_pos (decide_eq_true c)];by_cases e:r.2.1="least"
   .rw[if_neg (by simp[e])];rw[if_neg (λz=>z.2 e)] at q;exact q _
   .rw[if_pos (by simp[e])];rw[if_pos ⟨c,e⟩] at q;exact q _
  .rw[if_neg (by simpa using c)];rw[if_neg (λz=>c z.1)] at q;exact q _
def knd(k:Nat):Str:=if k=0 then "just" else if k=1 then "least" else "most"
def tH(g:Nat):bQ:=cA 1 λ_ Q=>Q (.str (knd g))
theorem Ra(T:Tx w K mg):aw P w K mg base aV 1 T.pF.a T.pF.d ["self"] (aX K true 0 1 (tH 0)):=by
 refine bH T.pF.F Qp rfl ∎ λaM A outer s H E e hu c=>?_
 refine⟨_,(aK (bf bc)),?_⟩;rintro f b _ ⟨_,q⟩;rfl';exact q _
theorem OK(T:Tx w K mg):aw P w K mg base aV 1 T.pH.a T.pH.d ["self"] (aX K true 0 1 (tH 1)):=by
 refine bH T.pH.F OF rfl ∎ λaM A outer s H E e hu c=>?_
 refine⟨_,(aK (bf bc)),?_⟩;rintro f b _ ⟨_,q⟩;rfl';exact q _
theorem Pp(T:Tx w K mg):aw P w K mg base aV 1 T.pJ.a T.pJ.d ["self"] (aX K true 0 1 (tH 2)):=by
 refine bH T.pJ.F OX rfl ∎ λaM A outer s H E e hu c=>?_
 refine⟨_,(aK (bf bc)),?_⟩;rintro f b _ ⟨_,q⟩;rfl';exact q _
theorem ZC(T:Tx w K mg):∀C g,DW T C g->aO P w K mg base aV 1 "kind" C ["self"] (aX K true 0 1 (tH g)):=λC g h=>by
 rcases h with⟨rfl,rfl⟩ |⟨rfl,rfl⟩ |⟨rfl,rfl⟩
 .exact⟨T.nG,_,_,T.pF.t,Ra T,T.pF.b⟩
 .exact⟨T.nH,_,_,T.pH.t,OK T,T.pH.b⟩
 .exact⟨T.nI,_,_,T.pJ.t,Pp T,T.pJ.b⟩
theorem ZD(T:Tx w K mg){f:Fl}{x:Wi}(h:x.k<3){Q:Nat->Prop}(q:Q x.k):eC (DW T) "kind" (dC T f x) Q:=⟨x.k,dw T h,by simp only[List.lookup,show (("kind":Str) == "near")=false by walk_at "k",show (("kind":Str) == "far")=false by walk_at "k",show (("kind":Str) == "rank")=false by walk_at "k",show (("kind":Str) == "weight")=false by walk_at "k"],q⟩
structure Wi.rw(x:Wi):Prop where
 k:x.k<3
 da:x.a.dep<=64
 db:x.b.dep<=64
 oa:x.a.ok
 ob:x.b.ok
 w:bu x.a+bu x.b<=1500
 l:(bC x.a).length+(bC x.b).length<=40
def Wi.df(x:Wi):Tm:=.minus x.a x.b
def qF(m:List (Str×Rat))(x:Wi):kK:=(m,knd x.k,0 - cD x.df,x.r,x.v)
def DA(T:Tx w K mg):bQ:=cA 1 λa Q=>∃(f:Fl)(x:Wi),a=[dC T f x]/\x.rw/\∀m,d8 m (cY x.df) (bu x.df) (2*(bC x.df).length)->bs (cD x.df)<=bu x.df->Q (ao.t (qF m x))
theorem ya(T:Tx w K mg):aw P w K mg base aV 90 T.jE.a T.jE.d ["self"] (aX K true 0 1 (DA T)):=by
 refine bH T.jE.F QV rfl ∎ λaM A outer s H E z hu v=>?_
 refine⟨_,(aH (bM 1 (qc T.p6 (EO T) (aj (c8 (GH T 64) (cm K (qv 0))) (aj (c8 (GH T 64) (cm K (qv 0))) aE))))
  (aK (bf (dJ (aj (ba (qv 1) ay) (aj (c8 (ZC T) (qv 0)) (aj (qc T.nC (yI T) (aj (j5 [0,1] T.acl T.kx) (aj (ba (qv 1) ay) aE))) (aj (cm K (qv 0)) (aj (cm K (qv 0)) aE))))))))),?_⟩
 rintro B p _ ⟨_,f,x,rfl,c,q⟩;have hw:=c.w;have y:=c.l;rfl';simp only[vK,rZ,vE];refine Hs T c.k ?_;simp only[dS,dB];refine lY T c.da c.oa ⋯ ⋯ λh e r1 j=>?_
 refine Io T c.k ?_;simp only[dS,dB];refine lY T c.db c.ob ⋯ ⋯ λi g r2 j=>?_
 rw[mP,mP,mG,mG];have r:=oS;have m:d8 (nz (eZ h (nz (sc i (-1))))) (cY x.df) (bu x.df) (2*(bC x.df).length):=(e.add (g.sc (-1))).mono (by show _<=bu x.a+bu x.b+5;omega) (by show _<=2*(bC x.a++bC x.b).length;rw[length_append];omega);have n:=mx (cD x.a) (cD x.b*(-1));have u:=iK (cD x.b) (-1);have q:=q _ m (le_trans n (by show _<=bu x.a+bu x.b+5;omega));refine⟨rfl,h,i,cD x.a,cD x.b,bu x.a,bu x.b,rfl,e.nd,g.nd,by have:=e.l;have:=g.l;omega,e.b,g.b,r1,r2,uN x.a,⋯,λj=>?_⟩;rfl';have C:bs 0<=1:=by walk_at "k"
 refine⟨by rw[show bW (bp .o _)=true from vp _];rfl,ZD T c.k ⟨rfl,λj=>yP ⋯ λj=>ze T c.k (yA T c.k ⟨?_,q _⟩)⟩⟩;show (true&&(true&&(b5 (ao.t _)&&(true&&(true&&true)))))=true;rw[fO];rfl
theorem IA(T:Tx w K mg):∀C g,DW T C g->aO P w K mg base aV 90 "row" C ["self"] (aX K true 0 1 (DA T)):=λC g h=>by
 rcases h with⟨rfl,rfl⟩ |⟨rfl,rfl⟩ |⟨rfl,rfl⟩
 .exact⟨T.nG,_,_,T.jE.t,ya T,T.jE.b⟩
 .exact⟨T.nH,_,_,T.Mu,ya T,T.jE.b⟩
 .exact⟨T.nI,_,_,T.Mx,ya T,T.jE.b⟩
theorem IB(T:Tx w K mg){f:Fl}{x:Wi}(h:x.k<3){Q:Nat->Prop}(q:Q x.k):eC (DW T) "row" (dC T f x) Q:=⟨x.k,dw T h,by simp only[List.lookup,show (("row":Str) == "near")=false by walk_at "k",show (("row":Str) == "far")=false by walk_at "k",show (("row":Str) == "rank")=false by walk_at "k",show (("row":Str) == "weight")=false by walk_at "k"],q⟩
def ev(P:Str->Rat):Tm->Rat
 |.num q=>q |.aR a n=>cq P (ez a n) |.times q t=>ev P t * q |.plus a b=>ev P a + ev P b |.minus a b=>ev P a + ev P b * (-1)
def S(f P:Str->Rat):ag->Rat
 |[]=>0
 |u::U=>f u * P u + S f P U
theorem zL(P:Str->Rat):∀U,S (λ_=>0) P U=0
 |[]=>rfl
 |u::U=>by show 0 * P u + S (λ_=>0) P U=0;rw[zL P U,Rat.zero_mul,Rat.zero_add]
theorem z3(f g P:Str->Rat):∀U,S (λu=>f u+g u) P U=S f P U+S g P U
 |[]=>(Rat.zero_add _).symm
 |u::U=>by show (f u + g u) * P u + S (λu=>f u + g u) P U=f u * P u + S f P U + (g u * P u + S g P U);rw[z3 f g P U,Rat.add_mul];grind
theorem z4(f P:Str->Rat)(q:Rat):∀U,S (λu=>f u*q) P U=S f P U*q
 |[]=>(Rat.zero_mul _).symm
 |u::U=>by show f u * q * P u + S (λu=>f u * q) P U=(f u * P u + S f P U) * q;rw[z4 f P q U,Rat.add_mul];grind
theorem zw{f g P:Str->Rat}:∀{U:ag},(∀u∈U,f u=g u)->S f P U=S g P U
 |[],_=>rfl
 |u::U,h=>by show f u * P u + S f P U=g u * P u + S g P U;rw[h u (.head _),zw λv m=>h v (.tail _ m)]
theorem Jo{f P:Str->Rat}{x:Str}{c:Rat}(a:f x=0):∀{U:ag},U.Nodup->x∈U->S (λu=>if u=x then c else f u) P U=c*P x+S f P U
 |u::U,nd,m=>by
  let⟨d,h⟩:=nodup_cons.mp nd;show (if u=x then c else f u)*P u+S (λu=>if u=x then c else f u) P U=c*P x+(f u*P u+S f P U);by_cases e:u=x
  .subst e;rw[if_pos rfl,a,Rat.zero_mul,Rat.zero_add,zw (g:=f) λv b=>if_neg (λz:v=u=>d (z ▸ b))]
  .rw[if_neg e,Jo a h ((mem_cons.mp m).resolve_left λz=>e z.symm)]
   grind
theorem WE(p:Str×Rat)(l:List (Str×Rat))(u:Str):b3 (p::l) u=if u=p.1 then some p.2 else b3 l u:=by
 by_cases e:u=p.1
 .rw[if_pos e,iM e.symm]
 .rw[if_neg e,iN λz=>e z.symm]
theorem IC{l:List (Str×Rat)}{u:Str}(h:u ∉ l.map (·.1)):b3 l u=none:=by
 cases e:b3 l u with
 |none=>rfl
 |some y=>exact absurd (mem_map.mpr ⟨_,zi e,rfl⟩) h
theorem zM(P:Str->Rat){U:ag}(nd:U.Nodup):∀{l:List (Str×Rat)},(l.map (·.1)).Nodup->(∀p∈l,p.1∈U)->S (λu=>(b3 l u).getD 0) P U=cq P l
 |[],_,_=>zL P U
 |p::l,n,h=>by
  let⟨a,b⟩:=nodup_cons.mp n;rw[show (λu=>(b3 (p::l) u).getD 0)=λu=>if u=p.1 then p.2 else (b3 l u).getD 0 from funext λu=>by rw[WE];split<;>rfl];rw[Jo (by rw[IC a];rfl) nd (h p (.head _)),zM P nd b λq m=>h q (.tail _ m)];rfl
def iZ(t:Tm):ag:=(bC t).flatMap λe=>(ez e.1 e.2).map (·.1)
theorem o6(P:Str->Rat){U:ag}(nd:U.Nodup):∀{t:Tm},t.ok->(∀u∈iZ t,u∈U)->S (cY t) P U+cD t=ev P t
 |.num q,_,_=>by show S (λ_=>0) P U + q=q;rw[zL,Rat.zero_add]
 |.aR a n,o,h=>by
  show S (λu=>(b3 (ez a n) u).getD 0) P U+0=cq P (ez a n);rw[Rat.add_zero];exact zM P nd (zK o.1) λp m=>h _ (List.mem_flatMap.mpr ⟨(a,n),.head _,mem_map.mpr ⟨p,m,rfl⟩⟩)
 |.times q t,o,h=>by
  show S (λu=>cY t u*q) P U+cD t*q=ev P t*q;rw[z4,<- o6 (t:=t) P nd o h,Rat.add_mul]
 |.plus a b,o,h=>by
  show S (λu=>cY a u+cY b u) P U+(cD a+cD b)=ev P a+ev P b;rw[z3,<- o6 P nd o.1 λu m=>h u (by unfold iZ;rw[show bC (.plus a b)=bC a++bC b from rfl,flatMap_append];exact mem_append_left _ m),<- o6 P nd o.2 λu m=>h u (by unfold iZ;rw[show bC (.plus a b)=bC a++bC b from rfl,flatMap_append];exact mem_append_right _ m)]
  grind
 |.minus a b,o,h=>by
  show S (λu=>cY a u+cY b u*(-1)) P U+(cD a+cD b*(-1))=ev P a+ev P b*(-1);rw[z3,z4,<- o6 P nd o.1 λu m=>h u (by unfold iZ;rw[show bC (.minus a b)=bC a++bC b from rfl,flatMap_append];exact mem_append_left _ m),<- o6 P nd o.2 λu m=>h u (by unfold iZ;rw[show bC (.minus a b)=bC a++bC b from rfl,flatMap_append];exact mem_append_right _ m)]
  grind
theorem oq{u:Str}:∀{t:Tm},cY t u≠0->u∈iZ t
 |.num _,h=>absurd rfl h
 |.aR a n,h=>by
  have h:(b3 (ez a n) u).getD 0≠0:=h;refine List.mem_flatMap.mpr ⟨(a,n),.head _,?_⟩;refine Classical.byContradiction λz=>h ?_
  rw[IC z];rfl
 |.times q t,h=>oq (t:=t) λz=>h (by show cY t u * q=0;rw[z,Rat.zero_mul])
 |.plus a b,h=>by
  unfold iZ;rw[show bC (.plus a b)=bC a++bC b from rfl,flatMap_append];by_cases z:cY a u=0
  .exact mem_append_right _ (oq (t:=b) λy=>h (by show cY a u+cY b u=0;rw[z,y,Rat.zero_add]))
  .exact mem_append_left _ (oq (t:=a) z)
 |.minus a b,h=>by
  unfold iZ;rw[show bC (.minus a b)=bC a++bC b from rfl,flatMap_append];by_cases z:cY a u=0
  .exact mem_append_right _ (oq (t:=b) λy=>h (by show cY a u+cY b u*(-1)=0;rw[z,y,Rat.zero_mul,Rat.zero_add]))
  .exact mem_append_left _ (oq (t:=a) z)
theorem d8.keys{m:List (Str×Rat)}{t:Tm}{n l:Nat}(h:d8 m (cY t) n l):∀p∈m,p.1∈iZ t:=λp a=>by
 refine oq λz=>?_
 have:=h.v p.1;rw[lZ h.nd a,if_pos z] at this;cases this
theorem d8.ev{m:List (Str×Rat)}{t:Tm}{n l:Nat}(P:Str->Rat)(h:d8 m (cY t) n l)(o:t.ok):cq P m+cD t=ev P t:=by
 let⟨nd,mo⟩:=yi (iZ t);rw[<- zM P nd h.nd λp a=>(mo _).mpr (h.keys p a),<- o6 P nd o λu b=>(mo _).mpr b];rw[zw λu _=>show (b3 m u).getD 0=cY t u from h.get u]
def Dv(D B:Nat)(q:Rat):Prop:=∃z:Int,q*(D:Rat)=(z:Rat)/\z.natAbs<=B*D
theorem Dv.zero{D B:Nat}:Dv D B 0:=⟨0,by grind,zero_le _⟩
theorem Dv.mono{D B C:Nat}{q:Rat}(h:Dv D B q)(le:B<=C):Dv D C q:=by
 let⟨z,e,l⟩:=h;exact⟨z,e,le_trans l (Nat.mul_le_mul_right _ le)⟩
theorem Dv.add{D B C:Nat}{a b:Rat}(h:Dv D B a)(g:Dv D C b):Dv D (B+C) (a+b):=by
 ∎;let⟨z,e,l⟩:=h;let⟨y,f,m⟩:=g;∎;refine⟨z+y,?_,?_⟩
 .rw[Rat.intCast_add,<- e,<- f];grind
 .have:=Int.natAbs_add_le z y;rw[Nat.add_mul];omega
theorem Dv.mul{D E B C:Nat}{a b:Rat}(h:Dv D B a)(g:Dv E C b):Dv (D*E) (B*C) (a*b):=by
 ∎;let⟨z,e,l⟩:=h;let⟨y,f,m⟩:=g;∎;refine⟨z*y,?_,?_⟩
 .rw[Rat.intCast_mul,<- e,<- f,Rat.natCast_mul];grind
 .rw[natAbs_mul];have:=mul_le_mul l m
  calc z.natAbs*y.natAbs<=B*D*(C*E):=this
   _=B*C*(D*E):=by grind
theorem Dv.one{E:Nat}:Dv E 1 1:=⟨E,by rw[Rat.intCast_natCast];grind,by rw[natAbs_natCast];omega⟩
theorem Dv.lift{D B:Nat}{q:Rat}(E:Nat)(h:Dv D B q):Dv (D*E) B q:=by
 have:=h.mul (Dv.one (E:=E));rw[Rat.mul_one,Nat.mul_one] at this;exact this
theorem Dv.gY{D B:Nat}{q:Rat}(E:Nat)(h:Dv D B q):Dv (E*D) B q:=by
 rw[Nat.mul_comm];exact h.lift E
theorem Dv.neg{D B:Nat}{q:Rat}(h:Dv D B q):Dv D B (q*(-1)):=by
 let⟨z,e,l⟩:=h;refine⟨-z,?_,by rw[Int.natAbs_neg];exact l⟩;rw[Rat.intCast_neg,<- e];grind
theorem Hx(q:Rat):q*(q.den:Rat)=(q.num:Rat):=by
 have h:=Rat.num_divInt_den q;rw[Rat.divInt_eq_div,Rat.intCast_natCast] at h;have hd:(q.den:Rat)≠0:=λc=>q.den_nz (by exact_mod_cast c)
 have e:(q.num:Rat)=q*(q.den:Rat):=by
  rw[show q*(q.den:Rat)=((q.num:Rat) / (q.den:Rat))*(q.den:Rat) from by rw[h],Rat.div_mul_cancel hd]
 exact e.symm
theorem Dv.self(q:Rat):Dv q.den (2 ^ bs q) q:=by
 refine⟨q.num,Hx q,?_⟩;have a:=(jZ q).1;have b:1<=q.den:=Nat.pos_of_ne_zero q.den_nz;exact le_trans (le_of_lt a) (Nat.le_mul_of_pos_right _ b)
theorem Dv.iz{D B n:Nat}{q:Rat}(h:Dv D B q)(f:0<D)(a:D<2 ^ n)(b:B*D<2 ^ n):bs q<=n:=by
 let⟨z,e,l⟩:=h;have g:(D:Rat)≠0:=λc=>by (have:D=0:=by exact_mod_cast c);omega
 have d:q=Rat.divInt z (D:Int):=by
  rw[Rat.divInt_eq_div,<- e,Rat.intCast_natCast];grind
 rw[d];exact yf ⋯ (kO n (lt_of_le_of_lt l b)) (kO n (by rw[natAbs_natCast];exact a))
def Dt:Tm->Nat
 |.num q=>q.den |.aR _ _=>2 |.times q t=>Dt t * q.den |.plus a b=>Dt a * Dt b |.minus a b=>Dt a * Dt b
theorem oI:∀t:Tm,0<Dt t
 |.num q=>Nat.pos_of_ne_zero q.den_nz
 |.aR _ _=>by show 0 < 2;decide
 |.times q t=>Nat.mul_pos (oI t) (Nat.pos_of_ne_zero q.den_nz)
 |.plus a b=>Nat.mul_pos (oI a) (oI b)
 |.minus a b=>Nat.mul_pos (oI a) (oI b)
theorem jt{a b:Nat}(h:a<=b):2 ^ a<=2 ^ b:=Nat.pow_le_pow_right ∎ h
theorem oW:∀t:Tm,Dt t<=2 ^ bu t
 |.num q=>le_trans (le_of_lt (jZ q).2) (jt (le_succ _))
 |.aR _ _=>by show 2 <= 2 ^ 4;decide
 |.times q t=>by
  have:=mul_le_mul (oW t) (le_of_lt (jZ q).2);rw[<- pow_add] at this;exact this
 |.plus a b=>by
  have:=mul_le_mul (oW a) (oW b);rw[<- pow_add] at this;exact le_trans this (jt (by show _<=bu a+bu b+5;omega))
 |.minus a b=>by
  have:=mul_le_mul (oW a) (oW b);rw[<- pow_add] at this;exact le_trans this (jt (by show _<=bu a+bu b+5;omega))
theorem ZE:∀p∈fY,∀r∈p.2,(r.2=1\/r.2=Rat.divInt 1 2)/\r.1∈([("left":Str),"width","gap","top","height","drop"]:ag):=by walk_at "k"
theorem zx{a n u:Str}{q:Rat}(o:(fY.lookup a).isSome=true)(h:(u,q)∈ez a n):(q=1\/q=Rat.divInt 1 2)/\∃w∈([("left":Str),"width","gap","top","height","drop"]:ag),u=cB w n:=by
 ∎;let⟨y,d,e⟩:=yN (n:=n) (l:=shr a) h;let⟨b,c⟩:=ZE _ (rn o).1 _ d;∎;exact⟨b,y,c,e⟩
theorem JO{q:Rat}(h:q=1\/q=Rat.divInt 1 2):Dv 2 (2 ^ 4) q:=by
 rcases h with rfl |rfl
 .exact⟨2,by walk_at "k",∎⟩
 .exact⟨1,by walk_at "k",∎⟩
theorem GI{a b:Nat}:2 ^ a+2 ^ b<=2 ^ (a+b+1):=by
 have c:2 ^ a<=2 ^ (a+b):=jt ⋯;have d:2 ^ b<=2 ^ (a+b):=jt ⋯;rw[Nat.pow_succ];omega
theorem mE:∀{t:Tm},t.ok->(∀u,Dv (Dt t) (2 ^ bu t) (cY t u))/\Dv (Dt t) (2 ^ bu t) (cD t)
 |.num q,_=>⟨λ_=>Dv.zero,(Dv.self q).mono (jt (le_succ _))⟩
 |.aR a n,o=>by
  refine⟨λu=>?_,Dv.zero⟩;show Dv 2 (2 ^ 4) ((b3 (ez a n) u).getD 0);cases e:b3 (ez a n) u with
  |none=>exact Dv.zero
  |some q=>exact JO (zx o.1 (zi e)).1
 |.times q t,o=>by
  let⟨c,d⟩:=mE (t:=t) o;have le:2 ^ bu t*2 ^ bs q<=2 ^ bu (.times q t):=by rw[<- pow_add];exact le_refl _
  exact⟨λu=>((c u).mul (Dv.self q)).mono le,(d.mul (Dv.self q)).mono le⟩
 |.plus a b,o=>by
  let⟨c,d⟩:=mE (t:=a) o.1;let⟨f,g⟩:=mE (t:=b) o.2;have le:2 ^ bu a+2 ^ bu b<=2 ^ bu (.plus a b):=le_trans GI (jt (by show _<=bu a+bu b+5;omega));exact⟨λu=>(((c u).lift (Dt b)).add ((f u).gY (Dt a))).mono le,((d.lift (Dt b)).add (g.gY (Dt a))).mono le⟩
 |.minus a b,o=>by
  let⟨c,d⟩:=mE (t:=a) o.1;let⟨f,g⟩:=mE (t:=b) o.2;have le:2 ^ bu a+2 ^ bu b<=2 ^ bu (.minus a b):=le_trans GI (jt (by show _<=bu a+bu b+5;omega));exact⟨λu=>(((c u).lift (Dt b)).add (((f u).neg).gY (Dt a))).mono le,((d.lift (Dt b)).add ((g.neg).gY (Dt a))).mono le⟩
def mY(q:Rat):Prop:=0<=q/\q.den<=3/\q.num.natAbs<=1000000
theorem JQ{q:Rat}(h:mY q):Dv 6 1000000 q:=by
 let⟨_,b,a⟩:=h;have hd:q.den≠0:=q.den_nz;have e:=Hx q;have c:q.den=1\/q.den=2\/q.den=3:=⋯
 rcases c with c |c |c
 .rw[c] at e;refine⟨q.num*6,?_,by rw[natAbs_mul];exact Nat.mul_le_mul_right _ a⟩;rw[Rat.intCast_mul,<- e];grind
 .rw[c] at e;refine⟨q.num*3,?_,by rw[natAbs_mul];show q.num.natAbs*3<=1000000*6;omega⟩;rw[Rat.intCast_mul,<- e];grind
 .rw[c] at e;refine⟨q.num*2,?_,by rw[natAbs_mul];show q.num.natAbs*2<=1000000*6;omega⟩;rw[Rat.intCast_mul,<- e];grind
def NM:ag:=["a","b","of","frame"]
def W6:ag:=["left","width","gap","top","height","drop"]
structure g6(pl:List (Str×Rat)):Prop where
 k:∀w∈W6,∀n∈NM,(b3 pl (cB w n)).isSome=true
 v:∀u q,b3 pl u=some q->mY q
 f:∀w∈([("left":Str),"top"]:ag),b3 pl (cB w "frame")=some 0
 nd:Nd pl
theorem g6.at{pl:List (Str×Rat)}(h:g6 pl)(u:Str):mY (at' pl u):=by
 unfold at';cases e:b3 pl u with
 |none=>exact⟨Rat.le_refl,∎,∎⟩
 |some q=>exact h.v u q e
def Tm.nm(t:Tm):Prop:=∀e∈bC t,e.2∈NM
theorem JR{t:Tm}:t.ok->t.nm->∀u∈iZ t,∃w∈W6,∃n∈NM,u=cB w n:=by
 intro o hn u m;∎;let⟨e,f,j⟩:=List.mem_flatMap.mp m;let⟨p,i,rfl⟩:=mem_map.mp j;∎;have l:∀{t:Tm},t.ok->∀e∈bC t,(fY.lookup e.1).isSome=true:=by
  intro t
  induction t with
  |num q=>exact λ_ e m=>nomatch m
  |aR a n=>exact λo e m=>by rw[mem_singleton.mp m];exact o.1
  |times q t h=>exact λo e m=>h o e m
  |plus a b c d=>exact λo e m=>(mem_append.mp m).elim (c o.1 e) (d o.2 e)
  |minus a b c d=>exact λo e m=>(mem_append.mp m).elim (c o.1 e) (d o.2 e)
 let⟨_,w,hw,g⟩:=zx (l o e f) (show (p.1,p.2)∈ez e.1 e.2 from i);exact⟨w,hw,e.2,hn e f,g⟩
theorem ID{m:List (Str×Rat)}{P:Str->Rat}{r:Rat}{D B:Nat}(hm:∀p∈m,Dv D B p.2)(a:∀x,Dv 6 1000000 (P x))(b:Dv D B r):∀i,i<=m.length->Dv (D*6) (B+i*(B*1000000)) (r+cq P (m.take i))
 |0,_=>by rw[Nat.zero_mul];show Dv _ _ (r + 0);rw[Rat.add_zero];exact b.lift 6
 |i + 1,h=>by
  have d:=ID hm a b i ⋯;have c:i<m.length:=⋯
  have e:m[i]?=some ((m[i]).1,(m[i]).2):=List.getElem?_eq_getElem c;rw[yO P e,<- Rat.add_assoc];have:=d.add ((hm _ (mem_of_getElem? e)).mul (a (m[i]).1));exact this.mono (by rw[Nat.succ_mul];omega)
theorem IE{pl m:List (Str×Rat)}{t:Tm}{n l:Nat}{r:Rat}(c:g6 pl)(h:d8 m (cY t) n l)(hn:n<=2000)(y:l<=100)(o:t.ok)(v:t.nm)(hw:bu t<=1510)(s:Dv (Dt t) (2 ^ bu t) r):nA m r pl:=by
 have D:=mE o;have val:∀p∈m,p.2=cY t p.1:=λp a=>by
  have:=h.get p.1;rw[lZ h.nd a] at this;exact this
 refine⟨λp a=>⟨?_,le_trans (h.b _ _ (lZ h.nd a)) hn,?_⟩,λi q=>?_⟩
 .obtain⟨w,hw,x,hx,e⟩:=JR o v _ (h.keys p a);rw[e];exact c.k w hw x hx
 .obtain⟨_,h1,h2⟩:=c.at p.1;have:Sm 20 (at' pl p.1):=⟨lt_of_le_of_lt h2 ∎,lt_of_le_of_lt h1 ∎⟩;exact le_trans (oO this) ∎
 .have hd:=ID (P:=at' pl) (λp a=>by rw[val p a];exact D.1 p.1) (λx=>JQ (c.at x)) s i q;have u:i<=100:=by have:=h.l;omega
  have j:Dt t<=2 ^ 1510:=le_trans (oW t) (jt hw);have f:2 ^ bu t<=2 ^ 1510:=jt hw;have g:2 ^ bu t+i*(2 ^ bu t*1000000)<=2 ^ 1510*2 ^ 27:=by
   have:i*(2 ^ bu t*1000000)<=100*(2 ^ 1510*1000000):=mul_le_mul u (Nat.mul_le_mul_right _ f);have e:2 ^ 27=134217728:=∎
   rw[e];omega
  have d:Dt t*6<=2 ^ 1510*2 ^ 3:=mul_le_mul j ∎;refine hd.iz (Nat.mul_pos (oI t) ∎) (lt_of_le_of_lt d ?_) (lt_of_le_of_lt (mul_le_mul g d) ?_)
  .rw[<- pow_add];exact Nat.pow_lt_pow_right ∎ ∎
  .rw[<- pow_add,<- pow_add,<- pow_add];exact Nat.pow_lt_pow_right ∎ ∎
theorem rE{x:Wi}(h:x.rw):x.df.ok:=⟨h.oa,h.ob⟩
theorem Jp{x:Wi}(h:x.a.nm)(g:x.b.nm):x.df.nm:=λe m=>(mem_append.mp m).elim (h e) (g e)
def xi(T:Tx w K mg):bQ:=cA 2 λd Q=>∃(f g:Fl)(x:Wi)(c:List (Str×Rat)),Fp g/\d=[dC T f x,bp g c]/\x.rw/\x.a.nm/\x.b.nm/\g6 c/\Q (ao.t (jr (knd x.k) (ev (at' c) x.df)))
theorem xW(T:Tx w K mg):aw P w K mg base aV 100 T.jB.a T.jB.d ["self","placing"] (aX K true 0 2 (xi T)):=by
 refine bH T.jB.F OV rfl ∎ λaM A outer s H E o hu v=>?_
 refine⟨_,(aK (bf (Tz T.qa T.Mz (U4 T) (aj (c8 (IA T) (qv 0)) (aj (qv 1) aE))))),?_⟩;rintro z i _ ⟨_,f,g,x,h,_,rfl,c,p,r,n,q⟩;rfl';simp only[vK,rZ,vE];refine IB T c.k ⟨rfl,_,x,rfl,c,λm hm o j=>?_⟩;have hw:bu x.df<=1505:=by show bu x.a+bu x.b+5<=_;have:=c.w;omega
 have y:2*(bC x.df).length<=80:=by show 2*(bC x.a++bC x.b).length<=80;rw[length_append];have:=c.l;omega
 have u:=HU 0 (cD x.df);have B:bs 0<=1:=by walk_at "k"
 have e:cq (at' h) m - (0 - cD x.df)=ev (at' h) x.df:=by rw[<- hm.ev (at' h) (rE c)];grind
 rfl';exact⟨rfl,g,qF m x,h,inferInstance,rfl,IE n hm ⋯ ⋯ (rE c) (Jp p r) ⋯ Dv.zero,by show bs (0 - cD x.df)<=2000;omega,λj=>⟨fO _,by show i (ao.t (jr (knd x.k) (cq (at' h) m - (0 - cD x.df)))) _;rw[e];exact q _⟩⟩
theorem Fv(T:Tx w K mg):∀C g,DW T C g->aO P w K mg base aV 100 "missed" C ["self","placing"] (aX K true 0 2 (xi T)):=λC g h=>by
 rcases h with⟨rfl,rfl⟩ |⟨rfl,rfl⟩ |⟨rfl,rfl⟩
 .exact⟨T.nG,_,_,T.jB.t,xW T,T.jB.b⟩
 .exact⟨T.nH,_,_,T.adc,xW T,T.jB.b⟩
 .exact⟨T.nI,_,_,T.My,xW T,T.jB.b⟩
theorem Fw(T:Tx w K mg){f:Fl}{x:Wi}(h:x.k<3){Q:Nat->Prop}(q:Q x.k):eC (DW T) "missed" (dC T f x) Q:=⟨x.k,dw T h,by simp only[List.lookup,show (("missed":Str) == "near")=false by walk_at "k",show (("missed":Str) == "far")=false by walk_at "k",show (("missed":Str) == "rank")=false by walk_at "k",show (("missed":Str) == "weight")=false by walk_at "k"],q⟩
def MQ:bQ:=cA 2 λb Q=>∃(f:Fl)(a:cW)(k:Int),Fp f/\b=[.av f ↥a,.int k]/\0<=k/\∀c:Int,Q (.int c)
theorem qO(T:Tx w K mg){z:Bool}:aw P w K mg base aV 1 T.ku.a T.ku.d ["_law_script","_law_k"] (aX K z 0 2 MQ):=by
 refine bH T.ku.F OS rfl ∎ λaM A outer s H E i hu h=>?_
 refine⟨_,(aH (b8 (bX o3 oE (qv 1) (e4 iR iO T.ig (aj (qv 0) aE))) (aK (bf (ba (qv 0) (qv 1)))) b4)
  (aK (bf ay))),?_⟩
 rintro j g _ ⟨_,f,b,k,_,rfl,e,q⟩;rfl';split
 .rename_i c;exact mM _ _ _ (oG b e (by have:=of_decide_eq_true c;omega)) ⟨fO _,q _ _⟩
 .exact q _ _
theorem ud{i j:Int}(h:-(2 ^ 64)<i/\i<2 ^ 64):ky i j:=.inl (.inl h)
theorem NR{i j:Int}(h:-(2 ^ 64)<j/\j<2 ^ 64):ky i j:=.inl (.inr h)
theorem fk{j:Int}(h:j.natAbs<2 ^ 100):j.natAbs<2 ^ 8000:=lt_of_lt_of_le h (Nat.pow_le_pow_right ∎ ⋯)
theorem ZF{xs:ah}{r:Int}{Q:aq}(a:0<=r)(b:r<xs.length)(q:∀x,x∈xs->Q x):oQ (cU xs r) Q:=by
 rw[oG xs a ⋯];exact q _ (List.getElem_mem _)
theorem yR{ns:cW}{r:Int}{Q:aq}(a:0<=r)(b:r<ns.length)(q:∀n,n∈ns->Q (.int n)):oQ (cU (ns.map Tr.int) r) Q:=by
 refine ZF a (by rw[length_map];exact b) λx c=>?_
 let⟨n,hn,rfl⟩:=mem_map.mp c;exact q n hn
theorem Jq:qM 10 9:=⟨∎,∎,∎⟩
def Nf:bQ:=cA 2 λa Q=>∃(c k:Int),a=[.int c,.int k]/\0<=k/\k<=1000/\∀r:Int,0<=r->r<2147483647->Q (.int r)
theorem Ez(T:Tx w K mg){z:Bool}:aw P w K mg base aV 1 T.qd.a T.qd.d ["_law_cell","_law_k"] (aX K z 0 2 Nf):=by
 refine bH T.qd.F Qj rfl ∎ λaM A outer s H E h hu g=>?_
 refine⟨_,(aH (bM 2 (qv 0))
  (aH (rM (Lm T.Mp (aj (cb (qv 1) ay) aE)) (cM 3) (aK (bM 2 (eI (qv 2) (vz ay ay)))))
  (aH (b8 (bX j9 j7 (qv 2) ay) (aK (bf (dk (qv 2) (vz ay ay)))) b4)
  (aH (bM 4 (dk (ea (cb (cb (qv 0) (ea ay (qv 1))) ay) ay) ay))
  (aK (bf (dk (ea (qv 4) (cb (eI (qv 4) ay) ay)) ay))))))),?_⟩
 rintro o e _ ⟨_,c,k,rfl,l,m,q⟩;rfl';refine⟨⋯,⋯,Loop.map _ _ (λi y=>∃(n:Int)(d:Tr),y=[.int c,.int k,.int n,d,.aF]) ⟨_,_,rfl⟩ ?_ ?_⟩
 .rintro i j y hi ⟨n,d,rfl⟩;rfl';exact⟨Jq,⟨∎,fk ∎⟩,_,_,rfl⟩
 .rintro y ⟨n,d,rfl⟩;rfl';split
  .have b0:=emod_nonneg n (show ((10:Int) ^ (9:Int).toNat)≠0 by decide);have b:=emod_lt_of_pos n (show (0:Int)<(10:Int) ^ (9:Int).toNat by decide);exact⟨Jq,∎,q _ b0 (Int.lt_trans b ∎) _⟩
  .have a0:=emod_nonneg ((c+7919*k+1)*48271) (show (2147483647:Int)≠0 by decide);have f:=emod_lt_of_pos ((c+7919*k+1)*48271) (show (0:Int)<2147483647 by decide);exact⟨ud ∎,NR ∎,∎,⟨∎,fk ∎⟩,ud ⋯,∎,q _ (emod_nonneg _ ∎) (emod_lt_of_pos _ ∎) _⟩
def MZ:bQ:=cA 2 λc Q=>∃a b:Int,c=[.int a,.int b]/\Q (.int (gd a b))
theorem P5(T:Tx w K mg){z:Bool}:aw P w K mg base aV 1 T.sU.a T.sU.d ["_law_one","_law_other"] (aX K z 0 2 MZ):=by
 refine bH T.sU.F PB rfl ∎ λaM A outer s H E l hu i=>?_
 refine⟨_,(aH (bM 0 (e4 qS qY T.qr (aj (qv 0) aE)))
  (aH (bM 1 (e4 qS qY T.qr (aj (qv 1) aE)))
  (aH (zW (bX iA iy (qv 1) ay) (aK (Ln 0 1 (aj (qv 1) (aj (dk (qv 0) (qv 1)) aE)))))
  (aK (bf (qv 0)))))),?_⟩
 rintro n h _ ⟨_,a,b,rfl,q⟩;rfl';refine⟨λm j=>∃x y,j=[.int x,.int y]/\0<=x/\0<=y/\gd x y=gd a b/\m=y.toNat,⟨_,_,_,rfl,by split<;>omega,by split<;>omega,by rw[uY,uY];exact HR a b,rfl⟩,?_⟩;rintro m j ⟨x,y,rfl,f,g,e,rfl⟩;rfl';by_cases c:y=0
 .subst c;rw[GU x f] at e;subst e;rfl';exact q _
 .rw[if_pos (by simp[c])];refine⟨⋯,(x % y).toNat,?_,_,_,rfl,g,emod_nonneg _ c,?_,rfl⟩
  .have:=emod_lt_of_pos x (show 0<y by omega);have:=emod_nonneg x c;omega
  .rw[HQ f ⋯];exact e
theorem Jr{a b:Int}(c:0<b):a.fdiv (gd a b)=(Rat.divInt a b).num:=by
 have:=FU (t:=a) (b:=b) ⋯;unfold dv at this;rw[if_neg ⋯] at this;exact this
theorem Js{a b:Int}(c:0<b):b.fdiv (gd a b)=((Rat.divInt a b).den:Int):=by
 have:=FV (t:=a) (b:=b) ⋯;unfold dv at this;rw[if_neg ⋯] at this;exact this
theorem IF{a b:Int}(h:0<b):(Rat.divInt a b).num.natAbs<=a.natAbs/\((Rat.divInt a b).den:Int)<=b:=by
 have d:∀g x:Int,0<g->g ∣ x->(x.fdiv g).natAbs<=x.natAbs:=by
  rintro g _ j ⟨c,rfl⟩;rw[Int.mul_fdiv_cancel_left _ ⋯,natAbs_mul];exact Nat.le_mul_of_pos_left _ ⋯
 have e:0<gd a b:=oB ⋯;have f:=d _ _ e (yW a b);have i:=d _ _ e (uo a b);rw[Jr h] at f;rw[Js h] at i;exact⟨f,⋯⟩
def CB:bQ:=cA 2 λc Q=>∃a b:Int,c=[.int a,.int b]/\0<b/\bi b<=7990/\Q (ao.t (Rat.divInt a b))
theorem n7(T:Tx w K mg){z:Bool}:aw P w K mg base aV 2 T.jF.a T.jF.d ["_law_top","_law_bottom"] (aX K z 0 2 CB):=by
 refine bH T.jF.F PC rfl ∎ λaM A outer s H E h hu g=>?_
 refine⟨_,(aH (bM 2 (qc T.sU (P5 T) (aj (qv 0) (aj (qv 1) aE))))
  (aK (bf (dJ (aj (eI (qv 0) (qv 2)) (aj (eI (qv 1) (qv 2)) aE)))))),?_⟩
 rintro i f _ ⟨_,a,b,rfl,e,c,q⟩;rfl';refine⟨rfl,a,b,rfl,λj=>?_⟩;rfl';rw[Jr e,Js e];exact⟨uF ⋯ c,uF ⋯ c,q _⟩
theorem qR{a b:Int}(c:0<b)(h:bi b<=7990){Q:Tr->aG}(q:∀j,Q (ao.t (Rat.divInt a b)) j):CB [.int a,.int b] Q:=⟨rfl,a,b,rfl,c,h,q⟩
theorem jP(a:Rat):(0:Int)<(a.den:Int):=by have:=a.den_nz;omega
theorem QZ(a:Rat)(n p d:Int)(hd:d≠0):a+(n:Rat)*Rat.divInt p d=Rat.divInt (a.num*d+n*p*a.den) (a.den*d):=by
 have ha:(a.den:Int)≠0:=by have:=jP a;omega
 conv=>lhs;rw[<- Rat.num_divInt_den a,<- Rat.num_divInt_den (n:Rat)]
 rw[Rat.num_intCast,Rat.den_intCast,Rat.divInt_mul_divInt,Int.natCast_one,Int.one_mul,Rat.divInt_add_divInt _ _ ha hd]
def Cz:bQ:=cA 3 λb Q=>∃(a:Rat)(n p d:Int),b=[ao.t a,.aA [.int p,.int d],.int n]/\0<d/\bs a+bi d<=7990/\bi p<=10000/\bi n<=60/\Q (ao.t (a+n*Rat.divInt p d))
theorem jA(T:Tx w K mg){z:Bool}:aw P w K mg base aV 3 T.ib.a T.ib.d ["_law_one","_law_other","_law_sign"] (aX K z 0 3 Cz):=by
 refine bH T.ib.F QM rfl ∎ λaM A outer s H E h hu g=>?_
 refine⟨_,(aK (bf (qc T.jF (n7 T) (aj (cb (ea (ba (qv 0) ay) (ba (qv 1) ay)) (ea (ea (qv 2) (ba (qv 1) ay)) (ba (qv 0) ay))) (aj (ea (ba (qv 0) ay) (ba (qv 1) ay)) aE))))),?_⟩;rintro r b _ ⟨_,a,n,p,d,rfl,hd,c,e,f,q⟩;have i:=oC n p;have l:=fj a;have m:=dP a;have o:=oC (a.den:Int) d;rfl';refine⟨rJ ⋯ ⋯,rJ ⋯ ⋯,rJ ⋯ ⋯,rJ ⋯ ⋯,rfl,_,_,rfl,mul_pos (jP a) hd,⋯,λj=>?_⟩;rw[<- QZ _ _ _ _ ⋯];exact⟨fO _,q _⟩
theorem mh{a b:Rat}{n:Int}(hn:bi n<=60)(h:bs a+bs b<=7990){Q:Tr->aG}(q:∀j,Q (ao.t (a+n*b)) j):Cz [ao.t a,ao.t b,.int n] Q:=⟨rfl,a,n,b.num,b.den,rfl,jP b,by have:=dP b;omega,by have:=fj b;omega,hn,by rw[Rat.num_divInt_den];exact q⟩
theorem rf{q:Rat}(h:nq q):(bZ q).length<=14:=by
 have d:∀n:Nat,n<1000000->(c9 n).length<=6:=λn h=>by
  unfold c9;rw[length_map];exact (Nat.length_toDigits_le_iff ∎ ∎).mpr h
 have a:=d _ h.1;have b:=d _ h.2;have c:(dec q.num).length<=7:=by
  unfold dec;split
  .rw[length_cons];omega
  .omega
 unfold bZ;split
 .omega
 .rw[length_append,length_cons];omega
theorem k8{q:Rat}(h:nq q):bs q<=20:=by
 have a:bi q.num<=20:=rH (by have:=h.1;omega);have b:bi (q.den:Int)<=20:=rH (by have:=h.2;omega);unfold bs;exact Nat.max_le.mpr ⟨a,b⟩
theorem Ky:qM 10 5:=⟨∎,∎,∎⟩
theorem ZG{p:Rat}(h:0<p.num):bZ (-p)=45::bZ p:=by
 have a:dec (-p.num)=45::dec p.num:=by
  unfold dec;rw[if_pos ⋯,if_neg ⋯,Int.natAbs_neg]
 unfold bZ;rw[show (-p).num=-p.num from rfl,show (-p).den=p.den from rfl,a];split<;>rfl
def M0:bQ:=cA 1 λa Q=>∃c:Int,a=[.int c]/\∀q:Rat,nq q->Q (.aA [.str (tx (bZ q)),ao.t q])
theorem xT(T:Tx w K mg){z:Bool}:aw P w K mg base aV 3 T.nL.a T.nL.d ["_law_cell"] (aX K z 0 1 M0):=by
 refine bH T.nL.F PD rfl ∎ λaM A outer s H E x hu f=>?_
 refine⟨_,(aH (bM 1 (qc T.jF (n7 T) (aj (dk (eI (qv 0) ay) (ba (gc (aj ay (aj (vz ay ay) aE))) (dk (qv 0) ay))) (aj (ba (gc (aj ay (aj ay (aj ay (aj ay aE))))) (dk (eI (qv 0) ay) ay)) aE))))
  (aH (bM 2 (gy n8 oj T.lH (aj (ba (qv 1) ay) aE)))
  (aH (b8 (bX j9 j7 (ba (qv 1) ay) ay) (aK (bM 2 (cb (cb (qv 2) bc) (gy n8 oj T.lH (aj (ba (qv 1) ay) aE))))) b4)
  (aH (b8 (QW.t (mz (bX dE dF (dk (eI (qv 0) ay) ay) ay) (mj (bX j9 j7 (ba (qv 1) ay) ay)))) (aK (bf (dJ (aj (cb bc (qv 2)) (aj (dJ (aj (rL ay (ba (qv 1) ay)) (aj (ba (qv 1) ay) aE))) aE))))) b4)
  (aK (bf (dJ (aj (qv 2) (aj (qv 1) aE))))))))),?_⟩
 rintro D v _ ⟨_,c,rfl,q⟩;walk_at "q";refine⟨⟨∎,fk ∎⟩,Ky,∎,yR (ns:=[9,10 ^ Int.toNat 5]) (emod_nonneg _ ∎) (emod_lt_of_pos _ ∎) λn hn=>?_⟩;have m:0<n/\n<=100000:=by
  rcases mem_cons.mp hn with rfl |hn
  .decide
  .rw[mem_singleton.mp hn];decide
 walk_at "q";refine⟨m.1,⟨∎,fk ∎⟩,∎,yR (ns:=[1,1,2,60]) (emod_nonneg _ ∎) (emod_lt_of_pos _ ∎) λd hd=>?_⟩;have i:0<d/\d<=60:=by
  simp only[mem_cons,not_mem_nil,or_false] at hd;omega
 have o:=emod_nonneg (c.fdiv 2) (show n≠0 by omega);have u:=emod_lt_of_pos (c.fdiv 2) m.1;walk_at "q";generalize c.fdiv 2 % n=t at o u;refine qR i.1 (le_trans (kO 20 ⋯) ∎) λj=>?_
 have le:=IF (a:=t) i.1;have pn:0<=(Rat.divInt t d).num:=Rat.num_nonneg.mpr (Rat.divInt_nonneg o ⋯);generalize Rat.divInt t d=p at le pn;have b:nq p:=⟨⋯,⋯⟩
 have l:=k8 b;have g:=Im l;have h:=le_trans (dP p) l;have y:=kU g;have B:=kU h;have C:=rf b;walk_at "q";refine oU _ _ (mD g ∎) ?_;walk_at "q";refine vJ (λj=>j=[.int c,ao.t p,.str (tx (bZ p))]) (λN f=>?_) ?_
 .rfl';have r:p.den≠0:=p.den_nz;split
  .rename_i k;have k:1<(p.den:Int):=of_decide_eq_true k;rw[AH,cg,cg,kY];refine⟨by simp only[List.length_singleton];omega,oU _ _ (mD h ∎) ?_⟩;rfl';rw[kY,cg,cg,length_append,List.length_singleton];refine⟨⋯,f _ ?_⟩;unfold bZ;rw[if_neg ⋯,<- Hm,show dec p.num++[47]++dec (p.den:Int)=dec p.num++47::dec (p.den:Int) by simp]
  .rename_i k;have k:¬ 1<(p.den:Int):=λz=>k (decide_eq_true z)
   refine f _ ?_;unfold bZ;rw[if_pos ⋯]
 .rintro _ rfl;rfl';refine⟨⟨∎,fk ∎⟩,∎,?_⟩;split
  .split
   .rename_i k;have k:0<p.num:=of_decide_eq_true k;have q:=q (-p) ⟨by rw[show (-p).num=-p.num from rfl,Int.natAbs_neg];exact b.1,b.2⟩;rw[ZG k] at q;have e:Tr.aA [Tr.int (0 - p.num),Tr.int p.den]=ao.t (-p):=by rw[oR,show (-p).num=-p.num from rfl,show (-p).den=p.den from rfl,Int.zero_sub]
    rw[IH,kY,cg,cg,e];exact⟨by simp only[List.length_singleton];omega,q _⟩
   .exact q p b _
  .exact q p b _
def PW:List (Str×Str×Nat):=[("left ","left",0),("width ","width",1),("gap ","gap",2),("top ","top",3),("height ","height",4),("drop ","drop",5)]
def nu:List (Str×Nat):=[("a",0),("b",1),("of",2),("frame",3)]
theorem Kz:∀p∈PW,p.1=p.2.1++" "/\p.2.1∈W6/\p.2.2<6/\p.1.length<=10:=by walk_at "k"
theorem JS:∀p∈nu,p.2<4/\p.1.length<=10:=by walk_at "k"
theorem KA:∀w∈W6,∃p∈PW,p.2.1=w:=by walk_at "k"
theorem JT:∀n∈NM,∃p∈nu,p.1=n:=by walk_at "k"
theorem KC:qM 10 6:=⟨∎,∎,∎⟩
def pA(m:List (Str×Rat)):Prop:=(∀u q,b3 m u=some q->mY q)/\Nd m
theorem pA.put{m:List (Str×Rat)}(h:pA m){x:Str}{q:Rat}(a:mY q):pA (gh m x q):=⟨λu y e=>by
 rw[oh] at e;split at e
 .cases e;exact a
 .exact h.1 u y e,IV h.2 x q⟩
theorem uj{m:List (Str×Rat)}{x u:Str}{q:Rat}(h:(b3 m u).isSome=true):(b3 (gh m x q) u).isSome=true:=by
 rw[oh];split
 .rfl
 .exact h
theorem U5{m:List (Str×Rat)}{x:Str}{q:Rat}:(b3 (gh m x q) x).isSome=true:=by rw[oh,if_pos rfl];rfl
theorem Ii{j:Type}{l:List j}{i:Nat}{x p:j}(h:l[i]?=some x)(m:p∈l.take (i+1)):p∈l.take i\/p=x:=by
 rw[uW h] at m;exact (mem_append.mp m).imp id λz=>mem_singleton.mp z
def MR:bQ:=cA 1 λb Q=>∃c:Int,b=[.int c]/\∀a:List (Str×Rat),g6 a->a.length<=30->Q (bp .o a)
theorem Pq(T:Tx w K mg){z:Bool}:aw P w K mg base aV 3 T.sV.a T.sV.d ["_law_cell"] (aX K z 0 1 MR):=by
 refine bH T.sV.F OT rfl ∎ λaM A outer s H E hr hu hN=>?_
 refine⟨_,(aH (mK 1 rq)
  (aH (rM (JA T.Bd (aj (gc (aj bc (aj bc (aj bc (aj bc (aj bc (aj bc aE))))))) aE)) (fZ (n:=2) rfl (cT (cM 2) (cT (cM 3) fS))) (aK (rM (JA T.Bd (aj (gc (aj bc (aj bc (aj bc (aj bc aE))))) aE)) (fZ (n:=2) rfl (cT (cM 4) (cT (cM 5) fS))) (aH (bM 6 (dk (qc T.qd (Ez T) (aj (qv 0) (aj (cb (ea ay (qv 2)) (qv 4)) aE))) (ba (gc (aj ay (aj ay (aj (vz ay ay) aE)))) (dk (qv 0) ay))))
  (aK (mL (ec 1) (cb (qv 3) (qv 5)) (qc T.jF (n7 T) (aj (qv 6) (aj (cb ay (dk (qc T.qd (Ez T) (aj (qv 0) (aj (cb ay (qv 2)) aE))) ay)) aE)))))))))
  (aH (mL (ec 1) bc (dJ (aj ay (aj ay aE))))
  (aH (mL (ec 1) bc (dJ (aj ay (aj ay aE))))
  (aK (uQ (Lq 1))))))),?_⟩
 rintro xs Y _ ⟨_,c,rfl,q⟩;rfl';refine⟨rfl,rfl,Loop.map PW (λp=>Tr.aA [.int p.2.2,.str p.1]) (λi u=>∃(m:List (Str×Rat))(a b d e f:Tr),u=[.int c,bp .o m,a,b,d,e,f]/\pA m/\m.length<=4*i/\∀p∈PW.take i,∀n∈NM,(b3 m (cB p.2.1 n)).isSome=true) ⟨[],_,_,_,_,_,rfl,⟨λ_ _ z=>(by cases z),nodup_nil⟩,∎,λ_ m=>(by cases m)⟩ ?_ ?_⟩
 .rintro i ⟨w',w,k⟩ u hi ⟨m,a,b,d,e,f,rfl,h1,h2,h3⟩;let⟨hw,B,I,C⟩:=Kz _ (mem_of_getElem? hi);dsimp only at hw B I C;rfl';refine⟨rfl,Loop.map nu (λp=>Tr.aA [.int p.2,.str p.1]) (λj u=>∃(m:List (Str×Rat))(d e f:Tr),u=[.int c,bp .o m,.int k,.str w',d,e,f]/\pA m/\m.length<=4*i+j/\(∀p∈PW.take i,∀n∈NM,(b3 m (cB p.2.1 n)).isSome=true)/\∀p∈nu.take j,(b3 m (cB w p.1)).isSome=true) ⟨m,_,_,_,rfl,h1,h2,h3,λ_ m=>(by cases m)⟩ ?_ ?_⟩
  .rintro j ⟨n,jj⟩ u hj ⟨m,d,e,f,rfl,h1,h2,h3,h4⟩;let⟨v,x⟩:=JS _ (mem_of_getElem? hj);dsimp only at v x;rfl';refine⟨ud ∎,rfl,c,_,rfl,⋯,⋯,λr r0 r1 u=>?_⟩;refine⟨KC,∎,yR (ns:=[5,200,10 ^ Int.toNat 6]) (emod_nonneg _ ∎) (emod_lt_of_pos _ ∎) λM h=>?_⟩;have D:0<M/\M<=1000000:=by
    rcases mem_cons.mp h with rfl |h
    .decide
    .rcases mem_cons.mp h with rfl |h
     .decide
     .rw[mem_singleton.mp h];decide
   rfl';have G:=emod_nonneg r (show M≠0 by omega);have U:=emod_lt_of_pos r D.1;generalize r % M=t at G U;refine⟨D.1,rfl,c,_,rfl,⋯,⋯,λr2 a0 a1 u=>?_⟩;rfl';have d0:=emod_nonneg r2 (show (3:Int)≠0 by decide);have d1:=emod_lt_of_pos r2 (show (0:Int)<3 by decide);refine⟨∎,qR ⋯ (le_trans (kO 20 ⋯) ∎) λu=>?_⟩;have le:=IF (a:=t) (b:=1+r2 % 3) ⋯;have pn:0<=Rat.divInt t (1+r2 % 3):=Rat.divInt_nonneg G ⋯;generalize Rat.divInt t (1+r2 % 3)=p at le pn;have Q:w'++n=cB w n:=by rw[hw];rfl
   rfl';have J:=uJ m (w'++n) p;refine⟨⋯,by have:=(List.getElem?_eq_some_iff.mp hi).1;have:PW.length=6:=rfl;have:=(List.getElem?_eq_some_iff.mp hj).1;have:nu.length=4:=rfl;omega,gh m (w'++n) p,_,_,_,rfl,h1.put ⟨pn,⋯,⋯⟩,⋯,λp g n hn=>uj (h3 p g n hn),λp g=>?_⟩;rcases Ii hj g with z |rfl
   .exact uj (h4 p z)
   .rw[Q];exact U5
  .rintro u ⟨m,d,e,f,rfl,h1,h2,h3,h4⟩;refine⟨m,_,_,_,_,_,rfl,h1,by have:nu.length=4:=rfl;omega,λp g n hn=>?_⟩;rcases Ii hi g with z |rfl
   .exact h3 p z n hn
   .obtain⟨y,my,rfl⟩:=JT n hn;exact h4 y (by rw[take_length];exact my)
 .rintro u ⟨m,a,b,d,e,f,rfl,h1,h2,h3⟩;rfl';have:PW.length=6:=rfl;have J:=uJ m (Str.ofString "left frame") (0:Rat);have ON:=uJ (gh m (Str.ofString "left frame") (0:Rat)) (Str.ofString "top frame") (0:Rat);have l:mY 0:=⟨Rat.le_refl,∎,∎⟩;have L:cB "left" "frame"=Str.ofString "left frame":=by walk_at "k"
  have N:cB "top" "frame"=Str.ofString "top frame":=by walk_at "k"
  have O:¬ Str.ofString "left frame"=Str.ofString "top frame":=by walk_at "k"
  refine⟨⋯,⋯,Ad _,q _ ⟨λw hw n hn=>?_,((h1.put l).put l).1,λw hw=>?_,((h1.put l).put l).2⟩ ⋯ _⟩
  .obtain⟨p,g,rfl⟩:=KA w hw;exact uj (uj (h3 p (by rw[take_length];exact g) n hn))
  .rcases mem_cons.mp hw with rfl |hw
   .rw[L,oh,if_neg O,oh,if_pos rfl]
   .rw[mem_singleton.mp hw,N,oh,if_pos rfl]
def oK(b s:Str)(i:Nat)(n:Str):List (Str×Rat):=(if i=1\/n="frame" then [] else [(cB b n,1)])++(if i=0 then [] else [(cB s n,if i=3 then Rat.divInt 1 2 else 1)])
@[reducible] def nj(d:Bool)(a n:Str):Prop:=((a∈iH\/iU a=true)/\iU a=d/\kE n.cps.toList=true/\¬ (n="frame"/\(a="gap"\/a="drop")))/\(fY.lookup a).isSome=true/\n.length<=100/\a.length<=10
@[reducible] def vY(d:Bool)(b s m:Str)(a:ag):Prop:=b∈W6/\s∈W6/\m∈W6/\b.length<=10/\s.length<=10/\m.length<=10/\b∈([("left":Str),"top"]:ag)/\a.length=4/\(∀n∈NM,∀i∈([0,1,2,3]:List Nat),ez ((a[i]?).getD "") n=oK b s i n/\nj d ((a[i]?).getD "") n)/\ez m "b"=[(cB m "b",1)]/\nj d m "b"
theorem LB:vY false "left" "width" "gap" ["left","width","right","middle"]:=by walk_at "k"
theorem LC:vY true "top" "height" "drop" ["top","height","bottom","centre"]:=by walk_at "k"
theorem nj.gd{d:Bool}{a n:Str}(h:nj d a n):(Tm.aR a n).gd d/\(Tm.aR a n).ok:=⟨h.1,h.2.1,h.2.2.1⟩
theorem KG{dn:Int}(h:dn=0\/dn=1):∃(b s m:Str)(a:ag),cU [Tr.aA [.str (Str.ofString "left"),.str (Str.ofString "width"),.str (Str.ofString "gap")],Tr.aA [.str (Str.ofString "top"),.str (Str.ofString "height"),.str (Str.ofString "drop")]] dn=some (.aA [.str b,.str s,.str m])/\(∀f g:Fl,cU [Tr.av f [.str (Str.ofString "left"),.str (Str.ofString "width"),.str (Str.ofString "right"),.str (Str.ofString "middle")],Tr.av g [.str (Str.ofString "top"),.str (Str.ofString "height"),.str (Str.ofString "bottom"),.str (Str.ofString "centre")]] dn=some (.av (if dn=0 then f else g) (a.map Tr.str)))/\vY (decide (dn=1)) b s m a:=by
 rcases h with rfl |rfl
 .exact⟨_,_,_,_,tV _ _,λ_ _=>tV _ _,LB⟩
 .exact⟨_,_,_,_,tW _ _ _,λ_ _=>tW _ _ _,LC⟩
theorem zy{ns:ag}{r:Int}(a:0<=r)(b:r<ns.length):∃n,ns[r.toNat]?=some n/\cU (ns.map Tr.str) r=some (.str n)/\n∈ns:=by
 have h:r.toNat<ns.length:=⋯
 refine⟨ns[r.toNat],List.getElem?_eq_getElem h,?_,List.getElem_mem h⟩;have:=oG (ns.map Tr.str) a (by rw[length_map];exact h);rw[this];simp
theorem JU(q:Rat):Rat.divInt q.num (2*(q.den:Int))=Rat.divInt 1 2*q:=by
 conv=>rhs;rw[<- Rat.num_divInt_den q]
 rw[Rat.divInt_mul_divInt,Int.one_mul]
theorem Ij:∀n∈NM,n.length<=10:=by walk_at "k"
theorem KH{P:Str->Rat}{b s n:Str}{v1 a:Rat}(f:P (cB b n)=v1)(g:P (cB s n)=a)(d:n="frame"->v1=0):cq P (oK b s 0 n)=v1/\cq P (oK b s 1 n)=a/\cq P (oK b s 2 n)=v1+((1:Int):Rat)*a/\cq P (oK b s 3 n)=v1+((1:Int):Rat)*(Rat.divInt 1 2*a):=by
 have e:((1:Int):Rat)=1:=rfl;have k:cq P (if n="frame" then [] else [(cB b n,1)])=v1:=by
  split
  .rename_i z;exact (d z).symm
  .show 1*P (cB b n)+0=v1;rw[f,Rat.one_mul,Rat.add_zero]
 have c:∀q:Rat,cq P [(cB s n,q)]=q*a:=λq=>by show q*P (cB s n)+0=q*a;rw[g,Rat.add_zero]
 refine⟨?_,?_,?_,?_⟩
 .show cq P ((if (0:Nat)=1\/n="frame" then [] else [(cB b n,1)])++[])=v1;rw[append_nil];simpa using k
 .show cq P ((if (1:Nat)=1\/n="frame" then [] else [(cB b n,1)])++[(cB s n,1)])=a;rw[if_pos (.inl rfl),nil_append,c,Rat.one_mul]
 .show cq P ((if (2:Nat)=1\/n="frame" then [] else [(cB b n,1)])++[(cB s n,1)])=_;rw[uP,c,e,show (if (2:Nat)=1\/n="frame" then [] else [(cB b n,(1:Rat))])=(if n="frame" then [] else [(cB b n,1)]) from by simp,k]
 .show cq P ((if (3:Nat)=1\/n="frame" then [] else [(cB b n,1)])++[(cB s n,Rat.divInt 1 2)])=_;rw[uP,c,e,Rat.one_mul,show (if (3:Nat)=1\/n="frame" then [] else [(cB b n,(1:Rat))])=(if n="frame" then [] else [(cB b n,1)]) from by simp,k]
theorem vF{xs:ah}{i:Nat}{r:Int}{t:Tr}{Q:aq}(h:r=i)(e:xs[i]?=some t)(q:Q t):oQ (cU xs r) Q:=by
 rw[h,oG xs ⋯ (by have:=(List.getElem?_eq_some_iff.mp e).1;omega)];have:xs[((i:Nat):Int).toNat]?=some t:=by rw[toNat_natCast];exact e
 rw[(List.getElem?_eq_some_iff.mp this).2];exact q
def Ng:bQ:=cA 3 λd Q=>∃(f:Fl)(c dn:Int)(b:List (Str×Rat)),Fp f/\d=[.int c,.int dn,bp f b]/\(dn=0\/dn=1)/\g6 b/\∀a n:Str,(Tm.aR a n).gd (decide (dn=1))->(Tm.aR a n).ok->n∈NM->Q (.aA [.str (a++" of "++n),ao.t (ev (at' b) (.aR a n))])
theorem zN{q:Rat}(h:mY q):bs q<=20:=oO (n:=20) ⟨lt_of_le_of_lt h.2.2 ∎,lt_of_le_of_lt h.2.1 ∎⟩
theorem Q0(T:Tx w K mg){z:Bool}:aw P w K mg base aV 4 T.sW.a T.sW.d ["_law_cell","_law_down","_law_placing_here"] (aX K z 0 3 Ng):=by
 refine bH T.sW.F QN rfl ∎ λaM A outer s H E hr hu hN=>?_
 refine⟨_,(aH (k6 (ba (gc (aj (dJ (aj bc (aj bc (aj bc aE)))) (aj (dJ (aj bc (aj bc (aj bc aE)))) aE))) (qv 1)) (fZ (n:=3) rfl (cT (cM 3) (cT (cM 4) (cT (cM 5) fS)))))
  (aH (bM 6 (ba (gc (aj bc (aj bc (aj bc (aj bc aE))))) (dk (eI (qv 0) ay) ay)))
  (aH (bM 7 (ba (qv 2) (cb (cb (qv 3) bc) (qv 6))))
  (aH (bM 8 (ba (qv 2) (cb (cb (qv 4) bc) (qv 6))))
  (aH (bM 9 (gc (aj (qv 7) (aj (qv 8) (aj (qc T.ib (jA T) (aj (qv 7) (aj (qv 8) (aj ay aE)))) (aj (qc T.ib (jA T) (aj (qv 7) (aj (qc T.jF (n7 T) (aj (ba (qv 8) ay) (aj (ea ay (ba (qv 8) ay)) aE))) (aj ay aE)))) aE))))))
  (aH (bM 10 (ba (gc (aj (gc (aj bc (aj bc (aj bc (aj bc aE))))) (aj (gc (aj bc (aj bc (aj bc (aj bc aE))))) aE))) (qv 1)))
  (aH (b8 (bX dE dF (dk (qv 0) ay) ay) (aK (bf (dJ (aj (cb (qv 5) bc) (aj (ba (qv 2) (cb (qv 5) bc)) aE))))) b4)
  (aK (bf (dJ (aj (cb (cb (ba (qv 10) (dk (qv 0) ay)) bc) (qv 6)) (aj (ba (qv 9) (dk (qv 0) ay)) aE)))))))))))),?_⟩
 rintro xs N _ ⟨_,f,c,dn,g,_,rfl,hd,p,q⟩;let⟨b,B,m,u,O,Q,Y,es,em,lb,ls,lm,hb,lw,I,um,J⟩:=KG hd;rfl';rw[O];rfl';let⟨n,hn,en,x⟩:=zy (ns:=NM) (r:=c.fdiv 5 % 4) (emod_nonneg _ ∎) (emod_lt_of_pos _ ∎);rw[show [Tr.str (Str.ofString "a"),Tr.str (Str.ofString "b"),Tr.str (Str.ofString "of"),Tr.str (Str.ofString "frame")]=NM.map Tr.str from rfl,en];have ln:=Ij n x;let⟨v1,y⟩:=isSome_iff_exists.mp (p.k b Y n x);let⟨o,D⟩:=isSome_iff_exists.mp (p.k B es n x);have b1:=zN (p.v _ _ y);have b2:=zN (p.v _ _ D);rfl';have β:(Str.ofString " ").length=1:=by walk_at "k"
 have γ:(Str.ofString " of b").length=5:=by walk_at "k"
 have δ:(Str.ofString " b").length=2:=by walk_at "k"
 have ε:(Str.ofString " of ").length=4:=by walk_at "k"
 refine⟨⟨∎,fk ∎⟩,∎,⋯,by rw[bF];omega,mM _ _ v1 (show b3 g (b++Str.ofString " "++n)=some v1 from y) ?_⟩;refine⟨yn _,⋯,by rw[bF];omega,mM _ _ o (show b3 g (B++Str.ofString " "++n)=some o from D) ?_⟩;rfl';refine mh (by walk_at "k") ⋯ λj=>?_
 rfl';have u1:=oC 2 (o.den:Int);have u2:=dP o;have u3:bi 2<=2:=by walk_at "k"
 refine⟨ud ∎,qR (by have:=o.den_nz;omega) ⋯ λj=>?_⟩;rw[JU];have u4:=iK (Rat.divInt 1 2) o;have u5:bs (Rat.divInt 1 2)<=2:=by walk_at "k"
 try rfl'
 refine mh (by walk_at "k") ⋯ λj=>?_
 rfl';rw[Q];rfl';rw[ite_self];have p1:at' g (cB b n)=v1:=by unfold at';rw[y];rfl
 have p2:at' g (cB B n)=o:=by unfold at';rw[D];rfl
 have p0:n="frame"->v1=0:=λz=>by
  have:=p.f b hb;rw[<- z,y] at this;exact Option.some.inj this
 let⟨x0,x1,x2,x3⟩:=KH p1 p2 p0;refine⟨by show ef (u.map (ao.t (α:=Str)))=true;exact rQ u,∎,?_⟩;by_cases M:c % 5=4
 .rw[if_pos (decide_eq_true M)];have kb:m++Str.ofString " b"=cB m "b":=by unfold cB;rw[fh];exact congrArg (m++·) (by walk_at "k")
  have ko:m++Str.ofString " of b"=m++Str.ofString " of "++Str.ofString "b":=by rw[fh];exact congrArg (m++·) (by walk_at "k")
  let⟨C,L⟩:=isSome_iff_exists.mp (p.k m em "b" ∎);refine⟨⋯,⋯,mM _ _ C (by rw[kb];exact L) ⟨by rw[fO];rfl,?_⟩⟩;have q:=q m "b" J.gd.1 J.gd.2 ∎;rw[show ev (at' g) (.aR m "b")=C from by show cq (at' g) (ez m "b")=C;rw[um];show 1*at' g (cB m "b")+0=C;unfold at';rw[L,Rat.one_mul,Rat.add_zero];rfl] at q;rw[ko];exact q _
 .rw[if_neg (by simpa using M)];have r0:=emod_nonneg c (show (5:Int)≠0 by decide);have r1:=emod_lt_of_pos c (show (0:Int)<5 by decide);let⟨a,ha,U,ma⟩:=zy (ns:=u) (r:=c % 5) r0 ⋯;have l:∀i∈([0,1,2,3]:List Nat),c % 5=i->ez a n=oK b B i n/\nj (decide (dn=1)) a n:=λi hi e=>by
   have:=I n x i hi;rw[e,toNat_natCast] at ha;rw[ha] at this;exact this
  have G:nj (decide (dn=1)) a n:=by
   rcases (by omega:c % 5=0\/c % 5=1\/c % 5=2\/c % 5=3) with e |e |e |e
   .exact (l 0 ∎ e).2
   .exact (l 1 ∎ e).2
   .exact (l 2 ∎ e).2
   .exact (l 3 ∎ e).2
  have q:=q a n G.gd.1 G.gd.2 x;have la:a.length<=10:=G.2.2.2;rfl';rw[show bV (u.map Tr.str)=u.map Tr.str from z6 u,U];rfl';refine⟨∎,⋯,by rw[bF];omega,∎,?_⟩;have h:∀v,ev (at' g) (.aR a n)=v->∀j,(b5 (ao.t v)&&true)=true/\N (.aA [.str (a++Str.ofString " of "++n),ao.t v]) j:=λv e j=>⟨by rw[fO];rfl,by rw[<- e];exact q j⟩
  rcases (by omega:c % 5=0\/c % 5=1\/c % 5=2\/c % 5=3) with e |e |e |e
  .exact vF (i:=0) e rfl (h _ (by show cq (at' g) (ez a n)=_;rw[(l 0 ∎ e).1];exact x0) _)
  .exact vF (i:=1) e rfl (h _ (by show cq (at' g) (ez a n)=_;rw[(l 1 ∎ e).1];exact x1) _)
  .exact vF (i:=2) e rfl (h _ (by show cq (at' g) (ez a n)=_;rw[(l 2 ∎ e).1];exact x2) _)
  .exact vF (i:=3) e rfl (h _ (by show cq (at' g) (ez a n)=_;rw[(l 3 ∎ e).1];exact x3) _)
structure LT(b d:Bool)(P:Str->Rat)(t:Tm)(x:Str)(ws:ag):Prop where
 w:Wt b t ws
 f:gW ws
 s:x=jn ws
 g:t.gd d
 o:t.ok
 n:t.nm
 dep:t.dep<=ws.length
 we:bu t<=25*ws.length
 e:3*(bC t).length<=ws.length
 v:bs (ev P t)<=50*ws.length
 l:x.length<=15*ws.length
section
variable{b d:Bool}{P:Str->Rat}{t t':Tm}{x y:Str}{ws us:ag}
theorem LT.low(h:LT b d P t x ws):LT false d P t x ws:=⟨h.w.low,h.f,h.s,h.g,h.o,h.n,h.dep,h.we,h.e,h.v,h.l⟩
theorem LT.num{q:Rat}(h:nq q):LT b d P (.num q) (tx (bZ q)) [tx (bZ q)]:=
 ⟨.num b q,rb (Hv q),(oH _).symm,h,True.intro,(λ_ m=>nomatch m),zero_le _,by show bs q+1<=25*1;have:=k8 h;omega,zero_le _,by show bs q<=50*1;have:=k8 h;omega,by rw[cg];have:=rf h;show _<=15*1;omega⟩
theorem LT.aR{a n:Str}(g:(Tm.aR a n).gd d)(o:(Tm.aR a n).ok)(hn:n∈NM)(hv:bs (ev P (.aR a n))<=150):LT b d P (.aR a n) (a++" of "++n) [a,pk,n]:=by
 have c:=(Iw g.1).2;have f:=Ij n hn;refine⟨.aR b a n,jl (Iw g.1).1 (jl (by walk_at "k") (rb (JL g.2.2.1))),?_,g,o,λe m=>by rw[mem_singleton.mp m];exact hn,zero_le _,by show 4<=25*3;decide,by show 3*1<=3;decide,hv,?_⟩
 .rw[jq a (cons_ne_nil _ _),jq pk (cons_ne_nil _ _),oH,Ly];simp only[fh]
 .have s4:(Str.ofString " of ").length=4:=by walk_at "k"
  rw[bF,bF,s4];show _<=15*3;omega
theorem LT.times{q:Rat}(h:LT true d P t x ws)(a:nq q):LT b d P (.times q t) (tx (bZ q)++" times "++x) (tx (bZ q)::jG::ws):=by
 have c:=k8 a;have j:=rf a;have:=h.dep;have:=h.we;have:=h.e;have hv:=h.v;have i:=h.l;refine⟨.times b q h.w,jl (Hv q) (jl (by walk_at "k") h.f),?_,⟨a,h.g⟩,h.o,h.n,?_,?_,?_,?_,?_⟩
 .rw[jq _ (cons_ne_nil _ _),jq jG h.w.ne,WC,h.s];simp only[fh]
 .show t.dep+1<=ws.length+1+1;omega
 .show bu t+bs q<=25*(ws.length+1+1);omega
 .show 3*(bC t).length<=ws.length+1+1;omega
 .have:=iK (ev P t) q;show bs (ev P t*q)<=50*(ws.length+1+1);omega
 .have s7:(Str.ofString " times ").length=7:=by walk_at "k"
  rw[bF,bF,s7,cg];show _<=15*(ws.length+1+1);omega
theorem LT.par(h:LT false d P t x ws):LT b d P t ("( "++x++" )") (lB::(ws++[ni])):=by
 have:=h.dep;have:=h.we;have:=h.e;have hv:=h.v;have c:=h.l;have e:(lB::(ws++[ni])).length=ws.length+2:=by rw[length_cons,length_append,List.length_singleton]
 refine⟨.par b h.w,jl (by walk_at "k") (jU h.f (rb (by walk_at "k"))),?_,h.g,h.o,h.n,by rw[e];omega,by rw[e];omega,by rw[e];omega,by rw[e];omega,?_⟩
 .rw[jq _ (by simp),jk h.w.ne (cons_ne_nil _ _),oH,Lz,LA,h.s];simp only[fh]
 .have s2:(Str.ofString "( ").length=2:=by walk_at "k"
  have a:(Str.ofString " )").length=2:=by walk_at "k"
  rw[bF,bF,s2,a,e];omega
theorem LT.plus(h:LT false d P t x ws)(g:LT true d P t' y us):LT false d P (.plus t t') (x++" and "++y) (ws++fP::us):=by
 have:=h.dep;have:=h.we;have:=h.e;have hv:=h.v;have i:=h.l;have:=g.dep;have:=g.we;have:=g.e;have c:=g.v;have a:=g.l;have e:(ws++fP::us).length=ws.length+(us.length+1):=by rw[length_append,length_cons]
 refine⟨.plus h.w g.w,jU h.f (jl (by walk_at "k") g.f),?_,⟨h.g,g.g⟩,⟨h.o,g.o⟩,λe m=>(mem_append.mp m).elim (h.n e) (g.n e),?_,?_,?_,?_,?_⟩
 .rw[jk h.w.ne (cons_ne_nil _ _),jq _ g.w.ne,Kx,h.s,g.s];simp only[fh]
 .rw[e];show max t.dep t'.dep+1<=_;omega
 .rw[e];show bu t+bu t'+5<=_;omega
 .rw[e];show 3*(bC t++bC t').length<=_;rw[length_append];omega
 .have:=mx (ev P t) (ev P t');rw[e];show bs (ev P t+ev P t')<=_;omega
 .have s5:(Str.ofString " and ").length=5:=by walk_at "k"
  rw[bF,bF,s5,e];omega
theorem LT.minus(h:LT false d P t x ws)(g:LT true d P t' y us):LT false d P (.minus t t') (x++" less "++y) (ws++d5::us):=by
 have:=h.dep;have:=h.we;have:=h.e;have hv:=h.v;have i:=h.l;have:=g.dep;have:=g.we;have:=g.e;have c:=g.v;have a:=g.l;have e:(ws++d5::us).length=ws.length+(us.length+1):=by rw[length_append,length_cons]
 refine⟨.minus h.w g.w,jU h.f (jl (by walk_at "k") g.f),?_,⟨h.g,g.g⟩,⟨h.o,g.o⟩,λe m=>(mem_append.mp m).elim (h.n e) (g.n e),?_,?_,?_,?_,?_⟩
 .rw[jk h.w.ne (cons_ne_nil _ _),jq _ g.w.ne,JM,h.s,g.s];simp only[fh]
 .rw[e];show max t.dep t'.dep+1<=_;omega
 .rw[e];show bu t+bu t'+5<=_;omega
 .rw[e];show 3*(bC t++bC t').length<=_;rw[length_append];omega
 .have:=mx (ev P t) (ev P t'*(-1));have:=iK (ev P t') (-1);have:=oS;rw[e];show bs (ev P t+ev P t'*(-1))<=_;omega
 .have s6:(Str.ofString " less ").length=6:=by walk_at "k"
  rw[bF,bF,s6,e];omega
end
theorem zz{pl:List (Str×Rat)}(f:g6 pl){a n:Str}(o:(Tm.aR a n).ok):bs (ev (at' pl) (.aR a n))<=150:=by
 have c:(ez a n).length<=2:=by
  have:=(uX _ (rn o.1).1).2.1;unfold ez;rw[length_map];exact le_trans (length_filter_le _ _) this
 have d:∀p∈ez a n,bs p.2<=4:=λp m=>by
  rcases (zx o.1 (show (p.1,p.2)∈ez a n from m)).1 with e |e
  .rw[e];decide +kernel
  .rw[e];decide +kernel
 have b:∀p∈ez a n,bs (p.2*at' pl p.1)<=24:=λp m=>by
  have:=iK p.2 (at' pl p.1);have:=d p m;have:=zN (f.at p.1);omega
 show bs (cq (at' pl) (ez a n))<=150;generalize ez a n=l at c b;have g:bs 0<=1:=by walk_at "k"
 match l,c,b with
 |[],_,_=>show bs 0 <= 150;omega
 |[p],_,k=>
  show bs (p.2*at' pl p.1+0)<=150;rw[Rat.add_zero];have:=k p (.head _);omega
 |[p,r],_,k=>
  show bs (p.2*at' pl p.1+(r.2*at' pl r.1+0))<=150;rw[Rat.add_zero];have:=k p (.head _);have:=k r (.tail _ (.head _));have:=mx (p.2*at' pl p.1) (r.2*at' pl r.1);omega
def ju(P:Str->Rat)(t:Tm)(x:Str):Tr:=.aA [.str x,ao.t (ev P t)]
def Nu:bQ:=cA 3 λd Q=>∃(f:Fl)(c dn:Int)(a:List (Str×Rat)),Fp f/\d=[.int c,.int dn,bp f a]/\(dn=0\/dn=1)/\g6 a/\∀t x b,LT true (decide (dn=1)) (at' a) t x b->b.length<=3->Q (ju (at' a) t x)
theorem EI(T:Tx w K mg){z:Bool}:aw P w K mg base aV 5 T.qe.a T.qe.d ["_law_cell","_law_down","_law_placing_here"] (aX K z 0 3 Nu):=by
 refine bH T.qe.F QP rfl ∎ λaM A outer s H E m hu l=>?_
 refine⟨_,(aH (b8 (bX dE dF (dk (qv 0) ay) ay) (aK (bf (qc T.nL (xT T) (aj (eI (qv 0) ay) aE)))) b4)
  (aK (bf (qc T.sW (Q0 T) (aj (eI (qv 0) ay) (aj (qv 1) (aj (qv 2) aE))))))),?_⟩
 rintro r i _ ⟨_,f,c,dn,e,_,rfl,hd,b,q⟩;rfl';refine⟨∎,?_⟩;split
 .refine⟨⟨∎,fk ∎⟩,rfl,_,rfl,λp h j=>⟨?_,q _ _ _ (LT.num h) (by show 1<=3;decide) _⟩⟩;show (true&&(b5 (ao.t p)&&true))=true;rw[fO];rfl
 .refine⟨⟨∎,fk ∎⟩,rfl,f,_,dn,e,inferInstance,rfl,hd,b,λa n g o hn j=>⟨?_,q _ _ _ (LT.aR g o hn (zz b o)) (by show 3<=3;decide) _⟩⟩;show (true&&(b5 (ao.t (ev (at' e) (.aR a n)))&&true))=true;rw[fO];rfl
def Nv:bQ:=cA 4 λh Q=>∃(f:Fl)(c dn:Int)(a:List (Str×Rat))(t:Tm)(x:Str)(e:ag),Fp f/\h=[ju (at' a) t x,.int c,.int dn,bp f a]/\(dn=0\/dn=1)/\g6 a/\LT false (decide (dn=1)) (at' a) t x e/\e.length<=25/\∀d g b,LT false (decide (dn=1)) (at' a) d g b->b.length<=60->Q (ju (at' a) d g)
theorem Q1(T:Tx w K mg){z:Bool}:aw P w K mg base aV 6 T.sX.a T.sX.d ["_law_side_here","_law_cell","_law_down","_law_placing_here"] (aX K z 0 4 Nv):=by
 refine bH T.sX.F QQ rfl ∎ λaM A outer s H E hr hu hN=>?_
 refine⟨_,(aH (k6 (qv 0) (fZ (n:=2) rfl (cT (cM 4) (cT (cM 5) fS))))
  (aH (k6 (qc T.qe (EI T) (aj (eI (qv 1) ay) (aj (qv 2) (aj (qv 3) aE)))) (fZ (n:=2) rfl (cT (cM 6) (cT (cM 7) fS))))
  (aH (b8 (bX dE dF (dk (qv 1) ay) ay) (aK (bf (dJ (aj (cb (cb (qv 4) bc) (qv 6)) (aj (qc T.ib (jA T) (aj (qv 5) (aj (qv 7) (aj ay aE)))) aE))))) b4)
  (aH (b8 (bX dE dF (dk (qv 1) ay) ay) (aK (bf (dJ (aj (cb (cb (qv 4) bc) (qv 6)) (aj (qc T.ib (jA T) (aj (qv 5) (aj (qv 7) (aj (vu ay) aE)))) aE))))) b4)
  (aH (b8 (bX dE dF (dk (qv 1) ay) ay) (aK (bf (dJ (aj (cb (cb (cb (qv 6) bc) (qv 4)) bc) (aj (qc T.ib (jA T) (aj (qv 7) (aj (qv 5) (aj (vu ay) aE)))) aE))))) b4)
  (aH (b8 (bX dE dF (dk (qv 1) ay) ay) (aH (k6 (qc T.nL (xT T) (aj (eI (qv 1) ay) aE)) (fZ (n:=2) rfl (cT (cM 8) (cT (cM 9) fS))))
  (aK (bf (dJ (aj (cb (cb (cb (qv 8) bc) (qv 4)) bc) (aj (qc T.jF (n7 T) (aj (ea (ba (qv 9) ay) (ba (qv 5) ay)) (aj (ea (ba (qv 9) ay) (ba (qv 5) ay)) aE))) aE)))))) b4)
  (aH (b8 (bX dE dF (dk (qv 1) ay) ay) (aK (bf (dJ (aj (cb (cb bc (qv 4)) bc) (aj (qv 5) aE))))) b4)
  (aH (k6 (qc T.nL (xT T) (aj (eI (qv 1) ay) aE)) (fZ (n:=2) rfl (cT (cM 8) (cT (cM 9) fS))))
  (aH (bM 10 (qc T.jF (n7 T) (aj (ea (ba (qv 9) ay) (ba (qv 7) ay)) (aj (ea (ba (qv 9) ay) (ba (qv 7) ay)) aE))))
  (aK (bf (dJ (aj (cb (cb (cb (cb (qv 4) bc) (qv 8)) bc) (qv 6)) (aj (qc T.ib (jA T) (aj (qv 5) (aj (qv 10) (aj ay aE)))) aE)))))))))))))),?_⟩
 rintro xs Q _ ⟨_,f,c,dn,o,t,x,N,_,rfl,hd,hp,h,hl,q⟩;unfold ju at q ⊢;rfl';refine⟨⟨∎,fk ∎⟩,rfl,f,_,dn,o,inferInstance,rfl,hd,hp,λu y us g gl j=>?_⟩;unfold ju;have lx:=h.l;have ly:=g.l;have bx:=h.v;have Y:=g.v;have l1:(Str.ofString " and ").length=5:=by walk_at "k"
 have l2:(Str.ofString " less ").length=6:=by walk_at "k"
 have l3:(Str.ofString " less ( ").length=8:=by walk_at "k"
 have l4:(Str.ofString " )").length=2:=by walk_at "k"
 have l5:(Str.ofString " times ( ").length=9:=by walk_at "k"
 have l6:(Str.ofString "( ").length=2:=by walk_at "k"
 have l7:(Str.ofString " times ").length=7:=by walk_at "k"
 have b:∀{M:Tm}{O:Str}{m:ag}(v:Rat),LT false (decide (dn=1)) (at' o) M O m->m.length<=60->v=ev (at' o) M->∀j,(true&&(b5 (ao.t v)&&true))=true/\Q (.aA [.str O,ao.t v]) j:=λv k kl e j=>⟨by rw[fO];rfl,by rw[e];exact q _ _ _ k kl j⟩
 have J:((1:Int):Rat)=1:=rfl;have L:((-1:Int):Rat)=-1:=rfl;have r:(lB::(N++[ni])).length=N.length+2:=by rw[length_cons,length_append,List.length_singleton]
 rfl';refine⟨∎,?_⟩;by_cases B:c % 6=0
 .rw[if_pos (decide_eq_true B)];exact⟨⋯,by rw[bF];omega,mh (by walk_at "k") ⋯ λj=>b _ (h.plus g) (by rw[length_append,length_cons];omega) (by rw[J,Rat.one_mul];rfl) _⟩
 rw[if_neg (by simpa using B)];refine⟨∎,?_⟩;by_cases C:c % 6=1
 .rw[if_pos (decide_eq_true C)];exact⟨⋯,by rw[bF];omega,mh (by walk_at "k") ⋯ λj=>b _ (h.minus g) (by rw[length_append,length_cons];omega) (by rw[L,Rat.mul_comm];rfl) _⟩
 rw[if_neg (by simpa using C)];refine⟨∎,?_⟩;by_cases D:c % 6=2
 .rw[if_pos (decide_eq_true D)];have ex:y++Str.ofString " less ( "++x++Str.ofString " )"=y++Str.ofString " less "++(Str.ofString "( "++x++Str.ofString " )"):=by
   rw[show Str.ofString " less ( "=Str.ofString " less "++Str.ofString "( " by walk_at "k"];simp only[fh]
  refine⟨⋯,by rw[bF];omega,by rw[bF,bF];omega,mh (by walk_at "k") ⋯ λj=>?_⟩;rw[ex];exact b _ (g.low.minus h.par) (by rw[length_append,length_cons,r];omega) (by rw[L,Rat.mul_comm];rfl) _
 rw[if_neg (by simpa using D)];refine⟨∎,?_⟩;by_cases G:c % 6=3
 .rw[if_pos (decide_eq_true G)];refine⟨⟨∎,fk ∎⟩,rfl,_,rfl,λp i j=>?_⟩;have U:=k8 i;have lq:=rf i;have ex:tx (bZ p)++Str.ofString " times ( "++x++Str.ofString " )"=tx (bZ p)++Str.ofString " times "++(Str.ofString "( "++x++Str.ofString " )"):=by
   rw[show Str.ofString " times ( "=Str.ofString " times "++Str.ofString "( " by walk_at "k"];simp only[fh]
  rfl';rw[cg] at *;refine⟨⋯,by rw[bF,cg];omega,by rw[bF,bF,cg];omega,f7 (fj p) (fj _) ⋯,f7 (dP p) (dP _) ⋯,qR (mul_pos (jP p) (jP _)) (qZ p _ ⋯) λj=>?_⟩;rw[<- qT,ex];exact b _ (h.par.times i) (by rw[length_cons,length_cons,r];omega) (Rat.mul_comm _ _) _
 rw[if_neg (by simpa using G)];refine⟨∎,?_⟩;by_cases I:c % 6=4
 .rw[if_pos (decide_eq_true I)];exact⟨⋯,by rw[bF];omega,q _ _ _ h.par (by rw[r];omega) _⟩
 rw[if_neg (by simpa using I)];refine⟨⟨∎,fk ∎⟩,rfl,_,rfl,λp i j=>?_⟩;have U:=k8 i;have lq:=rf i;have ex:x++Str.ofString " and "++tx (bZ p)++Str.ofString " times "++y=x++Str.ofString " and "++(tx (bZ p)++Str.ofString " times "++y):=by simp only[fh]
 rfl';refine⟨f7 (fj p) (fj _) ⋯,f7 (dP p) (dP _) ⋯,qR (mul_pos (jP p) (jP _)) (qZ p _ ⋯) λj=>?_⟩;have bm:=iK p (ev (at' o) u);rw[<- qT];rfl';refine⟨⋯,by rw[bF,cg];omega,by rw[bF,bF,cg];omega,by rw[bF,bF,bF,cg];omega,mh (by walk_at "k") ⋯ λj=>?_⟩;rw[ex];exact b _ (h.plus (g.times i)) (by rw[length_append,length_cons,length_cons,length_cons];omega) (by rw[J,Rat.one_mul,Rat.mul_comm];rfl) _
def Nw:bQ:=cA 4 λe Q=>∃(f g:Fl)(d:cW)(c dn:Int)(a:List (Str×Rat)),Fp f/\Fp g/\e=[.av g ↥d,.int c,.int dn,bp f a]/\(dn=0\/dn=1)/\g6 a/\∀t x b,LT false (decide (dn=1)) (at' a) t x b->b.length<=25->Q (ju (at' a) t x)
theorem EJ(T:Tx w K mg){z:Bool}:aw P w K mg base aV 7 T.qf.a T.qf.d ["_law_cells","_law_first","_law_down","_law_placing_here"] (aX K z 0 4 Nw):=by
 refine bH T.qf.F QR rfl ∎ λaM A outer s H E J hu I=>?_
 refine⟨_,(aH (bM 4 (qc T.qe (EI T) (aj (qv 1) (aj (qv 2) (aj (qv 3) aE)))))
  (aH (rM (AE (qv 0)) (cM 5) (aH (bM 6 (qc T.sX (Q1 T) (aj (qv 4) (aj (qv 5) (aj (qv 2) (aj (qv 3) aE))))))
  (aK (b8 (bX o3 oE (e4 iR iO T.ig (aj (zp (ba (qv 6) ay) bc ⟨rfl,rfl,rfl,rfl⟩) aE)) ay) (aK (bM 4 (qv 6))) b4))))
  (aK (bf (qv 4))))),?_⟩
 rintro N G _ ⟨_,f,g,r,c,dn,n,_,_,rfl,hd,v,q⟩;rfl';refine⟨rfl,f,_,dn,n,inferInstance,rfl,hd,v,λu y us k L j=>?_⟩;unfold ju;rfl';refine Loop.map r _ (λi j=>∃(t:Tm)(x:Str)(e:ag)(a b:Tr),j=[.av g ↥r,.int c,.int dn,bp f n,.aA [.str x,ao.t (ev (at' n) t)],a,b]/\LT false (decide (dn=1)) (at' n) t x e/\e.length<=25) ⟨u,y,us,_,_,rfl,k.low,⋯⟩ ?_ ?_
 .rintro i y j hi ⟨t,x,e,a,b,rfl,h,hl⟩;rfl';refine⟨rfl,f,_,dn,n,t,x,e,inferInstance,rfl,hd,v,h,hl,λD p o m C j=>?_⟩;unfold ju;rfl';have M:=m.l;have B:Txt.split p (Str.ofString " ")=o:=by
   rw[AN,yF,show (bS 32 p.cps.toList).map tx=d6 p from rfl]
   conv=>lhs;rw[m.s]
   exact zJ m.w.ne m.f
  rw[B];refine⟨by walk_at "k",⋯,⋯,?_⟩;split
  .rename_i c';exact⟨D,p,o,_,_,rfl,m,by have:=of_decide_eq_true c';omega⟩
  .exact⟨t,x,e,_,_,rfl,h,hl⟩
 .rintro j ⟨t,x,e,a,b,rfl,h,hl⟩;rfl';exact q t x e h hl _
theorem JV(a:Rat){Q:aq}(q:Q (.bl true)):jv false (ao.t a) (ao.t a) Q:=by
 refine .inr ⟨true,?_,show (1:Nat)<=60 by decide,le_refl 1,q⟩;show (if 2=2 then (some (decide (a.num=a.num))).bind λx=>((some (decide ((a.den:Int)=a.den))).bind λy=>(some true).bind λz=>some (y&&z)).bind λy=>some (x&&y) else none)=_;rw[if_pos rfl,decide_eq_true rfl,decide_eq_true rfl];rfl
theorem mH{d:Bool}:∀{t:Tm},t.gd d->t.sm
 |.num q,h=>le_trans (k8 h) ∎
 |.aR _ _,_=>trivial
 |.times q t,h=>⟨le_trans (k8 h.1) ∎,mH h.2⟩
 |.plus a b,h=>⟨mH h.1,mH h.2⟩
 |.minus a b,h=>⟨mH h.1,mH h.2⟩
theorem oJ{d:Bool}:∀{t:Tm},t.gd d->∀e∈bC t,iU e.1=d
 |.num q,_,_,m=>nomatch m
 |.aR a n,h,e,m=>by rw[mem_singleton.mp m];exact h.2.1
 |.times q t,h,e,m=>oJ h.2 e m
 |.plus a b,h,e,m=>(mem_append.mp m).elim (oJ h.1 e) (oJ h.2 e)
 |.minus a b,h,e,m=>(mem_append.mp m).elim (oJ h.1 e) (oJ h.2 e)
theorem ZH(ks:ag)(x:Str):x∈m7 ks↔x∈ks:=(Classical.epsilon_spec (HY ks)).1.mem_iff
theorem Hy{d:Bool}{t:Tm}(h:t.gd d):∀x∈eV t,x=if d=true then ("down":Str) else "across":=λx m=>by
 unfold eV at m;rw[ZH,(yi _).2] at m;let⟨e,a,rfl⟩:=mem_map.mp m;have:=oJ h e a;unfold qL;rw[this]
theorem ZI{d:Bool}{a b:Tm}(h:a.gd d)(g:b.gd d):(dA (eV a++eV b)).length<=1:=by
 let⟨c,i⟩:=yi (eV a++eV b);have al:∀x∈dA (eV a++eV b),x=if d=true then ("down":Str) else "across":=λx m=>(mem_append.mp ((i x).mp m)).elim (Hy h x) (Hy g x)
 generalize dA (eV a++eV b)=l at c al;cases l with
 |nil=>decide
 |cons x l=>cases l with
  |nil=>exact le_refl _
  |cons y l=>
   have e:=al x (.head _);have f:=al y (.tail _ (.head _));rw[e,f] at c;exact absurd c (by simp)
theorem LD(T:Tx w K mg)(x:Wi):bW (dC T .o x)=true:=by simp only[dC,vi,eL,mV,yr,Bool.and_self]
theorem LF(T:Tx w K mg)(x:Wi):Pu.aB (dC T .o x)=dC T .f x:=by simp only[dC,zu,fv,gZ,ue]
def pm:Tm->Bool |.plus _ _=>true |.minus _ _=>true |_=>false
mutual
noncomputable def cw:Tm->Nat
 |.num _=>1 |.aR _ _=>3 |.times _ t=>2 + bw t |.plus a b=>cw a + 1 + bw b |.minus a b=>cw a + 1 + bw b
noncomputable def bw:Tm->Nat
 |.num _=>1 |.aR _ _=>3 |.times _ t=>2 + bw t |.plus a b=>cw a + 1 + bw b + 2 |.minus a b=>cw a + 1 + bw b + 2
end
theorem KI(t:Tm):cw t<=bw t:=by cases t<;>simp[cw,bw]<;>omega
theorem KJ(t:Tm):bw t<=cw t+2:=by cases t<;>simp[cw,bw]<;>omega
theorem k9:∀{b:Bool}{t:Tm}{c:ag},Wt b t c->(if b=true then bw t else cw t)<=c.length
 |b,_,_,.num _ q=>by cases b <;> simp[cw,bw]
 |b,_,_,.aR _ a n=>by cases b <;> simp[cw,bw]
 |b,_,_,.times _ q h=>by
  have:=k9 h;rw[if_pos rfl] at this;cases b<;>simp[cw,bw]<;>omega
 |b,t,_,.par _ h=>by
  have:=k9 h;have k:=KJ t;have d:=KI t;rw[if_neg ∎] at this;cases b<;>simp<;>omega
 |_,_,_,.plus h g=>by
  have h:=k9 h;have g:=k9 g;rw[if_neg ∎] at h ⊢;rw[if_pos rfl] at g;simp[cw];omega
 |_,_,_,.minus h g=>by
  have h:=k9 h;have g:=k9 g;rw[if_neg ∎] at h ⊢;rw[if_pos rfl] at g;simp[cw];omega
theorem mr{d:Bool}{pl:List (Str×Rat)}(c:g6 pl):∀{t:Tm},t.gd d->t.ok->t.nm->(∃us,LT false d (at' pl) t (txt t) us/\us.length=cw t)/\∃us,LT true d (at' pl) t (brk t) us/\us.length=bw t
 |.num q,g,_,_=>⟨⟨_,.num g,rfl⟩,_,.num g,rfl⟩
 |.aR a n,g,o,hn=>⟨⟨_,.aR g o (hn (a,n) (.head _)) (zz c o),rfl⟩,_,.aR g o (hn (a,n) (.head _)) (zz c o),rfl⟩
 |.times q t,g,o,hn=>by
  let⟨_,us,h,e⟩:=mr c (t:=t) g.2 o hn;exact⟨⟨_,h.times g.1,by simp[cw];omega⟩,_,h.times g.1,by simp[bw];omega⟩
 |.plus a b,g,o,hn=>by
  ∎;let⟨⟨us,h,e⟩,_⟩:=mr c (t:=a) g.1 o.1 λe m=>hn e (mem_append_left _ m)
  let⟨_,vs,k,f⟩:=mr c (t:=b) g.2 o.2 λe m=>hn e (mem_append_right _ m);∎
  exact⟨⟨_,h.plus k,by simp[cw];omega⟩,_,(h.plus k).par,by simp[bw];omega⟩
 |.minus a b,g,o,hn=>by
  ∎;let⟨⟨us,h,e⟩,_⟩:=mr c (t:=a) g.1 o.1 λe m=>hn e (mem_append_left _ m)
  let⟨_,vs,k,f⟩:=mr c (t:=b) g.2 o.2 λe m=>hn e (mem_append_right _ m);∎
  exact⟨⟨_,h.minus k,by simp[cw];omega⟩,_,(h.minus k).par,by simp[bw];omega⟩
def Cp:bQ:=cA 2 λb Q=>∃a:Rat,b=[ao.t a,ao.t a]/\Q (.bl true)
theorem EK(T:Tx w K mg){z:Bool}:aw P w K mg base aV 1 T.qg.a T.qg.d ["_law_found","_law_due"] (aX K z 0 2 Cp):=by
 refine bH T.qg.F QU rfl ∎ λaM A outer s H E e hu c=>?_
 refine⟨_,(aH (b8 (QW.t (iB (jm (gx (vk K T.qq (aj (qv 0) (aj (vm T.Mq) aE))))) (iL (bX iA iy (e4 iR iO T.ig (aj (qv 0) aE)) ay)))) (aK (bf rR)) b4)
  (aK (bf (IY (HL (vk K T.qq (aj (ba (qv 0) ay) (aj (vm T.Ba) aE)))) (IY (HL (vk K T.qq (aj (ba (qv 0) ay) (aj (vm T.Ba) aE)))) (IX (mJ dE dF (qv 0) (qv 1)))))))),?_⟩
 rintro f b _ ⟨_,a,rfl,q⟩;rfl';refine⟨true,rfl,?_⟩;rfl';rw[show ∀F:aq,qJ (Md.base z).z [ao.t a] F=F (.int 2) from λ_=>rfl];rfl';refine⟨false,rfl,?_⟩;rfl';refine⟨false,rfl,?_⟩;rfl';exact JV a ⟨rfl,q _⟩
def Nq:bQ:=cA 2 λb Q=>∃(f:Fl)(r:kK)(a:List (Str×Rat)),Fp f/\b=[ao.t r,bp f a]/\nA r.1 (-r.2.2.1) a/\Q (ao.t (-r.2.2.1+cq (at' a) r.1))
theorem Sj(T:Tx w K mg):aw P w K mg base aV 4 T.sY.a T.sY.d ["_law_told","_law_placing_here"] (aX K true 0 2 Nq):=by
 refine bH T.sY.F SJ rfl ∎ λaM A outer s H E D hu C=>?_
 refine⟨_,(aH (bM 2 (dJ (aj (rL ay (ba (ba (qv 0) ay) ay)) (aj (ba (ba (qv 0) ay) ay) aE))))
  (aH (rr (ba (qv 0) ay) (fZ (n:=2) rfl (cT (cM 3) (cT (cM 4) fS))) (aH (bM 5 (ba (qv 1) (qv 3)))
  (aK (bM 2 (qc T.ib (jA T) (aj (qv 2) (aj (dJ (aj (ea (ba (qv 4) ay) (ba (qv 5) ay)) (aj (ea (ba (qv 4) ay) (ba (qv 5) ay)) aE))) (aj ay aE))))))))
  (aK (bf (qv 2))))),?_⟩
 rintro O B _ ⟨_,f,r,h,_,rfl,hv,q⟩;have o:Tr.aA [Tr.int (0 - r.2.2.1.num),Tr.int r.2.2.1.den]=ao.t (-r.2.2.1):=by rw[oR,show (-r.2.2.1).num=-r.2.2.1.num from rfl,show (-r.2.2.1).den=r.2.2.1.den from rfl,Int.zero_sub]
 rfl';rw[o];refine dZ.map r.1 (λi j=>∃(c:Rat)(a b d:Tr),j=[ao.t r,bp f h,ao.t c,a,b,d]/\c=-r.2.2.1+cq (at' h) (r.1.take i)) ⟨_,_,_,_,rfl,(Rat.add_zero _).symm⟩ ?_ ?_
 .rintro i x y j hx ⟨c,a,b,d,rfl,e⟩;have l:=(List.getElem?_eq_some_iff.mp hx).1;let⟨u,z,m⟩:=hv.k _ (mem_of_getElem? hx);have p:=hv.b i ⋯;rw[<- e] at p;let⟨v,g⟩:=isSome_iff_exists.mp u;have ev:at' h x=v:=by unfold at';rw[g];rfl
  dsimp only at z m;rw[ev] at m;rfl';refine mM _ _ v g ?_;rfl';have G:=oC y.num v.num;have I:=oC (y.den:Int) (v.den:Int);have J:=fj y;have L:=fj v;have M:=dP y;have N:=dP v;refine⟨f7 (fj y) (fj v) ⋯,f7 (dP y) (dP v) ⋯,rfl,c,1,_,_,rfl,mul_pos (jP y) (jP v),⋯,⋯,by walk_at "k",λj=>?_⟩;rw[<- qT,show ((1:Int):Rat)=1 from rfl,Rat.one_mul];rfl';refine⟨_,_,_,_,rfl,?_⟩;rw[yO _ hx,ev,e,Rat.add_assoc]
 .rintro j ⟨c,a,b,d,rfl,e⟩;rw[take_length] at e;subst e;rfl';exact q _
theorem ZJ{r v:Int}(a:0<=r)(b:r<5)(v0:1<=v)(v1:v<=1000000):(ew r v).length<=50:=by
 let⟨R,e,_,l⟩:=uV a b;have c:bi v<=20:=rH ⋯;have g:(dec v).length<=30:=le_trans (kU c) ∎;have d:(Str.ofString " by ").length=4:=by walk_at "k"
 have f:(Str.ofString " ").length=1:=by walk_at "k"
 unfold ew;rw[e,getD_some];split
 .decide
 .split
  .rw[bF];omega
  .rw[bF,bF,bF,cg];omega
theorem ZK{k:Nat}(h:k<3):∃S:Str,cU [Tr.str (Str.ofString " is "),Tr.str (Str.ofString " at least "),Tr.str (Str.ofString " at most ")] (k:Int)=some (.str S)/\S.length<=11/\S=" "++dX k++" ":=by
 have:k=0\/k=1\/k=2:=⋯
 rcases this with rfl |rfl |rfl
 .exact⟨_,rfl,∎,by walk_at "k"⟩
 .exact⟨_,rfl,∎,by walk_at "k"⟩
 .exact⟨_,rfl,∎,by walk_at "k"⟩
def Nh:bQ:=cA 2 λi Q=>∃(f g:Fl)(c:cW)(e:List (Str×Rat)),Fp f/\Fp g/\i=[.av g ↥c,bp f e]/\g6 e/\∀(y:Wi)(d:Bool)(x z:Str)(h us:ag),LT false d (at' e) y.a x h->LT false d (at' e) y.b z us->h.length<=25->us.length<=27->y.k<3->0<=y.r->y.r<5->1<=y.v->y.v<=1000000->(y.r=0->y.v=1)->Q (.aA [.str (x++" "++dX y.k++" "++z++ew y.r y.v),.int y.k,ao.t (ev (at' e) y.df)])
theorem Rb(T:Tx w K mg){z:Bool}:aw P w K mg base aV 8 T.sZ.a T.sZ.d ["_law_script","_law_placing_here"] (aX K z 0 2 Nh):=by
 refine bH T.sZ.F Qk rfl ∎ λaM A outer s H E hr hu o=>?_
 refine⟨_,(aH (bM 2 (qc T.ku (qO T) (aj (qv 0) (aj ay aE))))
  (aH (k6 (qc T.qf (EJ T) (aj (AD (qv 0) (o4 ay) (o4 ay)) (aj (eI (qv 2) ay) (aj (dk (qv 2) ay) (aj (qv 1) aE))))) (fZ (n:=2) rfl (cT (cM 3) (cT (cM 4) fS))))
  (aH (k6 (qc T.qf (EJ T) (aj (AD (qv 0) (o4 ay) (o4 ay)) (aj (cb (eI (qv 2) ay) ay) (aj (dk (qv 2) ay) (aj (qv 1) aE))))) (fZ (n:=2) rfl (cT (cM 5) (cT (cM 6) fS))))
  (aH (b8 (bX dE dF (dk (eI (qv 2) ay) ay) ay) (aH (bM 5 (cb (cb (qv 3) bc) (gy n8 oj T.lH (aj (dk (eI (qv 2) ay) ay) aE))))
  (aK (bM 6 (qc T.ib (jA T) (aj (qv 4) (aj (dJ (aj (dk (eI (qv 2) ay) ay) (aj ay aE))) (aj ay aE))))))) b4)
  (aH (bM 7 (dk (eI (qv 2) ay) ay))
  (aH (bM 8 (cb (cb (qv 3) (ba (gc (aj bc (aj bc (aj bc aE)))) (qv 7))) (qv 5)))
  (aH (bM 9 (dk (qc T.ku (qO T) (aj (qv 0) (aj ay aE))) ay))
  (aH (b8 (bX j9 j7 (qv 9) ay) (aH (bM 8 (cb (cb (qv 8) bc) (ba (gc (aj bc (aj bc (aj bc (aj bc aE))))) (rL (qv 9) ay))))
  (aK (b8 (bX dE dF (dk (eI (qc T.ku (qO T) (aj (qv 0) (aj ay aE))) ay) ay) ay) (aK (bM 8 (cb (cb (qv 8) bc) (gy n8 oj T.lH (aj (cb ay (dk (eI (qc T.ku (qO T) (aj (qv 0) (aj ay aE))) ay) ay)) aE))))) b4))) b4)
  (aK (bf (dJ (aj (qv 8) (aj (qv 7) (aj (qc T.ib (jA T) (aj (qv 4) (aj (qv 6) (aj (vu ay) aE)))) aE)))))))))))))),?_⟩
 rintro xs Q' _ ⟨_,f,p,c,i,_,_,rfl,O,q⟩;walk_at "q";refine⟨rfl,p,c,0,inferInstance,rfl,∎,λfirst j=>?_⟩;walk_at "q";have d0:=emod_nonneg first (show (2:Int)≠0 by decide)
 have d1:=emod_lt_of_pos first (show (0:Int)<2 by decide)
 have hd:first % 2=0\/first % 2=1:=⋯
 refine⟨⟨∎,fk ∎⟩,∎,rfl,f,.f,_,_,_,i,inferInstance,inferInstance,rfl,hd,O,λa x Q h hl j=>?_⟩;unfold ju;walk_at "q";refine⟨⟨∎,fk ∎⟩,∎,rfl,f,.f,_,_,_,i,inferInstance,inferInstance,rfl,hd,O,λb z us g L j=>?_⟩;unfold ju;walk_at "q";generalize decide (first % 2=1)=D at h g;have lx:=h.l;have bx:=h.v;have l1:(Str.ofString " and ").length=5:=by walk_at "k"
 refine vJ (λj=>∃(b:Tm)(z:Str)(us:ag),j=[.av p ↥c,bp f i,.int first,.str x,ao.t (ev (at' i) a),.str z,ao.t (ev (at' i) b),.aF,.aF,.aF]/\LT false D (at' i) b z us/\us.length<=27) (λN o=>?_) ?_
 .rfl';refine⟨⟨∎,fk ∎⟩,∎,?_⟩;split
  .have n0:=emod_nonneg (first.fdiv 90) (show (2:Int)≠0 by decide);have n1:=emod_lt_of_pos (first.fdiv 90) (show (0:Int)<2 by decide);generalize first.fdiv 90 % 2=n at n0 n1
   have J:bi n<=20:=kO 20 ⋯;have ln:=kU J;have en:tx (dec n)=tx (bZ ((n:Int):Rat)):=by unfold bZ;rw[Rat.den_intCast,if_pos rfl,Rat.num_intCast]
   have hq:nq ((n:Int):Rat):=⟨by rw[Rat.num_intCast];omega,by rw[Rat.den_intCast];decide⟩
   refine⟨⋯,⟨∎,fk ∎⟩,∎,oU _ _ (mD J ∎) ?_⟩;rfl';have b1:bi 1<=1:=by walk_at "k"
   refine⟨by rw[bF,cg];omega,⟨∎,fk ∎⟩,∎,rfl,_,1,n,1,rfl,∎,⋯,⋯,by walk_at "k",λj=>?_⟩;rw[show ((1:Int):Rat)=1 from rfl,Rat.one_mul,show Rat.divInt n 1=(n:Rat) from by have:=Rat.num_divInt_den (n:Rat);rw[Rat.num_intCast,Rat.den_intCast] at this;exact this];rfl';exact o _ ⟨.plus a (.num n),_,_,by rw[en];rfl,h.plus (LT.num hq),by rw[length_append];show Q.length+2<=27;omega⟩
  .exact o _ ⟨b,z,us,rfl,g,⋯⟩
 .rintro _ ⟨b,z,us,rfl,g,L⟩;walk_at "q";have k0:=emod_nonneg (first.fdiv 6) (show (3:Int)≠0 by decide);have k1:=emod_lt_of_pos (first.fdiv 6) (show (0:Int)<3 by decide);obtain⟨k,ek⟩:∃k:Nat,first.fdiv 6 % 3=(k:Int):=⟨(first.fdiv 6 % 3).toNat,⋯⟩
  rw[ek] at k1 ⊢;have M:k<3:=⋯
  let⟨S,eS,lS,jS⟩:=ZK M;rw[eS];have lz:=g.l;have bz:=g.v;walk_at "q";refine⟨⟨∎,fk ∎⟩,∎,⋯,by rw[bF];omega,rfl,p,c,2,inferInstance,rfl,∎,λB j=>?_⟩;have r0:=emod_nonneg B (show (5:Int)≠0 by decide);have r1:=emod_lt_of_pos B (show (0:Int)<5 by decide);walk_at "q";generalize B % 5=r at r0 r1;refine⟨∎,vJ (λj=>∃v:Int,j=[.av p ↥c,bp f i,.int first,.str x,ao.t (ev (at' i) a),.str z,ao.t (ev (at' i) b),.int k,.str (x++S++z++ew r v),.int r]/\1<=v/\v<=1000000/\(r=0->v=1)) (λN o=>?_) ?_⟩
  .rfl';have l4:(Str.ofString " by ").length=4:=by walk_at "k"
   have l5:(Str.ofString " ").length=1:=by walk_at "k"
   have lt:(x++S++z).length<=1000:=by rw[bF,bF];omega
   split
   .rename_i u;have u:0<r:=of_decide_eq_true u;let⟨R,Y,U,mR⟩:=zy (ns:=["hand","strong","fair","faint"]) (r:=r - 1) ⋯ (by show r - 1<4;omega);rw[show [Tr.str (Str.ofString "hand"),Tr.str (Str.ofString "strong"),Tr.str (Str.ofString "fair"),Tr.str (Str.ofString "faint")]=(["hand","strong","fair","faint"]:ag).map Tr.str from rfl,U];have G:eU[r.toNat]?=some R:=by
     rw[show r.toNat=(r - 1).toNat+1 by omega];exact Y
    let⟨R',y,_,lR⟩:=uV r0 r1;rw[G] at y;cases y;have t1:∀{v:Int},v=1->ew r v=Str.ofString " by "++R:=λe=>by unfold ew;rw[if_neg ⋯,if_pos e,G];rfl
    have t2:∀{v:Int},v≠1->ew r v=Str.ofString " by "++R++Str.ofString " "++tx (dec v):=λe=>by unfold ew;rw[if_neg ⋯,if_neg e,G];rfl
    rfl';refine⟨⋯,by rw[bF];omega,rfl,p,c,2,inferInstance,rfl,∎,λc3 j=>?_⟩;rfl';refine⟨⟨∎,fk ∎⟩,∎,?_⟩;split
    .refine⟨by rw[bF,bF];omega,rfl,p,c,2,inferInstance,rfl,∎,λC j=>?_⟩;have m0:=emod_nonneg (C.fdiv 10) (show (999999:Int)≠0 by decide);have m1:=emod_lt_of_pos (C.fdiv 10) (show (0:Int)<999999 by decide);rfl';generalize C.fdiv 10 % 999999=m at m0 m1;have bw:bi (2+m)<=20:=kO 20 ⋯;have lw:=kU bw;refine⟨⟨∎,fk ∎⟩,∎,oU _ _ (mD bw ∎) ?_⟩;rfl';refine⟨by rw[bF,bF,bF,cg];omega,o _ ⟨2+m,?_,⋯,⋯,λz=>⋯⟩⟩;rw[t2 ⋯];simp only[fh]
    .refine o _ ⟨1,?_,∎,∎,λ_=>rfl⟩;rw[t1 rfl];simp only[fh]
   .rename_i u;have u:¬ 0<r:=λz=>u (decide_eq_true z)
    have I:r=0:=⋯
    refine o _ ⟨1,?_,∎,∎,λ_=>rfl⟩;unfold ew;rw[if_pos I,zf]
  .rintro _ ⟨v,rfl,v0,v1,hv⟩;rfl';have q:=q ⟨k,a,b,r,v⟩ D x z Q us h g hl L M r0 r1 v0 v1 hv;have e:x++S++z++ew r v=x++Str.ofString " "++dX k++Str.ofString " "++z++ew r v:=by rw[jS];simp only[fh]
   refine mh (by walk_at "k") ⋯ λj=>⟨by rw[fO];rfl,?_⟩
   rw[show ((-1:Int):Rat)=-1 from rfl,Rat.mul_comm,e];exact q _
def wq(K:ak):Sp:=λvs H Q _=>∃(a:ae)(ns:cW),vs=[.ref a]/\bY K H a (ns.map V.int)/\ns.length<=63/\∀b,Q (.bl true) b
def DB:bQ:=cA 1 λa Q=>∃ns:cW,a=[.av (.l false) ↥ns]/\ns.length<=63/\Q (.bl true)
theorem eE{K:ak}{F:Hp}{B:Bool->Hp}:∀ns:cW,Rs K F B ↥ns (ns.map V.int) []
 |[]=>⟨rfl,rfl⟩
 |n::ns=>⟨_,_,[],[],rfl,rfl,⟨rfl,rfl⟩,eE ns⟩
theorem JW{K:ak}(vs:ax)(H:Hp)(Q:VK)(E:XK)(h:wq K vs H Q E):aX K true 0 1 DB vs H Q E:=by
 let⟨a,ns,rfl,b,d,k⟩:=h;refine⟨rfl,λ_=>none,H,[.av (.l false) ↥ns],λ_=>[],λt _=>t=.bl true,λ_=>False,⟨?_,(λ_ _ _ _ z=>by cases z),rfl,?_,(λ_=>.nil),(λ_ _ m=>nomatch m),(λ_ _ _ _ m=>nomatch m),(λi h=>absurd h (Nat.not_lt_zero i)),λ_ _ _ _ z=>z.elim⟩,⟨rfl,ns,rfl,d,λ_=>rfl⟩,?_⟩
 .exact Gr.aI (λ_ _ z=>by cases z)
 .intro i t e;cases i with
  |zero=>cases e;exact .inr ⟨.ref a,rfl,rfl,a,_,rfl,b,eE ns⟩
  |succ i=>cases e
 .intro F' H' j' g' cs' v t c _ r _ _ _ _ e;subst e;rw[r.1];exact k _
theorem ZL{d:Bool}{pl:List (Str×Rat)}{y:Wi}{x z:Str}{c us:ag}(h:LT false d (at' pl) y.a x c)(g:LT false d (at' pl) y.b z us)(j:y.k<3)(e:0<=y.r)(i:y.r<5):d6 (x++" "++dX y.k++" "++z++ew y.r y.v)=c++vw y.k++us++tw y.r y.v:=by
 let⟨l,m,n⟩:=Jm j;rw[h.s,g.s,show jn c++" "++dX y.k++" "++jn us++ew y.r y.v=jn (c++vw y.k++us++tw y.r y.v) from by
  rw[Jn y.r y.v (by simp[h.w.ne]),jk (by simp[h.w.ne]) g.w.ne,jk h.w.ne n,l]]
 exact zJ (by simp[h.w.ne]) (jU (jU (jU h.f m) g.f) (Iy y.v e i))
theorem JX(k:Nat):(vw k).length<=2:=by
 unfold vw;split
 .decide
 .split<;>decide
theorem JY(r v:Int):(tw r v).length<=3:=by
 unfold tw;split
 .decide
 .split<;>simp
structure i2(d:Bool)(pl:List (Str×Rat))(y:Wi)(x z:Str)(ws us:ag):Prop where
 h:LT false d (at' pl) y.a x ws
 g:LT false d (at' pl) y.b z us
 hw:ws.length<=25
 hu:us.length<=27
 k:y.k<3
 r0:0<=y.r
 r1:y.r<5
 v0:1<=y.v
 v1:y.v<=1000000
 hv:y.r=0->y.v=1
theorem i2.lu(T:Tx w K mg){d:Bool}{pl:List (Str×Rat)}{y:Wi}{x z:Str}{c us:ag}(R:i2 d pl y x z c us){Q:Tr->aG}{q:af->Prop}(k:∀j,Q (dC T .o y) j):Cy T [.str (x++" "++dX y.k++" "++z++ew y.r y.v)] Q q:=by
 let⟨h,g,hw,hu,a,r0,r1,v0,v1,hv⟩:=R;have i:=ZL h g a r0 r1;have u:=JX y.k;have A:=JY y.r y.v;have b:(d6 (x++" "++dX y.k++" "++z++ew y.r y.v)).length<=60:=by rw[i,length_append,length_append,length_append];omega
 have C:=h.l;have D:=g.l;have p:(Str.ofString " ").length=1:=by walk_at "k"
 have B:(dX y.k).length<=10:=by
  unfold dX;split
  .decide
  .split<;>decide
 have lt:=ZJ r0 r1 v0 v1;refine⟨rfl,_,rfl,by rw[bF,bF,bF,bF,bF];omega,λz=>absurd b ⋯,λ_=>?_⟩;let⟨p1,p3,m,n,F⟩:=JN (y:=y) ⟨c,h.w,h.f,h.s⟩ ⟨us,g.w,g.f,g.s⟩ h.g g.g a r0 r1 v0 v1 hv b;have:=h.dep;have:=g.dep;have:=h.e;have:=g.e;exact⟨y,p1,p3,m,n,F,⟨⋯,⋯,⋯,ZI h.g g.g⟩,k⟩
theorem i2.eM{d:Bool}{pl:List (Str×Rat)}{y:Wi}{x z:Str}{a us:ag}(R:i2 d pl y x z a us):y.rw:=by
 have:=R.h.dep;have:=R.g.dep;have:=R.h.e;have:=R.g.e;have:=R.h.we;have:=R.g.we;have:=R.hw;have:=R.hu;exact⟨R.k,⋯,⋯,R.h.o,R.g.o,⋯,⋯⟩
theorem i2.own{d:Bool}{pl:List (Str×Rat)}{y:Wi}{x z:Str}{c us:ag}(e:g6 pl)(R:i2 d pl y x z c us):∃c us,i2 d pl y (txt y.a) (txt y.b) c us:=by
 ∎;let⟨⟨a,ha,l⟩,_⟩:=mr e R.h.g R.h.o R.h.n;let⟨⟨b,f,m⟩,_⟩:=mr e R.g.g R.g.o R.g.n;∎;have i:=k9 R.h.w;have j:=k9 R.g.w;rw[if_neg ∎] at i j;have:=R.hw;have:=R.hu;exact⟨a,b,ha,f,⋯,⋯,R.k,R.r0,R.r1,R.v0,R.v1,R.hv⟩
theorem i2.ok{d:Bool}{pl:List (Str×Rat)}{y:Wi}{c us:ag}(R:i2 d pl y (txt y.a) (txt y.b) c us):y.ok:=by
 have:=R.h.dep;have:=R.g.dep;have:=R.hw;have:=R.hu;have:=R.h.l;have:=R.g.l;exact⟨R.k,⋯,⋯,mH R.h.g,mH R.g.g,⋯,⋯,R.r0,R.r1,R.v0,R.v1⟩
theorem JZ(a:Rat){Q:aq}(q:Q (.bl false)):jv true (ao.t a) (ao.t a) Q:=by
 refine .inr ⟨true,?_,show (1:Nat)<=60 by decide,le_refl 1,q⟩;show (if 2=2 then (some (decide (a.num=a.num))).bind λx=>((some (decide ((a.den:Int)=a.den))).bind λy=>(some true).bind λz=>some (y&&z)).bind λy=>some (x&&y) else none)=_;rw[if_pos rfl,decide_eq_true rfl,decide_eq_true rfl];rfl
theorem WG{f g:Fl}{m:List (Str×Rat)}(nd:Nd m){Q:aq}(q:Q (.bl false)):xG true (bp f m) (bp g m) Q:=by
 refine⟨f,g,_,_,1,rfl,rfl,∎,rfl,λp a=>?_,q⟩;let⟨r,b,rfl⟩:=mem_map.mp a;exact⟨ao.t r.2,by rw[zG,show b3 m r.1=some r.2 from lZ nd b];rfl,J6 r.2,rfl⟩
theorem jV(G:Rat):G<0↔G.num<0:=by
 rw[<- y1];show G.num*1<0*(G.den:Int)↔_;rw[Int.mul_one,Int.zero_mul]
theorem jW(G:Rat):0<G↔0<G.num:=by
 rw[<- y1];show 0*(G.den:Int)<G.num*1↔_;rw[Int.mul_one,Int.zero_mul]
theorem K0(G:Rat){k:Nat}(l:k<3):(if (k=1/\0<G.num)\/(k=2/\G.num<0) then ao.t (0:Rat) else Tr.aA [.int (if G.num<0 then -G.num else G.num),.int G.den])=ao.t (jr (knd k) G):=by
 have e:Tr.aA [Tr.int (-G.num),Tr.int G.den]=ao.t (0 - G):=by rw[oR,show 0 - G=-G by grind,show (-G).num=-G.num from rfl,show (-G).den=G.den from rfl]
 have d:Tr.aA [Tr.int G.num,Tr.int G.den]=ao.t G:=(oR G).symm;have f:¬ ("just":Str)="most":=by walk_at "k"
 have g:¬ ("just":Str)="least":=by walk_at "k"
 have i:¬ ("least":Str)="most":=by walk_at "k"
 have j:¬ ("most":Str)="least":=by walk_at "k"
 have z:¬ G<0->¬ 0<G->G=0:=λa b=>by grind
 unfold jr;rcases (by omega:k=0\/k=1\/k=2) with rfl |rfl |rfl
 .rw[if_neg (by simp),show knd 0="just" from rfl];by_cases h:G.num<0
  .rw[if_pos h,if_pos ⟨(jV G).mpr h,f⟩,e]
  .rw[if_neg h,if_neg (λz=>h ((jV G).mp z.1)),d];by_cases c:0<G.num
   .rw[if_pos ⟨(jW G).mpr c,g⟩]
   .rw[if_neg (λz=>c ((jW G).mp z.1)),z (λa=>h ((jV G).mp a)) (λa=>c ((jW G).mp a))]
 .rw[show knd 1="least" from rfl];by_cases c:0<G.num
  .rw[if_pos (.inl ⟨rfl,c⟩),if_neg (λz=>by have:=(jV G).mp z.1;omega),if_neg (λz=>z.2 rfl)]
  .rw[if_neg (λz=>⋯)];by_cases h:G.num<0
   .rw[if_pos h,if_pos ⟨(jV G).mpr h,i⟩,e]
   .rw[if_neg h,if_neg (λz=>h ((jV G).mp z.1)),if_neg (λz=>c ((jW G).mp z.1)),d,z (λa=>h ((jV G).mp a)) (λa=>c ((jW G).mp a))]
 .rw[show knd 2="most" from rfl];by_cases h:G.num<0
  .rw[if_pos (.inr ⟨rfl,h⟩),if_neg (λz=>z.2 rfl),if_neg (λz=>by have:=(jW G).mp z.1;omega)]
  .rw[if_neg (λz=>⋯),if_neg h,if_neg (λz=>h ((jV G).mp z.1)),d];by_cases c:0<G.num
   .rw[if_pos ⟨(jW G).mpr c,j⟩]
   .rw[if_neg (λz=>c ((jW G).mp z.1)),z (λa=>h ((jV G).mp a)) (λa=>c ((jW G).mp a))]
theorem ZM(T:Tx w K mg):aw P w K mg base aV 160 T.kr.a T.kr.d ["_law_script"] (aX K true 0 1 DB):=by
 refine bH T.kr.F Kq rfl ∎ λaM A outer s H E hr hu C=>?_
 refine⟨_,(aH (bM 1 (qc T.sV (Pq T) (aj (qc T.ku (qO T) (aj (qv 0) (aj ay aE))) aE)))
  (aH (k6 (qc T.sZ (Rb T) (aj (qv 0) (aj (qv 1) aE))) (fZ (n:=3) rfl (cT (cM 2) (cT (cM 3) (cT (cM 4) fS)))))
  (aH (bM 5 (dJ (aj (e4 qS qY T.qr (aj (ba (qv 4) ay) aE)) (aj (ba (qv 4) ay) aE))))
  (aH (b8 (QW.t (iB (QW.t (mz (bX dE dF (qv 3) ay) (mj (bX j9 j7 (ba (qv 4) ay) ay)))) (iL (QW.t (mz (bX dE dF (qv 3) ay) (mj (bX o3 oE (ba (qv 4) ay) ay))))))) (aK (bM 5 (dJ (aj ay (aj ay aE))))) b4)
  (aH (bM 6 (vP T.qb (Ey T) (aj (qv 2) aE)))
  (aH (bM 7 (gy ES Gf T.Bb (aj (qv 1) aE)))
  (aH (b8 (QW.t (iB (jm (gx (qc T.qg (EK T) (aj (Jh (Fv T) (qv 6) (aj (qv 7) aE)) (aj (qv 5) aE))))) (iL (bX (Zs hr.units) Yl (qv 7) (qv 1))))) (aK (bf rR)) b4)
  (aH (b8 (bX iA iy (qc T.sY (Sj T) (aj (c8 (IA T) (qv 6)) (aj (qv 1) aE))) (qv 4)) (aK (bf rR)) b4)
  (aK (bf (qc T.qg (EK T) (aj (Jh (Fv T) (vP T.qb (Ey T) (aj (c8 (WA T) (qv 6)) aE)) (aj (qv 7) aE)) (aj (qv 5) aE))))))))))))),?_⟩
 rintro xs Q' _ ⟨_,ns,rfl,hl,q⟩;walk_at "q";refine⟨rfl,_,ns,1,inferInstance,rfl,∎,λc j=>?_⟩;walk_at "q";refine⟨rfl,c,rfl,λe J lp j=>?_⟩;walk_at "q";refine⟨vp _,rfl,.f,_,ns,e,inferInstance,inferInstance,rfl,J,λy d x z ws us h g hw U D r0 r1 v0 v1 hv j=>?_⟩;have R:i2 d e y x z ws us:=⟨h,g,hw,U,D,r0,r1,v0,v1,hv⟩;have rk:=λ(Q:Tr->aG)(q:af->Prop) k=>R.lu T (Q:=Q) (q:=q) k
 generalize hG:ev (at' e) y.df=G;generalize x++Str.ofString " "++dX y.k++Str.ofString " "++z++ew y.r y.v=X at rk;walk_at "q";refine vJ (λj=>j=[.av (.l false) ↥ns,bp .f e,.str X,.int y.k,ao.t G,ao.t (jr (knd y.k) G),.aF,.aF]) (λN C=>?_) ?_
 .rfl';have i:=K0 G D;split
  .rename_i I;have I:(y.k:Int)=1:=of_decide_eq_true I;split
   .rename_i L;rw[if_pos (.inl ⟨⋯,of_decide_eq_true L⟩)] at i;exact C _ (by rw[i])
   .rename_i L;have L:¬ 0<G.num:=λz=>L (decide_eq_true z)
    split
    .rename_i u;have u:(y.k:Int)=2:=of_decide_eq_true u;omega
    .rw[if_neg (λz=>⋯)] at i;exact C _ (by rw[i])
  .rename_i I;have I:¬ (y.k:Int)=1:=λz=>I (decide_eq_true z)
   split
   .rename_i u;have u:(y.k:Int)=2:=of_decide_eq_true u;split
    .rename_i M;rw[if_pos (.inr ⟨⋯,of_decide_eq_true M⟩)] at i;exact C _ (by rw[i])
    .rename_i M;have M:¬ G.num<0:=λz=>M (decide_eq_true z)
     rw[if_neg (λz=>⋯)] at i;exact C _ (by rw[i])
   .rename_i u;have u:¬ (y.k:Int)=2:=λz=>u (decide_eq_true z)
    rw[if_neg (λz=>⋯)] at i;exact C _ (by rw[i])
 .rintro _ rfl;walk_at "q";refine rk _ _ λj=>⟨LD T y,?_⟩
  show bW (bp .o e)=true/\_;refine⟨vp _,?_⟩;have fd:Pu.aB (Tr.a9 .o (e.map λp=>((Sum.inr p.1:aU),ao.t p.2)))=bp .f e:=y7 e;rw[LF,fd];let⟨δ,γ,R'⟩:=R.own J;have Y:=λ(Q:Tr->aG)(q:af->Prop) k=>R'.lu T (Q:=Q) (q:=q) k
  have B:=R.eM;have ms:∀(O:Fl)(Q:Tr->aG),(∀j,Q (ao.t (jr (knd y.k) G)) j)->xi T [dC T O y,bp .f e] Q:=λO Q k=>⟨rfl,O,.f,y,e,inferInstance,rfl,B,h.n,g.n,J,by rw[hG];exact k⟩
  have sm:∀(Q:Tr->aG),(∀j,Q (.bl true) j)->Cp [ao.t (jr (knd y.k) G),ao.t (jr (knd y.k) G)] Q:=λQ k=>⟨rfl,_,rfl,k⟩
  rfl';simp only[vK,rZ,vE];refine Fw T D (ms _ _ λj=>?_);rfl';refine sm _ λj=>?_
  rfl';refine WG J.nd ?_;rfl';refine IB T D ⟨rfl,_,y,rfl,B,λm hm hr j=>?_⟩;have β:bu y.df<=1505:=by show bu y.a+bu y.b+5<=_;have:=B.w;omega
  have α:2*(bC y.df).length<=80:=by show 2*(bC y.a++bC y.b).length<=80;rw[length_append];have:=B.l;omega
  have er:-(0 - cD y.df)=cD y.df:=by grind
  rfl';refine⟨rfl,.f,qF m y,e,inferInstance,rfl,by show nA m (-(0 - cD y.df)) e;rw[er];exact IE J hm ⋯ ⋯ (rE B) (Jp h.n g.n) ⋯ (mE (rE B)).2,λj=>?_⟩;rw[show -(qF m y).2.2.1+cq (at' e) (qF m y).1=G from by show -(0 - cD y.df)+cq (at' e) m=G;rw[er,<- hG,<- hm.ev (at' e) (rE B),Rat.add_comm]];refine JZ G ?_;rfl';refine YB T D ⟨rfl,_,y,rfl,R'.ok,λj=>?_⟩;rfl';refine Y _ _ λj=>?_
  simp only[rZ];refine Fw T D (ms _ _ λj=>?_);rfl';refine sm _ λj=>⟨rfl,q _⟩
theorem K1(T:Tx w K mg):aw P w K mg base aV 160 T.kr.a T.kr.d ["_law_script"] (wq K):=(ZM T).imp JW
end
theorem walk{l:W.OpenLaw}{q:Program}{b:ag}{r:(bD)->aP->Prop}{o:World->aP->Prop}{d:DefRec}{K:Params->ak}(hn:l.most=some 63)(g:d.params.defaults=[])(j:d.name="law")(y:∀(w:World)(h:aP),o w h->(K w.params).In h)(F:∀(w:World)(mg:bD)(h:aP),(K w.params).In h->h.Ns mainGlobals mg->Nonempty (Tx w (K w.params) mg)):
  W.WalkO q b r o l.row.toRowW d [] (λf vs=>PySem.call f vs):=by
 refine L2.kh (n:=63) (k:=160) (x:="_law_script") (CX:=λ_=>aV) (sp:=λw=>wq (K w.params)) hn ∎ g ⟨rfl,∎,∎⟩ y ?_ (λ_ _ a ns B _ u=>⟨a,ns,rfl,u,B,λ_=>rfl⟩) λ_ _ _ _ _ z=>z
 intro w mg C h p G c;let⟨T⟩:=F w mg h p G;rw[j] at c;have e:=c.symm.trans T.kr.m;cases e;refine⟨T.kr.d,λs v=>?_,λbase _ _=>K1 T⟩;let⟨oc,od,kV,doc,pm,an,aM,ct,osl,i,D,A⟩:=T.kr.F.ex;rw[i];exact .of_eq rfl
end Sf
structure PySem.W.Fast:Prop where(tw1916855844481764225 tw14592400495498812870 tw13140683300753792219 tw786056943113232165 tw13664425126159462158 tw9954048456927705816 tw13877480043549626315 tw12191033680813222267 tw8702851682790715200 tw12699364156475297014 tw17849524544228645253 tw8654681097970460867 tw6247044027502770291 tw7387957361431622346 tw8536247031952499099 tw904723723494542539 tw10967851073108283217 tw3737429712990695643 tw13890416094734286558 tw14856118183772574168 tw3139578055768844183 tw1993002411957905819 tw16572970716774622251 tw10338158342145312084 tw1232560610766263923 tw12284851475739414163 tw564891533922550601 tw17293210094024614347 tw1880377104166288836 tw16799622762571719952 tw3079883556930235537 tw3877182553845033563 tw92031676702158790 tw5010697696727075464 tw2662605766111213092 tw3590217478866235770 tw6376100838823950002 tw1475435054976782553 tw12228272661217385197 tw10619444892554594074 tw12921858622763296576 tw15497790205930700733 tw1035322122139744868 tw9520119126439063447 tw17664492682132148796 tw13803071415922061563 tw16149757803856071421 tw898857432100126544 tw7578936582543915233 tw13482720722067068739 tw7356294391910738361 tw3550927182362863002 tw2582973076178236655 tw4266267329579805466 tw17774651576050754588 tw5980570992557705933 tw11785042924199657038 tw2866848335685529352 tw5111279700562381409 tw15557762622126558123 tw8561920126300331305 tw2085229839179190421 tw18414402220608759361 tw9161152467458860933 tw14555919475234272600 tw13754177170017841309 tw4031200617988690010 tw5178530509966947066 tw13360939460317175723 tw7187845100072551973 tw16518002966078116649 tw14963984858031676487 tw16209126926126814709 tw3810838646006513848 tw10911144489449001714 tw13727116367692536756 tw17201130613732113704 tw10371578617386036957 tw3699781052491635152 tw9661497334324826879 tw4585909528726836253 tw5751447166765557495 tw9022739190729894728 tw8193702931668753714 tw14587828380900917096 tw12474240101434129666 tw6532882396009008964 tw16537922838050622256 tw10727346439401604664 tw1333838609310165574 tw12491957647664638614 tw17719039674044680345 tw2654013333993079143 tw8355252378121494707 tw882697340350029304 tw17115833923244007787 tw8111633233631205406 tw4863784745419620196 tw4333444063190746721 tw1984890629959964700 tw17989212769619094576 tw16094756253102333320 tw3634916132682995911 tw14842267407750212153 tw4461432609467307206 tw7210728940300106464 tw3062062685076005626 tw12269292820255355674 tw12767614558294281004 tw9935212391522827885 tw14300609746738817896 tw2504500682707086525 tw7516538545802191046 tw15155805892054890189 tw2063287075047460271 tw7869087138885902334 tw17797787933387826293 tw8843710798909508564 tw14857585320061015355 tw13551794546522294191 tw14559663749215478103 tw8651374963683054425 tw14970680592008910696 tw6276686282347546531 tw17827333289083302059 tw302746936825526087 tw3939942021767023476 tw2879057195364254518 tw202762501240122939 tw9230254401563284860 tw14725842068406824496 tw1406866330406365211 tw15770622829235579558 tw6923714706900467052 tw13947775720825166918 tw12329765406483988983 tw5530317184426980270 tw7895685507066241536 tw13521208511682331279 tw7638619831729257153 tw4237131273147930523 tw16465899746696459976 tw6962770083260515258 tw4934952797573832279 tw13687879214654112998 tw8819574169375384088 tw14931714646585909946 tw13966595354565588475 tw886028449993739019 tw16748294977685580773 tw9385726892311987431 tw16865819409173608866 tw4637302007453857723 tw8823292469040129628 tw3229082194858960868 tw2722076216103046254 tw5734081388908281996 tw3184215472467767942 tw13461370863462040872 tw10649245715487998177 tw12494663529431438175 tw12399621788820939714 tw1438355593685513257 tw11213486164107559480 tw5145763783681088979 tw377797466640141969 tw4188218054509424077 tw11994732837068275181 tw12559055697226994845 tw7124854360018163662 tw4323337779551445348 tw5452125137213783574 tw16146119315910362259 tw10374423378324077316 tw2406280728216681620 tw4390627821922010093 tw5581801176961192580 tw6680111743709818682 tw11925418430474868270 tw16600968442351205329 tw16376972450779815297 tw10984590085386923006 tw18374080877274522279 tw13151609835693769162 tw1419961669489424230 tw13893278171097268425 tw18089390519138379589 tw17908156098463516012 tw14008729901363346964 tw12990894843659939676 tw4351975540656400678 tw16457737464461584613 tw13123821980756082608 tw11999598146961008353 tw8691511442712218432 tw10833183873850329980 tw117316737881483510 tw14735778661638772235 tw5114888240551273657 tw6206516168383115698 tw8927052141977267155 tw13767907006641999693 tw14593780250228524497 tw929327113786653953 tw11747599653120812652 tw14716016565707769291 tw14175713630505086014 tw4351084764421456899 tw8812631405452869636 tw4121296524225399837 tw3136257656179604748 tw14372148896426780811 tw13786169649952706355 tw13361940806806839494 tw403555965693036475 tw7052143580725362555 tw4909227365631798249 tw5396553161808311584 tw16725262758857373552 tw13036809861834727571 tw8983631648997999294 tw2601049046502554609 tw7694893573825929486 tw18334291638624517799 tw13538182964133044919 tw5643020510195960213 tw2153424023574839571 tw11237485697919010158 tw15559935750872607273 tw17613339190551874534 tw12517772523746104758 tw10242436233399199713 tw10872016155535237611 tw596772501664369288 tw1608895195752233129 tw6413056761544241034 tw3242018092804544577 tw2527876776717156512 tw15292513906240375107 tw8957820148115508603 tw6825560237579466726 tw2783052629375371501 tw13201346184235626767 tw2437135476085459113 tw3553056340715178587 tw5241924446052874234 tw1993432078194294601 tw1096064339384745018 tw12014192709632932107 tw7480815740949377551 tw1329999762496999012 tw2827583485263008984 tw2566255070956688962 tw7155679575903657987 tw1604855818357710322 tw9254082639006270109 tw9180727166529386937 tw12900974314505590755 tw7221644777646734486 tw4658304606533918032 tw11867206302227604367 tw8320903057232687624 tw16308456987227018911 tw3767169366584895734 tw7700814516992336219 tw2309473001746008386 tw3418842670022701991 tw15949746317032552285 tw5966472919991496061 tw7312122134363763883 tw3032599777141429357 tw2651922019033277549 tw3865656384402752944 tw13951300737975248975 tw9343292258824761645 tw18195174881449270860 tw2090924633256566574 tw9447666750266314464 tw2232115413715287592 tw2335181257972262822 tw4481310400504613980 tw16256885514086262653 tw261648289561267707 tw11130177066669564016 tw11034857807609857926 tw8499476640351059785 tw59408606567957415 tw6493005930770305997 tw7469315481478949927 tw6209703202404686983 tw3371849141796068007 tw204839600485664070 tw2523360215611009149 tw12035703451368498779 tw13092008851073427394 tw14048685861186228340 tw15490988903108193816 tw16599775044272689714 tw7163065627401976134 tw15650613130082972334 tw5224908628944969559 tw12208324756605350756 tw6175566528431047442 tw15513661247885047449 tw7239410271178188517 tw871966168941554572 tw6509432679822766603 tw14116917122908131840 tw3660525292232340626 tw5208668803822298726 tw10915060231718160665 tw508958251568676278 tw1866587288061234428 tw5909098093845187890 tw12950364638361118965 tw9443638402554195959 tw13770027228314440462 tw9372966229542641003 tw13030955345294974204 tw9612573317037364738 tw5635993801594843559 tw2052950332651390815 tw9619724835377909654 tw10110027813568627172 tw3345681767438452457 tw5642087827590620080 tw13290422936246032857 tw10891347063890451370 tw6870954598644482656 tw102997632483225867 tw7720606829818676562 tw15249150049767247306 tw6359378824724217151 tw17737287627040422721 tw18309287301650719780 tw11688041694630211932 tw6520161113707410623 tw10809959423056297839 tw11684195048148942724 tw2763658362732431990 tw10527433069263581699 tw7013571428573363030 tw12111276229218601860 tw13993705839306696709 tw16126726468893381280 tw3135222010855935707 tw234392214484787301 tw10668221111352095231 tw8490837278279378163 tw17271891773845045323 tw6605820116592036268 tw16455760522447971347 tw15543841496869681397 tw9549883378438871554 tw15878685151991982706 tw2265513162467878228 tw8581227898141291103 tw6351692560881595797 tw11203540352223005310 tw10655233036476646850 tw15361431039331994311 tw16806067719761893399 tw1398562794600521383 tw5650269941207637545 tw14009040068823637212 tw3676390912309761565 tw13408859013379707522 tw1911935090119124796 tw1177600285295509330 tw9269243141106109197 tw8976107351820687427 tw12556466794720447889 tw2806263033651370711 tw11829969846158710455 tw17923634713631313649 tw4429091521520966780 tw7964051094739939481 tw3862986739749867324 tw11977704784625409321 tw11993130749322071173 tw7867031304310810142 tw4806750556728410180 tw7293392933035648653 tw18393806306977063565 tw8634933983300545795 tw9032535917427106954 tw15943151847092833050 tw11929954433759891577 tw7178633955624669808 tw5133661591639662858 tw3981960704368294141 tw7274904506584615684 tw5860906641745569682 tw1614114748184201486 tw16380934645218326088 tw17989802964608559517 tw11945680931734621014 tw16319394805156030860 tw18379018222755328998 tw1636508234621174898 tw10259055049643507598 tw11196652060220068796 tw10667768810570533864 tw7162108987802536206 tw304950874384153830 tw15570506497596960676 tw12440498062705207681 tw892854019994692545 tw18253035975043722148 tw4151880160509059762 tw13590110662508204933 tw18125213868420558110 tw11287956524137393527 tw17507043774379361368 tw13325668803832343131 tw12287018349119279128 tw461652405669792344 tw585023927480779678 tw10781062020767307129 tw1236297456821951941 tw18170790287478771622 tw14954454781827241456 tw6674260422392586180 tw10904004572872402501 tw10889971929973537005 tw12538771751105391166 tw12147192156628616237 tw3972854124058725664 tw16550722821312435465 tw18172601342538112059 tw16964002986934182551 tw6356343570307595232 tw8692116053382069679 tw6481740343660950726 tw2625074127767089273 tw14460107644303437018 tw17312617962309522861 tw10961219341829453210 tw15440203516512273413 tw4146546351466929248 tw17032181141084744807 tw11561889001954485000 tw1012651711617205320 tw12120486612475623565 tw9292063222892312666 tw4794992188565730839 tw17809872089315644995 tw17213941797937868187 tw11529655053067424371 tw6564880093527399311 tw7330579938539667994 tw90722295413216597 tw10034432791265076478 tw310448238097851480 tw14167738869271480203 tw6088690266069108881 tw6246943507170888343 tw6451098659183649499 tw16712362906328383140 tw14603924531669943245 tw17983316774112521070 tw10309938108059632240 tw10290039775276831770 tw3299519227089533688 tw14383947255666526950 tw3836348301847948513 tw3183007565198616506 tw7533267092406854218 tw10329478729101694199 tw6610350291927692483 tw15316258625311562138 tw3762946514498468678 tw14134442632244930476 tw7825759126119630507 tw9086487076497507136 tw4366011970068954403 tw9761964268414470266 tw9174098525598447306 tw7151101973450412524 tw303462836194915855 tw2148428316376626833 tw12738994092696509481 tw2068361280422223800 tw3746985878847453881 tw3322803900847056113 tw15588540234932738806 tw16672554306337381862 tw8304042168784700170 tw7796229987588939102 tw1727514000885875615 tw1216532058636737240 tw3320558467387509615 tw10526731925503017752 tw16931759431325182823 tw14810247229564113950 tw8059630822747474545 tw623386917875866608 tw9058097091749418144 tw3845881789908948294 tw9418658784354956647 tw6533664534475949524 tw10048214006203318759 tw4142269879184037105 tw3867340355176787475 tw18429994595175545017 tw5154549093950383881 tw10565045020694777097 tw4622668781415923702:True)
open PySem PySem.W PyProof.Rows
local macro_rules |`(tactic|walk_at "b")=>`(tactic|first |exact λ_ _ _ _ _ _=>Pu.Gm λ_=>rfl |exact λ_ _ _ _ _ _=>Pu.ln2 λ_ _=>rfl |exact λ_ _ _ _ _ _=>Pu.Gn λ_ _ _=>rfl |exact λ_ _ _ _ _ _=>Pu.Gp λ_ _ _ _=>rfl |exact λ_ _ _ _ _ _=>Pu.QC λ_ _ _ _ _=>rfl)
set_option maxRecDepth 100000 in
set_option maxHeartbeats 0 in
theorem PySem.Challenge.cw_springframe_k17_whole_wishes_of_texts_holds : PySem.Challenge.rw_springframe_k17_whole_wishes_of_texts.Holds := by
 w_on;o_law;k_head;(case hw=>w_witness2)
 k_fill
 refine Sf.walk (l:=PySem.Challenge.rw_springframe_k17_whole_wishes_of_texts) rfl rfl rfl (λw h Y=>PySem.W.kIn_of Y) ?F
 case F=>
  intro w mg h KX G;refine⟨?_⟩;apply Sf.Tx.mk
  iterate 2 all_goals try first |exact Pu.NU KX G (by k_is) (L2.mS (by k_is) (by k_is) (by k_is)) (by walk_at "b") |exact Pu.NW (by k_is) (L2.mS (by k_is) (by k_is) (by k_is)) (by k_is) (by walk_at "b") |exact Pu.NV (by k_is) (L2.mS (by k_is) (by k_is) (by k_is)) (by k_is) (by k_is) (by k_is) (by walk_at "b") |exact mg_of KX G (by k_is) |exact mg_none_of KX G (by k_is) |exact Pu.zP (by k_is) |exact L2.du.mk (by k_is) (by k_is) (by k_is) (by k_is) |exact⟨_,_,_,by k_is,rfl,rfl,Nat.le_of_ble_eq_true rfl,by repeat first |exact .nil |refine .cons ⟨_,rfl⟩ ?_⟩ |exact Sf.fx (by k_is) (by k_is) (by k_is) (by k_is) (by k_is) (by k_is) (by k_is) (by k_is) (by k_is) (by k_is) (by k_is) (by k_is) (by k_is) (by k_is) (by k_is) (by k_is) (by k_is) (by k_is) (by k_is) (by k_is) (by k_is) (by k_is) (by k_is) (by k_is) (by k_is) (by k_is) (by k_is) (by k_is) (by k_is) (by k_is) (by k_is) (by k_is) (by k_is) (by k_is) (by k_is) (by k_is) (by k_is) (by k_is) (by k_is) |exact L2.fG.mk (L2.du.mk (by k_is) (by k_is) (by k_is) (by k_is)) (by k_is) (by k_is) (by k_is) (by k_is) |exact Pu.VY (by k_is) |exact Pu.za (by k_is) (by k_is) (by k_is) (by rfl) |exact Pu.rO (by k_is) (by k_is) (by k_is) (by k_is) (by rfl) |exact Pu.rN KX G (by k_is) (by rfl) |k_is |kit_is |k_exc |kts_exm
#print axioms PySem.Challenge.cw_springframe_k17_whole_wishes_of_texts_holds
