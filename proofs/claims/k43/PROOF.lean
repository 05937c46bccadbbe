import PyProof.Rows.All
import Wide.All
import OpenK.AllK
import Wide.FinOn
import Lean
import PyProof.EqAt
import PyProof.EqKinds
import PyProof.TupleCall
import PySem.Challenge.RW_springframe_k43_spared
set_option Elab.async false
set_option linter.all false
set_option maxRecDepth 100000
open List (length_map mem_append getElem?_map mem_map mem_cons map_cons length_cons map_map map_append size_toArray length_append length_range mem_of_getElem? getD_eq_getElem?_getD length_set append_nil lookup_cons append_assoc getElem?_eq_getElem nodup_cons length_replicate mem_singleton getElem?_set_ne getElem?_range getElem?_eq_none length_take mem_filter find?_cons take_length mem_append_right take_add_one mem_range getElem?_set_self any_cons map_congr_left length_zipIdx all_cons mem_cons_of_mem nodup_append map_nil ext_getElem? mem_filterMap length_nil append_eq_nil_iff mem_map_of_mem filter_sublist filterMap_cons of_mem_zip getElem?_append_left map_id length_filter_le getElem_mem any_eq_true map_set nodup_nil getElem?_append_right cons_append getElem?_set)
open Nat (le_refl le_trans ne_of_lt lt_of_lt_of_le lt_irrefl zero_le lt_of_le_of_lt le_of_dvd lt_succ_of_lt pow_add)
open Int (ne_of_gt mul_zero le_of_lt emod_nonneg natAbs_natCast mul_pos zero_mul emod_lt_of_pos natCast_pos dvd_trans one_dvd natAbs_mul mul_comm mul_nonneg one_mul natCast_mul)
open Bool (and_eq_true)
open Option (map_some isSome_map)
local macro_rules|`(tactic|omega)=>`(tactic|first|decide|lia)
abbrev ah:=List PySem.Str
abbrev aL:=List PySem.Value
abbrev aT:=List (PySem.Addr×PySem.Obj)
abbrev az:=List Int
abbrev f9:=List (List Rat)
abbrev bo:=List Rat
abbrev br:=List (Option Nat)
abbrev bc:=PySem.Str->Option PySem.Value
abbrev dZ:=Option PySem.Value
abbrev aF:=Nat->Nat->Int
abbrev bI:=Option Int
abbrev bL:=List PySem.Expr
abbrev cz:=List PySem.Addr
abbrev bT:=Option PySem.Addr
abbrev d3:=Array PySem.Value
abbrev b5:=List PySem.Env
abbrev aj:=PySem.W.Frag
abbrev ak:=PySem.Shared
abbrev ao:=PySem.Value
abbrev ae:=PySem.Addr
abbrev aO:=PySem.Heap
theorem autoR(_:0=0:=by rfl):True:=.intro
theorem autoD(_:0=0:=by decide):True:=.intro
def hidG(G:Prop):Prop:=G->False
theorem hidN{G}(h:hidG G->False):G:=Classical.byContradiction h
local macro_rules|`(tactic|∎)=>do
 let z:=Lean.mkIdent `zzz
 `(tactic|first|(refine $z ?_;clear $z)|(refine hidN ?_;intro $z:ident))
local macro_rules|`(tactic|let $p:term:=$e)=>do
 let k:=λx a=>Lean.Syntax.node .none (`Lean.Parser.Tactic++x) a
 let m:=λx=>k `rcasesPatMed #[Lean.mkNullNode #[x]]
 let q:=p.raw.rewriteBottomUp λx=>match x with|.ident ..=>k `rcasesPat.one #[x]|.node _ `Lean.Parser.Term.hole a=>k `rcasesPat.ignore a|.node _ `Lean.Parser.Term.anonymousCtor a=>k `rcasesPat.tuple (a.modify 1 λs=>Lean.mkNullNode (s.getArgs.map λy=>if y.isAtom then y else k `rcasesPatLo #[m y,Lean.mkNullNode]))|_=>x
 if p.raw[1].getNumArgs<4 then `(tactic|obtain $(⟨m q⟩):rcasesPatMed:=$e) else
 `(tactic|first|(guard_target =ₛ False;obtain $(⟨m q⟩):rcasesPatMed:=$e)|(∎;obtain $(⟨m q⟩):rcasesPatMed:=$e;refine $(Lean.mkIdent `zzz) ?_;clear $(Lean.mkIdent `zzz))|obtain $(⟨m q⟩):rcasesPatMed:=$e)
local macro_rules|`(⋯)=>`(by omega)|`(∎)=>`(by decide)|`(⇑$x)=>`(($x).heap.objs.size)|`(↥$x)=>`(($x).map $(Lean.mkIdent `Pu.af.t))|`(do $x:term)=>`(autoParam $x $(Lean.mkIdent `autoR._auto_1))|`(~~~$x)=>`(autoParam $x $(Lean.mkIdent `autoD._auto_1))
set_option bootstrap.genMatcherCode false
local macro_rules|`(command|def $i:declId $s:optDeclSig $v:declVal)=>`(command|noncomputable def $i:declId $s:optDeclSig $v:declVal)|`(command|abbrev $i:declId $s:optDeclSig $v:declVal)=>`(command|noncomputable abbrev $i:declId $s:optDeclSig $v:declVal)|`(command|instance $s:declSig $v:declVal)=>`(command|noncomputable instance $s:declSig $v:declVal)
namespace L2
open PySem PySem.Spec PyProof.Rows
abbrev da(x:Str):Prop:=(x == ("__debug__":Str))=false
abbrev ee(e:Expr)(es:bL)(n:Env):Prop:=starEach (e::es) n=(false,eval e n)::starEach es n
abbrev nq(e:Expr)(n:Env):Prop:=starEach [e] n=[(false,eval e n)]
abbrev yU(e f:Expr)(n:Env):Prop:=starEach [e,f] n=[(false,eval e n),(false,eval f n)]
abbrev eZ(p:Pos)(es:bL)(n:Env):Prop:=(backTo p (starEach es n)).any (·.1)=false
abbrev aS:=Sum Int Str
abbrev bf:=List (aS×bI)
def nI:aS->ao->Bool
 |.inl k,v=>Value.isInt k v
 |.inr x,v=>Value.isStrOf x v
def Hd(w:World):aS->Int
 |.inl k=>hashInt k
 |.inr x=>hashStr w x
theorem jC:∀{k:aS}{v:ao},nI k v=true->(∃i t,k=Sum.inl i/\v=Value.int i t)\/(∃x t,k=Sum.inr x/\v=Value.str x t)
 |.inl i,v,h=>by
  let⟨t,e⟩:=Value.isInt_shape (k:=i) (v:=v) h;exact .inl ⟨i,t,rfl,e⟩
 |.inr x,v,h=>by
  let⟨t,e⟩:=Value.isStrOf_shape (x:=x) (v:=v) h;exact .inr ⟨x,t,rfl,e⟩
theorem La(i:Int)(t:Tok):nI (.inl i) (.int i t)=true:=by simp[nI,Value.isInt]
theorem Lb(x:Str)(t:Tok):nI (.inr x) (.str x t)=true:=by simp[nI,Value.isStrOf]
theorem RL(a b:Int):decide ((Sum.inl a:aS)=Sum.inl b)=(a == b):=by
 by_cases e:a=b
 .subst e;simp
 .have h:¬ (Sum.inl a:aS)=Sum.inl b:=λq=>e (Sum.inl.inj q)
  rw[decide_eq_false h];exact (beq_eq_false_iff_ne.mpr e).symm
theorem RM(a b:Str):decide ((Sum.inr a:aS)=Sum.inr b)=decide (a=b):=by
 by_cases e:a=b
 .subst e;simp
 .have h:¬ (Sum.inr a:aS)=Sum.inr b:=λq=>e (Sum.inr.inj q)
  rw[decide_eq_false h,decide_eq_false e]
theorem RN(a:Int)(b:Str):decide ((Sum.inl a:aS)=Sum.inr b)=false:=decide_eq_false (λq=>nomatch q)
theorem RO(a:Str)(b:Int):decide ((Sum.inr a:aS)=Sum.inl b)=false:=decide_eq_false (λq=>nomatch q)
def eh(prog:Program)(w:World):PySem.KeyKind prog w aS where
 is:=nI
 hash:=Hd w
 inj:=λv a b g f=>by
  rcases jC g with⟨i,t,rfl,rfl⟩ |⟨x,t,rfl,rfl⟩
  .rcases jC f with⟨j,u,rfl,e⟩ |⟨y,u,rfl,e⟩
   .injection e with e1 _;rw[e1]
   .exact nomatch e
  .rcases jC f with⟨j,u,rfl,e⟩ |⟨y,u,rfl,e⟩
   .exact nomatch e
   .injection e with e1 _;rw[e1]
 byValue:=λk v h=>by
  rcases jC h with⟨i,t,rfl,rfl⟩ |⟨x,t,rfl,rfl⟩<;>rfl
 pyHash:=λd h=>by
  rcases jC d with⟨i,t,rfl,rfl⟩ |⟨x,t,rfl,rfl⟩
  .exact wpAny_pyHash_int h
  .exact wpAny_pyHash_str h
 eqBool:=λl d h=>by
  rcases jC l with⟨i,t,rfl,rfl⟩ |⟨x,t,rfl,rfl⟩
  .rcases jC d with⟨j,u,rfl,rfl⟩ |⟨y,u,rfl,rfl⟩
   .rw[RL] at h;exact wpAny_eqBool_int h
   .rw[RN] at h;exact SeqAt.EqAt.int_str i t y u _ _ _ _ h
  .rcases jC d with⟨j,u,rfl,rfl⟩ |⟨y,u,rfl,rfl⟩
   .rw[RO] at h;exact SeqAt.EqAt.str_int x t j u _ _ _ _ h
   .rw[RM] at h;exact wpAny_eqBool_str h
 «strs»:=λk x t v h=>by
  rcases jC h with⟨i,u,rfl,e⟩ |⟨y,u,rfl,e⟩
  .exact nomatch e
  .injection e with e1 _
   subst e1;cases v<;>rfl
theorem Jp(prog:Program)(w:World)(i:Int)(t:Tok):(eh prog w).is (.inl i) (.int i t)=true:=La i t
theorem Jq(prog:Program)(w:World)(x:Str)(t:Tok):(eh prog w).is (.inr x) (.str x t)=true:=Lb x t
inductive V where
 |aE |bl (b:Bool) |int (i:Int) |str (x:Str) |fW (b:Array UInt8) |kE (b:UInt64) |ref (a:Addr) |ty (n:String)
 deriving DecidableEq
abbrev cy:=List (aS×V)
abbrev ax:=List V
def aC:V->ao->Prop
 |.aE,u=>u=Value.none
 |.bl b,u=>u=Value.bool b
 |.int i,u=>∃t,u=Value.int i t
 |.str x,u=>∃t,u=Value.str x t
 |.fW b,u=>∃t,u=Value.bytes b t
 |.kE b,u=>∃t,u=Value.float b t
 |.ref a,u=>u=Value.ref a
 |.ty n,u=>u=Value.type n
abbrev aH:ax->aL->Prop:=Paired aC
theorem aH.length(r:aH xs us):xs.length=us.length:=Paired.length r
theorem aH.get:∀{xs:ax}{us:aL}{i:Nat}{x:V},aH xs us->xs[i]?=some x->∃u,us[i]?=some u/\aC x u
 |_,_,_,_,.nil,e=>by simp at e
 |_,_,0,_,.cons r _,e=>by simp at e;subst e;exact⟨_,rfl,r⟩
 |_,_,i + 1,x,.cons _ t,e=>by
  let⟨u,a,b⟩:=aH.get (i:=i) (x:=x) t (by simpa using e);exact⟨u,by simpa using a,b⟩
theorem aH.set(r:aC x u):∀{xs:ax}{us:aL}(i:Nat),aH xs us->aH (xs.set i x) (us.set i u)
 |_,_,_,.nil=>.nil
 |_,_,0,.cons _ t=>.cons r t
 |_,_,i + 1,.cons q t=>.cons q (aH.set r i t)
theorem aH.append:∀{xs ys:ax}{us a:aL},aH xs us->aH ys a->aH (xs++ys) (us++a)
 |_,_,_,_,.nil,s=>s
 |_,_,_,_,.cons r t,s=>.cons r (aH.append t s)
theorem aH.take:∀{xs:ax}{us:aL}(n:Nat),aH xs us->aH (xs.take n) (us.take n)
 |_,_,0,_=>.nil
 |_,_,_ + 1,.nil=>.nil
 |_,_,n + 1,.cons r t=>.cons r (aH.take n t)
theorem aH.drop:∀{xs:ax}{us:aL}(n:Nat),aH xs us->aH (xs.drop n) (us.drop n)
 |_,_,0,r=>r
 |_,_,_ + 1,.nil=>.nil
 |_,_,n + 1,.cons _ t=>aH.drop n t
def bX:Option V->dZ->Prop
 |some v,some u=>aC v u
 |none,none=>True
 |_,_=>False
def KV{j:Type}:List (j×V)->List (j×ao)->Prop:=Paired λ(p:j×V)(q:j×ao)=>p.1=q.1/\aC p.2 q.2
def kV:aS->V
 |.inl i=>.int i
 |.inr x=>.str x
inductive HO where
 /-- a list -/
 |ag (xs:List V)
 /-- a tuple (never changes) -/
 |aP (xs:List V)
 /-- a dict whose keys are ints and texts;one whose keys are tuples of ints and texts (the empty one is both) -/
 |dK (kvs:List (aS × V)) |dT (kvs:List (List aS × V))
 /-- a set of ints: dC members,dC size -/
 |set (S:Int -> Bool) (n:Nat)
 /-- an instance of the class at C,dC dict at dx,dC attributes -/
 |ins (C dx:Addr) (fs:List (Str × V))
 /-- the dict of the instance at x -/
 |own (x:Addr)
 /-- the dict of an exception -/
 |xd (fs:List (Str × V))
 /-- a bound method,f of x -/
 |met (f x:Addr)
 /-- a range object lo,lo + 1,.. below hi -/
 |uv (lo hi:Int)
 /-- a thing that is known to the object (the script;a dict while a loop walks it): read,never written while it is so -/
 |aA (o:Obj) (u:HO)
 /-- a code object's table -/
 |lI (ps:Array Value)
 /-- any other thing,by what is true of dC one object (a def of one's own: SetO a S n:=HO.ext λh=>..) -/
 |ext (φ:Heap -> Prop)
abbrev Hp:=Addr->Option HO
def aN(H:Hp)(a:ae)(o:HO):Hp:=λb=>if b=a then some o else H b
theorem cO:aN H a o a=some o:=by unfold aN;rw[if_pos rfl]
theorem aW{H:Hp}(h:b≠a):aN H a o b=H b:=by unfold aN;rw[if_neg h]
theorem Th{H:Hp}(h:H a=some o)(h':H b=some u)(d:o≠u):a≠b:=by
 intro e;subst e;rw[h] at h';exact d (Option.some.inj h')
theorem iz{H:Hp}(h:H a=some o)(h':H b=none):a≠b:=by
 intro e;subst e;rw[h] at h';cases h'
section
variable(P:Program)(w:World)
def aX(H:Hp)(h:aO)(a:ae):HO->Prop
 |.ag e=>e.length <= sizeLine /\ ∃(b:aL)(n:Nat),aH e b /\ h.get? a=some { cls:=.type "list",data:=.seq b.toArray n }
 |.aP e=>e.length <= sizeLine /\ ∃b:aL,aH e b /\ IsTup h a b.toArray
 |.dK d=>d.length <= sizeLine /\ (a == sysModules)=false /\ ∃vs,KV d vs /\ h.DictOf (eh P w) a vs
 |.dT d=>d.length <= sizeLine /\ (a == sysModules)=false /\ ∃e:List (List aS × Addr × Value),
   Paired (λ(p:List aS×V)(q:List aS×ae×ao)=>p.1=q.1/\H q.2.1=some (.aP (p.1.map kV))/\aC p.2 q.2.2) d e/\
   ∃o l s,h.get? a=some o/\o.ExactDict/\o.data=.dict l s/\l.toList=e.map (entryOfKey (tupleKind (eh P w)))/\(e.map (·.1)).Nodup
 |.set S n=>h.SetOf (intKind P w) a S n
 |.ins C i fs=>H i=some (.own a) /\ fs.length <= 1000 /\ i ≠ a /\ h.get? a=some (W.instObj C i) /\
   ∃g,h.Ns1 i g/\(∀f,bX (fs.lookup f) (g f))/\PySem.Within g (fs.map (·.1))
 |.own _=>∃o,h.get? a=some o
 |.xd fs=>∃g,h.Ns1 a g /\ ∀f,bX (fs.lookup f) (g f)
 |.uv lo y=>∃t u v,h.get? a=some { cls:=.type "range",data:=.fields #[.int lo t,.int y u,.int 1 v] }
 |.aA o u=>h.get? a=some o /\ aX H h a u
 |.lI A=>h.get? a=some { cls:=.none,data:=.fields A }
 |.met f x=>h.get? a=some (W.methodObj (.ref f) (.ref x))
 |.ext j=>j h /\ (∃o,h.get? a=some o) /\ ∀m r:Heap,j m -> (∀o,m.get? a=some o -> r.get? a=some o) -> j r
def cR(H:Hp)(h:aO):Prop:=∀a o,H a=some o->aX P w H h a o
end
section
variable{P:Program}{w:World}{H H':Hp}{h h':aO}{a:ae}{o:HO}
theorem aX.lt(x:aX P w H h a o):a<h.objs.size:=by
 cases o with
 |ag d=>let⟨_,_,_,_,e⟩:=x;exact Heap.lt_size e
 |aP d=>let⟨_,_,_,p⟩:=x;exact p.lt
 |dK b=>let⟨_,_,_,_,o,_,_,e,_⟩:=x;exact Heap.lt_size e
 |dT b=>let⟨_,_,_,_,o,_,_,e,_⟩:=x;exact Heap.lt_size e
 |set S n=>let⟨o,_,_,_,e,_⟩:=x;exact Heap.lt_size e
 |ins C g fs=>let⟨_,_,_,e,_⟩:=x;exact Heap.lt_size e
 |own y=>let⟨_,e⟩:=x;exact Heap.lt_size e
 |xd fs=>let⟨_,⟨_,_,_,e,_⟩,_⟩:=x;exact Heap.lt_size e
 |uv lo i=>let⟨_,_,_,e⟩:=x;exact Heap.lt_size e
 |aA j u=>let⟨e,_⟩:=x;exact Heap.lt_size e
 |lI l=>exact Heap.lt_size (show h.get? a=some _ from x)
 |met f y=>exact Heap.lt_size (show h.get? a=some _ from x)
 |ext m=>let⟨_,⟨_,e⟩,_⟩:=x;exact Heap.lt_size e
theorem Paired.mO{F G:j->i->Prop}:∀{d:List j}{l₂:List i},Paired F d l₂->(∀a b,F a b->G a b)->Paired G d l₂
 |_,_,.nil,_=>.nil
 |_,_,.cons r t,f=>.cons (f _ _ r) (Paired.mO t f)
theorem aX.dR(x:aX P w H h a o)(k:∀b u,(b=a\/H b=some (.own a))->h.get? b=some u->h'.get? b=some u)(D:∀b,H b=some (.own a)->H' b=some (.own a))(ht:∀b xs,H b=some (.aP xs)->H' b=some (.aP xs)):aX P w H' h' a o:=by
 induction o with
 |ag xs=>let⟨z,l,n,r,e⟩:=x;exact⟨z,l,n,r,k _ _ (.inl rfl) e⟩
 |aP xs=>let⟨z,l,r,g,e,c⟩:=x;exact⟨z,l,r,g,k _ _ (.inl rfl) e,c⟩
 |dK m=>let⟨z,y,vs,r,g,j,i,e,c⟩:=x;exact⟨z,y,vs,r,g,j,i,k _ _ (.inl rfl) e,c⟩
 |dT m=>
  let⟨z,y,xs,r,g,j,i,e,c⟩:=x;exact⟨z,y,xs,Paired.mO r λp q z=>⟨z.1,ht _ _ z.2.1,z.2.2⟩,g,j,i,k _ _ (.inl rfl) e,c⟩
 |set S n=>let⟨g,j,i,t,e,c⟩:=x;exact⟨g,j,i,t,k _ _ (.inl rfl) e,c⟩
 |ins C G fs=>
  let⟨d,z,ne,e,s,⟨od,j,i,B,c⟩,r⟩:=x;exact⟨D _ d,z,ne,k _ _ (.inl rfl) e,s,⟨od,j,i,k _ _ (.inr d) B,c⟩,r⟩
 |own y=>let⟨g,e⟩:=x;exact⟨g,k _ _ (.inl rfl) e⟩
 |xd fs=>let⟨s,⟨od,j,i,e,c⟩,r⟩:=x;exact⟨s,⟨od,j,i,k _ _ (.inl rfl) e,c⟩,r⟩
 |uv lo I=>let⟨t,u,v,e⟩:=x;exact⟨t,u,v,k _ _ (.inl rfl) e⟩
 |aA g u E=>let⟨e,q⟩:=x;exact⟨k _ _ (.inl rfl) e,E q⟩
 |lI A=>
  have e:h.get? a=some { cls:=.none,data:=.fields A }:=x;show h'.get? a=some { cls:=.none,data:=.fields A };exact k a _ (.inl rfl) e
 |met f y=>
  have e:h.get? a=some (W.methodObj (.ref f) (.ref y)):=x;show h'.get? a=some (W.methodObj (.ref f) (.ref y));exact k a _ (.inl rfl) e
 |ext J=>let⟨p,⟨o,e⟩,st⟩:=x;exact⟨st _ _ p λo q=>k _ _ (.inl rfl) q,⟨o,k _ _ (.inl rfl) e⟩,st⟩
theorem cR.lt(x:cR P w H h)(e:H a=some o):a<h.objs.size:=(x a o e).lt
theorem cR.fresh(x:cR P w H h)(e:h.objs.size<=a):H a=none:=by
 cases q:H a with
 |none=>rfl
 |some u=>exact absurd (lt_of_lt_of_le (x.lt q) e) (lt_irrefl _)
theorem cR.kept(x:cR P w H h)(k:∀b u,h.get? b=some u->h'.get? b=some u):cR P w H h':=λa o e=>
 (x a o e).dR (λb u _ q=>k b u q) (λ_ q=>q) λ_ _ q=>q
theorem cR.laid(x:cR P w H h)(k:∀b u,h.get? b=some u->h'.get? b=some u)(g:h.objs.size<=a)(d:aX P w (aN H a o) h' a o):cR P w (aN H a o) h':=λb u e=>by
 have hn:=x.fresh g;by_cases f:b=a
 .subst f;rw[cO] at e;cases e;exact d
 .rw[aW f] at e;exact (x b u e).dR (λc v _ q=>k c v q) (λc q=>by rw[aW (iz q hn)];exact q) λc i q=>by rw[aW (iz q hn)];exact q
end
def Rd(H:Hp)(a:ae)(u:HO):Prop:=H a=some u\/∃o,H a=some (.aA o u)
theorem Rd.of{H:Hp}(h:H a=some u):Rd H a u:=.inl h
theorem Rd.ok(r:Rd H a u)(x:cR P w H h):aX P w H h a u:=by
 rcases r with r |⟨o,r⟩
 .exact x a u r
 .obtain⟨_,q⟩:=x a _ r;exact q
def oK:Option HO->Prop
 |some (.ag _)=>True
 |some (.dK _)=>True
 |some (.dT _)=>True
 |some (.set _ _)=>True
 |some (.ins _ _ _)=>True
 |some (.ext _)=>True
 |_=>False
section
variable{P:Program}{w:World}{H:Hp}{h h':aO}{x e:ae}{o':HO}
theorem cR.write(ok:cR P w H h)(j:oK (H x))(o:e=x\/H e=some (.own x))(k:∀b u,b≠e->h.get? b=some u->h'.get? b=some u)(m:∃u,h'.get? e=some u)(n:aX P w (aN H x o') h' x o'):cR P w (aN H x o') h':=λb u q=>by
 have d:∀c y,H c=some (.own y)->c≠x:=λc y r z=>by subst z;rw[r] at j;exact j
 have f:∀c l,H c=some (.aP l)->c≠x:=λc l r z=>by subst z;rw[r] at j;exact j
 by_cases g:b=x
 .subst g;rw[cO] at q;cases q;exact n
 .rw[aW g] at q;by_cases a:b=e
  .have q':H b=some (.own x):=by
    rcases o with z |z
    .exact absurd (a.trans z) g
    .rw[a];exact z
   rw[q] at q';cases q';let⟨v,s⟩:=m;exact⟨v,by rw[a];exact s⟩
  .refine (ok b u q).dR (λc v i r=>k c v ?_ r) (λc r=>by rw[aW (d c b r)];exact r) λc l r=>by rw[aW (f c l r)];exact r
   rcases i with rfl |i
   .exact a
   .rintro rfl;rcases o with z |z
    .exact d c b i z
    .rw[i] at z;cases z;exact g rfl
end
structure Un(fs ex:cz)(H H':Hp)(h h':aO):Prop where
 keep:∀b o,h.get? b=some o->H b=none->b ∉ fs->b ∉ ex->h'.get? b=some o
 slot:∀b o,h.get? b=some o->H b=none->b∈fs->b ∉ ex->∃sl,h'.get? b=some { o with slots:=sl }
 free:∀b o,h.get? b=some o->H b=none->b ∉ ex->H' b=none
 there:∀b o,h.get? b=some o->b ∉ ex->∃o',h'.get? b=some o'
 dy:∀b xs,H b=some (.aP xs)->H' b=some (.aP xs)
 bz:∀b o u,H b=some (.aA o u)->H' b=some (.aA o u)
 dS:∀b ps,H b=some (.lI ps)->∃more,H' b=some (.lI (ps++more))
section
variable{fs fs' ex ex':cz}{H H1 H2:Hp}{h h1 h2 h':aO}{a x e:ae}{o:HO}
theorem Un.any(u:Un fs ex H H1 h h1){ob:Obj}(q:h.get? b=some ob)(n:H b=none)(f:b ∉ ex):∃g,h1.get? b=some { ob with slots:=g }:=by
 by_cases d:b∈fs
 .exact u.slot b ob q n d f
 .exact⟨ob.slots,u.keep b ob q n d f⟩
theorem Un.kept(k:∀b u,h.get? b=some u->h'.get? b=some u):Un fs ex H H h h':=
 ⟨λb d q _ _ _=>k b d q,λb d q _ _ _=>⟨d.slots,k b d q⟩,λ_ _ _ n _=>n,λb d q _=>⟨d,k b d q⟩,λ_ _ q=>q,λ_ _ _ q=>q,λ_ f q=>⟨#[],by rw[q];simp⟩⟩
theorem Un.refl:Un fs ex H H h h:=Un.kept λ_ _ q=>q
theorem Un.laid(k:∀b u,h.get? b=some u->h'.get? b=some u)(d:h.objs.size<=a)(hn:H a=none):Un fs ex H (aN H a o) h h' where
 keep:=λb u q _ _ _=>k b u q
 slot:=λb u q _ _ _=>⟨u.slots,k b u q⟩
 free:=λb u q n _=>by rw[aW (ne_of_lt (lt_of_lt_of_le (Heap.lt_size q) d))];exact n
 there:=λb u q _=>⟨u,k b u q⟩
 dy:=λb f q=>by rw[aW (iz q hn)];exact q
 bz:=λb u f q=>by rw[aW (iz q hn)];exact q
 dS:=λb g q=>⟨#[],by rw[aW (iz q hn),q];simp⟩
theorem Un.write(f:oK (H x))(l:e=x\/H e=some (.own x))(k:∀b u,b≠e->h.get? b=some u->h'.get? b=some u)(g:∃u,h'.get? e=some u):Un fs ex H (aN H x o) h h':=by
 have j:∀b,H b=none->b≠x:=λb n z=>by subst z;rw[n] at f;exact f
 have i:∀b,H b=none->b≠e:=λb n z=>by
  subst z;rcases l with r |r
  .exact j b n r
  .rw[n] at r;cases r
 have hm:∀b u,H b=some u->¬ oK (some u)->b≠x:=λb u q nm z=>by subst z;rw[q] at f;exact nm f
 refine⟨λb u q n _ _=>k b u (i b n) q,λb u q n _ _=>⟨u.slots,k b u (i b n) q⟩,λb u q n _=>by rw[aW (j b n)];exact n,λb u q _=>?_,
  λb m q=>by rw[aW (hm b _ q λz=>z)];exact q,λb u m q=>by rw[aW (hm b _ q λz=>z)];exact q,λb s q=>⟨#[],by rw[aW (hm b _ q λz=>z),q];simp⟩⟩
 by_cases d:b=e
 .subst d;exact g
 .exact⟨u,k b u d q⟩
end
def uz(h:aO)(H:Hp):cz:=(List.range h.objs.size).filter λa=>(H a).isSome
def kg(h:aO)(H:Hp):aO:=W.hideAll h (uz h H)
theorem Lc(h:aO)(H:Hp):(kg h H).objs.size=h.objs.size:=W.hideAll_size _ _
theorem Nb{H:Hp}(e:h.get? b=some o)(n:H b=none):(kg h H).get? b=some o:=
 W.hideAll_get _ e λhm=>by
  have q:(H b).isSome=true:=(mem_filter.mp hm).2;rw[n] at q;simp at q
theorem Pr{H:Hp}(e:(kg h H).get? b=some o):h.get? b=some o/\H b=none:=by
 have a:h.get? b=some o:=W.of_hideAll (uz h H) e;refine⟨a,?_⟩;cases q:H b with
 |none=>rfl
 |some x=>
  have hm:b∈uz h H:=mem_filter.mpr ⟨mem_range.mpr (Heap.lt_size a),by simp[q]⟩;have z:(kg h H).get? b=none:=W.hideAll_none (uz h H) hm;rw[z] at e;cases e
def Gm(g h:aO)(L:ae):aT:=(List.range h.objs.size).filterMap λa=>if a=L\/(g.get? a).isSome=true then none else (h.get? a).map λo=>(a,o)
def rest(g h:aO)(L d:ae):aT:=(Gm g h L).filter λp=>decide (p.1≠d)
structure Mod(K:aj)(mg:bc)(base:aO):Prop where
 kG:K.In base
 glob:base.Ns mainGlobals mg
 blt:∃mb,base.Ns builtinsNs mb/\∀x:Str,x≠"__name__"->mb x=bootBuiltins x
 nolimit:base.NoLimit
structure Cx where
 prog:Program
 w:World
 K:W.Frag
 mg:bc
 base:Heap
 A:Around
 N:ah
 s₀:Shared
 H₀:Hp
 env:Env
 outer:b5
 stack:b5
 ex:cz
 fn:Str->Bool
 calm:Bool
 pn:aT
 xe:ao->ak->Prop
abbrev jh(X:Cx)(x:Str):Prop:=X.fn x=true\/X.env.scope.names.lookup x=some .local
def cg(l:b5):cz:=l.filterMap (·.frame)
abbrev Cx.fs(X:Cx):cz:=cg X.outer
def lN(sc:Scope)(x:Str):Prop:=sc.names.lookup x=some .local\/sc.names.lookup x=some .cell\/sc.names.lookup x=some .free
def Loc(sc:Scope)(x:Str):Prop:=sc.names.lookup x=some .local\/sc.names.lookup x=some .cell
def AJ(env:Env)(h:aO)(m:bc)(x:Str)(u:ao):Prop:=
 (env.kindOf x=some .local/\m x=some u)\/((env.kindOf x=some .cell\/env.kindOf x=some .free)/\∃c,env.cells.lookup x=some c/\h.IsCell c (some u))
structure Cx.Ok(X:Cx):Prop where
 mod:Mod X.K X.mg X.base
 kind:X.env.scope.kind=.function
 glob:X.env.globals=mainGlobals
 blt:X.env.builtins=builtinsNs
 above:⇑X.s₀<=X.env.locals
 inj:∀x y c,X.env.cells.lookup x=some c->X.env.cells.lookup y=some c->x=y
 has:∀x,(X.env.kindOf x=some .cell\/X.env.kindOf x=some .free)->∃c,X.env.cells.lookup x=some c
 lz:∀x c,X.fn x=true->X.env.cells.lookup x=some c->⇑X.s₀<=c
 hd:X.calm=true->X.A.handled=none
 frames:X.A.frames=some X.stack
 mZ:X.stack=X.outer\/(X.stack=X.env::X.outer/\X.env.frame=some X.env.locals)
 mK:∀b∈X.ex,b≠X.env.locals/\∀x c,X.env.cells.lookup x=some c->c≠b
 bs:∀b o,X.base.get? b=some o->X.s₀.heap.get? b=some o/\X.H₀ b=none
 i7:X.base.objs.size<=⇑X.s₀
 gs:∀b o,X.base.get? b=some o->b ∉ X.ex
 gn:∀b∈X.ex,b ∉ X.fs
 du:X.s₀.heap.FunFrames X.base X.outer
 jS:∀b∈X.fs,X.H₀ b=none
structure av(X:Cx)(aa:aT)(j:List (Option V))(H:Hp)(s:ak):Prop where
 ok:X.Ok
 os:s.os=X.s₀.os
 bare:AllBare s.gens
 base:Un X.fs X.ex X.H₀ H X.s₀.heap s.heap
 loc:∃m,s.heap.Ns X.env.locals m/\∀(i:Nat)(x:Str)(v:V),X.N[i]?=some x->j[i]?=some (some v)->lN X.env.scope x->∃u,aC v u/\AJ X.env s.heap m x u
 cell:∀x c,X.env.cells.lookup x=some c->∃v,s.heap.IsCell c v
 free:H X.env.locals=none
 bN:∀x c,X.env.cells.lookup x=some c->H c=none
 pin:∀p∈X.pn++aa,s.heap.get? p.1=some p.2/\H p.1=none/\p.1≠X.env.locals/\p.1 ∉ X.fs/\∀v,p.2.data≠.cell v
 aM:cR X.prog X.w H s.heap
 len:j.length=X.N.length
section
variable{X:Cx}{aa:aT}{σ:List (Option V)}{H H':Hp}{s:ak}{h':aO}
theorem Cx.Ok.yd(ok:X.Ok)(e:X.base.get? b=some o):b ∉ X.fs:=λa=>by
 have:=(ok.du.mem a).1;rw[e] at this;cases this
theorem av.bs(I:av X aa σ H s):∀b o,X.base.get? b=some o->s.heap.get? b=some o/\H b=none:=λb o e=>
 ⟨I.base.keep b o (I.ok.bs b o e).1 (I.ok.bs b o e).2 (I.ok.yd e) (I.ok.gs b o e),I.base.free b o (I.ok.bs b o e).1 (I.ok.bs b o e).2 (I.ok.gs b o e)⟩
theorem av.bk(I:av X aa σ H s):∀b o,X.base.get? b=some o->s.heap.get? b=some o:=λb o e=>(I.bs b o e).1
theorem av.mod(I:av X aa σ H s):Mod X.K X.mg X.base:=I.ok.mod
theorem av.cG(I:av X aa σ H s):X.K.In s.heap:=I.ok.mod.kG.keeps I.bk
theorem av.lt(I:av X aa σ H s):X.env.locals<⇑s:=let ⟨_,hn,_⟩:=I.loc;hn.lt
theorem av.sz(I:av X aa σ H s):⇑X.s₀<=⇑s:=le_trans I.ok.above (Nat.le_of_lt I.lt)
theorem av.ye(I:av X aa σ H s)(h:⇑s<=a):a ∉ X.fs:=λb=>by
 let⟨_,o,d,_⟩:=I.ok.du.mem b;exact absurd (lt_of_lt_of_le (Heap.lt_size d) (le_trans I.sz h)) (lt_irrefl _)
theorem av.kA(I:av X aa σ H s):∀x c,X.env.cells.lookup x=some c->c≠X.env.locals:=λx c e z=>by
 ∎;let⟨v,o,d,hd⟩:=I.cell x c e;let⟨m,⟨h,g,f,b,a,_⟩,_⟩:=I.loc;∎;rw[z,b] at d;cases d;rw[a] at hd;cases hd
theorem av.du(I:av X aa σ H s):s.heap.FunFrames X.base X.outer:=by
 have all:∀(l:b5),(∀b∈cg l,b∈X.fs)->X.s₀.heap.FunFrames X.base l->s.heap.FunFrames X.base l:=by
  intro l
  induction l with
  |nil=>intro _ _;trivial
  |cons env r n=>
   intro g i;let⟨h,⟨L,o,f,hn,j,hd⟩,m⟩:=i;have a:L∈X.fs:=g L (by unfold cg;rw[filterMap_cons,f];exact List.mem_cons_self);let⟨q,e⟩:=I.base.slot L o j (I.ok.jS L a) a λz=>I.ok.gn L z a
   exact⟨h,⟨L,_,f,hn,e,hd⟩,n (λb d=>g b (by unfold cg;rw[filterMap_cons,f];exact mem_cons_of_mem _ d)) m⟩
 exact all X.outer (λ_ d=>d) I.ok.du
theorem av.stack(I:av X aa σ H s):s.heap.FunFrames X.base X.stack:=by
 rcases I.ok.mZ with e |⟨e,a⟩
 .rw[e];exact I.du
 .rw[e];let⟨m,hn,_⟩:=I.loc;refine .cons (by rw[I.ok.kind];decide) a hn ?_ I.du;exact Heap.get?_none_of_le (le_trans I.ok.i7 I.ok.above)
theorem av.eI(I:av X aa σ H s):∀b∈cg X.stack,b∈X.env.locals::X.fs:=λb a=>by
 rcases I.ok.mZ with e |⟨e,d⟩
 .rw[e] at a;exact mem_cons_of_mem _ a
 .rw[e] at a;unfold cg at a;rw[filterMap_cons,d] at a;exact a
theorem av.fN(I:av X aa σ H s):∀b∈cg X.stack,H b=none:=λb a=>by
 rcases mem_cons.mp (I.eI b a) with e |a
 .rw[e];exact I.free
 .obtain⟨_,o,ho,_⟩:=I.ok.du.mem a;exact I.base.free b o ho (I.ok.jS b a) λz=>I.ok.gn b z a
theorem av.step{g':Array GenState}{t':Nat}{d':Drawn}{ch:cz}(I:av X aa σ H s)(g:∀b∈ch,(b∈X.ex\/⇑X.s₀<=b)/\b≠X.env.locals/\(∀x c,X.env.cells.lookup x=some c->c≠b)/\∀p∈X.pn++aa,p.1≠b)(keep:∀b o,b≠X.env.locals->b ∉ X.fs->b ∉ ch->s.heap.get? b=some o->H b=none->h'.get? b=some o)(slot:∀b o,b≠X.env.locals->b∈X.fs->b ∉ ch->s.heap.get? b=some o->H b=none->∃E,h'.get? b=some { o with slots:=E })(free:∀b o,b ∉ ch->s.heap.get? b=some o->H b=none->H' b=none)(there:∀b o,b ∉ ch->s.heap.get? b=some o->∃o',h'.get? b=some o')(dy:∀b xs,H b=some (.aP xs)->H' b=some (.aP xs))(bz:∀b o u,H b=some (.aA o u)->H' b=some (.aA o u))(dS:∀b ps,H b=some (.lI ps)->∃C,H' b=some (.lI (ps++C)))(ns:∀m,s.heap.Ns X.env.locals m->h'.Ns X.env.locals m)(aM:cR X.prog X.w H' h')(N:AllBare g'):
  av X aa σ H' { s with heap:=h',gens:=g',drawn:=d',toks:=t' }:=by
 have D:∀b o,X.s₀.heap.get? b=some o->b≠X.env.locals:=λb o e=>ne_of_lt (lt_of_lt_of_le (Heap.lt_size e) I.ok.above)
 have y:∀b o,X.s₀.heap.get? b=some o->b ∉ X.ex->b ∉ ch:=λb o e a A=>by
  rcases (g b A).1 with z |z
  .exact a z
  .exact absurd (lt_of_lt_of_le (Heap.lt_size e) z) (lt_irrefl _)
 have f:∀x c,X.env.cells.lookup x=some c->∀v,s.heap.IsCell c v->h'.IsCell c v:=λx c e v ⟨o,ho,hd⟩=>by
  have h:c ∉ ch:=λz=>(g c z).2.2.1 x c e rfl
  by_cases J:c∈X.fs
  .obtain⟨E,q⟩:=slot c o (I.kA x c e) J h ho (I.bN x c e);exact⟨_,q,hd⟩
  .exact⟨o,keep c o (I.kA x c e) J h ho (I.bN x c e),hd⟩
 refine⟨I.ok,I.os,N,⟨λb o e n A a=>?_,λb o e n A a=>?_,λb o e n a=>?_,λb o e a=>?_,λb xs e=>dy b xs (I.base.dy b xs e),λb o xs e=>bz b o xs (I.base.bz b o xs e),λb ps e=>?_⟩,?_,λx c e=>?_,?_,λx c e=>?_,λp L=>?_,aM,I.len⟩
 .exact keep b o (D b o e) A (y b o e a) (I.base.keep b o e n A a) (I.base.free b o e n a)
 .obtain⟨E,j⟩:=I.base.slot b o e n A a;let⟨G,B⟩:=slot b _ (D b o e) A (y b o e a) j (I.base.free b o e n a);exact⟨G,B⟩
 .obtain⟨o',j⟩:=I.base.there b o e a;exact free b o' (y b o e a) j (I.base.free b o e n a)
 .obtain⟨o',j⟩:=I.base.there b o e a;exact there b o' (y b o e a) j
 .obtain⟨m1,j⟩:=I.base.dS b ps e;let⟨O,B⟩:=dS b _ j;exact⟨m1++O,by rw[B,Array.append_assoc]⟩
 .obtain⟨m,hn,hl⟩:=I.loc;refine⟨m,ns m hn,λi x v j B M=>?_⟩;let⟨u,r,l⟩:=hl i x v j B M;refine⟨u,r,?_⟩;rcases l with l |⟨k,c,e,z⟩
  .exact .inl l
  .exact .inr ⟨k,c,e,f x c e _ z⟩
 .obtain⟨v,z⟩:=I.cell x c e;exact⟨v,f x c e v z⟩
 .obtain⟨m,⟨o,_,_,ho,_⟩,_⟩:=I.loc;exact free _ o (λz=>(g _ z).2.1 rfl) ho I.free
 .obtain⟨v,o,ho,hd⟩:=I.cell x c e;exact free c o (λz=>(g c z).2.2.1 x c e rfl) ho (I.bN x c e)
 .obtain⟨e,n,ne,nf,d⟩:=I.pin p L;have h:p.1 ∉ ch:=λz=>(g p.1 z).2.2.2 p L rfl
  exact⟨keep p.1 p.2 ne nf h e n,free p.1 p.2 h e n,ne,nf,d⟩
theorem av.un{t':Nat}(I:av X aa σ H s)(u:Un X.fs [] H H' s.heap h')(aM:cR X.prog X.w H' h'):av X aa σ H' { s with heap:=h',toks:=t' }:=by
 ∎;let⟨m,⟨o,q,l,h,r⟩,_⟩:=id I.loc;let⟨y,i⟩:=u.any h I.free (by simp);∎;exact I.step (g':=s.gens) (d':=s.drawn) (ch:=[]) (λ_ z=>nomatch z) (λb o _ g _ e n=>u.keep b o e n g (by simp)) (λb o _ g _ e n=>u.slot b o e n g (by simp)) (λb o _ e n=>u.free b o e n (by simp)) (λb o _ e=>u.there b o e (by simp)) u.dy u.bz u.dS (λv hm=>by
  let⟨x,f,d,a,j⟩:=hm;rw[h] at a;cases a;exact⟨_,f,d,i,j⟩) aM I.bare
theorem av.call{g':Array GenState}{t':Nat}{d':Drawn}{ch:cz}(I:av X aa σ H s)(u:Un (cg X.stack) ch H H' s.heap h')(aM:cR X.prog X.w H' h')(q:AllBare g')(d:∀b∈ch,(b∈X.ex\/⇑X.s₀<=b)/\b≠X.env.locals/\(∀x c,X.env.cells.lookup x=some c->c≠b)/\∀p∈X.pn++aa,p.1≠b):
  av X aa σ H' { s with heap:=h',gens:=g',drawn:=d',toks:=t' }:=by
 let⟨m,⟨o,A,y,j,r⟩,_⟩:=id I.loc;let⟨D,i⟩:=u.any j I.free λz=>(d _ z).2.1 rfl
 exact I.step (ch:=ch) d (λb o i l a e n=>u.keep b o e n (λz=>(mem_cons.mp (I.eI b z)).elim i l) a) (λb o _ _ a e n=>u.any e n a) (λb o a e n=>u.free b o e n a) (λb o a e=>u.there b o e a) u.dy u.bz u.dS (λB hm=>by
  let⟨C,h,g,f,v⟩:=hm;rw[j] at f;cases f;exact⟨_,h,g,i,v⟩) aM q
theorem av.turned{t':Nat}{it:ae}(I:av X aa σ H s)(k:∀b o,b≠it->s.heap.get? b=some o->h'.get? b=some o)(hn:H it=none)(f:it≠X.env.locals)(g:it∈X.ex\/⇑X.s₀<=it)(h:∀x c,X.env.cells.lookup x=some c->c≠it)(i:∀p∈X.pn++aa,p.1≠it):av X aa σ H { s with heap:=h',toks:=t' }:=by
 have d:∀b u,H b=some u->b≠it:=λb u e z=>by rw[z,hn] at e;cases e
 refine I.step (g':=s.gens) (d':=s.drawn) (ch:=[it]) (λb j=>?_) (λb o _ _ a e _=>k b o (λz=>a (by simp[z])) e) (λb o _ _ a e _=>⟨o.slots,k b o (λz=>a (by simp[z])) e⟩) (λ_ _ _ _ n=>n)
  (λb o a e=>⟨o,k b o (λz=>a (by simp[z])) e⟩) (λ_ _ e=>e) (λ_ _ _ e=>e) (λb l e=>⟨#[],by rw[e];simp⟩) (λm hm=>?_) (λb u e=>?_) I.bare
 .have e:b=it:=by simpa using j
  subst e;exact⟨g,f,h,i⟩
 .obtain⟨o,es,ep,ho,r⟩:=hm;exact⟨o,es,ep,k _ o (Ne.symm f) ho,r⟩
 .refine (I.aM b u e).dR (λc v a q=>k c v ?_ q) (λ_ q=>q) λ_ _ q=>q
  rcases a with z |z
  .rw[z];exact d b u e
  .exact d c _ z
theorem av.tok(I:av X aa σ H s)(t:Nat):av X aa σ H { s with toks:=t }:=I.un (h':=s.heap) (t':=t) Un.refl I.aM
theorem av.kept(I:av X aa σ H s)(k:∀b u,s.heap.get? b=some u->h'.get? b=some u):av X aa σ H { s with heap:=h',toks:=t' }:=I.un (Un.kept k) (I.aM.kept k)
theorem av.laid(I:av X aa σ H s)(k:∀b u,s.heap.get? b=some u->h'.get? b=some u)(d:⇑s<=a)(e:aX X.prog X.w (aN H a o) h' a o):
  av X aa σ (aN H a o) { s with heap:=h',toks:=t' }:=I.un (Un.laid k d (I.aM.fresh d)) (I.aM.laid k d e)
theorem av.write(I:av X aa σ H s)(g:oK (H x))(f:e=x\/H e=some (.own x))(k:∀b u,b≠e->s.heap.get? b=some u->h'.get? b=some u)(a:∃u,h'.get? e=some u)(d:aX X.prog X.w (aN H x o) h' x o):av X aa σ (aN H x o) { s with heap:=h',toks:=t' }:=I.un (Un.write g f k a) (I.aM.write g f k a d)
theorem av.weak(I:av X aa σ H s)(e:σ'.length=σ.length)(w:∀(i:Nat) v,σ'[i]?=some (some v)->σ[i]?=some (some v)):av X aa σ' H s:=
 ⟨I.ok,I.os,I.bare,I.base,let ⟨m,hn,hl'⟩:=I.loc;⟨m,hn,λi x v a b d=>hl' i x v a (w i v b) d⟩,I.cell,I.free,I.bN,I.pin,I.aM,e.trans I.len⟩
theorem av.eA(I:av X aa σ H s)(h:∀p∈a,s.heap.get? p.1=some p.2/\H p.1=none/\p.1≠X.env.locals/\p.1 ∉ X.fs/\∀v,p.2.data≠.cell v):av X a σ H s:=
 ⟨I.ok,I.os,I.bare,I.base,I.loc,I.cell,I.free,I.bN,λp b=>(mem_append.mp b).elim (λz=>I.pin p (List.mem_append_left _ z)) (h p),I.aM,I.len⟩
theorem wb{N:ah}(f:N.Nodup){i j:Nat}{x:Str}(a:N[i]?=some x)(b:N[j]?=some x):i=j:=by
 let⟨g,d⟩:=List.getElem?_eq_some_iff.mp a;let⟨h,e⟩:=List.getElem?_eq_some_iff.mp b;exact (List.getElem_inj f).mp (d.trans e.symm)
theorem BX{M:Model}{A:Around}{E:ao->ak->Prop}{i:Nat}{x:Str}{v:V}{u:ao}{Q:Unit->ak->Prop}(I:av X aa σ H s)(hN:X.N.Nodup)(hi:X.N[i]?=some x)(C:Loc X.env.scope x)(r:aC v u)(h:∀s',av X aa (σ.set i (some v)) H s'->(∃a,Heap.SameBut a s.heap s'.heap/\(a=X.env.locals\/X.env.cells.lookup x=some a))->Q () s')(hf:jh X x:=by first |exact .inl rfl |exact .inr rfl |assumption):wpAny M A (storeName X.env x u) Q E s:=by
 let⟨m,hn,hl⟩:=id I.loc;have Y:(X.env.scope.kind == .class || (X.env.scope.kind == .module&&X.env.locals != X.env.globals))=false:=by rw[I.ok.kind];rfl
 have J:i<σ.length:=by rw[I.len];exact (List.getElem?_eq_some_iff.mp hi).1
 have kA:=I.kA;have l:∀{a:ae}{h':aO},(∃o,s.heap.get? a=some o/\H a=none)->Heap.SameBut a s.heap h'->cR X.prog X.w H h':=λ{a h'} ha f b ob e=>by
  let⟨_,_,D⟩:=ha;refine (I.aM b ob e).dR (λc w' B q=>(f.2 c ?_).trans q) (λ_ q=>q) λ_ _ q=>q
  rintro rfl;rcases B with rfl |B
  .rw[D] at e;cases e
  .rw[D] at B;cases B
 rcases C with L |L
 .refine wpAny_storeName_local L hn (λh' γ f=>?_) Y;let⟨oL,_,_,δ,_⟩:=id hn;refine h _ ⟨I.ok,I.os,I.bare,⟨λb o e n O C=>?_,λb o e n O C=>?_,I.base.free,λb o e C=>?_,I.base.dy,I.base.bz,I.base.dS⟩,⟨_,γ,λj y v' g G e3=>?_⟩,λy c e=>?_,I.free,I.bN,λp hp=>?_,l ⟨oL,δ,I.free⟩ f,by simpa using I.len⟩ ⟨_,f,.inl rfl⟩
  .exact (f.2 b (ne_of_lt (lt_of_lt_of_le (Heap.lt_size e) I.ok.above))).trans (I.base.keep b o e n O C)
  .obtain⟨sl,g⟩:=I.base.slot b o e n O C;exact⟨sl,(f.2 b (ne_of_lt (lt_of_lt_of_le (Heap.lt_size e) I.ok.above))).trans g⟩
  .obtain⟨o',g⟩:=I.base.there b o e C;exact⟨o',(f.2 b (ne_of_lt (lt_of_lt_of_le (Heap.lt_size e) I.ok.above))).trans g⟩
  .by_cases hj:j=i
   .subst hj;rw[hi] at g;cases g;rw[getElem?_set_self J] at G;cases G;exact⟨u,r,.inl ⟨L,by simp⟩⟩
   .rw[getElem?_set_ne (Ne.symm hj)] at G;let⟨u',r',q⟩:=hl j y v' g G e3;refine⟨u',r',?_⟩;rcases q with⟨k,e⟩ |⟨k,c,e,z⟩
    .refine .inl ⟨k,?_⟩;have:y≠x:=λe=>hj (wb hN g (e ▸ hi))
     simp[this,e]
    .exact .inr ⟨k,c,e,z.sameBut f (kA y c e)⟩
  .obtain⟨w',z⟩:=I.cell y c e;exact⟨w',z.sameBut f (kA y c e)⟩
  .obtain⟨e,n,ne,nf,d⟩:=I.pin p hp;exact⟨(f.2 p.1 ne).trans e,n,ne,nf,d⟩
 .have hfn:X.fn x=true:=by
   rcases hf with z |z
   .exact z
   .rw[z] at L;cases L
  let⟨c,B⟩:=I.ok.has x (.inl L);let⟨w',z⟩:=I.cell x c B;refine wpAny_storeName_cell I.ok.kind L B z (λh' U f=>?_);let⟨oc,α,β⟩:=id z;refine h { s with heap:=h' } ⟨I.ok,I.os,I.bare,⟨λb o e n O C=>?_,λb o e n O C=>?_,I.base.free,λb o e C=>?_,I.base.dy,I.base.bz,I.base.dS⟩,⟨m,hn.sameBut f (Ne.symm (kA x c B)),λj y v' g G e3=>?_⟩,λy c' e=>?_,I.free,I.bN,λp hp=>?_,l ⟨oc,α,I.bN x c B⟩ f,by simpa using I.len⟩ ⟨c,f,.inr B⟩
  .exact (f.2 b (ne_of_lt (lt_of_lt_of_le (Heap.lt_size e) (I.ok.lz x c hfn B)))).trans (I.base.keep b o e n O C)
  .obtain⟨sl,g⟩:=I.base.slot b o e n O C;exact⟨sl,(f.2 b (ne_of_lt (lt_of_lt_of_le (Heap.lt_size e) (I.ok.lz x c hfn B)))).trans g⟩
  .obtain⟨o',g⟩:=I.base.there b o e C;exact⟨o',(f.2 b (ne_of_lt (lt_of_lt_of_le (Heap.lt_size e) (I.ok.lz x c hfn B)))).trans g⟩
  .by_cases hj:j=i
   .subst hj;rw[hi] at g;cases g;rw[getElem?_set_self J] at G;cases G;exact⟨u,r,.inr ⟨.inl L,c,B,U⟩⟩
   .rw[getElem?_set_ne (Ne.symm hj)] at G;let⟨u',r',q⟩:=hl j y v' g G e3;refine⟨u',r',?_⟩;rcases q with q |⟨k,c',e,z'⟩
    .exact .inl q
    .refine .inr ⟨k,c',e,z'.sameBut f ?_⟩;rintro rfl;exact hj (wb hN g (I.ok.inj _ _ _ e B ▸ hi))
  .by_cases hcc:c'=c
   .subst hcc;exact⟨_,U⟩
   .obtain⟨w2,z2⟩:=I.cell y c' e;exact⟨w2,z2.sameBut f hcc⟩
  .obtain⟨e,n,ne,nf,d⟩:=I.pin p hp;refine⟨(f.2 p.1 ?_).trans e,n,ne,nf,d⟩;intro q;rw[q,α] at e;have q':oc=p.2:=Option.some.inj e;exact d w' (by rw[<- q'];exact β)
theorem pX{Q:Unit->ak->Prop}(I:av X aa σ H s)(b:X.N.Nodup)(e:X.N[i]?=some x)(f:Loc X.env.scope x)(r:aC v u)(h:∀s',av X aa (σ.set i (some v)) H s'->Q () s')(d:jh X x:=by first |exact .inl rfl |exact .inr rfl |assumption):wpAny M A (storeName X.env x u) Q E s:=
 BX I b e f r (λs' a _=>h s' a) d
theorem av.dH(I:av X aa σ H s)(f:s'.os=s.os)(u:Un (cg X.stack) ch H H' s.heap s'.heap)(aM:cR X.prog X.w H' s'.heap)(d:AllBare s'.gens)(a:∀b∈ch,(b∈X.ex\/⇑X.s₀<=b)/\b≠X.env.locals/\(∀x c,X.env.cells.lookup x=some c->c≠b)/\∀p∈X.pn++aa,p.1≠b):av X aa σ H' s':=by
 let⟨h',g',d',t',g⟩:=s';have e:g=s.os:=f;subst e;exact I.call (g':=g') (t':=t') (d':=d') u aM d a
end
abbrev XK:=Value->bT->Hp->Prop
abbrev St:=List (Option V)
abbrev VK:=V->Hp->Prop
abbrev TE:=St->Hp->VK->Prop
abbrev TT:=St->Hp->(Bool->Hp->Prop)->Prop
abbrev TA:=St->Hp->(ax->Hp->Prop)->Prop
structure Ends where
 nx:St->Hp->Prop
 rt:VK
 bk:St->Hp->Prop:=λ_ _=>False
 ct:St->Hp->Prop:=λ_ _=>False
abbrev TS:=Ends->St->Hp->Prop
def EP(X:Cx)(aa:aT)(j:St)(Q:VK)(u:ao)(s':ak):Prop:=∃v a,av X aa j a s'/\aC v u/\Q v a
def TP(X:Cx)(aa:aT)(j:St)(Q:Bool->Hp->Prop)(b:Bool)(s':ak):Prop:=∃a,av X aa j a s'/\Q b a
def AP(X:Cx)(aa:aT)(j:St)(Q:ax->Hp->Prop)(us:aL)(s':ak):Prop:=∃vs a,av X aa j a s'/\aH vs us/\Q vs a
def SP(X:Cx)(aa:aT)(D:Ends)(f:Flow)(s':ak):Prop:=
 match f with
 |.next=>∃b a,av X aa b a s' /\ D.nx b a
 |.brk=>∃b a,av X aa b a s' /\ D.bk b a
 |.cont=>∃b a,av X aa b a s' /\ D.ct b a
 |.ret u=>∃v b a,av X aa b a s' /\ aC v u /\ D.rt v a
def PE(X:Cx)(e:Expr)(t:TE):Prop:=
 ∀(aa:aT)(s:ak)(j:St)(H:Hp)(Q:VK),av X aa j H s->t j H Q->wpAny (model X.prog X.w) X.A (eval e X.env) (EP X aa j Q) X.xe s
def PT(X:Cx)(e:Expr)(t:TT):Prop:=
 ∀(aa:aT)(s:ak)(j:St)(H:Hp)(Q:Bool->Hp->Prop),av X aa j H s->t j H Q->wpAny (model X.prog X.w) X.A (isTrue e X.env (eval e X.env)) (TP X aa j Q) X.xe s
def PW(X:Cx)(e:Expr)(t:TT):Prop:=
 ∀(whole:Sem Value)(aa:aT)(s:ak)(j:St)(H:Hp)(Q:Bool->Hp->Prop),av X aa j H s->t j H Q->wpAny (model X.prog X.w) X.A (isTrue e X.env whole) (TP X aa j Q) X.xe s
theorem PW.pt(h:PW X e t):PT X e t:=h _
def PA(X:Cx)(a:bL)(t:TA):Prop:=
 ∀(pos:Pos)(aa:aT)(s:ak)(j:St)(H:Hp)(Q:ax->Hp->Prop),av X aa j H s->t j H Q->wpAny (model X.prog X.w) X.A (spliced (backTo pos (starEach a X.env))) (AP X aa j Q) X.xe s
def PS(X:Cx)(st:Stmt)(t:TS):Prop:=
 ∀(aa:aT)(s:ak)(j:St)(H:Hp)(D:Ends),av X aa j H s->t D j H->wpAny (model X.prog X.w) X.A (exec st X.env) (SP X aa D) X.xe s
def eL(X:Cx)(st:List Stmt)(t:TS):Prop:=
 ∀(aa:aT)(s:ak)(j:St)(H:Hp)(D:Ends),av X aa j H s->t D j H->wpAny (model X.prog X.w) X.A (execs st X.env) (SP X aa D) X.xe s
theorem bq{Q b:j->ak->Prop}(h:wpAny M A t Q E s)(d:∀a s,Q a s->b a s):wpAny M A t b E s:=wpAny_mono h d λ_ _ x=>x
section
variable{X:Cx}
def fS(i:Nat):TE:=λj H Q=>∃v,j[i]?=some (some v)/\Q v H
def tC(v:V):TE:=λ_ H Q=>Q v H
theorem tT(n:X.N[i]?=some x)(q:lN X.env.scope x)(hd: ~~~(da x))(f: ~~~((x == ("__classdict__":Str))=false)):PE X (.Name x pos) (fS i):=by
 intro aa s j H Q I h;∎;let⟨v,e,h⟩:=h;let⟨m,hn,o⟩:=I.loc;let⟨u,r,l⟩:=o i x v n e q;∎;have b:EP X aa j Q u s:=⟨v,H,I,r,h⟩;rcases l with⟨d,hm⟩ |⟨d,c,g,a⟩
 .exact wpAny_Name (wpAny_loadName_local I.ok.kind d hn hm b) hd
 .rcases d with d |d
  .exact wpAny_Name (wpAny_loadName_cell I.ok.kind d g a b) hd
  .exact wpAny_Name (wpAny_loadName_free I.ok.kind d g a b f) hd
theorem RP{i j pos}:PE X (.Constant (.int i) j pos) (tC (.int i)):=λ_ _ _ H _ I h=>wpAny_Constant_int ⟨.int i,H,I.tok _,⟨_,rfl⟩,h⟩
theorem Ti{b j pos}:PE X (.Constant (.bool b) j pos) (tC (.bl b)):=λ_ _ _ H _ I h=>Constant_bool ⟨.bl b,H,I,rfl,h⟩
theorem RQ{j pos}:PE X (.Constant .none j pos) (tC .aE):=λ_ _ _ H _ I h=>Constant_none ⟨.aE,H,I,rfl,h⟩
theorem Ea{x j pos}:PE X (.Constant (.str x) j pos) (tC (.str x)):=λ_ _ _ H _ I h=>Calls.Constant_str ⟨.str x,H,I.tok _,⟨_,rfl⟩,h⟩
def Gl(X:Cx)(x:Str):Prop:=X.env.kindOf x=some .globalImplicit
theorem k4{Q:ao->ak->Prop}(I:av X aa j H s)(a:Gl X x)(hm:X.mg x=some u)(h:Q u s)(hd: ~~~(da x)):wpAny (model X.prog X.w) X.A (eval (.Name x pos) X.env) Q E s:=
 Calls.Name_function_global I.ok.kind a (Calls.loadGlobal_global (by rw[I.ok.glob];exact I.mod.glob.keeps I.bk) hm h) hd
theorem mf{Q:ao->ak->Prop}(I:av X aa j H s)(d:Gl X x)(hm:X.mg x=none)(e:bootBuiltins x=some u)(h:Q u s)(hn: ~~~(x≠"__name__"))(hd: ~~~(da x)):wpAny (model X.prog X.w) X.A (eval (.Name x pos) X.env) Q E s:=by
 let⟨f,a,b⟩:=I.mod.blt;exact Calls.Name_function_global I.ok.kind d (Calls.loadGlobal_builtin (by rw[I.ok.glob];exact I.mod.glob.keeps I.bk) hm (by rw[I.ok.blt];exact a.keeps I.bk) ((b x hn).trans e) h) hd
theorem Pt(a:Gl X x)(hm:X.mg x=some u)(r:aC v u)(hd: ~~~(da x)):PE X (.Name x pos) (tC v):=
 λ_ _ _ H _ I h=>k4 I a hm ⟨v,H,I,r,h⟩ hd
theorem Pw(a:Gl X x)(hm:X.mg x=none)(b:bootBuiltins x=some u)(r:aC v u)(hn: ~~~(x≠"__name__"))(hd: ~~~(da x)):PE X (.Name x pos) (tC v):=
 λ_ _ _ H _ I h=>mf I a hm b ⟨v,H,I,r,h⟩ hn hd
variable{a b:Expr}{ta tb:TE}{pos:Pos}
def tB(t:TE):TT:=λj H Q=>t j H λx H1=>∃c,x=.bl c/\Q c H1
theorem RS(h:PE X e t)(l:∀whole,isTrue e X.env whole=(do let v <- whole;standAt e.pos;holding [v] (truthy v)):=by intro _;rfl):PT X e (tB t):=by
 intro aa s j H Q I m;refine isTrue_plain (bq (h aa s j H _ I m) λv r f=>?_) (l _);∎;let⟨x,g,i,o,n⟩:=f;let⟨d,rfl,q⟩:=n;∎;cases o;exact wpAny_truthy_bool ⟨g,i,q⟩
variable{tA tB':TT}{rest:bL}
def AK(t u:TT):TT:=λj H Q=>t j H λc d=>if c=true then u j d Q else Q false d
def Fg(t u:TT):TT:=λj H Q=>t j H λc d=>if c=true then Q true d else u j d Q
def AL(t:TT):TT:=λj H Q=>t j H λc H1=>Q (!c) H1
theorem Px(d:PT X a tA):PW X (.BoolOp .And [a] pos) tA:=by
 intro g aa s j H Q I h;refine isTrue_and (bq (d aa s j H Q I h) λc f e=>?_);cases c with
 |true=>exact isTrue_and_nil e
 |false=>exact e
theorem RT(d:PT X a tA):PW X (.BoolOp .Or [a] pos) tA:=by
 intro g aa s j H Q I h;refine isTrue_or (bq (d aa s j H Q I h) λc f e=>?_);cases c with
 |false=>exact isTrue_or_nil e
 |true=>exact e
theorem RU(i:PT X a tA)(l:PW X (.BoolOp .And (b::rest) pos) tB'):PW X (.BoolOp .And (a::b::rest) pos) (AK tA tB'):=by
 intro n aa s j H Q I h;refine isTrue_and (bq (i aa s j H _ I h) λc m d=>?_);let⟨e,f,g⟩:=d;cases c with
 |true=>exact l n aa m j e Q f g
 |false=>exact⟨e,f,g⟩
theorem Tj(i:PT X a tA)(l:PW X (.BoolOp .Or (b::rest) pos) tB'):PW X (.BoolOp .Or (a::b::rest) pos) (Fg tA tB'):=by
 intro n aa s j H Q I h;refine isTrue_or (bq (i aa s j H _ I h) λc m d=>?_);let⟨e,f,g⟩:=d;cases c with
 |true=>exact⟨e,f,g⟩
 |false=>exact l n aa m j e Q f g
theorem RV(e:PT X a tA):PT X (.UnaryOp .Not a pos) (AL tA):=by
 intro aa s j H Q I h;exact isTrue_not (e aa s j H (λc d=>Q (!c) d) I h)
def z0(ta tb:TE):TE:=λj H Q=>ta j H λx d=>∃c,x=.bl c/\if c=true then tb j d Q else Q (.bl false) d
def AW(ta tb:TE):TE:=λj H Q=>ta j H λx d=>∃c,x=.bl c/\if c=true then Q (.bl true) d else tb j d Q
def Aq(ta:TE):TE:=λj H Q=>ta j H λx d=>∃c,x=.bl c/\Q (.bl (!c)) d
theorem RW{op}(h:PE X a t):PE X (.BoolOp op [a] pos) t:=λaa s j H Q I d=>BoolOp_one (h aa s j H Q I d)
theorem RX(i:PE X a ta)(l:PE X (.BoolOp .And (b::rest) pos) tb):PE X (.BoolOp .And (a::b::rest) pos) (z0 ta tb):=by
 intro aa s j H Q I h;refine BoolOp_and (bq (i aa s j H _ I h) λv n e=>?_);∎;let⟨x,f,g,m,d⟩:=e;let⟨c,rfl,d⟩:=d;∎;cases m;refine wpAny_truthy_bool ?_;cases c with
 |true=>exact l aa n j f Q g d
 |false=>exact⟨.bl false,f,g,rfl,d⟩
theorem Tn(i:PE X a ta)(l:PE X (.BoolOp .Or (b::rest) pos) tb):PE X (.BoolOp .Or (a::b::rest) pos) (AW ta tb):=by
 intro aa s j H Q I h;refine BoolOp_or (bq (i aa s j H _ I h) λv n e=>?_);∎;let⟨x,f,g,m,d⟩:=e;let⟨c,rfl,d⟩:=d;∎;cases m;refine wpAny_truthy_bool ?_;cases c with
 |false=>exact l aa n j f Q g d
 |true=>exact⟨.bl true,f,g,rfl,d⟩
theorem RY(i:PE X a ta):PE X (.UnaryOp .Not a pos) (Aq ta):=by
 intro aa s j H Q I h;refine UnaryOp_ (bq (i aa s j H _ I h) λv m e=>?_);∎;let⟨x,f,g,l,d⟩:=e;let⟨c,rfl,d⟩:=d;∎;cases l;exact not_of (wpAny_truthy_bool ⟨.bl (!c),f,g,rfl,d⟩)
def Ff(t:TT)(ta tb:TE):TE:=λj H Q=>t j H λc d=>if c=true then ta j d Q else tb j d Q
theorem Nc(o:PT X c tA)(m:PE X a ta)(n:PE X b tb):PE X (.IfExp c a b pos) (Ff tA ta tb):=by
 intro aa s j H Q I h;refine wpAny_IfExp (bq (o aa s j H _ I h) λd l e=>?_);let⟨f,g,i⟩:=e;cases d with
 |true=>exact m aa l j f Q g i
 |false=>exact n aa l j f Q g i
end
def bG(K:aj)(H:Hp)(a:ae)(xs:ax):Prop:=
 Rd H a (.ag xs)\/
  ∃(o:Obj)(b:d3)(n:Nat),K.lookup a=some o/\o.cls=.type "list"/\o.dict=none/\o.data=.seq b n/\b.size<=sizeLine/\aH xs b.toList
def c8(K:aj)(H:Hp)(a:ae)(xs:ax):Prop:=
 Rd H a (.aP xs)\/
  ∃(o:Obj)(b:d3)(n:Nat),K.lookup a=some o/\o.cls=.type "tuple"/\o.data=.seq b n/\b.size<=sizeLine/\aH xs b.toList
def He:ao->Option V
 |.none=>some .aE
 |.bool b=>some (.bl b)
 |.int i _=>some (.int i)
 |.str x _=>some (.str x)
 |.bytes b _=>some (.fW b)
 |.float b _=>some (.kE b)
 |.ref a=>some (.ref a)
 |.type n=>some (.ty n)
 |_=>none
theorem aC.abs(r:aC x u):He u=some x:=by
 cases x with
 |aE=>cases r;rfl
 |bl _=>cases r;rfl
 |int _=>let⟨t,rfl⟩:=r;rfl
 |str _=>let⟨t,rfl⟩:=r;rfl
 |fW _=>let⟨t,rfl⟩:=r;rfl
 |kE _=>let⟨t,rfl⟩:=r;rfl
 |ref _=>cases r;rfl
 |ty _=>cases r;rfl
theorem aC.inj(r:aC x u)(q:aC y u):x=y:=Option.some.inj (r.abs.symm.trans q.abs)
theorem aH.inj:∀{xs ys:ax}{us:aL},aH xs us->aH ys us->xs=ys
 |_,_,_,.nil,.nil=>rfl
 |_,_,_,.cons r t,.cons r' t'=>by rw[r.inj r',aH.inj t t']
section
variable{X:Cx}{aa:aT}{σ:St}{H:Hp}{s:ak}{a:ae}{xs ys:ax}
theorem bG.of{K:aj}(h:H a=some (.ag xs)):bG K H a xs:=.inl (.inl h)
theorem c8.of{K:aj}(h:H a=some (.aP xs)):c8 K H a xs:=.inl (.inl h)
theorem av.list(I:av X aa σ H s)(h:bG X.K H a xs):∃b:aL,aH xs b/\PlainL s.heap a b.toArray/\xs.length<=sizeLine:=by
 rcases h with h |⟨o,b,n,f,d,hd,g,i,r⟩
 .obtain⟨z,b,n,r,e⟩:=h.ok I.aM;exact⟨b,r,⟨_,n,e,rfl,rfl,rfl⟩,z⟩
 .refine⟨b.toList,r,⟨o,n,I.cG a o f,d,hd,by simpa using g⟩,?_⟩;have e:=r.length;simp only[Array.length_toList] at e;omega
theorem av.tuple(I:av X aa σ H s)(h:c8 X.K H a xs):∃b:aL,aH xs b/\IsTup s.heap a b.toArray/\xs.length<=sizeLine:=by
 rcases h with h |⟨o,b,n,f,d,g,i,r⟩
 .obtain⟨z,b,r,p⟩:=h.ok I.aM;exact⟨b,r,p,z⟩
 .refine⟨b.toList,r,⟨o,I.cG a o f,d,n,by simpa using g⟩,?_⟩;have e:=r.length;simp only[Array.length_toList] at e;omega
theorem av.dO(I:av X aa σ H s)(h:bG X.K H a xs)(h':bG X.K H a ys):xs=ys:=by
 ∎;let⟨f,r,⟨o,n,e,_,_,d⟩,_⟩:=I.list h;let⟨b,j,⟨m,l,i,_,_,g⟩,_⟩:=I.list h';∎;rw[e] at i;cases i;rw[d] at g;injection g with d1 _
 have:f=b:=by simpa using congrArg Array.toList d1
 subst this;exact r.inj j
end
abbrev Cx.fk(X:Cx)(E:ao->ak->Prop):Cx:={ X with xe:=E }
abbrev Cx.oC(X:Cx):Cx:=X.fk λ_ _=>False
theorem Cx.Ok.fk{X:Cx}(ok:X.Ok)(E:ao->ak->Prop):(X.fk E).Ok:=
 ⟨ok.mod,ok.kind,ok.glob,ok.blt,ok.above,ok.inj,ok.has,ok.lz,ok.hd,ok.frames,ok.mZ,ok.mK,ok.bs,ok.i7,ok.gs,ok.gn,ok.du,ok.jS⟩
theorem Cx.Ok.c6{X:Cx}{E:ao->ak->Prop}(ok:(X.fk E).Ok):X.Ok:=
 ⟨ok.mod,ok.kind,ok.glob,ok.blt,ok.above,ok.inj,ok.has,ok.lz,ok.hd,ok.frames,ok.mZ,ok.mK,ok.bs,ok.i7,ok.gs,ok.gn,ok.du,ok.jS⟩
section
variable{X:Cx}{aa:aT}{σ:St}{H:Hp}{s:ak}{E:ao->ak->Prop}
theorem av.fk(I:av X aa σ H s)(E:ao->ak->Prop):av (X.fk E) aa σ H s:=⟨I.ok.fk E,I.os,I.bare,I.base,I.loc,I.cell,I.free,I.bN,I.pin,I.aM,I.len⟩
theorem av.c6(I:av (X.fk E) aa σ H s):av X aa σ H s:=⟨I.ok.c6,I.os,I.bare,I.base,I.loc,I.cell,I.free,I.bN,I.pin,I.aM,I.len⟩
theorem SP.c6(h:SP (X.fk E) aa D f s'):SP X aa D f s':=by
 cases f with
 |next=>let⟨a,b,I,q⟩:=h;exact⟨a,b,I.c6,q⟩
 |brk=>let⟨a,b,I,q⟩:=h;exact⟨a,b,I.c6,q⟩
 |cont=>let⟨a,b,I,q⟩:=h;exact⟨a,b,I.c6,q⟩
 |ret u=>let⟨v,a,b,I,r,q⟩:=h;exact⟨v,a,b,I.c6,r,q⟩
theorem eL.oC{st:List Stmt}{t:TS}(h:eL X.oC st t):eL X st t:=λaa s σ H D I a=>
 wpAny_mono (h aa s σ H D (I.fk _) a) (λ_ _ q=>q.c6) λ_ _ z=>False.elim z
end
section
variable{X:Cx}{st:Stmt}{rest:List Stmt}{t u:TS}{e:Expr}{te:TE}{pos:Pos}
def Ar:TS:=λD j H=>D.nx j H
def r9(t u:TS):TS:=λD j H=>t { D with nx:=u D } j H
theorem Py:eL X [] Ar:=λ_ _ j H _ I h=>wpAny_execs_nil ⟨j,H,I,h⟩
theorem wc(d:PS X st t)(g:eL X rest u):eL X (st::rest) (r9 t u):=by
 intro aa s j H D I h;refine wpAny_execs_cons (bq (d aa s j H { D with nx:=u D } I h) λf l q=>?_);cases f with
 |next=>
  let⟨i,a,b,q⟩:=q;exact g aa l i a D b q
 |ret v=>exact q
 |brk=>exact q
 |cont=>exact q
theorem wQ(a:PS X st t):eL X [st] t:=by
 intro aa s j H D I h;refine wpAny_execs_cons (bq (a aa s j H D I h) λf b q=>?_);cases f with
 |next=>exact wpAny_execs_nil q
 |ret v=>exact q
 |brk=>exact q
 |cont=>exact q
theorem av.quiet(I:av X aa j H s):interactive X.env=false:=by simp[interactive,I.ok.kind]
def pH(te:TE):TS:=λD j H=>te j H λ_ H1=>D.nx j H1
theorem sQ(f:PE X e te)(hs:do swapsWith e none pos.line X.env=pure false):PS X (.Expr e pos) (pH te):=by
 intro aa s j H D I h;exact wpAny_Expr_any (bq (f aa s j H _ I h) λv l a=>by let⟨x,b,d,i,g⟩:=a;exact⟨j,b,d,g⟩) I.quiet hs
def vI(te:TE):TS:=λD j H=>te j H D.rt
theorem Eb(f:PE X e te):PS X (.Return (some e) pos) (vI te):=by
 intro aa s j H D I h;exact wpAny_Return_some (bq (f aa s j H _ I h) λv l a=>by let⟨x,b,d,i,g⟩:=a;exact⟨x,j,b,d,i,g⟩)
def AX(c:TT)(t u:TS):TS:=λD j H=>c j H λb a=>if b=true then t D j a else u D j a
theorem To(q:PT X c tc)(n:eL X a t)(o:eL X b u):PS X (.If c a b pos) (AX tc t u):=by
 intro aa s j H D I h;refine wpAny_If (bq (q aa s j H _ I h) λd m f=>?_);let⟨g,i,l⟩:=f;cases d with
 |true=>exact n aa m j g D i l
 |false=>exact o aa m j g D i l
def GI:TS:=λ_ _ _=>False
theorem Nd:PS X st GI:=λ_ _ _ _ _ _ h=>h.elim
end
abbrev TG:=V->St->Hp->(St->Hp->Prop)->Prop
abbrev lM:=ax->St->Hp->(St->Hp->Prop)->Prop
def PG(X:Cx)(a:Expr)(t:TG):Prop:=
 ∀(aa:aT)(s:ak)(j:St)(H:Hp)(v:V)(u:ao)(Q:St->Hp->Prop),av X aa j H s->aC v u->t v j H Q->
  wpAny (model X.prog X.w) X.A (assign a X.env u) (λ_ e=>∃d b,av X aa d b e/\Q d b) X.xe s
def ng(X:Cx)(ts:bL)(t:lM):Prop:=
 ∀(aa:aT)(s:ak)(j:St)(H:Hp)(vs:ax)(us:aL)(Q:St->Hp->Prop),av X aa j H s->aH vs us->t vs j H Q->
  wpAny (model X.prog X.w) X.A (assignInOrder ((assignEach ts X.env).map (·.2)) us) (λ_ d=>∃b a,av X aa b a d/\Q b a) X.xe s
abbrev AY:=V->V->V->Hp->(Hp->Prop)->Prop
def AZ(X:Cx)(t:AY):Prop:=
 ∀(aa:aT)(s:ak)(j:St)(H:Hp)(o i v:V)(ov b u:ao)(Q:Hp->Prop),av X aa j H s->aC o ov->aC i b->aC v u->t o i v H Q->
  wpAny (model X.prog X.w) X.A (setItem ov b u) (λ_ d=>∃a,av X aa j a d/\Q a) X.xe s
section
variable{X:Cx}{pos:Pos}
def iY(i:Nat):TG:=λv j H Q=>Q (j.set i (some v)) H
theorem wR(b:X.N.Nodup)(e:X.N[i]?=some x)(f:Loc X.env.scope x)(d:jh X x:=by first |exact .inl rfl |exact .inr rfl |assumption):PG X (.Name x pos) (iY i):=by
 intro aa s j H v u Q I r h;exact wpAny_assign_Name (pX I b e f r (λg a=>⟨_,H,a,h⟩) d)
def vJ:lM:=λvs j H Q=>vs=[]/\Q j H
def u5(t:TG)(u:lM):lM:=λvs j H Q=>∃v r,vs=v::r/\t v j H λb a=>u r b a Q
theorem CZ:ng X [] vJ:=by
 intro aa s j H vs us Q I r h;let⟨e,h⟩:=h;subst e;cases r;exact assignInOrder_nil ⟨j,H,I,h⟩
theorem B5(g:PG X e t)(i:ng X es u)(hs:do (assignEach (e::es) X.env).map (·.2)=assign e X.env::(assignEach es X.env).map (·.2)):ng X (e::es) (u5 t u):=by
 intro aa s j H vs us Q I r h;let⟨v,q,f,h⟩:=h;subst f;cases r with
 |cons r n=>
  rw[hs];refine assignInOrder_cons (bq (g aa s j H _ _ _ I r h) λ_ o a=>?_);let⟨l,b,d,m⟩:=a;exact i aa o l b _ _ Q d n m
def vK(K:aj)(n:Nat)(t:lM):TG:=λv j H Q=>∃a b,v=.ref a/\c8 K H a b/\b.length=n/\t b j H Q
theorem Ec(q:X.calm=true)(h:ng X es t)(hn:do (assignEach es X.env).length=n)(d:do (assignEach es X.env).findIdx? (·.1)=none):PG X (.Tuple es k pos) (vK X.K n t):=by
 intro aa s j H v u Q I r f;let⟨a,C,l,x,w,f⟩:=f;subst l;cases r;let⟨B,g,y,D⟩:=I.tuple x;refine assign_Tuple_tuple (I.ok.hd q) y (by simp[hn,<- w,g.length]) d λm A=>?_
 have i:av X aa j H { s with heap:=m }:=I.kept (t':=s.toks) λb o e=>A b o (ne_of_lt (Heap.lt_size e)) e
 exact h aa _ j H C _ Q i (by simpa using g) f
def A1(f e:TE)(t:AY):TG:=λv j H Q=>f j H λo a=>e j a λi b=>t o i v b λd=>Q j d
theorem RZ(w:PE X o to)(q:PE X i ti)(hs:AZ X t)(n:∀v,assign (.Subscript o i pos) X.env v=(do
   let ov <- holding [v] (eval o X.env)
   let b <- holding [v,ov] (eval i X.env)
   standAt pos
   holding [v,ov,b] (setItem ov b v)
   release [v,ov,b] []):=by intro _;rfl):PG X (.Subscript o i pos) (A1 to ti t):=by
 intro aa s j H v u Q I r h;rw[n];refine wpAny_bind (wpAny_holding (bq (w aa s j H _ I h) λov E a=>?_));let⟨x,d,g,D,A⟩:=a;refine wpAny_bind (wpAny_holding (bq (q aa E j d _ g A) λb G a=>?_));let⟨y,e,l,r2,B⟩:=a;refine wpAny_bind (wpAny_standAt (wpAny_bind (wpAny_holding (bq (hs aa G j e x y v ov b u _ l D r2 r B) λ_ J a=>?_))));let⟨f,m,C⟩:=a;exact wpAny_release ⟨j,f,m,C⟩
def kh(b:TE)(g:TG):TS:=λD j H=>b j H λx a=>g x j a D.nx
theorem Ed(i:PE X e te)(l:PG X tg g)(hs:do swapsWithSole [tg] e pos.line X.env=pure false)(m:do swappedStores [tg] e X.env=pure none)(f:do (assignEach [tg] X.env).map (·.2)=[assign tg X.env]):PS X (.Assign [tg] e pos) (kh te g):=by
 intro aa s j H D I h;refine wpAny_Assign_stores (bq (i aa s j H _ I h) λv r a=>?_) hs m;let⟨x,b,d,o,n⟩:=a;rw[f];exact bq (l aa r j b x v _ d o n) λ_ u q=>q
theorem tU(g:X.N.Nodup)(n:X.N[i]?=some x)(o:Loc X.env.scope x)(l:PE X e te)(hs:do swapsWith e (some (.Name x pos')) pos.line X.env=pure false)(m:jh X x:=by first |exact .inl rfl |exact .inr rfl |assumption):
  PS X (.Assign [.Name x pos'] e pos) (kh te (iY i)):=by
 intro aa s j H D I h;refine wpAny_Assign_Name (bq (l aa s j H _ I h) λv u a=>?_) hs;let⟨y,b,d,r,q⟩:=a;exact pX d g n o r (λw f=>⟨_,b,f,q⟩) m
def A5(i j:Nat)(b:TA):TS:=λD G H=>b G H λvs a=>∃v w,vs=[v,w]/\D.nx ((G.set i (some v)).set j (some w)) a
theorem R0{kt k2 pt2}(hc:X.calm=true)(E:X.N.Nodup)(hi:X.N[i]?=some x)(hj:X.N[j]?=some y)(l:i≠j)(J:X.env.scope.names.lookup x=some .local)(L:X.env.scope.names.lookup y=some .local)(ha:PA X [a,b] ta)(hw:swappedStores [.Tuple [.Name x px,.Name y py] kt pt] (.Tuple [a,b] k2 pt2) X.env=pure (some [x,y]))(hs:do swapsWithSole [.Tuple [.Name x px,.Name y py] kt pt] (.Tuple [a,b] k2 pt2) pos.line X.env=pure false):
  PS X (.Assign [.Tuple [.Name x px,.Name y py] kt pt] (.Tuple [a,b] k2 pt2) pos) (A5 i j ta):=by
 intro aa s G H D I h;rw[exec_Assign_arm];refine wpAny_bind (wpAny_standAt ?_);rw[hs];refine wpAny_bind (wpAny_pure ?_);rw[if_neg ∎];refine wpAny_bind (Tuple_ (bq (ha _ aa s G H _ I h) λus d u=>?_));∎;let⟨vs,B,M,r1,n⟩:=u;let⟨v,w,Y,n⟩:=n;∎;subst Y;obtain⟨f,g,rfl,rv,r⟩:∃f g,us=[f,g]/\aC v f/\aC w g:=by
  cases r1 with
  |cons p q=>
   cases q with
   |cons p' q'=>
    cases q';exact⟨_,_,rfl,p,p'⟩
 refine wpAny_newObj_type ?_ (by show 2<=sizeLine;decide);have O:av X aa G B { d with heap:=d.heap.push { cls:=.type "tuple",data:=.seq [f,g].toArray } }:=M.kept (t':=d.toks) λb o e=>Heap.get?_push_of_some _ e
 rw[hw];refine wpAny_bind (wpAny_pure ?_);show wpAny (model X.prog X.w) X.A (do rule "assign.swapped-stores";let items <- unpackItems (.ref ⇑d) 2 none;assignInOrder [λv=>bindName X.env y v,λv=>bindName X.env x v] items.reverse;pure Flow.next) _ _ _;refine wpAny_bind (wpAny_rule (wpAny_bind (unpackItems_tuple (items:=#[f,g]) (I.ok.hd hc) (IsTup.new d.heap _) λh' m=>?_)));have Q:=O.kept (h':=h') (t':=d.toks) λb o e=>m b o (ne_of_lt (Heap.lt_size e)) e
 show wpAny _ _ (assignInOrder [λv=>bindName X.env y v,λv=>bindName X.env x v] [g,f] >>= λ_=>pure Flow.next) _ _ _;refine wpAny_bind (assignInOrder_cons (wpAny_bindName (pX Q E hj (.inl L) r (λs2 U=>?_) (.inr L))));refine assignInOrder_cons (wpAny_bindName (pX U E hi (.inl J) rv (λs3 C=>assignInOrder_nil (wpAny_pure ?_)) (.inr J)));rw[List.set_comm _ _ (Ne.symm l)] at C;exact⟨_,B,C,n⟩
end
section
variable{X:Cx}{pos:Pos}
def z3(c:TT)(tb:TS):TS:=λD j H=>∃W:Nat->St->Hp->Prop,(∃m,W m j H)/\∀m j H,W m j H->
 c j H λb d=>if b=true then ∃N:St->Hp->Prop,(∀e a,N e a->∃f,f<m/\W f e a)/\tb { D with nx:=N,ct:=N,bk:=D.nx } j d else D.nx j d
theorem Nf(E:PassesOwn (model X.prog X.w) X.A X.env X.xe)(M:PT X c tc)(L:eL X body tb):PS X (.While c body [] pos) (z3 tc tb):=by
 intro aa s j H D I h;let⟨W,⟨O,w0⟩,turn⟩:=h;refine wpAny_While (codeAny_whileLoop (λn Q=>∃G u,av X aa G u Q/\W n G u) ?_ O ⟨j,H,I,w0⟩);rintro n U ⟨e,x,J,w1⟩;refine wpAny_passesOwn E (bq (M aa U e x _ J (turn n e x w1)) λb Y r=>?_);let⟨y,B,g⟩:=r;cases b with
 |true=>
  let⟨N,C,g⟩:=g;rw[if_pos rfl];refine wpAny_passesOwn E (bq (L aa Y e y _ B g) λf s3 i=>?_);cases f with
  |next=>
   ∎;let⟨d,a,l,o⟩:=i;let⟨m,hm,q⟩:=C d a o;∎;exact⟨m,hm,d,a,l,q⟩
  |cont=>
   ∎;let⟨d,a,l,o⟩:=i;let⟨m,hm,q⟩:=C d a o;∎;exact⟨m,hm,d,a,l,q⟩
  |brk=>exact i
  |ret v=>exact i
 |false=>
  rw[if_neg Bool.false_ne_true];exact wpAny_execs_nil ⟨e,y,B,g⟩
end
structure It where
 go:Nat->Hp->Prop
 lJ:Nat->Hp->V->Hp->Prop
 stop:Nat->Hp->Prop
def gN(X:Cx)(aa:aT)(H:Hp)(b:ae):Prop:=
 H b=none/\b≠X.env.locals/\b ∉ X.fs/\(b∈X.ex\/⇑X.s₀<=b)/\(∀x c,X.env.cells.lookup x=some c->c≠b)/\∀p∈X.pn++aa,p.1≠b
theorem av.gq{H d:Hp}(I:av X aa j H s)(a:⇑s<=b)(hn:d b=none):gN X aa d b:=by
 refine⟨hn,Nat.ne_of_gt (lt_of_lt_of_le I.lt a),I.ye a,.inr (le_trans I.sz a),λx c e z=>?_,λp f z=>?_⟩
 .obtain⟨v,q⟩:=I.cell x c e;exact absurd (lt_of_lt_of_le q.lt (by rw[z];exact a)) (lt_irrefl _)
 .exact absurd (lt_of_lt_of_le (Heap.lt_size (I.pin p f).1) (by rw[z];exact a)) (lt_irrefl _)
structure ki(P:Program)(w:World)(K:aj)(tg:Expr)(J:It)(fp:cz)(it:ae)(tn:Nat->aO->Prop):Prop where
 mem:it∈fp
 obj:∀i h,tn i h->∀b∈fp,∃o,h.get? b=some o/\∀v,o.data≠.cell v
 keep:∀i h h',tn i h->(∀b∈fp,∀o,h.get? b=some o->h'.get? b=some o)->tn i h'
 item:∀(X:Cx),X.prog=P->X.w=w->X.K=K->X.calm=true->∀(i:Nat)(aa:aT)(s:ak)(j:St)(H:Hp)(E:ao->ak->Prop),av X aa j H s->(∀b∈fp,gN X aa H b)->tn i s.heap->J.go i H->
  wpAny (model P w) X.A (pyNext (.ref it)) (λr s1=>∃u,r=some u/\
   wpAny (model P w) X.A (letOwnedTupleGo tg (.ref it) u) (λ_ s2=>∃x H',av X aa j H' s2/\aC x u/\J.lJ i H x H'/\tn (i+1) s2.heap/\∀b∈fp,H' b=none) E s1) E s
 done:∀(X:Cx),X.prog=P->X.w=w->X.K=K->X.calm=true->∀(i:Nat)(aa:aT)(s:ak)(j:St)(H:Hp)(E:ao->ak->Prop),av X aa j H s->(∀b∈fp,gN X aa H b)->tn i s.heap->J.stop i H->
  wpAny (model P w) X.A (pyNext (.ref it)) (λr s1=>r=none/\av X aa j H s1) E s
 self:∀(A:Around)(i:Nat)(s:ak)(Q:ao->ak->Prop)(E:ao->ak->Prop),tn i s.heap->Q (.ref it) s->wpAny (model P w) A (pyIter (.ref it)) Q E s
abbrev TI:=St->Hp->(It->Hp->Prop)->Prop
def yT(X:Cx)(aa:aT)(j:St)(h:Expr)(R:It->Hp->Prop)(d:ao)(f:ak):Prop:=
 ∃(it:ae)(e:cz)(g:Nat->aO->Prop)(J:It)(a:Hp),d=.ref it/\av X aa j a f/\ki X.prog X.w X.K h J e it g/\g 0 f.heap/\(∀b∈e,gN X aa a b)/\R J a
def PI(X:Cx)(d a:Expr)(e:TI):Prop:=
 ∀(aa:aT)(s:ak)(j:St)(H:Hp)(R:It->Hp->Prop),av X aa j H s->e j H R->
  wpAny (model X.prog X.w) X.A (eval a X.env) (λv b=>wpAny (model X.prog X.w) X.A (pyIter v) (yT X aa j d R) X.xe b) X.xe s
theorem tY{Q:Unit->ak->Prop}(d:s.heap.get? it=some o)(b:o.cls=.type n)(hd:o.data=.fields vs)(hn:["enumerate","zip","dict_itemiterator","dict_reverseitemiterator","odict_iterator","itertools.zip_longest","itertools.pairwise"].contains n=false)(a:Q () s):wpAny M A (letOwnedTupleGo tg (.ref it) u) Q E s:=by
 unfold letOwnedTupleGo;cases tg<;>first
  |exact wpAny_pure a
  |(cases u<;>first
    |exact wpAny_pure a
    | (refine wpAny_bind (wpAny_load d ?_)
       rw[b,hd];show wpAny M A (if (["enumerate","zip","dict_itemiterator","dict_reverseitemiterator","odict_iterator","itertools.zip_longest","itertools.pairwise"].contains n&&vs[0]? == some (rawInt _))=true then _ else _) Q E s;rw[if_neg (by intro h;rw[hn,Bool.false_and] at h;cases h)];exact wpAny_pure a))
def q5(K:aj)(a:ae):It:=
 ⟨λi H=>∃b x,bG K H a b/\b[i]?=some x,λi H x d=>d=H/\∀b,bG K H a b->b[i]?=some x,λi H=>∃b,bG K H a b/\b.length<=i⟩
def m9(lo:Int)(n:Nat):It:=⟨λi _=>i<n,λi H x a=>a=H/\x=.int (lo+i),λi _=>n<=i⟩
theorem KD{P:Program}{w:World}{K:aj}{tg:Expr}(a it:ae):ki P w K tg (q5 K a) [it] it (λi h=>h.IsListIter it a i) where
 mem:=by simp
 obj:=λi h st b f=>by
  have e:b=it:=by simpa using f
  subst e;let⟨o,e,c,d⟩:=st;exact⟨o,e,λv z=>by rw[d] at z;cases z⟩
 keep:=λi h l st k=>st.at λo e=>k it (by simp) o e
 item:=by
  intro X D J C O i aa s j H E I m st G;subst D J C;∎;let⟨xs,x,n,L⟩:=G;let⟨M,N,p,hz⟩:=I.list n;let⟨u,Y,ru⟩:=N.get L;let⟨q,r,U,y,A,B⟩:=m it (by simp);∎;refine wpAny_pyNext_list_item st p.isList (x:=u) (by simpa using Y) λl g sb=>?_
  have Q:av X aa j H { s with heap:=l }:=I.turned (t':=s.toks) (λb o f e=>(sb.2 b f).trans e) q r y A B;let⟨o,e,c,d⟩:=id g;exact⟨u,rfl,tY (s:={ s with heap:=l }) e c d ∎ ⟨x,H,Q,ru,⟨rfl,λys hy=>by rw[I.dO hy n];exact L⟩,g,λb f=>(m b f).1⟩⟩
 done:=by
  intro X D J C O i aa s j H E I m st G;subst D J C;∎;let⟨xs,n,L⟩:=G;let⟨M,N,p,hz⟩:=I.list n;let⟨q,r,U,y,A,B⟩:=m it (by simp);∎;have hl:=N.length;exact wpAny_pyNext_list_end (I.ok.hd O) st p.isList (by simp;omega) λl eb=>⟨rfl,I.turned (t':=s.toks) (λb o f e=>eb b o f e) q r y A B⟩
 self:=λ_ _ _ _ _ st h=>wpAny_pyIter_listiter st h
theorem Kj{P:Program}{w:World}{K:PySem.W.Frag}{N:Expr}(it:ae)(lo:Int)(n:Nat):ki P w K N (m9 lo n) [it] it (λi h=>IsRangeIter h it (lo+(i:Nat)*1) ((n:Int) - (i:Nat)) 1) where
 mem:=by simp
 obj:=λi h st b a=>by
  have e:b=it:=by simpa using a
  subst e;exact⟨_,st,λv z=>by
   have O:Data.fields _=Data.cell v:=z;cases O⟩
 keep:=λi h f st k=>k it (by simp) _ st
 item:=by
  intro X y C x A i aa s j H E I g st B;subst y C x;let⟨l,m,J,q,r,u⟩:=g it (by simp);have W:=Walks.range (prog:=X.prog) (w:=X.w) (I.ok.hd A) it lo 1 n;refine W.item i s _ _ B st λv f D L d M=>?_
  let⟨t,rfl⟩:=L;have G:av X aa j H { s with heap:=f,toks:=D }:=I.turned (λb o a e=>M b o (by simpa using a) e) l m q r u;refine⟨_,rfl,tY (s:={ s with heap:=f,toks:=D }) (n:="range_iterator") d rfl rfl ∎ ⟨.int (lo+i),H,G,⟨t,?_⟩,⟨rfl,rfl⟩,d,λb a=>(g b a).1⟩⟩;rw[Int.mul_one]
 done:=by
  intro X y C x A i aa s j H E I g st B;subst y C x;let⟨l,m,J,q,r,u⟩:=g it (by simp);exact wpAny_pyNext_range_end (I.ok.hd A) st (by have:n<=i:=B;omega) λf eb=>⟨rfl,I.turned (t':=s.toks) (λb o a e=>eb b o a e) l m q r u⟩
 self:=λ_ _ _ _ _ st h=>wpAny_pyIter_rangeiter st h
section
variable{X:Cx}{tg:Expr}
def As(K:aj)(tl:TE):TI:=λj H R=>tl j H λx b=>∃a,x=.ref a/\(∃d,bG K b a d)/\R (q5 K a) b
theorem Pz{l:Expr}{tl:TE}(n:PE X l tl):PI X tg l (As X.K tl):=by
 intro aa s j H R I h;refine bq (n aa s j H _ I h) λv f g=>?_
 ∎;let⟨x,i,d,y,w⟩:=g;let⟨a,e,⟨C,r⟩,q⟩:=w;∎;subst e;cases y;let⟨u,B,p,A⟩:=d.list r;refine wpAny_pyIter_list p.isList ?_;refine⟨⇑f,[⇑f],_,_,i,rfl,d.kept (t':=f.toks) λb o e=>Heap.get?_push_of_some _ e,KD a _,⟨_,Heap.get?_push_size _ rfl,rfl,rfl⟩,λb m=>?_,q⟩;have e:b=⇑f:=by simpa using m
 subst e;exact d.gq (le_refl _) (d.aM.fresh (le_refl _))
theorem Ng{aa:aT}{j:St}{H:Hp}{s:ak}{R:It->Hp->Prop}{E:ao->ak->Prop}{lo a:Int}{t u v:Tok}{f:Nat}(I:av X aa j H s)(h:-(2 ^ 62)<=lo)(i:lo<2 ^ 62)(l:-(2 ^ 62)<=a)(m:a<2 ^ 62)(q:R (m9 lo (a - lo).toNat) H):wpAny (model X.prog X.w) X.A (pyIter (.ref ⇑s)) (yT X aa j tg R) E { s with heap:=s.heap.push { cls:=.type "range",data:=.fields #[.int lo t,.int a u,.int 1 v] },toks:=f }:=by
 refine wpAny_pyIter_range (IsRange.new ..) (small_one h i l m) ?_;have d:av X aa j H { s with heap:=s.heap.push { cls:=.type "range",data:=.fields #[.int lo t,.int a u,.int 1 v] },toks:=f }:=I.kept λb o e=>Heap.get?_push_of_some _ e
 refine⟨(s.heap.push { cls:=.type "range",data:=.fields #[.int lo t,.int a u,.int 1 v] }).objs.size,[(s.heap.push { cls:=.type "range",data:=.fields #[.int lo t,.int a u,.int 1 v] }).objs.size],_,_,H,rfl,
  d.kept (t':=f) λb o e=>Heap.get?_push_of_some _ e,Kj _ lo (a - lo).toNat,?_,λb n=>?_,q⟩
 .have e1:lo+((0:Nat):Int)*1=lo:=by simp
  have g:(((a - lo).toNat:Nat):Int) - ((0:Nat):Int)=Builtin.Range.rangeSize lo a 1:=by rw[rangeSize_one];split<;>omega
  show IsRangeIter _ _ (lo+((0:Nat):Int)*1) ((((a - lo).toNat:Nat):Int) - ((0:Nat):Int)) 1;rw[e1,g];exact Heap.get?_push_size _ rfl
 .have e:b=(s.heap.push { cls:=.type "range",data:=.fields #[.int lo t,.int a u,.int 1 v] }).objs.size:=by simpa using n
  subst e;exact d.gq (le_refl _) (d.aM.fresh (le_refl _))
def Av(b:TA):TI:=λi H R=>b i H λvs a=>∃j:Int,vs=[.int j]/\-(2 ^ 62)<=j/\j<2 ^ 62/\R (m9 0 j.toNat) a
theorem KG{a:Expr}{f:TA}{p pos:Pos}(m:Gl X "range")(hm:X.mg "range"=none)(l:PA X [a] f)(hs:do nq a X.env):PI X tg (.Call (.Name "range" p) [a] [] pos) (Av f):=by
 intro aa s i H R I h;refine Call_ (mf I m hm boot_range (PyProof.Rows.callWith_type1 (bq (l pos aa s i H _ I h) λus w d=>?_) hs rfl));∎;let⟨vs,v,g,o,b⟩:=d;let⟨j,e,b,n,q⟩:=b;∎;subst e;cases o with
 |cons r u=>
  cases u;let⟨t,rfl⟩:=r;exact call_range_1 (Ng g ⋯ ⋯ b n (by simpa using q))
def A6(l:TI)(g:TG)(tb:TS):TS:=λD j H=>l j H λJ e=>∃W:Nat->Nat->St->Hp->Prop,(∃m,W 0 m j e)/\∀i m j H,W i m j H->
 (J.stop i H/\D.nx j H)\/(J.go i H/\∃N:St->Hp->Prop,(∀b a,N b a->∃d,d<m/\W (i+1) d b a)/\∀x a,J.lJ i H x a->g x j a λh f=>tb { D with nx:=N,ct:=N,bk:=D.nx } h f)
def pz(fp:cz)(h:aO):aT:=fp.filterMap λb=>(h.get? b).map λo=>(b,o)
theorem sL(a:b∈fp)(e:h.get? b=some o):(b,o)∈pz fp h:=mem_filterMap.mpr ⟨b,a,by rw[e];rfl⟩
theorem KH(f:p∈pz fp h):p.1∈fp/\h.get? p.1=some p.2:=by
 let⟨b,d,e⟩:=mem_filterMap.mp f;cases q:h.get? b with
 |none=>rw[q] at e;cases e
 |some o=>
  rw[q] at e;have a:(b,o)=p:=Option.some.inj e;subst a;exact⟨d,q⟩
theorem av.pinned(I:av X aa j H s)(l:∀b∈fp,gN X aa H b)(m:∀b∈fp,∃o,s.heap.get? b=some o/\∀v,o.data≠.cell v):av X (aa++pz fp s.heap) j H s:=
 I.eA λp n=>(mem_append.mp n).elim (λz=>I.pin p (mem_append_right _ z)) λz=>by
  ∎;let⟨f,e⟩:=KH z;let⟨g,h,i,_⟩:=l p.1 f;let⟨o,a,d⟩:=m p.1 f;∎;rw[e] at a;cases a;exact⟨e,g,h,i,d⟩
theorem av.eJ(I:av X (aa++pl) j H s):av X aa j H s:=I.eA λp a=>I.pin p (mem_append_right _ (List.mem_append_left _ a))
theorem R1(Q:PassesOwn (model X.prog X.w) X.A X.env X.xe)(hc:X.calm=true)(hi:PI X tg iter wi)(hg:PG X tg g)(y:eL X body tb)(hs:∀x,foldedSetIterable iter X.env x=pure x:=by intro _;rfl):PS X (.For tg iter body [] pos) (A6 wi g tb):=by
 intro aa s j H D I h;refine wpAny_For (bq (hi aa s j H _ I h) λv s1 h1=>bq h1 λε s2 h2=>?_) hs;let⟨it,M,tn,J,H2,e,I2,T,δ,f2,W,⟨m0,w0⟩,turn⟩:=h2;subst e;have C:∀{E:Hp},(∀b∈M,E b=none)->∀b∈M,gN X aa E b:=λhn b y=>⟨hn b y,(f2 b y).2⟩
 refine codeAny_forLoop_any (λn s'=>∃i U E,av X aa U E s'/\tn i s'.heap/\(∀b∈M,E b=none)/\W i n U E) ?_ m0 ⟨0,j,H2,I2,δ,λb y=>(f2 b y).1,w0⟩;rintro n s3 ⟨i,Y,H3,I3,α,O,w3⟩;rcases turn i n Y H3 w3 with⟨stop,qn⟩ |⟨go,N,hN,step⟩
 .refine wpAny_passesOwn Q (bq (T.done X rfl rfl rfl hc i aa s3 Y H3 X.xe I3 (C O) α stop) λr s4 a=>?_);let⟨hr,I4⟩:=a;subst hr;exact wpAny_execs_nil ⟨Y,H3,I4,qn⟩
 .refine wpAny_passesOwn Q (bq (T.item X rfl rfl rfl hc i aa s3 Y H3 X.xe I3 (C O) α go) λr s4 a=>?_);let⟨u,hr,h4⟩:=a;subst hr;refine wpAny_passesOwn Q (bq h4 λ_ s5 a=>?_);let⟨x,H5,I5,r5,y5,L,γ⟩:=a;have β:=I5.pinned (C γ) (T.obj _ _ L);refine wpAny_passesOwn Q (bq (hg _ s5 Y H5 x u _ β r5 (step x H5 y5)) λ_ s6 a=>?_);let⟨j6,H6,I6,q6⟩:=a;refine wpAny_passesOwn Q (bq (y _ s6 j6 H6 _ I6 q6) λf s7 G=>?_);have again:∀{B:St}{l:Hp},av X (aa++pz M s5.heap) B l s7->N B l->∃m,m<n/\∃i U E,av X aa U E s7/\tn i s7.heap/\(∀b∈M,E b=none)/\W i m U E:=λ{B l} q n7=>by
   let⟨m',hm,w7⟩:=hN B l n7;refine⟨m',hm,i+1,B,l,q.eJ,T.keep _ _ _ L λb y o e=>(q.pin (b,o) (mem_append_right _ (mem_append_right _ (sL y e)))).1,λb y=>?_,w7⟩;let⟨o,e,d⟩:=T.obj _ _ L b y;exact (q.pin (b,o) (mem_append_right _ (mem_append_right _ (sL y e)))).2.1
  cases f with
  |next=>let⟨B,l,q,n7⟩:=G;exact again q n7
  |cont=>let⟨B,l,q,n7⟩:=G;exact again q n7
  |brk=>let⟨B,l,q,G⟩:=G;exact⟨B,l,q.eJ,G⟩
  |ret v=>let⟨x7,B,l,q,r7,G⟩:=G;exact⟨x7,B,l,q.eJ,r7,G⟩
end
abbrev R2:=V->V->Hp->VK->Prop
def b9(X:Cx)(f:ao->ao->Sem Value)(r:R2):Prop:=
 ∀(aa:aT)(s:ak)(j:St)(H:Hp)(x y:V)(v u:ao)(Q:VK),av X aa j H s->aC x v->aC y u->r x y H Q->
  wpAny (model X.prog X.w) X.A (f v u) (EP X aa j Q) X.xe s
def uK(X:Cx)(f:ao->Sem Value)(r:V->Hp->VK->Prop):Prop:=
 ∀(aa:aT)(s:ak)(j:St)(H:Hp)(x:V)(v:ao)(Q:VK),av X aa j H s->aC x v->r x H Q->
  wpAny (model X.prog X.w) X.A (f v) (EP X aa j Q) X.xe s
def bU(X:Cx)(f:ao)(r:ax->Hp->VK->Prop):Prop:=
 ∀(aa:aT)(s:ak)(j:St)(H:Hp)(a:ax)(us:aL)(Q:VK),av X aa j H s->aH a us->r a H Q->
  wpAny (model X.prog X.w) X.A (call f us) (EP X aa j Q) X.xe s
def Hf(X:Cx)(r:V->Hp->(Bool->Hp->Prop)->Prop):Prop:=
 ∀(aa:aT)(s:ak)(j:St)(H:Hp)(x:V)(v:ao)(Q:Bool->Hp->Prop),av X aa j H s->aC x v->r x H Q->
  wpAny (model X.prog X.w) X.A (truthy v) (TP X aa j Q) X.xe s
def m5(r:R2)(d tb:TE):TE:=λj H Q=>d j H λx a=>tb j a λy b=>r x y b Q
def Fj(r:V->Hp->VK->Prop)(b:TE):TE:=λj H Q=>b j H λx a=>r x a Q
def rI(C:Int->Int->Prop)(g:Int->Int->V):R2:=λx y H Q=>∃i j,x=.int i/\y=.int j/\C i j/\Q (g i j) H
def hI(g:Int->Int->V):R2:=λx y H Q=>∃i j,x=.int i/\y=.int j/\Q (g i j) H
def rU(g:Int->V):V->Hp->VK->Prop:=λx H Q=>∃i,x=.int i/\Q (g i) H
section
variable{X:Cx}{a b c:Expr}{ta tb tc:TE}{pos:Pos}
theorem yi(q:PE X a ta)(r:PE X b tb){R:V->V->Hp->Prop}(I:av X aa j H s)(h:ta j H λx m=>tb j m λy e=>R x y e){f:ao->ao->Sem Value}(B:∀v u l x y e,av X aa j e l->aC x v->aC y u->R x y e->wpAny (model X.prog X.w) X.A (f v u) Q X.xe l):
  wpAny (model X.prog X.w) X.A (eval a X.env) (λv g=>wpAny (model X.prog X.w) X.A (eval b X.env) (λu i=>wpAny (model X.prog X.w) X.A (f v u) Q X.xe i) X.xe g) X.xe s:=by
 refine bq (q aa s j H _ I h) λv G d=>?_
 let⟨x,m,n,E,C⟩:=d;refine bq (r aa G j m _ n C) λu l d=>?_
 let⟨y,e,o,r2,D⟩:=d;exact B v u l x y e o E r2 D
theorem Tp(i:b9 X (binaryOp op) r)(f:PE X a ta)(g:PE X b tb):PE X (.BinOp a op b pos) (m5 r ta tb):=by
 intro aa s j H Q I h;exact wpAny_BinOp (yi f g I h λv u n x y d e l m q=>i aa n j d x y v u Q e l m q)
theorem Tq(i:uK X (unaryOp op) r)(g:PE X a ta):PE X (.UnaryOp op a pos) (Fj r ta):=by
 intro aa s j H Q I h;exact UnaryOp_ (bq (g aa s j H _ I h) λv n d=>by let⟨x,e,f,m,l⟩:=d;exact i aa n j e x v Q f m l)
theorem yg{f:ao->ao->Sem Value}{C:Int->Int->Prop}{g:Int->Int->Int}(rule:∀(i j:Int)(t u:Tok)(s:ak)(Q:ao->ak->Prop)(E:ao->ak->Prop),C i j->Q (.int (g i j) s.toks) { s with toks:=s.toks+1 }->wpAny (model X.prog X.w) X.A (f (.int i t) (.int j u)) Q E s):
  b9 X f (rI C λi j=>.int (g i j)):=by
 intro aa s G H x y v u Q I e l h;∎;let⟨i,j,rfl,rfl,d,q⟩:=h;let⟨t,rfl⟩:=e;let⟨m,rfl⟩:=l;∎;exact rule i j t m s _ _ d ⟨.int (g i j),H,I.tok _,⟨_,rfl⟩,q⟩
theorem Fq{f:ao->ao->Sem Value}{g:Int->Int->Int}(rule:∀(i j:Int)(t u:Tok)(s:ak)(Q:ao->ak->Prop)(E:ao->ak->Prop),Q (.int (g i j) s.toks) { s with toks:=s.toks+1 }->wpAny (model X.prog X.w) X.A (f (.int i t) (.int j u)) Q E s):
  b9 X f (hI λi j=>.int (g i j)):=by
 intro aa s G H x y v u Q I d e h;∎;let⟨i,j,rfl,rfl,q⟩:=h;let⟨t,rfl⟩:=d;let⟨l,rfl⟩:=e;∎;exact rule i j t l s _ _ ⟨.int (g i j),H,I.tok _,⟨_,rfl⟩,q⟩
theorem uh{f:ao->ao->Sem Value}{g:Int->Int->Bool}(rule:∀(i j:Int)(t u:Tok)(s:ak)(Q:ao->ak->Prop)(E:ao->ak->Prop),Q (.bool (g i j)) s->wpAny (model X.prog X.w) X.A (f (.int i t) (.int j u)) Q E s):
  b9 X f (hI λi j=>.bl (g i j)):=by
 intro aa s G H x y v u Q I d e h;∎;let⟨i,j,rfl,rfl,q⟩:=h;let⟨t,rfl⟩:=d;let⟨l,rfl⟩:=e;∎;exact rule i j t l s _ _ ⟨.bl (g i j),H,I,rfl,q⟩
def jW(i j:Int):Prop:=(-(2 ^ 64)<i/\i<2 ^ 64)\/(-(2 ^ 64)<j/\j<2 ^ 64)
theorem jW.ok(h:jW i j):IntMulOk i j:=by
 rcases h with⟨d,e⟩ |⟨d,e⟩
 .exact .of_left (intBits_le_64 d e)
 .exact .of_right (intBits_le_64 d e)
theorem GJ:b9 X (binaryOp .Add) (hI λi j=>.int (i+j)):=Fq λ_ _ _ _ _ _ _ q=>add_int q
theorem R3:b9 X (binaryOp .Sub) (hI λi j=>.int (i - j)):=Fq λ_ _ _ _ _ _ _ q=>sub_int q
theorem Q8:b9 X (binaryOp .Mod) (rI (λ_ j=>0<j) λi j=>.int (i % j)):=yg λi j _ _ _ _ _ d q=>by
 have e:(0:Int)<j:=d;exact mod_int' ⋯ (by rw[Int.fmod_eq_emod_of_nonneg i ⋯];exact q)
theorem R4{f:ao->Sem Value}{g:Int->Int}(rule:∀(i:Int)(t:Tok)(s:ak)(Q:ao->ak->Prop)(E:ao->ak->Prop),Q (.int (g i) s.toks) { s with toks:=s.toks+1 }->wpAny (model X.prog X.w) X.A (f (.int i t)) Q E s):
  uK X f (rU λi=>.int (g i)):=by
 intro aa s j H x v Q I d h;∎;let⟨i,rfl,q⟩:=h;let⟨t,rfl⟩:=d;∎;exact rule i t s _ _ ⟨.int (g i),H,I.tok _,⟨_,rfl⟩,q⟩
theorem Q9:uK X (unaryOp .USub) (rU λi=>.int (-i)):=R4 λ_ _ _ _ _ q=>neg_int q
end
def vL:V->V->Bool
 |.aE,.aE=>true |.aE,.int _=>true |.int _,.aE=>true |.aE,.bl _=>true |.bl _,.aE=>true |.aE,.str _=>true |.str _,.aE=>true
 |.int _,.int _=>true |.bl _,.bl _=>true |.str _,.str _=>true |.fW _,.fW _=>true
 |.int _,.str _=>true |.str _,.int _=>true |.bl _,.str _=>true |.str _,.bl _=>true
 |_,_=>false
def yF:R2:=λx y H Q=>vL x y=true/\Q (.bl (decide (x=y))) H
def qS:R2:=λx y H Q=>vL x y=true/\Q (.bl (!decide (x=y))) H
theorem C0:decide (V.int i=V.int j)=(i == j):=by
 rw[Bool.eq_iff_iff];simp
theorem Ee:decide (V.bl i=V.bl j)=(i == j):=by
 rw[Bool.eq_iff_iff];simp
theorem C1:decide (V.str i=V.str j)=(i == j):=by
 rw[Bool.eq_iff_iff];simp
theorem C2:decide (V.fW i=V.fW j)=(i.toList == j.toList):=by
 rw[Bool.eq_iff_iff];cases i;cases j;simp
section
variable{X:Cx}{a b c:Expr}{ta tb tc:TE}{pos:Pos}
theorem cH{Q:VK}(I:av X aa j H s)(q:Q (.bl k) H)(e:k=k'):EP X aa j Q (.bool k') s:=by
 subst e;exact⟨.bl k,H,I,rfl,q⟩
theorem G7:b9 X (compareOp .Eq) yF:=by
 intro aa s G H x y v u Q I g d h;let⟨f,q⟩:=h;cases x with
 |aE=>
  cases g;cases y with
  |aE=>cases d;exact PySem.EqNone.eq_none_none (cH I q (by simp))
  |bl j=>cases d;exact PySem.EqNone.eq_none_bool (cH I q (by simp))
  |int j=>let⟨e,rfl⟩:=d;exact PySem.EqNone.eq_none_int (cH I q (by simp))
  |str j=>let⟨e,rfl⟩:=d;exact PySem.EqNone.eq_none_str (cH I q (by simp))
  |_=>exact absurd (show false=true from f) Bool.false_ne_true
 |bl i=>
  cases g;cases y with
  |aE=>cases d;exact PySem.EqNone.eq_bool_none (cH I q (by simp))
  |bl j=>cases d;exact eq_bool (cH I q Ee)
  |str j=>let⟨e,rfl⟩:=d;exact PySem.EqMixed.eq_bool_str (cH I q (by simp))
  |_=>exact absurd (show false=true from f) Bool.false_ne_true
 |int i=>
  let⟨t,rfl⟩:=g;cases y with
  |aE=>cases d;exact PySem.EqNone.eq_int_none (cH I q (by simp))
  |int j=>let⟨e,rfl⟩:=d;exact eq_int (cH I q C0)
  |str j=>let⟨e,rfl⟩:=d;exact PySem.EqMixed.eq_int_str (cH I q (by simp))
  |_=>exact absurd (show false=true from f) Bool.false_ne_true
 |str i=>
  let⟨t,rfl⟩:=g;cases y with
  |aE=>cases d;exact PySem.EqNone.eq_str_none (cH I q (by simp))
  |bl j=>cases d;exact PySem.EqMixed.eq_str_bool (cH I q (by simp))
  |int j=>let⟨e,rfl⟩:=d;exact PySem.EqMixed.eq_str_int (cH I q (by simp))
  |str j=>let⟨e,rfl⟩:=d;exact eq_str (cH I q C1)
  |_=>exact absurd (show false=true from f) Bool.false_ne_true
 |fW i=>
  let⟨t,rfl⟩:=g;cases y with
  |fW j=>let⟨e,rfl⟩:=d;exact W.eq_bytes (cH I q C2)
  |_=>exact absurd (show false=true from f) Bool.false_ne_true
 |_=>cases y <;> exact absurd (show false=true from f) Bool.false_ne_true
theorem Aw:b9 X (compareOp .NotEq) qS:=by
 intro aa s G H x y v u Q I g d h;let⟨f,q⟩:=h;cases x with
 |aE=>
  cases g;cases y with
  |aE=>cases d;exact PySem.EqNone.ne_none_none (cH I q (by simp))
  |bl j=>cases d;exact PySem.EqNone.ne_none_bool (cH I q (by simp))
  |int j=>let⟨e,rfl⟩:=d;exact PySem.EqNone.ne_none_int (cH I q (by simp))
  |str j=>let⟨e,rfl⟩:=d;exact PySem.EqNone.ne_none_str (cH I q (by simp))
  |_=>exact absurd (show false=true from f) Bool.false_ne_true
 |bl i=>
  cases g;cases y with
  |aE=>cases d;exact PySem.EqNone.ne_bool_none (cH I q (by simp))
  |bl j=>cases d;exact ne_bool (cH I q (congrArg not Ee))
  |str j=>let⟨e,rfl⟩:=d;exact PySem.EqMixed.ne_bool_str (cH I q (by simp))
  |_=>exact absurd (show false=true from f) Bool.false_ne_true
 |int i=>
  let⟨t,rfl⟩:=g;cases y with
  |aE=>cases d;exact PySem.EqNone.ne_int_none (cH I q (by simp))
  |int j=>let⟨e,rfl⟩:=d;exact ne_int (cH I q (congrArg not C0))
  |str j=>let⟨e,rfl⟩:=d;exact PySem.EqMixed.ne_int_str (cH I q (by simp))
  |_=>exact absurd (show false=true from f) Bool.false_ne_true
 |str i=>
  let⟨t,rfl⟩:=g;cases y with
  |aE=>cases d;exact PySem.EqNone.ne_str_none (cH I q (by simp))
  |bl j=>cases d;exact PySem.EqMixed.ne_str_bool (cH I q (by simp))
  |int j=>let⟨e,rfl⟩:=d;exact PySem.EqMixed.ne_str_int (cH I q (by simp))
  |str j=>let⟨e,rfl⟩:=d;exact ne_str (cH I q (congrArg not C1))
  |_=>exact absurd (show false=true from f) Bool.false_ne_true
 |fW i=>
  let⟨t,rfl⟩:=g;cases y with
  |fW j=>let⟨e,rfl⟩:=d;exact W.ne_bytes (cH I q (congrArg not C2))
  |_=>exact absurd (show false=true from f) Bool.false_ne_true
 |_=>cases y <;> exact absurd (show false=true from f) Bool.false_ne_true
theorem G8:b9 X (compareOp .Lt) (hI λi j=>.bl (decide (i<j))):=uh λ_ _ _ _ _ _ _ q=>lt_int q
theorem Ts:b9 X (compareOp .LtE) (hI λi j=>.bl (decide (i<=j))):=uh λ_ _ _ _ _ _ _ q=>le_int q
theorem G9:b9 X (compareOp .Gt) (hI λi j=>.bl (decide (j<i))):=uh λ_ _ _ _ _ _ _ q=>gt_int q
theorem xJ:b9 X (compareOp .GtE) (hI λi j=>.bl (decide (j<=i))):=uh λ_ _ _ _ _ _ _ q=>ge_int q
theorem KI:b9 X (compareOp .Lt) (λx y H Q=>∃i j,x=.str i/\y=.str j/\Q (.bl (decide (i.cps.toList<j.cps.toList))) H):=by
 intro aa s G H x y v u Q I d e h;∎;let⟨i,j,rfl,rfl,q⟩:=h;let⟨t,rfl⟩:=d;let⟨f,rfl⟩:=e;∎;exact lt_str (cH I q rfl)
theorem Ra:b9 X (compareOp .Is) (λx y H Q=>y=.aE/\Q (.bl (decide (x=.aE))) H):=by
 intro aa s j H x y v u Q I d e h;let⟨rfl,q⟩:=h;cases e;refine is_none_gen (cH I q ?_);cases x<;>first
  |(cases d;rfl)
  |(let⟨t,rfl⟩:=d;rfl)
theorem PB:b9 X (compareOp .IsNot) (λx y H Q=>y=.aE/\Q (.bl (!decide (x=.aE))) H):=by
 intro aa s j H x y v u Q I d e h;let⟨rfl,q⟩:=h;cases e;refine isnot_none_gen (cH I q ?_);cases x<;>first
  |(cases d;rfl)
  |(let⟨t,rfl⟩:=d;rfl)
theorem b9.or{r d:R2}(h:b9 X f r)(h':b9 X f d):b9 X f (λx y H Q=>r x y H Q\/d x y H Q):=by
 intro aa s j H x y v u Q I e g q;rcases q with q |q
 .exact h aa s j H x y v u Q I e g q
 .exact h' aa s j H x y v u Q I e g q
theorem Rb(b:Expr)(h: ~~~(op≠.In))(f: ~~~(op≠.NotIn)):behindInMarks op b=false:=by
 have d:(op == CmpOp.In)=false:=by cases op<;>first |rfl |exact absurd rfl h
 have e:(op == CmpOp.NotIn)=false:=by cases op<;>first |rfl |exact absurd rfl f
 cases b<;>simp[behindInMarks,d,e]
theorem PC(i:b9 X (compareOp op) r)(f:PE X a ta)(g:PE X b tb)(hm:behindInMarks op b=false):PE X (.Compare a [op] [b] pos) (m5 r ta tb):=by
 intro aa s j H Q I h;exact wpAny_Compare1 (yi f g I h λv u n x y d e l m q=>i aa n j d x y v u Q e l m q) hm
def rS(t:TE):TT:=λj H Q=>t j H λx H'=>∃k,x=.bl k/\Q k H'
theorem C3(g:b9 X (compareOp op) r)(d:PE X a ta)(f:PE X b tb)(hm:behindInMarks op b=false):PT X (.Compare a [op] [b] pos) (rS (m5 r ta tb)):=by
 intro aa s j H Q I h;refine wpAny_isTrue_Compare1 (bq (d aa s j H _ I h) λv i ⟨x,H1,I1,r1,q1⟩=>bq (f aa i j H1 _ I1 q1) λu l ⟨y,H2,I2,r2,q2⟩=>
  bq (g aa l j H2 x y v u _ I2 r1 r2 q2) λc m ⟨z,H3,I3,r3,k,e,q3⟩=>?_) hm
 subst e;cases r3;exact wpAny_truthy_bool ⟨H3,I3,q3⟩
def vM(K:aj)(x:V)(H:Hp)(k:Bool):Prop:=
 match x with
 |.aE=>k=false
 |.bl b=>k=b
 |.int i=>k=(i != 0)
 |.str y=>y.length <= sizeLine /\ k=((y.length:Int) != 0)
 |.fW y=>y.size <= sizeLine /\ k=((y.size:Int) != 0)
 |.ref p=>(∃e,bG K H p e /\ k = !e.isEmpty) \/ (∃e,c8 K H p e /\ k = !e.isEmpty) \/ ∃d,H p=some (.dK d) /\ k = !d.isEmpty
 |_=>False
theorem Kk(r:KV kvs vs):(!vs.isEmpty)=!kvs.isEmpty:=by
 cases r<;>rfl
theorem BS(r:aH xs dC):(!dC.toArray.isEmpty)=!xs.isEmpty:=by
 cases r<;>simp
theorem nY:(sizeLine:Nat)<2 ^ 63:=by rw[sizeLine_eq];decide
theorem Rc:Hf X (λx H Q=>∃k,vM X.K x H k/\Q k H):=by
 intro aa s j H x v Q I n h;let⟨k,e,q⟩:=h;have E:=nY;have G:sizeLine=16777216:=sizeLine_eq;cases x with
 |aE=>
  cases n;have d:k=false:=e;subst d;exact truthy_none ⟨H,I,q⟩
 |bl b=>
  cases n;have d:k=b:=e;subst d;exact wpAny_truthy_bool ⟨H,I,q⟩
 |int i=>
  let⟨t,rfl⟩:=n;have d:k=(i != 0):=e;subst d;exact PySem.P.truthy_int ⟨H,I,q⟩
 |str y=>
  let⟨t,rfl⟩:=n;obtain⟨D,d⟩:y.length<=sizeLine/\k=((y.length:Int) != 0):=e;subst d;exact PySem.P.truthy_str ⋯ ⟨H,I.tok _,q⟩
 |fW y=>
  let⟨t,rfl⟩:=n;obtain⟨D,d⟩:y.size<=sizeLine/\k=((y.size:Int) != 0):=e;subst d;exact W.truthy_bytes ⋯ ⟨H,I.tok _,q⟩
 |ref p=>
  cases n;have d:(∃l,bG X.K H p l/\k=!l.isEmpty)\/(∃l,c8 X.K H p l/\k=!l.isEmpty)\/∃f,H p=some (.dK f)/\k=!f.isEmpty:=e;rcases d with⟨l,o,d⟩ |⟨l,o,d⟩ |⟨f,o,d⟩
  .subst d;let⟨u,r,A,B⟩:=I.list o;have g:=r.length;exact wpAny_truthy_list A.isList (by simp only[size_toArray];omega) ⟨H,I.tok _,by rw[BS r];exact q⟩
  .subst d;let⟨u,r,A,B⟩:=I.tuple o;have g:=r.length;exact truthy_tuple A (by simp only[size_toArray];omega) ⟨H,I.tok _,by rw[BS r];exact q⟩
  .subst d;obtain⟨B,C,vs,r,m⟩:f.length<=sizeLine/\(p == sysModules)=false/\∃vs,KV f vs/\s.heap.DictOf (eh X.prog X.w) p vs:=I.aM p _ o;have g:f.length=vs.length:=Paired.length r;exact wpAny_truthy_dict C m ⋯ ⟨H,I.tok _,by rw[Kk r];exact q⟩
 |_=>exact (show False from e).elim
theorem Nh(i:PE X a ta)(l:∀whole,isTrue a X.env whole=(do let v <- whole;standAt a.pos;holding [v] (truthy v))):
  PT X a (λj H Q=>ta j H λx e=>∃k,vM X.K x e k/\Q k e):=by
 intro aa s j H Q I h;exact isTrue_plain (bq (i aa s j H _ I h) λv o d=>by let⟨x,f,g,n,m⟩:=d;exact Rc aa o j f x v Q g n m) (l _)
theorem F9:b9 X (binaryOp .Add) (λx y H Q=>∃i j,x=.str i/\y=.str j/\i.length+j.length<=sizeLine/\Q (.str (i++j)) H):=by
 intro aa s G H x y v u Q I e f h;∎;let⟨i,j,rfl,rfl,d,q⟩:=h;let⟨t,rfl⟩:=e;let⟨g,rfl⟩:=f;∎;exact add_str (λg l=>⟨.str (i++j),H,I.tok _,⟨_,rfl⟩,q⟩) d
theorem mE(r:aH [x] us):∃u,us=[u]/\aC x u:=by
 cases r with
 |cons d r2=>cases r2;exact⟨_,rfl,d⟩
theorem ER(r:aH [x,y] us):∃u d,us=[u,d]/\aC x u/\aC y d:=by
 cases r with
 |cons e r2=>
  cases r2 with
  |cons r3 r4=>cases r4;exact⟨_,_,rfl,e,r3⟩
theorem wd:bU X (.builtin "abs") (λxs H Q=>∃i,xs=[.int i]/\Q (.int (if i<0 then -i else i)) H):=by
 intro aa s j H xs us Q I r h;∎;let⟨i,rfl,q⟩:=h;let⟨u,rfl,t,rfl⟩:=mE r;∎;exact call_abs_int λu d=>⟨.int (if i<0 then -i else i),H,I.tok _,⟨_,rfl⟩,q⟩
def A7(K:aj)(x:V)(H:Hp)(n:Nat):Prop:=
 match x with
 |.str y=>y.length <= sizeLine /\ n=y.length
 |.fW y=>y.size <= sizeLine /\ n=y.size
 |.ref p=>(∃d,bG K H p d /\ n=d.length) \/ ∃d,c8 K H p d /\ n=d.length
 |_=>False
theorem F0:bU X (.builtin "len") (λxs H Q=>∃x n,xs=[x]/\A7 X.K x H n/\Q (.int n) H):=by
 intro aa s j H xs us Q I r h;∎;let⟨x,n,rfl,e,q⟩:=h;let⟨u,rfl,o⟩:=mE r;∎;have A:=nY;have B:sizeLine=16777216:=sizeLine_eq;cases x with
 |str y=>
  let⟨t,rfl⟩:=o;obtain⟨v,f⟩:y.length<=sizeLine/\n=y.length:=e;subst f;exact len_str ⋯ ⟨.int _,H,I.tok _,⟨_,rfl⟩,q⟩
 |fW y=>
  let⟨t,rfl⟩:=o;obtain⟨v,f⟩:y.size<=sizeLine/\n=y.size:=e;subst f;exact W.len_bytes ⋯ ⟨.int _,H,I.tok _,⟨_,rfl⟩,q⟩
 |ref p=>
  cases o;have f:(∃xs,bG X.K H p xs/\n=xs.length)\/∃xs,c8 X.K H p xs/\n=xs.length:=e;rcases f with⟨xs,g,f⟩ |⟨xs,g,f⟩
  .subst f;let⟨i,m,l,w⟩:=I.list g;have d:=m.length;exact Calls.call_len_list l.isList (by simp only[size_toArray];omega) ⟨.int xs.length,H,I.tok _,⟨_,by simp only[size_toArray];rw[d]⟩,q⟩
  .subst f;let⟨i,m,l,w⟩:=I.tuple g;have d:=m.length;exact len_tuple l (by simp only[size_toArray];omega) ⟨.int xs.length,H,I.tok _,⟨_,by simp only[size_toArray];rw[d]⟩,q⟩
 |_=>exact (show False from e).elim
end
structure f7(h:aO)(x dx C:ae)(mA:bc):Prop where
 obj:h.get? x=some (W.instObj C dx)
 ns:h.Ns1 dx mA
 ne:dx≠x
theorem KJ{h:aO}{f:ae}{i:bc}(n:h.Ns1 f i):∃od,h.get? f=some od/\∀b,W.lookIn b od=some (i b):=by
 let⟨o,g,s,m,hd,l,_,hm⟩:=n;refine⟨o,m,λb=>?_⟩;have e:=hm b;unfold nsFind findBy at e;rw[<- Array.find?_toList] at e;unfold W.lookIn;rw[hd];dsimp only;split
 .rename_i y q;rw[q] at e;exact congrArg some e
 .rename_i q;rw[q] at e;have a:g.toList.any (·.refKey)=false:=by
   rw[List.any_eq_false];intro y r;let⟨z,t,d⟩:=l y (Array.mem_toList_iff.mp r);simp[DictEntry.refKey,d]
  have j:¬ g.toList.any (·.refKey)=true:=by rw[a];exact Bool.false_ne_true
  rw[if_neg j];exact congrArg some e
theorem f7.look{b:bc}(I:f7 h x dx C b):∃od,W.InstAt h x (W.instObj C dx) C (some od)/\∀a,W.lookIn a od=some (b a):=
 let ⟨od,ho,hl⟩:=KJ I.ns
 ⟨od,⟨I.obj,rfl,rfl,ho⟩,hl⟩
section
variable{prog:Program}{w:World}{A:Around}{E:ao->ak->Prop}{s:ak}{K:aj}{x dx C f:ae}{mA:bc}{name:Str}{v:ao}
theorem PD{Q:ao->ak->Prop}(X:K.In s.heap)(I:f7 s.heap x dx C mA)(d:W.plainGet K C name=true)(e:W.hasDictIn K C=true)(b:W.findIn K (.ref C) name=some none)(i:mA name=some v)(a:W.handedIn v=true)(h:Q v { s with toks:=s.toks+1 }):
  wpAny (model prog w) A (getAttr (.ref x) name expr) Q E s:=by
 let⟨od,J,g⟩:=I.look;exact W.get_value X J (W.plainGet_of d).1 (W.findObj_own e b rfl (by rw[g,i])) a h
theorem B6{Q:ao×aL->ak->Prop}(X:K.In s.heap)(I:f7 s.heap x dx C mA)(a:W.plainGet K C name=true)(b:W.findIn K (.ref C) name=some (some (.ref f)))(ht:W.isFn K (.ref f)=true)(e:mA name=none)(h:Q (.ref f,[.ref x]) s):
  wpAny (model prog w) A (getMethod (.ref x) name pl) Q E s:=by
 let⟨od,J,d⟩:=I.look;exact W.method_fn X J (W.plainGet_of a).1 (W.plainGet_of a).2 b (beq_iff_eq.mp ht) (by show (W.lookIn name od).map (·.isSome)=some false;rw[d,e];rfl) h
theorem PF{Q:Unit->ak->Prop}(X:K.In s.heap)(I:f7 s.heap x dx C mA)(hs:W.findIn K (.ref C) "__setattr__"=some (some (.builtin "object.__setattr__")))(u:W.plainOver K C=true)(ht:W.takerIn K C name=some none)(q:W.hasDictIn K C=true)(B:PySem.Within mA ns)(hsz:ns.length<=sizeLine)(h:∀h',f7 h' x dx C (λy=>if y=name then some v else mA y)->Heap.SameBut dx s.heap h'->Q () { s with heap:=h',toks:=s.toks+2 }):
  wpAny (model prog w) A (setAttr (.ref x) name v) Q E s:=by
 let⟨od,J,H⟩:=I.look;refine W.set_plain X J hs (W.osa_open (s:={ s with toks:=s.toks+1 }) (r:=none) X J u ht λb=>?_);let⟨G,o,i⟩:=W.any_some q;have D:s.heap.get? x=some ⟨.ref C,some dx,.plain,#[]⟩:=I.obj;refine wpAny_bind (wpAny_pure (wpAny_bind (wpAny_bind (wpAny_loadPart D (wpAny_bind (W.Looks.here (s:={ s with toks:=s.toks+1 }) (W.looks_clsIn X o) ?_))))));rw[i];refine wpAny_pure (a:=some dx) (wpAny_bind (wpAny_pure (wpAny_bind ?_)));refine wpAny_nsSet1 (s:={ s with toks:=s.toks+1 }) I.ns λh' d e=>?_
 let⟨L,n,m,l,j,g⟩:=d.count (PySem.Within.cons name v B);refine wpAny_bind (wpAny_lookBehind l (by rw[j];exact pastItsLine_dict (le_trans g (by rw[length_cons];omega))) ?_);exact wpAny_pure (h _ ⟨(e.2 _ (Ne.symm I.ne)).trans I.obj,d,I.ne⟩ e)
theorem Ni(X:K.In s.heap)(hm:W.makesIn K C=true)(b:W.findIn K (.ref C) "__init__"=some (some (.ref f)))(a:W.typeIn K (.ref f)=some (.type "function"))(h:codeAny (model prog w) (A.under (.builtin "type.__call__" ⟨.ref C::vs,kw⟩)) (.call (.ref f) ⟨.ref (⇑s+1)::vs,kw⟩) (W.InitBack (⇑s+1) R)
   { s with heap:=(s.heap.push W.emptyDict).push (W.instObj C ⇑s) }):
  codeAny (model prog w) A (.call (.ref C) ⟨vs,kw⟩) R s:=by
 let⟨e,g,d,t,os⟩:=s;exact W.make_core (W.makes_of X hm) (W.looks_findIn X b) (λself=>W.bind_fn X self a) (.inl rfl) h
end
def eP(f:Str)(v:V):List (Str×V)->List (Str×V)
 |[]=>[(f,v)]
 |(g,x)::r=>if g=f then (g,v)::r else (g,x)::eP f v r
theorem BI(f g:Str)(v:V):∀fs:List (Str×V),(eP f v fs).lookup g=if g=f then some v else fs.lookup g
 |[]=>by
  show List.lookup g [(f,v)]=_;by_cases h:g=f
  .have hb:(g == f)=true:=beq_iff_eq.mpr h;simp only[List.lookup,hb,if_pos h]
  .have hb:(g == f)=false:=beq_eq_false_iff_ne.mpr h;simp only[List.lookup,hb,if_neg h]
 |(k,x)::r=>by
  have b:=BI f g v r;rw[show eP f v ((k,x)::r)=(if k=f then (k,v)::r else (k,x)::eP f v r) from rfl];by_cases a:k=f
  .rw[if_pos a];by_cases h:g=k
   .have hb:(g == k)=true:=beq_iff_eq.mpr h;simp only[List.lookup,hb,if_pos (h.trans a)]
   .have hb:(g == k)=false:=beq_eq_false_iff_ne.mpr h;simp only[List.lookup,hb,if_neg (λe:g=f=>h (e.trans a.symm))]
  .rw[if_neg a];by_cases h:g=k
   .have hb:(g == k)=true:=beq_iff_eq.mpr h;simp only[List.lookup,hb,if_neg (λe:g=f=>a (h.symm.trans e))]
   .have hb:(g == k)=false:=beq_eq_false_iff_ne.mpr h;simp only[List.lookup,hb];exact b
theorem vZ(f:Str)(v:V):∀fs:List (Str×V),f∈(eP f v fs).map (·.1)/\∀g,g∈fs.map (·.1)->g∈(eP f v fs).map (·.1)
 |[]=>⟨by simp[eP],λg h=>by simp at h⟩
 |(k,x)::r=>by
  let⟨b,d⟩:=vZ f v r;rw[show eP f v ((k,x)::r)=(if k=f then (k,v)::r else (k,x)::eP f v r) from rfl];by_cases a:k=f
  .rw[if_pos a];subst a;exact⟨by simp,λg h=>by simpa using h⟩
  .rw[if_neg a];refine⟨?_,λg h=>?_⟩
   .rw[map_cons];exact mem_cons_of_mem _ b
   .rw[map_cons] at h ⊢;rcases mem_cons.mp h with e |e
    .exact mem_cons.mpr (.inl e)
    .exact mem_cons_of_mem _ (d g e)
theorem BJ(f:Str)(v:V):∀fs:List (Str×V),(eP f v fs).length<=fs.length+1
 |[]=>by simp[eP]
 |(k,x)::r=>by
  have b:=BJ f v r;rw[show eP f v ((k,x)::r)=(if k=f then (k,v)::r else (k,x)::eP f v r) from rfl];by_cases a:k=f
  .rw[if_pos a,length_cons,length_cons];omega
  .rw[if_neg a,length_cons,length_cons];omega
theorem bX.some_of(r:bX (some v) o):∃u,o=some u/\aC v u:=by
 cases o with
 |none=>exact (show False from r).elim
 |some u=>exact⟨u,rfl,r⟩
theorem bX.none_of(r:bX none o):o=none:=by
 cases o with
 |none=>rfl
 |some u=>exact (show False from r).elim
theorem BY(r:aC v u):W.handedIn u=true:=by
 cases v with
 |aE=>cases (show u=Value.none from r);rfl
 |bl b=>cases (show u=Value.bool b from r);rfl
 |int i=>let⟨t,e⟩:=(show ∃t,u=Value.int i t from r);cases e;rfl
 |str x=>let⟨t,e⟩:=(show ∃t,u=Value.str x t from r);cases e;rfl
 |fW b=>let⟨t,e⟩:=(show ∃t,u=Value.bytes b t from r);cases e;rfl
 |kE b=>let⟨t,e⟩:=(show ∃t,u=Value.float b t from r);cases e;rfl
 |ref a=>cases (show u=Value.ref a from r);rfl
 |ty n=>cases (show u=Value.type n from r);rfl
section
variable{P:Program}{w:World}{H H':Hp}{h h':aO}{a C dx:ae}{fs fs':List (Str×V)}
theorem C4(aM:cR P w H h)(e:H a=some (.ins C dx fs)):∃b,f7 h a dx C b/\(∀f,bX (fs.lookup f) (b f))/\PySem.Within b (fs.map (·.1))/\fs.length<=1000/\H dx=some (.own a):=by
 let⟨d,z,ne,g,b,n,r,q⟩:=(show aX P w H h a (.ins C dx fs) from aM a _ e);exact⟨b,⟨g,n,ne⟩,r,q,z,d⟩
end
structure fP(K:aj)(C:ae):Prop where
 pg:W.plainGet K C Str.empty=true
 hd:W.hasDictIn K C=true
 po:W.plainOver K C=true
 sa:W.findIn K (.ref C) "__setattr__"=some (some (.builtin "object.__setattr__"))
theorem fP.get{K:aj}{C:ae}(c:fP K C)(f:Str):W.plainGet K C f=true:=c.pg
def a9(K:aj)(C:ae)(f:Str):Prop:=W.findIn K (.ref C) f=some none
theorem a9.qU{K:aj}{C:ae}{f:Str}(n:a9 K C f):W.takerIn K C f=some none:=by
 unfold W.takerIn;rw[show W.findIn K (.ref C) f=some none from n];rfl
structure A8(K:aj)(C:ae)(m:Str)(f:ae):Prop where
 at_:W.findIn K (.ref C) m=some (some (.ref f))
 fn:W.isFn K (.ref f)=true
 kp:W.keepIn K (.ref f)=true
section
variable{X:Cx}{aa:aT}{σ:St}{H:Hp}{s:ak}{a C dx:ae}{fs:List (Str×V)}{f:Str}{v:V}{A:Around}{E:ao->ak->Prop}
theorem Kl{Q:Unit->ak->Prop}(I:av X aa σ H s)(e:H a=some (.ins C dx fs))(c:fP X.K C)(n:a9 X.K C f)(L:fs.length<1000)(J:aC y u)(h:∀s',av X aa σ (aN H a (.ins C dx (eP f y fs))) s'->Q () s'):wpAny (model X.prog X.w) A (setAttr (.ref a) f u) Q E s:=by
 let⟨j,O,r,l,_,i⟩:=C4 I.aM e;have G:(fs.map (·.1)).length<=sizeLine:=by rw[length_map,sizeLine_eq];omega
 refine PF I.cG O c.sa c.po n.qU c.hd l G λm d sb=>h _ ?_
 have hd:∃o,m.get? dx=some o:=let ⟨o,_,_,e',_⟩:=d.ns;⟨o,e'⟩
 refine I.write (x:=a) (e:=dx) (by rw[e];exact True.intro) (.inr i) (λb q B z=>(sb.2 b B).trans z) hd ?_;refine⟨by rw[aW O.ne];exact i,?_,O.ne,d.obj,_,d.ns,λg=>?_,λg D=>?_⟩
 .have:=BJ f y fs;omega
 .show bX ((eP f y fs).lookup g) (if g=f then some u else j g);rw[BI];by_cases q:g=f
  .rw[if_pos q,if_pos q];exact J
  .rw[if_neg q,if_neg q];exact r g
 .by_cases q:g=f
  .rw[q];exact (vZ f y fs).1
  .refine (vZ f y fs).2 g (l g λz=>D ?_);show (if g=f then some u else j g)=none;rw[if_neg q];exact z
theorem av.made(I:av X aa σ H s):av X aa σ (aN (aN H ⇑s (.own (⇑s+1))) (⇑s+1) (.ins C ⇑s []))
  { s with heap:=(s.heap.push W.emptyDict).push (W.instObj C ⇑s) }:=by
 have d:(s.heap.push W.emptyDict).get? ⇑s=some W.emptyDict:=Heap.get?_push_size s.heap rfl;have h:((s.heap.push W.emptyDict).push (W.instObj C ⇑s)).get? (⇑s+1)=some (W.instObj C ⇑s):=by
  have:=Heap.get?_push_size (s.heap.push W.emptyDict) (o:=W.instObj C ⇑s) rfl;rwa[Heap.size_push] at this
 have i:(s.heap.push W.emptyDict).Ns ⇑s (λ_=>none):=⟨W.emptyDict,#[],_,d,rfl,(λe j=>absurd j (by simp)),λ_=>rfl⟩
 have g:=I.laid (a:=⇑s) (o:=.own (⇑s+1)) (h':=s.heap.push W.emptyDict) (t':=s.toks) (λb u q=>Heap.get?_push_of_some _ q) (le_refl _) ⟨_,d⟩;refine g.laid (a:=⇑s+1) (o:=.ins C ⇑s []) (t':=s.toks) (λb u q=>Heap.get?_push_of_some _ q) (Nat.le_of_eq (Heap.size_push _ _)) ?_;have ne:⇑s≠⇑s+1:=ne_of_lt (Nat.lt_succ_self _);refine⟨by rw[aW ne,cO],zero_le _,ne,h,λ_=>none,(Heap.Ns1.of_empty i).at λo q=>Heap.get?_push_of_some _ q,λ_=>True.intro,λy l=>absurd rfl l⟩
theorem C5(d:attributeBase e f env (eval e env)=eval e env)(h:wpAny (model prog w) A (eval e env) (λo b=>wpAny (model prog w) A (getAttr o f true) Q E b) E s):wpAny (model prog w) A (eval (.Attribute e f pos) env) Q E s:=
 Attribute_any_ h (by rw[arm_eval_Attribute,d])
end
def vN(K:aj)(g h:TE)(f:Str):TS:=λD j H=>h j H λy e=>g j e λx b=>∃a C d fs,x=.ref a/\b a=some (.ins C d fs)/\fP K C/\a9 K C f/\fs.length<1000/\
 D.nx j (aN b a (.ins C d (eP f y fs)))
section
variable{X:Cx}{o e value:Expr}{f:Str}{pos pos' tpos:Pos}{ta tv:TE}
theorem Ef(w:PE X o ta)(A:PE X value tv)(hs:swapsWith value (some (.Attribute o f pos')) pos.line X.env=pure false):PS X (.Assign [.Attribute o f pos'] value pos) (vN X.K ta tv f):=by
 intro aa s j H D I h;refine plainObj_wpAny_Assign_Attribute (bq (A aa s j H _ I h) λu J b=>?_) hs;let⟨y,g,i,G,q⟩:=b;refine bq (w aa J j g _ i q) λov N d=>?_
 let⟨x,L,m,E,a,C,M,fs,ex,v,c,n,l,B⟩:=d;subst ex;obtain rfl:ov=Value.ref a:=E;exact Kl m v c n l G λO r=>⟨j,_,r,B⟩
end
section
variable{X:Cx}{aa:aT}{σ:St}{H:Hp}{s:ak}{A:Around}{E:ao->ak->Prop}{Q:ao->ak->Prop}{c:ao}{b:Bool}
inductive dF (K:W.Frag) (H:Hp):V->Value->Prop where
 |aE:dF K H .aE (.type "NoneType")
 |bl (x:Bool):dF K H (.bl x) (.type "bool")
 |int (i:Int):dF K H (.int i) (.type "int")
 |str (x:Str):dF K H (.str x) (.type "str")
 |kE (x:UInt64):dF K H (.kE x) (.type "float")
 |ag {a:Addr} {xs:List V} (e:H a=some (.ag xs)):dF K H (.ref a) (.type "list")
 |aA {a:Addr} {o:Obj} {xs:List V} (e:H a=some (.aA o (.ag xs))):dF K H (.ref a) (.type "list")
 |aP {a:Addr} {xs:List V} (e:H a=some (.aP xs)):dF K H (.ref a) (.type "tuple")
 |dK {a:Addr} {kvs:List (aS × V)} (e:H a=some (.dK kvs)):dF K H (.ref a) (.type "dict")
 |dT {a:Addr} {kvs:List (List aS × V)} (e:H a=some (.dT kvs)):dF K H (.ref a) (.type "dict")
 |ins {a C dx:Addr} {fs:List (Str × V)} (e:H a=some (.ins C dx fs)) (cl:fP K C) (ha:W.findIn K (.ref C) "__class__" = some (some (.builtin "object.__class__")))
   (hn:W.specialIn K (.builtin "object.__class__") "__get__"=some (some (.builtin "getset_descriptor.__get__"))) (htk:W.takesIn K (.builtin "object.__class__")=some true)
   (hm:W.mroIn K C (.type "object")=some true):dF K H (.ref a) (.ref C)
theorem KL(I:av X aa σ H s)(f:aC x u)(ty:dF X.K H x t)(e:W.kitOne X.K t c=some b)(h:∀L,Q (.bool b) { s with toks:=L }):
  wpAny (model X.prog X.w) A (call (.builtin "isinstance") [u,c]) Q E s:=by
 cases ty with
 |aE=>cases (show u=Value.none from f);exact W.kia_one W.kitx_none I.cG True.intro e (λz=>nomatch z) h
 |bl y=>cases (show u=Value.bool y from f);exact W.kia_one W.kitx_bool I.cG True.intro e (λz=>nomatch z) h
 |int i=>let⟨t,q⟩:=(show ∃t,u=Value.int i t from f);cases q;exact W.kia_one W.kitx_int I.cG True.intro e (λz=>nomatch z) h
 |str y=>let⟨t,q⟩:=(show ∃t,u=Value.str y t from f);cases q;exact W.kia_one W.kitx_str I.cG True.intro e (λz=>nomatch z) h
 |kE y=>let⟨t,q⟩:=(show ∃t,u=Value.float y t from f);cases q;exact W.kia_one W.kitx_float I.cG True.intro e (λz=>nomatch z) h
 |@ag a l d=>
  cases (show u=Value.ref a from f);let⟨_,_,n,_,g⟩:=(show aX X.prog X.w H s.heap a (.ag l) from I.aM a _ d);exact W.kia_one W.kitx_list I.cG ⟨_,g,rfl⟩ e (λz=>nomatch z) h
 |@aA a G l d=>
  cases (show u=Value.ref a from f);let⟨_,_,_,n,_,g⟩:=(show aX X.prog X.w H s.heap a (.aA G (.ag l)) from I.aM a _ d);exact W.kia_one W.kitx_list I.cG ⟨_,g,rfl⟩ e (λz=>nomatch z) h
 |@aP a l d=>
  cases (show u=Value.ref a from f);∎;let⟨_,_,_,p⟩:=(show aX X.prog X.w H s.heap a (.aP l) from I.aM a _ d);let⟨o,g,m,_⟩:=p;∎;exact W.kia_one W.kitx_tuple I.cG ⟨o,g,m⟩ e (λz=>nomatch z) h
 |@dK a j d=>
  cases (show u=Value.ref a from f);∎;let⟨_,_,vs,_,p⟩:=(show aX X.prog X.w H s.heap a (.dK j) from I.aM a _ d);let⟨o,B,v,g,m,_⟩:=p;∎;exact W.kia_one W.kitx_dict I.cG ⟨o,g,m.1⟩ e (λz=>nomatch z) h
 |@dT a j d=>
  cases (show u=Value.ref a from f);let⟨_,_,l,_,o,B,v,g,m,_⟩:=(show aX X.prog X.w H s.heap a (.dT j) from I.aM a _ d);exact W.kia_one W.kitx_dict I.cG ⟨o,g,m.1⟩ e (λz=>nomatch z) h
 |@ins a C M fs d cl D hn r hm=>
  cases (show u=Value.ref a from f);∎;let⟨N,O,_⟩:=C4 I.aM d;let⟨od,J,_⟩:=O.look;∎;exact W.kia_one (W.kitx_own (cl.get _) cl.hd D hn r hm) I.cG J e (λz=>nomatch z) h
end
structure bp(k:Nat)(A:Around):Prop where
 hd:A.handled=none
 dp:A.depth+3*k+5<recursionLimit
 un:A.units+16*k+200<cLine
theorem bp.mono(r:bp k A)(h:j<=k):bp j A:=⟨r.hd,by have:=r.dp;omega,by have:=r.un;omega⟩
theorem bp.deeper(r:bp (k+1) A)(env:Env):bp k (A.deeper env):=
 ⟨r.hd,by have:=r.dp;show A.depth+1+3*k+5<_;omega,by have:=r.un;show A.units+3+16*k+200<_;omega⟩
theorem Km{A:Around}{C:ae}{us:aL}{a:List (Str×ao)}:(A.under (.builtin "type.__call__" ⟨.ref C::us,a⟩)).depth=A.depth+1:=by
 first |rfl |simp[Around.under,Code.weight,Code.isCreation,Code.isGuard,Code.isCaller,Code.frames,Code.isFrame,guardIds]
theorem Kn{A:Around}{C:ae}{us:aL}{a:List (Str×ao)}:(A.under (.builtin "type.__call__" ⟨.ref C::us,a⟩)).units=A.units+1:=by
 first |rfl |simp[Around.under,Code.cUnits,Code.frames,Code.isFrame]
theorem bp.make(r:bp (k+1) A)(C:ae)(us:aL)(a:List (Str×ao)):bp k (A.under (.builtin "type.__call__" ⟨.ref C::us,a⟩)):=
 ⟨r.hd,by have:=r.dp;rw[Km];omega,by have:=r.un;rw[Kn];omega⟩
theorem bp.depth(r:bp k A):A.depth<recursionLimit:=by have:=r.dp;omega
theorem bp.units(r:bp k A):A.units+64<cLine:=by have:=r.un;omega
def kl:TA:=λ_ H Q=>Q [] H
def ke(d:TE)(tr:TA):TA:=λj H Q=>d j H λx a=>tr j a λe b=>Q (x::e) b
section
variable{X:Cx}{e:Expr}{es:bL}{te:TE}{t:TA}{pos:Pos}
theorem mh:PA X [] kl:=λ_ _ _ _ H Q I h=>Calls.spliced_nil ⟨[],H,I,.nil,h⟩
theorem k6(l:PE X e te)(m:PA X es t)(hs:do ee e es X.env):PA X (e::es) (ke te t):=by
 intro pos aa s j H Q I h;rw[hs];show wpAny _ _ (spliced ((false,eval e X.env)::backTo pos (starEach es X.env))) _ _ s;refine Calls.spliced_cons (bq (l aa s j H _ I h) λu r a=>?_);let⟨x,d,g,q,n⟩:=a;exact bq (m pos aa r j d _ g n) λus w b=>by let⟨v,f,i,r2,o⟩:=b;exact⟨x::v,f,i,.cons q r2,o⟩
def A9(t:TA):TE:=λj H Q=>t j H λb a=>b.length<=sizeLine/\∀p,a p=none->Q (.ref p) (aN a p (.aP b))
def Ba(t:TA):TE:=λj H Q=>t j H λb a=>b.length<=sizeLine/\∀p,a p=none->Q (.ref p) (aN a p (.ag b))
theorem Rg{x1}(h:PA X es t):PE X (.Tuple es x1 pos) (A9 t):=by
 intro aa s j H Q I l;refine wpAny_Tuple_spliced (bq (h pos aa s j H _ I l) λus a d=>?_);let⟨m,f,g,r,z,q⟩:=d;refine⟨by rw[<- r.length];exact z,?_⟩;have i:f ⇑a=none:=g.aM.fresh (le_refl _);refine⟨.ref ⇑a,aN f ⇑a (.aP m),g.laid (t':=a.toks) (λb u e=>Heap.get?_push_of_some _ e) (le_refl _) ?_,rfl,q _ i⟩;exact⟨z,us,r,⟨_,Heap.get?_push_size _ rfl,rfl,_,rfl⟩⟩
theorem Rh(h:PA X es t):PE X (.List es pos) (Ba t):=by
 intro aa s j H Q I l;refine wpAny_List_spliced (bq (h pos aa s j H _ I l) λus a d=>?_);let⟨m,f,g,r,z,q⟩:=d;refine⟨by rw[<- r.length];exact z,?_⟩;have i:f ⇑a=none:=g.aM.fresh (le_refl _);refine⟨.ref ⇑a,aN f ⇑a (.ag m),g.laid (t':=a.toks) (λb u e=>Heap.get?_push_of_some _ e) (le_refl _) ?_,rfl,q _ i⟩;exact⟨z,us,0,r,Heap.get?_push_size _ rfl⟩
end
abbrev Sp:=ax->Hp->VK->XK->Prop
abbrev fm:=b5->Hp->ak->XK->ao->ak->Prop
structure gJ(P:Program)(w:World)(K:aj)(mg:bc)(base:aO)(A:Around)(outer:b5)(s:ak)(H:Hp):Prop where
 frames:A.frames=some outer
 mod:Mod K mg base
 bs:∀b o,base.get? b=some o->s.heap.get? b=some o/\H b=none
 i7:base.objs.size<=⇑s
 du:s.heap.FunFrames base outer
 jS:∀b∈cg outer,H b=none
 aM:cR P w H s.heap
 bare:AllBare s.gens
def CE(outer:b5)(P:Program)(w:World)(H:Hp)(s:ak)(Q:VK)(u:ao)(s':ak):Prop:=
 ∃v a,s'.os=s.os/\AllBare s'.gens/\Un (cg outer) [] H a s.heap s'.heap/\cR P w a s'.heap/\aC v u/\Q v a
def CR(CX:fm)(outer:b5)(P:Program)(w:World)(H:Hp)(s:ak)(Q:VK)(E:XK)(r:Result)(s':ak):Prop:=
 match r with
 |.ok (.ret u)=>CE outer P w H s Q u s'
 |.ok _=>False
 |.error e=>CX outer H s E e s'
structure aK(P:Program)(w:World)(K:aj)(mg:bc)(base:aO)(CX:fm)(k:Nat)(f:ae)(fd:FuncData)(ps:ah)(sp:Sp):Prop where
 len:∀vs H Q E,sp vs H Q E->vs.length=ps.length
 run:∀(A:Around)(outer:b5)(s:ak)(H:Hp)(args:Args)(us:aL)(vs:ax)(Q:VK)(E:XK),bp k A->gJ P w K mg base A outer s H->BindsTo s fd args (ps.zip us)->aH vs us->sp vs H Q E->
  codeAny (model P w) A (.call (.ref f) args) (CR CX outer P w H s Q E) s
theorem aK.mono{P:Program}{w:World}{K:aj}{mg:bc}{base:aO}{CX:fm}{j k:Nat}{f:ae}{a:FuncData}{ps:ah}{sp:Sp}(F:aK P w K mg base CX j f a ps sp)(h:j<=k):
  aK P w K mg base CX k f a ps sp:=⟨F.len,λA outer s H args us vs Q E b=>F.run A outer s H args us vs Q E (b.mono h)⟩
theorem aK.imp{P:Program}{w:World}{K:aj}{mg:bc}{base:aO}{CX:fm}{k:Nat}{f:ae}{b:FuncData}{ps:ah}{sp a:Sp}(F:aK P w K mg base CX k f b ps sp)(h:∀vs H Q E,a vs H Q E->sp vs H Q E):aK P w K mg base CX k f b ps a:=
 ⟨λvs H Q E q=>F.len vs H Q E (h _ _ _ _ q),λA outer s H args us vs Q E g e d j i=>F.run A outer s H args us vs Q E g e d j (h _ _ _ _ i)⟩
theorem gJ.make{P:Program}{w:World}{K:aj}{mg:bc}{base:aO}{A:Around}{outer:b5}{s:ak}{H:Hp}(e:gJ P w K mg base A outer s H)(C:ae)(us:aL)(a:List (Str×ao)):
  gJ P w K mg base (A.under (.builtin "type.__call__" ⟨.ref C::us,a⟩)) outer s H:=⟨by first |exact e.frames |(simpa [Around.under,Code.envs,Code.isFrame,pushEnvs] using e.frames),e.mod,e.bs,e.i7,e.du,e.jS,e.aM,e.bare⟩
section
variable{X:Cx}{aa:aT}{σ:St}{H:Hp}{s s':ak}
theorem av.kD(I:av X aa σ H s):gJ X.prog X.w X.K X.mg X.base X.A X.stack s H:=
 ⟨I.ok.frames,I.ok.mod,I.bs,le_trans I.ok.i7 I.sz,I.stack,I.fN,I.aM,I.bare⟩
theorem av.after(I:av X aa σ H s)(h:CE X.stack X.prog X.w H s Q u s'):EP X aa σ Q u s':=by
 ∎;let⟨v,e,os,bare,un,aM,r,q⟩:=h;let⟨f,g,d,t,a⟩:=s';∎;obtain rfl:a=s.os:=os;exact⟨v,e,I.call (h':=f) (g':=g) (d':=d) (t':=t) (ch:=[]) un aM bare (λb z=>absurd z (by simp)),r,q⟩
end
def Ax(sp:Sp)(a:ax)(E:XK)(t:TA):TE:=λj H Q=>t j H λvs b=>sp (vs++a) b Q E
def Binds(K:aj)(b:FuncData)(ps:ah)(a:aL):Prop:=
 ∀(s:ak)(us:aL),K.In s.heap->(us++a).length=ps.length->BindsTo s b ⟨us,[]⟩ (ps.zip (us++a))
theorem Binds.all{K:aj}{a:FuncData}{ps:ah}(h:∀us:aL,us.length=ps.length->bindArgs a ⟨us,[]⟩=pure (ps.zip us)):Binds K a ps []:=λs us _ b=>by
 rw[append_nil] at b ⊢;exact .of_eq (h us b)
def lS(CX:fm)(X:Cx)(E:XK):Prop:=∀(aa:aT)(j:St)(H:Hp)(s:ak)(e:ao)(a:ak),av X aa j H s->CX X.stack H s E e a->X.xe e a
section
variable{X:Cx}{CX:fm}{k:Nat}{f C:ae}{fd:FuncData}{ps:ah}{sp:Sp}{dvs:ax}{ds:aL}{E:XK}{x m:Str}{p pos apos:Pos}{e o:Expr}{es:bL}{ta:TE}{t:TA}
theorem Ri(F:aK X.prog X.w X.K X.mg X.base CX k f fd ps sp)(i:bp k X.A)(d:Binds X.K fd ps ds)(hd:aH dvs ds)(l:lS CX X E)(I:av X aa j H s)(r:aH vs us)(h:sp (vs++dvs) H Q E):wpAny (model X.prog X.w) X.A (call (.ref f) us) (EP X aa j Q) X.xe s:=by
 have r2:aH (vs++dvs) (us++ds):=r.append hd;have g:(us++ds).length=ps.length:=by rw[<- r2.length];exact F.len _ _ _ _ h
 refine wpAny_call (codeAny_mono (F.run X.A X.stack s H ⟨us,[]⟩ (us++ds) (vs++dvs) Q E i I.kD (d s us I.cG g) r2 h) λr n a=>?_);cases r with
 |error e=>exact l aa j H s e n I a
 |ok b=>
  cases b with
  |ret u=>exact I.after a
  |next=>exact False.elim a
  |brk=>exact False.elim a
  |cont=>exact False.elim a
theorem PH(F:aK X.prog X.w X.K X.mg X.base CX k f fd ps sp)(y:bp k X.A)(u:Gl X x)(hm:X.mg x=some (.ref f))(v:W.keepIn X.K (.ref f)=true)(l:Binds X.K fd ps ds)(hd:aH dvs ds)(B:lS CX X E)(i:PA X (e::es) t)(a: ~~~(da x))(n:do ee e es X.env)(b:do eZ pos es X.env):
  PE X (.Call (.Name x p) (e::es) [] pos) (Ax sp dvs E t):=by
 intro aa s j H Q I h;refine wpAny_Call_Name_kw (k4 I u hm ?_ a);refine W.callWith_K (h₀:=X.base) I.ok.mod.kG v (bq (i pos aa s j H _ I h) λus G d=>?_) n b;let⟨vs,D,g,r,q⟩:=d;refine⟨g.cG,?_⟩;exact Ri F y l hd B g r q
structure Mk(K:aj)(C f:ae):Prop where
 makes:W.makesIn K C=true
 init:W.findIn K (.ref C) "__init__"=some (some (.ref f))
 fn:W.isFn K (.ref f)=true
 kp:W.keepIn K (.ref C)=true
end
structure bW(N P:ah)(sc:Scope):Prop where
 kind:sc.kind=.function
 co:sc.isCoroutine=false
 gen:sc.isGenerator=false
 nd:N.Nodup
 pre:N.take P.length=P
 par:∀x∈P,sc.names.lookup x=some .local\/sc.names.lookup x=some .cell
 mP:∀y∈sc.names,y.2≠.free
theorem BZ{kindOf:Str->Option NameKind}{x:Str}:∀{binds:List (Str×ao)}{m:bc},(∀v,(x,v) ∉ binds)->bindL kindOf binds m x=m x
 |[],_,_=>rfl
 |(n,v)::r,m,h=>by
  unfold bindL;rw[BZ λw a=>h w (mem_cons_of_mem _ a)];split
  .have:x≠n:=by rintro rfl;exact h v List.mem_cons_self
   simp[this]
  .rfl
theorem Ce{kindOf:Str->Option NameKind}{x:Str}:∀{binds:List (Str×ao)}{m:bc},(∀v,(x,v) ∉ binds)->bindC kindOf binds m x=m x
 |[],_,_=>rfl
 |(n,v)::r,m,h=>by
  unfold bindC;rw[Ce λw a=>h w (mem_cons_of_mem _ a)];split
  .rfl
  .have:x≠n:=by rintro rfl;exact h v List.mem_cons_self
   simp[this]
theorem Cf{kindOf:Str->Option NameKind}{v:ao}:∀{P:ah}{vs:aL}{i:Nat}{m:bc},P.Nodup->P[i]?=some x->vs[i]?=some v->kindOf x=some .local->
  bindL kindOf (P.zip vs) m x=some v
 |[],_,_,_,_,h,_,_=>by simp at h
 |_::_,[],_,_,_,_,h,_=>by simp at h
 |p::P,w::vs,0,m,nd,h1,h2,hk=>by
  simp at h1 h2;subst h1;subst h2;show bindL kindOf ((p,w)::P.zip vs) m p=_;unfold bindL;rw[BZ λv a=>(nodup_cons.mp nd).1 (of_mem_zip a).1,if_pos hk];simp
 |p::P,w::vs,i + 1,m,nd,h1,h2,hk=>by
  show bindL kindOf ((p,w)::P.zip vs) m x=_;unfold bindL;exact Cf (i:=i) (nodup_cons.mp nd).2 (by simpa using h1) (by simpa using h2) hk
theorem Cg{kindOf:Str->Option NameKind}{v:ao}:∀{P:ah}{vs:aL}{i:Nat}{m:bc},P.Nodup->P[i]?=some x->vs[i]?=some v->kindOf x≠some .local->
  bindC kindOf (P.zip vs) m x=some v
 |[],_,_,_,_,h,_,_=>by simp at h
 |_::_,[],_,_,_,_,h,_=>by simp at h
 |p::P,w::vs,0,m,nd,h1,h2,hk=>by
  simp at h1 h2;subst h1;subst h2;show bindC kindOf ((p,w)::P.zip vs) m p=_;unfold bindC;rw[Ce λv a=>(nodup_cons.mp nd).1 (of_mem_zip a).1,if_neg hk];simp
 |p::P,w::vs,i + 1,m,nd,h1,h2,hk=>by
  show bindC kindOf ((p,w)::P.zip vs) m x=_;unfold bindC;exact Cg (i:=i) (nodup_cons.mp nd).2 (by simpa using h1) (by simpa using h2) hk
def start(N:ah)(vs:ax):St:=vs.map some++List.replicate (N.length - vs.length) none
def i1(CX:fm)(P:Program)(w:World)(K:aj)(mg:bc)(base:aO)(N:ah)(b:Str)(a:Scope)(f:ae)(g:ao)(A:Around)(outer:b5)(s:ak)(H:Hp)(E:XK):Cx where
 prog:=P
 w:=w
 K:=K
 mg:=mg
 base:=base
 A:=A.deeper (envOfC b a ⇑s f g)
 N:=N
 s₀:=s
 H₀:=H
 env:=envOfC b a ⇑s f g
 outer:=outer
 stack:=envOfC b a ⇑s f g::outer
 ex:=[]
 calm:=true
 fn:=λ_=>true
 pn:=[]
 xe:=λe i=>wpAny (model P w) (A.deeper (envOfC b a ⇑s f g)) (leaving (envOfC b a ⇑s f g) e) (λ_ d=>CX outer H s E e d) (λh d=>CX outer H s E h d) i
theorem B7{sc:Scope}{n:Nat}{x:Str}(h:sc.names.lookup x=some .cell):∃c,(cellsFrom n sc.names []).lookup x=some c:=by
 have q:=W.cellsFrom_some sc.names n [] (.inl h);exact Option.isSome_iff_exists.mp q
theorem KN{CX:fm}{P:Program}{w:World}{K:aj}{mg:bc}{base:aO}{N ps:ah}{g:Str}{d:Scope}{f:ae}{D:ao}{A:Around}{outer:b5}{s M:ak}{H:Hp}{E:XK}{us:aL}{vs:ax}(S:bW N ps d)(hd:A.handled=none)(l:gJ P w K mg base A outer s H)(hl:vs.length=ps.length)(r:aH vs us)(x:InCallC s ⇑s (bindL (envOfC g d ⇑s f D).kindOf (ps.zip us) λ_=>none) (cellsFrom (⇑s+1) d.names []) (bindC (envOfC g d ⇑s f D).kindOf (ps.zip us) λ_=>none) M):
  av (i1 CX P w K mg base N g d f D A outer s H E) [] (start N vs) H M:=by
 have Q:ps.length<=N.length:=by have:=congrArg List.length S.pre;rw[length_take] at this;omega
 let⟨G,tk,rfl,J⟩:=x.done;have o:∀b:Addr,b ∉ (i1 CX P w K mg base N g d f D A outer s H E).ex:=λb z=>absurd (show b∈([]:cz) from z) (by simp)
 refine⟨⟨l.mod,S.kind,rfl,rfl,le_refl _,λy z c G j=>?_,λy m=>?_,λy c _ h=>?_,λ_=>hd,Around.frames_deeper l.frames,.inr ⟨rfl,rfl⟩,λb z=>absurd z (o b),l.bs,l.i7,λb _ _=>o b,λb z=>absurd z (o b),l.du,l.jS⟩,
  rfl,l.bare,Un.kept J,⟨_,x.toInCall.ns,λi y v G j Y=>?_⟩,λy c h=>⟨_,x.cell y c h⟩,l.aM.fresh (le_refl _),λy c h=>?_,λp B=>absurd (show p∈([]:aT) from B) (by simp),l.aM.kept J,?_⟩
 .exact name_of_addr x.apart (PySem.mem_of_lookup G) (PySem.mem_of_lookup j)
 .have m:d.names.lookup y=some .cell\/d.names.lookup y=some .free:=m;rcases m with m |m
  .exact B7 m
  .exact absurd rfl (S.mP _ (PySem.mem_of_lookup m))
 .exact Nat.le_of_lt (x.above y c (PySem.mem_of_lookup h))
 .have I:i<vs.length:=by
   unfold start at j;by_cases I:i<vs.length
   .exact I
   .rw[getElem?_append_right (by simpa using I)] at j;rw[List.getElem?_replicate] at j;split at j<;>cases j
  have O:vs[i]?=some v:=by
   unfold start at j;rw[getElem?_append_left (by simpa using I),getElem?_map] at j;cases e:vs[i]? with
   |none=>rw[e] at j;cases j
   |some a=>rw[e] at j;cases j;rfl
  let⟨u,L,U⟩:=r.get O;have B:ps[i]?=some y:=by
   rw[<- S.pre,List.getElem?_take_of_lt ⋯];exact G
  have C:ps.Nodup:=by rw[<- S.pre];exact S.nd.sublist (List.take_sublist _ _)
  refine⟨u,U,?_⟩;rcases S.par y (mem_of_getElem? B) with k |k
  .exact .inl ⟨k,Cf C B L k⟩
  .obtain⟨c,e⟩:=B7 (n:=⇑s+1) k;refine .inr ⟨.inl k,c,e,?_⟩;have q:=x.cell y c e;rw[Cg C B L (by show d.names.lookup y≠_;rw[k];decide)] at q;exact q
 .exact l.aM.fresh (Nat.le_of_lt (x.above y c (PySem.mem_of_lookup h)))
 .unfold start;show _=N.length;rw[length_append,length_map,length_replicate];omega
theorem ES{CX:fm}{P:Program}{w:World}{K:aj}{mg:bc}{base:aO}{k:Nat}{f:ae}{j d:Str}{g:Arguments}{h:List Stmt}{a:Scope}{dV kV doc pm a7 ct oc:ao}{an od:bT}{osl:Array (dZ)}{N ps:ah}{sp:Sp}(lk:K.lookup f=some ⟨oc,od,.func (W.fnOf j d g h a dV kV doc pm an a7 ct),osl⟩)(M:W.codeIn K a7 d=true)(S:bW N ps a)(len:∀vs H Q E,sp vs H Q E->vs.length=ps.length)(l:∀(A:Around)(outer:b5)(s:ak)(H:Hp)(vs:ax)(Q:VK)(E:XK),bp k (A.deeper (envOfC d a ⇑s f a7))->sp vs H Q E->
   ∃t,eL (i1 CX P w K mg base N d a f a7 A outer s H E) h t/\t { nx:=λ_ i=>Q .aE i,rt:=Q } (start N vs) H):
  aK P w K mg base CX (k+1) f (W.fnOf j d g h a dV kV doc pm an a7 ct) ps sp:=by
 refine⟨len,λA outer s H args us vs Q E O C hb r G=>?_⟩;have hl:=len _ _ _ _ G;have KX:K.In s.heap:=C.mod.kG.keeps λb o e=>(C.bs b o e).1
 have U:s.heap.NoLimit:=C.mod.nolimit.keeps λb o e=>(C.bs b o e).1
 have m:∀y∈ps.zip us,a.names.lookup y.1=some .local\/(a.names.lookup y.1=some .cell/\((cellsFrom (⇑s+1) a.names []).lookup y.1).isSome=true):=λ⟨n,v⟩ hy=>by
  rcases S.par n (of_mem_zip hy).1 with q |q
  .exact .inl q
  .exact .inr ⟨q,W.cellsFrom_some _ _ _ (.inl q)⟩
 refine codeAny_call_function O.depth (KX _ _ lk) rfl S.co S.gen rfl (W.codeRec_of KX M) (hb _ _ _ _ ?_);refine wpAny_newFunctionEnv_cells S.kind m λenv he s1 x=>?_
 subst he;refine⟨U.keeps x.toInCall.keep,codeAny_func ?_⟩;let⟨t,ht,hq⟩:=l A outer s H vs Q E (O.deeper _) G;have I:av (i1 CX P w K mg base N d a f a7 A outer s H E) [] (start N vs) H s1:=KN S O.hd C hl r x;refine wpAny_mono (ht [] s1 (start N vs) H _ I hq) (λfl s' B=>?_) λe s' B=>B
 have D:∀{L:St}{i:Hp}{v:V}{u:ao},av (i1 CX P w K mg base N d a f a7 A outer s H E) [] L i s'->aC v u->Q v i->CE outer P w H s Q u s':=
  λ{L i v u} J Y q=>⟨v,i,J.os,J.bare,J.base,J.aM,Y,q⟩
 cases fl with
 |ret u=>
  let⟨v,L,i,J,Y,q⟩:=B;exact D J Y q
 |next=>
  let⟨L,i,J,q⟩:=B;exact D (v:=V.aE) (u:=Value.none) J rfl q
 |brk=>
  let⟨_,_,_,q⟩:=B;exact False.elim q
 |cont=>
  let⟨_,_,_,q⟩:=B;exact False.elim q
section
variable{X:Cx}{x:Str}{p pos:Pos}{e:Expr}{es:bL}{t:TA}{id T:String}{r:ax->Hp->VK->Prop}
def qT(r:ax->Hp->VK->Prop)(t:TA):TE:=λj H Q=>t j H λvs a=>r vs a Q
theorem Nj(l:bU X (.builtin id) r)(n:Gl X x)(hm:X.mg x=none)(o:bootBuiltins x=some (.builtin id))(i:PA X (e::es) t)(hn: ~~~(x≠"__name__"))(a: ~~~(da x))(m:do ee e es X.env)(b:do eZ pos es X.env):PE X (.Call (.Name x p) (e::es) [] pos) (qT r t):=by
 intro aa s j H Q I h;refine wpAny_Call_Name_kw (mf I n hm o ?_ hn a);exact PyProof.Rows.callWith_builtin1 (bq (i pos aa s j H _ I h) λus v d=>by let⟨vs,f,g,u,q⟩:=d;exact l aa v j f vs us Q g u q) m b
theorem v3(l:bU X (.type T) r)(n:Gl X x)(hm:X.mg x=none)(o:bootBuiltins x=some (.type T))(i:PA X (e::es) t)(hn: ~~~(x≠"__name__"))(a: ~~~(da x))(m:do ee e es X.env)(b:do eZ pos es X.env):PE X (.Call (.Name x p) (e::es) [] pos) (qT r t):=by
 intro aa s j H Q I h;refine wpAny_Call_Name_kw (mf I n hm o ?_ hn a);exact PyProof.Rows.callWith_type1 (bq (i pos aa s j H _ I h) λus v d=>by let⟨vs,f,g,u,q⟩:=d;exact l aa v j f vs us Q g u q) m b
end
section
variable{κ:Type}[DecidableEq κ]
def adc(kvs:List (κ×V))(k:κ):Option V:=(kvs.find? λa=>decide (a.1=k)).map (·.2)
def gO(kvs:List (κ×V))(k:κ)(v:V):List (κ×V):=
 if (kvs.any λa=>decide (a.1=k))=true then kvs.map (λa=>if a.1=k then (a.1,v) else a) else kvs++[(k,v)]
theorem we{p:κ×V}{r:List (κ×V)}{k:κ}(e:p.1=k):adc (p::r) k=some p.2:=by simp[adc,find?_cons,e]
theorem wg{p:κ×V}{r:List (κ×V)}{k:κ}(e:¬ p.1=k):adc (p::r) k=adc r k:=by simp[adc,find?_cons,e]
theorem B8(k:κ):∀kvs:List (κ×V),(kvs.any λa=>decide (a.1=k))=(adc kvs k).isSome
 |[]=>rfl
 |p::r=>by
  rw[any_cons];by_cases e:p.1=k
  .simp only[we e,decide_eq_true e,Bool.true_or,Option.isSome_some]
  .rw[wg e,decide_eq_false e,Bool.false_or];exact B8 k r
theorem BK(kvs:List (κ×V))(k:κ)(v:V):(gO kvs k v).length<=kvs.length+1:=by
 unfold gO;split
 .rw[length_map];omega
 .rw[length_append,length_cons,length_nil];omega
theorem bX.cF(r:bX o u):o.isSome=u.isSome:=by
 cases o with
 |none=>cases u with
  |none=>rfl
  |some _=>exact (show False from r).elim
 |some _=>cases u with
  |none=>exact (show False from r).elim
  |some _=>rfl
theorem bX.getD(r:bX o u)(rd:aC d d'):aC (o.getD d) (u.getD d'):=by
 cases o with
 |none=>cases u with
  |none=>exact rd
  |some _=>exact (show False from r).elim
 |some _=>cases u with
  |none=>exact (show False from r).elim
  |some _=>exact r
theorem KV.val{kvs:List (κ×V)}{vs:List (κ×ao)}(r:KV kvs vs)(k:κ):bX (adc kvs k) (valueAt vs k):=by
 unfold KV at r
 induction r with
 |nil=>exact True.intro
 |@cons p q i a h t g=>
  let⟨d,f⟩:=h;by_cases e:p.1=k
  .have e':q.1=k:=d.symm.trans e;have b:valueAt (q::a) k=some q.2:=by simp[valueAt,find?_cons,e']
   rw[we e,b];exact f
  .have e':¬ q.1=k:=λz=>e (d.trans z)
   have b:valueAt (q::a) k=valueAt a k:=by simp[valueAt,find?_cons,e']
   rw[wg e,b];exact g
theorem KV.any(r:KV kvs vs)(k:κ):(kvs.any λa=>decide (a.1=k))=vs.any λa=>decide (a.1=k):=by
 unfold KV at r
 induction r with
 |nil=>rfl
 |cons h t b=>rw[any_cons,any_cons,b,h.1]
theorem KV.mU(r:KV kvs vs)(k:κ)(g:aC y u):
  KV (kvs.map λa=>if a.1=k then (a.1,y) else a) (vs.map λa=>if a.1=k then (a.1,u) else a):=by
 unfold KV at r ⊢
 induction r with
 |nil=>exact .nil
 |@cons p q i j h t f=>
  rw[map_cons,map_cons];refine .cons ?_ f;let⟨b,d⟩:=h;by_cases e:p.1=k
  .rw[if_pos e,if_pos (b.symm.trans e)];exact⟨b,g⟩
  .rw[if_neg e,if_neg (λz=>e (b.trans z))];exact⟨b,d⟩
theorem KV.put(r:KV kvs vs)(k:κ)(a:aC y u):KV (gO kvs k y) (stored vs k u):=by
 unfold gO stored;rw[r.any k];by_cases e:(vs.any λb=>decide (b.1=k))=true
 .rw[if_pos e,if_pos e];exact r.mU k a
 .rw[if_neg e,if_neg e];exact Paired.snoc r ⟨rfl,a⟩
theorem KV.length(r:KV kvs vs):kvs.length=vs.length:=Paired.length r
end
theorem oi(r:aC (kV k) u):(eh P w).is k u=true:=by
 cases k with
 |inl i=>let⟨t,e⟩:=(show ∃t,u=Value.int i t from r);subst e;exact Jp P w i t
 |inr x=>let⟨t,e⟩:=(show ∃t,u=Value.str x t from r);subst e;exact Jq P w x t
theorem Ci:∀{ks:List aS}{us:aL},aH (ks.map kV) us->ItemsAre (eh P w) ks us
 |[],_,r=>by rw[map_nil] at r;cases r;exact .nil
 |k::ks,_,r=>by
  rw[map_cons] at r;cases r with
  |cons h t=>exact .cons (oi h) (Ci t)
abbrev KT(H:Hp):List (List aS×V)->List (List aS×ae×ao)->Prop:=Paired λp q=>p.1=q.1/\H q.2.1=some (.aP (p.1.map kV))/\aC p.2 q.2.2
theorem KT.val{H:Hp}{kvs:List (List aS×V)}{xs:List (List aS×ae×ao)}(r:KT H kvs xs)(k:List aS):bX (adc kvs k) ((atKey xs k).map (·.2)):=by
 induction r with
 |nil=>exact True.intro
 |@cons p q i a h t g=>
  let⟨d,_,f⟩:=h;by_cases e:p.1=k
  .have e':q.1=k:=d.symm.trans e;have b:atKey (q::a) k=some q.2:=by simp[atKey,find?_cons,e']
   rw[we e,b];exact f
  .have e':¬ q.1=k:=λz=>e (d.trans z)
   have b:atKey (q::a) k=atKey a k:=by simp[atKey,find?_cons,e']
   rw[wg e,b];exact g
theorem KT.mU(r:KT H kvs xs)(k:List aS)(i:aC y u):
  KT H (kvs.map λb=>if b.1=k then (b.1,y) else b) (xs.map (putAt k u)):=by
 induction r with
 |nil=>exact .nil
 |@cons p q j l h t g=>
  rw[map_cons,map_cons];refine .cons ?_ g;let⟨a,d,f⟩:=h;unfold putAt;by_cases e:p.1=k
  .rw[if_pos e,if_pos (a.symm.trans e)];exact⟨a,d,i⟩
  .rw[if_neg e,if_neg (λz=>e (a.trans z))];exact⟨a,d,f⟩
theorem KT.put{H:Hp}(r:KT H kvs xs)(k:List aS)(d:H b=some (.aP (k.map kV)))(a:aC y u):
  KT H (gO kvs k y) (storedH xs k b u):=by
 have e:(kvs.any λf=>decide (f.1=k))=(atKey xs k).isSome:=by
  rw[B8,(r.val k).cF,isSome_map]
 unfold gO storedH;rw[e];by_cases q:(atKey xs k).isSome=true
 .rw[if_pos q,if_pos q];exact r.mU k a
 .rw[if_neg q,if_neg q];exact Paired.snoc r ⟨rfl,d,a⟩
theorem KT.keeps{H a:Hp}(r:KT H kvs xs)(ht:∀b ys,H b=some (.aP ys)->a b=some (.aP ys)):KT a kvs xs:=
 Paired.mO r λ_ _ z=>⟨z.1,ht _ _ z.2.1,z.2.2⟩
section
variable{P:Program}{w:World}{H:Hp}{h:aO}{a:ae}
theorem ET(ok:cR P w H h)(e:Rd H a u):aX P w H h a u:=e.ok ok
theorem jk(ok:cR P w H h)(e:Rd H a (.dK kvs)):kvs.length<=sizeLine/\(a == sysModules)=false/\∃vs,KV kvs vs/\h.DictOf (eh P w) a vs:=
 show aX P w H h a (.dK kvs) from ET ok e
theorem tZ(ok:cR P w H h)(e:H a=some (.dK kvs)):kvs.length<=sizeLine/\(a == sysModules)=false/\∃vs,KV kvs vs/\h.DictOf (eh P w) a vs:=jk ok (.inl e)
theorem nZ(ok:cR P w H h)(e:H a=some (.aP (ks.map kV))):(tupleKind (eh P w)).is h ks a:=by
 let⟨_,b,r,o,d,f,n,g⟩:=(show aX P w H h a (.aP (ks.map kV)) from ok a _ e);exact⟨o,b.toArray,n,d,f,g,by simpa using Ci r⟩
theorem mF(ok:cR P w H h)(e:Rd H a (.dT kvs)):kvs.length<=sizeLine/\(a == sysModules)=false/\
  ∃xs,KT H kvs xs/\h.DictOfH (tupleKind (eh P w)) a xs:=by
 let⟨z,y,xs,r,o,g,f,i,j,n,s,u⟩:=(show aX P w H h a (.dT kvs) from ET ok e);refine⟨z,y,xs,r,o,g,f,i,j,n,s,λx b=>?_,u⟩;have all:∀{l:List (List aS×V)}{m:List (List aS×ae×ao)},KT H l m->∀x∈m,(tupleKind (eh P w)).is h x.1 x.2.1:=by
  intro l m q
  induction q with
  |nil=>intro x b;exact nomatch b
  |@cons p q A B d t v=>
   intro x b;rcases mem_cons.mp b with e |b
   .subst e;exact nZ ok (by rw[<- d.1];exact d.2.1)
   .exact v x b
 exact all r x b
theorem Tt(ok:cR P w H h)(e:H a=some (.dT kvs)):kvs.length<=sizeLine/\(a == sysModules)=false/\
  ∃xs,KT H kvs xs/\h.DictOfH (tupleKind (eh P w)) a xs:=mF ok (.inl e)
end
def kX(H:Hp)(a:ae)(y:V)(r:Option V):Prop:=
 (∃d k,Rd H a (.dK d)/\y=kV k/\r=adc d k)\/∃d k b,Rd H a (.dT d)/\y=.ref b/\H b=some (.aP (k.map kV))/\r=adc d k
def jf(H:Hp)(a:ae)(y v:V)(e:Hp):Prop:=
 (∃d k,H a=some (.dK d)/\y=kV k/\d.length<sizeLine/\e=aN H a (.dK (gO d k v)))\/
 ∃d k b,H a=some (.dT d)/\y=.ref b/\H b=some (.aP (k.map kV))/\d.length<sizeLine/\e=aN H a (.dT (gO d k v))
theorem jf.k{H:Hp}{a:ae}{kvs:cy}{k:aS}{v:V}(e:H a=some (.dK kvs))(b:kvs.length<sizeLine):jf H a (kV k) v (aN H a (.dK (gO kvs k v))):=.inl ⟨kvs,k,e,rfl,b,rfl⟩
section
variable{X:Cx}{aa:aT}{σ:St}{H:Hp}{s:ak}{a:ae}{y v:V}{u r:ao}{o:Option V}{A:Around}{E:ao->ak->Prop}
theorem av.big(I:av X aa σ H s):sysModules<⇑s:=by
 have h:mainGlobals<⇑s:=(I.mod.glob.keeps I.bk).lt;exact Nat.lt_trans ∎ h
theorem KO{Q:ao->ak->Prop}(C:A.units+1<cLine)(I:av X aa σ H s)(g:kX H a y (some v))(x:aC y u)(h:∀i s',av X aa σ H s'->aC v i->Q i s'):
  wpAny (model X.prog X.w) A (getItem (.ref a) u) Q E s:=by
 rcases g with⟨q,k,e,j,l⟩ |⟨q,k,b,e,j,eb,l⟩
 .subst j;∎;let⟨z,hd,vs,d,dd⟩:=jk I.aM e;let⟨i,n,f⟩:=bX.some_of (v:=v) (o:=valueAt vs k) (by rw[l];exact d.val k);∎;exact wpAny_getItem_of (oi x) dd.mapOf n (h i _ (I.tok _) f)
 .subst j;cases (show u=Value.ref b from x);∎;let⟨z,hd,D,d,dd⟩:=mF I.aM e;let⟨i,n,f⟩:=bX.some_of (v:=v) (o:=(atKey D k).map (·.2)) (by rw[l];exact d.val k);let⟨p,B,m⟩:=Option.map_eq_some_iff.mp n;∎;refine wpAny_getItem_heap (tupleKind_room_in1 C) (nZ I.aM eb) dd B ?_;rw[m];exact h i _ (I.tok _) f
theorem UO{Q:ao->ak->Prop}(m:A.units+1<cLine)(I:av X aa σ H s)(g:kX H a y o)(j:aC y u)(h:∀s',av X aa σ H s'->Q (.bool o.isSome) s'):
  wpAny (model X.prog X.w) A (compareOp .In u (.ref a)) Q E s:=by
 rcases g with⟨i,k,e,f,l⟩ |⟨i,k,b,e,f,eb,l⟩
 .subst f;let⟨z,hd,vs,d,dd⟩:=jk I.aM e;refine wpAny_in_of (oi j) hd dd.mapOf ?_;rw[<- (d.val k).cF,<- l];exact h _ (I.tok _)
 .subst f;cases (show u=Value.ref b from j);let⟨z,hd,n,d,dd⟩:=mF I.aM e;refine wpAny_in_heap (tupleKind_room_in1 m) (nZ I.aM eb) hd dd ?_;have q:=(d.val k).cF;rw[isSome_map] at q;rw[<- q,<- l];exact h _ (I.tok _)
theorem PJ{Q:ao->ak->Prop}(m:A.units+1<cLine)(I:av X aa σ H s)(g:kX H a y o)(j:aC y u)(h:∀s',av X aa σ H s'->Q (.bool (!o.isSome)) s'):
  wpAny (model X.prog X.w) A (compareOp .NotIn u (.ref a)) Q E s:=by
 rcases g with⟨i,k,e,f,l⟩ |⟨i,k,b,e,f,eb,l⟩
 .subst f;let⟨z,hd,vs,d,dd⟩:=jk I.aM e;refine wpAny_notIn_of (oi j) hd dd.mapOf ?_;rw[<- (d.val k).cF,<- l];exact h _ (I.tok _)
 .subst f;cases (show u=Value.ref b from j);let⟨z,hd,n,d,dd⟩:=mF I.aM e;refine wpAny_notIn_heap (tupleKind_room_in1 m) (nZ I.aM eb) hd dd ?_;have q:=(d.val k).cF;rw[isSome_map] at q;rw[<- q,<- l];exact h _ (I.tok _)
theorem C6(I:av X aa σ H s)(h:oK (H a))(hs:Heap.SameBut a s.heap h')(g:∃q,h'.get? a=some q)(d:aX X.prog X.w (aN H a ob) h' a ob):
  av X aa σ (aN H a ob) { s with heap:=h',toks:=t' }:=
 I.write (x:=a) (e:=a) h (.inl rfl) (λb q f z=>(hs.2 b f).trans z) g d
theorem Rj(z:kvs.length<=sizeLine)(hd:(a == sysModules)=false)(b:KV kvs vs)(dd:h'.DictOf (eh P w) a vs):
  aX P w H' h' a (.dK kvs):=⟨z,hd,vs,b,dd⟩
theorem KP{Q:Unit->ak->Prop}(hu:A.units+1<cLine)(I:av X aa σ H s)(g:jf H a y v H')(L:aC y u)(J:aC v r)(h:∀s',av X aa σ H' s'->Q () s'):
  wpAny (model X.prog X.w) A (setItem (.ref a) u r) Q E s:=by
 rcases g with⟨d,k,e,n,l,m⟩ |⟨d,k,b,e,n,eb,l,m⟩
 .subst n m;let⟨z,hd,vs,f,dd⟩:=tZ I.aM e;have C:vs.length<=sizeLine:=by rw[<- f.length];exact z
  have x:(gO d k v).length<=sizeLine:=by have:=BK d k v;omega
  refine wpAny_setItem_pairs (hsz:=C) (oi L) dd λG i B=>h _ ?_
  have he:∃q,G.get? a=some q:=let ⟨q,_,_,j,_⟩:=i;⟨q,j⟩
  exact C6 I (by rw[e];exact True.intro) B he (Rj x hd (f.put k J) i)
 .subst n m;cases (show u=Value.ref b from L);let⟨z,hd,xs,f,dd⟩:=Tt I.aM e;have C:xs.length<=sizeLine:=by rw[<- Paired.length f];exact z
  have x:(gO d k v).length<=sizeLine:=by have:=BK d k v;omega
  refine wpAny_setItem_heap (hsz:=C) (tupleKind_room_in1 hu) (nZ I.aM eb) dd λG i B=>h _ ?_
  let⟨q,N,M,j,O,U,Y,_,h5⟩:=i;refine C6 I (by rw[e];exact True.intro) B ⟨q,j⟩ ⟨x,hd,_,(f.put k eb J).keeps λc ys D=>?_,q,N,M,j,O,U,Y,h5⟩;rw[aW (Th D e (λz=>nomatch z))];exact D
end
section
variable{X:Cx}{aa:aT}{σ:St}{H:Hp}{s:ak}{a:ae}{kvs:cy}{k:aS}{u:ao}{A:Around}{E:ao->ak->Prop}
theorem Tu{Q:ao->ak->Prop}(I:av X aa σ H s)(e:Rd H a (.dK kvs))(h:∀t s',av X aa σ H s'->Q (.int kvs.length t) s'):wpAny (model X.prog X.w) A (call (.builtin "len") [.ref a]) Q E s:=by
 let⟨z,hd,vs,b,dd⟩:=jk I.aM e;refine call_len_dict hd dd (by rw[<- b.length];rw[sizeLine_eq] at z;omega) ?_;rw[<- b.length];exact h _ _ (I.tok _)
end
theorem Jr(I:av X aa j H s)(g:kX H a y o):s.TypeIs (.ref a) "dict":=by
 rcases g with⟨d,k,e,_,_⟩ |⟨d,k,b,e,_,_,_⟩
 .obtain⟨_,_,vs,_,dd⟩:=jk I.aM e;exact dd.typeIs
 .obtain⟨_,_,xs,_,dd⟩:=mF I.aM e;exact dd.typeIs
def Ay(g ty h:TE):TS:=λD j H=>h j H λv d=>g j d λx e=>ty j e λy f=>∃a b,x=.ref a/\jf f a y v b/\D.nx j b
section
variable{X:Cx}{o i e value:Expr}{pos pos' tpos:Pos}{td ty tv:TE}
theorem PK(J:X.A.units+1<cLine)(G:PE X o td)(E:PE X i ty)(L:PE X value tv)(hs:swapsWith value (some (.Subscript o i pos')) pos.line X.env=pure false):
  PS X (.Assign [.Subscript o i pos'] value pos) (Ay td ty tv):=by
 intro aa s j H D I h;refine wpAny_Assign_Subscript (bq (L aa s j H _ I h) λr s1 b=>?_) hs;let⟨v,l,q,Q,M⟩:=b;refine bq (G aa s1 j l _ q M) λu s2 d=>?_
 let⟨x,m,w,U,N⟩:=d;refine bq (E aa s2 j m _ w N) λiv s3 f=>?_
 let⟨y,H3,B,Y,a,n,ex,g,O⟩:=f;subst ex;obtain rfl:u=Value.ref a:=U;exact KP J B g Y Q λs4 C=>⟨j,n,C,O⟩
end
theorem Nk(h:aO)(a:sysModules<h.objs.size):aX P w H (h.push { cls:=.type "dict",data:=.dict #[] }) h.objs.size (.dK []):=
 ⟨zero_le _,beq_eq_false_iff_ne.mpr (Ne.symm (ne_of_lt a)),[],.nil,Heap.DictOf.new h⟩
def z4:TE:=λ_ H Q=>∀p,H p=none->Q (.ref p) (aN H p (.dK []))
section
variable{X:Cx}{pos:Pos}
theorem Nl:PE X (.Dict [] [] pos) z4:=λaa s j H Q I h=>
 wpAny_Dict_empty ⟨.ref ⇑s,_,I.laid (a:=⇑s) (o:=.dK []) (t':=s.toks) (λ_ _ q=>Heap.get?_push_of_some _ q) (le_refl _) (Nk s.heap I.big),rfl,h _ (I.aM.fresh (le_refl _))⟩
end
structure M2(X:Cx)(o:Expr)(m:Str)(apos:Pos)(e f:Expr)(bw:Pos):Prop where
 base:attributeBase o m X.env (eval o X.env)=eval o X.env
 Ih:((backTo bw (starEach [e,f] X.env)).all (λx=>!x.1)&&(backToKw bw (keywordEach [] X.env)).all (λx=>x.1.isSome)
  && decide (([e,f]:bL).length+([]:List Keyword).length+(if ([]:List Keyword).isEmpty then 0 else 1)<30))=true
 line:(apos.endLine == bw.line)=true
 trees:backTo bw (starEach [e,f] X.env)=[(false,eval e X.env),(false,eval f X.env)]
def yO(H:Hp)(a:ae):Prop:=(∃b,Rd H a (.dK b))\/∃b,Rd H a (.dT b)
theorem qd(I:av X aa j H s)(d:yO H a):
  s.TypeIs (.ref a) "dict"/\(∀b,Value.ref a=.ref b->∃ob,s.heap.get? b=some ob/\ob.dict=none)/\(a == sysModules)=false:=by
 rcases d with⟨h,e⟩ |⟨h,e⟩
 .obtain⟨_,hd,vs,_,dd⟩:=jk I.aM e;refine⟨dd.typeIs,λb q=>?_,hd⟩;cases q;let⟨ob,_,_,f,g,_⟩:=dd;exact⟨ob,f,g.2.1⟩
 .obtain⟨_,hd,xs,_,dd⟩:=mF I.aM e;refine⟨dd.typeIs,λb q=>?_,hd⟩;cases q;let⟨ob,_,_,f,g,_⟩:=dd;exact⟨ob,f,g.2.1⟩
section
variable{X:Cx}{aa:aT}{σ:St}{H:Hp}{s:ak}{a:ae}{y d:V}{u r:ao}{o:Option V}{A:Around}{E:ao->ak->Prop}
theorem Rl{Q:ao->ak->Prop}(q:A.units+1<cLine)(I:av X aa σ H s)(g:kX H a y o)(m:aC y u)(rd:aC d r)(h:∀n s',av X aa σ H s'->aC (o.getD d) n->Q n s'):
  wpAny (model X.prog X.w) A (call (.builtin "dict.get") [.ref a,u,r]) Q E s:=by
 rcases g with⟨j,k,e,i,l⟩ |⟨j,k,b,e,i,eb,l⟩
 .subst i;let⟨z,hd,vs,f,dd⟩:=jk I.aM e;refine call_meetsIn PySem.F.slot_dict_get dd.typeIs PySem.F.entry_dict_get (PySem.F.args_dict_get_3 _ _ _) (meets_dict_get_default (eh X.prog X.w) a (oi m) hd r) ⟨_,dd.mapOf,h _ _ (I.tok _) ?_⟩;rw[l];exact (f.val k).getD rd
 .subst i;cases (show u=Value.ref b from m);let⟨z,hd,v,f,dd⟩:=mF I.aM e;refine call_meetsIn PySem.F.slot_dict_get dd.typeIs PySem.F.entry_dict_get (PySem.F.args_dict_get_3 _ _ _) (meetsH_dict_get_default (tupleKind (eh X.prog X.w)) a b hd r) ⟨tupleKind_room_in1 q,k,v,nZ I.aM eb,dd,h _ _ (I.tok _) ?_⟩;rw[l];exact (f.val k).getD rd
end
def z5(f ty g:TE):TE:=λj H Q=>f j H λx b=>∃a,x=.ref a/\yO b a/\ty j b λy e=>g j e λz d=>∃o,kX d a y o/\Q (o.getD z) d
section
variable{X:Cx}{o e f:Expr}{apos bw:Pos}{td ty tx:TE}
theorem Nm(B:X.A.units+1<cLine)(w:PE X o td)(r:PE X e ty)(v:PE X f tx)(m:M2 X o "get" apos e f bw):PE X (.Call (.Attribute o "get" apos) [e,f] [] bw) (z5 td ty tx):=by
 intro aa s j H Q I h;refine wpAny_Call_method m.base m.Ih m.line PySem.F.plainAttrs_dict PySem.F.slot_dict_get PySem.F.type_dict_get (bq (w aa s j H _ I h) λu E i=>?_);let⟨x,n,l,D,a,ex,d,C⟩:=i;subst ex;obtain rfl:u=Value.ref a:=D;let⟨J,L,_⟩:=qd l d;refine⟨J,L,?_⟩;rw[m.trees];refine Calls.callWith_builtin rfl (Calls.evalArgs_plain (Calls.spliced_cons (bq (r aa E j n _ l C) λN G ⟨y,H2,I2,ry,q2⟩=>
  Calls.spliced_cons (bq (v aa G j H2 _ I2 q2) λM O ⟨z,H3,I3,rz,ov,g,q3⟩=>Calls.spliced_nil ?_))))
 exact Rl B I3 g ry rz λY U q b=>⟨_,H3,q,b,q3⟩
end
end L2
namespace HT
open PySem PyProof.Rows
section
variable{prog:Program}{w:World}{A:Around}{E:ao->ak->Prop}{s:ak}
def dQ(n d:Nat):bI->Nat
 |none=>d
 |some v=>if v < 0 then (v + (n:Int)).toNat else min v.toNat n
end
end HT
namespace L2
open PySem PySem.Spec PyProof.Rows
abbrev TO:=St->Hp->(bI->Hp->Prop)->Prop
def PO(X:Cx)(e:Option Expr)(t:TO):Prop:=
 ∀(aa:aT)(s:ak)(j:St)(H:Hp)(Q:bI->Hp->Prop),av X aa j H s->t j H Q->
  wpAny (model X.prog X.w) X.A (evalPart e X.env) (λu b=>∃o a,av X aa j a b/\IsPart u o/\Q o a) X.xe s
def zN:TO:=λ_ H Q=>Q none H
def Az(t:TE):TO:=λj H Q=>t j H λx a=>∃i,x=.int i/\Q (some i) a
theorem Ko:∀{us:aL},aH (ns.map V.int) us->IntsAre us ns:=by
 induction ns with
 |nil=>intro us r;rw[map_nil] at r;cases r;exact .nil
 |cons n ns a=>
  intro us r;rw[map_cons] at r;cases r with
  |cons b r2=>
   let⟨t,e⟩:=b;subst e;exact .cons n t (a r2)
section
variable{X:Cx}{e:Expr}{te:TE}{lo hi:Option Expr}{tl th:TO}{pos p2:Pos}
theorem PL:PO X none zN:=by
 intro aa s j H Q I h;rw[evalPart_none];exact wpAny_pure ⟨none,H,I,.none,h⟩
theorem PM(h:PE X e te):PO X (some e) (Az te):=by
 intro aa s j H Q I f;rw[evalPart_some];refine bq (h aa s j H _ I f) λu m a=>?_
 ∎;let⟨x,b,d,l,g⟩:=a;let⟨i,rfl,q⟩:=g;let⟨t,rfl⟩:=l;∎;exact⟨some i,b,d,.int i t,q⟩
def kN(X:Cx)(r:V->bI->bI->Hp->VK->Prop):Prop:=
 ∀(aa:aT)(s:ak)(j:St)(H:Hp)(x:V)(v b d:ao)(lo hi:bI)(a:ae)(Q:VK),av X aa j H s->aC x v->s.heap.IsSliceOf a b d .none->IsPart b lo->IsPart d hi->r x lo hi H Q->
  ∃T id,typeLookup (.type T) "__getitem__"=pure (some (.builtin id))/\s.TypeIs v T/\wpAny (model X.prog X.w) X.A (getItem v (.ref a)) (EP X aa j Q) X.xe s
theorem kN.or{r f:V->bI->bI->Hp->VK->Prop}(h:kN X r)(h':kN X f):kN X (λx lo hi H Q=>r x lo hi H Q\/f x lo hi H Q):=by
 intro aa s j H x v l m lo hi i Q I g a b d q;rcases q with q |q
 .exact h aa s j H x v l m lo hi i Q I g a b d q
 .exact h' aa s j H x v l m lo hi i Q I g a b d q
def Fh(r:V->bI->bI->Hp->VK->Prop)(te:TE)(tl th:TO):TE:=λj H Q=>te j H λx a=>tl j a λl b=>th j b λu d=>r x l u d Q
theorem Nn(M:kN X r)(G:PE X e te)(L:PO X lo tl)(O:PO X hi th):PE X (.Subscript e (.Slice lo hi none p2) pos) (Fh r te tl th):=by
 intro aa s j H Q I h;refine Subscript_ (bq (G aa s j H _ I h) λv s1 d=>?_);let⟨x,n,y,r1,q1⟩:=d;refine wpAny_Slice (bq (L aa s1 j n _ y q1) λf s2 d=>?_);let⟨l,o,B,U,q2⟩:=d;refine bq (O aa s2 j o _ B q2) λg a i=>?_
 let⟨u,m,C,Y,q3⟩:=i;rw[evalPart_none];refine wpAny_pure ?_;have D:av X aa j m { a with heap:=a.heap.push { cls:=.type "slice",data:=.fields #[f,g,.none] } }:=C.kept (t':=a.toks) λb ob q=>Heap.get?_push_of_some _ q
 let⟨T,id,E,N,J⟩:=M aa { a with heap:=a.heap.push { cls:=.type "slice",data:=.fields #[f,g,.none] } } j m x v f g l u ⇑a Q D r1 (Heap.IsSliceOf.new ..) U Y q3;show wpAny (model X.prog X.w) X.A (subscriptTail e (.Slice lo hi none p2) v (.ref ⇑a)) (EP X aa j Q) X.xe { a with heap:=a.heap.push { cls:=.type "slice",data:=.fields #[f,g,.none] } };exact tail_any (ops:=[.ref ⇑a,v]) N E J (by with_unfolding_all rfl)
def sd(xs:ax)(lo hi:bI):ax:=(xs.drop (HT.dQ xs.length 0 lo)).take (HT.dQ xs.length xs.length hi - HT.dQ xs.length 0 lo)
theorem Js(xs:ax)(lo hi:bI):(sd xs lo hi).length<=xs.length:=by
 unfold sd;rw[length_take,List.length_drop];omega
end
def iQ(n:Nat)(i:Int):Option Nat:=if 0<=i then (if i<n then some i.toNat else none) else if -(n:Int)<=i then some (i+n).toNat else none
def dc{G:Type}(xs:List G)(i:Int):Option G:=(iQ xs.length i).bind λj=>xs[j]?
theorem C7(h:iQ n i=some j):seqIndex? i n=some j/\j<n/\-(n:Int)<=i/\i<n:=by
 unfold iQ at h;by_cases b:0<=i
 .rw[if_pos b] at h;by_cases a:i<n
  .rw[if_pos a] at h;have e:i.toNat=j:=Option.some.inj h;exact⟨by rw[seqIndex_of b a,e],⋯,⋯,a⟩
  .rw[if_neg a] at h;cases h
 .rw[if_neg b] at h;by_cases a:-(n:Int)<=i
  .rw[if_pos a] at h;have e:(i+n).toNat=j:=Option.some.inj h;exact⟨by rw[seqIndex_neg ⋯ a,e],⋯,a,⋯⟩
  .rw[if_neg a] at h;cases h
theorem wU(h:dc xs i=some v):∃j,seqIndex? i xs.length=some j/\xs[j]?=some v/\j<xs.length/\-(xs.length:Int)<=i/\i<xs.length:=by
 unfold dc at h;cases e:iQ xs.length i with
 |none=>rw[e] at h;cases h
 |some j=>
  rw[e] at h;let⟨a,b,d,f⟩:=C7 e;exact⟨j,a,h,b,d,f⟩
def zO(b:Expr):Prop:=∀o i,subscripted b false o i=operate [o,i] (getItem o i)
def jg(X:Cx)(r:R2):Prop:=
 ∀(value a:Expr)(aa:aT)(s:ak)(j:St)(H:Hp)(x y:V)(v u:ao)(Q:VK),av X aa j H s->aC x v->aC y u->r x y H Q->
  subscripted a false v u=operate [v,u] (getItem v u)->wpAny (model X.prog X.w) X.A (subscriptTail value a v u) (EP X aa j Q) X.xe s
def FH(X:Cx)(id:String)(r:V->ax->Hp->VK->Prop):Prop:=
 ∀(aa:aT)(s:ak)(j:St)(H:Hp)(x:V)(a:ax)(v:ao)(us:aL)(Q:VK),av X aa j H s->aC x v->aH a us->r x a H Q->
  wpAny (model X.prog X.w) X.A (call (.builtin id) (v::us)) (EP X aa j Q) X.xe s
section
variable{X:Cx}{a b:Expr}{ta tb:TE}{pos:Pos}
theorem jg.or{r f:R2}(h:jg X r)(h':jg X f):jg X (λx y H Q=>r x y H Q\/f x y H Q):=by
 intro value d aa s j H x y v u Q I g i q e;rcases q with q |q
 .exact h value d aa s j H x y v u Q I g i q e
 .exact h' value d aa s j H x y v u Q I g i q e
theorem Tv(i:jg X r)(f:PE X a ta)(g:PE X b tb)(hs:zO b):PE X (.Subscript a b pos) (m5 r ta tb):=by
 intro aa s j H Q I h;exact Subscript_ (yi f g I h λv u n x y d e l m q=>i a b aa n j d x y v u Q e l m q (hs _ _))
def Bb(K:aj):R2:=λx y H Q=>∃p d i v,x=.ref p/\y=.int i/\bG K H p d/\dc d i=some v/\Q v H
def Bc(K:aj):R2:=λx y H Q=>∃p d i v,x=.ref p/\y=.int i/\c8 K H p d/\dc d i=some v/\Q v H
def Be:R2:=λx y H Q=>∃z i c,x=.str z/\y=.int i/\z.length<=sizeLine/\dc z.cps.toList i=some c/\Q (.str ⟨#[c]⟩) H
theorem Ge:jg X (Bb X.K):=by
 intro value m aa s G H x y v u Q I M N h A;let⟨p,xs,i,z,rfl,rfl,L,E,q⟩:=h;cases M;∎;let⟨t,rfl⟩:=N;let⟨f,r,g,Y⟩:=I.list L;let⟨j,e,B,U,C,D⟩:=wU E;let⟨w,n,l⟩:=r.get B;∎;have J:=r.length;have hn:=nY;have d:EP X aa G Q w s:=⟨z,H,I,l,q⟩;by_cases o:0<=i
 .have hj:i.toNat=j:=by
   rw[seqIndex_of o D] at e;exact Option.some.inj e
  exact item_listR g.isList o ⋯ (by rw[hj];simpa using n) d A
 .have hj:(i+(f.toArray.size:Int)).toNat=j:=by
   rw[seqIndex_neg ⋯ C] at e;rw[size_toArray,<- J];exact Option.some.inj e
  exact subscriptTail_builtinR (x:=w) g.isList.typeIs slot_list_getitem.lookup
   (wpAny_getItem_list_neg (Q:=λr O=>r=w/\EP X aa G Q r O) g.isList ⋯ (by rw[size_toArray]<;>omega) ⋯ (by rw[hj];simpa using n) ⟨rfl,d⟩) A
theorem GK:jg X (Bc X.K):=by
 intro value f aa s G H x y v u Q I E J h C;let⟨p,Y,i,z,rfl,rfl,B,o,q⟩:=h;cases E;∎;let⟨t,rfl⟩:=J;let⟨D,r,g,U⟩:=I.tuple B;let⟨j,m,n,M,N,O⟩:=wU o;let⟨w,l,e⟩:=r.get n;∎;have A:=r.length;have hn:=nY;have d:EP X aa G Q w s:=⟨z,H,I,e,q⟩;exact subscriptTail_builtinR (x:=w) g.typeIs slot_tuple_getitem.lookup
  (getItem_tuple (j:=j) (Q:=λr L=>r=w/\EP X aa G Q r L) g ⋯ ⋯ (by rw[size_toArray,<- A];exact m) (by simpa using l) ⟨rfl,d⟩) C
theorem Rm:jg X Be:=by
 intro value d aa s G H x y v u Q I A B h w;∎;let⟨z,i,c,rfl,rfl,D,o,q⟩:=h;let⟨t,rfl⟩:=A;let⟨E,rfl⟩:=B;let⟨j,e,l,C,m,n⟩:=wU o;∎;have r:z.cps.toList.length=z.length:=by simp[Str.length]
 rw[r] at e m n;have hn:=nY;exact tail_any (typeIs_str s z t) slot_str_getitem.lookup (getItem_str (c:=c) (by
  have f:decide (i < -(2 ^ 63:Int))=false:=decide_eq_false ⋯;have g:decide (i ≥ 2 ^ 63)=false:=decide_eq_false ⋯;rw[f,g,Bool.or_false]) (by rw[e];simpa using l) ⟨.str ⟨#[c]⟩,H,I.tok _,⟨_,rfl⟩,q⟩) w
def E7(K:aj):R2:=λx y H Q=>Bb K x y H Q\/Bc K x y H Q\/Be x y H Q
theorem GL:jg X (E7 X.K):=Ge.or (GK.or Rm)
theorem Kq(d:aL)(n j:Nat)(u:ao):Obj.mapSeq (·.setIfInBounds j u) { cls:=.type "list",data:=.seq d.toArray n }={ cls:=.type "list",data:=.seq (d.set j u).toArray n }:=by
 simp[Obj.mapSeq]
theorem av.ag{H:Hp}(I:av X aa j H s)(h:H p=some (.ag xs)):
  ∃(d:aL)(n:Nat),aH xs d/\s.heap.get? p=some { cls:=.type "list",data:=.seq d.toArray n }/\xs.length<=sizeLine:=by
 let⟨z,d,n,r,e⟩:=I.aM p _ h;exact⟨d,n,r,e,z⟩
theorem av.mM{aa:aT}{j:St}{H:Hp}{s:ak}{p:ae}{xs ys:ax}{d its':aL}{n n':Nat}{f:Obj->Obj}(I:av X aa j H s)(h:H p=some (.ag xs))(l:s.heap.get? p=some { cls:=.type "list",data:=.seq d.toArray n })(g:f { cls:=.type "list",data:=.seq d.toArray n }={ cls:=.type "list",data:=.seq its'.toArray n' })(r:aH ys its')(m:ys.length<=sizeLine)(t:Nat):
  av X aa j (aN H p (.ag ys)) { s with heap:=s.heap.update p f,toks:=t }:=by
 have e:(s.heap.update p f).get? p=some { cls:=.type "list",data:=.seq its'.toArray n' }:=by
  rw[Heap.get?_update_self f l (by rw[g]<;>rfl),g]
 refine I.write (x:=p) (e:=p) (by rw[h];trivial) (.inl rfl) (λb u i q=>(Heap.get?_update_other _ _ (Ne.symm i)).trans q) ⟨_,e⟩ ?_;exact⟨m,its',n',r,e⟩
def AA:V->V->V->Hp->(Hp->Prop)->Prop:=λo i v H Q=>∃p d k j,o=.ref p/\i=.int k/\H p=some (.ag d)/\iQ d.length k=some j/\Q (aN H p (.ag (d.set j v)))
theorem Np:AZ X AA:=by
 intro aa s G H o i v ov M u Q I D C E h;let⟨p,J,k,j,rfl,rfl,y,A,q⟩:=h;cases D;∎;let⟨t,rfl⟩:=C;let⟨d,n,r,g,B⟩:=I.ag y;let⟨e,L,w,x⟩:=C7 A;∎;have f:=r.length;have hn:=nY;have l:av X aa G (aN H p (.ag (J.set j v))) { s with heap:=s.heap.update p (Obj.mapSeq (·.setIfInBounds j u)) }:=
  I.mM y g (Kq d n j u) (r.set E j) (by rw[length_set];exact B) s.toks
 by_cases m:0<=k
 .have hk:k.toNat=j:=by
   rw[seqIndex_of m x] at e;exact Option.some.inj e
  exact W.ki_setAt g m ⋯ (by rw[size_toArray,<- f];exact x) (by rw[hk];exact⟨_,l,q⟩)
 .have hk:(k+(d.toArray.size:Int)).toNat=j:=by
   rw[seqIndex_neg ⋯ w] at e;rw[size_toArray,<- f];exact Option.some.inj e
  exact W.ki_setBack g ⋯ (by rw[size_toArray,<- f];exact w) ⋯ (by rw[hk];exact⟨_,l,q⟩)
theorem IB(lo d:bI)(n:Nat):(sliceBounds lo d none n).1=((HT.dQ n 0 lo:Nat):Int)/\(sliceBounds lo d none n).2.1=((HT.dQ n n d:Nat):Int)/\(sliceBounds lo d none n).2.2=1:=by
 refine⟨?_,?_,rfl⟩
 .cases lo with
  |none=>simp[sliceBounds,HT.dQ]
  |some i=>
   simp only[sliceBounds,HT.dQ,Option.getD_none,show (1:Int) > 0 by decide,if_true];by_cases h:i<0
   .simp only[h,if_true]<;>omega
   .simp only[h,if_false]<;>omega
 .cases d with
  |none=>simp[sliceBounds,HT.dQ]
  |some i=>
   simp only[sliceBounds,HT.dQ,Option.getD_none,show (1:Int) > 0 by decide,if_true];by_cases h:i<0
   .simp only[h,if_true]<;>omega
   .simp only[h,if_false]<;>omega
theorem IG(d:aL)(lo e:bI):slicePick d.toArray lo e none=((d.drop (HT.dQ d.length 0 lo)).take (HT.dQ d.length d.length e - HT.dQ d.length 0 lo)).toArray:=by
 let⟨f,g,h⟩:=IB lo e d.toArray.size;unfold slicePick;rw[f,g,h];simp only[sliceRange_one,pick_run,size_toArray]<;>rfl
def Bf(K:aj):V->bI->bI->Hp->VK->Prop:=λx lo e H Q=>∃a d,x=.ref a/\bG K H a d/\∀p,H p=none->Q (.ref p) (aN H p (.ag (sd d lo e)))
theorem Gf:kN X (Bf X.K):=by
 intro aa s j H x v C D lo f B Q I y i u w h;let⟨a,d,rfl,l,q⟩:=h;cases y;let⟨n,r,g,m⟩:=I.list l;have e:=r.length;refine⟨"list",_,slot_list_getitem.lookup,g.isList.typeIs,?_⟩;refine wpAny_getItem_list_slice g.isList i u w .none (by simp) ?_ (by rw[size_toArray]<;>omega);rw[IG,<- e];refine⟨.ref ⇑s,_,I.laid (t':=s.toks) (o:=.ag (sd d lo f)) (λb A q=>Heap.get?_push_of_some _ q) (le_refl _) ?_,rfl,q _ (I.aM.fresh (le_refl _))⟩;exact⟨le_trans (Js d lo f) m,_,0,(r.drop (HT.dQ d.length 0 lo)).take (HT.dQ d.length d.length f - HT.dQ d.length 0 lo),Heap.get?_push_size _ rfl⟩
def jH:V->Bool
 |.aE=>true
 |.bl _=>true
 |.int _=>true
 |.str _=>true
 |_=>false
def iP:V->V->Bool
 |.aE,.aE=>true
 |.bl a,.bl b=>a == b
 |.bl a,.int b=>(if a then 1 else 0) == b
 |.int a,.bl b=>a == (if b then 1 else 0)
 |.int a,.int b=>a == b
 |.str a,.str b=>a == b
 |_,_=>false
theorem qe(g:aC y u)(d:aC x v)(h:jH y=true)(f:jH x=true):SeqAt.EqAt A s u v (iP y x):=by
 cases y with
 |aE=>
  cases g;cases x with
  |aE=>cases d;exact SeqAt.EqAt.same _
  |bl b=>cases d;exact SeqAt.EqAt.none_bool b
  |int b=>let⟨t,rfl⟩:=d;exact SeqAt.EqAt.none_int b t
  |str b=>let⟨t,rfl⟩:=d;exact SeqAt.EqAt.none_str b t
  |_=>exact absurd (show false=true from f) Bool.false_ne_true
 |bl a=>
  cases g;cases x with
  |aE=>cases d;exact SeqAt.EqAt.bool_none a
  |bl b=>cases d;exact SeqAt.EqAt.bool_bool a b
  |int b=>let⟨t,rfl⟩:=d;exact SeqAt.EqAt.bool_int a b t
  |str b=>let⟨t,rfl⟩:=d;exact SeqAt.EqAt.bool_str a b t
  |_=>exact absurd (show false=true from f) Bool.false_ne_true
 |int a=>
  let⟨e,rfl⟩:=g;cases x with
  |aE=>cases d;exact SeqAt.EqAt.int_none a e
  |bl b=>cases d;exact SeqAt.EqAt.int_bool a e b
  |int b=>let⟨t,rfl⟩:=d;exact SeqAt.EqAt.int_int a e b t
  |str b=>let⟨t,rfl⟩:=d;exact SeqAt.EqAt.int_str a e b t
  |_=>exact absurd (show false=true from f) Bool.false_ne_true
 |str a=>
  let⟨e,rfl⟩:=g;cases x with
  |aE=>cases d;exact SeqAt.EqAt.str_none a e
  |bl b=>cases d;exact SeqAt.EqAt.str_bool a e b
  |int b=>let⟨t,rfl⟩:=d;exact SeqAt.EqAt.str_int a e b t
  |str b=>let⟨t,rfl⟩:=d;exact SeqAt.EqAt.str_str a e b t
  |_=>exact absurd (show false=true from f) Bool.false_ne_true
 |_=>exact absurd (show false=true from h) Bool.false_ne_true
def gY(x:V)(u:ao):Bool:=match u with
 |.none=>iP .aE x
 |.bool b=>iP (.bl b) x
 |.int i _=>iP (.int i) x
 |.str z _=>iP (.str z) x
 |_=>false
theorem Eg(r:aC y u)(f:jH y=true):gY x u=iP y x:=by
 cases y with
 |aE=>cases r;rfl
 |bl b=>cases r;rfl
 |int i=>let⟨t,rfl⟩:=r;rfl
 |str z=>let⟨t,rfl⟩:=r;rfl
 |_=>exact absurd (show false=true from f) Bool.false_ne_true
theorem qk:∀{xs:ax}{us:aL},aH xs us->xs.all jH=true->us.any (gY x)=xs.any λy=>iP y x
 |_,_,.nil,_=>rfl
 |y::xs,u::us,.cons r t,f=>by
  rw[all_cons,and_eq_true] at f;rw[any_cons,any_cons,Eg r f.1,qk t f.2]
theorem pY(g:aC x v)(e:jH x=true):∀{xs:ax}{us:aL},aH xs us->xs.all jH=true->∀u∈us,SeqAt.EqAt A s u v (gY x u)
 |_,_,.nil,_=>λu d=>by cases d
 |y::xs,u::us,.cons r t,f=>λh d=>by
  rw[all_cons,and_eq_true] at f;rcases mem_cons.mp d with rfl |d
  .rw[Eg r f.1];exact qe r g f.1 e
  .exact pY g e t f.2 h d
def ug(x:V)(xs:ax):Bool:=xs.any λy=>iP y x
def qR(K:aj)(neg:Bool):R2:=λx y H Q=>∃p d,y=.ref p/\(bG K H p d\/c8 K H p d)/\jH x=true/\d.all jH=true/\Q (.bl (if neg then !ug x d else ug x d)) H
theorem F7:b9 X (compareOp .In) (qR X.K false):=by
 intro aa s j H x y v u Q I g i h;let⟨p,l,rfl,d,f,fs,q⟩:=h;cases i;rcases d with d |d
 .obtain⟨dC,r,pl,hz⟩:=I.list d;refine SeqAt.in_listAt (gY x) pl.isList (λw e=>pY g f r fs w (by simpa using e)) ⟨.bl _,H,I,rfl,?_⟩;rw[show dC.toArray.any (gY x)=dC.any (gY x) by simp,qk r fs];exact q
 .obtain⟨dC,r,pl,hz⟩:=I.tuple d;refine SeqAt.in_tupleAt (gY x) pl (λw e=>pY g f r fs w (by simpa using e)) ⟨.bl _,H,I,rfl,?_⟩;rw[show dC.toArray.any (gY x)=dC.any (gY x) by simp,qk r fs];exact q
theorem FZ:b9 X (compareOp .NotIn) (qR X.K true):=by
 intro aa s j H x y v u Q I g i h;let⟨p,l,rfl,d,f,fs,q⟩:=h;cases i;rcases d with d |d
 .obtain⟨dC,r,pl,hz⟩:=I.list d;refine SeqAt.notIn_listAt (gY x) pl.isList (λw e=>pY g f r fs w (by simpa using e)) ⟨.bl _,H,I,rfl,?_⟩;rw[show dC.toArray.any (gY x)=dC.any (gY x) by simp,qk r fs];exact q
 .obtain⟨dC,r,pl,hz⟩:=I.tuple d;refine SeqAt.notIn_tupleAt (gY x) pl (λw e=>pY g f r fs w (by simpa using e)) ⟨.bl _,H,I,rfl,?_⟩;rw[show dC.toArray.any (gY x)=dC.any (gY x) by simp,qk r fs];exact q
theorem bU.or{r d:ax->Hp->VK->Prop}(h:bU X f r)(h':bU X f d):bU X f (λxs H Q=>r xs H Q\/d xs H Q):=by
 intro aa s j H xs us Q I rs q;rcases q with q |q
 .exact h aa s j H xs us Q I rs q
 .exact h' aa s j H xs us Q I rs q
theorem uR:bU X (.type "list") (λxs H Q=>∃p ys,xs=[.ref p]/\(bG X.K H p ys\/c8 X.K H p ys)/\∀l,H l=none->Q (.ref l) (aN H l (.ag ys))):=by
 intro aa s j H xs us Q I r h;∎;let⟨p,ys,rfl,x,q⟩:=h;let⟨u,rfl,D⟩:=mE r;∎;cases D;have m:∀(d:aL),aH ys d->ys.length<=sizeLine->∀(f:aO)(g:Nat),(∀b C,s.heap.get? b=some C->f.get? b=some C)->
   f.get? ⇑s=some { cls:=.type "list",dict:=none,data:=.seq d.toArray g,slots:=#[] }->EP X aa j Q (.ref ⇑s) { s with heap:=f }:=λd i y f g kp e=>
  ⟨.ref ⇑s,_,I.laid (t':=s.toks) kp (le_refl _) (show aX X.prog X.w _ f _ (.ag ys) from ⟨y,d,g,i,e⟩),rfl,q _ (I.aM.fresh (le_refl _))⟩
 rcases x with x |x
 .obtain⟨d,i,pl,y⟩:=I.list x;have v:=i.length;let⟨o,B,A,n,hd⟩:=pl.isList;exact call_list_seq p (.inl rfl) B A hd (λf g kp e=>m d i y f g kp e) (by simp only[size_toArray]<;>omega)
 .obtain⟨d,i,pl,y⟩:=I.tuple x;have v:=i.length;let⟨o,B,A,n,hd⟩:=pl;exact call_list_seq p (.inr rfl) B A hd (λf g kp e=>m d i y f g kp e) (by simp only[size_toArray]<;>omega)
def yJ(K:aj)(T:String)(x:V)(H:Hp):Prop:=match x with
 |.str _=>T = "str"
 |.int _=>T = "int"
 |.ref p=>(T = "list" /\ ∃e,bG K H p e) \/ (T = "tuple" /\ ∃o,K.lookup p=some o /\ o.cls=.type "tuple" /\ o.dict=none) \/
   (T="dict"/\((∃d,H p=some (.dK d))\/∃d,H p=some (.dT d)))\/(T="set"/\∃S n,H p=some (.set S n))
 |_=>False
theorem Rn(I:av X aa j H s)(r:aC x v)(ty:yJ X.K T x H):
  s.TypeIs v T/\∀a,v=.ref a->∃ob,s.heap.get? a=some ob/\ob.dict=none:=by
 cases x with
 |str z=>
  let⟨t,rfl⟩:=r;cases (show T="str" from ty);exact⟨typeIs_str s z t,λ_ e=>nomatch e⟩
 |int i=>
  let⟨t,rfl⟩:=r;cases (show T="int" from ty);exact⟨typeIs_int s i t,λ_ e=>nomatch e⟩
 |ref p=>
  cases r;rcases ty with⟨rfl,m,l⟩ |⟨rfl,o,d,h,hd⟩ |⟨rfl,d⟩ |⟨rfl,S,n,d⟩
  .obtain⟨dC,_,pl,_⟩:=I.list l;refine⟨pl.isList.typeIs,λa e=>?_⟩;cases e;let⟨o,n,e,c,hd,_⟩:=pl;exact⟨o,e,hd⟩
  .refine⟨⟨o,I.cG p o d,h⟩,λa e=>?_⟩;cases e;exact⟨o,I.cG _ o d,hd⟩
  .have z:∃o,s.heap.get? p=some o/\o.ExactDict:=by
    rcases d with⟨g,d⟩ |⟨g,d⟩
    .obtain⟨_,_,_,_,o,_,_,e,ex,_⟩:=I.aM p _ d;exact⟨o,e,ex⟩
    .obtain⟨_,_,_,_,o,_,_,e,ex,_⟩:=I.aM p _ d;exact⟨o,e,ex⟩
   let⟨o,e,ex⟩:=z;refine⟨⟨o,e,ex.1⟩,λa f=>?_⟩;cases f;exact⟨o,e,ex.2.1⟩
  .obtain⟨o,_,_,_,e,ex,_⟩:=I.aM p _ d;refine⟨⟨o,e,ex.1⟩,λa f=>?_⟩;cases f;exact⟨o,e,ex.2.1⟩
 |_=>exact False.elim ty
def yH(K:aj)(T:String)(r:V->ax->Hp->VK->Prop)(f:TE)(t:TA):TE:=λj H Q=>f j H λx d=>yJ K T x d/\t j d λg e=>r x g e Q
variable{o e:Expr}{es:bL}{to:TE}{t:TA}{name:Str}{apos bw:Pos}{T id:String}{r:V->ax->Hp->VK->Prop}
theorem EU(J:PlainAttrs T)(slot:Slot T name id)(l:typeOf (.builtin id)=pure (.type "method_descriptor"))(hm:FH X id r)(G:PE X o to)(E:PA X (e::es) t)(f:do attributeBase o name X.env (eval o X.env)=eval o X.env)(i:((backTo bw (starEach (e::es) X.env)).all (λx=>!x.1)&&(backToKw bw (keywordEach [] X.env)).all (λx=>x.1.isSome)
   && decide ((e::es).length+([]:List Keyword).length+(if ([]:List Keyword).isEmpty then 0 else 1)<30))=true:=by rfl)(g:do (apos.endLine == bw.line)=true)(hs:do ee e es X.env)(d:do eZ bw es X.env):
  PE X (.Call (.Attribute o name apos) (e::es) [] bw) (yH X.K T r to t):=by
 intro aa s j H Q I h;refine wpAny_Call_method_late f i g rfl (bq (G aa s j H _ I h) λv N m=>?_);∎;let⟨x,y,q,w,ty,L⟩:=m;let⟨C,D⟩:=Rn q w ty;∎;refine⟨T,id,J,slot,l,C,D,?_⟩;have u:=E bw aa N j y _ q L;rw[hs] at u ⊢;refine Calls.callWith_builtin (by show (false || (backTo bw (starEach es X.env)).any (·.1))=false;rw[d]<;>rfl) (Calls.evalArgs_plain ?_);exact bq u λus O n=>by let⟨vs,A,B,r2,M⟩:=n;exact hm aa O j A x vs v us Q B w r2 M
end
def yR(X:Cx)(id:String)(r:V->ax->Hp->VK->Prop):Prop:=
 ∀(aa:aT)(s:ak)(j:St)(H:Hp)(x:V)(a:ax)(v:ao)(us:aL)(Q:VK),av X aa j H s->aC x v->aH a us->r x a H Q->
  wpAny (model X.prog X.w) X.A (call (.builtin id) (v::us)) (EP X aa j Q) X.xe s
theorem aH.one:∀{x:V}{us:aL},aH [x] us->∃u,us=[u]/\aC x u
 |_,_,.cons r .nil=>⟨_,rfl,r⟩
theorem aH.rep(h:aH xs us):∀k:Nat,aH (List.replicate k xs).flatten (List.replicate k us).flatten
 |0=>.nil
 |k + 1=>by
  rw[List.replicate_succ,List.replicate_succ,List.flatten_cons,List.flatten_cons];exact aH.append h (aH.rep h k)
section
variable{X:Cx}{aa:aT}{σ:St}{H:Hp}{s:ak}{l b:ae}{xs ys zs:ax}
theorem av.xS{a its':aL}{n:Nat}{f:d3->d3}{t':Nat}(I:av X aa σ H s)(d:H l=some (.ag xs))(e:s.heap.get? l=some { cls:=.type "list",data:=.seq a.toArray n })(h:f a.toArray=its'.toArray)(j:aH ys its')(m:ys.length<=sizeLine):
  av X aa σ (aN H l (.ag ys)) { s with heap:=s.heap.update l (Obj.mapSeq f),toks:=t' }:=by
 have q:=PySem.IsL.update e f;rw[h] at q;refine I.write (x:=l) (e:=l) (by rw[d];exact trivial) (.inl rfl) (λo u g i=>(Heap.get?_update_other s.heap (Obj.mapSeq f) (Ne.symm g)).trans i) ⟨_,q⟩ ?_;exact⟨m,its',_,j,q⟩
theorem av.qM(I:av X aa σ H s)(a:aH ys dC)(d:ys.length<=sizeLine):
  av X aa σ (aN H ⇑s (.ag ys)) { s with heap:=s.heap.push { cls:=.type "list",data:=.seq dC.toArray },toks:=t' }:=
 I.laid (λ_ _ q=>Heap.get?_push_of_some _ q) (le_refl _) ⟨d,dC,0,a,Heap.get?_push_size _ rfl⟩
theorem av.fresh(I:av X aa σ H s):H ⇑s=none:=I.aM.fresh (le_refl _)
theorem av.xT(I:av X aa σ H s)(d:H l=some (.ag xs)):xs.length<=sizeLine/\∃(a:aL)(n:Nat),aH xs a/\xs.length=a.length/\s.heap.get? l=some { cls:=.type "list",data:=.seq a.toArray n }:=by
 let⟨z,a,n,r,e⟩:=I.aM l _ d;exact⟨z,a,n,r,r.length,e⟩
end
section
variable{X:Cx}
def zP:V->ax->Hp->VK->Prop:=λx vs H Q=>∃l a y,x=.ref l/\vs=[y]/\H l=some (.ag a)/\a.length<sizeLine/\Q .aE (aN H l (.ag (a++[y])))
theorem KQ:yR X "list.append" zP:=by
 intro aa s j H x vs v us Q I g f h;let⟨l,o,y,rfl,rfl,b,m,q⟩:=h;cases g;∎;let⟨u,rfl,d⟩:=f.one;let⟨z,a,n,r,i,e⟩:=I.xT b;∎;refine call_meets F.slot_list_append ⟨_,e,rfl⟩ F.entry_list_append (F.args_list_append_2 _ _) (PySem.list_append l a.toArray n u (by rw[size_toArray];omega)) ⟨e,?_⟩;refine⟨.aE,_,I.xS (its':=a++[u]) b e (by simp) (r.append (.cons d .nil)) ?_,rfl,q⟩;rw[length_append,List.length_singleton];omega
end
end L2
namespace Att
open PySem PySem.W PySem.Calls PyProof.Rows
theorem Ig:∀(ns:az)(vs:aL),WellAll P h vs (ns.map WData.int)->IntsAre vs ns:=by
 intro ns
 induction ns with
 |nil=>
  intro vs w;rw[map_nil] at w;cases w;exact .nil
 |cons n ns d=>
  intro vs w;rw[map_cons] at w;cases w with
  |cons a b=>
   cases a;exact .cons _ _ (d _ b)
theorem KR{l:OpenLaw}{n:Nat}(hn:l.most=some n){P:Params}{h:aO}{args:List WData}{e:aL}(b:l.row.toRowW.claim.pre args=true)(o:WellAll P h e args):
  ∃a vs ns,e=[Value.ref a]/\args=[WData.list (ns.map WData.int)]/\h.get? a=some { cls:=.type "list",data:=.seq vs.toArray }/\IntsAre vs ns/\ns.length<=n:=by
 have m:WShape.hasAll [] args [.list .int]=true:=(pre_splitW b).1;have s:l.pre.holds [] { args:=args }=true:=(pre_splitW b).2;let⟨d,r,rfl,u,v⟩:=hasAllW_cons m;obtain rfl:=hasAllW_nil v;∎;let⟨C,rfl,w⟩:=hasW_list u;let⟨ns,rfl⟩:=items_int w;∎;have g:ns.length<=n:=by
  unfold OpenLaw.pre at s;have i:(WTm.not (.lt (.lit (.int (n:Int))) (.len (.arg 0)))).holds [] { args:=[.list (ns.map .int)] }=true:=by
   have i:=(holds_andW s).1;rw[hn] at i;exact i
  have j:=condW_of i (w_not (w_lt w_lit (w_len_list (w_arg rfl))));rw[length_map] at j;refine Nat.le_of_not_lt λq=>?_
  have y:(n:Int)<((ns.length:Nat):Int):=⋯
  first
   |(rw[decide_eq_true y] at j;exact absurd j ∎)
   |(simp at j;omega)
 cases o with
 |cons A B=>
  cases B;cases A with
  |list x f=>exact⟨_,_,ns,rfl,rfl,x,Ig ns _ f,g⟩
theorem KS(l:OpenLaw)(args:List WData):l.row.toRowW.claim.post args (.bool true) args=true:=
 postW_of (r:=l.row.toRowW) (X:=(true == true))
  (show WShape.has [] (.bool true) .bool=true by first |rfl |decide |simp[WShape.has,WShape.arms,WShape.armsAll])
  (show (WTm.eq .res (.lit (.bool true))).value [] { args:=args,res:=some (.bool true),after:=args }=some (.bool (true == true)) from w_eq_bool (w_res rfl) w_lit) rfl
theorem gi{l:OpenLaw}{n:Nat}{q:Program}{e:ah}{B:(bc)->aO->Prop}{C:World->aO->Prop}{d:DefRec}(hn:l.most=some n)(v:d.params.defaults=[])(call:∀(w:World)(s₀ b:ak)(mg A:bc)(h:ae)(o:Obj)(pm s doc:ao)(a:ae)(vs:aL)(ns:az),
   Ground q e [] B w s₀ mg A b.heap->C w b.heap->
   b.heap.get? h=some o->o.data=.func (docDef d.name d.params d.body d.scope pm s doc)->b.heap.CodeRec s d.name->mg d.name=some (.ref h)->
   b.heap.get? a=some { cls:=.type "list",data:=.seq vs.toArray }->IntsAre vs ns->ns.length<=n->b.gens=#[]->
   codeAny (model l.prog w) callerA (.call (.ref h) ⟨[.ref a],[]⟩) (λr s'=>r=.ok (.ret (.bool true))/\OldK b.heap s'.heap/\s'.os=b.os/\AllBare s'.gens) b):
  WalkO q e B C l.row.toRowW d [] (λf vs=>PySem.call f vs):=by
 intro w s₀ b mg A G Y h o pm s doc I kV Q hd u D x N args H as m E α y O;obtain rfl:I=.none:=Dflts.none D v;obtain rfl:kV=.none:=Dflts.noKw D;let⟨a,vs,ns,rfl,rfl,j,g,i⟩:=KR hn m y;refine enter_call (codeAny_mono (call w s₀ b mg A h o pm s doc a vs ns G Y Q (fd_plain hd) u x j g i N) λr s' U=>?_);let⟨rfl,J,L,M⟩:=U;exact⟨.inl ⟨.bool true,.bool true,[],rfl,λ_=>rfl,.bool true,KS l _,λ_=>⟨List.Pairwise.nil,λ_ hm=>(nomatch hm)⟩⟩,J,L,M⟩
end Att
namespace L2
open PySem PySem.Spec PyProof.Rows
theorem Cj:∀{vs:aL}{ns:az},IntsAre vs ns->aH (ns.map V.int) vs
 |_,_,.nil=>.nil
 |_,_,.cons n t h=>.cons ⟨t,rfl⟩ (Cj h)
def vO(H:Hp):Prop:=∀b,H b=none\/∃o a,H b=some (.aA o (.ag a))
theorem Nq{P:Program}{w:World}{K:aj}{mg U:bc}{CX:fm}{k:Nat}{M a:ae}{fd:FuncData}{x:Str}{sp:Sp}{f:ak}{vs:aL}{ns:az}(KX:K.In f.heap)(D:f.heap.Ns mainGlobals mg)(i:f.heap.Ns builtinsNs U)(O:∀x:Str,x≠"__name__"->U x=bootBuiltins x)(C:f.heap.NoLimit)(hg:f.gens=#[])(J:f.heap.get? a=some { cls:=.type "list",data:=.seq vs.toArray })(hi:IntsAre vs ns)(hl:ns.length<=sizeLine)(hr:bp k callerA)(F:∀base:Heap,K.In base->base.Ns mainGlobals mg->aK P w K mg base CX k M fd [x] sp)(l:∀(s:ak)(u:ao),BindsTo s fd ⟨[u],[]⟩ [(x,u)])(Q:∀H:Hp,vO H->bG K H a (ns.map V.int)->sp [.ref a] H (λv _=>v=.bl true) λ_ _ _=>False)(N:∀H e s',CX [] H f (λ_ _ _=>False) e s'->False):
  codeAny (model P w) callerA (.call (.ref M) ⟨[.ref a],[]⟩) (λr s'=>r=.ok (.ret (.bool true))/\OldK f.heap s'.heap/\s'.os=f.os/\AllBare s'.gens) f:=by
 have rv:=Cj hi;have G:=hi.length;have core:∀H:Hp,vO H->bG K H a (ns.map V.int)->cR P w H f.heap->(∀b,H b≠none->b=a)->(H a≠none->K.lookup a=none)->
   codeAny (model P w) callerA (.call (.ref M) ⟨[.ref a],[]⟩) (λr s'=>r=.ok (.ret (.bool true))/\OldK f.heap s'.heap/\s'.os=f.os/\AllBare s'.gens) f:=by
  intro H hO hS aM hA hK;have g:∀{b:ae}{o:Obj},f.heap.get? b=some o->H b=none->(kg f.heap H).get? b=some o:=λe n=>Nb e n
  have Y:∀{b:ae}{o:Obj}{A:Array DictEntry}{y:Nat},f.heap.get? b=some o->o.data=.dict A y->H b=none:=λ{b o A y} e d=>by
   cases q:H b with
   |none=>rfl
   |some u=>
    have L:b=a:=hA b (by rw[q];simp);subst L;rw[J] at e;cases e;have d':Data.seq vs.toArray _=Data.dict A y:=d;cases d'
  have j:∀{b:ae}{m:bc},f.heap.Ns b m->(kg f.heap H).Ns b m:=λ{b m} ⟨o,A,y,e,d,r⟩=>⟨o,A,y,g e (Y e d),d,r⟩
  have B:K.In (kg f.heap H):=λb o e=>g (KX b o e) (by
   cases q:H b with
   |none=>rfl
   |some u=>
    have L:b=a:=hA b (by rw[q];simp);subst L;rw[hK (by rw[q];simp)] at e;cases e)
  have hM:Mod K mg (kg f.heap H):=⟨B,j D,⟨U,j i,O⟩,let ⟨mc,h1,h2⟩:=C;⟨mc,j h1,h2⟩⟩
  have e0:gJ P w K mg (kg f.heap H) callerA [] f H:=⟨rfl,hM,λb o e=>Pr e,Nat.le_of_eq (Lc _ _),trivial,λb i=>absurd (show b∈([]:cz) from i) (by simp),aM,.of_eq hg⟩
  refine codeAny_mono ((F _ B (j D)).run callerA [] f H ⟨[.ref a],[]⟩ [.ref a] [.ref a] _ _ hr e0 (l f (.ref a)) (.cons rfl .nil) (Q H hO hS)) λr s' h=>?_
  cases r with
  |error e=>exact (N H e s' h).elim
  |ok fl=>
   cases fl with
   |next=>exact False.elim h
   |brk=>exact False.elim h
   |cont=>exact False.elim h
   |ret u=>
    let⟨v,H',os,bare,un,E,r',q⟩:=h;have q':v=.bl true:=q;subst q';obtain rfl:u=Value.bool true:=r';refine⟨rfl,OldK.of_keep λb o e=>?_,os,bare⟩;cases q:H b with
    |none=>exact un.keep b o e q (by intro z;exact absurd (show b∈([]:cz) from z) (by simp)) (by simp)
    |some u=>
     rcases hO b with z |⟨ob,xs,z⟩
     .rw[q] at z;cases z
     .have z2:=un.bz b ob _ z;let⟨e1,_⟩:=aM b _ z;let⟨e2,_⟩:=E b _ z2;rw[e] at e1;cases e1;exact e2
 cases hk:K.lookup a with
 |some o=>
  have e:=KX a o hk;rw[J] at e;cases e;refine core (λ_=>none) (λ_=>.inl rfl) (.inr ⟨_,vs.toArray,_,hk,rfl,rfl,rfl,by rw[size_toArray,G];exact hl,by simpa using rv⟩) (λb u z=>by have I:(none:Option HO)=some u:=z;cases I) (λb z=>absurd rfl z) λz=>absurd rfl z
 |none=>
  refine core (λb=>if b=a then some (.aA { cls:=.type "list",data:=.seq vs.toArray } (.ag (ns.map V.int))) else none) (λb=>?_) (.inl (.inr ⟨{ cls:=.type "list",data:=.seq vs.toArray },if_pos rfl⟩)) (λb u z=>?_) (λb z=>?_) λ_=>hk
  .by_cases i:b=a
   .exact .inr ⟨_,_,if_pos i⟩
   .exact .inl (if_neg i)
  .by_cases i:b=a
   .have I:=(if_pos i).symm.trans z;cases I;subst i;exact⟨J,by rw[length_map];exact hl,vs,_,rv,J⟩
   .have I:=(if_neg i).symm.trans z;cases I
  .by_cases i:b=a
   .exact i
   .exact absurd (if_neg i) z
theorem kK{l:W.OpenLaw}{n k:Nat}{q:Program}{m:ah}{N:(bc)->aO->Prop}{M:World->aO->Prop}{d:DefRec}{K:Params->aj}{CX:World->fm}{sp:World->Sp}{x:Str}(hn:l.most=some n)(I:n<=sizeLine)(D:d.params.defaults=[])(hr:bp k callerA)(hY:∀(w:World)(h:aO),M w h->(K w.params).In h)(F:∀(w:World)(mg:bc)(A:ae)(h:aO),(K w.params).In h->h.Ns mainGlobals mg->mg d.name=some (.ref A)->
   ∃B:FuncData,(∀(s:ak)(u:ao),BindsTo s B ⟨[u],[]⟩ [(x,u)])/\
    ∀base:Heap,(K w.params).In base->base.Ns mainGlobals mg->aK l.prog w (K w.params) mg base (CX w) k A B [x] (sp w))(J:∀(w:World)(H:Hp)(a:ae)(ns:az),ns.length<=n->vO H->bG (K w.params) H a (ns.map V.int)->sp w [.ref a] H (λv _=>v=.bl true) λ_ _ _=>False)(C:∀(w:World)(H:Hp)(s:ak)(e:ao)(s':ak),CX w [] H s (λ_ _ _=>False) e s'->False):
  W.WalkO q m N M l.row.toRowW d [] (λf vs=>PySem.call f vs):=by
 refine Att.gi hn D λw s₀ y mg mb A o pm cd doc a vs ns G Y ho hd α E r j i hg=>?_
 have L:=hY w _ Y;let⟨B,hb,O⟩:=F w mg A _ L G.T.g E;exact Nq L G.T.g G.T.b G.T.builtins G.T.nolimit hg r j (le_trans i I) hr O hb (λH Q U=>J w H a ns i Q U) λH e s'=>C w H y e s'
def inClass(s:Stmt)(j:Nat):Stmt:=match s with
 |.ClassDef _ _ _ a _ _ _ _ _ _ _=>a.getD j (.Pass ⟨0,0,0,0⟩)
 |_=>.Pass ⟨0,0,0,0⟩
def nG(s:Stmt):Arguments:=match s with
 |.FunctionDef _ a _ _ _ _ _ _ _ _=>a
 |_=>{ posonlyargs:=[],args:=[],vararg:=none,kwonlyargs:=[],kw_defaults:=[],kwarg:=none,defaults:=[] }
def iX(s:Stmt):List Stmt:=match s with
 |.FunctionDef _ _ b _ _ _ _ _ _ _=>b
 |_=>[]
def bD(s:Stmt):Scope:=match s with
 |.FunctionDef _ _ _ _ _ _ sc _ _ _=>sc
 |_=>{ kind:=.function,names:=[],isGenerator:=false,isCoroutine:=false }
abbrev bJ:fm:=λ_ _ _ _ _ _=>False
abbrev E0:XK:=λ_ _ _=>False
theorem qz:lS bJ X E0:=λ_ _ _ _ _ _ _ h=>h.elim
structure gv(K:aj)(x qual:Str)(st:Stmt)(f:ae)(fd:FuncData):Prop where
 ex:∃(oc:ao)(od:bT)(kV doc pm:ao)(an:bT)(a7 ct:ao)(osl:Array (dZ)),
  fd=W.fnOf x qual (nG st) (iX st) (bD st) .none kV doc pm an a7 ct/\K.lookup f=some ⟨oc,od,.func fd,osl⟩/\W.codeIn K a7 qual=true
 kp:W.keepIn K (.ref f)=true
section
variable{P:Program}{w:World}{K:aj}{mg:bc}{base:aO}
theorem gv.ok{x a:Str}{st:Stmt}{f:ae}{g:FuncData}{N ps:ah}{k:Nat}{sp:Sp}(F:gv K x a st f g)(S:bW N ps (bD st))(len:∀vs H Q E,sp vs H Q E->vs.length=ps.length)(b:∀(a7:ao)(A:Around)(outer:b5)(s:ak)(H:Hp)(vs:ax)(Q:VK)(E:XK),bp k (A.deeper (envOfC a (bD st) ⇑s f a7))->sp vs H Q E->
   ∃t,eL (i1 bJ P w K mg base N a (bD st) f a7 A outer s H E).oC (iX st) t/\t { nx:=λ_ i=>Q .aE i,rt:=Q } (start N vs) H):aK P w K mg base bJ (k+1) f g ps sp:=by
 let⟨oc,od,kV,doc,pm,an,a7,ct,osl,rfl,l,d⟩:=F.ex;refine ES l d S len λA outer s H vs Q E j e=>?_
 let⟨t,h,q⟩:=b a7 A outer s H vs Q E j e;exact⟨t,h.oC,q⟩
theorem gv.binds{x a:Str}{st:Stmt}{f:ae}{b:FuncData}{ps:ah}(F:gv K x a st f b)(h:∀(kV doc pm:ao)(an:bT)(a7 ct:ao)(us:aL),us.length=ps.length->bindArgs (W.fnOf x a (nG st) (iX st) (bD st) .none kV doc pm an a7 ct) ⟨us,[]⟩=pure (ps.zip us)):Binds K b ps []:=by
 let⟨oc,od,kV,doc,pm,an,a7,ct,osl,rfl,e,d⟩:=F.ex;exact .all (h kV doc pm an a7 ct)
theorem Ro{x a:Str}{st:Stmt}{f:ae}{oc:ao}{od an:bT}{osl:Array (dZ)}{kV doc pm a7 ct:ao}(l:K.lookup f=some ⟨oc,od,.func (W.fnOf x a (nG st) (iX st) (bD st) .none kV doc pm an a7 ct),osl⟩)(c:W.codeIn K a7 a=true)(k:W.keepIn K (.ref f)=true):gv K x a st f (W.fnOf x a (nG st) (iX st) (bD st) .none kV doc pm an a7 ct):=⟨⟨oc,od,kV,doc,pm,an,a7,ct,osl,rfl,l,c⟩,k⟩
end
theorem EV(a:bp k A):A.units+1<cLine:=lt_of_le_of_lt (Nat.add_le_add_left (by decide:1<=64) _) a.units
section
variable{X:Cx}
theorem pv(i:Nat)(b:do X.N[i]?=some x)(d:lN X.env.scope x:=by first |exact Or.inl rfl |exact Or.inr (Or.inl rfl) |exact Or.inr (Or.inr rfl))(hd: ~~~(da x))(a: ~~~((x == ("__classdict__":Str))=false)):PE X (.Name x pos) (fS i):=tT b d hd a
end
def aB(H H':Hp):Prop:=∀b o,H b=some o->H' b=some o
theorem aB.refl(H:Hp):aB H H:=λ_ _ h=>h
theorem aB.trans(a:aB H H1)(b:aB H1 H2):aB H H2:=λc o h=>b c o (a c o h)
theorem aB.free{H a:Hp}(e:aB H a)(h:a l=Option.none):H l=Option.none:=by
 cases q:H l with
 |none=>rfl
 |some o=>
  rw[e l o q] at h;cases h
theorem aB.seq{K:aj}{H b:Hp}{a:ae}{xs:ax}(e:aB H b)(h:bG K H a xs):bG K b a xs:=by
 rcases h with (h |⟨o,h⟩) |h
 .exact .inl (.inl (e _ _ h))
 .exact .inl (.inr ⟨o,e _ _ h⟩)
 .exact .inr h
section
variable{X:Cx}
theorem KU:bU X (.builtin "len") (λxs H Q=>∃a kvs,xs=[V.ref a]/\H a=some (.dK kvs)/\Q (.int kvs.length) H):=by
 intro aa s j H xs us Q I r h;∎;let⟨a,kvs,rfl,d,q⟩:=h;let⟨u,rfl,e⟩:=mE r;∎;cases e;exact Tu I (.inl d) λt f b=>⟨.int kvs.length,H,b,⟨t,rfl⟩,q⟩
end
end L2
set_option Elab.async false
set_option linter.all false
set_option maxRecDepth 100000
set_option maxHeartbeats 4000000
namespace L2
open PySem PySem.Spec PyProof.Rows
def hU(i j:Int):Prop:=∃n:Nat,n<=60000000/\i.natAbs<2 ^ n/\j.natAbs<2 ^ n
theorem C8(h:x.natAbs<2 ^ n):Builtin.Int.intBits x<=n:=by
 unfold Builtin.Int.intBits;by_cases e:(x == 0)=true
 .rw[if_pos e];exact zero_le _
 .rw[if_neg e];have a:x.natAbs≠0:=by
   intro z;have:x=0:=⋯
   rw[this] at e;exact e rfl
  exact (Nat.log2_lt a).mpr h
theorem hU.ok(h:hU i j):IntMulOk i j:=by
 let⟨n,hn,a,b⟩:=h;have f:=C8 a;have g:=C8 b;intro z;simp only[and_eq_true,Builtin.Int.intTooBig,decide_eq_true_eq] at z;have e:(bitsLine:Nat)=134217728:=∎
 have d:=z.2;rw[e] at d;omega
def kf(i j:Int):Prop:=jW i j\/hU i j
def dD(_ j:Int):Prop:=j≠0/\j.natAbs<2 ^ 8000
theorem dD.ok(h:dD i j):Builtin.divisionGoesByPylong i j=false:=by
 refine PyProof.noPylong_of_log2 ?_;have a:j.natAbs≠0:=by have:=h.1;omega
 have:=(Nat.log2_lt a).mpr h.2;omega
section
variable{X:Cx}
theorem Gg:b9 X (binaryOp .Mult) (rI kf λi j=>.int (i*j)):=yg λ_ _ _ _ _ _ _ a q=>mul_int q (a.elim jW.ok hU.ok)
theorem Nr:b9 X (binaryOp .FloorDiv) (rI dD λi j=>.int (i.fdiv j)):=yg λ_ _ _ _ _ _ _ a q=>floordiv_int a.1 q (.inl a.ok)
end
section
variable{X:Cx}{aa:aT}{σ:St}{H:Hp}{s:ak}{a:ae}{kvs:cy}
theorem av.freeze(I:av X aa σ H s)(e:H a=some (.dK kvs)):∃o,s.heap.get? a=some o/\av X aa σ (aN H a (.aA o (.dK kvs))) s:=by
 have ok:aX X.prog X.w H s.heap a (.dK kvs):=I.aM a _ e;let⟨z,y,vs,r,o,f,d,b,c⟩:=id ok;refine⟨o,b,?_⟩;exact I.write (h':=s.heap) (t':=s.toks) (x:=a) (e:=a) (by rw[e];exact True.intro) (.inl rfl) (λ_ _ _ q=>q) ⟨o,b⟩ ⟨b,z,y,vs,r,o,f,d,b,c⟩
theorem av.jy(I:av X aa σ H s)(e:H a=some (.aA o (.dK kvs)))(hn:∀o u,X.H₀ a≠some (.aA o u)):av X aa σ (aN H a (.dK kvs)) s:=by
 have ne:∀b u,H b=some u->(∀o v,u≠.aA o v)->b≠a:=λb u h d z=>by
  subst z;rw[e] at h;exact d _ _ (Option.some.inj h).symm
 let⟨A,ok⟩:=(show aX X.prog X.w H s.heap a (.aA o (.dK kvs)) from I.aM a _ e);refine⟨I.ok,I.os,I.bare,⟨λb f q n i g=>I.base.keep b f q n i g,λb f q n i g=>I.base.slot b f q n i g,λb f q n g=>?_,λb f q g=>I.base.there b f q g,λb j q=>?_,λb f u q=>?_,λb r q=>?_⟩,I.loc,I.cell,?_,λx c q=>?_,λp l=>?_,λb u q=>?_,I.len⟩
 .have z:=I.base.free b f q n g;rw[aW (by intro y;subst y;rw[e] at z;cases z)];exact z
 .have z:=I.base.dy b j q;rw[aW (ne b _ z (λ_ _ y=>by cases y))];exact z
 .have z:=I.base.bz b f u q;rw[aW (by intro y;subst y;exact hn _ _ q)];exact z
 .obtain⟨m,z⟩:=I.base.dS b r q;exact⟨m,by rw[aW (ne b _ z (λ_ _ y=>by cases y))];exact z⟩
 .rw[aW (by intro y;have z:=I.free;rw[y,e] at z;cases z)];exact I.free
 .rw[aW (by intro y;have z:=I.bN x c q;rw[y,e] at z;cases z)];exact I.bN x c q
 .obtain⟨p1,p2,p3,p4,p5⟩:=I.pin p l;refine⟨p1,?_,p3,p4,p5⟩;rw[aW (by intro y;rw[y,e] at p2;cases p2)];exact p2
 .by_cases i:b=a
  .subst i;rw[cO] at q;cases q;exact ok
  .rw[aW i] at q;exact (I.aM b u q).dR (λ_ _ _ z=>z) (λc z=>by rw[aW (ne c _ z (λ_ _ y=>by cases y))];exact z) λc j z=>by rw[aW (ne c _ z (λ_ _ y=>by cases y))];exact z
end
def uG(a:ae)(ob:Obj)(kvs:cy):It:=
 ⟨λi H=>i<kvs.length/\H a=some (.aA ob (.dK kvs)),λi H x b=>∃p k v,kvs[i]?=some (k,v)/\H p=none/\x=.ref p/\b=aN H p (.aP [kV k,v]),λi H=>kvs.length<=i/\H a=some (.aA ob (.dK kvs))⟩
theorem wh(h:(eh P w).is k u=true):aC (kV k) u:=by
 rcases jC (k:=k) (v:=u) h with⟨i,t,rfl,rfl⟩ |⟨x,t,rfl,rfl⟩
 .exact⟨t,rfl⟩
 .exact⟨t,rfl⟩
theorem KV.at(r:KV kvs vs):∀{i:Nat}{k:aS}{v:V},kvs[i]?=some (k,v)->∃u,vs[i]?=some (k,u)/\aC v u:=by
 unfold KV at r
 induction r with
 |nil=>intro i k v h;simp at h
 |@cons p q d f h t b=>
  intro i k v e;cases i with
  |zero=>
   simp at e;subst e;have a:k=q.1:=h.1;exact⟨q.2,by rw[a];rfl,h.2⟩
  |succ i=>simpa using b (i:=i) (k:=k) (v:=v) (by simpa using e)
theorem Kr{P:Program}{w:World}{K:aj}{x:bL}{x1:Nat}{pos:Pos}(a it:ae)(ob:Obj)(kvs:cy)(ζ:a≠it):
  ki P w K (.Tuple x x1 pos) (uG a ob kvs) [it] it (λi h=>∃g ep ok ov,ob.data=.dict g ep/\IsItemIter h it a i kvs.length ep ok ov) where
 mem:=by simp
 obj:=λi h st b m=>by
  have e:b=it:=by simpa using m
  subst e;let⟨g,ep,ok,ov,hd,e⟩:=st;exact⟨_,e,λv z=>by cases z⟩
 keep:=λi h h' st k=>by
  let⟨g,ep,ok,ov,hd,e⟩:=st;exact⟨g,ep,ok,ov,hd,k it (by simp) _ e⟩
 item:=by
  intro X hP hw hK hc i aa s j H E I hf st hg;subst hP hw hK;∎;let⟨g,ep,ok,ov,hd,d⟩:=st;let⟨hi,hH⟩:=hg;let⟨D,z,y,vs,r,M,β,α,f,U,n,Y,c4,c5⟩:=(show aX X.prog X.w H s.heap a (.aA ob (.dK kvs)) from I.aM a _ hH);∎;have eo:M=ob:=by rw[D] at f;exact (Option.some.inj f).symm
  subst eo;rw[hd] at n;cases n;have hm:s.heap.DictAt (eh X.prog X.w) a vs ep:=⟨M,g,D,U,hd,Y,c4,c5⟩;obtain⟨⟨k,v⟩,C⟩:∃q,kvs[i]?=some q:=⟨kvs[i],by simp[hi]⟩;let⟨u,hu,ru⟩:=r.at C;have O:kvs.length=vs.length:=KV.length r;rw[O] at d;let⟨N,f1,f2,f3,f4,f5⟩:=hf it (by simp);refine wpAny_pyNext_items_item d hm hu λl h' B G hT η hk=>?_
  refine⟨.ref ⇑s,rfl,wpAny_letOwnedTupleGo_items G λh2 he hs=>?_⟩;have ε:it<⇑s:=Heap.lt_size d;have I1:=I.laid (a:=⇑s) (o:=.aP [kV k,v]) (h':=s.heap.push { cls:=.type "tuple",data:=.seq #[l,u] }) (t':=s.toks) (λb q J=>Heap.get?_push_of_some _ J) (le_refl _)
   ⟨by show 2<=sizeLine;decide,[l,u],.cons (wh B) (.cons ru .nil),⟨_,Heap.get?_push_size _ rfl,rfl,_,rfl⟩⟩
  have δ:H ⇑s=none:=I.aM.fresh (le_refl _);have L:it≠⇑s:=ne_of_lt ε;refine⟨.ref ⇑s,aN H ⇑s (.aP [kV k,v]),?_,rfl,⟨_,k,v,C,δ,rfl,rfl⟩,⟨g,ep,l,u,hd,by rw[O];exact he⟩,λb m=>?_⟩
  .have I2:av X aa j (aN H ⇑s (.aP [kV k,v])) { s with heap:=h2,toks:=s.toks }:=av.turned (s:={ s with heap:=s.heap.push { cls:=.type "tuple",data:=.seq #[l,u] },toks:=s.toks }) I1 (h':=h2) (t':=s.toks) (it:=it) (λb q m J=>?_) (by rw[aW L];exact N) f1 f3 f4 f5
   .exact I2
   .refine hs.extBut b q m ?_;rcases Heap.get?_push_cases J with⟨γ,eq⟩ |J
    .subst γ;subst eq;exact hT
    .exact hk b q m J
  .have e:b=it:=by simpa using m
   subst e;rw[aW L];exact N
 done:=by
  intro X hP hw hK hc i aa s j H E I hf st hg;subst hP hw hK;∎;let⟨g,ep,ok,ov,hd,d⟩:=st;let⟨hi,hH⟩:=hg;let⟨D,z,y,vs,r,M,β,α,f,U,n,Y,c4,c5⟩:=(show aX X.prog X.w H s.heap a (.aA ob (.dK kvs)) from I.aM a _ hH);∎;have eo:M=ob:=by rw[D] at f;exact (Option.some.inj f).symm
  subst eo;rw[hd] at n;cases n;have hm:s.heap.DictAt (eh X.prog X.w) a vs ep:=⟨M,g,D,U,hd,Y,c4,c5⟩;have O:kvs.length=vs.length:=KV.length r;rw[O] at d;let⟨N,f1,f2,f3,f4,f5⟩:=hf it (by simp);exact wpAny_pyNext_items_end (I.ok.hd hc) d hm (by simp;omega) λh' eb=>⟨rfl,I.turned (t':=s.toks) (λb o m e=>eb b o m e) N f1 f3 f4 f5⟩
 self:=λA i s Q E st h=>by
  let⟨g,ep,ok,ov,hd,d⟩:=st;exact W.kcp_self d h
section
variable{X:Cx}
def z7(X:Cx)(f:TE):TI:=λj H R=>f j H λx d=>∃a b,x=.ref a/\d a=some (.dK b)/\∀e,(∀o u,X.H₀ a≠some (.aA o u))->R (uG a e b) (aN d a (.aA e (.dK b)))
theorem MK(ho:PE X o td)(l:attributeBase o "items" X.env (eval o X.env)=eval o X.env)(m:(apos.endLine == bw.line)=true):
  PI X (.Tuple elts x1 pos) (.Call (.Attribute o "items" apos) [] [] bw) (z7 X td):=by
 intro aa s j H R I h;refine wpAny_Call_method0_late l m (bq (ho aa s j H _ I h) λv i L=>?_);let⟨x,M,A,r1,a,g,ex,B,q⟩:=L;subst ex;obtain rfl:v=Value.ref a:=r1;let⟨O,t2,hd⟩:=qd A (.inl ⟨g,.inl B⟩);refine⟨"dict","dict.items",PySem.F.plainAttrs_dict,PySem.F.slot_dict_items,PySem.F.type_dict_items,O,t2,Calls.callWith_builtin rfl (PySem.evalArgs_none ?_)⟩;let⟨z,y,vs,r,dd⟩:=tZ A.aM B;refine call_meetsIn PySem.F.slot_dict_items O PySem.F.entry_dict_items (PySem.F.args_dict_items_1 _) (meets_dict_items (eh X.prog X.w) a hd) ⟨⟨vs,dd⟩,?_⟩;have D:av X aa j M { i with heap:=i.heap.push { cls:=.type "dict_items",data:=.fields #[.ref a] } }:=A.kept (t':=i.toks) λb o e=>Heap.get?_push_of_some _ e
 have J:∀o u,X.H₀ a≠some (.aA o u):=λo u z=>by
  have:=A.base.bz a o u z;rw[B] at this;cases this
 let⟨E,G⟩:=dd.dictAt;have f:=G.push { cls:=.type "dict_items",data:=.fields #[.ref a] };refine wpAny_pyIter_items (v:=⇑i) (d:=a) ⟨_,Heap.get?_push_size _ rfl,rfl,rfl⟩ f ?_;let⟨C,n,Q⟩:=(D.kept (t':=i.toks) (h':=(i.heap.push { cls:=.type "dict_items",data:=.fields #[.ref a] }).push { cls:=.type "dict_itemiterator",data:=.fields #[.none,.bool false,.ref a,.int 0 0,.int vs.length 0,.int E 0,.none,.none] }) λb o e=>Heap.get?_push_of_some _ e).freeze B;have N:a<(i.heap.push { cls:=.type "dict_items",data:=.fields #[.ref a] }).objs.size:=f.lt_size;have hl:g.length=vs.length:=KV.length r;refine⟨_,[_],_,_,aN M a (.aA C (.dK g)),rfl,Q,Kr a (i.heap.push { cls:=.type "dict_items",data:=.fields #[.ref a] }).objs.size C g (ne_of_lt N),?_,λb hb=>?_,q C J⟩
 .obtain⟨o2,es,ho2,c1,c2,_⟩:=f;have U:C=o2:=by
   have Y:=Heap.get?_push_of_some { cls:=.type "dict_itemiterator",data:=.fields #[.none,.bool false,.ref a,.int 0 0,.int vs.length 0,.int E 0,.none,.none] } ho2;rw[Y] at n;exact (Option.some.inj n).symm
  subst U;refine⟨es,E,.none,.none,c2,?_⟩;rw[hl];exact Heap.get?_push_size _ rfl
 .have e:b=(i.heap.push { cls:=.type "dict_items",data:=.fields #[.ref a] }).objs.size:=by simpa using hb
  subst e;refine D.gq (le_refl _) ?_;rw[aW (Nat.ne_of_gt N)];exact D.aM.fresh (le_refl _)
def kn(X:Cx)(R:Hp->Prop)(H:Hp):Prop:=∃a d b,H a=some (.aA d (.dK b))/\(∀o u,X.H₀ a≠some (.aA o u))/\R (aN H a (.dK b))
def AB(X:Cx)(D:Ends):Ends:={ nx:=λj=>kn X (D.nx j),rt:=λv=>kn X (D.rt v),bk:=λj=>kn X (D.bk j),ct:=λj=>kn X (D.ct j) }
end
section
variable{X:Cx}
theorem Ks(N:X.calm=true):bU X (.type "list") (λxs H Q=>∃a kvs,xs=[.ref a]/\Rd H a (.dK kvs)/\∀p,H p=none->Q (.ref p) (aN H p (.ag (kvs.map λl=>kV l.1)))):=by
 intro aa s i H xs us Q I r h;∎;let⟨a,kvs,rfl,M,q⟩:=h;let⟨u,rfl,Y⟩:=mE r;∎;cases Y;∎;let⟨z,y,vs,m,dd⟩:=jk I.aM M;let⟨ep,B⟩:=dd.dictAt;∎;have E:kvs.length=vs.length:=KV.length m;refine W.kdl_call (W.kdl_dict (knd:=eh X.prog X.w) (kvs:=vs) (ep:=ep) y) (I.ok.hd N) B (by rw[<- E];exact z) λh' tk b J O L d=>?_
 have C:H ⇑s=none:=I.aM.fresh (le_refl _);refine⟨.ref ⇑s,_,I.laid (a:=⇑s) (o:=.ag (kvs.map λl=>kV l.1)) (h':=h') (t':=tk) O (le_refl _) ⟨by rw[length_map];exact z,b.toList,J,?_,by simpa using L⟩,rfl,q _ C⟩;have hn:b.toList.length=vs.length:=by rw[Array.length_toList];exact d.1
 have gen:∀(kvs:cy)(us:aL),us.length=kvs.length->(∀(j:Nat) k v u,kvs[j]?=some (k,v)->us[j]?=some u->aC (kV k) u)->aH (kvs.map λl=>kV l.1) us:=by
  intro kvs
  induction kvs with
  |nil=>intro us e _;cases us with
   |nil=>exact .nil
   |cons _ _=>simp at e
  |cons p r U=>
   intro us e f;cases us with
   |nil=>simp at e
   |cons u us=>
    refine .cons (f 0 p.1 p.2 u rfl rfl) (U us (by simpa using e) λj k v w n A=>f (j+1) k v w (by simpa using n) (by simpa using A))
 refine gen kvs b.toList (by rw[hn,E]) λj k v u n A=>?_
 ∎;let⟨k',x,G,g⟩:=d.2 j u (by rw[<- Array.getElem?_toList];exact A);let⟨u',D,_⟩:=m.at n;∎;rw[D] at G;cases G;exact wh g
def se:V->dZ
 |.ty n=>some (.type n)
 |.ref a=>some (.ref a)
 |_=>none
theorem ML:bU X (.builtin "isinstance") (λxs H Q=>∃x c t b u,xs=[x,c]/\dF X.K H x t/\se c=some u/\W.kitOne X.K t u=some b/\Q (.bl b) H):=by
 intro aa s j H xs us Q I r h;∎;let⟨x,c,t,b,u,rfl,ty,d,e,q⟩:=h;let⟨v,o,rfl,l,f⟩:=ER r;∎;have g:o=u:=by
  cases c with
  |ref a=>cases d;exact f
  |ty n=>cases d;exact f
  |aE=>cases d
  |bl n=>cases d
  |int i=>cases d
  |str i=>cases d
  |fW i=>cases d
  |kE i=>cases d
 subst g;exact KL I l ty e λm=>⟨.bl b,H,I.tok m,rfl,q⟩
end
theorem nS(A:Around):A.in1.units=A.units+1:=rfl
section
variable{σ:St}{H:Hp}{Q:VK}{D:Ends}{K:aj}
theorem aB.aN(h:H a=none):aB H (aN H a o):=λb u e=>by rw[aW (iz e h)];exact e
theorem aB.aP(e:aB H H')(h:c8 K H a xs):c8 K H' a xs:=by
 rcases h with (h |⟨o,h⟩) |h
 .exact .inl (.inl (e _ _ h))
 .exact .inl (.inr ⟨o,e _ _ h⟩)
 .exact .inr h
theorem aB.rd(e:aB H H')(h:Rd H a u):Rd H' a u:=by
 rcases h with h |⟨o,h⟩
 .exact .inl (e _ _ h)
 .exact .inr ⟨o,e _ _ h⟩
end
section
variable{σ:St}{H:Hp}{Q:VK}{D:Ends}{K:aj}{X:Cx}
theorem aB.m6(e:aB H H')(n:H a=none):aB H (L2.aN H' a o):=λb u q=>by rw[aW (iz q n)];exact e b u q
end
end L2
namespace Sf
def gd(a b:Int):Int:=(Int.gcd a b:Nat)
theorem PN(a:Int)(h:0<=a):gd a 0=a:=by
 unfold gd;rw[Int.gcd_zero_right];omega
theorem Rp(d:0<=a)(f:0<b):gd b (a % b)=gd a b:=by
 unfold gd Int.gcd;have e:(a % b).natAbs=a.natAbs % b.natAbs:=by
  let⟨m,rfl⟩:=Int.eq_ofNat_of_zero_le d;let⟨n,rfl⟩:=Int.eq_ofNat_of_zero_le (le_of_lt f);simp only[natAbs_natCast];rw[<- Int.natCast_emod,natAbs_natCast]
 rw[e,Nat.gcd_comm b.natAbs,Nat.gcd_comm a.natAbs,Nat.gcd_rec b.natAbs a.natAbs]
theorem lh(h:b≠0):0<gd a b:=by
 unfold gd;have:=Int.gcd_pos_of_ne_zero_right a h;omega
theorem Rq(a b:Int):gd (a.natAbs:Int) (b.natAbs:Int)=gd a b:=by
 unfold gd;simp[Int.gcd]
theorem Eh(a:Int):(if a<0 then -a else a)=(a.natAbs:Int):=by split<;>omega
theorem PQ(a b:Int):gd (if a<0 then -a else a) (if b<0 then -b else b)=gd a b:=by
 rw[Eh,Eh,Rq]
def dv(t b:Int):Int:=if b<0 then -(gd t b) else gd t b
theorem EW(h:b≠0):dv t b≠0:=by
 have:=lh (a:=t) h;unfold dv;split<;>omega
theorem sM(t b:Int):gd t b ∣ t:=Int.gcd_dvd_left ..
theorem wj(t b:Int):gd t b ∣ b:=Int.gcd_dvd_right ..
theorem MM(t b:Int):dv t b ∣ t:=by
 unfold dv;split
 .exact Int.neg_dvd.mpr (sM t b)
 .exact sM t b
theorem MN(t b:Int):dv t b ∣ b:=by
 unfold dv;split
 .exact Int.neg_dvd.mpr (wj t b)
 .exact wj t b
theorem EX{x d:Int}(h:d ∣ x):x.fdiv d*d=x:=by
 rw[Int.fdiv_mul_cancel h]
theorem B9{t b:Int}(h:b≠0):t.fdiv (dv t b)=(Rat.divInt t b).num:=by
 have hd:=EW (t:=t) h;refine Int.eq_of_mul_eq_mul_right hd ?_;rw[EX (MM t b),Rat.num_divInt];have e:b.gcd t=t.gcd b:=Int.gcd_comm ..;rw[e];have f:((t.gcd b:Nat):Int) ∣ t:=Int.gcd_dvd_left ..;have j:=lh (a:=t) h;unfold gd at j;unfold dv gd;rw[Int.mul_ediv_assoc _ f];let⟨k,i⟩:=f;generalize l:((t.gcd b:Nat):Int)=g at *;have d:t / g=k:=by rw[i];exact Int.mul_ediv_cancel_left k ⋯
 rw[d];split
 .rename_i hb;rw[Int.sign_eq_neg_one_of_neg hb];grind
 .rename_i hb;rw[Int.sign_eq_one_of_pos ⋯];grind
theorem Ca{t b:Int}(h:b≠0):b.fdiv (dv t b)=((Rat.divInt t b).den:Int):=by
 have hd:=EW (t:=t) h;refine Int.eq_of_mul_eq_mul_right hd ?_;rw[EX (MN t b),Rat.den_divInt,if_neg h];have e:b.gcd t=t.gcd b:=Int.gcd_comm ..;rw[e];have i:(t.gcd b) ∣ b.natAbs:=by rw[<- Int.ofNat_dvd_left];exact Int.gcd_dvd_right ..
 have l:=lh (a:=t) h;unfold gd at l;unfold dv gd;let⟨k,f⟩:=i;have d:b.natAbs / t.gcd b=k:=by rw[f];exact Nat.mul_div_cancel_left k ⋯
 rw[d];generalize t.gcd b=g at *;have j:(b.natAbs:Int)=(g:Int)*(k:Int):=by rw[f];exact natCast_mul ..
 split<;>grind
theorem den_pos(q:Rat):0<(q.den:Int):=by have:=q.den_nz;omega
end Sf
namespace Sf
def Sm(n:Nat)(q:Rat):Prop:=q.num.natAbs<2 ^ n/\q.den<2 ^ n
theorem Ck(h:b≠0):(Rat.divInt t b).num.natAbs<=t.natAbs/\(Rat.divInt t b).den<=b.natAbs:=by
 let⟨m,hm,g,i⟩:=Rat.divInt_num_den (n:=t) (d:=b) h (n':=(Rat.divInt t b).num) (d':=(Rat.divInt t b).den) (z':=(Rat.divInt t b).den_nz) (c:=(Rat.divInt t b).reduced) rfl;have a:1<=m.natAbs:=⋯
 have f:=congrArg Int.natAbs g;have e:=congrArg Int.natAbs i;rw[natAbs_mul] at f e;rw[natAbs_natCast] at e;constructor
 .rw[f];exact Nat.le_mul_of_pos_right _ a
 .rw[e];exact Nat.le_mul_of_pos_right _ a
theorem sF(h:b≠0)(a:t.natAbs<2 ^ n)(d:b.natAbs<2 ^ n):Sm n (Rat.divInt t b):=
 ⟨lt_of_le_of_lt (Ck h).1 a,lt_of_le_of_lt (Ck h).2 d⟩
theorem Kt(a b:Rat):a+b=Rat.divInt (a.num*b.den+b.num*a.den) (a.den*b.den):=by
 rw[Rat.add_def',<- Rat.divInt_ofNat];rfl
theorem BU(a b:Rat):a - b=Rat.divInt (a.num*b.den - b.num*a.den) (a.den*b.den):=by
 rw[Rat.sub_def',<- Rat.divInt_ofNat];rfl
theorem BV(a b:Rat):a*b=Rat.divInt (a.num*b.num) (a.den*b.den):=by
 rw[Rat.mul_def',<- Rat.divInt_ofNat];rfl
theorem ql(a b:Rat):(a.den*b.den:Int)≠0:=by
 have d:=den_pos a;have e:=den_pos b;exact ne_of_gt (mul_pos d e)
theorem Rr(a:x<2 ^ n)(b:y<2 ^ m):x*y<2 ^ (n+m):=by
 rw[pow_add];exact Nat.mul_lt_mul'' a b
theorem kc{x y:Int}{n m:Nat}(a:x.natAbs<2 ^ n)(b:y.natAbs<2 ^ m):(x*y).natAbs<2 ^ (n+m):=by
 rw[natAbs_mul];exact Rr a b
theorem Ku{x y:Int}{n:Nat}(a:x.natAbs<2 ^ n)(b:y.natAbs<2 ^ n):(x+y).natAbs<2 ^ (n+1):=by
 rw[Nat.pow_succ];omega
theorem Kv{x y:Int}{n:Nat}(a:x.natAbs<2 ^ n)(b:y.natAbs<2 ^ n):(x - y).natAbs<2 ^ (n+1):=by
 rw[Nat.pow_succ];omega
theorem jM(h:Sm n q):(q.den:Int).natAbs<2 ^ n:=by rw[natAbs_natCast];exact h.2
theorem Fs{x:Int}{n m:Nat}(h:x.natAbs<2 ^ n)(k:n<=m):x.natAbs<2 ^ m:=lt_of_lt_of_le h (Nat.pow_le_pow_right ∎ k)
theorem Rt{n m:Nat}{a b:Rat}(d:Sm n a)(e:Sm m b):Sm (n+m+1) (a+b):=by
 rw[Kt];refine sF (ql a b) ?_ ?_
 .refine Ku (kc d.1 (jM e)) ?_;rw[Nat.add_comm n m];exact kc e.1 (jM d)
 .exact Fs (kc (jM d) (jM e)) ⋯
theorem Ru{n m:Nat}{a b:Rat}(d:Sm n a)(e:Sm m b):Sm (n+m+1) (a - b):=by
 rw[BU];refine sF (ql a b) ?_ ?_
 .refine Kv (kc d.1 (jM e)) ?_;rw[Nat.add_comm n m];exact kc e.1 (jM d)
 .exact Fs (kc (jM d) (jM e)) ⋯
theorem bH(d:Sm n a)(e:Sm m b):Sm (n+m) (a*b):=by
 rw[BV];exact sF (ql a b) (kc d.1 e.1) (kc (jM d) (jM e))
theorem Rv(h:Sm n a):Sm n (-a):=⟨by rw[Rat.neg_num,Int.natAbs_neg];exact h.1,h.2⟩
end Sf
namespace Sf
section
variable{κ:Type}[DecidableEq κ]
abbrev FL(κ:Type):=List (κ×Rat)
def gt(m:FL κ)(k:κ):Option Rat:=(m.find? λp=>decide (p.1=k)).map (·.2)
def nz(m:FL κ):FL κ:=m.filter λp=>decide (p.2≠0)
def sc(m:FL κ)(n:Rat):FL κ:=m.map λp=>(p.1,p.2*n)
def run(P:κ->Rat)(r:Rat)(m:FL κ):Rat:=m.foldl (λt p=>t+p.2*P p.1) r
end
end Sf
namespace Sf
section
variable{κ:Type}[DecidableEq κ]
theorem KW{j:Type}{m:List j}{i:Nat}{p:j}(e:m[i]?=some p):m.take (i+1)=m.take i++[p]:=by
 rw[take_add_one,e];rfl
end
end Sf
namespace Vc
open PySem L2 Sf
def Le(F b:Hp):Prop:=∀a u,(∀o w,u≠.aA o w)->Rd F a u->Rd b a u
theorem Le.refl(F:Hp):Le F F:=λ_ _ _ h=>h
theorem Le.trans(a:Le F G)(b:Le G H):Le F H:=λx u n h=>b x u n (a x u n h)
theorem Le.of(e:aB F F'):Le F F':=λa u _ h=>e.rd h
theorem Le.aP(e:Le F F')(h:c8 K F a xs):c8 K F' a xs:=by
 rcases h with h |h
 .exact .inl (e _ _ (by intro o w z;cases z) h)
 .exact .inr h
theorem Le.ag(e:Le F F')(h:bG K F a xs):bG K F' a xs:=by
 rcases h with h |h
 .exact .inl (e _ _ (by intro o w z;cases z) h)
 .exact .inr h
theorem Le.aR(e:Le F F')(h:Rd F a (.dK kvs)):Rd F' a (.dK kvs):=e _ _ (by intro o w z;cases z) h
def Fz(S:ae->Prop)(F:Hp):Prop:=∀a o u,F a=some (.aA o u)->S a
abbrev S0:ae->Prop:=λ_=>False
def vP(F:Hp):ae->Prop:=λa=>∃o u,F a=some (.aA o u)
structure Gr0(F H F' H':Hp):Prop where
 h:aB H H'
 f:aB F F'
 s:aB F' H'
 n:∀a u,F' a=some u->F a=none->H a=none
structure Gr(F H F' H':Hp):Prop extends Gr0 F H F' H' where
 z:Fz (vP F) F'
theorem Gr0.refl(s:aB F H):Gr0 F H F H:=⟨aB.refl _,aB.refl _,s,(λa u h e=>by rw[h] at e;cases e)⟩
theorem Fz.refl(F:Hp):Fz (vP F) F:=λ_ o u h=>⟨o,u,h⟩
theorem Gr.of(g:Gr0 F H F' H')(z:Fz (vP F) F'):Gr F H F' H':=⟨g,z⟩
theorem Gr.le(g:Gr F H F' H'):Le F F':=.of g.f
theorem Gr.fz(g:Gr F H F' H')(c:Fz S F):Fz S F':=λa o u h=>by
 let⟨b,d,e⟩:=g.z a o u h;exact c a b d e
theorem Gr0.trans(a:Gr0 F H F1 H1)(b:Gr0 F1 H1 F2 H2):Gr0 F H F2 H2:=
 ⟨a.h.trans b.h,a.f.trans b.f,b.s,(λx u h e=>match q:F1 x with
  |none=>a.h.free (b.n x u h q)
  |some w=>a.n x w q e)⟩
theorem Gr0.tr(a:Gr0 F H F1 H1)(b:Gr F1 H1 F2 H2):Gr0 F H F2 H2:=a.trans b.toGr0
theorem Gr.own{F H a b:Hp}(g:Gr F H a b)(d:F o=none)(e:H o=some u):a o=none:=by
 cases q:a o with
 |none=>rfl
 |some w=>have:=g.n o w q d;rw[e] at this;cases this
theorem al{F H:Hp}{R:V->Hp->Prop}(j:aB F H)(m:∀x u,o≠.aA x u)(h:∀(p:ae)(g i:Hp),Gr F H g i->g p=some o->R (.ref p) i):∀p,H p=none->R (.ref p) (aN H p o):=λp f=>by
 have l:F p=none:=j.free f;refine h p (aN F p o) (aN H p o) ⟨⟨aB.aN f,aB.aN l,?_,λa u e q=>?_⟩,λa x u e=>?_⟩ cO
 .intro b u e;by_cases d:b=p
  .subst d;rw[cO] at e ⊢;exact e
  .rw[aW d] at e ⊢;exact j b u e
 .by_cases d:a=p
  .subst d;exact f
  .rw[aW d,q] at e;cases e
 .by_cases d:a=p
  .subst d;rw[cO] at e;exact absurd (Option.some.inj e) (m x u)
  .rw[aW d] at e;exact⟨_,_,e⟩
theorem Hn{F H:Hp}{R:Hp->Prop}(l:aB F H)(j:∀x u,o≠.aA x u)(d:H p=none)(h:∀b a:Hp,Gr F H b a->b p=some o->R a):R (aN H p o):=by
 have:=al (R:=λv a=>∀q,v=.ref q->q=p->R a) l j (λq b a g e z i f=>by cases i;subst f;exact h b a g e) p d;exact this p rfl rfl
theorem nQ{F H:Hp}(h:aB F H)(f:∀x u,o≠.aA x u)(d:H p=none):∃a,Gr F H a (aN H p o)/\a p=some o:=
 Hn (R:=λb=>∃a,Gr F H a b/\a p=some o) h f d λa _ g e=>⟨a,g,e⟩
theorem aA{Fb Hb F H:Hp}(g:Gr0 Fb Hb F H)(l:Fz S F)(i:Hb p=none)(j:F p=none)(m:H p=some o)(r:∀x u,o≠.aA x u):∃d,Gr0 Fb Hb d H/\Fz S d/\aB F d/\d p=some o/\∀a,a≠p->d a=F a:=by
 refine⟨aN F p o,⟨g.h,g.f.trans (aB.aN j),?_,λa u e q=>?_⟩,λa x u e=>?_,aB.aN j,cO,λ_ e=>aW e⟩
 .intro b u e;by_cases i:b=p
  .subst i;rw[cO] at e;cases e;exact m
  .rw[aW i] at e;exact g.s b u e
 .by_cases hb':a=p
  .subst hb';exact i
  .rw[aW hb'] at e;exact g.n a u e q
 .by_cases hb':a=p
  .subst hb';rw[cO] at e;exact absurd (Option.some.inj e) (r x u)
  .rw[aW hb'] at e;exact l a x u e
def fz(X:Hp)(a:ae)(o:HO):Hp:=λb=>if b=a then (if X a=none then none else some o) else X b
theorem fE{X:Hp}(h:b≠a):fz X a o b=X b:=by unfold fz;rw[if_neg h]
theorem gg:fz X a o a=if X a=none then none else some o:=by unfold fz;rw[if_pos rfl]
theorem wV{X:Hp}(h:fz X a o a=some u):X a≠none/\some o=some u:=by
 rw[gg] at h;split at h
 .cases h
 .rename_i q;exact⟨q,h⟩
theorem oj{F:Hp}(d:F a=none\/F a=some (.dK kvs)):Le F (fz F a (.aA ob (.dK kvs))):=λb u n h=>by
 by_cases e:b=a
 .subst e;rcases d with d |d
  .rcases h with h |⟨o,h⟩<;>(rw[d] at h;cases h)
  .rcases h with h |⟨o,h⟩
   .rw[d] at h;cases h;refine .inr ⟨ob,?_⟩;rw[gg,if_neg (by rw[d];intro z;cases z)]
   .rw[d] at h;cases h
 .rcases h with h |⟨o,h⟩
  .exact .inl (by rw[fE e];exact h)
  .exact .inr ⟨o,by rw[fE e];exact h⟩
theorem Q6{Fb Hb F H j m:Hp}{S:ae->Prop}{R:Hp->Prop}(A:Gr0 Fb Hb F H)(D:H a=some (.dK kvs))(i:F a=none\/F a=some (.dK kvs))(v:Gr0 (fz Fb a (.aA ob (.dK kvs))) (fz Hb a (.aA ob (.dK kvs))) j m)(y:j a=fz F a (.aA ob (.dK kvs)) a)(B:Fz (λb=>b=a\/S b) j)(h:∀g l:Hp,Gr0 Fb Hb g l->Fz S g->Le j g->g a=F a->l a=some (.dK kvs)->(∀b,b≠a->g b=j b)->(∀b,b≠a->l b=m b)->R l):R (aN m a (.dK kvs)):=by
 have nn:j  a=none\/j a=some (.aA ob (.dK kvs)):=by
  rw[y,gg];split
  .exact .inl rfl
  .exact .inr rfl
 refine h (fz j a (.dK kvs)) (aN m a (.dK kvs)) ⟨λb u e=>?_,λb u e=>?_,λb u e=>?_,λb u e q=>?_⟩ (λb o u e=>?_) (λb u n e=>?_) ?_ cO (λb d=>fE d) (λb d=>aW d)
 .by_cases d:b=a
  .subst d;rw[cO];have:=A.h _ _ e;rw[D] at this;exact this
  .rw[aW d];exact v.h b u (by rw[fE d];exact e)
 .by_cases d:b=a
  .subst d;have r:=A.f _ _ e;rcases i with i |i
   .rw[i] at r;cases r
   .rw[i] at r;have C:j b=some (.aA ob (.dK kvs)):=by rw[y,gg,if_neg (by rw[i];intro z;cases z)]
    rw[gg,if_neg (by rw[C];intro z;cases z)];exact r
  .rw[fE d];exact v.f b u (by rw[fE d];exact e)
 .by_cases d:b=a
  .subst d;rw[cO];exact (wV e).2
  .rw[fE d] at e;rw[aW d];exact v.s b u e
 .by_cases d:b=a
  .subst d;rw[gg] at e;split at e
   .cases e
   .rename_i hn;rw[y,gg] at hn;split at hn
    .exact absurd rfl hn
    .rename_i hf;let⟨w,E⟩:=Option.ne_none_iff_exists'.mp hf;exact A.n _ _ E q
  .rw[fE d] at e;have:=v.n b u e (by rw[fE d];exact q);rw[fE d] at this;exact this
 .by_cases d:b=a
  .subst d;cases (wV e).2
  .rw[fE d] at e;rcases B b o u e with x |x
   .exact absurd x d
   .exact x
 .by_cases d:b=a
  .subst d;rcases nn with nn |nn
   .rcases e with e |⟨o,e⟩<;>(rw[nn] at e;cases e)
   .rcases e with e |⟨o,e⟩
    .rw[nn] at e;cases e;exact absurd rfl (n _ _)
    .rw[nn] at e;cases e;refine .inl ?_;rw[gg,if_neg (by rw[nn];intro z;cases z)]
  .rcases e with e |⟨o,e⟩
   .exact .inl (by rw[fE d];exact e)
   .exact .inr ⟨o,by rw[fE d];exact e⟩
 .rw[gg,y,gg];rcases i with i |i<;>rw[i]
  .rfl
  .rfl
theorem qm{F:Hp}(c:Fz S0 F)(h:Rd F a (.dK kvs)):F a=some (.dK kvs):=by
 rcases h with h |⟨o,h⟩
 .exact h
 .exact (c _ _ _ h).elim
abbrev Rep(j:Type):=Hp->V->j->Prop
def r2(K:aj){j i:Type}(A:Rep j)(B:Rep i):Rep (j×i):=λF v x=>∃a b d,v=.ref a/\c8 K F a [b,d]/\A F b x.1/\B F d x.2
def r3(K:aj){j i G:Type}(A:Rep j)(B:Rep i)(C:Rep G):Rep (j×i×G):=λF v x=>∃a b d e,v=.ref a/\c8 K F a [b,d,e]/\A F b x.1/\B F d x.2.1/\C F e x.2.2
def r5(K:aj){j i G h l:Type}(A:Rep j)(B:Rep i)(C:Rep G)(D:Rep h)(E:Rep l):Rep (j×i×G×h×l):=λF v x=>∃a b d e f g,v=.ref a/\c8 K F a [b,d,e,f,g]/\A F b x.1/\B F d x.2.1/\C F e x.2.2.1/\D F f x.2.2.2.1/\E F g x.2.2.2.2
section
variable{α:Type}
def bZ(m:List (Str×α))(k:Str):Option α:=(m.find? λp=>decide (p.1=k)).map (·.2)
def mS(m:List (Str×α))(k:Str)(y:α):List (Str×α):=if (m.any λp=>decide (p.1=k))=true then m.map (λp=>if p.1=k then (p.1,y) else p) else m++[(k,y)]
theorem C9(e:p.1=k):bZ (p::r) k=some p.2:=by simp[bZ,find?_cons,e]
theorem PR(e:¬ p.1=k):bZ (p::r) k=bZ r k:=by simp[bZ,find?_cons,e]
end
def bl(n:Nat):Nat:=if n=0 then 0 else Nat.log2 n+1
theorem kR:n<2 ^ k↔bl n<=k:=by
 unfold bl;by_cases h:n=0
 .subst h;simp[Nat.two_pow_pos]
 .rw[if_neg h,<- Nat.log2_lt h];omega
theorem De(n:Nat):n<2 ^ bl n:=kR.mpr (le_refl _)
def bi(x:Int):Nat:=bl x.natAbs
def bs(q:Rat):Nat:=max (bl q.num.natAbs) (bl q.den)
theorem Tw(h:bs q<=n):Sm n q:=⟨kR.mpr (by unfold bs at h;omega),kR.mpr (by unfold bs at h;omega)⟩
theorem qA(h:Sm n q):bs q<=n:=by
 have a:=kR.mp h.1;have b:=kR.mp h.2;unfold bs;omega
theorem mG(q:Rat):Sm (bs q) q:=Tw (le_refl _)
theorem Rw(a b:Rat):bs (a+b)<=bs a+bs b+1:=qA (Rt (mG a) (mG b))
theorem xc(a b:Rat):bs (a - b)<=bs a+bs b+1:=qA (Ru (mG a) (mG b))
theorem tV(a b:Rat):bs (a*b)<=bs a+bs b:=qA (bH (mG a) (mG b))
theorem Rx(a:Rat):bs (-a)<=bs a:=qA (Rv (mG a))
theorem nU:bs 0=1:=by decide +kernel
theorem iL(h:x.natAbs<2 ^ k):bi x<=k:=kR.mp h
theorem jl(h:bi x<=k):x.natAbs<2 ^ k:=kR.mpr h
theorem i6(x y:Int):bi (x*y)<=bi x+bi y:=kR.mp (kc (De _) (De _))
theorem iH(q:Rat):bi q.num<=bs q:=by unfold bi bs;omega
theorem gy(q:Rat):bi (q.den:Int)<=bs q:=by unfold bi bs;rw[natAbs_natCast];omega
theorem p9(h:b≠0)(a:bi t<=k)(d:bi b<=k):bs (Rat.divInt t b)<=k:=qA (sF h (jl a) (jl d))
theorem Tz(a:bi x<=60000000)(b:bi y<=60000000):kf x y:=.inr ⟨60000000,le_refl _,jl a,jl b⟩
theorem yh(h0:y≠0)(h1:bi y<=8000):dD x y:=⟨h0,jl h1⟩
def jB(K:aj)(H:Hp)(x:V)(t:ao):Prop:=dF K H x t\/(t=.type "tuple"/\∃a d,x=.ref a/\c8 K H a d)\/(t=.type "list"/\∃a d,x=.ref a/\bG K H a d)\/(t=.type "dict"/\∃a b,x=.ref a/\Rd H a (.dK b))
section
variable{K:aj}{H:Hp}
theorem Ry(h:c8 K H a xs):jB K H (.ref a) (.type "tuple"):=.inr (.inl ⟨rfl,a,xs,rfl,h⟩)
theorem Rz(h:bG K H a xs):jB K H (.ref a) (.type "list"):=.inr (.inr (.inl ⟨rfl,a,xs,rfl,h⟩))
theorem RA(h:Rd H a (.dK kvs)):jB K H (.ref a) (.type "dict"):=.inr (.inr (.inr ⟨rfl,a,kvs,rfl,h⟩))
theorem RB:jB K H (.int i) (.type "int"):=.inl (.int i)
theorem RC:jB K H (.str i) (.type "str"):=.inl (.str i)
theorem TB:jB K H (.bl i) (.type "bool"):=.inl (.bl i)
theorem SD:jB K H .aE (.type "NoneType"):=.inl .aE
end
section
open PySem.Spec PyProof.Rows
variable{X:Cx}
theorem MO:bU X (.builtin "isinstance") (λxs H Q=>∃x c t b u,xs=[x,c]/\jB X.K H x t/\se c=some u/\W.kitOne X.K t u=some b/\Q (.bl b) H):=by
 intro aa s j H xs us Q I r h;let⟨x,c,t,b,u,rfl,ty,d,e,q⟩:=h;rcases ty with ty |⟨rfl,a,D,rfl,l⟩ |⟨rfl,a,D,rfl,l⟩ |⟨rfl,a,A,rfl,l⟩
 .exact ML aa s j H [x,c] us Q I r ⟨x,c,t,b,u,rfl,ty,d,e,q⟩
 all_goals
  let⟨v,C,rfl,B,m⟩:=ER r;have y:C=u:=by
   cases c with
   |ref a=>cases d;exact m
   |ty n=>cases d;exact m
   |aE=>cases d
   |bl n=>cases d
   |int i=>cases d
   |str i=>cases d
   |fW i=>cases d
   |kE i=>cases d
  subst y;cases (show v=Value.ref a from B)
 .obtain⟨dC,_,p,_⟩:=I.tuple l;let⟨o,f,g,_⟩:=p;exact W.kia_one W.kitx_tuple I.cG ⟨o,f,g⟩ e (λz=>nomatch z) λw=>⟨.bl b,H,I.tok w,rfl,q⟩
 .obtain⟨dC,_,p,_⟩:=I.list l;let⟨o,f,g,_⟩:=p.isList;exact W.kia_one W.kitx_list I.cG ⟨o,f,g⟩ e (λz=>nomatch z) λw=>⟨.bl b,H,I.tok w,rfl,q⟩
 .obtain⟨_,_,vs,_,p⟩:=jk I.aM l;let⟨o,G,E,f,g,_⟩:=p;exact W.kia_one W.kitx_dict I.cG ⟨o,f,g.1⟩ e (λz=>nomatch z) λw=>⟨.bl b,H,I.tok w,rfl,q⟩
end
def sgn(z:Str)(i:Int):Str:=⟨#[z.cps.toList.getD i.toNat 0]⟩
section
variable{X:Cx}{aa:aT}{σ:St}{F H:Hp}{s:ak}{Au:Around}
theorem PU:∀{x y:V}{u:ao},aC x u->aC y u->x=y:=by
 intro x y u b a;cases x<;>cases y<;>simp only[aC] at b a<;>first
  |rfl
  |(subst b;simp at a;subst a;rfl)
  |(subst b;simp at a;done)
  |(let⟨t,rfl⟩:=b;let⟨d,e⟩:=a;simp at e;rw[e.1])
  |(let⟨t,rfl⟩:=b;simp at a;done)
  |(let⟨t,rfl⟩:=a;simp at b;done)
theorem wk:∀{xs ys:ax}{us:aL},aH xs us->aH ys us->xs=ys
 |[],[],_,_,_=>rfl
 |_::_,_::_,_,.cons h t,.cons h' t'=>by rw[PU h h',wk t t']
 |[],_::_,_,h,h'=>by cases h;cases h'
 |_::_,[],_,h,h'=>by cases h';cases h
theorem PV(I:av X aa σ H s)(h:c8 X.K H a xs)(i:c8 X.K H a ys):xs=ys:=by
 ∎;let⟨us,j,⟨r,g,m,o,f⟩,_⟩:=I.tuple h;let⟨l,r2,⟨u,d,n,q,b⟩,_⟩:=I.tuple i;∎;rw[g] at d;cases d;rw[f] at b;injection b with e _
 have:us=l:=by simpa using e
 subst this;exact wk j r2
theorem PX(I:av X aa σ H s)(h:bG X.K H a xs)(i:bG X.K H a ys):xs=ys:=by
 ∎;let⟨us,j,p1,_⟩:=I.list h;let⟨l,r2,p2,_⟩:=I.list i;let⟨r,g,m,o,f⟩:=p1.isList;let⟨u,d,n,q,b⟩:=p2.isList;∎;rw[g] at d;cases d;rw[f] at b;injection b with e _
 have:us=l:=by simpa using e
 subst this;exact wk j r2
theorem Df(I:av X aa σ H s)(f:c8 X.K H a xs)(g:c8 X.K H b ys)(B:Au.units<cLine)(J:xs.length=ys.length)(e:Nat->Bool)(w:∀(j:Nat) x y u v,xs[j]?=some x->ys[j]?=some y->aC x u->aC y v->SeqAt.EqAt Au.in1 s u v (e j)):SeqAt.RcAt Au s (.ref a) (.ref b) ((List.range xs.length).all e):=by
 ∎;let⟨us,m,E,_⟩:=I.tuple f;let⟨d,r2,G,_⟩:=I.tuple g;∎;have L:=m.length;have M:=r2.length;have z:=SeqAt.RcAt.tuples (A:=Au) (e:=e) E G B (λj f g=>?_)
 .have e0:((List.range (min us.toArray.size d.toArray.size)).all e&&us.toArray.size == d.toArray.size)=(List.range xs.length).all e:=by
   simp only[size_toArray];have h:min us.length d.length=xs.length:=⋯
   have l:(us.length == d.length)=true:=by simp;omega
   rw[h,l,Bool.and_true]
  rw[e0] at z;exact z
 .simp only[size_toArray] at f g;∎;let⟨u,h,C⟩:=m.get (i:=j) (x:=xs[j]'⋯) (by simp);let⟨v,l,D⟩:=r2.get (i:=j) (x:=ys[j]'⋯) (by simp);let⟨_,n⟩:=List.getElem?_eq_some_iff.mp h;let⟨_,o⟩:=List.getElem?_eq_some_iff.mp l;∎;have q:us.toArray[j]'(by simpa using f)=u:=by simpa using n
  have r:d.toArray[j]'(by simpa using g)=v:=by simpa using o
  rw[q,r];exact w j _ _ u v (by simp) (by simp) C D
theorem Dg(I:av X aa σ H s)(d:bG X.K H a xs)(f:bG X.K H b ys)(w:Au.units<cLine)(L:xs.length=ys.length)(e:Nat->Bool)(r:∀(j:Nat) x y u v,xs[j]?=some x->ys[j]?=some y->aC x u->aC y v->SeqAt.EqAt Au.in1 s u v (e j)):SeqAt.RcAt Au s (.ref a) (.ref b) ((List.range xs.length).all e):=by
 ∎;let⟨us,g,E,_⟩:=I.list d;let⟨J,r2,G,_⟩:=I.list f;∎;have B:=g.length;have M:=r2.length;have z:=SeqAt.RcAt.lists (A:=Au) (e:=e) E.isList G.isList (by simp;omega) w (λj d f=>?_)
 .have e0:(List.range us.toArray.size).all e=(List.range xs.length).all e:=by
   simp only[size_toArray];rw[<- B]
  rw[e0] at z;exact z
 .simp only[size_toArray] at d f;∎;let⟨u,h,C⟩:=g.get (i:=j) (x:=xs[j]'⋯) (by simp);let⟨v,l,D⟩:=r2.get (i:=j) (x:=ys[j]'⋯) (by simp);let⟨_,m⟩:=List.getElem?_eq_some_iff.mp h;let⟨_,n⟩:=List.getElem?_eq_some_iff.mp l;∎;have o:us.toArray[j]'(by simpa using d)=u:=by simpa using m
  have q:J.toArray[j]'(by simpa using f)=v:=by simpa using n
  rw[o,q];exact r j _ _ u v (by simp) (by simp) C D
end
theorem MP(a:aC (.int i) u)(r2:aC (.int j) v):SeqAt.EqAt Au s u v (decide (i=j)):=by
 have z:=qe (A:=Au) (s:=s) a r2 rfl rfl;have e:iP (.int i) (.int j)=decide (i=j):=by show (i == j)=_;rw[Bool.beq_eq_decide_eq]
 rw[e] at z;exact z
end Vc
namespace L2
open PySem PySem.Spec PyProof.Rows
def iW(env:Env)(cs:List (Str×ae))(y:Str×NameKind):List (Str×ae):=if (y.2 == .free)=true then (match env.cells.lookup y.1 with |some a=>(y.1,a)::cs |none=>cs) else cs
def jJ(a:Scope)(env:Env):List (Str×ae):=a.names.foldl (iW env) []
def iC(a:Scope)(env:Env):Bool:=a.names.all λy=>!(y.2 == .free) || (env.cells.lookup y.1).isSome
theorem BA(h:iC scope env=true):closureFor scope env=pure (jJ scope env):=by
 unfold closureFor jJ;unfold iC at h;have gen:∀(l:List (Str×NameKind))(b:List (Str×ae)),(l.all λy=>!(y.2 == .free) || (env.cells.lookup y.1).isSome)=true->
   (forIn l b λx r=>match x with |(name,kind)=>if (kind == NameKind.free)=true then (do let a <- cellOf env name;pure (ForInStep.yield ((name,a)::r))) else pure (ForInStep.yield r):Sem (List (Str×ae)))=pure (l.foldl (iW env) b):=by
  intro l
  induction l with
  |nil=>intro b _;rfl
  |cons y r i=>
   intro b f;rw[all_cons,and_eq_true] at f;let⟨n,k⟩:=y;rw[List.forIn_cons,List.foldl_cons];by_cases d:(k == NameKind.free)=true
   .have h1:=f.1;simp only[d,Bool.not_true,Bool.false_or] at h1;let⟨a,e⟩:=Option.isSome_iff_exists.mp h1;have g:iW env b (n,k)=(n,a)::b:=by unfold iW;simp[d,e]
    have j:cellOf env n=pure a:=by unfold cellOf;rw[e]
    rw[g,<- i _ f.2];simp only[d,if_true,j,pure_bind]
   .have g:iW env b (n,k)=b:=by unfold iW;simp[d]
    rw[g,<- i _ f.2];simp only[d,if_false,pure_bind,Bool.false_eq_true]
 have:=gen scope.names [] h;simp only[this,pure_bind]
theorem l0(h:(jJ scope env).lookup x=some c):env.cells.lookup x=some c:=by
 unfold jJ at h;have gen:∀(l:List (Str×NameKind))(b:List (Str×ae)),(b.lookup x=some c->env.cells.lookup x=some c)->(l.foldl (iW env) b).lookup x=some c->env.cells.lookup x=some c:=by
  intro l
  induction l with
  |nil=>intro b f g;exact f g
  |cons y r i=>
   intro b f g;rw[List.foldl_cons] at g;refine i _ (λz=>?_) g;unfold iW at z;split at z
   .split at z
    .rename_i a e;rw[lookup_cons] at z;by_cases d:(x == y.1)=true
     .rw[d] at z;have:=eq_of_beq d;subst this;simp at z;rw[<- z];exact e
     .simp only[d] at z;exact f z
    .exact f z
   .exact f z
 exact gen scope.names [] (λz=>by cases z) h
theorem Cb(g:iC scope env=true)(h:scope.names.lookup x=some .free):∃c,(jJ scope env).lookup x=some c:=by
 unfold jJ;unfold iC at g;have keep:∀(l:List (Str×NameKind))(b:List (Str×ae)),(∃c,b.lookup x=some c)->∃c,(l.foldl (iW env) b).lookup x=some c:=by
  intro l
  induction l with
  |nil=>intro b f;exact f
  |cons y r i=>
   intro b f;rw[List.foldl_cons];refine i _ ?_;unfold iW;split
   .split
    .rw[lookup_cons];by_cases d:(x == y.1)=true
     .rw[d];exact⟨_,rfl⟩
     .simp only[d];exact f
    .exact f
   .exact f
 have gen:∀(l:List (Str×NameKind))(b:List (Str×ae)),(l.all λy=>!(y.2 == .free) || (env.cells.lookup y.1).isSome)=true->l.lookup x=some .free->∃c,(l.foldl (iW env) b).lookup x=some c:=by
  intro l
  induction l with
  |nil=>intro b _ f;cases f
  |cons y r i=>
   intro b g f;rw[all_cons,and_eq_true] at g;let⟨n,k⟩:=y;rw[List.foldl_cons];rw[lookup_cons] at f;by_cases d:(x == n)=true
   .rw[d] at f;have:=eq_of_beq d;subst this;simp at f;subst f;refine keep r _ ?_;have j:(env.cells.lookup x).isSome=true:=g.1;let⟨a,e⟩:=Option.isSome_iff_exists.mp j;refine⟨a,?_⟩;unfold iW;rw[if_pos (show ((NameKind.free) == NameKind.free)=true from rfl)];dsimp only;rw[e];dsimp only;rw[lookup_cons,d]
   .simp only[d] at f;exact i _ g.2 f
 exact gen scope.names [] g h
theorem Jt(b:∀y∈a.names,y.2≠.cell)(h:(relabel a env).names.lookup x=some .cell\/(relabel a env).names.lookup x=some .free):a.names.lookup x=some .free:=by
 unfold relabel at h;dsimp only at h;have gen:∀l:List (Str×NameKind),(∀y∈l,y.2≠.cell)->((l.map λ(n,k)=>if (k == NameKind.free&&env.scope.kind == .function&&env.kindOf n == some .cell) then (n,NameKind.cell) else (n,k)).lookup x=some .cell\/(l.map λ(n,k)=>if (k == NameKind.free&&env.scope.kind == .function&&env.kindOf n == some .cell) then (n,NameKind.cell) else (n,k)).lookup x=some .free)->l.lookup x=some .free:=by
  intro l
  induction l with
  |nil=>intro _ f;rcases f with f |f<;>cases f
  |cons y r m=>
   intro g f;let⟨n,k⟩:=y;have i:k≠.cell:=g (n,k) (List.mem_cons_self ..);rw[map_cons] at f;rw[lookup_cons];by_cases d:(x == n)=true
   .rw[d];dsimp only at f ⊢;by_cases e:(k == NameKind.free&&env.scope.kind == .function&&env.kindOf n == some .cell)=true
    .have:k=.free:=by
      simp only[and_eq_true] at e;exact eq_of_beq e.1.1
     rw[this]
    .rw[if_neg e,lookup_cons,d] at f;simp only[Option.some.injEq] at f;rcases f with f |f
     .exact absurd f i
     .rw[f]
   .simp only[d];refine m (λy j=>g y (mem_cons_of_mem _ j)) ?_;dsimp only at f;split at f<;>(rw[lookup_cons] at f;simp only[d] at f;exact f)
 exact gen a.names b h
inductive Wk:St->St->Prop
 |nil:Wk [] []
 |aE {a b:St} {x:Option V}:Wk a b -> Wk (none::a) (x::b)
 |uy {a b:St} {v:V}:Wk a b -> Wk (some v::a) (some v::b)
theorem Wk.length(h:Wk a b):b.length=a.length:=by
 induction h with
 |nil=>rfl
 |aE _ d=>simp[d]
 |uy _ d=>simp[d]
theorem Wk.get(h:Wk a b):∀{i:Nat}{v:V},a[i]?=some (some v)->b[i]?=some (some v):=by
 induction h with
 |nil=>intro i v e;simp at e
 |aE _ d=>
  intro i v e;cases i with
  |zero=>simp at e
  |succ i=>simpa using d (i:=i) (v:=v) (by simpa using e)
 |uy _ d=>
  intro i v e;cases i with
  |zero=>simpa using e
  |succ i=>simpa using d (i:=i) (v:=v) (by simpa using e)
theorem wW:∀a:St,Wk a a
 |[]=>.nil
 |none::a=>.aE (wW a)
 |some _::a=>.uy (wW a)
def dB(ix:br)(j:St):St:=ix.map λo=>match o with |none=>none |some i=>(j[i]?).getD none
def bA(X:Cx)(sc:Scope):ah->br->Prop
 |[],[]=>True
 |_::N,none::ix=>bA X sc N ix
 |x::N,some i::ix=>X.N[i]? = some x /\ X.env.kindOf x=some .cell /\ sc.names.lookup x=some .free /\ bA X sc N ix
 |_,_=>False
theorem bA.length:∀{N:ah}{ix:br},bA X sc N ix->ix.length=N.length
 |[],[],_=>rfl
 |_::N,none::ix,h=>by rw[length_cons,length_cons,bA.length (X:=X) (sc:=sc) (N:=N) (ix:=ix) h]
 |_::N,some i::ix,h=>by rw[length_cons,length_cons,bA.length (X:=X) (sc:=sc) (N:=N) (ix:=ix) h.2.2.2]
 |[],_::_,h=>h.elim
 |_::_,[],h=>h.elim
theorem bA.get:∀{N:ah}{ix:br}{j:Nat}{x:Str}{v:V},bA X sc N ix->N[j]?=some x->(dB ix G)[j]?=some (some v)->∃i:Nat,X.N[i]?=some x/\X.env.kindOf x=some .cell/\sc.names.lookup x=some .free/\G[i]?=some (some v)
 |_::N,none::ix,0,x,v,h,e1,e2=>by simp[dB] at e2
 |_::N,none::ix,j + 1,x,v,h,e1,e2=>bA.get (N:=N) (ix:=ix) (j:=j) h (by simpa using e1) (by simpa [dB] using e2)
 |y::N,some i::ix,0,x,v,h,e1,e2=>by
  simp at e1;subst e1;refine⟨i,h.1,h.2.1,h.2.2.1,?_⟩;simp[dB] at e2;cases q:G[i]? with
  |none=>rw[q] at e2;simp at e2
  |some o=>rw[q] at e2;simp at e2;rw[e2]
 |y::N,some i::ix,j + 1,x,v,h,e1,e2=>bA.get (N:=N) (ix:=ix) (j:=j) h.2.2.2 (by simpa using e1) (by simpa [dB] using e2)
 |[],[],_,_,_,_,e1,_=>by simp at e1
 |[],_::_,_,_,_,h,_,_=>h.elim
 |_::_,[],_,_,_,h,_,_=>h.elim
theorem IC(h:scope.names.lookup x=some .free):(relabel scope env).names.lookup x=some .cell\/(relabel scope env).names.lookup x=some .free:=by
 unfold relabel;dsimp only;have gen:∀l:List (Str×NameKind),l.lookup x=some .free->((l.map λ(n,k)=>if (k == NameKind.free&&env.scope.kind == .function&&env.kindOf n == some .cell) then (n,NameKind.cell) else (n,k)).lookup x=some .cell\/(l.map λ(n,k)=>if (k == NameKind.free&&env.scope.kind == .function&&env.kindOf n == some .cell) then (n,NameKind.cell) else (n,k)).lookup x=some .free):=by
  intro l
  induction l with
  |nil=>intro f;cases f
  |cons y r b=>
   intro f;let⟨n,k⟩:=y;rw[lookup_cons] at f;rw[map_cons];by_cases a:(x == n)=true
   .rw[a] at f;simp at f;subst f;dsimp only;split
    .left;rw[lookup_cons,a]
    .right;rw[lookup_cons,a]
   .simp only[a] at f;dsimp only;split<;>(rw[lookup_cons];simp only[a];exact b f)
 exact gen scope.names h
def cA(X:Cx)(a:Scope)(N:ah)(C:ae)(s:ak)(H:Hp)(fp:cz)(pl:aT):Cx where
 prog:=X.prog
 w:=X.w
 K:=X.K
 mg:=X.mg
 base:=X.base
 A:=X.A
 N:=N
 s₀:=s
 H₀:=H
 env:=compEnvC a (jJ a X.env) C X.env
 outer:=X.stack
 stack:=X.stack
 ex:=fp
 fn:=λ_=>false
 calm:=X.calm
 pn:=X.pn++pl
 xe:=λ_ _=>False
def nj(Y:Cx)(a:bL)(t:TT):Prop:=
 ∀(aa:aT)(s:ak)(j:St)(H:Hp)(Q:Bool->Hp->Prop),av Y aa j H s->t j H Q->
  wpAny (model Y.prog Y.w) Y.A (forIn a true λc r=>if r=true then do let ok <- isTrue c Y.env (eval c Y.env);pure (ForInStep.yield ok) else pure (ForInStep.yield r)) (TP Y aa j Q) Y.xe s
def Bg:TT:=λ_ H Q=>Q true H
theorem PY:nj Y [] Bg:=λ_ _ _ H _ I h=>wpAny_tests_nil ⟨H,I,h⟩
theorem Dh(h:PT Y c t):nj Y [c] t:=λaa s j H Q I q=>wpAny_tests_one (h aa s j H Q I q)
theorem ID{R:Result->ak->Prop}(I:Nat->ak->Prop)(turn:∀n s,I n s->wpAny (model prog w) A (pyNext it) (λr b=>match r with
   |none=>R (.ok .next) b
   |some v=>wpAny (model prog w) A (letOwnedTupleGo target it v) (λ_ s₀=>wpAny (model prog w) A (assign target env v) (λ_ i=>
     wpAny (model prog w) A (forIn ifs true λc r=>if r=true then do let ok <- isTrue c env (eval c env);pure (ForInStep.yield ok) else pure (ForInStep.yield r)) (λok d=>
      if ok=true then wpAny (model prog w) A (eval elt env) (λx j=>
       wpAny (model prog w) A (call (.builtin "list.append") [acc,x]) (λ_ l=>∃m,m<n/\I m l) (notedBy (model prog w) A env λe s'=>R (.error e) s') j) (notedBy (model prog w) A env λe s'=>R (.error e) s') d
      else ∃m,m<n/\I m d) (notedBy (model prog w) A env λe s'=>R (.error e) s') i) (notedBy (model prog w) A env λe s'=>R (.error e) s') s₀) (notedBy (model prog w) A env λe s'=>R (.error e) s') b) (notedBy (model prog w) A env λe s'=>R (.error e) s') s)(n:Nat)(h:I n s):codeAny (model prog w) A (.compLoop (.ListComp elt [⟨target,iter,ifs,0⟩] scope pos) 0 it acc env) R s:=by
 refine codeAny_loop rfl I (λn s B=>?_) n h;show wpAny _ A ((compTurn (.ListComp elt [⟨target,iter,ifs,0⟩] scope pos) 0 it acc env).onRaise (λx=>do noteFrame x env;theTreesLotGoes x)) _ _ s;refine wpAny_noted ?_;rw[compTurn_list];refine wpAny_bind (wpAny_standAt (wpAny_bind (wpAny_mono (turn n s B) (λr b f=>?_) λ_ _ a=>a)));cases r with
 |none=>exact wpAny_pure f
 |some v=>
  refine wpAny_bind (wpAny_mono f (λ_ s₀ o=>?_) λ_ _ a=>a);refine wpAny_bind (wpAny_mono o (λ_ i q=>wpAny_bind (wpAny_mono q (λok d g=>?_) λ_ _ a=>a)) λ_ _ a=>a);cases ok with
  |false=>exact wpAny_pure ⟨rfl,g⟩
  |true=>
   exact wpAny_bind (wpAny_bind (wpAny_mono g (λx j u=>wpAny_bind (wpAny_mono u (λ_ l y=>wpAny_pure (wpAny_pure ⟨rfl,y⟩)) λ_ _ a=>a)) λ_ _ a=>a))
section
variable{X:Cx}{aa:aT}{σ:St}{H:Hp}{s:ak}{scope:Scope}{N:ah}{fp:cz}{C:ae}
theorem OY(I:av X aa σ H s)(l:⇑s<=C)(i:∀b∈fp,gN X aa H b)(j:∀b∈fp,∃o,s.heap.get? b=some o)(f:scope.kind=.function)(d:∀y∈scope.names,y.2≠.cell)(g:iC scope X.env=true):
  (cA X scope N C s H fp aa).Ok where
 mod:=I.ok.mod
 kind:=f
 glob:=I.ok.glob
 blt:=I.ok.blt
 above:=l
 inj:=λx y c m n=>I.ok.inj x y c (l0 m) (l0 n)
 has:=λx h=>Cb g (Jt d h)
 lz:=λx c h=>by cases h
 hd:=I.ok.hd
 frames:=I.ok.frames
 mZ:=.inl rfl
 mK:=λb a=>⟨λz=>by let⟨o,e⟩:=j b a;have:=Heap.lt_size e;subst z;exact absurd (lt_of_lt_of_le this l) (lt_irrefl _),λx c e=>(i b a).2.2.2.2.1 x c (l0 e)⟩
 bs:=I.bs
 i7:=le_trans I.ok.i7 I.sz
 gs:=λb o e a=>by
  rcases (i b a).2.2.2.1 with z |z
  .exact I.ok.gs b o e z
  .exact absurd (lt_of_lt_of_le (Heap.lt_size e) (le_trans I.ok.i7 z)) (lt_irrefl _)
 gn:=λb a hm=>by
  rcases mem_cons.mp (I.eI b hm) with z |z
  .exact (i b a).2.1 z
  .exact (i b a).2.2.1 z
 du:=I.stack
 jS:=I.fN
theorem MQ(I:av X aa σ H s)(ok:(cA X scope N C s H fp aa).Ok)(w:⇑s<=C)(k:∀b o,s.heap.get? b=some o->h'.get? b=some o)(hn:h'.Ns C m)(g:bA X scope N ix)(a:iC scope X.env=true):
  av (cA X scope N C s H fp aa) [] (dB ix σ) H { s with heap:=h',toks:=t' } where
 ok:=ok
 os:=rfl
 bare:=I.bare
 base:=Un.kept k
 loc:=⟨m,hn,λi x v A B Q=>by
  ∎;let⟨L,D,y,f,l⟩:=g.get A B;let⟨U,_,G⟩:=I.loc;let⟨u,r,look⟩:=G L x v D l (.inr (.inl y));∎;rcases look with⟨z,_⟩ |⟨_,c,E,o,h,hd⟩
  .rw[y] at z;cases z
  .obtain⟨c',hc'⟩:=Cb a f;have e:=l0 hc';rw[E] at e;cases e;exact⟨u,r,.inr ⟨IC f,c,hc',o,k _ _ h,hd⟩⟩⟩
 cell:=λx c e=>by
  let⟨v,o,h,hd⟩:=I.cell x c (l0 e);exact⟨v,o,k _ _ h,hd⟩
 free:=I.aM.fresh w
 bN:=λx c e=>I.bN x c (l0 e)
 pin:=λp J=>by
  have j:p∈X.pn++aa:=by simpa [cA] using J
  let⟨e,n,ne,M,d⟩:=I.pin p j;refine⟨k _ _ e,n,λz=>?_,λz=>?_,d⟩
  .have:=Heap.lt_size e;have O:p.1=C:=z;rw[O] at this;exact absurd (lt_of_lt_of_le this w) (lt_irrefl _)
  .rcases mem_cons.mp (I.eI p.1 z) with q |q
   .exact ne q
   .exact M q
 aM:=I.aM.kept k
 len:=by
  have:=g.length;simp[dB,cA,this]
theorem KY{h:Hp}(I:av X aa σ H s)(J:av (cA X scope N C s H fp aa) pl σ' h s')(j:D=⇑s)(f:∀b∈fp,gN X aa H b)(m:s'.heap.PlainList D dC.toArray)(r:aH acc dC)(w:acc.length<=sizeLine)(hn:h D=none):av X aa σ (aN h D (.ag acc)) s':=by
 have i:∀b o,s.heap.get? b=some o->b≠D:=λb o e z=>by rw[z,j] at e;exact absurd (Heap.lt_size e) (lt_irrefl _)
 have a:H D=none:=I.aM.fresh (by rw[j];exact le_refl _);refine I.dH (ch:=fp) J.os ⟨J.base.keep,J.base.slot,λb o e n v=>?_,J.base.there,λb l e=>?_,λb o u e=>?_,λb x e=>?_⟩ (λb u e=>?_) J.bare λb d=>⟨(f b d).2.2.2.1,(f b d).2.1,(f b d).2.2.2.2.1,(f b d).2.2.2.2.2⟩
 .rw[aW (i b o e)];exact J.base.free b o e n v
 .rw[aW (iz e a)];exact J.base.dy b l e
 .rw[aW (iz e a)];exact J.base.bz b o u e
 .obtain⟨mo,e2⟩:=J.base.dS b x e;exact⟨mo,by rw[aW (iz e a)];exact e2⟩
 .by_cases d:b=D
  .subst d;rw[cO] at e;cases e;let⟨n,g⟩:=m;exact⟨w,dC,n,r,g⟩
  .rw[aW d] at e;exact (J.aM b u e).dR (λ_ _ _ q=>q) (λc q=>by rw[aW (iz q hn)];exact q) λc l q=>by rw[aW (iz q hn)];exact q
end
def lU(u:TI)(g:TG)(s:TT)(r:TE)(ix:br):TE:=λj H Q=>u j H λJ n=>∃W:Nat->Nat->ax->Hp->Prop,(∃m,W 0 m [] n)/\∀i m a H,W i m a H->
 (J.stop i H/\a.length<=sizeLine/\∀p,H p=none->Q (.ref p) (aN H p (.ag a)))\/
 (J.go i H/\∃N:ax->Hp->Prop,(∀d e,N d e->∃l,l<m/\W (i+1) l d e)/\∀x e,J.lJ i H x e->g x (dB ix j) e λf o=>Wk (dB ix j) f/\s f o λb h=>if b=true then r f h λv q=>a.length<sizeLine/\N (a++[v]) q else N a h)
section
variable{X:Cx}{elt target iter:Expr}{ifs:bL}{scope:Scope}{pos:Pos}{N:ah}{ix:br}{wi:TI}{g:TG}{ti:TT}{te:TE}
theorem Cd{Q:VK}{RR:ao->ae->Result->ak->Prop}{tn:Nat->aO->Prop}(hc:X.calm=true)(hg:∀C s H fp pl,PG (cA X scope N C s H fp pl) target g)(ht:∀C s H fp pl,nj (cA X scope N C s H fp pl) ifs ti)(he:∀C s H fp pl,PE (cA X scope N C s H fp pl) elt te)(ε:scope.kind=.function)(δ:∀y∈scope.names,y.2≠.cell)(π:iC scope X.env=true)(hpk:bA X scope N ix)(I2:av X aa j O a)(T:ki X.prog X.w X.K target J fp it tn)(st2:tn 0 a.heap)(f2:∀b∈fp,gN X aa O b)(h:∃W:Nat->Nat->ax->Hp->Prop,(∃m,W 0 m [] O)/\∀i m f H,W i m f H->
   (J.stop i H/\f.length<=sizeLine/\∀p,H p=none->Q (.ref p) (aN H p (.ag f)))\/
   (J.go i H/\∃N:ax->Hp->Prop,(∀ξ M,N ξ M->∃m',m'<m/\W (i+1) m' ξ M)/\∀x M,J.lJ i H x M->g x (dB ix j) M λj2 O=>Wk (dB ix j) j2/\ti j2 O λb H3=>if b=true then te j2 H3 λv H4=>f.length<sizeLine/\N (f++[v]) H4 else N f H3))(hR:∀(D C:ae)(s':ak)(M:Hp)(m:bc),av X aa j M s'->s'.heap.Ns C m->M C=none->⇑a<=C->Q (.ref D) M->RR (.ref D) C (.ok .next) s'):
  wpAny (model X.prog X.w) X.A (newList []) (λf U=>wpAny (model X.prog X.w) X.A (newFunctionEnv scope X.env.globals (jJ scope X.env) [] X.env.qual none .none (some X.env)) (λο s₄=>
   codeAny (model X.prog X.w) X.A (.compStart (.ListComp elt [⟨target,iter,ifs,0⟩] scope pos) 0 (.ref it) f { ο with scope:=relabel scope X.env }) (RR f ο.locals) s₄) E U) E a:=by
 let⟨W,⟨m0,w0⟩,turn⟩:=h;refine wpAny_newObj_type (wpAny_newFunctionEnv δ (by intro y hy;simp at hy) (λβ L G=>?_) ε);dsimp only at L G ⊢;generalize τ:a.heap.push { cls:=.type "list",dict:=none,data:=.seq ([]:aL).toArray }=P2 at L G ⊢;have hC:P2.objs.size=⇑a+1:=by rw[<- τ,Heap.size_push]
 have κ:⇑a≠P2.objs.size:=by rw[hC];exact ne_of_lt (Nat.lt_succ_self _)
 have γ:⇑a<=P2.objs.size:=by rw[hC];exact Nat.le_succ _
 have Y:∀b,b<⇑a->b≠P2.objs.size/\b≠⇑a:=λb l=>⟨by rw[hC];exact ne_of_lt (lt_succ_of_lt l),ne_of_lt l⟩
 have old:∀b o,a.heap.get? b=some o->β.get? b=some o:=λb o e=>G.extBut b o (Y b (Heap.lt_size e)).1 (Heap.get?_push_of_some _ (τ ▸ Heap.get?_push_of_some _ e))
 have hacc:β.PlainList ⇑a #[]:=⟨_,G.extBut _ _ κ (Heap.get?_push_of_some _ (τ ▸ Heap.get?_push_size _ rfl))⟩
 have hfo:∀b∈fp,∃o,a.heap.get? b=some o:=λb l=>let ⟨o,e,_⟩:=T.obj 0 _ st2 b l;⟨o,e⟩
 have υ:⇑a ∉ fp:=λhm=>by let⟨o,e⟩:=hfo _ hm;exact absurd (Heap.lt_size e) (lt_irrefl _)
 have ok:=OY (N:=N) (C:=P2.objs.size) I2 γ f2 hfo ε δ π;have st1:tn 0 β:=T.keep 0 _ _ st2 λb _ o e=>old b o e
 have J0:=MQ (t':=a.toks+([]:List (Str×ao)).length) (ix:=ix) I2 ok γ old L hpk π;have pnD:∀p∈X.pn++aa,p.1≠⇑a:=λp hp=>(Y _ (Heap.lt_size (I2.pin p hp).1)).2
 have σ:∀x c,(jJ scope X.env).lookup x=some c->c≠⇑a:=λx c e=>by
  let⟨v,o,ho,_⟩:=I2.cell x c (l0 e);exact (Y _ (Heap.lt_size ho)).2
 have θ:∀{pl:aT}{M:Hp},(∀b∈fp,M b=none)->(∀p∈pl,p.1=⇑a)->∀b∈fp,gN (cA X scope N P2.objs.size a O fp aa) pl M b:=λ{pl M} hn hp b l=>by
  refine⟨hn b l,(ok.mK b l).1,ok.gn b l,.inl l,(ok.mK b l).2,λp hm=>?_⟩;rcases mem_append.mp hm with z |z
  .exact (f2 b l).2.2.2.2.2 p z
  .rw[hp p z];intro q;rw[q] at υ;exact υ l
 have ρ:∀U:Shared,U={ a with heap:=β,toks:=a.toks+([]:List (Str×ao)).length }->
   codeAny (model X.prog X.w) X.A (.compLoop (.ListComp elt [⟨target,iter,ifs,0⟩] scope pos) 0 (.ref it) (.ref ⇑a) (compEnvC scope (jJ scope X.env) P2.objs.size X.env)) (RR (.ref ⇑a) P2.objs.size) U:=by
  rintro U rfl;refine ID (λn s'=>∃i f I j' M,av (cA X scope N P2.objs.size a O fp aa) [] j' M s'/\Wk (dB ix j) j'/\tn i s'.heap/\(∀b∈fp,M b=none)/\s'.heap.PlainList ⇑a (List.toArray I)/\aH f I/\M ⇑a=none/\W i n f M) ?_ m0
   ⟨0,[],[],_,O,J0,wW _,st1,λb l=>(f2 b l).1,hacc,.nil,I2.aM.fresh (le_refl _),w0⟩
  rintro n s3 ⟨i,f,I,j3,H3,I3,wk3,st3,ω,pl3,ν,χ,w3⟩;let⟨kk,g3⟩:=id pl3;have ψ:av (cA X scope N P2.objs.size a O fp aa) [(⇑a,⟨.type "list",none,.seq (List.toArray I) kk,#[]⟩)] j3 H3 s3:=I3.eA λp hp=>by
   have e:=mem_singleton.mp hp;subst e;refine⟨g3,χ,κ,λz=>?_,λv q=>by cases q⟩;let⟨_,o,ho,_⟩:=(I2.stack).mem z;exact absurd (Heap.lt_size ho) (lt_irrefl _)
  have α:∀p∈[((⇑a,⟨.type "list",none,.seq (List.toArray I) kk,#[]⟩):ae×Obj)],p.1=⇑a:=λp hp=>by
   rw[mem_singleton.mp hp]
  rcases turn i n f H3 w3 with⟨stop,hlen,fin⟩ |⟨go,NN,hNN,step⟩
  .refine wpAny_mono (T.done (cA X scope N P2.objs.size a O fp aa) rfl rfl rfl hc i _ s3 j3 H3 _ ψ (θ ω α) st3 stop) (λr s4 h4=>?_) λ_ _ z=>z
   let⟨hr,I4⟩:=h4;subst hr;have g4:=(I4.pin (⇑a,_) (mem_append_right _ (mem_singleton.mpr rfl))).1;let⟨mm,hnm,_⟩:=I4.loc;have B:=KY I2 I4 rfl f2 ⟨kk,g4⟩ ν hlen χ;refine hR _ _ s4 _ mm B hnm ?_ γ (fin _ χ);rw[aW (Ne.symm κ)];exact I4.free
  .refine wpAny_mono (T.item (cA X scope N P2.objs.size a O fp aa) rfl rfl rfl hc i _ s3 j3 H3 _ ψ (θ ω α) st3 go) (λr s4 h4=>?_) λ_ _ z=>z
   let⟨u,hr,h4⟩:=h4;subst hr;refine wpAny_mono h4 (λ_ s5 h5=>?_) λ_ _ z=>z
   let⟨x,H5,I5,r5,y5,μ,fr5⟩:=h5;have I5w:=I5.weak wk3.length.symm (λi v e=>wk3.get e);have I5':=I5w.pinned (fp:=fp) (θ fr5 α) (T.obj _ _ μ);refine wpAny_mono (hg P2.objs.size a O fp aa _ s5 _ H5 x u _ I5' r5 (step x H5 y5)) (λ_ s6 h6=>?_) λ_ _ z=>z.elim
   let⟨j6,H6,I6,wk6,q6⟩:=h6;refine wpAny_mono (ht P2.objs.size a O fp aa _ s6 j6 H6 _ I6 q6) (λok s7 h7=>?_) λ_ _ z=>z.elim
   let⟨H7,I7,q7⟩:=h7;have η:∀{j8:St}{H8:Hp}{s8:ak},av (cA X scope N P2.objs.size a O fp aa) ([((⇑a,⟨.type "list",none,.seq (List.toArray I) kk,#[]⟩):ae×Obj)]++pz fp s5.heap) j8 H8 s8->
     (∀b∈fp,∀o,s5.heap.get? b=some o->s8.heap.get? b=some o)/\(∀b∈fp,H8 b=none):=λ{j8 H8 s8} I8=>by
    refine⟨λb l o e=>(I8.pin (b,o) (mem_append_right _ (mem_append_right _ (sL l e)))).1,λb l=>?_⟩;let⟨o,e,d⟩:=T.obj _ _ μ b l;exact (I8.pin (b,o) (mem_append_right _ (mem_append_right _ (sL l e)))).2.1
   have ι:∀{j8:St}{H8:Hp}{s8:ak}{pl:aT},av (cA X scope N P2.objs.size a O fp aa) pl j8 H8 s8->av (cA X scope N P2.objs.size a O fp aa) [] j8 H8 s8:=λI8=>I8.eA λp hp=>by cases hp
   cases ok with
   |false=>
    simp only[Bool.false_eq_true,if_false] at q7 ⊢;let⟨m',hm,w7⟩:=hNN _ _ q7;have p7:=I7.pin (⇑a,_) (mem_append_right _ (List.mem_append_left _ (mem_singleton.mpr rfl)));let⟨k1,k2⟩:=η I7;exact⟨m',hm,i+1,f,I,j6,H7,ι I7,wk6,T.keep _ _ _ μ k1,k2,⟨kk,p7.1⟩,ν,p7.2.1,w7⟩
   |true=>
    simp only[if_true] at q7 ⊢;refine wpAny_mono (he P2.objs.size a O fp aa _ s7 j6 H7 _ I7 q7) (λy s8 h8=>?_) λ_ _ z=>z.elim
    ∎;let⟨v,H8,I8,r8,hlt,q8⟩:=h8;let⟨m',hm,w8⟩:=hNN _ _ q8;∎;have p8:=I8.pin (⇑a,_) (mem_append_right _ (List.mem_append_left _ (mem_singleton.mpr rfl)));let⟨k1,k2⟩:=η I8;have hl:=ν.length;refine wpAny_list_append_plain (items:=List.toArray I) (hsz:=by rw[size_toArray,<- hl];exact Nat.le_of_lt hlt) ⟨kk,p8.1⟩ λh₅ φ ζ=>?_
    have I9:av (cA X scope N P2.objs.size a O fp aa) [] j6 H8 { s8 with heap:=h₅ }:=(ι I8).turned (t':=s8.toks) (it:=⇑a) (λb o l e=>ζ.extBut b o l e) p8.2.1 κ (.inr (le_refl _)) σ (λp hp=>by
     have hp':p∈X.pn++aa:=by simpa [cA] using hp
     exact pnD p hp')
    refine⟨m',hm,i+1,f++[v],I++[y],j6,H8,I9,wk6,T.keep _ _ _ μ λb l o e=>ζ.extBut b o (λz=>υ (z ▸ l)) (k1 b l o e),k2,?_,ν.append (.cons r8 .nil),p8.2.1,w8⟩;have e:(I++[y]).toArray=I.toArray.push y:=by simp
    rw[e];exact φ
 exact codeAny_compStart_list (ρ _ rfl) (T.self X.A 0 _ _ _ st1 (ρ _ rfl))
theorem wX(hc:X.calm=true)(hi:PI X target iter wi)(hg:∀C s H fp pl,PG (cA X scope N C s H fp pl) target g)(ht:∀C s H fp pl,nj (cA X scope N C s H fp pl) ifs ti)(he:∀C s H fp pl,PE (cA X scope N C s H fp pl) elt te)(E:bA X scope N ix)(a:do scope.kind=.function)(l: ~~~(∀y∈scope.names,y.2≠.cell))(f: ~~~(∀x∈scope.names,x.2=.local->scope.names.lookup x.1=some .local))(i:do iC scope X.env=true)(hs:∀x,foldedSetIterable iter X.env x=pure x:=by intro _;rfl):PE X (.ListComp elt [⟨target,iter,ifs,0⟩] scope pos) (lU wi g ti te ix):=by
 intro aa s j H Q I h;rw[eval_ListComp];refine wpAny_comprehension_free (use:=none) rfl hs (BA i) a f ?_;refine bq (hi aa s j H _ I h) λv s1 U=>bq U λα s2 Y=>?_
 let⟨it,fp,tn,J,H2,e,n,T,L,O,h⟩:=Y;subst e;refine Cd (RR:=λr C=>compPost (model X.prog X.w) X.A X.xe none (EP X aa j Q) r C) hc hg ht he a l i E n T L O h ?_;intro D C s' M m B hn u d q;refine⟨m,hn,λh' G=>⟨.ref D,M,B.turned (t':=s'.toks) (it:=C) (λb o hb e=>G.extBut b o hb e) u (Nat.ne_of_gt (lt_of_lt_of_le n.lt d)) (.inr (le_trans n.sz d)) (λx c e=>?_) (λp hp=>?_),rfl,q⟩⟩
 .obtain⟨v,o,ho,_⟩:=n.cell x c e;exact ne_of_lt (lt_of_lt_of_le (Heap.lt_size ho) d)
 .exact ne_of_lt (lt_of_lt_of_le (Heap.lt_size (n.pin p hp).1) d)
theorem Di(hN:X.N.Nodup)(β:X.N[i]?=some y)(hy:Loc X.env.scope y)(hc:X.calm=true)(hi:PI X target iter wi)(hg:∀C s H fp pl,PG (cA X scope N C s H fp pl) target g)(ht:∀C s H fp pl,nj (cA X scope N C s H fp pl) ifs ti)(he:∀C s H fp pl,PE (cA X scope N C s H fp pl) elt te)(M:bA X scope N ix)(α:swapsWith (.ListComp elt [⟨target,iter,ifs,0⟩] scope pos) (some (.Name y py)) spos.line X.env=pure true:=by with_unfolding_all rfl)(d:do scope.kind=.function)(r: ~~~(∀y∈scope.names,y.2≠.cell))(l: ~~~(∀x∈scope.names,x.2=.local->scope.names.lookup x.1=some .local))(n:do iC scope X.env=true)(hs:∀x,foldedSetIterable iter X.env x=pure x:=by intro _;rfl)(hf:jh X y:=by first |exact .inl rfl |exact .inr rfl |assumption):PS X (.Assign [.Name y py] (.ListComp elt [⟨target,iter,ifs,0⟩] scope pos) spos) (kh (lU wi g ti te ix) (iY i)):=by
 intro aa s j H D I h;rw[exec_Assign_Name_used _ _ _ _ α];refine wpAny_bind (wpAny_standAt (wpAny_bind ?_));show wpAny _ X.A (do let _ <- comprehension (.ListComp elt [⟨target,iter,ifs,0⟩] scope pos) scope X.env _ (newList []) false (eval iter X.env) (some (assign (.Name y py) X.env))) _ _ s;refine wpAny_bind (wpAny_mono (wpAny_comprehension_free (use:=some (assign (.Name y py) X.env)) (Q:=λ_ E=>SP X aa D .next E) rfl hs (BA n) d l ?_) (λ_ E hq=>wpAny_pure (wpAny_pure hq)) λ_ _ e=>e);refine bq (hi aa s j H _ I h) λv s1 h1=>bq h1 λδ s2 h2=>?_
 let⟨it,fp,tn,J,H2,e,u,T,γ,f2,h⟩:=h2;subst e;refine Cd (Q:=λx H1=>iY i x j H1 D.nx) (RR:=λG C=>compPost (model X.prog X.w) X.A X.xe (some (assign (.Name y py) X.env)) (λ_ E=>SP X aa D .next E) G C) hc hg ht he d r n M u T γ f2 h ?_;intro Dd C E H' m B hn L f q;show wpAny _ X.A (assign (.Name y py) X.env (.ref Dd)) _ _ _;have cC:∀x c,X.env.cells.lookup x=some c->c≠C:=λx c e=>by
  let⟨v,o,ho,_⟩:=u.cell x c e;exact ne_of_lt (lt_of_lt_of_le (Heap.lt_size ho) f)
 have lC:X.env.locals≠C:=ne_of_lt (lt_of_lt_of_le u.lt f);refine wpAny_assign_Name (BX (v:=.ref Dd) B hN β hy rfl (λs4 I4 Y=>?_) hf);let⟨a,U,ha⟩:=Y;have nC:C≠a:=by
  rcases ha with z |z
  .rw[z];exact Ne.symm lC
  .exact Ne.symm (cC _ _ z)
 refine⟨m,hn.sameBut U nC,λh' O=>⟨_,H',I4.turned (t':=s4.toks) (it:=C) (λb o hb e=>O.extBut b o hb e) L (Ne.symm lC) (.inr (le_trans u.sz f)) cC (λp hp=>?_),q⟩⟩;exact ne_of_lt (lt_of_lt_of_le (Heap.lt_size (u.pin p hp).1) f)
end
section
variable{g:TG}{ti:TT}{te:TE}{ix:br}{σ:St}{Q:VK}
def u7(J:It)(g:TG)(ti:TT)(te:TE)(ix:br)(σ:St)(Q:VK)(l:Hp):Prop:=∃W:Nat->Nat->ax->Hp->Prop,(∃m,W 0 m [] l)/\∀i m a H,W i m a H->
 (J.stop i H/\a.length<=sizeLine/\∀p,H p=none->Q (.ref p) (aN H p (.ag a)))\/
 (J.go i H/\∃N:ax->Hp->Prop,(∀d f,N d f->∃j,j<m/\W (i+1) j d f)/\∀x f,J.lJ i H x f->g x (dB ix σ) f λe n=>Wk (dB ix σ) e/\ti e n λb h=>if b=true then te e h λv o=>a.length<sizeLine/\N (a++[v]) o else N a h)
theorem xK(Pv:Nat->ax->Hp->Prop)(u:Pv 0 [] H1)(j:∀i a H,i<n->Pv i a H->J.go i H)(l:∀a H,Pv n a H->J.stop n H)(hs:∀i x a H h,i<n->Pv i a H->J.lJ i H x h->g x (dB ix σ) h λf r=>Wk (dB ix σ) f/\ti f r λb o=>if b=true then te f o λv s=>a.length<sizeLine/\Pv (i+1) (a++[v]) s else Pv (i+1) a o)(hd:∀a H,Pv n a H->a.length<=sizeLine/\∀p,H p=none->Q (.ref p) (aN H p (.ag a))):u7 J g ti te ix σ Q H1:=by
 refine⟨λi m a H=>m=n - i/\i<=n/\Pv i a H,⟨n,by simp,zero_le _,u⟩,?_⟩;rintro i m a H ⟨rfl,A,p⟩;by_cases d:i<n
 .exact .inr ⟨j i a H d p,Pv (i+1),λq h w=>⟨n - (i+1),⋯,rfl,d,w⟩,λx h y=>hs i x a H h d p y⟩
 .have e:i=n:=⋯
  subst e;exact .inl ⟨l a H p,hd a H p⟩
end
section
variable{X:Cx}
def Bh:V->bI->bI->Hp->VK->Prop:=λx lo a H Q=>∃z,x=.str z/\z.length<=sizeLine/\Q (.str (Txt.slice z lo a)) H
theorem SE:kN X Bh:=by
 intro aa s G H x v A B lo o y Q I w d r m h;∎;let⟨z,rfl,e,q⟩:=h;let⟨t,rfl⟩:=(show ∃t,v=Value.str z t from w);∎;refine⟨"str",_,F.slot_str_getitem.lookup,typeIs_str _ _ _,?_⟩;have a:∀(g:Tok)(k:Nat),EP X aa G Q (.str (Txt.slice z lo o) g) { s with toks:=k }:=λg k=>⟨.str _,H,I.tok k,⟨g,rfl⟩,q⟩
 cases r with
 |none=>
  cases m with
  |none=>exact wpAny_getItem_str_slice (l:=none) (u:=none) (st:=none) d rfl (post_val_or_str ⟨le_trans (Txt.slice_le z _ _) e,λb k=>a b k⟩)
  |int j f=>exact wpAny_getItem_str_slice (l:=none) (u:=some (j,f)) (st:=none) d rfl (post_val_or_str ⟨le_trans (Txt.slice_le z _ _) e,λb k=>a b k⟩)
 |int i n=>
  cases m with
  |none=>exact wpAny_getItem_str_slice (l:=some (i,n)) (u:=none) (st:=none) d rfl (post_val_or_str ⟨le_trans (Txt.slice_le z _ _) e,λb k=>a b k⟩)
  |int j f=>exact wpAny_getItem_str_slice (l:=some (i,n)) (u:=some (j,f)) (st:=none) d rfl (post_val_or_str ⟨le_trans (Txt.slice_le z _ _) e,λb k=>a b k⟩)
end
def Cn(d:bT)(e:ae)(h:aO):Prop:=∃o vs,h.get? e=some o/\o.data=.fields vs/\vs[2]?=some .none/\o.dict=d
theorem Cn.keeps{d:bT}{e:ae}{h h':aO}(c:Cn d e h)(k:∀o,h.get? e=some o->h'.get? e=some o):Cn d e h':=
 let ⟨q,vs,h1,h2⟩:=c;⟨q,vs,k q h1,h2⟩
theorem OZ(o:Obj)(f:d3->d3):(Obj.mapFields f o).dict=o.dict:=by
 unfold Obj.mapFields;split<;>rfl
theorem Cn.aN{d:bT}{e b:ae}{h:aO}{i:Nat}{v:ao}(c:Cn d e h)(l:b≠e\/i≠2):Cn d e (h.update b (Obj.mapFields (·.setIfInBounds i v))):=by
 let⟨o,vs,a,f,g,j⟩:=c;by_cases z:b=e
 .subst z;have d:=Obj.data_mapFields f (·.setIfInBounds i v);refine⟨_,_,Heap.get?_update_self _ a (Obj.isFreed_of_fields d),d,?_,(OZ _ _).trans j⟩;rw[Array.getElem?_setIfInBounds_ne (l.resolve_left λq=>q rfl)];exact g
 .exact⟨o,vs,by rw[Heap.get?_update_other _ _ z];exact a,f,g,j⟩
section
variable{M:Model}{A:Around}{E:ao->ak->Prop}{s:ak}{base:aO}{env:Env}{outer:b5}{L e:ae}{d:bT}
theorem Ei{o:Obj}{vs:d3}{g a0:ao}{hn:Bool}{Q:Unit->ak->Prop}(fr:A.frames=some (env::outer))(l:s.heap.FunFrames base (env::outer))(O:env.frame=some L)(x:s.heap.get? e=some o)(Y:base.StaysIn s.heap)(N:base.get? e=none)(hd:o.data=.fields vs)(G:1<vs.size)(U:vs[0]?=some a0)(c:Cn d e s.heap)(h:∀k,Heap.NotedW base (env::outer) e o.cls a0 (rawInt L) s.heap k->Cn d e k->Q () { s with heap:=k }):
  wpAny M A (do let a <- frameOf env;let q <- entryPlaceOf L hn;let b <- EntryCells.newEntry g a .none (rawInt L) .none q;setField (.ref e) 1 b) Q E s:=by
 have y:∀b u,s.heap.get? b=some u->(∀vs,u.data≠.fields vs)->b≠e:=λb u z n w=>by rw[w,x] at z;cases z;exact n vs hd
 refine wpAny_bind (wpAny_frameOf_fun fr l O λf r=>wpAny_bind (wpAny_entryPlaceOf λq D=>?_));unfold EntryCells.newEntry newFields;refine wpAny_bind (wpAny_newObj_type ?_ (D.sizeOk5 _ _ _ _ _));have v:f.get? e=some o:=(r.2.1 e λm=>by let⟨_,u,z,n⟩:=l.mem m;exact y e u z n rfl).trans x;have B:base.StaysIn f:=λb u z=>(r.2.1 b λm=>by rw[(l.mem m).1] at z;cases z).trans (Y b u z)
 have H:Cn d e f:=c.keeps λu z=>by rw[x] at z;cases z;exact v
 generalize i:({ cls:=.type "traceback",dict:=none,data:=.fields ([g,.ref L,.none,rawInt L,.none]++(if q.isEmpty then List.replicate 6 Value.none else q)).toArray }:Obj)=new;have C:=Heap.get?_push_of_some (h:=f) new v;have I:Cn d e (f.push new):=H.keeps λu z=>Heap.get?_push_of_some new z
 have ne:f.objs.size≠e:=Nat.ne_of_gt (Heap.lt_size v);have j:=Obj.data_mapFields hd (·.setIfInBounds 1 (Value.ref f.objs.size));have J:=Heap.get?_update_self (Obj.mapFields (·.setIfInBounds 1 (Value.ref f.objs.size))) C (Obj.isFreed_of_fields j);have t3:=(Heap.get?_update_other (f.push new) (Obj.mapFields (·.setIfInBounds 1 (Value.ref f.objs.size))) ne.symm).trans (Heap.get?_push_size f (by rw[<- i];rfl));have kp:∀b u,b≠e->f.get? b=some u->((f.push new).update e (Obj.mapFields (·.setIfInBounds 1 (Value.ref f.objs.size)))).get? b=some u:=λb u n z=>by
  rw[Heap.get?_update_other _ _ n.symm];exact Heap.get?_push_of_some _ z
 refine wpAny_setField C hd G (h _ ⟨λb u z=>kp b u (λw=>by rw[w,N] at z;cases z) (B b u z),l.of_keeps λb u z n=>?_,⟨_,_,_,_,_,J,⟨Obj.cls_mapFields _ _,by rw[Array.getElem?_setIfInBounds_ne ∎];exact U⟩,j,by simp[G],B.fresh,ne,t3,by rw[<- i],?_⟩,λb u z n=>?_⟩ (I.aN (.inr ∎)))
 .obtain⟨sl,w⟩:=r.2.2 b u z;exact⟨_,kp b _ (y b u z n) w,rfl⟩
 .first |(simp;done) |(rcases D with rfl |⟨_,_,_,_,_,_,_,rfl⟩<;>simp)
 .obtain⟨sl,w⟩:=r.2.2 b u z;exact⟨sl,kp b _ (y b u z n) w⟩
theorem BN{a a0:ao}{Q:Unit->ak->Prop}(fr:A.frames=some (env::outer))(B:s.heap.FunFrames base (env::outer))(j:env.frame=some L)(t:s.heap.TracedW base e a a0)(G:base.StaysIn s.heap)(y:base.get? e=none)(c:Cn d e s.heap)(h:∀k,Heap.NotedW base (env::outer) e a a0 (rawInt L) s.heap k->Cn d e k->Q () { s with heap:=k }):wpAny M A (noteFrame (.ref e) env) Q E s:=by
 let⟨o,vs,T,p,H,l,⟨rfl,C⟩,m,q,D,ne,g,i,r⟩:=t;unfold noteFrame;simp only[j];refine wpAny_bind (wpAny_field l m q ?_);rw[if_pos (by simp)];refine wpAny_bind (wpAny_field g i r ?_);rw[if_neg (by simp[rawInt])];refine wpAny_bind (wpAny_setField g i (Array.getElem?_eq_some_iff.mp r).1 ?_);have f:∀b u,b≠T->s.heap.get? b=some u->(s.heap.update T (Obj.mapFields (·.setIfInBounds 3 Value.none))).get? b=some u:=λb u n z=>(Heap.get?_update_other _ _ n.symm).trans z
 have v:∀b u,s.heap.get? b=some u->(∀vs,u.data≠.fields vs)->b≠T:=λb u z n w=>by rw[w,g] at z;cases z;exact n H i
 exact Ei fr (B.of_keeps λb u z n=>⟨u,f b u (v b u z n) z,rfl⟩) j (f e o ne.symm l) (λb u z=>f b u (λw=>by rw[w,D] at z;cases z) (G b u z)) y m (Array.getElem?_eq_some_iff.mp q).1 C (c.aN (.inl ne))
  λk x=>h k ⟨x.1,x.2.1,x.2.2.1,λb u z n=>x.2.2.2 b u (f b u (v b u z n) z) n⟩
theorem sR{l:b5}{a a0 C:ao}{Q:Unit->ak->Prop}(H:base.StaysIn s.heap)(B:s.heap.FunFrames base l)(t:s.heap.TracedAtW base e a a0 C)(c:Cn d e s.heap)(h:∀k,base.StaysIn k->k.FunFrames base l->k.TracedW base e a a0->(∀b o,s.heap.get? b=some o->(∀vs,o.data≠.fields vs)->k.get? b=some o)->Cn d e k->Q () { s with heap:=k }):wpAny M A (setFlight (.ref e) none) Q E s:=by
 let⟨o,vs,T,p,I,m,G,q,r,v,ne,j,g,D⟩:=t;have x:=(Array.getElem?_eq_some_iff.mp D).1;unfold setFlight;refine wpAny_bind (wpAny_field m q r ?_);rw[if_pos (by simp)];have i:∀b u,b≠T->s.heap.get? b=some u->(s.heap.update T (Obj.mapFields (·.setIfInBounds 3 ((none:bT).elim Value.none λf=>rawInt f)))).get? b=some u:=λb u n z=>(Heap.get?_update_other _ _ n.symm).trans z
 have y:∀b u,s.heap.get? b=some u->(∀vs,u.data≠.fields vs)->b≠T:=λb u z n w=>by rw[w,j] at z;cases z;exact n I g
 exact wpAny_setField j g x (h _ (λb u z=>i b u (λw=>by rw[w,v] at z;cases z) (H b u z)) (B.of_keeps λb u z n=>⟨u,i b u (y b u z n) z,rfl⟩)
  ⟨o,vs,T,_,_,i e o ne.symm m,G,q,r,v,ne,Heap.get?_update_self _ j (Obj.isFreed_of_fields (Obj.data_mapFields g _)),Obj.data_mapFields g _,by simp[x]⟩ (λb u z n=>i b u (y b u z n) z) (c.aN (.inl ne)))
theorem IH{f a0:ao}{Q:Unit->ak->Prop}(fr:A.frames=some (env::outer))(j:s.heap.FunFrames base (env::outer))(l:env.frame=some L)(t:s.heap.TracedW base e f a0)(o:base.StaysIn s.heap)(i:base.get? e=none)(c:Cn d e s.heap)(h:∀k,Heap.LeftW base (env::outer) e f a0 s.heap k->Cn d e k->Q () { s with heap:=k }):wpAny M A (leaving env (.ref e)) Q E s:=by
 unfold leaving;exact wpAny_bind (BN fr j l t o i c λk x q=>sR x.1 x.2.1 x.2.2.1 q λm a b v g r=>h m ⟨a,b,v,λb u z n=>let ⟨sl,w⟩:=x.2.2.2 b u z n;⟨sl,g b _ w n⟩⟩ r)
theorem BE{o:Obj}{vs:d3}{a0:ao}{Q:Unit->ak->Prop}(fr:A.frames=some (env::outer))(m:s.heap.FunFrames base (env::outer))(i:env.frame=some L)(f:s.heap.get? e=some o)(B:base.StaysIn s.heap)(l:base.get? e=none)(hd:o.data=.fields vs)(j:vs[1]?=some .none)(r:vs[0]?=some a0)(v:vs[2]?=some .none)(h:∀k,Heap.LeftW base (env::outer) e o.cls a0 s.heap k->Cn o.dict e k->Q () { s with heap:=k }):wpAny M A (leaving env (.ref e)) Q E s:=by
 unfold leaving noteFrame;simp only[i];refine wpAny_bind (wpAny_bind (wpAny_field f hd j ?_));rw[if_neg ∎];exact Ei fr m i f B l hd (Array.getElem?_eq_some_iff.mp j).1 r ⟨o,vs,f,hd,v,rfl⟩ λk x q=>sR x.1 x.2.1 x.2.2.1 q λy a b D g C=>h y ⟨a,b,D,λb u z n=>let ⟨sl,w⟩:=x.2.2.2 b u z n;⟨sl,g b _ w n⟩⟩ C
theorem KZ{a a0:ao}{Q:Unit->ak->Prop}(fr:A.frames=some (env::outer))(g:env.frame=some L)(f:Heap.FlyingW base (env::outer) e a a0 s.heap)(c:Cn d e s.heap)(h:∀k,Heap.HeldW base (env::outer) e a a0 L k->s.heap.UpToSlots k->Cn d e k->Q () { s with heap:=k }):wpAny M A (noteFrame (.ref e) env) Q E s:=
 BN fr f.2.2.1 g f.2.2.2 f.1 f.2.1 c λk b q=>h k ⟨b.1,f.2.1,b.2.1,b.2.2.1⟩ b.2.2.2 q
theorem SF{l:b5}{a a0:ao}{Q:Unit->ak->Prop}(f:Heap.HeldW base l e a a0 L s.heap)(c:Cn d e s.heap)(h:∀k,Heap.FlyingW base l e a a0 k->s.heap.UpToSlots k->Cn d e k->Q () { s with heap:=k }):wpAny M A (setFlight (.ref e) none) Q E s:=
 sR f.1 f.2.2.1 f.2.2.2 c λk g i j m q=>h k ⟨g,f.2.1,i,j⟩ (λb o n hn=>⟨o.slots,m b o n hn⟩) q
theorem SG{l:b5}{a a0:ao}{Q:Unit->ak->Prop}(f:Heap.FlyingW base l e a a0 s.heap)(c:Cn d e s.heap)(h:∀k,Heap.FlyingW base l e a a0 k->s.heap.UpToSlots k->Cn d e k->Q () { s with heap:=k }):wpAny M A (setFlight (.ref e) none) Q E s:=
 sR f.1 f.2.2.1 f.2.2.2.at c λk g i j m q=>h k ⟨g,f.2.1,i,j⟩ (λb o n hn=>⟨o.slots,m b o n hn⟩) q
end
def m8(e h:aO)(H:Hp)(x:ae)(a:ao)(d:bT):Prop:=
 e.get? x=none/\H x=none/\∃g b vs T oT f,e.get? T=none/\H T=none/\h.get? x=some b/\b.cls=a/\vs[0]?=some g/\b.data=.fields vs/\vs[1]?=some (.ref T)/\T≠x/\h.get? T=some oT/\oT.data=.fields f/\f[3]?=some .none/\Cn d x h
def eK(P:Program)(w:World):fm:=λouter H s E e b=>∃x a d f,e=.ref x/\b.os=s.os/\AllBare b.gens/\Un (cg outer) [] H f s.heap b.heap/\cR P w f b.heap/\m8 s.heap b.heap f x a d/\E a d f
theorem aX.has(x:aX P w H h a o):∃u,h.get? a=some u:=by
 cases o with
 |ag d=>let⟨_,_,_,_,e⟩:=x;exact⟨_,e⟩
 |aP d=>let⟨_,_,_,u,e,_⟩:=x;exact⟨_,e⟩
 |dK b=>let⟨_,_,_,_,u,_,_,e,_⟩:=x;exact⟨_,e⟩
 |dT b=>let⟨_,_,_,_,u,_,_,e,_⟩:=x;exact⟨_,e⟩
 |set S n=>let⟨u,_,_,_,e,_⟩:=x;exact⟨_,e⟩
 |ins C g fs=>let⟨_,_,_,e,_⟩:=x;exact⟨_,e⟩
 |own y=>exact x
 |xd fs=>let⟨_,⟨u,_,_,e,_⟩,_⟩:=x;exact⟨_,e⟩
 |uv lo i=>let⟨_,_,_,e⟩:=x;exact⟨_,e⟩
 |aA j u=>let⟨e,_⟩:=x;exact⟨_,e⟩
 |lI l=>exact⟨_,x⟩
 |met f y=>exact⟨_,x⟩
 |ext m=>exact x.2.1
theorem Ej{P:Program}{w:World}{fs fr l bad:cz}{H a:Hp}{h i j:aO}(u:Un fs [] H a h i)(aM:cR P w a i)(N:∀b∈l,b∈bad\/b∈fr)(G:∀b∈bad,h.get? b=none/\a b=none)(m:∀b∈fr,(b∈fs\/h.get? b=none)/\a b=none/\∃o,i.get? b=some o/\∀vs,o.data≠.fields vs)(J:∀b∈fs,b∈fr)(k:(W.hideAll i l).StaysIn j)(sm:i.UpToSlots j):
  Un fs [] H a h j/\cR P w a j/\∀x y d a0,j.TracedW (W.hideAll i l) x y a0->Cn d x j->h.get? x=none->a x=none->m8 h j a x y d:=by
 have gt:∀b o,i.get? b=some o->b ∉ bad->b ∉ fr->j.get? b=some o:=λb o e U Y=>k b o (W.hideAll_get _ e λz=>(N b z).elim U Y)
 have O:∀b o,h.get? b=some o->b ∉ bad:=λb o e z=>by rw[(G b z).1] at e;cases e
 have slots:∀b o,b∈fr->i.get? b=some o->∃D,j.get? b=some { o with slots:=D }:=λb o g e=>by
  let⟨_,_,A,f,d⟩:=m b g;rw[e] at f;cases f;exact sm b o e d
 have tr:∀b u,a b=some u->b ∉ bad/\b ∉ fr:=λb u e=>⟨λz=>(by rw[(G b z).2] at e;cases e),λz=>(by rw[(m b z).2.1] at e;cases e)⟩
 refine⟨⟨λb o e n g s=>?_,λb o e n g s=>?_,λb o e n s=>u.free b o e n s,λb o e s=>?_,u.dy,u.bz,u.dS⟩,λb v e=>?_,λx y d a0 Q I s E=>?_⟩
 .refine gt b o (u.keep b o e n g s) (O b o e) λz=>?_
  rcases (m b z).1 with q |q
  .exact g q
  .rw[e] at q;cases q
 .obtain⟨D,e1⟩:=u.slot b o e n g s;let⟨L,B⟩:=slots b _ (J b g) e1;exact⟨L,B⟩
 .obtain⟨A,e1⟩:=u.there b o e s;by_cases g:b∈fr
  .obtain⟨D,B⟩:=slots b A g e1;exact⟨_,B⟩
  .exact⟨A,gt b A e1 (O b o e) g⟩
 .refine (aM b v e).dR (λc o C q=>?_) (λ_ q=>q) λ_ _ q=>q
  rcases C with rfl |C
  .exact gt c o q (tr c v e).1 (tr c v e).2
  .exact gt c o q (tr c _ C).1 (tr c _ C).2
 .obtain⟨oe,vs,T,oT,ts,t1,⟨t2,t3⟩,t4,t5,t6,t7,t8,t9,t10⟩:=Q;have M:h.get? T=none/\a T=none:=by
   cases q:i.get? T with
   |none=>
    refine⟨?_,?_⟩
    .cases r:h.get? T with
     |none=>rfl
     |some o=>let⟨A,f⟩:=u.there T o r (by simp);rw[q] at f;cases f
    .cases r:a T with
     |none=>rfl
     |some v=>let⟨A,f⟩:=(aM T v r).has;rw[q] at f;cases f
   |some o=>
    by_cases hm:T∈l
    .rcases N T hm with z |z
     .exact G T z
     .obtain⟨D,B⟩:=slots T o z q;let⟨_,_,A,f,d⟩:=m T z;rw[q] at f;cases f;rw[t8] at B;cases B;exact absurd t9 (d ts)
    .have:=W.hideAll_get _ q hm;rw[t6] at this;cases this
  exact⟨s,E,a0,oe,vs,T,oT,ts,M.1,M.2,t1,t2,t3,t4,t5,t7,t8,t9,t10,I⟩
theorem m8.jz{H:Hp}(f:m8 h0 h H x cls d):∃T a0,h0.get? T=none/\H T=none/\∀l:cz,T∈l->h.TracedW (W.hideAll h l) x cls a0:=by
 let⟨_,_,a0,g,vs,T,oT,v,i,j,m,n,o,q,r,s,u,a,b,_⟩:=f;exact⟨T,a0,i,j,λl e=>⟨g,vs,T,oT,v,m,⟨n,o⟩,q,r,W.hideAll_none _ e,s,u,a,b⟩⟩
theorem m8.cn{H:Hp}(f:m8 h0 h H x cls d):Cn d x h:=by
 let⟨_,_,e,g,vs,T,oT,u,i,j,l,m,n,o,q,r,s,a,b,c⟩:=f;exact c
section
variable{X:Cx}{aa:aT}{σ:St}{H:Hp}{s:ak}
theorem sS:∀env∈l,∀a,env.frame=some a->a∈cg l:=λenv b a d=>mem_filterMap.mpr ⟨env,b,d⟩
theorem av.BW(I:av X aa σ H s):∀b∈cg X.stack,(b∈X.fs\/X.s₀.heap.get? b=none)/\H b=none/\∃o,s.heap.get? b=some o/\∀vs,o.data≠.fields vs:=λb a=>by
 refine⟨?_,I.fN b a,(I.stack.mem a).2⟩;rcases mem_cons.mp (I.eI b a) with e |e
 .exact .inr (by rw[e];exact Heap.get?_none_of_le I.ok.above)
 .exact .inl e
theorem xg{E:XK}{x:ae}{a:ao}{d:bT}(hs:X.stack=X.env::X.outer)(o:X.env.frame=some X.env.locals)(j:X.ex=[])(I:av X aa σ H s){l bad:cz}{f:aO}(q:∀b∈l,b∈bad\/b∈cg X.stack)(h:∀b∈bad,X.s₀.heap.get? b=none/\H b=none)(k:(W.hideAll s.heap l).StaysIn f)(sm:s.heap.UpToSlots f){a0:ao}(ht:f.TracedW (W.hideAll s.heap l) x a a0)(i:Cn d x f)(r:X.s₀.heap.get? x=none)(g:H x=none)(e:E a d H):eK X.prog X.w X.outer X.H₀ X.s₀ E (.ref x) { s with heap:=f }:=by
 have m:=I.base;rw[j] at m;let⟨u,ok,n⟩:=Ej m I.aM q h I.BW (λb h=>by rw[hs];unfold cg;rw[filterMap_cons,o];exact mem_cons_of_mem _ h) k sm;exact⟨x,a,d,H,rfl,I.os,I.bare,u,ok,n x a d a0 ht i r g,e⟩
def nv(X:Cx)(E:XK):Prop:=X.xe=λe d=>wpAny (model X.prog X.w) X.A (leaving X.env e) (λ_ a=>eK X.prog X.w X.outer X.H₀ X.s₀ E e a) (λb a=>eK X.prog X.w X.outer X.H₀ X.s₀ E b a) d
theorem TC{E:XK}(hs:X.stack=X.env::X.outer)(i:X.env.frame=some X.env.locals)(h:X.ex=[])(r:nv X E):lS (eK X.prog X.w) X E:=by
 intro aa σ H s e v I G;let⟨x,A,d,y,rfl,os,bare,un,aM,f,B⟩:=G;have J:av X aa σ y v:=I.dH (ch:=[]) os un aM bare (λb z=>absurd z (by simp));have up:∀b,s.heap.get? b=none->X.s₀.heap.get? b=none:=λb z=>by
  cases q:X.s₀.heap.get? b with
  |none=>rfl
  |some o=>let⟨Y,u⟩:=I.base.there b o q (by rw[h];simp);rw[z] at u;cases u
 let⟨T,Q,j,D,n⟩:=f.jz;rw[r];have m:∀env∈X.env::X.outer,∀a,env.frame=some a->a∈x::T::cg X.stack:=λenv L a i=>.tail _ (.tail _ (by rw[hs];exact sS env L a i))
 refine IH (base:=W.hideAll v.heap (x::T::cg X.stack)) (by rw[J.ok.frames,hs]) (W.funFrames_hide (hs ▸ J.stack) m) i (n _ (.tail _ (.head _))) (λb o q=>W.of_hideAll _ q)
  (W.hideAll_none _ (.head _)) f.cn λU C l=>?_
 let⟨M,_,N,O⟩:=C;exact xg hs i h J (bad:=[x,T]) (λb g=>by
  rcases mem_cons.mp g with z |g
  .exact .inl (by rw[z];exact .head _)
  .rcases mem_cons.mp g with z |g
   .exact .inl (by rw[z];exact .tail _ (.head _))
   .exact .inr g) (λb g=>by
  rcases mem_cons.mp g with z |g
  .rw[z];exact⟨up _ f.1,f.2.1⟩
  .have z:b=T:=by simpa using g
   rw[z];exact⟨up _ j,D⟩) M O N l (up _ f.1) f.2.1 B
end
theorem O0{K:aj}{h:aO}{C:ae}{a:aL}{newId:String}(X:K.In h)(q:W.excIn K C a newId=true):
  ∃bm N nm f bs hd sn sub ab col dd k0 k1 k2 k3 k5 mN,h.get? C=some (excClassObj nm f C N bs bm hd sn sub ab col dd k0 k1 k2 k3 k5 newId)/\h.Ns N mN/\mN "__init__"=none/\OwnTail h a bm:=by
 unfold W.excIn at q;split at q
 case h_2=>cases q
 case h_1 ddc cdc slc hlook=>
  split at q
  case h_2=>cases q
  case h_1 Cc bmc k0 k1 k2 k3 nn k5 hmro hslots=>
   simp only[and_eq_true,beq_iff_eq,Bool.not_eq_true'] at q;∎;let⟨⟨⟨⟨⟨i,j⟩,d⟩,l⟩,b⟩,e⟩:=q;let⟨nm,bs,m,ns,f,hd,sn,sub,ab,col,g⟩:=cdc;∎;dsimp only at hmro d b e;let⟨n⟩:=slc;simp only at hslots;subst i j d hmro hslots;exact⟨_,_,_,_,_,_,_,_,_,_,_,_,_,_,_,_,_,X _ _ hlook,.of_isNs (W.isNs_of_in X b),W.nsMap_none_of_in X b e,W.tail_of_in X l⟩
def z8(C:ae)(E:XK)(b:TE):TS:=λ_ j H=>b j H λ_ a=>E (.ref C) none a
section
variable{X:Cx}
theorem MR{E:XK}{x:Str}{np g pos:Pos}{f:Expr}{te:TE}{C:ae}{B newId i:String}{n:aL}(hs:X.stack=X.env::X.outer)(M:X.env.frame=some X.env.locals)(G:X.ex=[])(δ:nv X E)(m:X.calm=true)(hg:Gl X x)(hm:X.mg x=some (.ref C))(FB:ExcBaseFacts B newId i n)(hq:W.excIn X.K C n newId=true)(Y:PE X f te)(U: ~~~(da x))(L:do ee f [] X.env)(γ:do eZ g [] X.env):
  PS X (.Raise (some (.Call (.Name x np) [f] [] g)) none pos) (z8 C E te):=by
 intro aa s j H D I h;let⟨bm,N,nm,qn,bs,hd,sn,sub,ab,col,dd,k0,k1,k2,k3,k5,mN,hC,hN,β,T⟩:=O0 I.ok.mod.kG hq;refine wpAny_Raise_call_subT (C:=C) (nm:=nm) (q:=qn) (N:=N) (bs:=bs) (bm:=bm) (hdct:=hd) (sn:=sn) (sub:=sub) (ab:=ab) (col:=col) (dd:=dd) (k0:=k0) (k1:=k1) (k2:=k2) (k3:=k3) (k5:=k5)
  FB (mN:=mN) (T.hasType FB.hasBase) (I.ok.hd m) (by rw[L];show (false || (backTo g (starEach [] X.env)).any (·.1))=false;rw[γ];rfl) β (k4 I hg hm ⟨rfl,?_⟩ U)
 rw[L];refine Calls.evalArgs_plain ?_;refine Calls.spliced_cons ?_;refine bq (Y aa s j H _ I h) λu s1 ε=>?_
 let⟨v,O,l,_,q1⟩:=ε;refine Calls.spliced_nil ?_;refine⟨rfl,by show (1:Nat)<=sizeLine;decide,l.bk _ _ hC,hN.keeps l.bk,T.keeps l.bk,λh' e d=>?_⟩;let⟨t,ht,ζ,η⟩:=d.there;have J:av X aa j O { s1 with heap:=h' }:=l.dH (ch:=[]) rfl (Un.kept d.keeps) (l.aM.kept d.keeps) l.bare (λb z=>absurd z (by simp));have up:∀b,s1.heap.get? b=none->X.s₀.heap.get? b=none:=λb z=>by
  cases q:X.s₀.heap.get? b with
  |none=>rfl
  |some o=>let⟨o',w⟩:=l.base.there b o q (by rw[G];simp);rw[z] at w;cases w
 have y:O e=none:=by
  cases r:O e with
  |none=>rfl
  |some v=>let⟨o',w⟩:=(l.aM e v r).has;rw[d.new] at w;cases w
 rw[δ];have α:∀env∈X.env::X.outer,∀a,env.frame=some a->a∈e::cg X.stack:=λenv Y a M=>.tail _ (by rw[hs];exact sS env Y a M)
 refine BE (base:=W.hideAll h' (e::cg X.stack)) (a0:=.ref t) (by rw[J.ok.frames,hs]) (W.funFrames_hide (hs ▸ J.stack) α) M ht (λb o q=>W.of_hideAll _ q)
  (W.hideAll_none _ (.head _)) rfl rfl rfl rfl λh2 hL Q=>?_
 let⟨l1,_,l3,l4⟩:=hL;exact xg hs M G J (bad:=[e]) (λb A=>by
  rcases mem_cons.mp A with z |A
  .exact .inl (by rw[z];exact .head _)
  .exact .inr A) (λb A=>by
  have z:b=e:=by simpa using A
  rw[z];exact⟨up _ d.new,y⟩) l1 l4 l3 Q (up _ d.new) y q1
end
section
variable{P:Program}{w:World}{K:aj}{mg:bc}{base:aO}
theorem gv.yf{x a:Str}{st:Stmt}{f:ae}{g:FuncData}{N ps:ah}{k:Nat}{sp:Sp}(F:gv K x a st f g)(S:bW N ps (bD st))(len:∀vs H Q E,sp vs H Q E->vs.length=ps.length)(b:∀(a7:ao)(A:Around)(outer:b5)(s:ak)(H:Hp)(vs:ax)(Q:VK)(E:XK),bp k (A.deeper (envOfC a (bD st) ⇑s f a7))->sp vs H Q E->
   ∃t,eL (i1 (eK P w) P w K mg base N a (bD st) f a7 A outer s H E) (iX st) t/\t { nx:=λ_ h=>Q .aE h,rt:=Q } (start N vs) H):aK P w K mg base (eK P w) (k+1) f g ps sp:=by
 let⟨oc,od,kV,doc,pm,an,a7,ct,osl,rfl,j,d⟩:=F.ex;exact ES j d S len λA outer s H vs Q E i e=>b a7 A outer s H vs Q E i e
end
section
variable{X:Cx}
def iB(CX:fm)(X:Cx)(j:St)(E:XK):Prop:=∀(aa:aT)(H:Hp)(s:ak)(e:ao)(a:ak),av X aa j H s->CX X.stack H s E e a->X.xe e a
def z9(sp:Sp)(a:ax)(R:St->XK)(t:TA):TE:=λj H Q=>t j H λvs b=>sp (vs++a) b Q (R j)
variable{CX:fm}{k:Nat}{f:ae}{fd:FuncData}{ps:ah}{sp:Sp}{dvs:ax}{ds:aL}{x:Str}{p pos:Pos}{e:Expr}{es:bL}{t:TA}
theorem wY(F:aK X.prog X.w X.K X.mg X.base CX k f fd ps sp)(g:bp k X.A)(b:Binds X.K fd ps ds)(hd:aH dvs ds)(i:iB CX X j E)(I:av X aa j H s)(r:aH vs us)(h:sp (vs++dvs) H Q E):wpAny (model X.prog X.w) X.A (call (.ref f) us) (EP X aa j Q) X.xe s:=by
 have r2:=r.append hd;have d:(us++ds).length=ps.length:=r2.length ▸ F.len _ _ _ _ h;refine wpAny_call (codeAny_mono (F.run X.A X.stack s H ⟨us,[]⟩ (us++ds) (vs++dvs) Q E g I.kD (b s us I.cG d) r2 h) λr l a=>?_)
 match r,a with
 |.error e,a=>exact i aa H s e l I a
 |.ok (.ret u),a=>exact I.after a
 |.ok .next,a=>exact a.elim
 |.ok .brk,a=>exact a.elim
 |.ok .cont,a=>exact a.elim
theorem MS{R:St->XK}(F:aK X.prog X.w X.K X.mg X.base CX k f fd ps sp)(u:bp k X.A)(n:Gl X x)(hm:X.mg x=some (.ref f))(o:W.keepIn X.K (.ref f)=true)(l:Binds X.K fd ps ds)(hd:aH dvs ds)(v:∀j,iB CX X j (R j))(i:PA X (e::es) t)(a: ~~~(da x))(m:do ee e es X.env)(b:do eZ pos es X.env):PE X (.Call (.Name x p) (e::es) [] pos) (z9 sp dvs R t):=by
 intro aa s j H Q I h;refine wpAny_Call_Name_kw (k4 I n hm ?_ a);exact W.callWith_K (h₀:=X.base) I.ok.mod.kG o (bq (i pos aa s j H _ I h) λus B d=>by let⟨vs,y,g,r,q⟩:=d;exact⟨g.cG,wY F u l hd (v j) g r q⟩) m b
abbrev Cx.cv(X:Cx)(pn:aT)(xe:ao->ak->Prop):Cx:={ X with pn:=pn,xe:=xe }
theorem Cx.Ok.cv(ok:X.Ok)(pn:aT)(xe:ao->ak->Prop):(X.cv pn xe).Ok:=
 ⟨ok.mod,ok.kind,ok.glob,ok.blt,ok.above,ok.inj,ok.has,ok.lz,ok.hd,ok.frames,ok.mZ,ok.mK,ok.bs,ok.i7,ok.gs,ok.gn,ok.du,ok.jS⟩
theorem av.qK(I:av X aa j H s)(xe:ao->ak->Prop):av (X.cv (X.pn++aa) xe) [] j H s:=
 ⟨I.ok.cv _ xe,I.os,I.bare,I.base,I.loc,I.cell,I.free,I.bN,by rw[append_nil];exact I.pin,I.aM,I.len⟩
theorem av.iu(ok:X.Ok)(I:av (X.cv (X.pn++aa) xe) more j H s):av X aa j H s:=
 ⟨ok,I.os,I.bare,I.base,I.loc,I.cell,I.free,I.bN,λp a=>I.pin p (List.mem_append_left _ a),I.aM,I.len⟩
abbrev Cx.bx(X:Cx)(v:ao):Cx:={ X with A:=X.A.mark (some v),calm:=false,xe:=λ_ _=>False }
theorem av.bx(I:av X aa j H s)(v:ao):av (X.bx v) aa j H s:=
 ⟨⟨I.ok.mod,I.ok.kind,I.ok.glob,I.ok.blt,I.ok.above,I.ok.inj,I.ok.has,I.ok.lz,λz=>Bool.noConfusion z,I.ok.frames,I.ok.mZ,I.ok.mK,I.ok.bs,I.ok.i7,I.ok.gs,I.ok.gn,I.ok.du,I.ok.jS⟩,
  I.os,I.bare,I.base,I.loc,I.cell,I.free,I.bN,I.pin,I.aM,I.len⟩
theorem av.hG(ok:X.Ok)(I:av (X.bx v) aa j H s):av X aa j H s:=
 ⟨ok,I.os,I.bare,I.base,I.loc,I.cell,I.free,I.bN,I.pin,I.aM,I.len⟩
theorem SP.imp(q:SP Y pins' D fl s)(h:∀j H,av Y pins' j H s->av X aa j H s):SP X aa D fl s:=by
 cases fl with
 |next=>let⟨b,a,I,q⟩:=q;exact⟨b,a,h _ _ I,q⟩
 |brk=>let⟨b,a,I,q⟩:=q;exact⟨b,a,h _ _ I,q⟩
 |cont=>let⟨b,a,I,q⟩:=q;exact⟨b,a,h _ _ I,q⟩
 |ret u=>let⟨v,b,a,I,r,q⟩:=q;exact⟨v,b,a,h _ _ I,r,q⟩
end
end L2
namespace L2
open PySem PySem.Spec PyProof.Rows PySem.W Builtin Builtin.ObjectAttr Builtin.Getset_descriptor
structure gK(K:Frag)(C:ae):Prop where
 fg:findIn K (.ref C) "__getattribute__"=some (some (.builtin "BaseException.__getattribute__"))
 fn:findIn K (.ref C) "__getattr__"=some none
 fc:findIn K (.ref C) "__class__"=some (some (.builtin "object.__class__"))
 mo:mroIn K C (.type "object")=some true
 sb:subIn K (.ref C) (.type "BaseException")=some true
def eX(x C:ae)(h:aO):Prop:=∃o,h.get? x=some o/\o.cls=.ref C
theorem eX.ty(p:eX x C h):Looks M h (typeOf (.ref x)) (.ref C):=by
 let⟨o,a,b⟩:=p;rw[<- b];exact (Looks.ld a).andThen .now
section
variable{prog:Program}{w:World}{A:Around}{E:ao->ak->Prop}{K:Frag}{h:aO}{g:Array GenState}{d:Drawn}{t:Nat}{os:OsState}{x C:ae}
theorem LI{Q:Unit->ak->Prop}(Z:gK K C)(X:K.In h)(I:eX x C h)(j:Q () ⟨h,g,d,t,os⟩):
  wpAny M A (checkBuiltinCall "BaseException.__getattribute__" ⟨[.ref x,nameV],[]⟩) Q E ⟨h,g,d,t,os⟩:=by
 have f:builtinKind "BaseException.__getattribute__"=some .slot:=by decide +kernel
 have a:splitId "BaseException.__getattribute__"=some ("BaseException","__getattribute__"):=by decide +kernel
 have i:=F.args_bexc_ga (.ref x) nameV;have b:=I.ty (M:=M);have e:=looks_subIn (M:=M) X Z.sb;simp only[checkBuiltinCall,f,a];refine wpAny_bind ?_;unfold isInstance;refine wpAny_bind (b.at (e.at ?_))
 repeat (any_goals (first |assumption |wp_step))
end
def jR(x C:ae)(d:bT):HO:=.ext λh=>eX x C h/\Cn d x h
theorem SH(p:eX x C h)(cn:Cn d x h):aX P w H h x (jR x C d):=by
 refine⟨⟨p,cn⟩,?_,λa b q k=>?_⟩
 .obtain⟨o,e,_⟩:=p;exact⟨o,e⟩
 .obtain⟨⟨o,e,c⟩,n⟩:=q;exact⟨⟨o,k o e,c⟩,n.keeps k⟩
end L2
namespace L2
open PySem PySem.Spec PyProof.Rows
theorem SI:lS (eK P w) X E0:=λ_ _ _ _ _ _ _ a=>by let⟨_,_,_,_,_,_,_,_,_,_,h⟩:=a;exact h.elim
section
variable{X:Cx}
theorem av.gone{s:ak}{n:Str}(I:av X aa G H s)(w:X.N.Nodup)(B:X.N[i]?=some n)(hm:s.heap.Ns X.env.locals m)(C:∀(j:Nat)(x:Str)(v:V),X.N[j]?=some x->G[j]?=some (some v)->lN X.env.scope x->∃u,aC v u/\AJ X.env s.heap m x u)(hn:h'.Ns X.env.locals (λx=>if x=n then v else m x))(hs:Heap.SameBut X.env.locals s.heap h'):av X aa (G.set i none) H { s with heap:=h',toks:=tk }:=by
 have apart:∀b o,X.s₀.heap.get? b=some o->b≠X.env.locals:=λb o e=>ne_of_lt (lt_of_lt_of_le (Heap.lt_size e) I.ok.above)
 refine⟨I.ok,I.os,I.bare,⟨λb o e q f d=>(hs.2 b (apart b o e)).trans (I.base.keep b o e q f d),λb o e q f d=>?_,I.base.free,λb o e d=>?_,I.base.dy,I.base.bz,I.base.dS⟩,
  ⟨_,hn,λj y J h a l=>?_⟩,λy c e=>?_,I.free,I.bN,λp D=>?_,λb u e=>?_,by rw[length_set];exact I.len⟩
 .obtain⟨sl,z⟩:=I.base.slot b o e q f d;exact⟨sl,(hs.2 b (apart b o e)).trans z⟩
 .obtain⟨o',z⟩:=I.base.there b o e d;exact⟨o',(hs.2 b (apart b o e)).trans z⟩
 .have hj:i≠j:=λz=>by
   subst z;rw[getElem?_set] at a;split at a
   .split at a<;>cases a
   .rename_i q;exact q rfl
  rw[getElem?_set_ne hj] at a;let⟨u,r,q⟩:=C j y J h a l;refine⟨u,r,q.imp (λq=>⟨q.1,?_⟩) λg=>by let⟨k,c,e,z⟩:=g;exact⟨k,c,e,z.sameBut hs (I.kA y c e)⟩⟩;have E:y≠n:=λz=>hj (wb w B (z ▸ h))
  show (if y=n then v else m y)=_;rw[if_neg E];exact q.2
 .obtain⟨u,z⟩:=I.cell y c e;exact⟨u,z.sameBut hs (I.kA y c e)⟩
 .obtain⟨e,q,ne,r⟩:=I.pin p D;exact⟨(hs.2 p.1 ne).trans e,q,ne,r⟩
 .refine (I.aM b u e).dR (λc o A q=>(hs.2 c ?_).trans q) (λ_ q=>q) λ_ _ q=>q
  rintro rfl;rcases A with z |z
  .rw[<- z,I.free] at e;cases e
  .rw[I.free] at z;cases z
def Ends.less(D:Ends)(i:Nat):Ends:={ nx:=λj H=>D.nx (j.set i none) H,rt:=D.rt,bk:=λj H=>D.bk (j.set i none) H,ct:=λj H=>D.ct (j.set i none) H }
def uU(K:aj)(C:ae)(i:Nat)(b:ae->TS)(D:Ends):St->XK:=λj a o H=>W.exmOne K a (.ref C)=some true/\∃B,a=.ref B/\∀y,H y=none->b y (D.less i) (j.set i (some (.ref y))) (aN H y (jR y B o))
def Ha(K:aj)(C:ae)(i:Nat)(a:TS)(D:Ends):St->XK:=uU K C i (λ_=>a) D
def Aa(K:aj)(C:ae)(i:Nat)(tb:(St->XK)->TS)(a:TS):TS:=λD j H=>tb (Ha K C i a D) D j H
def Gh(K:aj)(C:ae)(i:Nat)(tb:(St->XK)->TS)(a:ae->TS):TS:=λD j H=>tb (uU K C i a D) D j H
theorem LJ{tb:(St->XK)->TS}(hs:X.stack=X.env::X.outer)(hf:X.env.frame=some X.env.locals)(hg:Gl X x)(hm:X.mg x=some (.ref C))(hN:X.N.Nodup)(hi:X.N[i]?=some n)(hn:X.env.scope.names.lookup n=some .local)(d:∀(pn:aT)(xe:ao->ak->Prop)(R:St->XK),(∀j,iB (eK X.prog X.w) (X.cv pn xe) j (R j))->eL (X.cv pn xe) body (tb R)){th:ae->TS}(hh:∀y:Addr,eL (X.bx (.ref y)) (G::suite) (th y))(τ: ~~~(da x)):
  PS X (.Try body [.ExceptHandler (some (.Name x np)) (some n) (G::suite) hpos] [] [] pos) (Gh X.K C i tb th):=by
 intro aa s j H D I h;refine wpAny_Try_except ?_;have ζ:∀Y,iB (eK X.prog X.w) (X.cv (X.pn++aa) λe κ=>wpAny (model X.prog X.w) X.A (noteFrame e X.env) (λ_ μ=>wpAny (model X.prog X.w) X.A (setFlight e none)
   (λ_ ν=>wpAny (model X.prog X.w) X.A (handleBy e X.env [.ExceptHandler (some (.Name x np)) (some n) (G::suite) hpos]) (SP X aa D) X.xe ν) X.xe μ) X.xe κ) Y (uU X.K C i th D Y):=by
  intro Y pins' H1 s1 e r I1 hc;let⟨y,cls,o,E,rfl,os,bare,un,aM,f,β,B,rfl,hth⟩:=hc;have J1:av X aa Y H1 s1:=av.iu I.ok I1;have J2:av X aa Y E r:=J1.dH (ch:=[]) os un aM bare (λb z=>absurd z (by simp));let⟨T,a0,σ,hT,htr⟩:=f.jz;have υ:∀env∈X.env::X.outer,∀a,env.frame=some a->a∈y::T::cg X.stack:=λenv he a hf=>.tail _ (.tail _ (by rw[hs];exact sS env he a hf))
  have ρ:Heap.FlyingW (W.hideAll r.heap (y::T::cg X.stack)) (X.env::X.outer) y (.ref B) a0 r.heap:=
   ⟨λb o q=>W.of_hideAll _ q,W.hideAll_none _ (.head _),W.funFrames_hide (hs ▸ J2.stack) υ,htr _ (.tail _ (.head _))⟩
  have on:∀h2:Heap,(W.hideAll r.heap (y::T::cg X.stack)).StaysIn h2->r.heap.UpToSlots h2->Un (cg X.stack) [] H1 E s1.heap h2/\cR X.prog X.w E h2:=λh2 k sm=>by
   let⟨u,ok,_⟩:=Ej (fs:=cg X.stack) (fr:=cg X.stack) (bad:=[y,T]) un aM (λb d=>by
    rcases mem_cons.mp d with z |d
    .exact .inl (by rw[z];exact .head _)
    .rcases mem_cons.mp d with z |d
     .exact .inl (by rw[z];exact .tail _ (.head _))
     .exact .inr d) (λb d=>by
    rcases mem_cons.mp d with z |d
    .rw[z];exact⟨f.1,f.2.1⟩
    .have z:b=T:=by simpa using d
     rw[z];exact⟨σ,hT⟩) (λb d=>⟨.inl d,(J2.BW b d).2⟩) (λ_ d=>d) k sm
   exact⟨u,ok⟩
  refine KZ (by rw[I.ok.frames,hs]) hf ρ f.cn λh4 U θ ξ=>?_
  refine SF U ξ λh5 Q ι ο=>?_
  have o5:=on h5 Q.1 (θ.trans ι);have J5:av X aa Y E { r with heap:=h5 }:=J1.dH (s':={ r with heap:=h5 }) (ch:=[]) os o5.1 o5.2 bare (λb z=>absurd z (by simp));refine wpAny_handleBy_cons (codeAny_handlers_test ?_) (by intro q;cases q);refine k4 (X:=X.bx (.ref y)) (J5.bx (.ref y)) hg hm ?_ τ;let⟨ob,ψ,ω⟩:=Q.there;refine (W.exm_one (M:=model X.prog X.w) J5.cG (show W.Looks _ h5 (typeOf (.ref y)) (.ref B) from eX.ty ⟨ob,ψ,ω⟩) β).here ?_;refine codeAny_handlers_suite_as (SG Q ο λh6 α sm6 π=>?_);have g:=on h6 α.1 ((θ.trans ι).trans sm6);let⟨ob6,δ,ε⟩:=α.there;have ne:∀b o,E b=some o->b≠y:=λb o q z=>by rw[z,f.2.1] at q;cases q
  have un6:Un (cg X.stack) [] H1 (aN E y (jR y B o)) s1.heap h6:=
   ⟨g.1.keep,g.1.slot,λb o e q hx=>by rw[aW (λz=>by rw[z,f.1] at e;cases e)];exact g.1.free b o e q hx,g.1.there,λb xs q=>by rw[aW (ne b _ (g.1.dy b xs q))];exact g.1.dy b xs q,
    λb o u q=>by rw[aW (ne b _ (g.1.bz b o u q))];exact g.1.bz b o u q,λb ps q=>by
     let⟨η,z⟩:=g.1.dS b ps q;exact⟨η,by rw[aW (ne b _ z)];exact z⟩⟩
  have ok6:cR X.prog X.w (aN E y (jR y B o)) h6:=λb o q=>by
   by_cases z:b=y
   .subst z;rw[cO] at q;cases q;exact SH ⟨ob6,δ,ε⟩ π
   .rw[aW z] at q;exact (g.2 b o q).dR (λ_ _ _ e=>e) (λc e=>by rw[aW (ne c _ e)];exact e) λc xs e=>by rw[aW (ne c _ e)];exact e
  have J6:av X aa Y (aN E y (jR y B o)) { r with heap:=h6 }:=J1.dH (s':={ r with heap:=h6 }) (ch:=[]) os un6 ok6 bare (λb z=>absurd z (by simp));refine pX (X:=X.bx (.ref y)) (v:=.ref y) (J6.bx (.ref y)) hN hi (.inl hn) rfl (λs7 J7=>?_) (.inr hn);refine wpAny_mono (hh y aa s7 _ _ _ J7 (hth y f.2.1)) (λfl s8 q=>?_) λ_ _ z=>z.elim
  have go:∀{j8:St}{L:Hp}{R:Unit->ak->Prop},av (X.bx (.ref y)) aa j8 L s8->(∀s9,av X aa (j8.set i none) L s9->R () s9)->wpAny (model X.prog X.w) X.A (do bindName X.env n .none;unbindBehindTheSuite X.env n hpos) R X.xe s8:=by
   intro j8 L R l hR;have J:=av.hG I.ok l;let⟨m,γ,φ⟩:=J.loc;exact wpAny_nameGoes_keeps hn γ (by rw[I.ok.kind];rfl) λh9 v χ hs9=>hR _ (J.gone hN hi γ φ χ hs9)
  match fl,q with
  |.next,⟨j8,L,l,q⟩=>exact go l λs9 O=>⟨_,_,O,q⟩
  |.brk,⟨j8,L,l,q⟩=>exact go l λs9 O=>⟨_,_,O,q⟩
  |.cont,⟨j8,L,l,q⟩=>exact go l λs9 O=>⟨_,_,O,q⟩
  |.ret u,⟨v,j8,L,l,rv,q⟩=>exact go l λs9 O=>⟨v,_,_,O,rv,q⟩
 refine wpAny_mono (d _ _ _ ζ [] s j H D (I.qK _) h) (λfl s1 q=>?_) λ_ _ z=>z
 have q':SP X aa D fl s1:=q.imp λj H J=>av.iu I.ok J
 cases fl with
 |next=>exact wpAny_execs_nil q'
 |brk=>exact q'
 |cont=>exact q'
 |ret u=>exact q'
theorem MT{tb:(St->XK)->TS}(hs:X.stack=X.env::X.outer)(f:X.env.frame=some X.env.locals)(g:Gl X x)(hm:X.mg x=some (.ref C))(d:X.N.Nodup)(l:X.N[i]?=some n)(hn:X.env.scope.names.lookup n=some .local)(e:∀(pn:aT)(xe:ao->ak->Prop)(R:St->XK),(∀j,iB (eK X.prog X.w) (X.cv pn xe) j (R j))->eL (X.cv pn xe) body (tb R))(h:∀v:Value,eL (X.bx v) (a::suite) th)(b: ~~~(da x)):
  PS X (.Try body [.ExceptHandler (some (.Name x np)) (some n) (a::suite) hpos] [] [] pos) (Aa X.K C i tb th):=LJ hs f g hm d l hn e (λy=>h (.ref y)) b
end
end L2
namespace Vc
open PySem L2 Sf
theorem Le.exc(e:Le F F')(h:Rd F a (jR a B o)):Rd F' a (jR a B o):=e _ _ (by intro o w z;cases z) h
end Vc
namespace L2
open PySem PySem.Spec PyProof.Rows
def q0(K:aj)(a:ae):It:=
 ⟨λi H=>∃b x,bG K H a b/\b[i]?=some x,λi H y d=>∃p x,y=.ref p/\H p=none/\(∀b,bG K H a b->b[i]?=some x)/\d=aN H p (.aP [.int i,x]),λi H=>∃b,bG K H a b/\b.length<=i⟩
theorem av.kJ{s:ak}(I:av X aa j H s)(k:∀c o,c≠a->c≠b->s.heap.get? c=some o->h'.get? c=some o)(A:gN X aa H a)(B:gN X aa H b)(E:∃o,h'.get? a=some o)(eb:∃o,h'.get? b=some o):av X aa j H { s with heap:=h',toks:=t' }:=by
 ∎;let⟨g,i,C,l,m,r⟩:=A;let⟨h,v,D,w,x,y⟩:=B;∎;refine I.dH (s':={ s with heap:=h',toks:=t' }) (ch:=[a,b]) rfl ⟨λc o e _ _ f=>?_,λc o e _ _ f=>⟨o.slots,?_⟩,λ_ _ _ n _=>n,λc o e f=>⟨o,?_⟩,λ_ _ q=>q,λ_ _ _ q=>q,λ_ G q=>⟨#[],by rw[q];simp⟩⟩ (λc u e=>?_) I.bare (λc f=>?_)
 .exact k c o (λz=>f (by simp[z])) (λz=>f (by simp[z])) e
 .exact k c o (λz=>f (by simp[z])) (λz=>f (by simp[z])) e
 .exact k c o (λz=>f (by simp[z])) (λz=>f (by simp[z])) e
 .refine (I.aM c u e).dR (λd o hd q=>k d o ?_ ?_ q) (λ_ q=>q) λ_ _ q=>q
  .rintro rfl;rcases hd with z |z
   .rw[<- z,g] at e;cases e
   .rw[g] at z;cases z
  .rintro rfl;rcases hd with z |z
   .rw[<- z,h] at e;cases e
   .rw[h] at z;cases z
 .rcases mem_cons.mp f with z |f
  .rw[z];exact⟨l,i,m,r⟩
  .have z:c=b:=by simpa using f
   rw[z];exact⟨w,v,x,y⟩
theorem LK{P:Program}{w:World}{K:aj}{B:bL}{x1:Nat}{pos:Pos}(a it n:ae)(y:n≠it):
  ki P w K (.Tuple B x1 pos) (q0 K a) [n,it] n (λi h=>(∃g,IsEnum h n it i g)/\h.IsListIter it a i) where
 mem:=by simp
 obj:=λi h st b l=>by
  let⟨⟨g,Q⟩,o,U,c,d⟩:=st;rcases mem_cons.mp l with z |l
  .rw[z];exact⟨_,Q,λv z=>by cases z⟩
  .have z:b=it:=by simpa using l
   rw[z];exact⟨o,U,λv z=>by rw[d] at z;cases z⟩
 keep:=λi h h' st k=>by
  let⟨⟨g,Q⟩,U⟩:=st;exact⟨⟨g,k n (by simp) _ Q⟩,U.at λo e=>k it (by simp) o e⟩
 item:=by
  intro X hP hw Y hc i aa s j H E I N st hg;subst hP hw Y;∎;let⟨⟨g,A⟩,r⟩:=st;let⟨xs,x,m,hx⟩:=hg;let⟨δ,rv,p,hz⟩:=I.list m;let⟨u,hu,ru⟩:=rv.get hx;∎;have fe:=N n (by simp);have fi:=N it (by simp);refine wpAny_pyNext_enum_item A r p.isList (x:=u) (by simpa using hu) y λh' J D hT ε hk=>?_
  refine⟨.ref ⇑s,rfl,wpAny_letOwnedTupleGo_enum J λh2 C hs=>?_⟩;have le:n<⇑s:=Heap.lt_size A;have li:it<⇑s:=let ⟨o,e,_⟩:=r;Heap.lt_size e;have β:H ⇑s=none:=I.aM.fresh (le_refl _);have L:n≠⇑s:=ne_of_lt le;have M:it≠⇑s:=ne_of_lt li;have I1:=I.laid (a:=⇑s) (o:=.aP [.int i,x]) (h':=s.heap.push { cls:=.type "tuple",data:=.seq #[.int i s.toks,u] }) (t':=s.toks) (λb q m=>Heap.get?_push_of_some _ m) (le_refl _)
   ⟨by show 2<=sizeLine;decide,[.int i s.toks,u],.cons ⟨_,rfl⟩ (.cons ru .nil),⟨_,Heap.get?_push_size _ rfl,rfl,_,rfl⟩⟩
  have up:∀{b:ae},b≠⇑s->gN X aa H b->gN X aa (aN H ⇑s (.aP [.int i,x])) b:=λl f=>⟨by rw[aW l];exact f.1,f.2⟩
  have γ:∀b q,b≠n->b≠it->(s.heap.push { cls:=.type "tuple",data:=.seq #[.int i s.toks,u] }).get? b=some q->h2.get? b=some q:=λb q h1 h3 m=>by
   refine hs.extBut b q h1 ?_;rcases Heap.get?_push_cases m with⟨α,eq⟩ |m
   .subst α;subst eq;exact hT
   .exact hk b q h1 h3 m
  let⟨O,ei,ci,di⟩:=D;have G:h2.IsListIter it a (i+1):=⟨O,hs.extBut it O (Ne.symm y) ei,ci,di⟩;refine⟨.ref ⇑s,aN H ⇑s (.aP [.int i,x]),?_,rfl,⟨_,x,rfl,β,λys hy=>by rw[I.dO hy m];exact hx,rfl⟩,⟨⟨_,C⟩,G⟩,λb l=>?_⟩
  .exact av.kJ (s:={ s with heap:=s.heap.push { cls:=.type "tuple",data:=.seq #[.int i s.toks,u] },toks:=s.toks }) (t':=s.toks+1) I1 γ (up L fe) (up M fi) ⟨_,C⟩ ⟨O,hs.extBut it O (Ne.symm y) ei⟩
  .rcases mem_cons.mp l with z |l
   .rw[z,aW L];exact fe.1
   .have z:b=it:=by simpa using l
    rw[z,aW M];exact fi.1
 done:=by
  intro X hP hw Y hc i aa s j H E I N st hg;subst hP hw Y;∎;let⟨⟨g,A⟩,r⟩:=st;let⟨xs,m,hx⟩:=hg;let⟨δ,rv,p,hz⟩:=I.list m;∎;have hl:=rv.length;let⟨f0,f1,f2,f3,f4,f5⟩:=N it (by simp);exact wpAny_pyNext_enum_end (I.ok.hd hc) A r p.isList (by simp;omega) λh' eb=>⟨rfl,I.turned (t':=s.toks) (λb o l e=>eb b o l e) f0 f1 f3 f4 f5⟩
 self:=λ_ _ _ _ _ st h=>let ⟨⟨_,A⟩,_⟩:=st;wpAny_pyIter_enum A h
section
variable{X:Cx}
def AD(K:aj)(d:TA):TI:=λj H R=>d j H λvs b=>∃a,vs=[.ref a]/\(∃e,bG K b a e)/\R (q0 K a) b
theorem O1{l:Expr}{w:TA}{g:bL}{x1:Nat}{i p pos:Pos}(A:Gl X "enumerate")(hm:X.mg "enumerate"=none)(y:PA X [l] w)(hs:do nq l X.env):
  PI X (.Tuple g x1 i) (.Call (.Name "enumerate" p) [l] [] pos) (AD X.K w):=by
 intro aa s j H R I h;refine Call_ (mf I A hm (u:=.type "enumerate") rfl (PyProof.Rows.callWith_type1 (bq (y pos aa s j H _ I h) λus d o=>?_) hs rfl));let⟨vs,x,f,G,a,e,⟨O,C⟩,q⟩:=o;subst e;cases G with
 |cons r J=>
  cases J;cases r;let⟨E,N,p,M⟩:=f.list C;refine call_enumerate_list p.isList λL v n D B=>wpAny_pyIter_enum v ?_
  have ne:⇑d+1≠⇑d:=⋯
  refine⟨⇑d+1,[⇑d+1,⇑d],_,_,x,rfl,f.kept (t':=d.toks) B,LK a _ _ ne,⟨⟨_,v⟩,n⟩,λb m=>?_,q⟩;rcases mem_cons.mp m with z |m
  .rw[z];exact f.gq ⋯ (f.aM.fresh ⋯)
  .have z:b=⇑d:=by simpa using m
   rw[z];exact f.gq (le_refl _) (f.aM.fresh (le_refl _))
end
theorem BO:∀{bs:List Bool}{us:aL},aH (bs.map V.bl) us->us=bs.map Value.bool
 |[],_,.nil=>rfl
 |b::r,_,.cons h t=>by
  have e:=BO (bs:=r) t;subst e;cases h;rfl
theorem LL(bs:List Bool):(List.range bs.length).all (λi=>bs.getD i false)=bs.all id:=by
 rw[Bool.eq_iff_iff,List.all_eq_true,List.all_eq_true];constructor
 .intro h b hb;let⟨i,a,rfl⟩:=List.getElem_of_mem hb;have z:=h i (mem_range.mpr a);rw[getD_eq_getElem?_getD,getElem?_eq_getElem a] at z;exact z
 .intro h i a;rw[mem_range] at a;rw[getD_eq_getElem?_getD,getElem?_eq_getElem a];exact h _ (getElem_mem a)
theorem Ju(bs:List Bool):TruthOf prog w A (λi v=>(bs.map Value.bool).toArray[i]?=some v) (λi=>bs.getD i false):=by
 intro i v s Q E a d;simp only[List.getElem?_toArray,getElem?_map] at a;cases q:bs[i]? with
 |none=>rw[q] at a;cases a
 |some b=>
  rw[q] at a;cases a;have d:Q (bs.getD i false) s:=d;rw[getD_eq_getElem?_getD,q] at d;exact wpAny_pure d
section
variable{X:Cx}
theorem Cm(f:X.calm=true):bU X (.builtin "all") (λxs H Q=>∃(a:ae)(bs:List Bool),xs=[.ref a]/\bG X.K H a (bs.map V.bl)/\Q (.bl (bs.all id)) H):=by
 intro aa s j H xs us Q I r h;∎;let⟨a,bs,rfl,i,q⟩:=h;let⟨u,rfl,n⟩:=mE r;∎;cases n;let⟨l,v,p,x⟩:=I.list i;obtain rfl:=BO v;have d:=p.isList;have m:a<⇑s:=(let ⟨_,e,_⟩:=d;Heap.lt_size e);refine call_all_walk (wpAny_pyIter_list d ?_);refine⟨⇑s,_,_,_,_,_,_,rfl,Walks.list (by exact I.ok.hd f) _ a (ne_of_lt m) _,⟨⟨_,Heap.get?_push_size _ rfl,rfl,rfl⟩,(let ⟨o,e,c⟩:=d;⟨o,Heap.get?_push_of_some _ e,c⟩)⟩,Ju bs,λw y g=>?_⟩;refine⟨.bl (bs.all id),H,I.kept λb o e=>g b o (λz=>absurd (Heap.lt_size e) (by rw[show b=⇑s from by simpa using z];exact lt_irrefl _)) (Heap.get?_push_of_some _ e),?_,q⟩;rw[<- LL];show _=_;simp
end
def q4(b:aS×V->V)(a:ae)(ob:Obj)(kvs:cy):It:=
 ⟨λi H=>i<kvs.length/\H a=some (.aA ob (.dK kvs)),λi H x e=>e=H/\∃d,kvs[i]?=some d/\x=b d,λi H=>kvs.length<=i/\H a=some (.aA ob (.dK kvs))⟩
abbrev sf:aS×V->V:=λkv=>kV kv.1
abbrev vQ:aS×V->V:=λkv=>kv.2
theorem tG{H:Hp}(I:av X aa j H s)(o:H a=some (.aA ob (.dK kvs)))(hd:ob.data=.dict es ep):
  ∃vs,KV kvs vs/\s.heap.DictAt (eh X.prog X.w) a vs ep/\kvs.length=vs.length:=by
 let⟨e,z,y,vs,r,q,n,m,b,f,d,g,h,i⟩:=(show aX X.prog X.w H s.heap a (.aA ob (.dK kvs)) from I.aM a _ o);have l:ob=q:=Option.some.inj (e.symm.trans b);subst l;rw[hd] at d;cases d;exact⟨vs,r,⟨ob,es,e,f,hd,g,h,i⟩,KV.length r⟩
theorem LM{P:Program}{w:World}{K:aj}{tg:Expr}(a it:ae)(ob:Obj)(kvs:cy):
  ki P w K tg (q4 sf a ob kvs) [it] it (λi h=>∃l ep,ob.data=.dict l ep/\h.IsKeyIter it a i kvs.length ep) where
 mem:=by simp
 obj:=λi h st b m=>by
  let⟨l,ep,hd,o,e,c,d⟩:=st;rw[show b=it from by simpa using m];exact⟨o,e,λv z=>by rw[d] at z;cases z⟩
 keep:=λi h y st k=>by
  let⟨l,ep,hd,o,e,c,d⟩:=st;exact⟨l,ep,hd,o,k it (by simp) o e,c,d⟩
 item:=by
  intro X O U N hc i aa s j H E I A st Q;subst O U N;∎;let⟨l,ep,hd,f⟩:=st;let⟨hi,M⟩:=Q;let⟨vs,r,hm,B⟩:=tG I M hd;∎;obtain⟨⟨k,v⟩,x⟩:∃q,kvs[i]?=some q:=⟨kvs[i],by simp[hi]⟩;let⟨u,hu,ru⟩:=r.at x;rw[B] at f;let⟨C,D,f2,G,J,L⟩:=A it (by simp);refine wpAny_pyNext_dict_item f hm hu λY y n g sb=>?_
  have I1:av X aa j H { s with heap:=y }:=I.turned (t':=s.toks) (λb o m e=>(sb.2 b m).trans e) C D G J L;let⟨o,e,c,d⟩:=id g;refine⟨Y,rfl,tY (s:={ s with heap:=y }) e c d ∎ ⟨kV k,H,I1,wh n,⟨rfl,_,x,rfl⟩,⟨l,ep,hd,by rw[B];exact g⟩,λb m=>(A b m).1⟩⟩
 done:=by
  intro X O U N hc i aa s j H E I A st Q;subst O U N;∎;let⟨l,ep,hd,f⟩:=st;let⟨hi,M⟩:=Q;let⟨vs,r,hm,B⟩:=tG I M hd;∎;rw[B] at f;let⟨C,D,f2,G,J,L⟩:=A it (by simp);exact wpAny_pyNext_dict_end (I.ok.hd hc) f hm (by simp;omega) λy eb=>⟨rfl,I.turned (t':=s.toks) (λb o m e=>eb b o m e) C D G J L⟩
 self:=λ_ _ _ _ _ st h=>let ⟨_,_,_,f⟩:=st;wpAny_pyIter_keyiter f h
theorem LN{P:Program}{w:World}{K:aj}{tg:Expr}(a it:ae)(ob:Obj)(kvs:cy):
  ki P w K tg (q4 vQ a ob kvs) [it] it (λi h=>∃l ep,ob.data=.dict l ep/\h.IsValIter it a i kvs.length ep) where
 mem:=by simp
 obj:=λi h st b m=>by
  let⟨l,ep,hd,o,e,c,d⟩:=st;rw[show b=it from by simpa using m];exact⟨o,e,λv z=>by rw[d] at z;cases z⟩
 keep:=λi h x st k=>by
  let⟨l,ep,hd,o,e,c,d⟩:=st;exact⟨l,ep,hd,o,k it (by simp) o e,c,d⟩
 item:=by
  intro X N Q M U i aa s j H E I y st O;subst N Q M;∎;let⟨l,ep,hd,f⟩:=st;let⟨Y,L⟩:=O;let⟨vs,r,hm,A⟩:=tG I L hd;∎;obtain⟨⟨k,v⟩,n⟩:∃q,kvs[i]?=some q:=⟨kvs[i],by simp[Y]⟩;let⟨u,hu,ru⟩:=r.at n;rw[A] at f;let⟨B,C,f2,D,G,J⟩:=y it (by simp);refine wpAny_pyNext_values_item f hm hu λx g sb=>?_
  have I1:av X aa j H { s with heap:=x }:=I.turned (t':=s.toks) (λb o m e=>(sb.2 b m).trans e) B C D G J;let⟨o,e,c,d⟩:=id g;refine⟨u,rfl,tY (s:={ s with heap:=x }) e c d ∎ ⟨v,H,I1,ru,⟨rfl,_,n,rfl⟩,⟨l,ep,hd,by rw[A];exact g⟩,λb m=>(y b m).1⟩⟩
 done:=by
  intro X N Q M U i aa s j H E I y st O;subst N Q M;∎;let⟨l,ep,hd,f⟩:=st;let⟨Y,L⟩:=O;let⟨vs,r,hm,A⟩:=tG I L hd;∎;rw[A] at f;let⟨B,C,f2,D,G,J⟩:=y it (by simp);exact wpAny_pyNext_values_end (I.ok.hd U) f hm (by simp;omega) λx eb=>⟨rfl,I.turned (t':=s.toks) (λb o m e=>eb b o m e) B C D G J⟩
 self:=λ_ _ _ _ _ st h=>let ⟨_,_,_,f⟩:=st;wpAny_pyIter_valiter f h
section
variable{X:Cx}
def qH(d:aS×V->V)(X:Cx)(g:TE):TI:=λj H R=>g j H λx e=>∃a b,x=.ref a/\e a=some (.dK b)/\∀f,(∀o u,X.H₀ a≠some (.aA o u))->R (q4 d a f b) (aN e a (.aA f (.dK b)))
theorem O3(L:PE X o td):PI X tg o (qH sf X td):=by
 intro aa s j H R I h;refine bq (L aa s j H _ I h) λv i A=>?_
 let⟨x,C,g,N,a,d,ex,l,q⟩:=A;subst ex;obtain rfl:v=Value.ref a:=N;∎;let⟨O,Q,hd⟩:=qd g (.inl ⟨d,.inl l⟩);let⟨z,y,vs,r,dd⟩:=tZ g.aM l;∎;have n:∀o u,X.H₀ a≠some (.aA o u):=λo u z=>by
  have:=g.base.bz a o u z;rw[l] at this;cases this
 let⟨B,f⟩:=dd.dictAt;refine wpAny_pyIter_dict hd f ?_;let⟨m,w,D⟩:=(g.kept (t':=i.toks) (h':=i.heap.push { cls:=.type "dict_keyiterator",data:=.fields #[.ref a,.int 0 0,.int vs.length 0,.int B 0] }) λb o e=>Heap.get?_push_of_some _ e).freeze l;have M:a<⇑i:=f.lt_size;have J:d.length=vs.length:=KV.length r;refine⟨_,[_],_,_,aN C a (.aA m (.dK d)),rfl,D,LM a ⇑i m d,?_,λb G=>?_,q m n⟩
 .obtain⟨o2,es,ho2,c1,c2,_⟩:=f;have E:m=o2:=Option.some.inj (w.symm.trans (Heap.get?_push_of_some _ ho2));subst E;exact⟨es,B,c2,by rw[J];exact⟨_,Heap.get?_push_size _ rfl,rfl,rfl⟩⟩
 .have e:b=⇑i:=by simpa using G
  subst e;exact g.gq (le_refl _) (by rw[aW (Nat.ne_of_gt M)];exact g.aM.fresh (le_refl _))
theorem O4(ho:PE X o td)(l:attributeBase o "values" X.env (eval o X.env)=eval o X.env)(m:(apos.endLine == bw.line)=true):
  PI X tg (.Call (.Attribute o "values" apos) [] [] bw) (qH vQ X td):=by
 intro aa s j H R I h;refine wpAny_Call_method0_late l m (bq (ho aa s j H _ I h) λv i J=>?_);let⟨x,L,n,r1,a,g,ex,A,q⟩:=J;subst ex;obtain rfl:v=Value.ref a:=r1;let⟨N,t2,hd⟩:=qd n (.inl ⟨g,.inl A⟩);refine⟨"dict","dict.values",PySem.F.plainAttrs_dict,PySem.F.slot_dict_values,PySem.F.type_dict_values,N,t2,Calls.callWith_builtin rfl (PySem.evalArgs_none ?_)⟩;let⟨z,y,vs,r,dd⟩:=tZ n.aM A;refine call_meetsIn PySem.F.slot_dict_values N PySem.F.entry_dict_values (PySem.F.args_dict_values_1 _) (meets_dict_values (eh X.prog X.w) a hd) ⟨⟨vs,dd⟩,?_⟩;have C:av X aa j L { i with heap:=i.heap.push { cls:=.type "dict_values",data:=.fields #[.ref a] } }:=n.kept (t':=i.toks) λb o e=>Heap.get?_push_of_some _ e
 have E:∀o u,X.H₀ a≠some (.aA o u):=λo u z=>by
  have:=n.base.bz a o u z;rw[A] at this;cases this
 let⟨M,D⟩:=dd.dictAt;have f:=D.push { cls:=.type "dict_values",data:=.fields #[.ref a] };refine wpAny_pyIter_values (v:=⇑i) (d:=a) ⟨_,Heap.get?_push_size _ rfl,rfl,rfl⟩ f ?_;let⟨B,G,O⟩:=(C.kept (t':=i.toks) (h':=(i.heap.push { cls:=.type "dict_values",data:=.fields #[.ref a] }).push { cls:=.type "dict_valueiterator",data:=.fields #[.ref a,.int 0 0,.int vs.length 0,.int M 0] }) λb o e=>Heap.get?_push_of_some _ e).freeze A;have la:a<(i.heap.push { cls:=.type "dict_values",data:=.fields #[.ref a] }).objs.size:=f.lt_size;have Y:g.length=vs.length:=KV.length r;refine⟨_,[_],_,_,aN L a (.aA B (.dK g)),rfl,O,LN a (i.heap.push { cls:=.type "dict_values",data:=.fields #[.ref a] }).objs.size B g,?_,λb U=>?_,q B E⟩
 .obtain⟨o2,es,ho2,c1,c2,_⟩:=f;have Q:B=o2:=Option.some.inj (G.symm.trans (Heap.get?_push_of_some _ ho2));subst Q;exact⟨es,M,c2,by rw[Y];exact⟨_,Heap.get?_push_size _ rfl,rfl,rfl⟩⟩
 .have e:b=(i.heap.push { cls:=.type "dict_values",data:=.fields #[.ref a] }).objs.size:=by simpa using U
  subst e;exact C.gq (le_refl _) (by rw[aW (Nat.ne_of_gt la)];exact C.aM.fresh (le_refl _))
def Hc(X:Cx)(t:TS):TS:=λD j H=>t (AB X D) j H
theorem O5{st:Stmt}{t:TS}(h:PS X st t):PS X st (Hc X t):=by
 intro aa s j H D I q;refine bq (h aa s j H (AB X D) I q) λf n q=>?_
 cases f with
 |next=>let⟨d,i,b,a,l,g,e,hn,r⟩:=q;exact⟨d,_,b.jy e hn,r⟩
 |brk=>let⟨d,i,b,a,l,g,e,hn,r⟩:=q;exact⟨d,_,b.jy e hn,r⟩
 |cont=>let⟨d,i,b,a,l,g,e,hn,r⟩:=q;exact⟨d,_,b.jy e hn,r⟩
 |ret u=>let⟨v,d,i,b,m,a,l,g,e,hn,r⟩:=q;exact⟨v,d,_,b.jy e hn,m,r⟩
def pk(X:Cx)(t:TE):TE:=λj H Q=>t j H λv=>kn X (Q v)
theorem Dj(h:PE X e t):PE X e (pk X t):=by
 intro aa s j H Q I q;refine bq (h aa s j H _ I q) λu m b=>?_
 let⟨v,i,d,g,a,l,f,e,hn,r⟩:=b;exact⟨v,_,d.jy e hn,g,r⟩
end
section
variable{g:TG}{ti:TT}{te:TE}{ix:br}{σ:St}{Q:VK}
theorem Dk{h:aS×V->V}(Pv:Nat->ax->Hp->Prop)(r:Pv 0 [] H1)(m:∀i d H,i<=kvs.length->Pv i d H->H a=some (.aA ob (.dK kvs)))(hs:∀i k v d H,kvs[i]?=some (k,v)->Pv i d H->g (h (k,v)) (dB ix σ) H λf o=>Wk (dB ix σ) f/\ti f o λb l=>if b=true then te f l λv q=>d.length<sizeLine/\Pv (i+1) (d++[v]) q else Pv (i+1) d l)(hd:∀d H,Pv kvs.length d H->d.length<=sizeLine/\∀p,H p=none->Q (.ref p) (aN H p (.ag d))):u7 (q4 h a ob kvs) g ti te ix σ Q H1:=by
 refine xK (n:=kvs.length) Pv r (λi d H j p=>⟨j,m i d H (Nat.le_of_lt j) p⟩) (λd H p=>⟨le_refl _,m _ d H (le_refl _) p⟩) (λi x d H s j p y=>?_) hd;let⟨rfl,⟨k,v⟩,e,rfl⟩:=y;exact hs i k v d _ e p
end
theorem av.ir{X:Cx}{aa:aT}{j:St}{H:Hp}{s:ak}{h':aO}{t':Nat}{ch:cz}(I:av X aa j H s)(k:∀c o,c ∉ ch->s.heap.get? c=some o->h'.get? c=some o)(g:∀b∈ch,gN X aa H b):av X aa j H { s with heap:=h',toks:=t' }:=by
 refine I.dH (s':={ s with heap:=h',toks:=t' }) (ch:=ch) rfl ⟨λc o e _ _ a=>k c o a e,λc o e _ _ a=>⟨o.slots,k c o a e⟩,λ_ _ _ n _=>n,λc o e a=>⟨o,k c o a e⟩,λ_ _ q=>q,λ_ _ _ q=>q,λ_ h q=>⟨#[],by rw[q];simp⟩⟩ (λc u e=>?_) I.bare (λc a=>?_)
 .refine (I.aM c u e).dR (λd o hd q=>k d o (λhm=>?_) q) (λ_ q=>q) λ_ _ q=>q
  have f:=(g d hm).1;rcases hd with z |z
  .rw[<- z,f] at e;cases e
  .rw[f] at z;cases z
 .obtain⟨a0,a1,a2,a3,a4,a5⟩:=g c a;exact⟨a3,a1,a4,a5⟩
def q9(K:aj)(a b:ae):It:=
 ⟨λi H=>∃d e x y,bG K H a d/\bG K H b e/\d[i]?=some x/\e[i]?=some y,
  λi H v f=>∃p x y,v=.ref p/\H p=none/\(∀d,bG K H a d->d[i]?=some x)/\(∀e,bG K H b e->e[i]?=some y)/\f=aN H p (.aP [x,y]),
  λi H=>∃d e,bG K H a d/\bG K H b e/\(d.length<=i\/e.length<=i)⟩
theorem MU{P:Program}{w:World}{K:aj}{N:bL}{x1:Nat}{pos:Pos}{a b z TI TO l m:ae}(D:ZipApart z TI TO l m a b):
  ki P w K (.Tuple N x1 pos) (q9 K a b) [z,TI,TO,l,m] z (λi h=>IsZip h z TI TO .none/\IsPair h TI (.ref l) (.ref m)/\(∃c d,IsPair h TO c d)/\h.IsListIter l a i/\h.IsListIter m b i) where
 mem:=by simp
 obj:=λi h st c f=>by
  let⟨B,r,⟨u,v,C⟩,⟨o4,G,c4,d4⟩,⟨o5,J,c5,d5⟩⟩:=st;simp only[mem_cons,List.not_mem_nil,or_false] at f;rcases f with rfl |rfl |rfl |rfl |rfl
  .exact⟨_,B,λv z=>by cases z⟩
  .exact⟨_,r,λv z=>by cases z⟩
  .exact⟨_,C,λv z=>by cases z⟩
  .exact⟨o4,G,λv z=>by rw[d4] at z;cases z⟩
  .exact⟨o5,J,λv z=>by rw[d5] at z;cases z⟩
 keep:=λi h h' st k=>by
  let⟨B,r,⟨u,v,C⟩,G,J⟩:=st;exact⟨k z (by simp) _ B,k TI (by simp) _ r,⟨u,v,k TO (by simp) _ C⟩,G.at λo e=>k l (by simp) o e,J.at λo e=>k m (by simp) o e⟩
 item:=by
  intro X hP hw hK f i aa s j H E I Q st hg;subst hP hw hK;∎;let⟨B,r,⟨c,d,C⟩,G,J⟩:=st;let⟨xs,ys,x,y,n,A,hx,hy⟩:=hg;let⟨ι,rv,p,hz⟩:=I.list n;let⟨Y,L,p',η⟩:=I.list A;let⟨u,hu,ru⟩:=rv.get hx;let⟨M,ε,κ⟩:=L.get hy;∎;refine wpAny_pyNext_zip_item D B r C G J p.isList p'.isList (x:=u) (y:=M) (by simpa using hu) (by simpa using ε) λh' g1 g2 g3 g4 hT μ hk=>?_
  refine⟨.ref ⇑s,rfl,wpAny_letOwnedTupleGo_zip g1 λO θ U=>?_⟩;have β:H ⇑s=none:=I.aM.fresh (le_refl _);have lt:∀{c o},s.heap.get? c=some o->c≠⇑s:=λe=>ne_of_lt (Heap.lt_size e)
  have ne:∀c∈[z,TI,TO,l,m],c≠⇑s:=λc f=>by
   simp only[mem_cons,List.not_mem_nil,or_false] at f;rcases f with rfl |rfl |rfl |rfl |rfl
   .exact lt B
   .exact lt r
   .exact lt C
   .obtain⟨o,e,_⟩:=G;exact lt e
   .obtain⟨o,e,_⟩:=J;exact lt e
  have I1:=I.laid (a:=⇑s) (o:=.aP [x,y]) (h':=s.heap.push { cls:=.type "tuple",data:=.seq #[u,M] }) (t':=s.toks) (λb q n=>Heap.get?_push_of_some _ n) (le_refl _)
   ⟨by show 2<=sizeLine;decide,[u,M],.cons ru (.cons κ .nil),⟨_,Heap.get?_push_size _ rfl,rfl,_,rfl⟩⟩
  have γ:∀c q,c ∉ [z,TI,TO,l,m]->(s.heap.push { cls:=.type "tuple",data:=.seq #[u,M] }).get? c=some q->O.get? c=some q:=λc q f n=>by
   refine U.extBut c q (λg=>f (by simp[g])) ?_;rcases Heap.get?_push_cases n with⟨α,eq⟩ |n
   .subst α;subst eq;exact hT
   .exact hk c q (λg=>f (by simp[g])) (λg=>f (by simp[g])) (λg=>f (by simp[g])) (λg=>f (by simp[g])) n
  have t2:IsPair O TI (.ref l) (.ref m):=U.extBut TI _ D.TIz (hk TI _ D.TIz D.TITO D.TIi1 D.TIi2 r);have t3:IsPair O TO u M:=U.extBut TO _ D.TOz g2;have t4:O.IsListIter l a (i+1):=g3.at λo e=>U.extBut l o D.i1z e
  have t5:O.IsListIter m b (i+1):=g4.at λo e=>U.extBut m o D.i2z e
  refine⟨.ref ⇑s,aN H ⇑s (.aP [x,y]),?_,rfl,⟨_,x,y,rfl,β,λys hy=>by rw[I.dO hy n];exact hx,λys ζ=>by rw[I.dO ζ A];exact hy,rfl⟩,⟨θ,t2,⟨_,_,t3⟩,t4,t5⟩,λc f=>?_⟩
  .exact av.ir (s:={ s with heap:=s.heap.push { cls:=.type "tuple",data:=.seq #[u,M] },toks:=s.toks }) (t':=s.toks) I1 γ λc f=>⟨by rw[aW (ne c f)];exact (Q c f).1,(Q c f).2⟩
  .rw[aW (ne c f)];exact (Q c f).1
 done:=by
  intro X hP hw hK f i aa s j H E I Q st hg;subst hP hw hK;∎;let⟨B,r,⟨c,d,C⟩,G,J⟩:=st;let⟨xs,ys,n,A,δ⟩:=hg;let⟨ι,rv,p,hz⟩:=I.list n;let⟨Y,L,p',η⟩:=I.list A;∎;have l1:=rv.length;have l2:=L.length;refine wpAny_pyNext_zip_end (I.ok.hd f) D B r C G J p.isList p'.isList (δ.imp (λh=>by simp;omega) λh=>by simp;omega) λh' hk=>⟨rfl,I.ir (t':=s.toks) (ch:=[z,TI,TO,l,m]) (λc o f e=>?_) Q⟩
  exact hk c o (λg=>f (by simp[g])) (λg=>f (by simp[g])) (λg=>f (by simp[g])) (λg=>f (by simp[g])) e
 self:=λ_ _ _ _ _ st h=>wpAny_pyIter_zip st.1 h
section
variable{X:Cx}
def Bi(K:aj)(e:TA):TI:=λj H R=>e j H λvs d=>∃a b,vs=[.ref a,.ref b]/\(∃f,bG K d a f)/\(∃g,bG K d b g)/\R (q9 K a b) d
theorem SJ{l m:Expr}{E:TA}{g:bL}{x1:Nat}{n p pos:Pos}(U:Gl X "zip")(hm:X.mg "zip"=none)(Q:PA X [l,m] E)(hs:do yU l m X.env)(i:do nq m X.env):PI X (.Tuple g x1 n) (.Call (.Name "zip" p) [l,m] [] pos) (Bi X.K E):=by
 intro aa s j H R I h;refine Call_ (mf I U hm (u:=.type "zip") rfl (PyProof.Rows.callWith_type1 (bq (Q pos aa s j H _ I h) λus d w=>?_) (by rw[hs,i]) (by rw[i];rfl)));let⟨vs,J,f,r1,a,b,e,⟨xs,hq⟩,⟨ys,o⟩,q⟩:=w;subst e;cases r1 with
 |cons r v=>
  cases v with
  |cons r' v=>
   cases v;cases r;cases r';∎;let⟨γ,rv,p,hz⟩:=f.list hq;let⟨C,δ,D,β⟩:=f.list o;∎;have la:a<⇑d:=let ⟨_,e,_⟩:=p.isList;Heap.lt_size e;have lb:b<⇑d:=let ⟨_,e,_⟩:=D.isList;Heap.lt_size e;refine call_zip_2 p.isList D.isList λh' A L M N O α Y=>wpAny_pyIter_zip A ?_
   have G:ZipApart (⇑d+4) (⇑d+2) (⇑d+3) ⇑d (⇑d+1) a b:=by
    have lt:∀{x y:Nat},x<y->x≠y:=λh=>ne_of_lt h
    have gt:∀{x y:Nat},y<x->x≠y:=λh=>Nat.ne_of_gt h
    constructor<;>first |exact lt ⋯ |exact gt ⋯ |exact lt (lt_of_lt_of_le la ⋯) |exact lt (lt_of_lt_of_le lb ⋯)
   refine⟨⇑d+4,[⇑d+4,⇑d+2,⇑d+3,⇑d,⇑d+1],_,_,J,rfl,f.kept (t':=d.toks) Y,MU G,⟨A,L,⟨_,_,M⟩,N,O⟩,λc B=>?_,q⟩;have z:⇑d<=c:=by
    simp only[mem_cons,List.not_mem_nil,or_false] at B;rcases B with rfl |rfl |rfl |rfl |rfl
    .exact Nat.le_add_right _ _
    .exact Nat.le_add_right _ _
    .exact Nat.le_add_right _ _
    .exact le_refl _
    .exact Nat.le_add_right _ _
   exact f.gq z (f.aM.fresh z)
end
end L2
namespace Vc
open PySem L2 Sf
section
variable{X:Cx}{aa:aT}{σ:St}{H:Hp}{s:ak}{Au:Around}
theorem O6(I:av X aa σ H s)(d:bG X.K H a xs)(f:bG X.K H b ys)(w:Au.units<cLine)(L:xs.length=ys.length)(e:Nat->Bool)(r:∀(j:Nat) x y u v,xs[j]?=some x->ys[j]?=some y->aC x u->aC y v->SeqAt.EqAt Au.in1 s u v (e j)):SeqAt.RcNeAt Au s (.ref a) (.ref b) (!(List.range xs.length).all e):=by
 ∎;let⟨us,g,E,_⟩:=I.list d;let⟨J,r2,G,_⟩:=I.list f;∎;have B:=g.length;have M:=r2.length;have z:=SeqAt.RcNeAt.lists (A:=Au) (e:=e) E.isList G.isList (by simp;omega) w (λj d f=>?_)
 .have e0:(List.range us.toArray.size).all e=(List.range xs.length).all e:=by
   simp only[size_toArray];rw[<- B]
  rw[e0] at z;exact z
 .simp only[size_toArray] at d f;∎;let⟨u,h,C⟩:=g.get (i:=j) (x:=xs[j]'⋯) (by simp);let⟨v,l,D⟩:=r2.get (i:=j) (x:=ys[j]'⋯) (by simp);let⟨_,m⟩:=List.getElem?_eq_some_iff.mp h;let⟨_,n⟩:=List.getElem?_eq_some_iff.mp l;∎;have o:us.toArray[j]'(by simpa using d)=u:=by simpa using m
  have q:J.toArray[j]'(by simpa using f)=v:=by simpa using n
  rw[o,q];exact r j _ _ u v (by simp) (by simp) C D
end
theorem O7{H:Hp}(h:H p=some (.ag xs)):yJ K "list" (.ref p) H:=by
 exact .inl ⟨rfl,xs,bG.of h⟩
end Vc
namespace L2
open PySem PySem.Spec PyProof.Rows
def AE:R2:=λx y H Q=>∃z n,x=.str z/\y=.int n/\z.length<=100/\0<=n/\n<=1000/\Q (.str (Txt.mul z n)) H
theorem Kw:b9 X (binaryOp .Mult) AE:=by
 intro aa s j H x y v u Q I b d h;∎;let⟨z,n,rfl,rfl,a,f,g,q⟩:=h;let⟨t,rfl⟩:=b;let⟨e,rfl⟩:=d;∎;exact SB.mul (mulOk_of 100 1000 a ⋯ ⋯ ∎ ∎) λe k=>⟨.str _,H,I.tok _,⟨_,rfl⟩,q⟩
section
variable{X:Cx}
theorem LO{kvs:cy}{vs:List (aS×ao)}{us:aL}(r:KV kvs vs)(a:us.length=kvs.length)(h:∀(j:Nat) u,us[j]?=some u->∃k,vs[j]?=some (k,u)):aH (kvs.map (·.2)) us:=by
 induction kvs generalizing vs us with
 |nil=>cases us with
  |nil=>exact .nil
  |cons _ _=>simp at a
 |cons p t l=>
  cases us with
  |nil=>simp at a
  |cons u us=>
   unfold KV at r;cases r with
   |cons b g=>
    rename_i q n;let⟨k,e⟩:=h 0 u rfl;have f:q=(k,u):=by simpa using e
    refine .cons (by rw[f] at b;exact b.2) (l (vs:=n) g (by simpa using a) λj w i=>?_);let⟨m,d⟩:=h (j+1) w (by simpa using i);exact⟨m,by simpa using d⟩
end
end L2
namespace Vc
open PySem L2 Sf
theorem fL(h:bZ m x=some y):(x,y)∈m:=by
 induction m with
 |nil=>cases h
 |cons p r a=>
  by_cases e:p.1=x
  .rw[C9 e] at h;cases h;subst e;exact List.mem_cons_self ..
  .rw[PR e] at h;exact mem_cons_of_mem _ (a h)
theorem fM{j:Type}{m:List (Str×j)}{x:Str}{y:j}(h:∀p∈m,p.1≠x):mS m x y=m++[(x,y)]:=by
 unfold mS;rw[if_neg];intro z;rw[any_eq_true] at z;let⟨p,a,e⟩:=z;exact h p a (by simpa using e)
def r4(K:aj){j i G g:Type}(A:Rep j)(B:Rep i)(C:Rep G)(D:Rep g):Rep (j×i×G×g):=λF v x=>∃a b d e f,v=.ref a/\c8 K F a [b,d,e,f]/\A F b x.1/\B F d x.2.1/\C F e x.2.2.1/\D F f x.2.2.2
end Vc
namespace L2
open PySem PySem.Spec PyProof.Rows
section
variable{X:Cx}
theorem LP:b9 X (compareOp .Gt) (λx y H Q=>∃i j,x=.str i/\y=.str j/\Q (.bl (decide (j.cps.toList<i.cps.toList))) H):=by
 intro aa s G H x y v u Q I a b h;∎;let⟨i,j,rfl,rfl,q⟩:=h;let⟨t,rfl⟩:=a;let⟨d,rfl⟩:=b;∎;exact PySem.P.gt_str (cH I q rfl)
end
end L2
namespace Vc
open PySem L2
theorem T7{Fb Hb F H e f:Hp}{S:ae->Prop}(i:Gr0 Fb Hb F H)(v:H a=some (.dK kvs))(u:F a=none\/F a=some (.dK kvs))(j:Gr0 (fz Fb a (.aA ob (.dK kvs))) (fz Hb a (.aA ob (.dK kvs))) e f)(w:e a=fz F a (.aA ob (.dK kvs)) a)(h:Fz (λb=>b=a\/S b) e):
  ∃d:Hp,Gr0 Fb Hb d (aN f a (.dK kvs))/\Fz S d/\Le e d/\d a=F a/\(aN f a (.dK kvs)) a=some (.dK kvs)/\(∀b,b≠a->d b=e b)/\∀b,b≠a->(aN f a (.dK kvs)) b=f b:=
 Q6 (R:=λU=>∃d:Hp,Gr0 Fb Hb d U/\Fz S d/\Le e d/\d a=F a/\U a=some (.dK kvs)/\(∀b,b≠a->d b=e b)/\∀b,b≠a->U b=f b) i v u j w h λg x l m n o q r s=>⟨g,l,m,n,o,q,r,s⟩
end Vc
namespace L2
open PySem PySem.Spec PyProof.Rows
section
variable{X:Cx}
def AF(K:aj):R2:=λx y H Q=>∃l b a d,x=.ref l/\y=.ref b/\bG K H l a/\bG K H b d/\a.length+d.length<=sizeLine/\∀p,H p=none->Q (.ref p) (aN H p (.ag (a++d)))
theorem O8:b9 X (binaryOp .Add) (AF X.K):=by
 intro aa s j H x y v u Q I G J h;let⟨l,b,xs,zs,rfl,rfl,E,D,N,q⟩:=h;cases G;cases J;∎;let⟨d,r,p1,z1⟩:=I.list E;let⟨a,r2,p2,z2⟩:=I.list D;∎;have O:=r.length;have U:=r2.length;∎;let⟨⟨L,B,Y,i⟩,A,w,n,hd⟩:=p1.isList;let⟨⟨M,C,t2,o⟩,g,e,m,f⟩:=p2.isList;∎;simp only at w hd e f;subst w hd e f;refine concat_meets ⟨_,A,rfl⟩ ⟨_,g,rfl⟩ noFill_list_add seq_list_add PySem.F.slot_list_add PySem.F.entry_list_add (PySem.F.args_list_add_2 _ _) (list_addW l b d.toArray a.toArray n m B C i o (by simp;omega)) ⟨A,g,?_⟩;rw[show d.toArray++a.toArray=(d++a).toArray by simp];exact⟨.ref _,_,I.qM (t':=s.toks) (r.append r2) (by rw[length_append];omega),rfl,q _ I.fresh⟩
end
end L2
namespace Vc
open PySem L2 Sf
def cL(l:cz)(H:Hp):Hp:=λx=>if x∈l then none else H x
theorem n0{H:Hp}(a:x ∉ l)(h:H x=some o):cL l H x=some o:=by unfold cL;rw[if_neg a];exact h
theorem SK(h:x∈l):cL l H x=none:=if_pos h
theorem MV{H:Hp}(h:cL l H x=some o):x ∉ l/\H x=some o:=by
 unfold cL at h;by_cases z:x∈l
 .rw[if_pos z] at h;cases h
 .rw[if_neg z] at h;exact⟨z,h⟩
theorem xh(a:aB F H):Gr0 F (cL l H) F H:=⟨λ_ _ e=>(MV e).2,aB.refl _,a,λx u h e=>by rw[h] at e;cases e⟩
theorem IP{Hb:Hp}(h:Hb a=none):∀x∈[a],Hb x=none:=λx z=>by rw[mem_singleton.mp z];exact h
theorem IQ{Hb:Hp}(h:Hb a=none)(g:Hb b=none):∀x∈[a,b],Hb x=none:=λx z=>(mem_cons.mp z).elim (λe=>by rw[e];exact h) (IP g x)
theorem CC{Hb:Hp}(h:Hb a=none)(g:Hb b=none)(f:Hb c=none):∀x∈[a,b,c],Hb x=none:=λx z=>(mem_cons.mp z).elim (λe=>by rw[e];exact h) (IQ g f x)
end Vc
namespace L2
open PySem PySem.Spec PyProof.Rows
theorem xi(aM:cR P w H h)(e:Rd H a (.ins C dx fs)):∃b,f7 h a dx C b/\∀f,bX (fs.lookup f) (b f):=by
 have x:aX P w H h a (.ins C dx fs):=by
  rcases e with e |⟨o,e⟩
  .exact aM a _ e
  .exact (aM a _ e).2
 let⟨d,z,ne,g,b,n,r,q⟩:=x;exact⟨b,⟨g,n,ne⟩,r⟩
def u9(K:aj)(e:TE)(f:Str):TE:=λj H Q=>e j H λx b=>∃a C d fs v,x=.ref a/\Rd b a (.ins C d fs)/\fP K C/\a9 K C f/\fs.lookup f=some v/\Q v b
section
variable{X:Cx}{CX:fm}{k:Nat}{E:XK}{m f:Str}{pos apos:Pos}{o e:Expr}{ta:TE}{D:ae->Nat->Prop}{sp:Nat->Sp}
theorem Dl(A:PE X e ta)(y:attributeBase e f X.env (eval e X.env)=eval e X.env):PE X (.Attribute e f pos) (u9 X.K ta f):=by
 intro aa s j H Q I h;refine C5 y (bq (A aa s j H _ I h) λu M d=>?_);let⟨x,i,b,J,a,C,L,fs,v,ex,w,c,n,l,q⟩:=d;subst ex;obtain rfl:u=Value.ref a:=J;∎;let⟨G,O,r⟩:=xi b.aM w;let⟨u,B,g⟩:=bX.some_of (v:=v) (o:=G f) (by rw[<- l];exact r f);∎;exact PD b.cG O (c.get f) c.hd n B (BY g) ⟨v,i,b.tok _,g,q⟩
end
section
variable{X:Cx}{CX:fm}{k:Nat}{f C:ae}{fd:FuncData}{ps:ah}{sp:Sp}{dvs:ax}{ds:aL}{x:Str}{p pos:Pos}{e:Expr}{es:bL}{t:TA}
def uV(C:ae)(sp:Sp)(dvs:ax)(R:St->XK)(t:TA):TE:=λj H Q=>t j H λvs b=>∀x a,b x=none->b a=none->a≠x->
 sp (.ref x::(vs++dvs)) (aN (aN b a (.own x)) x (.ins C a [])) (λv d=>v=.aE/\Q (.ref x) d) (R j)
theorem LQ{H:Hp}{Q:VK}(M:Mk X.K C f)(F:aK X.prog X.w X.K X.mg X.base CX k f fd ps sp)(B:bp (k+1) X.A)(q:Binds X.K fd ps ds)(hd:aH dvs ds)(D:iB CX X j E)(I:av X aa j H s)(r:aH vs us)(h:∀x d,H x=none->H d=none->d≠x->sp (.ref x::(vs++dvs)) (aN (aN H d (.own x)) x (.ins C d [])) (λv l=>v=.aE/\Q (.ref x) l) E):
  wpAny (model X.prog X.w) X.A (call (.ref C) us) (EP X aa j Q) X.xe s:=by
 have g:=h (⇑s+1) ⇑s (I.aM.fresh (Nat.le_succ _)) (I.aM.fresh (le_refl _)) (ne_of_lt (Nat.lt_succ_self _));have b:=av.made (C:=C) I;have r2:aH (V.ref (⇑s+1)::(vs++dvs)) (Value.ref (⇑s+1)::(us++ds)):=.cons rfl (r.append hd);have y:(Value.ref (⇑s+1)::us++ds).length=ps.length:=(r2.length.symm.trans (F.len _ _ _ _ g))
 refine wpAny_call (Ni (f:=f) I.cG M.makes M.init (beq_iff_eq.mp M.fn) (codeAny_mono (F.run _ X.stack _ _ ⟨Value.ref (⇑s+1)::us,[]⟩ (Value.ref (⇑s+1)::(us++ds)) _ _ E (B.make C us [])
  (b.kD.make C us []) (q _ (Value.ref (⇑s+1)::us) b.cG y) r2 g) λo L a=>?_))
 match o,a with
 |.error e,a=>exact D aa _ _ e L b a
 |.ok (.ret u),a=>
  let⟨v,i,m,J,n,G⟩:=b.after a;subst n;exact⟨J,⟨V.ref (⇑s+1),i,m,rfl,G⟩⟩
 |.ok .next,a=>exact a.elim
 |.ok .brk,a=>exact a.elim
 |.ok .cont,a=>exact a.elim
theorem MW{R:St->XK}(M:Mk X.K C f)(F:aK X.prog X.w X.K X.mg X.base CX k f fd ps sp)(o:bp (k+1) X.A)(n:Gl X x)(hm:X.mg x=some (.ref C))(l:Binds X.K fd ps ds)(hd:aH dvs ds)(u:∀j,iB CX X j (R j))(i:PA X (e::es) t)(a: ~~~(da x))(m:do ee e es X.env)(b:do eZ pos es X.env):
  PE X (.Call (.Name x p) (e::es) [] pos) (uV C sp dvs R t):=by
 intro aa s j H Q I h;refine wpAny_Call_Name_kw (k4 I n hm ?_ a);exact W.callWith_K (h₀:=X.base) I.ok.mod.kG M.kp (bq (i pos aa s j H _ I h) λus y d=>by let⟨vs,v,g,r,q⟩:=d;exact⟨g.cG,LQ M F o l hd (u j) g r q⟩) m b
end
def eY(P:Program)(w:World)(K:aj)(mg:bc)(base:aO)(CX:fm)(k:Nat)(m:Str)(C:ae)(ps:ah)(sp:Sp):Prop:=
 fP K C/\∃f a,A8 K C m f/\aK P w K mg base CX k f a ps sp/\Binds K a ps []
theorem eY.mono{P:Program}{w:World}{K:aj}{mg:bc}{base:aO}{CX:fm}{k a:Nat}{m:Str}{C:ae}{ps:ah}{sp:Sp}(h:eY P w K mg base CX k m C ps sp)(le:k<=a):eY P w K mg base CX a m C ps sp:=by
 let⟨c,f,b,hm,F,d⟩:=h;exact⟨c,f,b,hm,F.mono le,d⟩
end L2
namespace Vc
open PySem L2 Sf
section
variable{H:Hp}{Q:VK}{l:ae}
theorem Dm:dc (ws++[v]) (-1)=some v:=by
 unfold dc iQ;rw[if_neg (by decide:¬ (0:Int)<=-1),length_append,if_pos (by simp only[length_cons,length_nil];omega)];have e:((-1:Int)+((ws.length+[v].length:Nat):Int)).toNat=ws.length:=by simp only[length_cons,length_nil];omega
 rw[e];show (ws++[v])[ws.length]?=some v;rw[getElem?_append_right (le_refl _),Nat.sub_self];rfl
end
end Vc
namespace L2
open PySem PySem.Spec PyProof.Rows
section
variable{g:TG}{ti:TT}{te:TE}{ix:br}{σ:St}{Q:VK}
theorem O9(Pv:Nat->ax->Hp->Prop)(r:Pv 0 [] H1)(j:∀i d H,i<=kvs.length->Pv i d H->H a=some (.aA ob (.dK kvs)))(hs:∀i k v d H p,kvs[i]?=some (k,v)->Pv i d H->H p=none->g (.ref p) (dB ix σ) (aN H p (.aP [kV k,v])) λe l=>Wk (dB ix σ) e/\ti e l λb h=>if b=true then te e h λv m=>d.length<sizeLine/\Pv (i+1) (d++[v]) m else Pv (i+1) d h)(hd:∀d H,Pv kvs.length d H->d.length<=sizeLine/\∀p,H p=none->Q (.ref p) (aN H p (.ag d))):u7 (uG a ob kvs) g ti te ix σ Q H1:=by
 refine xK (n:=kvs.length) Pv r (λi d H f p=>⟨f,j i d H (Nat.le_of_lt f) p⟩) (λd H p=>⟨le_refl _,j _ d H (le_refl _) p⟩) (λi x d H u f p y=>?_) hd;let⟨s,k,v,o,q,rfl,rfl⟩:=y;exact hs i k v d H s o p q
end
def f6(K:aj)(x a:Str)(st:Stmt)(f:ae):Prop:=∃b,gv K x a st f b
theorem kF{K:aj}{x a:Str}{st:Stmt}{f:ae}{oc:ao}{od an:bT}{osl:Array (dZ)}{kV doc pm a7 ct:ao}(l:K.lookup f=some ⟨oc,od,.func (W.fnOf x a (nG st) (iX st) (bD st) .none kV doc pm an a7 ct),osl⟩)(c:W.codeIn K a7 a=true)(k:W.keepIn K (.ref f)=true):f6 K x a st f:=⟨_,Ro l c k⟩
theorem f6.kp{K:aj}{x a:Str}{st:Stmt}{f:ae}(h:f6 K x a st f):W.keepIn K (.ref f)=true:=h.choose_spec.kp
def XD(d:ae)(fs:List (Str×V)):HO:=.ext λh=>∃m,h.Ns1 d m/\∀f,bX (fs.lookup f) (m f)
end L2
namespace Pu
open PySem L2 Vc Sf
inductive Fl where |f |o |l (k:Bool)
 deriving DecidableEq
inductive Tr where
 |int (n:Int) |bl (b:Bool) |str (s:Str) |aE |aq |ty (n:String) |cl (a:Addr) |exc (b:Addr) (P:Hp -> Option Addr -> Prop)
 |aP (xs:List Tr) |ag (f:Fl) (xs:List Tr) |aR (f:Fl) (kvs:List (aS × Tr)) |ins (f:Fl) (c:Addr) (fs:List (Str × Tr))
abbrev ay:=Tr->Prop
abbrev bE:=List (aS×Tr)
abbrev bg:=List (Str×Tr)
abbrev ai:=List Tr
abbrev aU:=ai->Prop
abbrev Cs:=List (ae×HO)
mutual
/-- v stands for the tree: dC frozen parts in F,dC lent ones in B,dC own ones are the cells -/
noncomputable def R(K:W.Frag)(F:Hp)(B:Bool->Hp):Tr->V->Cs->Prop
 |.int n,v,cs=>v=.int n /\ cs=[]
 |.bl b,v,cs=>v=.bl b /\ cs=[]
 |.str s,v,cs=>v=.str s /\ cs=[]
 |.aE,v,cs=>v=.aE /\ cs=[]
 |.aq,_,_=>False
 |.ty n,v,cs=>v=.ty n /\ cs=[]
 |.cl a,v,cs=>v=.ref a /\ cs=[]
 |.exc b P,v,cs=>cs=[] /\ ∃a o,v=.ref a /\ Rd F a (jR a b o) /\ ∀g,Le F g -> P g o
 |.aP xs,v,cs=>∃a vs,v=.ref a /\ c8 K F a vs /\ Rs K F B xs vs cs
 |.ag .f xs,v,cs=>cs=[] /\ ∃a vs,v=.ref a /\ bG K F a vs /\ Rs K F B xs vs []
 |.ag (.l k) xs,v,cs=>cs=[] /\ ∃a vs,v=.ref a /\ bG K (B k) a vs /\ Rs K F B xs vs []
 |.ag .o xs,v,cs=>∃a vs d,v=.ref a /\ cs=(a,.ag vs)::d /\ Rs K F B xs vs d
 |.aR .f xs,v,cs=>cs=[] /\ ∃a vs,v=.ref a /\ Rd F a (.dK vs) /\ Rk K F B xs vs [] /\ (xs.map (·.1)).Nodup
 |.aR (.l k) xs,v,cs=>cs=[] /\ ∃a vs,v=.ref a /\ Rd (B k) a (.dK vs) /\ Rk K F B xs vs [] /\ (xs.map (·.1)).Nodup
 |.aR .o xs,v,cs=>∃a vs d,v=.ref a /\ cs=(a,.dK vs)::d /\ Rk K F B xs vs d /\ (xs.map (·.1)).Nodup
 |.ins .f c xs,v,cs=>cs=[] /\ ∃a e vs,v=.ref a /\ Rd F a (.ins c e vs) /\ Rf K F B xs vs []
 |.ins (.l k) c xs,v,cs=>cs=[] /\ ∃a e vs,v=.ref a /\ Rd (B k) a (.ins c e vs) /\ Rf K F B xs vs []
 |.ins .o c xs,v,cs=>∃a e vs d,v=.ref a /\ cs=(a,.ins c e vs)::d /\ Rf K F B xs vs d
noncomputable def Rs(K:W.Frag)(F:Hp)(B:Bool->Hp):List Tr->List V->Cs->Prop
 |[],vs,cs=>vs=[] /\ cs=[]
 |x::xs,vs,cs=>∃v r c d,vs=v::r /\ cs=c ++ d /\ R K F B x v c /\ Rs K F B xs r d
noncomputable def Rk(K:W.Frag)(F:Hp)(B:Bool->Hp):List (aS×Tr)->List (aS×V)->Cs->Prop
 |[],vs,cs=>vs=[] /\ cs=[]
 |(k,x)::xs,vs,cs=>∃v r c d,vs=(k,v)::r /\ cs=c ++ d /\ R K F B x v c /\ Rk K F B xs r d
noncomputable def Rf(K:W.Frag)(F:Hp)(B:Bool->Hp):List (Str×Tr)->List (Str×V)->Cs->Prop
 |[],vs,cs=>vs=[] /\ cs=[]
 |(k,x)::xs,vs,cs=>∃v r c d,vs=(k,v)::r /\ cs=c ++ d /\ R K F B x v c /\ Rf K F B xs r d
end
mutual
noncomputable def aG:Tr->Tr
 |.aP a=>.aP (cY a)
 |.ag .o a=>.ag (.l true) (cY a)
 |.aR .o a=>.aR (.l true) (dN a)
 |.ins .o c a=>.ins (.l true) c (b3 a)
 |t=>t
noncomputable def cY:List Tr->List Tr
 |[]=>[] |x::xs=>aG x::cY xs
noncomputable def dN:List (aS×Tr)->List (aS×Tr)
 |[]=>[] |(k,x)::xs=>(k,aG x)::dN xs
noncomputable def b3:List (Str×Tr)->List (Str×Tr)
 |[]=>[] |(k,x)::xs=>(k,aG x)::b3 xs
end
mutual
/-- no one changes it any more -/
noncomputable def aA:Tr->Tr
 |.aP a=>.aP (bz a)
 |.ag .o a=>.ag .f (bz a)
 |.aR .o a=>.aR .f (dM a)
 |.ins .o c a=>.ins .f c (fh a)
 |t=>t
noncomputable def bz:List Tr->List Tr
 |[]=>[] |x::xs=>aA x::bz xs
noncomputable def dM:List (aS×Tr)->List (aS×Tr)
 |[]=>[] |(k,x)::xs=>(k,aA x)::dM xs
noncomputable def fh:List (Str×Tr)->List (Str×Tr)
 |[]=>[] |(k,x)::xs=>(k,aA x)::fh xs
end
mutual
/-- nothing lent in it -/
noncomputable def cD:Tr->Bool
 |.aP a=>cN a
 |.ag (.l _) _=>false
 |.aR (.l _) _=>false
 |.ins (.l _) _ _=>false
 |.ag _ a=>cN a
 |.aR _ a=>g9 a
 |.ins _ _ a=>dP a
 |_=>true
noncomputable def cN:List Tr->Bool
 |[]=>true |x::xs=>cD x&&cN xs
noncomputable def g9:List (aS×Tr)->Bool
 |[]=>true |(_,x)::xs=>cD x&&g9 xs
noncomputable def dP:List (Str×Tr)->Bool
 |[]=>true |(_,x)::xs=>cD x&&dP xs
end
mutual
/-- nothing lent for now in it -/
noncomputable def bR:Tr->Bool
 |.aP a=>d9 a
 |.ag (.l true) _=>false
 |.aR (.l true) _=>false
 |.ins (.l true) _ _=>false
 |.ag _ a=>d9 a
 |.aR _ a=>g8 a
 |.ins _ _ a=>fj a
 |_=>true
noncomputable def d9:List Tr->Bool
 |[]=>true |x::xs=>bR x&&d9 xs
noncomputable def g8:List (aS×Tr)->Bool
 |[]=>true |(_,x)::xs=>bR x&&g8 xs
noncomputable def fj:List (Str×Tr)->Bool
 |[]=>true |(_,x)::xs=>bR x&&fj xs
end
mutual
/-- as a callee has it: what is lent is lent to it -/
noncomputable def dn:Tr->Tr
 |.aP a=>.aP (ck a)
 |.ag (.l _) a=>.ag (.l false) (ck a)
 |.aR (.l _) a=>.aR (.l false) (gW a)
 |.ins (.l _) c a=>.ins (.l false) c (ij a)
 |.ag .o a=>.ag .o (ck a)
 |.aR .o a=>.aR .o (gW a)
 |.ins .o c a=>.ins .o c (ij a)
 |.ag .f a=>.ag .f (ck a)
 |.aR .f a=>.aR .f (gW a)
 |.ins .f c a=>.ins .f c (ij a)
 |t=>t
noncomputable def ck:List Tr->List Tr
 |[]=>[] |x::xs=>dn x::ck xs
noncomputable def gW:List (aS×Tr)->List (aS×Tr)
 |[]=>[] |(k,x)::xs=>(k,dn x)::gW xs
noncomputable def ij:List (Str×Tr)->List (Str×Tr)
 |[]=>[] |(k,x)::xs=>(k,dn x)::ij xs
end
mutual
theorem R.mo{B B':Bool->Hp}(e:Le F F')(b:∀k,Le (B k) (B' k)):∀(t:Tr){v:V}{cs:Cs},R K F B t v cs->R K F' B' t v cs
 |.int _,_,_,h=>h
 |.bl _,_,_,h=>h
 |.str _,_,_,h=>h
 |.aE,_,_,h=>h
 |.aq,_,_,h=>h
 |.ty _,_,_,h=>h
 |.cl _,_,_,h=>h
 |.exc _ _,_,_,y=>by let⟨z,a,o,d,g,i⟩:=y;exact⟨z,a,o,d,Le.exc e g,λq l=>i q (e.trans l)⟩
 |.aP xs,_,_,y=>by let⟨a,vs,d,g,i⟩:=y;exact⟨a,vs,d,e.aP g,Rs.mo e b xs i⟩
 |.ag .f xs,_,_,y=>by let⟨z,a,vs,d,g,i⟩:=y;exact⟨z,a,vs,d,e.ag g,Rs.mo e b xs i⟩
 |.ag (.l k) xs,_,_,y=>by let⟨z,a,vs,d,g,i⟩:=y;exact⟨z,a,vs,d,(b k).ag g,Rs.mo e b xs i⟩
 |.ag .o xs,_,_,y=>by let⟨a,vs,j,d,g,i⟩:=y;exact⟨a,vs,j,d,g,Rs.mo e b xs i⟩
 |.aR .f xs,_,_,y=>by let⟨z,a,vs,d,g,i,n⟩:=y;exact⟨z,a,vs,d,e.aR g,Rk.mo e b xs i,n⟩
 |.aR (.l k) xs,_,_,y=>by let⟨z,a,vs,d,g,i,n⟩:=y;exact⟨z,a,vs,d,(b k).aR g,Rk.mo e b xs i,n⟩
 |.aR .o xs,_,_,y=>by let⟨a,vs,j,d,g,i,n⟩:=y;exact⟨a,vs,j,d,g,Rk.mo e b xs i,n⟩
 |.ins .f _ xs,_,_,y=>by let⟨z,a,m,vs,d,g,i⟩:=y;exact⟨z,a,m,vs,d,e _ _ (by intro _ _ z;cases z) g,Rf.mo e b xs i⟩
 |.ins (.l k) _ xs,_,_,y=>by let⟨z,a,m,vs,d,g,i⟩:=y;exact⟨z,a,m,vs,d,b k _ _ (by intro _ _ z;cases z) g,Rf.mo e b xs i⟩
 |.ins .o _ xs,_,_,y=>by let⟨a,m,vs,j,d,g,i⟩:=y;exact⟨a,m,vs,j,d,g,Rf.mo e b xs i⟩
theorem Rs.mo{B B':Bool->Hp}(e:Le F F')(b:∀k,Le (B k) (B' k)):∀(t:List Tr){v:List V}{cs:Cs},Rs K F B t v cs->Rs K F' B' t v cs
 |[],_,_,h=>h
 |x::xs,_,_,y=>by let⟨v,r,c,d,a,f,g,i⟩:=y;exact⟨v,r,c,d,a,f,R.mo e b x g,Rs.mo e b xs i⟩
theorem Rk.mo{B B':Bool->Hp}(e:Le F F')(b:∀k,Le (B k) (B' k)):∀(t:List (aS×Tr)){v:List (aS×V)}{cs:Cs},Rk K F B t v cs->Rk K F' B' t v cs
 |[],_,_,h=>h
 |(_,x)::xs,_,_,y=>by let⟨v,r,c,d,a,f,g,i⟩:=y;exact⟨v,r,c,d,a,f,R.mo e b x g,Rk.mo e b xs i⟩
theorem Rf.mo{B B':Bool->Hp}(e:Le F F')(b:∀k,Le (B k) (B' k)):∀(t:List (Str×Tr)){v:List (Str×V)}{cs:Cs},Rf K F B t v cs->Rf K F' B' t v cs
 |[],_,_,h=>h
 |(_,x)::xs,_,_,y=>by let⟨v,r,c,d,a,f,g,i⟩:=y;exact⟨v,r,c,d,a,f,R.mo e b x g,Rf.mo e b xs i⟩
end
section
mutual
theorem R.aG(b:∀k,Le (B k) (B' k)):∀(t:Tr){v:V}{cs:Cs},R K F B t v cs->(∀p∈cs,B' true p.1=some p.2)->R K F B' (aG t) v []
 |.int _,_,_,y,_=>by let⟨h,_⟩:=y;exact⟨h,rfl⟩
 |.bl _,_,_,y,_=>by let⟨h,_⟩:=y;exact⟨h,rfl⟩
 |.str _,_,_,y,_=>by let⟨h,_⟩:=y;exact⟨h,rfl⟩
 |.aE,_,_,y,_=>by let⟨h,_⟩:=y;exact⟨h,rfl⟩
 |.aq,_,_,h,_=>h.elim
 |.ty _,_,_,y,_=>by let⟨h,_⟩:=y;exact⟨h,rfl⟩
 |.cl _,_,_,y,_=>by let⟨h,_⟩:=y;exact⟨h,rfl⟩
 |.exc _ _,_,_,y,_=>by let⟨_,a,o,h,r⟩:=y;exact⟨rfl,a,o,h,r⟩
 |.aP xs,_,_,y,m=>by let⟨a,vs,e,d,g⟩:=y;exact⟨a,vs,e,d,Rs.aG b xs g m⟩
 |.ag .f xs,_,_,y,_=>by let⟨z,a,vs,e,d,g⟩:=y;exact⟨rfl,a,vs,e,d,Rs.mo (Le.refl F) b xs g⟩
 |.ag (.l k) xs,_,_,y,_=>by let⟨z,a,vs,e,d,g⟩:=y;exact⟨rfl,a,vs,e,(b k).ag d,Rs.mo (Le.refl F) b xs g⟩
 |.ag .o xs,_,_,y,m=>by let⟨a,vs,n,e,d,g⟩:=y;exact⟨rfl,a,vs,e,bG.of (m (a,.ag vs) (by rw[d];exact .head _)),Rs.aG b xs g λp q=>m p (by rw[d];exact .tail _ q)⟩
 |.aR .f xs,_,_,y,_=>by let⟨z,a,vs,e,d,g,j⟩:=y;exact⟨rfl,a,vs,e,d,Rk.mo (Le.refl F) b xs g,j⟩
 |.aR (.l k) xs,_,_,y,_=>by let⟨z,a,vs,e,d,g,j⟩:=y;exact⟨rfl,a,vs,e,(b k).aR d,Rk.mo (Le.refl F) b xs g,j⟩
 |.aR .o xs,_,_,y,m=>by let⟨a,vs,n,e,d,g,j⟩:=y;exact⟨rfl,a,vs,e,Rd.of (m (a,.dK vs) (by rw[d];exact .head _)),Rk.aG b xs g λp q=>m p (by rw[d];exact .tail _ q),by rw[eF];exact j⟩
 |.ins .f _ xs,_,_,y,_=>by let⟨z,a,i,vs,e,d,g⟩:=y;exact⟨rfl,a,i,vs,e,d,Rf.mo (Le.refl F) b xs g⟩
 |.ins (.l k) _ xs,_,_,y,_=>by let⟨z,a,i,vs,e,d,g⟩:=y;exact⟨rfl,a,i,vs,e,b k _ _ (by intro _ _ z;cases z) d,Rf.mo (Le.refl F) b xs g⟩
 |.ins .o _ xs,_,_,y,m=>by let⟨a,i,vs,n,e,d,g⟩:=y;exact⟨rfl,a,i,vs,e,Rd.of (m (a,.ins _ i vs) (by rw[d];exact .head _)),Rf.aG b xs g λp q=>m p (by rw[d];exact .tail _ q)⟩
theorem Rs.aG(b:∀k,Le (B k) (B' k)):∀(t:List Tr){v:List V}{cs:Cs},Rs K F B t v cs->(∀p∈cs,B' true p.1=some p.2)->Rs K F B' (cY t) v []
 |[],_,_,y,_=>by let⟨h,_⟩:=y;exact⟨h,rfl⟩
 |x::xs,_,_,y,m=>by let⟨v,r,c,d,e,a,f,g⟩:=y;exact⟨v,r,[],[],e,rfl,R.aG b x f λp q=>m p (by rw[a];exact mem_append.mpr (.inl q)),Rs.aG b xs g λp q=>m p (by rw[a];exact mem_append.mpr (.inr q))⟩
theorem Rk.aG(b:∀k,Le (B k) (B' k)):∀(t:List (aS×Tr)){v:List (aS×V)}{cs:Cs},Rk K F B t v cs->(∀p∈cs,B' true p.1=some p.2)->Rk K F B' (dN t) v []
 |[],_,_,y,_=>by let⟨h,_⟩:=y;exact⟨h,rfl⟩
 |(_,x)::xs,_,_,y,m=>by let⟨v,r,c,d,e,a,f,g⟩:=y;exact⟨v,r,[],[],e,rfl,R.aG b x f λp q=>m p (by rw[a];exact mem_append.mpr (.inl q)),Rk.aG b xs g λp q=>m p (by rw[a];exact mem_append.mpr (.inr q))⟩
theorem Rf.aG(b:∀k,Le (B k) (B' k)):∀(t:List (Str×Tr)){v:List (Str×V)}{cs:Cs},Rf K F B t v cs->(∀p∈cs,B' true p.1=some p.2)->Rf K F B' (b3 t) v []
 |[],_,_,y,_=>by let⟨h,_⟩:=y;exact⟨h,rfl⟩
 |(_,x)::xs,_,_,y,m=>by let⟨v,r,c,d,e,a,f,g⟩:=y;exact⟨v,r,[],[],e,rfl,R.aG b x f λp q=>m p (by rw[a];exact mem_append.mpr (.inl q)),Rf.aG b xs g λp q=>m p (by rw[a];exact mem_append.mpr (.inr q))⟩
theorem eF:∀(xs:List (aS×Tr)),(dN xs).map (·.1)=xs.map (·.1)
 |[]=>rfl
 |(_,_)::xs=>by show _::_=_::_;rw[eF xs]
end
theorem Co:∀(xs:bE),(dM xs).map (·.1)=xs.map (·.1)
 |[]=>rfl
 |(_,_)::xs=>by show _::_=_::_;rw[Co xs]
mutual
/-- without lent parts B is not asked -/
theorem R.base:∀(t:Tr){v:V}{cs:Cs},cD t=true->R K F B t v cs->R K F B' t v cs
 |.int _,_,_,_,h=>h
 |.bl _,_,_,_,h=>h
 |.str _,_,_,_,h=>h
 |.aE,_,_,_,h=>h
 |.aq,_,_,_,h=>h
 |.ty _,_,_,_,h=>h
 |.cl _,_,_,_,h=>h
 |.exc _ _,_,_,_,h=>h
 |.aP xs,_,_,n,y=>by let⟨a,vs,b,d,e⟩:=y;exact⟨a,vs,b,d,Rs.base xs n e⟩
 |.ag .f xs,_,_,n,y=>by let⟨z,a,vs,b,d,e⟩:=y;exact⟨z,a,vs,b,d,Rs.base xs n e⟩
 |.ag (.l k) xs,_,_,n,_=>by cases n
 |.ag .o xs,_,_,n,y=>by let⟨a,vs,g,b,d,e⟩:=y;exact⟨a,vs,g,b,d,Rs.base xs n e⟩
 |.aR .f xs,_,_,n,y=>by let⟨z,a,vs,b,d,e,j⟩:=y;exact⟨z,a,vs,b,d,Rk.base xs n e,j⟩
 |.aR (.l k) xs,_,_,n,_=>by cases n
 |.aR .o xs,_,_,n,y=>by let⟨a,vs,g,b,d,e,j⟩:=y;exact⟨a,vs,g,b,d,Rk.base xs n e,j⟩
 |.ins .f _ xs,_,_,n,y=>by let⟨z,a,i,vs,b,d,e⟩:=y;exact⟨z,a,i,vs,b,d,Rf.base xs n e⟩
 |.ins (.l k) _ xs,_,_,n,_=>by cases n
 |.ins .o _ xs,_,_,n,y=>by let⟨a,i,vs,g,b,d,e⟩:=y;exact⟨a,i,vs,g,b,d,Rf.base xs n e⟩
theorem Rs.base:∀(t:List Tr){v:List V}{cs:Cs},cN t=true->Rs K F B t v cs->Rs K F B' t v cs
 |[],_,_,_,h=>h
 |x::xs,_,_,n,y=>by
  let⟨v,r,c,d,a,b,e,f⟩:=y;rw[cN,and_eq_true] at n;exact⟨v,r,c,d,a,b,R.base x n.1 e,Rs.base xs n.2 f⟩
theorem Rk.base:∀(t:List (aS×Tr)){v:List (aS×V)}{cs:Cs},g9 t=true->Rk K F B t v cs->Rk K F B' t v cs
 |[],_,_,_,h=>h
 |(_,x)::xs,_,_,n,y=>by
  let⟨v,r,c,d,a,b,e,f⟩:=y;rw[g9,and_eq_true] at n;exact⟨v,r,c,d,a,b,R.base x n.1 e,Rk.base xs n.2 f⟩
theorem Rf.base:∀(t:List (Str×Tr)){v:List (Str×V)}{cs:Cs},dP t=true->Rf K F B t v cs->Rf K F B' t v cs
 |[],_,_,_,h=>h
 |(_,x)::xs,_,_,n,y=>by
  let⟨v,r,c,d,a,b,e,f⟩:=y;rw[dP,and_eq_true] at n;exact⟨v,r,c,d,a,b,R.base x n.1 e,Rf.base xs n.2 f⟩
end
mutual
theorem R.aA(b:Le F F'):∀(t:Tr){v:V}{cs:Cs},R K F B t v cs->(∀p∈cs,F' p.1=some p.2)->R K F' B (aA t) v []
 |.int _,_,_,y,_=>by let⟨h,_⟩:=y;exact⟨h,rfl⟩
 |.bl _,_,_,y,_=>by let⟨h,_⟩:=y;exact⟨h,rfl⟩
 |.str _,_,_,y,_=>by let⟨h,_⟩:=y;exact⟨h,rfl⟩
 |.aE,_,_,y,_=>by let⟨h,_⟩:=y;exact⟨h,rfl⟩
 |.aq,_,_,h,_=>h.elim
 |.ty _,_,_,y,_=>by let⟨h,_⟩:=y;exact⟨h,rfl⟩
 |.cl _,_,_,y,_=>by let⟨h,_⟩:=y;exact⟨h,rfl⟩
 |.exc _ _,_,_,y,_=>by let⟨_,a,o,h,s,d⟩:=y;exact⟨rfl,a,o,h,Le.exc b s,λr l=>d r (b.trans l)⟩
 |.aP xs,_,_,y,m=>by let⟨a,vs,e,d,g⟩:=y;exact⟨a,vs,e,b.aP d,Rs.aA b xs g m⟩
 |.ag .f xs,_,_,y,_=>by let⟨z,a,vs,e,d,g⟩:=y;exact⟨rfl,a,vs,e,b.ag d,Rs.mo b (λk=>Le.refl (B k)) xs g⟩
 |.ag (.l k) xs,_,_,y,_=>by let⟨z,a,vs,e,d,g⟩:=y;exact⟨rfl,a,vs,e,d,Rs.mo b (λk=>Le.refl (B k)) xs g⟩
 |.ag .o xs,_,_,y,m=>by let⟨a,vs,n,e,d,g⟩:=y;exact⟨rfl,a,vs,e,bG.of (m (a,.ag vs) (by rw[d];exact .head _)),Rs.aA b xs g λp q=>m p (by rw[d];exact .tail _ q)⟩
 |.aR .f xs,_,_,y,_=>by let⟨z,a,vs,e,d,g,j⟩:=y;exact⟨rfl,a,vs,e,b.aR d,Rk.mo b (λk=>Le.refl (B k)) xs g,j⟩
 |.aR (.l k) xs,_,_,y,_=>by let⟨z,a,vs,e,d,g,j⟩:=y;exact⟨rfl,a,vs,e,d,Rk.mo b (λk=>Le.refl (B k)) xs g,j⟩
 |.aR .o xs,_,_,y,m=>by let⟨a,vs,n,e,d,g,j⟩:=y;exact⟨rfl,a,vs,e,Rd.of (m (a,.dK vs) (by rw[d];exact .head _)),Rk.aA b xs g λp q=>m p (by rw[d];exact .tail _ q),by rw[Co];exact j⟩
 |.ins .f _ xs,_,_,y,_=>by let⟨z,a,i,vs,e,d,g⟩:=y;exact⟨rfl,a,i,vs,e,b _ _ (by intro _ _ z;cases z) d,Rf.mo b (λk=>Le.refl (B k)) xs g⟩
 |.ins (.l k) _ xs,_,_,y,_=>by let⟨z,a,i,vs,e,d,g⟩:=y;exact⟨rfl,a,i,vs,e,d,Rf.mo b (λk=>Le.refl (B k)) xs g⟩
 |.ins .o _ xs,_,_,y,m=>by let⟨a,i,vs,n,e,d,g⟩:=y;exact⟨rfl,a,i,vs,e,Rd.of (m (a,.ins _ i vs) (by rw[d];exact .head _)),Rf.aA b xs g λp q=>m p (by rw[d];exact .tail _ q)⟩
theorem Rs.aA(b:Le F F'):∀(t:List Tr){v:List V}{cs:Cs},Rs K F B t v cs->(∀p∈cs,F' p.1=some p.2)->Rs K F' B (bz t) v []
 |[],_,_,y,_=>by let⟨h,_⟩:=y;exact⟨h,rfl⟩
 |x::xs,_,_,y,m=>by let⟨v,r,c,d,e,a,f,g⟩:=y;exact⟨v,r,[],[],e,rfl,R.aA b x f λp q=>m p (by rw[a];exact mem_append.mpr (.inl q)),Rs.aA b xs g λp q=>m p (by rw[a];exact mem_append.mpr (.inr q))⟩
theorem Rk.aA(b:Le F F'):∀(t:List (aS×Tr)){v:List (aS×V)}{cs:Cs},Rk K F B t v cs->(∀p∈cs,F' p.1=some p.2)->Rk K F' B (dM t) v []
 |[],_,_,y,_=>by let⟨h,_⟩:=y;exact⟨h,rfl⟩
 |(_,x)::xs,_,_,y,m=>by let⟨v,r,c,d,e,a,f,g⟩:=y;exact⟨v,r,[],[],e,rfl,R.aA b x f λp q=>m p (by rw[a];exact mem_append.mpr (.inl q)),Rk.aA b xs g λp q=>m p (by rw[a];exact mem_append.mpr (.inr q))⟩
theorem Rf.aA(b:Le F F'):∀(t:List (Str×Tr)){v:List (Str×V)}{cs:Cs},Rf K F B t v cs->(∀p∈cs,F' p.1=some p.2)->Rf K F' B (fh t) v []
 |[],_,_,y,_=>by let⟨h,_⟩:=y;exact⟨h,rfl⟩
 |(_,x)::xs,_,_,y,m=>by let⟨v,r,c,d,e,a,f,g⟩:=y;exact⟨v,r,[],[],e,rfl,R.aA b x f λp q=>m p (by rw[a];exact mem_append.mpr (.inl q)),Rf.aA b xs g λp q=>m p (by rw[a];exact mem_append.mpr (.inr q))⟩
end
def Plain(cs:Cs):Prop:=∀p∈cs,∀x u,p.2≠HO.aA x u
theorem Plain.nil:Plain []:=λ_ h=>nomatch h
theorem Plain.cons{a:ae}{o:HO}{cs:Cs}(h:∀x u,o≠HO.aA x u)(t:Plain cs):Plain ((a,o)::cs):=λp m=>by
 cases m with
 |head=>exact h
 |tail _ m=>exact t p m
theorem Plain.app(h:Plain c)(t:Plain d):Plain (c++d):=λp m=>(mem_append.mp m).elim (h p) (t p)
mutual
theorem R.plain:∀(t:Tr){v:V}{cs:Cs},R K F B t v cs->Plain cs
 |.int _,_,_,y=>by let⟨_,h⟩:=y;rw[h];exact .nil
 |.bl _,_,_,y=>by let⟨_,h⟩:=y;rw[h];exact .nil
 |.str _,_,_,y=>by let⟨_,h⟩:=y;rw[h];exact .nil
 |.aE,_,_,y=>by let⟨_,h⟩:=y;rw[h];exact .nil
 |.aq,_,_,h=>h.elim
 |.ty _,_,_,y=>by let⟨_,h⟩:=y;rw[h];exact .nil
 |.cl _,_,_,y=>by let⟨_,h⟩:=y;rw[h];exact .nil
 |.exc _ _,_,_,y=>by let⟨h,_⟩:=y;rw[h];exact .nil
 |.aP xs,_,_,y=>by let⟨a,vs,e,d,b⟩:=y;exact Rs.plain xs b
 |.ag .f xs,_,_,y=>by let⟨z,_⟩:=y;rw[z];exact .nil
 |.ag (.l k) xs,_,_,y=>by let⟨z,_⟩:=y;rw[z];exact .nil
 |.ag .o xs,_,_,y=>by let⟨a,vs,g,e,d,b⟩:=y;rw[d];exact .cons (by intro _ _ z;cases z) (Rs.plain xs b)
 |.aR .f xs,_,_,y=>by let⟨z,_⟩:=y;rw[z];exact .nil
 |.aR (.l k) xs,_,_,y=>by let⟨z,_⟩:=y;rw[z];exact .nil
 |.aR .o xs,_,_,y=>by let⟨a,vs,g,e,d,b,_⟩:=y;rw[d];exact .cons (by intro _ _ z;cases z) (Rk.plain xs b)
 |.ins .f _ xs,_,_,y=>by let⟨z,_⟩:=y;rw[z];exact .nil
 |.ins (.l k) _ xs,_,_,y=>by let⟨z,_⟩:=y;rw[z];exact .nil
 |.ins .o _ xs,_,_,y=>by let⟨a,i,vs,g,e,d,b⟩:=y;rw[d];exact .cons (by intro _ _ z;cases z) (Rf.plain xs b)
theorem Rs.plain:∀(t:List Tr){v:List V}{cs:Cs},Rs K F B t v cs->Plain cs
 |[],_,_,y=>by let⟨_,h⟩:=y;rw[h];exact .nil
 |x::xs,_,_,y=>by let⟨v,r,c,d,f,a,b,e⟩:=y;rw[a];exact (R.plain x b).app (Rs.plain xs e)
theorem Rk.plain:∀(t:List (aS×Tr)){v:List (aS×V)}{cs:Cs},Rk K F B t v cs->Plain cs
 |[],_,_,y=>by let⟨_,h⟩:=y;rw[h];exact .nil
 |(_,x)::xs,_,_,y=>by let⟨v,r,c,d,f,a,b,e⟩:=y;rw[a];exact (R.plain x b).app (Rk.plain xs e)
theorem Rf.plain:∀(t:List (Str×Tr)){v:List (Str×V)}{cs:Cs},Rf K F B t v cs->Plain cs
 |[],_,_,y=>by let⟨_,h⟩:=y;rw[h];exact .nil
 |(_,x)::xs,_,_,y=>by let⟨v,r,c,d,f,a,b,e⟩:=y;rw[a];exact (R.plain x b).app (Rf.plain xs e)
end
structure ar(F H:Hp)(cs:Cs):Prop where
 h:∀p∈cs,H p.1=some p.2
 f:∀p∈cs,F p.1=none
 nd:(cs.map (·.1)).Nodup
theorem ar.nil:ar F H []:=⟨λ_ h=>(nomatch h),λ_ h=>(nomatch h),nodup_nil⟩
theorem ar.gr(c:ar F H cs)(g:Gr F H F' H'):ar F' H' cs:=⟨λp m=>g.h _ _ (c.h p m),λp m=>g.own (c.f p m) (c.h p m),c.nd⟩
def cS(H:Hp)(cs:Cs):Prop:=∀p∈cs,H p.1=none
theorem cS.nil:cS H []:=λ_ h=>nomatch h
theorem cS.back(s:aB H H')(n:cS H' cs):cS H cs:=λp m=>s.free (n p m)
theorem ar.app(h:ar F H c)(t:ar F H d)(n:∀p∈c,∀q∈d,p.1≠q.1):ar F H (c++d):=
 ⟨λp m=>(mem_append.mp m).elim (h.h p) (t.h p),λp m=>(mem_append.mp m).elim (h.f p) (t.f p),by
  rw[map_append,nodup_append];refine⟨h.nd,t.nd,λa e b g=>?_⟩;∎;let⟨p,i,rfl⟩:=mem_map.mp e;let⟨q,j,rfl⟩:=mem_map.mp g;∎;exact n p i q j⟩
theorem ar.left(h:ar F H (c++d)):ar F H c:=⟨λp m=>h.h p (mem_append.mpr (.inl m)),λp m=>h.f p (mem_append.mpr (.inl m)),by have:=h.nd;rw[map_append,nodup_append] at this;exact this.1⟩
theorem ar.right(h:ar F H (c++d)):ar F H d:=⟨λp m=>h.h p (mem_append.mpr (.inr m)),λp m=>h.f p (mem_append.mpr (.inr m)),by have:=h.nd;rw[map_append,nodup_append] at this;exact this.2.1⟩
structure Out(K:aj)(F:Hp)(B:Bool->Hp)(H F' H':Hp)(t:Tr)(v:V)(cs:Cs):Prop where
 g:Gr F H F' H'
 r:R K F' B t v cs
 c:ar F' H' cs
 n:cS H cs
structure dY(K:aj)(F:Hp)(B:Bool->Hp)(H F' H':Hp)(t:ai)(v:ax)(cs:Cs):Prop where
 g:Gr F H F' H'
 r:Rs K F' B t v cs
 c:ar F' H' cs
 n:cS H cs
def dE(K:aj)(F:Hp)(B:Bool->Hp)(j:St)(G:ai):Prop:=∀(i:Nat)(t:Tr),G[i]?=some t->t=.aq\/∃v,j[i]?=some (some v)/\R K F B t v []
theorem dE.mo(e:dE K F B j G)(l:Le F F')(b:∀k,Le (B k) (B' k)):dE K F' B' j G:=λi t h=>(e i t h).imp id λ⟨v,h1,h2⟩=>⟨v,h1,h2.mo l b t⟩
abbrev a8:=ai->(ay)->Prop
abbrev cq:=ai->(aU)->Prop
abbrev c7:=ai->(Bool->Prop)->Prop
structure Xv where
 c:Value
 f:bg
def Xv.ref(a:ae):Xv:=⟨.ref a,[]⟩
def XF(K:aj)(F:Hp)(d:bT)(f:bg):Prop:=f=[]\/∃a vs,d=some a/\Rd F a (XD a vs)/\dP f=true/\Rf K F (λ_=>F) f vs []
theorem XF.mo(h:XF K F d f)(l:Le F F'):XF K F' d f:=by
 rcases h with h |⟨a,vs,b,e,g,i⟩
 .exact .inl h
 .exact .inr ⟨a,vs,b,l _ _ (by intro _ _ z;cases z) e,g,Rf.mo l (λ_=>l) f i⟩
def Xp(K:aj)(f:bg):Hp->bT->Prop:=λF d=>XF K F d f
structure Md where
 z:Bool
 E:St->XK
 q:Xv->Prop
def Md.cp(k:Md):Md:=⟨k.z,k.E,λ_=>False⟩
def Md.walk(k:Md):Md:=⟨false,k.E,λ_=>False⟩
def Md.base(b:Bool):Md:=⟨b,λ_=>E0,λ_=>False⟩
structure fo(K:aj)(k:Md)(F:Hp)(B:Bool->Hp)(H:Hp)(j:St)(i:ai):Prop where
 s:aB F H
 b:∀k,aB (B k) H
 z:k.z=true->Fz S0 F
 e:dE K F B j i
 x:∀x F' H',k.q x->∀d,XF K F' d x.f->Gr F H F' H'->k.E j x.c d H'
theorem _root_.Vc.Gr.aJ(s:aB F H):Gr F H F H:=Gr.of (Gr0.refl s) (Fz.refl F)
theorem _root_.Vc.Gr.trans'(a:Gr F H F' H')(b:Gr F' H' F2 H2):Gr F H F2 H2:=Gr.of (a.toGr0.tr b) (b.fz a.z)
theorem fo.gr(c:fo K k F B H j i)(g:Gr F H a f):fo K k a B f j i:=⟨g.s,λk=>(c.b k).trans g.h,λh=>g.fz (c.z h),c.e.mo g.le (λk=>Le.refl (B k)),λx a f q d y l=>c.x x a f q d y (g.trans' l)⟩
def bu(K:aj)(k:Md)(f:TE)(pe:a8):Prop:=∀(F:Hp)(B:Bool->Hp)(H:Hp)(j:St)(i:ai)(Q:VK)(b:ay),fo K k F B H j i->pe i b->(∀t v d a e,b t->Out K F B H d a t v e->Q v a)->f j H Q
def fw(K:aj)(k:Md)(f:TA)(pe:cq):Prop:=∀(F:Hp)(B:Bool->Hp)(H:Hp)(j:St)(i:ai)(Q:ax->Hp->Prop)(b:aU),fo K k F B H j i->pe i b->(∀t v d a e,b t->dY K F B H d a t v e->Q v a)->f j H Q
def eQ(K:aj)(k:Md)(f:TT)(pe:c7):Prop:=∀(F:Hp)(B:Bool->Hp)(H:Hp)(j:St)(i:ai)(Q:Bool->Hp->Prop)(d:Bool->Prop),fo K k F B H j i->pe i d->(∀b e a,d b->Gr F H e a->Q b a)->f j H Q
theorem Out.same(s:aB F H)(r:R K F B t v []):Out K F B H F H t v []:=⟨Gr.aJ s,r,.nil,.nil⟩
def si(i:Nat):a8:=λj Q=>match j[i]? with |some .aq=>False |some t=>Q t |none=>False
theorem Pa(i:Nat):bu K k (fS i) (si i):=λF B H j G Q d c p q=>by
 unfold si at p;cases h:G[i]? with
 |none=>rw[h] at p;exact p.elim
 |some t=>
  rcases c.e i t h with rfl |⟨v,a,b⟩
  .rw[h] at p;exact p.elim
  .refine⟨v,a,q t v F H [] ?_ (Out.same c.s b)⟩;rw[h] at p;cases t with
   |aq=>exact p.elim
   |_=>exact p
def pC(t:Tr):a8:=λ_ Q=>Q t
theorem om(h:∀F B,R K F B t v []):bu K k (tC v) (pC t):=λF B H j i Q a c p q=>q t v F H [] p (Out.same c.s (h F B))
theorem Pb:bu K k (tC (.int n)) (pC (.int n)):=om λ_ _=>⟨rfl,rfl⟩
theorem Pc:bu K k (tC (.str n)) (pC (.str n)):=om λ_ _=>⟨rfl,rfl⟩
theorem SM:bu K k (tC (.bl n)) (pC (.bl n)):=om λ_ _=>⟨rfl,rfl⟩
theorem Pe:bu K k (tC .aE) (pC .aE):=om λ_ _=>⟨rfl,rfl⟩
def p2(d:Tr->Tr->(ay)->Prop)(a b:a8):a8:=λj Q=>a j λx=>b j λy=>d x y Q
def ed(K:aj)(k:Md)(r:R2)(i:Tr->Tr->(ay)->Prop):Prop:=∀(F:Hp)(B:Bool->Hp)(H:Hp)(x y:V)(h ty:Tr)(a b:Cs)(Q:VK)(g:ay),aB F H->(∀k,aB (B k) H)->(k.z=true->Fz S0 F)->R K F B h x a->R K F B ty y b->ar F H a->ar F H b->(∀p∈a,∀q∈b,p.1≠q.1)->i h ty g->
 (∀t v d e f,g t->Gr F H d e->R K d B t v f->ar d e f->(∀p∈f,H p.1=none\/p∈a\/p∈b)->Q v e)->r x y H Q
theorem tH(o:ed K k r pr)(M:bu K k ta pa)(N:bu K k tb pb):bu K k (m5 r ta tb) (p2 pr pa pb):=λF B H j i Q E c p q=>by
 refine M F B H j i _ _ c p λx v f A I p1 d=>?_
 refine N f B A j i _ _ (c.gr d.g) p1 λy u l C J p2 a=>?_
 refine o l B C v u x y I J Q E a.g.s (λk=>((c.b k).trans d.g.h).trans a.g.h) (λh=>a.g.fz (d.g.fz (c.z h))) (d.r.mo a.g.le (λk=>Le.refl (B k)) x) a.r (d.c.gr a.g) a.c (λp O q U e=>by have:=d.c.h p O;rw[e,a.n q U] at this;cases this) p2 λt v' w D L Y g r' G n=>?_
 refine q t v' w D L Y ⟨(d.g.trans' a.g).trans' g,r',G,λp m=>?_⟩;rcases n p m with z |z |z
 .exact (d.g.h.trans a.g.h).free z
 .exact d.n p z
 .exact d.g.h.free (a.n p z)
def p1(b:Tr->(ay)->Prop)(a:a8):a8:=λj Q=>a j λx=>b x Q
def yS(K:aj)(k:Md)(r:V->Hp->VK->Prop)(h:Tr->(ay)->Prop):Prop:=∀(F:Hp)(B:Bool->Hp)(H:Hp)(x:V)(g:Tr)(e:Cs)(Q:VK)(f:ay),aB F H->(∀k,aB (B k) H)->(k.z=true->Fz S0 F)->R K F B g x e->ar F H e->h g f->
 (∀t v a b d,f t->Gr F H a b->R K a B t v d->ar a b d->(∀p∈d,H p.1=none\/p∈e)->Q v b)->r x H Q
theorem SN(o:yS K k r pr)(C:bu K k ta pa):bu K k (Fj r ta) (p1 pr pa):=λF B H j i Q u c p q=>by
 refine C F B H j i _ _ c p λx v d f y p1 a=>?_
 refine o d B f v x y Q u a.g.s (λk=>(c.b k).trans a.g.h) (λh=>a.g.fz (c.z h)) a.r a.c p1 λt G e l A D g E w n=>?_
 refine q t G e l A D ⟨a.g.trans' g,E,w,λp m=>?_⟩;rcases n p m with z |z
 .exact a.g.h.free z
 .exact a.n p z
def sj:cq:=λ_ Q=>Q []
def va(pe:a8)(a:cq):cq:=λj Q=>pe j λx=>a j λb=>Q (x::b)
theorem Dn:fw K k kl sj:=λF B H j i Q a c p q=>q [] [] F H [] p ⟨Gr.aJ c.s,⟨rfl,rfl⟩,.nil,.nil⟩
theorem MX(h:bu K k te pe)(w:fw K k ta pa):fw K k (ke te ta) (va pe pa):=λF B H j i Q D c p q=>by
 refine h F B H j i _ _ c p λx v l s d p1 a=>?_
 refine w l B s j i _ _ (c.gr a.g) p1 λC vs o u f p2 b=>?_
 refine q (x::C) (v::vs) o u (d++f) p2 ⟨a.g.trans' b.g,⟨v,vs,d,f,rfl,rfl,a.r.mo b.g.le (λk=>Le.refl (B k)) x,b.r⟩,(a.c.gr b.g).app b.c λp y q A e=>?_,λp m=>?_⟩
 .have:=a.c.h p y;rw[e,b.n q A] at this;cases this
 .rcases mem_append.mp m with m |m
  .exact a.n p m
  .exact a.g.h.free (b.n p m)
theorem Rs.length:∀{t:ai}{v:ax}{cs:Cs},Rs K F B t v cs->v.length=t.length
 |[],_,_,y=>by let⟨h,_⟩:=y;rw[h];rfl
 |x::xs,_,_,y=>by let⟨v,r,c,d,a,e,f,b⟩:=y;rw[a,length_cons,length_cons,Rs.length b]
theorem Rs.at:∀{t:ai}{v:ax}{cs:Cs}{i:Nat}{x:Tr},Rs K F B t v cs->t[i]?=some x->∃u c,v[i]?=some u/\R K F B x u c/\∀p∈c,p∈cs
 |x::xs,_,_,0,y,y0,h=>by
  let⟨v,r,c,d,a,b,f,g⟩:=y0;cases h;exact⟨v,c,by rw[a];rfl,f,λp m=>by rw[b];exact mem_append.mpr (.inl m)⟩
 |x::xs,_,_,i + 1,y,y0,h=>by
  ∎;let⟨v,r,c,d,a,b,f,g⟩:=y0;let⟨u,e,j,l,n⟩:=Rs.at (i:=i) g h;∎;exact⟨u,e,by rw[a];exact j,l,λp m=>by rw[b];exact mem_append.mpr (.inr (n p m))⟩
theorem Rs.at':∀{t:ai}{v:ax}{cs:Cs}{i:Nat}{x:Tr},Rs K F B t v cs->ar F H cs->t[i]?=some x->∃u c,v[i]?=some u/\R K F B x u c/\ar F H c/\∀p∈c,p∈cs
 |x::xs,_,_,0,y,y0,hc,h=>by
  let⟨v,r,c,d,b,a,f,g⟩:=y0;cases h;rw[a] at hc;exact⟨v,c,by rw[b];rfl,f,hc.left,λp m=>by rw[a];exact mem_append.mpr (.inl m)⟩
 |x::xs,_,_,i + 1,y,y0,hc,h=>by
  let⟨v,r,c,d,b,a,f,g⟩:=y0;rw[a] at hc;let⟨u,e,j,l,n,o⟩:=Rs.at' (i:=i) g hc.right h;exact⟨u,e,by rw[b];exact j,l,n,λp m=>by rw[a];exact mem_append.mpr (.inr (o p m))⟩
theorem Rk.keys:∀{t:bE}{v:cy}{cs:Cs},Rk K F B t v cs->v.map (·.1)=t.map (·.1)
 |[],_,_,y=>by let⟨h,_⟩:=y;rw[h];rfl
 |(k,x)::xs,_,_,y=>by let⟨v,r,c,d,a,e,f,b⟩:=y;rw[a,map_cons,map_cons,Rk.keys b]
theorem Rk.length(h:Rk K F B t v cs):v.length=t.length:=by have:=congrArg List.length h.keys;simpa using this
def look(m:bE)(k:aS):Option Tr:=(m.find? λp=>decide (p.1=k)).map (·.2)
theorem Rk.look:∀{t:bE}{v:cy}{cs:Cs}(k:aS),Rk K F B t v cs->ar F H cs->(look t k=none/\adc v k=none)\/∃x u c,look t k=some x/\adc v k=some u/\R K F B x u c/\ar F H c/\∀p∈c,p∈cs
 |[],_,_,k,y,_=>by let⟨h,_⟩:=y;exact .inl ⟨rfl,by rw[h];rfl⟩
 |(k',x)::xs,_,_,k,y,hc=>by
  let⟨v,r,c,d,b,a,q,s⟩:=y;rw[a] at hc;by_cases e:k'=k
  .refine .inr ⟨x,v,c,?_,?_,q,hc.left,λp m=>by rw[a];exact mem_append.mpr (.inl m)⟩
   .unfold Pu.look;rw[List.find?_cons_of_pos (by simpa using e)];rfl
   .unfold adc;rw[b,List.find?_cons_of_pos (by simpa using e)];rfl
  .have e1:Pu.look ((k',x)::xs) k=Pu.look xs k:=by unfold Pu.look;rw[List.find?_cons_of_neg (by simpa using e)]
   have o:adc ((k',v)::r) k=adc r k:=by unfold adc;rw[List.find?_cons_of_neg (by simpa using e)]
   rw[b,e1,o];rcases Rk.look (t:=xs) (v:=r) (cs:=d) k s hc.right with z |⟨y,u,n,f,g,i,j,l⟩
   .exact .inl z
   .exact .inr ⟨y,u,n,f,g,i,j,λp m=>by rw[a];exact mem_append.mpr (.inr (l p m))⟩
theorem R.cM(s:aB F H)(b:∀k,aB (B k) H)(r:R K F B (.ag f xs) v cs)(c:ar F H cs):∃a vs e,v=.ref a/\bG K H a vs/\Rs K F B xs vs e/\ar F H e/\∀p∈e,p∈cs:=by
 cases f with
 |f=>let⟨z,a,vs,g,d,i⟩:=r;exact⟨a,vs,[],g,s.seq d,i,.nil,λ_ m=>nomatch m⟩
 |l k=>let⟨z,a,vs,g,d,i⟩:=r;exact⟨a,vs,[],g,(b k).seq d,i,.nil,λ_ m=>nomatch m⟩
 |o=>
  let⟨a,vs,e,g,d,i⟩:=r;rw[d] at c;exact⟨a,vs,e,g,bG.of (c.h _ (.head _)),i,ar.right (c:=[_]) c,λp m=>by rw[d];exact .tail _ m⟩
theorem R.dw(s:aB F H)(r:R K F B (.aP xs) v cs):∃a vs,v=.ref a/\c8 K H a vs/\Rs K F B xs vs cs:=by
 let⟨a,vs,b,d,e⟩:=r;exact⟨a,vs,b,s.aP d,e⟩
theorem R.iO(s:aB F H)(b:∀k,aB (B k) H)(r:R K F B (.aR f xs) v cs)(c:ar F H cs):∃a vs e,v=.ref a/\Rd H a (.dK vs)/\Rk K F B xs vs e/\ar F H e/\∀p∈e,p∈cs:=by
 cases f with
 |f=>let⟨z,a,vs,g,d,i,_⟩:=r;exact⟨a,vs,[],g,s.rd d,i,.nil,λ_ m=>nomatch m⟩
 |l k=>let⟨z,a,vs,g,d,i,_⟩:=r;exact⟨a,vs,[],g,(b k).rd d,i,.nil,λ_ m=>nomatch m⟩
 |o=>
  let⟨a,vs,e,g,d,i,_⟩:=r;rw[d] at c;exact⟨a,vs,e,g,Rd.of (c.h _ (.head _)),i,ar.right (c:=[_]) c,λp m=>by rw[d];exact .tail _ m⟩
theorem R.mL(s:aB F H)(b:∀k,aB (B k) H)(r:R K F B (.ins f C xs) v cs)(c:ar F H cs):∃a d vs g,v=.ref a/\Rd H a (.ins C d vs)/\Rf K F B xs vs g/\ar F H g/\∀p∈g,p∈cs:=by
 cases f with
 |f=>let⟨z,a,d,vs,i,e,j⟩:=r;exact⟨a,d,vs,[],i,s.rd e,j,.nil,λ_ m=>nomatch m⟩
 |l k=>let⟨z,a,d,vs,i,e,j⟩:=r;exact⟨a,d,vs,[],i,(b k).rd e,j,.nil,λ_ m=>nomatch m⟩
 |o=>
  let⟨a,d,vs,g,i,e,j⟩:=r;rw[e] at c;exact⟨a,d,vs,g,i,Rd.of (c.h _ (.head _)),j,ar.right (c:=[_]) c,λp m=>by rw[e];exact .tail _ m⟩
theorem sT(s:aB F H)(r:Rs K F B xs vs cs)(c:ar F H cs)(b:H p=none):∃a,Gr F H a (aN H p (.aP vs))/\R K a B (.aP xs) (.ref p) cs/\ar a (aN H p (.aP vs)) cs:=by
 let⟨a,g,e⟩:=nQ (o:=.aP vs) s (by intro _ _ z;cases z) b;exact⟨a,g,⟨p,vs,rfl,c8.of e,r.mo g.le (λk=>Le.refl (B k)) xs⟩,c.gr g⟩
theorem Gr.kI(s:aB F H)(b:H p=none):Gr F H F (aN H p o):=⟨⟨aB.aN b,aB.refl F,s.m6 (s.free b),λa u h e=>by rw[h] at e;cases e⟩,Fz.refl F⟩
theorem sU(s:aB F H)(c:ar F H cs)(a:H p=none):ar F (aN H p o) ((p,o)::cs):=
 ⟨λq m=>by
  cases m with
  |head=>exact cO
  |tail _ m=>show aN H p o q.1=_;rw[aW (iz (c.h q m) a)];exact c.h q m,
 λq m=>by
  cases m with
  |head=>exact s.free a
  |tail _ m=>exact c.f q m,
 by
  rw[map_cons,nodup_cons];refine⟨λm=>?_,c.nd⟩;let⟨q,b,e⟩:=mem_map.mp m;have e:q.1=p:=e;have:=c.h q b;rw[e,a] at this;cases this⟩
def vR(b:cq):a8:=λj Q=>b j λa=>a.length<=10000/\Q (.aP a)
def vS(b:cq):a8:=λj Q=>b j λa=>a.length<=10000/\Q (.ag .o a)
theorem ky(h:n<=1000000):n<=sizeLine:=le_trans h ∎
theorem Pf(h:fw K k ta pa):bu K k (A9 ta) (vR pa):=λF B H j i Q v c p q=>by
 refine h F B H j i _ _ c p λm vs o u e p1 b=>⟨by rw[b.r.length];exact ky (le_trans p1.1 ∎),λa l=>?_⟩
 let⟨d,g,r,f⟩:=sT b.g.s b.r b.c l;exact q (.aP m) (.ref a) d _ e p1.2 ⟨b.g.trans' g,r,f,b.n⟩
theorem Pg(h:fw K k ta pa):bu K k (Ba ta) (vS pa):=λF B H j i Q v c p q=>by
 refine h F B H j i _ _ c p λl vs f u e p1 b=>⟨by rw[b.r.length];exact ky (le_trans p1.1 ∎),λa d=>?_⟩
 refine q (.ag .o l) (.ref a) f _ ((a,.ag vs)::e) p1.2 ⟨b.g.trans' (Gr.kI b.g.s d),⟨a,vs,e,rfl,rfl,b.r⟩,sU b.g.s b.c d,λp m=>?_⟩;cases m with
 |head=>exact b.g.h.free d
 |tail _ m=>exact b.n p m
end
end Pu
namespace Pu
open PySem PySem.Spec PyProof.Rows L2 Vc Sf
section
def Bj:R2:=λx y H Q=>∃a v,x=.ref a/\kX H a y (some v)/\Q v H
theorem Ph(n:X.A.units+1<cLine):jg X Bj:=by
 intro value d aa s j H x y v u Q I o B h m;let⟨a,z,rfl,g,q⟩:=h;obtain rfl:v=Value.ref a:=o;have i:=Jr I g;unfold subscriptTail;refine wpAny_bind ?_;rw[getitemInPython_of_ne i.not_modules];refine wpAny_bind (wpAny_specialOf i PySem.F.slot_dict_getitem.lookup ?_);have b:wpAny (model X.prog X.w) X.A (subscripted d false (.ref a) u) (λr e=>wpAny (model X.prog X.w) X.A (letTemporaryGo value (.ref a) r >>= λ_=>pure r) (EP X aa j Q) X.xe e) X.xe s:=by
  rw[m];exact wpAny_operating (KO n I g B λD C l f=>wpAny_bind (wpAny_letTemporaryGo (wpAny_pure ⟨z,H,l,f,q⟩)))
 first
  |exact wpAny_pure (wpAny_bind b)
  |exact wpAny_bind (wpAny_pure (wpAny_bind b))
  |exact wpAny_bind b
def pN(neg:Bool):R2:=λy x H Q=>∃a o,x=.ref a/\kX H a y o/\Q (.bl (if neg then !o.isSome else o.isSome)) H
theorem SO(d:X.A.units+1<cLine):b9 X (compareOp .In) (pN false):=by
 intro aa s j H y x u v Q I f e h;let⟨a,o,rfl,g,q⟩:=h;obtain rfl:v=Value.ref a:=e;exact UO d I g f λi b=>⟨.bl o.isSome,H,b,rfl,q⟩
theorem LR(d:X.A.units+1<cLine):b9 X (compareOp .NotIn) (pN true):=by
 intro aa s j H y x u v Q I f e h;let⟨a,o,rfl,g,q⟩:=h;obtain rfl:v=Value.ref a:=e;exact PJ d I g f λi b=>⟨.bl (!o.isSome),H,b,rfl,q⟩
def AG(K:aj):R2:=λx y H Q=>hI (λi j=>.int (i+j)) x y H Q\/(λx y H Q=>(λx y H Q=>∃i j,x=.str i/\y=.str j/\i.length+j.length<=sizeLine/\Q (.str (i++j)) H) x y H Q\/AF K x y H Q) x y H Q
theorem TF:b9 X (binaryOp .Add) (AG X.K):=GJ.or (F9.or O8)
def AH:R2:=λx y H Q=>rI kf (λi j=>.int (i*j)) x y H Q\/AE x y H Q
theorem TH:b9 X (binaryOp .Mult) AH:=Gg.or Kw
def Bk(K:aj):R2:=λx y H Q=>E7 K x y H Q\/Bj x y H Q
theorem T8(a:X.A.units+1<cLine):jg X (Bk X.K):=GL.or (Ph a)
def Bl:R2:=λx y H Q=>hI (λi j=>.bl (decide (i<j))) x y H Q\/(λx y H Q=>∃i j,x=.str i/\y=.str j/\Q (.bl (decide (i.cps.toList<j.cps.toList))) H) x y H Q
theorem mJ:b9 X (compareOp .Lt) Bl:=G8.or KI
def Bm:R2:=λx y H Q=>hI (λi j=>.bl (decide (j<i))) x y H Q\/(λx y H Q=>∃i j,x=.str i/\y=.str j/\Q (.bl (decide (j.cps.toList<i.cps.toList))) H) x y H Q
theorem lB:b9 X (compareOp .Gt) Bm:=G9.or LP
end
section
variable{K:aj}{F F' H H':Hp}{B B':Bool->Hp}{k:Md}
def iD(C:Int->Int->Prop)(g:Int->Int->Tr)(x y:Tr)(Q:ay):Prop:=match x,y with
 |.int i,.int j=>C i j /\ Q (g i j)
 |_,_=>False
theorem EY{g:Int->Int->V}{t:Int->Int->Tr}(h:∀i j F B,R K F B (t i j) (g i j) []):ed K k (rI C g) (iD C t):=λF B H x y r ty f l Q e s b z a d n o hd p q=>by
 unfold iD at p;split at p
 .obtain⟨rfl,_⟩:=a;let⟨rfl,_⟩:=d;exact⟨_,_,rfl,rfl,p.1,q _ _ F H [] p.2 (Gr.aJ s) (h _ _ F B) .nil λ_ m=>nomatch m⟩
 .exact p.elim
theorem xj{g:Int->Int->V}{t:Int->Int->Tr}(h:∀i j F B,R K F B (t i j) (g i j) []):ed K k (hI g) (iD (λ_ _=>True) t):=λF B H x y r ty f l Q e s b z a d n o hd p q=>by
 unfold iD at p;split at p
 .obtain⟨rfl,_⟩:=a;let⟨rfl,_⟩:=d;exact⟨_,_,rfl,rfl,q _ _ F H [] p.2 (Gr.aJ s) (h _ _ F B) .nil λ_ m=>nomatch m⟩
 .exact p.elim
def pO(x y:Tr)(Q:ay):Prop:=match x,y with
 |.int i,.int j=>Q (.int (i + j))
 |.str i,.str j=>i.length + j.length <= 1000000 /\ Q (.str (i ++ j))
 |.ag _ xs,.ag _ ys=>xs.length + ys.length <= 1000000 /\ Q (.ag .o (xs ++ ys))
 |_,_=>False
theorem Rs.append:∀{xs ys:ai}{vs us:ax}{c d:Cs},Rs K F B xs vs c->Rs K F B ys us d->Rs K F B (xs++ys) (vs++us) (c++d)
 |[],_,_,_,_,_,y,h=>by let⟨a,b⟩:=y;rw[a,b];exact h
 |x::xs,_,_,_,_,_,y,h=>by let⟨v,r,c,d,a,b,e,f⟩:=y;rw[a,b];exact⟨v,r ++ _,c,d ++ _,rfl,by rw[append_assoc],e,Rs.append f h⟩
theorem mw(s:aB F H)(r:Rs K F B xs vs cs)(c:ar F H cs)(a:H p=none):Gr F H F (aN H p (.ag vs))/\R K F B (.ag .o xs) (.ref p) ((p,.ag vs)::cs)/\ar F (aN H p (.ag vs)) ((p,.ag vs)::cs):=
 ⟨Gr.kI s a,⟨p,vs,cs,rfl,rfl,r⟩,sU s c a⟩
theorem Pj:ed K k (AG K) pO:=λF B H x y J ty E G Q C s b z d e n o hd p q=>by
 unfold pO at p;split at p
 .obtain⟨rfl,_⟩:=d;let⟨rfl,_⟩:=e;exact .inl ⟨_,_,rfl,rfl,q _ _ F H [] p (Gr.aJ s) ⟨rfl,rfl⟩ .nil λ_ m=>nomatch m⟩
 .obtain⟨rfl,_⟩:=d;let⟨rfl,_⟩:=e;exact .inr (.inl ⟨_,_,rfl,rfl,ky p.1,q _ _ F H [] p.2 (Gr.aJ s) ⟨rfl,rfl⟩ .nil λ_ m=>nomatch m⟩)
 .obtain⟨a,vs,ds,rfl,h1,h2,h3,h4⟩:=d.cM s b n;let⟨D,us,I,rfl,i,f,j,g⟩:=e.cM s b o;refine .inr (.inr ⟨_,_,_,_,rfl,rfl,h1,i,ky (by rw[h2.length,f.length];exact p.1),λl h=>?_⟩);let⟨v,w,A⟩:=mw s (h2.append f) (h3.app j λp r q u=>hd p (h4 p r) q (g q u)) h;refine q _ _ F _ _ p.2 v w A λp m=>?_
  cases m with
  |head=>exact .inl h
  |tail _ m=>exact (mem_append.mp m).elim (λm=>.inr (.inl (h4 p m))) (λm=>.inr (.inr (g p m)))
 .exact p.elim
def sk(x y:Tr)(Q:ay):Prop:=match x,y with
 |.int i,.int j=>kf i j /\ Q (.int (i * j))
 |_,_=>False
theorem Pk:ed K k AH sk:=λF B H x y j ty f g Q e s b z a d h i hd p q=>by
 unfold sk at p;split at p
 .obtain⟨rfl,_⟩:=a;let⟨rfl,_⟩:=d;exact .inl ⟨_,_,rfl,rfl,p.1,q _ _ F H [] p.2 (Gr.aJ s) ⟨rfl,rfl⟩ .nil λ_ m=>nomatch m⟩
 .exact p.elim
def vT:Tr->Option aS
 |.int n=>some (.inl n)
 |.str x=>some (.inr x)
 |_=>none
theorem tI(r:R K F B t v cs)(h:vT t=some y):v=kV y:=by
 cases t with
 |int n=>cases h;exact r.1
 |str n=>cases h;exact r.1
 |_=>cases h
def ib(x y:Tr)(Q:ay):Prop:=match x,y with
 |.aP xs,.int i=>(match dc xs i with |some t=>Q t |none=>False)
 |.ag _ xs,.int i=>(match dc xs i with |some t=>Q t |none=>False)
 |.str x,.int i=>x.length <= 1000000 /\ (match dc x.cps.toList i with |some c=>Q (.str ⟨#[c]⟩) |none=>False)
 |.aR _ m,y=>(match vT y with |some y=>(match look m y with |some t=>Q t |none=>False) |none=>False)
 |_,_=>False
theorem Rs.dc(r:Rs K F B xs vs cs)(c:ar F H cs)(h:L2.dc xs i=some t):∃u d,L2.dc vs i=some u/\R K F B t u d/\ar F H d/\∀p∈d,p∈cs:=by
 unfold L2.dc at h ⊢;rw[r.length];cases e:iQ xs.length i with
 |none=>rw[e] at h;cases h
 |some j=>rw[e] at h;exact r.at' c h
theorem Pl:ed K k (Bk K) ib:=λF B H x y U ty M N Q L s b z h i w O hd p q=>by
 unfold ib at p;split at p
 .obtain⟨rfl,_⟩:=i;split at p
  .rename_i e;∎;let⟨a,vs,rfl,f,g⟩:=h.dw s;let⟨u,d,j,l,n,o⟩:=g.dc w e;∎;exact .inl (.inr (.inl ⟨_,_,_,_,rfl,rfl,f,j,q _ _ F H d p (Gr.aJ s) l n λp m=>.inr (.inl (o p m))⟩))
  .exact p.elim
 .obtain⟨rfl,_⟩:=i;split at p
  .rename_i e;∎;let⟨a,vs,I,rfl,f,g,r,v⟩:=h.cM s b w;let⟨u,d,j,l,n,o⟩:=g.dc r e;∎;exact .inl (.inl ⟨_,_,_,_,rfl,rfl,f,j,q _ _ F H d p (Gr.aJ s) l n λp m=>.inr (.inl (v p (o p m)))⟩)
  .exact p.elim
 .obtain⟨rfl,_⟩:=i;let⟨rfl,_⟩:=h;let⟨J,p⟩:=p;split at p
  .rename_i e;exact .inl (.inr (.inr ⟨_,_,_,rfl,rfl,ky J,e,q _ _ F H [] p (Gr.aJ s) ⟨rfl,rfl⟩ .nil λ_ m=>nomatch m⟩))
  .exact p.elim
 .split at p
  .rename_i e;split at p
   .rename_i e';let⟨a,vs,I,rfl,f,g,r,v⟩:=h.iO s b w;obtain rfl:=tI i e;rcases g.look _ r with⟨z,_⟩ |⟨x,u,c,A,C,D,E,G⟩
    .rw[z] at e';cases e'
    .rw[A] at e';cases e';exact .inr ⟨a,u,rfl,.inl ⟨vs,_,f,rfl,C.symm⟩,q _ _ F H c p (Gr.aJ s) D E λp m=>.inr (.inl (v p (G p m)))⟩
   .exact p.elim
  .exact p.elim
 .exact p.elim
def yM(x y:Tr)(Q:ay):Prop:=match x,y with
 |.int i,.int j=>Q (.bl (decide (i < j)))
 |.str i,.str j=>Q (.bl (decide (i.cps.toList < j.cps.toList)))
 |_,_=>False
theorem mi:ed K k Bl yM:=λF B H x y j ty f g Q e s b z a d h i hd p q=>by
 unfold yM at p;split at p
 .obtain⟨rfl,_⟩:=a;let⟨rfl,_⟩:=d;exact .inl ⟨_,_,rfl,rfl,q _ _ F H [] p (Gr.aJ s) ⟨rfl,rfl⟩ .nil λ_ m=>nomatch m⟩
 .obtain⟨rfl,_⟩:=a;let⟨rfl,_⟩:=d;exact .inr ⟨_,_,rfl,rfl,q _ _ F H [] p (Gr.aJ s) ⟨rfl,rfl⟩ .nil λ_ m=>nomatch m⟩
 .exact p.elim
def yK(x y:Tr)(Q:ay):Prop:=match x,y with
 |.int i,.int j=>Q (.bl (decide (j < i)))
 |.str i,.str j=>Q (.bl (decide (j.cps.toList < i.cps.toList)))
 |_,_=>False
theorem lj:ed K k Bm yK:=λF B H x y j ty f g Q e s b z a d h i hd p q=>by
 unfold yK at p;split at p
 .obtain⟨rfl,_⟩:=a;let⟨rfl,_⟩:=d;exact .inl ⟨_,_,rfl,rfl,q _ _ F H [] p (Gr.aJ s) ⟨rfl,rfl⟩ .nil λ_ m=>nomatch m⟩
 .obtain⟨rfl,_⟩:=a;let⟨rfl,_⟩:=d;exact .inr ⟨_,_,rfl,rfl,q _ _ F H [] p (Gr.aJ s) ⟨rfl,rfl⟩ .nil λ_ m=>nomatch m⟩
 .exact p.elim
theorem SQ:ed K k (hI λi j=>.bl (decide (i<=j))) (iD (λ_ _=>True) λi j=>.bl (decide (i<=j))):=xj λ_ _ _ _=>⟨rfl,rfl⟩
theorem xt:ed K k (hI λi j=>.bl (decide (j<=i))) (iD (λ_ _=>True) λi j=>.bl (decide (j<=i))):=xj λ_ _ _ _=>⟨rfl,rfl⟩
theorem Pm:ed K k (hI λi j=>.int (i - j)) (iD (λ_ _=>True) λi j=>.int (i - j)):=xj λ_ _ _ _=>⟨rfl,rfl⟩
theorem MY:ed K k (rI dD λi j=>.int (i.fdiv j)) (iD dD λi j=>.int (i.fdiv j)):=EY λ_ _ _ _=>⟨rfl,rfl⟩
theorem Pn:ed K k (rI (λ_ j=>0<j) λi j=>.int (i % j)) (iD (λ_ j=>0<j) λi j=>.int (i % j)):=EY λ_ _ _ _=>⟨rfl,rfl⟩
def sq(x:Tr)(Q:ay):Prop:=match x with
 |.int i=>Q (.int (-i))
 |_=>False
theorem Po:yS K k (L2.rU λi=>.int (-i)) sq:=λF B H x g e Q d s b z a f p q=>by
 unfold sq at p;split at p
 .obtain⟨rfl,_⟩:=a;exact⟨_,rfl,q _ _ F H [] p (Gr.aJ s) ⟨rfl,rfl⟩ .nil λ_ m=>nomatch m⟩
 .exact p.elim
def vb:Tr->Option V
 |.int n=>some (.int n) |.bl b=>some (.bl b) |.str x=>some (.str x) |.aE=>some .aE |_=>none
theorem tJ(r:R K F B t v cs)(h:vb t=some u):v=u:=by
 cases t with
 |int n=>cases h;exact r.1
 |bl n=>cases h;exact r.1
 |str n=>cases h;exact r.1
 |aE=>cases h;exact r.1
 |_=>cases h
def pP(neg:Bool)(x y:Tr)(Q:ay):Prop:=match vb x,vb y with
 |some u,some v=>vL u v=true /\ Q (.bl (if neg then !decide (u=v) else decide (u=v)))
 |_,_=>False
theorem Pp:ed K k yF (pP false):=λF B H x y j ty f g Q e s b z a d h i hd p q=>by
 unfold pP at p;split at p
 .rename_i e1 e2;obtain rfl:=tJ a e1;obtain rfl:=tJ d e2;exact⟨p.1,q _ _ F H [] p.2 (Gr.aJ s) ⟨rfl,rfl⟩ .nil λ_ m=>nomatch m⟩
 .exact p.elim
theorem Pq:ed K k qS (pP true):=λF B H x y j ty f g Q e s b z a d h i hd p q=>by
 unfold pP at p;split at p
 .rename_i e1 e2;obtain rfl:=tJ a e1;obtain rfl:=tJ d e2;exact⟨p.1,q _ _ F H [] p.2 (Gr.aJ s) ⟨rfl,rfl⟩ .nil λ_ m=>nomatch m⟩
 .exact p.elim
def iR(x:Tr)(Q:Bool->Prop):Prop:=match x with
 |.bl b=>Q b
 |_=>False
def pT(pe:a8):c7:=λj Q=>pe j λx=>iR x Q
theorem El(h:bu K k te pe):eQ K k (tB te) (pT pe):=λF B H j i Q e c p q=>by
 refine h F B H j i _ _ c p λt v b d f p1 a=>?_
 unfold iR at p1;split at p1
 .obtain⟨rfl,_⟩:=a.r;exact⟨_,rfl,q _ b d p1 a.g⟩
 .exact p1.elim
theorem LS(h:bu K k te pe):eQ K k (rS te) (pT pe):=El h
def vU(a b:c7):c7:=λj Q=>a j λc=>if c=true then b j Q else Q false
def yn(a b:c7):c7:=λj Q=>a j λc=>if c=true then Q true else b j Q
def vq(pa:c7):c7:=λj Q=>pa j λc=>Q (!c)
theorem Qv(l:eQ K k ta pa)(m:eQ K k tb pb):eQ K k (AK ta tb) (vU pa pb):=λF B H j i Q n c p q=>by
 refine l F B H j i _ _ c p λb d e p1 a=>?_
 cases b with
 |true=>rw[if_pos rfl];exact m d B e j i _ _ (c.gr a) p1 λb f g p2 h=>q b f g p2 (a.trans' h)
 |false=>exact q false d e p1 a
theorem SR(l:eQ K k ta pa)(m:eQ K k tb pb):eQ K k (Fg ta tb) (yn pa pb):=λF B H j i Q n c p q=>by
 refine l F B H j i _ _ c p λb d e p1 a=>?_
 cases b with
 |false=>exact m d B e j i _ _ (c.gr a) p1 λb f g p2 h=>q b f g p2 (a.trans' h)
 |true=>exact q true d e p1 a
theorem Qw(f:eQ K k ta pa):eQ K k (AL ta) (vq pa):=λF B H j i Q g c p q=>f F B H j i _ _ c p λb a d p1 e=>q (!b) a d p1 e
def vc(a b:a8):a8:=λj Q=>a j λx=>iR x λc=>if c=true then b j Q else Q (.bl false)
def vr(a b:a8):a8:=λj Q=>a j λx=>iR x λc=>if c=true then Q (.bl true) else b j Q
def vd(pa:a8):a8:=λj Q=>pa j λx=>iR x λc=>Q (.bl (!c))
theorem Out.bl(g:Gr F H F1 H1):Out K F B H F1 H1 (.bl b) (.bl b) []:=⟨g,⟨rfl,rfl⟩,.nil,.nil⟩
theorem Out.tr(g:Gr F H F1 H1)(o:Out K F1 B H1 F2 H2 t v cs):Out K F B H F2 H2 t v cs:=⟨g.trans' o.g,o.r,o.c,o.n.back g.h⟩
theorem MZ(m:bu K k ta pa)(n:bu K k tb pb):bu K k (z0 ta tb) (vc pa pb):=λF B H j i Q s c p q=>by
 refine m F B H j i _ _ c p λt v d e u p1 a=>?_
 unfold iR at p1;split at p1
 .rename_i b;let⟨rfl,_⟩:=a.r;refine⟨b,rfl,?_⟩;cases b with
  |true=>exact n d B e j i _ _ (c.gr a.g) p1 λt v f h l p2 o=>q t v f h l p2 (.tr a.g o)
  |false=>exact q _ _ d e [] p1 (.bl a.g)
 .exact p1.elim
theorem Qx(m:bu K k ta pa)(n:bu K k tb pb):bu K k (AW ta tb) (vr pa pb):=λF B H j i Q s c p q=>by
 refine m F B H j i _ _ c p λt v d e u p1 a=>?_
 unfold iR at p1;split at p1
 .rename_i b;let⟨rfl,_⟩:=a.r;refine⟨b,rfl,?_⟩;cases b with
  |false=>exact n d B e j i _ _ (c.gr a.g) p1 λt v f h l p2 o=>q t v f h l p2 (.tr a.g o)
  |true=>exact q _ _ d e [] p1 (.bl a.g)
 .exact p1.elim
theorem M0(e:bu K k ta pa):bu K k (Aq ta) (vd pa):=λF B H j i Q f c p q=>by
 refine e F B H j i _ _ c p λt v b d h p1 a=>?_
 unfold iR at p1;split at p1
 .obtain⟨rfl,_⟩:=a.r;exact⟨_,rfl,q _ _ b d [] p1 (.bl a.g)⟩
 .exact p1.elim
def yj(d:c7)(a b:a8):a8:=λj Q=>d j λc=>if c=true then a j Q else b j Q
theorem Qy(o:eQ K k tc pc)(m:bu K k ta pa)(n:bu K k tb pb):bu K k (Ff tc ta tb) (yj pc pa pb):=λF B H j i Q r c p q=>by
 refine o F B H j i _ _ c p λb h l p1 a=>?_
 cases b with
 |true=>rw[if_pos rfl] at p1 ⊢;exact m h B l j i _ _ (c.gr a) p1 λt v d e f p2 g=>q t v d e f p2 (.tr a g)
 |false=>rw[if_neg ∎] at p1 ⊢;exact n h B l j i _ _ (c.gr a) p1 λt v d e f p2 g=>q t v d e f p2 (.tr a g)
end
end Pu
namespace Pu
open PySem L2 Vc Sf
section
mutual
theorem R.low:∀(t:Tr){v:V}{cs:Cs},bR t=true->B false=B' false->R K F B t v cs->R K F B' t v cs
 |.int _,_,_,_,_,h=>h
 |.bl _,_,_,_,_,h=>h
 |.str _,_,_,_,_,h=>h
 |.aE,_,_,_,_,h=>h
 |.aq,_,_,_,_,h=>h
 |.ty _,_,_,_,_,h=>h
 |.cl _,_,_,_,_,h=>h
 |.exc _ _,_,_,_,_,h=>h
 |.aP xs,_,_,n,e,y=>by let⟨a,vs,b,d,g⟩:=y;exact⟨a,vs,b,d,Rs.low xs n e g⟩
 |.ag .f xs,_,_,n,e,y=>by let⟨z,a,vs,b,d,g⟩:=y;exact⟨z,a,vs,b,d,Rs.low xs n e g⟩
 |.ag (.l true) xs,_,_,n,_,_=>by cases n
 |.ag (.l false) xs,_,_,n,e,y=>by let⟨z,a,vs,b,d,g⟩:=y;exact⟨z,a,vs,b,by rw[<- e];exact d,Rs.low xs n e g⟩
 |.ag .o xs,_,_,n,e,y=>by let⟨a,vs,i,b,d,g⟩:=y;exact⟨a,vs,i,b,d,Rs.low xs n e g⟩
 |.aR .f xs,_,_,n,e,y=>by let⟨z,a,vs,b,d,g,m⟩:=y;exact⟨z,a,vs,b,d,Rk.low xs n e g,m⟩
 |.aR (.l true) xs,_,_,n,_,_=>by cases n
 |.aR (.l false) xs,_,_,n,e,y=>by let⟨z,a,vs,b,d,g,m⟩:=y;exact⟨z,a,vs,b,by rw[<- e];exact d,Rk.low xs n e g,m⟩
 |.aR .o xs,_,_,n,e,y=>by let⟨a,vs,i,b,d,g,m⟩:=y;exact⟨a,vs,i,b,d,Rk.low xs n e g,m⟩
 |.ins .f _ xs,_,_,n,e,y=>by let⟨z,a,j,vs,b,d,g⟩:=y;exact⟨z,a,j,vs,b,d,Rf.low xs n e g⟩
 |.ins (.l true) _ xs,_,_,n,_,_=>by cases n
 |.ins (.l false) _ xs,_,_,n,e,y=>by let⟨z,a,j,vs,b,d,g⟩:=y;exact⟨z,a,j,vs,b,by rw[<- e];exact d,Rf.low xs n e g⟩
 |.ins .o _ xs,_,_,n,e,y=>by let⟨a,j,vs,i,b,d,g⟩:=y;exact⟨a,j,vs,i,b,d,Rf.low xs n e g⟩
theorem Rs.low:∀(t:List Tr){v:List V}{cs:Cs},d9 t=true->B false=B' false->Rs K F B t v cs->Rs K F B' t v cs
 |[],_,_,_,_,h=>h
 |x::xs,_,_,n,e,y=>by
  let⟨v,r,c,d,a,b,f,g⟩:=y;rw[d9,and_eq_true] at n;exact⟨v,r,c,d,a,b,R.low x n.1 e f,Rs.low xs n.2 e g⟩
theorem Rk.low:∀(t:List (aS×Tr)){v:List (aS×V)}{cs:Cs},g8 t=true->B false=B' false->Rk K F B t v cs->Rk K F B' t v cs
 |[],_,_,_,_,h=>h
 |(_,x)::xs,_,_,n,e,y=>by
  let⟨v,r,c,d,a,b,f,g⟩:=y;rw[g8,and_eq_true] at n;exact⟨v,r,c,d,a,b,R.low x n.1 e f,Rk.low xs n.2 e g⟩
theorem Rf.low:∀(t:List (Str×Tr)){v:List (Str×V)}{cs:Cs},fj t=true->B false=B' false->Rf K F B t v cs->Rf K F B' t v cs
 |[],_,_,_,_,h=>h
 |(_,x)::xs,_,_,n,e,y=>by
  let⟨v,r,c,d,a,b,f,g⟩:=y;rw[fj,and_eq_true] at n;exact⟨v,r,c,d,a,b,R.low x n.1 e f,Rf.low xs n.2 e g⟩
end
mutual
/-- what is lent is lent to the callee -/
theorem R.dn(b:∀k,Le (B k) G):∀(t:Tr){v:V}{cs:Cs},R K F B t v cs->R K F (λ_=>G) (dn t) v cs
 |.int _,_,_,h=>h
 |.bl _,_,_,h=>h
 |.str _,_,_,h=>h
 |.aE,_,_,h=>h
 |.aq,_,_,h=>h
 |.ty _,_,_,h=>h
 |.cl _,_,_,h=>h
 |.exc _ _,_,_,h=>h
 |.aP xs,_,_,y=>by let⟨a,vs,d,e,g⟩:=y;exact⟨a,vs,d,e,Rs.dn b xs g⟩
 |.ag .f xs,_,_,y=>by let⟨z,a,vs,d,e,g⟩:=y;exact⟨z,a,vs,d,e,Rs.dn b xs g⟩
 |.ag (.l k) xs,_,_,y=>by let⟨z,a,vs,d,e,g⟩:=y;exact⟨z,a,vs,d,(b k).ag e,Rs.dn b xs g⟩
 |.ag .o xs,_,_,y=>by let⟨a,vs,i,d,e,g⟩:=y;exact⟨a,vs,i,d,e,Rs.dn b xs g⟩
 |.aR .f xs,_,_,y=>by let⟨z,a,vs,d,e,g,m⟩:=y;exact⟨z,a,vs,d,e,Rk.dn b xs g,by rw[dJ];exact m⟩
 |.aR (.l k) xs,_,_,y=>by let⟨z,a,vs,d,e,g,m⟩:=y;exact⟨z,a,vs,d,(b k).aR e,Rk.dn b xs g,by rw[dJ];exact m⟩
 |.aR .o xs,_,_,y=>by let⟨a,vs,i,d,e,g,m⟩:=y;exact⟨a,vs,i,d,e,Rk.dn b xs g,by rw[dJ];exact m⟩
 |.ins .f _ xs,_,_,y=>by let⟨z,a,j,vs,d,e,g⟩:=y;exact⟨z,a,j,vs,d,e,Rf.dn b xs g⟩
 |.ins (.l k) _ xs,_,_,y=>by let⟨z,a,j,vs,d,e,g⟩:=y;exact⟨z,a,j,vs,d,b k _ _ (by intro _ _ z;cases z) e,Rf.dn b xs g⟩
 |.ins .o _ xs,_,_,y=>by let⟨a,j,vs,i,d,e,g⟩:=y;exact⟨a,j,vs,i,d,e,Rf.dn b xs g⟩
theorem Rs.dn(b:∀k,Le (B k) G):∀(t:List Tr){v:List V}{cs:Cs},Rs K F B t v cs->Rs K F (λ_=>G) (ck t) v cs
 |[],_,_,h=>h
 |x::xs,_,_,y=>by let⟨v,r,c,d,a,e,f,g⟩:=y;exact⟨v,r,c,d,a,e,R.dn b x f,Rs.dn b xs g⟩
theorem Rk.dn(b:∀k,Le (B k) G):∀(t:List (aS×Tr)){v:List (aS×V)}{cs:Cs},Rk K F B t v cs->Rk K F (λ_=>G) (gW t) v cs
 |[],_,_,h=>h
 |(_,x)::xs,_,_,y=>by let⟨v,r,c,d,a,e,f,g⟩:=y;exact⟨v,r,c,d,a,e,R.dn b x f,Rk.dn b xs g⟩
theorem Rf.dn(b:∀k,Le (B k) G):∀(t:List (Str×Tr)){v:List (Str×V)}{cs:Cs},Rf K F B t v cs->Rf K F (λ_=>G) (ij t) v cs
 |[],_,_,h=>h
 |(_,x)::xs,_,_,y=>by let⟨v,r,c,d,a,e,f,g⟩:=y;exact⟨v,r,c,d,a,e,R.dn b x f,Rf.dn b xs g⟩
theorem dJ:∀(xs:List (aS×Tr)),(gW xs).map (·.1)=xs.map (·.1)
 |[]=>rfl
 |(_,_)::xs=>by show _::_=_::_;rw[dJ xs]
end
theorem kO:∀(xs:ai),(ck xs).length=xs.length
 |[]=>rfl
 |_::xs=>by show (ck xs).length + 1=_;rw[kO xs];rfl
end
structure bh(K:aj)(k:Md)(lo:Nat)(us:ax)(Fb Hb F H:Hp)(G:St)(J:ai)(cs:Nat->Cs):Prop where
 g:Gr Fb Hb F H
 z:k.z=true->Fz S0 F
 l:G.length=J.length
 e:∀(i:Nat)(t:Tr),J[i]?=some t->t=.aq\/∃v,G[i]?=some (some v)/\R K F (λ_=>Hb) t v (cs i)
 c:∀i,ar F H (cs i)
 n:∀i,cS Hb (cs i)
 d:∀i j,i≠j->∀p∈cs i,∀q∈cs j,p.1≠q.1
 p:∀i,i<lo->G[i]?=(us[i]?).map some
 x:∀x G' F' H',k.q x->∀d,XF K F' d x.f->Gr Fb Hb F' H'->k.E G' x.c d H'
section
def Bq(Hb H:Hp):Bool->Hp:=λb=>if b then H else Hb
theorem bh.eD(W:bh K k lo us Fb Hb F H j G cs):fo K k F (Bq Hb H) H j (G.map aG) where
 s:=W.g.s
 b:=λb=>by
  cases b with
  |true=>exact aB.refl H
  |false=>exact W.g.h
 z:=W.z
 e:=λi t h=>by
  rw[getElem?_map] at h;cases q:G[i]? with
  |none=>rw[q] at h;cases h
  |some u=>
   rw[q] at h;cases h;rcases W.e i u q with rfl |⟨v,l,n⟩
   .exact .inl rfl
   .refine .inr ⟨v,l,n.aG (λb=>?_) u λp m=>(W.c i).h p m⟩;cases b with
    |true=>exact Le.of W.g.h
    |false=>exact Le.refl _
 x:=λx a f q d y g=>W.x x j a f q d y (W.g.trans' g)
theorem bh.gr(W:bh K k lo us Fb Hb F H j G cs)(g:Gr F H F' H'):bh K k lo us Fb Hb F' H' j G cs:=
 ⟨W.g.trans' g,λh=>g.fz (W.z h),W.l,λi t h=>(W.e i t h).imp id λ⟨v,h1,h2⟩=>⟨v,h1,h2.mo g.le (λ_=>Le.refl _) t⟩,λi=>(W.c i).gr g,W.n,W.d,W.p,W.x⟩
theorem bh.set{i:Nat}{t:Tr}{v:V}{c:Cs}(W:bh K k lo us Fb Hb F H G J cs)(y:lo<=i)(r:R K F (λ_=>Hb) t v c)(w:ar F H c)(n:cS Hb c)(d:∀j,j≠i->∀p∈cs j,∀q∈c,p.1≠q.1):
  bh K k lo us Fb Hb F H (G.set i (some v)) (J.set i t) (λj=>if j=i then c else cs j) where
 g:=W.g
 z:=W.z
 l:=by rw[length_set,length_set];exact W.l
 e:=λj u h=>by
  by_cases e:j=i
  .subst e;have s:j<J.length:=by have:=(List.getElem?_eq_some_iff.mp h).1;rw[length_set] at this;exact this
   rw[getElem?_set_self s] at h;cases h;exact .inr ⟨v,getElem?_set_self (by rw[W.l];exact s),by rw[if_pos rfl];exact r⟩
  .rw[getElem?_set_ne (λz=>e z.symm)] at h;rw[if_neg e];exact (W.e j u h).imp id λ⟨v,h1,h2⟩=>⟨v,by rw[getElem?_set_ne (λz=>e z.symm)];exact h1,h2⟩
 c:=λj=>by
  split
  .exact w
  .exact W.c j
 n:=λj=>by
  split
  .exact n
  .exact W.n j
 d:=λa b ne p o q f=>by
  by_cases m:a=i
  .rw[if_pos m] at o;rw[if_neg (λz=>ne (m.trans z.symm))] at f;exact (d b (λz=>ne (m.trans z.symm)) q f p o).symm
  .rw[if_neg m] at o;by_cases eb:b=i
   .rw[if_pos eb] at f;exact d a m p o q f
   .rw[if_neg eb] at f;exact W.d a b ne p o q f
 p:=λj h=>by rw[getElem?_set_ne ⋯];exact W.p j h
 x:=W.x
theorem bh.out{i:Nat}{t:Tr}{v:V}{c:Cs}(W:bh K k lo us Fb Hb F H G J cs)(o:Out K F (Bq Hb H) H F' H' t v c)(a:lo<=i)(n:bR t=true):
  bh K k lo us Fb Hb F' H' (G.set i (some v)) (J.set i t) (λj=>if j=i then c else cs j):=
 (W.gr o.g).set a (o.r.low t n rfl) o.c (λp m=>W.g.h.free (o.n p m)) λj _ p b q d e=>by
  have:=(W.c j).h p b;rw[e,o.n q d] at this;cases this
end
structure Pd where
 nx:aU
 rt:Tr->aU
 bk:aU:=λ_=>False
 ct:aU:=λ_=>False
abbrev cw:=Pd->aU
structure Lk(K:aj)(k:Md)(lo:Nat)(us:ax)(Fb Hb:Hp)(D:Ends)(D':Pd):Prop where
 nx:∀F H j G cs,bh K k lo us Fb Hb F H j G cs->D'.nx G->D.nx j H
 rt:∀F H j G cs v t c,bh K k lo us Fb Hb F H j G cs->R K F (λ_=>Hb) t v c->ar F H c->cS Hb c->(∀i,∀p∈cs i,∀q∈c,p.1≠q.1)->cD t=true->D'.rt t G->D.rt v H
 bk:∀F H j G cs,bh K k lo us Fb Hb F H j G cs->D'.bk G->D.bk j H
 ct:∀F H j G cs,bh K k lo us Fb Hb F H j G cs->D'.ct G->D.ct j H
def cU(K:aj)(k:Md)(lo:Nat)(ts:TS)(ps:cw):Prop:=∀(us:ax)(b d F H:Hp)(j:St)(i:ai)(e:Nat->Cs)(D:Ends)(a:Pd),bh K k lo us b d F H j i e->ps a i->Lk K k lo us b d D a->ts D j H
section
def sr(p q:cw):cw:=λD j=>p { D with nx:=q D } j
def ve:cw:=λD j=>D.nx j
theorem Qz(h:cU K k lo t p)(h':cU K k lo u q):cU K k lo (r9 t u) (sr p q):=λus b d F H j i a D e W p L=>
 h us b d F H j i a _ _ W p ⟨λF H j i a W q=>h' us b d F H j i a D e W q L,L.rt,L.bk,L.ct⟩
theorem M1:cU K k lo Ar ve:=λus d e F H j i a D b W p L=>L.nx F H j i a W p
def vt(i:Nat)(pe:a8):cw:=λD j=>pe (j.map aG) λt=>bR t=true/\D.nx (j.set i t)
theorem QC(e:lo<=i)(h:bu K k te pe):cU K k lo (kh te (iY i)) (vt i pe):=λus g d F H j G l D f W p L=>by
 refine h F (Bq d H) H j _ _ _ W.eD p λt v a b c q o=>?_
 exact L.nx a b _ _ _ (W.out o e q.1) q.2
def vf(pe:a8):cw:=λD j=>pe (j.map aG) λ_=>D.nx j
theorem M3(h:bu K k te pe):cU K k lo (pH te) (vf pe):=λus f d F H j i l D e W p L=>
 h F (Bq d H) H j _ _ _ W.eD p λt v a b c q o=>L.nx a b _ _ _ (W.gr o.g) q
def vu(pe:a8):cw:=λD j=>pe (j.map aG) λt=>cD t=true/\D.rt t j
theorem QD(h:bu K k te pe):cU K k lo (vI te) (vu pe):=λus w d F H j G f D u W p L=>by
 refine h F (Bq d H) H j _ _ _ W.eD p λt v a b c q o=>?_
 refine L.rt a b j G f v t c (W.gr o.g) (o.r.base t q.1) o.c (λp m=>W.g.h.free (o.n p m)) (λi p l q s e=>?_) q.1 q.2;have:=(W.c i).h p l;rw[e,o.n q s] at this;cases this
def vv(a:c7)(p q:cw):cw:=λD j=>a (j.map aG) λb=>if b=true then p D j else q D j
theorem SS(n:eQ K k tc pc)(h:cU K k lo t p)(h':cU K k lo u q):cU K k lo (AX tc t u) (vv pc p q):=λus f a F H j i m D d W p L=>by
 refine n F (Bq a H) H j _ _ _ W.eD p λb e l q g=>?_
 cases b with
 |true=>exact h us f a e l j i m D d (W.gr g) q L
 |false=>exact h' us f a e l j i m D d (W.gr g) q L
def Bn(f:c7)(e:cw):cw:=λD j=>∃I:Nat->aU,(∃m,I m j)/\∀m j,I m j->f (j.map aG) λb=>if b=true then e { D with nx:=λd=>∃a,a<m/\I a d,ct:=λd=>∃a,a<m/\I a d,bk:=D.nx } j else D.nx j
theorem QF(v:eQ K k tc pc)(u:cU K k lo tb pb):cU K k lo (z3 tc tb) (Bn pc pb):=λus f e F H j G a D y W p L=>by
 let⟨I,⟨x,w⟩,step⟩:=p;refine⟨λm j H=>∃F G a,bh K k lo us f e F H j G a/\I m G,⟨x,F,G,a,W,w⟩,?_⟩;rintro m j H ⟨F,G,a,W,i⟩;refine v F (Bq e H) H j _ _ _ W.eD (step m G i) λb n r q g=>?_
 cases b with
 |false=>exact L.nx n r j G a (W.gr g) q
 |true=>
  refine⟨λs o=>∃d,d<m/\∃F G a,bh K k lo us f e F o s G a/\I d G,λs o h=>h,?_⟩;refine u us f e n r j G a _ _ (W.gr g) q ⟨?_,L.rt,?_,?_⟩
  .exact λF H j G a W ⟨d,l,i⟩=>⟨d,l,F,G,a,W,i⟩
  .exact L.nx
  .exact λF H j G a W ⟨d,l,i⟩=>⟨d,l,F,G,a,W,i⟩
end
abbrev bK:=ai->(Tr->aU)->Prop
abbrev fF:=ai->(Tr->aU)->(Xv->Prop)->Prop
def iq(K:aj)(z:Bool)(lo n:Nat)(ps:fF):Sp:=λvs H Q E=>vs.length=n/\∃(F b:Hp)(h:ai)(j:Nat->Cs)(f:Tr->aU)(q:Xv->Prop),bh K ⟨z,λ_=>E,q⟩ lo vs F b F H (vs.map some) h j/\ps h f q/\
 ∀d e l g a v t c,bh K ⟨z,λ_=>E,q⟩ lo vs F b d e l g a->R K d (λ_=>b) t v c->ar d e c->cS b c->(∀i,∀p∈a i,∀q∈c,p.1≠q.1)->cD t=true->f t g->Q v e
def bP(K:aj)(z:Bool)(lo n:Nat)(ps:bK):Sp:=iq K z lo n λa Q _=>ps a Q
theorem bh.md(W:bh K k lo us Fb Hb F H j i cs)(m:k'.z=true->k.z=true)(x:∀x o a b,k'.q x->∀d,XF K a d x.f->Gr Fb Hb a b->k'.E o x.c d b):bh K k' lo us Fb Hb F H j i cs:=⟨W.g,λh=>W.z (m h),W.l,W.e,W.c,W.n,W.d,W.p,x⟩
section
theorem bh.start(N:ah)(b:lo<=vs.length)(W:bh K k lo us Fb Hb F H (vs.map some) j cs):bh K k lo us Fb Hb F H (start N vs) (j++List.replicate (N.length - j.length) .aq) cs where
 g:=W.g
 z:=W.z
 l:=by
  have:=W.l;rw[length_map] at this;show (vs.map some++List.replicate (N.length - vs.length) none).length=_;rw[length_append,length_append,length_replicate,length_replicate,length_map,this]
 e:=λi t h=>by
  have a:=W.l;rcases Nat.lt_or_ge i j.length with z |z
  .rw[getElem?_append_left z] at h;exact (W.e i t h).imp id λ⟨v,h1,h2⟩=>⟨v,by show (vs.map some++List.replicate (N.length - vs.length) none)[i]?=_;rw[getElem?_append_left (by rw[a];exact z)];exact h1,h2⟩
  .rw[getElem?_append_right z] at h;have m:=mem_of_getElem? h;exact .inl (List.mem_replicate.mp m).2
 c:=W.c
 n:=W.n
 d:=W.d
 p:=λi h=>by
  have e:=W.p i h;show (vs.map some++List.replicate (N.length - vs.length) none)[i]?=_;rw[getElem?_append_left (by rw[length_map];omega)];exact e
 x:=W.x
end
theorem Rs.split:∀{ts:ai}{vs:ax}{c:Cs},Rs K F B ts vs c->ar F H c->∃cs:Nat->Cs,(∀(i:Nat)(t:Tr),ts[i]?=some t->∃v,vs[i]?=some v/\R K F B t v (cs i))/\(∀i,∀p∈cs i,p∈c)/\(∀i,ar F H (cs i))/\∀i j,i≠j->∀p∈cs i,∀q∈cs j,p.1≠q.1
 |[],_,_,_,_=>⟨λ_=>[],λi t h=>(by cases h),λ_ _ m=>(nomatch m),λ_=>.nil,λ_ _ _ _ m=>nomatch m⟩
 |x::xs,_,_,y,hc=>by
  let⟨v,r,c,d,g,l,C,D⟩:=y;rw[l] at hc;let⟨cs,n,e,o,s⟩:=Rs.split D hc.right;have f:∀p∈c,∀q∈d,p.1≠q.1:=λp a q b=>by
   have:=hc.nd;rw[map_append,nodup_append] at this;exact this.2.2 _ (mem_map.mpr ⟨p,a,rfl⟩) _ (mem_map.mpr ⟨q,b,rfl⟩)
  refine⟨λi=>match i with |0=>c |j+1=>cs j,λi t h=>?_,λi p m=>?_,λi=>?_,λi j ne p a q b=>?_⟩
  .cases i with
   |zero=>cases h;exact⟨v,by rw[g];rfl,C⟩
   |succ j=>let⟨u,w,A⟩:=n j t h;exact⟨u,by rw[g];exact w,A⟩
  .rw[l];cases i with
   |zero=>exact mem_append.mpr (.inl m)
   |succ j=>exact mem_append.mpr (.inr (e j p m))
  .cases i with
   |zero=>exact hc.left
   |succ j=>exact o j
  .cases i with
   |zero=>
    cases j with
    |zero=>exact absurd rfl ne
    |succ j=>exact f p a q (e j q b)
   |succ i=>
    cases j with
    |zero=>exact (f q b p (e i p a)).symm
    |succ j=>exact s i j (λz=>ne (by rw[z])) p a q b
section
theorem QJ{aY:bK}(F:gv K x qual st f fd)(S:bW N ps (bD st))(hn:ps.length=n)(J:lo<=n)(e:∀(a7:ao)(A:Around)(outer:b5)(s:ak)(H:Hp)(E:XK),bp m (A.deeper (PyProof.Rows.envOfC qual (bD st) ⇑s f a7))->
   ∃ts y,eL (i1 bJ P w K mg base N qual (bD st) f a7 A outer s H E).oC (iX st) ts/\cU K (Md.base z) lo ts y/\∀xs b,xs.length=n->aY xs b->y { nx:=λi=>b .aE i,rt:=b } (xs++List.replicate (N.length - n) .aq)):
  aK P w K mg base bJ (m+1) f fd ps (bP K z lo n aY):=by
 refine F.ok S (λvs H Q E h=>h.1.trans hn.symm) (λa7 A outer s H vs Q E M h=>?_);∎;let⟨Y,B,C,ts,g,b,q,W,p,a⟩:=h;let⟨U,y,D,G,L⟩:=e a7 A outer s H E M;∎;have o:ts.length=n:=by have:=W.l;rw[length_map] at this;omega
 refine⟨U,D,G vs B C B H _ _ g _ { nx:=λi=>b .aE i,rt:=b } ((W.start N ⋯).md id λ_ _ _ _ h=>h.elim) (by rw[o];exact L ts b o p) ⟨?_,?_,λ_ _ _ _ _ _ (h:False)=>h.elim,λ_ _ _ _ _ _ (h:False)=>h.elim⟩⟩
 .exact λF H j i g u q=>a F H j i g .aE .aE [] (u.md id W.x) ⟨rfl,rfl⟩ .nil .nil (λ_ _ _ _ m=>nomatch m) rfl q
 .exact λF H j i g v t c u r I n d O q=>a F H j i g v t c (u.md id W.x) r I n d O q
theorem M4{aY:fF}(F:gv K x qual st f fd)(S:bW N ps (bD st))(hn:ps.length=n)(J:lo<=n)(e:∀(a7:ao)(A:Around)(outer:b5)(s:ak)(H:Hp)(E:XK)(q:Xv->Prop),bp m (A.deeper (PyProof.Rows.envOfC qual (bD st) ⇑s f a7))->
   ∃ts y,eL (i1 (eK P w) P w K mg base N qual (bD st) f a7 A outer s H E) (iX st) ts/\cU K ⟨z,λ_=>E,q⟩ lo ts y/\∀xs b,xs.length=n->aY xs b q->y { nx:=λi=>b .aE i,rt:=b } (xs++List.replicate (N.length - n) .aq)):
  aK P w K mg base (eK P w) (m+1) f fd ps (iq K z lo n aY):=by
 refine F.yf S (λvs H Q E h=>h.1.trans hn.symm) (λa7 A outer s H vs Q E M h=>?_);∎;let⟨Y,B,C,ts,g,b,q,W,p,a⟩:=h;let⟨U,y,D,G,L⟩:=e a7 A outer s H E q M;∎;have o:ts.length=n:=by have:=W.l;rw[length_map] at this;omega
 refine⟨U,D,G vs B C B H _ _ g _ { nx:=λi=>b .aE i,rt:=b } (W.start N ⋯) (by rw[o];exact L ts b o p) ⟨?_,?_,λ_ _ _ _ _ _ (h:False)=>h.elim,λ_ _ _ _ _ _ (h:False)=>h.elim⟩⟩
 .exact λF H j i g u q=>a F H j i g .aE .aE [] u ⟨rfl,rfl⟩ .nil .nil (λ_ _ _ _ m=>nomatch m) rfl q
 .exact λF H j i g v t c u r I n d O q=>a F H j i g v t c u r I n d O q
end
section
theorem v5{c:Cs}{p:ae×HO}(m:p∈c):cL (c.map (·.1)) H p.1=none:=SK (mem_map.mpr ⟨p,m,rfl⟩)
theorem sV(n:cS H c)(h:H a=some o):a ∉ c.map (·.1):=λm=>by
 let⟨p,b,rfl⟩:=mem_map.mp m;rw[n p b] at h;cases h
theorem _root_.Vc.Gr.cL(g:Gr F H F1 H1)(n:cS H c)(g':Gr F1 (cL (c.map (·.1)) H1) F' H'):Gr F H F' H':=
 Gr.of ⟨λa u e=>g'.h a u (n0 (sV n e) (g.h a u e)),g.f.trans g'.f,g'.s,λa u e z=>by
  cases q:F1 a with
  |some y=>exact g.n a y q z
  |none=>
   have h:=g'.n a u e q;by_cases m:a∈c.map (·.1)
   .obtain⟨p,mp,rfl⟩:=mem_map.mp m;exact n p mp
   .unfold Vc.cL at h;rw[if_neg m] at h;exact g.h.free h⟩ (g'.fz g.z)
def rV(q:Xv->Prop)(aY:fF)(a:cq):a8:=λj Q=>a j λb=>aY (ck b) (λt _=>Q t) q
def vg(aY:bK)(a:cq):a8:=λj Q=>a j λb=>aY (ck b) λt _=>Q t
theorem Cp{n:Nat}{z:Bool}{aY:fF}{N:TA}{M:cq}{R':St->XK}{q':Xv->Prop}(hE:∀(F:Hp)(B:Bool->Hp)(H:Hp)(G:St)(J:ai),fo K k F B H G J->∀x A C,q' x->∀d,XF K A d x.f->Gr F H A C->R' G x.c d C)(hk:z=true->k.z=true)(hn:∀xs Q q,aY xs Q q->xs.length=n)(h:fw K k N M):bu K k (z9 (iq K z 0 n aY) [] R' N) (rV q' aY M):=λF B H G J Q Q' c p q=>by
 refine h F B H G J _ _ c p λw vs E I D p1 l=>?_
 rw[append_nil];let⟨cs,O,U,Y,a4⟩:=l.r.split l.c;have hl:vs.length=n:=by rw[l.r.length,<- hn _ _ _ p1,kO]
 have hb:∀k,aB (B k) (cL (D.map (·.1)) I):=λk a o e=>n0 (sV l.n (c.b k a o e)) (l.g.h _ _ (c.b k a o e))
 refine⟨hl,E,cL (D.map (·.1)) I,ck w,cs,_,q',⟨⟨xh l.g.s,Fz.refl E⟩,λh=>l.g.fz (c.z (hk h)),by rw[length_map,kO,l.r.length],?_,Y,λi p m=>v5 (U i p m),a4,λi h=>absurd h (Nat.not_lt_zero i),λx _ A C h d y g=>hE F B H G J c x A C h d y (l.g.cL l.n g)⟩,p1,?_⟩
 .intro i t h;have hi:i<w.length:=by have:=(List.getElem?_eq_some_iff.mp h).1;rw[kO] at this;exact this
  have e:∀(w:ai)(i:Nat),(ck w)[i]?=w[i]?.map dn:=by
   intro w
   induction w with
   |nil=>intro i;rfl
   |cons x xs ih=>intro i;cases i with
    |zero=>rfl
    |succ j=>exact ih j
  rw[e] at h;cases z:w[i]? with
  |none=>rw[z] at h;cases h
  |some u=>
   rw[z] at h;cases h;let⟨v,b1,b2⟩:=O i u z;exact .inr ⟨v,by rw[getElem?_map,b1];rfl,b2.dn (λk=>Le.of (hb k)) u⟩
 .intro A C G' J' cs' v t c' W r hc nw dj nl qt;refine q t v A C c' qt ⟨l.g.cL l.n W.g,r.base t nl,hc,λp m=>?_⟩;have z:=nw p m;by_cases L:p.1∈D.map (·.1)
  .obtain⟨q,mq,e⟩:=mem_map.mp L;have e:q.1=p.1:=e;rw[<- e];exact l.n q mq
  .unfold cL at z;rw[if_neg L] at z;exact l.g.h.free z
theorem M5{aY:bK}(a:z=true->k.z=true)(hn:∀xs Q,aY xs Q->xs.length=n)(h:fw K k ta pa):bu K k (Ax (bP K z 0 n aY) [] E ta) (vg aY pa):=
 Cp (R':=λ_=>E) (q':=λ_=>False) (aY:=λxs Q _=>aY xs Q) (λ_ _ _ _ _ _ _ _ _ h=>h.elim) a (λxs Q _=>hn xs Q) h
def kL(K:aj)(k:Md)(r:ax->Hp->VK->Prop)(i:ai->(ay)->Prop):Prop:=∀(F:Hp)(B:Bool->Hp)(H:Hp)(h:ax)(g:ai)(e:Cs)(Q:VK)(f:ay),aB F H->(∀k,aB (B k) H)->(k.z=true->Fz S0 F)->Rs K F B g h e->ar F H e->i g f->
 (∀t v a b d,f t->Gr F H a b->R K a B t v d->ar a b d->(∀p∈d,H p.1=none\/p∈e)->Q v b)->r h H Q
def pB(b:ai->(ay)->Prop)(a:cq):a8:=λj Q=>a j λd=>b d Q
theorem Em(o:kL K k r pr)(h:fw K k ta pa):bu K k (qT r ta) (pB pr pa):=λF B H j i Q u c p q=>by
 refine h F B H j i _ _ c p λD vs d f x p1 a=>?_
 refine o d B f vs D x Q u a.g.s (λk=>(c.b k).trans a.g.h) (λh=>a.g.fz (c.z h)) a.r a.c p1 λt v e l y A g C w n=>?_
 refine q t v e l y A ⟨a.g.trans' g,C,w,λp m=>?_⟩;rcases n p m with z |z
 .exact a.g.h.free z
 .exact a.n p z
theorem Rs.one(r:Rs K F B [t] xs cs):∃v,xs=[v]/\R K F B t v cs:=by
 let⟨v,r,c,d,b,a,e,rfl,rfl⟩:=r;rw[append_nil] at a;exact⟨v,b,by rw[a];exact e⟩
def vw(ts:ai)(Q:ay):Prop:=match ts with
 |[.int i]=>Q (.int (if i < 0 then -i else i))
 |_=>False
theorem wZ:kL K k (λxs H Q=>∃i,xs=[.int i]/\Q (.int (if i<0 then -i else i)) H) vw:=λF B H xs f d Q a s b z r e p q=>by
 unfold vw at p;split at p
 .obtain⟨v,rfl,rfl,_⟩:=r.one;exact⟨_,rfl,q _ _ F H [] p (Gr.aJ s) ⟨rfl,rfl⟩ .nil λ_ m=>nomatch m⟩
 .exact p.elim
end
structure QE(X:Cx)(k:Md)(e:Expr)(pe:a8):Prop where
 h:∃te,PE X e te/\bu X.K k te pe
structure QT(X:Cx)(k:Md)(e:Expr)(pe:c7):Prop where
 h:∃te,PT X e te/\eQ X.K k te pe
structure QW(X:Cx)(k:Md)(e:Expr)(pe:c7):Prop where
 h:∃te,PW X e te/\eQ X.K k te pe
structure QA(X:Cx)(k:Md)(es:bL)(pa:cq):Prop where
 h:∃ta,PA X es ta/\fw X.K k ta pa
structure QS(X:Cx)(k:Md)(lo:Nat)(st:Stmt)(ps:cw):Prop where
 h:∃ts,PS X st ts/\cU X.K k lo ts ps
structure QB(X:Cx)(k:Md)(lo:Nat)(sts:List Stmt)(ps:cw):Prop where
 h:∃ts,eL X sts ts/\cU X.K k lo ts ps
section
theorem qv(i:Nat)(b:do X.N[i]?=some x)(d:lN X.env.scope x:=by first |exact Or.inl rfl |exact Or.inr (Or.inl rfl) |exact Or.inr (Or.inr rfl))(hd: ~~~(da x))(a: ~~~((x == ("__classdict__":Str))=false)):QE X k (.Name x pos) (si i):=⟨_,tT b d hd a,Pa i⟩
theorem aI{i j}:QE X k (.Constant (.int i) j pos) (pC (.int i)):=⟨_,RP,Pb⟩
theorem gB{i j}:QE X k (.Constant (.str i) j pos) (pC (.str i)):=⟨_,Ea,Pc⟩
theorem gS{i j}:QE X k (.Constant (.bool i) j pos) (pC (.bl i)):=⟨_,Ti,SM⟩
theorem i2{j}:QE X k (.Constant .none j pos) (pC .aE):=⟨_,RQ,Pe⟩
theorem En(v:V)(a:Gl X x)(hm:X.mg x=some u)(r:aC v u)(ht:∀F B,R X.K F B t v [])(hd: ~~~(da x)):QE X k (.Name x pos) (pC t):=⟨_,Pt a hm r hd,om ht⟩
theorem oo(l:b9 X (binaryOp op) r)(hs:ed X.K k r pr)(i:QE X k a pa)(j:QE X k b pb):QE X k (.BinOp a op b pos) (p2 pr pa pb):=by
 ∎;let⟨m,f,g⟩:=i.h;let⟨tb,d,e⟩:=j.h;∎;exact⟨_,Tp l f d,tH hs g e⟩
theorem fq(d:QE X k a pa)(e:QE X k b pb):QE X k (.BinOp a .Add b pos) (p2 pO pa pb):=oo TF Pj d e
theorem ua(d:QE X k a pa)(e:QE X k b pb):QE X k (.BinOp a .Sub b pos) (p2 (iD (λ_ _=>True) λi j=>.int (i - j)) pa pb):=oo R3 Pm d e
theorem dA(d:QE X k a pa)(e:QE X k b pb):QE X k (.BinOp a .Mult b pos) (p2 sk pa pb):=oo TH Pk d e
theorem jm(d:QE X k a pa)(e:QE X k b pb):QE X k (.BinOp a .FloorDiv b pos) (p2 (iD dD λi j=>.int (i.fdiv j)) pa pb):=oo Nr MY d e
theorem gC(d:QE X k a pa)(e:QE X k b pb):QE X k (.BinOp a .Mod b pos) (p2 (iD (λ_ j=>0<j) λi j=>.int (i % j)) pa pb):=oo Q8 Pn d e
theorem gU(e:QE X k a pa):QE X k (.UnaryOp .USub a pos) (p1 sq pa):=by
 let⟨f,b,d⟩:=e.h;exact⟨_,Tq Q9 b,SN Po d⟩
theorem ba(i:QE X k a pa)(j:QE X k b pb)(hs:zO b:=by exact λ_ _=>rfl)(l:X.A.units+1<cLine:=by assumption):QE X k (.Subscript a b pos) (p2 ib pa pb):=by
 ∎;let⟨m,f,g⟩:=i.h;let⟨tb,d,e⟩:=j.h;∎;exact⟨_,Tv (T8 l) f d hs,tH Pl g e⟩
theorem fQ(l:b9 X (compareOp op) r)(hs:ed X.K k r pr)(i:QE X k a pa)(j:QE X k b pb)(hm:behindInMarks op b=false:=by with_unfolding_all rfl):QE X k (.Compare a [op] [b] pos) (p2 pr pa pb):=by
 ∎;let⟨m,f,g⟩:=i.h;let⟨tb,d,e⟩:=j.h;∎;exact⟨_,PC l f d hm,tH hs g e⟩
theorem b7(l:b9 X (compareOp op) r)(hs:ed X.K k r pr)(i:QE X k a pa)(j:QE X k b pb)(hm:behindInMarks op b=false:=by with_unfolding_all rfl):QT X k (.Compare a [op] [b] pos) (pT (p2 pr pa pb)):=by
 ∎;let⟨m,f,g⟩:=i.h;let⟨tb,d,e⟩:=j.h;∎;exact⟨_,C3 l f d hm,LS (tH hs g e)⟩
theorem gD(h:QE X k e pe)(d:∀whole,isTrue e X.env whole=(do let v <- whole;standAt e.pos;holding [v] (truthy v)):=by intro _;rfl):QT X k e (pT pe):=by
 let⟨f,a,b⟩:=h.h;exact⟨_,RS a d,El b⟩
theorem iM(h:QT X k e pe):QT X k (.UnaryOp .Not e pos) (vq pe):=by
 let⟨d,a,b⟩:=h.h;exact⟨_,RV a,Qw b⟩
theorem QW.t(h:QW X k e pe):QT X k e pe:=by
 let⟨d,a,b⟩:=h.h;exact⟨_,a.pt,b⟩
theorem w4(h:QT X k e pe):QW X k (.BoolOp .And [e] pos) pe:=by
 let⟨d,a,b⟩:=h.h;exact⟨_,Px a,b⟩
theorem jL(h:QT X k e pe):QW X k (.BoolOp .Or [e] pos) pe:=by
 let⟨d,a,b⟩:=h.h;exact⟨_,RT a,b⟩
theorem xu(h:QT X k e pe)(h':QW X k (.BoolOp .And (f::r) pos) pf):QW X k (.BoolOp .And (e::f::r) pos) (vU pe pf):=by
 ∎;let⟨i,d,g⟩:=h.h;let⟨j,a,b⟩:=h'.h;∎;exact⟨_,RU d a,Qv g b⟩
theorem i3(h:QT X k e pe)(h':QW X k (.BoolOp .Or (f::r) pos) pf):QW X k (.BoolOp .Or (e::f::r) pos) (yn pe pf):=by
 ∎;let⟨i,d,g⟩:=h.h;let⟨j,a,b⟩:=h'.h;∎;exact⟨_,Tj d a,SR g b⟩
theorem i4{op}(h:QE X k e pe):QE X k (.BoolOp op [e] pos) pe:=by
 let⟨d,a,b⟩:=h.h;exact⟨_,RW a,b⟩
theorem kz(h:QE X k e pe)(h':QE X k (.BoolOp .And (f::r) pos) pf):QE X k (.BoolOp .And (e::f::r) pos) (vc pe pf):=by
 ∎;let⟨i,d,g⟩:=h.h;let⟨j,a,b⟩:=h'.h;∎;exact⟨_,RX d a,MZ g b⟩
theorem qF(h:QE X k e pe)(h':QE X k (.BoolOp .Or (f::r) pos) pf):QE X k (.BoolOp .Or (e::f::r) pos) (vr pe pf):=by
 ∎;let⟨i,d,g⟩:=h.h;let⟨j,a,b⟩:=h'.h;∎;exact⟨_,Tn d a,Qx g b⟩
theorem SU(h:QE X k e pe):QE X k (.UnaryOp .Not e pos) (vd pe):=by
 let⟨d,a,b⟩:=h.h;exact⟨_,RY a,M0 b⟩
theorem xM{pt:c7}(n:QT X k c pt)(l:QE X k a pa)(m:QE X k b pb):QE X k (.IfExp c a b pos) (yj pt pa pb):=by
 ∎;let⟨q,i,j⟩:=n.h;let⟨o,f,g⟩:=l.h;let⟨tb,d,e⟩:=m.h;∎;exact⟨_,Nc i f d,Qy j g e⟩
theorem aD:QA X k [] sj:=⟨_,mh,Dn⟩
theorem au(h:QE X k a pa)(h':QA X k es ps)(hs:do ee a es X.env):QA X k (a::es) (va pa ps):=by
 ∎;let⟨g,e,f⟩:=h.h;let⟨i,b,d⟩:=h'.h;∎;exact⟨_,k6 e b hs,MX f d⟩
theorem i5{x1}(h:QA X k es ps):QE X k (.Tuple es x1 pos) (vR ps):=by
 let⟨d,a,b⟩:=h.h;exact⟨_,Rg a,Pf b⟩
theorem gh(h:QA X k es ps):QE X k (.List es pos) (vS ps):=by
 let⟨d,a,b⟩:=h.h;exact⟨_,Rh a,Pg b⟩
theorem d7{r:ax->Hp->VK->Prop}{f:ai->(ay)->Prop}{id:String}{x:Str}{p:Pos}{e:Expr}{a:bL}{ps:cq}(l:bU X (.builtin id) r)(o:kL X.K k r f)(hm:X.mg x=none)(j:QA X k (e::a) ps)(n:do Gl X x)(q:do bootBuiltins x=some (.builtin id))(hn: ~~~(x≠"__name__"))(b: ~~~(da x))(m:do ee e a X.env)(d:do eZ pos a X.env):
  QE X k (.Call (.Name x p) (e::a) [] pos) (pB f ps):=by
 let⟨s,g,i⟩:=j.h;exact⟨_,Nj l n hm q g hn b m d,Em o i⟩
theorem cP:QB X k lo [] ve:=⟨_,Py,M1⟩
theorem aQ(h:QS X k lo st p)(h':QB X k lo r q):QB X k lo (st::r) (sr p q):=by
 ∎;let⟨f,d,e⟩:=h.h;let⟨g,a,b⟩:=h'.h;∎;exact⟨_,wc d a,Qz e b⟩
theorem a6(h:QS X k lo st p):QB X k lo [st] p:=by
 let⟨d,a,b⟩:=h.h;exact⟨_,wQ a,b⟩
def Ab:cw:=λ_ _=>False
theorem sW:QS X k lo st Ab:=⟨_,Nd,λ_ _ _ _ _ _ _ _ _ _ _ h _=>h⟩
theorem SV(h:QE X k e pe)(hs:do swapsWith e none pos.line X.env=pure false):QS X k lo (.Expr e pos) (vf pe):=by
 let⟨d,a,b⟩:=h.h;exact⟨_,sQ a hs,M3 b⟩
theorem bV(h:QE X k e pe):QS X k lo (.Return (some e) pos) (vu pe):=by
 let⟨d,a,b⟩:=h.h;exact⟨_,Eb a,QD b⟩
theorem cQ(j:QT X k e pe)(h:QB X k lo s1 p)(h':QB X k lo s2 q):QS X k lo (.If e s1 s2 pos) (vv pe p q):=by
 ∎;let⟨m,g,i⟩:=j.h;let⟨l,d,f⟩:=h.h;let⟨tb,a,b⟩:=h'.h;∎;exact⟨_,To g d a,SS i f b⟩
theorem xN(g:QT X k e pe)(h:QB X k lo s1 p)(i:PassesOwn (model X.prog X.w) X.A X.env X.xe:=by first |exact PassesOwn.never |exact fy rfl):QS X k lo (.While e s1 [] pos) (Bn pe p):=by
 ∎;let⟨l,d,f⟩:=g.h;let⟨j,a,b⟩:=h.h;∎;exact⟨_,Nf i d a,QF f b⟩
theorem jn(i:Nat)(h:QE X k e pe)(d:X.N.Nodup:=by assumption)(j: ~~~(lo<=i))(g:do X.N[i]?=some x)(l:Loc X.env.scope x:=by first |exact Or.inl rfl |exact Or.inr rfl)(hs:do swapsWith e (some (.Name x pos')) pos.line X.env=pure false)(f:jh X x:=by first |exact .inl rfl |exact .inr rfl |assumption):
  QS X k lo (.Assign [.Name x pos'] e pos) (vt i pe):=by
 let⟨m,a,b⟩:=h.h;exact⟨_,tU d g l a hs f,QC j b⟩
end
section
theorem cu{aY:bK}(F:gv K x qual st f fd)(S:bW N ps (bD st))(hn:ps.length=n)(e:lo<=n)(a:∀(a7:ao)(A:Around)(outer:b5)(s:ak)(H:Hp)(E:XK),bp m (A.deeper (PyProof.Rows.envOfC qual (bD st) ⇑s f a7))->(A.deeper (PyProof.Rows.envOfC qual (bD st) ⇑s f a7)).units+1<cLine->N.Nodup->
   ∃b,QB (i1 bJ P w K mg base N qual (bD st) f a7 A outer s H E).oC (Md.base z) lo (iX st) b/\∀xs d,xs.length=n->aY xs d->b { nx:=λj=>d .aE j,rt:=d } (xs++List.replicate (N.length - n) .aq)):
  aK P w K mg base bJ (m+1) f fd ps (bP K z lo n aY):=QJ F S hn e λa7 A outer s H E g=>by
 ∎;let⟨b,h,q⟩:=a a7 A outer s H E g (EV g) S.nd;let⟨o,i,l⟩:=h.h;∎;exact⟨o,b,i,l,q⟩
theorem xO{aY:fF}(F:gv K x qual st f fd)(S:bW N ps (bD st))(hn:ps.length=n)(e:lo<=n)(a:∀(a7:ao)(A:Around)(outer:b5)(s:ak)(H:Hp)(E:XK)(q:Xv->Prop),bp m (A.deeper (PyProof.Rows.envOfC qual (bD st) ⇑s f a7))->(A.deeper (PyProof.Rows.envOfC qual (bD st) ⇑s f a7)).units+1<cLine->N.Nodup->
   ∃b,QB (i1 (eK P w) P w K mg base N qual (bD st) f a7 A outer s H E) ⟨z,λ_=>E,q⟩ lo (iX st) b/\∀xs d,xs.length=n->aY xs d q->b { nx:=λj=>d .aE j,rt:=d } (xs++List.replicate (N.length - n) .aq)):
  aK P w K mg base (eK P w) (m+1) f fd ps (iq K z lo n aY):=M4 F S hn e λa7 A outer s H E q g=>by
 ∎;let⟨b,h,q⟩:=a a7 A outer s H E q g (EV g) S.nd;let⟨o,i,l⟩:=h.h;∎;exact⟨o,b,i,l,q⟩
end
section
theorem lay:∀(c:Cs){F:Hp},Gr Fb Hb F H->ar F H c->cS Hb c->Plain c->∃i,Gr Fb Hb i H/\(∀S,Fz S F->Fz S i)/\aB F i/\(∀p∈c,i p.1=some p.2)/\∀a,a ∉ c.map (·.1)->i a=F a
 |[],F,g,_,_,_=>⟨F,g,λ_ h=>h,aB.refl F,λ_ m=>(nomatch m),λ_ _=>rfl⟩
 |(a,o)::c,F,g,hc,n,pl=>by
  let⟨s,y,D,C,q,l⟩:=Vc.aA g.toGr0 g.z (n _ (.head _)) (hc.f _ (.head _)) (hc.h _ (.head _)) (pl _ (.head _));have nd:=hc.nd;rw[map_cons,nodup_cons] at nd;have j:ar s H c:=⟨λp m=>hc.h p (.tail _ m),λp m=>by rw[l p.1 (λz=>nd.1 (mem_map.mpr ⟨p,m,z⟩))];exact hc.f p (.tail _ m),nd.2⟩;let⟨v,A,E,r,w,B⟩:=lay c ⟨y,D⟩ j (λp m=>n p (.tail _ m)) λp m=>pl p (.tail _ m)
  refine⟨v,A,λS h=>E S λb x u e=>?_,C.trans r,λp m=>?_,λb d=>?_⟩
  .by_cases d:b=a
   .subst d;rw[q] at e;exact absurd (Option.some.inj e) (pl _ (.head _) x u)
   .rw[l b d] at e;exact h b x u e
  .cases m with
   |head=>exact r _ _ q
   |tail _ m=>exact w p m
  .rw[map_cons,mem_cons] at d;rw[B b λz=>d (.inr z),l b λz=>d (.inl z)]
theorem bh.lay{c:Cs}(W:bh K k lo us Fb Hb F H G J cs)(u:ar F H c)(n:cS Hb c)(pl:Plain c)(d:∀j,∀p∈cs j,∀q∈c,p.1≠q.1):∃a,bh K k lo us Fb Hb a H G J cs/\aB F a/\∀p∈c,a p.1=some p.2:=by
 let⟨o,s,y,b,r,w⟩:=Pu.lay c W.g u n pl;refine⟨o,⟨s,λh=>y _ (W.z h),W.l,λi t h=>(W.e i t h).imp id λ⟨v,h1,h2⟩=>⟨v,h1,h2.mo (Le.of b) (λ_=>Le.refl _) t⟩,λi=>⟨(W.c i).h,λp m=>?_,(W.c i).nd⟩,W.n,W.d,W.p,W.x⟩,b,r⟩;rw[w p.1 λz=>?_]
 .exact (W.c i).f p m
 .obtain⟨q,mq,e⟩:=mem_map.mp z;exact d i p m q mq e.symm
theorem bh.fresh{t:Tr}{v:V}{c:Cs}{B:Bool->Hp}(W:bh K k lo us Fb Hb F H i G cs)(o:Out K F B H F' H' t v c):cS Hb c/\∀j,∀p∈cs j,∀q∈c,p.1≠q.1:=
 ⟨λp m=>W.g.h.free (o.n p m),λj p a q b e=>by
  have:=(W.c j).h p a;rw[e,o.n q b] at this;cases this⟩
theorem bh.outF{i:Nat}{t:Tr}{v:V}{c:Cs}(W:bh K k lo us Fb Hb F H j G cs)(o:Out K F (Bq Hb H) H F' H' t v c)(l:lo<=i)(n:bR t=true):
  ∃a b,bh K k lo us Fb Hb a H' (j.set i (some v)) (G.set i (aA t)) b:=by
 ∎;let⟨q,f⟩:=W.fresh o;let⟨d,e,s,h⟩:=(W.gr o.g).lay o.c q (o.r.plain t) f;∎;exact⟨d,_,e.set l ((R.low (B':=λ_=>Hb) t n rfl o.r).aA (Le.of s) t h) .nil .nil λ_ _ _ _ _ m=>nomatch m⟩
theorem bh.held{t:Tr}{v:V}{c:Cs}(W:bh K k lo us Fb Hb F H j i cs)(o:Out K F (Bq Hb H) H F' H' t v c)(n:bR t=true):
  ∃a,bh K k lo us Fb Hb a H' j i cs/\R K a (λ_=>Hb) (aA t) v []:=by
 ∎;let⟨h,e⟩:=W.fresh o;let⟨b,d,l,f⟩:=(W.gr o.g).lay o.c h (o.r.plain t) e;∎;exact⟨b,d,(R.low (B':=λ_=>Hb) t n rfl o.r).aA (Le.of l) t f⟩
def nJ(i:Nat)(pe:a8):cw:=λD j=>pe (j.map aG) λt=>bR t=true/\D.nx (j.set i (aA t))
theorem wm(g:lo<=i)(h:bu K k te pe):cU K k lo (kh te (iY i)) (nJ i pe):=λus n d F H j G r D l W p L=>by
 refine h F (Bq d H) H j _ _ _ W.eD p λt v m b c q o=>?_
 let⟨a,f,e⟩:=W.outF o g q.1;exact L.nx a b _ _ _ e q.2
abbrev eu:=Tr->ai->(aU)->Prop
def nK(K:aj)(k:Md)(lo:Nat)(l:TG)(pg:eu):Prop:=∀(us:ax)(d a F H:Hp)(j:St)(i:ai)(h:Nat->Cs)(x:V)(t:Tr)(Q:St->Hp->Prop)(e:aU),bh K k lo us d a F H j i h->R K F (λ_=>a) t x []->pg t i e->(∀g f b,bh K k lo us d a F H g f b->e f->Q g H)->l x j H Q
def oD(i:Nat):eu:=λt j Q=>Q (j.set i t)
theorem SW(a:lo<=i):nK K k lo (iY i) (oD i):=λus b d F H j G f x t Q e W r p q=>q _ _ _ (W.set a r .nil .nil λ_ _ _ _ _ m=>nomatch m) p
def pA(K:aj)(k:Md)(lo:Nat)(n:lM)(pg:ai->ai->(aU)->Prop):Prop:=∀(us:ax)(d a F H:Hp)(j:St)(i:ai)(m:Nat->Cs)(l:ax)(h:ai)(Q:St->Hp->Prop)(e:aU),bh K k lo us d a F H j i m->Rs K F (λ_=>a) h l []->pg h i e->(∀g f b,bh K k lo us d a F H g f b->e f->Q g H)->n l j H Q
def lT:ai->ai->(aU)->Prop:=λa j Q=>match a with |[]=>Q j |_=>False
def acl(pg:eu)(b:ai->ai->(aU)->Prop):ai->ai->(aU)->Prop:=λd j Q=>match d with |t::r=>pg t j λa=>b r a Q |[]=>False
theorem LU:pA K k lo vJ lT:=λus b d F H j i a g f Q e W r p q=>by
 unfold lT at p;split at p
 .exact⟨r.1,q j i a W p⟩
 .exact p.elim
theorem Kx(h:nK K k lo tg pg)(h':pA K k lo tr pr):pA K k lo (u5 tg tr) (acl pg pr):=λus b f F H j i m x u Q g W r p q=>by
 unfold acl at p;split at p
 .obtain⟨v,w,c,d,h1,h2,h3,h4⟩:=r;have e:=append_eq_nil_iff.mp h2.symm;rw[e.1] at h3;rw[e.2] at h4;exact⟨v,w,h1,h us b f F H j i m v _ _ _ W h3 p λo n a l s=>h' us b f F H o n a w _ Q g l h4 s q⟩
 .exact p.elim
def lG(n:Nat)(b:ai->ai->(aU)->Prop):eu:=λt j Q=>match t with |.aP a=>a.length=n/\b a j Q |_=>False
theorem SX(h:pA K k lo tr pr):nK K k lo (vK K n tr) (lG n pr):=λus b d F H j i f x t Q e W r p q=>by
 unfold lG at p;split at p
 .obtain⟨a,vs,rfl,h1,h2⟩:=r.dw W.g.s;exact⟨a,vs,rfl,h1,h2.length.trans p.1,h us b d F H j i f vs _ Q e W h2 p.2 q⟩
 .exact p.elim
def vx(pe:a8)(pg:eu):cw:=λD j=>pe (j.map aG) λt=>bR t=true/\pg (aA t) j D.nx
theorem QK(h:bu K k te pe)(n:nK K k lo tg pg):cU K k lo (kh te tg) (vx pe pg):=λus f e F H j i m D w W p L=>by
 refine h F (Bq e H) H j _ _ _ W.eD p λt v x d c q o=>?_
 let⟨b,l,r2⟩:=W.held o q.1;exact n us f e b d j i m v _ _ _ l r2 q.2 λs r a g u=>L.nx b d s r a g u
def vz(i j:Nat)(d:cq):cw:=λD G=>d (G.map aG) λe=>match e with |[a,b]=>bR a=true/\bR b=true/\D.nx ((G.set i (aA a)).set j (aA b)) |_=>False
theorem QM{i j:Nat}{l:TA}{d:cq}(A:lo<=i)(B:lo<=j)(h:fw K k l d):cU K k lo (A5 i j l) (vz i j d):=λus Q a F H G J x D N W p L=>by
 refine h F (Bq a H) H G _ _ _ W.eD p λU vs O u c q o=>?_
 split at q
 .obtain⟨v,r,c1,d1,h1,h2,h3,v',r',c2,d2,g1,g2,g3,g4,g5⟩:=o.r;have I:cS a c:=λp m=>W.g.h.free (o.n p m)
  have y:∀j,∀p∈x j,∀q∈c,p.1≠q.1:=λj p C q E e=>by
   have:=(W.c j).h p C;rw[e,o.n q E] at this;cases this
  have M:Plain c:=Rs.plain _ o.r;let⟨s,w,f,b⟩:=(W.gr o.g).lay o.c I M y;refine⟨v,v',by rw[h1,g1,g4],L.nx s u _ _ _ ((w.set A ((R.low (B':=λ_=>a) _ q.1 rfl h3).aA (Le.of f) _ λp m=>b p (by rw[h2];exact mem_append.mpr (.inl m))) .nil .nil λ_ _ _ _ _ m=>nomatch m).set B ((R.low (B':=λ_=>a) _ q.2.1 rfl g3).aA (Le.of f) _ λp m=>b p (by rw[h2,g2];exact mem_append.mpr (.inr (mem_append.mpr (.inl m))))) .nil .nil λ_ _ _ _ _ m=>nomatch m) q.2.2⟩
 .exact q.elim
end
def Hg(J:It)(n:Nat)(h:Hp->Prop)(Y:Nat->Hp->V->Hp->Prop):Prop:=∀(g:TG)(tb:TS)(D:Ends)(j:St)(H:Hp)(Pv:Nat->St->Hp->Prop),Pv 0 j H->(∀i j H,i<=n->Pv i j H->h H)->
 (∀i x j H a,i<n->Pv i j H->Y i H x a->g x j a λd b=>tb { D with nx:=Pv (i+1),ct:=Pv (i+1),bk:=D.nx } d b)->(∀j H,Pv n j H->D.nx j H)->
 ∃W:Nat->Nat->St->Hp->Prop,(∃m,W 0 m j H)/\∀i m j H,W i m j H->
  (J.stop i H/\D.nx j H)\/(J.go i H/\∃N:St->Hp->Prop,(∀e a,N e a->∃f,f<m/\W (i+1) f e a)/\∀x a,J.lJ i H x a->g x j a λd b=>tb { D with nx:=N,ct:=N,bk:=D.nx } d b)
theorem EZ{j:Type}{xs:List j}{i:Nat}{x:j}(h:xs[i]?=some x):i<xs.length:=(List.getElem?_eq_some_iff.mp h).1
structure gL(J:It)(n:Nat)(Kp:Hp->Prop)(Y:Nat->Hp->V->Hp->Prop):Prop where
 go:∀i H,i<n->Kp H->J.go i H
 st:∀H,Kp H->J.stop n H
 yl:∀i H x H',i<n->Kp H->J.lJ i H x H'->Y i H x H'
theorem gL.runs(o:gL J n Kp Y):Hg J n Kp Y:=λg tb D j H Pv h f l hd=>by
 refine⟨λi m j H=>m=n - i/\i<=n/\Pv i j H,⟨n,by simp,zero_le _,h⟩,?_⟩;rintro i m j H ⟨rfl,d,p⟩;by_cases a:i<n
 .exact .inr ⟨o.go i H a (f i j H d p),Pv (i+1),λr b q=>⟨n - (i+1),⋯,rfl,a,q⟩,λx b y=>l i x j H b a p (o.yl i H x b a (f i j H d p) y)⟩
 .have e:i=n:=⋯
  subst e;exact .inl ⟨o.st H (f i j H d p),hd j H p⟩
theorem qr{j:Type}{xs:List j}{i:Nat}(h:i<xs.length):∃x,xs[i]?=some x:=⟨_,getElem?_eq_getElem h⟩
theorem QN{K:aj}{a:ae}{xs:ax}:gL (q5 K a) xs.length (λH=>bG K H a xs) (λi H x b=>xs[i]?=some x/\b=H):=
 ⟨λi H h q=>by let⟨x,e⟩:=qr h;exact⟨xs,x,q,e⟩,λH q=>⟨xs,q,le_refl _⟩,λi H x b h q y=>⟨y.2 xs q,y.1⟩⟩
theorem M6:gL (m9 l n) n (λ_=>True) (λi H x a=>x=.int (l+i)/\a=H):=⟨λi H h _=>h,λH _=>le_refl _,λi H x a h _ y=>⟨y.2,y.1⟩⟩
theorem QP{K:aj}{a:ae}{xs:ax}:gL (q0 K a) xs.length (λH=>bG K H a xs) (λi H y b=>∃x p,xs[i]?=some x/\y=.ref p/\H p=none/\b=aN H p (.aP [.int i,x])):=
 ⟨λi H h q=>by let⟨x,e⟩:=qr h;exact⟨xs,x,q,e⟩,λH q=>⟨xs,q,le_refl _⟩,λi H y b h q z=>by let⟨p,x,d,f,g,j⟩:=z;exact⟨x,p,g xs q,d,f,j⟩⟩
theorem SY{K:aj}{a b:ae}{xs ys:ax}:gL (q9 K a b) (min xs.length ys.length) (λH=>bG K H a xs/\bG K H b ys) (λi H z d=>∃x y p,xs[i]?=some x/\ys[i]?=some y/\z=.ref p/\H p=none/\d=aN H p (.aP [x,y])):=
 ⟨λi H h q=>by let⟨x,e⟩:=qr (xs:=xs) (i:=i) ⋯;let⟨y,f⟩:=qr (xs:=ys) (i:=i) ⋯;exact⟨xs,ys,x,y,q.1,q.2,e,f⟩,λH q=>⟨xs,ys,q.1,q.2,⋯⟩,λi H z d h q y=>by let⟨p,x,y,g,j,l,m,n⟩:=y;exact⟨x,y,p,l xs q.1,m ys q.2,g,j,n⟩⟩
def Src(K:aj)(B:Bool->Hp)(F:Hp)(J:It)(ts:ai):Prop:=∃(f:Hp->Prop)(Y:Nat->Hp->V->Hp->Prop),gL J ts.length f Y/\(∀b a,Le F b->aB b a->(∀k,aB (B k) a)->f a)/\
 ∀i t b a x e,ts[i]?=some t->Le F b->aB b a->(∀k,aB (B k) a)->Y i a x e->∃d,Gr b a d e/\R K d B t x []
section
abbrev iS:=ai->(ai->Bool->Prop)->Prop
def lY(K:aj)(k:Md)(m:TI)(l:iS):Prop:=∀(F:Hp)(B:Bool->Hp)(H:Hp)(j:St)(i:ai)(g:It->Hp->Prop)(f:ai->Bool->Prop),fo K k F B H j i->l i f->
 (∀b h J a e,f b h->Gr F H a e->Src K B a J b->(h=true->∀d:Bool->Hp,d false=B false->Src K d a J b)->g J e)->m j H g
theorem _root_.Vc.Gr.base(g:Gr Fb Hb F1 H1)(g':Gr F1 Hb F H):Gr Fb Hb F H:=
 Gr.of ⟨g'.h,g.f.trans g'.f,g'.s,λa u e z=>by
  cases q:F1 a with
  |some w=>exact g.n a w q z
  |none=>exact g'.n a u e q⟩ (g'.fz g.z)
theorem bh.base(a:bh K k lo us Fb Hb F1 H1 j0 i0 cs0)(W:bh K k lo us F1 Hb F H j i cs):bh K k lo us Fb Hb F H j i cs:=⟨a.g.base W.g,W.z,W.l,W.e,W.c,W.n,W.d,W.p,a.x⟩
theorem bh.rebase(W:bh K k lo us Fb Hb F H j i cs):bh K k lo us F Hb F H j i cs:=⟨⟨⟨W.g.h,aB.refl F,W.g.s,λa u e z=>by rw[e] at z;cases z⟩,Fz.refl F⟩,W.z,W.l,W.e,W.c,W.n,W.d,W.p,λx m b f q d y g=>W.x x m b f q d y (W.g.base g)⟩
theorem Lk.rebase(b:bh K k lo us Fb Hb F1 H1 j0 i0 cs0)(L:Lk K k lo us Fb Hb D D'):Lk K k lo us F1 Hb D D':=
 ⟨λF H j i a W=>L.nx F H j i a (b.base W),λF H j i a v t c W=>L.rt F H j i a v t c (b.base W),λF H j i a W=>L.bk F H j i a (b.base W),λF H j i a W=>L.ct F H j i a (b.base W)⟩
def vA(f:iS)(pg:eu)(e:cw):cw:=λD j=>f (j.map aG) λa d=>d=true/\∃I:Nat->aU,I 0 j/\(∀i t j,a[i]?=some t->I i j->pg t j λb=>e { D with nx:=I (i+1),ct:=I (i+1),bk:=D.nx } b)/\∀j,I a.length j->D.nx j
theorem QQ(d:lY K k wi pi)(U:nK K k lo tg pg)(Q:cU K k lo tb pb):cU K k lo (A6 wi tg tb) (vA pi pg pb):=λus Fb b F H j G a D D' W p L=>by
 refine d F (Bq b H) H j _ _ _ W.eD p λB nl J e E q N _ u=>?_
 have w:=W.gr N;∎;let⟨o,I,i0,step,n⟩:=q;let⟨Kp,Y,r,kp,yl⟩:=u o (λ_=>b) rfl;∎;have run:=r.runs;have l:=L.rebase w;refine run tg tb D j E (λi j H=>∃F G a,bh K k lo us e b F H j G a/\I i G) ⟨e,G,a,w.rebase,i0⟩ ?_ ?_ ?_
 .rintro i j H d ⟨F,G,a,W,_⟩;exact kp F H (Le.of W.g.f) W.g.s λ_=>W.g.h
 .rintro i x j H H' d ⟨F,G,a,W,ii⟩ y;have A:B[i]?=some (B[i]'d):=getElem?_eq_getElem d;let⟨v,O,r2⟩:=yl i _ F H x H' A (Le.of W.g.f) W.g.s (λ_=>W.g.h) y;refine U us e b v H' j G a x _ _ _ (W.gr O) r2 (step i _ G A ii) λj' C m M p'=>?_
  exact Q us e b v H' j' C m _ _ M p' ⟨λF H j G a W q=>⟨F,G,a,W,q⟩,l.rt,l.nx,λF H j G a W q=>⟨F,G,a,W,q⟩⟩
 .rintro j H ⟨F,G,a,W,q⟩;exact l.nx F H j G a W (n G q)
theorem S1(l:Le F F')(s:aB F' H')(h:bG K F a vs):bG K H' a vs:=s.seq (l.ag h)
theorem k7(r:R K F B (.ag f xs) v []):∃a vs,v=.ref a/\Rs K F B xs vs []/\∀g d,Le F g->aB g d->(∀k,aB (B k) d)->bG K d a vs:=by
 cases f with
 |f=>let⟨_,a,vs,h,e,i⟩:=r;exact⟨a,vs,h,i,λg d l s b=>S1 l s e⟩
 |l q=>let⟨_,a,vs,h,e,i⟩:=r;exact⟨a,vs,h,i,λg d l s b=>(b q).seq e⟩
 |o=>let⟨a,vs,j,h,e,i⟩:=r;cases e
theorem Rs.cZ{xs:ai}{vs:ax}{i:Nat}{t:Tr}(r:Rs K F B xs vs [])(h:xs[i]?=some t):∃u,vs[i]?=some u/\R K F B t u []:=by
 let⟨u,c,b,a,d⟩:=r.at h;have e:c=[]:=List.eq_nil_iff_forall_not_mem.mpr λp m=>nomatch d p m
 rw[e] at a;exact⟨u,b,a⟩
theorem CO{a:ae}{f:Fl}{xs:ai}(r:R K F B (.ag f xs) (.ref a) []):Src K B F (q5 K a) xs:=by
 let⟨w,vs,n,d,o⟩:=k7 r;cases n;refine⟨_,_,d.length ▸ QN (K:=K) (a:=a) (xs:=vs),o,λi t g v x h q l s b y=>?_⟩;∎;let⟨e,rfl⟩:=y;let⟨u,j,m⟩:=d.cZ q;∎;rw[j] at e;cases e;exact⟨g,Gr.aJ s,m.mo l (λ_=>Le.refl _) t⟩
theorem CP{a:ae}{f:Fl}{xs:ai}(r:R K F B (.ag f xs) (.ref a) []):Src K B F (q0 K a) (xs.mapIdx λi x=>.aP [.int i,x]):=by
 let⟨E,vs,v,e,w⟩:=k7 r;cases v;refine⟨_,_,(by rw[List.length_mapIdx,<- e.length];exact QP (K:=K) (a:=a) (xs:=vs)),w,λi t C D x m d l s b y=>?_⟩;let⟨z,p,h,rfl,A,rfl⟩:=y;rw[List.getElem?_mapIdx] at d;cases q:xs[i]? with
 |none=>rw[q] at d;cases d
 |some u=>
  rw[q] at d;cases d;let⟨G,n,o⟩:=e.cZ q;rw[n] at h;cases h;let⟨j,g,r2,_⟩:=sT (xs:=[.int i,u]) (cs:=[]) s ⟨.int i,[z],[],[],rfl,rfl,⟨rfl,rfl⟩,z,[],[],[],rfl,rfl,o.mo l (λ_=>Le.refl _) u,rfl,rfl⟩ .nil A;exact⟨j,g,r2⟩
theorem Dz{a e:ae}{f I:Fl}{xs ys:ai}(r:R K F B (.ag f xs) (.ref a) [])(U:R K F B (.ag I ys) (.ref e) []):Src K B F (q9 K a e) (xs.zipWith (λx y=>.aP [x,y]) ys):=by
 ∎;let⟨_,vs,O,n,Q⟩:=k7 r;let⟨_,us,M,m,N⟩:=k7 U;∎;cases O;cases M;refine⟨(λH=>bG K H a vs/\bG K H e us),_,(by rw[List.length_zipWith,<- n.length,<- m.length];exact SY (K:=K) (a:=a) (b:=e) (xs:=vs) (ys:=us)),λh j l s b=>⟨Q h j l s b,N h j l s b⟩,λi t h j x D d l s b y=>?_⟩;let⟨z,A,p,v,w,rfl,y3,rfl⟩:=y;rw[List.getElem?_zipWith] at d;cases q:xs[i]? with
 |none=>rw[q] at d;cases d
 |some u=>
  cases q':ys[i]? with
  |none=>rw[q,q'] at d;cases d
  |some o=>
   rw[q,q'] at d;cases d;∎;let⟨u',E,G⟩:=n.cZ q;let⟨Y,J,L⟩:=m.cZ q';∎;rw[E] at v;rw[J] at w;cases v;cases w;let⟨C,g,r2,_⟩:=sT (xs:=[u,o]) (cs:=[]) s ⟨z,[A],[],[],rfl,rfl,G.mo l (λ_=>Le.refl _) u,A,[],[],[],rfl,rfl,L.mo l (λ_=>Le.refl _) o,rfl,rfl⟩ .nil y3;exact⟨C,g,r2⟩
theorem LV{l:Int}{n:Nat}:Src K B F (m9 l n) ((List.range n).map λ(i:Nat)=>.int (l+i)):=by
 refine⟨_,_,(by rw[length_map,length_range];exact M6 (l:=l) (n:=n)),λ_ _ _ _ _=>True.intro,λi t e g x f a h s b y=>?_⟩;let⟨rfl,rfl⟩:=y;rw[getElem?_map] at a;cases q:(List.range n)[i]? with
 |none=>rw[q] at a;cases a
 |some u=>
  rw[q] at a;cases a;have d:=EZ q;rw[length_range] at d;rw[getElem?_range d] at q;cases q;exact⟨e,Gr.aJ s,rfl,rfl⟩
theorem Out.held{t:Tr}{v:V}{c:Cs}(o:Out K F B H F' H' t v c):∃a,Gr F H a H'/\R K a B (aA t) v []:=by
 let⟨b,e,_,f,d,_⟩:=Pu.lay c o.g o.c o.n (o.r.plain t);exact⟨b,e,o.r.aA (Le.of f) t d⟩
theorem dY.held{t:ai}{v:ax}{c:Cs}(o:dY K F B H F' H' t v c):∃a,Gr F H a H'/\Rs K a B (bz t) v []:=by
 let⟨b,e,_,f,d,_⟩:=Pu.lay c o.g o.c o.n (o.r.plain t);exact⟨b,e,o.r.aA (Le.of f) t d⟩
def iE(t:Tr)(Q:aU):Prop:=match t with |.ag _ a=>Q a |_=>False
theorem sY{Q:aU}(h:iE t Q):∃f xs,t=.ag f xs/\Q xs:=by
 unfold iE at h;split at h
 .exact⟨_,_,rfl,h⟩
 .exact h.elim
def yv(pe:a8):iS:=λj Q=>pe j λt=>iE (aA t) λa=>Q a (bR (aA t))
theorem LW(h:bu K k te pe):lY K k (As K te) (yv pe):=λF B H j i x w c p q=>by
 refine h F B H j i _ _ c p λt v u l y p1 o=>?_
 ∎;let⟨g,d,r2⟩:=o.held;let⟨f,A,e,p1⟩:=sY p1;∎;rw[e] at r2 p1;let⟨a,vs,rfl,_,n⟩:=k7 r2;exact⟨a,rfl,⟨vs,n g l (Le.refl _) d.s λk=>(c.b k).trans d.h⟩,q _ _ _ g l p1 d (CO r2) λhn r m=>CO (R.low _ hn m.symm r2)⟩
def pR(ts:ai)(Q:ay):Prop:=match ts with |[t]=>Q t |_=>False
theorem QR{Q:ay}(h:pR ts Q):∃t,ts=[t]/\Q t:=by
 unfold pR at h;split at h
 .exact⟨_,rfl,h⟩
 .exact h.elim
def yu(a:cq):iS:=λj Q=>a j λb=>pR b λt=>iE (aA t) λd=>Q (d.mapIdx λi x=>.aP [.int i,x]) (bR (aA t))
theorem LX(h:fw K k ta pa):lY K k (AD K ta) (yu pa):=λF B H j i D C c p q=>by
 refine h F B H j i _ _ c p λG vs A m E p1 o=>?_
 ∎;let⟨t,rfl,p1⟩:=QR p1;let⟨v,rfl,x⟩:=o.r.one;let⟨l,d,r2⟩:=Out.held ⟨o.g,x,o.c,o.n⟩;let⟨f,I,e,p1⟩:=sY p1;∎;rw[e] at r2 p1;let⟨a,vs,rfl,_,w⟩:=k7 r2;exact⟨a,rfl,⟨vs,w l m (Le.refl _) d.s λk=>(c.b k).trans d.h⟩,q _ _ _ l m p1 d (CP r2) λhn y u=>CP (R.low _ hn u.symm r2)⟩
def pU(ts:ai)(Q:Tr->ay):Prop:=match ts with |[t,u]=>Q t u |_=>False
theorem QU{Q:Tr->ay}(h:pU ts Q):∃t u,ts=[t,u]/\Q t u:=by
 unfold pU at h;split at h
 .exact⟨_,_,rfl,h⟩
 .exact h.elim
theorem Rs.two(r:Rs K F B [t,u] xs cs):∃v w c d,xs=[v,w]/\R K F B t v c/\R K F B u w d/\cs=c++d:=by
 let⟨v,r,c,d,g,h,i,j,m,b,l,e,a,f,rfl,rfl⟩:=r;rw[append_nil] at a;exact⟨v,j,c,b,by rw[g,e],i,f,by rw[h,a]⟩
def yw(a:cq):iS:=λj Q=>a j λb=>pU b λt u=>iE (aA t) λd=>iE (aA u) λe=>Q (d.zipWith (λx y=>.aP [x,y]) e) (bR (aA t)&&bR (aA u))
theorem M7(h:fw K k ta pa):lY K k (Bi K ta) (yw pa):=λF B H j i I G c p q=>by
 refine h F B H j i _ _ c p λO vs E d J p1 o=>?_
 ∎;let⟨t,u,rfl,p1⟩:=QU p1;let⟨l,g,r2⟩:=o.held;let⟨v,w,L,M,rfl,r3,r4,e⟩:=Rs.two r2;∎;have z:=append_eq_nil_iff.mp e.symm;rw[z.1] at r3;rw[z.2] at r4;∎;let⟨f,Q,x,p1⟩:=sY p1;let⟨N,U,y,p1⟩:=sY p1;∎;rw[x] at r3 p1;rw[y] at r4 p1;∎;let⟨a,vs,rfl,_,C⟩:=k7 r3;let⟨r,us,rfl,_,A⟩:=k7 r4;∎;have m:∀k,aB (B k) d:=λk=>(c.b k).trans g.h
 refine⟨a,r,rfl,⟨vs,C l d (Le.refl _) g.s m⟩,⟨us,A l d (Le.refl _) g.s m⟩,q _ _ _ l d p1 g (Dz r3 r4) λhn D n=>?_⟩;rw[and_eq_true] at hn;exact Dz (R.low _ hn.1 n.symm r3) (R.low _ hn.2 n.symm r4)
def rT(ts:ai)(Q:Int->Prop):Prop:=match ts with |[.int i]=>Q i |_=>False
def vB(a:cq):iS:=λG Q=>a G λb=>rT b λj=>-1000000<=j/\j<=1000000/\Q ((List.range j.toNat).map λ(i:Nat)=>.int i) true
theorem QV(h:fw K k ta pa):lY K k (Av ta) (vB pa):=λF B H G J m f c p q=>by
 refine h F B H G J _ _ c p λu vs a e s p1 o=>?_
 unfold rT at p1;split at p1
 .rename_i j;let⟨v,rfl,rfl,_⟩:=o.r.one;have b:∀B,Src K B a (m9 0 j.toNat) ((List.range j.toNat).map λ(i:Nat)=>.int i):=λB=>by
   have:=LV (K:=K) (B:=B) (F:=a) (l:=0) (n:=Int.toNat j);simp only[Int.zero_add] at this;exact this
  exact⟨_,rfl,⋯,⋯,q _ _ _ a e p1.2.2 o.g (b B) λ_ d _=>b d⟩
 .exact p1.elim
end
section
theorem bh.mut{i:Nat}(W:bh K k lo us Fb Hb F H G J cs)(N:G[i]?=some (some v))(e:(a,o)∈cs i)(hd:ar F H ds')(hn:cS Hb ds')(E:∀p∈ds',p.1≠a)(C:∀j,j≠i->∀p∈ds',∀q∈cs j,p.1≠q.1)(B:c'.Perm ((a,o')::ds'))(O:R K F (λ_=>Hb) t' v c'):
  bh K k lo us Fb Hb F (aN H a o') G (J.set i t') (λj=>if j=i then c' else cs j):=by
 have I:=W.n i _ e;have D:=(W.c i).f _ e;have b:∀j,j≠i->∀p∈cs j,p.1≠a:=λj C p m z=>W.d j i C p m _ e z
 refine⟨⟨⟨W.g.h.m6 I,W.g.f,W.g.s.m6 D,W.g.n⟩,W.g.z⟩,W.z,by rw[length_set];exact W.l,λj u h=>?_,λj=>?_,λj=>?_,λx y ne p w q r=>?_,W.p,W.x⟩
 .by_cases ej:j=i
  .subst ej;have M:j<J.length:=by have:=(List.getElem?_eq_some_iff.mp h).1;rw[length_set] at this;exact this
   rw[getElem?_set_self M] at h;cases h;exact .inr ⟨v,N,by rw[if_pos rfl];exact O⟩
  .rw[getElem?_set_ne (λz=>ej z.symm)] at h;rw[if_neg ej];exact W.e j u h
 .split
  .refine⟨λp m=>?_,λp m=>?_,?_⟩
   .rcases mem_cons.mp (B.mem_iff.mp m) with rfl |m
    .exact cO
    .rw[aW (E p m)];exact hd.h p m
   .rcases mem_cons.mp (B.mem_iff.mp m) with rfl |m
    .exact D
    .exact hd.f p m
   .refine ((B.map (·.1)).nodup_iff).mpr ?_;rw[map_cons,nodup_cons];refine⟨λm=>?_,hd.nd⟩;let⟨p,w,e⟩:=mem_map.mp m;exact E p w e
  .rename_i ej;exact⟨λp m=>by rw[aW (b j ej p m)];exact (W.c j).h p m,(W.c j).f,(W.c j).nd⟩
 .split
  .intro p m;rcases mem_cons.mp (B.mem_iff.mp m) with rfl |m
   .exact I
   .exact hn p m
  .exact W.n j
 .have key:∀p,p∈c'->∀y,y≠i->∀q∈cs y,p.1≠q.1:=λp m y L q r=>by
   rcases mem_cons.mp (B.mem_iff.mp m) with rfl |m
   .exact (b y L q r).symm
   .exact C y L p m q r
  by_cases ex:x=i
  .have A:y≠i:=λz=>ne (ex.trans z.symm)
   rw[if_pos ex] at w;rw[if_neg A] at r;exact key p w y A q r
  .rw[if_neg ex] at w;by_cases A:y=i
   .rw[if_pos A] at r;exact (key q r x ex p w).symm
   .rw[if_neg A] at r;exact W.d x y ne p w q r
def fT(f:Str)(u:Tr):bg->bg
 |[]=>[]
 |(g,x)::r=>if g=f then (g,u)::r else (g,x)::fT f u r
def cK(t:Tr):ah->Tr
 |[]=>t
 |f::r=>match cK t r with |.ins .o _ fs=>(fs.lookup f).getD .aq |_=>.aq
def gP(t:Tr):ah->Tr->Tr
 |[],u=>u
 |f::r,u=>gP t r (match cK t r with |.ins .o c fs=>.ins .o c (fT f u fs) |y=>y)
def mQ(K:aj)(t:Tr):ah->Prop
 |[]=>True
 |f::r=>mQ K t r /\ (match cK t r with |.ins .o c fs=>(fP K c /\ a9 K c f) /\ (fs.lookup f).isSome=true |_=>False)
def tR(K:aj)(i:Nat):ah->TE
 |[]=>fS i
 |f::r=>u9 K (tR K i r) f
theorem Rf.at:∀{fs:bg}{vs:List (Str×V)}{n:Cs}{f:Str}{x:Tr},Rf K F B fs vs n->fs.lookup f=some x->∃w c pre a,vs.lookup f=some w/\R K F B x w c/\n=pre++c++a/\∀b,Le F b->∀u d,R K b B u w d->Rf K b B (fT f u fs) vs (pre++d++a)
 |(g,y)::fs,_,_,f,x,y0,h=>by
  let⟨v,r,c,d,j,o,q,s⟩:=y0;by_cases e:g=f
  .subst e;rw[List.lookup_cons_self] at h;cases h;refine⟨v,c,[],d,by rw[j,List.lookup_cons_self],q,by rw[o];rfl,λb l u i m=>?_⟩;unfold fT;rw[if_pos rfl];exact⟨v,r,i,d,j,rfl,m,s.mo l (λ_=>Le.refl _) fs⟩
  .have e':(f == g)=false:=by simpa using λz=>e z.symm
   rw[lookup_cons,e'] at h;let⟨w,G,pre,a,A,C,D,E⟩:=Rf.at (fs:=fs) s h;refine⟨w,G,c++pre,a,by rw[j,lookup_cons,e'];exact A,C,by rw[o,D];simp only[append_assoc],λb l u i m=>?_⟩;unfold fT;rw[if_neg e];exact⟨v,r,c,pre++i++a,j,by simp only[append_assoc],q.mo l (λ_=>Le.refl _) y,E b l u i m⟩
theorem place{B:Bool->Hp}(s:aB F H)(b:∀k,aB (B k) H)(O:j[i]?=some (some v))(Y:R K F B t v c0)(N:ar F H c0):∀(r:ah),mQ K t r->∃w c rest,c0.Perm (c++rest)/\R K F B (cK t r) w c/\(∀g,Le F g->∀u d,R K g B u w d->∃A,R K g B (gP t r u) v A/\A.Perm (d++rest))/\∀Q:VK,Q w H->tR K i r j H Q
 |[],_=>⟨v,c0,[],by rw[append_nil],Y,λg l u d J=>⟨d,J,by rw[append_nil]⟩,λQ q=>⟨v,O,q⟩⟩
 |f::r,ok=>by
  let⟨w,c,rest,p1,r1,cl,rd⟩:=place s b O Y N r ok.1;have E:=ok.2;split at E
  .rename_i C fs eg;∎;let⟨⟨yf,G⟩,I⟩:=E;let⟨x,U⟩:=Option.isSome_iff_exists.mp I;∎;rw[eg] at r1;∎;let⟨a,m,vs,ds,L,M,h3⟩:=r1;let⟨D,n,pre,e,a1,a2,a3,a4⟩:=h3.at U;∎;have hm:(a,HO.ins C m vs)∈c0:=p1.mem_iff.mpr (mem_append.mpr (.inl (by rw[M];exact .head _)));refine⟨D,n,(a,.ins C m vs)::(pre++e++rest),?_,?_,λg l u d J=>?_,λQ q=>?_⟩
   .refine p1.trans ?_;rw[M,a3];show List.Perm ((a,HO.ins C m vs)::((pre++n++e)++rest)) _;refine List.Perm.trans (List.Perm.cons _ ?_) (List.perm_middle.symm);rw[append_assoc pre n e,<- append_assoc,<- append_assoc,<- append_assoc];refine List.Perm.append_right _ ?_;refine List.Perm.append_right _ ?_;exact List.perm_append_comm
   .show R K F B (match cK t r with |.ins .o _ fs=>(fs.lookup f).getD .aq |_=>.aq) D n;rw[eg];show R K F B ((fs.lookup f).getD .aq) D n;rw[U];exact a2
   .obtain⟨A,b1,b2⟩:=cl g l (.ins .o C (fT f u fs)) ((a,.ins C m vs)::(pre++d++e)) ⟨a,m,vs,_,L,rfl,a4 g l u d J⟩;refine⟨A,?_,b2.trans ?_⟩
    .show R K g B (gP t r (match cK t r with |.ins .o c fs=>.ins .o c (fT f u fs) |y=>y)) v A;rw[eg];exact b1
    .show List.Perm ((a,HO.ins C m vs)::((pre++d++e)++rest)) _;refine List.Perm.trans (List.Perm.cons _ ?_) (List.perm_middle.symm);rw[append_assoc pre d e,<- append_assoc,<- append_assoc,<- append_assoc];refine List.Perm.append_right _ ?_;refine List.Perm.append_right _ ?_;exact List.perm_append_comm
   .exact rd _ ⟨a,C,m,vs,D,L,Rd.of (N.h _ hm),yf,G,a1,q⟩
  .exact E.elim
theorem bh.at(W:bh K k lo us Fb Hb F H G J cs)(ht:J[i]?=some t)(hn:t≠.aq)(r:ah)(ok:mQ K t r):∃w c,R K F (λ_=>Hb) (cK t r) w c/\(∀p∈c,p∈cs i)/\ar F H c/\(∀Q:VK,Q w H->tR K i r G H Q)/\
  ∀b B,bh K k lo us Fb Hb b B G J cs->Le F b->∀(a:ae)(o o':HO)(A ds' e:Cs)(u:Tr)(d:Cs),c=(a,o)::A->ds'.Sublist A->ar b B e->cS Hb e->(∀j,∀p∈cs j,∀q∈e,p.1≠q.1)->d.Perm ((a,o')::(ds'++e))->R K b (λ_=>Hb) u w d->∃I,bh K k lo us Fb Hb b (aN B a o') G (J.set i (gP t r u)) I:=by
 rcases W.e i t ht with z |⟨v,Y,rv⟩
 .exact absurd z hn
 .obtain⟨w,c,rest,p1,r1,cl,rd⟩:=place W.g.s (λ_=>W.g.h) Y rv (W.c i) r ok;have sub:∀{F H:Hp},ar F H (cs i)->ar F H (c++rest):=λh=>⟨λp m=>h.h p (p1.mem_iff.mpr m),λp m=>h.f p (p1.mem_iff.mpr m),((p1.map (·.1)).nodup_iff).mp h.nd⟩
  refine⟨w,c,r1,λp m=>p1.mem_iff.mpr (mem_append.mpr (.inl m)),(sub (W.c i)).left,rd,λb B y l a o o' A ds' e u d L sl he M x pd ru=>?_⟩;let⟨c1,b1,b2⟩:=cl b l u d ru;have U:=sub (y.c i);rw[L] at U;have O:(a,o)∈cs i:=p1.mem_iff.mpr (mem_append.mpr (.inl (by rw[L];exact .head _)));have D:(a ∉ (A++rest).map (·.1))/\((A++rest).map (·.1)).Nodup:=nodup_cons.mp U.nd;have N:(ds'++rest).Sublist (A++rest):=sl.append_right rest;have C:∀p∈ds'++rest,p∈cs i:=λp m=>p1.mem_iff.mpr (by rw[L];exact .tail _ (N.subset m))
  have c3:ar b B (ds'++rest):=⟨λp m=>(y.c i).h p (C p m),λp m=>(y.c i).f p (C p m),List.Sublist.nodup (N.map _) D.2⟩
  refine⟨_,y.mut (o:=o) (o':=o') (ds':=(ds'++rest)++e) Y O (c3.app he λp mp q E=>x i p (C p mp) q E) ?_ ?_ ?_ (b2.trans ((pd.append_right rest).trans ?_)) b1⟩
  .exact λp m=>(mem_append.mp m).elim (λm=>y.n i p (C p m)) (M p)
  .intro p m z;rcases mem_append.mp m with m |m
   .exact D.1 (mem_map.mpr ⟨p,N.subset m,z⟩)
   .exact x i _ O p m z.symm
  .intro j hj p m q E;rcases mem_append.mp m with m |m
   .exact y.d i j (λz=>hj z.symm) p (C p m) q E
   .exact (x j q E p m).symm
  .show List.Perm ((a,o')::((ds'++e)++rest)) ((a,o')::((ds'++rest)++e));refine List.Perm.cons _ ?_;rw[append_assoc,append_assoc];exact List.Perm.append_left _ List.perm_append_comm
end
section
def gI(K:aj)(j:ai)(i:Nat)(r:ah)(Q:Tr->(Tr->ai)->Prop):Prop:=match j[i]? with
 |some .aq=>False
 |some t=>mQ K t r /\ Q (cK t r) λu=>j.set i (gP t r u)
 |none=>False
theorem qf{Q:Tr->(Tr->ai)->Prop}(h:gI K j i r Q):∃t,j[i]?=some t/\t≠.aq/\mQ K t r/\Q (cK t r) λu=>j.set i (gP t r u):=by
 unfold gI at h;split at h
 .exact h.elim
 .rename_i t ne e;exact⟨t,e,ne,h.1,h.2⟩
 .exact h.elim
theorem Rs.set:∀{xs:ai}{vs:ax}{e:Cs}(n:Nat){t:Tr}{v:V},Rs K F B xs vs e->R K F B t v []->∃ds',Rs K F B (xs.set n t) (vs.set n v) ds'/\ds'.Sublist e
 |[],_,e,n,_,_,y,_=>by let⟨a,b⟩:=y;exact⟨[],by rw[a];exact⟨rfl,rfl⟩,by rw[b];exact List.Sublist.refl _⟩
 |x::xs,_,_,0,_,_,y,rt=>by let⟨v,r,c,d,a,b,h,f⟩:=y;exact⟨d,by rw[a];exact⟨_,r,[],d,rfl,rfl,rt,f⟩,by rw[b];exact List.sublist_append_right c d⟩
 |x::xs,_,_,n + 1,_,_,y,rt=>by
  ∎;let⟨v,r,c,d,a,b,h,f⟩:=y;let⟨g,i,j⟩:=Rs.set (xs:=xs) n f rt;∎;exact⟨c++g,by rw[a];exact⟨v,_,c,g,rfl,rfl,h,i⟩,by rw[b];exact j.append_left c⟩
theorem Rs.snoc(h:Rs K F B xs vs ds)(rt:R K F B t v e):Rs K F B (xs++[t]) (vs++[v]) (ds++e):=h.append ⟨v,[],e,[],rfl,by rw[append_nil],rt,rfl,rfl⟩
theorem bh.eE{t:Tr}{v:V}{c:Cs}(W:bh K k lo us Fb Hb F H j i cs)(o:Out K F (Bq Hb H) H F' H' t v c)(n:bR t=true):
  ∃a,bh K k lo us Fb Hb a H' j i cs/\R K a (λ_=>Hb) (aA t) v []/\Le F a:=by
 ∎;let⟨l,f⟩:=W.fresh o;let⟨d,e,b,h⟩:=(W.gr o.g).lay o.c l (o.r.plain t) f;∎;exact⟨d,e,(R.low (B':=λ_=>Hb) t n rfl o.r).aA (Le.of b) t h,Le.trans o.g.le (Le.of b)⟩
theorem sZ:cS Hb []:=λ_ m=>nomatch m
theorem sG{cs:Nat->Cs}:∀(j:Nat),∀p∈cs j,∀q∈([]:Cs),p.1≠q.1:=λ_ _ _ _ m=>nomatch m
def kS(u:Tr)(Q:aU):Prop:=match u with |.ag .o xs=>Q xs |_=>False
theorem CQ{Q:aU}(h:kS u Q):∃xs,u=.ag .o xs/\Q xs:=by
 unfold kS at h;split at h
 .exact⟨_,rfl,h⟩
 .exact h.elim
def vC(K:aj)(i:Nat)(r:ah)(pe:a8):cw:=λD j=>gI K j i r λu s=>kS u λa=>pe (j.map aG) λt=>bR t=true/\a.length<1000000/\D.nx (s (.ag .o (a++[aA t])))
theorem QX(h:bu K k te pe):cU K k lo (pH (yH K "list" zP (tR K i r) (ke te kl))) (vC K i r pe):=λus Y B F H j G cs D Q W p L=>by
 ∎;let⟨t,I,J,M,p⟩:=qf p;let⟨A,N,p⟩:=CQ p;let⟨w,c,y,sub,O,rd,cl⟩:=W.at I J r M;∎;rw[N] at y;let⟨a,vs,b,rfl,m,n⟩:=y;have s:H a=some (.ag vs):=O.h (a,.ag vs) (by rw[m];exact .head _);refine rd _ ⟨O7 s,h F (Bq B H) H j _ _ _ W.eD p λu v U l c1 q o=>?_⟩;let⟨f,C,r2,x⟩:=W.eE o q.1;have e:l a=some (.ag vs):=o.g.h _ _ s;let⟨d,E⟩:=cl f l C x a (.ag vs) (.ag (vs++[v])) b b [] (.ag .o (A++[aA u])) ((a,.ag (vs++[v]))::(b++[])) m (List.Sublist.refl _) .nil sZ sG (List.Perm.refl _) ⟨a,vs++[v],b++[],rfl,rfl,(n.mo x (λ_=>Le.refl _) A).snoc r2⟩;exact⟨a,vs,v,rfl,rfl,e,lt_of_lt_of_le (by rw[n.length];exact q.2.1) ∎,L.nx f _ j _ d E q.2.2⟩
def pD(xs:ai)(y t:Tr)(Q:aU):Prop:=match y with |.int j=>(match iQ xs.length j with |some n=>Q (xs.set n t) |none=>False) |_=>False
def vh(K:aj)(i:Nat)(r:ah)(b pe:a8):cw:=λD j=>pe (j.map aG) λt=>bR t=true/\gI K j i r λu s=>kS u λd=>b (j.map aG) λy=>pD d y (aA t) λa=>D.nx (s (.ag .o a))
theorem M8(h:bu K k te pe)(hj:bu K k tj pj):cU K k lo (kh te (A1 (tR K i r) tj AA)) (vh K i r pj pe):=λus Fb x F H j G cs D D' W p L=>by
 refine h F (Bq x H) H j _ _ _ W.eD p λu v F1 f c1 q o=>?_
 ∎;let⟨I,l,r2,l2⟩:=W.eE o q.1;let⟨t,U,Y,e3,p⟩:=qf q.2;let⟨E,eg,p⟩:=CQ p;let⟨w,c,C,sub,hc,rd,cl⟩:=l.at U Y r e3;∎;rw[eg] at C;let⟨a,vs,Q,rfl,A,B⟩:=C;have ha:f a=some (.ag vs):=hc.h (a,.ag vs) (by rw[A];exact .head _);refine rd _ (hj I (Bq x f) f j _ _ _ l.eD p λy vy s J c3 e d=>?_);unfold pD at e;split at e
 .obtain⟨rfl,_⟩:=d.r;split at e
  .rename_i n en;∎;let⟨b,N,O⟩:=(B.mo d.g.le (λ_=>Le.refl _) E).set n (r2.mo d.g.le (λ_=>Le.refl _) _);let⟨m,M⟩:=cl s J (l.gr d.g) d.g.le a (.ag vs) (.ag (vs.set n v)) Q b [] (.ag .o (E.set n (aA u))) ((a,.ag (vs.set n v))::(b++[])) A O .nil sZ sG (List.Perm.refl _) ⟨a,_,b++[],rfl,rfl,by rw[append_nil];exact N⟩;∎;exact⟨a,vs,_,n,rfl,rfl,d.g.h _ _ ha,by rw[B.length];exact en,L.nx s _ j _ m M e⟩
  .exact e.elim
 .exact e.elim
def iF(m:bE)(y:aS)(t:Tr):bE:=
 if (m.any λa=>decide (a.1=y))=true then m.map (λa=>if a.1=y then (a.1,t) else a) else m++[(y,t)]
theorem Rk.any:∀{m:bE}{vs:cy}{b:Cs}{y:aS},Rk K F B m vs b->(vs.any λa=>decide (a.1=y))=m.any λa=>decide (a.1=y)
 |[],_,_,y,y0=>by let⟨h,_⟩:=y0;rw[h];rfl
 |(k,x)::m,_,_,y,y0=>by let⟨v,r,c,d,e,g,i,f⟩:=y0;rw[e,any_cons,any_cons,Rk.any f]
theorem Rk.rep:∀{m:bE}{vs:cy}{i:Cs}{y:aS}{t:Tr}{v:V},Rk K F B m vs i->R K F B t v []->∃ds',Rk K F B (m.map (λa=>if a.1=y then (a.1,t) else a)) (vs.map (λa=>if a.1=y then (a.1,v) else a)) ds'/\ds'.Sublist i
 |[],_,_,y,_,_,y0,_=>by let⟨h,n⟩:=y0;exact⟨[],by rw[h];exact⟨rfl,rfl⟩,by rw[n];exact List.Sublist.refl _⟩
 |(k,x)::m,_,_,y,t,w,y0,rt=>by
  ∎;let⟨v,r,c,d,j,l,o,q⟩:=y0;let⟨b,f,g⟩:=Rk.rep (y:=y) q rt;∎;by_cases e:k=y
  .refine⟨b,?_,by rw[l];exact g.trans (List.sublist_append_right c d)⟩;rw[j,map_cons,map_cons];show Rk K F B ((if k=y then (k,t) else (k,x))::_) ((if k=y then (k,w) else (k,v))::_) _;rw[if_pos e,if_pos e];exact⟨w,_,[],b,rfl,rfl,rt,f⟩
  .refine⟨c++b,?_,by rw[l];exact g.append_left c⟩;rw[j,map_cons,map_cons];show Rk K F B ((if k=y then (k,t) else (k,x))::_) ((if k=y then (k,w) else (k,v))::_) _;rw[if_neg e,if_neg e];exact⟨v,_,c,b,rfl,rfl,o,f⟩
theorem Rk.append:∀{m n:bE}{vs us:cy}{c d:Cs},Rk K F B m vs c->Rk K F B n us d->Rk K F B (m++n) (vs++us) (c++d)
 |[],_,_,_,_,_,y,h=>by let⟨a,b⟩:=y;rw[a,b];exact h
 |(k,x)::m,_,_,_,_,_,y,h=>by let⟨v,r,c,d,a,b,e,f⟩:=y;rw[a,b];exact⟨v,r ++ _,c,d ++ _,rfl,by rw[append_assoc],e,Rk.append f h⟩
theorem Rk.put(h:Rk K F B m vs ds)(rt:R K F B t v []):∃ds',Rk K F B (iF m y t) (gO vs y v) ds'/\ds'.Sublist ds:=by
 unfold iF gO;rw[h.any];split
 .exact h.rep rt
 .exact⟨ds++[],h.append ⟨v,[],[],[],rfl,rfl,rt,rfl,rfl⟩,by rw[append_nil];exact List.Sublist.refl _⟩
theorem LY(n:(m.map (·.1)).Nodup)(y:aS)(t:Tr):((iF m y t).map (·.1)).Nodup:=by
 unfold iF;split
 .have e:(m.map λd=>if d.1=y then (d.1,t) else d).map (·.1)=m.map (·.1):=by
   rw[map_map];refine map_congr_left λp _=>?_
   show (if p.1=y then (p.1,t) else p).1=p.1;split<;>rfl
  rw[e];exact n
 .rename_i h;rw[map_append,nodup_append];refine⟨n,nodup_cons.mpr ⟨λz=>(nomatch z),nodup_nil⟩,λa f b g e=>h ?_⟩;let⟨p,i,rfl⟩:=mem_map.mp f;rw[mem_singleton.mp g] at e;exact any_eq_true.mpr ⟨p,i,decide_eq_true e⟩
def pE(u:Tr)(Q:bE->Prop):Prop:=match u with |.aR .o xs=>Q xs |_=>False
theorem M9{Q:bE->Prop}(h:pE u Q):∃xs,u=.aR .o xs/\Q xs:=by
 unfold pE at h;split at h
 .exact⟨_,rfl,h⟩
 .exact h.elim
def ko(y:Tr)(Q:aS->Prop):Prop:=match vT y with |some y=>Q y |none=>False
def vD(K:aj)(i:Nat)(r:ah)(a pe:a8):cw:=λD j=>pe (j.map aG) λt=>bR t=true/\gI K j i r λu s=>pE u λm=>a (j.map aG) λy=>ko y λy=>m.length<1000000/\D.nx (s (.aR .o (iF m y (aA t))))
theorem QY(h:bu K k te pe)(hj:bu K k tj pj):cU K k lo (Ay (tR K i r) tj te) (vD K i r pj pe):=λus Fb x F H j G cs D D' W p L=>by
 refine h F (Bq x H) H j _ _ _ W.eD p λu v F1 f c1 q o=>?_
 ∎;let⟨E,l,r2,l2⟩:=W.eE o q.1;let⟨t,Q,U,Y,p⟩:=qf q.2;let⟨m,eg,p⟩:=M9 p;let⟨w,c,C,sub,hc,rd,cl⟩:=l.at Q U r Y;∎;rw[eg] at C;let⟨a,vs,O,rfl,A,B,h4⟩:=C;have ha:f a=some (.dK vs):=hc.h (a,.dK vs) (by rw[A];exact .head _);refine rd _ (hj E (Bq x f) f j _ _ _ l.eD p λy vy s I c3 e d=>?_);unfold ko at e;split at e
 .rename_i yk ey;obtain rfl:=tI d.r ey;∎;let⟨b,M,N⟩:=(B.mo d.g.le (λ_=>Le.refl _) m).put (y:=yk) (r2.mo d.g.le (λ_=>Le.refl _) _);let⟨n,J⟩:=cl s I (l.gr d.g) d.g.le a (.dK vs) (.dK (gO vs yk v)) O b [] (.aR .o (iF m yk (aA u))) ((a,.dK (gO vs yk v))::(b++[])) A N .nil sZ sG (List.Perm.refl _) ⟨a,_,b++[],rfl,rfl,by rw[append_nil];exact M,LY h4 _ _⟩;∎;exact⟨a,_,rfl,jf.k (d.g.h _ _ ha) (lt_of_lt_of_le (by rw[B.length];exact e.1) ∎),L.nx s _ j _ n J e.2⟩
 .exact e.elim
def vi:a8:=λ_ Q=>Q (.aR .o [])
theorem NF:bu K k z4 vi:=λF B H j i Q d c p q a b=>q _ _ F _ _ p ⟨Gr.kI c.s b,⟨a,[],[],rfl,rfl,⟨rfl,rfl⟩,nodup_nil⟩,sU c.s .nil b,λp m=>by
 cases m with
 |head=>exact b
 |tail _ m=>nomatch m⟩
def gQ(f:Str)(u:Tr):bg->bg
 |[]=>[(f,u)]
 |(g,x)::r=>if g=f then (g,u)::r else (g,x)::gQ f u r
theorem Rf.put:∀{fs:bg}{vs:List (Str×V)}{h:Cs}{f:Str}{t:Tr}{v:V}{e:Cs},Rf K F B fs vs h->R K F B t v e->∃ds' d,Rf K F B (gQ f t fs) (eP f v vs) d/\ds'.Sublist h/\d.Perm (ds'++e)
 |[],_,_,f,t,v,e,y,rt=>by let⟨a,b⟩:=y;exact⟨[],e,by rw[a];exact⟨v,[],e,[],rfl,by rw[append_nil],rt,rfl,rfl⟩,by rw[b];exact List.Sublist.refl _,List.Perm.refl _⟩
 |(g,x)::fs,_,_,f,t,w,e,y,rt=>by
  let⟨v,r,c,d,a,b,j,i⟩:=y;by_cases z:g=f
  .refine⟨d,e++d,?_,by rw[b];exact List.sublist_append_right c d,List.perm_append_comm⟩;rw[a];show Rf K F B (if g=f then (g,t)::fs else _) (if g=f then (g,w)::r else _) _;rw[if_pos z,if_pos z];exact⟨w,r,e,d,rfl,rfl,rt,i⟩
  .obtain⟨d',d2,a1,a2,a3⟩:=Rf.put (f:=f) i rt;refine⟨c++d',c++d2,?_,by rw[b];exact a2.append_left c,by rw[append_assoc];exact a3.append_left c⟩;rw[a];show Rf K F B (if g=f then _ else (g,x)::gQ f t fs) (if g=f then _ else (g,v)::eP f w r) _;rw[if_neg z,if_neg z];exact⟨v,_,c,d2,rfl,rfl,j,a1⟩
theorem Rf.length:∀{fs:bg}{vs:List (Str×V)}{a:Cs},Rf K F B fs vs a->vs.length=fs.length
 |[],_,_,y=>by let⟨h,_⟩:=y;rw[h];rfl
 |(k,x)::xs,_,_,y=>by let⟨v,r,c,d,b,f,g,e⟩:=y;rw[b,length_cons,length_cons,Rf.length e]
def lV(K:aj)(f:Str)(u:Tr)(Q:ae->bg->Prop):Prop:=match u with |.ins .o c fs=>(fP K c/\a9 K c f)/\fs.length<900/\Q c fs |_=>False
theorem CS{Q:ae->bg->Prop}(h:lV K f u Q):∃c fs,u=.ins .o c fs/\(fP K c/\a9 K c f)/\fs.length<900/\Q c fs:=by
 unfold lV at h;split at h
 .exact⟨_,_,rfl,h⟩
 .exact h.elim
def vj(K:aj)(i:Nat)(r:ah)(f:Str)(pe:a8):cw:=λD j=>pe (j.map aG) λt=>bR t=true/\gI K j i r λu s=>lV K f u λc fs=>D.nx (s (.ins .o c (gQ f t fs)))
theorem NG(h:bu K k te pe):cU K k lo (vN K (tR K i r) te f) (vj K i r f pe):=λus Fb s F H j G cs D D' W p L=>by
 refine h F (Bq s H) H j _ _ _ W.eD p λu v m n N q o=>?_
 have x:=W.gr o.g;∎;let⟨n1,O⟩:=W.fresh o;let⟨t,U,Y,e3,p⟩:=qf q.2;let⟨C,fs,eg,ok,hl,p⟩:=CS p;let⟨w,c,B,sub,hc,rd,cl⟩:=x.at U Y r e3;∎;rw[eg] at B;let⟨a,b,vs,Q,rfl,y,A⟩:=B;have ha:n a=some (.ins C b vs):=hc.h (a,.ins C b vs) (by rw[y];exact .head _);∎;let⟨l,d,I,J,M⟩:=A.put (f:=f) (R.low (B':=λ_=>s) u q.1 rfl o.r);let⟨e,E⟩:=cl m n x (Le.refl _) a (.ins C b vs) (.ins C b (eP f v vs)) Q l N (.ins .o C (gQ f u fs)) ((a,.ins C b (eP f v vs))::d) y J o.c n1 O (List.Perm.cons _ M) ⟨a,b,_,d,rfl,rfl,I⟩;∎;exact rd _ ⟨a,C,b,vs,rfl,ha,ok.1,ok.2,lt_of_lt_of_le (by rw[A.length];exact hl) ∎,L.nx m _ j _ e E p⟩
end
section
theorem QZ{Hb:Hp}(h:Hb a=none\/Hb a=some (.dK vs)):Le (fz Hb a (.aA ob (.dK vs))) Hb:=λb u n r=>by
 by_cases e:b=a
 .subst e;rcases h with h |h
  .rcases r with r |⟨o,r⟩<;>(rw[gg,if_pos h] at r;cases r)
  .have z:fz Hb b (.aA ob (.dK vs)) b=some (.aA ob (.dK vs)):=by rw[gg,if_neg (by rw[h];intro z;cases z)]
   rcases r with r |⟨o,r⟩
   .rw[z] at r;cases r;exact absurd rfl (n _ _)
   .rw[z] at r;cases r;exact .inl h
 .rcases r with r |⟨o,r⟩
  .rw[fE e] at r;exact .inl r
  .rw[fE e] at r;exact .inr ⟨o,r⟩
def iZ:aS->Tr |.inl n=>.int n |.inr s=>.str s
inductive Wm where |it |ks |vs
def wit:Wm->aS×Tr->Tr
 |.it,p=>.aP [iZ p.1,p.2]
 |.ks,p=>iZ p.1
 |.vs,p=>p.2
def pF(t:Tr)(Q:bE->Prop):Prop:=match t with |.aR .f m=>Q m |_=>False
theorem Rk.cZ:∀{m:bE}{vs:cy}{i:Nat}{y:aS}{v:V},Rk K F B m vs []->vs[i]?=some (y,v)->∃t,m[i]?=some (y,t)/\R K F B t v []
 |[],_,i,y,v,y0,e=>by let⟨h,_⟩:=y0;rw[h] at e;cases e
 |(y',x)::m,_,0,y,v,y0,e=>by
  let⟨u,r,c,d,a,b,f,g⟩:=y0;rw[a] at e;cases e;have z:=append_eq_nil_iff.mp b.symm;rw[z.1] at f;exact⟨x,rfl,f⟩
 |(y',x)::m,_,i + 1,y,v,y0,e=>by
  let⟨u,r,c,d,a,b,f,g⟩:=y0;rw[a] at e;have z:=append_eq_nil_iff.mp b.symm;rw[z.2] at g;exact Rk.cZ (i:=i) g e
theorem E1:R K F B (iZ y) (kV y) []:=by
 cases y with
 |inl n=>exact⟨rfl,rfl⟩
 |inr n=>exact⟨rfl,rfl⟩
end
section
def AI(K:aj):ax->Hp->VK->Prop:=λb H Q=>(λb H Q=>∃x n,b=[x]/\A7 K x H n/\Q (.int n) H) b H Q\/(λb H Q=>∃a d,b=[V.ref a]/\H a=some (.dK d)/\Q (.int d.length) H) b H Q
theorem e5:bU X (.builtin "len") (AI X.K):=F0.or KU
def Ac(K:aj):ax->Hp->VK->Prop:=λb H Q=>(λb H Q=>∃p e,b=[.ref p]/\(bG K H p e\/c8 K H p e)/\∀l,H l=none->Q (.ref l) (aN H l (.ag e))) b H Q\/(λb H Q=>∃a d,b=[.ref a]/\Rd H a (.dK d)/\∀p,H p=none->Q (.ref p) (aN H p (.ag (d.map λf=>kV f.1)))) b H Q
theorem iI(a:X.calm=true):bU X (.type "list") (Ac X.K):=uR.or (Ks a)
def Bo(K:aj):R2:=λx y H Q=>qR K false x y H Q\/pN false x y H Q
theorem yE(a:X.A.units+1<cLine:=by assumption):b9 X (compareOp .In) (Bo X.K):=F7.or (SO a)
def zQ(K:aj):R2:=λx y H Q=>qR K true x y H Q\/pN true x y H Q
theorem w5(a:X.A.units+1<cLine:=by assumption):b9 X (compareOp .NotIn) (zQ X.K):=FZ.or (LR a)
def Bp(K:aj):V->bI->bI->Hp->VK->Prop:=λx l h H Q=>Bf K x l h H Q\/Bh x l h H Q
theorem T9:kN X (Bp X.K):=Gf.or SE
end
section
def nL(k:Bool)(ts:ai)(Q:ay):Prop:=match ts with
 |[.str x]=>x.length <= 1000000 /\ Q (.int x.length)
 |[.ag _ xs]=>Q (.int xs.length)
 |[.aP xs]=>Q (.int xs.length)
 |[.aR .f m]=>k=true /\ Q (.int m.length)
 |[.aR .o m]=>Q (.int m.length)
 |_=>False
theorem e7:kL K k (AI K) (nL k.z):=λF B H u o n Q l s b z r g p q=>by
 unfold nL at p;split at p
 .obtain⟨v,rfl,rfl,_⟩:=r.one;exact .inl ⟨_,_,rfl,⟨ky p.1,rfl⟩,q _ _ F H [] p.2 (Gr.aJ s) ⟨rfl,rfl⟩ .nil λ_ m=>nomatch m⟩
 .obtain⟨v,rfl,r1⟩:=r.one;let⟨a,vs,i,rfl,e,d,_⟩:=r1.cM s b g;exact .inl ⟨_,_,rfl,.inl ⟨vs,e,rfl⟩,q (.int vs.length) _ F H [] (by rw[<- d.length] at p;exact p) (Gr.aJ s) ⟨rfl,rfl⟩ .nil λ_ m=>nomatch m⟩
 .obtain⟨v,rfl,r1⟩:=r.one;let⟨a,vs,rfl,e,d⟩:=r1.dw s;exact .inl ⟨_,_,rfl,.inr ⟨vs,e,rfl⟩,q (.int vs.length) _ F H [] (by rw[<- d.length] at p;exact p) (Gr.aJ s) ⟨rfl,rfl⟩ .nil λ_ m=>nomatch m⟩
 .obtain⟨v,rfl,r1⟩:=r.one;let⟨_,a,vs,rfl,d,f,j⟩:=r1;exact .inr ⟨a,vs,rfl,s _ _ (qm (z p.1) d),q (.int vs.length) _ F H [] (by rw[<- f.length] at p;exact p.2) (Gr.aJ s) ⟨rfl,rfl⟩ .nil λ_ m=>nomatch m⟩
 .obtain⟨v,rfl,r1⟩:=r.one;let⟨a,vs,i,rfl,d,f,j⟩:=r1;exact .inr ⟨a,vs,rfl,g.h (a,.dK vs) (by rw[d];exact .head _),q (.int vs.length) _ F H [] (by rw[<- f.length] at p;exact p) (Gr.aJ s) ⟨rfl,rfl⟩ .nil λ_ m=>nomatch m⟩
 .exact p.elim
theorem Rk.lE:∀{m:bE}{vs:cy}{a:Cs},Rk K F B m vs a->Rs K F B (m.map λp=>iZ p.1) (vs.map λf=>kV f.1) []
 |[],_,_,y=>by let⟨h,_⟩:=y;rw[h];exact⟨rfl,rfl⟩
 |(y,x)::m,_,_,y0=>by let⟨v,r,c,d,b,g,i,e⟩:=y0;rw[b];exact⟨kV y,_,[],[],rfl,rfl,E1,Rk.lE e⟩
theorem sN{xs:ai}{vs:ax}{cs cx:Cs}{p:ae}{Q:VK}{d:ay}(s:aB F H)(r:Rs K F B xs vs cs)(c:ar F H cs)(sub:∀p∈cs,p∈cx)(e:H p=none)(h:d (.ag .o xs))(q:∀t v a b cs,d t->Gr F H a b->R K a B t v cs->ar a b cs->(∀p∈cs,H p.1=none\/p∈cx)->Q v b):Q (.ref p) (aN H p (.ag vs)):=by
 let⟨f,g,i⟩:=mw s r c e;refine q _ _ F _ _ h f g i λp m=>?_
 cases m with
 |head=>exact .inl e
 |tail _ m=>exact .inr (sub p m)
def rW(ts:ai)(Q:ay):Prop:=match ts with
 |[.ag _ xs]=>Q (.ag .o xs)
 |[.aP xs]=>Q (.ag .o xs)
 |[.aR _ m]=>Q (.ag .o (m.map λp=>iZ p.1))
 |_=>False
theorem iy:kL K k (Ac K) rW:=λF B H w u o Q n s b z r g p q=>by
 unfold rW at p;split at p
 .obtain⟨v,rfl,r1⟩:=r.one;let⟨a,vs,j,rfl,d,e,h,i⟩:=r1.cM s b g;exact .inl ⟨_,_,rfl,.inl d,λl f=>sN s e h i f p q⟩
 .obtain⟨v,rfl,r1⟩:=r.one;let⟨a,vs,rfl,d,e⟩:=r1.dw s;exact .inl ⟨_,_,rfl,.inr d,λl f=>sN s e g (λ_ m=>m) f p q⟩
 .obtain⟨v,rfl,r1⟩:=r.one;let⟨a,vs,j,rfl,d,e,h,i⟩:=r1.iO s b g;exact .inr ⟨_,_,rfl,d,λl f=>sN s e.lE .nil (λ_ m=>nomatch m) f p q⟩
 .exact p.elim
def Q7:Tr->Option String
 |.int _=>some "int" |.bl _=>some "bool" |.str _=>some "str" |.aE=>some "NoneType" |.aP _=>some "tuple" |.ag _ _=>some "list" |.aR _ _=>some "dict" |_=>none
def Hq:Tr->dZ
 |.ty n=>some (.type n) |.cl a=>some (.ref a) |_=>none
def yL(K:aj)(ts:ai)(Q:ay):Prop:=match ts with
 |[x,c]=>(match Q7 x,Hq c with |some t,some u=>∃b,W.kitOne K (.type t) u=some b /\ Q (.bl b) |_,_=>False)
 |_=>False
theorem S2:kL K k (λxs H Q=>∃x c t b u,xs=[x,c]/\jB K H x t/\se c=some u/\W.kitOne K t u=some b/\Q (.bl b) H) (yL K):=λF B H xs G D Q A s b z r h p q=>by
 unfold yL at p;split at p
 .rename_i x c;let⟨v,w,C,E,rfl,d,r2,e⟩:=r.two;rw[e] at h;split at p
  .rename_i t u e1 e2;let⟨i,l,p⟩:=p;have y:se w=some u:=by
    cases c with
    |ty n=>cases e2;rw[r2.1];rfl
    |cl a=>cases e2;rw[r2.1];rfl
    |_=>cases e2
   have o:jB K H v (.type t):=by
    cases x with
    |int n=>cases e1;rw[d.1];exact RB
    |bl n=>cases e1;rw[d.1];exact TB
    |str n=>cases e1;rw[d.1];exact RC
    |aE=>cases e1;rw[d.1];exact SD
    |aP xs=>cases e1;let⟨a,vs,rfl,g,_⟩:=d.dw s;exact Ry g
    |ag f xs=>cases e1;let⟨a,vs,j,rfl,g,_⟩:=d.cM s b h.left;exact Rz g
    |aR f xs=>cases e1;let⟨a,vs,j,rfl,g,_⟩:=d.iO s b h.left;exact RA g
    |_=>cases e1
   exact⟨v,w,_,i,u,rfl,o,y,l,q _ _ F H [] p (Gr.aJ s) ⟨rfl,rfl⟩ .nil λ_ m=>nomatch m⟩
  .exact p.elim
 .exact p.elim
def lW:Tr->Bool
 |.int _=>true |.bl _=>true |.str _=>true |.aE=>true |_=>false
def nM:Tr->V
 |.int n=>.int n |.bl b=>.bl b |.str x=>.str x |_=>.aE
theorem xv(r:R K F B t v cs)(h:lW t=true):v=nM t/\jH v=true:=by
 cases t with
 |int n=>rw[r.1];exact⟨rfl,rfl⟩
 |bl n=>rw[r.1];exact⟨rfl,rfl⟩
 |str n=>rw[r.1];exact⟨rfl,rfl⟩
 |aE=>rw[r.1];exact⟨rfl,rfl⟩
 |_=>cases h
theorem w6:∀{ts:ai}{vs:ax}{cs:Cs},Rs K F B ts vs cs->ts.all lW=true->vs=ts.map nM/\vs.all jH=true
 |[],_,_,⟨h,_⟩,_=>by rw[h];exact⟨rfl,rfl⟩
 |x::xs,_,_,⟨v,r,c,d,h1,h2,h3,h4⟩,h=>by
  rw[all_cons,and_eq_true] at h;let⟨a,e⟩:=xv h3 h.1;let⟨b,f⟩:=w6 h4 h.2;rw[h1,b,a];exact⟨rfl,by rw[all_cons,<- b,f,<- a,e];rfl⟩
def oA(x:Tr)(xs:ai):Bool:=ug (nM x) (xs.map nM)
def oH(neg:Bool)(x y:Tr)(Q:ay):Prop:=match y with
 |.ag _ a=>lW x=true /\ a.all lW=true /\ Q (.bl (if neg=true then !oA x a else oA x a))
 |.aP a=>lW x=true /\ a.all lW=true /\ Q (.bl (if neg=true then !oA x a else oA x a))
 |.aR _ m=>ko x λy=>Q (.bl (if neg=true then !(look m y).isSome else (look m y).isSome))
 |_=>False
theorem DA:ed K k (λx y H Q=>qR K neg x y H Q\/pN neg x y H Q) (oH neg):=λF B H x y E ty A C Q w s b z j l D n hd p q=>by
 unfold oH at p;split at p
 .obtain⟨h1,h2,p⟩:=p;∎;let⟨a,vs,o,rfl,d,g,_⟩:=l.cM s b n;let⟨e,f⟩:=xv j h1;let⟨h,i⟩:=w6 g h2;∎;refine .inl ⟨a,vs,rfl,.inl d,f,i,q _ _ F H [] p (Gr.aJ s) ⟨?_,rfl⟩ .nil λ_ m=>nomatch m⟩;rw[e,h];cases neg<;>rfl
 .obtain⟨h1,h2,p⟩:=p;∎;let⟨a,vs,rfl,d,g⟩:=l.dw s;let⟨e,f⟩:=xv j h1;let⟨h,i⟩:=w6 g h2;∎;refine .inl ⟨a,vs,rfl,.inr d,f,i,q _ _ F H [] p (Gr.aJ s) ⟨?_,rfl⟩ .nil λ_ m=>nomatch m⟩;rw[e,h];cases neg<;>rfl
 .obtain⟨a,vs,o,rfl,d,g,g3,_⟩:=l.iO s b n;unfold ko at p;split at p
  .rename_i yk ey;obtain rfl:=tI j ey;rcases g.look yk g3 with⟨r,v⟩ |⟨x,u,c,e,f,_⟩
   .refine .inr ⟨a,none,rfl,.inl ⟨vs,yk,d,rfl,v.symm⟩,q _ _ F H [] p (Gr.aJ s) ⟨?_,rfl⟩ .nil λ_ m=>nomatch m⟩;rw[r];cases neg<;>rfl
   .refine .inr ⟨a,some u,rfl,.inl ⟨vs,yk,d,rfl,f.symm⟩,q _ _ F H [] p (Gr.aJ s) ⟨?_,rfl⟩ .nil λ_ m=>nomatch m⟩;rw[e];cases neg<;>rfl
  .exact p.elim
 .exact p.elim
theorem xw:ed K k (Bo K) (oH false):=DA
theorem v7:ed K k (zQ K) (oH true):=DA
def add(K:aj)(f:Str)(x:Tr)(Q:ay):Prop:=match x with
 |.ins _ c fs=>(fP K c /\ a9 K c f) /\ (match fs.lookup f with |some t=>Q t |none=>False)
 |_=>False
theorem Rf.look:∀{fs:bg}{vs:List (Str×V)}{a:Cs}{f:Str}{x:Tr},Rf K F B fs vs a->ar F H a->fs.lookup f=some x->∃u c,vs.lookup f=some u/\R K F B x u c/\ar F H c/\∀p∈c,p∈a:=λ{fs vs a f x} h d e=>by
 let⟨w,c,pre,g,i,j,b,_⟩:=h.at e;rw[b] at d;exact⟨w,c,i,j,d.left.right,λp m=>by rw[b];exact mem_append.mpr (.inl (mem_append.mpr (.inr m)))⟩
theorem Q0(h:bu K k te pe):bu K k (u9 K te f) (p1 (add K f) pe):=λF B H j i Q L c p q=>by
 refine h F B H j i _ _ c p λx v l o M p1 e=>?_
 unfold add at p1;split at p1
 .obtain⟨ok,p1⟩:=p1;split at p1
  .rename_i t et;∎;let⟨a,D,vs,N,rfl,E,G,I,J⟩:=e.r.mL e.g.s (λk=>(c.b k).trans e.g.h) e.c;let⟨u,d,w,y,A,C⟩:=G.look I et;∎;exact⟨a,_,D,vs,u,rfl,E,ok.1,ok.2,w,q _ _ l o d p1 ⟨e.g,y,A,λp m=>e.n p (J p (C p m))⟩⟩
  .exact p1.elim
 .exact p1.elim
def rX(x y z:Tr)(Q:ay):Prop:=match x with
 |.aR _ m=>ko y λy=>Q ((look m y).getD z)
 |_=>False
def p3(e:Tr->Tr->Tr->(ay)->Prop)(a b d:a8):a8:=λj Q=>a j λx=>(match x with |.aR _ _=>True |_=>False)/\b j λy=>d j λz=>e x y z Q
theorem NH(ha:bu K k ta pa)(hb:bu K k tb pb)(hc:bu K k tc pc):bu K k (z5 ta tb tc) (p3 rX pa pb pc):=λF B H j i Q Q' c p q=>by
 refine ha F B H j i _ _ c p λx v J M c1 p1 l=>?_
 let⟨hx,p1⟩:=p1;cases x with
 |aR f m=>
  have bB:∀{G},aB H G->∀k,aB (B k) G:=λs k=>(c.b k).trans s
  let⟨a,vs,ds,rfl,I,h2,h3,h4⟩:=l.r.iO l.g.s (bB l.g.h) l.c;refine⟨a,rfl,.inl ⟨vs,I⟩,hb J B M j i _ _ (c.gr l.g) p1 λy u L N c2 p2 A=>?_⟩;refine hc L B N j i _ _ ((c.gr l.g).gr A.g) p2 λz w E D c3 p3 C=>?_
  have e:=A.g.trans' C.g;unfold rX ko at p3;dsimp only at p3;split at p3
  .rename_i yk ey;obtain rfl:=tI A.r ey;have o:Rd D a (.dK vs):=(e.h).rd I;rcases (h2.mo e.le (λk=>Le.refl _) m).look yk (h3.gr e) with⟨z1,z2⟩ |⟨x,u,d,O,U,Y,a4,a5⟩
   .rw[z1] at p3;exact⟨none,.inl ⟨vs,yk,o,rfl,z2.symm⟩,q _ _ E D c3 p3 ⟨l.g.trans' e,C.r,C.c,C.n.back (l.g.h.trans A.g.h)⟩⟩
   .rw[O] at p3;exact⟨some u,.inl ⟨vs,yk,o,rfl,U.symm⟩,q _ _ E D d p3 ⟨l.g.trans' e,Y,a4,λp m=>l.n p (h4 p (a5 p m))⟩⟩
  .exact p3.elim
 |_=>exact hx.elim
abbrev nh:=ai->(bI->Prop)->Prop
def pW(K:aj)(k:Md)(f:TO)(pe:nh):Prop:=∀(F:Hp)(B:Bool->Hp)(H:Hp)(j:St)(i:ai)(Q:bI->Hp->Prop)(d:bI->Prop),fo K k F B H j i->pe i d->(∀b e a,d b->Gr F H e a->Q b a)->f j H Q
def yx:nh:=λ_ Q=>Q none
def yy(pe:a8):nh:=λj Q=>pe j λx=>match x with |.int i=>Q (some i) |_=>False
theorem S3:pW K k zN yx:=λF B H j i Q a c p q=>q none F H p (Gr.aJ c.s)
theorem S4(h:bu K k te pe):pW K k (Az te) (yy pe):=λF B H j i Q e c p q=>by
 refine h F B H j i _ _ c p λx v b d f p1 a=>?_
 split at p1
 .obtain⟨rfl,_⟩:=a.r;exact⟨_,rfl,q _ b d p1 a.g⟩
 .exact p1.elim
def iG{j:Type}(xs:List j)(l h:bI):List j:=(xs.drop (HT.dQ xs.length 0 l)).take (HT.dQ xs.length xs.length h - HT.dQ xs.length 0 l)
theorem Rs.drop:∀(n:Nat){xs:ai}{vs:ax}{a:Cs},Rs K F B xs vs a->ar F H a->∃d,Rs K F B (xs.drop n) (vs.drop n) d/\ar F H d/\∀p∈d,p∈a
 |0,_,_,a,h,hc=>⟨a,h,hc,λ_ m=>m⟩
 |n + 1,[],_,a,y,_=>by let⟨b,e⟩:=y;exact⟨[],by rw[b];exact⟨rfl,rfl⟩,.nil,λ_ m=>nomatch m⟩
 |n + 1,x::xs,_,_,y,hc=>by
  let⟨v,r,c,d,b,e,o,l⟩:=y;rw[e] at hc;let⟨j,f,g,i⟩:=Rs.drop n l hc.right;exact⟨j,by rw[b];exact f,g,λp m=>by rw[e];exact mem_append.mpr (.inr (i p m))⟩
theorem Rs.take:∀(n:Nat){xs:ai}{vs:ax}{a:Cs},Rs K F B xs vs a->ar F H a->∃d,Rs K F B (xs.take n) (vs.take n) d/\ar F H d/\∀p∈d,p∈a
 |0,_,_,a,h,hc=>⟨[],⟨rfl,rfl⟩,.nil,λ_ m=>nomatch m⟩
 |n + 1,[],_,a,y,_=>by let⟨b,e⟩:=y;exact⟨[],by rw[b];exact⟨rfl,rfl⟩,.nil,λ_ m=>nomatch m⟩
 |n + 1,x::xs,_,_,y,hc=>by
  let⟨v,r,c,d,b,e,l,o⟩:=y;rw[e] at hc;let⟨g,i,j,f⟩:=Rs.take n o hc.right;refine⟨c++g,by rw[b];exact⟨v,_,c,g,rfl,rfl,l,i⟩,hc.left.app j λp s q u=>?_,λp m=>by rw[e];exact (mem_append.mp m).elim (λm=>mem_append.mpr (.inl m)) λm=>mem_append.mpr (.inr (f p m))⟩;have:=hc.nd;rw[map_append,nodup_append] at this;exact this.2.2 _ (mem_map.mpr ⟨p,s,rfl⟩) _ (mem_map.mpr ⟨q,f q u,rfl⟩)
def uB(x:Tr)(l h:bI)(Q:ay):Prop:=match x with
 |.ag _ a=>Q (.ag .o (iG a l h))
 |.str x=>x.length <= 1000000 /\ Q (.str (Txt.slice x l h))
 |_=>False
def yo(pe:a8)(pl a:nh):a8:=λj Q=>pe j λx=>pl j λl=>a j λh=>uB x l h Q
theorem S5(h:bu K k te pe)(hl:pW K k tl pl)(Y:pW K k th ph):bu K k (Fh (Bp K) te tl th) (yo pe pl ph):=λF B H j i Q Q' c p q=>by
 refine h F B H j i _ _ c p λx v A D c1 p1 e=>?_
 refine hl A B D j i _ _ (c.gr e.g) p1 λl C E p2 y=>?_
 refine Y C B E j i _ _ ((c.gr e.g).gr y) p2 λh w G p3 U=>?_
 have d:=y.trans' U;have o:=(c.gr e.g).gr d;have r3:=e.r.mo d.le (λk=>Le.refl (B k)) x;have u:=e.c.gr d;unfold uB at p3;split at p3
 .obtain⟨a,vs,ds,rfl,h1,h2,h3,h4⟩:=r3.cM o.s o.b u;refine .inl ⟨a,vs,rfl,h1,λl' f=>?_⟩;∎;let⟨d1,I,J,L⟩:=h2.drop (HT.dQ vs.length 0 l) h3;let⟨d2,M,N,O⟩:=I.take (HT.dQ vs.length vs.length h - HT.dQ vs.length 0 l) J;let⟨n1,n2,n3⟩:=mw o.s M N f;∎;refine q _ _ w _ _ p3 ⟨(e.g.trans' d).trans' n1,?_,n3,λp m=>?_⟩
  .unfold iG;rw[<- h2.length];exact n2
  .cases m with
   |head=>exact (e.g.h.trans d.h).free f
   |tail _ m=>exact e.n p (h4 p (L p (O p m)))
 .obtain⟨rfl,_⟩:=r3;exact .inr ⟨_,rfl,ky p3.1,q _ _ w G [] p3.2 ⟨e.g.trans' d,⟨rfl,rfl⟩,.nil,.nil⟩⟩
 .exact p3.elim
end
section
def jG(ix:br)(j:ai):ai:=ix.map λo=>match o with |none=>.aq |some i=>(j[i]?).getD .aq
theorem dE.pick(e:dE K F B G J):dE K F B (dB ix G) (jG ix J):=λj t h=>by
 unfold jG at h;rw[getElem?_map] at h;cases q:ix[j]? with
 |none=>rw[q] at h;cases h
 |some o=>
  rw[q] at h;cases o with
  |none=>cases h;exact .inl rfl
  |some i=>
   cases z:J[i]? with
   |none=>
    have h:some ((J[i]?).getD .aq)=some t:=h;rw[z] at h;cases h;exact .inl rfl
   |some u=>
    have h:some ((J[i]?).getD .aq)=some t:=h;rw[z] at h;cases h;refine (e i u z).imp id λa=>?_
    let⟨v,b,d⟩:=a;refine⟨v,?_,d⟩;unfold dB;rw[getElem?_map,q];show some ((G[i]?).getD none)=_;rw[b];rfl
theorem qu:∀{a b:St},a.length=b.length->(∀(i:Nat)(v:V),a[i]?=some (some v)->b[i]?=some (some v))->Wk a b
 |[],[],_,_=>.nil
 |[],_::_,h,_=>by cases h
 |_::_,[],h,_=>by cases h
 |none::a,y::b,h,g=>.aE (qu (Nat.succ.inj h) λi v e=>g (i + 1) v e)
 |some x::a,y::b,h,g=>by
  have e:=g 0 x rfl;cases e;exact .uy (qu (Nat.succ.inj h) λi v e=>g (i+1) v e)
def kY(K:aj)(js:List Nat)(e:TG)(pg:eu):Prop:=∀(F:Hp)(B:Bool->Hp)(H:Hp)(j:St)(G:ai)(x:V)(t:Tr)(Q:St->Hp->Prop)(d:aU),aB F H->dE K F B j G->j.length=G.length->R K F B t x []->pg t G d->(∀a b,dE K F B a b->a.length=b.length->a.length=j.length->(∀i,i ∉ js->a[i]?=j[i]?)->d b->Q a H)->e x j H Q
theorem dE.set(e:dE K F B G J)(d:G.length=J.length)(r:R K F B t x []):dE K F B (G.set i (some x)) (J.set i t):=λj u h=>by
 by_cases a:j=i
 .subst a;have b:j<J.length:=by have:=EZ h;rw[length_set] at this;exact this
  rw[getElem?_set_self b] at h;cases h;exact .inr ⟨x,getElem?_set_self (by rw[d];exact b),r⟩
 .rw[getElem?_set_ne (λz=>a z.symm)] at h;exact (e j u h).imp id λ⟨v,h1,h2⟩=>⟨v,by rw[getElem?_set_ne (λz=>a z.symm)];exact h1,h2⟩
theorem S6:kY K [i] (iY i) (oD i):=λF B H G J x t Q d s e a r p q=>q _ _ (e.set a r) (by rw[length_set,length_set];exact a) (by rw[length_set]) (λj b=>getElem?_set_ne λz=>b (by rw[z];exact mem_singleton.mpr rfl)) p
def pG(K:aj)(js:List Nat)(g:lM)(pg:ai->ai->(aU)->Prop):Prop:=∀(F:Hp)(B:Bool->Hp)(H:Hp)(j:St)(G:ai)(f:ax)(e:ai)(Q:St->Hp->Prop)(d:aU),aB F H->dE K F B j G->j.length=G.length->Rs K F B e f []->pg e G d->(∀a b,dE K F B a b->a.length=b.length->a.length=j.length->(∀i,i ∉ js->a[i]?=j[i]?)->d b->Q a H)->g f j H Q
theorem NI:pG K [] vJ lT:=λF B H j i f d Q b s e a r p q=>by
 unfold lT at p;split at p
 .exact⟨r.1,q j i e a rfl (λ_ _=>rfl) p⟩
 .exact p.elim
theorem LZ(h:kY K js tg pg)(h':pG K ks tr pr):pG K (js++ks) (u5 tg tr) (acl pg pr):=λF B H j G L J Q g s e n r p q=>by
 unfold acl at p;split at p
 .obtain⟨v,w,c,d,h1,h2,h3,h4⟩:=r;have z:=append_eq_nil_iff.mp h2.symm;rw[z.1] at h3;rw[z.2] at h4;refine⟨v,w,h1,h F B H j G v _ _ _ s e n h3 p λo b l x y D I=>h' F B H o b w _ Q g s l x h4 I λu f m A C E p2=>q u f m A (C.trans y) (λi a=>?_) p2⟩;rw[E i λz=>a (mem_append.mpr (.inr z)),D i λz=>a (mem_append.mpr (.inl z))]
 .exact p.elim
theorem S7(h:pG K js tr pr):kY K js (vK K n tr) (lG n pr):=λF B H j i x t Q b s e d r p q=>by
 unfold lG at p;split at p
 .obtain⟨a,vs,rfl,h1,h2⟩:=r.dw s;exact⟨a,vs,rfl,h1,h2.length.trans p.1,h F B H j i vs _ Q b s e d h2 p.2 q⟩
 .exact p.elim
def pJ:c7:=λ_ Q=>Q true
theorem Q1:eQ K k Bg pJ:=λF B H j i Q a c p q=>q true F H p (Gr.aJ c.s)
def kT(f:iS)(pg:eu)(pt:c7)(pe:a8)(ix:br):a8:=λj Q=>f j λe _=>∃I:Nat->aU,I 0 []/\
 (∀i t a,e[i]?=some t->I i a->pg t (jG ix j) λd=>pt d λb=>if b=true then pe d λx=>a.length<1000000/\I (i+1) (a++[x]) else I (i+1) a)/\∀a,I e.length a->a.length<=1000000/\Q (.ag .o a)
theorem CT{wi:TI}{pi:iS}{js:List Nat}{tg:TG}{pg:eu}{ti:TT}{pt:c7}{te:TE}{pe:a8}{ix:br}(hi:lY K k wi pi)(hg:kY K js tg pg)(ht:eQ K k.cp ti pt)(he:bu K k.cp te pe)(hj:∀j∈js,ix[j]?=some none):bu K k (lU wi tg ti te ix) (kT pi pg pt pe ix):=λF B H G O Q Q' c p q=>by
 refine hi F B H G O _ _ c p λts nl J F1 H1 p1 E δ _=>?_
 ∎;let⟨I,i0,step,α⟩:=p1;let⟨Kp,Y,C,kp,yl⟩:=δ;∎;have c1:=c.gr E;refine xK (n:=ts.length) (λi w f=>∃o us d,Gr F1 H1 o f/\Rs K o B us w d/\ar o f d/\cS H1 d/\I i us) ⟨F1,[],[],Gr.aJ E.s,⟨rfl,rfl⟩,.nil,.nil,i0⟩ ?_ ?_ ?_ ?_
 .rintro i w f hlt ⟨o,us,d,g2,_⟩;exact C.go i f hlt (kp o f g2.le g2.s (c1.gr g2).b)
 .rintro w f ⟨o,us,d,g2,_⟩;exact C.st f (kp o f g2.le g2.s (c1.gr g2).b)
 .rintro i x w f H3 hlt ⟨o,us,d,g2,r2,hc2,n2,ii⟩ y;have c2:=c1.gr g2;∎;let⟨t,et⟩:=qr hlt;let⟨U,g3,r3⟩:=yl i t o f x H3 et g2.le g2.s c2.b (C.yl i f x H3 hlt (kp o f g2.le g2.s c2.b) y);∎;have D:=c2.gr g3;have β:(dB ix G).length=(jG ix O).length:=by unfold dB jG;rw[length_map,length_map]
  refine hg U B H3 _ _ x t _ _ D.s D.e.pick β r3 (step i t us et ii) λG2 O2 e2 l2 γ n3 p2=>⟨qu γ.symm λj v M=>?_,?_⟩
  .by_cases hjs:j∈js
   .have z:=hj j hjs;unfold dB at M;rw[getElem?_map,z] at M;cases M
   .rw[n3 j hjs];exact M
  .have c3':fo K k.cp U B H3 G2 O2:=⟨D.s,D.b,D.z,e2,λ_ _ _ h=>h.elim⟩
   refine ht U B H3 G2 O2 _ _ c3' p2 λb F4 H4 N g4=>?_
   have l:=g3.trans' g4;cases b with
   |false=>
    rw[if_neg ∎] at N ⊢;exact⟨F4,us,d,g2.trans' l,r2.mo l.le (λk=>Le.refl (B k)) us,hc2.gr l,n2,N⟩
   |true=>
    rw[if_pos rfl] at N ⊢;refine he F4 B H4 G2 O2 _ _ (c3'.gr g4) N λu v F5 H5 c5 p5 L=>?_
    have A:=l.trans' L.g;refine⟨lt_of_lt_of_le (by rw[r2.length];exact p5.1) ∎,F5,us++[u],d++c5,g2.trans' A,(r2.mo A.le (λk=>Le.refl (B k)) us).snoc L.r,(hc2.gr A).app L.c λp mp q mq e=>?_,λp m=>?_,p5.2⟩
    .have:=(hc2.gr l).h p mp;rw[e,L.n q mq] at this;cases this
    .rcases mem_append.mp m with m |m
     .exact n2 p m
     .exact (g2.h.trans l.h).free (L.n p m)
 .rintro w f ⟨o,us,d,g2,r2,hc2,n2,ii⟩;let⟨hl,hq⟩:=α us ii;refine⟨by rw[r2.length];exact ky hl,λa ha=>?_⟩;let⟨m1,m2,m3⟩:=mw g2.s r2 hc2 ha;refine q _ _ o _ _ hq ⟨(E.trans' g2).trans' m1,m2,m3,λp m=>?_⟩;cases m with
  |head=>exact (E.h.trans g2.h).free ha
  |tail _ m=>exact E.h.free (n2 p m)
end
mutual
noncomputable def ef:Tr->Tr->Option Bool
 |.aP xs,.aP ys=>if xs.length=ys.length then df xs ys else none
 |.ag _ xs,.ag _ ys=>if xs.length=ys.length then df xs ys else some false
 |.int a,.int b=>some (decide (a=b))
 |.str a,.str b=>some (decide (a=b))
 |.bl a,.bl b=>some (decide (a=b))
 |.aE,.aE=>some true
 |_,_=>none
noncomputable def df:List Tr->List Tr->Option Bool
 |[],[]=>some true
 |x::xs,y::ys=>(ef x y).bind λa=>(df xs ys).bind λb=>some (a&&b)
 |_,_=>none
end
mutual
noncomputable def dep:Tr->Nat
 |.aP a=>fJ a + 1
 |.ag _ a=>fJ a + 1
 |_=>0
noncomputable def fJ:List Tr->Nat
 |[]=>0
 |x::xs=>max (dep x) (fJ xs)
end
section
mutual
theorem xx(I:av X aa j H s)(i:aB F H)(sb:∀k,aB (B k) H):∀(t:Tr)(t':Tr)(v:V)(c d:Cs)(b:Bool),ef t t'=some b->R X.K F B t v c->R X.K F B t' v d->ar F H c->ar F H d->b=true
 |.aP A=>λt' v c d b e r g x h=>by
  cases t' with
  |aP C=>
   unfold ef at e;split at e
   .obtain⟨a,vs,rfl,w,n⟩:=r.dw i;let⟨l,y,q,u,m⟩:=g.dw i;cases q;have z:=PV I w u;subst z;exact fK I i sb A C vs c d b e n m x h
   .cases e
  |_=>cases e
 |.ag f A=>λt' v c d b e r g x h=>by
  cases t' with
  |ag J C=>
   unfold ef at e;∎;let⟨a,vs,D,rfl,w,n,G,_⟩:=r.cM i sb x;let⟨l,y,o,q,u,m,E,_⟩:=g.cM i sb h;∎;cases q;have z:=PX I w u;subst z;split at e
   .exact fK I i sb A C vs D o b e n m G E
   .rename_i hl;exact absurd (n.length.symm.trans m.length) hl
  |_=>cases e
 |.int a=>λt' v c d b e r g _ _=>by
  cases t' with
  |int l=>cases e;have:=r.1.symm.trans g.1;cases this;exact decide_eq_true rfl
  |_=>cases e
 |.str a=>λt' v c d b e r g _ _=>by
  cases t' with
  |str l=>cases e;have:=r.1.symm.trans g.1;cases this;exact decide_eq_true rfl
  |_=>cases e
 |.bl a=>λt' v c d b e r g _ _=>by
  cases t' with
  |bl l=>cases e;have:=r.1.symm.trans g.1;cases this;exact decide_eq_true rfl
  |_=>cases e
 |.aE=>λt' v c d b e r g _ _=>by
  cases t' with
  |aE=>cases e;rfl
  |_=>cases e
 |.aq=>λt' v c d b e _ _ _ _=>by cases t' <;> cases e
 |.ty _=>λt' v c d b e _ _ _ _=>by cases t' <;> cases e
 |.cl _=>λt' v c d b e _ _ _ _=>by cases t' <;> cases e
 |.exc _ _=>λt' v c d b e _ _ _ _=>by cases t' <;> cases e
 |.aR _ _=>λt' v c d b e _ _ _ _=>by cases t' <;> cases e
 |.ins _ _ _=>λt' v c d b e _ _ _ _=>by cases t' <;> cases e
theorem fK(I:av X aa j H s)(m:aB F H)(sb:∀k,aB (B k) H):∀(ts:List Tr)(d:List Tr)(vs:List V)(c g:Cs)(b:Bool),df ts d=some b->Rs X.K F B ts vs c->Rs X.K F B d vs g->ar F H c->ar F H g->b=true
 |[]=>λd vs c g b e _ _ _ _=>by
  cases d with
  |nil=>cases e;rfl
  |cons _ _=>cases e
 |x::xs=>λd vs c g b e r l h f=>by
  cases d with
  |nil=>cases e
  |cons y n=>
   ∎;let⟨v,r,q,w,G,J,L,M⟩:=r;let⟨N,l,u,A,i,C,D,E⟩:=l;∎;rw[G] at i;cases i;rw[J] at h;rw[C] at f;unfold df at e;cases e1:ef x y with
   |none=>rw[e1] at e;cases e
   |some a=>
    cases e2:df xs n with
    |none=>rw[e1,e2] at e;cases e
    |some o=>
     rw[e1,e2] at e;cases e;rw[xx I m sb x y v q u a e1 L D h.left f.left,fK I m sb xs n r w A o e2 M E h.right f.right];rfl
end
def gX(ts a:ai)(j:Nat):Bool:=match ts[j]?,a[j]? with |some x,some y=>(ef x y).getD false |_,_=>false
theorem mz:∀{ts d:ai}{b:Bool},df ts d=some b->(List.range ts.length).all (gX ts d)=b/\∀(j:Nat)(x y:Tr),ts[j]?=some x->d[j]?=some y->ef x y=some (gX ts d j)
 |[],[],b,e=>by cases e;exact⟨rfl,λj x y h=>by cases h⟩
 |[],_::_,b,e=>by cases e
 |_::_,[],b,e=>by cases e
 |x::xs,y::ys,b,e=>by
  unfold df at e;cases e1:ef x y with
  |none=>rw[e1] at e;cases e
  |some a=>
   cases e2:df xs ys with
   |none=>rw[e1,e2] at e;cases e
   |some n=>
    rw[e1,e2] at e;cases e;let⟨i,l⟩:=mz e2;refine⟨?_,λj u w f g=>?_⟩
    .rw[length_cons,List.range_succ_eq_map,all_cons,List.all_map];have m:gX (x::xs) (y::ys) 0=a:=by show (ef x y).getD false=a;rw[e1];rfl
     rw[m,<- i];rfl
    .cases j with
     |zero=>cases f;cases g;show ef x y=some ((ef x y).getD false);rw[e1];rfl
     |succ j=>exact l j u w f g
mutual
theorem R5(I:av X aa i H s)(G:aB F H)(sb:∀k,aB (B k) H):∀(t:Tr)(t':Tr)(Au:Around)(v g:V)(c h:Cs)(b:Bool)(u l:Value),ef t t'=some b->R X.K F B t v c->R X.K F B t' g h->ar F H c->ar F H h->aC v u->aC g l->Au.units+dep t<cLine->SeqAt.EqAt Au s u l b
 |.aP C=>λt' Au v g c h b u l e r o M w m d hu=>by
  cases t' with
  |aP D=>
   have fn:=λ(z:v=g)=>xx I G sb (.aP C) (.aP D) g c h b e (z ▸ r) o M w
   unfold ef at e;split at e
   .rename_i hl;∎;let⟨a,vs,rfl,Q,E⟩:=r.dw G;let⟨n,J,rfl,O,L⟩:=o.dw G;∎;obtain rfl:u=Value.ref a:=m;obtain rfl:l=Value.ref n:=d;by_cases z:a=n
    .rw[fn (by rw[z]),z];exact SeqAt.EqAt.same _
    .unfold dep at hu;let⟨al,ix⟩:=mz e;have N:=Df (Au:=Au) I Q O ⋯ (by rw[E.length,L.length];exact hl) (gX C D) (λj x y p q ex Y rx ry=>cJ I G sb C D (gX C D) Au.in1 vs J c h j x y p q ix E L M w ex Y rx ry (by rw[nS];omega));rw[E.length,al] at N;exact SeqAt.EqAt.of_refs z N
   .cases e
  |_=>cases e
 |.ag f C=>λt' Au v g c h b u l e r o M w m d hu=>by
  cases t' with
  |ag f' D=>
   have fn:=λ(z:v=g)=>xx I G sb (.ag f C) (.ag f' D) g c h b e (z ▸ r) o M w
   unfold ef at e;∎;let⟨a,vs,ds,rfl,Q,E,h3,_⟩:=r.cM G sb M;let⟨n,J,U,rfl,O,L,g3,_⟩:=o.cM G sb w;∎;obtain rfl:u=Value.ref a:=m;obtain rfl:l=Value.ref n:=d;unfold dep at hu;by_cases z:a=n
   .rw[fn (by rw[z]),z];exact SeqAt.EqAt.same _
   .split at e
    .rename_i hl;let⟨al,ix⟩:=mz e;have N:=Dg (Au:=Au) I Q O ⋯ (by rw[E.length,L.length];exact hl) (gX C D) (λj x y p q ex Y rx ry=>cJ I G sb C D (gX C D) Au.in1 vs J ds U j x y p q ix E L h3 g3 ex Y rx ry (by rw[nS];omega));rw[E.length,al] at N;exact SeqAt.EqAt.of_refs z N
    .rename_i hl;cases e;∎;let⟨us,r1,t1,_⟩:=I.list Q;let⟨zs,r2,t2,_⟩:=I.list O;∎;have m1:=r1.length;have m2:=r2.length;have l1:=E.length;have l2:=L.length;exact SeqAt.EqAt.of_refs z (SeqAt.RcAt.lists_lengths t1.isList t2.isList (by simp;omega) ⋯)
  |_=>cases e
 |.int a=>λt' Au v g c h b u l e r o _ _ m d _=>by
  cases t' with
  |int n=>cases e;rw[r.1] at m;rw[o.1] at d;exact MP m d
  |_=>cases e
 |.str a=>λt' Au v g c h b u l e r o _ _ m d _=>by
  cases t' with
  |str n=>
   cases e;rw[r.1] at m;rw[o.1] at d;have z:=qe (A:=Au) (s:=s) m d rfl rfl;have e:iP (.str a) (.str n)=decide (a=n):=by show (a == n)=_;rw[Bool.beq_eq_decide_eq]
   rw[e] at z;exact z
  |_=>cases e
 |.bl a=>λt' Au v g c h b u l e r o _ _ m d _=>by
  cases t' with
  |bl n=>
   cases e;rw[r.1] at m;rw[o.1] at d;have z:=qe (A:=Au) (s:=s) m d rfl rfl;have e:iP (.bl a) (.bl n)=decide (a=n):=by show (a == n)=_;rw[Bool.beq_eq_decide_eq]
   rw[e] at z;exact z
  |_=>cases e
 |.aE=>λt' Au v g c h b u l e r o _ _ m d _=>by
  cases t' with
  |aE=>cases e;rw[r.1] at m;rw[o.1] at d;exact qe (A:=Au) (s:=s) m d rfl rfl
  |_=>cases e
 |.aq=>λt' Au v g c h b u l e _ _ _ _ _ _ _=>by cases t' <;> cases e
 |.ty _=>λt' Au v g c h b u l e _ _ _ _ _ _ _=>by cases t' <;> cases e
 |.cl _=>λt' Au v g c h b u l e _ _ _ _ _ _ _=>by cases t' <;> cases e
 |.exc _ _=>λt' Au v g c h b u l e _ _ _ _ _ _ _=>by cases t' <;> cases e
 |.aR _ _=>λt' Au v g c h b u l e _ _ _ _ _ _ _=>by cases t' <;> cases e
 |.ins _ _ _=>λt' Au v g c h b u l e _ _ _ _ _ _ _=>by cases t' <;> cases e
theorem cJ(I:av X aa G H s)(C:aB F H)(sb:∀k,aB (B k) H):∀(ts:List Tr)(d:List Tr)(e:Nat->Bool)(Au:Around)(vs f:List V)(c n:Cs)(j:Nat)(x y:V)(u h:Value),(∀(j:Nat)(x y:Tr),ts[j]?=some x->d[j]?=some y->ef x y=some (e j))->Rs X.K F B ts vs c->Rs X.K F B d f n->ar F H c->ar F H n->vs[j]?=some x->f[j]?=some y->aC x u->aC y h->Au.units+fJ ts<cLine->SeqAt.EqAt Au s u h (e j)
 |[]=>λd e Au vs f c n j x y u h _ r _ _ _ ex _ _ _ _=>by rw[r.1] at ex;cases ex
 |t::ts=>λd e Au vs f c n j x y u h w r o q g ex l A m hu=>by
  cases d with
  |nil=>rw[o.1] at l;cases l
  |cons D d=>
   ∎;let⟨v,r,E,L,Y,h2,h3,h4⟩:=r;let⟨v',o,J,M,N,O,Q,U⟩:=o;∎;rw[Y] at ex;rw[N] at l;rw[h2] at q;rw[O] at g;unfold fJ at hu;cases j with
   |zero=>
    cases ex;cases l;exact R5 I C sb t D Au _ _ E J (e 0) u h (w 0 t D rfl rfl) h3 Q q.left g.left A m ⋯
   |succ j=>exact cJ I C sb ts d (λi=>e (i+1)) Au r o L M j x y u h (λi a b ha hb=>w (i+1) a b ha hb) h4 U q.right g.right ex l A m ⋯
end
theorem Q2(I:av X aa G H s)(f:c8 X.K H a xs)(g:c8 X.K H b ys)(B:Au.units<cLine)(L:xs.length=ys.length)(e:Nat->Bool)(w:∀(j:Nat) x y u v,xs[j]?=some x->ys[j]?=some y->aC x u->aC y v->SeqAt.EqAt Au.in1 s u v (e j)):SeqAt.RcNeAt Au s (.ref a) (.ref b) (!(List.range xs.length).all e):=by
 ∎;let⟨us,m,E,_⟩:=I.tuple f;let⟨d,r2,J,_⟩:=I.tuple g;∎;have M:=m.length;have N:=r2.length;have z:=SeqAt.RcNeAt.tuples (A:=Au) (e:=e) E J B (λj f g=>?_)
 .have e0:((List.range (min us.toArray.size d.toArray.size)).all e&&us.toArray.size == d.toArray.size)=(List.range xs.length).all e:=by
   simp only[size_toArray];have h:min us.length d.length=xs.length:=⋯
   have l:(us.length == d.length)=true:=by simp;omega
   rw[h,l,Bool.and_true]
  rw[e0] at z;exact z
 .simp only[size_toArray] at f g;∎;let⟨u,h,C⟩:=m.get (i:=j) (x:=xs[j]'⋯) (by simp);let⟨v,l,D⟩:=r2.get (i:=j) (x:=ys[j]'⋯) (by simp);let⟨_,n⟩:=List.getElem?_eq_some_iff.mp h;let⟨_,o⟩:=List.getElem?_eq_some_iff.mp l;∎;have q:us.toArray[j]'(by simpa using f)=u:=by simpa using n
  have r:d.toArray[j]'(by simpa using g)=v:=by simpa using o
  rw[q,r];exact w j _ _ u v (by simp) (by simp) C D
def su(K:aj)(neg:Bool):R2:=λx y H Q=>∃(F:Hp)(B:Bool->Hp)(t d:Tr)(c a:Cs)(b:Bool),aB F H/\(∀k,aB (B k) H)/\R K F B t x c/\R K F B d y a/\ar F H c/\ar F H a/\ef t d=some b/\dep t<=60/\1<=dep t/\Q (.bl (if neg=true then !b else b)) H
theorem R7(hu:X.A.units+64<cLine):b9 X (compareOp .Eq) (su X.K false):=by
 intro aa s i H x y v u Q I E G h;let⟨F,B,t,t',c,c',b,J,sb,r,r',hc,L,e,d,d1,q⟩:=h;have l:∀{p p':ae},SeqAt.RcAt X.A s (.ref p) (.ref p') b->wpAny (model X.prog X.w) X.A (compareOp .Eq (.ref p) (.ref p')) (EP X aa i Q) X.xe s:=λm=>m X.prog X.w X.xe _ ⟨.bl b,H,I,rfl,q⟩
 cases t with
 |aP o=>
  cases t' with
  |aP C=>
   unfold ef at e;unfold dep at d;split at e
   .rename_i hl;∎;let⟨a,vs,rfl,N,g⟩:=r.dw J;let⟨O,n,rfl,M,D⟩:=r'.dw J;∎;obtain rfl:v=Value.ref a:=E;obtain rfl:u=Value.ref O:=G;let⟨al,ix⟩:=mz e;have m:=Df (Au:=X.A) I N M ⋯ (by rw[g.length,D.length];exact hl) (gX o C) (λj x y p q ex Y E G=>cJ I J sb o C (gX o C) X.A.in1 vs n c c' j x y p q ix g D hc L ex Y E G (by rw[nS];omega));rw[g.length,al] at m;exact l m
   .cases e
  |_=>cases e
 |ag f o=>
  cases t' with
  |ag f' C=>
   unfold ef at e;unfold dep at d;∎;let⟨a,vs,ds,rfl,N,g,h3,_⟩:=r.cM J sb hc;let⟨O,n,U,rfl,M,D,g3,_⟩:=r'.cM J sb L;∎;obtain rfl:v=Value.ref a:=E;obtain rfl:u=Value.ref O:=G;split at e
   .rename_i hl;let⟨al,ix⟩:=mz e;have m:=Dg (Au:=X.A) I N M ⋯ (by rw[g.length,D.length];exact hl) (gX o C) (λj x y p q ex Y E G=>cJ I J sb o C (gX o C) X.A.in1 vs n ds U j x y p q ix g D h3 g3 ex Y E G (by rw[nS];omega));rw[g.length,al] at m;exact l m
   .rename_i hl;cases e;∎;let⟨us,r1,t1,_⟩:=I.list N;let⟨zs,r2,t2,_⟩:=I.list M;∎;have m1:=r1.length;have m2:=r2.length;have l1:=g.length;have l2:=D.length;exact l (SeqAt.RcAt.lists_lengths t1.isList t2.isList (by simp;omega) ⋯)
  |_=>cases e
 |_=>exact absurd d1 (by unfold dep;decide)
theorem R8(hu:X.A.units+64<cLine):b9 X (compareOp .NotEq) (su X.K true):=by
 intro aa s i H x y v u Q I E G h;let⟨F,B,t,t',c,c',b,J,sb,r,r',hc,L,e,d,d1,q⟩:=h;have l:∀{p p':ae},SeqAt.RcNeAt X.A s (.ref p) (.ref p') (!b)->wpAny (model X.prog X.w) X.A (compareOp .NotEq (.ref p) (.ref p')) (EP X aa i Q) X.xe s:=λm=>m X.prog X.w X.xe _ ⟨.bl (!b),H,I,rfl,q⟩
 cases t with
 |aP o=>
  cases t' with
  |aP C=>
   unfold ef at e;unfold dep at d;split at e
   .rename_i hl;∎;let⟨a,vs,rfl,N,g⟩:=r.dw J;let⟨O,n,rfl,M,D⟩:=r'.dw J;∎;obtain rfl:v=Value.ref a:=E;obtain rfl:u=Value.ref O:=G;let⟨al,ix⟩:=mz e;have m:=Q2 (Au:=X.A) I N M ⋯ (by rw[g.length,D.length];exact hl) (gX o C) (λj x y p q ex Y E G=>cJ I J sb o C (gX o C) X.A.in1 vs n c c' j x y p q ix g D hc L ex Y E G (by rw[nS];omega));rw[g.length,al] at m;exact l m
   .cases e
  |_=>cases e
 |ag f o=>
  cases t' with
  |ag f' C=>
   unfold ef at e;unfold dep at d;∎;let⟨a,vs,ds,rfl,N,g,h3,_⟩:=r.cM J sb hc;let⟨O,n,U,rfl,M,D,g3,_⟩:=r'.cM J sb L;∎;obtain rfl:v=Value.ref a:=E;obtain rfl:u=Value.ref O:=G;split at e
   .rename_i hl;let⟨al,ix⟩:=mz e;have m:=O6 (Au:=X.A) I N M ⋯ (by rw[g.length,D.length];exact hl) (gX o C) (λj x y p q ex Y E G=>cJ I J sb o C (gX o C) X.A.in1 vs n ds U j x y p q ix g D h3 g3 ex Y E G (by rw[nS];omega));rw[g.length,al] at m;exact l m
   .rename_i hl;cases e;∎;let⟨us,r1,t1,_⟩:=I.list N;let⟨zs,r2,t2,_⟩:=I.list M;∎;have m1:=r1.length;have m2:=r2.length;have l1:=g.length;have l2:=D.length;exact l (SeqAt.RcNeAt.lists_lengths (A:=X.A) t1.isList t2.isList (by simp;omega) ⋯)
  |_=>cases e
 |_=>exact absurd d1 (by unfold dep;decide)
def Br(K:aj):R2:=λx y H Q=>yF x y H Q\/su K false x y H Q
theorem ff(a:X.A.units+64<cLine:=by exact bp.units (by assumption)):b9 X (compareOp .Eq) (Br X.K):=G7.or (R7 a)
def AM(K:aj):R2:=λx y H Q=>qS x y H Q\/su K true x y H Q
theorem gE(a:X.A.units+64<cLine:=by exact bp.units (by assumption)):b9 X (compareOp .NotEq) (AM X.K):=Aw.or (R8 a)
def jU(neg:Bool)(x y:Tr)(Q:ay):Prop:=match x,y with
 |.int a,.int b=>Q (.bl (if neg=true then !decide (a=b) else decide (a=b)))
 |.str a,.str b=>Q (.bl (if neg=true then !decide (a=b) else decide (a=b)))
 |.bl a,.bl b=>Q (.bl (if neg=true then !decide (a=b) else decide (a=b)))
 |x,y=>pP neg x y Q \/ ∃b,ef x y=some b /\ dep x <= 60 /\ 1 <= dep x /\ Q (.bl (if neg=true then !b else b))
theorem e8:ed K k (Br K) (jU false):=λF B H x y n ty g i Q o s b z a f j l hd p q=>by
 unfold jU at p;split at p
 .obtain⟨rfl,_⟩:=a;let⟨rfl,_⟩:=f;refine .inl ⟨rfl,q _ _ F H [] p (Gr.aJ s) ⟨?_,rfl⟩ .nil λ_ m=>nomatch m⟩;exact congrArg V.bl (decide_eq_decide.mpr ⟨λh=>V.int.inj h,λh=>by rw[h]⟩)
 .obtain⟨rfl,_⟩:=a;let⟨rfl,_⟩:=f;refine .inl ⟨rfl,q _ _ F H [] p (Gr.aJ s) ⟨?_,rfl⟩ .nil λ_ m=>nomatch m⟩;exact congrArg V.bl (decide_eq_decide.mpr ⟨λh=>V.str.inj h,λh=>by rw[h]⟩)
 .obtain⟨rfl,_⟩:=a;let⟨rfl,_⟩:=f;refine .inl ⟨rfl,q _ _ F H [] p (Gr.aJ s) ⟨?_,rfl⟩ .nil λ_ m=>nomatch m⟩;exact congrArg V.bl (decide_eq_decide.mpr ⟨λh=>V.bl.inj h,λh=>by rw[h]⟩)
 .rcases p with p |p
  .exact .inl (Pp (k:=k) F B H x y n ty g i Q o s b z a f j l hd p q)
  .obtain⟨bb,e,d,d1,p⟩:=p;exact .inr ⟨F,B,n,ty,g,i,bb,s,b,a,f,j,l,e,d,d1,q _ _ F H [] p (Gr.aJ s) ⟨rfl,rfl⟩ .nil λ_ m=>nomatch m⟩
theorem gx:ed K k (AM K) (jU true):=λF B H x y n ty g i Q o s b z a f j l hd p q=>by
 unfold jU at p;split at p
 .obtain⟨rfl,_⟩:=a;let⟨rfl,_⟩:=f;refine .inl ⟨rfl,q _ _ F H [] p (Gr.aJ s) ⟨?_,rfl⟩ .nil λ_ m=>nomatch m⟩;exact congrArg (λb=>V.bl (!b)) (decide_eq_decide.mpr ⟨λh=>V.int.inj h,λh=>by rw[h]⟩)
 .obtain⟨rfl,_⟩:=a;let⟨rfl,_⟩:=f;refine .inl ⟨rfl,q _ _ F H [] p (Gr.aJ s) ⟨?_,rfl⟩ .nil λ_ m=>nomatch m⟩;exact congrArg (λb=>V.bl (!b)) (decide_eq_decide.mpr ⟨λh=>V.str.inj h,λh=>by rw[h]⟩)
 .obtain⟨rfl,_⟩:=a;let⟨rfl,_⟩:=f;refine .inl ⟨rfl,q _ _ F H [] p (Gr.aJ s) ⟨?_,rfl⟩ .nil λ_ m=>nomatch m⟩;exact congrArg (λb=>V.bl (!b)) (decide_eq_decide.mpr ⟨λh=>V.bl.inj h,λh=>by rw[h]⟩)
 .rcases p with p |p
  .exact .inl (Pq (k:=k) F B H x y n ty g i Q o s b z a f j l hd p q)
  .obtain⟨bb,e,d,d1,p⟩:=p;exact .inr ⟨F,B,n,ty,g,i,bb,s,b,a,f,j,l,e,d,d1,q _ _ F H [] p (Gr.aJ s) ⟨rfl,rfl⟩ .nil λ_ m=>nomatch m⟩
end
def yI(K:aj)(k:Md)(pe:a8):TE:=λj H Q=>∃(F:Hp)(B:Bool->Hp)(i:ai)(b:ay),fo K k F B H j i/\pe i b/\∀t v d a e,b t->Out K F B H d a t v e->Q v a
def vE(K:aj)(k:Md)(pe:c7):TT:=λj H Q=>∃(F:Hp)(B:Bool->Hp)(i:ai)(d:Bool->Prop),fo K k F B H j i/\pe i d/\∀b e a,d b->Gr F H e a->Q b a
section
theorem QE.of(h:QE X k e pe):PE X e (yI X.K k pe):=λaa s j H Q I ⟨F,B,i,Q',h1,h2,h3⟩=>by
 let⟨d,a,b⟩:=h.h;exact a aa s j H Q I (b F B H j i Q Q' h1 h2 h3)
theorem tK:bu K k (yI K k pe) pe:=λF B H j i Q a b d e=>⟨F,B,i,a,b,d,e⟩
theorem QT.of(h:QT X k e pe):PT X e (vE X.K k pe):=λaa s j H Q I ⟨F,B,i,Q',h1,h2,h3⟩=>by
 let⟨d,a,b⟩:=h.h;exact a aa s j H Q I (b F B H j i Q Q' h1 h2 h3)
theorem tm:eQ K k (vE K k pe) pe:=λF B H j i Q a b d e=>⟨F,B,i,a,b,d,e⟩
theorem iN(i:bU X (.type T) r)(m:kL X.K k r pr)(hm:X.mg x=none)(g:QA X k (e::es) ps)(l:do Gl X x)(n:do bootBuiltins x=some (.type T))(hn: ~~~(x≠"__name__"))(a: ~~~(da x))(j:do ee e es X.env)(b:do eZ pos es X.env):
  QE X k (.Call (.Name x p) (e::es) [] pos) (pB pr ps):=by
 let⟨o,d,f⟩:=g.h;exact⟨_,v3 i l hm n d hn a j b,Em m f⟩
theorem tL:QE X k (.Dict [] [] pos) vi:=⟨_,Nl,NF⟩
theorem Uo(h:QE X k e pe)(d:do attributeBase e f X.env (eval e X.env)=eval e X.env):QE X k (.Attribute e f pos) (p1 (add X.K f) pe):=by
 let⟨g,a,b⟩:=h.h;exact⟨_,Dl a d,Q0 b⟩
theorem R9(n:QE X k o po)(l:QE X k e pe)(m:QE X k f pf)(hm:M2 X o "get" apos e f bw:=by exact⟨rfl,rfl,rfl,rfl⟩)(q:X.A.units+1<cLine:=by assumption):QE X k (.Call (.Attribute o "get" apos) [e,f] [] bw) (p3 rX po pe pf):=by
 ∎;let⟨r,i,j⟩:=n.h;let⟨s,d,g⟩:=l.h;let⟨u,a,b⟩:=m.h;∎;exact⟨_,Nm q i d a hm,NH j g b⟩
structure QO(X:Cx)(k:Md)(e:Option Expr)(pe:nh):Prop where
 h:∃te,PO X e te/\pW X.K k te pe
theorem ui:QO X k none yx:=⟨_,PL,S3⟩
theorem ow(h:QE X k e pe):QO X k (some e) (yy pe):=by
 let⟨d,a,b⟩:=h.h;exact⟨_,PM a,S4 b⟩
theorem qG{e:Expr}{pe:a8}{l h:Option Expr}{pl a:nh}{p2:Pos}(m:QE X k e pe)(o:QO X k l pl)(n:QO X k h a):QE X k (.Subscript e (.Slice l h none p2) pos) (yo pe pl a):=by
 ∎;let⟨q,i,j⟩:=m.h;let⟨r,f,g⟩:=o.h;let⟨s,b,d⟩:=n.h;∎;exact⟨_,Nn T9 i f b,S5 j g d⟩
structure QG(X:Cx)(k:Md)(lo:Nat)(e:Expr)(pg:eu):Prop where
 h:∃tg,PG X e tg/\nK X.K k lo tg pg
structure rf(X:Cx)(k:Md)(lo:Nat)(es:bL)(pg:ai->ai->(aU)->Prop):Prop where
 h:∃tg,ng X es tg/\pA X.K k lo tg pg
theorem dq(i:Nat)(a:X.N.Nodup:=by assumption)(e: ~~~(lo<=i))(d:do X.N[i]?=some x)(f:Loc X.env.scope x:=by first |exact Or.inl rfl |exact Or.inr rfl)(b:jh X x:=by first |exact .inl rfl |exact .inr rfl |assumption):QG X k lo (.Name x pos) (oD i):=⟨_,wR a d f b,SW e⟩
theorem iU:rf X k lo [] lT:=⟨_,CZ,LU⟩
theorem ew(h:QG X k lo e pg)(h':rf X k lo es pr)(hs:do (assignEach (e::es) X.env).map (·.2)=assign e X.env::(assignEach es X.env).map (·.2)):rf X k lo (e::es) (acl pg pr):=by
 ∎;let⟨g,d,f⟩:=h.h;let⟨i,a,b⟩:=h'.h;∎;exact⟨_,B5 d a hs,Kx f b⟩
theorem i8(d:X.calm=true)(h:rf X k lo es pr)(hn:do (assignEach es X.env).length=n)(e:do (assignEach es X.env).findIdx? (·.1)=none):QG X k lo (.Tuple es kk pos) (lG n pr):=by
 let⟨f,a,b⟩:=h.h;exact⟨_,Ec d a hn e,SX b⟩
structure QI(X:Cx)(k:Md)(tg e:Expr)(pi:iS):Prop where
 h:∃ti,PI X tg e ti/\lY X.K k ti pi
section
theorem eC(h:QE X k l pl):QI X k tg l (yv pl):=by
 let⟨d,a,b⟩:=h.h;exact⟨_,Pz a,LW b⟩
theorem xP(hm:X.mg "range"=none)(h:QA X k [l] ps)(d:do Gl X "range")(hs:do nq l X.env):QI X k tg (.Call (.Name "range" p) [l] [] pos) (vB ps):=by
 let⟨e,a,b⟩:=h.h;exact⟨_,KG d hm a hs,QV b⟩
theorem ox(hm:X.mg "enumerate"=none)(h:QA X k [l] ps)(d:do Gl X "enumerate")(hs:do nq l X.env):QI X k (.Tuple es x1 tpos) (.Call (.Name "enumerate" p) [l] [] pos) (yu ps):=by
 let⟨e,a,b⟩:=h.h;exact⟨_,O1 d hm a hs,LX b⟩
theorem kB(hm:X.mg "zip"=none)(h:QA X k [l,m] ps)(e:do Gl X "zip")(hs:do yU l m X.env)(a:do nq m X.env):QI X k (.Tuple es x1 tpos) (.Call (.Name "zip" p) [l,m] [] pos) (yw ps):=by
 let⟨f,b,d⟩:=h.h;exact⟨_,SJ e hm b hs a,M7 d⟩
end
theorem bM(i:Nat)(h:QE X k e pe)(d:X.N.Nodup:=by assumption)(j: ~~~(lo<=i))(g:do X.N[i]?=some x)(l:Loc X.env.scope x:=by first |exact Or.inl rfl |exact Or.inr rfl)(hs:do swapsWith e (some (.Name x pos')) pos.line X.env=pure false)(f:jh X x:=by first |exact .inl rfl |exact .inr rfl |assumption):
  QS X k lo (.Assign [.Name x pos'] e pos) (nJ i pe):=by
 let⟨m,a,b⟩:=h.h;exact⟨_,tU d g l a hs f,wm j b⟩
theorem Up(h:QE X k e pe)(l:QG X k lo tg pg)(g:do swapsWithSole [tg] e pos.line X.env=pure false)(i:do swappedStores [tg] e X.env=pure none)(j:do (assignEach [tg] X.env).map (·.2)=[assign tg X.env]):QS X k lo (.Assign [tg] e pos) (vx pe pg):=by
 ∎;let⟨m,a,b⟩:=h.h;let⟨n,d,f⟩:=l.h;∎;exact⟨_,Ed a d g i j,QK b f⟩
theorem Uq(i j:Nat){x y:Str}{ps:cq}{l m pt d:Pos}{g k2:Nat}(h:QA X k [a,b] ps)(r:do X.calm=true)(q:X.N.Nodup:=by assumption)(v: ~~~(lo<=i))(f: ~~~(lo<=j))(s:do X.N[i]?=some x)(u:do X.N[j]?=some y)(e: ~~~(i≠j))(A:do X.env.scope.names.lookup x=some .local)(B:do X.env.scope.names.lookup y=some .local)(hs:do swappedStores [.Tuple [.Name x l,.Name y m] g pt] (.Tuple [a,b] k2 d) X.env=pure (some [x,y]))(w:do swapsWithSole [.Tuple [.Name x l,.Name y m] g pt] (.Tuple [a,b] k2 d) pos.line X.env=pure false):QS X k lo (.Assign [.Tuple [.Name x l,.Name y m] g pt] (.Tuple [a,b] k2 d) pos) (vz i j ps):=by
 let⟨C,n,o⟩:=h.h;exact⟨_,R0 r q s u e A B n hs w,QM v f o⟩
theorem fR(m:QI X k tg iter pi)(l:QG X k lo tg pg)(i:QB X k lo body pb)(n:PassesOwn (model X.prog X.w) X.A X.env X.xe:=by first |exact PassesOwn.never |exact fy rfl)(j:do X.calm=true)(hs:∀x,foldedSetIterable iter X.env x=pure x:=by intro _;rfl):QS X k lo (.For tg iter body [] pos) (vA pi pg pb):=by
 ∎;let⟨o,f,g⟩:=m.h;let⟨q,d,e⟩:=l.h;let⟨tb,a,b⟩:=i.h;∎;exact⟨_,R1 n j f d a hs,QQ g e b⟩
theorem dg(i:Nat)(b:do X.N[i]?=some x)(d:lN X.env.scope x:=by first |exact Or.inl rfl |exact Or.inr (Or.inl rfl) |exact Or.inr (Or.inr rfl))(hd: ~~~(da x))(a: ~~~((x == ("__classdict__":Str))=false)):PE X (.Name x pos) (tR X.K i []):=tT b d hd a
theorem oq(l:PE X o (tR X.K i r))(h:QE X k e pe)(f:do attributeBase o "append" X.env (eval o X.env)=eval o X.env)(g:do (((backTo bw (starEach [e] X.env)).all (!·.1)&&(backToKw bw (keywordEach [] X.env)).all (·.1.isSome))&&decide (([e].length+([]:List Keyword).length+if ([]:List Keyword).isEmpty=true then 0 else 1)<30))=true)(j:do (apos.endLine == bw.line)=true)(a:do ee e [] X.env)(hs:do swapsWith (.Call (.Attribute o "append" apos) [e] [] bw) none spos.line X.env=pure false):
  QS X k lo (.Expr (.Call (.Attribute o "append" apos) [e] [] bw) spos) (vC X.K i r pe):=by
 let⟨m,b,d⟩:=h.h;exact⟨_,sQ (EU PySem.F.plainAttrs_list slot_list_append type_list_append KQ l (k6 b mh a) f g j a rfl) hs,QX d⟩
theorem n4(s:PE X o (tR X.K i r))(q:QE X k j pj)(h:QE X k e pe)(n:∀v,assign (.Subscript o j pos') X.env v=(do
   let ov <- holding [v] (eval o X.env)
   let iv <- holding [v,ov] (eval j X.env)
   standAt pos'
   holding [v,ov,iv] (setItem ov iv v)
   release [v,ov,iv] []):=by intro _;rfl)(g:do swapsWithSole [.Subscript o j pos'] e pos.line X.env=pure false)(l:do swappedStores [.Subscript o j pos'] e X.env=pure none)(m:do (assignEach [.Subscript o j pos'] X.env).map (·.2)=[assign (.Subscript o j pos') X.env]):
  QS X k lo (.Assign [.Subscript o j pos'] e pos) (vh X.K i r pj pe):=by
 ∎;let⟨u,a,b⟩:=h.h;let⟨w,d,f⟩:=q.h;∎;exact⟨_,Ed a (RZ s d Np n) g l m,M8 b f⟩
theorem ub(l:PE X o (tR X.K i r))(g:QE X k j pj)(h:QE X k e pe)(m:X.A.units+1<cLine:=by assumption)(hs:do swapsWith e (some (.Subscript o j pos')) pos.line X.env=pure false):QS X k lo (.Assign [.Subscript o j pos'] e pos) (vD X.K i r pj pe):=by
 ∎;let⟨n,a,b⟩:=h.h;let⟨q,d,f⟩:=g.h;∎;exact⟨_,PK m l d a hs,QY b f⟩
theorem mn(d:PE X o (tR X.K i r))(h:QE X k e pe)(hs:do swapsWith e (some (.Attribute o f pos')) pos.line X.env=pure false):QS X k lo (.Assign [.Attribute o f pos'] e pos) (vj X.K i r f pe):=by
 let⟨g,a,b⟩:=h.h;exact⟨_,Ef d a hs,NG b⟩
structure lL(X:Cx)(scope:Scope)(N:ah)(js:List Nat)(e:Expr)(pg:eu):Prop where
 h:∃tg,(∀C s H fp pl,PG (cA X scope N C s H fp pl) e tg)/\kY X.K js tg pg
structure sv(X:Cx)(scope:Scope)(N:ah)(js:List Nat)(es:bL)(pg:ai->ai->(aU)->Prop):Prop where
 h:∃tg,(∀C s H fp pl,ng (cA X scope N C s H fp pl) es tg)/\pG X.K js tg pg
section
theorem dk(i:Nat)(b: ~~~(N.Nodup))(d:do N[i]?=some x)(a:∀C s H fp pl,(cA X scope N C s H fp pl).env.scope.names.lookup x=some .local:=by intros;rfl):lL X scope N [i] (.Name x pos) (oD i):=⟨_,λC s H fp pl=>wR (X:=cA X scope N C s H fp pl) b d (.inl (a C s H fp pl)) (.inr (a C s H fp pl)),S6⟩
theorem nV:sv X scope N [] [] lT:=⟨_,λ_ _ _ _ _=>CZ,NI⟩
theorem iT(h:lL X scope N js e pg)(h':sv X scope N ks es pr)(hs:∀C s H fp pl,(assignEach (e::es) (cA X scope N C s H fp pl).env).map (·.2)=assign e (cA X scope N C s H fp pl).env::(assignEach es (cA X scope N C s H fp pl).env).map (·.2):=by intros;rfl):sv X scope N (js++ks) (e::es) (acl pg pr):=by
 ∎;let⟨g,d,f⟩:=h.h;let⟨i,a,b⟩:=h'.h;∎;exact⟨_,λC s H fp pl=>B5 (d C s H fp pl) (a C s H fp pl) (hs C s H fp pl),LZ f b⟩
theorem oy(d:X.calm=true)(h:sv X scope N js es pr)(hn:∀C s H fp pl,(assignEach es (cA X scope N C s H fp pl).env).length=n:=by intros;rfl)(e:∀C s H fp pl,(assignEach es (cA X scope N C s H fp pl).env).findIdx? (·.1)=none:=by intros;rfl):lL X scope N js (.Tuple es kk pos) (lG n pr):=by
 let⟨f,a,b⟩:=h.h;exact⟨_,λC s H fp pl=>Ec (X:=cA X scope N C s H fp pl) d (a C s H fp pl) (hn C s H fp pl) (e C s H fp pl),S7 b⟩
structure nk(Y:Cx)(k:Md)(es:bL)(pt:c7):Prop where
 h:nj Y es (vE Y.K k pt)
theorem tp:nk X k [] pJ:=⟨λaa s j H Q I a=>by let⟨F,B,i,b,d,e,f⟩:=a;exact PY aa s j H Q I (Q1 (k:=k) F B H j i Q b d e f)⟩
theorem mB{e:Expr}{pt:c7}(h:QT X k e pt):nk X k [e] pt:=⟨Dh h.of⟩
variable{elt target iter:Expr}{ifs:bL}{ix:br}{pi:iS}{pg:eu}{pt:c7}{pe:a8}{js:List Nat}
theorem gc(N:ah)(ix:br)(u:QI X k target iter pi)(r:lL X a N js target pg)(q:∀C s H fp pl,QE (cA X a N C s H fp pl) k.cp elt pe)(ht:∀C s H fp pl,nk (cA X a N C s H fp pl) k.cp ifs pt:=by exact λ_ _ _ _ _=>tp)(o:do X.calm=true)(g:bA X a N ix:=by repeat first |exact True.intro |refine⟨rfl,rfl,rfl,?_⟩)(v: ~~~(∀j∈js,ix[j]?=some none))(e:do a.kind=.function)(d: ~~~(∀y∈a.names,y.2≠.cell))(b: ~~~(∀x∈a.names,x.2=.local->a.names.lookup x.1=some .local))(f:do iC a X.env=true)(hs:∀x,foldedSetIterable iter X.env x=pure x:=by intro _;rfl):
  QE X k (.ListComp elt [⟨target,iter,ifs,0⟩] a pos) (kT pi pg pt pe ix):=by
 ∎;let⟨w,m,n⟩:=u.h;let⟨A,i,l⟩:=r.h;∎;exact⟨_,wX o m i (λC s H fp pl=>(ht C s H fp pl).h) (λC s H fp pl=>(q C s H fp pl).of) g e d b f hs,CT n l tm tK v⟩
theorem nW(i:Nat)(N:ah)(ix:br)(D:QI X k target iter pi)(B:lL X a N js target pg)(w:∀C s H fp pl,QE (cA X a N C s H fp pl) k.cp elt pe)(ht:∀C s H fp pl,nk (cA X a N C s H fp pl) k.cp ifs pt:=by exact λ_ _ _ _ _=>tp)(u:X.N.Nodup:=by assumption)(G: ~~~(lo<=i))(m:do X.N[i]?=some y)(I:Loc X.env.scope y:=by first |exact Or.inl rfl |exact Or.inr rfl)(v:do X.calm=true)(g:bA X a N ix:=by repeat first |exact True.intro |refine⟨rfl,rfl,rfl,?_⟩)(E: ~~~(∀j∈js,ix[j]?=some none))(l:swapsWith (.ListComp elt [⟨target,iter,ifs,0⟩] a pos) (some (.Name y py)) spos.line X.env=pure true:=by with_unfolding_all rfl)(e:do a.kind=.function)(d: ~~~(∀y∈a.names,y.2≠.cell))(b: ~~~(∀x∈a.names,x.2=.local->a.names.lookup x.1=some .local))(f:do iC a X.env=true)(hs:∀x,foldedSetIterable iter X.env x=pure x:=by intro _;rfl)(A:jh X y:=by first |exact .inl rfl |exact .inr rfl |assumption):
  QS X k lo (.Assign [.Name y py] (.ListComp elt [⟨target,iter,ifs,0⟩] a pos) spos) (nJ i (kT pi pg pt pe ix)):=by
 ∎;let⟨J,q,r⟩:=D.h;let⟨L,n,o⟩:=B.h;∎;exact⟨_,Di u m I v q n (λC s H fp pl=>(ht C s H fp pl).h) (λC s H fp pl=>(w C s H fp pl).of) g l e d b f hs A,wm G (CT r o tm tK E)⟩
end
end
section
theorem Lk.md(L:Lk K k lo us Fb Hb D D')(b:k.z=true->k'.z=true)(x:∀x h e g,k.q x->∀d,XF K e d x.f->Gr Fb Hb e g->k.E h x.c d g):Lk K k' lo us Fb Hb D D':=
 ⟨λF H j i a W=>L.nx F H j i a (W.md b x),λF H j i a v t c W=>L.rt F H j i a v t c (W.md b x),λF H j i a W=>L.bk F H j i a (W.md b x),λF H j i a W=>L.ct F H j i a (W.md b x)⟩
def uW(q:Xv->Prop)(C:ae)(pe:a8):cw:=λ_ j=>pe (j.map aG) λ_=>q (.ref C)
theorem L0(h:bu K ⟨z,λ_=>E,q⟩ te pe):cU K ⟨z,λ_=>E,q⟩ lo (z8 C E te) (uW q C pe):=λus f d F H j i l D e W p L=>
 h F (Bq d H) H j _ _ _ W.eD p λt v a b c q o=>W.x (.ref C) j a b q none (.inl rfl) (W.g.trans' o.g)
theorem bh.unset{i:Nat}(W:bh K k lo us Fb Hb F H G J cs)(s:lo<=i):bh K k lo us Fb Hb F H (G.set i none) (J.set i .aq) (λj=>if j=i then [] else cs j) where
 g:=W.g
 z:=W.z
 l:=by rw[length_set,length_set];exact W.l
 e:=λj u h=>by
  by_cases e:j=i
  .subst e;have r:j<J.length:=by have:=(List.getElem?_eq_some_iff.mp h).1;rw[length_set] at this;exact this
   rw[getElem?_set_self r] at h;cases h;exact .inl rfl
  .rw[getElem?_set_ne (λz=>e z.symm)] at h;rw[if_neg e];exact (W.e j u h).imp id λ⟨v,h1,h2⟩=>⟨v,by rw[getElem?_set_ne (λz=>e z.symm)];exact h1,h2⟩
 c:=λj=>by
  split
  .exact .nil
  .exact W.c j
 n:=λj=>by
  split
  .exact .nil
  .exact W.n j
 d:=λa b ne p f q m=>by
  by_cases o:a=i
  .rw[if_pos o] at f;cases f
  .rw[if_neg o] at f;by_cases eb:b=i
   .rw[if_pos eb] at m;cases m
   .rw[if_neg eb] at m;exact W.d a b ne p f q m
 p:=λj h=>by rw[getElem?_set_ne ⋯];exact W.p j h
 x:=W.x
def Pd.less(D:Pd)(i:Nat):Pd:={ nx:=λj=>D.nx (j.set i .aq),rt:=D.rt,bk:=λj=>D.bk (j.set i .aq),ct:=λj=>D.ct (j.set i .aq) }
theorem Lk.less(b:lo<=i)(L:Lk K k lo us Fb Hb D D'):Lk K k lo us Fb Hb (D.less i) (D'.less i):=
 ⟨λF H j G a W q=>L.nx F H _ _ _ (W.unset b) q,λF H j G a v t c W r e n d f q=>L.rt F H j G a v t c W r e n d f q,λF H j G a W q=>L.bk F H _ _ _ (W.unset b) q,λF H j G a W q=>L.ct F H _ _ _ (W.unset b) q⟩
def AN(K:aj)(k:Md)(lo:Nat)(ps:cw):TS:=λD j H=>∃(us:ax)(b d F:Hp)(i:ai)(e:Nat->Cs)(a:Pd),bh K k lo us b d F H j i e/\ps a i/\Lk K k lo us b d D a
theorem QB.of(h:QB X k lo sts ps):eL X sts (AN X.K k lo ps):=λaa s j H D I ⟨us,Fb,Hb,F,i,cs,D',h1,h2,h3⟩=>by
 let⟨d,a,b⟩:=h.h;exact a aa s j H D I (b us Fb Hb F H j i cs D D' h1 h2 h3)
theorem Q3:cU K k lo (AN K k lo ps) ps:=λus b d F H j i e D a f g h=>⟨us,b,d,F,i,e,a,f,g,h⟩
def uJ(K:aj)(k:Md)(lo:Nat)(o:TE->TS)(n:a8->cw):Prop:=∀(us:ax)(d a F H:Hp)(j:St)(i:ai)(m:Nat->Cs)(D:Ends)(b:Pd)(h:TE)(g:a8),bh K k lo us d a F H j i m->Lk K k lo us d a D b->(∀Q f,g (i.map aG) f->(∀t v l e c,f t->Out K F (Bq a H) H l e t v c->Q v e)->h j H Q)->n g b i->o h D j H
theorem NJ(g:lo<=i):uJ K k lo (λa=>kh a (iY i)) (nJ i):=λus n r F H j G s D l a u W L h p=>h _ _ p λt v m d c q o=>by
 let⟨b,f,e⟩:=W.outF o g q.1;exact L.nx b d _ _ _ e q.2
def Fi(K:aj)(z:Bool)(pe:(Xv->Prop)->a8)(R':St->XK):TE:=λj H Q=>∃q,yI K ⟨z,R',q⟩ (pe q) j H Q
theorem Ur{pe:(Xv->Prop)->a8}(h:∀q,QE X ⟨z,R',q⟩ e (pe q)):PE X e (Fi X.K z pe R'):=λaa s j H Q I ⟨q,h'⟩=>(h q).of aa s j H Q I h'
@[reducible] def AO(K:aj)(C:ae)(a:ao):Prop:=W.exmOne K a (.ref C)=some true
def uX(K:aj)(C:ae)(i:Nat)(a:a8->cw)(pe:(Xv->Prop)->a8)(b:cw):cw:=λD j=>a (pe λx=>AO K C x.c/\∃B,x.c=.ref B/\b (D.less i) (j.set i (.exc B (Xp K x.f)))) D j
theorem L1{A:TE->TS}(u:lo<=i)(hS:uJ K k lo A pS)(hh:cU K k.cp lo th ph):cU K k lo (Aa K C i (λR'=>A (Fi K k.z pe R')) th) (uX K C i pS pe ph):=λus n a F H j G N D E W p L=>
 hS us n a F H j G N D E _ _ W L (λQ J pq q=>⟨_,F,Bq a H,_,J,⟨W.eD.s,W.eD.b,W.eD.z,W.eD.e,λx F' H' w d xf g=>⟨w.1,by
  let⟨_,B,Y,U⟩:=w;refine⟨B,Y,λy hy=>?_⟩;let⟨I,r,O⟩:=nQ (o:=jR y B d) g.s (by intro _ _ z;cases z) hy;have M:=((W.gr g).gr r).set u (t:=.exc B (Xp _ x.f)) (v:=.ref y) (c:=[]) ⟨rfl,y,d,rfl,.inl O,λF3 l=>xf.mo (r.le.trans l)⟩ .nil .nil λ_ _ _ _ _ m=>nomatch m
  exact hh us n a I _ _ _ _ _ _ (M.md id λ_ _ _ _ h=>h.elim) U ((L.less u).md id W.x)⟩⟩,pq,q⟩) p
end
section
theorem DB(h:lS (eK X.prog X.w) X E):∀j,iB (eK X.prog X.w) X j E:=λj aa H s e a I c=>h aa j H s e a I c
theorem Q4(hs:X.stack=X.env::X.outer)(m:X.env.frame=some X.env.locals)(d:X.ex=[])(g:nv X E)(a:X.calm=true)(n:Gl X x)(hm:X.mg x=some (.ref C))(FB:ExcBaseFacts B newId initId bmB)(o:W.excIn X.K C bmB newId=true)(l:QE X ⟨z,λ_=>E,q⟩ e₀ pe)(b: ~~~(da x))(f:do ee e₀ [] X.env)(e:do eZ bw [] X.env):
  QS X ⟨z,λ_=>E,q⟩ lo (.Raise (some (.Call (.Name x np) [e₀] [] bw)) none pos) (uW q C pe):=by
 let⟨r,i,j⟩:=l.h;exact⟨_,MR hs m d g a n hm FB o i b f e,L0 j⟩
section
theorem Q5(hs:X.stack=X.env::X.outer)(m:X.env.frame=some X.env.locals)(o:Gl X x)(hm:X.mg x=some (.ref C))(f:X.N.Nodup)(u:lo<=i)(s:X.N[i]?=some n)(hn:X.env.scope.names.lookup n=some .local)(g:uJ X.K k lo tS pS)(h:∀pn xe d,PE (X.cv pn xe) e d->PS (X.cv pn xe) st (tS d))(l:∀(pn:aT)(xe:ao->ak->Prop)(R':St->XK),(∀j,iB (eK X.prog X.w) (X.cv pn xe) j (R' j))->∀q,QE (X.cv pn xe) ⟨k.z,R',q⟩ e (pe q))(r:∀v:Value,QB (X.bx v) k.cp lo (a::suite) ph)(b: ~~~(da x)):
  QS X k lo (.Try [st] [.ExceptHandler (some (.Name x np)) (some n) (a::suite) hpos] [] [] pos) (uX X.K C i pS pe ph):=
 ⟨_,MT hs m o hm f s hn (λpn xe R' y=>wQ (h pn xe _ (Ur (l pn xe R' y)))) (λv=>(r v).of) b,L1 u g Q3⟩
end
theorem Eo:b9 X (compareOp .Is) (λx y H Q=>((∃d,y=.bl d)\/y=.aE)/\Q (.bl (decide (x=y))) H):=by
 intro aa s j H x y v u Q I a b h;let⟨e,q⟩:=h;rcases e with⟨d,rfl⟩ |rfl
 .cases b;cases x with
  |bl c=>cases a;exact PyProof.Rows.is_bool (cH I q (by cases c<;>cases d<;>rfl))
  |_=>first
   |(cases a;exact wpAny_pure (cH I q rfl))
   |(let⟨t,rfl⟩:=a;exact wpAny_pure (cH I q rfl))
 .exact Ra aa s j H x _ v u Q I a b ⟨rfl,q⟩
end
section
theorem w9:b9 X (compareOp .IsNot) (λx y H Q=>((∃d,y=.bl d)\/y=.aE)/\Q (.bl (!decide (x=y))) H):=by
 intro aa s j H x y v u Q I a b h;let⟨e,q⟩:=h;rcases e with⟨d,rfl⟩ |rfl
 .cases b;cases x with
  |bl c=>cases a;exact PyProof.Rows.isnot_bool (cH I q (by cases c<;>cases d<;>rfl))
  |_=>first
   |(cases a;exact wpAny_pure (cH I q rfl))
   |(let⟨t,rfl⟩:=a;exact wpAny_pure (cH I q rfl))
 .exact PB aa s j H x _ v u Q I a b ⟨rfl,q⟩
end
section
def oB:Tr->Tr->Bool
 |.bl c,.bl d=>c == d
 |.aE,.aE=>true
 |_,_=>false
def kq(neg:Bool)(x y:Tr)(Q:ay):Prop:=match y with
 |.bl d=>Q (.bl (neg ^^ oB x (.bl d)))
 |.aE=>Q (.bl (neg ^^ oB x .aE))
 |_=>False
theorem R.ref(r:R K F B t v c):(∃b,t=.bl b/\v=.bl b)\/(t=.aE/\v=.aE)\/(∀d,oB t (.bl d)=false/\oB t .aE=false/\v≠.bl d/\v≠.aE):=by
 cases t with
 |bl b=>exact .inl ⟨b,rfl,r.1⟩
 |aE=>exact .inr (.inl ⟨rfl,r.1⟩)
 |aq=>exact (show False from r).elim
 |int n=>exact .inr (.inr λd=>⟨rfl,rfl,(by rw[r.1];intro z;cases z),(by rw[r.1];intro z;cases z)⟩)
 |str n=>exact .inr (.inr λd=>⟨rfl,rfl,(by rw[r.1];intro z;cases z),(by rw[r.1];intro z;cases z)⟩)
 |ty n=>exact .inr (.inr λd=>⟨rfl,rfl,(by rw[r.1];intro z;cases z),(by rw[r.1];intro z;cases z)⟩)
 |cl n=>exact .inr (.inr λd=>⟨rfl,rfl,(by rw[r.1];intro z;cases z),(by rw[r.1];intro z;cases z)⟩)
 |exc n _=>let⟨_,a,_,rfl,_⟩:=r;exact .inr (.inr λd=>⟨rfl,rfl,(by intro z;cases z),(by intro z;cases z)⟩)
 |aP e=>let⟨a,vs,rfl,_⟩:=r;exact .inr (.inr λd=>⟨rfl,rfl,(by intro z;cases z),(by intro z;cases z)⟩)
 |ag f e=>
  cases f with
  |o=>let⟨a,vs,g,rfl,_⟩:=r;exact .inr (.inr λd=>⟨rfl,rfl,(by intro z;cases z),(by intro z;cases z)⟩)
  |f=>let⟨_,a,vs,rfl,_⟩:=r;exact .inr (.inr λd=>⟨rfl,rfl,(by intro z;cases z),(by intro z;cases z)⟩)
  |l b=>let⟨_,a,vs,rfl,_⟩:=r;exact .inr (.inr λd=>⟨rfl,rfl,(by intro z;cases z),(by intro z;cases z)⟩)
 |aR f e=>
  cases f with
  |o=>let⟨a,vs,g,rfl,_⟩:=r;exact .inr (.inr λd=>⟨rfl,rfl,(by intro z;cases z),(by intro z;cases z)⟩)
  |f=>let⟨_,a,vs,rfl,_⟩:=r;exact .inr (.inr λd=>⟨rfl,rfl,(by intro z;cases z),(by intro z;cases z)⟩)
  |l b=>let⟨_,a,vs,rfl,_⟩:=r;exact .inr (.inr λd=>⟨rfl,rfl,(by intro z;cases z),(by intro z;cases z)⟩)
 |ins f c e=>
  cases f with
  |o=>let⟨a,h,vs,g,rfl,_⟩:=r;exact .inr (.inr λd=>⟨rfl,rfl,(by intro z;cases z),(by intro z;cases z)⟩)
  |f=>let⟨_,a,h,vs,rfl,_⟩:=r;exact .inr (.inr λd=>⟨rfl,rfl,(by intro z;cases z),(by intro z;cases z)⟩)
  |l b=>let⟨_,a,h,vs,rfl,_⟩:=r;exact .inr (.inr λd=>⟨rfl,rfl,(by intro z;cases z),(by intro z;cases z)⟩)
theorem Ep(r:R K F B t v c)(d:Bool):decide (v=.bl d)=oB t (.bl d):=by
 rcases r.ref with⟨b,rfl,rfl⟩ |⟨rfl,rfl⟩ |h
 .cases b<;>cases d<;>rfl
 .rfl
 .rw[(h d).1];exact decide_eq_false (h d).2.2.1
theorem DC(r:R K F B t v c):decide (v=.aE)=oB t .aE:=by
 rcases r.ref with⟨b,rfl,rfl⟩ |⟨rfl,rfl⟩ |h
 .rfl
 .rfl
 .rw[(h true).2.1];exact decide_eq_false (h true).2.2.2
theorem Er:ed K k (λx y H Q=>((∃d,y=.bl d)\/y=.aE)/\Q (.bl (decide (x=y))) H) (kq false):=λF B H x y l ty g h Q f s b z a e i j hd p q=>by
 unfold kq at p;split at p
 .obtain⟨rfl,_⟩:=e;refine⟨.inl ⟨_,rfl⟩,?_⟩;rw[Ep a];rw[Bool.false_xor] at p;exact q _ _ F H [] p (Gr.aJ s) ⟨rfl,rfl⟩ .nil λ_ m=>nomatch m
 .obtain⟨rfl,_⟩:=e;refine⟨.inr rfl,?_⟩;rw[DC a];rw[Bool.false_xor] at p;exact q _ _ F H [] p (Gr.aJ s) ⟨rfl,rfl⟩ .nil λ_ m=>nomatch m
 .exact p.elim
theorem v8:ed K k (λx y H Q=>((∃d,y=.bl d)\/y=.aE)/\Q (.bl (!decide (x=y))) H) (kq true):=λF B H x y l ty g h Q f s b z a e i j hd p q=>by
 unfold kq at p;split at p
 .obtain⟨rfl,_⟩:=e;refine⟨.inl ⟨_,rfl⟩,?_⟩;rw[Ep a];rw[Bool.true_xor] at p;exact q _ _ F H [] p (Gr.aJ s) ⟨rfl,rfl⟩ .nil λ_ m=>nomatch m
 .obtain⟨rfl,_⟩:=e;refine⟨.inr rfl,?_⟩;rw[DC a];rw[Bool.true_xor] at p;exact q _ _ F H [] p (Gr.aJ s) ⟨rfl,rfl⟩ .nil λ_ m=>nomatch m
 .exact p.elim
theorem Rs.Bu:∀{bs:List Bool}{vs:ax}{c:Cs},Rs K F B (bs.map .bl) vs c->vs=bs.map V.bl
 |[],_,_,y=>by let⟨h,_⟩:=y;exact h
 |b::bs,_,_,y=>by let⟨v,r,c,d,a,g,e,f⟩:=y;rw[a,Rs.Bu f,e.1];rfl
def AQ(all:Bool)(ts:ai)(Q:ay):Prop:=match ts with
 |[.ag _ xs]=>∃bs:List Bool,xs=bs.map .bl /\ Q (.bl (if all=true then bs.all id else bs.any id))
 |_=>False
theorem DD:kL K k (λxs H Q=>∃(a:ae)(bs:List Bool),xs=[.ref a]/\bG K H a (bs.map V.bl)/\Q (.bl (bs.all id)) H) (AQ true):=λF B H xs j h Q g s b z r f p q=>by
 unfold AQ at p;split at p
 .obtain⟨v,rfl,r1⟩:=r.one;∎;let⟨a,vs,i,rfl,d,e,_⟩:=r1.cM s b f;let⟨bs,rfl,p⟩:=p;∎;rw[e.Bu] at d;exact⟨a,bs,rfl,d,q _ _ F H [] p (Gr.aJ s) ⟨rfl,rfl⟩ .nil λ_ m=>nomatch m⟩
 .exact p.elim
theorem Ua(ts:ai)(b:Gl X x)(hm:X.mg x=some (.ref c))(ht:∃(o:Obj)(a:d3)(n:Nat),X.K.lookup c=some o/\o.cls=.type "tuple"/\o.data=.seq a n/\a.size<=sizeLine/\aH vs a.toList)(d:∀F B,Rs X.K F B ts vs [])(hd: ~~~(da x)):QE X k (.Name x pos) (pC (.aP ts)):=
 En (.ref c) b hm rfl (λF B=>⟨c,vs,rfl,.inr ht,d F B⟩) hd
theorem DE:∀(a:az),Rs K F B (a.map .int) (a.map V.int) []
 |[]=>⟨rfl,rfl⟩
 |i::a=>⟨.int i,a.map V.int,[],[],rfl,rfl,⟨rfl,rfl⟩,DE a⟩
theorem mH(b:az)(hm:X.mg x=some (.ref c))(ht:∃(o:Obj)(a:d3)(n:Nat),X.K.lookup c=some o/\o.cls=.type "tuple"/\o.data=.seq a n/\a.size<=sizeLine/\aH (b.map V.int) a.toList)(d:do Gl X x)(hd: ~~~(da x)):QE X k (.Name x pos) (pC (.aP (b.map .int))):=
 Ua _ d hm ht (λ_ _=>DE b) hd
theorem uj(hm:X.mg x=some (.int i t))(a:do Gl X x)(hd: ~~~(da x)):QE X k (.Name x pos) (pC (.int i)):=En (.int i) a hm ⟨_,rfl⟩ (λ_ _=>⟨rfl,rfl⟩) hd
end
section
theorem k8(K:aj)(hm:X.mg x=none)(f:QA X k (e::es) ps)(d:do X.K=K)(h:do Gl X x)(i:do bootBuiltins x=some (.builtin "isinstance"))(hn: ~~~(x≠"__name__"))(a: ~~~(da x))(g:do ee e es X.env)(b:do eZ pos es X.env):
  QE X k (.Call (.Name x p) (e::es) [] pos) (pB (yL K) ps):=by
 subst d;exact d7 MO S2 hm f h i hn a g b
theorem cT(K:aj)(h:QE X k e pe)(a:do X.K=K)(b:do attributeBase e f X.env (eval e X.env)=eval e X.env):QE X k (.Attribute e f pos) (p1 (add K f) pe):=by
 subst a;exact Uo h b
end
mutual
noncomputable def Cl:Tr->Bool
 |.aP a=>fC a
 |.ag .f a=>fC a
 |.aR .f a=>jX a
 |.ins .f _ a=>qW a
 |.ag _ _=>false
 |.aR _ _=>false
 |.ins _ _ _=>false
 |_=>true
noncomputable def fC:List Tr->Bool
 |[]=>true |x::xs=>Cl x&&fC xs
noncomputable def jX:List (aS×Tr)->Bool
 |[]=>true |(_,x)::xs=>Cl x&&jX xs
noncomputable def qW:List (Str×Tr)->Bool
 |[]=>true |(_,x)::xs=>Cl x&&qW xs
end
structure FG(t:Tr):Prop where
 l:aG t=t
 f:aA t=t
 d:dn t=t
 o:cD t=true
 t:bR t=true
structure Hh(t:ai):Prop where
 l:cY t=t
 f:bz t=t
 d:ck t=t
 o:cN t=true
 t:d9 t=true
structure Hi(t:bE):Prop where
 l:dN t=t
 f:dM t=t
 d:gW t=t
 o:g9 t=true
 t:g8 t=true
structure Hj(t:bg):Prop where
 l:b3 t=t
 f:fh t=t
 d:ij t=t
 o:dP t=true
 t:fj t=true
mutual
theorem lA:∀(t:Tr),Cl t=true->FG t
 |.int _,_=>⟨rfl,rfl,rfl,rfl,rfl⟩
 |.bl _,_=>⟨rfl,rfl,rfl,rfl,rfl⟩
 |.str _,_=>⟨rfl,rfl,rfl,rfl,rfl⟩
 |.aE,_=>⟨rfl,rfl,rfl,rfl,rfl⟩
 |.aq,_=>⟨rfl,rfl,rfl,rfl,rfl⟩
 |.ty _,_=>⟨rfl,rfl,rfl,rfl,rfl⟩
 |.cl _,_=>⟨rfl,rfl,rfl,rfl,rfl⟩
 |.exc _ _,_=>⟨rfl,rfl,rfl,rfl,rfl⟩
 |.aP xs,h=>have c:=gk xs h;⟨by show Tr.aP (cY xs)=_;rw[c.l],by show Tr.aP (bz xs)=_;rw[c.f],by show Tr.aP (ck xs)=_;rw[c.d],c.o,c.t⟩
 |.ag .f xs,h=>have c:=gk xs h;⟨rfl,rfl,by show Tr.ag .f (ck xs)=_;rw[c.d],c.o,c.t⟩
 |.aR .f xs,h=>have c:=cB xs h;⟨rfl,rfl,by show Tr.aR .f (gW xs)=_;rw[c.d],c.o,c.t⟩
 |.ins .f a xs,h=>have c:=qb xs h;⟨rfl,rfl,by show Tr.ins .f a (ij xs)=_;rw[c.d],c.o,c.t⟩
theorem gk:∀(t:List Tr),fC t=true->Hh t
 |[],_=>⟨rfl,rfl,rfl,rfl,rfl⟩
 |x::xs,h=>by
  have h:(Cl x&&fC xs)=true:=h;rw[and_eq_true] at h;have a:=lA x h.1;have b:=gk xs h.2;exact⟨by show aG x::cY xs=_;rw[a.l,b.l],by show aA x::bz xs=_;rw[a.f,b.f],by show dn x::ck xs=_;rw[a.d,b.d],by show (cD x&&cN xs)=_;rw[a.o,b.o];rfl,by show (bR x&&d9 xs)=_;rw[a.t,b.t];rfl⟩
theorem cB:∀(t:List (aS×Tr)),jX t=true->Hi t
 |[],_=>⟨rfl,rfl,rfl,rfl,rfl⟩
 |(k,x)::xs,h=>by
  have h:(Cl x&&jX xs)=true:=h;rw[and_eq_true] at h;have a:=lA x h.1;have b:=cB xs h.2;exact⟨by show (k,aG x)::dN xs=_;rw[a.l,b.l],by show (k,aA x)::dM xs=_;rw[a.f,b.f],by show (k,dn x)::gW xs=_;rw[a.d,b.d],by show (cD x&&g9 xs)=_;rw[a.o,b.o];rfl,by show (bR x&&g8 xs)=_;rw[a.t,b.t];rfl⟩
theorem qb:∀(t:List (Str×Tr)),qW t=true->Hj t
 |[],_=>⟨rfl,rfl,rfl,rfl,rfl⟩
 |(k,x)::xs,h=>by
  have h:(Cl x&&qW xs)=true:=h;rw[and_eq_true] at h;have a:=lA x h.1;have b:=qb xs h.2;exact⟨by show (k,aG x)::b3 xs=_;rw[a.l,b.l],by show (k,aA x)::fh xs=_;rw[a.f,b.f],by show (k,dn x)::ij xs=_;rw[a.d,b.d],by show (cD x&&dP xs)=_;rw[a.o,b.o];rfl,by show (bR x&&fj xs)=_;rw[a.t,b.t];rfl⟩
end
class af(α:Type) where
 t:α->Tr
 c:∀a,Cl (t a)=true
 h:∀a,t a≠.aq
theorem mr[af j]:∀xs:List j,fC ↥xs=true
 |[]=>rfl
 |x::xs=>by show (Cl (af.t x)&&fC ↥xs)=true;rw[af.c x,mr xs];rfl
theorem jN[af j]:∀xs:List (aS×j),jX (xs.map λp=>(p.1,af.t p.2))=true
 |[]=>rfl
 |x::xs=>by show (Cl (af.t x.2)&&jX (xs.map λp=>(p.1,af.t p.2)))=true;rw[af.c x.2,jN xs];rfl
instance:af Int:=⟨.int,λ_=>rfl,λ_ z=>by cases z⟩
instance:af Str:=⟨.str,λ_=>rfl,λ_ z=>by cases z⟩
instance:af Bool:=⟨.bl,λ_=>rfl,λ_ z=>by cases z⟩
instance:af Rat:=⟨λq=>.aP [.int q.num,.int (q.den:Int)],λ_=>rfl,λ_ z=>by cases z⟩
instance {j:Type} [af j]:af (List j):=⟨λxs=>.ag .f ↥xs,λxs=>mr xs,λ_ z=>by cases z⟩
instance {j i:Type} [af j] [af i]:af (j ⊕ i):=⟨λx=>match x with |.inl a=>af.t a |.inr b=>af.t b,λx=>by cases x<;>exact af.c _,λx=>by cases x<;>exact af.h _⟩
instance {j i:Type} [af j] [af i]:af (j×i):=⟨λx=>.aP [af.t x.1,af.t x.2],λx=>by show (Cl _&&(Cl _&&true))=true;rw[af.c,af.c];rfl,λ_ z=>by cases z⟩
section
variable{α β:Type}[af α][af β](a:α)(xs:List α)
@[simp] theorem ND(n:Int):af.t n=.int n:=rfl
@[simp] theorem Ox(n:Str):af.t n=.str n:=rfl
@[simp] theorem UT(n:Bool):af.t n=.bl n:=rfl
theorem E6(q:Rat):af.t q=.aP [.int q.num,.int (q.den:Int)]:=rfl
theorem ia:af.t xs=.ag .f ↥xs:=rfl
theorem tE:aG (af.t a)=af.t a:=(lA _ (af.c a)).l
theorem jP:aA (af.t a)=af.t a:=(lA _ (af.c a)).f
theorem kC:dn (af.t a)=af.t a:=(lA _ (af.c a)).d
theorem ik:cD (af.t a)=true:=(lA _ (af.c a)).o
theorem jQ:bR (af.t a)=true:=(lA _ (af.c a)).t
theorem E2:cY ↥xs=↥xs:=(gk _ (mr xs)).l
theorem oh:bz ↥xs=↥xs:=(gk _ (mr xs)).f
theorem qC:ck ↥xs=↥xs:=(gk _ (mr xs)).d
theorem uf:cN ↥xs=true:=(gk _ (mr xs)).o
theorem jt:d9 ↥xs=true:=(gk _ (mr xs)).t
end
class inductive Fp:Fl->Prop where
 |f:Fp .f
 |l:Fp (.l false)
instance:Fp .f:=.f
instance:Fp (.l false):=.l
section
variable{f:Fl}[h:Fp f]
theorem Oy:aG (.ag f xs)=.ag f xs:=by cases h<;>rfl
theorem L3:aA (.ag f xs)=.ag f xs:=by cases h<;>rfl
theorem Ld:dn (.ag f xs)=.ag f (ck xs):=by cases h<;>rfl
theorem Lf{j:Type}[af j]{xs:List j}:bR (.ag f ↥xs)=true:=by cases h<;>first |exact jt xs |rfl
theorem DI:aG (.aR f xs)=.aR f xs:=by cases h<;>rfl
theorem CU:aA (.aR f xs)=.aR f xs:=by cases h<;>rfl
theorem Sa:dn (.aR f xs)=.aR f (gW xs):=by cases h<;>rfl
end
section
variable{α:Type}[af α]{xs:List (aS×α)}
theorem Ub:gW (xs.map λp=>(p.1,af.t p.2))=xs.map λp=>(p.1,af.t p.2):=(cB _ (jN xs)).d
end
section
def kU(pa:cq):cq:=λj Q=>pa j λts=>Q (bz ts)
theorem CV(h:fw K k ta pa):fw K k ta (kU pa):=λF B H j i Q g c p q=>by
 refine h F B H j i _ _ c p λm vs f b l p1 e=>?_
 let⟨a,d,r2⟩:=e.held;exact q _ vs a b [] p1 ⟨d,r2,.nil,.nil⟩
theorem QA.aA(h:QA X k es pa):QA X k es (kU pa):=by
 let⟨d,a,b⟩:=h.h;exact⟨d,a,CV b⟩
end
def cX(n:Nat)(g:ai->(ay)->Prop):bK:=λa Q=>a.length=n/\g a λt=>∀j,Q t j
def Hk:bK:=cX 2 λd Q=>∃a b,d=[.int a,.int b]/\0<=a/\0<=b/\Q (.int (gd a b))
def Gq:bK:=cX 2 λd Q=>∃a b,d=[.int a,.int b]/\b≠0/\bi b<=7990/\Q (af.t (Rat.divInt a b))
theorem xQ(f:b≠0)(h:bi b<=k):bi (gd a b)<=k:=by
 refine iL ?_;have d:=jl h;have e:(gd a b).natAbs<=b.natAbs:=le_of_dvd ⋯ (Int.natAbs_dvd_natAbs.mpr (wj a b));omega
theorem tq(d:b≠0)(h:bi b<=7990):dD x (gd a b):=⟨by have:=lh (a:=a) d;omega,jl (le_trans (xQ d h) (show 7990<=8000 by omega))⟩
theorem CW(d:b≠0)(h:bi b<=7990):dD x (-gd a b):=⟨by have:=lh (a:=a) d;omega,by rw[Int.natAbs_neg];exact jl (le_trans (xQ d h) (show 7990<=8000 by omega))⟩
def Aj(f:Rat->Rat->Rat):bK:=cX 2 λd Q=>∃a b:Rat,d=[af.t a,af.t b]/\bs a+bs b<=7990/\Q (af.t (f a b))
theorem eN(a:bi x<=n)(b:bi y<=m)(h:n+m<=60000000):kf x y:=Tz ⋯ ⋯
theorem DF(a b:Rat)(h:bs a+bs b<=7990):bi ((a.den:Int)*b.den)<=7990:=le_trans (i6 _ _) (by have:=gy a;have:=gy b;omega)
theorem wx[af j][af i](a:List j)(ns:List i):(↥a).zipWith (λx y=>Tr.aP [x,y]) ↥ns=(a.zip ns).map λp=>Tr.aP [af.t p.1,af.t p.2]:=by
 rw[List.zipWith_map,List.zip_eq_zipWith,List.map_zipWith]
theorem JU[af j](a:List j):(↥a).mapIdx (λi x=>Tr.aP [.int i,x])=a.zipIdx.map λp=>Tr.aP [.int p.2,af.t p.1]:=by
 apply ext_getElem?;intro i;rw[List.getElem?_mapIdx,getElem?_map,getElem?_map,List.getElem?_zipIdx];cases a[i]?<;>simp
theorem Sb(t:Tr)(a:ai)(Q:ay):pC t a Q=(Q t):=rfl
theorem Sd(d:Tr->Tr->(ay)->Prop)(a b:a8)(j:ai)(Q:ay):p2 d a b j Q=(a j λx=>b j λy=>d x y Q):=rfl
theorem Se(b:Tr->(ay)->Prop)(a:a8)(j:ai)(Q:ay):Pu.p1 b a j Q=(a j λx=>b x Q):=rfl
theorem Lg:sj j' Q=(Q []):=rfl
theorem JV:va pe pa j Q=(pe j λx=>pa j λxs=>Q (x::xs)):=rfl
theorem Lh:vR pa j Q=(pa j λxs=>xs.length<=10000/\Q (.aP xs)):=rfl
theorem Li:vS pa j Q=(pa j λxs=>xs.length<=10000/\Q (.ag .o xs)):=rfl
theorem Sg(pe:a8)(j:ai)(Q:Bool->Prop):pT pe j Q=(pe j λx=>iR x Q):=rfl
theorem Lj(a b:c7)(j:ai)(Q:Bool->Prop):vU a b j Q=(a j λc=>if c=true then b j Q else Q false):=rfl
theorem Oz(a b:c7)(j:ai)(Q:Bool->Prop):yn a b j Q=(a j λc=>if c=true then Q true else b j Q):=rfl
theorem Ll(a:c7)(j:ai)(Q:Bool->Prop):vq a j Q=(a j λc=>Q (!c)):=rfl
theorem JW:vc pa pb j Q=(pa j λx=>iR x λc=>if c=true then pb j Q else Q (.bl false)):=rfl
theorem Lm:vr pa pb j Q=(pa j λx=>iR x λc=>if c=true then Q (.bl true) else pb j Q):=rfl
theorem JX:vd pa j Q=(pa j λx=>iR x λc=>Q (.bl (!c))):=rfl
theorem OA:yj pc pa pb j Q=(pc j λc=>if c=true then pa j Q else pb j Q):=rfl
theorem Ln(p q:cw)(D:Pd)(j:ai):sr p q D j=(p { D with nx:=q D } j):=rfl
theorem JY:ve D j=(D.nx j):=rfl
theorem Lo(i:Nat)(pe:a8)(D:Pd)(j:ai):vt i pe D j=(pe (j.map aG) λt=>bR t=true/\D.nx (j.set i t)):=rfl
theorem JZ:vf pe D j=(pe (j.map aG) λ_=>D.nx j):=rfl
theorem Lq:vu pe D j=(pe (j.map aG) λt=>cD t=true/\D.rt t j):=rfl
theorem Sh(a:c7)(p q:cw)(D:Pd)(j:ai):vv a p q D j=(a (j.map aG) λb=>if b=true then p D j else q D j):=rfl
theorem IZ(q:Xv->Prop)(aY:fF)(a:cq)(j:ai)(Q:ay):rV q aY a j Q=(a j λts=>aY (ck ts) (λt _=>Q t) q):=rfl
theorem J3:vg aY pa j Q=(pa j λts=>aY (ck ts) λt _=>Q t):=rfl
theorem Si(b:ai->(ay)->Prop)(a:cq)(j:ai)(Q:ay):pB b a j Q=(a j λts=>b ts Q):=rfl
theorem I0:Ab D' j'=(False):=rfl
theorem J4(i:Nat)(pe:a8)(D:Pd)(j:ai):nJ i pe D j=(pe (j.map aG) λt=>bR t=true/\D.nx (j.set i (aA t))):=rfl
theorem OB(i:Nat)(t:Tr)(j:ai)(Q:aU):oD i t j Q=(Q (j.set i t)):=rfl
theorem Ja:lT ts j Q=(match ts with |[]=>Q j |_=>False):=rfl
theorem IE(pg:eu)(a:ai->ai->(aU)->Prop)(ts:ai)(j:ai)(Q:aU):acl pg a ts j Q=(match ts with |t::r=>pg t j λb=>a r b Q |[]=>False):=rfl
theorem OC(n:Nat)(a:ai->ai->(aU)->Prop)(t:Tr)(j:ai)(Q:aU):lG n a t j Q=(match t with |.aP ts=>ts.length=n/\a ts j Q |_=>False):=rfl
theorem Lr:vx pe pg D j=(pe (j.map aG) λt=>bR t=true/\pg (aA t) j D.nx):=rfl
theorem Ls(i j:Nat)(d:cq)(D:Pd)(G:ai):vz i j d D G=(d (G.map aG) λts=>match ts with |[a,b]=>bR a=true/\bR b=true/\D.nx ((G.set i (aA a)).set j (aA b)) |_=>False):=rfl
theorem OD(pe:a8)(j:ai)(Q:ai->Bool->Prop):yv pe j Q=(pe j λt=>iE (aA t) λxs=>Q xs (bR (aA t))):=rfl
theorem OE(a:cq)(j:ai)(Q:ai->Bool->Prop):yu a j Q=(a j λts=>pR ts λt=>iE (aA t) λxs=>Q (xs.mapIdx λi x=>.aP [.int i,x]) (bR (aA t))):=rfl
theorem OF(a:cq)(j:ai)(Q:ai->Bool->Prop):yw a j Q=(a j λts=>pU ts λt u=>iE (aA t) λxs=>iE (aA u) λys=>Q (xs.zipWith (λx y=>.aP [x,y]) ys) (bR (aA t)&&bR (aA u))):=rfl
theorem Lu(a:cq)(G:ai)(Q:ai->Bool->Prop):vB a G Q=(a G λts=>rT ts λj=>-1000000<=j/\j<=1000000/\Q ((List.range j.toNat).map λ(i:Nat)=>.int i) true):=rfl
theorem Lw(K:aj)(i:Nat)(r:ah)(pe:a8)(D:Pd)(j:ai):vC K i r pe D j=(gI K j i r λu s=>kS u λxs=>pe (j.map aG) λt=>bR t=true/\xs.length<1000000/\D.nx (s (.ag .o (xs++[aA t])))):=rfl
theorem J8(K:aj)(i:Nat)(r:ah)(b pe:a8)(D:Pd)(j:ai):vh K i r b pe D j=(pe (j.map aG) λt=>bR t=true/\gI K j i r λu s=>kS u λxs=>b (j.map aG) λy=>pD xs y (aA t) λa=>D.nx (s (.ag .o a))):=rfl
theorem Lx(K:aj)(i:Nat)(r:ah)(a pe:a8)(D:Pd)(j:ai):vD K i r a pe D j=(pe (j.map aG) λt=>bR t=true/\gI K j i r λu s=>pE u λm=>a (j.map aG) λy=>ko y λy=>m.length<1000000/\D.nx (s (.aR .o (iF m y (aA t))))):=rfl
theorem J9:vi j' Q=(Q (.aR .o [])):=rfl
theorem Ka(K:aj)(i:Nat)(r:ah)(f:Str)(pe:a8)(D:Pd)(j:ai):vj K i r f pe D j=(pe (j.map aG) λt=>bR t=true/\gI K j i r λu s=>lV K f u λc fs=>D.nx (s (.ins .o c (gQ f t fs)))):=rfl
theorem OG(a:ai)(Q:bI->Prop):yx a Q=(Q none):=rfl
theorem OH(pe:a8)(j:ai)(Q:bI->Prop):yy pe j Q=(pe j λx=>match x with |.int i=>Q (some i) |_=>False):=rfl
theorem OI:yo pe pl ph j Q=(pe j λx=>pl j λl=>ph j λh=>uB x l h Q):=rfl
theorem Jb(q:Xv->Prop)(C:ae)(pe:a8)(a:Pd)(j:ai):uW q C pe a j=(pe (j.map aG) λ_=>q (.ref C)):=rfl
theorem Jc(K:aj)(C:ae)(i:Nat)(a:a8->cw)(pe:(Xv->Prop)->a8)(b:cw)(D:Pd)(j:ai):uX K C i a pe b D j=(a (pe λx=>AO K C x.c/\∃B,x.c=.ref B/\b (D.less i) (j.set i (.exc B (Xp K x.f)))) D j):=rfl
theorem Kb:kU pa j Q=(pa j λts=>Q (bz ts)):=rfl
theorem B0(n:Int):aG (.int n)=(.int n):=rfl
theorem Ly:aG (.bl n)=(.bl n):=rfl
theorem Kc:aG (.str n)=(.str n):=rfl
theorem Kd:aG .aE=.aE:=rfl
theorem Jd:aG .aq=.aq:=rfl
theorem Ke(n:ae)(P:Hp->bT->Prop):aG (.exc n P)=(.exc n P):=rfl
theorem B1(n:Int):Pu.aA (.int n)=(.int n):=rfl
theorem Lz:Pu.aA (.bl n)=(.bl n):=rfl
theorem Kf:Pu.aA (.str n)=(.str n):=rfl
theorem Kg:Pu.aA .aE=.aE:=rfl
theorem B2(n:Int):dn (.int n)=(.int n):=rfl
theorem Kh:dn .aE=.aE:=rfl
theorem B3(n:Int):cD (.int n)=true:=rfl
theorem LA:cD (.bl n)=true:=rfl
theorem Ki:cD (.str n)=true:=rfl
theorem Jy:cD .aE=true:=rfl
theorem B4(n:Int):bR (.int n)=true:=rfl
theorem LB:bR (.bl n)=true:=rfl
theorem Jz:bR (.str n)=true:=rfl
theorem JA:bR .aE=true:=rfl
theorem JB:Pu.aA (.aP xs)=.aP (bz xs):=rfl
theorem JC:dn (.aP xs)=.aP (ck xs):=rfl
theorem JD:cD (.aP xs)=cN xs:=rfl
theorem JE:bR (.aP xs)=d9 xs:=rfl
theorem JF:aG (.ag .o xs)=.ag (.l true) (cY xs):=rfl
theorem JG:Pu.aA (.ag .o xs)=.ag .f (bz xs):=rfl
theorem JH:dn (.ag (.l true) xs)=.ag (.l false) (ck xs):=rfl
theorem LC:Pu.aA (.ag (.l b) xs)=.ag (.l b) xs:=rfl
theorem JI:cD (.ag .o xs)=cN xs:=rfl
theorem JJ:bR (.ag .o xs)=d9 xs:=rfl
theorem JK(xs:bE):aG (.aR .o xs)=.aR (.l true) (dN xs):=rfl
theorem JL(xs:bE):Pu.aA (.aR .o xs)=.aR .f (dM xs):=rfl
theorem JM(xs:bE):cD (.aR .o xs)=g9 xs:=rfl
theorem JN(xs:bE):bR (.aR .o xs)=g8 xs:=rfl
def Loop(ts:ai)(pg:eu)(b:cw)(D:Pd)(j:ai):Prop:=∃I:Nat->aU,I 0 j/\(∀i t j,ts[i]?=some t->I i j->pg t j λa=>b { D with nx:=I (i+1),ct:=I (i+1),bk:=D.nx } a)/\∀j,I ts.length j->D.nx j
theorem LD:vA pi pg pb D j=(pi (j.map aG) λts a=>a=true/\Loop ts pg pb D j):=rfl
theorem Loop.map(ys:List O)(g:O->Tr){pg:eu}(J:Nat->aU)(d:J 0 G)(step:∀i y G,ys[i]?=some y->J i G->pg (g y) G λb=>pb { D with nx:=J (i+1),ct:=J (i+1),bk:=D.nx } b)(a:∀G,J ys.length G->D.nx G):Loop (ys.map g) pg pb D G:=by
 refine⟨J,d,λi t G h j=>?_,λG h=>a G (by rw[length_map] at h;exact h)⟩;rw[getElem?_map] at h;cases e:ys[i]? with
 |none=>rw[e] at h;cases h
 |some y=>rw[e] at h;cases h;exact step i y G e j
def pV(o:Option Tr)(Q:ay):Prop:=match o with |some .aq=>False |some t=>Q t |none=>False
theorem LF(i:Nat)(j:ai)(Q:ay):si i j Q=pV j[i]? Q:=rfl
theorem OJ[af j](a:j)(Q:ay):pV (some (af.t a)) Q=Q (af.t a):=by
 have h:=af.h a;generalize af.t a=t at h;cases t with
 |aq=>exact absurd rfl h
 |_=>rfl
theorem OK:pV (some (.int n)) Q=Q (.int n):=rfl
theorem Sj:pV (some (.bl n)) Q=Q (.bl n):=rfl
theorem OL:pV (some (.str n)) Q=Q (.str n):=rfl
theorem OM:pV (some .aE) Q=Q .aE:=rfl
theorem ON(n:ae)(P:Hp->bT->Prop)(Q:ay):pV (some (.exc n P)) Q=Q (.exc n P):=rfl
theorem OO:pV (some (.ag f xs)) Q=Q (.ag f xs):=rfl
theorem OP(f:Fl)(xs:bE)(Q:ay):pV (some (.aR f xs)) Q=Q (.aR f xs):=rfl
theorem OQ(f:Fl)(c:ae)(xs:bg)(Q:ay):pV (some (.ins f c xs)) Q=Q (.ins f c xs):=rfl
theorem Je(q:Rat)(Q:ay):ib (af.t q) (.int 0) Q=Q (.int q.num):=rfl
theorem Jf(q:Rat)(Q:ay):ib (af.t q) (.int 1) Q=Q (.int (q.den:Int)):=rfl
theorem LG:Tr.aP [.int 0,.int 1]=af.t (0:Rat):=rfl
theorem OR:Tr.aP [.int 1,.int 1]=af.t (1:Rat):=rfl
def aZ(ts:ai)(pg:eu)(pt:c7)(pe:a8)(e:ai)(Q:ay):Prop:=∃I:Nat->aU,I 0 []/\
 (∀i t a,ts[i]?=some t->I i a->pg t e λd=>pt d λb=>if b=true then pe d λx=>a.length<1000000/\I (i+1) (a++[x]) else I (i+1) a)/\∀a,I ts.length a->a.length<=1000000/\Q (.ag .o a)
theorem JO(a:iS)(pg:eu)(pt:c7)(pe:a8)(ix:br)(j:ai)(Q:ay):kT a pg pt pe ix j Q=(a j λts _=>aZ ts pg pt pe (jG ix j) Q):=rfl
theorem aZ.qN(ys:List j)(g:j->Tr)(h:j->Tr){pg:eu}{pe:a8}{Q:ay}(d:ys.length<=1000000)(step:∀y∈ys,∀R:ay,R (h y)->pg (g y) j' λf=>pe f R)(q:Q (.ag .o (ys.map h))):aZ (ys.map g) pg pJ pe j' Q:=by
 refine⟨λi b=>b=(ys.take i).map h,rfl,λi t b e a=>?_,λb a=>?_⟩
 .rw[getElem?_map] at e;cases e':ys[i]? with
  |none=>rw[e'] at e;cases e
  |some y=>
   rw[e'] at e;cases e;have l:=(List.getElem?_eq_some_iff.mp e').1;refine step y (mem_of_getElem? e') _ ⟨?_,?_⟩
   .rw[a,length_map,length_take];omega
   .show b++[h y]=(ys.take (i+1)).map h;rw[a,take_add_one,e',map_append];rfl
 .rw[length_map,take_length] at a;rw[a,length_map];exact⟨d,q⟩
theorem aZ.map[af j](ys:List i)(g:i->Tr)(h:i->j){pg:eu}{pe:a8}{Q:ay}(a:ys.length<=1000000)(step:∀y∈ys,∀R:ay,R (af.t (h y))->pg (g y) j' λb=>pe b R)(q:Q (.ag .o ((ys.map h).map af.t))):aZ (ys.map g) pg pJ pe j' Q:=
 aZ.qN ys g (λy=>af.t (h y)) a step (by rw[map_map] at q;exact q)
def dG{j:Type}[af j](f:Fl)(m:List (Str×j)):Tr:=.aR f (m.map λp=>(Sum.inr p.1,af.t p.2))
theorem Ek[af j](m:List (Str×j)):(m.map λp=>((Sum.inr p.1:aS),af.t p.2))=(m.map λp=>((Sum.inr p.1:aS),p.2)).map λp=>(p.1,af.t p.2):=by rw[map_map];rfl
theorem Dv[af j](m:List (Str×j)):Cl (dG .f m)=true:=by
 show jX (m.map λp=>((Sum.inr p.1:aS),af.t p.2))=true;rw[Ek];exact jN _
theorem xy[af j](m:List (Str×j))(x:Str):look (m.map λp=>((Sum.inr p.1:aS),af.t p.2)) (Sum.inr x)=(bZ m x).map af.t:=by
 unfold look bZ
 induction m with
 |nil=>rfl
 |cons p m a=>
  rw[map_cons,find?_cons,find?_cons];by_cases h:p.1=x
  .rw[decide_eq_true (by rw[h]),decide_eq_true h];rfl
  .rw[decide_eq_false (λz=>h (Sum.inr.inj z)),decide_eq_false h];exact a
theorem OS[af j](f:Fl)(m:List (Str×j))(x:Str)(d:j)(Q:ay):rX (dG f m) (.str x) (af.t d) Q=Q (af.t ((bZ m x).getD d)):=by
 show Q ((look (m.map λp=>((Sum.inr p.1:aS),af.t p.2)) (Sum.inr x)).getD (af.t d))=_;rw[xy];cases bZ m x<;>rfl
def Ak(x:Tr):Prop:=match x with |.aR _ _=>True |_=>False
theorem Sk(e:Tr->Tr->Tr->(ay)->Prop)(a b d:a8)(j:ai)(Q:ay):p3 e a b d j Q=(a j λx=>Ak x/\b j λy=>d j λz=>e x y z Q):=rfl
theorem OT[af j](f:Fl)(m:List (Str×j)):Ak (dG f m)=True:=rfl
def oQ(o:Option Tr)(Q:ay):Prop:=match o with |some t=>Q t |none=>False
theorem LH(t:Tr)(Q:ay):oQ (some t) Q=Q t:=rfl
section
theorem hZ:ib (.ag f xs) (.int i) Q=oQ (dc xs i) Q:=rfl
theorem Mm(C:Int->Int->Prop)(t:Int->Int->Tr):iD C t (.int i) (.int j) Q=(C i j/\Q (t i j)):=rfl
theorem Mn:pO (.int i) (.int j) Q=Q (.int (i+j)):=rfl
theorem Mo:pO (.ag f xs) (.ag g ys) Q=(xs.length+ys.length<=1000000/\Q (.ag .o (xs++ys))):=rfl
theorem OU:sk (.int i) (.int j) Q=(kf i j/\Q (.int (i*j))):=rfl
theorem w_lt:yM (.int i) (.int j) Q=Q (.bl (decide (i<j))):=rfl
theorem Sl:yK (.int i) (.int j) Q=Q (.bl (decide (j<i))):=rfl
theorem OV:sq (.int i) Q=Q (.int (-i)):=rfl
theorem N4:vw [.int i] Q=Q (.int (if i<0 then -i else i)):=rfl
theorem Sn(R:Bool->Prop):iR (.bl b) R=R b:=rfl
theorem N5:jU false (.int i) (.int j) Q=Q (.bl (decide (i=j))):=rfl
theorem N6:jU false (.str x) (.str y) Q=Q (.bl (decide (x=y))):=rfl
theorem N7:jU true (.int i) (.int j) Q=Q (.bl (!decide (i=j))):=rfl
theorem N8:jU true (.str x) (.str y) Q=Q (.bl (!decide (x=y))):=rfl
theorem Mp(k:Bool):nL k [.ag f xs] Q=Q (.int xs.length):=rfl
theorem Mq(k:Bool):nL k [.aP xs] Q=Q (.int xs.length):=rfl
theorem Mr:rW [.ag f xs] Q=Q (.ag .o xs):=rfl
theorem n9(R:aU):iE (.ag f xs) R=R xs:=rfl
theorem N9(t:Tr):pR [t] Q=Q t:=rfl
theorem Oa(t u:Tr)(R:Tr->ay):pU [t,u] R=R t u:=rfl
theorem Ms(R:Int->Prop):rT [.int i] R=R i:=rfl
end
abbrev bY:=List (Str×Rat)×Str×Rat×Int×Int
abbrev aw:=List bY
noncomputable instance (priority:=high) rowEnc:af bY:=⟨λr=>.aP [dG .f r.1,.str r.2.1,af.t r.2.2.1,.int r.2.2.2.1,.int r.2.2.2.2],λr=>by show (Cl (dG .f r.1)&&_)=true;rw[Dv];rfl,λ_ z=>by cases z⟩
theorem Ob(r:bY)(Q:ay):ib (af.t r) (.int 0) Q=Q (dG .f r.1):=rfl
theorem Oc(r:bY)(Q:ay):ib (af.t r) (.int 1) Q=Q (.str r.2.1):=rfl
theorem Od(r:bY)(Q:ay):ib (af.t r) (.int 2) Q=Q (af.t r.2.2.1):=rfl
theorem Oe(r:bY)(Q:ay):ib (af.t r) (.int 3) Q=Q (.int r.2.2.2.1):=rfl
theorem Of(r:bY)(Q:ay):ib (af.t r) (.int 4) Q=Q (.int r.2.2.2.2):=rfl
section
def qV(o:Option Tr)(R:ay):Prop:=match o with |some .aq=>False |some t=>R t |none=>False
theorem Og(j:ai)(i:Nat)(Q:Tr->(Tr->ai)->Prop):gI K j i [] Q=qV j[i]? λt=>Q t λu=>j.set i u:=by
 unfold gI qV;cases j[i]? with
 |none=>rfl
 |some t=>cases t <;> first |rfl |exact propext ⟨λh=>h.2,λh=>⟨trivial,h⟩⟩
theorem Mt(f:Fl)(xs:ai)(R:ay):qV (some (.ag f xs)) R=R (.ag f xs):=rfl
theorem Mu(f:Fl)(xs:bE)(R:ay):qV (some (.aR f xs)) R=R (.aR f xs):=rfl
theorem Mv:kS (.ag .o xs) Q=Q xs:=rfl
theorem Mw(xs:bE)(Q:bE->Prop):pE (.aR .o xs) Q=Q xs:=rfl
end
section
variable{α:Type}[af α]
theorem BL(xs:List α)(a:α):↥xs++[af.t a]=(xs++[a]).map af.t:=by rw[map_append];rfl
theorem Jg(xs:az)(a:Int):↥xs++[Tr.int a]=(xs++[a]).map af.t:=BL xs a
theorem hV(xs:List α)(i:Int):dc ↥xs i=(dc xs i).map af.t:=by
 unfold dc;rw[length_map];cases iQ xs.length i with
 |none=>rfl
 |some n=>exact getElem?_map ..
theorem tM(xs:List j)(a:0<=i)(h:i.toNat<xs.length):dc xs i=some (xs[i.toNat]'h):=by
 unfold dc iQ;rw[if_pos a,if_pos ⋯];exact getElem?_eq_getElem h
theorem d8[af j](o:Option j)(Q:ay)(x:j)(h:o=some x)(q:Q (af.t x)):oQ ↥o Q:=by rw[h];exact q
theorem JP(xs:List α)(l h:bI):iG ↥xs l h=(iG xs l h).map af.t:=by
 unfold iG;rw[length_map,List.map_take,List.map_drop]
theorem Oh(f:Fl)(xs:ai)(l h:bI)(Q:ay):uB (.ag f xs) l h Q=Q (.ag .o (iG xs l h)):=rfl
end
section
theorem bh.aq{i:Nat}(W:bh K k lo us Fb Hb F H G J cs):bh K k lo us Fb Hb F H G (J.set i .aq) (λj=>if j=i then [] else cs j) where
 g:=W.g
 z:=W.z
 l:=by rw[length_set];exact W.l
 e:=λj u h=>by
  by_cases e:j=i
  .subst e;have r:j<J.length:=by have:=(List.getElem?_eq_some_iff.mp h).1;rw[length_set] at this;exact this
   rw[getElem?_set_self r] at h;cases h;exact .inl rfl
  .rw[getElem?_set_ne (λz=>e z.symm)] at h;rw[if_neg e];exact W.e j u h
 c:=λj=>by
  split
  .exact .nil
  .exact W.c j
 n:=λj=>by
  split
  .exact .nil
  .exact W.n j
 d:=λa b ne p f q m=>by
  by_cases o:a=i
  .rw[if_pos o] at f;cases f
  .rw[if_neg o] at f;by_cases eb:b=i
   .rw[if_pos eb] at m;cases m
   .rw[if_neg eb] at m;exact W.d a b ne p f q m
 p:=W.p
 x:=W.x
theorem bh.fz{i:Nat}(W:bh K k lo us Fb Hb F H G J cs)(ht:J[i]?=some t)(hn:t≠.aq):∃m,bh K k lo us Fb Hb m H G (J.set i (Pu.aA t)) (λj=>if j=i then [] else cs j):=by
 rcases W.e i t ht with rfl |⟨v,w,r⟩
 .exact absurd rfl hn
 let⟨o,a,s,e⟩:=(W.aq (i:=i)).lay (W.c i) (W.n i) (r.plain t) (λj p f q A=>by
  by_cases b:j=i
  .rw[if_pos b] at f;cases f
  .rw[if_neg b] at f;exact W.d j i b p f q A)
 refine⟨o,⟨a.g,a.z,by rw[length_set];exact W.l,λj u h=>?_,a.c,a.n,a.d,a.p,a.x⟩⟩;by_cases b:j=i
 .subst b;have y:j<J.length:=by have:=(List.getElem?_eq_some_iff.mp h).1;rw[length_set] at this;exact this
  rw[getElem?_set_self y] at h;cases h;exact .inr ⟨v,w,by rw[if_pos rfl];exact r.aA (Le.of s) t e⟩
 .exact a.e j u (by rw[getElem?_set_ne (λz=>b z.symm)] at h ⊢;exact h)
def uq(i:Nat)(p:cw):cw:=λD j=>pV j[i]? λt=>p D (j.set i (Pu.aA t))
theorem So(h:cU K k lo ts p):cU K k lo ts (uq i p):=λus d f F H j G l D a W q L=>by
 unfold uq pV at q;split at q
 .exact q.elim
 .rename_i t hn e;let⟨b,g⟩:=W.fz e (λz=>hn (by rw[z]));exact h us d f b H j _ _ D a g q L
 .exact q.elim
theorem Ft(i:Nat)(h:QB X k lo sts p):QB X k lo sts (uq i p):=by
 let⟨d,a,b⟩:=h.h;exact⟨d,a,So b⟩
theorem Oi(i:Nat)(p:cw)(D:Pd)(j:ai):uq i p D j=(pV j[i]? λt=>p D (j.set i (Pu.aA t))):=rfl
end
section
variable{α:Type}[af α](m:List (Str×α)){f:Fl}
theorem My(Q:bE->Prop):pF (dG .f m) Q=Q (m.map λp=>((Sum.inr p.1:aS),af.t p.2)):=rfl
theorem P1[h:Fp f]:aG (dG f m)=dG f m:=DI
theorem P0[h:Fp f]:Pu.aA (dG f m)=dG f m:=CU
theorem PZ[h:Fp f]:dn (dG f m)=dG f m:=by
 unfold dG;rw[Sa,Ek,Ub]
theorem Mz:pV (some (dG f m)) Q=Q (dG f m):=rfl
theorem Oj(x:Str)(Q:ay):ib (dG f m) (.str x) Q=oQ ((bZ m x).map af.t) Q:=by
 show (match look (m.map λp=>((Sum.inr p.1:aS),af.t p.2)) (Sum.inr x) with |some t=>Q t |none=>False)=_;rw[xy];cases bZ m x<;>rfl
theorem Sq(x:Str)(Q:ay):oH false (.str x) (dG f m) Q=Q (.bl (bZ m x).isSome):=by
 show Q (.bl (look (m.map λp=>((Sum.inr p.1:aS),af.t p.2)) (Sum.inr x)).isSome)=_;rw[xy,isSome_map]
end
theorem aZ.filter[af j](ys:List G)(g:G->Tr)(p:G->Bool)(h:G->j){pg:eu}{pt:c7}{Q:ay}(r:ys.length<=1000000)(step:∀y∈ys,∀(A:Prop)(R:ay),(p y=true->R (af.t (h y)))->(p y=false->A)->pg (g y) j' λm=>pt m λb=>if b=true then pe m R else A)(q:Q (.ag .o (((ys.filter p).map h).map af.t))):aZ (ys.map g) pg pt pe j' Q:=by
 refine⟨λi d=>d=(((ys.take i).filter p).map h).map af.t,rfl,λi t d e a=>?_,λd a=>?_⟩
 .rw[getElem?_map] at e;cases e':ys[i]? with
  |none=>rw[e'] at e;cases e
  |some y=>
   rw[e'] at e;cases e;have l:=(List.getElem?_eq_some_iff.mp e').1;have n:ys.take (i+1)=ys.take i++[y]:=by rw[take_add_one,e'];rfl
   refine step y (mem_of_getElem? e') _ _ (λf=>⟨?_,?_⟩) (λf=>?_)
   .rw[a,length_map,length_map];have:=length_filter_le p (ys.take i);rw[length_take] at this;omega
   .show d++[af.t (h y)]=(((ys.take (i+1)).filter p).map h).map af.t;rw[n,List.filter_append,a,List.filter_cons_of_pos f,map_append,map_append];rfl
   .show d=(((ys.take (i+1)).filter p).map h).map af.t;rw[n,List.filter_append,a,List.filter_cons_of_neg (by rw[f];decide),List.filter_nil,append_nil]
 .rw[length_map,take_length] at a;rw[a,length_map,length_map];exact⟨le_trans (length_filter_le p ys) r,q⟩
section
variable{α:Type}[af α](m:List (Str×α))(f:Fl)
theorem Us(x:Str):((m.map λp=>((Sum.inr p.1:aS),af.t p.2)).any λb=>decide (b.1=Sum.inr x))=m.any λp=>decide (p.1=x):=by
 induction m with
 |nil=>rfl
 |cons p m a=>
  rw[map_cons,any_cons,any_cons,a,decide_eq_decide.mpr (show (Sum.inr p.1:aS)=Sum.inr x↔p.1=x from ⟨λh=>Sum.inr.inj h,λh=>by rw[h]⟩)]
theorem Ol(x:Str)(a:α):iF (m.map λp=>((Sum.inr p.1:aS),af.t p.2)) (Sum.inr x) (af.t a)=(mS m x a).map λp=>((Sum.inr p.1:aS),af.t p.2):=by
 unfold iF mS;rw[Us];split
 .rw[map_map,map_map];refine map_congr_left λp _=>?_
  show (if (Sum.inr p.1:aS)=Sum.inr x then _ else _)=_;by_cases h:p.1=x
  .rw[if_pos (by rw[h])];show _=((Sum.inr (if p.1=x then (p.1,a) else p).1:aS),af.t (if p.1=x then (p.1,a) else p).2);rw[if_pos h]
  .rw[if_neg (λz=>h (Sum.inr.inj z))];show _=((Sum.inr (if p.1=x then (p.1,a) else p).1:aS),af.t (if p.1=x then (p.1,a) else p).2);rw[if_neg h]
 .rw[map_append];rfl
theorem MA(x:Str)(Q:aS->Prop):ko (.str x) Q=Q (Sum.inr x):=rfl
theorem MB(x:Int)(Q:aS->Prop):ko (.int x) Q=Q (Sum.inl x):=rfl
end
mutual
noncomputable def Fe:Tr->Tr->Bool
 |.int a,.int b=>decide (a=b)
 |.str a,.str b=>decide (a=b)
 |.bl a,.bl b=>decide (a=b)
 |.aE,.aE=>true
 |.aP xs,.aP ys=>mX xs ys
 |.ag _ xs,.ag _ ys=>mX xs ys
 |_,_=>false
noncomputable def mX:List Tr->List Tr->Bool
 |[],[]=>true
 |x::xs,y::ys=>Fe x y&&mX xs ys
 |_,_=>false
end
def AS:bE->bE->Bool
 |[],[]=>true
 |x::xs,y::ys=>decide (x.1=y.1)&&(Fe x.2 y.2&&AS xs ys)
 |_,_=>false
def AU:bE->Nat
 |[]=>0
 |x::xs=>max (dep x.2) (AU xs)
mutual
noncomputable def P4:Tr->Tr->Bool
 |.int a,.int b=>decide (a=b)
 |.str a,.str b=>decide (a=b)
 |.bl a,.bl b=>decide (a=b)
 |.aE,.aE=>true
 |.aP xs,.aP ys=>mW xs ys
 |.ag _ xs,.ag _ ys=>mW xs ys
 |.aR _ xs,.aR _ ys=>AS xs ys
 |_,_=>false
noncomputable def mW:List Tr->List Tr->Bool
 |[],[]=>true
 |x::xs,y::ys=>P4 x y&&mW xs ys
 |_,_=>false
end
mutual
noncomputable def Hl:Tr->Nat
 |.aP a=>jw a + 1
 |.ag _ a=>jw a + 1
 |.aR _ a=>AU a + 1
 |_=>0
noncomputable def jw:List Tr->Nat
 |[]=>0
 |x::xs=>max (Hl x) (jw xs)
end
def gZ(b a:Str):Bool:=!(Builtin.Str.occurrences b a 0 b.length 1).isEmpty
theorem k9(hm:X.mg x=none)(a:do Gl X x)(b:do bootBuiltins x=some (.type n))(hn: ~~~(x≠"__name__"))(hd: ~~~(da x)):QE X k (.Name x pos) (pC (.ty n)):=⟨_,Pw (v:=.ty n) a hm b rfl hn hd,om λ_ _=>⟨rfl,rfl⟩⟩
end Pu
namespace L2
open PySem PySem.Spec PyProof.Rows
abbrev oJ(X:Cx)(o:Expr)(m:Str)(b:bL)(a pos:Pos)(pl:Sem Bool):Prop:=eval (.Call (.Attribute o m a) b [] pos) X.env=(do
   let ov <- eval o X.env
   standAt a.atName
   let (f,first) <- holding [ov] (getMethod ov m pl)
   callWith pos f first (backTo pos (starEach b X.env)) (backToKw pos (keywordEach [] X.env)))
def pK(D:ae->Nat->Prop)(m:Str)(sp:Nat->Sp)(R:St->XK)(f:TE)(t:TA):TE:=λj H Q=>f j H λx b=>∃a C e fs g,x=.ref a/\Rd b a (.ins C e fs)/\D C g/\fs.lookup m=none/\t j b λvs d=>sp g (x::vs) d Q (R j)
section
theorem ED(M:PE X o ta)(G:∀C g,D C g->eY X.prog X.w X.K X.mg X.base CX k m C ps (sp g))(N:bp k X.A)(U:∀j,iB CX X j (R j))(J:PA X (e::es) t)(v:do ee e es X.env)(n:do eZ pos es X.env)(ht:do oJ X o m (e::es) apos pos pl):
  PE X (.Call (.Attribute o m apos) (e::es) [] pos) (pK D m sp R ta t):=by
 intro aa s j H Q I h;refine W.methodCall_KW (pl:=pl) (bq (M aa s j H _ I h) λu s1 b=>?_) ht;let⟨x,B,i,rx,a,C,dx,fs,g,ex,E,d,l,q⟩:=b;subst ex;obtain rfl:u=Value.ref a:=rx;∎;let⟨c,f,fd,hm,F,L⟩:=G C g d;let⟨Y,O,r⟩:=xi i.aM E;∎;have hn:Y m=none:=bX.none_of (by rw[<- l];exact r m);refine B6 i.cG O (c.get m) hm.at_ hm.fn hn ?_;refine W.callWith_K (first:=[.ref a]) (h₀:=X.base) I.ok.mod.kG hm.kp (bq (J pos aa s1 j B _ i q) λus s2 b=>?_) v n;let⟨vs,H2,y,rv,q2⟩:=b;refine⟨y.cG,?_⟩;exact wY (us:=.ref a::us) (vs:=.ref a::vs) F N L .nil (U j) y (.cons rfl rv) (by rw[append_nil];exact q2)
theorem P5(y:PE X o ta)(n:∀C g,D C g->eY X.prog X.w X.K X.mg X.base CX k m C ps (sp g))(B:bp k X.A)(E:∀j,iB CX X j (R j))(ht:do oJ X o m [] apos pos pl):
  PE X (.Call (.Attribute o m apos) [] [] pos) (pK D m sp R ta kl):=by
 intro aa s j H Q I h;refine W.methodCall_KW (pl:=pl) (bq (y aa s j H _ I h) λu U e=>?_) ht;let⟨x,L,b,J,a,C,M,fs,g,ex,i,d,l,q⟩:=e;subst ex;obtain rfl:u=Value.ref a:=J;∎;let⟨c,f,N,hm,F,v⟩:=n C g d;let⟨G,O,r⟩:=xi b.aM i;∎;have hn:G m=none:=bX.none_of (by rw[<- l];exact r m);refine B6 b.cG O (c.get m) hm.at_ hm.fn hn ?_;exact W.callWith_K0 (first:=[.ref a]) b.cG hm.kp (wY (us:=[.ref a]) (vs:=[.ref a]) F B v .nil (E j) b (.cons rfl .nil) (by rw[append_nil];exact q))
theorem uc(h:lS CX X E):∀j,iB CX X j E:=λj aa H s e a I c=>h aa j H s e a I c
end
end L2
namespace Pu
open PySem L2 Vc Sf
section
theorem EE:∀(ts:ai)(i:Nat),(ck ts)[i]?=ts[i]?.map dn
 |[],_=>rfl
 |_::_,0=>rfl
 |_::xs,i + 1=>EE xs i
theorem wo{aY:fF}{E:XK}{q':Xv->Prop}{A:Tr->aU}{Q:VK}(hk:z=true->Fz S0 F)(hn:(ck ts).length=n)(G:∀k,aB (B k) H)(b:dY K F B H F1 H1 ts vs c1)(hE:∀x j l,q' x->∀d,XF K j d x.f->Gr F H j l->E x.c d l)(p1:aY (ck ts) A q')(C:∀j l D g' w v t c,Gr F H j l->(∀c,cS (cL (c1.map (·.1)) H1) c->cS H c)->bh K ⟨z,λ_=>E,q'⟩ lo vs F1 (cL (c1.map (·.1)) H1) j l D g' w->R K j (λ_=>cL (c1.map (·.1)) H1) t v c->ar j l c->cS H c->(∀i,∀p∈w i,∀q∈c,p.1≠q.1)->cD t=true->A t g'->Q v l):iq K z lo n aY vs H1 Q E:=by
 let⟨cs,L,M,N,O⟩:=b.r.split b.c;have hl:vs.length=n:=by rw[b.r.length,<- hn,kO]
 have hb:∀k,aB (B k) (cL (c1.map (·.1)) H1):=λk a o e=>n0 (sV b.n (G k a o e)) (b.g.h _ _ (G k a o e))
 have J:∀c,cS (cL (c1.map (·.1)) H1) c->cS H c:=λc n p m=>by
  have z:=n p m;by_cases I:p.1∈c1.map (·.1)
  .obtain⟨q,mq,e⟩:=mem_map.mp I;have e:q.1=p.1:=e;rw[<- e];exact b.n q mq
  .unfold cL at z;rw[if_neg I] at z;exact b.g.h.free z
 refine⟨hl,F1,cL (c1.map (·.1)) H1,ck ts,cs,_,q',⟨⟨xh b.g.s,Fz.refl F1⟩,λh=>b.g.fz (hk h),by rw[length_map,kO,b.r.length],?_,N,λi p m=>v5 (M i p m),O,λi _=>by rw[getElem?_map],λx _ j l h d y g=>hE x j l h d y (b.g.cL b.n g)⟩,p1,?_⟩
 .intro i t h;rw[EE] at h;cases z:ts[i]? with
  |none=>rw[z] at h;cases h
  |some u=>
   rw[z] at h;cases h;let⟨v,U,Y⟩:=L i u z;exact .inr ⟨v,by rw[getElem?_map,U];rfl,Y.dn (λk=>Le.of (hb k)) u⟩
 .intro j l D g' w v t c' W r hc n dj nl qt;exact C j l D g' w v t c' (b.g.cL b.n W.g) J W r hc (J _ n) dj nl qt
theorem MC{aY:fF}{E:XK}{q':Xv->Prop}{e:ay}{Q:VK}(l:z=true->Fz S0 F)(hn:(ck ts).length=n)(h:∀k,aB (B k) H)(o:dY K F B H F1 H1 ts vs c1)(i:∀x b a,q' x->∀d,XF K b d x.f->Gr F H b a->E x.c d a)(p1:aY (ck ts) (λt _=>e t) q')(q:∀t v b a cs,e t->Out K F B H b a t v cs->Q v a):iq K z 0 n aY vs H1 Q E:=
 wo l hn h o i p1 λb a _ _ _ v t c g _ _ r j n _ m s=>q t v b a c s ⟨g,r.base t m,j,n⟩
theorem dY.cons{b f:Hp}{t:Tr}{v:V}{c:Cs}{ts:ai}{vs:ax}{d:Cs}(o:Out K F B H F1 H1 t v c)(a:dY K F1 B H1 b f ts vs d):dY K F B H b f (t::ts) (v::vs) (c++d) where
 g:=o.g.trans' a.g
 r:=⟨v,vs,c,d,rfl,rfl,o.r.mo a.g.le (λ_=>Le.refl _) t,a.r⟩
 c:=(o.c.gr a.g).app a.c λp i q j e=>by
  have:=o.c.h p i;rw[e,a.n q j] at this;cases this
 n:=λp m=>(mem_append.mp m).elim (o.n p) λm=>o.g.h.free (a.n p m)
def gR(D:ae->Nat->Prop)(m:Str)(x:Tr)(Q:Nat->Prop):Prop:=match x with |.ins _ c fs=>∃g,D c g/\fs.lookup m=none/\Q g |_=>False
theorem Dw{D:ae->Nat->Prop}{Q:Nat->Prop}(h:gR D m x Q):∃f c fs g,x=.ins f c fs/\D c g/\fs.lookup m=none/\Q g:=by
 unfold gR at h;split at h
 .obtain⟨g,h⟩:=h;exact⟨_,_,_,g,rfl,h⟩
 .exact h.elim
def GV(q:Xv->Prop)(D:ae->Nat->Prop)(m:Str)(aY:Nat->fF)(po:a8)(a:cq):a8:=λj Q=>po j λx=>gR D m x λc=>a j λb=>aY c (ck (x::b)) (λt _=>Q t) q
def sx(D:ae->Nat->Prop)(m:Str)(aY:Nat->bK)(po:a8)(a:cq):a8:=λj Q=>po j λx=>gR D m x λc=>a j λb=>aY c (ck (x::b)) (λt _=>Q t)
theorem Rf.none_of:∀{fs:bg}{vs:List (Str×V)}{a:Cs}{f:Str},Rf K F B fs vs a->fs.lookup f=none->vs.lookup f=none
 |[],_,_,_,y,_=>by let⟨h,_⟩:=y;rw[h];rfl
 |(g,y)::fs,_,_,f,y0,h=>by
  let⟨v,r,c,d,b,j,l,i⟩:=y0;rw[b];rw[lookup_cons] at h ⊢;cases e:f == g with
  |true=>rw[e] at h;cases h
  |false=>rw[e] at h;exact Rf.none_of i h
theorem NK{aY:Nat->fF}{R':St->XK}{q':Xv->Prop}(J:∀(F:Hp)(B:Bool->Hp)(H:Hp)(j:St)(i:ai),fo K k F B H j i->∀x l o,q' x->∀d,XF K l d x.f->Gr F H l o->R' j x.c d o)(M:z=true->k.z=true)(hn:∀C xs Q q,aY C xs Q q->xs.length=n)(h:bu K k te po)(L:fw K k ta pa):bu K k (pK D m (λC=>iq K z 0 n (aY C)) R' te ta) (GV q' D m aY po pa):=λF B H j i Q Q' c p q=>by
 refine h F B H j i _ _ c p λx v w y c1 p1 e=>?_
 ∎;let⟨f,C,fs,g,rfl,I,N,p1⟩:=Dw p1;let⟨a,A,vs,ds,rfl,E,G,_⟩:=e.r.mL e.g.s (λk=>(c.b k).trans e.g.h) e.c;∎;refine⟨a,C,A,vs,g,rfl,E,I,G.none_of N,L w B y j i _ _ (c.gr e.g) p1 λts us Y H2 c2 p2 U=>?_⟩;exact MC (λh=>c.z (M h)) (hn _ _ _ _ p2) c.b (dY.cons e U) (λu l o O g=>J F B H j i c u l o O g) p2 q
theorem Dx{aY:Nat->bK}(b:z=true->k.z=true)(hn:∀C xs Q,aY C xs Q->xs.length=n)(h:bu K k te po)(a:fw K k ta pa):bu K k (pK D m (λC=>bP K z 0 n (aY C)) (λ_=>E) te ta) (sx D m aY po pa):=
 NK (R':=λ_=>E) (q':=λ_=>False) (aY:=λC xs Q _=>aY C xs Q) (λ_ _ _ _ _ _ _ _ _ h=>h.elim) b (λC xs Q _=>hn C xs Q) h a
def nN(o:Option Tr)(Q:ay):Prop:=match o with |some (.ins f c fs)=>cD (.ins f c fs)=true/\Q (.ins f c fs) |_=>False
theorem P6{Q:ay}(h:nN o Q):∃f c fs,o=some (.ins f c fs)/\cD (.ins f c fs)=true/\Q (.ins f c fs):=by
 unfold nN at h;split at h
 .exact⟨_,_,_,rfl,h⟩
 .exact h.elim
def Gs(q:Xv->Prop)(C:ae)(aY:fF)(b:cq):a8:=λj Q=>b j λd=>aY (ck (.ins .o C []::d)) (λt a=>t=.aE/\nN a[0]? Q) q
def vk(C:ae)(aY:bK)(b:cq):a8:=λj Q=>b j λd=>aY (ck (.ins .o C []::d)) λt a=>t=.aE/\nN a[0]? Q
theorem P7(a:dY K F B H F1 H1 ts vs c1)(f:H1 x=none)(hd:H1 dx=none)(ne:dx≠x):∃b,dY K F B H b (aN (aN H1 dx (.own x)) x (.ins C dx [])) (.ins .o C []::ts) (.ref x::vs) ((x,.ins C dx [])::c1):=by
 let⟨b,e,_⟩:=nQ (o:=.own x) a.g.s (by intro _ _ z;cases z) hd;have d:aN H1 dx (.own x) x=none:=by rw[aW (Ne.symm ne)];exact f
 have i:Gr b (aN H1 dx (.own x)) b (aN (aN H1 dx (.own x)) x (.ins C dx [])):=Gr.kI e.s d;have g:=e.trans' i;refine⟨b,a.g.trans' g,⟨.ref x,vs,[(x,.ins C dx [])],c1,rfl,rfl,⟨x,dx,[],[],rfl,rfl,rfl,rfl⟩,a.r.mo g.le (λ_=>Le.refl _) ts⟩,sU e.s (a.c.gr e) d,λp m=>?_⟩;cases m with
 |head=>exact a.g.h.free f
 |tail _ m=>exact a.n p m
theorem MD{aY:fF}{R':St->XK}{q':Xv->Prop}(G:∀(F:Hp)(B:Bool->Hp)(H:Hp)(j:St)(i:ai),fo K k F B H j i->∀x a l,q' x->∀d,XF K a d x.f->Gr F H a l->R' j x.c d l)(J:z=true->k.z=true)(hn:∀xs Q q,aY xs Q q->xs.length=n)(I:fw K k ta pa):bu K k (uV C (iq K z 1 n aY) [] R' ta) (Gs q' C aY pa):=λF B H j i Q Q' c p q=>by
 refine I F B H j i _ _ c p λts vs Y H1 c1 p1 O x dx M hd ne=>?_
 rw[append_nil];let⟨F2,U⟩:=P7 (C:=C) O M hd ne;refine wo (λh=>c.z (J h)) (hn _ _ _ p1) c.b U (λm a l L g=>G F B H j i c m a l L g) p1 λa l j' i' o v t c' g N W r hc n dj nl s=>?_
 ∎;let⟨rfl,s⟩:=s;let⟨f,c,fs,w,y,A⟩:=P6 s;∎;refine⟨r.1,?_⟩;rcases W.e 0 _ w with z |⟨u,D,E⟩
 .cases z
 .have:=W.p 0 Nat.zero_lt_one;rw[D] at this;cases this;exact q _ _ a l (o 0) A ⟨g,E.base _ y,W.c 0,N _ (W.n 0)⟩
theorem NL{aY:bK}(b:z=true->k.z=true)(hn:∀xs Q,aY xs Q->xs.length=n)(a:fw K k ta pa):bu K k (uV C (bP K z 1 n aY) [] (λ_=>E) ta) (vk C aY pa):=
 MD (R':=λ_=>E) (q':=λ_=>False) (aY:=λxs Q _=>aY xs Q) (λ_ _ _ _ _ _ _ _ _ h=>h.elim) b (λxs Q _=>hn xs Q) a
end
section
theorem ft{D:ae->Nat->Prop}{aY:Nat->bK}(q:∀C g,D C g->eY X.prog X.w X.K X.mg X.base bJ kj m C ps (bP X.K z 0 n (aY g)))(v:QE X k o po)(r:QA X k (e::es) pa)(x:bp km X.A:=by assumption)(s:kj<=km:=by first |decide |omega)(u:z=true->k.z=true:=by first |exact id |exact λ_=>rfl)(hn:∀C xs Q,aY C xs Q->xs.length=n:=by exact λ_ _ _ h=>h.1)(b:do ee e es X.env)(a:do eZ pos es X.env)(ht:do oJ X o m (e::es) apos pos pl):QE X k (.Call (.Attribute o m apos) (e::es) [] pos) (sx D m aY po (kU pa)):=by
 ∎;let⟨B,j,l⟩:=v.h;let⟨y,f,i⟩:=r.aA.h;∎;exact⟨_,ED (R:=λ_=>E0) j (λC g d=>(q C g d).mono s) x (uc qz) f b a ht,Dx u hn l i⟩
theorem EF{D:ae->Nat->Prop}{aY:Nat->bK}(e:∀C g,D C g->eY X.prog X.w X.K X.mg X.base bJ kj m C ps (bP X.K z 0 n (aY g)))(j:QE X k o po)(l:bp km X.A:=by assumption)(f:kj<=km:=by first |decide |omega)(i:z=true->k.z=true:=by first |exact id |exact λ_=>rfl)(hn:∀C xs Q,aY C xs Q->xs.length=n:=by exact λ_ _ _ h=>h.1)(ht:do oJ X o m [] apos pos pl):QE X k (.Call (.Attribute o m apos) [] [] pos) (sx D m aY po sj):=by
 let⟨q,a,b⟩:=j.h;exact⟨_,P5 (R:=λ_=>E0) a (λC g d=>(e C g d).mono f) l (uc qz) ht,Dx i hn b Dn⟩
end
abbrev j5:=ai->(Tr->aU)->Prop
structure j4(K:PySem.W.Frag)(k:Md)(lo:Nat)(us:ax)(Fb Hb F F' H':Hp)(j:St)(G:ai)(cs:Nat->Cs)(t:Tr)(v:V)(e:Cs):Prop where
 l:Le F F'
 W:bh K k lo us Fb Hb F' H' j G cs
 r:R K F' (λ_=>Hb) t v e
 c:ar F' H' e
 n:cS Hb e
 d:∀i,∀p∈cs i,∀q∈e,p.1≠q.1
def nO(K:aj)(k:Md)(lo:Nat)(m:TE)(pl:j5):Prop:=∀(us:ax)(b e F H:Hp)(j:St)(i:ai)(l:Nat->Cs)(Q:VK)(f:Tr->aU),bh K k lo us b e F H j i l->pl i f->
 (∀t v h d g a c,j4 K k lo us b e F h d j g a t v c->f t g->Q v d)->m j H Q
section
theorem j4.held{t:Tr}{v:V}{c:Cs}(o:j4 K k lo us Fb Hb F F' H' j i cs t v c):∃a,Le F a/\bh K k lo us Fb Hb a H' j i cs/\R K a (λ_=>Hb) (aA t) v []:=by
 let⟨a,e,b,f⟩:=o.W.lay o.c o.n (o.r.plain t) o.d;exact⟨a,o.l.trans (Le.of b),e,o.r.aA (Le.of b) t f⟩
def uY(i:Nat)(pl:j5):cw:=λD j=>pl j λt a=>D.nx (a.set i (aA t))
theorem ME(n:lo<=i)(h:nO K k lo te pl):cU K k lo (kh te (iY i)) (uY i pl):=λus b e F H j G g D q W p L=>by
 refine h us b e F H j G g _ _ W p λt v r d s l u o p1=>?_
 let⟨a,w,f,r2⟩:=o.held;exact L.nx a d _ _ _ (f.set n r2 .nil .nil λ_ _ _ _ _ m=>nomatch m) p1
def uZ(pl:j5):cw:=λD j=>pl j λ_ j1=>D.nx j1
theorem MF(h:nO K k lo te pl):cU K k lo (pH te) (uZ pl):=λus b e F H j i f D l W p L=>
 h us b e F H j i f _ _ W p λt v a d n g m o p1=>L.nx a d _ _ _ o.W p1
def vl(pl:j5):cw:=λD j=>pl j λt a=>cD t=true/\D.rt t a
theorem NM(h:nO K k lo te pl):cU K k lo (vI te) (vl pl):=λus e g F H j i m D s W p L=>
 h us e g F H j i m _ _ W p λt v b f q a l o p1=>L.rt b f j q a v t l o.W o.r o.c o.n o.d p1.1 p1.2
end
section
def HA(K:aj)(F Hb:Hp)(j:St)(G:ai):br->ai->ax->Prop
 |[],ts,vs=>ts=[] /\ vs=[]
 |none::hs,ts,vs=>∃t v a b,ts=t::a /\ vs=v::b /\ R K F (λ_=>Hb) t v [] /\ HA K F Hb j G hs a b
 |some i::hs,ts,vs=>∃t v a b,ts=t::a /\ vs=v::b /\ G[i]? = some t /\ t ≠ .aq /\ j[i]? = some (some v) /\ HA K F Hb j G hs a b
def pL(K:aj)(k:Md)(lo:Nat)(hs:br)(m:TA)(l:cq):Prop:=∀(us:ax)(d b F H:Hp)(j:St)(i:ai)(g:Nat->Cs)(Q:ax->Hp->Prop)(f:aU),bh K k lo us d b F H j i g->l i f->
 (∀h vs a e,Le F a->bh K k lo us d b a e j i g->HA K a b j i hs h vs->f h->Q vs e)->m j H Q
def yq:cq:=λ_ Q=>Q []
def yr(pe:a8)(a:cq):cq:=λj Q=>pe (j.map aG) λt=>bR t=true/\a j λb=>Q (Pu.aA t::b)
theorem NO:pL K k lo [] kl yq:=λus a b F H j i e Q d W p q=>q [] [] F H (Le.refl F) W ⟨rfl,rfl⟩ p
theorem ud{Q:ay}(h:pV o Q):∃t,o=some t/\t≠.aq/\Q t:=by
 unfold pV at h;split at h
 .exact h.elim
 .rename_i t hn;exact⟨t,rfl,λz=>hn (by rw[z]),h⟩
 .exact h.elim
theorem Sr(x:bu K k te pe)(h:pL K k lo hs ta ph):pL K k lo (none::hs) (ke te ta) (yr pe ph):=λus m b F H j i w Q B W p q=>by
 refine x F (Bq b H) H j _ _ _ W.eD p λt v A n C e o=>?_
 let⟨g,s,r2,y⟩:=W.eE o e.1;exact h us m b g n j i w _ _ s e.2 λf vs l r d u a p3=>q (Pu.aA t::f) _ l r (y.trans d) u ⟨Pu.aA t,v,f,vs,rfl,rfl,r2.mo d (λ_=>Le.refl _) _,a⟩ p3
theorem HA.rs(W:bh K k lo us Fb Hb F H G J cs):∀{hs:br}{ts:ai}{vs:ax},(hs.filterMap id).Nodup->HA K F Hb G J hs ts vs->∃c,Rs K F (λ_=>Hb) ts vs c/\ar F H c/\cS Hb c/\(∀p∈c,∃i,some i∈hs/\p∈cs i)/\∀i,some i∈hs->∀p∈cs i,p∈c
 |[],_,_,_,y=>by let⟨f,g⟩:=y;exact⟨[],by rw[f,g];exact⟨rfl,rfl⟩,.nil,.nil,(λ_ m=>nomatch m),λ_ m=>nomatch m⟩
 |none::hs,_,_,nd,y=>by
  ∎;let⟨t,v,A,a,f,g,w,x⟩:=y;let⟨c,l,o,r,h,s⟩:=HA.rs W (hs:=hs) nd x;∎;refine⟨c,by rw[f,g];exact⟨v,a,[],c,rfl,rfl,w,l⟩,o,r,λp m=>?_,λi m p b=>?_⟩
  .obtain⟨i,b1,b2⟩:=h p m;exact⟨i,.tail _ b1,b2⟩
  .cases m with
   |tail _ m=>exact s i m p b
 |some i::hs,_,_,nd,y=>by
  let⟨t,v,A,a,f,g,w,x,D,E⟩:=y;have nd:(i::hs.filterMap id).Nodup:=nd;rw[nodup_cons] at nd;let⟨c,l,o,r,h,s⟩:=HA.rs W (hs:=hs) nd.2 E;have L:some i ∉ hs:=λm=>nd.1 (mem_filterMap.mpr ⟨_,m,rfl⟩)
  have rt:R K F (λ_=>Hb) t v (cs i):=by
   rcases W.e i t w with z |⟨u,B,C⟩
   .exact absurd z x
   .rw[D] at B;cases B;exact C
  refine⟨cs i++c,by rw[f,g];exact⟨v,a,cs i,c,rfl,rfl,rt,l⟩,(W.c i).app o λp b q I=>?_,λp m=>(mem_append.mp m).elim (W.n i p) (r p),λp m=>?_,λj m p b=>?_⟩
  .obtain⟨j,b1,b2⟩:=h q I;exact W.d i j (λz=>L (by rw[z];exact b1)) p b q b2
  .rcases mem_append.mp m with m |m
   .exact⟨i,.head _,m⟩
   .obtain⟨j,b1,b2⟩:=h p m;exact⟨j,.tail _ b1,b2⟩
  .rcases mem_cons.mp m with e |m
   .cases e;exact mem_append.mpr (.inl b)
   .exact mem_append.mpr (.inr (s j m p b))
def fu:br->ai->ai
 |[],j=>j
 |none::hs,j=>fu hs j
 |some i::hs,j=>(fu hs j).set i .aq
theorem v9:∀(hs:br)(j:ai),(fu hs j).length=j.length
 |[],_=>rfl
 |none::hs,j=>v9 hs j
 |some i::hs,j=>by show ((fu hs j).set i .aq).length=_;rw[length_set];exact v9 hs j
theorem sH:∀(hs:br)(G:ai),some i ∉ hs->(fu hs G).set i t=fu hs (G.set i t)
 |[],_,_=>rfl
 |none::hs,G,h=>sH hs G λm=>h (.tail _ m)
 |some j::hs,G,h=>by
  show ((fu hs G).set j .aq).set i t=(fu hs (G.set i t)).set j .aq;rw[List.set_comm _ _ (λz=>h (by rw[z];exact .head _)),sH hs G λm=>h (.tail _ m)]
theorem wq:∀(hs:br)(G:ai),(fu hs G)[j]?=some t->t=.aq\/(some j ∉ hs/\G[j]?=some t)
 |[],_,h=>.inr ⟨(λm=>nomatch m),h⟩
 |none::hs,G,h=>(wq hs G h).imp id λ⟨a,b⟩=>⟨λm=>by cases m with |tail _ m=>exact a m,b⟩
 |some i::hs,G,h=>by
  have h:((fu hs G).set i .aq)[j]?=some t:=h;by_cases e:i=j
  .subst e;have d:=(List.getElem?_eq_some_iff.mp h).1;rw[length_set] at d;rw[getElem?_set_self d] at h;cases h;exact .inl rfl
  .rw[getElem?_set_ne e] at h;exact (wq hs G h).imp id λ⟨a,b⟩=>⟨λm=>by
    rcases mem_cons.mp m with z |m
    .cases z;exact e rfl
    .exact a m,b⟩
theorem bh.past{hs:br}{c:Cs}(W:bh K k lo us Fb Hb F H G J cs)(n:cS Hb c)(A:∀p∈c,∃i,some i∈hs/\p∈cs i)(g:Gr F (cL (c.map (·.1)) H) F' H'):bh K k lo us Fb Hb F' H' G (fu hs J) (λj=>if some j∈hs then [] else cs j)/\∀j,some j ∉ hs->∀p∈cs j,(cL (c.map (·.1)) H) p.1=some p.2:=by
 have B:Gr Fb Hb F' H':=W.g.cL n g;have keep:∀j,some j ∉ hs->∀p∈cs j,(cL (c.map (·.1)) H) p.1=some p.2:=λj s p o=>by
  refine n0 (λm=>?_) ((W.c j).h p o);∎;let⟨q,r,e⟩:=mem_map.mp m;let⟨i,w,y⟩:=A q r;∎;exact W.d j i (λz=>s (by rw[z];exact w)) p o q y e.symm
 refine⟨⟨B,λh=>g.fz (W.z h),by rw[v9];exact W.l,λj t h=>?_,λj=>?_,λj=>?_,λa b ne p o q r=>?_,W.p,W.x⟩,keep⟩
 .rcases wq hs J h with z |⟨z,e⟩
  .exact .inl z
  .rw[if_neg z];exact (W.e j t e).imp id λ⟨v,h1,h2⟩=>⟨v,h1,h2.mo g.le (λ_=>Le.refl _) t⟩
 .split
  .exact .nil
  .rename_i s;refine⟨λp m=>g.h _ _ (keep j s p m),λp m=>?_,(W.c j).nd⟩;cases z:F' p.1 with
   |none=>rfl
   |some u=>
    have:=g.n p.1 u z ((W.c j).f p m);rw[keep j s p m] at this;cases this
 .split
  .exact .nil
  .exact W.n j
 .split at o
  .cases o
  .split at r
   .cases r
   .exact W.d a b ne p o q r
theorem bh.fill{i:Nat}{t:Tr}{v:V}{c:Cs}(W:bh K k lo us Fb Hb F H G J cs)(y:G[i]?=some (some v))(r:R K F (λ_=>Hb) t v c)(s:ar F H c)(n:cS Hb c)(d:∀j,j≠i->∀p∈cs j,∀q∈c,p.1≠q.1):
  bh K k lo us Fb Hb F H G (J.set i t) (λj=>if j=i then c else cs j) where
 g:=W.g
 z:=W.z
 l:=by rw[length_set];exact W.l
 e:=λj u h=>by
  by_cases e:j=i
  .subst e;have w:j<J.length:=by have:=(List.getElem?_eq_some_iff.mp h).1;rw[length_set] at this;exact this
   rw[getElem?_set_self w] at h;cases h;exact .inr ⟨v,y,by rw[if_pos rfl];exact r⟩
  .rw[getElem?_set_ne (λz=>e z.symm)] at h;rw[if_neg e];exact W.e j u h
 c:=λj=>by
  split
  .exact s
  .exact W.c j
 n:=λj=>by
  split
  .exact n
  .exact W.n j
 d:=λa b ne p o q f=>by
  by_cases m:a=i
  .rw[if_pos m] at o;rw[if_neg (λz=>ne (m.trans z.symm))] at f;exact (d b (λz=>ne (m.trans z.symm)) q f p o).symm
  .rw[if_neg m] at o;by_cases eb:b=i
   .rw[if_pos eb] at f;exact d a m p o q f
   .rw[if_neg eb] at f;exact W.d a b ne p o q f
 p:=W.p
 x:=W.x
def jj:br->Nat->ai->ai->(aU)->Prop
 |[],_,_,G,Q=>Q G
 |none::hs,j,G',G,Q=>jj hs (j + 1) G' G Q
 |some i::hs,j,G',G,Q=>pV G'[j]? λt=>cD t=true /\ jj hs (j + 1) G' (G.set i t) Q
theorem wy{Q:Md}{r:Nat}{vs:ax}{y:Hp}{C:St}{A:ai}{a:Nat->Cs}{G:Prop}{B:aU}(f:bh K Q r vs F1 y F' H' C A a)(x:aB Hb y):∀(hs:br)(j:Nat)(O:ai)(cx:Nat->Cs),(hs.filterMap id).Nodup->bh K k lo us Fb Hb F' H' J (fu hs O) cx->(∀n i,hs[n]?=some (some i)->∃v,J[i]?=some (some v)/\vs[j+n]?=some v)->j+hs.length<=r->
  (∀i m,(i<lo\/True)->j<=m->∀p∈cx i,∀q∈a m,p.1≠q.1)->jj hs j A O B->(∀s b,bh K k lo us Fb Hb F' H' J s b->(∀i,∀p∈b i,p∈cx i\/∃m,p∈a m)->B s->G)->G
 |[],j,O,cx,_,W,_,_,_,p,q=>q O cx W (λi p m=>.inl m) p
 |none::hs,j,O,cx,nd,W,hv,hl,d,p,q=>by
  refine wy f x hs (j+1) O cx nd W (λn i e=>?_) (by rw[length_cons] at hl;omega) (λi m z hm=>d i m z ⋯) p q;let⟨v,l,o⟩:=hv (n+1) i e;exact⟨v,l,by rw[show j+1+n=j+(n+1) by omega];exact o⟩
 |some i::hs,j,O,cx,nd,W,hv,hl,d,p,q=>by
  have nd:(i::hs.filterMap id).Nodup:=nd;rw[nodup_cons] at nd;have U:some i ∉ hs:=λm=>nd.1 (mem_filterMap.mpr ⟨_,m,rfl⟩)
  ∎;let⟨t,H,I,L,p⟩:=ud p;let⟨v,l,o⟩:=hv 0 i rfl;∎;rw[length_cons] at hl;have rt:R K F' (λ_=>Hb) t v (a j):=by
   rcases f.e j t H with z |⟨u,M,N⟩
   .exact absurd z I
   .have:=f.p j ⋯;rw[M,show vs[j]?=some v from o] at this;cases this;exact N.base t L
  have E:bh K k lo us Fb Hb F' H' J (fu hs (O.set i t)) (λm=>if m=i then a j else cx m):=by
   have:=W.fill (i:=i) l rt (f.c j) (λp m=>x.free (f.n j p m)) λm _ p h q w=>d m j (.inr trivial) (le_refl j) p h q w
   rw[show (fu (some i::hs) O).set i t=fu hs (O.set i t) by
    show ((fu hs O).set i .aq).set i t=_;rw[List.set_set];exact sH hs O U] at this
   exact this
  refine wy f x hs (j+1) (O.set i t) _ nd.2 E (λn g e=>?_) ⋯ (λg m z hm p h q w=>?_) p λs b D sub=>q s b D λg p m=>?_
  .obtain⟨v,l,o⟩:=hv (n+1) g e;exact⟨v,l,by rw[show j+1+n=j+(n+1) by omega];exact o⟩
  .by_cases ei:g=i
   .rw[if_pos ei] at h;exact f.d j m ⋯ p h q w
   .rw[if_neg ei] at h;exact d g m z ⋯ p h q w
  .rcases sub g p m with z |z
   .by_cases ei:g=i
    .rw[if_pos ei] at z;exact .inr ⟨j,z⟩
    .rw[if_neg ei] at z;exact .inl z
   .exact .inr z
theorem HA.at_:∀{hs:br}{ts:ai}{vs:ax}{n i:Nat},HA K F Hb j G hs ts vs->hs[n]?=some (some i)->∃v,j[i]?=some (some v)/\vs[n]?=some v
 |none::hs,_,_,n,i,y,e=>by
  let⟨t,v,f,g,l,d,m,h⟩:=y;cases n with
  |zero=>cases e
  |succ n=>let⟨u,a,b⟩:=HA.at_ (hs:=hs) h e;exact⟨u,a,by rw[d];exact b⟩
 |some x::hs,_,_,n,i,y,e=>by
  let⟨t,v,f,g,l,d,m,h,o,q⟩:=y;cases n with
  |zero=>cases e;exact⟨v,o,by rw[d];rfl⟩
  |succ n=>let⟨u,a,b⟩:=HA.at_ (hs:=hs) q e;exact⟨u,a,by rw[d];exact b⟩
theorem HA.len:∀{hs:br}{ts:ai}{vs:ax},HA K F Hb j G hs ts vs->ts.length=hs.length
 |[],_,_,y=>by let⟨a,_⟩:=y;rw[a];rfl
 |none::hs,_,_,y=>by let⟨t,v,b,d,a,f,g,e⟩:=y;rw[a,length_cons,length_cons,HA.len e]
 |some i::hs,_,_,y=>by let⟨t,v,b,d,a,f,g,e,l,h⟩:=y;rw[a,length_cons,length_cons,HA.len h]
end
structure QL(X:Cx)(k:Md)(lo:Nat)(e:Expr)(pl:j5):Prop where
 h:∃te,PE X e te/\nO X.K k lo te pl
structure QH(X:Cx)(k:Md)(lo:Nat)(es:bL)(hs:br)(ph:cq):Prop where
 h:∃ta,PA X es ta/\pL X.K k lo hs ta ph
section
theorem qg:QH X k lo [] [] yq:=⟨_,mh,NO⟩
theorem lD(i:QE X k e pe)(h:QH X k lo es hs ph)(a:do ee e es X.env):QH X k lo (e::es) (none::hs) (yr pe ph):=by
 ∎;let⟨j,f,g⟩:=i.h;let⟨l,b,d⟩:=h.h;∎;exact⟨_,k6 f b a,Sr g d⟩
section
theorem xa(i:Nat)(h:QL X k lo e pl)(d:X.N.Nodup:=by assumption)(j: ~~~(lo<=i))(g:do X.N[i]?=some x)(l:Loc X.env.scope x:=by first |exact Or.inl rfl |exact Or.inr rfl)(hs:do swapsWith e (some (.Name x pos')) pos.line X.env=pure false)(f:jh X x:=by first |exact .inl rfl |exact .inr rfl |assumption):
  QS X k lo (.Assign [.Name x pos'] e pos) (uY i pl):=by
 let⟨m,a,b⟩:=h.h;exact⟨_,tU d g l a hs f,ME j b⟩
theorem Dy(h:QL X k lo e pl)(hs:do swapsWith e none pos.line X.env=pure false):QS X k lo (.Expr e pos) (uZ pl):=by
 let⟨d,a,b⟩:=h.h;exact⟨_,sQ a hs,MF b⟩
theorem ll(h:QL X k lo e pl):QS X k lo (.Return (some e) pos) (vl pl):=by
 let⟨d,a,b⟩:=h.h;exact⟨_,Eb a,NM b⟩
end
end
end Pu
namespace L2
open PySem PySem.Spec PyProof.Rows
def AV(e:TE):TE:=λj H Q=>e j H λx d=>∃a b,x=.ref a/\Rd d a (.dK b)/\∀p,d p=none->Q (.ref p) (aN d p (.ag (b.map (·.2))))
theorem IS(Y:X.calm=true)(hg:Gl X "list")(hm:X.mg "list"=none)(ho:PE X o td)(g:attributeBase o "values" X.env (eval o X.env)=eval o X.env)(l:(apos.endLine == bw.line)=true)(hs:do starEach [.Call (.Attribute o "values" apos) [] [] bw] X.env=[(false,eval (.Call (.Attribute o "values" apos) [] [] bw) X.env)]):
  PE X (.Call (.Name "list" p) [.Call (.Attribute o "values" apos) [] [] bw] [] pos) (AV td):=by
 intro aa s i H Q I h;refine wpAny_Call_Name_kw (mf I hg hm (u:=.type "list") rfl ?_);refine PyProof.Rows.callWith_type1 ?_ hs rfl;rw[hs];show wpAny _ _ (spliced ((false,eval (.Call (.Attribute o "values" apos) [] [] bw) X.env)::backTo pos [])) _ _ s;refine Calls.spliced_cons ?_;refine wpAny_Call_method0_late g l (bq (ho aa s i H _ I h) λv m E=>?_);let⟨x,G,B,r1,a,kvs,ex,L,q⟩:=E;subst ex;obtain rfl:v=Value.ref a:=r1;let⟨N,t2,hd⟩:=qd B (.inl ⟨kvs,L⟩);refine⟨"dict","dict.values",PySem.F.plainAttrs_dict,PySem.F.slot_dict_values,PySem.F.type_dict_values,N,t2,Calls.callWith_builtin rfl (PySem.evalArgs_none ?_)⟩;let⟨z,y,vs,r,dd⟩:=jk B.aM L;refine call_meetsIn PySem.F.slot_dict_values N PySem.F.entry_dict_values (PySem.F.args_dict_values_1 _) (meets_dict_values (eh X.prog X.w) a hd) ⟨⟨vs,dd⟩,?_⟩;have J:av X aa i G { m with heap:=m.heap.push { cls:=.type "dict_values",data:=.fields #[.ref a] } }:=B.kept (t':=m.toks) λb o e=>Heap.get?_push_of_some _ e
 let⟨ep,C⟩:=dd.dictAt;have A:=C.push { cls:=.type "dict_values",data:=.fields #[.ref a] };have M:kvs.length=vs.length:=KV.length r;refine Calls.spliced_nil ?_;refine W.kdl_call (s:={ m with heap:=m.heap.push { cls:=.type "dict_values",data:=.fields #[.ref a] } }) (W.kdl_values (knd:=eh X.prog X.w) (kvs:=vs) (ep:=ep) (r:=⇑m) (d:=a)) (I.ok.hd Y) ⟨⟨_,Heap.get?_push_size _ rfl,rfl,rfl⟩,A⟩ (by rw[<- M];exact z) λh' tk n O hk U f=>?_
 have D:G (m.heap.push { cls:=.type "dict_values",data:=.fields #[.ref a] }).objs.size=none:=J.aM.fresh (le_refl _);refine⟨.ref _,_,J.laid (o:=.ag (kvs.map (·.2))) (h':=h') (t':=tk) hk (le_refl _) ⟨by rw[length_map];exact z,n.toList,O,?_,by rw[Array.toArray_toList];exact U⟩,rfl,q _ D⟩;refine LO r (by rw[Array.length_toList,f.1,M]) λj u hu=>?_
 exact f.2 j u (by rw[<- Array.getElem?_toList];exact hu)
end L2
namespace Pu
open PySem L2 Vc Sf
section
theorem Rk.snd:∀{m:bE}{vs:cy}{c:Cs},Rk K F B m vs c->Rs K F B (m.map (·.2)) (vs.map (·.2)) c
 |[],_,_,y=>by let⟨h,a⟩:=y;rw[h,a];exact⟨rfl,rfl⟩
 |(y,x)::m,_,_,y0=>by let⟨v,r,c,d,b,a,e,f⟩:=y0;rw[b,a];exact⟨v,_,c,d,rfl,rfl,e,Rk.snd f⟩
def uA(t:Tr)(Q:ay):Prop:=match t with |.aR _ m=>Q (.ag .o (m.map (·.2))) |_=>False
theorem Ss(h:bu K k te pe):bu K k (AV te) (p1 uA pe):=λF B H j i Q A c p q=>by
 refine h F B H j i _ _ c p λx v f w C p1 d=>?_
 unfold uA at p1;split at p1
 .obtain⟨a,vs,ds,rfl,h1,h2,h3,h4⟩:=d.r.iO d.g.s (λk=>(c.b k).trans d.g.h) d.c;refine⟨a,vs,rfl,h1,λp e=>?_⟩;let⟨l,o,u⟩:=mw d.g.s h2.snd h3 e;refine q _ _ f _ _ p1 ⟨d.g.trans' l,o,u,λy m=>?_⟩;cases m with
  |head=>exact d.g.h.free e
  |tail _ m=>exact d.n y (h4 y m)
 .exact p1.elim
end
section
theorem Uc(f:X.calm=true)(g:Gl X "list")(hm:X.mg "list"=none)(h:QE X k o po)(d:do attributeBase o "values" X.env (eval o X.env)=eval o X.env)(e:do (apos.endLine == bw.line)=true)(hs:do starEach [.Call (.Attribute o "values" apos) [] [] bw] X.env=[(false,eval (.Call (.Attribute o "values" apos) [] [] bw) X.env)]):
  QE X k (.Call (.Name "list" p) [.Call (.Attribute o "values" apos) [] [] bw] [] pos) (p1 uA po):=by
 let⟨i,a,b⟩:=h.h;exact⟨_,IS f g hm a d e hs,Ss b⟩
end
theorem MG:sx D m aY po pa j Q=(po j λx=>gR D m x λc=>pa j λts=>aY c (ck (x::ts)) (λt _=>Q t)):=rfl
theorem JQ:vk C aY pa j Q=(pa j λts=>aY (ck (.ins .o C []::ts)) λt a=>t=.aE/\nN a[0]? Q):=rfl
theorem IT(i:Nat)(pl:j5)(D:Pd)(j:ai):uY i pl D j=(pl j λt a=>D.nx (a.set i (aA t))):=rfl
theorem IU:uZ pl D j=(pl j λ_ j1=>D.nx j1):=rfl
theorem JR:vl pl D j=(pl j λt a=>cD t=true/\D.rt t a):=rfl
theorem Om:yq j' Q=(Q []):=rfl
theorem Oo:yr pe ph j Q=(pe (j.map aG) λt=>bR t=true/\ph j λts=>Q (Pu.aA t::ts)):=rfl
theorem IV(j:Nat)(a i:ai)(Q:aU):jj [] j a i Q=Q i:=rfl
theorem JS(hs:br)(j:Nat)(a i:ai)(Q:aU):jj (none::hs) j a i Q=jj hs (j+1) a i Q:=rfl
theorem Ji(c:ae)(fs:bg):aG (.ins .o c fs)=.ins (.l true) c (b3 fs):=rfl
theorem Jh(c:ae)(fs:bg):dn (.ins .o c fs)=.ins .o c (ij fs):=rfl
theorem xA(c:ae)(fs:bg):cD (.ins .o c fs)=dP fs:=rfl
theorem CY(c:ae)(fs:bg):bR (.ins .o c fs)=fj fs:=rfl
theorem Su(f:Fl)(m:bE)(Q:ay):uA (.aR f m) Q=Q (.ag .o (m.map (·.2))):=rfl
theorem MH(K:aj)(f:Str)(c:ae)(fs:bg)(Q:ae->bg->Prop):lV K f (.ins .o c fs) Q=((fP K c/\a9 K c f)/\fs.length<900/\Q c fs):=rfl
theorem l9(f:Str)(u:Tr):gQ f u []=[(f,u)]:=rfl
theorem JT(f:Fl)(c:ae)(xs:bg)(R:ay):qV (some (.ins f c xs)) R=R (.ins f c xs):=rfl
section
def vF(i:Nat):j5:=λj Q=>pV j[i]? λt=>Q t (j.set i .aq)
theorem P8:nO K k lo (fS i) (vF i):=λus o r F H G J b Q s W p q=>by
 let⟨t,f,g,p⟩:=ud p;rcases W.e i t f with z |⟨v,h,l⟩
 .exact absurd z g
 refine⟨v,h,q t v F H _ _ (b i) ⟨Le.refl _,W.aq (i:=i),l,W.c i,W.n i,λj p a q m=>?_⟩ p⟩;split at a
 .cases a
 .rename_i hj;exact W.d j i hj p a q m
theorem MI(i:Nat)(j:ai)(Q:Tr->aU):vF i j Q=(pV j[i]? λt=>Q t (j.set i .aq)):=rfl
end
section
theorem lg(i:Nat)(b:do X.N[i]?=some x)(d:lN X.env.scope x:=by first |exact Or.inl rfl |exact Or.inr (Or.inl rfl) |exact Or.inr (Or.inr rfl))(hd: ~~~(da x))(a: ~~~((x == ("__classdict__":Str))=false)):QL X k lo (.Name x pos) (vF i):=⟨_,tT b d hd a,P8⟩
end
theorem fy(a:nv X E):PassesOwn (model X.prog X.w) X.A X.env X.xe:=by
 rw[show X.xe=_ from a]
 passes_own
abbrev UP:=Pd->ai->Xv->Prop
end Pu
namespace Pu
open PySem PySem.Spec PyProof.Rows
section
variable{p:aL->Prop}
theorem KA(h:p []):∀us:aL,us.length=0->p us:=λus e=>by
 cases us with
 |nil=>exact h
 |cons=>cases e
theorem qL{p:aL->Prop}{k:Nat}(h:∀a (us:aL),us.length=k->p (a::us)):∀us:aL,us.length=k+1->p us:=λus e=>by
 cases us with
 |nil=>cases e
 |cons a us=>exact h a us (Nat.succ.inj e)
theorem D7(h:∀a,p [a]):∀us:aL,us.length=[x1].length->p us:=qL λa=>KA (h a)
theorem ln2(h:∀a b,p [a,b]):∀us:aL,us.length=[x1,x2].length->p us:=qL λa=>D7 (x1:=x2) (p:=λl=>p (a::l)) (h a)
theorem D8(h:∀a b c,p [a,b,c]):∀us:aL,us.length=[x1,x2,x3].length->p us:=qL λa=>ln2 (x1:=x2) (x2:=x3) (p:=λl=>p (a::l)) (h a)
theorem D9(h:∀a b c d,p [a,b,c,d]):∀us:aL,us.length=[x1,x2,x3,x4].length->p us:=qL λa=>D8 (x1:=x2) (x2:=x3) (x3:=x4) (p:=λl=>p (a::l)) (h a)
theorem KC(h:∀a b c d e,p [a,b,c,d,e]):∀us:aL,us.length=[x1,x2,x3,x4,x5].length->p us:=qL λa=>D9 (x1:=x2) (x2:=x3) (x3:=x4) (x4:=x5) (p:=λl=>p (a::l)) (h a)
end
end Pu
namespace Pu
open PySem L2 Vc Sf
theorem oz(b:PE X o (tR X.K i r))(a:do attributeBase o f X.env (eval o X.env)=eval o X.env):PE X (.Attribute o f pos) (tR X.K i (f::r)):=Dl b a
section
theorem ar.perm(h:ar F H c)(p:c.Perm d):ar F H d:=⟨λx m=>h.h x (p.mem_iff.mpr m),λx m=>h.f x (p.mem_iff.mpr m),((p.map (·.1)).nodup_iff).mp h.nd⟩
theorem ar.qB(h:ar F H (c++d)):∀p∈c,∀q∈d,p.1≠q.1:=by
 have:=h.nd;rw[map_append,nodup_append] at this;exact λp a q b=>this.2.2 _ (mem_map.mpr ⟨p,a,rfl⟩) _ (mem_map.mpr ⟨q,b,rfl⟩)
theorem MJ{hs:br}{n:Nat}{z:Bool}{aY:fF}{ts:ai}{vs:ax}{E:XK}{q':Xv->Prop}{Q':Tr->aU}{Q:VK}{t:Tr}{r:ah}{v w:V}{c rest:Cs}(W:bh K k lo us Fb Hb F1 H1 G J cs)(l:Le F F1)(hv:G[i]?=some (some v))(pm:(cs i).Perm (c++rest))(η:R K F1 (λ_=>Hb) (cK t r) w c)(cl:∀B,Le F1 B->∀u d,R K B (λ_=>Hb) u w d->∃c1,R K B (λ_=>Hb) (gP t r u) v c1/\c1.Perm (d++rest))(a:HA K F1 Hb G J hs ts vs)(nd:((some i::hs).filterMap id).Nodup)(hk:z=true->k.z=true)(hn:(ck (cK t r::ts)).length=n)(hE:∀x B H,q' x->∀d,XF K B d x.f->Gr Fb Hb B H->E x.c d H)(p1:aY (ck (cK t r::ts)) (λx J'=>pV J'[0]? λu=>cD u=true/\jj hs 1 J' (J.set i (gP t r u)) λJ2=>Q' x J2) q')(q:∀t v B H J' U c,j4 K k lo us Fb Hb F B H G J' U t v c->Q' t J'->Q v H):iq K z n n aY (w::vs) H1 Q E:=by
 have O:(i::hs.filterMap id).Nodup:=nd;rw[nodup_cons] at O;have ni:some i ∉ hs:=λm=>O.1 (mem_filterMap.mpr ⟨_,m,rfl⟩)
 let⟨I,a1,a2,a3,a4,a5⟩:=a.rs W O.2;have Y:ar F1 H1 (c++rest):=(W.c i).perm pm;have sub:∀p∈c,p∈cs i:=λp m=>pm.mem_iff.mpr (mem_append.mpr (.inl m))
 have C:∀p∈rest,p∈cs i:=λp m=>pm.mem_iff.mpr (mem_append.mpr (.inr m))
 have β:∀p∈cs i,∀q∈I,p.1≠q.1:=λp b q A=>by
  let⟨j,b1,b2⟩:=a4 q A;exact W.d i j (λz=>ni (by rw[z];exact b1)) p b q b2
 have A2:ar F1 H1 (c++I):=Y.left.app a2 λp b q A=>β p (sub p b) q A
 have A3:cS Hb (c++I):=λp m=>(mem_append.mp m).elim (λm=>W.n i p (sub p m)) (a3 p)
 have A4:∀p∈c++I,∃j,some j∈(some i::hs)/\p∈cs j:=λp m=>by
  rcases mem_append.mp m with m |m
  .exact⟨i,.head _,sub p m⟩
  .obtain⟨j,b1,b2⟩:=a4 p m;exact⟨j,.tail _ b1,b2⟩
 have hb:aB Hb (cL ((c++I).map (·.1)) H1):=λx o e=>n0 (sV A3 e) (W.g.h _ _ e)
 have o1:dY K F1 (λ_=>Hb) (cL ((c++I).map (·.1)) H1) F1 H1 (cK t r::ts) (w::vs) (c++I):=⟨⟨xh W.g.s,Fz.refl F1⟩,⟨w,vs,c,I,rfl,rfl,η,a1⟩,A2,λp m=>v5 m⟩
 refine wo (λh=>W.z (hk h)) hn (λ_=>hb) o1 (λx B H hq d y g=>hE x B H hq d y (W.g.cL A3 g)) p1 λB H G' J' U v' t' N g nw M r' ε nc dj nl qt=>?_
 let⟨W0,keep⟩:=W.past (hs:=some i::hs) A3 A4 g;have D:∀p∈rest,(cL ((c++I).map (·.1)) H1) p.1=some p.2:=λp b=>by
  refine n0 (λm=>?_) ((W.c i).h p (C p b));let⟨q,A,e⟩:=mem_map.mp m;rcases mem_append.mp A with A |A
  .exact Y.qB q A p b e
  .exact β p (C p b) q A e.symm
 have L:∀(N:Cs),cS (cL ((c++I).map (·.1)) H1) N->∀p∈rest,∀q∈N,p.1≠q.1:=λN nc p b q A e=>by
  have:=D p b;rw[e,nc q A] at this;cases this
 have qB:∀(N:Cs),cS (cL ((c++I).map (·.1)) H1) N->∀j,∀p∈(if some j∈(some i::hs) then [] else cs j),∀q∈N,p.1≠q.1:=λN nc j p b q A e=>by
  split at b
  .cases b
  .rename_i hj;have:=keep j hj p b;rw[e,nc q A] at this;cases this
 let⟨u,x1,x2,x3,qt⟩:=ud qt;have α:0<n:=by rw[<- hn,kO];exact Nat.succ_pos _
 have ru:R K B (λ_=>Hb) u w (U 0):=by
  rcases M.e 0 u x1 with z |⟨u',g1,g2⟩
  .exact absurd z x2
  .have:=M.p 0 α;rw[g1] at this;cases this;exact g2.base u x3
 let⟨d1,y1,y2⟩:=cl B g.le u _ ru;have fr:∀p∈rest,B p.1=none:=λp m=>by
  cases z:B p.1 with
  |none=>rfl
  |some o=>
   have:=g.n p.1 o z ((W.c i).f p (C p m));rw[D p m] at this;cases this
 have cr:ar B H rest:=⟨λp m=>g.h _ _ (D p m),fr,Y.right.nd⟩
 have cd:ar B H d1:=((M.c 0).app cr λp b q A e=>L _ (M.n 0) q A p b e.symm).perm y2.symm;have ζ:cS Hb d1:=λp m=>by
  rcases mem_append.mp (y2.mem_iff.mp m) with m |m
  .exact hb.free (M.n 0 p m)
  .exact W.n i p (C p m)
 have W1:bh K k lo us Fb Hb B H G (fu hs (J.set i (gP t r u))) (λm=>if m=i then d1 else (if some m∈(some i::hs) then [] else cs m)):=by
  have:=W0.fill (i:=i) hv y1 cd ζ λm hm p b q A=>by
   rcases mem_append.mp (y2.mem_iff.mp A) with A |A
   .exact qB _ (M.n 0) m p b q A
   .split at b
    .cases b
    .exact W.d m i hm p b q (C q A)
  rw[show (fu (some i::hs) J).set i (gP t r u)=fu hs (J.set i (gP t r u)) by
   show ((fu hs J).set i .aq).set i _=_;rw[List.set_set];exact sH hs J ni] at this
  exact this
 have θ:n=hs.length+1:=by rw[<- hn,kO,length_cons,a.len]
 refine wy M hb hs 1 (J.set i (gP t r u)) _ O.2 W1 (λm j e=>?_) ⋯ (λj m _ hm p b q A=>?_) qt λJ2 δ W2 γ q2=>?_
 .obtain⟨x,h1,h2⟩:=a.at_ e;exact⟨x,h1,by rw[show 1+m=m+1 by omega];exact h2⟩
 .by_cases ej:j=i
  .rw[if_pos ej] at b;rcases mem_append.mp (y2.mem_iff.mp b) with b |b
   .exact M.d 0 m ⋯ p b q A
   .exact L _ (M.n m) p b q A
  .rw[if_neg ej] at b;exact qB _ (M.n m) j p b q A
 .refine q t' v' B H J2 δ N ⟨l.trans g.le,W2,r'.base t' nl,ε,λp m=>hb.free (nc p m),λj p b q A=>?_⟩ q2;rcases γ j p b with z |⟨m,z⟩
  .by_cases ej:j=i
   .rw[if_pos ej] at z;rcases mem_append.mp (y2.mem_iff.mp z) with z |z
    .exact dj 0 p z q A
    .exact L _ nc p z q A
   .rw[if_neg ej] at z;exact qB _ nc j p z q A
  .exact dj m p z q A
def Gu(K:aj)(q:Xv->Prop)(D:ae->Nat->Prop)(m:Str)(i:Nat)(r:ah)(hs:br)(aY:Nat->fF)(d:cq):j5:=λj Q=>pV j[i]? λt=>mQ K t r/\gR D m (cK t r) λc=>d j λe=>aY c (ck (cK t r::e)) (λx a=>pV a[0]? λu=>cD u=true/\jj hs 1 a (j.set i (gP t r u)) λb=>Q x b) q
theorem L4{aY:Nat->fF}{R':St->XK}{q':Xv->Prop}{r:ah}(hE:∀(us:ax)(Fb Hb F H:Hp)(j:St)(G:ai)(cs:Nat->Cs),bh K k lo us Fb Hb F H j G cs->∀x b u,q' x->∀d,XF K b d x.f->Gr Fb Hb b u->R' j x.c d u)(nd:((some i::hs).filterMap id).Nodup)(hk:z=true->k.z=true)(hn:∀C xs Q q,aY C xs Q q->xs.length=n)(h:pL K k lo hs ta ph):nO K k lo (pK D m (λC=>iq K z n n (aY C)) R' (tR K i r) ta) (Gu K q' D m i r hs aY ph):=λus Fb Hb F H j G cs Q Q' W p q=>by
 ∎;let⟨t,M,N,ok,p⟩:=ud p;let⟨f,C,fs,g,O,hD,hl,p⟩:=Dw p;∎;rcases W.e i _ M with z |⟨v,E,h2⟩
 .exact absurd z N
 let⟨w,c,rest,pm,l,cl,rd⟩:=place W.g.s (λ_=>W.g.h) E h2 (W.c i) r ok;have hc:ar F H c:=((W.c i).perm pm).left;have o:=l;rw[O] at o;let⟨a,L,vs,ds,rfl,U,Y,_⟩:=o.mL W.g.s (λ_=>W.g.h) hc;refine rd _ ⟨a,C,L,vs,g,rfl,U,hD,Y.none_of hl,h us Fb Hb F H j G cs _ _ W p λts α I J A B ha p1=>?_⟩;exact MJ B A E pm (l.mo A (λ_=>Le.refl _) _) (λb l'=>cl b (A.trans l')) ha nd hk (hn _ _ _ _ p1) (λy b u hq g=>hE us Fb Hb I J j G cs B y b u hq g) p1 q
end
section
def pw(K:aj)(D:ae->Nat->Prop)(m:Str)(i:Nat)(r:ah)(hs:br)(aY:Nat->bK)(d:cq):j5:=λj Q=>pV j[i]? λt=>mQ K t r/\gR D m (cK t r) λc=>d j λe=>aY c (ck (cK t r::e)) (λx a=>pV a[0]? λu=>cD u=true/\jj hs 1 a (j.set i (gP t r u)) λb=>Q x b)
theorem qo{D:ae->Nat->Prop}{aY:Nat->bK}(v:PE X o (tR X.K i r))(l:∀C g,D C g->eY X.prog X.w X.K X.mg X.base bJ kj m C ps (bP X.K z n n (aY g)))(q:QH X k lo (e::es) hs ph)(x:bp km X.A:=by assumption)(s:kj<=km:=by first |decide |omega)(u:z=true->k.z=true:=by first |exact id |exact λ_=>rfl)(hn:∀C xs Q,aY C xs Q->xs.length=n:=by exact λ_ _ _ h=>h.1)(nd: ~~~(((some i::hs).filterMap id).Nodup))(b:do ee e es X.env)(a:do eZ pos es X.env)(ht:do oJ X o m (e::es) apos pos pl):QL X k lo (.Call (.Attribute o m apos) (e::es) [] pos) (pw X.K D m i r hs aY ph):=by
 let⟨y,f,j⟩:=q.h;exact⟨_,ED (R:=λ_=>E0) v (λC g d=>(l C g d).mono s) x (uc qz) f b a ht,L4 (q':=λ_=>False) (aY:=λg xs Q _=>aY g xs Q) (λ_ _ _ _ _ _ _ _ _ _ _ _ h=>h.elim) nd u (λC xs Q _=>hn C xs Q) j⟩
end
section
theorem eB:∀(ns:List Nat),Rs K F B (ns.map λi:Nat=>Tr.int (i:Int)) (ns.map λi:Nat=>V.int (i:Int)) []
 |[]=>⟨rfl,rfl⟩
 |n::ns=>⟨.int n,_,[],[],rfl,rfl,⟨rfl,rfl⟩,eB ns⟩
end
theorem eT{f:Str}{u:Tr}{r:bg}:List.lookup f ((f,u)::r)=some u:=by rw[lookup_cons,show (f == f)=true from beq_self_eq_true f]
theorem b8{f g:Str}{u:Tr}{r:bg}{v:Option Tr}(h:List.lookup f r=v)(e:(f == g)=false:=by decide +kernel):List.lookup f ((g,u)::r)=v:=by rw[lookup_cons,e];exact h
theorem xR{f:Str}:List.lookup f ([]:bg)=none:=rfl
theorem gz{K:aj}{f:Str}{g:Fl}{c:ae}{fs:bg}{u:Tr}{Q:ay}(a:fP K c/\a9 K c f)(b:fs.lookup f=some u)(q:Q u):add K f (.ins g c fs) Q:=⟨a,by rw[b];exact q⟩
theorem xk{D:ae->Nat->Prop}{m:Str}{f:Fl}{c:ae}{fs:bg}{n:Nat}{Q:Nat->Prop}(hd:D c n)(a:fs.lookup m=none)(q:Q n):gR D m (.ins f c fs) Q:=⟨n,hd,a,q⟩
theorem tN{K:aj}{j:ai}{i:Nat}{c:ae}{fs:bg}{f:Str}{u:Tr}{Q:Tr->(Tr->ai)->Prop}(h:j[i]?=some (.ins .o c fs))(b:fP K c/\a9 K c f)(a:fs.lookup f=some u)(q:Q u λv=>j.set i (.ins .o c (fT f v fs))):gI K j i [f] Q:=by
 unfold gI;rw[h];refine⟨⟨trivial,b,by rw[a];rfl⟩,?_⟩;show Q ((fs.lookup f).getD .aq) _;rw[a];exact q
theorem Cq{K:aj}{D:ae->Nat->Prop}{m:Str}{i:Nat}{f:Str}{hs:br}{aY:Nat->bK}{d:cq}{j:ai}{Q:Tr->aU}{c:ae}{fs:bg}{u:Tr}(h:j[i]?=some (.ins .o c fs))(l:fP K c/\a9 K c f)(a:fs.lookup f=some u)(q:gR D m u λg=>d j λts=>aY g (ck (u::ts)) (λx b=>pV b[0]? λv=>cD v=true/\jj hs 1 b (j.set i (.ins .o c (fT f v fs))) λn=>Q x n)):pw K D m i [f] hs aY d j Q:=by
 unfold pw;rw[h];have e:cK (.ins .o c fs) [f]=u:=by show (fs.lookup f).getD .aq=u;rw[a];rfl
 refine⟨⟨trivial,l,by rw[a];rfl⟩,?_⟩;rw[e];exact q
section
def u0(K:aj)(i:Nat)(r:ah)(f:Str)(pe:a8):cw:=λD j=>pe (j.map aG) λt=>bR t=true/\gI K j i r λu s=>lV K f u λc fs=>D.nx (s (.ins .o c (gQ f (aA t) fs)))
theorem L5(h:bu K k te pe):cU K k lo (vN K (tR K i r) te f) (u0 K i r f pe):=λus Fb A F H j G cs D D' W p L=>by
 refine h F (Bq A H) H j _ _ _ W.eD p λu v F1 m c1 q o=>?_
 ∎;let⟨l,n,r2,l2⟩:=W.eE o q.1;let⟨t,N,O,Q,p⟩:=qf q.2;let⟨C,fs,U,ok,hl,p⟩:=CS p;let⟨w,c,y,sub,hc,rd,cl⟩:=n.at N O r Q;∎;rw[U] at y;let⟨a,b,vs,M,rfl,s,x⟩:=y;have Y:m a=some (.ins C b vs):=hc.h (a,.ins C b vs) (by rw[s];exact .head _);∎;let⟨g,d,E,I,J⟩:=x.put (f:=f) r2;let⟨e,B⟩:=cl l m n (Le.refl _) a (.ins C b vs) (.ins C b (eP f v vs)) M g [] (.ins .o C (gQ f (aA u) fs)) ((a,.ins C b (eP f v vs))::d) s I .nil sZ sG (List.Perm.cons _ J) ⟨a,b,_,d,rfl,rfl,E⟩;∎;exact rd _ ⟨a,C,b,vs,rfl,Y,ok.1,ok.2,lt_of_lt_of_le (by rw[x.length];exact hl) ∎,L.nx l _ j _ e B p⟩
theorem tw(d:PE X o (tR X.K i r))(h:QE X k e pe)(hs:do swapsWith e (some (.Attribute o f pos')) pos.line X.env=pure false):QS X k lo (.Assign [.Attribute o f pos'] e pos) (u0 X.K i r f pe):=by
 let⟨g,a,b⟩:=h.h;exact⟨_,Ef d a hs,L5 b⟩
theorem IW(K:aj)(i:Nat)(r:ah)(f:Str)(pe:a8)(D:Pd)(j:ai):u0 K i r f pe D j=(pe (j.map aG) λt=>bR t=true/\gI K j i r λu s=>lV K f u λc fs=>D.nx (s (.ins .o c (gQ f (aA t) fs)))):=rfl
end
end Pu
namespace L2
open PySem PySem.Spec PyProof.Rows
section
def Al(K:aj):R2:=λx y H Q=>∃(l:ae)(a:ax)(n:Int),x=.ref l/\y=.int n/\bG K H l a/\0<=n/\n<=1000/\a.length<=100/\∀p,H p=none->Q (.ref p) (aN H p (.ag (List.replicate n.toNat a).flatten))
theorem P9:b9 X (binaryOp .Mult) (Al X.K):=by
 intro aa s j H x y v u Q I w A h;let⟨l,J,n,rfl,rfl,m,D,E,o,q⟩:=h;cases w;∎;let⟨t,rfl⟩:=A;let⟨a,r,p1,L⟩:=I.list m;∎;have i:=r.length;let⟨⟨C,f,G,d⟩,b,g,k,hd⟩:=p1.isList;simp only at g hd;subst g hd;have e:a.toArray.size*n.toNat<=100*1000:=by rw[size_toArray,<- i];exact Nat.mul_le_mul o ⋯
 refine wpAny_binaryOp_repeat_ref (T:="list") (U:="int") ∎ ⟨_,b,rfl⟩ (λB=>PySem.typeIs_int B n t) noFill_list_mul F.fills_int_mul F.slot_int_rmul repeat_list F.slot_int_index.lookup
  (call_meets F.slot_int_rmul (PySem.typeIs_int s n t) F.entry_int_rmul (F.args_int_rmul_2 _ _) (lm_int_rmul_list_any n t l a.toArray k f d)
   ⟨b,rfl,⟨_,b,rfl⟩,call_meets F.slot_list_mul ⟨_,b,rfl⟩ F.entry_list_mul (F.args_list_mul_2 _ _)
    (lm_list_mul_any l a.toArray k f d n t (by simp[Builtin.List.listFitsIndex];omega) ⋯ (by rw[size_toArray] at e;simp[Builtin.List.listTooLong,sizeLine];omega))
    ⟨b,?_⟩⟩)
 rw[listMul_foldl_if];refine⟨.ref _,_,I.qM (t':=s.toks) (r.rep n.toNat) ?_,rfl,q _ I.fresh⟩;rw[List.length_flatten,List.map_replicate,List.sum_replicate_nat,i,Nat.mul_comm];rw[size_toArray] at e;exact le_trans e ∎
end
end L2
namespace Pu
open PySem L2 Vc Sf
section
def rY(x y:Tr)(Q:ay):Prop:=match x,y with
 |.ag _ [a],.int n=>Cl a=true /\ 0 <= n /\ n <= 1000 /\ Q (.ag .o (List.replicate n.toNat a))
 |_,_=>False
mutual
theorem R.qO:∀(t:Tr){v:V}{c:Cs},Cl t=true->R K F B t v c->c=[]
 |.int _,_,_,_,h=>h.2
 |.bl _,_,_,_,h=>h.2
 |.str _,_,_,_,h=>h.2
 |.aE,_,_,_,h=>h.2
 |.aq,_,_,_,h=>h.elim
 |.ty _,_,_,_,h=>h.2
 |.cl _,_,_,_,h=>h.2
 |.exc _ _,_,_,_,h=>h.1
 |.aP xs,_,_,n,y=>by let⟨a,vs,d,e,b⟩:=y;exact Rs.qO xs n b
 |.ag .f xs,_,_,_,h=>h.1
 |.ag .o xs,_,_,n,_=>nomatch n
 |.ag (.l _) xs,_,_,n,_=>nomatch n
 |.aR .f xs,_,_,_,h=>h.1
 |.aR .o xs,_,_,n,_=>nomatch n
 |.aR (.l _) xs,_,_,n,_=>nomatch n
 |.ins .f _ xs,_,_,_,h=>h.1
 |.ins .o _ xs,_,_,n,_=>nomatch n
 |.ins (.l _) _ xs,_,_,n,_=>nomatch n
theorem Rs.qO:∀(t:List Tr){v:List V}{c:Cs},fC t=true->Rs K F B t v c->c=[]
 |[],_,_,_,h=>h.2
 |x::xs,_,_,n,y=>by
  let⟨v,r,c,d,f,a,b,e⟩:=y;have n:(Cl x&&fC xs)=true:=n;rw[and_eq_true] at n;rw[a,R.qO x n.1 b,Rs.qO xs n.2 e];rfl
end
theorem Rs.rep(r:R K F B a v []):∀n:Nat,Rs K F B (List.replicate n a) (List.replicate n [v]).flatten []
 |0=>⟨rfl,rfl⟩
 |n + 1=>⟨v,(List.replicate n [v]).flatten,[],[],rfl,rfl,r,Rs.rep r n⟩
theorem NP:ed K k (Al K) rY:=λF B H x y U ty cx J Q I s b z E G A O hd p q=>by
 unfold rY at p;split at p
 .rename_i a n;∎;let⟨D,C,p1,p2⟩:=p;let⟨rfl,_⟩:=G;let⟨l,vs,L,rfl,o,u,M,N⟩:=E.cM s b A;let⟨v,r,c,d,rfl,rfl,e,⟨rfl,rfl⟩⟩:=u;∎;rw[R.qO a D e] at e;exact⟨_,_,_,rfl,rfl,o,C,p1,(show 1<=100 by decide),λl w=>sN (cx:=cx) s (Rs.rep e n.toNat) .nil (λ_ m=>nomatch m) w p2 λt v f i j h g r c m=>q t v f i j h g r c λp z=>(m p z).imp id .inl⟩
 .exact p.elim
theorem Es(d:QE X k a pa)(e:QE X k b pb):QE X k (.BinOp a .Mult b pos) (p2 rY pa pb):=oo P9 NP d e
theorem L6:rY (.ag f [a]) (.int n) Q=(Cl a=true/\0<=n/\n<=1000/\Q (.ag .o (List.replicate n.toNat a))):=rfl
end
section
variable{K:aj}{mg:bc}{h:aO}{x qual:Str}{st:Stmt}{ps:ah}{f c:ae}
set_option genInjectivity false in
set_option genSizeOf false in
structure dz(K:aj)(mg:bc)(x:Str)(st:Stmt)(ps:ah) where
 a:Addr
 d:FuncData
 F:gv K x x st a d
 b:Binds K d ps []
 m:mg x=some (.ref a)
set_option genInjectivity false in
set_option genSizeOf false in
structure eW(K:aj)(c:ae)(x qual:Str)(st:Stmt)(ps:ah) where
 a:Addr
 d:FuncData
 F:gv K x qual st a d
 b:Binds K d ps []
 t:A8 K c x a
set_option genInjectivity false in
set_option genSizeOf false in
structure qY(K:aj)(c:ae)(qual:Str)(st:Stmt)(ps:ah) where
 a:Addr
 d:FuncData
 F:gv K "__init__" qual st a d
 b:Binds K d ps []
 t:Mk K c a
abbrev je(x qual:Str)(st:Stmt)(ps:ah):Prop:=∀(kV doc pm:ao)(an:bT)(a7 ct:ao)(us:aL),us.length=ps.length->bindArgs (W.fnOf x qual (nG st) (iX st) (bD st) .none kV doc pm an a7 ct) ⟨us,[]⟩=pure (ps.zip us)
noncomputable def HD(X:K.In h)(G:h.Ns mainGlobals mg)(e:W.nsIn K mainGlobals x=some (some (.ref f)))(F:f6 K x x st f)(a:je x x st ps):dz K mg x st ps:=⟨f,F.choose,F.choose_spec,F.choose_spec.binds a,W.mg_of X G e⟩
noncomputable def HF(e:W.findIn K (.ref c) x=some (some (.ref f)))(F:f6 K x qual st f)(i:W.isFn K (.ref f)=true)(a:je x qual st ps):eW K c x qual st ps:=⟨f,F.choose,F.choose_spec,F.choose_spec.binds a,⟨e,i,F.kp⟩⟩
noncomputable def HE(e:W.findIn K (.ref c) "__init__"=some (some (.ref f)))(F:f6 K "__init__" qual st f)(i:W.isFn K (.ref f)=true)(m:W.makesIn K c=true)(k:W.keepIn K (.ref c)=true)(a:je "__init__" qual st ps):qY K c qual st ps:=⟨f,F.choose,F.choose_spec,F.choose_spec.binds a,⟨m,e,i,k⟩⟩
abbrev FJ(K:aj)(c:ae)(vs:ax):Prop:=∃(o:Obj)(a:d3)(n:Nat),K.lookup c=some o/\o.cls=.type "tuple"/\o.data=.seq a n/\a.size<=sizeLine/\aH vs a.toList
theorem yc(e:W.findIn K (.ref c) x=some none):a9 K c x:=e
end
end Pu
namespace L2
section
open PySem PySem.W PySem.Builtin PySem.Builtin.ObjectAttr
@[inline] def fZ:aL:=[.type "ValueError",.type "Exception",.type "BaseException",.type "object"]
def kW(K:Frag)(C F:ae):Bool:=(clsIn K C).any λa=>a.mro == .ref C::.ref F::fZ&&a.hasDict
section
variable{prog:Program}{w:World}{A:Around}{E:ao->ak->Prop}{s:ak}{K:Frag}{x C F:ae}{R:Result->ak->Prop}
theorem DJ{o:Obj}{od:Option Obj}{a:Str}{d:Tok}{v:ao}(X:K.In s.heap)(I:InstAt s.heap x o C od)(n:kW K C F=true)(ht:findIn K (.ref C) a=some none)(h:wpAny (model prog w) A.in1 (storeInOwnDict (.ref x) (.ref C) (.str a d) a v false)
   (λg s'=>match g with |.done f=>R (.ok f) s' |.again j=>j.quiet=true/\codeAny (model prog w) A j R s') (λe s'=>R (.error e) s') s):
  codeAny (model prog w) A (.call (.builtin "object.__setattr__") ⟨[.ref x,.str a d,v],[]⟩) R s:=by
 have b:=PySem.F.store_object;let⟨m,l,i⟩:=any_some n;simp only[and_eq_true,beq_iff_eq] at i;have sub:Looks (model prog w) s.heap (isInstance (.ref x) (.type "object")) true:=I.type.andThen (looks_mroIn X (by unfold mroIn;rw[l,Option.bind_some,i.1,if_neg (by exact Bool.false_ne_true)];exact congrArg some (by unfold fZ;simp only[List.contains_cons,List.contains_nil];rw[show (Value.type "object" == Value.type "object")=true from by decide];simp)));refine codeAny_call_builtin b.slot.plain b.entry (@check_slot (model prog w) _ _ s "object.__setattr__" "object" "__setattr__" (.ref x) [.str a d,v] [] _ b.kind b.split sub (b.args (.ref x) (.str a d) v) ?_);have hm:Looks (model prog w) s.heap (mroOf (.ref C)) m.mro:=(looks_clsIn X l).andThen .now;rw[osa_eq,refuse_eq];refine wpAny_bind (wpAny_bind (I.type.here (wpAny_bind (hm.here ?_))));rw[i.1,refuseLoop_ref,refuseLoop_ref,show refuseLoop (.ref x) "__setattr__" fZ=pure () from PySem.F.store_ValueError.passes _];exact wpAny_pure (wpAny_bind (I.type.here (wpAny_bind ((looks_findIn X ht).here (wpAny_bind (wpAny_pure h))))))
theorem NQ{vs:d3}{a:Str}{v:ao}{Q:Unit->ak->Prop}(X:K.In s.heap)(j:s.heap.get? x=some ⟨.ref C,none,.fields vs,#[]⟩)(G:kW K C F=true)(ht:findIn K (.ref C) a=some none)(hs:findIn K (.ref C) "__setattr__"=some (some (.builtin "object.__setattr__")))(h:∀h' d,s.heap.get? d=none->h'.get? x=some ⟨.ref C,some d,.fields vs,#[]⟩->(h'.Ns1 d λy=>if y=a then some v else none)->(∀b o,b≠x->s.heap.get? b=some o->h'.get? b=some o)->Q () { s with heap:=h',toks:=s.toks+2 }):
  wpAny (model prog w) A (setAttr (.ref x) a v) Q E s:=by
 have I:InstAt s.heap x ⟨.ref C,none,.fields vs,#[]⟩ C none:=⟨j,rfl,rfl,trivial⟩
 refine set_plain X I hs (DJ (s:={ s with toks:=s.toks+1 }) X I G ht ?_);let⟨N,L,D⟩:=any_some G;simp only[and_eq_true,beq_iff_eq] at D;have f:(s.heap.push { cls:=.type "dict",data:=.dict #[] }).get? x=some ⟨.ref C,none,.fields vs,#[]⟩:=Heap.get?_push_of_some _ j;have i:x≠⇑s:=ne_of_lt (Heap.lt_size j);refine wpAny_bind (wpAny_pure (wpAny_bind (wpAny_bind (wpAny_loadPart j (wpAny_bind (Looks.here (s:={ s with toks:=s.toks+1 }) (looks_clsIn X L) ?_))))));rw[D.2];refine wpAny_bind (wpAny_alloc' ?_);refine wpAny_bind (wpAny_update' f ?_);refine wpAny_pure ?_;have q:((s.heap.push { cls:=.type "dict",data:=.dict #[] }).update x λo=>{ cls:=o.cls,dict:=some ⇑s,data:=o.data,slots:=o.slots }).get? ⇑s=some { cls:=.type "dict",data:=.dict #[] }:=
  (Heap.get?_update_ne _ _ _ _ i.symm).trans (Heap.get?_push_at rfl rfl)
 have r:((s.heap.push { cls:=.type "dict",data:=.dict #[] }).update x λo=>{ cls:=o.cls,dict:=some ⇑s,data:=o.data,slots:=o.slots }).Ns ⇑s (λ_=>none):=
  ⟨_,#[],_,q,rfl,λe M=>absurd M (by simp),λ_=>rfl⟩
 show wpAny _ _ (storeInDict ⇑s (.str a _) a v) _ _ _;unfold storeInDict newKeyGuard;refine wpAny_bind (wpAny_pure (wpAny_bind (wpAny_nsSet1 (Heap.Ns1.of_empty r) λh' g hs=>?_)));let⟨O,J,H,u,n,m⟩:=g.count (Within.cons a v Within.nil);refine wpAny_bind (wpAny_lookBehind u (by rw[n];exact pastItsLine_dict (le_trans m (by rw[length_cons,length_nil,sizeLine_eq];omega))) ?_);refine wpAny_pure (h h' _ (Heap.get?_none_of_le (le_refl _)) ?_ g λb U l B=>?_)
 .exact (hs.2 x i).trans (Heap.get?_update_self _ f rfl)
 .exact (hs.2 b (ne_of_lt (Heap.lt_size B))).trans ((Heap.get?_update_ne _ _ _ _ l).trans (Heap.get?_push_of_some _ B))
theorem NR{vs:d3}{a:Str}{v:ao}{d:ae}{m:bc}{ns:ah}{Q:Unit->ak->Prop}(X:K.In s.heap)(l:s.heap.get? x=some ⟨.ref C,some d,.fields vs,#[]⟩)(hd:s.heap.Ns1 d m)(j:kW K C F=true)(ht:findIn K (.ref C) a=some none)(hs:findIn K (.ref C) "__setattr__"=some (some (.builtin "object.__setattr__")))(u:Within m ns)(L:ns.length<=1000)(h:∀h',(h'.Ns1 d λy=>if y=a then some v else m y)->Heap.SameBut d s.heap h'->Q () { s with heap:=h',toks:=s.toks+2 }):
  wpAny (model prog w) A (setAttr (.ref x) a v) Q E s:=by
 let⟨od,J,H,n,D,G⟩:=id hd;have I:InstAt s.heap x ⟨.ref C,some d,.fields vs,#[]⟩ C (some od):=⟨l,rfl,rfl,n⟩;refine set_plain X I hs (DJ (s:={ s with toks:=s.toks+1 }) X I j ht ?_);let⟨B,r,i⟩:=any_some j;simp only[and_eq_true,beq_iff_eq] at i;refine wpAny_bind (wpAny_pure (wpAny_bind (wpAny_bind (wpAny_loadPart l (wpAny_bind (Looks.here (s:={ s with toks:=s.toks+1 }) (looks_clsIn X r) ?_))))));rw[i.2];refine wpAny_pure ?_;show wpAny _ _ (storeInDict d (.str a _) a v) _ _ _;unfold storeInDict newKeyGuard;refine wpAny_bind (wpAny_pure (wpAny_bind (wpAny_nsSet1 (s:={ s with toks:=s.toks+1 }) hd λh' b hs=>?_)));let⟨M,q,o,g,f,e⟩:=b.count (Within.cons a v u);refine wpAny_bind (wpAny_lookBehind g (by rw[f];exact pastItsLine_dict (le_trans e (by rw[length_cons,sizeLine_eq];omega))) ?_);exact wpAny_pure (h h' b hs)
end
theorem NS{K:Frag}{h:aO}{N:ae}{m:bc}{n:Str}{v:ao}(X:K.In h)(G:h.Ns N m)(e:nsIn K N n=some (some v)):m n=some v:=by
 let⟨o,g,f,b,hd,_,a⟩:=G;unfold nsIn at e;split at e
 .rename_i c d es' n' sl q;have:=X _ _ q;rw[b] at this;cases this;cases hd;split at e
  .rename_i en he;cases e;rw[<- a];unfold nsFind findBy;rw[<- Array.find?_toList,he];rfl
  .split at e<;>cases e
 .cases e
def nF(K:Frag)(C a:ae):Bool:=match K.lookup C with
 |some ⟨.type "type",_,.cls cd,sl⟩=>(match cd.mro,sl.toList with
  |.ref C'::bm,[_,_,_,_,some (.builtin n),_]=>C' == C&&n == "ValueError.__new__" && !cd.hasDel&&tailIn K fZ bm&&nsOkIn K cd.ns&&nsIn K cd.ns "__init__" == some (some (.ref a))
  |_,_=>false)
 |_=>false
theorem CF{K:Frag}{h:aO}{C e:ae}(X:K.In h)(q:nF K C e=true):
  ∃bm N nm f bs hd sn sub ab col dd k0 k1 k2 k3 k5 mN,h.get? C=some (excClassObj nm f C N bs bm hd sn sub ab col dd k0 k1 k2 k3 k5 "ValueError.__new__")/\h.Ns N mN/\mN "__init__"=some (.ref e)/\OwnTail h fZ bm:=by
 unfold nF at q;split at q
 case h_2=>cases q
 case h_1 ddc cdc slc hlook=>
  split at q
  case h_2=>cases q
  case h_1 Cc bmc k0 k1 k2 k3 nn k5 hmro hslots=>
   simp only[and_eq_true,beq_iff_eq,Bool.not_eq_true'] at q;∎;let⟨⟨⟨⟨⟨i,j⟩,b⟩,l⟩,a⟩,d⟩:=q;let⟨nm,bs,m,ns,f,hd,sn,sub,ab,col,g⟩:=cdc;∎;dsimp only at hmro b a d;let⟨n⟩:=slc;simp only at hslots;subst i j b hmro hslots;exact⟨_,_,_,_,_,_,_,_,_,_,_,_,_,_,_,_,_,X _ _ hlook,.of_isNs (isNs_of_in X a),NS X (.of_isNs (isNs_of_in X a)) d,tail_of_in X l⟩
section
variable{prog:Program}{w:World}{A:Around}{E:ao->ak->Prop}{h:aO}{g:Array GenState}{d:Drawn}{t:Nat}{os:OsState}
variable{nm q:Str}{C N:ae}{bs bm:aL}{hdct:Bool}{sn:ah}{sub:aL}{ab:Bool}{col:Option Bool}{dd:bT}{k0 k1 k2 k3 k5:dZ}
theorem K0(T:OwnTail h fZ bm){mN:bc}{rest:aL}{s:ae}{B:Obj}{Q:Fin->ak->Prop}(n:h.get? C=some (excClassObj nm q C N bs bm hdct sn sub ab col dd k0 k1 k2 k3 k5 "ValueError.__new__"))(hn:h.Ns N mN)(G:mN "__init__"=some (.ref s))(v:h.get? s=some B)(y:B.cls=.type "function")(f:rest.length<=1000)(H:∀h' e,Heap.MadeExcOf h h' e (.ref C) rest->h.objs.size<=e->
   wpAny (model prog w) A (call (.ref s) (.ref e::rest)) (λr s'=>r=.none/\Q (.done (.ret (.ref e))) s') E ⟨h',g,d,t,os⟩):
  wpAny (model prog w) A (Builtin.«type.__call__» ⟨.ref C::rest,[]⟩) Q E ⟨h,g,d,t,os⟩:=by
 have F:=PySem.F.excBase_ValueError;have f:rest.length<=sizeLine:=by rw[sizeLine_eq];omega
 repeat (first |with_reducible refine wpAny_loadPart_at n ?_ |with_reducible refine wpAny_madeBy_exc n ?_ |wp_step)
 refine codeAny_call_builtin_code (Code.quiet_builtin _ F.quiet) (wpAny_check_new_subT F T n ?_);refine codeAny_exc_new_subT F T n ?_ f;show wpAny _ _ _ _ _ _;have a:=Heap.get?_push_of_some { cls:=.ref C,data:=.fields #[.ref h.objs.size,.none,.none,.none,.bool false,.none] }
  (Heap.get?_push_of_some { cls:=.type "tuple",data:=.seq rest.toArray } n)
 have i:=Heap.get?_push_of_some { cls:=.ref C,data:=.fields #[.ref h.objs.size,.none,.none,.none,.bool false,.none] }
  (Heap.get?_push_of_some { cls:=.type "tuple",data:=.seq rest.toArray } v)
 have l:((h.push { cls:=.type "tuple",data:=.seq rest.toArray }).push { cls:=.ref C,data:=.fields #[.ref h.objs.size,.none,.none,.none,.bool false,.none] }).Ns N mN:=
  let ⟨o,es,ep,e,r⟩:=hn;⟨o,es,ep,Heap.get?_push_of_some _ (Heap.get?_push_of_some _ e),r⟩
 have j:((h.push { cls:=.type "tuple",data:=.seq rest.toArray }).push
   { cls:=.ref C,data:=.fields #[.ref h.objs.size,.none,.none,.none,.bool false,.none] }).get? (h.objs.size+1)=some
   { cls:=.ref C,data:=.fields #[.ref h.objs.size,.none,.none,.none,.bool false,.none] }:=by heap_get
 have u:(Value.ref C::bm).contains (.ref C)=true:=by simp
 have m:=T.keeps (h':=(h.push { cls:=.type "tuple",data:=.seq rest.toArray }).push { cls:=.ref C,data:=.fields #[.ref h.objs.size,.none,.none,.none,.bool false,.none] })
  λb o e=>Heap.get?_push_of_some _ (Heap.get?_push_of_some _ e)
 unfold isInstance
 repeat (first |with_reducible refine wpAny_loadPart_at j ?_ |(with_reducible refine wpAny_isSubtype_exc a ?_;rw[u]) |wp_step)
 show wpAny _ _ (typeLookup (.ref C) _) _ _ _;refine wpAny_typeLookup_tail a l m F.mroIs F.init.lookup ?_;rw[G];refine wpAny_holding (wpAny_bind ?_);unfold bindSpecial;refine wpAny_bind (wpAny_typeOf (T:="function") ⟨_,i,y⟩ ?_);rw[if_pos ∎];refine wpAny_pure (wpAny_bind (wpAny_mono (H _ (h.objs.size+1) ⟨λb o D=>Heap.get?_push_of_some _ (Heap.get?_push_of_some _ D),Heap.get?_none_of_le (Nat.le_succ _),h.objs.size,j,Heap.get?_none_of_le (le_refl _),?_⟩ (Nat.le_succ _)) (λr s' I=>?_) λ_ _ x=>x))
 .exact Heap.get?_push_of_some _ (Heap.get?_push_at rfl rfl)
 .obtain⟨rfl,hQ⟩:=I
  wp_walk
  exact hQ
theorem L7(T:OwnTail h fZ bm){mN:bc}{rest:aL}{f:ae}{l:Obj}{Q:ao->ak->Prop}(b:h.get? C=some (excClassObj nm q C N bs bm hdct sn sub ab col dd k0 k1 k2 k3 k5 "ValueError.__new__"))(hn:h.Ns N mN)(m:mN "__init__"=some (.ref f))(i:h.get? f=some l)(j:l.cls=.type "function")(a:rest.length<=1000)(o:∀h' e,Heap.MadeExcOf h h' e (.ref C) rest->h.objs.size<=e->
   wpAny (model prog w) (A.under (.builtin "type.__call__" ⟨.ref C::rest,[]⟩)) (call (.ref f) (.ref e::rest)) (λr s'=>r=.none/\Q (.ref e) s') E ⟨h',g,d,t,os⟩):
  wpAny (model prog w) A (call (.ref C) rest) Q E ⟨h,g,d,t,os⟩:=by
 have s:=tc_lookup;have u:=tc_bind (.ref C);have v:(⟨h,g,d,t,os⟩:ak).TypeIs (.ref C) "type":=⟨_,b,rfl⟩
 refine wpAny_call (codeAny_of_tree ?_);show wpAny _ _ (callAny (.ref C) _) _ _ _
 repeat (any_goals (first |assumption |with_reducible refine wpAny_loadPart_at b ?_ |wp_step))
 refine⟨rfl,?_⟩;refine codeAny_call_builtin_at (Code.quiet_builtin _ (by decide +kernel)) entry_typeCall (wpAny_check_type_call_sub b (K0 T b hn m i j a λh' e hm n=>?_));exact o h' e hm n
theorem L8(T:OwnTail h fZ bm)(f:h.get? C=some (excClassObj nm q C N bs bm hdct sn sub ab col dd k0 k1 k2 k3 k5 "ValueError.__new__")){e:ae}{od:bT}{m:ae}{u:ao}{Q:ao->ak->Prop}(a:h.get? e=some ⟨.ref C,od,.fields #[.ref m,.none,.none,.none,.bool false,.none],#[]⟩)(l:∀h' t',h.get? t'=none->h'.get? e=some ⟨.ref C,od,.fields #[.ref t',.none,.none,.none,.bool false,.none],#[]⟩->(∀b o,b≠e->h.get? b=some o->h'.get? b=some o)->Q .none ⟨h',g,d,t,os⟩):
  wpAny (model prog w) A (call (.builtin "ValueError.__init__") [.ref e,u]) Q E ⟨h,g,d,t,os⟩:=by
 have F:=PySem.F.excBase_ValueError;refine wpAny_call (codeAny_call_builtin F.init.plain F.initEntry (wpAny_check_init_subU F T f a rfl ?_))
 wp_walk
 refine l _ h.objs.size (Heap.get?_none_of_le (le_refl _)) ?_ λb o i j=>?_
 .rw[Heap.get?_update_self _ (Heap.get?_push_of_some _ a) rfl];rfl
 .rw[Heap.get?_update_other _ _ (Ne.symm i)];exact Heap.get?_push_of_some _ j
end
end
end L2
namespace L2
open PySem PySem.Spec PyProof.Rows
section
variable{M:Model}{A:Around}{E:ao->ak->Prop}{env:Env}
variable{nm q:Str}{C N:ae}{bs bm:aL}{hdct:Bool}{sn:ah}{sub:aL}{ab:Bool}{col:Option Bool}{dd:bT}{k0 k1 k2 k3 k5:dZ}{newId:String}
theorem Jv{s:ak}{x:Sem Value}{Q:Flow->ak->Prop}(b:bm.contains (.type "BaseException")=true)(n:A.handled=none)(h:wpAny M A x (λv a=>∃e od t,v=.ref e/\a.heap.get? C=some (excClassObj nm q C N bs bm hdct sn sub ab col dd k0 k1 k2 k3 k5 newId)/\
   a.heap.get? e=some ⟨.ref C,od,.fields #[.ref t,.none,.none,.none,.bool false,.none],#[]⟩/\E (.ref e) a) E s):
  wpAny M A (raiseStmt env (some x) none) Q E s:=by
 have i:(Value.ref C::bm).contains (.type "BaseException")=true:=by rw[List.contains_cons,b,Bool.or_true]
 unfold raiseStmt;refine wpAny_bind (wpAny_mono h (λv a f=>?_) λ_ _ x=>x);let⟨e,od,t,rfl,j,m,l⟩:=f;let⟨o,g,d,r,os⟩:=a
 repeat (first |with_reducible refine wpAny_loadPart_at m ?_ |with_reducible refine wpAny_loadPart_at j ?_ |(with_reducible refine wpAny_isSubtype_exc j ?_;rw[i]) |wp_step)
 exact wpAny_raiseNew_none n l
end
def XO(C e:ae)(od:bT):HO:=.ext λh=>∃t:Addr,h.get? e=some ⟨.ref C,od,.fields #[.ref t,.none,.none,.none,.bool false,.none],#[]⟩
theorem xU{P:Program}{w:World}{H:Hp}{h:aO}{C e t:ae}{od:bT}(x:h.get? e=some ⟨.ref C,od,.fields #[.ref t,.none,.none,.none,.bool false,.none],#[]⟩):aX P w H h e (XO C e od):=⟨⟨t,x⟩,⟨_,x⟩,λ_ _ ⟨t,z⟩ k=>⟨t,k _ z⟩⟩
theorem Ut{fs:List (Str×V)}{m:bc}(r:∀f,bX (fs.lookup f) (m f)):PySem.Within m (fs.map (·.1)):=λy a=>by
 have:=r y;cases z:fs.lookup y with
 |none=>rw[z] at this;cases q:m y with
  |none=>exact absurd q a
  |some u=>rw[q] at this;exact this.elim
 |some v=>
  clear this r a
  induction fs with
  |nil=>cases z
  |cons p d b=>
   rw[lookup_cons] at z;by_cases e:y=p.1
   .exact .head _ |> (e ▸ ·)
   .rw[show (y == p.1)=false by simpa using e] at z;exact .tail _ (b z)
theorem E4{P:Program}{w:World}{H:Hp}{h:aO}{d:ae}{fs:List (Str×V)}{m:bc}(x:h.Ns1 d m)(y:∀f,bX (fs.lookup f) (m f)):aX P w H h d (XD d fs):=⟨⟨m,x,y⟩,let ⟨o,_,_,e,_⟩:=x;⟨o,e⟩,λ_ _ ⟨m,z,y⟩ k=>⟨m,z.at k,y⟩⟩
theorem DK{fs:List (Str×V)}{m:bc}{f:Str}{v:V}{u:ao}(r:∀f,bX (fs.lookup f) (m f))(q:aC v u)(g:Str):bX (((f,v)::fs).lookup g) (if g=f then some u else m g):=by
 rw[lookup_cons];by_cases e:g=f
 .rw[if_pos e,e,beq_self_eq_true];exact q
 .rw[if_neg e,show (g == f)=false by simpa using e];exact r g
theorem Sv{H:Hp}{a:ae}{o:HO}(h:H a=some o):aN H a o=H:=by
 funext b;unfold aN;split
 .subst_vars;exact h.symm
 .rfl
structure nP(K:aj)(C F fI:ae):Prop where
 ex:nF K C fI=true
 ov:kW K C F=true
 sa:W.findIn K (.ref C) "__setattr__"=some (some (.builtin "object.__setattr__"))
 kp:W.keepIn K (.ref C)=true
 fn:W.isFn K (.ref fI)=true
 rd:W.readsIn K F (.type "type")=true
 sp:W.specialIn K (.ref F) "__getattribute__"=some (some (.builtin "type.__getattribute__"))
 fc:W.findCls K (.ref F) (.type "type") "__init__"=some (.val (.builtin "ValueError.__init__"))
section
variable{X:Cx}
theorem K1{M:Model}{A:Around}{E:ao->ak->Prop}{s:ak}{env:Env}{pos:Pos}{id:String}{e:Expr}{rest:bL}{Q:ao->ak->Prop}(h:wpAny M A (spliced (backTo pos (starEach (e::rest) env))) (λvs b=>wpAny M A (call (.builtin id) vs) Q E b) E s)(d:ee e rest env)(a:eZ pos rest env):wpAny M A (callWith pos (.builtin id) [] (backTo pos (starEach (e::rest) env)) []) Q E s:=by
 rw[d] at h ⊢;exact PySem.Calls.callWith_builtin (by show (false || (backTo pos (starEach rest env)).any (·.1))=false;rw[a];rfl) (PySem.Calls.evalArgs_plain h)
def Fm(C:ae)(t:TA):TE:=λj H Q=>t j H λvs a=>∃e od u,vs=[.ref e,u]/\a e=some (XO C e od)/\Q .aE a
theorem Uu{C F fI:ae}{x:Str}{G m pos:Pos}{l i:Expr}{t:TA}{pl:Sem Bool}(c:nP X.K C F fI)(hg:Gl X x)(hm:X.mg x=some (.ref F))(ha:PA X [l,i] t)(A: ~~~(da x))(E:do ee l [i] X.env)(D:do eZ pos [i] X.env)(ht:eval (.Call (.Attribute (.Name x G) "__init__" m) [l,i] [] pos) X.env=(do
   let ov <- eval (.Name x G) X.env
   standAt m.atName
   let (f,first) <- holding [ov] (getMethod ov "__init__" pl)
   callWith pos f first (backTo pos (starEach [l,i] X.env)) (backToKw pos (keywordEach [] X.env))):=by rfl):
  PE X (.Call (.Attribute (.Name x G) "__init__" m) [l,i] [] pos) (Fm C t):=by
 intro aa s j H Q I h;refine W.methodCall_KW (pl:=pl) (k4 I hg hm ?_ A) ht;refine W.method_cls I.cG c.sp (W.cls_value I.cG c.rd c.fc rfl ?_);have O:=I.tok (s.toks+1);refine K1 (bq (ha pos aa _ j H _ O h) λus s1 J=>?_) E D;let⟨vs,M,y,r,e,od,u,Y,B,q⟩:=J;subst Y;obtain⟨w,n,rfl,rx,r1⟩:∃w n,us=w::n/\aC (.ref e) w/\aH [u] n:=by cases r with |cons a b=>exact⟨_,_,rfl,a,b⟩
 let⟨u2,rfl,ru⟩:=mE r1;obtain rfl:w=Value.ref e:=rx;∎;let⟨bm,N,nm,qn,bs,hd,sn,sub,ab,U,dd,k0,k1,k2,k3,k5,mN,hC,_,_,T⟩:=CF y.cG c.ex;let⟨⟨t0,ho⟩,_,_⟩:=y.aM e _ B;let⟨hp,g,d,tk,os⟩:=s1;∎;refine L8 T hC ho λh' t' _ v hk=>?_
 have L:=y.write (x:=e) (e:=e) (o:=XO C e od) (h':=h') (t':=tk) (by rw[B];exact True.intro) (.inl rfl) (λb u hb z=>hk b u hb z) ⟨_,v⟩ (xU v);rw[Sv B] at L;exact⟨.aE,M,L,rfl,q⟩
def yG(C:ae)(g h:TE)(f:Str):TS:=λD j H=>h j H λy b=>g j b λx a=>∃e,x=.ref e/\
 ((a e=some (XO C e none)/\∀d,a d=none->d≠e->D.nx j (aN (aN a d (XD d [(f,y)])) e (XO C e (some d))))\/
  ∃d fs,a e=some (XO C e (some d))/\a d=some (XD d fs)/\fs.length<=900/\D.nx j (aN a d (XD d ((f,y)::fs))))
theorem E5{C F fI:ae}{o value:Expr}{f:Str}{pos l:Pos}{ta tv:TE}(c:nP X.K C F fI)(nf:W.findIn X.K (.ref C) f=some none)(ha:PE X o ta)(hv:PE X value tv)(hs:swapsWith value (some (.Attribute o f l)) pos.line X.env=pure false):PS X (.Assign [.Attribute o f l] value pos) (yG C ta tv f):=by
 intro aa s j H D I h;refine plainObj_wpAny_Assign_Attribute (bq (hv aa s j H _ I h) λu s1 Y=>?_) hs;let⟨y,H1,I1,ry,q⟩:=Y;refine bq (ha aa s1 j H1 _ I1 q) λov s2 α=>?_
 let⟨x,r,a,rx,e,ex,M⟩:=α;subst ex;obtain rfl:ov=Value.ref e:=rx;rcases M with⟨B,M⟩ |⟨d,ns,B,hd,hz,M⟩
 .obtain⟨⟨t0,ho⟩,_,_⟩:=a.aM e _ B;refine NQ a.cG ho c.ov nf c.sa λh' d cL L O N=>?_
  have Q:d≠e:=λz=>by rw[z,ho] at cL;cases cL
  have E:r d=none:=by
   cases z:r d with
   |none=>rfl
   |some v=>let⟨o',e'⟩:=(a.aM d v z).has;rw[cL] at e';cases e'
  have nd:∀b v,r b=some v->b≠d:=λb v z w=>by rw[w,E] at z;cases z
  have up:∀b v,r b=some v->b≠e->aN (aN r d (XD d [(f,y)])) e (XO C e (some d)) b=some v:=λb v z n=>by rw[aW n,aW (nd b v z)];exact z
  have ne:∀b v,r b=some v->v≠XO C e none->b≠e:=λb v z n w=>by rw[w,B] at z;cases z;exact n rfl
  have U:∀b,r b=none->b≠e:=λb z w=>by rw[w,B] at z;cases z
  refine⟨j,_,a.un (t':=s2.toks+2) ⟨λb o z n _ _=>N b o (U b n) z,λb o z n _ _=>⟨o.slots,N b o (U b n) z⟩,λb o z n _=>?_,λb o z _=>?_,λb xs z=>up b _ z (ne b _ z λw=>by cases w),λb o u z=>up b _ z (ne b _ z λw=>by cases w),
   λb ps z=>⟨#[],by rw[Array.append_empty];exact up b _ z (ne b _ z λw=>by cases w)⟩⟩ λb v z=>?_,M d E Q⟩
  .rw[aW (U b n),aW (λw=>by rw[w,cL] at z;cases z)];exact n
  .by_cases i:b=e
   .exact⟨_,by rw[i];exact L⟩
   .exact⟨o,N b o i z⟩
  .by_cases i:b=e
   .subst i;rw[cO] at z;cases z;exact xU L
   .rw[aW i] at z;by_cases G:b=d
    .subst G;rw[cO] at z;cases z;exact E4 O λg=>DK (fs:=[]) (m:=λ_=>none) (λ_=>True.intro) ry g
    .rw[aW G] at z;refine (a.aM b v z).dR (λc o A q=>N c o (λw=>?_) q) (λc q=>up c _ q (ne c _ q λw=>by cases w)) λc xs q=>up c _ q (ne c _ q λw=>by cases w)
     rcases A with A |A
     .exact i (A.symm.trans w)
     .rw[w,B] at A;cases A
 .obtain⟨⟨t0,ho⟩,_,_⟩:=a.aM e _ B;let⟨⟨m,hm,hr⟩,_,_⟩:=a.aM d _ hd;refine NR a.cG ho hm c.ov nf c.sa (Ut hr) (by rw[length_map];omega) λh' J sb=>?_
  have I3:=a.write (x:=d) (e:=d) (o:=XD d ((f,y)::ns)) (h':=h') (t':=s2.toks+2) (by rw[hd];exact True.intro) (.inl rfl) (λb u i z=>(sb.2 b i).trans z) (let ⟨o,_,_,e,_⟩:=J;⟨o,e⟩) (E4 J λg=>DK hr ry g);exact⟨j,_,I3,M⟩
def ji(K:aj)(H:Hp)(a:ae)(xs:ax):Prop:=bG K H a xs\/c8 K H a xs
theorem ji.on{K:aj}{a:ae}{xs:ax}{H b:Hp}(q:ji K H a xs)(k:∀u,(∀d,u≠.ext d)->H a=some u->b a=some u):ji K b a xs:=by
 rcases q with (r |r) |(r |r)
 .rcases r with r |⟨o,r⟩
  .exact .inl (.inl (.inl (k _ (λ_ w=>by cases w) r)))
  .exact .inl (.inl (.inr ⟨o,k _ (λ_ w=>by cases w) r⟩))
 .exact .inl (.inr r)
 .rcases r with r |⟨o,r⟩
  .exact .inr (.inl (.inl (k _ (λ_ w=>by cases w) r)))
  .exact .inr (.inl (.inr ⟨o,k _ (λ_ w=>by cases w) r⟩))
 .exact .inr (.inr r)
def jV(H:Hp)(xs ys:ax)(l m d:ae):Hp:=aN (aN (aN H l (.ag xs)) m (.ag ys)) d (XD d [("weights",.ref m),("numbers",.ref l)])
def uD(H:Hp)(xs ys:ax)(l m d:ae):Prop:=H l=none/\aN H l (.ag xs) m=none/\aN (aN H l (.ag xs)) m (.ag ys) d=none
theorem kr{H:Hp}{a b:ae}{o:HO}(h:aN H a o b=none):b≠a/\H b=none:=by
 by_cases z:b=a
 .rw[z,cO] at h;cases h
 .rw[aW z] at h;exact⟨z,h⟩
def vG(K:aj)(C:ae):Sp:=λvs H Q _=>∃e a b g h,vs=[.ref e,.ref a,.ref b]/\H e=some (XO C e none)/\ji K H a g/\ji K H b h/\∀f l m d,f e=some (XO C e (some d))->(∀x,x≠e->f x=jV H g h l m d x)->uD H g h l m d->Q .aE f
theorem Qa{K:aj}{C e a b:ae}{xs ys:ax}{D:Ends}{N:ah}{H:Hp}{z:V}(g:H e=some (XO C e none))(v:ji K H a xs)(A:ji K H b ys)(q:∀i l m d,i e=some (XO C e (some d))->(∀x,x≠e->i x=jV H xs ys l m d x)->uD H xs ys l m d->D.nx (start N [.ref e,.ref a,.ref b]) i):
  r9 (pH (Fm C (ke (fS 0) (ke (tC z) kl)))) (r9 (yG C (fS 0) (qT (λxs H Q=>∃p ys,xs=[.ref p]/\(bG K H p ys\/c8 K H p ys)/\∀l,H l=none->Q (.ref l) (aN H l (.ag ys))) (ke (fS 1) kl)) "numbers")
   (yG C (fS 0) (qT (λxs H Q=>∃p ys,xs=[.ref p]/\(bG K H p ys\/c8 K H p ys)/\∀l,H l=none->Q (.ref l) (aN H l (.ag ys))) (ke (fS 2) kl)) "weights")) D (start N [.ref e,.ref a,.ref b]) H:=by
 refine⟨.ref e,rfl,e,none,z,rfl,g,⟨.ref a,rfl,a,xs,rfl,v,λl h=>⟨.ref e,rfl,e,rfl,.inl ⟨?_,λd hd f=>?_⟩⟩⟩⟩
 .rw[aW λw=>by rw[<- w,g] at h;cases h];exact g
 let⟨dl,j⟩:=kr hd;refine⟨.ref b,rfl,b,ys,rfl,A.on λu n z=>?_,λm hm=>⟨.ref e,rfl,e,rfl,.inr ⟨d,[("numbers",.ref l)],?_,?_,(show (1:Nat)<=900 by decide),q _ l m d ?_ (λx B=>?_) ?_⟩⟩⟩
 .have b1:b≠e:=λw=>by rw[w,g] at z;exact n _ (Option.some.inj z).symm
  have r:b≠d:=λw=>by rw[w,j] at z;cases z
  have s:b≠l:=λw=>by rw[w,h] at z;cases z
  rw[aW b1,aW r,aW s];exact z
 all_goals
  let⟨o,hm⟩:=kr hm;let⟨md,hm⟩:=kr hm
 .rw[aW o.symm,cO]
 .rw[aW md.symm,aW f,cO]
 .rw[aW f.symm,aW o.symm,cO]
 .unfold jV;by_cases z:x=d
  .rw[z,cO,cO]
  .rw[aW z,aW z];by_cases y:x=m
   .rw[y,cO,cO]
   .rw[aW y,aW y,aW B,aW z]
 .exact⟨h,hm,by rw[aW md.symm];exact hd⟩
def zR(K:aj)(C:ae)(E:XK)(h:TA):TS:=λ_ j H=>h j H λvs e=>∃a b f g,vs=[.ref a,.ref b]/\ji K e a f/\ji K e b g/\∀l m d,uD e f g l m d->E (.ref C) (some d) (jV e f g l m d)
theorem L9{E:XK}{x:Str}{np O pos:Pos}{B y:Expr}{t:TA}{C F fI:ae}{fd:FuncData}{ps:ah}{k:Nat}(hs:X.stack=X.env::X.outer)(hf:X.env.frame=some X.env.locals)(η:X.ex=[])(υ:nv X E)(γ:X.calm=true)(hg:Gl X x)(hm:X.mg x=some (.ref C))(c:nP X.K C F fI)(G:aK X.prog X.w X.K X.mg X.base bJ k fI fd ps (vG X.K C))(hr:bp (k+1) X.A)(hb:Binds X.K fd ps [])(ha:PA X [B,y] t)(ν: ~~~(da x))(τ:do ee B [y] X.env)(σ:do eZ O [y] X.env):
  PS X (.Raise (some (.Call (.Name x np) [B,y] [] O)) none pos) (zR X.K C E t):=by
 intro aa s j H D I h;let⟨bm,N,nm,qn,bs,hd,sn,sub,ab,col,dd,k0,k1,k2,k3,k5,mN,hC,hN,π,T⟩:=CF I.ok.mod.kG c.ex;rw[arm_exec_Raise];refine wpAny_bind (wpAny_standAt (Jv (C:=C) (nm:=nm) (q:=qn) (N:=N) (bs:=bs) (bm:=bm) (hdct:=hd) (sn:=sn) (sub:=sub) (ab:=ab) (col:=col) (dd:=dd) (k0:=k0) (k1:=k1) (k2:=k2) (k3:=k3) (k5:=k5) (newId:="ValueError.__new__") (T.hasType PySem.F.excBase_ValueError.hasBase) (I.ok.hd γ) (wpAny_bind (wpAny_mono (wpAny_Call_Name_kw (k4 I hg hm ?_ ν)) (λv χ κ=>wpAny_bind (wpAny_standAt (wpAny_pure κ))) λ_ _ x=>x))));refine W.callWith_K (h₀:=X.base) I.ok.mod.kG c.kp (bq (ha O aa s j H _ I h) λus s1 φ=>?_) τ σ;let⟨vs,L,U,r,a,b,M,ys,ev,sa,sb,q1⟩:=φ;refine⟨U.cG,?_⟩;subst ev;have ι:us.length=2:=r.length.symm;let⟨hp,g,dr,tk,os⟩:=s1;have ε:∃oI,hp.get? fI=some oI/\oI.cls=.type "function":=by
  let⟨o,ho,z⟩:=Option.map_eq_some_iff.mp (beq_iff_eq.mp c.fn);exact⟨o,U.cG _ _ ho,z⟩
 let⟨oI,ε,ξ⟩:=ε;refine L7 (T.keeps U.bk) (U.bk _ _ hC) (hN.keeps U.bk) π ε ξ (by show us.length<=1000;omega) λh' e i θ=>?_
 let⟨t,ht,ψ,ω⟩:=i.there;have β:L e=none:=U.aM.fresh θ;have J:av X aa j (aN L e (XO C e none)) ⟨h',g,dr,tk,os⟩:=U.laid (t':=tk) i.keeps θ (xU ht);have on:∀{a M},ji X.K L a M->ji X.K (aN L e (XO C e none)) a M:=λ{a M} q=>q.on λu _ z=>by rw[aW λw=>by rw[w,β] at z;cases z];exact z
 have CC:(Value.ref e::us++[]).length=ps.length:=by
  have z:=G.len [.ref e,.ref a,.ref b] (aN L e (XO C e none)) (λ_ _=>True) (λ_ _ _=>False) ⟨e,a,b,M,ys,rfl,cO,on sa,on sb,λ_ _ _ _ _ _ _=>trivial⟩;rw[<- z];simp[ι]
 refine wpAny_call (codeAny_mono (G.run _ X.stack _ (aN L e (XO C e none)) ⟨.ref e::us,[]⟩ (.ref e::us++[]) [.ref e,.ref a,.ref b] (λv H'=>v=.aE/\∃l m d,H' e=some (XO C e (some d))/\(∀x,x≠e->H' x=jV (aN L e (XO C e none)) M ys l m d x)/\uD (aN L e (XO C e none)) M ys l m d) (λ_ _ _=>False) (hr.make _ _ _) (J.kD.make C us []) (hb _ (.ref e::us) J.cG CC) (by rw[append_nil];exact .cons rfl r) ⟨e,a,b,M,ys,rfl,cO,on sa,on sb,λH' l m d h1 h2 h3=>⟨rfl,l,m,d,h1,h2,h3⟩⟩) λr s' hq=>?_);cases r with
 |error x=>exact False.elim hq
 |ok fl=>
 cases fl with
 |next=>exact False.elim hq
 |brk=>exact False.elim hq
 |cont=>exact False.elim hq
 |ret u=>
 let⟨v,H',ρ,bare,un,aM,rv,rfl,l,m,d,δ,Y,hl,hm,hd⟩:=hq;obtain rfl:u=Value.none:=rv;let⟨⟨t1,ζ⟩,_,_⟩:=aM e _ δ;have ne:∀b o,hp.get? b=some o->b≠e:=λb o z w=>by rw[w,i.new] at z;cases z
 have nt:∀b v,L b=some v->b≠e:=λb v z w=>by rw[w,β] at z;cases z
 ∎;let⟨le,hl⟩:=kr hl;let⟨ml,hm⟩:=kr hm;let⟨me,hm⟩:=kr hm;let⟨dm,hd⟩:=kr hd;let⟨dl,hd⟩:=kr hd;let⟨de,hd⟩:=kr hd;∎;have α:jV L M ys l m d e=none:=by unfold jV;rw[aW de.symm,aW me.symm,aW le.symm];exact β
 have Y:∀x,x≠e->H' x=jV L M ys l m d x:=λx hx=>by
  rw[Y x hx];unfold jV;have k:∀(P Q:Hp) a o,P x=Q x->aN P a o x=aN Q a o x:=λP Q a o z=>by
   by_cases w:x=a
   .rw[w,cO,cO]
   .rw[aW w,aW w];exact z
  exact k _ _ _ _ (k _ _ _ _ (k _ _ _ _ (aW hx)))
 have I4:av X aa j (jV L M ys l m d) s':=U.dH (ch:=[]) (ρ.trans rfl) ⟨λb o z n f x=>un.keep b o (i.keeps b o z) (by rw [aW (ne b o z)];exact n) f x,λb o z n f x=>un.slot b o (i.keeps b o z) (by rw [aW (ne b o z)];exact n) f x,λb o z n x=>by rw [<- Y b (ne b o z)];exact un.free b o (i.keeps b o z) (by rw [aW (ne b o z)];exact n) x,
  λb o z x=>un.there b o (i.keeps b o z) x,λb _ z=>by rw[<- Y b (nt b _ z)];exact un.dy b _ (by rw[aW (nt b _ z)];exact z),λb _ _ z=>by rw[<- Y b (nt b _ z)];exact un.bz b _ _ (by rw[aW (nt b _ z)];exact z),λb ps z=>by rw[<- Y b (nt b _ z)];exact un.dS b ps (by rw[aW (nt b _ z)];exact z)⟩ (λb v z=>?_) bare (λb z=>absurd z (by simp))
 .refine⟨rfl,e,some d,t1,rfl,I4.bk _ _ hC,ζ,?_⟩;have up:∀b,hp.get? b=none->X.s₀.heap.get? b=none:=λb z=>by
   cases q:X.s₀.heap.get? b with
   |none=>rfl
   |some o=>let⟨o',e'⟩:=U.base.there b o q (by rw[η];simp);rw[z] at e';cases e'
  rw[υ];have ο:∀env∈X.env::X.outer,∀a,env.frame=some a->a∈e::cg X.stack:=λenv he a hf=>.tail _ (by rw[hs];exact sS env he a hf)
  refine BE (base:=W.hideAll s'.heap (e::cg X.stack)) (a0:=.ref t1) (by rw[I4.ok.frames,hs]) (W.funFrames_hide (hs ▸ I4.stack) ο) hf ζ (λb o q=>W.of_hideAll _ q)
   (W.hideAll_none _ (.head _)) rfl rfl rfl rfl λh2 hL μ=>?_
  let⟨l1,_,l3,l4⟩:=hL;exact xg hs hf η I4 (bad:=[e]) (λb hb=>by
   rcases mem_cons.mp hb with z |hb
   .exact .inl (by rw[z];exact .head _)
   .exact .inr hb) (λb hb=>by
   have z:b=e:=by simpa using hb
   rw[z];exact⟨up _ i.new,α⟩) l1 l4 l3 μ (up _ i.new) α (q1 l m d ⟨hl,by rw[aW ml];exact hm,by rw[aW dm,aW dl];exact hd⟩)
 .have nb:b≠e:=λw=>by rw[w,α] at z;cases z
  exact (aM b v ((Y b nb).trans z)).dR (λ_ _ _ q=>q) (λc q=>by rw[<- Y c λw=>by rw[w,δ] at q;cases q];exact q) λc M q=>by rw[<- Y c λw=>by rw[w,δ] at q;cases q];exact q
end
end L2
namespace Pu
open PySem L2 Vc Sf
section
variable{X:Cx}
def vm(ts:ai)(Q:ai->aU):Prop:=match ts with |[.ag .f a,.ag .f b]=>Q a b |_=>False
def u4(q:Xv->Prop)(C:ae)(d:cq):cw:=λ_ j=>kU d (j.map aG) λe=>vm e λa b=>cN a=true/\cN b=true/\q ⟨.ref C,[("weights",.ag .f b),("numbers",.ag .f a)]⟩
theorem K2{z:Bool}{q:Xv->Prop}{E:XK}{K:PySem.W.Frag}{A:TA}{y:cq}{lo:Nat}{C:ae}(h:fw K ⟨z,λ_=>E,q⟩ A y):cU K ⟨z,λ_=>E,q⟩ lo (zR K C E A) (u4 q C y):=λus Y G F H j i cs D Q W p L=>
 CV h F (Bq G H) H j _ _ _ W.eD p λts vs U H1 c p2 o=>by
  unfold vm at p2;split at p2
  .obtain⟨n1,n2,p2⟩:=p2;let⟨v1,r1,c1,d1,rfl,rfl,⟨_,a,v,rfl,sa,N⟩,v2,r2,c2,d2,rfl,rfl,⟨_,b,w,rfl,sb,O⟩,rfl,rfl⟩:=o.r;refine⟨a,b,v,w,rfl,.inl ((Le.of o.g.s).ag sa),.inl ((Le.of o.g.s).ag sb),λl m d n=>?_⟩;∎;let⟨G1,u,I⟩:=nQ (o:=.ag v) o.g.s (by intro _ _ z;cases z) n.1;let⟨G2,e,J⟩:=nQ (o:=.ag w) u.s (by intro _ _ z;cases z) n.2.1;let⟨B,f,M⟩:=nQ (o:=XD d [("weights",.ref m),("numbers",.ref l)]) e.s (by intro _ _ z;cases z) n.2.2;∎;have le:=u.le.trans (e.le.trans f.le);exact W.x ⟨.ref C,_⟩ j B _ p2 (some d) (.inr ⟨d,_,rfl,.inl M,by show (cN _&&(cN _&&true))=true;rw[n1,n2];rfl,.ref m,_,[],[],rfl,rfl,⟨rfl,m,w,rfl,f.le.ag (.inl (.inl J)),Rs.mo le (λ_=>le) _ (Rs.base _ n2 O)⟩,.ref l,_,[],[],rfl,rfl,⟨rfl,l,v,rfl,(e.le.trans f.le).ag (.inl (.inl I)),Rs.mo le (λ_=>le) _ (Rs.base _ n1 N)⟩,rfl,rfl⟩) (W.g.trans' (o.g.trans' (u.trans' (e.trans' f))))
  .exact p2.elim
theorem NT{z:Bool}{q:Xv->Prop}{E:XK}{x:Str}{H d pos:Pos}{b a:Expr}{o:cq}{lo:Nat}{C F m:ae}{n:FuncData}{ps:ah}{k:Nat}(hs:X.stack=X.env::X.outer)(y:X.env.frame=some X.env.locals)(g:X.ex=[])(l:nv X E)(e:X.calm=true)(B:Gl X x)(hm:X.mg x=some (.ref C))(c:nP X.K C F m)(G:aK X.prog X.w X.K X.mg X.base bJ k m n ps (vG X.K C))(D:bp (k+1) X.A)(v:Binds X.K n ps [])(u:QA X ⟨z,λ_=>E,q⟩ [b,a] o)(f: ~~~(da x))(j:do ee b [a] X.env)(i:do eZ d [a] X.env):
  QS X ⟨z,λ_=>E,q⟩ lo (.Raise (some (.Call (.Name x H) [b,a] [] d)) none pos) (u4 q C o):=by
 let⟨I,r,s⟩:=u.h;exact⟨_,L9 hs y g l e B hm c G D v r f j i,K2 s⟩
end
section
def ym(i j:Nat):a8:=λG Q=>∃(m:bE)(ns:az)(y:Int),G[i]?=some (.aR .f m)/\m.map (·.1)=ns.map (λn=>(Sum.inl n:aS))/\G[j]?=some (.int y)/\ns.length<=1000/\Q (.ag .o ((ns.filter λx=>!decide (x=y)).map Tr.int))
theorem CG:∀(ns:az),Rs K F B (ns.map Tr.int) (ns.map V.int) []
 |[]=>⟨rfl,rfl⟩
 |n::ns=>⟨.int n,_,[],[],rfl,rfl,⟨rfl,rfl⟩,CG ns⟩
theorem Sw(hz:k.z=true){i j:Nat}:bu K k (pk X (lU (qH sf X (fS i)) (iY 0) (rS (m5 qS (fS 0) (fS 1))) (fS 0) [none,some j])) (ym i j):=λF B H G J Q Q' c p q=>by
 let⟨m,ns,y,hi,hm,hj,hn,pQ⟩:=p;rcases c.e i _ hi with z |⟨v,h1,_,a,vs,rfl,h2,h3,h4⟩
 .cases z
 rcases c.e j _ hj with z |⟨v,g1,rfl,_⟩
 .cases z
 have hF:=qm (c.z hz) h2;have N:=c.s _ _ hF;have ek:∀{m:bE}{vs:cy},Rk K F B m vs []->vs.map (·.1)=m.map (·.1):=λ{m}=>by
  induction m with
  |nil=>intro vs h;rw[h.1];rfl
  |cons x m ih=>
   intro vs h;∎;let⟨v,r,c,d,g,A,e3,e4⟩:=h;let⟨rfl,rfl⟩:=append_eq_nil_iff.mp A.symm;∎;rw[g,map_cons,map_cons,ih e4]
 have O:vs.map (·.1)=ns.map (λn=>(Sum.inl n:aS)):=(ek h3).trans hm;have hl:vs.length=ns.length:=by have:=congrArg List.length O;simpa using this
 refine⟨.ref a,h1,a,vs,rfl,N,λM L=>?_⟩;refine Dk (Q:=λv=>kn X (Q v)) (λn f E=>E=aN H a (.aA M (.dK vs))/\f=((ns.take n).filter λx=>!decide (x=y)).map V.int) ⟨rfl,rfl⟩ (λ_ _ _ _ h=>by rw[h.1,cO]) ?_ ?_
 .rintro n kk v f E e ⟨rfl,rfl⟩;have g:(ns.map (λn=>(Sum.inl n:aS)))[n]?=some kk:=by rw[<- O,getElem?_map,e];rfl
  rw[getElem?_map] at g;cases A:ns[n]? with
  |none=>rw[A] at g;cases g
  |some x=>
   rw[A] at g;cases g;have Y:ns.take (n+1)=ns.take n++[x]:=by rw[take_add_one,A];rfl
   have U:(((ns.take n).filter λx=>!decide (x=y)).map V.int).length<=1000:=by
    rw[length_map];exact le_trans (length_filter_le _ _) (by rw[length_take];omega)
   refine⟨qu rfl λi v e=>?_,.int x,rfl,.int y,?_,rfl,_,rfl,?_⟩
   .match i,e with
    |1,e=>exact e
   .show ([none,some j].map λo=>match o with |none=>none |some i=>(G[i]?).getD none)[1]?=_;show some ((G[j]?).getD none)=_;rw[g1];rfl
   .have di:decide (V.int x=V.int y)=decide (x=y):=by by_cases z:x=y<;>simp[z]
    rw[di];by_cases z:x=y
    .subst z;rw[decide_eq_true rfl];refine⟨rfl,?_⟩;rw[Y,List.filter_append];simp
    .rw[decide_eq_false z];refine⟨.int x,rfl,by rw[sizeLine_eq];omega,rfl,?_⟩;rw[Y,List.filter_append,map_append];simp[z]
 .rintro f E ⟨rfl,rfl⟩;have C:ns.take vs.length=ns:=by rw[hl,take_length]
  rw[C];refine⟨?_,λp D=>?_⟩
  .rw[length_map,sizeLine_eq];have:=length_filter_le (λx=>!decide (x=y)) ns;omega
  have u:p≠a:=λw=>by rw[w,cO] at D;cases D
  rw[aW u] at D;refine⟨a,M,vs,by rw[aW (Ne.symm u),cO],L,?_⟩;have eq:aN (aN (aN H a (.aA M (.dK vs))) p (.ag ((ns.filter λx=>!decide (x=y)).map V.int))) a (.dK vs)=aN H p (.ag ((ns.filter λx=>!decide (x=y)).map V.int)):=by
   funext b;by_cases I:b=a
   .rw[I,cO,aW (Ne.symm u),N]
   .rw[aW I];by_cases l:b=p
    .rw[l,cO,cO]
    .rw[aW l,aW I,aW l]
  rw[eq];let⟨n1,n2,n3⟩:=mw (K:=K) (B:=B) c.s (CG (ns.filter λx=>!decide (x=y))) .nil D;refine q _ _ F _ _ pQ ⟨n1,n2,n3,λy m=>?_⟩;cases m with
  |head=>exact D
  |tail _ m=>cases m
theorem NU{e:Expr}{i j:Nat}(a:k.z=true)(h:PE X e (pk X (lU (qH sf X (fS i)) (iY 0) (rS (m5 qS (fS 0) (fS 1))) (fS 0) [none,some j]))):QE X k e (ym i j):=⟨_,h,Sw a⟩
end
section
variable{K:aj}{qual:Str}{st:Stmt}{ps:ah}{f c E:ae}
set_option genInjectivity false in
set_option genSizeOf false in
structure uF(K:aj)(c E:ae)(qual:Str)(st:Stmt)(ps:ah) where
 a:Addr
 d:FuncData
 F:gv K "__init__" qual st a d
 b:Binds K d ps []
 t:nP K c E a
noncomputable def HG(F:f6 K "__init__" qual st f)(x1:nF K c f=true)(x2:kW K c E=true)(x3:W.findIn K (.ref c) "__setattr__"=some (some (.builtin "object.__setattr__")))(x4:W.keepIn K (.ref c)=true)(b:W.isFn K (.ref f)=true)(d:W.readsIn K E (.type "type")=true)(e:W.specialIn K (.ref E) "__getattribute__"=some (some (.builtin "type.__getattribute__")))(g:W.findCls K (.ref E) (.type "type") "__init__"=some (.val (.builtin "ValueError.__init__")))(a:je "__init__" qual st ps):uF K c E qual st ps:=
 ⟨f,F.choose,F.choose_spec,F.choose_spec.binds a,⟨x1,x2,x3,x4,b,d,e,g⟩⟩
end
theorem IF(q:Xv->Prop)(C:ae)(d:cq)(e:Pd)(j:ai):u4 q C d e j=(kU d (j.map aG) λts=>vm ts λa b=>cN a=true/\cN b=true/\q ⟨.ref C,[("weights",.ag .f b),("numbers",.ag .f a)]⟩):=rfl
theorem Oq(i j:Nat)(G:ai)(Q:ay):ym i j G Q=(∃(m:bE)(ns:az)(y:Int),G[i]?=some (.aR .f m)/\m.map (·.1)=ns.map (λn=>(Sum.inl n:aS))/\G[j]?=some (.int y)/\ns.length<=1000/\Q (.ag .o ((ns.filter λx=>!decide (x=y)).map Tr.int))):=rfl
section
def rZ(x:Tr)(Q:Bool->Prop):Prop:=match x with |.aR .f m=>Q (!m.isEmpty) |_=>False
def vn(pe:a8):c7:=λj Q=>pe j λx=>rZ x Q
theorem NV(A:k.z=true)(h:bu K k te pe):eQ K k (λj H Q=>te j H λx d=>∃b,vM K x d b/\Q b d) (vn pe):=λF B H j i Q C c p q=>by
 refine h F B H j i _ _ c p λt v f l D p1 o=>?_
 unfold rZ at p1;split at p1
 .rename_i m;let⟨_,a,vs,rfl,u,w,E⟩:=o.r;have y:=qm ((c.gr o.g).z A) u;refine⟨!vs.isEmpty,.inr (.inr ⟨vs,o.g.s _ _ y,rfl⟩),q _ f l ?_ o.g⟩;have e:=w.length;have n:vs.isEmpty=m.isEmpty:=by
   cases vs with
   |nil=>cases m with
    |nil=>rfl
    |cons _ _=>cases e
   |cons _ _=>cases m with
    |nil=>cases e
    |cons _ _=>rfl
  rw[n];exact p1
 .exact p1.elim
theorem Sx(f:k.z=true)(h:QE X k e pe)(d:∀whole,isTrue e X.env whole=(do let v <- whole;standAt e.pos;holding [v] (truthy v)):=by intro _;rfl):QT X k e (vn pe):=by
 let⟨g,a,b⟩:=h.h;exact⟨_,Nh a d,NV f b⟩
theorem Ky(pe:a8)(j:ai)(Q:Bool->Prop):vn pe j Q=(pe j λx=>rZ x Q):=rfl
theorem Ma(m:bE)(Q:Bool->Prop):rZ (.aR .f m) Q=Q (!m.isEmpty):=rfl
theorem DL(f:Fl)(m:bE)(Q:ay):rW [.aR f m] Q=Q (.ag .o (m.map λp=>iZ p.1)):=by cases f<;>rfl
end
section
variable{K:aj}{qual:Str}{st:Stmt}{ps:ah}{f c E:ae}
theorem NW{a:ClassData}(h:W.clsIn K c=some a)(hm:a.mro=.ref c::.ref E::fZ)(hd:a.hasDict=true):kW K c E=true:=by
 unfold kW;rw[h];show (a.mro == _&&a.hasDict)=true;rw[hm,hd,beq_self_eq_true];rfl
theorem NX(h:W.excIn K E fZ "ValueError.__new__"=true):W.tailIn K fZ (.ref E::fZ)=true:=by
 unfold W.excIn at h;split at h
 case h_2=>cases h
 case h_1 ddc cdc slc hlook=>
  split at h
  case h_2=>cases h
  case h_1 Cc bmc k0 k1 k2 k3 nn k5 hmro hslots=>
   simp only[and_eq_true,beq_iff_eq,Bool.not_eq_true'] at h;let⟨⟨⟨⟨⟨d,e⟩,g⟩,i⟩,a⟩,b⟩:=h;unfold W.tailIn;refine Bool.or_eq_true_iff.mpr (.inr ?_);dsimp only;rw[hlook];dsimp only;rw[a,b,beq_self_eq_true,Bool.true_and,Bool.true_and];unfold W.tailIn fZ;exact Bool.or_eq_true_iff.mpr (.inl (beq_self_eq_true _))
theorem Mb{o j:Obj}{dd:bT}{g:ClassData}{l:Array (dZ)}{k0 k1 k2 k3 k5:dZ}{i:Array DictEntry}{n:Nat}(m:K.lookup c=some o)(v:o=⟨.type "type",dd,.cls g,l⟩)(hm:g.mro=.ref c::.ref E::fZ)(hs:l.toList=[k0,k1,k2,k3,some (.builtin "ValueError.__new__"),k5])(h:g.hasDel=false)(q:W.excIn K E fZ "ValueError.__new__"=true)(r:K.lookup g.ns=some j)(hd:j.data=.dict i n)(u:(i.toList.all λe=>match e.key with |.str _ _=>true |_=>false)=true)(s:W.nsIn K g.ns "__init__"=some (some (.ref f))):nF K c f=true:=by
 have aM:W.nsOkIn K g.ns=true:=by
  unfold W.nsOkIn;rw[r];let⟨a,b,d,e⟩:=j;dsimp only at hd;subst hd;show (i.all _)=true;rw[<- Array.all_toList];exact u
 unfold nF;simp only[m,v,hm,hs];rw[NX q,aM,s,h,beq_self_eq_true,beq_self_eq_true,beq_self_eq_true];rfl
noncomputable def wa{d:ClassData}{o h:Obj}{dd:bT}{a:ClassData}{i:Array (dZ)}{k0 k1 k2 k3 k5:dZ}{g:Array DictEntry}{n:Nat}(e:W.findIn K (.ref c) "__init__"=some (some (.ref f)))(F:f6 K "__init__" qual st f)(q:K.lookup c=some o)(x:o=⟨.type "type",dd,.cls a,i⟩)(hm:a.mro=.ref c::.ref E::fZ)(hs:i.toList=[k0,k1,k2,k3,some (.builtin "ValueError.__new__"),k5])(b:a.hasDel=false)(r:W.excIn K E fZ "ValueError.__new__"=true)(s:K.lookup a.ns=some h)(hd:h.data=.dict g n)(w:(g.toList.all λe=>match e.key with |.str _ _=>true |_=>false)=true)(v:W.nsIn K a.ns "__init__"=some (some (.ref f)))(j:W.clsIn K c=some d)(l:d.mro=.ref c::.ref E::fZ)(m:d.hasDict=true)(x3:W.findIn K (.ref c) "__setattr__"=some (some (.builtin "object.__setattr__")))(x4:W.keepIn K (.ref c)=true)(y:W.isFn K (.ref f)=true)(A:W.readsIn K E (.type "type")=true)(B:W.specialIn K (.ref E) "__getattribute__"=some (some (.builtin "type.__getattribute__")))(C:W.findCls K (.ref E) (.type "type") "__init__"=some (.val (.builtin "ValueError.__init__")))(u:je "__init__" qual st ps):uF K c E qual st ps:=
 HG F (Mb q x hm hs b r s hd w v) (NW j l m) x3 x4 y A B C u
end
end Pu
namespace L2
open PySem PySem.Spec PyProof.Rows
section
def Am(K:aj):V->ax->Hp->VK->Prop:=λx vs H Q=>∃(l:ae)(ns:az)(c:Int),x=.ref l/\vs=[.int c]/\bG K H l (ns.map V.int)/\c∈ns/\ns.length<=1000/\Q (.int (ns.idxOf c:Nat)) H
theorem Qb:yR X "list.index" (Am X.K):=by
 intro aa s i H x vs v us Q I E D h;let⟨l,ns,c,rfl,rfl,w,e,G,q⟩:=h;cases E;∎;let⟨u,rfl,C⟩:=D.one;let⟨t,rfl⟩:=C;let⟨b,r,⟨⟨oc,od,B,osl⟩,n,m,o,hd,f⟩,J⟩:=I.list w;∎;cases o;cases hd;cases f;have d:=Ko r;have a:=d.length;have g:ns.idxOf c<ns.length:=List.idxOf_lt_length_iff.mpr e;refine call_meets F.slot_list_index ⟨_,m,rfl⟩ F.entry_list_index (F.args_list_index_2 _ _) (SeqAt.list_indexAt l _ n none osl (.int c t) (isInt c) (ns.idxOf c) (by simpa [a] using g) ⋯ ?_ ?_) ⟨m,λy A=>(eq_isInt c t d y (by simpa using A)).at _ _,.int _,H,I.tok _,⟨_,rfl⟩,q⟩
 .show isInt c b[ns.idxOf c]=true;rw[isInt_at c d _ ⋯ g];simpa using List.getElem_idxOf g
 .intro j hjs hlt;show isInt c b[j]=false;rw[isInt_at c d j (by simpa using hjs) ⋯];exact ne_of_lt_idxOf hlt _
end
end L2
namespace Pu
open PySem L2 Vc Sf
section
def vo(po pe:a8):a8:=λj Q=>po j λx=>∃(f:Fl)(ns:az),x=.ag f (ns.map Tr.int)/\pe j λt=>∃c:Int,t=.int c/\c∈ns/\ns.length<=1000/\Q (.int (ns.idxOf c:Nat))
theorem DM:∀{ns:az}{vs:ax}{c:Cs},Rs K F B (ns.map Tr.int) vs c->vs=ns.map V.int/\c=[]
 |[],_,_,h=>h
 |n::ns,_,_,y=>by
  ∎;let⟨v,r,c,d,g,i,j,l⟩:=y;let⟨a,b⟩:=DM l;let⟨e,f⟩:=(show v=V.int n/\c=[] from j);∎;exact⟨by rw[g,a,e];rfl,by rw[i,f,b];rfl⟩
theorem NY(D:bu K k to po)(C:bu K k te pe):bu K k (yH K "list" (Am K) to (ke te kl)) (vo po pe):=λF B H j i Q G c p q=>by
 refine D F B H j i _ _ c p λx v m o I p1 d=>?_
 ∎;let⟨f,ns,rfl,p1⟩:=p1;let⟨a,vs,L,rfl,l,A,M,N⟩:=d.r.cM d.g.s (λk=>(c.b k).trans d.g.h) d.c;let⟨rfl,_⟩:=DM A;∎;refine⟨.inl ⟨rfl,_,l⟩,C m B o j i _ _ (c.gr d.g) p1 λy u n w J p2 e=>?_⟩;∎;let⟨b,rfl,p2,p3,E⟩:=p2;let⟨rfl,_⟩:=e.r;∎;exact⟨a,ns,b,rfl,rfl,(l.imp (λh=>e.g.h.rd h) id),p2,p3,q _ _ n w [] E ⟨d.g.trans' e.g,⟨rfl,rfl⟩,.nil,.nil⟩⟩
theorem Sy(j:QE X k o po)(h:QE X k e pe)(f:do attributeBase o "index" X.env (eval o X.env)=eval o X.env)(g:do (((backTo bw (starEach [e] X.env)).all (!·.1)&&(backToKw bw (keywordEach [] X.env)).all (·.1.isSome))&&decide (([e].length+([]:List Keyword).length+if ([]:List Keyword).isEmpty=true then 0 else 1)<30))=true)(i:do (apos.endLine == bw.line)=true)(a:do ee e [] X.env):
  QE X k (.Call (.Attribute o "index" apos) [e] [] bw) (vo po pe):=by
 ∎;let⟨q,l,m⟩:=j.h;let⟨n,b,d⟩:=h.h;∎;exact⟨_,EU PySem.F.plainAttrs_list PySem.F.slot_list_index PySem.F.type_list_index Qb l (k6 b mh a) f g i a rfl,NY m d⟩
theorem Kz:vo po pe j Q=(po j λx=>∃(f:Fl)(ns:az),x=.ag f (ns.map Tr.int)/\pe j λt=>∃c:Int,t=.int c/\c∈ns/\ns.length<=1000/\Q (.int (ns.idxOf c:Nat))):=rfl
end
end Pu
namespace Pu
theorem Ot(f:j->i)(a:j)(l:List j):List.map f (a::l)=f a::List.map f l:=rfl
theorem Ou(f:j->i):List.map f []=[]:=rfl
open PySem L2 in
theorem SA(CX:fm)(P:Program)(w:World)(K:aj)(mg:bc)(base:aO)(N:ah)(b:Str)(a:Scope)(f:ae)(d:ao)(A:Around)(outer:b5)(s:ak)(H:Hp)(E:XK):(i1 CX P w K mg base N b a f d A outer s H E).K=K:=rfl
end Pu
namespace Pu
open PySem L2 Vc Sf
section
variable{st:Stmt}{x:Str}{p pos:Pos}{e:Expr}{es:bL}{pn:ah}{ps:cq}{j m n:Nat}{z:Bool}{C:ae}{qual:Str}
theorem qc{aY:bK}(r:dz X.K X.mg x st pn)(G:aK X.prog X.w X.K X.mg X.base bJ j r.a r.d pn (bP X.K z 0 n aY))(o:QA X k (e::es) ps)(y:bp m X.A:=by assumption)(u:j<=m:=by first |decide |omega)(v:z=true->k.z=true:=by first |exact id |exact λ_=>rfl)(hn:∀xs Q,aY xs Q->xs.length=n:=by exact λ_ _ h=>h.1)(s:do Gl X x)(f: ~~~(da x))(q:do ee e es X.env)(g:do eZ pos es X.env):
  QE X k (.Call (.Name x p) (e::es) [] pos) (vg aY (kU ps)):=by
 let⟨B,i,l⟩:=o.aA.h;exact⟨_,PH (E:=E0) (G.mono u) y s r.m r.F.kp r.b .nil qz i f q g,M5 v hn l⟩
theorem uu{aY:fF}(r:dz X.K X.mg x st pn)(G:aK X.prog X.w X.K X.mg X.base (eK X.prog X.w) j r.a r.d pn (iq X.K z 0 n aY))(D:QA X k (e::es) ps)(Y:∀i,iB (eK X.prog X.w) X i (k.E i):=by first |assumption |exact DB (TC rfl rfl rfl rfl) |exact DB SI)(U:bp m X.A:=by assumption)(M:j<=m:=by first |decide |omega)(N:z=true->k.z=true:=by first |exact id |exact λ_=>rfl)(hn:∀xs Q q,aY xs Q q->xs.length=n:=by exact λ_ _ _ h=>h.1)(L:do Gl X x)(l: ~~~(da x))(I:do ee e es X.env)(o:do eZ pos es X.env):
  QE X k (.Call (.Name x p) (e::es) [] pos) (rV k.q aY (kU ps)):=by
 let⟨ta,v,y⟩:=D.aA.h;exact⟨_,MS (G.mono M) U L r.m r.F.kp r.b .nil Y v l I o,Cp (λF B H i J c f s u O g=>c.x f s u O g) N hn y⟩
theorem E3{aY:bK}(r:qY X.K C qual st pn)(G:aK X.prog X.w X.K X.mg X.base bJ j r.a r.d pn (bP X.K z 1 n aY))(hm:X.mg x=some (.ref C))(o:QA X k (e::es) ps)(y:bp (m+1) X.A:=by assumption)(u:j<=m:=by first |decide |omega)(v:z=true->k.z=true:=by first |exact id |exact λ_=>rfl)(hn:∀xs Q,aY xs Q->xs.length=n:=by exact λ_ _ h=>h.1)(s:do Gl X x)(f: ~~~(da x))(q:do ee e es X.env)(g:do eZ pos es X.env):
  QE X k (.Call (.Name x p) (e::es) [] pos) (vk C aY ps):=by
 let⟨B,i,l⟩:=o.h;exact⟨_,MW (R:=λ_=>E0) r.t (G.mono u) y s hm r.b .nil (uc qz) i f q g,NL v hn l⟩
end
end Pu
namespace L2
open PySem PySem.Spec PyProof.Rows PySem.W Builtin Builtin.ObjectAttr Builtin.Getset_descriptor
section
variable{prog:Program}{w:World}{A:Around}{E:ao->ak->Prop}{K:Frag}{h:aO}{g:Array GenState}{d:Drawn}{t:Nat}{os:OsState}{x C a:ae}{f:Str}{v:ao}{m:bc}{cd:ClassData}
theorem NZ{B:Tok}{Q:Fin->ak->Prop}(I:eX x C h)(X:K.In h)(s:Cn (some a) x h)(hm:h.Ns1 a m)(u:findIn K (.ref C) f=some none)(y:m f=some v)(k1:clsIn K C=some cd)(k2:cd.hasDict=true)(D:Q (.done (.ret v)) ⟨h,g,d,t,os⟩):
  wpAny (model prog w) A (Builtin.«object.__getattribute__» ⟨[.ref x,.str f B],[]⟩) Q E ⟨h,g,d,t,os⟩:=by
 have i:=I.ty (M:=model prog w);have j:=looks_findIn (M:=model prog w) X u;have l:=looks_clsIn (M:=model prog w) X k1;∎;let⟨o,vs,b,n,_,q⟩:=s;let⟨G,e,r⟩:=I;∎;rw[b] at e;cases e
 repeat (any_goals (first |assumption |with_reducible refine Looks.at i ?_ |with_reducible refine Looks.at j ?_ |wp_step))
 rw[n];dsimp only;unfold instanceDict
 repeat (any_goals (first |assumption |with_reducible refine wpAny_loadPart_at b ?_ |wp_step))
 rw[r,q];dsimp only;refine wpAny_bind (l.here ?_);rw[k2];refine wpAny_pure (wpAny_nsGet (m:=m) hm.ns ?_);rw[y]
 repeat (any_goals (first |assumption |wp_step))
theorem Uv{u:Tok}{Q:ao->ak->Prop}{b j:Bool}(Z:gK K C)(X:K.In h)(I:eX x C h)(o:Cn (some a) x h)(hm:h.Ns1 a m)(q:findIn K (.ref C) f=some none)(r:m f=some v)(k1:clsIn K C=some cd)(k2:cd.hasDict=true)(B:handedOut v=pure v)(D:Q v ⟨h,g,d,t,os⟩):
  wpAny (model prog w) A (getAttrBy (.ref x) (.str f u) b j) Q E ⟨h,g,d,t,os⟩:=by
 have y:=F.excAttr_ValueError.ga.bind (.ref x);have l:=I.ty (M:=model prog w);have n:=looks_findIn (M:=model prog w) X Z.fg;have L2:=looks_findIn (M:=model prog w) X Z.fn;have i:(Value.builtin "BaseException.__getattribute__" == Value.builtin "object.__getattribute__")=false:=by decide +kernel
 have s:(onTheHeap (Value.ref C)&&Value.builtin "BaseException.__getattribute__" == Value.builtin "object.__getattribute__")=false:=by rw[i];rfl
 repeat (any_goals (first |assumption |with_reducible refine Looks.at l ?_ |with_reducible refine Looks.at n ?_ |with_reducible refine Looks.at L2 ?_ |wp_step))
 have e:¬ ((j && onTheHeap (Value.builtin "BaseException.__getattribute__"))=true):=by rw[show onTheHeap (Value.builtin "BaseException.__getattribute__")=false from rfl,Bool.and_false];decide
 rw[if_neg e]
 repeat (any_goals (first |assumption |wp_step))
 refine codeAny_call_builtin F.excAttr_ValueError.ga.plain F.entry_bexc_ga (LI Z X I (NZ I X o hm q r k1 k2 ?_))
 repeat (any_goals (first |assumption |wp_step))
theorem TJ{Q:ao->ak->Prop}{b:Bool}(Z:gK K C)(X:K.In h)(I:eX x C h)(e:Cn (some a) x h)(hm:h.Ns1 a m)(i:findIn K (.ref C) f=some none)(l:m f=some v)(k1:clsIn K C=some cd)(k2:cd.hasDict=true)(j:handedOut v=pure v)(n:Q v ⟨h,g,d,t+1,os⟩):
  wpAny (model prog w) A (getAttr (.ref x) f b) Q E ⟨h,g,d,t,os⟩:=by
 unfold getAttr
 repeat (any_goals (first |assumption |with_reducible apply Uv Z X I e hm i l k1 k2 j |wp_step))
end
section
variable{X:Cx}
structure sy(K:Frag)(B:ae)(f:Str):Prop where
 z:gK K B
 n:findIn K (.ref B) f=some none
 d:∃cd,clsIn K B=some cd/\cd.hasDict=true
def Fn(K:Frag)(b:TE)(f:Str):TE:=λj H Q=>b j H λv a=>∃y B d fs w,v=.ref y/\Rd a y (jR y B (some d))/\Rd a d (XD d fs)/\fs.lookup f=some w/\sy K B f/\Q w a
theorem Uw{e:Expr}{C:TE}{f:Str}{pos:Pos}(L:PE X e C)(J:attributeBase e f X.env (eval e X.env)=eval e X.env):PE X (.Attribute e f pos) (Fn X.K C f):=by
 intro aa s j H Q I h;refine C5 J (bq (L aa s j H _ I h) λu l r=>?_);let⟨v,D,a,Y,y,B,d,fs,w,rfl,b,i,G,c,q⟩:=r;obtain rfl:u=Value.ref y:=Y;have x:eX y B l.heap/\Cn (some d) y l.heap:=by
  rcases b with b |⟨o,b⟩
  .exact (a.aM y _ b).1
  .exact (a.aM y _ b).2.1
 obtain⟨m,hm,M⟩:∃m,l.heap.Ns1 d m/\∀f,bX (fs.lookup f) (m f):=by
  rcases i with i |⟨o,i⟩
  .exact (a.aM d _ i).1
  .exact (a.aM d _ i).2.1
 ∎;let⟨u,N,A⟩:=bX.some_of (v:=w) (o:=m f) (by rw[<- G];exact M f);let⟨cd,O,U⟩:=c.d;∎;have E:=a.tok (l.toks+1);let⟨hp,g,dr,tk,os⟩:=l;exact TJ c.z a.cG x.1 x.2 hm c.n N O U (handedOut_of (BY A)) ⟨w,D,E,A,q⟩
end
end L2
namespace Pu
open PySem L2 Vc Sf
section
variable{X:Cx}{k:Md}{K:aj}
theorem Rf.lF{F:Hp}{B:Bool->Hp}{f:Str}{t:Tr}:∀{fs:bg}{vs:List (Str×V)}{cs:Cs},Rf K F B fs vs cs->cs=[]->dP fs=true->fs.lookup f=some t->∃v,vs.lookup f=some v/\cD t=true/\R K F B t v []
 |[],_,_,_,_,_,h=>nomatch h
 |(g,x)::xs,_,_,y,e,n,h=>by
  let⟨v,r,c,d,rfl,a,b,i⟩:=y;rw[e] at a;let⟨rfl,rfl⟩:=append_eq_nil_iff.mp a.symm;rw[dP,and_eq_true] at n;rw[lookup_cons] at h ⊢;cases z:f == g with
  |true=>rw[z] at h;cases h;exact⟨v,rfl,n.1,b⟩
  |false=>rw[z] at h;exact Rf.lF i rfl n.2 h
def uC(K:aj)(f:Str)(t:Tr)(Q:ay):Prop:=match t with |.exc b P=>∃fs,P=Xp K fs/\sy K b f/\pV (fs.lookup f) Q |_=>False
def yp(K:aj)(f:Str)(po:a8):a8:=λj Q=>po j λt=>uC K f t Q
theorem TK{u:TE}{pe:a8}{f:Str}(h:bu K k u pe):bu K k (Fn K u f) (yp K f pe):=λF B H j i Q A c p q=>h F B H j i _ _ c p λt v l y L p1 m=>by
 unfold uC at p1;split at p1
 .obtain⟨fs,rfl,cf,p1⟩:=p1;let⟨_,a,o,rfl,C,D⟩:=m.r;have le:=Le.of m.g.s;cases z:fs.lookup f with
  |none=>rw[z] at p1;exact p1.elim
  |some b=>
   rw[z] at p1;have E:b≠.aq:=λw=>by rw[w] at p1;exact p1
   have p1:A b:=by cases b<;>first |exact p1 |exact absurd rfl E
   rcases D l (Le.refl l) with x |⟨d,vs,rfl,G,I,J⟩
   .rw[x] at z;cases z
   .obtain⟨v',e,n,r⟩:=J.lF rfl I z;exact⟨a,_,d,vs,v',rfl,le.exc C,le _ _ (by intro _ _ z;cases z) G,e,cf,q b v' l y [] p1 ⟨m.g,R.base b n r,.nil,.nil⟩⟩
 .exact p1.elim
theorem Fu{e:Expr}{pe:a8}{f:Str}{pos:Pos}(K:aj)(h:QE X k e pe)(d:do X.K=K)(g:do attributeBase e f X.env (eval e X.env)=eval e X.env):QE X k (.Attribute e f pos) (yp K f pe):=by
 subst d;let⟨i,a,b⟩:=h.h;exact⟨_,Uw a g,TK b⟩
theorem FF{c E b:ae}{f:Str}(z:gK K c)(n:W.findIn K (.ref c) f=some none)(t:nP K c E b):sy K c f:=⟨z,n,by
 have h:=t.ov;unfold kW at h;cases e:W.clsIn K c with
 |none=>rw[e] at h;cases h
 |some a=>rw[e] at h;exact⟨a,rfl,(Bool.and_eq_true_iff.mp h).2⟩⟩
end
theorem Ov(K:aj)(f:Str)(po:a8)(j:ai)(Q:ay):yp K f po j Q=(po j λt=>uC K f t Q):=rfl
theorem TL(K:aj)(f:Str)(b:ae)(P:Hp->bT->Prop)(Q:ay):uC K f (.exc b P) Q=(∃fs,P=Xp K fs/\sy K b f/\pV (fs.lookup f) Q):=rfl
section
def qP(w:Wm)(a:a8):iS:=λj Q=>a j λt=>pF t λm=>Q (m.map (wit w)) true
def oM(K:aj)(g:Bool->Hp)(h e:Hp)(I:Nat->aU)(i:Nat)(d:ax)(f:Hp):Prop:=∃b us a,Gr h e b f/\Rs K b g us d a/\ar b f a/\cS e a/\I i us
theorem DN{K:aj}{k:Md}{js:List Nat}{tg:TG}{pg:eu}{ti:TT}{pt:c7}{te:TE}{pe:a8}{ix:br}(hg:kY K js tg pg)(ht:eQ K k.cp ti pt)(he:bu K k.cp te pe)(hj:∀j∈js,ix[j]?=some none){L C:Hp}{f:Bool->Hp}{G:St}{J:ai}(c2:fo K k.cp L f C G J){I:Nat->aU}{i:Nat}{l:ax}{us:ai}{a:Cs}{M U:Hp}(O:Gr L C M U)(r2:Rs K M f us l a)(y:ar M U a)(n2:cS C a){B D:Hp}{x:V}{t:Tr}(g3:Gr M U B D)(r3:R K B f t x [])(p:pg t (jG ix J) λA=>pt A λb=>if b=true then pe A λx=>us.length<1000000/\I (i+1) (us++[x]) else I (i+1) us):
  tg x (dB ix G) D λo Y=>Wk (dB ix G) o/\ti o Y λb H6=>if b=true then te o H6 λv H7=>l.length<sizeLine/\oM K f L C I (i+1) (l++[v]) H7 else oM K f L C I (i+1) l H6:=by
 have E:=(c2.gr O).gr g3;have α:(dB ix G).length=(jG ix J).length:=by unfold dB jG;rw[length_map,length_map]
 refine hg B f D _ _ x t _ _ E.s E.e.pick α r3 p λo A e2 l2 β n3 p2=>⟨qu β.symm λj v N=>?_,?_⟩
 .by_cases hjs:j∈js
  .have z:=hj j hjs;unfold dB at N;rw[getElem?_map,z] at N;cases N
  .rw[n3 j hjs];exact N
 .have c3':fo K k.cp B f D o A:=⟨E.s,E.b,E.z,e2,λ_ _ _ h=>h.elim⟩
  refine ht B f D o A _ _ c3' p2 λb F5 Y Q g4=>?_
  have d:=g3.trans' g4;cases b with
  |false=>
   rw[if_neg ∎] at Q ⊢;exact⟨F5,us,a,O.trans' d,r2.mo d.le (λk=>Le.refl (f k)) us,y.gr d,n2,Q⟩
  |true=>
   rw[if_pos rfl] at Q ⊢;refine he F5 f Y o A _ _ (c3'.gr g4) Q λu v F6 H6 c5 p5 H=>?_
   have w:=d.trans' H.g;refine⟨lt_of_lt_of_le (by rw[r2.length];exact p5.1) ∎,F6,us++[u],a++c5,O.trans' w,(r2.mo w.le (λk=>Le.refl (f k)) us).snoc H.r,(y.gr w).app H.c λp mp q mq e=>?_,λp m=>?_,p5.2⟩
   .have:=(y.gr d).h p mp;rw[e,H.n q mq] at this;cases this
   .rcases mem_append.mp m with m |m
    .exact n2 p m
    .exact (O.h.trans d.h).free (H.n p m)
theorem Et{d:Hp}{a:ae}{o z:HO}(h:d a=some o):aN d a z=fz d a z:=by
 funext b;by_cases e:b=a
 .rw[e,cO,gg,if_neg (by rw[h];intro z;cases z)]
 .rw[aW e,fE e]
theorem CH{K:aj}{k:Md}{g f:Hp}{B:Bool->Hp}{j:St}{i:ai}{a:ae}{vs:cy}(d:fo K k g B f j i)(m:g a=some (.dK vs))(ob:Obj):
  fo K k.walk.cp (fz g a (.aA ob (.dK vs))) (λb=>fz (B b) a (.aA ob (.dK vs))) (fz f a (.aA ob (.dK vs))) j i/\∀b,B b a=none\/B b a=some (.dK vs):=by
 have n:=d.s _ _ m;have l:∀b,B b a=none\/B b a=some (.dK vs):=λb=>by
  cases q:B b a with
  |none=>exact .inl rfl
  |some u=>have:=d.b b _ _ q;rw[n] at this;exact .inr this.symm
 have sm:∀{G:Hp},aB G f->aB (fz G a (.aA ob (.dK vs))) (fz f a (.aA ob (.dK vs))):=λ{G} s x u h=>by
  by_cases e:x=a
  .subst e;have:=wV h;rw[gg,if_neg (by rw[n];intro z;cases z)];exact this.2
  .rw[fE e] at h ⊢;exact s _ _ h
 exact⟨⟨sm d.s,λb=>sm (d.b b),λh=>(by cases h),d.e.mo (oj (.inr m)) (λb=>oj (l b)),λ_ _ _ h=>h.elim⟩,l⟩
theorem Eu{K:aj}{k:Md}{F H g r:Hp}{B:Bool->Hp}{j:St}{i:ai}{a:ae}{vs:cy}{X:Cx}{Q:VK}{U:ay}{I:Nat->aU}{n:Nat}{ob:Obj}(hz:k.z=true)(C:fo K k g B r j i)(g1:Gr F H g r)(G:g a=some (.dK vs))(M:∀o u,X.H₀ a≠some (.aA o u))(hB:∀b,B b a=none\/B b a=some (.dK vs))(D:∀d,I n d->d.length<=1000000/\U (.ag .o d))(q:∀(t:Tr)(v:V)(F2 O:Hp)(cs:Cs),U t->Out K F B H F2 O t v cs->Q v O)(d:ax)(A:Hp)(h:oM K (λb=>fz (B b) a (.aA ob (.dK vs))) (fz g a (.aA ob (.dK vs))) (fz r a (.aA ob (.dK vs))) I n d A):d.length<=sizeLine/\∀p,A p=none->kn X (Q (.ref p)) (aN A p (.ag d)):=by
 ∎;let⟨F5,us,l,E,r5,L,n5,ii⟩:=h;let⟨hl,hq⟩:=D us ii;∎;refine⟨by rw[r5.length];exact ky hl,λp hp=>?_⟩;let⟨m1,m2,y⟩:=mw E.s r5 L hp;have hH:=C.s _ _ G;have fa:fz g a (.aA ob (.dK vs)) a=some (.aA ob (.dK vs)):=by rw[gg,if_neg (by rw[G];intro z;cases z)]
 have w:=E.trans' m1;have N:=w.f _ _ fa;have J:=w.s _ _ N;have cm:Fz (λb=>b=a\/S0 b) F5:=λb o u e=>by
  let⟨o',u',Y⟩:=w.z b o u e;by_cases eb:b=a
  .exact .inl eb
  .rw[fE eb] at Y;exact .inr (C.z hz b o' u' Y)
 let⟨F6,g6,z6,l6,e6,d6,b6,u6⟩:=T7 (Fb:=g) (Hb:=r) (F:=g) (H:=r) (S:=S0) (Gr0.refl C.s) hH (.inr G) w.toGr0 (N.trans fa.symm) cm;have ne:∀x∈(p,HO.ag d)::l,x.1≠a:=λx m e=>by have:=y.f x m;rw[e,N] at this;cases this
 refine⟨a,ob,vs,J,M,q _ _ F6 _ _ hq ⟨g1.trans' ⟨g6,λb o u e=>(z6 b o u e).elim⟩,m2.mo l6 (λb=>QZ (hB b)) _,⟨λx m=>?_,λx m=>?_,y.nd⟩,λx m=>?_⟩⟩
 .rw[u6 _ (ne x m)];exact y.h x m
 .rw[b6 _ (ne x m)];exact y.f x m
 .have z:fz r a (.aA ob (.dK vs)) x.1=none:=by
   cases m with
   |head=>exact E.h.free hp
   |tail _ m=>exact n5 x m
  rw[fE (ne x m)] at z;exact g1.h.free z
theorem Mc{K:aj}{k:Md}{X:Cx}{M:TE}{L:a8}{js:List Nat}{O:TG}{pg:eu}{U:TT}{pt:c7}{N:TE}{pe:a8}{ix:br}(E:k.z=true)(h:bu K k M L)(hg:kY K js O pg)(ht:eQ K k.walk.cp U pt)(he:bu K k.walk.cp N pe)(hj:∀j∈js,ix[j]?=some none):bu K k (pk X (lU (qH vQ X M) O U N ix)) (kT (qP .vs L) pg pt pe ix):=λF B H G J Q Q' c p q=>by
 refine h F B H G J _ _ c p λt v Y H1 cs p1 x=>?_
 unfold pF at p1;split at p1
 .obtain⟨_,a,vs,rfl,h2,h3,h4⟩:=x.r;have m:=c.gr x.g;have l:=qm (m.z E) h2;have D:=m.s _ _ l;let⟨I,i0,step,o⟩:=p1;refine⟨a,vs,rfl,D,λob w=>?_⟩;let⟨A,C⟩:=CH m l ob;rw[Et D];refine Dk (Q:=λv=>kn X (Q v)) (oM K (λb=>fz (B b) a (.aA ob (.dK vs))) (fz Y a (.aA ob (.dK vs))) (fz H1 a (.aA ob (.dK vs))) I) ⟨_,[],[],Gr.aJ A.s,⟨rfl,rfl⟩,.nil,.nil,i0⟩ ?_ ?_ ?_
  .rintro i d H3 _ ⟨F3,us,cells,g3,_⟩;exact g3.s _ _ (g3.f _ _ (by rw[gg,if_neg (by rw[l];intro z;cases z)]))
  .rintro i y u d H3 e ⟨F3,us,cells,g3,r3,hc3,n3,ii⟩;have rk:=h3.mo (Le.trans (oj (.inr l)) (Le.of g3.f)) (λb=>oj (ob:=ob) (C b)) _;let⟨tu,e1,e2⟩:=rk.cZ e;exact DN hg ht he hj A g3 r3 hc3 n3 (Gr.aJ g3.s) e2 (step i tu us (by rw[getElem?_map,e1];rfl) ii)
  .rintro d H3 hP;exact Eu (n:=vs.length) E m x.g l w C (λd h=>o d (by rw[length_map,<- h3.length];exact h)) q d H3 hP
 .exact p1.elim
theorem Me{K:aj}{k:Md}{X:Cx}{M:TE}{L:a8}{js:List Nat}{O:TG}{pg:eu}{U:TT}{pt:c7}{N:TE}{pe:a8}{ix:br}(E:k.z=true)(h:bu K k M L)(hg:kY K js O pg)(ht:eQ K k.walk.cp U pt)(he:bu K k.walk.cp N pe)(hj:∀j∈js,ix[j]?=some none):bu K k (pk X (lU (z7 X M) O U N ix)) (kT (qP .it L) pg pt pe ix):=λF B H G J Q Q' c p q=>by
 refine h F B H G J _ _ c p λt v F1 H1 cs p1 x=>?_
 unfold pF at p1;split at p1
 .obtain⟨_,a,vs,rfl,h2,h3,h4⟩:=x.r;have m:=c.gr x.g;have l:=qm (m.z E) h2;have D:=m.s _ _ l;let⟨I,i0,step,o⟩:=p1;refine⟨a,vs,rfl,D,λob w=>?_⟩;let⟨A,C⟩:=CH m l ob;rw[Et D];refine O9 (Q:=λv=>kn X (Q v)) (oM K (λb=>fz (B b) a (.aA ob (.dK vs))) (fz F1 a (.aA ob (.dK vs))) (fz H1 a (.aA ob (.dK vs))) I) ⟨_,[],[],Gr.aJ A.s,⟨rfl,rfl⟩,.nil,.nil,i0⟩ ?_ ?_ ?_
  .rintro i d H3 _ ⟨F3,us,cells,g3,_⟩;exact g3.s _ _ (g3.f _ _ (by rw[gg,if_neg (by rw[l];intro z;cases z)]))
  .rintro i y u d H3 pa e ⟨F3,us,cells,g3,r3,hc3,n3,ii⟩ hp;have rk:=h3.mo (Le.trans (oj (.inr l)) (Le.of g3.f)) (λb=>oj (ob:=ob) (C b)) _;∎;let⟨Y,e1,e2⟩:=rk.cZ e;let⟨F4,g4,r4,_⟩:=sT (xs:=[iZ y,Y]) (cs:=[]) g3.s ⟨kV y,[u],[],[],rfl,rfl,E1,u,[],[],[],rfl,rfl,e2,rfl,rfl⟩ .nil hp;∎;exact DN hg ht he hj A g3 r3 hc3 n3 g4 r4 (step i (.aP [iZ y,Y]) us (by rw[getElem?_map,e1];rfl) ii)
  .rintro d H3 hP;exact Eu (n:=vs.length) E m x.g l w C (λd h=>o d (by rw[length_map,<- h3.length];exact h)) q d H3 hP
 .exact p1.elim
variable{X:Cx}{k:Md}
theorem Qc{b d:Pos}{pt:c7}(N:ah)(ix:br)(E:QE X k o po)(B:lL X a N js target pg)(A:∀C s H fp pl,QE (cA X a N C s H fp pl) k.walk.cp elt pe)(ht:∀C s H fp pl,nk (cA X a N C s H fp pl) k.walk.cp ifs pt:=by exact λ_ _ _ _ _=>tp)(G:do k.z=true)(w:do X.calm=true)(l:bA X a N ix:=by repeat first |exact True.intro |refine⟨rfl,rfl,rfl,?_⟩)(D: ~~~(∀j∈js,ix[j]?=some none))(u:do attributeBase o "values" X.env (eval o X.env)=eval o X.env)(v:do (b.endLine == d.line)=true)(g:do a.kind=.function)(f: ~~~(∀y∈a.names,y.2≠.cell))(e: ~~~(∀x∈a.names,x.2=.local->a.names.lookup x.1=some .local))(i:do iC a X.env=true)(hs:∀x,foldedSetIterable (.Call (.Attribute o "values" b) [] [] d) X.env x=pure x:=by intro _;rfl):
  QE X k (.ListComp elt [⟨target,.Call (.Attribute o "values" b) [] [] d,ifs,0⟩] a pos) (kT (qP .vs po) pg pt pe ix):=by
 ∎;let⟨I,m,n⟩:=E.h;let⟨J,q,r⟩:=B.h;∎;exact⟨_,Dj (wX w (O4 m u v) q (λC s H fp pl=>(ht C s H fp pl).h) (λC s H fp pl=>(A C s H fp pl).of) l g f e i hs),Mc G n r tm tK D⟩
theorem Qd{b d:Pos}{pt:c7}{e:bL}{x1:Nat}{f:Pos}(i:Nat)(N:ah)(ix:br)(U:QE X k o po)(M:lL X a N js (.Tuple e x1 f) pg)(J:∀C s H fp pl,QE (cA X a N C s H fp pl) k.walk.cp elt pe)(ht:∀C s H fp pl,nk (cA X a N C s H fp pl) k.walk.cp ifs pt:=by exact λ_ _ _ _ _=>tp)(hz:do k.z=true)(G:X.N.Nodup:=by assumption)(Q: ~~~(lo<=i))(u:do X.N[i]?=some y)(Y:Loc X.env.scope y:=by first |exact Or.inl rfl |exact Or.inr rfl)(I:do X.calm=true)(q:bA X a N ix:=by repeat first |exact True.intro |refine⟨rfl,rfl,rfl,?_⟩)(O: ~~~(∀j∈js,ix[j]?=some none))(D:do attributeBase o "items" X.env (eval o X.env)=eval o X.env)(E:do (b.endLine == d.line)=true)(r:swapsWith (.ListComp elt [⟨.Tuple e x1 f,.Call (.Attribute o "items" b) [] [] d,ifs,0⟩] a pos) (some (.Name y py)) spos.line X.env=pure true:=by with_unfolding_all rfl)(m:do a.kind=.function)(l: ~~~(∀y∈a.names,y.2≠.cell))(g: ~~~(∀x∈a.names,x.2=.local->a.names.lookup x.1=some .local))(n:do iC a X.env=true)(hs:∀x,foldedSetIterable (.Call (.Attribute o "items" b) [] [] d) X.env x=pure x:=by intro _;rfl)(L:jh X y:=by first |exact .inl rfl |exact .inr rfl |assumption):
  QS X k lo (.Assign [.Name y py] (.ListComp elt [⟨.Tuple e x1 f,.Call (.Attribute o "items" b) [] [] d,ifs,0⟩] a pos) spos) (nJ i (kT (qP .it po) pg pt pe ix)):=by
 ∎;let⟨te,v,w⟩:=U.h;let⟨tf,A,B⟩:=M.h;∎;exact⟨_,O5 (Di G u Y I (MK v D E) A (λC s H fp pl=>(ht C s H fp pl).h) (λC s H fp pl=>(J C s H fp pl).of) q r m l g n hs L),wm Q (Me (X:=X) hz w B tm tK O)⟩
end
theorem Ow(w:Wm)(a:a8)(j:ai)(Q:ai->Bool->Prop):qP w a j Q=(a j λt=>pF t λm=>Q (m.map (wit w)) true):=rfl
def vH(pe:a8):a8:=λj Q=>pe j λt=>Q (aA t)
theorem Qe{K:aj}{k:Md}{b:TE}{pe:a8}(h:bu K k b pe):bu K k b (vH pe):=λF B H j i Q w c p q=>by
 refine h F B H j i _ _ c p λt v o l x p1 a=>?_
 ∎;let⟨f,n,r2⟩:=(dY.cons (ts:=[]) (vs:=[]) (d:=[]) a ⟨Gr.aJ a.g.s,⟨rfl,rfl⟩,.nil,.nil⟩).held;let⟨u,us,c,d,e,m,r,_⟩:=r2;∎;cases e;let⟨rfl,rfl⟩:=append_eq_nil_iff.mp m.symm;exact q _ v f l [] p1 ⟨n,r,.nil,.nil⟩
theorem QE.aA{X:Cx}{k:Md}{e:Expr}{pe:a8}(h:QE X k e pe):QE X k e (vH pe):=by
 let⟨d,a,b⟩:=h.h;exact⟨d,a,Qe b⟩
theorem Mf:vH pe j Q=(pe j λt=>Q (aA t)):=rfl
end Pu
namespace Lp
def sm:Nat->(Nat->Int)->Int
 |0,_=>0
 |n + 1,f=>sm n f + f n
theorem aV{f g:Nat->Int}:∀{n:Nat},(∀k,k<n->f k=g k)->sm n f=sm n g
 |0,_=>rfl
 |n + 1,h=>by rw[sm,sm,aV λk a=>h k ⋯,h n ⋯]
theorem qh(a b:Int)(f g:Nat->Int):∀n:Nat,sm n (λk=>a*f k+b*g k)=a*sm n f+b*sm n g
 |0=>by simp[sm]
 |n + 1=>by rw[sm,sm,sm,qh a b f g n];grind
theorem bH(a:Int)(f:Nat->Int):∀n:Nat,sm n (λk=>a*f k)=a*sm n f
 |0=>by simp[sm]
 |n + 1=>by rw[sm,sm,bH a f n];grind
theorem jq{f:Nat->Int}:∀{n:Nat},(∀k,k<n->f k=0)->sm n f=0
 |0,_=>rfl
 |n + 1,h=>by rw[sm,jq λk a=>h k ⋯,h n ⋯];rfl
theorem bC{f:Nat->Int}{a:Nat}:∀{n:Nat},a<n->(∀k,k<n->k≠a->f k=0)->sm n f=f a
 |n + 1,ha,h=>by
  by_cases e:a=n
  .subst e;rw[sm,jq λk b=>h k ⋯ ⋯];omega
  .rw[sm,bC (a:=a) ⋯ λk b=>h k ⋯,h n ⋯ ⋯];omega
theorem eH{f:Nat->Int}{a b:Nat}(d:a<b):∀{n:Nat},b<n->(∀k,k<n->k≠a->k≠b->f k=0)->sm n f=f a+f b
 |n + 1,hb,h=>by
  by_cases e:b=n
  .subst e;rw[sm,bC (a:=a) d λk g i=>h k ⋯ i ⋯]
  .rw[sm,eH d ⋯ λk g=>h k ⋯,h n ⋯ ⋯ ⋯];omega
theorem c9(f:aF)(n:Nat):∀m:Nat,sm m (λi=>sm n (f i))=sm n λk=>sm m λi=>f i k
 |0=>by rw[sm,jq];intro k _;rfl
 |m + 1=>by
  rw[sm,c9 f n m];have:=qh 1 1 (λk=>sm m λi=>f i k) (f m) n;simp only[one_mul] at this;rw[<- this];rfl
def sg(n:Nat):Int:=if n % 2=0 then 1 else -1
theorem Qf(n:Nat):sg (n+1)=- sg n:=by unfold sg;split<;>split<;>omega
def skip(k j:Nat):Nat:=if j<k then j else j+1
def up{i:Type}(v:Nat->i)(s:Nat)(x:i):Nat->i:=λj=>if j=s then x else v j
def dt:Nat->(aF)->Int
 |0,_=>1
 |m + 1,v=>sm (m + 1) λk=>sg (m + k) * v k m * dt m (λj=>v (skip k j))
theorem l5:∀{m:Nat}{v w:aF},(∀j i,j<m->i<m->v j i=w j i)->dt m v=dt m w
 |0,_,_,_=>rfl
 |m + 1,v,w,h=>by
  rw[dt,dt];apply aV;intro k a;rw[h k m a ⋯,l5 (m:=m) (v:=λj=>v (skip k j)) (w:=λj=>w (skip k j)) λj i d b=>h _ _ (by unfold skip;split<;>omega) ⋯]
theorem xb{v:aF}{s k:Nat}(x:Nat->Int)(h:k≠s):(λj=>up v s x (skip k j))=up (λj=>v (skip k j)) (if s<k then s else s - 1) x:=by
 funext j;unfold up skip;dsimp only;by_cases a:s<k
 .rw[if_pos a];by_cases b:j<k
  .rw[if_pos b]
  .rw[if_neg b,if_neg ⋯,if_neg ⋯]
 .rw[if_neg a];by_cases b:j<k
  .rw[if_pos b,if_neg ⋯,if_neg ⋯]
  .rw[if_neg b];by_cases c:j+1=s
   .rw[if_pos c,if_pos ⋯]
   .rw[if_neg c,if_neg ⋯]
theorem Mg{v:aF}{s:Nat}(x:Nat->Int):(λj=>up v s x (skip s j))=λj=>v (skip s j):=by
 funext j;unfold up skip;rw[if_neg (by split<;>omega)]
theorem iV{v:aF}{s:Nat}{x:Nat->Int}:up v s x s=x:=by simp[up]
theorem ig{v:aF}{s k:Nat}{x:Nat->Int}(h:k≠s):up v s x k=v k:=by simp[up,h]
theorem mv(a b:Int)(x y:Nat->Int):∀{m:Nat}(v:aF){s:Nat},s<m->dt m (up v s λi=>a*x i+b*y i)=a*dt m (up v s x)+b*dt m (up v s y)
 |m + 1,v,s,hs=>by
  simp only[dt];rw[<- qh];apply aV;intro k d;by_cases e:k=s
  .subst e;simp only[Mg,iV];grind
  .simp only[ig e];rw[xb _ e,xb _ e,xb _ e,mv a b x y (m:=m) _ (by split<;>omega)];grind
theorem Ew:∀{m:Nat}{v:aF}{a:Nat},a+1<m->(∀i,i<m->v a i=v (a+1) i)->dt m v=0
 |m + 1,v,a,ha,h=>by
  rw[dt,eH (a:=a) (b:=a+1) ⋯ ha]
  .have e:dt m (λj=>v (skip a j))=dt m (λj=>v (skip (a+1) j)):=by
    apply l5;intro j i f d;unfold skip;by_cases c:j=a
    .subst c;rw[if_neg ⋯,if_pos ⋯];exact (h i ⋯).symm
    .by_cases b:j<a
     .rw[if_pos b,if_pos ⋯]
     .rw[if_neg b,if_neg ⋯]
   rw[e,h m ⋯,<- Nat.add_assoc,Qf];grind
  .intro k hk ka kb;rw[Ew (m:=m) (v:=λj=>v (skip k j)) (a:=if k<a then a - 1 else a),mul_zero]
   .split<;>omega
   .intro i d;unfold skip;by_cases c:k<a
    .simp only[c,if_true];rw[if_neg ⋯,if_neg ⋯,show a - 1+1=a by omega];exact h i ⋯
    .simp only[c,if_false];rw[if_pos ⋯,if_pos ⋯];exact h i ⋯
theorem mI{v:aF}{s t:Nat}{x y:Nat->Int}(h:s≠t):up (up v s x) t y=up (up v t y) s x:=by
 funext j;unfold up;by_cases a:j=t<;>by_cases b:j=s<;>simp[a,b]<;>omega
theorem BP{m a b:Nat}(d:a≠b)(e:a<m)(f:b<m)(h:∀v:aF,(∀i,i<m->v a i=v b i)->dt m v=0)(v:aF)(x y:Nat->Int):dt m (up (up v a x) b y)=- dt m (up (up v a y) b x):=by
 have z:=λp=>h (up (up v a p) b p) λi _=>by rw[ig d,iV,iV]
 have l:=mv 1 1 x y (m:=m) (up v a λi=>1*x i+1*y i) f;rw[z,mI d,mI d,mv 1 1 x y (m:=m) _ e,mv 1 1 x y (m:=m) _ e,mI d.symm,mI d.symm,mI d.symm,mI d.symm,z,z] at l;omega
theorem tO{m:Nat}:∀(n:Nat){v:aF}{a b:Nat},b=a+n+1->b<m->(∀i,i<m->v a i=v b i)->dt m v=0
 |0,v,a,b,e,hb,h=>by subst e;exact Ew hb h
 |n + 1,v,a,b,e,hb,h=>by
  have s:=BP (m:=m) (a:=b - 1) (b:=b) ⋯ ⋯ hb (λw g=>tO 0 ⋯ hb g) v (v (b - 1)) (v b);have f:up (up v (b - 1) (v (b - 1))) b (v b)=v:=by
   funext j;unfold up;by_cases c:j=b
   .simp[c]
   .by_cases d:j=b - 1
    .rw[if_neg c,if_pos d,d]
    .rw[if_neg c,if_neg d]
  rw[f,tO n (v:=up (up v (b - 1) (v b)) b (v (b - 1))) (a:=a) (b:=b - 1) ⋯ ⋯] at s
  .omega
  .intro i hi;rw[ig ⋯,ig ⋯,ig ⋯,iV];exact h i hi
theorem qi{m a b:Nat}{v:aF}(e:a≠b)(d:a<m)(f:b<m)(h:∀i,i<m->v a i=v b i):dt m v=0:=by
 by_cases c:a<b
 .exact tO (b - a - 1) ⋯ f h
 .exact tO (a - b - 1) (a:=b) (b:=a) ⋯ d λi g=>(h i g).symm
theorem Qg{m a b:Nat}(d:a≠b)(e:a<m)(f:b<m)(v:aF)(x y:Nat->Int):dt m (up (up v a x) b y)=- dt m (up (up v a y) b x):=
 BP d e f (λ_ h=>qi d e f h) v x y
theorem xl{m s:Nat}(hs:s<m)(v:aF)(c:Nat->Int)(u:aF):∀n:Nat,dt m (up v s λi=>sm n λj=>c j*u j i)=sm n λj=>c j*dt m (up v s (u j))
 |0=>by
  have:=mv 0 0 (λ_=>0) (λ_=>0) (m:=m) v hs;simp only[zero_mul,Int.add_zero] at this;exact this
 |n + 1=>by
  have:=mv 1 (c n) (λi=>sm n λj=>c j*u j i) (u n) (m:=m) v hs;simp only[one_mul] at this;show dt m (up v s λi=>(sm n λj=>c j*u j i)+c n*u n i)=_;rw[this,xl hs v c u n];rfl
theorem wD:∀m:Nat,dt m (λj i=>if i=j then 1 else 0)=1
 |0=>rfl
 |m + 1=>by
  rw[dt,bC (a:=m) ⋯]
  .rw[if_pos rfl,l5 (w:=λj i=>if i=j then 1 else 0),wD m]
   .have:sg (m+m)=1:=by unfold sg;rw[if_pos ⋯]
    rw[this];rfl
   .intro j i hj hi;unfold skip;rw[if_pos hj]
  .intro k hk hn;rw[if_neg ⋯,mul_zero,zero_mul]
end Lp
namespace Lp
variable{m n:Nat}{A:aF}{S:Nat->Nat}
def bs(A:aF)(S:Nat->Nat):aF:=λj i=>A i (S j)
def dd(m:Nat)(A:aF)(S:Nat->Nat):Int:=dt m (bs A S)
def tt(m:Nat)(A:aF)(S:Nat->Nat)(i k:Nat):Int:=dt m (up (bs A S) i λx=>A x k)
def Cr(m:Nat)(A:aF)(S:Nat->Nat):Prop:=∀i k,i<m->dd m A S*A i k=sm m λj=>tt m A S j k*A i (S j)
theorem xV{v:aF}{i:Nat}:up v i (v i)=v:=by funext j;unfold up;split<;>simp_all
theorem N0{v:aF}{i:Nat}{x y:Nat->Int}:up (up v i x) i y=up v i y:=by funext j;unfold up;split<;>simp_all
theorem xW{r c:Nat}:bs A (up S r c)=up (bs A S) r λx=>A x c:=by funext j i;unfold bs up;split<;>rfl
theorem Ex{i:Nat}:tt m A S i (S i)=dd m A S:=by
 unfold tt dd;rw[show (λx=>A x (S i))=bs A S i from rfl,xV]
theorem CI{i j:Nat}(a:i<m)(b:j<m)(h:i≠j):tt m A S i (S j)=0:=
 qi h a b λx _=>by rw[iV,ig (Ne.symm h)];rfl
theorem xm(h:dd m A S≠0){i j:Nat}(a:i<m)(b:j<m)(e:S i=S j):i=j:=by
 apply Classical.byContradiction;intro q;exact h (qi q a b λx _=>by unfold bs;rw[e])
theorem dI{r c:Nat}:dd m A (up S r c)=tt m A S r c:=by unfold dd tt;rw[xW]
theorem bQ{r c k:Nat}:tt m A (up S r c) r k=tt m A S r k:=by unfold tt;rw[xW,N0]
theorem dW(C:Cr m A S){r c i:Nat}(k:Nat)(f:i<m)(l:r<m)(h:i≠r):
  dd m A S*tt m A (up S r c) i k=tt m A S i k*tt m A S r c - tt m A S i c*tt m A S r k:=by
 have s:dd m A S*tt m A (up S r c) i k=dt m (up (up (bs A S) r λx=>A x c) i λx=>sm m λj=>tt m A S j k*bs A S j x):=by
  unfold tt;rw[xW];have:=mv (dd m A S) 0 (λx=>A x k) (λ_=>0) (m:=m) (up (bs A S) r λx=>A x c) f;simp only[zero_mul,Int.add_zero] at this;rw[<- this];apply l5;intro j x d u;by_cases q:j=i
  .subst q;rw[iV,iV];exact C x k u
  .rw[ig q,ig q]
 have z:∀j,j<m->j≠i->j≠r->tt m A S j k*dt m (up (up (bs A S) r λx=>A x c) i (bs A S j))=0:=λj d e g=>by
  rw[qi (a:=i) (b:=j) (Ne.symm e) f d λx _=>by rw[iV,ig e,ig g],mul_zero]
 have o:dt m (up (up (bs A S) r λx=>A x c) i (bs A S i))=tt m A S r c:=by
  rw[mI (Ne.symm h),xV];rfl
 have zr:dt m (up (up (bs A S) r λx=>A x c) i (bs A S r))=- tt m A S i c:=by
  rw[Qg (Ne.symm h) l f,xV];rfl
 rw[s,xl f];by_cases q:i<r
 .rw[eH q l λj d e g=>z j d e g,o,zr];grind
 .rw[eH (a:=r) (b:=i) ⋯ f λj d g e=>z j d e g,o,zr];grind
theorem Cr.turn(C:Cr m A S)(hd:dd m A S≠0){r c:Nat}(o:r<m):Cr m A (up S r c):=by
 intro i k l;rw[dI];have g:sm m (λj=>dd m A S*(tt m A (up S r c) j k*A i (up S r c j)) - tt m A S r c*(tt m A S j k*A i (S j))+tt m A S r k*(tt m A S j c*A i (S j)))=dd m A S*tt m A S r k*A i c:=by
  rw[bC (a:=r) o]
  .rw[bQ];simp only[up,if_true];grind
  .intro j hj q;have:=dW C (c:=c) k hj o q;rw[show up S r c j=S j by simp[up,q]];grind
 have e:∀(f g h:Nat->Int)(a b d:Int)(n:Nat),sm n (λj=>a*f j - b*g j+d*h j)=a*sm n f - b*sm n g+d*sm n h:=by
  intro f g h a b d n;induction n with
  |zero=>simp[sm]
  |succ n s=>rw[sm,sm,sm,sm,s];grind
 rw[e,<- C i k l,<- C i c l] at g;apply Int.eq_of_mul_eq_mul_left hd
 grind
theorem fO{j:Nat}(k:Nat)(b:j<m):tt m A S j k=sm m λi=>A i k*dt m (up (bs A S) j λx=>if x=i then 1 else 0):=by
 unfold tt;rw[<- xl b (bs A S) (λi=>A i k) (λi x=>if x=i then 1 else 0)];apply l5;intro a x e d;by_cases q:a=j
 .subst q;rw[iV,iV,bC (a:=x) d]
  .simp
  .intro i hi h;rw[if_neg (Ne.symm h),mul_zero]
 .rw[ig q,ig q]
def lK(m N:Nat)(A:aF)(y:Nat->Int):Prop:=∀i,i<m->sm N (λk=>A i k*y k)=0
theorem lK.tt{N:Nat}{y:Nat->Int}(h:lK m N A y){j:Nat}(b:j<m):sm N (λk=>tt m A S j k*y k)=0:=by
 rw[aV (g:=λk=>sm m λi=>dt m (up (bs A S) j λx=>if x=i then 1 else 0)*(A i k*y k))]
 .rw[<- c9 λi k=>dt m (up (bs A S) j λx=>if x=i then 1 else 0)*(A i k*y k)];apply jq;intro i a;rw[bH,h i a,mul_zero]
 .intro k _;rw[fO k b,mul_comm,<- bH];apply aV;intro i _;grind
theorem TM{N:Nat}{y:Nat->Int}(C:Cr m A S)(hd:dd m A S≠0)(h:∀j,j<m->sm N (λk=>Lp.tt m A S j k*y k)=0):lK m N A y:=by
 intro i a;apply Int.eq_of_mul_eq_mul_left hd;rw[<- bH,mul_zero,aV (g:=λk=>sm m λj=>A i (S j)*(Lp.tt m A S j k*y k))]
 .rw[<- c9 λj k=>A i (S j)*(Lp.tt m A S j k*y k)];apply jq;intro j b;rw[bH,h j b,mul_zero]
 .intro k _;rw[<- Int.mul_assoc,C i k a,mul_comm,<- bH];apply aV;intro j _;grind
def zz(m:Nat)(A:aF)(c:Nat->Int)(S:Nat->Nat)(k:Nat):Int:=dd m A S*c k - sm m λi=>c (S i)*tt m A S i k
theorem ec{c:Nat->Int}{i:Nat}(b:i<m):zz m A c S (S i)=0:=by
 unfold zz;rw[bC (a:=i) b,Ex]
 .grind
 .intro j hj q;rw[CI hj b q,mul_zero]
theorem tP{N:Nat}{c y:Nat->Int}(h:lK m N A y):sm N (λk=>zz m A c S k*y k)=dd m A S*sm N λk=>c k*y k:=by
 rw[aV (g:=λk=>dd m A S*(c k*y k)+(-1)*sm m λi=>c (S i)*(tt m A S i k*y k)),qh,<- c9 λi k=>c (S i)*(tt m A S i k*y k)]
 .rw[jq (n:=m)]
  .grind
  .intro i hi;rw[bH,h.tt hi,mul_zero]
 .intro k _;unfold zz;have:sm m (λi=>c (S i)*tt m A S i k)*y k=sm m λi=>c (S i)*(tt m A S i k*y k):=by
   rw[mul_comm,<- bH];apply aV;intro i _;grind
  grind
theorem Qh(C:Cr m A S)(hd:dd m A S≠0){c:Nat->Int}{r e:Nat}(k:Nat)(l:r<m):
  dd m A S*zz m A c (up S r e) k=zz m A c S k*tt m A S r e - zz m A c S e*tt m A S r k:=by
 unfold zz;rw[dI];have g:sm m (λi=>dd m A S*(c (up S r e i)*tt m A (up S r e) i k) - tt m A S r e*(c (S i)*tt m A S i k)+tt m A S r k*(c (S i)*tt m A S i e))=dd m A S*tt m A S r k*c e:=by
  rw[bC (a:=r) l]
  .rw[bQ];simp only[up,if_true];grind
  .intro j hj q;have:=dW C (c:=e) k hj l q;rw[show up S r e j=S j by simp[up,q]];grind
 have o:∀(f g h:Nat->Int)(a b d:Int)(n:Nat),sm n (λj=>a*f j - b*g j+d*h j)=a*sm n f - b*sm n g+d*sm n h:=by
  intro f g h a b d n;induction n with
  |zero=>simp[sm]
  |succ n s=>rw[sm,sm,sm,sm,s];grind
 rw[o] at g
 grind
end Lp
namespace Lp
variable{m n:Nat}{A:aF}
theorem Ey{d x y:Int}(hd:0<d)(h:d*x<=d*y):x<=y:=Int.le_of_mul_le_mul_left h hd
theorem tr{a b c x y z:Int}(f:0<x)(g:0<y)(h:0<z)(d:a*y<=b*x)(e:b*z<=c*y):a*z<=c*x:=by
 have i:=Int.mul_le_mul_of_nonneg_right d (le_of_lt h);have j:=Int.mul_le_mul_of_nonneg_right e (le_of_lt f);apply Ey g;grind
theorem ea{f:Nat->Int}:∀{n:Nat},(∀k,k<n->0<=f k)->0<=sm n f
 |0,_=>Int.le_refl _
 |n + 1,h=>by
  have:=ea (n:=n) λk a=>h k ⋯
  have:=h n ⋯;rw[sm];omega
structure Gd(m n:Nat)(A:aF)(S:Nat->Nat):Prop where
 cr:Cr m A S
 pos:0<dd m A S
 lt:∀i,i<m->S i<n
 fe:∀i,i<m->0<=tt m A S i n
def Ent(m n:Nat)(A:aF)(c:Nat->Int)(sh:Nat->Prop)(S:Nat->Nat)(e:Nat):Prop:=
 e<n/\zz m A c S e<0/\¬ sh e/\∀k,k<e->¬ sh k->0<=zz m A c S k
def Lv(m n:Nat)(A:aF)(S:Nat->Nat)(r e:Nat):Prop:=
 r<m/\0<tt m A S r e/\∀i,i<m->0<tt m A S i e->tt m A S r n*tt m A S i e<tt m A S i n*tt m A S r e\/(tt m A S r n*tt m A S i e=tt m A S i n*tt m A S r e/\S r<=S i)
theorem Gd.turn{S:Nat->Nat}{r e:Nat}(G:Gd m n A S)(V:Lv m n A S r e)(f:e<n):Gd m n A (up S r e):=by
 refine⟨G.cr.turn (ne_of_gt G.pos) V.1,by rw[dI];exact V.2.1,λi d=>?_,λi d=>?_⟩
 .unfold up;split
  .exact f
  .exact G.lt i d
 .by_cases q:i=r
  .rw[q,bQ];exact G.fe r V.1
  .have t:=dW G.cr (c:=e) n d V.1 q;apply Ey G.pos;rw[t,mul_zero];by_cases p:0<tt m A S i e
   .have:=V.2.2 i d p;have:tt m A S r n*tt m A S i e<=tt m A S i n*tt m A S r e:=⋯
    rw[mul_comm (tt m A S i e)];omega
   .have a:=mul_nonneg (G.fe i d) (le_of_lt V.2.1);have b:=mul_nonneg (show 0<=- tt m A S i e by omega) (G.fe r V.1);rw[Int.neg_mul] at b;omega
def dr(m:Nat)(A:aF)(S:Nat->Nat)(e k:Nat):Int:=(if k=e then dd m A S else 0)+(-1)*sm m λi=>if S i=k then tt m A S i e else 0
theorem xn{S:Nat->Nat}{e:Nat}(C:Cr m A S)(hd:dd m A S≠0)(lt:∀i,i<m->S i<n+1)(d:e<n+1):lK m (n+1) A (dr m A S e):=by
 apply TM C hd;intro j b;rw[aV (g:=λk=>1*(tt m A S j k*if k=e then dd m A S else 0)+(-1)*sm m λi=>if S i=k then tt m A S j k*tt m A S i e else 0),qh]
 .rw[bC (n:=n+1) (a:=e) d,if_pos rfl,<- c9 λi k=>if S i=k then tt m A S j k*tt m A S i e else 0,bC (n:=m) (a:=j) b,bC (n:=n+1) (a:=S j) (lt j b),if_pos rfl,Ex]
  .grind
  .intro k _ q;rw[if_neg (Ne.symm q)]
  .intro i hi q;apply jq;intro k _;split
   .rename_i h;rw[<- h,CI b hi (Ne.symm q),zero_mul]
   .rfl
  .intro k _ q;rw[if_neg q,mul_zero]
 .intro k _;unfold dr;have:sm m (λi=>if S i=k then tt m A S j k*tt m A S i e else 0)=tt m A S j k*sm m λi=>if S i=k then tt m A S i e else 0:=by
   rw[<- bH];apply aV;intro i _;split
   .rfl
   .rw[mul_zero]
  rw[this];grind
theorem qD{S:Nat->Nat}{e:Nat}(h:∀i,i<m->S i≠e):dr m A S e e=dd m A S:=by
 unfold dr;rw[if_pos rfl,jq λi a=>if_neg (h i a)];omega
theorem xo{S:Nat->Nat}{e i:Nat}(hd:dd m A S≠0)(b:i<m)(h:S i≠e):dr m A S e (S i)=- tt m A S i e:=by
 unfold dr;rw[if_neg h,bC (a:=i) b,if_pos rfl]
 .omega
 .intro j hj q;rw[if_neg λx=>q (xm hd hj b x)]
theorem nT{S:Nat->Nat}{e k:Nat}(h:∀i,i<m->S i≠k)(b:k≠e):dr m A S e k=0:=by
 unfold dr;rw[if_neg b,jq λi a=>if_neg (h i a)];rfl
theorem Ez(e:Nat->Nat):∀{L:Nat},0<L->∃t,t<L/\∀u,u<L->e u<=e t
 |1,_=>⟨0,⋯,λu a=>by rw[show u=0 by omega];omega⟩
 |L + 2,_=>by
  let⟨t,b,h⟩:=Ez e (L:=L+1) ⋯;by_cases q:e t<=e (L+1)
  .exact⟨L+1,⋯,λu a=>by
    by_cases x:u=L+1
    .subst x;omega
    .have:=h u ⋯;omega⟩
  .exact⟨t,⋯,λu a=>by
    by_cases x:u=L+1
    .subst x;omega
    .exact h u ⋯⟩
theorem N1{c:Nat->Int}{sh:Nat->Prop}{S:Nat->Nat->Nat}{r e:Nat->Nat}{L:Nat}(hL:0<L)(G:∀t,t<=L->Gd m n A (S t))(E:∀t,t<L->Ent m n A c sh (S t) (e t))(V:∀t,t<L->Lv m n A (S t) (r t) (e t))(U:∀t,t<L->S (t+1)=up (S t) (r t) (e t))(B:S L=S 0):False:=by
 have nz:=λt d=>ne_of_gt (G t d).pos
 have dU:∀t,t<L->dd m A (S (t+1))=tt m A (S t) (r t) (e t):=λt d=>by rw[U t d,dI]
 have zU:=λt (d:t<L)=>Qh (G t ⋯).cr (nz t ⋯) (c:=c) (e:=e t) n (V t d).1
 have st:∀t,t<L->zz m A c (S t) n*dd m A (S (t+1))<=zz m A c (S (t+1)) n*dd m A (S t)/\(0<tt m A (S t) (r t) n->zz m A c (S t) n*dd m A (S (t+1))<zz m A c (S (t+1)) n*dd m A (S t)):=λt d=>by
  have z:=zU t d;rw[<- U t d,<- dU t d] at z;have a:=(E t d).2.1;have f:=(G t ⋯).fe _ (V t d).1;refine⟨?_,λp=>?_⟩
  .have:=mul_nonneg (show 0<=- zz m A c (S t) (e t) by omega) f
   grind
  .have:=mul_pos (show 0 < - zz m A c (S t) (e t) by omega) p
   grind
 have mono:∀u t,t<=u->u<=L->zz m A c (S t) n*dd m A (S u)<=zz m A c (S u) n*dd m A (S t):=by
  intro u;induction u with
  |zero=>intro t h _;rw[show t=0 by omega];omega
  |succ u H=>
   intro t h v;by_cases q:t=u+1
   .subst q;omega
   .exact tr (G t ⋯).pos (G u ⋯).pos (G (u+1) v).pos (H t ⋯ ⋯) (st u ⋯).1
 have C:∀t,t<L->tt m A (S t) (r t) n=0:=λt d=>by
  apply Classical.byContradiction;intro q;have f:=(G t ⋯).fe _ (V t d).1;have s:=(st t d).2 ⋯;have a:=mono t 0 ⋯ ⋯;have b:=mono L (t+1) ⋯ ⋯;rw[B] at b;have:=tr (G (t+1) ⋯).pos (G 0 ⋯).pos (G t ⋯).pos b a;omega
 have val:∀k t,t<=L->((sm m λi=>if S t i=k then tt m A (S t) i n else 0)=0↔(sm m λi=>if S 0 i=k then tt m A (S 0) i n else 0)=0):=by
  intro k t;induction t with
  |zero=>exact λ_=>Iff.rfl
  |succ t H=>
   intro d;rw[<- H ⋯];have h:dd m A (S t)*(sm m λi=>if S (t+1) i=k then tt m A (S (t+1)) i n else 0)=dd m A (S (t+1))*(sm m λi=>if S t i=k then tt m A (S t) i n else 0):=by
    rw[<- bH,<- bH];apply aV;intro i g;by_cases q:i=r t
    .rw[U t ⋯,q,bQ,C t ⋯,ite_self,ite_self,mul_zero,mul_zero]
    .have:=dW (G t ⋯).cr (c:=e t) n g (V t ⋯).1 q;rw[C t ⋯,<- U t ⋯,<- dU t ⋯] at this;rw[show S (t+1) i=S t i by rw[U t ⋯];simp[up,q]];split<;>grind
   constructor
   .intro x;rw[x,mul_zero] at h;exact (Int.mul_eq_zero.mp h.symm).resolve_left (nz _ d)
   .intro x;rw[x,mul_zero] at h;exact (Int.mul_eq_zero.mp h).resolve_left (nz _ ⋯)
 have D:∀t,t<L->∀i,i<m->S t i≠e t:=λt d i g q=>by
  have:=(E t d).2.1;rw[<- q,ec g] at this;omega
 have Q:∀t k,t<L->(∃i,i<m/\S (t+1) i=k)->k=e t\/∃i,i<m/\S t i=k:=λt k d ⟨i,g,q⟩=>by
  rw[U t d] at q;unfold up at q;split at q
  .exact .inl q.symm
  .exact .inr ⟨i,g,q⟩
 have out:∀t k,t<L->(∃i,i<m/\S t i=k)->k=S t (r t)\/∃i,i<m/\S (t+1) i=k:=λt k d ⟨i,g,q⟩=>by
  by_cases x:i=r t
  .subst x;exact .inl q.symm
  .refine .inr ⟨i,g,?_⟩;rw[U t d];simp[up,x,q]
 have back:∀k,(∀t,t<L->e t≠k)->∀s t,t<=s->s<=L->(∃i,i<m/\S s i=k)->∃i,i<m/\S t i=k:=by
  intro k J s;induction s with
  |zero=>intro t h _ b;rw[show t=0 by omega];exact b
  |succ s H=>
   intro t h l b;by_cases q:t=s+1
   .rw[q];exact b
   .rcases Q s k ⋯ b with x |x
    .exact absurd x.symm (J s ⋯)
    .exact H t ⋯ ⋯ x
 have O:∀k,(∀t,t<L->S t (r t)≠k)->∀s t,t<=s->s<=L->(∃i,i<m/\S t i=k)->∃i,i<m/\S s i=k:=by
  intro k J s;induction s with
  |zero=>intro t h _ b;rw[show t=0 by omega] at b;exact b
  |succ s H=>
   intro t h l b;by_cases q:t=s+1
   .rw[<- q];exact b
   .rcases out s k ⋯ (H t ⋯ ⋯ b) with x |x
    .exact absurd x.symm (J s ⋯)
    .exact x
 let⟨t,d,big⟩:=Ez e hL;have lv:∃s,s<L/\S s (r s)=e t:=by
  apply Classical.byContradiction;intro q;have f:=O (e t) λs l x=>q ⟨s,l,x⟩
  have b1:∃i,i<m/\S (t+1) i=e t:=⟨r t,(V t d).1,by rw[U t d];simp[up]⟩
  have Y:=f L (t+1) ⋯ ⋯ b1;rw[B] at Y;let⟨i,g,x⟩:=f t 0 ⋯ ⋯ Y;exact D t d i g x
 let⟨s,l,hl⟩:=lv;have M:=G s ⋯;have o:=D s l;have K:=xn (e:=e s) M.cr (nz s ⋯) (λi g=>lt_succ_of_lt (M.lt i g)) (lt_succ_of_lt (E s l).1);have k1:=tP (S:=S s) (c:=c) K;have k2:=tP (S:=S t) (c:=c) K;rw[bC (a:=e s) (lt_succ_of_lt (E s l).1),qD o,mul_comm] at k1
 .have k3:=Int.eq_of_mul_eq_mul_left (nz s ⋯) k1;have neg:=(E s l).2.1;rw[k3] at neg;have p:0<=sm (n+1) λk=>zz m A c (S t) k*dr m A (S s) (e s) k:=by
   apply ea;intro k J;have es:e s<e t:=by
    have:=big s l;have:=o (r s) (V s l).1;omega
   by_cases q:k=e s
   .subst q;rw[qD o];exact mul_nonneg ((E t d).2.2.2 _ es (E s l).2.2.1) (le_of_lt M.pos)
   .by_cases b:∃i,i<m/\S s i=k
    .obtain⟨i,g,x⟩:=b;subst x;rw[xo (nz s ⋯) g q];by_cases N:∃u,u<L/\e u=S s i
     .obtain⟨u,v,x⟩:=N;by_cases y:S s i=e t
      .have:i=r s:=xm (nz s ⋯) g (V s l).1 (y.trans hl.symm);rw[y,this];have a:=(E t d).2.1;have b:=(V s l).2.1;have:=mul_pos (show 0 < - zz m A c (S t) (e t) by omega) b
       grind
      .have lt:S s i<e t:=by have:=big u v;omega
       have z:=(E t d).2.2.2 _ lt (x ▸ (E u v).2.2.1);by_cases p:0<tt m A (S s) i (e s)
       .have v0:tt m A (S s) i n=0:=by
         have w:(sm m λj=>if S u j=S s i then tt m A (S u) j n else 0)=0:=jq λj I=>if_neg λy=>D u v j I (y.trans x.symm)
         have w2:=(val (S s i) s ⋯).mpr ((val (S s i) u ⋯).mp w);rw[bC (a:=i) g,if_pos rfl] at w2
         .exact w2
         .intro j I y;rw[if_neg λz=>y (xm (nz s ⋯) I g z)]
        have:=(V s l).2.2 i g p;rw[C s l,v0,hl] at this;omega
       .exact mul_nonneg z ⋯
     .have b0:=back (S s i) (λu v x=>N ⟨u,v,x⟩) s 0 ⋯ ⋯ ⟨i,g,rfl⟩;rw[<- B] at b0;let⟨j,I,x⟩:=back (S s i) (λu v x=>N ⟨u,v,x⟩) L t ⋯ ⋯ b0;rw[<- x,ec I,zero_mul];omega
    .rw[nT (λi g x=>b ⟨i,g,x⟩) q,mul_zero];omega
  rw[k2] at p;have:=mul_pos (G t ⋯).pos (show 0 < - sm (n+1) λk=>c k*dr m A (S s) (e s) k by omega)
  grind
 .intro k _ q;by_cases b:∃i,i<m/\S s i=k
  .obtain⟨i,g,x⟩:=b;rw[<- x,ec g,zero_mul]
  .rw[nT (λi g x=>b ⟨i,g,x⟩) q,mul_zero]
end Lp
namespace Lp
variable{m n:Nat}{A:aF}
theorem yt:∀(K:Nat){L:Nat}{f:Nat->Nat},(∀t,t<L->f t<K)->(∀s t,s<t->t<L->f s≠f t)->L<=K
 |0,L,f,h,_=>by
  by_cases q:L=0
  .omega
  .have:=h 0 ⋯;omega
 |K + 1,L,f,h,d=>by
  by_cases q:∃t,t<L/\f t=K
  .obtain⟨t,g,e⟩:=q;have:=yt K (L:=L - 1) (f:=λs=>f (skip t s)) (λs i=>by
    have a:skip t s<L/\skip t s≠t:=by unfold skip;split<;>omega
    have b:=h _ a.1;have c:f (skip t s)≠f t:=by
     by_cases x:skip t s<t
     .exact d _ _ x g
     .exact (d _ _ ⋯ a.1).symm
    show f (skip t s)<K;omega) λs u l j=>d _ _ (by unfold skip;split<;>split<;>omega) (by unfold skip;split<;>omega)
   omega
  .have:=yt K (L:=L) (f:=f) (λt g=>by
    have a:=h t g;have b:f t≠K:=λe=>q ⟨t,g,e⟩
    omega) d
   omega
def code(n:Nat):Nat->(Nat->Nat)->Nat
 |0,_=>0
 |m + 1,S=>code n m S * n + S m
theorem DO{S:Nat->Nat}:∀{m:Nat},(∀i,i<m->S i<n)->code n m S<n ^ m
 |0,_=>by simp[code]
 |m + 1,h=>by
  have a:=DO (m:=m) λi d=>h i ⋯
  have b:=h m ⋯;have c:=Nat.mul_le_mul_right n (Nat.succ_le_of_lt a);rw[code,Nat.pow_succ];rw[Nat.succ_mul] at c;omega
theorem CJ{S R:Nat->Nat}:∀{m:Nat},(∀i,i<m->S i<n)->(∀i,i<m->R i<n)->code n m S=code n m R->∀i,i<m->S i=R i
 |m + 1,h,g,e,i,d=>by
  rw[code,code] at e;have a:=h m ⋯;have b:=g m ⋯;have f:S m=R m:=by
   have:=congrArg (· % n) e;simp only[Nat.add_comm _ (S m),Nat.add_comm _ (R m),Nat.add_mul_mod_self_right,Nat.mod_eq_of_lt a,Nat.mod_eq_of_lt b] at this;exact this
  by_cases q:i=m
  .subst q;exact f
  .refine CJ (m:=m) (λi d=>h i ⋯) (λi d=>g i ⋯) ?_ i ⋯;exact Nat.eq_of_mul_eq_mul_right ⋯ (show code n m S*n=code n m R*n by omega)
def yV(m n:Nat)(A:aF)(c:Nat->Int)(sh:Nat->Prop)(S a:Nat->Nat):Prop:=∃r e,Ent m n A c sh S e/\Lv m n A S r e/\a=up S r e
def Ch(m n:Nat)(A:aF)(c:Nat->Int)(sh:Nat->Prop):Nat->(Nat->Nat)->Prop
 |0,_=>True
 |L + 1,S=>∃a,yV m n A c sh S a /\ Ch m n A c sh L a
def je(m n:Nat)(A:aF)(c:Nat->Int)(sh:Nat->Prop)(S:Nat->Nat)(N:Nat):Prop:=∀L,Ch m n A c sh L S->L<=N
theorem je.step{c:Nat->Int}{sh:Nat->Prop}{S a:Nat->Nat}{N:Nat}(B:je m n A c sh S N)(s:yV m n A c sh S a):0<N/\je m n A c sh a (N - 1):=
 ⟨B 1 ⟨a,s,trivial⟩,λL h=>by have:=B (L+1) ⟨a,s,h⟩;omega⟩
theorem Ch.seq{c:Nat->Int}{sh:Nat->Prop}:∀{L:Nat}{S:Nat->Nat},Gd m n A S->Ch m n A c sh L S->∃(T:Nat->Nat->Nat)(r e:Nat->Nat),T 0=S/\(∀t,t<=L->Gd m n A (T t))/\(∀t,t<L->Ent m n A c sh (T t) (e t)/\Lv m n A (T t) (r t) (e t)/\T (t+1)=up (T t) (r t) (e t))
 |0,S,G,_=>⟨λ_=>S,λ_=>0,λ_=>0,rfl,λ_ _=>G,λt h=>absurd h ⋯⟩
 |L + 1,S,G,⟨S',⟨r,e,h1,h2,h3⟩,h⟩=>by
  let⟨T,d,a,f,g,s⟩:=Ch.seq (h3 ▸ G.turn h2 h1.1:Gd m n A S') h;refine⟨λt=>match t with |0=>S |t+1=>T t,λt=>match t with |0=>r |t+1=>d t,λt=>match t with |0=>e |t+1=>a t,rfl,λt b=>?_,λt b=>?_⟩
  .cases t with
   |zero=>exact G
   |succ t=>exact g t ⋯
  .cases t with
   |zero=>exact⟨h1,h2,f.trans h3⟩
   |succ t=>exact s t ⋯
theorem Ho{c:Nat->Int}{sh:Nat->Prop}{S:Nat->Nat}(G:Gd m n A S):je m n A c sh S (n ^ m):=by
 intro L h;let⟨T,r,e,y,g,s⟩:=h.seq G;have out:∀t,t<=L->∀i,m<=i->T t i=S i:=by
  intro t;induction t with
  |zero=>intro _ i _;rw[y]
  |succ t w=>
   intro d i o;let⟨_,v,u⟩:=s t ⋯;have:=v.1;rw[u,<- w ⋯ i o];unfold up;rw[if_neg ⋯]
 have:=yt (n ^ m) (L:=L+1) (f:=λt=>code n m (T t)) (λt d=>DO (g t ⋯).lt) λa b B C q=>by
  have j:=CJ (g a ⋯).lt (g b ⋯).lt q;have l:T (a+(b - a))=T (a+0):=by
   rw[show a+(b - a)=b by omega];funext i;by_cases x:i<m
   .exact (j i x).symm
   .rw[out b ⋯ i ⋯];exact (out a ⋯ i ⋯).symm
  exact N1 (L:=b - a) (S:=λt=>T (a+t)) (r:=λt=>r (a+t)) (e:=λt=>e (a+t)) ⋯ (λt d=>g _ ⋯) (λt d=>(s _ ⋯).1) (λt d=>(s _ ⋯).2.1) (λt d=>(s (a+t) ⋯).2.2) l
 omega
end Lp
namespace Lp
variable{m n:Nat}{A:aF}{S:Nat->Nat}{c:Nat->Int}{sh:Nat->Prop}
structure jY(m n:Nat)(A:aF)(sh:Nat->Prop)(q:Int)(y:Nat->Int):Prop where
 DG:lK m (n+1) A y
 nn:∀k,k<n->0<=y k
 sz:∀k,k<n->sh k->y k=0
 rhs:y n=-q
theorem jY.cost{q:Int}{y:Nat->Int}(F:jY m n A sh q y)(a:c n=0):dd m A S*sm n (λk=>c k*y k)=sm n (λk=>zz m A c S k*y k) - q*zz m A c S n:=by
 have h:=tP (S:=S) (c:=c) F.DG;rw[sm,sm,F.rhs,a] at h;grind
def gV(m n:Nat)(A:aF)(S:Nat->Nat)(k:Nat):Int:=(-1)*dr m A S n k
theorem fG(G:Gd m n A S){i:Nat}(a:i<m):gV m n A S (S i)=tt m A S i n:=by
 unfold gV;rw[xo (ne_of_gt G.pos) a (ne_of_lt (G.lt i a))];omega
theorem cE{k:Nat}(a:k≠n)(h:∀i,i<m->S i≠k):gV m n A S k=0:=by
 unfold gV;rw[nT h a];rfl
theorem gm(G:Gd m n A S)(hs:∀i,i<m->¬ sh (S i)):jY m n A sh (dd m A S) (gV m n A S):=by
 have K:=xn (e:=n) G.cr (ne_of_gt G.pos) (λi a=>lt_succ_of_lt (G.lt i a)) (Nat.lt_succ_self n);refine⟨λi a=>?_,λk d=>?_,λk d s=>?_,?_⟩
 .rw[aV (g:=λk=>(-1)*(A i k*dr m A S n k)) λk _=>by unfold gV;grind,bH,K i a];rfl
 .by_cases b:∃i,i<m/\S i=k
  .obtain⟨i,a,x⟩:=b;rw[<- x,fG G a];exact G.fe i a
  .rw[cE ⋯ λi a x=>b ⟨i,a,x⟩];omega
 .exact cE ⋯ λi a x=>hs i a (x ▸ s)
 .unfold gV;rw[qD λi a=>ne_of_lt (G.lt i a)];omega
theorem jv(G:Gd m n A S)(d:c n=0):sm n (λk=>c k*gV m n A S k)=- zz m A c S n:=by
 have F:=gm (sh:=λ_=>False) G λ_ _ h=>h
 have e:=F.cost (S:=S) d;rw[jq (n:=n) (f:=λk=>zz m A c S k*gV m n A S k)] at e
 .apply Int.eq_of_mul_eq_mul_left (ne_of_gt G.pos);rw[e];grind
 .intro k hk;by_cases b:∃i,i<m/\S i=k
  .obtain⟨i,a,x⟩:=b;rw[<- x,ec a,zero_mul]
  .rw[cE ⋯ λi a x=>b ⟨i,a,x⟩,mul_zero]
theorem OX(G:Gd m n A S){e:Nat}(f:e<n)(hn:∀i,i<m->S i≠e)(ht:∀i,i<m->tt m A S i e<=0)(g:c n=0):
  (∀k,k<n->0<=dr m A S e k)/\lK m (n+1) A (dr m A S e)/\dr m A S e n=0/\sm n (λk=>c k*dr m A S e k)=zz m A c S e:=by
 have K:=xn (e:=e) G.cr (ne_of_gt G.pos) (λi d=>lt_succ_of_lt (G.lt i d)) (lt_succ_of_lt f);have z:dr m A S e n=0:=nT (λi d=>ne_of_lt (G.lt i d)) (Nat.ne_of_gt f);refine⟨λk j=>?_,K,z,?_⟩
 .by_cases q:k=e
  .subst q;rw[qD hn];exact le_of_lt G.pos
  .by_cases b:∃i,i<m/\S i=k
   .obtain⟨i,d,x⟩:=b;rw[<- x,xo (ne_of_gt G.pos) d (hn i d)];have:=ht i d;omega
   .rw[nT (λi d x=>b ⟨i,d,x⟩) q];omega
 .have h:=tP (S:=S) (c:=c) K;rw[bC (a:=e) (lt_succ_of_lt f),qD hn] at h
  .apply Int.eq_of_mul_eq_mul_left (ne_of_gt G.pos);rw[sm,z] at h;grind
  .intro k _ q;by_cases b:∃i,i<m/\S i=k
   .obtain⟨i,d,x⟩:=b;rw[<- x,ec d,zero_mul]
   .rw[nT (λi d x=>b ⟨i,d,x⟩) q,mul_zero]
def gp:Nat->Nat
 |0=>1
 |m + 1=>(m + 1) * gp m
theorem xp{f:Nat->Int}{B:Nat}:∀{n:Nat},(∀k,k<n->(f k).natAbs<=B)->(sm n f).natAbs<=n*B
 |0,_=>by simp[sm]
 |n + 1,h=>by
  have a:=xp (n:=n) λk d=>h k ⋯
  have b:=h n ⋯;have c:=Int.natAbs_add_le (sm n f) (f n);rw[sm,Nat.succ_mul];omega
theorem xq{M:Nat}:∀{m:Nat}{v:aF},(∀j i,j<m->i<m->(v j i).natAbs<=M)->(dt m v).natAbs<=gp m*M ^ m
 |0,v,_=>by simp[dt,gp]
 |m + 1,v,h=>by
  rw[dt,gp,Nat.pow_succ,Nat.mul_assoc];apply xp;intro k d;have a:=xq (m:=m) (v:=λj=>v (skip k j)) (M:=M) λj i f e=>h _ _ (by unfold skip;split<;>omega) ⋯
  have b:=h k m d ⋯;have s:(sg (m+k)).natAbs=1:=by unfold sg;split<;>rfl
  rw[natAbs_mul,natAbs_mul,s,Nat.one_mul];have:=Nat.mul_le_mul b a;rw[Nat.mul_comm M] at this;rw[<- Nat.mul_assoc];exact this
end Lp
namespace Lp
variable{m n:Nat}{A:aF}{S:Nat->Nat}
def Un(m:Nat)(A:aF)(S:Nat->Nat):Prop:=∀i j,i<m->j<m->A i (S j)=if i=j then 1 else 0
theorem Un.dd(h:Un m A S):dd m A S=1:=by
 rw[<- wD m];exact l5 λj i b a=>h i j a b
theorem Un.tt(h:Un m A S){i:Nat}(k:Nat)(f:i<m):tt m A S i k=A i k:=by
 rw[fO k f,bC (a:=i) f]
 .rw[l5 (w:=λj x=>if x=j then 1 else 0),wD,Int.mul_one];intro j x d g;by_cases e:j=i
  .subst e;rw[iV]
  .rw[ig e];exact h x j g d
 .intro j d e;rw[qi (a:=i) (b:=j) (Ne.symm e) f d,mul_zero];intro x g;rw[iV,ig e];exact (h x j g d).symm
theorem Un.gd(h:Un m A S)(lt:∀i,i<m->S i<n)(fe:∀i,i<m->0<=A i n):Gd m n A S:=by
 refine⟨λi k b=>?_,by rw[h.dd];decide,lt,λi b=>by rw[h.tt n b];exact fe i b⟩;rw[h.dd,bC (a:=i) b]
 .rw[h.tt k b,h i i b b,if_pos rfl];grind
 .intro j hj e;rw[h i j b hj,if_neg (Ne.symm e),mul_zero]
theorem hJ{M:Nat}(h:∀i k,i<m->k<=n->(A i k).natAbs<=M)(lt:∀i,i<m->S i<n){i k:Nat}(d:k<=n):(tt m A S i k).natAbs<=gp m*M ^ m:=by
 refine xq λj x b a=>?_
 unfold up bs;split
 .exact h x k a d
 .exact h x _ a (Nat.le_of_lt (lt j b))
theorem fH{M:Nat}(h:∀i k,i<m->k<=n->(A i k).natAbs<=M)(lt:∀i,i<m->S i<n):(dd m A S).natAbs<=gp m*M ^ m:=
 xq λj x a b=>h x _ b (Nat.le_of_lt (lt j a))
theorem m7{M C:Nat}{c:Nat->Int}(h:∀i k,i<m->k<=n->(A i k).natAbs<=M)(lt:∀i,i<m->S i<n)(e:∀k,(c k).natAbs<=C){k:Nat}(f:k<=n):(zz m A c S k).natAbs<=(m+1)*(C*(gp m*M ^ m)):=by
 unfold zz;have a:=fH h lt;have b:(sm m λi=>c (S i)*tt m A S i k).natAbs<=m*(C*(gp m*M ^ m)):=xp λi g=>by
  rw[natAbs_mul];exact Nat.mul_le_mul (e _) (hJ h lt f)
 have d:(dd m A S*c k).natAbs<=C*(gp m*M ^ m):=by rw[natAbs_mul,Nat.mul_comm];exact Nat.mul_le_mul (e k) a
 have:=Int.natAbs_sub_le (dd m A S*c k) (sm m λi=>c (S i)*tt m A S i k);rw[Nat.succ_mul];omega
end Lp
namespace Sf
open PySem L2 Vc Pu
local macro_rules | `(tactic| walk_at "c") => `(tactic| exact ⟨rfl, rfl, rfl, by decide +kernel, rfl, by decide +kernel, by decide +kernel⟩)
local macro_rules | `(tactic| walk_at "k") => `(tactic| decide +kernel)
def inClass(s:Stmt)(j:Nat):Stmt:=match s with
 |.ClassDef _ _ _ a _ _ _ _ _ _ _=>a.getD j (.Pass ⟨0,0,0,0⟩)
 |_=>.Pass ⟨0,0,0,0⟩
def top(i:Nat):Stmt:=PySem.Challenge.pw_springframe_k43_spared.main.body.getD i (.Pass ⟨0,0,0,0⟩)
abbrev Ad:Stmt:=top 8
abbrev y8:Stmt:=top 9
abbrev zS:Stmt:=top 10
abbrev zT:Stmt:=top 11
abbrev Ae:Stmt:=top 12
abbrev zM:Stmt:=top 17
abbrev yZ:Stmt:=top 19
abbrev zu:Stmt:=top 20
abbrev zv:Stmt:=top 23
abbrev zF:Stmt:=top 25
abbrev zG:Stmt:=top 26
abbrev zY:Stmt:=top 27
abbrev zZ:Stmt:=top 29
abbrev zH:Stmt:=top 31
abbrev zh:Stmt:=top 32
abbrev zI:Stmt:=top 33
abbrev zj:Stmt:=top 34
abbrev zi:Stmt:=top 35
abbrev zW:Stmt:=top 36
abbrev zq:Stmt:=top 37
abbrev zo:Stmt:=top 38
abbrev zC:Stmt:=top 39
abbrev zt:Stmt:=top 40
abbrev zp:Stmt:=top 41
abbrev zk:Stmt:=top 42
abbrev zX:Stmt:=top 43
abbrev An:Stmt:=top 44
abbrev yW:Stmt:=inClass (top 21) 0
abbrev y9:Stmt:=inClass (top 21) 1
abbrev zw:Stmt:=inClass (top 21) 2
abbrev zx:Stmt:=inClass (top 21) 3
abbrev za:Stmt:=inClass (top 21) 4
abbrev y6:Stmt:=inClass (top 21) 5
abbrev zl:Stmt:=inClass (top 21) 6
abbrev y7:Stmt:=inClass (top 21) 7
abbrev zm:Stmt:=inClass (top 21) 8
abbrev yX:Stmt:=inClass (top 22) 0
abbrev zy:Stmt:=inClass (top 22) 1
abbrev zJ:Stmt:=inClass (top 22) 2
abbrev zK:Stmt:=inClass (top 22) 3
abbrev zA:Stmt:=inClass (top 22) 4
abbrev zb:Stmt:=inClass (top 22) 5
abbrev zD:Stmt:=inClass (top 22) 7
abbrev act:Stmt:=inClass (top 22) 9
abbrev zB:Stmt:=inClass (top 22) 10
abbrev zE:Stmt:=inClass (top 22) 13
abbrev zL:Stmt:=inClass (top 22) 14
abbrev yY:Stmt:=inClass (top 5) 0
theorem Qi:bW ["top","bottom","divisor"] ["top","bottom"] (bD Ad):=by walk_at "c"
theorem Hu:bW ["one","other","remainder"] ["one","other"] (bD y8):=by walk_at "c"
theorem N2:bW ["one","other"] ["one","other"] (bD zS):=by walk_at "c"
theorem N3:bW ["one","other"] ["one","other"] (bD zT):=by walk_at "c"
theorem Qj:bW ["one","other"] ["one","other"] (bD Ae):=by walk_at "c"
theorem II:bW ["rows","unknowns"] ["rows","unknowns"] (bD zM):=by walk_at "c"
theorem HU:bW ["fractions","bottom","fraction"] ["fractions"] (bD yZ):=by walk_at "c"
theorem HV:bW ["fractions","bottom"] ["fractions","bottom"] (bD zu):=by walk_at "c"
theorem HW:bW ["rows","unknowns","sheet"] ["rows","unknowns"] (bD zv):=by walk_at "c"
theorem Ii:bW ["rows","unknowns","numbers","sheet","missed","shown","number","price"] ["rows","unknowns","numbers"] (bD zF):=by walk_at "c"
theorem Ij:bW ["rows","unknowns","numbers","clash","number","fewer"] ["rows","unknowns","numbers"] (bD zG):=by walk_at "c"
theorem Mh:bW ["rows","unknowns","numbers","sheet","clash"] ["rows","unknowns","numbers"] (bD zY):=by walk_at "c"
theorem Mi:bW ["rows","unknowns","numbers","placings","number","others"] ["rows","unknowns","numbers"] (bD zZ):=by walk_at "c"
theorem Ik:bW ["_law_script","_law_k"] ["_law_script","_law_k"] (bD zH):=by walk_at "c"
theorem K3:bW ["_law_cell","_law_k","_law_number"] ["_law_cell","_law_k"] (bD zh):=by walk_at "c"
theorem Il:bW ["_law_one","_law_other"] ["_law_one","_law_other"] (bD zI):=by walk_at "c"
theorem IJ:bW ["_law_top","_law_bottom","_law_both"] ["_law_top","_law_bottom"] (bD zj):=by walk_at "c"
theorem K4:bW ["_law_cell","_law_some","_law_bottoms","_law_parts","_law_k","_law_name","_law_number","_law_kind","_law_rank"] ["_law_cell","_law_some","_law_bottoms"] (bD zi):=by walk_at "c"
theorem K5:bW ["_law_pairs","_law_found","_law_one","_law_other","_law_top"] ["_law_pairs"] (bD zW):=by walk_at "c"
theorem Jw:bW ["_law_one","_law_placing","_law_pairs","_law_top","_law_bottom"] ["_law_one","_law_placing"] (bD zq):=by walk_at "c"
theorem IX:bW ["_law_found"] ["_law_found"] (bD zo):=by walk_at "c"
theorem HN:bW ["_law_found"] ["_law_found"] (bD zC):=by walk_at "c"
theorem Jx:bW ["_law_one","_law_price"] ["_law_one","_law_price"] (bD zt):=by walk_at "c"
theorem IY:bW ["_law_rows","_law_some","_law_numbers","_law_told","_law_weights","_law_chosen","_law_one","_law_weight","_law_name"] ["_law_rows","_law_some","_law_numbers","_law_told","_law_weights"] (bD zp):=by walk_at "c"
theorem IK:bW ["_law_rows","_law_some","_law_rest","_law_placing"] ["_law_rows","_law_some","_law_rest","_law_placing"] (bD zk):=by walk_at "c"
theorem K6:bW ["_law_rows","_law_some","_law_told","_law_found","_law_placing","_law_number"] ["_law_rows","_law_some","_law_told"] (bD zX):=by walk_at "c"
theorem u1:bW ["_law_script","_law_first","_law_some","_law_rows","_law_numbers","_law_handed","_law_found","_law_told","_law_weights","e","_law_placing","_law_number"] ["_law_script"] (bD An):=by walk_at "c"
theorem HH:bW ["self","lines","solved"] ["self","lines","solved"] (bD yW):=by walk_at "c"
theorem Hv:bW ["self","costs","left","line","column","cost"] ["self","costs"] (bD y9):=by walk_at "c"
theorem HX:bW ["self","costs","column","line"] ["self","costs"] (bD zw):=by walk_at "c"
theorem HY:bW ["self","costs","left","column"] ["self","costs"] (bD zx):=by walk_at "c"
theorem Hw:bW ["self","column","best","number","line"] ["self","column"] (bD za):=by walk_at "c"
theorem HB:bW ["self","number","best","column","line","other","one_way","other_way"] ["self","number","best","column"] (bD y6):=by walk_at "c"
theorem IL:bW ["self","number","column","turned","middle","lines","line","entry"] ["self","number","column"] (bD zl):=by walk_at "c"
theorem HC:bW ["self","costs","mark","left","column"] ["self","costs","mark"] (bD y7):=by walk_at "c"
theorem IM:bW ["self","column"] ["self","column"] (bD zm):=by walk_at "c"
theorem HI:bW ["self","rows","unknowns","lines","solved","number","one","line","upright"] ["self","rows","unknowns"] (bD yX):=by walk_at "c"
theorem HZ:bW ["self"] ["self"] (bD zy):=by walk_at "c"
theorem Im:bW ["self","number"] ["self","number"] (bD zJ):=by walk_at "c"
theorem Io:bW ["self","number"] ["self","number"] (bD zK):=by walk_at "c"
theorem H0:bW ["self","number","one","fractions","scale","entries","line"] ["self","number","one"] (bD zA):=by walk_at "c"
theorem Hx:bW ["self","rank","costs","number","one","cost"] ["self","rank"] (bD zb):=by walk_at "c"
theorem HP:bW ["self","costs","scale","numbers","column","fall","left"] ["self","costs"] (bD zD):=by walk_at "c"
theorem Ip:bW ["self","place"] ["self","place"] (bD act):=by walk_at "c"
theorem H9:bW ["self","told","place","unknown"] ["self"] (bD zB):=by walk_at "c"
theorem HQ:bW ["self","left"] ["self","left"] (bD zE):=by walk_at "c"
theorem Iq:bW ["self","number","left","below","above","kind","scale"] ["self","number","left"] (bD zL):=by walk_at "c"
theorem HJ:bW ["self","numbers","weights"] ["self","numbers","weights"] (bD yY):=by walk_at "c"
set_option genInjectivity false in
set_option genSizeOf false in
structure Tx(w:World)(K:aj)(mg:bc) where
 {aaa:ae}
 FK:mg "Table"=some (.ref aaa)
 iA:fP K aaa
 uL:a9 K aaa "lines"
 uM:a9 K aaa "solved"
 uN:a9 K aaa "bottom"
 uO:a9 K aaa "shut"
 {aah:ae}
 FN:mg "Sheet"=some (.ref aah)
 eO:fP K aah
 oY:a9 K aah "rows"
 nB:a9 K aah "unknowns"
 uP:a9 K aah "scales"
 uQ:a9 K aah "settled"
 rN:a9 K aah "table"
 jE:dz K mg "part" Ad ["top","bottom"]
 oZ:dz K mg "greatest_divisor" y8 ["one","other"]
 o3:dz K mg "minus" zS ["one","other"]
 nD:dz K mg "times" zT ["one","other"]
 rO:dz K mg "over" Ae ["one","other"]
 rP:dz K mg "check_many" zM ["rows","unknowns"]
 o6:dz K mg "common_bottom" yZ ["fractions"]
 o7:dz K mg "whole_numbers" zu ["fractions","bottom"]
 o8:dz K mg "settled_musts" zv ["rows","unknowns"]
 o9:dz K mg "shown_clash" zF ["rows","unknowns","numbers"]
 rQ:dz K mg "least_clash" zG ["rows","unknowns","numbers"]
 rp:dz K mg "fitted" zY ["rows","unknowns","numbers"]
 oP:dz K mg "spared" zZ ["rows","unknowns","numbers"]
 rq:dz K mg "_law_cell_at" zH ["_law_script","_law_k"]
 jD:dz K mg "_law_mix" zh ["_law_cell","_law_k"]
 oR:dz K mg "_law_divisor" zI ["_law_one","_law_other"]
 ny:dz K mg "_law_lowest" zj ["_law_top","_law_bottom"]
 rr:dz K mg "_law_row" zi ["_law_cell","_law_some","_law_bottoms"]
 nA:dz K mg "_law_add" zW ["_law_pairs"]
 rA:dz K mg "_law_kept" zq ["_law_one","_law_placing"]
 oS:dz K mg "_law_whole" zo ["_law_found"]
 oU:dz K mg "_law_fraction" zC ["_law_found"]
 rB:dz K mg "_law_sign" zt ["_law_one","_law_price"]
 rC:dz K mg "_law_clash" zp ["_law_rows","_law_some","_law_numbers","_law_told","_law_weights"]
 oV:dz K mg "_law_placed" zk ["_law_rows","_law_some","_law_rest","_law_placing"]
 rD:dz K mg "_law_few" zX ["_law_rows","_law_some","_law_told"]
 kP:dz K mg "law" An ["_law_script"]
 rE:qY K aaa "Table.__init__" yW ["self","lines","solved"]
 oW:eW K aaa "costs_left" "Table.costs_left" y9 ["self","costs"]
 rF:eW K aaa "go_down" "Table.go_down" zw ["self","costs"]
 oX:eW K aaa "falling" "Table.falling" zx ["self","costs"]
 rG:eW K aaa "first_stop" "Table.first_stop" za ["self","column"]
 rH:eW K aaa "stops_ahead" "Table.stops_ahead" y6 ["self","number","best","column"]
 rJ:eW K aaa "turn" "Table.turn" zl ["self","number","column"]
 rK:eW K aaa "shut_rising" "Table.shut_rising" y7 ["self","costs","mark"]
 rL:eW K aaa "told" "Table.told" zm ["self","column"]
 rM:qY K aah "Sheet.__init__" yX ["self","rows","unknowns"]
 rh:eW K aah "columns" "Sheet.columns" zy ["self"]
 lO:eW K aah "below" "Sheet.below" zJ ["self","number"]
 lP:eW K aah "above" "Sheet.above" zK ["self","number"]
 ri:eW K aah "line_of" "Sheet.line_of" zA ["self","number","one"]
 rj:eW K aah "rank_costs" "Sheet.rank_costs" zb ["self","rank"]
 rl:eW K aah "settle" "Sheet.settle" zD ["self","costs"]
 oO:eW K aah "value" "Sheet.value" act ["self","place"]
 rm:eW K aah "placing" "Sheet.placing" zB ["self"]
 rn:eW K aah "prices" "Sheet.prices" zE ["self","left"]
 ro:eW K aah "price" "Sheet.price" zL ["self","number","left"]
 {aba:ae}
 lQ:mg "NOUGHT"=some (.ref aba)
 lR:FJ K aba (([0,1]:az).map V.int)
 {abd:Tok}
 zc:mg "MUST"=some (.int (0) abd)
 {abf:Tok}
 FT:mg "MOST_ROWS"=some (.int (16) abf)
 {abh:Tok}
 FU:mg "MOST_UNKNOWNS"=some (.int (8) abh)
 {abj:ae}
 FV:mg "FrameError"=some (.ref abj)
 {abl:ae}
 FW:mg "TooMany"=some (.ref abl)
 FX:W.excIn K abl [.type "ValueError",.type "Exception",.type "BaseException",.type "object"] "ValueError.__new__"=true
 {abo:ae}
 zd:mg "Clash"=some (.ref abo)
 {abq:ae}
 US:mg "NoPart"=some (.ref abq)
 jF:uF K abo abj "Clash.__init__" yY ["self","numbers","weights"]
 ze:W.findIn K (.ref abo) "numbers"=some none
 zf:W.findIn K (.ref abo) "weights"=some none
 zg:gK K abo
 FY:W.exmOne K (.ref abo) (.ref abo)=some true
 uT:mg "abs"=none
 e9:mg "len"=none
 uS:mg "range"=none
 kQ:mg "isinstance"=none
 FO:mg "tuple"=none
 fv:mg "list"=none
 UQ:mg "any"=none
 y4:mg "all"=none
 nE:mg "enumerate"=none
 kd:mg "zip"=none
 UR:mg "reversed"=none
 FP:mg "int"=none
 FQ:mg "dict"=none
 FR:mg "bool"=none
section
variable{P:Program}{w:World}{K:aj}{mg:bc}{base:aO}
@[inline] def FE:String:="SA Ov TL Ow Mf Kz Ky Ma IF Oq IW L6 MG JQ IT IU JR Om Oo IV JS Ji Jh Su MH l9 JT MI b3 fh ij dP fj Sb Sd Se Lg JV Lh Li Sg Lj Oz Ll JW Lm JX OA Ln JY Lo JZ Lq IZ J3 Si I0 J4 OB Ja IE OC Lr Ls OD OE OF Lu Lw J8 Lx J9 Ka OG OH OI Jb Jc Kb B0 Ly Kc Kd Jd Ke B1 Lz Kf Kg B2 Kh B3 LA Ki Jy B4 LB Jz JA JB JC JD JE JF JG JH LC JI JJ JK JL JM JN LD Sk JO OS OT Ob Oc Od Oe Of jG Option.getD_some LF OJ OK Sj OL OM ON OO OP OQ Ol MA MB Oi My P1 P0 PZ Mz Sq Oj length_map Og Mt Mu Mv Mw BL Jg hV JP Oh LH hZ Mm Mn Mo OU w_lt Sl OV N4 Sn N5 N6 N7 N8 Mp Mq Mr n9 N9 Oa Ms Ot Ou List.getElem?_cons_succ List.getElem?_cons_zero List.set_cons_zero List.set_cons_succ cY bz ck cN d9 Bool.and_self if_true if_false true_and cons_append List.nil_append List.replicate Nat.reduceSub length_cons length_nil Nat.reduceAdd Nat.reduceLeDiff decide_true decide_false Bool.not_true Bool.not_false Bool.false_eq_true Je Jf LG OR ND Ox tE jP kC ik jQ E2 oh qC uf jt Oy L3 Ld Lf DI CU wx JU Tr.int.injEq"
local macro_rules |`(tactic|rfl')=>do
 let a:=((FE++" Sh").splitOn " ").toArray.map λx=>Lean.mkIdent x.toName
 `(tactic|simp only[$[$a:ident],*])
local macro_rules |`(tactic|walk_at "q")=>do
 let a:=(FE.splitOn " ").toArray.map λx=>Lean.mkIdent x.toName
 `(tactic|simp only[$[$a:ident],*])
def eG:Fl->Fl |.o=>.l true |.f=>.f |.l b=>.l b
def eS:Fl->Fl |.o=>.o |.f=>.f |.l _=>.l false
instance:af (bI):=⟨λo=>match o with |none=>.aE |some n=>.int n,λo=>by cases o<;>rfl,λo z=>by cases o<;>cases z⟩
def mT(m:bf):bE:=m.map λp=>(p.1,af.t p.2)
structure gb where
 ls:List (az)
 so:az
 bt:Int
 m:bf
structure gw where
 rs:aw
 us:ah
 sc:az
 ss:f9
 tb:gb
def fB(f:Fl)(S:gb):bg:=[("lines",af.t S.ls),("solved",.ag f ↥S.so),("bottom",.int S.bt),("shut",.aR f (mT S.m))]
def b4(T:Tx w K mg)(f:Fl)(S:gb):Tr:=.ins f T.aaa (fB f S)
def gu(T:Tx w K mg)(f:Fl)(S:gw):bg:=[("rows",af.t S.rs),("unknowns",af.t S.us),("scales",.ag f ↥S.sc),("settled",.ag f ↥S.ss),("table",b4 T f S.tb)]
def cW(T:Tx w K mg)(f:Fl)(S:gw):Tr:=.ins f T.aah (gu T f S)
def jx(f:Fl)(rs:aw)(us:ah)(sc:az):bg:=[("rows",af.t rs),("unknowns",af.t us),("scales",.ag f ↥sc),("settled",.ag f [])]
def gH(T:Tx w K mg)(f:Fl)(rs:aw)(us:ah)(sc:az):Tr:=.ins f T.aah (jx f rs us sc)
def qX(T:Tx w K mg)(C:ae)(g:Nat):Prop:=C=T.aaa/\g=0
def uE(T:Tx w K mg)(C:ae)(g:Nat):Prop:=C=T.aah/\g=0
theorem jO(T:Tx w K mg){x q:Str}{st:Stmt}{ps:ah}{m lo n:Nat}{z:Bool}{g:bK}(r:eW K T.aaa x q st ps)(G:aK P w K mg base bJ m r.a r.d ps (bP K z lo n g)):∀C i,qX T C i->eY P w K mg base bJ m x C ps (bP K z lo n g):=λC i h=>by
 let⟨rfl,rfl⟩:=h;exact⟨T.iA,_,_,r.t,G,r.b⟩
theorem gj(T:Tx w K mg){x q:Str}{st:Stmt}{ps:ah}{m lo n:Nat}{z:Bool}{g:bK}(r:eW K T.aah x q st ps)(G:aK P w K mg base bJ m r.a r.d ps (bP K z lo n g)):∀C i,uE T C i->eY P w K mg base bJ m x C ps (bP K z lo n g):=λC i h=>by
 let⟨rfl,rfl⟩:=h;exact⟨T.eO,_,_,r.t,G,r.b⟩
theorem xX[af j](f:Fl)(xs:List j):aG (.ag f ↥xs)=.ag (eG f) ↥xs:=by
 cases f with
 |f=>rfl
 |o=>show Tr.ag _ (cY _)=_;rw[E2];rfl
 |l b=>rfl
theorem xY[af j](f:Fl)(xs:List j):dn (.ag f ↥xs)=.ag (eS f) ↥xs:=by
 cases f with
 |f=>show Tr.ag .f (ck _)=_;rw[qC];rfl
 |o=>show Tr.ag .o (ck _)=_;rw[qC];rfl
 |l b=>show Tr.ag (.l false) (ck _)=_;rw[qC];rfl
theorem Ux(f:Fl):aG (.ag f [])=.ag (eG f) []:=by cases f<;>rfl
theorem Uy(f:Fl):dn (.ag f [])=.ag (eS f) []:=by cases f<;>rfl
theorem Ud(f:Fl)(m:bf):aG (.aR f (mT m))=.aR (eG f) (mT m):=by
 cases f with
 |f=>rfl
 |o=>show Tr.aR _ (dN _)=_;rw[show dN (mT m)=mT m from (cB _ (jN m)).l];rfl
 |l b=>rfl
theorem Ue(f:Fl)(m:bf):dn (.aR f (mT m))=.aR (eS f) (mT m):=by
 have e:gW (mT m)=mT m:=(cB _ (jN m)).d;cases f with
 |f=>show Tr.aR .f (gW _)=_;rw[e];rfl
 |o=>show Tr.aR .o (gW _)=_;rw[e];rfl
 |l b=>show Tr.aR (.l false) (gW _)=_;rw[e];rfl
theorem xZ(f:Fl)(c:ae)(fs:bg)(h:f=.o\/b3 fs=fs):aG (.ins f c fs)=.ins (eG f) c (b3 fs):=by
 rcases h with rfl |h
 .rfl
 .cases f with
  |o=>rfl
  |f=>show Tr.ins .f c fs=_;rw[h];rfl
  |l b=>show Tr.ins (.l b) c fs=_;rw[h];rfl
theorem x6(f:Fl)(c:ae)(fs:bg):dn (.ins f c fs)=.ins (eS f) c (ij fs):=by cases f<;>rfl
theorem gT(T:Tx w K mg)(f:Fl)(S:gb):aG (b4 T f S)=b4 T (eG f) S:=by
 have e:b3 (fB f S)=fB (eG f) S:=by simp only[fB,b3,Ud,xX,B0,tE]
 unfold b4;rw[xZ _ _ _ ?_,e];cases f with
 |o=>exact .inl rfl
 |f=>exact .inr e
 |l b=>exact .inr e
theorem ic(T:Tx w K mg)(f:Fl)(S:gb):dn (b4 T f S)=b4 T (eS f) S:=by
 unfold b4 fB;rw[x6];simp only[ij,Ue,xY,B2,kC]
theorem ie(T:Tx w K mg)(f:Fl)(S:gw):aG (cW T f S)=cW T (eG f) S:=by
 have e:b3 (gu T f S)=gu T (eG f) S:=by simp only[gu,b3,xX,gT,tE]
 unfold cW;rw[xZ _ _ _ ?_,e];cases f with
 |o=>exact .inl rfl
 |f=>exact .inr e
 |l b=>exact .inr e
theorem jr(T:Tx w K mg)(f:Fl)(S:gw):dn (cW T f S)=cW T (eS f) S:=by
 unfold cW gu;rw[x6];simp only[ij,xY,ic,kC]
theorem Fv(T:Tx w K mg)(f:Fl)(rs:aw)(us:ah)(sc:az):aG (gH T f rs us sc)=gH T (eG f) rs us sc:=by
 have e:b3 (jx f rs us sc)=jx (eG f) rs us sc:=by simp only[jx,b3,xX,Ux,tE]
 unfold gH;rw[xZ _ _ _ ?_,e];cases f with
 |o=>exact .inl rfl
 |f=>exact .inr e
 |l b=>exact .inr e
theorem yz(T:Tx w K mg)(f:Fl)(rs:aw)(us:ah)(sc:az):dn (gH T f rs us sc)=gH T (eS f) rs us sc:=by
 unfold gH jx;rw[x6];simp only[ij,xY,Uy,kC]
theorem fU(T:Tx w K mg)(f:Fl)(S:gb)(Q:ay):pV (some (b4 T f S)) Q=Q (b4 T f S):=rfl
theorem gF(T:Tx w K mg)(f:Fl)(S:gw)(Q:ay):pV (some (cW T f S)) Q=Q (cW T f S):=rfl
theorem yA(T:Tx w K mg)(f:Fl)(rs:aw)(us:ah)(sc:az)(Q:ay):pV (some (gH T f rs us sc)) Q=Q (gH T f rs us sc):=rfl
theorem Ug(m:bf):cD (.aR .o (mT m))=true:=(cB _ (jN m)).o
theorem qw[af j](xs:List j):cD (.ag .o ↥xs)=true:=uf xs
theorem Uh(m:bf):bR (.aR .o (mT m))=true:=(cB _ (jN m)).t
theorem jo[af j](xs:List j):bR (.ag .o ↥xs)=true:=jt xs
theorem qE(T:Tx w K mg)(S:gb):cD (b4 T .o S)=true:=by
 unfold b4 fB;rw[xA];simp only[dP,Ug,qw,ik,B3,Bool.and_self]
theorem Fw(T:Tx w K mg)(S:gb):bR (b4 T .o S)=true:=by
 unfold b4 fB;rw[CY];simp only[fj,Uh,jo,jQ,B4,Bool.and_self]
theorem um(T:Tx w K mg)(S:gw):cD (cW T .o S)=true:=by
 unfold cW gu;rw[xA];simp only[dP,qw,qE,ik,Bool.and_self]
theorem yB(T:Tx w K mg)(S:gw):bR (cW T .o S)=true:=by
 unfold cW gu;rw[CY];simp only[fj,jo,Fw,jQ,Bool.and_self]
theorem Ui(T:Tx w K mg)(rs:aw)(us:ah)(sc:az):cD (gH T .o rs us sc)=true:=by
 unfold gH jx;rw[xA];simp only[dP,qw,ik,show cD (.ag .o [])=true from rfl,Bool.and_self]
section
variable(T:Tx w K mg){f:Fl}{S:gw}{B:gb}{Q:ay}{rs:aw}{us:ah}{sc:az}
theorem l7(q:Q (.ag .f ↥B.ls)):add K "lines" (b4 T f B) Q:=gz ⟨T.iA,T.uL⟩ eT q
theorem qa(q:Q (.ag f ↥B.so)):add K "solved" (b4 T f B) Q:=gz ⟨T.iA,T.uM⟩ (b8 eT) q
theorem sI(q:Q (.int B.bt)):add K "bottom" (b4 T f B) Q:=gz ⟨T.iA,T.uN⟩ (b8 (b8 eT)) q
theorem DP(q:Q (.aR f (mT B.m))):add K "shut" (b4 T f B) Q:=gz ⟨T.iA,T.uO⟩ (b8 (b8 (b8 eT))) q
theorem wF(q:Q (.ag .f ↥S.rs)):add K "rows" (cW T f S) Q:=gz ⟨T.eO,T.oY⟩ eT q
theorem Jj(q:Q (.ag .f ↥S.us)):add K "unknowns" (cW T f S) Q:=gz ⟨T.eO,T.nB⟩ (b8 eT) q
theorem Ct(q:Q (.ag f ↥S.sc)):add K "scales" (cW T f S) Q:=gz ⟨T.eO,T.uP⟩ (b8 (b8 eT)) q
theorem vX(q:Q (.ag f ↥S.ss)):add K "settled" (cW T f S) Q:=gz ⟨T.eO,T.uQ⟩ (b8 (b8 (b8 eT))) q
theorem CK(q:Q (b4 T f S.tb)):add K "table" (cW T f S) Q:=gz ⟨T.eO,T.rN⟩ (b8 (b8 (b8 (b8 eT)))) q
theorem Qk(q:Q (.ag .f ↥rs)):add K "rows" (gH T f rs us sc) Q:=gz ⟨T.eO,T.oY⟩ eT q
theorem Jk(q:Q (.ag .f ↥us)):add K "unknowns" (gH T f rs us sc) Q:=gz ⟨T.eO,T.nB⟩ (b8 eT) q
theorem lp{n:Str}{R:Nat->Prop}(q:R 0)(a:(n == ("lines":Str))=false:=by walk_at "k")(b:(n == ("solved":Str))=false:=by walk_at "k")(d:(n == ("bottom":Str))=false:=by walk_at "k")(e:(n == ("shut":Str))=false:=by walk_at "k"):gR (qX T) n (b4 T f B) R:=xk ⟨rfl,rfl⟩ (b8 (b8 (b8 (b8 xR e) d) b) a) q
theorem iJ{n:Str}{R:Nat->Prop}(q:R 0)(a:(n == ("rows":Str))=false:=by walk_at "k")(b:(n == ("unknowns":Str))=false:=by walk_at "k")(d:(n == ("scales":Str))=false:=by walk_at "k")(e:(n == ("settled":Str))=false:=by walk_at "k")(g:(n == ("table":Str))=false:=by walk_at "k"):gR (uE T) n (cW T f S) R:=xk ⟨rfl,rfl⟩ (b8 (b8 (b8 (b8 (b8 xR g) e) d) b) a) q
theorem qj{n:Str}{R:Nat->Prop}(q:R 0)(a:(n == ("rows":Str))=false:=by walk_at "k")(b:(n == ("unknowns":Str))=false:=by walk_at "k")(d:(n == ("scales":Str))=false:=by walk_at "k")(e:(n == ("settled":Str))=false:=by walk_at "k"):gR (uE T) n (gH T f rs us sc) R:=xk ⟨rfl,rfl⟩ (b8 (b8 (b8 (b8 xR e) d) b) a) q
end
theorem lq{f g:Str}{v u:Tr}{r:bg}(h:(g == f)=false:=by walk_at "k"):gQ g u ((f,v)::r)=(f,v)::gQ g u r:=by
 show (if f=g then _ else _)=_;rw[if_neg λz=>by rw[z,beq_self_eq_true] at h;cases h]
theorem qp{f:Str}{v u:Tr}{r:bg}:fT f u ((f,v)::r)=(f,u)::r:=by
 show (if f=f then _ else _)=_;rw[if_pos rfl]
theorem iK{f g:Str}{v u:Tr}{r:bg}(h:(g == f)=false:=by walk_at "k"):fT g u ((f,v)::r)=(f,v)::fT g u r:=by
 show (if f=g then _ else _)=_;rw[if_neg λz=>by rw[z,beq_self_eq_true] at h;cases h]
theorem TN(S:gb)(a:bf):fT "shut" (.aR .o (mT a)) (fB .o S)=fB .o { S with m:=a }:=by
 unfold fB;rw[iK,iK,iK,qp]
theorem DQ(T:Tx w K mg)(S:gw)(B:gb):fT "table" (b4 T .o B) (gu T .o S)=gu T .o { S with tb:=B }:=by
 unfold gu;rw[iK,iK,iK,iK,qp]
theorem Ql(T:Tx w K mg)(S:gw)(a:f9):fT "settled" (.ag .o ↥a) (gu T .o S)=gu T .o { S with ss:=a }:=by
 unfold gu;rw[iK,iK,iK,qp]
theorem TQ(rs:aw)(us:ah)(sc a:az):fT "scales" (.ag .o ↥a) (jx .o rs us sc)=jx .o rs us a:=by
 unfold jx;rw[iK,iK,qp]
theorem E8(T:Tx w K mg)(S:gw):Tr.ins (.l true) T.aah (b3 (gu T .o S))=cW T (.l true) S:=ie T .o S
theorem gA{f:Fl}[h:Fp f]:eG f=f:=by cases h<;>rfl
theorem i9{f:Fl}[h:Fp f]:eS f=f:=by cases h<;>rfl
theorem TR(m:bf)(y:aS)(k:bI):iF (mT m) y (af.t k)=mT (if (m.any λp=>decide (p.1=y))=true then m.map (λp=>if p.1=y then (p.1,k) else p) else m++[(y,k)]):=by
 unfold iF;have e:((mT m).any λa=>decide (a.1=y))=m.any λp=>decide (p.1=y):=by unfold mT;rw[List.any_map];rfl
 rw[e];split
 .unfold mT;rw[map_map,map_map];refine map_congr_left λp _=>?_
  show (if p.1=y then (p.1,af.t k) else (p.1,af.t p.2))=((if p.1=y then (p.1,k) else p).1,af.t (if p.1=y then (p.1,k) else p).2)
  split<;>rfl
 .unfold mT;rw[map_append];rfl
theorem Bs(T:Tx w K mg){z:Bool}:aK P w K mg base bJ 1 T.oZ.a T.oZ.d ["one","other"] (bP K z 0 2 Hk):=by
 refine cu T.oZ.F Hu rfl ∎ λa7 A outer s H E r u o=>?_
 refine⟨_,(aQ (xN (b7 gE gx (qv 1) aI) (aQ (bM 2 (gC (qv 0) (qv 1)))
  (aQ (bM 0 (qv 1))
  (a6 (bM 1 (qv 2))))))
  (a6 (bV (qv 0)))),?_⟩
 rintro v n _ ⟨_,a,b,rfl,h,i,q⟩;refine⟨λm j=>∃x y z,j=[.int x,.int y,z]/\0<=x/\0<=y/\gd x y=gd a b/\m=y.toNat,⟨_,a,b,.aq,rfl,h,i,rfl,rfl⟩,?_⟩;rintro m j ⟨x,y,z,rfl,g,l,e,rfl⟩;rfl';by_cases f:y=0
 .subst f;rfl';rw[<- e,PN x g] at q;exact q _
 .rw[if_pos (by simp[f])];refine⟨⋯,?_⟩;refine⟨(x % y).toNat,?_,_,_,_,rfl,l,emod_nonneg _ f,?_,rfl⟩
  .have:=emod_lt_of_pos x (show 0<y by omega);have:=emod_nonneg x f;omega
  .rw[Rp g ⋯];exact e
theorem mC(T:Tx w K mg){z:Bool}:aK P w K mg base bJ 2 T.jE.a T.jE.d ["top","bottom"] (bP K z 0 2 Gq):=by
 refine cu T.jE.F Qi rfl ∎ λa7 A outer s H E l m i=>?_
 refine⟨_,(aQ (cQ (b7 ff e8 (qv 1) aI) (a6 sW) cP)
  (aQ (bM 2 (qc T.oZ (Bs T) (au (d7 wd wZ T.uT (au (qv 0) aD)) (au (d7 wd wZ T.uT (au (qv 1) aD)) aD))))
  (aQ (cQ (b7 mJ mi (qv 1) aI) (a6 (bM 2 (gU (qv 2)))) cP)
  (a6 (bV (i5 (au (jm (qv 0) (qv 2)) (au (jm (qv 1) (qv 2)) aD)))))))),?_⟩
 rintro n g _ ⟨_,a,b,rfl,e,f,q⟩;rfl';rw[if_neg (by simp[e])];refine⟨rfl,_,_,rfl,by split<;>omega,by split<;>omega,λj=>?_⟩;rw[PQ];rw[E6,<- B9 e,<- Ca e] at q;unfold dv at q;by_cases h:b<0
 .rw[if_pos h] at q;rw[if_pos (decide_eq_true h)];rfl';exact⟨CW e f,CW e f,q _⟩
 .rw[if_neg h] at q;rw[if_neg (by simp[h])];rfl';exact⟨tq e f,tq e f,q _⟩
theorem CL(T:Tx w K mg){z:Bool}:aK P w K mg base bJ 3 T.o3.a T.o3.d ["one","other"] (bP K z 0 2 (Aj (· - ·))):=by
 refine cu T.o3.F N2 rfl ∎ λa7 A outer s H E h i g=>?_
 refine⟨_,(a6 (bV (qc T.jE (mC T) (au (ua (dA (ba (qv 0) aI) (ba (qv 1) aI)) (dA (ba (qv 1) aI) (ba (qv 0) aI))) (au (dA (ba (qv 0) aI) (ba (qv 1) aI)) aD))))),?_⟩;rintro l f _ ⟨_,a,b,rfl,e,q⟩;rfl';refine⟨eN (iH a) (gy b) ⋯,eN (iH b) (gy a) ⋯,eN (gy a) (gy b) ⋯,rfl,_,_,rfl,ql a b,DF a b e,λj=>?_⟩;rw[<- BU];exact⟨ik _,q _⟩
theorem wz(T:Tx w K mg){z:Bool}:aK P w K mg base bJ 3 T.nD.a T.nD.d ["one","other"] (bP K z 0 2 (Aj (·*·))):=by
 refine cu T.nD.F N3 rfl ∎ λa7 A outer s H E h i g=>?_
 refine⟨_,(a6 (bV (qc T.jE (mC T) (au (dA (ba (qv 0) aI) (ba (qv 1) aI)) (au (dA (ba (qv 0) aI) (ba (qv 1) aI)) aD))))),?_⟩;rintro l f _ ⟨_,a,b,rfl,e,q⟩;rfl';refine⟨eN (iH a) (iH b) ⋯,eN (gy a) (gy b) ⋯,rfl,_,_,rfl,ql a b,DF a b e,λj=>?_⟩;rw[<- BV];exact⟨ik _,q _⟩
theorem BQ(a b:Rat):Rat.divInt (a.num*(b.den:Int)) ((a.den:Int)*b.num)=a / b:=by
 rw[<- Rat.divInt_mul_divInt,Rat.num_divInt_den,Rat.div_def,Rat.inv_def]
def Gv:bK:=cX 2 λd Q=>∃a b:Rat,d=[af.t a,af.t b]/\b≠0/\bs a+bs b<=7990/\Q (af.t (a / b))
theorem Qm(T:Tx w K mg){z:Bool}:aK P w K mg base bJ 3 T.rO.a T.rO.d ["one","other"] (bP K z 0 2 Gv):=by
 refine cu T.rO.F Qj rfl ∎ λa7 A outer s H E i l h=>?_
 refine⟨_,(aQ (cQ (b7 ff e8 (ba (qv 1) aI) aI) (a6 sW) cP)
  (a6 (bV (qc T.jE (mC T) (au (dA (ba (qv 0) aI) (ba (qv 1) aI)) (au (dA (ba (qv 0) aI) (ba (qv 1) aI)) aD)))))),?_⟩
 rintro m f _ ⟨_,a,b,rfl,e,g,q⟩;have hn:b.num≠0:=λz=>e (Rat.num_eq_zero.mp z)
 rfl';rw[if_neg (by simp[hn])];refine⟨eN (iH a) (gy b) ⋯,eN (gy a) (iH b) ⋯,rfl,_,_,rfl,Int.mul_ne_zero (by have:=a.den_nz;omega) hn,le_trans (i6 _ _) (by have:=gy a;have:=iH b;omega),λj=>?_⟩;rw[BQ];exact⟨ik _,q _⟩
def Gw(T:Tx w K mg):fF:=λa Q q=>a.length=2/\∃(f g:Fl)(rs:aw)(us:ah)(_:Fp f)(_:Fp g),a=[.ag f ↥rs,.ag g ↥us]/\(16<rs.length\/8<us.length->q (.ref T.abl))/\(rs.length<=16->us.length<=8->∀j,Q .aE j)
theorem Iy(T:Tx w K mg){z:Bool}:aK P w K mg base (eK P w) 1 T.rP.a T.rP.d ["rows","unknowns"] (iq K z 0 2 (Gw T)):=by
 refine xO T.rP.F II rfl ∎ λa7 A outer s H E q n o m=>?_
 refine⟨_,(a6 (cQ (QW.t (i3 (b7 lB lj (d7 e5 e7 T.e9 (au (qv 0) aD)) (uj T.FT)) (jL (b7 lB lj (d7 e5 e7 T.e9 (au (qv 1) aD)) (uj T.FU))))) (a6 (Q4 rfl rfl rfl rfl rfl rfl T.FW PySem.F.excBase_ValueError T.FX gB)) cP)),?_⟩;rintro r i _ ⟨_,f,g,rs,us,_,_,rfl,b,e⟩;rfl';split
 .rename_i c;exact b (.inl (by have:=of_decide_eq_true c;omega))
 .rename_i c;have j:¬ (16:Int)<(rs.length:Int):=λh=>c (decide_eq_true h)
  split
  .rename_i c2;exact b (.inr (by have:=of_decide_eq_true c2;omega))
  .rename_i c2;have l:¬ (8:Int)<(us.length:Int):=λh=>c2 (decide_eq_true h)
   exact e ⋯ ⋯ _
def uk(m n:Nat)(A:aF)(S:Nat->Nat):List (az):=(List.range m).map λi=>(List.range (n+1)).map (Lp.tt m A S i)
def mY(m:Nat)(S:Nat->Nat):az:=(List.range m).map λi=>(S i:Int)
def cj(m n:Nat)(A:aF)(S:Nat->Nat)(mk:bf):gb:=⟨uk m n A S,mY m S,Lp.dd m A S,mk⟩
structure Sz(m n:Nat)(A:aF):Prop where
 hm:m<=16
 hn:n<=60
 t:∀S i k,(∀i,i<m->S i<n)->k<=n->bi (Lp.tt m A S i k)<=3000
 d:∀S,(∀i,i<m->S i<n)->bi (Lp.dd m A S)<=3000
def cf(ns:az):Nat->Int:=λk=>ns.getD k 0
def lZ(ns:az)(n:Nat):Prop:=ns.length=n/\∀c∈ns,bi c<=3000
theorem pZ{n i j:Nat}(h:(List.range n)[i]?=some j):j<n/\i=j:=by
 let⟨a,b⟩:=List.getElem?_eq_some_iff.mp h;rw[List.getElem_range] at b;rw[length_range] at a;omega
theorem fx{xs:List j}{s:Nat}{x:j}(h:xs[s]?=some x):dc xs (s:Int)=some x:=by
 let⟨a,e⟩:=List.getElem?_eq_some_iff.mp h;rw[tM xs ⋯ (by simpa using a)];simp[e]
theorem eM[af j](xs:List j):Pu.aA (.ag .o ↥xs)=af.t xs:=by show Tr.ag .f (bz _)=_;rw[oh];rfl
theorem DR[af j](h:i->List j):∀vs:List i,bz (vs.map λv=>.ag .o ((h v).map af.t))=(vs.map h).map af.t
 |[]=>rfl
 |v::vs=>by
  show Pu.aA (.ag .o ((h v).map af.t))::bz (vs.map λv=>.ag .o ((h v).map af.t))=af.t (h v)::(vs.map h).map af.t;rw[DR h vs];show Tr.ag .f (bz _)::_=_;rw[oh];rfl
theorem DS[af j](h:i->List j):∀vs:List i,d9 (vs.map λv=>.ag .o ((h v).map af.t))=true
 |[]=>rfl
 |v::vs=>by
  show (bR (.ag .o ((h v).map af.t))&&d9 (vs.map λv=>.ag .o ((h v).map af.t)))=true;rw[DS h vs,jo];rfl
def GW(T:Tx w K mg):bK:=λa Q=>a.length=3/\∃(f g:Fl)(ls:List (az))(so:az)(_:Fp f)(_:Fp g),a=[.ins .o T.aaa [],.ag f ↥ls,.ag g ↥so]/\ls.length<=100/\∀j:ai,j[0]?=some (b4 T .o ⟨ls,so,1,[]⟩)->Q .aE j
theorem HK(T:Tx w K mg){z:Bool}:aK P w K mg base bJ 1 T.rE.a T.rE.d ["self","lines","solved"] (bP K z 1 3 (GW T)):=by
 refine cu T.rE.F HH rfl ∎ λa7 A outer s H E j n h=>?_
 refine⟨_,(aQ (tw (dg 0) (gc ["line"] [none] (eC (qv 1)) (dk 0) (λ_ _ _ _ _=>(iN (iI rfl) iy T.fv (au (qv 0) aD)))))
  (aQ (mn (dg 0) (iN (iI rfl) iy T.fv (au (qv 2) aD)))
  (aQ (mn (dg 0) aI)
  (a6 (mn (dg 0) tL))))),?_⟩
 rintro r e _ ⟨_,f,g,ls,so,_,_,rfl,i,q⟩;rfl';refine aZ.qN ls _ (λl=>.ag .o ↥l) ⋯ (λl m R b=>?_) ?_
 .rfl';exact b
 rw[show Pu.aA (.ag .o (ls.map λl=>.ag .o ↥l))=.ag .f (bz (ls.map λl=>.ag .o ↥l)) from rfl,DR (λl=>l),List.map_id'];refine⟨DS (λl=>l) ls,⟨T.iA,T.uL⟩,∎,⟨T.iA,T.uM⟩,∎,⟨T.iA,T.uN⟩,by (repeat first |rw[l9] |rw[lq]);exact (by decide:2<900),rfl,⟨T.iA,T.uO⟩,by (repeat first |rw[l9] |rw[lq]);exact (by decide:3<900),q _ ?_⟩
 (repeat first |rw[l9] |rw[lq])
 rfl
theorem Nt(ns:az)(d:Int)(S:Nat->Nat)(t:aF)(h:ns.length=n):ns.map (λc=>c*d)++[0]=(List.range (n+1)).map λk=>d*cf ns k - Lp.sm 0 λj=>cf ns (S j)*t j k:=by
 apply ext_getElem?;intro k;rw[getElem?_map,List.getElem?_append,length_map,h];by_cases q:k<n
 .rw[if_pos q,getElem?_map,getElem?_range ⋯,getElem?_eq_getElem ⋯];simp only[map_some,cf,Lp.sm,Int.sub_zero,getD_eq_getElem?_getD,getElem?_eq_getElem (show k<ns.length by omega),Option.getD_some,mul_comm]
 .rw[if_neg q];by_cases e:k=n
  .subst e;rw[getElem?_range ⋯];simp[cf,Lp.sm,getD_eq_getElem?_getD,getElem?_eq_none (show ns.length<=k by omega)]
  .rw[getElem?_eq_none (show (List.range (n+1)).length<=k by rw[length_range];omega),getElem?_eq_none (by simp;omega)];rfl
theorem Qn(n:Nat)(a:Nat->Int)(v:Int)(t:Nat->Int):List.zipWith (λx y=>x - v*y) ((List.range (n+1)).map a) ((List.range (n+1)).map t)=(List.range (n+1)).map λk=>a k - v*t k:=by
 rw[List.zipWith_map,List.zipWith_self]
theorem TU{ns:az}{n:Nat}(h:lZ ns n)(k:Nat):bi (cf ns k)<=3000:=by
 unfold cf;rw[getD_eq_getElem?_getD];by_cases q:k<ns.length
 .rw[getElem?_eq_getElem q];exact h.2 _ (getElem_mem q)
 .rw[getElem?_eq_none ⋯];decide
theorem Uz{ns:az}{n k:Nat}(h:ns.length=n)(a:k<n):ns[k]?=some (cf ns k):=by
 unfold cf;rw[getD_eq_getElem?_getD,getElem?_eq_getElem ⋯];rfl
theorem UA(m n:Nat)(M:aF)(S:Nat->Nat)(mk:bf):(cj m n M S mk).ls.zip (cj m n M S mk).so=(List.range m).map λi=>((List.range (n+1)).map (Lp.tt m M S i),(S i:Int)):=by
 show List.zip ((List.range m).map _) ((List.range m).map _)=_;rw[List.zip_eq_zipWith,List.zipWith_map,List.zipWith_self]
def Af(T:Tx w K mg):bK:=cX 2 λa Q=>∃(f g:Fl)(m n:Nat)(M:aF)(S:Nat->Nat)(mk:bf)(ns:az)(_:Fp f)(_:Fp g),a=[b4 T f (cj m n M S mk),.ag g ↥ns]/\Sz m n M/\(∀i,i<m->S i<n)/\lZ ns n/\Q (af.t ((List.range (n+1)).map (Lp.zz m M (cf ns) S)))
theorem Bt(T:Tx w K mg){z:Bool}:aK P w K mg base bJ 1 T.oW.a T.oW.d ["self","costs"] (bP K z 0 2 (Af T)):=by
 refine cu T.oW.F Hv rfl ∎ λa7 A outer s H E Q U O=>?_
 refine⟨_,(aQ (bM 2 (fq (gc ["cost","self"] [none,some 0] (eC (qv 1)) (dk 0) (λ_ _ _ _ _=>(dA (qv 0) (cT K (qv 1))))) (gh (au aI aD))))
  (aQ (fR (kB T.kd (au (cT K (qv 0)) (au (cT K (qv 0)) aD))) (i8 (n:=2) rfl (ew (dq 3) (ew (dq 4) iU))) (aQ (bM 5 (ba (qv 1) (qv 4)))
  (a6 (cQ (b7 gE gx (qv 5) aI) (a6 (nW 2 ["one","other","cost"] [none,none,some 5] (kB T.kd (au (qv 2) (au (qv 3) aD))) (oy (n:=2) rfl (iT (dk 0) (iT (dk 1) nV))) (λ_ _ _ _ _=>(ua (qv 0) (dA (qv 2) (qv 1)))))) cP))))
  (a6 (bV (qv 2))))),?_⟩
 rintro Y N _ ⟨_,f,g,m,n,M,S,mk,ns,_,_,rfl,h,v,x,q⟩;have hn:=h.hn;have hm:=h.hm;have B:=x.1;have hd:=h.d S v;rfl';simp only[gT,gA,fU];refine aZ.map ns _ (λc=>c*Lp.dd m M S) ⋯ (λc I R r=>?_) ?_
 .rfl';simp only[fU];refine sI T ?_;rfl';exact⟨eN (x.2 c I) hd ⋯,r⟩
 rfl';refine⟨⋯,l7 T (qa T ?_)⟩;rfl';rw[Nt ns (Lp.dd m M S) S (Lp.tt m M S) B];rw[UA,map_map];refine Loop.map (List.range m) _ (λi G=>∃y z u,G=[b4 T f (cj m n M S mk),.ag g ↥ns,af.t ((List.range (n+1)).map λk=>Lp.dd m M S*cf ns k - Lp.sm i λj=>cf ns (S j)*Lp.tt m M S j k),y,z,u]) ⟨_,_,_,rfl⟩ ?_ ?_
 .rintro i j G hj ⟨y,z,u,rfl⟩;let⟨C,rfl⟩:=pZ hj;dsimp only[Function.comp];rfl';refine d8 _ _ _ (fx (Uz B (v i C))) ?_;rfl';by_cases o:cf ns (S i)=0
  .rw[if_neg (by simp[o])];simp only[Lp.sm,o,zero_mul,Int.add_zero];exact⟨_,_,_,rfl⟩
  .rw[if_pos (by simp[o]),ia,ia,n9,n9,wx];refine aZ.map _ _ (λp=>p.1 - cf ns (S i)*p.2) (by rw[List.length_zip,length_map,length_range];omega) (λp J R r=>?_) ?_
   .rfl';let⟨k,D,e⟩:=mem_map.mp (of_mem_zip J).2;rw[mem_range] at D;exact⟨eN (TU x _) (e ▸ h.t S i k v ⋯) ⋯,r⟩
   .have e3:∀L l:az,(L.zip l).map (λp=>p.1 - cf ns (S i)*p.2)=List.zipWith (λa b=>a - cf ns (S i)*b) L l:=λL l=>by rw[List.zip_eq_zipWith,List.map_zipWith]
    rw[e3,Qn,eM];simp only[Lp.sm,<- Int.sub_sub];exact⟨jo _,_,_,_,rfl⟩
 .rintro G ⟨y,z,u,rfl⟩;rfl';rw[length_range];exact q _
def fD(mk:bf)(k:Nat):Prop:=(look (mT mk) (Sum.inl (k:Int))).isSome=true
theorem n6{f:Nat->Int}{n k:Nat}(h:k<n):((List.range n).map f)[k]?=some (f k):=by rw[getElem?_map,getElem?_range h];rfl
section
variable(T:Tx w K mg){f₀ f g:Fl}{m n:Nat}{M:aF}{S:Nat->Nat}{mk:bf}{ns:az}{Q:ay}
theorem Cu[Fp f][Fp g](d:Sz m n M)(a:∀i,i<m->S i<n)(b:lZ ns n)(q:Q (af.t ((List.range (n+1)).map (Lp.zz m M (cf ns) S)))):gR (qX T) "costs_left" (b4 T f₀ (cj m n M S mk)) λ_=>Af T [b4 T f (cj m n M S mk),.ag g ↥ns] λt _=>Q t:=lp T ⟨rfl,f,g,m,n,M,S,mk,ns,‹_›,‹_›,rfl,d,a,b,λ_=>q⟩
end
def Ag(T:Tx w K mg):bK:=cX 2 λa Q=>∃(f g:Fl)(m n:Nat)(M:aF)(S:Nat->Nat)(mk:bf)(ns:az)(_:Fp f)(_:Fp g),a=[b4 T f (cj m n M S mk),.ag g ↥ns]/\Sz m n M/\(∀i,i<m->S i<n)/\lZ ns n/\(∀e:Nat,Lp.Ent m n M (cf ns) (fD mk) S e->Q (.int e))/\((∀k,k<n->¬ fD mk k->0<=Lp.zz m M (cf ns) S k)->Q .aE)
theorem Bv(T:Tx w K mg){z:Bool}:aK P w K mg base bJ 2 T.oX.a T.oX.d ["self","costs"] (bP K z 0 2 (Ag T)):=by
 refine cu T.oX.F HY rfl ∎ λa7 A outer s H E L N I=>?_
 refine⟨_,(aQ (bM 2 (ft (jO T T.oW (Bt T)) (qv 0) (au (qv 1) aD)))
  (aQ (fR (xP T.uS (au (d7 e5 e7 T.e9 (au (qv 1) aD)) aD)) (dq 3) (a6 (cQ (QW.t (xu (b7 mJ mi (ba (qv 2) (qv 3)) aI) (w4 (b7 w5 v7 (qv 3) (cT K (qv 0)))))) (a6 (bV (qv 3))) cP)))
  (a6 (bV i2)))),?_⟩
 rintro O D _ ⟨_,f,g,m,n,M,S,mk,ns,_,_,rfl,B,C,v,q⟩;have hn:=B.hn;have J:=v.1;rfl';simp only[gT,ic,gA,i9,fU];refine Cu T B C v ?_;rfl';refine⟨⋯,⋯,Loop.map _ _ (λi G=>(∃y,G=[b4 T f (cj m n M S mk),.ag g ↥ns,af.t ((List.range (n+1)).map (Lp.zz m M (cf ns) S)),y])/\∀k,k<i->¬ fD mk k->0<=Lp.zz m M (cf ns) S k) ⟨⟨_,rfl⟩,λk o=>absurd o ⋯⟩ ?_ ?_⟩
 .rintro i j G hj ⟨⟨y,rfl⟩,o⟩;have r:j<ns.length/\i=j:=by have:=pZ hj;omega
  let⟨r,rfl⟩:=r;rfl';rw[ia,hZ,hV];refine d8 _ _ _ (fx (n6 (show i<n+1 by omega))) ?_;rfl';have u:(Lp.zz m M (cf ns) S i<0->fD mk i)->∀k,k<i+1->¬ fD mk k->0<=Lp.zz m M (cf ns) S k:=λh k b l=>by
   by_cases e:k=i
   .subst e;have:¬ Lp.zz m M (cf ns) S k<0:=λx=>l (h x)
    omega
   .exact o k ⋯ l
  by_cases h:Lp.zz m M (cf ns) S i<0
  .rw[if_pos (decide_eq_true h)];simp only[gT,gA,fU];refine DP T (show if (!(look (mT mk) (Sum.inl (i:Int))).isSome)=true then _ else _ from ?_);by_cases l:fD mk i
   .rw[if_neg (by rw[show (look (mT mk) (Sum.inl (i:Int))).isSome=true from l];decide)];exact⟨⟨_,rfl⟩,u λ_=>l⟩
   .rw[if_pos (by rw[show (look (mT mk) (Sum.inl (i:Int))).isSome=false from eq_false_of_ne_true l];rfl)];exact q.1 i ⟨⋯,h,l,λk b=>o k b⟩ _
  .rw[if_neg (by simpa using h)];exact⟨⟨_,rfl⟩,u λx=>absurd x h⟩
 .rintro G ⟨⟨y,rfl⟩,o⟩;rfl';exact q.2 (λk b=>o k (by simpa using (show k<ns.length by omega))) _
theorem qx{m n i:Nat}{M:aF}{S:Nat->Nat}{mk:bf}(h:i<m):(cj m n M S mk).ls[i]?=some ((List.range (n+1)).map (Lp.tt m M S i)):=by
 show ((List.range m).map _)[i]?=_;rw[getElem?_map,getElem?_range h];rfl
theorem x8{m n i:Nat}{M:aF}{S:Nat->Nat}{mk:bf}(h:i<m):(cj m n M S mk).so[i]?=some (S i:Int):=by
 show ((List.range m).map _)[i]?=_;rw[getElem?_map,getElem?_range h];rfl
theorem yC{n:Nat}(f:Nat->Int):dc ((List.range (n+1)).map f) (-1)=some (f n):=by
 rw[List.range_succ,map_append];exact Dm
def oG(m n:Nat)(M:aF)(S:Nat->Nat)(c i b:Nat):Bool:=decide (Lp.tt m M S i n*Lp.tt m M S b c<Lp.tt m M S b n*Lp.tt m M S i c) || (decide (Lp.tt m M S i n*Lp.tt m M S b c=Lp.tt m M S b n*Lp.tt m M S i c)&&decide ((S i:Int)<(S b:Int)))
def GX(T:Tx w K mg):bK:=cX 4 λa Q=>∃(f:Fl)(m n:Nat)(M:aF)(S:Nat->Nat)(mk:bf)(i b c:Nat)(_:Fp f),a=[b4 T f (cj m n M S mk),.int i,.int b,.int c]/\Sz m n M/\(∀i,i<m->S i<n)/\i<m/\b<m/\c<n/\Q (.bl (oG m n M S c i b))
theorem Hs(T:Tx w K mg){z:Bool}:aK P w K mg base bJ 1 T.rH.a T.rH.d ["self","number","best","column"] (bP K z 0 4 (GX T)):=by
 refine cu T.rH.F HB rfl ∎ λa7 A outer s H E G I C=>?_
 refine⟨_,(aQ (bM 4 (ba (cT K (qv 0)) (qv 1)))
  (aQ (bM 5 (ba (cT K (qv 0)) (qv 2)))
  (aQ (bM 6 (dA (ba (qv 4) (gU aI)) (ba (qv 5) (qv 3))))
  (aQ (bM 7 (dA (ba (qv 5) (gU aI)) (ba (qv 4) (qv 3))))
  (a6 (bV (qF (fQ mJ mi (qv 6) (qv 7)) (i4 (kz (fQ ff e8 (qv 6) (qv 7)) (i4 (fQ mJ mi (ba (cT K (qv 0)) (qv 1)) (ba (cT K (qv 0)) (qv 2))))))))))))),?_⟩
 rintro J B _ ⟨_,f,m,n,M,S,mk,i,b,c,_,rfl,u,y,r,o,D,q⟩;have hn:=u.hn;rfl';simp only[gT,ic,gA,i9,fU];refine l7 T ?_;rw[hZ,hV];refine d8 _ _ _ (fx (qx r)) ⟨jQ _,?_⟩;refine l7 T ?_;rw[hZ,hV];refine d8 _ _ _ (fx (qx o)) ⟨jQ _,?_⟩;rfl';simp only[ia];rfl';have v:∀j,dc ((List.range (n+1)).map (Lp.tt m M S j)) (-1)=some (Lp.tt m M S j n):=λj=>yC _
 have x:∀j,dc ((List.range (n+1)).map (Lp.tt m M S j)) (c:Int)=some (Lp.tt m M S j c):=λj=>fx (n6 ⋯)
 simp only[v,x,map_some];rfl';have l:=λj k (h:k<=n)=>u.t S j k y h
 refine⟨eN (l i n (le_refl _)) (l b c ⋯) ⋯,eN (l b n (le_refl _)) (l i c ⋯) ⋯,?_⟩;unfold oG at q;by_cases e:Lp.tt m M S i n*Lp.tt m M S b c<Lp.tt m M S b n*Lp.tt m M S i c
 .rw[if_pos (decide_eq_true e)];rw[decide_eq_true e,Bool.true_or] at q;exact q _
 .rw[if_neg (by simpa using e)];rw[decide_eq_false e,Bool.false_or] at q;by_cases g:Lp.tt m M S i n*Lp.tt m M S b c=Lp.tt m M S b n*Lp.tt m M S i c
  .rw[if_pos (decide_eq_true g)];rw[decide_eq_true g,Bool.true_and] at q;refine qa T ?_;rw[hZ,hV];refine d8 _ _ _ (fx (x8 r)) (qa T ?_);rw[hZ,hV];refine d8 _ _ _ (fx (x8 o)) ?_;exact⟨rfl,q _⟩
  .rw[if_neg (by simpa using g)];rw[decide_eq_false g,Bool.false_and] at q;exact q _
def iw(m n:Nat)(M:aF)(S:Nat->Nat)(c b i:Nat):Prop:=Lp.tt m M S b n*Lp.tt m M S i c<Lp.tt m M S i n*Lp.tt m M S b c\/(Lp.tt m M S b n*Lp.tt m M S i c=Lp.tt m M S i n*Lp.tt m M S b c/\S b<=S i)
def jA(m n:Nat)(M:aF)(S:Nat->Nat)(c i:Nat):Option Nat->Prop
 |none=>∀j,j < i -> Lp.tt m M S j c <= 0
 |some b=>b < i /\ 0 < Lp.tt m M S b c /\ ∀j,j < i -> 0 < Lp.tt m M S j c -> iw m n M S c b j
theorem iw.trans{m n:Nat}{M:aF}{S:Nat->Nat}{c a b i:Nat}(d:0<Lp.tt m M S a c)(f:0<Lp.tt m M S b c)(j:0<Lp.tt m M S i c)(h:iw m n M S c a b)(g:iw m n M S c b i):iw m n M S c a i:=by
 unfold iw at *;generalize Lp.tt m M S a c=x at *;generalize Lp.tt m M S b c=y at *;generalize Lp.tt m M S i c=z at *;generalize Lp.tt m M S a n=u at *;generalize Lp.tt m M S b n=v at *;generalize Lp.tt m M S i n=w at *;have t:=Lp.tr (a:=u) (b:=v) (c:=w) d f j ⋯ ⋯;by_cases e:u*z=w*x
 .refine .inr ⟨e,?_⟩;have l:=Lp.tr (a:=w) (b:=u) (c:=v) j d f ⋯ ⋯;have r2:=Lp.tr (a:=v) (b:=w) (c:=u) f j d ⋯ ⋯;omega
 .exact .inl ⋯
theorem zV{m n:Nat}{M:aF}{S:Nat->Nat}{c i b:Nat}:(oG m n M S c i b=true->iw m n M S c i b)/\(oG m n M S c i b=false->iw m n M S c b i):=by
 unfold oG iw;simp only[Bool.or_eq_true,and_eq_true,decide_eq_true_eq,Bool.or_eq_false_iff,Bool.and_eq_false_iff,decide_eq_false_iff_not];omega
theorem EA{Q:ay}:kq false .aE .aE Q=Q (.bl true):=rfl
theorem EB{Q:ay}{i:Int}:kq false (.int i) .aE Q=Q (.bl false):=rfl
theorem xr{Q:ay}:kq true .aE .aE Q=Q (.bl false):=rfl
theorem TV{Q:ay}{i:Int}:kq true (.int i) .aE Q=Q (.bl true):=rfl
def oT:Option Nat->Tr
 |none=>.aE
 |some b=>.int b
theorem TX(m n:Nat)(M:aF)(S:Nat->Nat)(mk:bf):(cj m n M S mk).ls.zipIdx=(List.range m).map λi=>((List.range (n+1)).map (Lp.tt m M S i),i):=by
 apply ext_getElem?;intro k;rw[List.getElem?_zipIdx,getElem?_map];by_cases h:k<m
 .rw[qx h,getElem?_range h];simp
 .rw[getElem?_eq_none (show (cj m n M S mk).ls.length<=k by show ((List.range m).map _).length<=k;rw[length_map,length_range];omega),getElem?_eq_none (by rw[length_range];omega)];rfl
theorem jA.skip{m n:Nat}{M:aF}{S:Nat->Nat}{c i:Nat}{o:Option Nat}(h:jA m n M S c i o)(hn:¬ 0<Lp.tt m M S i c):jA m n M S c (i+1) o:=by
 cases o with
 |none=>
  intro j a;by_cases e:j=i
  .subst e;omega
  .exact h j ⋯
 |some b=>
  refine⟨by have:=h.1;omega,h.2.1,λj a p=>?_⟩;by_cases e:j=i
  .subst e;exact absurd p hn
  .exact h.2.2 j ⋯ p
theorem jA.keep{m n:Nat}{M:aF}{S:Nat->Nat}{c i b:Nat}(h:jA m n M S c i (some b))(g:iw m n M S c b i):jA m n M S c (i+1) (some b):=
 ⟨by have:=h.1;omega,h.2.1,λj a p=>by
  by_cases e:j=i
  .subst e;exact g
  .exact h.2.2 j ⋯ p⟩
theorem iw.refl{m n:Nat}{M:aF}{S:Nat->Nat}{c i:Nat}:iw m n M S c i i:=.inr ⟨rfl,le_refl _⟩
theorem jA.take{m n:Nat}{M:aF}{S:Nat->Nat}{c i:Nat}{o:Option Nat}(h:jA m n M S c i o)(a:0<Lp.tt m M S i c)(g:∀b,o=some b->iw m n M S c i b):jA m n M S c (i+1) (some i):=
 ⟨Nat.lt_succ_self i,a,λj d p=>by
  by_cases e:j=i
  .subst e;exact .refl
  .cases o with
   |none=>have:=h j ⋯;omega
   |some b=>exact (g b rfl).trans a h.2.1 p (h.2.2 j ⋯ p)⟩
def Gx(T:Tx w K mg):bK:=cX 2 λa Q=>∃(f:Fl)(m n:Nat)(M:aF)(S:Nat->Nat)(mk:bf)(c:Nat)(_:Fp f),a=[b4 T f (cj m n M S mk),.int c]/\Sz m n M/\(∀i,i<m->S i<n)/\c<n/\(∀r:Nat,Lp.Lv m n M S r c->Q (.int r))/\((∀i,i<m->Lp.tt m M S i c<=0)->Q .aE)
theorem Hy(T:Tx w K mg){z:Bool}:aK P w K mg base bJ 2 T.rG.a T.rG.d ["self","column"] (bP K z 0 2 (Gx T)):=by
 refine cu T.rG.F Hw rfl ∎ λa7 A outer s H E I J D=>?_
 refine⟨_,(aQ (bM 2 i2)
  (aQ (fR (ox T.nE (au (cT K (qv 0)) aD)) (i8 (n:=2) rfl (ew (dq 3) (ew (dq 4) iU))) (a6 (cQ (QW.t (xu (b7 lB lj (ba (qv 4) (qv 1)) aI) (w4 (QW.t (i3 (b7 Eo Er (qv 2) i2) (jL (gD (ft (jO T T.rH (Hs T)) (qv 0) (au (qv 3) (au (qv 2) (au (qv 1) aD))))))))))) (a6 (bM 2 (qv 3))) cP)))
  (a6 (bV (qv 2))))),?_⟩
 rintro L B _ ⟨_,f,m,n,M,S,mk,c,_,rfl,l,v,x,q⟩;have hn:=l.hn;have hm:=l.hm;rfl';simp only[gT,ic,gA,i9,fU];refine l7 T ?_;rfl';rw[TX,map_map];refine Loop.map (List.range m) _ (λi G=>∃(o:Option Nat)(y z:Tr),G=[b4 T f (cj m n M S mk),.int c,oT o,y,z]/\jA m n M S c i o) ⟨none,_,_,rfl,λj h=>absurd h ⋯⟩ ?_ ?_
 .rintro i j G h ⟨o,y,z,rfl,ho⟩;let⟨r,rfl⟩:=pZ h;dsimp only[Function.comp];rfl';simp only[ia];rfl';refine d8 _ _ _ (fx (n6 (show c<n+1 by omega))) ?_;rfl';by_cases g:0<Lp.tt m M S i c
  .rw[if_pos (decide_eq_true g)];cases o with
   |none=>
    rw[show oT none=.aE from rfl];rfl';rw[EA];exact⟨some i,_,_,rfl,ho.take g λb e=>by cases e⟩
   |some b=>
    rw[show oT (some b)=.int b from rfl];rfl';rw[EB];rfl';simp only[gT,ic,gA,i9,fU];refine lp T ⟨rfl,f,m,n,M,S,mk,i,b,c,‹_›,rfl,l,v,r,Nat.lt_trans ho.1 r,x,λ_=>?_⟩;rfl';cases e:oG m n M S c i b with
    |true=>exact⟨some i,_,_,rfl,ho.take g λC u=>by cases u;exact zV.1 e⟩
    |false=>exact⟨some b,_,_,rfl,ho.keep (zV.2 e)⟩
  .rw[if_neg (by simpa using g)];exact⟨o,_,_,rfl,ho.skip g⟩
 .rintro G ⟨o,y,z,rfl,ho⟩;rw[length_range] at ho;cases o with
  |none=>
   rw[show oT none=.aE from rfl];rfl';exact q.2 ho _
  |some b=>
   rw[show oT (some b)=.int b from rfl];rfl';exact q.1 b ⟨ho.1,ho.2.1,ho.2.2⟩ _
theorem mD{xs:ai}{k:Nat}{t:Tr}{Q:aU}(h:k<xs.length)(q:Q (xs.set k t)):pD xs (.int k) t Q:=by
 show (match iQ xs.length (k:Int) with |some n=>Q (xs.set n t) |none=>False);have e:iQ xs.length (k:Int)=some k:=by unfold iQ;rw[if_pos ⋯,if_pos (by simpa using h)];simp
 rw[e];exact q
theorem Nu{xs:ai}{k:Nat}{t:Tr}{Q:aU}(h:k<xs.length)(q:Q (xs.set k t)):kS (.ag .o xs) λxs=>pD xs (.int k) t Q:=mD h q
theorem Cv(F:Nat->j)(i:Nat):(List.range (i+1)).map F=(List.range i).map F++[F i]:=by rw[List.range_succ,map_append];rfl
def nR(m n:Nat)(M:aF)(S:Nat->Nat)(r c i k:Nat):Int:=(Lp.tt m M S i k*Lp.tt m M S r c - Lp.tt m M S i c*Lp.tt m M S r k).fdiv (Lp.dd m M S)
theorem Qo{m n:Nat}{M:aF}{S:Nat->Nat}{r c:Nat}(f:Sz m n M)(G:Lp.Gd m n M S)(a:r<m)(b:c<n)(d:0<Lp.tt m M S r c):((List.range m).map λj=>(List.range (n+1)).map (nR m n M S r c j)).set r ((List.range (n+1)).map (Lp.tt m M S r))=uk m n M (Lp.up S r c):=by
 apply ext_getElem?;intro i;unfold uk;rw[getElem?_set,getElem?_map,getElem?_map,length_map,length_range];by_cases e:r=i
 .subst e;rw[if_pos rfl,if_pos a,getElem?_range a,map_some];congr 1;exact map_congr_left λk _=>Lp.bQ.symm
 .rw[if_neg e];by_cases h:i<m
  .rw[getElem?_range h,map_some,map_some];congr 1;refine map_congr_left λk _=>?_
   unfold nR;rw[<- Lp.dW G.cr k h a (Ne.symm e)];exact Int.mul_fdiv_cancel_left _ (ne_of_gt G.pos)
  .rw[getElem?_eq_none (by rw[length_range];omega)];rfl
theorem Qp{m:Nat}{S:Nat->Nat}{r c:Nat}(a:r<m):(mY m S).set r (c:Int)=mY m (Lp.up S r c):=by
 apply ext_getElem?;intro i;unfold mY;rw[getElem?_set,getElem?_map,getElem?_map,length_map,length_range];by_cases e:r=i
 .subst e;rw[if_pos rfl,if_pos a,getElem?_range a];simp[Lp.up]
 .rw[if_neg e];by_cases h:i<m
  .rw[getElem?_range h];simp[Lp.up,Ne.symm e]
  .rw[getElem?_eq_none (by rw[length_range];omega)];rfl
theorem EC{f:Str}{v u:Tr}{r:bg}:gQ f u ((f,v)::r)=(f,u)::r:=by
 show (if f=f then _ else _)=_;rw[if_pos rfl]
theorem Qq(B:gb)(ls:List (az)):gQ "lines" (.ag .f ↥ls) (fB .o B)=fB .o { B with ls:=ls }:=by unfold fB;rw[EC];rfl
theorem Qr(B:gb)(d:Int):gQ "bottom" (.int d) (fB .o B)=fB .o { B with bt:=d }:=by unfold fB;rw[lq,lq,EC]
theorem Qs(B:gb)(so:az):fT "solved" (.ag .o ↥so) (fB .o B)=fB .o { B with so:=so }:=by unfold fB;rw[iK,qp]
def Gy(T:Tx w K mg):bK:=λa Q=>a.length=3/\∃(m n:Nat)(M:aF)(S:Nat->Nat)(mk:bf)(r c:Nat),a=[b4 T .o (cj m n M S mk),.int r,.int c]/\Sz m n M/\Lp.Gd m n M S/\r<m/\c<n/\0<Lp.tt m M S r c/\∀j:ai,j[0]?=some (b4 T .o (cj m n M (Lp.up S r c) mk))->Q .aE j
theorem Iz(T:Tx w K mg){z:Bool}:aK P w K mg base bJ 1 T.rJ.a T.rJ.d ["self","number","column"] (bP K z 3 3 (Gy T)):=by
 refine cu T.rJ.F IL rfl ∎ λa7 A outer s H E hr hu U=>?_
 refine⟨_,(aQ (bM 3 (ba (cT K (qv 0)) (qv 1)))
  (aQ (cQ (b7 mJ mi (ba (qv 3) (qv 2)) aI) (a6 (nW 3 ["entry"] [none] (eC (qv 3)) (dk 0) (λ_ _ _ _ _=>(gU (qv 0))))) cP)
  (aQ (bM 4 (ba (qv 3) (qv 2)))
  (aQ (jn 5 (gh aD))
  (aQ (fR (eC (cT K (qv 0))) (dq 6) (aQ (bM 7 (ba (qv 6) (qv 2)))
  (a6 (oq (dg 5) (gc ["one","other","self","middle","entry"] [none,none,some 0,some 4,some 7] (kB T.kd (au (qv 6) (au (qv 3) aD))) (oy (n:=2) rfl (iT (dk 0) (iT (dk 1) nV))) (λ_ _ _ _ _=>(jm (ua (dA (qv 0) (qv 3)) (dA (qv 4) (qv 1))) (cT K (qv 2)))))))))
  (aQ (n4 (dg 5) (qv 1) (qv 3))
  (Ft 5 (aQ (tw (dg 0) (qv 5))
  (aQ (mn (dg 0) (qv 4))
  (a6 (n4 (oz (dg 0)) (qv 1) (qv 2)))))))))))),?_⟩
 rintro xs Q _ ⟨_,m,n,M,S,mk,r,c,rfl,f,G,b,D,N,q⟩;have hn:=f.hn;have hm:=f.hm;rfl';simp only[gT,ic,eG,eS,fU];refine l7 T ?_;rw[hZ,hV];refine d8 _ _ _ (fx (qx b)) ⟨jQ _,?_⟩;rfl';simp only[ia];rfl';have x:dc ((List.range (n+1)).map (Lp.tt m M S r)) (c:Int)=some (Lp.tt m M S r c):=fx (n6 ⋯);simp only[x,map_some];rfl';rw[if_neg (by simp;omega)];refine l7 T ?_;rfl';rw[show (cj m n M S mk).ls=(List.range m).map λi=>(List.range (n+1)).map (Lp.tt m M S i) from rfl,map_map];refine Loop.map (List.range m) _ (λi J=>∃(y z:Tr),J=[b4 T .o (cj m n M S mk),.int r,.int c,af.t ((List.range (n+1)).map (Lp.tt m M S r)),.int (Lp.tt m M S r c),.ag .o (((List.range i).map λj=>(List.range (n+1)).map (nR m n M S r c j)).map af.t),y,z]) ⟨_,_,rfl⟩ ?_ ?_
 .rintro i j J hj ⟨y,z,rfl⟩;let⟨Y,rfl⟩:=pZ hj;have B:dc ((List.range (n+1)).map (Lp.tt m M S i)) (c:Int)=some (Lp.tt m M S i c):=fx (n6 ⋯);dsimp only[Function.comp];rfl';simp only[ia];rfl';simp only[B,map_some];rfl';simp only[gT,eG];refine aZ.map _ _ (λp=>(p.1*Lp.tt m M S r c - Lp.tt m M S i c*p.2).fdiv (Lp.dd m M S)) (by rw[List.length_zip,length_map,length_range];omega) (λp h R C=>?_) ?_
  .rfl';∎;let⟨k,I,e⟩:=mem_map.mp (of_mem_zip h).1;let⟨O,g,v⟩:=mem_map.mp (of_mem_zip h).2;∎;rw[mem_range] at I g;have l:bi p.1<=3000:=by rw[<- e];exact f.t S i k G.lt ⋯
   have u:bi p.2<=3000:=by rw[<- v];exact f.t S r O G.lt ⋯
   refine⟨eN l (f.t S r c G.lt ⋯) ⋯,eN (f.t S i c G.lt ⋯) u ⋯,?_⟩;simp only[fU];refine sI T ?_;rfl';exact⟨yh (ne_of_gt G.pos) (le_trans (f.d S G.lt) ⋯),C⟩
  .have eR:((((List.range (n+1)).map (Lp.tt m M S i)).zip ((List.range (n+1)).map (Lp.tt m M S r))).map λp=>(p.1*Lp.tt m M S r c - Lp.tt m M S i c*p.2).fdiv (Lp.dd m M S))=(List.range (n+1)).map (nR m n M S r c i):=by rw[List.zip_map',map_map];rfl
   rw[eR,eM,Cv _ i,map_append (l₂:=[_])];exact⟨jo _,by rw[length_range];omega,_,_,rfl⟩
 .rintro J ⟨y,z,rfl⟩;rfl';rw[length_range];refine mD (by rw[length_map,length_map,length_range];exact b) ?_;rw[<- map_set,Qo f G b D N,oh];refine⟨jt _,?_⟩;unfold b4;rfl';rw[Qq,Qr];refine⟨⟨T.iA,T.uL⟩,(by decide:4<900),⟨T.iA,T.uN⟩,(by decide:4<900),tN rfl ⟨T.iA,T.uM⟩ (b8 eT) ?_⟩;dsimp only[cj];have L:r<((mY m S).map af.t).length:=by unfold mY;rw[length_map,length_map,length_range];exact b
  refine Nu L ?_;rw[show Tr.int (c:Int)=af.t (c:Int) from rfl,<- map_set,Qp b,Qs];refine q _ ?_;unfold b4 cj;rw[Lp.dI];rfl
def jZ(m:Nat)(mk:bf)(S:Nat->Nat):Prop:=∀i,i<m->¬ fD mk (S i)
def uH(m n:Nat)(M:aF)(mk:bf)(c:Nat->Int)(S:Nat->Nat):Prop:=∀k,k<n->¬ fD mk k->0<=Lp.zz m M c S k
def Gz(T:Tx w K mg):bK:=λb Q=>b.length=2/\∃(g:Fl)(m n:Nat)(M:aF)(S:Nat->Nat)(mk:bf)(ns:az)(_:Fp g),b=[b4 T .o (cj m n M S mk),.ag g ↥ns]/\Sz m n M/\Lp.Gd m n M S/\jZ m mk S/\lZ ns n/\(∀a,Lp.Gd m n M a->jZ m mk a->uH m n M mk (cf ns) a->∀j:ai,j[0]?=some (b4 T .o (cj m n M a mk))->Q .aE j)/\(∀a (e:Nat),Lp.Gd m n M a->jZ m mk a->Lp.Ent m n M (cf ns) (fD mk) a e->(∀i,i<m->Lp.tt m M a i e<=0)->∀j:ai,j[0]?=some (b4 T .o (cj m n M a mk))->Q (.int e) j)
def yN(m n:Nat)(M:aF)(mk:bf)(c:Nat->Int)(S:Nat->Nat):Option Nat->Prop
 |none=>uH m n M mk c S
 |some e=>Lp.Ent m n M c (fD mk) S e
theorem Fx(o:Option Nat):bR (oT o)=true:=by cases o<;>rfl
theorem Fy(o:Option Nat):Pu.aA (oT o)=oT o:=by cases o<;>rfl
theorem jZ.turn{m n:Nat}{M:aF}{mk:bf}{c:Nat->Int}{S:Nat->Nat}{r e:Nat}(h:jZ m mk S)(E:Lp.Ent m n M c (fD mk) S e):jZ m mk (Lp.up S r e):=λi a=>by
 unfold Lp.up;split
 .exact E.2.2.1
 .exact h i a
theorem Ia(T:Tx w K mg){z:Bool}:aK P w K mg base bJ 3 T.rF.a T.rF.d ["self","costs"] (bP K z 2 2 (Gz T)):=by
 refine cu T.rF.F HX rfl ∎ λa7 A outer s H E hr hu x=>?_
 refine⟨_,(aQ (bM 2 (ft (jO T T.oX (Bv T)) (qv 0) (au (qv 1) aD)))
  (aQ (xN (b7 w9 v8 (qv 2) i2) (aQ (bM 3 (ft (jO T T.rG (Hy T)) (qv 0) (au (qv 2) aD)))
  (aQ (cQ (b7 Eo Er (qv 3) i2) (a6 (bV (qv 2))) cP)
  (aQ (Dy (qo (dg 0) (jO T T.rJ (Iz T)) (lD (qv 3) (lD (qv 2) qg))))
  (a6 (bM 2 (ft (jO T T.oX (Bv T)) (qv 0) (au (qv 1) aD))))))))
  (a6 (bV i2)))),?_⟩
 rintro xs Q' _ ⟨_,g,m,n,M,S,mk,ns,_,rfl,D,G,x,Q,Y,q2⟩;have q:∀(S:Nat->Nat)(u f:Fl) [Fp f] (R:ay),Lp.Gd m n M S->(∀o,yN m n M mk (cf ns) S o->R (oT o))->gR (qX T) "falling" (b4 T u (cj m n M S mk)) λ_=>Ag T [b4 T f (cj m n M S mk),.ag g ↥ns] λt _=>R t:=λS u f _ R G h=>
  lp T ⟨rfl,f,g,m,n,M,S,mk,ns,‹_›,‹_›,rfl,D,G.lt,Q,λe B _=>h (some e) B,λB _=>h none B⟩
 rfl';simp only[gT,ic,eG,eS,fU];refine q S _ _ _ G λo i=>?_
 rw[Fx,Fy];refine⟨rfl,?_⟩;refine⟨λN j=>∃(b:Nat->Nat)(o:Option Nat)(y:Tr),j=[b4 T .o (cj m n M b mk),.ag g ↥ns,oT o,y]/\Lp.Gd m n M b/\jZ m mk b/\Lp.je m n M (cf ns) (fD mk) b N/\yN m n M mk (cf ns) b o,⟨_,S,o,_,rfl,G,x,Lp.Ho G,i⟩,?_⟩;rintro N j ⟨b,o,y,rfl,G,x,O,i⟩;cases o with
 |none=>
  rw[show oT none=.aE from rfl];rfl';rw[xr];rfl';exact Y b G x i _ rfl
 |some e=>
  rw[show oT (some e)=.int e from rfl];rfl';rw[TV];rfl';simp only[gT,ic,eG,eS,fU];refine lp T ⟨rfl,.l false,m,n,M,b,mk,e,inferInstance,rfl,D,G.lt,i.1,λr v _=>?_,λv _=>?_⟩
  .rfl';rw[EB];rfl';refine⟨trivial,lp T ?_⟩;rfl';simp only[show cK (b4 T .o (cj m n M b mk)) []=b4 T .o (cj m n M b mk) from rfl,ic,eS];refine⟨rfl,m,n,M,b,mk,r,e,rfl,D,G,v.1,i.1,v.2.1,λj' L=>?_⟩;dsimp only;rw[L,fU];refine⟨qE T _,?_⟩;simp only[gP,gT,ic,eG,eS,fU];have I:=G.turn v i.1;refine q (Lp.up b r e) _ _ _ I λU C=>?_
   rw[Fx,Fy];let⟨b1,J⟩:=O.step ⟨r,e,i,v,rfl⟩;exact⟨rfl,N - 1,⋯,_,U,_,rfl,I,x.turn i,J,C⟩
  .rfl';rw[EA];rfl';exact q2 b e G x i v _ rfl
def jT(m n:Nat)(M:aF)(mk:bf)(c:Nat->Int)(S:Nat->Nat)(k:Nat):Bool:=decide (0<Lp.zz m M c S k) && !(look (mT mk) (Sum.inl (k:Int))).isSome
def fA(m n:Nat)(M:aF)(mk:bf)(c:Nat->Int)(S:Nat->Nat)(a:Int)(i:Nat):bf:=mk++((List.range i).filter (jT m n M mk c S)).map λ(k:Nat)=>((Sum.inl (k:Int):aS),some a)
theorem DT(mk:bf)(y:aS):(look (mT mk) y).isSome=mk.any λp=>decide (p.1=y):=by
 unfold look mT;rw[isSome_map,List.find?_map,isSome_map,List.isSome_find?];rfl
theorem nH{mk:bf}{k:Nat}:fD mk k↔∃p∈mk,p.1=Sum.inl (k:Int):=by
 unfold fD;rw[DT,any_eq_true];simp only[decide_eq_true_eq]
theorem TY{m n:Nat}{M:aF}{mk:bf}{c:Nat->Int}{S:Nat->Nat}{a:Int}{i k:Nat}:fD (fA m n M mk c S a i) k↔fD mk k\/(k<i/\0<Lp.zz m M c S k):=by
 rw[nH,nH];unfold fA;constructor
 .rintro⟨p,b,e⟩;rcases mem_append.mp b with b |b
  .exact .inl ⟨p,b,e⟩
  .obtain⟨j,mj,rfl⟩:=mem_map.mp b;let⟨f,d⟩:=mem_filter.mp mj;unfold jT at d;simp only[and_eq_true,decide_eq_true_eq] at d;have:j=k:=Int.ofNat.inj (Sum.inl.inj e);subst this;exact .inr ⟨mem_range.mp f,d.1⟩
 .intro h;by_cases g:fD mk k
  .obtain⟨p,b,e⟩:=nH.mp g;exact⟨p,mem_append.mpr (.inl b),e⟩
  .rcases h with h |⟨f,d⟩
   .exact absurd (nH.mpr h) g
   .refine⟨_,mem_append.mpr (.inr (mem_map.mpr ⟨k,mem_filter.mpr ⟨mem_range.mpr f,?_⟩,rfl⟩)),rfl⟩;unfold jT;rw[decide_eq_true d,eq_false_of_ne_true g];rfl
theorem CM{m n:Nat}{M:aF}{mk:bf}{c:Nat->Int}{S:Nat->Nat}{a:Int}{i:Nat}:(look (mT (fA m n M mk c S a i)) (Sum.inl (i:Int))).isSome=(look (mT mk) (Sum.inl (i:Int))).isSome:=by
 apply Bool.eq_iff_iff.mpr;show fD (fA m n M mk c S a i) i↔fD mk i;rw[TY];exact⟨λh=>h.elim id λh=>absurd h.1 (lt_irrefl _),.inl⟩
theorem CN{m n:Nat}{M:aF}{mk:bf}{c:Nat->Int}{S:Nat->Nat}{a:Int}{i:Nat}:fA m n M mk c S a (i+1)=if jT m n M mk c S i=true then fA m n M mk c S a i++[((Sum.inl (i:Int):aS),some a)] else fA m n M mk c S a i:=by
 unfold fA;rw[List.range_succ,List.filter_append,map_append,<- append_assoc];split
 .rename_i h;rw[List.filter_cons_of_pos h];rfl
 .rename_i h;rw[List.filter_cons_of_neg h];simp
theorem Qt{m n:Nat}{M:aF}{mk:bf}{c:Nat->Int}{S:Nat->Nat}{a:Int}{i:Nat}:(fA m n M mk c S a i).length<=mk.length+i:=by
 unfold fA;rw[length_append,length_map];have:=length_filter_le (jT m n M mk c S) (List.range i);rw[length_range] at this;omega
def GA(T:Tx w K mg):bK:=λa Q=>a.length=3/\∃(g:Fl)(m n:Nat)(M:aF)(S:Nat->Nat)(mk:bf)(ns:az)(k:Int)(_:Fp g),a=[b4 T .o (cj m n M S mk),.ag g ↥ns,.int k]/\Sz m n M/\(∀i,i<m->S i<n)/\lZ ns n/\mk.length<=10000/\∀j:ai,j[0]?=some (b4 T .o (cj m n M S (fA m n M mk (cf ns) S k n)))->Q (af.t ((List.range (n+1)).map (Lp.zz m M (cf ns) S))) j
theorem Ht(T:Tx w K mg){z:Bool}:aK P w K mg base bJ 2 T.rK.a T.rK.d ["self","costs","mark"] (bP K z 3 3 (GA T)):=by
 refine cu T.rK.F HC rfl ∎ λa7 A outer s H E L N J=>?_
 refine⟨_,(aQ (bM 3 (ft (jO T T.oW (Bt T)) (qv 0) (au (qv 1) aD)))
  (aQ (fR (xP T.uS (au (d7 e5 e7 T.e9 (au (qv 1) aD)) aD)) (dq 4) (a6 (cQ (QW.t (xu (b7 lB lj (ba (qv 3) (qv 4)) aI) (w4 (b7 w5 v7 (qv 4) (cT K (qv 0)))))) (a6 (ub (oz (dg 0)) (qv 4) (qv 2))) cP)))
  (a6 (bV (qv 3))))),?_⟩
 rintro O I _ ⟨_,g,m,n,M,S,mk,ns,k,_,rfl,v,B,u,hm,q⟩;have hn:=v.hn;have C:=u.1;rfl';simp only[gT,ic,eG,eS,fU];refine Cu T v B u ?_;rfl';refine⟨⋯,⋯,Loop.map _ _ (λi G=>∃(y:Tr),G=[b4 T .o (cj m n M S (fA m n M mk (cf ns) S k i)),.ag g ↥ns,.int k,af.t ((List.range (n+1)).map (Lp.zz m M (cf ns) S)),y]) ⟨_,by unfold fA;rw[List.range_zero,List.filter_nil,map_nil,append_nil]⟩ ?_ ?_⟩
 .rintro i j G hj ⟨y,rfl⟩;have b:j<ns.length/\i=j:=by have:=pZ hj;omega
  let⟨b,rfl⟩:=b;rfl';rw[ia,hZ,hV];refine d8 _ _ _ (fx (n6 (show i<n+1 by omega))) ?_;rfl';have l:jT m n M mk (cf ns) S i=false->fA m n M mk (cf ns) S k (i+1)=fA m n M mk (cf ns) S k i:=λh=>by rw[CN,h,if_neg ∎]
  by_cases h:0<Lp.zz m M (cf ns) S i
  .rw[if_pos (decide_eq_true h)];simp only[gT,eG,fU];refine DP T (show if (!(look (mT (fA m n M mk (cf ns) S k i)) (Sum.inl (i:Int))).isSome)=true then _ else _ from ?_);rw[CM];by_cases f:(look (mT mk) (Sum.inl (i:Int))).isSome=true
   .rw[f,if_neg ∎,l (by unfold jT;rw[f];simp)];exact⟨_,rfl⟩
   .rw[eq_false_of_ne_true f,if_pos ∎];have D:=Qt (m:=m) (n:=n) (M:=M) (mk:=mk) (c:=cf ns) (S:=S) (a:=k) (i:=i);refine tN rfl ⟨T.iA,T.uO⟩ (b8 (b8 (b8 eT))) ⟨by show (mT (fA m n M mk (cf ns) S k i)).length<1000000;unfold mT;rw[length_map];omega,?_⟩;rw[show Tr.int k=af.t (some k:bI) from rfl];have e:=TR (fA m n M mk (cf ns) S k i) (Sum.inl (i:Int)) (some k);rw[if_neg (by rw[<- DT,CM];exact f)] at e;have x:jT m n M mk (cf ns) S i=true:=by unfold jT;rw[decide_eq_true h,eq_false_of_ne_true f];rfl
    have r:=CN (m:=m) (n:=n) (M:=M) (mk:=mk) (c:=cf ns) (S:=S) (a:=k) (i:=i);rw[if_pos x] at r;rw[r];dsimp only[cj];rw[e,TN];exact⟨_,rfl⟩
  .rw[if_neg (by simpa using h),l (by unfold jT;rw[decide_eq_false h];rfl)];exact⟨_,rfl⟩
 .rintro G ⟨y,rfl⟩;rfl';refine q _ ?_;rw[show (List.range ((ns.length:Int)).toNat).length=n by rw[length_range];simpa using C];rfl
theorem Nv(x:Int)(ns:az):oA (.int x) ↥ns=decide (x∈ns):=by
 induction ns with
 |nil=>rfl
 |cons n ns a=>
  unfold oA ug at a ⊢;rw[map_cons,map_cons,any_cons,a];by_cases h:x=n
  .simp[h,nM,iP]
  .simp[h,nM,iP,Ne.symm h]
theorem Cy:∀ns:az,(↥ns).all lW=true
 |[]=>rfl
 |n::ns=>by simp only[map_cons,all_cons,Cy ns,Bool.and_true];rfl
theorem DU{neg:Bool}{f:Fl}{x:Int}{ns:az}{Q:ay}(q:Q (.bl (if neg=true then !decide (x∈ns) else decide (x∈ns)))):oH neg (.int x) (.ag f ↥ns) Q:=⟨rfl,Cy ns,by rw[Nv];exact q⟩
def jd(m n:Nat)(M:aF)(S:Nat->Nat)(k:Nat):Rat:=Rat.divInt (Lp.gV m n M S k) (Lp.dd m M S)
def GB(T:Tx w K mg):bK:=cX 2 λa Q=>∃(f:Fl)(m n:Nat)(M:aF)(S:Nat->Nat)(mk:bf)(k:Nat)(_:Fp f),a=[b4 T f (cj m n M S mk),.int k]/\Sz m n M/\Lp.Gd m n M S/\k<n/\Q (af.t (jd m n M S k))
theorem GC{m n k:Nat}{M:aF}{S:Nat->Nat}{mk:bf}:(k:Int)∈(cj m n M S mk).so↔∃i,i<m/\S i=k:=by
 show (k:Int)∈(List.range m).map (λi=>(S i:Int))↔_;rw[mem_map];exact⟨λ⟨i,h,e⟩=>⟨i,mem_range.mp h,Int.ofNat.inj e⟩,λ⟨i,h,e⟩=>⟨i,mem_range.mpr h,by rw[e]⟩⟩
theorem IA(T:Tx w K mg){z:Bool}:aK P w K mg base bJ 3 T.rL.a T.rL.d ["self","column"] (bP K z 0 2 (GB T)):=by
 refine cu T.rL.F IM rfl ∎ λa7 A outer s H E D I B=>?_
 refine⟨_,(aQ (cQ (b7 w5 v7 (qv 1) (cT K (qv 0))) (a6 (bV (mH [0,1] T.lQ T.lR))) cP)
  (a6 (bV (qc T.jE (mC T) (au (ba (ba (cT K (qv 0)) (Sy (cT K (qv 0)) (qv 1))) (gU aI)) (au (cT K (qv 0)) aD)))))),?_⟩
 rintro L y _ ⟨_,f,m,n,M,S,mk,k,_,rfl,o,G,v,q⟩;rfl';simp only[gT,gA,fU];refine qa T (DU ?_);by_cases h:(k:Int)∈(cj m n M S mk).so
 .rw[decide_eq_true h];rfl';refine l7 T (qa T ?_);have C:(cj m n M S mk).so.length=m:=by show ((List.range m).map _).length=m;rw[length_map,length_range]
  have hm:=o.hm;refine⟨f,(cj m n M S mk).so,rfl,_,rfl,h,⋯,?_⟩;have b:(cj m n M S mk).so.idxOf (k:Int)<m:=by have:=List.idxOf_lt_length_iff.mpr h;omega
  have g:(cj m n M S mk).so[(cj m n M S mk).so.idxOf (k:Int)]?=some (k:Int):=by
   have l:(cj m n M S mk).so.idxOf (k:Int)<(cj m n M S mk).so.length:=⋯
   rw[getElem?_eq_getElem l];exact congrArg some (by simpa using List.getElem_idxOf l)
  generalize (cj m n M S mk).so.idxOf (k:Int)=j at b g;rw[x8 b] at g;have r:S j=k:=Int.ofNat.inj (Option.some.inj g);rw[hZ,hV];refine d8 _ _ _ (fx (qx b)) ?_;rw[ia,hZ,hV,yC];refine d8 _ _ _ rfl (sI T ?_);refine⟨rfl,Lp.tt m M S j n,Lp.dd m M S,rfl,ne_of_gt G.pos,le_trans (o.d S G.lt) ⋯,λJ=>⟨ik _,?_⟩⟩;have e:jd m n M S k=Rat.divInt (Lp.tt m M S j n) (Lp.dd m M S):=by unfold jd;rw[<- r,Lp.fG G b]
  rw[<- e];exact q _
 .rw[decide_eq_false h];rfl';have e:jd m n M S k=0:=by unfold jd;rw[Lp.cE (ne_of_lt v) λi u x=>h (GC.mpr ⟨i,u,x⟩),Rat.zero_divInt]
  rw[e] at q;exact q _
def ju(b:Int)(c:Rat):Int:=b.fdiv (gd b (c.den:Int))*(c.den:Int)
def cc(cs:bo):Int:=cs.foldl ju 1
theorem Qu{b:Int}(i:0<b)(c:Rat):ju b c=((Int.lcm b (c.den:Int):Nat):Int):=by
 have hd:(0:Int)<(c.den:Int):=natCast_pos.mpr c.den_pos;have d:=lh (a:=b) (b:=(c.den:Int)) (ne_of_gt hd);let⟨x,f⟩:=sM b (c.den:Int);have e:b.fdiv (gd b (c.den:Int))=x:=by
  have:=Int.mul_fdiv_cancel_left (a:=gd b (c.den:Int)) x (ne_of_gt d);rwa[<- f] at this
 unfold ju;rw[e];have h:=Int.gcd_mul_lcm b (c.den:Int);have g:gd b (c.den:Int)*((Int.lcm b (c.den:Int):Nat):Int)=b*(c.den:Int):=by
  unfold gd;rw[<- natCast_mul,h,natCast_mul,Int.natAbs_of_nonneg (le_of_lt i),Int.natAbs_of_nonneg (le_of_lt hd)]
 apply Int.eq_of_mul_eq_mul_left (ne_of_gt d);rw[g]
 conv=>rhs;lhs;rw[f]
 grind
theorem gf:∀(cs:bo)(b:Int),0<b->0<cs.foldl ju b/\b ∣ cs.foldl ju b/\(∀c∈cs,(c.den:Int) ∣ cs.foldl ju b)/\∀X:Nat,b ∣ (X:Int)->(∀c∈cs,(c.den:Int) ∣ (X:Int))->cs.foldl ju b ∣ (X:Int)
 |[],b,hb=>⟨hb,Int.dvd_refl _,λc m=>(nomatch m),λX h _=>h⟩
 |c::cs,b,hb=>by
  have hd:(0:Int)<(c.den:Int):=natCast_pos.mpr c.den_pos;have a:=Qu hb c;have i:0<ju b c:=by rw[a];exact natCast_pos.mpr (Int.lcm_pos (ne_of_gt hb) (ne_of_gt hd))
  let⟨j,f,l,n⟩:=gf cs (ju b c) i;refine⟨j,dvd_trans (by rw[a];exact Int.dvd_lcm_left _ _) f,λd m=>?_,λX g e=>?_⟩
  .rcases mem_cons.mp m with rfl |m
   .exact dvd_trans (by rw[a];exact Int.dvd_lcm_right _ _) f
   .exact l d m
  .refine n X ?_ λd m=>e d (.tail _ m)
   rw[a];exact Int.natCast_dvd_natCast.mpr (Int.lcm_dvd g (e c (.head _)))
theorem ku{a:Int}{X:Nat}(h:a ∣ (X:Int))(d:0<X):bi a<=bi (X:Int):=by
 have b:a.natAbs<=X:=le_of_dvd d (Int.natAbs_dvd_natAbs.mpr h);refine iL (lt_of_le_of_lt b ?_);have:=jl (x:=(X:Int)) (le_refl _);rwa[natAbs_natCast] at this
def qZ(cs:bo)(X:Nat):Prop:=0<X/\(∀c∈cs,(c.den:Int) ∣ (X:Int))/\bi (X:Int)<=3000
def GY:bK:=cX 1 λb Q=>∃(f:Fl)(a:bo)(X:Nat)(_:Fp f),b=[.ag f ↥a]/\qZ a X/\Q (.int (cc a))
theorem Bw(T:Tx w K mg){z:Bool}:aK P w K mg base bJ 2 T.o6.a T.o6.d ["fractions"] (bP K z 0 1 GY):=by
 refine cu T.o6.F HU rfl ∎ λa7 A outer s H E L M G=>?_
 refine⟨_,(aQ (bM 1 aI)
  (aQ (fR (eC (qv 0)) (dq 2) (a6 (bM 1 (dA (jm (qv 1) (qc T.oZ (Bs T) (au (qv 1) (au (ba (qv 2) aI) aD)))) (ba (qv 2) aI)))))
  (a6 (bV (qv 1))))),?_⟩
 rintro N C _ ⟨_,f,b,X,_,rfl,⟨h,hd,I⟩,q⟩;rfl';refine Loop.map b af.t (λi j=>∃y,j=[.ag f ↥b,.int (cc (b.take i)),y]) ⟨_,rfl⟩ ?_ ?_
 .rintro i c j hc ⟨y,rfl⟩;have m:=mem_of_getElem? hc;let⟨p1,_,_,B⟩:=gf (b.take i) 1 ∎;have o:=B X (one_dvd _) λc m=>hd c (List.mem_of_mem_take m)
  have g:(0:Int)<(c.den:Int):=natCast_pos.mpr c.den_pos;have D:=ku o h;have r:=ku (hd c m) h;have e:cc (b.take (i+1))=ju (cc (b.take i)) c:=by
   unfold cc;rw[take_add_one,hc,List.foldl_append];rfl
  rw[e];show (_:Prop);rfl';refine⟨rfl,cc (b.take i),(c.den:Int),rfl,le_of_lt p1,le_of_lt g,λ_=>?_⟩;rfl';have J:=xQ (a:=cc (b.take i)) (ne_of_gt g) r;refine⟨yh (ne_of_gt (lh (ne_of_gt g))) ⋯,eN (n:=6001) (m:=3000) ?_ ⋯ ⋯,_,rfl⟩;let⟨x,l⟩:=sM (cc (b.take i)) (c.den:Int);have v:(cc (b.take i)).fdiv (gd (cc (b.take i)) (c.den:Int))=x:=by
   have:=Int.mul_fdiv_cancel_left (a:=gd (cc (b.take i)) (c.den:Int)) x (ne_of_gt (lh (ne_of_gt g)));rwa[<- l] at this
  rw[v];have u:x ∣ (X:Int):=dvd_trans (show x ∣ cc (b.take i) by rw[l];exact Int.dvd_mul_left _ _) o;have:=ku u h;omega
 .rintro j ⟨y,rfl⟩;rfl';rw[take_length];exact q _
def dX(b:Int)(c:Rat):Int:=c.num*b.fdiv (c.den:Int)
def Gi:bK:=cX 2 λb Q=>∃(f:Fl)(a:bo)(X:Nat)(_:Fp f),b=[.ag f ↥a,.int (cc a)]/\qZ a X/\a.length<=100/\(∀c∈a,bs c<=3000)/\Q (.ag .o ((a.map (dX (cc a))).map af.t))
theorem Bx(T:Tx w K mg){z:Bool}:aK P w K mg base bJ 1 T.o7.a T.o7.d ["fractions","bottom"] (bP K z 0 2 Gi):=by
 refine cu T.o7.F HV rfl ∎ λa7 A outer s H E J L D=>?_
 refine⟨_,(a6 (bV (gc ["fraction","bottom"] [none,some 1] (eC (qv 0)) (dk 0) (λ_ _ _ _ _=>(dA (ba (qv 0) aI) (jm (qv 1) (ba (qv 0) aI))))))),?_⟩;rintro M v _ ⟨_,f,b,X,_,rfl,⟨g,hd,G⟩,I,o,q⟩;rfl';refine aZ.map b _ (dX (cc b)) ⋯ (λc m R l=>?_) ⟨qw _,q _⟩;rfl';have e:(0:Int)<(c.den:Int):=natCast_pos.mpr c.den_pos;let⟨p1,_,p3,r⟩:=gf b 1 ∎;have u:=r X (one_dvd _) hd;have y:=ku (hd c m) g;have C:=o c m;have B:=iH c;refine⟨yh (ne_of_gt e) ⋯,eN (n:=3000) (m:=3000) ⋯ ?_ ⋯,l⟩;let⟨x,h⟩:=p3 c m;have j:(cc b).fdiv (c.den:Int)=x:=by
  have:=Int.mul_fdiv_cancel_left (a:=(c.den:Int)) x (ne_of_gt e);rwa[<- h] at this
 rw[j];have i:x ∣ (X:Int):=dvd_trans (show x ∣ b.foldl ju 1 by rw[h];exact Int.dvd_mul_left _ _) u;have:=ku i g;omega
theorem ue{i j:Int}(h:i.natAbs<1000)(h':j.natAbs<1000):kf i j:=.inr ⟨10,∎,⋯,⋯⟩
def r0(fs:bg)(rs:aw)(us:ah):Prop:=fs.lookup ("rows":Str)=some (Tr.ag .f ↥rs)/\fs.lookup ("unknowns":Str)=some (Tr.ag .f ↥us)
theorem gZ(T:Tx w K mg)(f:Fl)(S:gw):r0 (gu T f S) S.rs S.us:=⟨eT,b8 eT⟩
theorem uo(f:Fl)(rs:aw)(us:ah)(sc:az):r0 (jx f rs us sc) rs us:=⟨eT,b8 eT⟩
theorem xB{f:Fl}[h:Fp f](c:ae)(fs:bg):aG (.ins f c fs)=.ins f c fs:=by cases h<;>rfl
theorem yD(f:Fl)(c:ae)(fs:bg)(Q:ay):pV (some (.ins f c fs)) Q=Q (.ins f c fs):=rfl
def GD(T:Tx w K mg):bK:=cX 1 λa Q=>∃(f:Fl)(fs:bg)(rs:aw)(us:ah)(_:Fp f),a=[.ins f T.aah fs]/\r0 fs rs us/\rs.length<=100/\Q (.int ((us.length+2*rs.length:Nat):Int))
theorem Ib(T:Tx w K mg){z:Bool}:aK P w K mg base bJ 1 T.rh.a T.rh.d ["self"] (bP K z 0 1 (GD T)):=by
 refine cu T.rh.F HZ rfl ∎ λa7 A outer s H E i j e=>?_
 refine⟨_,(a6 (bV (fq (d7 e5 e7 T.e9 (au (cT K (qv 0)) aD)) (dA aI (d7 e5 e7 T.e9 (au (cT K (qv 0)) aD)))))),?_⟩;rintro l b _ ⟨_,f,fs,rs,us,_,rfl,h,g,q⟩;rfl';simp only[xB,yD];refine gz ⟨T.eO,T.nB⟩ h.2 ?_;rfl';refine gz ⟨T.eO,T.oY⟩ h.1 ?_;rfl';refine⟨ue ∎ ⋯,?_⟩;rw[show (us.length:Int)+2*(rs.length:Int)=((us.length+2*rs.length:Nat):Int) by omega];exact q _
def Ao(T:Tx w K mg)(d:Nat):bK:=cX 2 λa Q=>∃(f:Fl)(fs:bg)(rs:aw)(us:ah)(i:Nat)(_:Fp f),a=[.ins f T.aah fs,.int i]/\r0 fs rs us/\i<=100/\Q (.int ((us.length+2*i+d:Nat):Int))
theorem sC(T:Tx w K mg){z:Bool}:aK P w K mg base bJ 1 T.lO.a T.lO.d ["self","number"] (bP K z 0 2 (Ao T 0)):=by
 refine cu T.lO.F Im rfl ∎ λa7 A outer s H E j l e=>?_
 refine⟨_,(a6 (bV (fq (d7 e5 e7 T.e9 (au (cT K (qv 0)) aD)) (dA aI (qv 1))))),?_⟩;rintro m b _ ⟨_,f,fs,rs,us,i,_,rfl,h,g,q⟩;rfl';simp only[xB,yD];refine gz ⟨T.eO,T.nB⟩ h.2 ?_;rfl';refine⟨ue ∎ ⋯,?_⟩;rw[show (us.length:Int)+2*(i:Int)=((us.length+2*i+0:Nat):Int) by omega];exact q _
theorem sD(T:Tx w K mg){z:Bool}:aK P w K mg base bJ 1 T.lP.a T.lP.d ["self","number"] (bP K z 0 2 (Ao T 1)):=by
 refine cu T.lP.F Io rfl ∎ λa7 A outer s H E j l e=>?_
 refine⟨_,(a6 (bV (fq (fq (d7 e5 e7 T.e9 (au (cT K (qv 0)) aD)) (dA aI (qv 1))) aI))),?_⟩;rintro m b _ ⟨_,f,fs,rs,us,i,_,rfl,h,g,q⟩;rfl';simp only[xB,yD];refine gz ⟨T.eO,T.nB⟩ h.2 ?_;rfl';refine⟨ue ∎ ⋯,?_⟩;rw[show (us.length:Int)+2*(i:Int)+1=((us.length+2*i+1:Nat):Int) by omega];exact q _
theorem RD{j:Type}(A:List j)(x:j):iG (A++[x]) none (some (-1))=A:=by
 have a:HT.dQ (A++[x]).length 0 none=0:=rfl;have b:HT.dQ (A++[x]).length (A++[x]).length (some (-1))=A.length:=by unfold HT.dQ;simp;omega
 unfold iG;rw[a,b];simp
theorem Nw{j:Type}(A:List j)(x:j):iG (A++[x]) (some (-1)) none=[x]:=by
 have a:HT.dQ (A++[x]).length 0 (some (-1))=A.length:=by unfold HT.dQ;simp;omega
 have b:HT.dQ (A++[x]).length (A++[x]).length none=A.length+1:=by unfold HT.dQ;simp
 unfold iG;rw[a,b];simp
def fY(us:ah)(o:bY):bo:=us.map λu=>(bZ o.1 u).getD 0
def cg(us:ah)(o:bY):bo:=fY us o++[o.2.2.1]
def bF(us:ah)(o:bY):Int:=cc (cg us o)
def ez(us:ah)(o:bY):az:=(fY us o).map (dX (bF us o))
def cI(us:ah)(o:bY):Int:=dX (bF us o) o.2.2.1
def A0(U R i:Nat)(E:az)(x:Int)(k:Nat):Int:=if k<U then E.getD k 0 else if k=U+2*i then 1 else if k=U+2*i+1 then -1 else if k=U+2*R then x else 0
def jK(us:ah)(R i:Nat)(o:bY):az:=(List.range (us.length+2*R+1)).map (A0 us.length R i (ez us o) (cI us o))
def uI(us:ah)(o:bY):Prop:=(∃X,qZ (cg us o) X)/\∀c∈cg us o,bs c<=3000
theorem TZ{U R i:Nat}{E:az}{x:Int}(f:E.length=U)(g:i<R):((E++List.replicate (2*R) 0++[x]).set (U+2*i+0) 1).set (U+2*i+1) (-1)=(List.range (U+2*R+1)).map (A0 U R i E x):=by
 apply ext_getElem?;intro k;rw[getElem?_set,getElem?_set,length_set,getElem?_map,length_append,length_append,length_replicate,f];by_cases h:k<U+2*R+1
 .rw[getElem?_range h,map_some];unfold A0;by_cases d:k<U
  .rw[if_neg ⋯,if_neg ⋯,getElem?_append_left (by rw[length_append,length_replicate];omega),getElem?_append_left ⋯,if_pos d,getD_eq_getElem?_getD,getElem?_eq_getElem ⋯];rfl
  .rw[if_neg d];by_cases e:k=U+2*i
   .rw[if_neg ⋯,if_pos ⋯,if_pos (by simp;omega),if_pos e]
   .rw[if_neg e];by_cases a:k=U+2*i+1
    .rw[if_pos a.symm,if_pos (by simp;omega),if_pos a]
    .rw[if_neg ⋯,if_neg ⋯,if_neg a];by_cases b:k=U+2*R
     .rw[if_pos b,getElem?_append_right (by rw[length_append,length_replicate];omega),length_append,length_replicate,b,show U+2*R - (E.length+2*R)=0 by omega];rfl
     .rw[if_neg b,getElem?_append_left (by rw[length_append,length_replicate];omega),getElem?_append_right ⋯,List.getElem?_replicate,if_pos ⋯]
 .rw[getElem?_eq_none (show (List.range (U+2*R+1)).length<=k by rw[length_range];omega),if_neg ⋯,if_neg ⋯,getElem?_eq_none (by rw[length_append,length_append,length_replicate,f];simp;omega)];rfl
def GF(T:Tx w K mg):bK:=λa Q=>a.length=3/\∃(rs:aw)(us:ah)(sc:az)(i:Nat)(o:bY),a=[gH T .o rs us sc,.int i,af.t o]/\uI us o/\rs.length<=16/\us.length<=10/\sc.length<=100/\i<rs.length/\∀j:ai,j[0]?=some (gH T .o rs us (sc++[bF us o]))->Q (.ag .o ((jK us rs.length i o).map af.t)) j
theorem Ic(T:Tx w K mg){z:Bool}:aK P w K mg base bJ 3 T.ri.a T.ri.d ["self","number","one"] (bP K z 3 3 (GF T)):=by
 refine cu T.ri.F H0 rfl ∎ λa7 A outer s H E D I B=>?_
 refine⟨_,(aQ (bM 3 (fq (gc ["unknown","one"] [none,some 2] (eC (cT K (qv 0))) (dk 0) (λ_ _ _ _ _=>(R9 (ba (qv 1) aI) (qv 0) (mH [0,1] T.lQ T.lR)))) (gh (au (ba (qv 2) aI) aD))))
  (aQ (bM 4 (qc T.o6 (Bw T) (au (qv 3) aD)))
  (aQ (bM 5 (qc T.o7 (Bx T) (au (qv 3) (au (qv 4) aD))))
  (aQ (jn 6 (fq (fq (qG (qv 5) ui (ow (gU aI))) (Es (gh (au aI aD)) (dA aI (d7 e5 e7 T.e9 (au (cT K (qv 0)) aD))))) (qG (qv 5) (ow (gU aI)) ui)))
  (aQ (n4 (dg 6) (ft (gj T T.lO (sC T)) (qv 0) (au (qv 1) aD)) aI)
  (aQ (n4 (dg 6) (ft (gj T T.lP (sD T)) (qv 0) (au (qv 1) aD)) (gU aI))
  (aQ (oq (oz (dg 0)) (qv 4))
  (a6 (ll (lg 6)))))))))),?_⟩
 rintro L y _ ⟨_,rs,us,sc,i,o,rfl,v,e,g,G,r,q⟩;rfl';simp only[Fv,yz,eG,eS,yA];refine Jk T ?_;rfl';refine aZ.map us _ (λu=>(bZ o.1 u).getD 0) ⋯ (λx J R m=>?_) ?_
 .rfl';exact m
 let⟨⟨X,b⟩,n⟩:=v;have C:(cg us o).length=us.length+1:=by unfold cg fY;rw[length_append,length_map];rfl
 rfl';refine⟨⋯,rfl,.f,cg us o,X,inferInstance,rfl,b,λ_=>?_⟩;rfl';refine⟨rfl,.f,cg us o,X,inferInstance,rfl,b,⋯,n,λ_=>?_⟩;rw[show (cg us o).map (dX (cc (cg us o)))=ez us o++[cI us o] by unfold cg ez cI bF;rw[map_append];rfl];rfl';rw[RD,Nw];refine Qk T ?_;rfl';have j:(ez us o).length=us.length:=by unfold ez fY;rw[length_map,length_map]
 have h:List.map af.t (ez us o)++List.replicate (2*(rs.length:Int)).toNat (Tr.int 0)++[Tr.int (cI us o)]=(ez us o++List.replicate (2*rs.length) 0++[cI us o]).map af.t:=by
  rw[map_append,map_append,List.map_replicate,show (2*(rs.length:Int)).toNat=2*rs.length by omega];rfl
 rw[h];refine⟨ue ∎ ⋯,rfl,⋯,⋯,by rw[length_replicate];omega,by rw[length_append,length_map,length_replicate];omega,jt _,qj T ⟨rfl,.l false,_,rs,us,i,inferInstance,rfl,uo _ _ _ _,⋯,λ_=>mD (by simp;omega) ?_⟩⟩;refine qj T ⟨rfl,.l false,_,rs,us,i,inferInstance,rfl,uo _ _ _ _,⋯,λ_=>mD (by simp;omega) ?_⟩;rw[show Tr.int 1=af.t (1:Int) from rfl,show Tr.int (-1)=af.t (-1:Int) from rfl,<- map_set,<- map_set,TZ j r];refine tN rfl ⟨T.eO,T.uP⟩ (b8 (b8 eT)) ?_;rfl';rw[TQ];exact⟨⋯,q _ rfl⟩
theorem Dp{D:ae->Nat->Prop}{m:Str}{i:Nat}{hs:br}{aY:Nat->bK}{b:cq}{j:ai}{Q:Tr->aU}{t:Tr}(h:j[i]?=some t)(d:t≠.aq)(q:gR D m t λc=>b j λts=>aY c (ck (t::ts)) (λx a=>pV a[0]? λu=>cD u=true/\jj hs 1 a (j.set i u) λe=>Q x e)):pw K D m i [] hs aY b j Q:=by
 unfold pw;rw[h];cases t with
 |aq=>exact absurd rfl d
 |_=>exact⟨trivial,q⟩
theorem qI{rs:List j}{i:Nat}{p:j×Nat}(h:rs.zipIdx[i]?=some p):rs[i]?=some p.1/\p.2=i:=by
 rw[List.getElem?_zipIdx] at h;cases e:rs[i]? with
 |none=>rw[e] at h;cases h
 |some o=>rw[e] at h;cases h;exact⟨rfl,by simp⟩
def pM(us:ah)(R i:Nat)(o:bY):az:=if 0<=cI us o then jK us R i o else (jK us R i o).map λx=>-x
def kZ(U i:Nat)(x:Int):Nat:=if 0<=x then U+2*i else U+2*i+1
def kH(us:ah)(R:Nat)(ps:List (bY×Nat)):List (az):=ps.map λp=>pM us R p.2 p.1
def lH(us:ah)(ps:List (bY×Nat)):az:=ps.map λp=>((kZ us.length p.2 (cI us p.1):Nat):Int)
def Fo(rs:aw)(us:ah):gb:=⟨kH us rs.length rs.zipIdx,lH us rs.zipIdx,1,[]⟩
def ux(rs:aw)(us:ah):gw:=⟨rs,us,rs.map (bF us),[],Fo rs us⟩
structure rg(rs:aw)(us:ah):Prop where
 r:rs.length<=16
 u:us.length<=10
 o:∀o∈rs,uI us o
theorem Mj(us:ah)(R i:Nat)(o:bY)(a:i<R):dc (jK us R i o) (-1)=some (cI us o):=by
 unfold jK;rw[yC];unfold A0;rw[if_neg ⋯,if_neg ⋯,if_neg ⋯,if_pos rfl]
def Ap(T:Tx w K mg):bK:=λa Q=>a.length=3/\∃(f g:Fl)(rs:aw)(us:ah)(_:Fp f)(_:Fp g),a=[.ins .o T.aah [],.ag f ↥rs,.ag g ↥us]/\rg rs us/\∀j:ai,j[0]?=some (cW T .o (ux rs us))->Q .aE j
theorem HL(T:Tx w K mg){z:Bool}:aK P w K mg base bJ 4 T.rM.a T.rM.d ["self","rows","unknowns"] (bP K z 1 3 (Ap T)):=by
 refine cu T.rM.F HI rfl ∎ λa7 A outer s H E N O M=>?_
 refine⟨_,(aQ (tw (dg 0) (iN (iI rfl) iy T.fv (au (qv 1) aD)))
  (aQ (tw (dg 0) (iN (iI rfl) iy T.fv (au (qv 2) aD)))
  (aQ (mn (dg 0) (gh aD))
  (aQ (mn (dg 0) (gh aD))
  (aQ (jn 3 (gh aD))
  (aQ (jn 4 (gh aD))
  (aQ (fR (ox T.nE (au (cT K (qv 0)) aD)) (i8 (n:=2) rfl (ew (dq 5) (ew (dq 6) iU))) (aQ (xa 7 (qo (dg 0) (gj T T.ri (Ic T)) (lD (qv 5) (lD (qv 6) qg))))
  (aQ (bM 8 (fQ xJ xt (ba (qv 7) (gU aI)) aI))
  (aQ (oq (dg 3) (xM (gD (qv 8)) (qv 7) (gc ["entry"] [none] (eC (qv 7)) (dk 0) (λ_ _ _ _ _=>(gU (qv 0))))))
  (a6 (oq (dg 4) (xM (gD (qv 8)) (ft (gj T T.lO (sC T)) (qv 0) (au (qv 5) aD)) (ft (gj T T.lP (sD T)) (qv 0) (au (qv 5) aD)))))))))
  (a6 (mn (dg 0) (E3 T.rE (HK T) T.FK (QA.aA (au (qv 3) (au (qv 4) aD))))))))))))),?_⟩
 rintro Y L _ ⟨_,f,g,rs,us,_,_,rfl,v,q⟩;rfl';refine⟨⟨T.eO,T.oY⟩,∎,⟨T.eO,T.nB⟩,∎,⟨T.eO,T.uP⟩,?_⟩
 (repeat first |rw[l9] |rw[lq])
 refine⟨(show 2<900 by decide),⟨T.eO,T.uQ⟩,?_⟩
 (repeat first |rw[l9] |rw[lq])
 refine⟨(show 3<900 by decide),gz ⟨T.eO,T.oY⟩ eT ?_⟩;rfl';refine Loop.map rs.zipIdx _ (λi j=>∃a b c d,j=[gH T .o rs us ((rs.take i).map (bF us)),.ag f ↥rs,.ag g ↥us,.ag .o ((kH us rs.length (rs.zipIdx.take i)).map af.t),.ag .o ((lH us (rs.zipIdx.take i)).map af.t),a,b,c,d]) ⟨_,_,_,_,rfl⟩ ?_ ?_
 .rintro i ⟨o,i'⟩ j hi ⟨a,b,c,d,rfl⟩;let⟨C,D⟩:=qI hi;dsimp only at C D;subst D;have B:i'<rs.length:=(List.getElem?_eq_some_iff.mp C).1;have y:=v.r;have aM:=v.o o (mem_of_getElem? C);have J:rs.zipIdx.take (i'+1)=rs.zipIdx.take i'++[(o,i')]:=by rw[take_add_one,hi];rfl
  rfl';refine Dp rfl (by intro z;cases z) (qj T ?_);rfl';simp only[yz,eS];refine⟨rfl,rs,us,_,i',o,rfl,aM,y,v.u,by rw[length_map,length_take];omega,B,λj e=>?_⟩;dsimp only;rw[e,yA];refine⟨Ui _ _ _ _,?_⟩;have rep:(rs.take (i'+1)).map (bF us)=(rs.take i').map (bF us)++[bF us o]:=by rw[take_add_one,C,map_append];rfl
  have G:kH us rs.length (rs.zipIdx.take i'++[(o,i')])=kH us rs.length (rs.zipIdx.take i')++[pM us rs.length i' o]:=by unfold kH;rw[map_append];rfl
  have I:lH us (rs.zipIdx.take i'++[(o,i')])=lH us (rs.zipIdx.take i')++[((kZ us.length i' (cI us o):Nat):Int)]:=by unfold lH;rw[map_append];rfl
  have Q:(kH us rs.length (rs.zipIdx.take i')).length<=16:=by unfold kH;rw[length_map,length_take];omega
  have U:(lH us (rs.zipIdx.take i')).length<=16:=by unfold lH;rw[length_map,length_take];omega
  rfl';refine d8 _ _ (cI us o) (Mj _ _ _ _ B) ?_;rw[rep,J,G,I];rfl';simp only[Fv,eG,yA,yz,eS];by_cases h:0<=cI us o
  .rw[if_pos (decide_eq_true h),if_pos (decide_eq_true h),show pM us rs.length i' o=jK us rs.length i' o from if_pos h,show kZ us.length i' (cI us o)=us.length+2*i'+0 from if_pos h,map_append,map_append];exact⟨⋯,qj T ⟨rfl,.l false,_,rs,us,i',inferInstance,rfl,uo _ _ _ _,⋯,λ_=>⟨rfl,⋯,_,_,_,_,rfl⟩⟩⟩
  .rw[if_neg (by simpa using h)];refine aZ.map (jK us rs.length i' o) _ (λx=>-x) (by unfold jK;simp;have:=v.u;omega) (λc m R v=>?_) ⟨jo _,⋯,?_⟩
   .rfl';exact v
   .rw[eM,if_neg (by simpa using h),show pM us rs.length i' o=(jK us rs.length i' o).map (λx=>-x) from if_neg h,show kZ us.length i' (cI us o)=us.length+2*i'+1 from if_neg h,map_append,map_append];exact qj T ⟨rfl,.l false,_,rs,us,i',inferInstance,rfl,uo _ _ _ _,⋯,λ_=>⟨rfl,⋯,_,_,_,_,rfl⟩⟩
 .rintro j ⟨a,b,c,d,rfl⟩;rw[length_zipIdx,show rs.zipIdx.take rs.length=rs.zipIdx from by rw[<- length_zipIdx (l:=rs),take_length],take_length];rfl';refine⟨rfl,.l false,.l false,_,_,inferInstance,inferInstance,rfl,by unfold kH;rw[length_map,length_zipIdx];have:=v.r;omega,λj e=>⟨rfl,?_⟩⟩;rw[e];refine⟨qE T _,Fw T _,?_⟩;refine⟨⟨T.eO,T.rN⟩,show 4<900 by decide,q _ ?_⟩;unfold jx
  (repeat first |rw[l9] |rw[lq])
  rfl
def sgn(x:Int):Int:=if 0<=x then 1 else -1
def Mx(rs:aw)(us:ah)(i k:Nat):Int:=match rs[i]? with
 |some o=>sgn (cI us o) * A0 us.length rs.length i (ez us o) (cI us o) k
 |none=>0
def S0(rs:aw)(us:ah)(i:Nat):Nat:=match rs[i]? with
 |some o=>kZ us.length i (cI us o)
 |none=>0
def bj(rs:aw)(us:ah):Nat:=us.length+2*rs.length
def ip(rs:aw)(us:ah)(ss:f9)(S:Nat->Nat)(mk:bf):gw:=⟨rs,us,rs.map (bF us),ss,cj rs.length (bj rs us) (Mx rs us) S mk⟩
section
variable{rs:aw}{us:ah}
theorem ot{i:Nat}{o:bY}(h:rs[i]?=some o)(k:Nat):Mx rs us i k=sgn (cI us o)*A0 us.length rs.length i (ez us o) (cI us o) k:=by unfold Mx;rw[h]
theorem x9{i:Nat}{o:bY}(h:rs[i]?=some o):S0 rs us i=kZ us.length i (cI us o):=by unfold S0;rw[h]
theorem kx{i:Nat}(h:i<rs.length):∃o,rs[i]?=some o:=⟨_,getElem?_eq_getElem h⟩
theorem UB{i:Nat}(h:i<rs.length):S0 rs us i<bj rs us:=by
 let⟨o,a⟩:=kx h;rw[x9 a];unfold kZ bj;split<;>omega
theorem vp:Lp.Un rs.length (Mx rs us) (S0 rs us):=by
 intro i j d f;let⟨o,b⟩:=kx d;let⟨p,a⟩:=kx f;rw[ot b,x9 a];unfold kZ A0;by_cases e:i=j
 .subst e;rw[b] at a;cases a;rw[if_pos rfl];unfold sgn;split
  .rw[if_neg ⋯,if_pos rfl];rfl
  .rw[if_neg ⋯,if_neg ⋯,if_pos rfl];rfl
 .rw[if_neg e];split
  .rw[if_neg ⋯,if_neg ⋯,if_neg ⋯,if_neg ⋯,mul_zero]
  .rw[if_neg ⋯,if_neg ⋯,if_neg ⋯,if_neg ⋯,mul_zero]
theorem UC{i:Nat}(h:i<rs.length):0<=Mx rs us i (bj rs us):=by
 let⟨o,a⟩:=kx h;rw[ot a];unfold A0 bj;rw[if_neg ⋯,if_neg ⋯,if_neg ⋯,if_pos rfl];unfold sgn;split<;>omega
theorem UD:Lp.Gd rs.length (bj rs us) (Mx rs us) (S0 rs us):=vp.gd (λ_ h=>UB h) λ_ h=>UC h
theorem T1:ux rs us=ip rs us [] (S0 rs us) []:=by
 unfold ux ip Fo cj;rw[vp.dd];congr 2
 .unfold kH uk;apply ext_getElem?;intro i;rw[getElem?_map,getElem?_map,List.getElem?_zipIdx];by_cases h:i<rs.length
  .obtain⟨o,ho⟩:=kx h;rw[ho,getElem?_range h];simp only[map_some,Nat.zero_add];congr 1;have e:(List.range (bj rs us+1)).map (Lp.tt rs.length (Mx rs us) (S0 rs us) i)=(List.range (bj rs us+1)).map (Mx rs us i):=map_congr_left λk _=>vp.tt k h
   rw[e];unfold pM jK;split
   .rename_i hx;refine map_congr_left λk _=>?_
    rw[ot ho,show sgn (cI us o)=1 from if_pos hx,one_mul]
   .rename_i hx;rw[map_map];refine map_congr_left λk _=>?_
    rw[ot ho,show sgn (cI us o)=-1 from if_neg hx];show - _=_;omega
  .rw[getElem?_eq_none (show rs.length<=i by omega),getElem?_eq_none (by rw[length_range];omega)];rfl
 .unfold lH mY;apply ext_getElem?;intro i;rw[getElem?_map,getElem?_map,List.getElem?_zipIdx];by_cases h:i<rs.length
  .obtain⟨o,ho⟩:=kx h;rw[ho,getElem?_range h];simp only[map_some,Nat.zero_add];rw[x9 ho]
  .rw[getElem?_eq_none (show rs.length<=i by omega),getElem?_eq_none (by rw[length_range];omega)];rfl
end
theorem RE{j:Type}(A:List j)(x y:j)(B:List j)(k:Nat)(h:A.length=k):(A++x::B).set k y=A++y::B:=by
 subst h;rw[List.set_append_right _ _ (le_refl _),Nat.sub_self];rfl
def cb(us:ah)(k:Int)(o:bY):Rat:=if o.2.2.2.1=k then (if o.2.1="most" then 0 else Rat.divInt o.2.2.2.2 (bF us o)) else 0
def ca(us:ah)(k:Int)(o:bY):Rat:=if o.2.2.2.1=k then (if o.2.1="least" then 0 else Rat.divInt o.2.2.2.2 (bF us o)) else 0
def bO(us:ah)(rs:aw)(k:Int):bo:=List.replicate us.length 0++rs.flatMap λo=>[cb us k o,ca us k o]
theorem wt{j:Type}(f g:j->Rat)(xs:List j):(xs.flatMap λo=>[f o,g o]).length=2*xs.length:=by
 induction xs with
 |nil=>rfl
 |cons x xs a=>rw[List.flatMap_cons,length_append,a];simp;omega
theorem FA[af j](A:List j)(x y:j)(B:List j)(k:Nat)(h:A.length=k):((A++x::B).map af.t).set k (af.t y)=(A++y::B).map af.t:=by rw[<- map_set,RE _ _ _ _ _ h]
theorem E9[af j](A:List j)(x a y:j)(B:List j)(k:Nat)(h:A.length=k):((A++a::x::B).map af.t).set (k+1) (af.t y)=(A++a::y::B).map af.t:=by
 have e:∀z:j,A++a::z::B=(A++[a])++z::B:=λz=>by rw[append_assoc];rfl
 rw[e,e,FA _ _ _ _ _ (by rw[length_append,h];rfl)]
def GG(T:Tx w K mg):bK:=cX 2 λa Q=>∃(f:Fl)(rs:aw)(us:ah)(ss:f9)(S:Nat->Nat)(mk:bf)(k:Int)(_:Fp f),a=[cW T f (ip rs us ss S mk),.int k]/\rg rs us/\(∀o∈rs,0<bF us o/\bi (bF us o)<=3000)/\Q (.ag .o ((bO us rs k).map af.t))
theorem Hz(T:Tx w K mg){z:Bool}:aK P w K mg base bJ 3 T.rj.a T.rj.d ["self","rank"] (bP K z 0 2 (GG T)):=by
 refine cu T.rj.F Hx rfl ∎ λa7 A outer s H E hr hu Y=>?_
 refine⟨_,(aQ (jn 2 (Es (gh (au (mH [0,1] T.lQ T.lR) aD)) (EF (gj T T.rh (Ib T)) (qv 0))))
  (aQ (fR (ox T.nE (au (cT K (qv 0)) aD)) (i8 (n:=2) rfl (ew (dq 3) (ew (dq 4) iU))) (a6 (cQ (b7 ff e8 (ba (qv 4) aI) (qv 1)) (aQ (bM 5 (qc T.jE (mC T) (au (ba (qv 4) aI) (au (ba (cT K (qv 0)) (qv 3)) aD))))
  (aQ (cQ (b7 gE gx (ba (qv 4) aI) gB) (a6 (n4 (dg 2) (ft (gj T T.lO (sC T)) (qv 0) (au (qv 3) aD)) (qv 5))) cP)
  (a6 (cQ (b7 gE gx (ba (qv 4) aI) gB) (a6 (n4 (dg 2) (ft (gj T T.lP (sD T)) (qv 0) (au (qv 3) aD)) (qv 5))) cP)))) cP)))
  (a6 (ll (lg 2))))),?_⟩
 rintro xs U _ ⟨_,f,rs,us,ss,S,mk,k,_,rfl,C,v,q⟩;have M:=C.r;have J:=C.u;rfl';simp only[ie,jr,gA,i9,gF];refine iJ T ⟨rfl,f,_,rs,us,‹_›,rfl,gZ T f _,⋯,λ_=>?_⟩;rfl';have I:List.replicate ((us.length+2*rs.length:Nat):Int).toNat (af.t (0:Rat))=(List.replicate us.length (0:Rat)++((rs.take 0).flatMap λo=>[cb us k o,ca us k o])++List.replicate (2*(rs.length - 0)) 0).map af.t:=by
  rw[List.take_zero,List.flatMap_nil,append_nil,List.replicate_append_replicate,List.map_replicate,Int.toNat_natCast];rfl
 rw[I];refine⟨rfl,⋯,⋯,jt _,wF T ?_⟩;show iE (Pu.aA (Tr.ag .f ↥rs)) _;rfl';refine Loop.map rs.zipIdx _ (λi j=>∃a b c,j=[cW T f (ip rs us ss S mk),.int k,.ag .o ((List.replicate us.length (0:Rat)++((rs.take i).flatMap λo=>[cb us k o,ca us k o])++List.replicate (2*(rs.length - i)) 0).map af.t),a,b,c]) ⟨_,_,_,rfl⟩ ?_ ?_
 .rintro i ⟨o,i'⟩ j hi ⟨a,b,c,rfl⟩;let⟨l,B⟩:=qI hi;dsimp only at l B;subst B;have N:i'<rs.length:=(List.getElem?_eq_some_iff.mp l).1;have Q:rs.take (i'+1)=rs.take i'++[o]:=by rw[take_add_one,l];rfl
  have g:(List.replicate us.length (0:Rat)++((rs.take i').flatMap λo=>[cb us k o,ca us k o])).length=us.length+2*i':=by rw[length_append,length_replicate,wt,length_take];omega
  have D:List.replicate (2*(rs.length - i')) (0:Rat)=0::0::List.replicate (2*(rs.length - (i'+1))) 0:=by
   rw[show 2*(rs.length - i')=2*(rs.length - (i'+1))+1+1 by omega];rfl
  have G:List.replicate us.length (0:Rat)++((rs.take (i'+1)).flatMap λo=>[cb us k o,ca us k o])++List.replicate (2*(rs.length - (i'+1))) 0=(List.replicate us.length (0:Rat)++((rs.take i').flatMap λo=>[cb us k o,ca us k o]))++cb us k o::ca us k o::List.replicate (2*(rs.length - (i'+1))) 0:=by
   rw[Q,List.flatMap_append,List.flatMap_singleton,<- append_assoc,append_assoc];rfl
  rw[D,G];generalize List.replicate us.length (0:Rat)++((rs.take i').flatMap λo=>[cb us k o,ca us k o])=L at g ⊢;generalize List.replicate (2*(rs.length - (i'+1))) (0:Rat)=Z;rfl';by_cases h:o.2.2.2.1=k
  .rw[if_pos (decide_eq_true h)];simp only[ie,jr,gA,i9,gF];refine Ct T ?_;show ib (.ag f ((rs.map (bF us)).map af.t)) (.int i') _;rw[hZ,hV];refine d8 _ _ (bF us o) (fx (by rw[getElem?_map,l];rfl)) ?_;rfl';refine⟨rfl,o.2.2.2.2,bF us o,rfl,ne_of_gt (v o (mem_of_getElem? l)).1,by have:=(v o (mem_of_getElem? l)).2;omega,λ_=>?_⟩;rfl';unfold cb ca;rw[if_pos h,if_pos h];have O:(us.length+2*i'+0:Nat)<((L++(0:Rat)::0::Z).map af.t).length:=by rw[length_map,length_append,g];simp
   have y:∀x:Rat,(us.length+2*i'+1:Nat)<((L++x::(0:Rat)::Z).map af.t).length:=λx=>by rw[length_map,length_append,g];simp
   by_cases m:o.2.1="most"
   .have e:¬ o.2.1="least":=by rw[m];decide +kernel
    rw[if_pos m,if_neg e,if_neg (by simp[m]),if_pos (by simp[e])];refine iJ T ⟨rfl,f,_,rs,us,i',‹_›,rfl,gZ T f _,⋯,λ_=>mD (y 0) ?_⟩;rw[E9 _ _ _ _ _ _ g];exact⟨_,_,_,rfl⟩
   .rw[if_neg m,if_pos (by simp[m])];refine iJ T ⟨rfl,f,_,rs,us,i',‹_›,rfl,gZ T f _,⋯,λ_=>mD O ?_⟩;rw[FA _ _ _ _ _ (show L.length=us.length+2*i'+0 from g)];by_cases e:o.2.1="least"
    .rw[if_pos e,if_neg (by simp[e])];exact⟨_,_,_,rfl⟩
    .rw[if_neg e,if_pos (by simp[e])];refine iJ T ⟨rfl,f,_,rs,us,i',‹_›,rfl,gZ T f _,⋯,λ_=>mD (y _) ?_⟩;rw[E9 _ _ _ _ _ _ g];exact⟨_,_,_,rfl⟩
  .rw[if_neg (by simpa using h)];unfold cb ca;rw[if_neg h,if_neg h];exact⟨_,_,_,rfl⟩
 .rintro j ⟨a,b,c,rfl⟩;rw[length_zipIdx,take_length,Nat.sub_self,Nat.mul_zero,List.replicate_zero,append_nil];rfl';exact q _
def cV(cs:bo):az:=cs.map (dX (cc cs))
structure eV(rs:aw)(us:ah)(cs:bo):Prop where
 l:cs.length=bj rs us
 x:∃X,qZ cs X
 b:∀c∈cs,bs c<=3000
 n:∀c∈cV cs,bi c<=3000
 p:∀c∈cs,0<=c
theorem eV.c{rs:aw}{us:ah}{cs:bo}(h:eV rs us cs):lZ (cV cs) (bj rs us):=⟨by unfold cV;rw[length_map];exact h.l,h.n⟩
theorem eV.nn{rs:aw}{us:ah}{cs:bo}(h:eV rs us cs)(k:Nat):0<=cf (cV cs) k:=by
 unfold cf cV;rw[getD_eq_getElem?_getD,getElem?_map];cases e:cs[k]? with
 |none=>exact Int.le_refl _
 |some c=>
  have p:=h.p c (mem_of_getElem? e);have a:=(gf cs 1 ∎).1;show 0<=dX (cc cs) c;unfold dX;exact mul_nonneg (Rat.num_nonneg.mpr p) (Int.fdiv_nonneg (le_of_lt a) (Int.natCast_nonneg _))
theorem T2{m n:Nat}{M:aF}{S:Nat->Nat}{c:Nat->Int}{sh:Nat->Prop}{e:Nat}(G:Lp.Gd m n M S)(b:∀k,0<=c k)(a:c n=0)(E:Lp.Ent m n M c sh S e)(h:∀i,i<m->Lp.tt m M S i e<=0):False:=by
 have ne:∀i,i<m->S i≠e:=λi d q=>by have:=E.2.1;rw[<- q,Lp.ec d] at this;omega
 let⟨g,_,_,r4⟩:=Lp.OX G E.1 ne h a;have:0<=Lp.sm n λk=>c k*Lp.dr m M S e k:=Lp.ea λk f=>mul_nonneg (b k) (g k f)
 have:=E.2.1;omega
theorem xC{ns:az}{n:Nat}(h:ns.length=n):cf ns n=0:=by unfold cf;rw[getD_eq_getElem?_getD,getElem?_eq_none ⋯];rfl
def eU(rs:aw)(us:ah)(cs:bo)(S:Nat->Nat):bo:=(List.range (bj rs us+1)).map λk=>Rat.divInt (Lp.zz rs.length (Mx rs us) (cf (cV cs)) S k) (cc cs*Lp.dd rs.length (Mx rs us) S)
theorem Ml[af j](xs:List j)(x:j):↥xs++[af.t x]=(xs++[x]).map af.t:=by rw[map_append];rfl
def GZ(T:Tx w K mg):bK:=λd Q=>d.length=2/\∃(g:Fl)(rs:aw)(us:ah)(ss:f9)(S:Nat->Nat)(mk:bf)(b:bo)(_:Fp g),d=[cW T .o (ip rs us ss S mk),.ag g ↥b]/\Sz rs.length (bj rs us) (Mx rs us)/\Lp.Gd rs.length (bj rs us) (Mx rs us) S/\jZ rs.length mk S/\eV rs us b/\mk.length<=10000/\ss.length<=1000/\∀a,Lp.Gd rs.length (bj rs us) (Mx rs us) a->jZ rs.length mk a->uH rs.length (bj rs us) (Mx rs us) mk (cf (cV b)) a->∀j:ai,j[0]?=some (cW T .o (ip rs us (ss++[eU rs us b a]) a (fA rs.length (bj rs us) (Mx rs us) mk (cf (cV b)) a ss.length (bj rs us))))->Q .aE j
theorem HR(T:Tx w K mg){z:Bool}:aK P w K mg base bJ 4 T.rl.a T.rl.d ["self","costs"] (bP K z 2 2 (GZ T)):=by
 refine cu T.rl.F HP rfl ∎ λa7 A outer s H E Y hu B=>?_
 refine⟨_,(aQ (bM 2 (qc T.o6 (Bw T) (au (qv 1) aD)))
  (aQ (bM 3 (qc T.o7 (Bx T) (au (qv 1) (au (qv 2) aD))))
  (aQ (xa 4 (qo (oz (dg 0)) (jO T T.rF (Ia T)) (lD (qv 3) qg)))
  (aQ (cQ (b7 w9 v8 (qv 4) i2) (aQ sW
  (a6 sW)) cP)
  (aQ (xa 6 (qo (oz (dg 0)) (jO T T.rK (Ht T)) (lD (qv 3) (lD (d7 e5 e7 T.e9 (au (cT K (qv 0)) aD)) qg))))
  (aQ (oq (oz (dg 0)) (gc ["entry","scale","self"] [none,some 2,some 0] (eC (qv 6)) (dk 0) (λ_ _ _ _ _=>(qc T.jE (mC T) (au (qv 0) (au (dA (qv 1) (cT K (cT K (qv 2)))) aD))))))
  (a6 (bV i2)))))))),?_⟩
 rintro xs C _ ⟨_,g,rs,us,ss,S,mk,h,_,rfl,y,G,B,j,hm,hs,q⟩;let⟨X,v⟩:=j.x;have hn:=y.hn;have U:=j.l;rfl';refine⟨rfl,g,h,X,‹_›,rfl,v,λ_=>?_⟩;rfl';refine⟨rfl,g,h,X,‹_›,rfl,v,⋯,j.b,λ_=>?_⟩;rfl';refine Cq rfl ⟨T.eO,T.rN⟩ (b8 (b8 (b8 (b8 eT)))) (lp T ?_);rfl';simp only[ic,eS];refine⟨rfl,.f,rs.length,bj rs us,Mx rs us,S,mk,cV h,inferInstance,rfl,y,G,B,j.c,λi r u I Q e=>?_,λi e r u D O=>(T2 r j.nn (xC j.c.1) D O).elim⟩;dsimp only;rw[e,fU];refine⟨qE T _,?_⟩;rw[DQ];rfl';rw[xr];rfl';refine Cq rfl ⟨T.eO,T.rN⟩ (b8 (b8 (b8 (b8 eT)))) (lp T ?_);rfl';rw[E8];refine vX T ?_;show nL _ [Tr.ag _ ↥ss] _;rfl';simp only[ic,eS];refine⟨rfl,.f,rs.length,bj rs us,Mx rs us,i,mk,cV h,_,inferInstance,rfl,y,r.lt,j.c,hm,λQ e=>?_⟩;dsimp only;rw[e,fU];refine⟨qE T _,?_⟩;rw[DQ];refine tN rfl ⟨T.eO,T.uQ⟩ (b8 (b8 (b8 eT))) ?_;rfl';rw[E8,ia,n9];have M:=(gf h 1 ∎).1;have N:=ku ((gf h 1 ∎).2.2.2 X (one_dvd _) v.2.1) v.1;have L:=v.2.2;have hd:=y.d i r.lt;refine aZ.map _ _ (λn=>Rat.divInt n (cc h*Lp.dd rs.length (Mx rs us) i)) (by rw[length_map,length_range];omega) (λn hn R J=>?_) ⟨jo _,show ss.length<1000000 by omega,?_⟩
 .rfl';simp only[gF];refine CK T (sI T ?_);rfl';exact⟨eN (n:=3000) (m:=3000) (by unfold cc;omega) hd ⋯,rfl,n,_,rfl,ne_of_gt (mul_pos M r.pos),le_trans (i6 (cc h) (Lp.dd rs.length (Mx rs us) i)) (by unfold cc;omega),λ_=>J⟩
 .rw[eM,map_map]
  change C Tr.aE (Tr.ins .o T.aah (fT "settled" (.ag .o (↥ss++[af.t (eU rs us h i)])) (gu T .o (ip rs us ss i (fA rs.length (bj rs us) (Mx rs us) mk (cf (cV h)) i ss.length (bj rs us)))))::_)
  rw[Ml,Ql];exact q i r u I _ rfl
def G0(T:Tx w K mg):bK:=cX 2 λa Q=>∃(f:Fl)(S:gw)(i:Nat)(r:bo)(x:Rat)(_:Fp f),a=[cW T f S,.int i]/\S.ss[i]?=some (r++[x])/\bs x<=7000/\Q (af.t (0 - x))
theorem BF(T:Tx w K mg){z:Bool}:aK P w K mg base bJ 4 T.oO.a T.oO.d ["self","place"] (bP K z 0 2 (G0 T)):=by
 refine cu T.oO.F Ip rfl ∎ λa7 A outer s H E j l g=>?_
 refine⟨_,(a6 (bV (qc T.o3 (CL T) (au (mH [0,1] T.lQ T.lR) (au (ba (ba (cT K (qv 0)) (qv 1)) (gU aI)) aD))))),?_⟩;rintro n e _ ⟨_,f,S,i,r,x,_,rfl,b,m,q⟩;rfl';simp only[ie,gA,gF];refine vX T ?_;rfl';refine d8 _ _ (r++[x]) (fx b) ?_;rw[ia,hZ,hV,Dm];refine d8 _ _ x rfl ?_;rw[jP,kC];have h:bs (0:Rat)<=10:=by walk_at "k"
 exact⟨rfl,0,x,rfl,⋯,λ_=>⟨ik _,q _⟩⟩
def ur(rs:aw)(us:ah)(S:Nat->Nat)(p:Str×Nat):Str×Rat:=(p.1,jd rs.length (bj rs us) (Mx rs us) S p.2)
def qQ(rs:aw)(us:ah)(S:Nat->Nat):List (Str×Rat):=us.zipIdx.map (ur rs us S)
def G3(T:Tx w K mg):bK:=cX 1 λa Q=>∃(f:Fl)(rs:aw)(us:ah)(ss:f9)(S:Nat->Nat)(mk:bf)(_:Fp f),a=[cW T f (ip rs us ss S mk)]/\Sz rs.length (bj rs us) (Mx rs us)/\Lp.Gd rs.length (bj rs us) (Mx rs us) S/\us.Nodup/\us.length<=50/\Q (.aR .o ((qQ rs us S).map λp=>((Sum.inr p.1:aS),af.t p.2)))
theorem BR{us:ah}(h:us.Nodup){i:Nat}{u:Str}(e:us[i]?=some u):¬ u∈us.take i:=λm=>by
 ∎;let⟨j,f,b⟩:=List.mem_take_iff_getElem.mp m;let⟨d,a⟩:=List.getElem?_eq_some_iff.mp e;∎;exact (List.pairwise_iff_getElem.mp h) j i ⋯ d ⋯ (b.trans a.symm)
theorem p0[af j](m:List (Str×j)):jX (m.map λp=>((Sum.inr p.1:aS),af.t p.2))=true:=by
 have:=jN (m.map λp=>((Sum.inr p.1:aS),p.2));rw[map_map] at this;exact this
theorem Ie(T:Tx w K mg){z:Bool}:aK P w K mg base bJ 4 T.rm.a T.rm.d ["self"] (bP K z 0 1 (G3 T)):=by
 refine cu T.rm.F H9 rfl ∎ λa7 A outer s H E L M D=>?_
 refine⟨_,(aQ (jn 1 tL)
  (aQ (fR (ox T.nE (au (cT K (qv 0)) aD)) (i8 (n:=2) rfl (ew (dq 2) (ew (dq 3) iU))) (a6 (ub (dg 1) (qv 3) (ft (jO T T.rL (IA T)) (cT K (qv 0)) (au (qv 2) aD)))))
  (a6 (ll (lg 1))))),?_⟩
 rintro N C _ ⟨_,f,rs,us,ss,S,mk,_,rfl,g,G,hn,I,q⟩;rfl';simp only[ie,gF];refine⟨rfl,Jj T ?_⟩;show iE (Pu.aA (Tr.ag .f ↥us)) _;rfl';refine Loop.map us.zipIdx _ (λi J=>∃y z,J=[cW T f (ip rs us ss S mk),.aR .o (((us.zipIdx.take i).map (ur rs us S)).map λp=>((Sum.inr p.1:aS),af.t p.2)),y,z]) ⟨_,_,rfl⟩ ?_ ?_
 .rintro i ⟨u,j⟩ J hj ⟨y,z,rfl⟩;let⟨e,h⟩:=qI hj;dsimp only at e h;subst h;have r:=(List.getElem?_eq_some_iff.mp e).1;rfl';simp only[ie,gF];refine CK T ?_;simp only[ic,gA,i9];refine lp T ⟨rfl,_,_,_,_,_,_,j,inferInstance,rfl,g,G,by unfold bj;omega,λ_=>?_⟩;rfl';have m:mS ((us.zipIdx.take j).map (ur rs us S)) u (jd rs.length (bj rs us) (Mx rs us) S j)=(us.zipIdx.take (j+1)).map (ur rs us S):=by
   rw[fM,take_add_one,hj,Option.toList_some,map_append]
   .rfl
   .intro z g;let⟨⟨x,k⟩,v,rfl⟩:=mem_map.mp g;rintro rfl;refine BR hn e ?_;let⟨B,b,l⟩:=List.mem_take_iff_getElem.mp v;have:=qI (List.getElem?_eq_some_iff.mpr ⟨⋯,l⟩);exact List.mem_take_iff_getElem.mpr ⟨B,by rw[length_zipIdx] at b;exact b,(List.getElem?_eq_some_iff.mp this.1).2⟩
  rw[m];exact⟨by rw[length_take];omega,_,_,rfl⟩
 .rintro J ⟨y,z,rfl⟩;rw[take_length];rfl';exact⟨(cB _ (p0 _)).o,q _⟩
theorem tQ{x:Int}(h:bi x<=100):bs (x:Rat)<=100:=by
 unfold bs;show max (bl x.natAbs) (bl 1)<=100;have:bl 1<=1:=by walk_at "k"
 unfold bi at h;omega
def Bd(lr:bo):Prop:=∀x∈lr,bs x<=3900
def oE(kind:Str)(sc:Int)(b a:Rat):Rat:=if kind="least" then a*(sc:Rat) else if kind="most" then b*((-sc:Int):Rat) else (a - b)*Rat.divInt sc 2
def mR(rs:aw)(us:ah)(a:bo)(i:Nat):Rat:=match rs[i]? with
 |some o=>oE o.2.1 (bF us o) (a.getD (us.length + 2 * i) 0) (a.getD (us.length + 2 * i + 1) 0)
 |none=>0
def gG(rs:aw)(us:ah)(a:bo):bo:=(List.range rs.length).map (mR rs us a)
def Ga(T:Tx w K mg):bK:=cX 3 λb Q=>∃(f g:Fl)(rs:aw)(us:ah)(ss:f9)(S:Nat->Nat)(mk:bf)(i:Nat)(a:bo)(o:bY)(_:Fp f)(_:Fp g),b=[cW T f (ip rs us ss S mk),.int i,.ag g ↥a]/\i<=100/\rs[i]?=some o/\a.length=us.length+2*rs.length+1/\Bd a/\bi (bF us o)<=100/\Q (af.t (oE o.2.1 (bF us o) (a.getD (us.length+2*i) 0) (a.getD (us.length+2*i+1) 0)))
theorem Ir(T:Tx w K mg){z:Bool}:aK P w K mg base bJ 4 T.ro.a T.ro.d ["self","number","left"] (bP K z 0 3 (Ga T)):=by
 refine cu T.ro.F Iq rfl ∎ λa7 A outer s H E N O I=>?_
 refine⟨_,(aQ (bM 3 (ba (qv 2) (ft (gj T T.lO (sC T)) (qv 0) (au (qv 1) aD))))
  (aQ (bM 4 (ba (qv 2) (ft (gj T T.lP (sD T)) (qv 0) (au (qv 1) aD))))
  (aQ (bM 5 (ba (ba (cT K (qv 0)) (qv 1)) aI))
  (aQ (bM 6 (ba (cT K (qv 0)) (qv 1)))
  (aQ (cQ (b7 ff e8 (qv 5) gB) (a6 (bV (qc T.nD (wz T) (au (qv 4) (au (i5 (au (qv 6) (au aI aD))) aD))))) cP)
  (aQ (cQ (b7 ff e8 (qv 5) gB) (a6 (bV (qc T.nD (wz T) (au (qv 3) (au (i5 (au (gU (qv 6)) (au aI aD))) aD))))) cP)
  (a6 (bV (qc T.nD (wz T) (au (qc T.o3 (CL T) (au (qv 4) (au (qv 3) aD))) (au (qc T.jE (mC T) (au (qv 6) (au aI aD))) aD))))))))))),?_⟩
 rintro Q G _ ⟨_,f,g,rs,us,ss,S,mk,i,n,o,_,_,rfl,L,l,M,r,m,q⟩;have y:=(List.getElem?_eq_some_iff.mp l).1;rfl';simp only[ie,jr,gA,i9,gF];refine iJ T ⟨rfl,f,_,rs,us,i,‹_›,rfl,gZ T f _,⋯,λ_=>?_⟩;obtain⟨b,eb⟩:∃b,n[us.length+2*i+0]?=some b:=⟨_,getElem?_eq_getElem ⋯⟩;obtain⟨a,j⟩:∃a,n[us.length+2*i+1]?=some a:=⟨_,getElem?_eq_getElem ⋯⟩;rw[getD_eq_getElem?_getD,getD_eq_getElem?_getD,j,show n[us.length+2*i]?=some b from eb] at q;have u:=r b (mem_of_getElem? eb);have v:=r a (mem_of_getElem? j);rfl';refine d8 _ _ b (fx eb) ?_;rfl'
 try simp only[ie,jr,gA,i9,gF]
 refine iJ T ⟨rfl,f,_,rs,us,i,‹_›,rfl,gZ T f _,⋯,λ_=>?_⟩;rfl';refine d8 _ _ a (fx j) ?_;rfl'
 try simp only[ie,jr,gA,i9,gF]
 refine wF T ?_;rfl';refine d8 _ _ o (fx l) ?_;rfl';refine Ct T ?_;show ib (.ag f ((rs.map (bF us)).map af.t)) (.int i) _;rw[hZ,hV];refine d8 _ _ (bF us o) (fx (by rw[getElem?_map,l];rfl)) ?_;rfl';have C:=tQ m;have D:=tQ (x:=-bF us o) (by unfold bi;rw[Int.natAbs_neg];exact m);unfold oE at q;by_cases e:o.2.1="least"
 .rw[if_pos (decide_eq_true e)];rw[if_pos e] at q;exact⟨rfl,a,(bF us o:Rat),rfl,⋯,λ_=>⟨ik _,q _⟩⟩
 .rw[if_neg (by simpa using e)];rw[if_neg e] at q;by_cases h:o.2.1="most"
  .rw[if_pos (decide_eq_true h)];rw[if_pos h] at q;exact⟨rfl,b,((-bF us o:Int):Rat),rfl,⋯,λ_=>⟨ik _,q _⟩⟩
  .rw[if_neg (by simpa using h)];rw[if_neg h] at q;have B:=xc a b;have J:bs (Rat.divInt (bF us o) 2)<=100:=p9 ∎ m (by walk_at "k");refine⟨rfl,a,b,rfl,⋯,λ_=>⟨rfl,_,2,rfl,∎,by walk_at "k",λ_=>?_⟩⟩;dsimp only;rw[jP,kC];exact⟨rfl,_,_,rfl,⋯,λ_=>⟨ik _,q _⟩⟩
def Gj(T:Tx w K mg):bK:=cX 2 λb Q=>∃(f g:Fl)(rs:aw)(us:ah)(ss:f9)(S:Nat->Nat)(mk:bf)(a:bo)(_:Fp f)(_:Fp g),b=[cW T f (ip rs us ss S mk),.ag g ↥a]/\rs.length<=100/\a.length=us.length+2*rs.length+1/\Bd a/\(∀o∈rs,bi (bF us o)<=100)/\Q (.ag .o ((gG rs us a).map af.t))
theorem HS(T:Tx w K mg){z:Bool}:aK P w K mg base bJ 5 T.rn.a T.rn.d ["self","left"] (bP K z 0 2 (Gj T)):=by
 refine cu T.rn.F HQ rfl ∎ λa7 A outer s H E v x u=>?_
 refine⟨_,(a6 (bV (gc ["number","left","self"] [none,some 1,some 0] (xP T.uS (au (d7 e5 e7 T.e9 (au (cT K (qv 0)) aD)) aD)) (dk 0) (λ_ _ _ _ _=>(ft (gj T T.ro (Ir T)) (qv 2) (au (qv 0) (au (qv 1) aD))))))),?_⟩;rintro y r _ ⟨_,f,g,rs,us,ss,S,mk,h,_,_,rfl,j,n,l,o,q⟩;rfl';simp only[ie,jr,gA,i9,gF];refine wF T ?_;rfl'
 change -1000000<=(rs.length:Int)/\(rs.length:Int)<=1000000/\aZ (List.map (λi:Nat=>Tr.int (i:Int)) (List.range ((rs.length:Int)).toNat)) _ _ _ _ _
 rw[Int.toNat_natCast];refine⟨⋯,⋯,aZ.map (List.range rs.length) _ (mR rs us h) (by rw[length_range];omega) (λi m R e=>?_) ⟨qw _,q _⟩⟩;have b:=mem_range.mp m;rfl'
 try simp only[ie,jr,gA,i9,gF]
 refine iJ T ⟨rfl,f,g,rs,us,ss,S,mk,i,h,rs[i],‹_›,‹_›,rfl,⋯,getElem?_eq_getElem b,n,l,o _ (getElem_mem b),λ_=>?_⟩;unfold mR at e;rw[getElem?_eq_getElem b] at e;exact e
theorem T3{a b:Rat}(h:b≠0):bs (a / b)<=bs a+bs b:=by
 have hn:b.num≠0:=λz=>h (Rat.num_eq_zero.mp z)
 rw[<- BQ];exact p9 (Int.mul_ne_zero (by have:=a.den_nz;omega) hn) (le_trans (i6 _ _) (by have:=iH a;have:=gy b;omega)) (le_trans (i6 _ _) (by have:=gy a;have:=iH b;omega))
theorem tF{neg:Bool}{a b:Rat}{Q:ay}(q:Q (.bl (if neg=true then !decide (a=b) else decide (a=b)))):jU neg (af.t a) (af.t b) Q:=by
 refine .inr ⟨decide (a=b),?_,show (1:Nat)<=60 by decide,le_refl 1,q⟩;show (if 2=2 then (some (decide (a.num=b.num))).bind λx=>((some (decide ((a.den:Int)=b.den))).bind λy=>(some true).bind λz=>some (y&&z)).bind λy=>some (x&&y) else none)=_;rw[if_pos rfl];show some (decide (a.num=b.num)&&(decide ((a.den:Int)=b.den)&&true))=_;congr 1;by_cases h:a=b
 .subst h;simp
 .rw[decide_eq_false h];by_cases d:a.num=b.num
  .have h2:¬ (a.den:Int)=b.den:=λz=>h (Rat.ext d ⋯)
   rw[decide_eq_false h2,Bool.false_and,Bool.and_false]
  .rw[decide_eq_false d,Bool.false_and]
structure j7(e s v:Nat)(us:ah)(o:bY):Prop where
 b:uI us o
 p:0<bF us o
 sb:bi (bF us o)<=s
 eb:∀x∈ez us o,bi x<=e
 x:bi (cI us o)<=e
 w:0<=o.2.2.2.2/\bi o.2.2.2.2<=v
theorem xD{x:Int}{k:Nat}(h:bi x<=k):x.natAbs<=2 ^ k:=Nat.le_of_lt (jl h)
theorem xE:∀{m k:Nat},m<=k->Lp.gp m<=Lp.gp k
 |m,0,h=>by rw[show m=0 by omega];exact le_refl _
 |m,k + 1,h=>by
  by_cases e:m=k+1
  .rw[e];exact le_refl _
  .exact le_trans (xE (show m<=k by omega)) (Nat.le_mul_of_pos_left _ ⋯)
section
variable{rs:aw}{us:ah}{e s v:Nat}
theorem n8(h:∀o∈rs,j7 e s v us o){i k:Nat}(b:i<rs.length):(Mx rs us i k).natAbs<=2 ^ e:=by
 let⟨o,a⟩:=kx b;have z:=h o (mem_of_getElem? a);have one:1<=2 ^ e:=Nat.one_le_two_pow;rw[ot a,natAbs_mul,show (sgn (cI us o)).natAbs=1 by unfold sgn;split<;>rfl,Nat.one_mul];unfold A0;split
 .rw[getD_eq_getElem?_getD];cases q:(ez us o)[k]? with
  |none=>exact zero_le _
  |some x=>exact xD (z.eb x (mem_of_getElem? q))
 .split
  .exact one
  .split
   .exact one
   .split
    .exact xD z.x
    .exact zero_le _
def fb(N:Nat):Nat:=if N<=10 then 22 else 45
theorem UE{m N:Nat}(h:m<=N)(a:N<=16):Lp.gp m<2 ^ fb N:=by
 unfold fb;split
 .exact lt_of_le_of_lt (xE (show m<=10 by omega)) (by walk_at "k")
 .exact lt_of_le_of_lt (xE (show m<=16 by omega)) (by walk_at "k")
theorem qJ{m f:Nat}(a:Lp.gp m<2 ^ f){x:Int}(h:x.natAbs<=Lp.gp m*(2 ^ e) ^ m):bi x<=f+e*m:=by
 refine iL (lt_of_le_of_lt h ?_);rw[<- Nat.pow_mul,pow_add];exact Nat.mul_lt_mul_of_pos_right a (Nat.two_pow_pos _)
theorem UG(h:∀o∈rs,j7 e s v us o)(hm:rs.length<=16){f:Nat}(g:Lp.gp rs.length<2 ^ f)(hn:bj rs us<=60)(b:f+e*rs.length<=3000):Sz rs.length (bj rs us) (Mx rs us) where
 hm:=⋯
 hn:=hn
 t:=λS i k lt j=>le_trans (qJ g (Lp.hJ (λi k a _=>n8 h a) lt j)) b
 d:=λS lt=>le_trans (qJ g (Lp.fH (λi k a _=>n8 h a) lt)) b
def sX(us:ah):aw->Nat
 |[]=>1
 |o::rs=>(bF us o).natAbs * sX us rs
theorem xF:∀{rs:aw},(∀o∈rs,j7 e s v us o)->0<sX us rs
 |[],_=>Nat.one_pos
 |o::rs,h=>Nat.mul_pos (by have:=(h o (.head _)).p;omega) (xF λq m=>h q (.tail _ m))
theorem xG:∀{rs:aw}{o:bY},o∈rs->bF us o ∣ (sX us rs:Int)
 |p::rs,o,m=>by
  show _ ∣ (((bF us p).natAbs*sX us rs:Nat):Int);rw[natCast_mul];rcases mem_cons.mp m with rfl |m
  .exact dvd_trans (Int.dvd_natAbs_self) (Int.dvd_mul_right _ _)
  .exact dvd_trans (xG m) (Int.dvd_mul_left _ _)
theorem ya:∀{rs:aw},(∀o∈rs,j7 e s v us o)->bi (sX us rs:Int)<=1+s*rs.length
 |[],_=>by show bi 1 <= _;exact le_trans (show bi 1 <= 1 by walk_at "k") ⋯
 |o::rs,h=>by
  show bi (((bF us o).natAbs*sX us rs:Nat):Int)<=_;rw[natCast_mul];have a:=i6 ((bF us o).natAbs:Int) (sX us rs:Int);have b:=ya (rs:=rs) λq m=>h q (.tail _ m)
  have c:bi ((bF us o).natAbs:Int)<=s:=by unfold bi;rw[natAbs_natCast];exact (h o (.head _)).sb
  rw[length_cons,Nat.mul_succ];omega
theorem wG(a:Int){b:Int}(d:0<b):((Rat.divInt a b).den:Int) ∣ b:=by
 rw[Rat.den_divInt,if_neg (ne_of_gt d)];exact dvd_trans (Int.natCast_dvd_natCast.mpr (Nat.div_dvd_of_dvd (Nat.gcd_dvd_left _ _))) (Int.natAbs_dvd_self)
theorem UH{cs:bo}{X:Nat}(r:cs.length=bj rs us)(i:0<X)(hd:∀c∈cs,(c.den:Int) ∣ (X:Int)){x y:Nat}(B:bi (X:Int)<=x)(j:∀c∈cs,bi c.num<=y)(u:∀c∈cs,0<=c)(h:x+y<=3000):eV rs us cs/\∀k,bi (cf (cV cs) k)<=x+y:=by
 have f:∀c∈cs,bi (dX (cc cs) c)<=x+y:=λc m=>by
  unfold dX;let⟨z,l⟩:=(gf cs 1 ∎).2.2.1 c m;have g:(0:Int)<(c.den:Int):=natCast_pos.mpr c.den_pos;have o:(cc cs).fdiv (c.den:Int)=z:=by
   have:=Int.mul_fdiv_cancel_left (a:=(c.den:Int)) z (ne_of_gt g);rwa[<- l] at this
  rw[o];have A:=(gf cs 1 ∎).2.2.2 X (one_dvd _) hd;have n:z ∣ (X:Int):=dvd_trans (by rw[l];exact Int.dvd_mul_left _ _) A;have:=ku n i;have:=i6 c.num z;have:=j c m;omega
 refine⟨⟨r,⟨X,i,hd,⋯⟩,λc m=>?_,λc m=>?_,u⟩,λk=>?_⟩
 .have a:=ku (hd c m) i;have b:=j c m;unfold bs;unfold bi at a b;rw[natAbs_natCast] at a;have:bi (X:Int)=bl (X:Int).natAbs:=rfl;omega
 .unfold cV at m;let⟨d,md,rfl⟩:=mem_map.mp m;have:=f d md;omega
 .unfold cf cV;rw[getD_eq_getElem?_getD,getElem?_map];cases q:cs[k]? with
  |none=>exact zero_le _
  |some c=>exact f c (mem_of_getElem? q)
theorem T4(a:Int){b:Int}(g:0<b):bi (Rat.divInt a b).num<=bi a:=by
 have h:=Rat.num_divInt a b;by_cases f:a=0
 .subst f;rw[Rat.zero_divInt];exact zero_le _
 .have d:(Rat.divInt a b).num ∣ a:=by
   rw[h,Int.sign_eq_one_of_pos g,one_mul];exact Int.ediv_dvd_of_dvd (Int.gcd_dvd_right ..)
  have:=le_of_dvd ⋯ (Int.natAbs_dvd_natAbs.mpr d);exact iL (lt_of_le_of_lt this (jl (le_refl _)))
theorem wu{a b:Int}(d:0<=a)(f:0<b):0<=Rat.divInt a b:=Rat.divInt_nonneg d (le_of_lt f)
theorem tD{k:Int}{c:Rat}(m:c∈bO us rs k):c=0\/∃o∈rs,c=Rat.divInt o.2.2.2.2 (bF us o):=by
 unfold bO at m;rcases mem_append.mp m with m |m
 .exact .inl (List.eq_of_mem_replicate m)
 .obtain⟨o,ho,mo⟩:=List.mem_flatMap.mp m;simp only[mem_cons,List.not_mem_nil,or_false] at mo;rcases mo with rfl |rfl
  .unfold cb;split
   .split
    .exact .inl rfl
    .exact .inr ⟨o,ho,rfl⟩
   .exact .inl rfl
  .unfold ca;split
   .split
    .exact .inl rfl
    .exact .inr ⟨o,ho,rfl⟩
   .exact .inl rfl
theorem UI(h:∀o∈rs,j7 e s v us o)(k:Int)(a:1+s*rs.length+v<=3000):eV rs us (bO us rs k)/\∀j,bi (cf (cV (bO us rs k)) j)<=1+s*rs.length+v:=by
 refine UH (X:=sX us rs) (by unfold bO bj;rw[length_append,length_replicate,wt]) (xF h) (λc m=>?_) (ya h) (λc m=>?_) (λc m=>?_) a
 .rcases tD m with rfl |⟨o,ho,rfl⟩
  .exact one_dvd _
  .exact dvd_trans (wG _ (h o ho).p) (xG ho)
 .rcases tD m with rfl |⟨o,ho,rfl⟩
  .exact zero_le _
  .exact le_trans (T4 _ (h o ho).p) (h o ho).w.2
 .rcases tD m with rfl |⟨o,ho,rfl⟩
  .exact Rat.le_refl
  .exact wu (h o ho).w.1 (h o ho).p
def CD(l d:Nat)(b:bo):Prop:=∃D:Int,0<D/\bi D<=d/\∀x∈b,∃a:Int,x=Rat.divInt a D/\bi a<=l
theorem CD.mono{l d g d':Nat}{f:bo}(h:CD l d f)(a:l<=g)(b:d<=d'):CD g d' f:=by
 let⟨D,i,n,j⟩:=h;exact⟨D,i,⋯,λx m=>by let⟨y,e,o⟩:=j x m;exact⟨y,e,⋯⟩⟩
theorem CD.bs{l d:Nat}{b:bo}(h:CD l d b)(hd:d<=l){x:Rat}(m:x∈b):Vc.bs x<=l:=by
 ∎;let⟨D,f,j,i⟩:=h;let⟨a,rfl,g⟩:=i x m;∎;exact p9 (ne_of_gt f) g ⋯
theorem T5(h:∀o∈rs,j7 e s v us o)(hm:rs.length<=16){f:Nat}(b:Lp.gp rs.length<2 ^ f){cs:bo}{S:Nat->Nat}{C x:Nat}(lt:∀i,i<rs.length->S i<bj rs us)(G:0<Lp.dd rs.length (Mx rs us) S)(j:∀k,bi (cf (cV cs) k)<=C)(n:bi (cc cs)<=x)(m:x<=C+5):CD (C+(f+5)+e*rs.length) (C+(f+5)+e*rs.length) (eU rs us cs S):=by
 have hd:=qJ b (Lp.fH (A:=Mx rs us) (λi k a _=>n8 h a) lt);refine⟨cc cs*Lp.dd rs.length (Mx rs us) S,mul_pos (gf cs 1 ∎).1 G,le_trans (i6 _ _) ⋯,λy d=>?_⟩;unfold eU at d;let⟨k,l,rfl⟩:=mem_map.mp d;rw[mem_range] at l;refine⟨_,rfl,?_⟩;have z:=Lp.m7 (A:=Mx rs us) (λi k a _=>n8 h a) lt (C:=2 ^ C) (λk=>xD (j k)) (k:=k) ⋯;refine iL (lt_of_le_of_lt z ?_);rw[show C+(f+5)+e*rs.length=5+(C+(f+e*rs.length)) by omega,pow_add,pow_add 2 C];have g:Lp.gp rs.length*(2 ^ e) ^ rs.length<2 ^ (f+e*rs.length):=by
  rw[<- Nat.pow_mul,pow_add];exact Nat.mul_lt_mul_of_pos_right b (Nat.two_pow_pos _)
 exact Nat.mul_lt_mul_of_lt_of_le (show rs.length+1<2 ^ 5 by omega) (Nat.mul_le_mul_left _ (Nat.le_of_lt g)) (Nat.mul_pos (Nat.two_pow_pos _) (Nat.two_pow_pos _))
end
structure oN(z:Nat)(rs:aw)(us:ah):Prop where
 b:rg rs us
 y:Sz rs.length (bj rs us) (Mx rs us)
 s:∀o∈rs,0<bF us o/\bi (bF us o)<=100
 k:∀r:Int,eV rs us (bO us rs r)/\∀S,Lp.Gd rs.length (bj rs us) (Mx rs us) S->CD z z (eU rs us (bO us rs r) S)
 v:∀S:Nat->Nat,(∀i,i<rs.length->S i<bj rs us)->bi (Lp.dd rs.length (Mx rs us) S)<=z/\∀i k,k<=bj rs us->bi (Lp.tt rs.length (Mx rs us) S i k)<=z
 h:1<=z/\z<=645
theorem eV.cb{rs:aw}{us:ah}{cs:bo}(h:eV rs us cs){X:Nat}(a:0<X)(hd:∀c∈cs,(c.den:Int) ∣ (X:Int)):bi (cc cs)<=bi (X:Int):=ku ((gf cs 1 ∎).2.2.2 X (one_dvd _) hd) a
theorem UJ{rs:aw}{us:ah}{e s v N z:Nat}(h:∀o∈rs,j7 e s v us o)(hm:rs.length<=N)(j:N<=16)(A:us.length<=8)(hs:s<=100)(B:2+s*N+v+(fb N+5)+e*N<=z)(y:z<=645):oN z rs us:=by
 have d:=UE hm j;have n:=Nat.mul_le_mul_left s hm;have q:=Nat.mul_le_mul_left e hm;have u:2<=fb N:=by unfold fb;split<;>decide
 have hn:bj rs us<=60:=by unfold bj;omega
 refine⟨⟨⋯,⋯,λo m=>(h o m).b⟩,UG h ⋯ d hn ⋯,λo m=>⟨(h o m).p,le_trans (h o m).sb ⋯⟩,λr=>?_,λS lt=>⟨le_trans (qJ d (Lp.fH (λi k f _=>n8 h f) lt)) ⋯,λi k l=>le_trans (qJ d (Lp.hJ (λi k f _=>n8 h f) lt l)) ⋯⟩,⋯⟩
 .obtain⟨a,b⟩:=UI h r ⋯;refine⟨a,λS G=>?_⟩;have c:bi (cc (bO us rs r))<=1+s*N:=le_trans (a.cb (xF h) λc m=>by
   rcases tD m with rfl |⟨o,g,rfl⟩
   .exact one_dvd _
   .exact dvd_trans (wG _ (h o g).p) (xG g)) (le_trans (ya h) ⋯)
  have:=T5 (S:=S) h ⋯ d (C:=1+s*N+v) (x:=1+s*N) G.lt G.pos (λk=>le_trans (b k) ⋯) c ⋯;exact this.mono ⋯ ⋯
structure Bz(N z:Nat)(rs:aw)(us:ah):Prop where
 n:N<=16
 q:∀qs:aw,(∀o∈qs,o∈rs)->qs.length<=N->oN z qs us
theorem UK{rs:aw}{us:ah}{e s v N z:Nat}(h:∀o∈rs,j7 e s v us o)(a:N<=16)(g:us.length<=8)(hs:s<=100)(i:2+s*N+v+(fb N+5)+e*N<=z)(b:z<=645):Bz N z rs us:=⟨a,λ_ f d=>UJ (λo m=>h o (f o m)) d a g hs i b⟩
theorem Nx(T:Tx w K mg){f g:Fl}{rs:aw}{us:ah}[Fp f][Fp g](a:rg rs us){R:ay}(q:R (cW T .o (ux rs us))):Ap T [.ins .o T.aah [],.ag f ↥rs,.ag g ↥us] λt b=>t=.aE/\nN b[0]? R:=⟨rfl,f,g,rs,us,‹_›,‹_›,rfl,a,λj e=>⟨rfl,by rw[e];exact⟨um T _,q⟩⟩⟩
theorem wA(rs:aw)(us:ah)(cs:bo)(S:Nat->Nat):eU rs us cs S=(List.range (bj rs us)).map (λk=>Rat.divInt (Lp.zz rs.length (Mx rs us) (cf (cV cs)) S k) (cc cs*Lp.dd rs.length (Mx rs us) S))++[Rat.divInt (Lp.zz rs.length (Mx rs us) (cf (cV cs)) S (bj rs us)) (cc cs*Lp.dd rs.length (Mx rs us) S)]:=by
 unfold eU;rw[Cv]
structure nr(z:Nat)(rs:aw)(us:ah)(S:Nat->Nat):Prop where
 g:Lp.Gd rs.length (bj rs us) (Mx rs us) S
 o:∀k,k<bj rs us->0<=Lp.zz rs.length (Mx rs us) (cf (cV (bO us rs 0))) S k
 d:CD z z (eU rs us (bO us rs 0) S)
def Hm(T:Tx w K mg):bK:=cX 2 λa Q=>∃(f g:Fl)(rs:aw)(us:ah)(z:Nat)(_:Fp f)(_:Fp g),a=[.ag f ↥rs,.ag g ↥us]/\oN z rs us/\∀(S:Nat->Nat)(mk:bf),nr z rs us S->Q (cW T .o (ip rs us [eU rs us (bO us rs 0) S] S mk))
theorem By(T:Tx w K mg){z:Bool}:aK P w K mg base bJ 6 T.o8.a T.o8.d ["rows","unknowns"] (bP K z 0 2 (Hm T)):=by
 refine cu T.o8.F HW rfl ∎ λa7 A outer s H E J L x=>?_
 refine⟨_,(aQ (jn 2 (E3 T.rM (HL T) T.FN (QA.aA (au (qv 0) (au (qv 1) aD)))))
  (aQ (Dy (qo (dg 2) (gj T T.rl (HR T)) (lD (ft (gj T T.rj (Hz T)) (qv 2) (au (uj T.zc) aD)) qg)))
  (a6 (ll (lg 2))))),?_⟩
 rintro M D _ ⟨_,f,g,rs,us,N,_,_,rfl,n,q⟩;let⟨v,u⟩:=n.k 0;rfl';refine Nx T n.b ⟨yB T _,Dp rfl (by intro z;cases z) (iJ T ?_)⟩;rw[T1];rfl';simp only[ie,jr,eG,eS,gF];refine iJ T ⟨rfl,.l false,rs,us,[],S0 rs us,[],_,inferInstance,rfl,n.b,λo m=>⟨(n.s o m).1,by have:=(n.s o m).2;omega⟩,λ_=>?_⟩;rfl';refine⟨rfl,.f,rs,us,[],S0 rs us,[],bO us rs 0,inferInstance,rfl,n.y,UD,λi I h=>absurd (nH.mp h) (by simp),v,by simp,by simp,λr G x B j e=>?_⟩;dsimp only;rw[e,gF];refine⟨um T _,?_⟩;rw[gF];exact⟨um T _,q _ _ ⟨G,λk C=>B k C λh=>absurd (nH.mp h) (by simp),u r G⟩ _⟩
def oF:bY:=([],"",0,0,1)
def pick(rs:aw)(ks:az):aw:=ks.map λk=>rs.getD k.toNat oF
def Val(rs:aw)(ks:az):Prop:=∀k∈ks,0<=k/\k.toNat<rs.length
theorem qq{rs:aw}{ks:az}(h:Val rs ks){k:Int}(m:k∈ks):dc rs k=some (rs.getD k.toNat oF):=by
 let⟨a,b⟩:=h k m;rw[tM rs a b,getD_eq_getElem?_getD,getElem?_eq_getElem b];rfl
theorem wH{rs:aw}{us:ah}{ks:az}{N z:Nat}(b:Bz N z rs us)(a:ks.length<=N)(d:Val rs ks):oN z (pick rs ks) us:=
 b.q _ (λo m=>by
  let⟨k,mk,rfl⟩:=mem_map.mp m;rw[getD_eq_getElem?_getD,getElem?_eq_getElem (d k mk).2];exact getElem_mem _) (by unfold pick;rw[length_map];exact a)
def dK(d:List (Int×Rat)):bE:=d.map λp=>((Sum.inl p.1:aS),af.t p.2)
theorem ly(d:List (Int×Rat)):jX (dK d)=true:=by
 have:=jN (d.map λp=>((Sum.inl p.1:aS),p.2));rw[map_map] at this;exact this
def sA(d:List (Int×Rat))(y:Int)(k:Rat):List (Int×Rat):=if (d.any λp=>decide (p.1=y))=true then d.map (λp=>if p.1=y then (p.1,k) else p) else d++[(y,k)]
theorem T6(d:List (Int×Rat))(y:Int)(k:Rat):iF (dK d) (Sum.inl y) (af.t k)=dK (sA d y k):=by
 unfold iF sA;have e:((dK d).any λa=>decide (a.1=(Sum.inl y:aS)))=d.any λp=>decide (p.1=y):=by
  unfold dK;rw[List.any_map];congr 1;funext p;exact decide_eq_decide.mpr ⟨λz=>Sum.inl.inj z,λz=>by show (Sum.inl p.1:aS)=_;rw[z]⟩
 rw[e];split
 .unfold dK;rw[map_map,map_map];refine map_congr_left λp _=>?_
  show (if (Sum.inl p.1:aS)=Sum.inl y then ((Sum.inl p.1:aS),af.t k) else (Sum.inl p.1,af.t p.2))=(Sum.inl (if p.1=y then (p.1,k) else p).1,af.t (if p.1=y then (p.1,k) else p).2)
  by_cases h:p.1=y
  .rw[if_pos h,if_pos (by rw[h])]
  .rw[if_neg h,if_neg (λz=>h (Sum.inl.inj z))]
 .unfold dK;rw[map_append];rfl
theorem FC(d:List (Int×Rat)):Pu.aA (.aR .o (dK d))=.aR .f (dK d):=by show Tr.aR .f (dM _)=_;rw[show dM (dK d)=dK d from (cB _ (ly d)).f]
theorem Uj(T:Tx w K mg)(S:gb):Pu.aA (b4 T .o S)=b4 T .f S:=by
 unfold b4 fB;show Tr.ins .f _ (fh _)=_;simp only[fh,jP,B1,eM,show Pu.aA (.aR .o (mT S.m))=.aR .f (mT S.m) from by show Tr.aR .f (dM _)=_;rw[show dM (mT S.m)=mT S.m from (cB _ (jN S.m)).f]];rfl
theorem FD(T:Tx w K mg)(S:gw):Pu.aA (cW T .o S)=cW T .f S:=by
 unfold cW gu;show Tr.ins .f _ (fh _)=_;simp only[fh,jP,Uj,eM];rfl
def dot:bo->(Nat->Rat)->Rat
 |[],_=>0
 |c::cs,y=>c * y 0 + dot cs λk=>y (k + 1)
theorem Cz:∀{cs:bo}{y z:Nat->Rat},(∀k,k<cs.length->y k=z k)->dot cs y=dot cs z
 |[],_,_,_=>rfl
 |c::cs,y,z,h=>by
  rw[dot,dot,h 0 (Nat.zero_lt_succ _),Cz λk a=>h (k+1) (Nat.succ_lt_succ a)]
theorem DV(a:Rat):∀(cs:bo)(y:Nat->Rat),dot cs (λk=>a*y k)=a*dot cs y
 |[],_=>by rw[dot,dot];grind
 |c::cs,y=>by rw[dot,dot,DV a cs];grind
theorem DW:∀(A B:bo)(y:Nat->Rat),dot (A++B) y=dot A y+dot B λk=>y (A.length+k)
 |[],B,y=>by
  rw[dot,List.nil_append];have:(λk=>y (([]:bo).length+k))=y:=by funext k;rw[length_nil,Nat.zero_add]
  rw[this];grind
 |c::A,B,y=>by
  rw[cons_append,dot,dot,DW A B];have:(λk=>y (A.length+k+1))=λk=>y ((c::A).length+k):=by funext k;rw[length_cons];congr 1;omega
  rw[this];grind
theorem wI:∀(n:Nat)(y:Nat->Rat),dot (List.replicate n 0) y=0
 |0,_=>rfl
 |n + 1,y=>by rw[List.replicate_succ,dot,wI n];grind
theorem wB(f:Nat->Int):∀n,Lp.sm (n+1) f=f 0+Lp.sm n λk=>f (k+1)
 |0=>by rw[Lp.sm,Lp.sm,Lp.sm];omega
 |n + 1=>by rw[Lp.sm,wB f n,Lp.sm];omega
theorem Dq(a:Nat)(f:Nat->Int):∀b,Lp.sm (a+b) f=Lp.sm a f+Lp.sm b λk=>f (a+k)
 |0=>by rw[Nat.add_zero,Lp.sm];omega
 |b + 1=>by rw[<- Nat.add_assoc,Lp.sm,Dq a f b,Lp.sm];omega
theorem sO{b:Int}{c:Rat}(h:(c.den:Int) ∣ b):((dX b c:Int):Rat)=b*c:=by
 let⟨k,rfl⟩:=h;have hd:(c.den:Int)≠0:=by have:=c.den_pos;omega
 unfold dX;rw[Int.mul_fdiv_cancel_left k hd,Rat.intCast_mul,Rat.intCast_mul];have e:c*(c.den:Int)=c.num:=by
  have:=Rat.num_divInt_den c;rw[Rat.divInt_eq_div] at this;have d:((c.den:Int):Rat)≠0:=λe=>hd (Rat.intCast_eq_zero_iff.mp e)
  have m:=Rat.div_mul_cancel (a:=(c.num:Rat)) d;rw[this] at m;exact m
 rw[<- e]
 grind
theorem xH{b:Int}:∀{cs:bo}(y:Nat->Int),(∀c∈cs,(c.den:Int) ∣ b)->((Lp.sm cs.length (λk=>(cs.map (dX b)).getD k 0*y k):Int):Rat)=b*dot cs λk=>(y k:Rat)
 |[],y,_=>by rw[dot,length_nil,Lp.sm];show (0:Rat)=_;grind
 |c::cs,y,h=>by
  rw[length_cons,wB,Rat.intCast_add,Rat.intCast_mul,dot];have a:=xH (cs:=cs) (λk=>y (k+1)) λc m=>h c (.tail _ m)
  rw[show (λk=>((c::cs).map (dX b)).getD (k+1) 0*y (k+1))=λk=>(cs.map (dX b)).getD k 0*y (k+1) from rfl,a,show ((c::cs).map (dX b)).getD 0 0=dX b c from rfl,sO (h c (.head _))]
  grind
def adr(us:ah)(o:bY)(x:Nat->Rat):Rat:=dot (fY us o) x - o.2.2.1
def jb(k:Str)(d:Rat):Rat:=if k="least" then (if d<0 then -d else 0) else if k="most" then (if 0<d then d else 0) else if d<0 then -d else d
def ja(us:ah)(k:Int)(x:Nat->Rat):aw->Rat
 |[]=>0
 |o::rs=>(if o.2.2.2.1=k then (o.2.2.2.2:Rat) * jb o.2.1 (adr us o x) else 0) + ja us k x rs
def cst(us:ah)(k:Int):aw->(Nat->Rat)->Rat
 |[],_=>0
 |o::rs,y=>cb us k o * y 0 + ca us k o * y 1 + cst us k rs λj=>y (j + 2)
theorem DX(us:ah)(k:Int):∀(rs:aw)(y:Nat->Rat),dot (rs.flatMap λo=>[cb us k o,ca us k o]) y=cst us k rs y
 |[],_=>rfl
 |o::rs,y=>by
  rw[List.flatMap_cons,cst,<- DX us k rs,cons_append,cons_append,List.nil_append,dot,dot]
  grind
theorem RF(us:ah)(rs:aw)(k:Int)(y:Nat->Rat):dot (bO us rs k) y=cst us k rs λj=>y (us.length+j):=by
 unfold bO;rw[DW,wI,DX,length_replicate];grind
theorem S8{us:ah}{k:Int}{o:bY}{q d a b:Rat}(hs:0<bF us o)(v:0<=o.2.2.2.2)(n:0<=a)(s:0<=b)(e:b - a=- ((bF us o:Rat)*(d*q)))(y:0<=q):q*(if o.2.2.2.1=k then (o.2.2.2.2:Rat)*jb o.2.1 d else 0)<=cb us k o*b+ca us k o*a:=by
 unfold cb ca;by_cases f:o.2.2.2.1=k
 .rw[if_pos f,if_pos f,if_pos f];have i:(0:Rat)<(bF us o:Rat):=Rat.intCast_pos.mpr hs;have u:Rat.divInt o.2.2.2.2 (bF us o)*(bF us o:Rat)=(o.2.2.2.2:Rat):=by
   rw[Rat.divInt_eq_div];exact Rat.div_mul_cancel (Rat.ne_of_gt i)
  have j:0<=Rat.divInt o.2.2.2.2 (bF us o):=wu v hs;generalize Rat.divInt o.2.2.2.2 (bF us o)=r at *;have A:=Rat.mul_nonneg j n;have B:=Rat.mul_nonneg j s;have z:r*b - r*a=- (q*((o.2.2.2.2:Rat)*d)):=by
   have x:r*(b - a)=r*(- ((bF us o:Rat)*(d*q))):=by rw[e]
   rw[<- u];grind
  generalize (o.2.2.2.2:Rat)=W at *;have l:q*(W*(-d))=- (q*(W*d)):=by grind
  have m:q*(W*0)=0:=by grind
  unfold jb;generalize q*(W*d)=Z at *;by_cases h:o.2.1="least"
  .have g:¬ o.2.1="most":=by rw[h];decide
   rw[if_pos h,if_pos h,if_neg g];split
   .rw[l];grind
   .rw[m];grind
  .rw[if_neg h,if_neg h];by_cases g:o.2.1="most"
   .rw[if_pos g,if_pos g];split
    .grind
    .rw[m];grind
   .rw[if_neg g,if_neg g];split
    .rw[l];grind
    .grind
 .rw[if_neg f,if_neg f,if_neg f];grind
theorem EG{us:ah}{k:Int}{x:Nat->Rat}{q:Rat}(a:0<=q):∀(rs:aw)(y:Nat->Rat),(∀o∈rs,0<bF us o/\0<=o.2.2.2.2)->(∀j,j<2*rs.length->0<=y j)->(∀i o,rs[i]?=some o->y (2*i) - y (2*i+1)=- ((bF us o:Rat)*(adr us o x*q)))->q*ja us k x rs<=cst us k rs y
 |[],_,_,_,_=>by rw[ja,cst];grind
 |o::rs,y,h,nn,e=>by
  rw[ja,cst,Rat.mul_add];have d:=S8 (k:=k) (h o (.head _)).1 (h o (.head _)).2 (nn 1 (by rw[length_cons];omega)) (nn 0 (by rw[length_cons];omega)) (e 0 o rfl) a;have f:=EG (k:=k) a rs (λj=>y (j+2)) (λo m=>h o (.tail _ m)) (λj g=>nn (j+2) (by rw[length_cons];omega)) λi o b=>e (i+1) o b
  grind
theorem RG{us:ah}{o:bY}{R i:Nat}{y:Nat->Int}(r:i<R):Lp.sm (us.length+2*R+1) (λk=>A0 us.length R i (ez us o) (cI us o) k*y k)=Lp.sm us.length (λk=>(ez us o).getD k 0*y k)+(y (us.length+2*i) - y (us.length+2*i+1))+cI us o*y (us.length+2*R):=by
 rw[Lp.sm,Dq];have j:Lp.sm us.length (λk=>A0 us.length R i (ez us o) (cI us o) k*y k)=Lp.sm us.length (λk=>(ez us o).getD k 0*y k):=Lp.aV λk d=>by unfold A0;rw[if_pos d]
 have l:=Lp.eH (f:=λk=>A0 us.length R i (ez us o) (cI us o) (us.length+k)*y (us.length+k)) (a:=2*i) (b:=2*i+1) ⋯ (n:=2*R) ⋯ λk d m q=>by
  unfold A0;rw[if_neg ⋯,if_neg ⋯,if_neg ⋯,if_neg ⋯,zero_mul]
 rw[j,l];have e:A0 us.length R i (ez us o) (cI us o) (us.length+2*i)=1:=by unfold A0;rw[if_neg ⋯,if_pos rfl]
 have g:A0 us.length R i (ez us o) (cI us o) (us.length+(2*i+1))=-1:=by unfold A0;rw[if_neg ⋯,if_neg ⋯,if_pos ⋯]
 have h:A0 us.length R i (ez us o) (cI us o) (us.length+2*R)=cI us o:=by unfold A0;rw[if_neg ⋯,if_neg ⋯,if_neg ⋯,if_pos rfl]
 rw[e,g,h,one_mul,<- Nat.add_assoc];omega
theorem nX(us:ah)(o:bY):0<bF us o/\(∀c∈fY us o,(c.den:Int) ∣ bF us o)/\(o.2.2.1.den:Int) ∣ bF us o:=by
 have h:=gf (cg us o) 1 ∎;exact⟨h.1,λc m=>h.2.2.1 c (mem_append.mpr (.inl m)),h.2.2.1 _ (mem_append.mpr (.inr (.head _)))⟩
theorem Uk(us:ah)(o:bY)(y:Nat->Int):((Lp.sm us.length (λk=>(ez us o).getD k 0*y k):Int):Rat)=bF us o*dot (fY us o) λk=>(y k:Rat):=by
 have:=xH (b:=bF us o) (cs:=fY us o) y (nX us o).2.1;rwa[show (fY us o).length=us.length from length_map _] at this
theorem Ny{rs:aw}{us:ah}{sh:Nat->Prop}{q:Int}{y:Nat->Int}(F:Lp.jY rs.length (bj rs us) (Mx rs us) sh q y){x:Nat->Rat}(j:∀k,k<us.length->x k*q=y k){i:Nat}{o:bY}(a:rs[i]?=some o):((y (us.length+2*i):Int):Rat) - ((y (us.length+(2*i+1)):Int):Rat)=- ((bF us o:Rat)*(adr us o x*q)):=by
 have b:=(List.getElem?_eq_some_iff.mp a).1;have k:=F.DG i b;rw[Lp.aV (g:=λk=>sgn (cI us o)*(A0 us.length rs.length i (ez us o) (cI us o) k*y k)) λk _=>by rw[ot a,Int.mul_assoc],Lp.bH] at k;have h:sgn (cI us o)≠0:=by unfold sgn;split<;>decide
 have e:=(Int.mul_eq_zero.mp k).resolve_left h;rw[show bj rs us+1=us.length+2*rs.length+1 from rfl,RG b,show us.length+2*rs.length=bj rs us from rfl,F.rhs] at e;have c:((_:Int):Rat)=((0:Int):Rat):=congrArg (λz:Int=>(z:Rat)) e;rw[Rat.intCast_add,Rat.intCast_add,Uk,Rat.intCast_sub,Rat.intCast_mul,Rat.intCast_neg,show cI us o=dX (bF us o) o.2.2.1 from rfl,sO (nX us o).2.2] at c;have d:dot (fY us o) (λk=>(y k:Rat))=q*dot (fY us o) x:=by
  rw[<- DV];refine Cz λk f=>?_
  rw[<- j k (by rwa[show (fY us o).length=us.length from length_map _] at f)];exact Rat.mul_comm _ _
 rw[d,Rat.intCast_zero] at c;unfold adr;rw[<- Nat.add_assoc]
 grind
theorem UL{rs:aw}{us:ah}{cs:bo}(h:cs.length=bj rs us)(y:Nat->Int):((Lp.sm (bj rs us) (λk=>cf (cV cs) k*y k):Int):Rat)=cc cs*dot cs λk=>(y k:Rat):=by
 rw[<- h];exact xH (b:=cc cs) (cs:=cs) y (gf cs 1 ∎).2.2.1
theorem S9{rs:aw}{us:ah}{S:Nat->Nat}(G:Lp.Gd rs.length (bj rs us) (Mx rs us) S)(k:Nat):jd rs.length (bj rs us) (Mx rs us) S k*(Lp.dd rs.length (Mx rs us) S:Int)=(Lp.gV rs.length (bj rs us) (Mx rs us) S k:Int):=by
 unfold jd;rw[Rat.divInt_eq_div];exact Rat.div_mul_cancel (Rat.ne_of_gt (Rat.intCast_pos.mpr G.pos))
theorem EH(k:Str)(d:Rat):0<=jb k d:=by
 unfold jb
 repeat' split
 all_goals grind
theorem xI{us:ah}{k:Int}{x:Nat->Rat}:∀{rs:aw},(∀o∈rs,0<=o.2.2.2.2)->0<=ja us k x rs
 |[],_=>Rat.le_refl
 |o::rs,h=>by
  have b:=xI (us:=us) (k:=k) (x:=x) λo m=>h o (.tail _ m)
  have a:(0:Rat)<=(o.2.2.2.2:Rat):=Rat.intCast_nonneg.mpr (h o (.head _));have:=Rat.mul_nonneg a (EH o.2.1 (adr us o x));rw[ja];split<;>grind
theorem Dr(k:Str)(d:Rat):jb k d=0↔(k="least"->0<=d)/\(k="most"->d<=0)/\(k≠"least"->k≠"most"->d=0):=by
 unfold jb;have ne:¬ ("most":Str)="least":=∎
 by_cases a:k="least"
 .rw[if_pos a];have b:¬ k="most":=λe=>ne (e.symm.trans a)
  split<;>grind
 .rw[if_neg a];by_cases b:k="most"
  .rw[if_pos b];split<;>grind
  .rw[if_neg b];split<;>grind
theorem wJ{us:ah}{x:Nat->Rat}:∀{rs:aw},(∀o∈rs,o.2.2.2.1=0/\0<o.2.2.2.2)->ja us 0 x rs=0->∀o∈rs,jb o.2.1 (adr us o x)=0
 |[],_,_,_,m=>nomatch m
 |p::rs,h,e,o,m=>by
  let⟨a,b⟩:=h p (.head _);rw[ja,if_pos a] at e;have w:(0:Rat)<(p.2.2.2.2:Rat):=Rat.intCast_pos.mpr b;have f:=Rat.mul_nonneg (Rat.le_of_lt w) (EH p.2.1 (adr us p x));have g:=xI (us:=us) (k:=0) (x:=x) (rs:=rs) λo m=>le_of_lt (h o (.tail _ m)).2
  have d:ja us 0 x rs=0:=by grind
  rcases mem_cons.mp m with rfl |m
  .have z1:(o.2.2.2.2:Rat)*jb o.2.1 (adr us o x)=0:=by grind
   rcases Rat.mul_eq_zero.mp z1 with z |z
   .exact absurd z (Rat.ne_of_gt w)
   .exact z
  .exact wJ (λo m=>h o (.tail _ m)) d o m
theorem wK(us:ah)(rs:aw)(k:Int):(bO us rs k).length=bj rs us:=by
 unfold bO bj;rw[length_append,length_replicate,wt]
abbrev tl(rs:aw)(us:ah)(S:Nat->Nat):Nat->Rat:=jd rs.length (bj rs us) (Mx rs us) S
abbrev zr(rs:aw)(us:ah)(S:Nat->Nat)(k:Nat):Int:=Lp.zz rs.length (Mx rs us) (cf (cV (bO us rs 0))) S k
theorem wL{z:Nat}{rs:aw}{us:ah}{S:Nat->Nat}(h:nr z rs us S)(f:∀o∈rs,0<=o.2.2.2.2):zr rs us S (bj rs us)<=0/\(zr rs us S (bj rs us)=0->ja us 0 (tl rs us S) rs=0)/\∀k,k<us.length->0<=tl rs us S k:=by
 have F:=Lp.gm (sh:=λ_=>False) h.g λ_ _ z=>z
 have d:=h.g.pos;have a:(0:Rat)<(Lp.dd rs.length (Mx rs us) S:Int):=Rat.intCast_pos.mpr d;have u:∀k,k<us.length->0<=tl rs us S k:=λk A=>by
  unfold tl jd;exact wu (F.nn k (by unfold bj;omega)) d
 have l:=Lp.jv (c:=cf (cV (bO us rs 0))) h.g (xC (by unfold cV;rw[length_map,wK]));have e:=UL (wK us rs 0) (Lp.gV rs.length (bj rs us) (Mx rs us) S);rw[l] at e;have b:=Rat.intCast_pos.mpr (gf (bO us rs 0) 1 ∎).1;have g:(Lp.dd rs.length (Mx rs us) S:Rat)*ja us 0 (tl rs us S) rs<=dot (bO us rs 0) λk=>(Lp.gV rs.length (bj rs us) (Mx rs us) S k:Rat):=by
  rw[RF];exact EG (Rat.le_of_lt a) rs _ (λo m=>⟨(nX us o).1,f o m⟩) (λj v=>Rat.intCast_nonneg.mpr (F.nn _ (by unfold bj;omega))) λi o s=>Ny F (λk _=>S9 h.g k) s
 have n:=Rat.mul_nonneg (Rat.le_of_lt a) (xI (us:=us) (k:=0) (x:=tl rs us S) f);have m:=Rat.mul_nonneg (Rat.le_of_lt b) (show (0:Rat)<=dot (bO us rs 0) λk=>(Lp.gV rs.length (bj rs us) (Mx rs us) S k:Rat) by grind);refine⟨?_,λz=>?_,u⟩
 .unfold cc at e m b;rw[<- e] at m;have:=Rat.intCast_nonneg.mp m;unfold zr;omega
 .have z':Lp.zz rs.length (Mx rs us) (cf (cV (bO us rs 0))) S (bj rs us)=0:=z;rw[z'] at e;have q:(0:Rat)=(cc (bO us rs 0):Rat)*dot (bO us rs 0) λk=>(Lp.gV rs.length (bj rs us) (Mx rs us) S k:Rat):=by rw[<- e];rfl
  rcases Rat.mul_eq_zero.mp q.symm with y |y
  .exact absurd y (Rat.ne_of_gt b)
  .rw[y] at g;have r:(Lp.dd rs.length (Mx rs us) S:Rat)*ja us 0 (tl rs us S) rs=0:=by grind
   rcases Rat.mul_eq_zero.mp r with y |y
   .exact absurd y (Rat.ne_of_gt a)
   .exact y
theorem Ul(m:Nat)(A:aF)(c:Nat->Int)(S:Nat->Nat):∃u:Nat->Int,∀k,Lp.zz m A c S k=Lp.dd m A S*c k - Lp.sm m λi=>u i*A i k:=by
 refine⟨λi=>Lp.sm m λj=>c (S j)*Lp.dt m (Lp.up (Lp.bs A S) j λx=>if x=i then 1 else 0),λk=>?_⟩;unfold Lp.zz;congr 1;rw[Lp.aV (g:=λj=>Lp.sm m λi=>c (S j)*(A i k*Lp.dt m (Lp.up (Lp.bs A S) j λx=>if x=i then 1 else 0))) λj a=>by rw[Lp.fO k a,Lp.bH],Lp.c9];refine Lp.aV λi b=>?_
 rw[mul_comm,<- Lp.bH];refine Lp.aV λj a=>?_
 grind
def uw(rs:aw)(us:ah)(i:Nat):Int:=match rs[i]? with
 |some o=>sgn (cI us o)
 |none=>0
def AR(rs:aw)(us:ah)(i k:Nat):Int:=match rs[i]? with
 |some o=>A0 us.length rs.length i (ez us o) (cI us o) k
 |none=>0
theorem UM(rs:aw)(us:ah)(i k:Nat):Mx rs us i k=uw rs us i*AR rs us i k:=by
 unfold Mx uw AR;cases rs[i]? with
 |none=>rfl
 |some o=>rfl
theorem og{rs:aw}{us:ah}{i:Nat}{o:bY}(h:rs[i]?=some o)(k:Nat):AR rs us i k=A0 us.length rs.length i (ez us o) (cI us o) k:=by unfold AR;rw[h]
theorem Ds{j:Type}(f g:j->Rat):∀{xs:List j}{i:Nat}{o:j},xs[i]?=some o->(xs.flatMap λo=>[f o,g o])[2*i]?=some (f o)/\(xs.flatMap λo=>[f o,g o])[2*i+1]?=some (g o)
 |x::xs,0,o,h=>by cases h;exact⟨rfl,rfl⟩
 |x::xs,i + 1,o,h=>Ds f g (xs:=xs) (i:=i) h
theorem Fc{rs:aw}{us:ah}{i:Nat}{o:bY}(h:rs[i]?=some o):cf (cV (bO us rs 0)) (us.length+2*i)=dX (cc (bO us rs 0)) (cb us 0 o)/\cf (cV (bO us rs 0)) (us.length+2*i+1)=dX (cc (bO us rs 0)) (ca us 0 o):=by
 have at':∀j,us.length<=j->(bO us rs 0)[j]?=(rs.flatMap λo=>[cb us 0 o,ca us 0 o])[j - us.length]?:=λj f=>by
  unfold bO;rw[getElem?_append_right (by rw[length_replicate];exact f),length_replicate]
 let⟨a,b⟩:=Ds (cb us 0) (ca us 0) h;have d:∀(j:Nat)(c:Rat),(bO us rs 0)[j]?=some c->cf (cV (bO us rs 0)) j=dX (cc (bO us rs 0)) c:=λj c e=>by
  unfold cf cV;rw[getD_eq_getElem?_getD,getElem?_map,e];rfl
 exact⟨d _ _ (by rw[at' _ ⋯,show us.length+2*i - us.length=2*i by omega];exact a),d _ _ (by rw[at' _ ⋯,show us.length+2*i+1 - us.length=2*i+1 by omega];exact b)⟩
theorem qy(b:Int):dX b 0=0:=by unfold dX;rw[show (0:Rat).num=0 from rfl,zero_mul]
theorem Um{rs:aw}{us:ah}{k:Nat}(h:k<us.length):cf (cV (bO us rs 0)) k=0:=by
 unfold cf cV;rw[getD_eq_getElem?_getD,getElem?_map];have:(bO us rs 0)[k]?=some 0:=by
  unfold bO;rw[getElem?_append_left (by rw[length_replicate];exact h),List.getElem?_replicate,if_pos h]
 rw[this];exact qy _
structure yQ(rs:aw)(us:ah)(S:Nat->Nat)(l:Nat->Int):Prop where
 u:∀k,k<us.length->zr rs us S k=- Lp.sm rs.length λi=>l i*AR rs us i k
 x:zr rs us S (bj rs us)=- Lp.sm rs.length λi=>l i*AR rs us i (bj rs us)
 b:∀i o,rs[i]?=some o->zr rs us S (us.length+2*i)=Lp.dd rs.length (Mx rs us) S*dX (cc (bO us rs 0)) (cb us 0 o) - l i
 a:∀i o,rs[i]?=some o->zr rs us S (us.length+2*i+1)=Lp.dd rs.length (Mx rs us) S*dX (cc (bO us rs 0)) (ca us 0 o)+l i
theorem lam(rs:aw)(us:ah)(S:Nat->Nat):∃l,yQ rs us S l:=by
 let⟨u,e⟩:=Ul rs.length (Mx rs us) (cf (cV (bO us rs 0))) S;have a:∀k,zr rs us S k=Lp.dd rs.length (Mx rs us) S*cf (cV (bO us rs 0)) k - Lp.sm rs.length λi=>u i*uw rs us i*AR rs us i k:=λk=>by
  unfold zr;rw[e k];congr 1;refine Lp.aV λi _=>?_
  rw[UM,Int.mul_assoc]
 refine⟨λi=>u i*uw rs us i,λk d=>?_,?_,λi o h=>?_,λi o h=>?_⟩
 .rw[a,Um d];omega
 .rw[a,xC (by unfold cV;rw[length_map,wK])];omega
 .have hi:=(List.getElem?_eq_some_iff.mp h).1;rw[a,(Fc h).1,Lp.bC hi λj b ne=>?_,og h]
  .unfold A0;rw[if_neg ⋯,if_pos rfl];omega
  .obtain⟨p,hp⟩:=kx b;rw[og hp];unfold A0;rw[if_neg ⋯,if_neg ⋯,if_neg ⋯,if_neg ⋯,mul_zero]
 .have hi:=(List.getElem?_eq_some_iff.mp h).1;rw[a,(Fc h).2,Lp.bC hi λj b ne=>?_,og h]
  .unfold A0;rw[if_neg ⋯,if_neg ⋯,if_pos rfl];omega
  .obtain⟨p,hp⟩:=kx b;rw[og hp];unfold A0;rw[if_neg ⋯,if_neg ⋯,if_neg ⋯,if_neg ⋯,mul_zero]
def g0:aw->(Nat->bY->Rat)->Rat
 |[],_=>0
 |o::rs,h=>h 0 o + g0 rs λi=>h (i + 1)
theorem CA:∀{rs:aw}{h g:Nat->bY->Rat},(∀i o,rs[i]?=some o->h i o=g i o)->g0 rs h=g0 rs g
 |[],_,_,_=>rfl
 |o::rs,h,g,e=>by rw[g0,g0,e 0 o rfl,CA λi o h=>e (i + 1) o h]
theorem EI{F:Nat->Int}:∀{rs:aw}{h:Nat->bY->Rat},(∀i o,rs[i]?=some o->((F i:Int):Rat)=h i o)->((Lp.sm rs.length F:Int):Rat)=g0 rs h
 |[],_,_=>rfl
 |o::rs,h,e=>by rw[length_cons,wB,Rat.intCast_add,g0,e 0 o rfl,EI (F:=λk=>F (k + 1)) λi o h=>e (i + 1) o h]
theorem DY(a:Rat):∀(rs:aw)(h:Nat->bY->Rat),g0 rs (λi o=>a*h i o)=a*g0 rs h
 |[],_=>by rw[g0,g0];grind
 |o::rs,h=>by rw[g0,g0,DY a rs];grind
theorem tW(rs:aw)(us:ah)(cs:bo)(S:Nat->Nat){k:Nat}(h:k<=bj rs us):(eU rs us cs S).getD k 0=(Lp.zz rs.length (Mx rs us) (cf (cV cs)) S k:Rat) / ((cc cs*Lp.dd rs.length (Mx rs us) S:Int):Rat):=by
 unfold eU;rw[getD_eq_getElem?_getD,getElem?_map,getElem?_range ⋯,<- Rat.divInt_eq_div];rfl
theorem Ta{rs:aw}{us:ah}{S:Nat->Nat}{l:Nat->Int}(L:yQ rs us S l)(g:∀o∈rs,o.2.2.2.1=0){i:Nat}{o:bY}(h:rs[i]?=some o):mR rs us (eU rs us (bO us rs 0) S) i=(l i:Rat)*(bF us o:Rat) / ((cc (bO us rs 0)*Lp.dd rs.length (Mx rs us) S:Int):Rat):=by
 have j:=(List.getElem?_eq_some_iff.mp h).1;have a:=L.a i o h;have b:=L.b i o h;have f:=g o (mem_of_getElem? h);unfold mR;rw[h];dsimp only;rw[tW _ _ _ _ (by unfold bj;omega),tW _ _ _ _ (by unfold bj;omega),show Lp.zz rs.length (Mx rs us) (cf (cV (bO us rs 0))) S (us.length+2*i)=_ from b,show Lp.zz rs.length (Mx rs us) (cf (cV (bO us rs 0))) S (us.length+2*i+1)=_ from a];generalize ((cc (bO us rs 0)*Lp.dd rs.length (Mx rs us) S:Int):Rat)=D;unfold oE cb ca;rw[if_pos f,if_pos f];by_cases d:o.2.1="least"
 .rw[if_pos d,if_pos d,qy,mul_zero,Int.zero_add]
  grind
 .rw[if_neg d,if_neg d];by_cases e:o.2.1="most"
  .rw[if_pos e,if_pos e,qy,mul_zero,Rat.intCast_neg,Rat.intCast_sub]
   grind
  .have e2:Rat.divInt (bF us o) 2=(bF us o:Rat) / 2:=by rw[Rat.divInt_eq_div];rfl
   rw[if_neg e,if_neg e,e2,Rat.intCast_sub,Rat.intCast_add];generalize ((_*_:Int):Rat)=C
   grind
def mV(m:Rat)(ks:az)(ps:bo):List (Int×Rat):=(ks.zip ps).filterMap λp=>if p.2=0 then none else some (p.1,p.2 / m)
abbrev bS(rs:aw)(k:Int):bY:=rs.getD k.toNat oF
def el(rs:aw)(f:bY->Rat):List (Int×Rat)->Rat
 |[]=>0
 |p::d=>p.2 * f (bS rs p.1) + el rs f d
theorem DZ(rs:aw)(f:bY->Rat)(m:Rat):∀{ks:az}{ps:bo},ks.length=ps.length->el rs f (mV m ks ps)=g0 (pick rs ks) λi o=>ps.getD i 0 / m*f o
 |[],[],_=>rfl
 |k::ks,x::ps,h=>by
  have a:=DZ rs f m (ks:=ks) (ps:=ps) (Nat.succ.inj h);show el rs f (mV m (k::ks) (x::ps))=x / m*f (bS rs k)+g0 (pick rs ks) λi o=>ps.getD i 0 / m*f o
  rw[<- a];unfold mV;rw[List.zip_cons_cons,filterMap_cons];dsimp only;by_cases z:x=0
  .rw[if_pos z,z];dsimp only
   grind
  .rw[if_neg z];rfl
structure Cw(rs:aw)(us:ah)(d:List (Int×Rat)):Prop where
 s:∀p∈d,((bS rs p.1).2.1="least"->0<=p.2)/\((bS rs p.1).2.1="most"->p.2<=0)
 c:∀u∈us,el rs (λo=>(bZ o.1 u).getD 0) d<=0
 r:el rs (λo=>o.2.2.1) d=1
theorem RH{rs:aw}{ks:az}{i:Nat}{k:Int}(h:ks[i]?=some k):(pick rs ks)[i]?=some (bS rs k):=by
 unfold pick;rw[getElem?_map,h];rfl
theorem Tb{rs:aw}{us:ah}{a:bo}{i:Nat}(h:i<rs.length):(gG rs us a).getD i 0=mR rs us a i:=by
 unfold gG;rw[getD_eq_getElem?_getD,getElem?_map,getElem?_range h];rfl
theorem Fd{z:Nat}{rs:aw}{us:ah}{S:Nat->Nat}{ks:az}(h:nr z (pick rs ks) us S)(A:∀o∈pick rs ks,o.2.2.2.1=0/\0<o.2.2.2.2)(Y:zr (pick rs ks) us S (bj (pick rs ks) us)≠0){m:Rat}(hm:m=0 - (eU (pick rs ks) us (bO us (pick rs ks) 0) S).getD (bj (pick rs ks) us) 0):Cw rs us (mV m ks (gG (pick rs ks) us (eU (pick rs ks) us (bO us (pick rs ks) 0) S))):=by
 let⟨l,L⟩:=lam (pick rs ks) us S;have U:=(wL h λo m=>le_of_lt (A o m).2).1;have y:=λo m=>(A o m).1
 have O:(0:Rat)<((cc (bO us (pick rs ks) 0)*Lp.dd (pick rs ks).length (Mx (pick rs ks) us) S:Int):Rat):=Rat.intCast_pos.mpr (mul_pos (gf _ 1 ∎).1 h.g.pos);rw[tW _ _ _ _ (le_refl _),show Lp.zz _ _ _ S (bj (pick rs ks) us)=zr (pick rs ks) us S (bj (pick rs ks) us) from rfl] at hm;have j:(0:Rat)<((- zr (pick rs ks) us S (bj (pick rs ks) us):Int):Rat):=Rat.intCast_pos.mpr ⋯;have v:∀i o,(pick rs ks)[i]?=some o->(gG (pick rs ks) us (eU (pick rs ks) us (bO us (pick rs ks) 0) S)).getD i 0 / m=(l i:Rat)*(bF us o:Rat) / ((- zr (pick rs ks) us S (bj (pick rs ks) us):Int):Rat):=λi o e=>by
  rw[Tb (List.getElem?_eq_some_iff.mp e).1,Ta L y e,hm];rw[Rat.intCast_neg] at j ⊢;generalize ((cc (bO us (pick rs ks) 0)*Lp.dd (pick rs ks).length (Mx (pick rs ks) us) S:Int):Rat)=D at *;generalize (zr (pick rs ks) us S (bj (pick rs ks) us):Rat)=V at *;have d0:D≠0:=Rat.ne_of_gt O;have v0:-V≠0:=Rat.ne_of_gt j
  grind
 have r:∀(f:bY->Rat)(k:Nat),(∀i o,(pick rs ks)[i]?=some o->(bF us o:Rat)*f o=(AR (pick rs ks) us i k:Rat))->el rs f (mV m ks (gG (pick rs ks) us (eU (pick rs ks) us (bO us (pick rs ks) 0) S)))=((Lp.sm (pick rs ks).length λi=>l i*AR (pick rs ks) us i k:Int):Rat) / ((- zr (pick rs ks) us S (bj (pick rs ks) us):Int):Rat):=λf k Q=>by
  rw[DZ rs f m (by unfold gG pick;rw[length_map,length_range,length_map]),EI (h:=λi o=>(l i:Rat)*((bF us o:Rat)*f o)) λi o e=>by rw[Rat.intCast_mul,Q i o e]];rw[Rat.div_def,Rat.mul_comm,<- DY];refine CA λi o e=>?_
  rw[v i o e,Rat.div_def]
  grind
 refine⟨λp E=>?_,λu mu=>?_,?_⟩
 .unfold mV at E;let⟨⟨k,x⟩,mk,e⟩:=mem_filterMap.mp E;dsimp only at e;by_cases I:x=0
  .rw[if_pos I] at e;cases e
  .rw[if_neg I] at e;cases e;let⟨i,N⟩:=List.getElem?_of_mem mk;let⟨J,M⟩:=List.getElem?_zip_eq_some.mp N;have d:=RH (rs:=rs) J;have w:=v i _ d;rw[getD_eq_getElem?_getD,M,Option.getD_some] at w;dsimp only;rw[w];have B:=L.a i _ d;have C:=L.b i _ d;have il:=(List.getElem?_eq_some_iff.mp d).1;have oa:=h.o (us.length+2*i+1) (by unfold bj;omega);have ob:=h.o (us.length+2*i) (by unfold bj;omega);have G:(0:Rat)<(bF us (bS rs k):Rat):=Rat.intCast_pos.mpr (nX us _).1;have n:=y _ (mem_of_getElem? d);have H:=Rat.inv_pos.mpr j;refine⟨λs=>?_,λs=>?_⟩
   .have c0:ca us 0 (bS rs k)=0:=by unfold ca;rw[if_pos n,if_pos s]
    rw[c0,qy,mul_zero,Int.zero_add] at B;have q:0<=l i:=by rw[<- B];exact oa
    rw[Rat.div_def];exact Rat.mul_nonneg (Rat.mul_nonneg (Rat.intCast_nonneg.mpr q) (Rat.le_of_lt G)) (Rat.le_of_lt H)
   .have c0:cb us 0 (bS rs k)=0:=by unfold cb;rw[if_pos n,if_pos s]
    rw[c0,qy,mul_zero,Int.zero_sub] at C;have q:0<=- l i:=by rw[<- C];exact ob
    have:=Rat.mul_nonneg (Rat.mul_nonneg (Rat.intCast_nonneg.mpr q) (Rat.le_of_lt G)) (Rat.le_of_lt H);rw[Rat.intCast_neg] at this;rw[Rat.div_def]
    grind
 .obtain⟨k,ek⟩:=List.getElem?_of_mem mu;have n:=(List.getElem?_eq_some_iff.mp ek).1;rw[r _ k λi o e=>?_]
  .have lu:=L.u k n;have ou:=h.o k (by unfold bj;omega);have q:0<=- Lp.sm (pick rs ks).length λi=>l i*AR (pick rs ks) us i k:=by rw[<- lu];exact ou
   have:=Rat.mul_nonneg (Rat.intCast_nonneg.mpr q) (Rat.le_of_lt (Rat.inv_pos.mpr j));rw[Rat.intCast_neg] at this;rw[Rat.div_def]
   grind
  .rw[og e];unfold A0 ez;rw[if_pos n,getD_eq_getElem?_getD,getElem?_map];have d:(fY us o)[k]?=some ((bZ o.1 u).getD 0):=by unfold fY;rw[getElem?_map,ek];rfl
   rw[d];exact (sO ((nX us o).2.1 _ (mem_of_getElem? d))).symm
 .rw[r _ (bj (pick rs ks) us) λi o e=>?_]
  .have lx:(Lp.sm (pick rs ks).length λi=>l i*AR (pick rs ks) us i (bj (pick rs ks) us))=- zr (pick rs ks) us S (bj (pick rs ks) us):=by rw[L.x,Int.neg_neg]
   rw[lx];rw[Rat.div_def];exact Rat.mul_inv_cancel _ (Rat.ne_of_gt j)
  .have hi:=(List.getElem?_eq_some_iff.mp e).1;rw[og e];unfold A0 bj cI;rw[if_neg ⋯,if_neg ⋯,if_neg ⋯,if_pos rfl];exact (sO (nX us o).2.2).symm
def Fz(rs:aw)(us:ah)(ks:az):Prop:=∃x:Nat->Rat,(∀k,k<us.length->0<=x k)/\∀k∈ks,jb (bS rs k).2.1 (adr us (bS rs k) x)=0
theorem Fz.mono{rs:aw}{us:ah}{ks js:az}(h:Fz rs us ks)(s:∀k∈js,k∈ks):Fz rs us js:=by
 let⟨x,a,b⟩:=h;exact⟨x,a,λk m=>b k (s k m)⟩
def gM(rs:aw)(ks:az):Prop:=∀k∈ks,(bS rs k).2.2.2.1=0/\0<(bS rs k).2.2.2.2
theorem gM.p{rs:aw}{ks:az}(h:gM rs ks):∀o∈pick rs ks,o.2.2.2.1=0/\0<o.2.2.2.2:=λo m=>by
 let⟨k,mk,rfl⟩:=mem_map.mp m;exact h k mk
theorem D0(rs:aw)(f g:bY->Rat):∀d:List (Int×Rat),el rs (λo=>f o - g o) d=el rs f d - el rs g d
 |[]=>by rw[el,el,el];grind
 |p::d=>by rw[el,el,el,D0 rs f g d];grind
theorem yb:∀(us:ah)(x:Nat->Rat),dot (us.map λ_=>(0:Rat)) x=0
 |[],_=>rfl
 |u::us,x=>by rw[map_cons,dot,yb us];grind
theorem wM(a:Rat)(f g:Str->Rat):∀(us:ah)(x:Nat->Rat),dot (us.map λu=>a*f u+g u) x=a*dot (us.map f) x+dot (us.map g) x
 |[],_=>by rw[map_nil,map_nil,map_nil,dot];grind
 |u::us,x=>by rw[map_cons,map_cons,map_cons,dot,dot,dot,wM a f g us];grind
theorem D1(rs:aw)(us:ah)(x:Nat->Rat):∀d:List (Int×Rat),el rs (λo=>dot (fY us o) x) d=dot (us.map λu=>el rs (λo=>(bZ o.1 u).getD 0) d) x
 |[]=>(yb us x).symm
 |p::d=>by
  show p.2*dot (fY us (bS rs p.1)) x+el rs (λo=>dot (fY us o) x) d=dot (us.map λu=>p.2*(bZ (bS rs p.1).1 u).getD 0+el rs (λo=>(bZ o.1 u).getD 0) d) x;rw[D1 rs us x d,wM p.2 (λu=>(bZ (bS rs p.1).1 u).getD 0) (λu=>el rs (λo=>(bZ o.1 u).getD 0) d)];rfl
theorem EJ(f:Str->Rat):∀(us:ah)(x:Nat->Rat),(∀u∈us,f u<=0)->(∀k,k<us.length->0<=x k)->dot (us.map f) x<=0
 |[],_,_,_=>Rat.le_refl
 |u::us,x,hf,hx=>by
  rw[map_cons,dot];have a:=EJ f us (λk=>x (k+1)) (λu m=>hf u (.tail _ m)) λk d=>hx (k+1) (by rw[length_cons];omega)
  have b:=Rat.mul_nonneg (show 0<=- f u by have:=hf u (.head _);grind) (hx 0 (by rw[length_cons];omega))
  grind
theorem Cw.no{rs:aw}{us:ah}{d:List (Int×Rat)}{ks:az}(h:Cw rs us d)(e:∀p∈d,p.1∈ks):¬ Fz rs us ks:=by
 rintro⟨x,v,l⟩;have g:∀d:List (Int×Rat),(∀p∈d,((bS rs p.1).2.1="least"->0<=p.2)/\((bS rs p.1).2.1="most"->p.2<=0))->(∀p∈d,p.1∈ks)->0<=el rs (λo=>adr us o x) d:=λd=>by
  induction d with
  |nil=>intros;exact Rat.le_refl
  |cons p d n=>
   intro j e;have i:=n (λp m=>j p (.tail _ m)) λp m=>e p (.tail _ m)
   ∎;let⟨a,b,c⟩:=(Dr _ _).mp (l p.1 (e p (.head _)));let⟨q,u⟩:=j p (.head _);∎;rw[el];have t:0<=p.2*adr us (bS rs p.1) x:=by
    by_cases f:(bS rs p.1).2.1="least"
    .exact Rat.mul_nonneg (q f) (a f)
    .by_cases k2:(bS rs p.1).2.1="most"
     .have:=Rat.mul_nonneg (show 0<=-p.2 by have:=u k2;grind) (show 0<=- adr us (bS rs p.1) x by have:=b k2;grind)
      grind
     .rw[c f k2];grind
   grind
 have k:=g d h.s e;rw[show (λo=>adr us o x)=λo=>dot (fY us o) x - o.2.2.1 from rfl,D0,D1,h.r] at k;have:=EJ _ us x h.c v
 grind
structure j9(z:Nat)(rs:aw)(us:ah)(ks:az)(d:List (Int×Rat)):Prop where
 c:Cw rs us d
 l:(d.map (·.1)).Sublist ks
 b:∀p∈d,bs p.2<=3*z+102
def FI(z:Nat)(rs:aw)(us:ah)(ks:az)(d:List (Int×Rat)):Prop:=(d=[]/\Fz rs us ks)\/(d≠[]/\j9 z rs us ks d)
theorem j9.k{z:Nat}{rs:aw}{us:ah}{ks:az}{d:List (Int×Rat)}(h:j9 z rs us ks d):∀p∈d,p.1∈ks:=λ_ m=>h.l.subset (mem_map_of_mem m)
theorem j9.ne{z:Nat}{rs:aw}{us:ah}{ks:az}{d:List (Int×Rat)}(h:j9 z rs us ks d):d≠[]:=λe=>by
 have:=h.c.r;rw[e,el] at this;exact absurd this ∎
structure ra(z:Nat)(rs:aw)(us:ah)(ks:az)(d:List (Int×Rat)):Prop where
 s:j9 z rs us ks d
 m:∀k∈d.map (·.1),Fz rs us ((d.map (·.1)).filter λx=>!decide (x=k))
theorem Tc{rs:aw}{us:ah}{a:bo}{z:Nat}(b:1<=z)(h:∀y∈a,bs y<=z)(hs:∀o∈rs,bi (bF us o)<=100):∀x∈gG rs us a,bs x<=2*z+101:=by
 intro x m;unfold gG at m;let⟨i,_,rfl⟩:=mem_map.mp m;have at':∀j,bs (a.getD j 0)<=z:=λj=>by
  rw[getD_eq_getElem?_getD];cases e:a[j]? with
  |none=>show bs 0<=z;rw[nU];exact b
  |some y=>exact h y (mem_of_getElem? e)
 unfold mR;cases e:rs[i]? with
 |none=>show bs 0 <= _;rw[nU];omega
 |some o=>
  have so:=hs o (mem_of_getElem? e);have l:=at' (us.length+2*i);have n:=at' (us.length+2*i+1);have d:=tQ so;have f:=tQ (x:=-bF us o) (by unfold bi;rw[Int.natAbs_neg];exact so);have g:bs (Rat.divInt (bF us o) 2)<=100:=p9 ∎ so (by walk_at "k");show bs (oE _ _ _ _)<=_;unfold oE;split
  .have:=tV (a.getD (us.length+2*i+1) 0) (bF us o:Rat);omega
  .split
   .have:=tV (a.getD (us.length+2*i) 0) ((-bF us o:Int):Rat);omega
   .have:=tV (a.getD (us.length+2*i+1) 0 - a.getD (us.length+2*i) 0) (Rat.divInt (bF us o) 2);have:=xc (a.getD (us.length+2*i+1) 0) (a.getD (us.length+2*i) 0);omega
theorem Nz{d:List (Int×Rat)}{y:Int}{k:Rat}(h:∀p∈d,p.1≠y):sA d y k=d++[(y,k)]:=by
 unfold sA;rw[if_neg];intro e;let⟨p,m,e⟩:=any_eq_true.mp e;exact h p m (of_decide_eq_true e)
theorem Jl{ks:az}(h:ks.Nodup){i:Nat}{u:Int}(e:ks[i]?=some u):¬ u∈ks.take i:=λm=>by
 ∎;let⟨j,f,b⟩:=List.mem_take_iff_getElem.mp m;let⟨d,a⟩:=List.getElem?_eq_some_iff.mp e;∎;exact (List.pairwise_iff_getElem.mp h) j i ⋯ d ⋯ (b.trans a.symm)
def jc(m:Rat)(p:Int×Rat):Option (Int×Rat):=if p.2=0 then none else some (p.1,p.2 / m)
theorem rR{m:Rat}:∀{ks:az}{ps:bo},(((ks.zip ps).filterMap (jc m)).map (·.1)).Sublist ks
 |[],_=>by rw[List.zip_nil_left];exact List.Sublist.refl _
 |k::ks,[]=>by rw[List.zip_nil_right];exact List.nil_sublist _
 |k::ks,x::ps=>by
  rw[List.zip_cons_cons,filterMap_cons];unfold jc;by_cases z:x=0
  .rw[if_pos z];exact (rR (m:=m) (ks:=ks) (ps:=ps)).cons _
  .rw[if_neg z];exact (rR (m:=m) (ks:=ks) (ps:=ps)).cons_cons _
theorem NA{m:Rat}{ks:az}{ps:bo}{i:Nat}:∀p∈((ks.zip ps).take i).filterMap (jc m),p.1∈ks.take i/\∃x∈ps,p.2=x / m:=λp h=>by
 let⟨⟨k,x⟩,l,e⟩:=mem_filterMap.mp h;unfold jc at e;by_cases z:x=0
 .rw[if_pos z] at e;cases e
 .rw[if_neg z] at e;cases e;let⟨j,o,d⟩:=List.mem_take_iff_getElem.mp l;have f:(ks.zip ps)[j]?=some (k,x):=List.getElem?_eq_some_iff.mpr ⟨⋯,d⟩;let⟨a,b⟩:=List.getElem?_zip_eq_some.mp f;let⟨n,g⟩:=List.getElem?_eq_some_iff.mp a;exact⟨List.mem_take_iff_getElem.mpr ⟨j,⋯,g⟩,x,mem_of_getElem? b,rfl⟩
theorem Td{z:Nat}{rs:aw}{us:ah}{S:Nat->Nat}(f:nr z rs us S):∃a b,eU rs us (bO us rs 0) S=a++[b]/\(b=0↔zr rs us S (bj rs us)=0)/\∀y∈a++[b],bs y<=z:=by
 refine⟨_,_,wA _ _ _ _,?_,λy m=>f.d.bs (le_refl _) (by rw[wA];exact m)⟩;have h:=Rat.ne_of_gt (Rat.inv_pos.mpr (Rat.intCast_pos.mpr (mul_pos (gf (bO us rs 0) 1 ∎).1 f.g.pos)));rw[Rat.divInt_eq_div,Rat.div_def];constructor
 .intro e;rcases Rat.mul_eq_zero.mp e with e |e
  .exact Rat.intCast_eq_zero_iff.mp e
  .exact absurd e h
 .intro e;rw[show Lp.zz _ _ _ S (bj rs us)=0 from e];exact Rat.zero_mul _
def Gb:bK:=cX 3 λa Q=>∃(f g h:Fl)(rs:aw)(us:ah)(ks:az)(N zz:Nat)(_:Fp f)(_:Fp g)(_:Fp h),a=[.ag f ↥rs,.ag g ↥us,.ag h ↥ks]/\Bz N zz rs us/\us.length<=8/\ks.length<=N/\Val rs ks/\ks.Nodup/\gM rs ks/\∀d:List (Int×Rat),FI zz rs us ks d->Q (.aR .o (dK d))
theorem BG(T:Tx w K mg){z:Bool}:aK P w K mg base bJ 7 T.o9.a T.o9.d ["rows","unknowns","numbers"] (bP K z 0 3 Gb):=by
 refine cu T.o9.F Ii rfl ∎ λa7 A outer s H E hr hu hN=>?_
 refine⟨_,(aQ (bM 3 (qc T.o8 (By T) (au (gc ["number","rows"] [none,some 0] (eC (qv 2)) (dk 0) (λ_ _ _ _ _=>(ba (qv 1) (qv 0)))) (au (qv 1) aD))))
  (aQ (bM 4 (ft (gj T T.oO (BF T)) (qv 3) (au aI aD)))
  (aQ (jn 5 tL)
  (aQ (cQ (b7 ff e8 (qv 4) (mH [0,1] T.lQ T.lR)) (a6 (ll (lg 5))) cP)
  (aQ (fR (kB T.kd (au (qv 2) (au (ft (gj T T.rn (HS T)) (qv 3) (au (ba (cT K (qv 3)) aI) aD)) aD))) (i8 (n:=2) rfl (ew (dq 6) (ew (dq 7) iU))) (a6 (cQ (b7 gE gx (qv 7) (mH [0,1] T.lQ T.lR)) (a6 (ub (dg 5) (qv 6) (qc T.rO (Qm T) (au (qv 7) (au (qv 4) aD))))) cP)))
  (a6 (ll (lg 5)))))))),?_⟩
 rintro xs Q' _ ⟨_,f,g,h,rs,us,ks,N,zz,_,_,_,rfl,I,μ,β,hv,nd,Y,q⟩;have η:=I.n;have C:=wH I β hv;have ν:=C.h.2;rfl';refine aZ.map ks _ (λk=>rs.getD k.toNat oF) ⋯ (λk mk R C=>?_) ?_
 .rfl';exact d8 _ _ _ (qq hv mk) C
 rfl';refine⟨rfl,.f,g,pick rs ks,us,zz,inferInstance,‹_›,rfl,C,λS mk O _=>?_⟩;have v:(eU (pick rs ks) us (bO us (pick rs ks) 0) S).length=bj (pick rs ks) us+1:=by unfold eU;rw[length_map,length_range]
 have hC:=O.d;have hW:=λm hm δ=>Fd (m:=m) O Y.p δ hm
 have hT:=wL O λo m=>le_of_lt (Y.p o m).2
 have B:(eU (pick rs ks) us (bO us (pick rs ks) 0) S).getD (bj (pick rs ks) us) 0=0↔zr (pick rs ks) us S (bj (pick rs ks) us)=0:=by
  rw[tW _ _ _ _ (le_refl _),Rat.div_def];have hD:=Rat.ne_of_gt (Rat.inv_pos.mpr (Rat.intCast_pos.mpr (mul_pos (gf (bO us (pick rs ks) 0) 1 ∎).1 O.g.pos)));constructor
  .intro e;rcases Rat.mul_eq_zero.mp e with e |e
   .exact Rat.intCast_eq_zero_iff.mp e
   .exact absurd e hD
  .intro e;rw[show Lp.zz _ _ _ S (bj (pick rs ks) us)=0 from e];exact Rat.zero_mul _
 obtain⟨u,l,er⟩:∃u l,eU (pick rs ks) us (bO us (pick rs ks) 0) S=u++[l]:=⟨_,_,wA _ _ _ _⟩;rw[er] at v hC hW B;have hl:u.length=bj (pick rs ks) us:=by rw[length_append] at v;exact Nat.succ.inj v
 have ex:(u++[l]).getD (bj (pick rs ks) us) 0=l:=by rw[getD_eq_getElem?_getD,getElem?_append_right ⋯,hl,Nat.sub_self];rfl
 rw[ex] at B hW;have D:[u++[l]][0]?=some (u++[l]):=rfl;have Q:∀y∈u++[l],bs y<=zz:=λy m=>hC.bs (le_refl _) m
 have ζ:=Q l (mem_append.mpr (.inr (.head _)));have θ:=C.b.r;rw[er];simp only[FD,ie,jr,eG,eS,gF];refine⟨yB T _,iJ T ⟨rfl,.f,_,0,u,l,inferInstance,rfl,D,⋯,λ_=>?_⟩⟩;have γ:=xc 0 l;have ι:bs (0 - l)<=zz:=by rw[show 0 - l=-l by grind];exact le_trans (Rx l) ζ
 rw[nU] at γ;rfl';refine⟨rfl,tF ?_⟩;rfl';by_cases M:0 - l=0
 .rw[if_pos (decide_eq_true M)];have hz:=B.mp (by grind);exact⟨rfl,q [] (.inl ⟨rfl,_,hT.2.2,λk mk=>wJ Y.p (hT.2.1 hz) _ (mem_map_of_mem mk)⟩) _⟩
 .rw[if_neg (by simpa using M)];refine iJ T (vX T ?_);rw[hZ,hV];refine d8 _ _ _ (fx (s:=0) D) ?_;rw[jP,kC];refine⟨rfl,.f,.f,pick rs ks,us,_,S,mk,u++[l],inferInstance,inferInstance,rfl,⋯,v,λy m=>le_trans (Q y m) ⋯,λo m=>(C.s o m).2,λ_=>?_⟩;have G:=Tc (rs:=pick rs ks) (us:=us) C.h.1 Q λo m=>(C.s o m).2
  have U:=hW (0 - l) rfl λe=>M (by rw[B.mpr e];grind)
  have L:=λi=>NA (m:=0 - l) (ks:=ks) (ps:=gG (pick rs ks) us (u++[l])) (i:=i)
  have ε:=rR (m:=0 - l) (ks:=ks) (ps:=gG (pick rs ks) us (u++[l]));have J:j9 zz rs us ks (mV (0 - l) ks (gG (pick rs ks) us (u++[l]))):=⟨U,ε,λp mp=>by
   let⟨_,x,mx,e⟩:=L (ks.zip (gG (pick rs ks) us (u++[l]))).length p (by rw[take_length];exact mp);rw[e];have:=T3 (a:=x) M;have:=G x mx;omega⟩
  dsimp only;rw[eM,Bool.true_and,ia,n9,wx];have κ:(gG (pick rs ks) us (u++[l])).length=ks.length:=by unfold gG pick;rw[length_map,length_range,length_map]
  generalize gG (pick rs ks) us (u++[l])=ps at *;refine⟨jt _,Loop.map (ks.zip ps) _ (λi j=>∃(a b:Tr),j=[.ag f ↥rs,.ag g ↥us,.ag h ↥ks,cW T .f (ip (pick rs ks) us [u++[l]] S mk),af.t (0 - l),.aR .o (dK (((ks.zip ps).take i).filterMap (jc (0 - l)))),a,b]) ⟨_,_,rfl⟩ ?_ ?_⟩
  .rintro i ⟨k,x⟩ j hi ⟨a,b,rfl⟩;let⟨e1,e2⟩:=List.getElem?_zip_eq_some.mp hi;have α:=(List.getElem?_eq_some_iff.mp hi).1;have tk:((ks.zip ps).take (i+1)).filterMap (jc (0 - l))=((ks.zip ps).take i).filterMap (jc (0 - l))++(jc (0 - l) (k,x)).toList:=by
    rw[take_add_one,hi,List.filterMap_append,Option.toList_some,filterMap_cons,List.filterMap_nil];cases jc (0 - l) (k,x)<;>rfl
   rw[List.length_zip] at α;rw[tk];rfl';refine tF ?_;rfl';by_cases B:x=0
   .rw[if_neg (by simp[B]),show jc (0 - l) (k,x)=none from if_pos B,Option.toList_none,append_nil];exact⟨_,_,rfl⟩
   .rw[if_pos (by simp[B]),show jc (0 - l) (k,x)=some (k,x / (0 - l)) from if_neg B,Option.toList_some];have:=G x (mem_of_getElem? e2);have hd:=List.length_filterMap_le (jc (0 - l)) ((ks.zip ps).take i);rw[length_take] at hd;refine⟨rfl,x,0 - l,rfl,M,⋯,λ_=>?_⟩;dsimp only;rw[jP,T6,Nz (y:=k) λp mp e=>Jl nd e1 (show k∈ks.take i by have:=(L i p mp).1;rwa[e] at this)];exact⟨jQ _,by unfold dK;rw[length_map];omega,_,_,rfl⟩
  .rintro j ⟨a,b,rfl⟩;rfl';rw[take_length];exact⟨(cB _ (ly _)).o,q _ (.inr ⟨J.ne,J⟩) _⟩
def Gk:bK:=cX 3 λa Q=>∃(f g h:Fl)(rs:aw)(us:ah)(ks:az)(N zz:Nat)(_:Fp f)(_:Fp g)(_:Fp h),a=[.ag f ↥rs,.ag g ↥us,.ag h ↥ks]/\Bz N zz rs us/\us.length<=8/\ks.length<=N/\Val rs ks/\ks.Nodup/\gM rs ks/\¬ Fz rs us ks/\∀d:List (Int×Rat),ra zz rs us ks d->Q (.aR .f (dK d))
theorem Iu(T:Tx w K mg):aK P w K mg base bJ 8 T.rQ.a T.rQ.d ["rows","unknowns","numbers"] (bP K true 0 3 Gk):=by
 refine cu T.rQ.F Ij rfl ∎ λa7 A outer s H E hr hu hN=>?_
 refine⟨_,(aQ (bM 3 (qc T.o9 (BG T) (au (qv 0) (au (qv 1) (au (qv 2) aD)))))
  (aQ (fR (eC (iN (iI rfl) iy T.fv (au (qv 3) aD))) (dq 4) (a6 (cQ (b7 yE xw (qv 4) (qv 3)) (aQ (bM 5 (qc T.o9 (BG T) (au (qv 0) (au (qv 1) (au (NU rfl (Dj (wX (N:=["other","number"]) (ix:=[none,some 4]) rfl (O3 (pv 3)) (λ_ _ _ _ _=>wR (show (["other","number"]:ah).Nodup by decide) rfl (.inl rfl) (.inr rfl)) (λ_ _ _ _ _=>Dh (C3 Aw (pv 0) (pv 1) (Rb _))) (λ_ _ _ _ _=>pv 0) ⟨rfl,rfl,rfl,True.intro⟩))) aD)))))
  (a6 (bM 3 (xM (Sx rfl (qv 5)) (qv 5) (qv 3))))) cP)))
  (a6 (bV (qv 3))))),?_⟩
 rintro xs Q' _ ⟨_,f,g,h,rs,us,ks,N,zz,_,_,_,rfl,I,Q,L,hv,nd,hM,γ,q⟩;have δ:=I.n;rfl';refine⟨rfl,f,g,h,rs,us,ks,N,zz,‹_›,‹_›,‹_›,rfl,I,Q,L,hv,nd,hM,λd hd _=>?_⟩;rcases hd with⟨_,hd⟩ |⟨_,hd⟩
 .exact absurd hd γ
 rw[FC];rfl';have G:∀d:List (Int×Rat),(dK d).map (λp=>iZ p.1)=(d.map (·.1)).map af.t:=λd=>by
  unfold dK;rw[map_map,map_map];rfl
 have α:∀d:List (Int×Rat),(dK d).map (·.1)=(d.map (·.1)).map λn=>(Sum.inl n:aS):=λd=>by
  unfold dK;rw[map_map,map_map];rfl
 have O:∀(d:List (Int×Rat))(k:Int),(look (dK d) (Sum.inl k)).isSome=true↔k∈d.map (·.1):=λd k=>by
  unfold look dK;rw[isSome_map,List.find?_map,isSome_map,List.isSome_find?,any_eq_true];constructor
  .rintro⟨p,mp,e⟩;have e:p.1=k:=Sum.inl.inj (of_decide_eq_true e);rw[<- e];exact mem_map_of_mem mp
  .intro m;let⟨p,mp,rfl⟩:=mem_map.mp m;exact⟨p,mp,decide_eq_true rfl⟩
 refine⟨(cB _ (ly d)).t,?_⟩;rw[DL,G,eM,ia,n9];refine⟨jt _,Loop.map (d.map (·.1)) _ (λi j=>∃(r:List (Int×Rat))(a b:Tr),j=[.ag f ↥rs,.ag g ↥us,.ag h ↥ks,.aR .f (dK r),a,b]/\j9 zz rs us ks r/\(r.map (·.1)).Sublist (d.map (·.1))/\∀k∈(d.map (·.1)).take i,k∈r.map (·.1)->Fz rs us ((r.map (·.1)).filter λx=>!decide (x=k))) ⟨d,_,_,rfl,hd,List.Sublist.refl _,λk m=>(by rw[List.take_zero] at m;cases m)⟩ ?_ ?_⟩
 .rintro i k j hi ⟨r,a,b,rfl,hs',hl',hf'⟩;have tk:(d.map (·.1)).take (i+1)=(d.map (·.1)).take i++[k]:=by rw[take_add_one,hi];rfl
  have ε:r.length<=ks.length:=by have:=hs'.l.length_le;rwa[length_map] at this
  rfl';show if ((look (dK r) (Sum.inl k)).isSome)=true then _ else _
  split
  .next C=>
   have C:=(O r k).mp C;refine⟨dK r,r.map (·.1),k,rfl,α r,rfl,by rw[length_map];omega,?_⟩;have B:((r.map (·.1)).filter λx=>!decide (x=k)).Sublist ks:=List.Sublist.trans filter_sublist hs'.l;have U:Val rs ((r.map (·.1)).filter λx=>!decide (x=k)):=λx u=>hv x (B.subset u)
   have M:((r.map (·.1)).filter λx=>!decide (x=k)).length<=N:=le_trans B.length_le L;have e1:ck (bz (((r.map (·.1)).filter λx=>!decide (x=k)).map Tr.int))=((r.map (·.1)).filter λx=>!decide (x=k)).map af.t:=by rw[show ((r.map (·.1)).filter λx=>!decide (x=k)).map Tr.int=((r.map (·.1)).filter λx=>!decide (x=k)).map af.t from rfl,oh,qC]
   rw[e1];refine⟨rfl,f,g,.f,rs,us,_,N,zz,‹_›,‹_›,inferInstance,rfl,I,Q,M,U,B.nodup nd,λx u=>hM x (B.subset u),λJ v _=>?_⟩;dsimp only;rw[FC];rfl';refine⟨(cB _ (ly J)).t,?_⟩;have β:((dK J).isEmpty=true)↔J=[]:=by unfold dK;rw[List.isEmpty_iff,List.map_eq_nil_iff]
   rcases v with⟨rfl,Y⟩ |⟨n2,v⟩
   .refine⟨(cB _ (ly r)).t,r,_,_,rfl,hs',hl',λx u D=>?_⟩;rw[tk] at u;rcases mem_append.mp u with u |u
    .exact hf' x u D
    .rw[mem_singleton.mp u];exact Y
   .rw [if_pos (by cases e:(dK J).isEmpty with
     |true=>exact absurd (β.mp e) n2
     |false=>rfl)]
    refine⟨(cB _ (ly J)).t,J,_,_,rfl,⟨v.c,v.l.trans B,v.b⟩,v.l.trans (filter_sublist.trans hl'),λx u D=>?_⟩;rw[tk] at u;rcases mem_append.mp u with u |u
    .refine (hf' x u (mem_filter.mp (v.l.subset D)).1).mono λy my=>?_
     let⟨m1,m2⟩:=mem_filter.mp my;exact mem_filter.mpr ⟨(mem_filter.mp (v.l.subset m1)).1,m2⟩
    .rw[mem_singleton.mp u] at D;have:=(mem_filter.mp (v.l.subset D)).2;simp at this
  .next C=>
   have C:¬ k∈r.map (·.1):=λm=>C ((O r k).mpr m)
   refine⟨r,_,_,rfl,hs',hl',λx u D=>?_⟩;rw[tk] at u;rcases mem_append.mp u with u |u
   .exact hf' x u D
   .rw[mem_singleton.mp u] at D;exact absurd D C
 .rintro j ⟨r,a,b,rfl,hs',hl',hf'⟩;rw[take_length] at hf';rfl';exact⟨(cB _ (ly r)).o,q r ⟨hs',λk m=>hf' k (hl'.subset m) m⟩ _⟩
theorem HM(T:Tx w K mg):aK P w K mg base bJ 1 T.jF.a T.jF.d ["self","numbers","weights"] (vG K T.abo):=by
 refine T.jF.F.ok HJ (λvs H Q E h=>?_) λa7 A outer s H vs Q E f h=>?_
 .obtain⟨_,_,_,_,_,rfl,_⟩:=h;rfl
 .obtain⟨e,a,b,xs,ys,rfl,he,ha,hb,q⟩:=h;exact⟨_,wc (sQ (Uu T.jF.t rfl T.FV (k6 (pv 0) (k6 Ea mh)))) (wc (E5 T.jF.t T.ze (pv 0) (v3 uR rfl T.fv rfl (k6 (pv 1) mh)) rfl) (wQ (E5 T.jF.t T.zf (pv 0) (v3 uR rfl T.fv rfl (k6 (pv 2) mh)) rfl))),Qa he ha hb q⟩
def BB(T:Tx w K mg)(d:List (Int×Rat)):Xv:=⟨.ref T.abo,[("weights",.ag .f ((d.map (·.2)).map af.t)),("numbers",.ag .f ((d.map (·.1)).map af.t))]⟩
def yP(rs:aw)(us:ah)(ks:az)(x:Nat->Rat):Prop:=(∀k,k<us.length->0<=x k)/\∀k∈ks,jb (bS rs k).2.1 (adr us (bS rs k) x)=0
def G4(T:Tx w K mg):fF:=λa Q q=>a.length=3/\∃(f g h:Fl)(rs:aw)(us:ah)(ks:az)(N zz:Nat)(_:Fp f)(_:Fp g)(_:Fp h),a=[.ag f ↥rs,.ag g ↥us,.ag h ↥ks]/\Bz N zz rs us/\us.length<=8/\ks.length<=N/\Val rs ks/\ks.Nodup/\gM rs ks/\(∀d,ra zz rs us ks d->q (BB T d))/\
 (∀(S:Nat->Nat)(mk:bf),nr zz (pick rs ks) us S->yP rs us ks (tl (pick rs ks) us S)->∀j,Q (cW T .o (ip (pick rs ks) us [eU (pick rs ks) us (bO us (pick rs ks) 0) S] S mk)) j)
theorem Na(T:Tx w K mg):aK P w K mg base (eK P w) 9 T.rp.a T.rp.d ["rows","unknowns","numbers"] (iq K true 0 3 (G4 T)):=by
 refine xO T.rp.F Mh rfl ∎ λa7 A outer s H E q hr hu hN=>?_
 refine⟨_,(aQ (jn 3 (qc T.o8 (By T) (au (gc ["number","rows"] [none,some 0] (eC (qv 2)) (dk 0) (λ_ _ _ _ _=>(ba (qv 1) (qv 0)))) (au (qv 1) aD))))
  (aQ (cQ (b7 ff e8 (ft (gj T T.oO (BF T)) (qv 3) (au aI aD)) (mH [0,1] T.lQ T.lR)) (a6 (ll (lg 3))) cP)
  (aQ (bM 4 (qc T.rQ (Iu T) (au (qv 0) (au (qv 1) (au (gc ["number","rows"] [none,some 0] (eC (qv 2)) (dk 0) (λ_ _ _ _ _=>(qv 0)) (ht:=λ_ _ _ _ _=>(mB (b7 ff e8 (ba (ba (qv 1) (qv 0)) aI) (uj T.zc))))) aD)))))
  (a6 (NT rfl rfl rfl rfl rfl rfl T.zd T.jF.t ((HM T).mono ⋯) hr T.jF.b (au (iN (iI rfl) iy T.fv (au (qv 4) aD)) (au (Uc rfl rfl T.fv (qv 4)) aD))))))),?_⟩
 rintro xs Q' _ ⟨_,f,g,h,rs,us,ks,N,zz,_,_,_,rfl,i,D,r,x,nd,j,q1,y⟩;have J:=i.n;have u:=wH i r x;have β:=u.h.2;rfl';refine aZ.map ks _ (λk=>rs.getD k.toNat oF) ⋯ (λk mk R u=>?_) ?_
 .rfl';exact d8 _ _ _ (qq x mk) u
 rfl';refine⟨rfl,.f,g,pick rs ks,us,zz,inferInstance,‹_›,rfl,u,λS mk v _=>?_⟩;have y:=y S mk v;let⟨G,I,Q,M,hB⟩:=Td v;rw[Q] at y ⊢;have α:=hB I (mem_append.mpr (.inr (.head _)))
 try simp only[ie,jr,eG,eS,gF]
 refine⟨yB T _,iJ T ⟨rfl,.l false,_,0,G,I,inferInstance,rfl,rfl,⋯,λ_=>?_⟩⟩;rfl';refine tF ?_;rfl';have L:=wL v λo m=>le_of_lt (j.p o m).2
 by_cases ht:0 - I=0
 .rw[if_pos (decide_eq_true ht)];exact⟨um T _,y ⟨L.2.2,λk mk=>wJ j.p (L.2.1 (M.mp (by grind))) _ (mem_map_of_mem mk)⟩ _⟩
 .rw[if_neg (by simpa using ht)];have C:¬ Fz rs us ks:=by
   have B:=Fd v j.p (λe=>ht (by rw[M.mpr e];grind)) rfl;exact B.no λp mp=>rR.subset (mem_map_of_mem mp)
  refine aZ.filter ks af.t (λk=>decide ((rs.getD k.toNat oF).2.2.2.1=0)) id ⋯ (λk mk A R Y h2=>?_) ?_
  .rfl';refine d8 _ _ _ (qq x mk) ?_;rfl';split
   .next z=>exact Y z
   .next z=>exact h2 (by simpa using z)
  .rw[map_id,List.filter_eq_self.mpr λk mk=>decide_eq_true (j k mk).1];rw[eM,kC];refine⟨rfl,f,g,.f,rs,us,ks,N,zz,‹_›,‹_›,inferInstance,rfl,i,D,r,x,nd,j,C,λd hd _=>⟨(cB _ (ly d)).t,?_⟩⟩;rfl';rw[DL];have O:(dK d).map (λp=>iZ p.1)=(d.map (·.1)).map af.t:=by unfold dK;rw[map_map,map_map];rfl
   have U:(dK d).map (·.2)=(d.map (·.2)).map af.t:=by unfold dK;rw[map_map,map_map];rfl
   rw[O,U,eM,oh];exact⟨uf _,uf _,q1 d hd⟩
theorem UN{z:Nat}{rs:aw}{us:ah}{S:Nat->Nat}(d:oN z rs us)(a:nr z rs us S){k:Nat}(m:k<us.length):bs (tl rs us S k)<=z:=by
 let⟨j,l⟩:=d.v S a.g.lt;have f:k<bj rs us:=by unfold bj;omega
 unfold tl jd;by_cases h:∃i,i<rs.length/\S i=k
 .obtain⟨i,b,rfl⟩:=h;rw[Lp.fG a.g b];exact p9 (ne_of_gt a.g.pos) (l i _ (le_refl _)) j
 .rw[Lp.cE (ne_of_lt f) λi b e=>h ⟨i,b,e⟩,Rat.zero_divInt,nU];exact d.h.1
structure rb(z:Nat)(rs:aw)(us:ah)(ks:az)(X:List (Str×Rat)):Prop where
 e:∃x:Nat->Rat,X=us.zipIdx.map (λp=>(p.1,x p.2))/\yP rs us ks x/\∀k,k<us.length->bs (x k)<=z
def fX(ks:az)(k:Int):az:=ks.filter λx=>!decide (x=k)
theorem EK:∀a:List (List (Str×Rat)),cN (a.map (dG .f))=true
 |[]=>rfl
 |X::a=>by
  show (cD (dG .f X)&&cN (a.map (dG .f)))=true;rw[EK a,show cD (dG .f X)=true from (cB _ (p0 X)).o];rfl
def G5(T:Tx w K mg):fF:=λb Q q=>b.length=3/\∃(f g h:Fl)(rs:aw)(us:ah)(ks:az)(N zz:Nat)(_:Fp f)(_:Fp g)(_:Fp h),b=[.ag f ↥rs,.ag g ↥us,.ag h ↥ks]/\Bz N zz rs us/\us.length<=8/\us.Nodup/\rs.length<=16/\ks.length<=N/\Val rs ks/\ks.Nodup/\gM rs ks/\(∀k∈ks,∀d,ra zz rs us (fX ks k) d->q (BB T d))/\
 ∀a:List (List (Str×Rat)),a.length=ks.length->(∀(i:Nat)(k:Int)(X:List (Str×Rat)),ks[i]?=some k->a[i]?=some X->rb zz rs us (fX ks k) X)->∀j,Q (.ag .o (a.map (dG .f))) j
theorem CB(T:Tx w K mg):aK P w K mg base (eK P w) 10 T.oP.a T.oP.d ["rows","unknowns","numbers"] (iq K true 0 3 (G5 T)):=by
 refine xO T.oP.F Mi rfl ∎ λa7 A outer s H E q hr hu hN=>?_
 refine⟨_,(aQ (SV (uu T.rP (Iy T) (au (qv 0) (au (qv 1) aD))))
  (aQ (jn 3 (gh aD))
  (aQ (fR (eC (qv 2)) (dq 4) (aQ (nW 5 ["other","number"] [none,some 4] (eC (qv 2)) (dk 0) (λ_ _ _ _ _=>(qv 0)) (ht:=λ_ _ _ _ _=>(mB (b7 gE gx (qv 0) (qv 1)))))
  (a6 (oq (dg 3) (EF (gj T T.rm (Ie T)) (QE.aA (uu T.rp (Na T) (au (qv 0) (au (qv 1) (au (qv 5) aD))))))))))
  (a6 (ll (lg 3)))))),?_⟩
 rintro xs Q' _ ⟨_,f,g,h,rs,us,ks,N,zz,_,_,_,rfl,r,D,I,O,B,Q,nd,hM,q1,q2⟩;have J:=r.n;rfl';refine⟨rfl,f,g,rs,us,‹_›,‹_›,rfl,λz=>⋯,λ_ _ _=>?_⟩;rfl';refine Loop.map ks _ (λi G=>∃(m:List (List (Str×Rat)))(a b:Tr),G=[.ag f ↥rs,.ag g ↥us,.ag h ↥ks,.ag .o (m.map (dG .f)),a,b]/\m.length=i/\∀(j:Nat)(k:Int)(X:List (Str×Rat)),ks[j]?=some k->m[j]?=some X->rb zz rs us (fX ks k) X) ⟨[],_,_,rfl,rfl,λ_ _ _ _ e=>(by cases e)⟩ ?_ ?_
 .rintro i k G hi ⟨m,a,b,rfl,hl,hX⟩;have α:=(List.getElem?_eq_some_iff.mp hi).1;have mk:=mem_of_getElem? hi;have l:(fX ks k).Sublist ks:=filter_sublist;rfl';refine aZ.filter ks af.t (λx=>!decide (x=k)) id ⋯ (λx v A R Y h2=>?_) ?_
  .rfl';split
   .next z=>exact Y z
   .next z=>exact h2 (by simpa using z)
  .rw[map_id,eM];rfl';refine⟨rfl,f,g,.f,rs,us,fX ks k,N,zz,‹_›,‹_›,inferInstance,rfl,r,D,le_trans l.length_le B,λx v=>Q x (l.subset v),l.nodup nd,λx v=>hM x (l.subset v),q1 k mk,λS mm M hK _=>?_⟩;have L:=wH r (le_trans l.length_le B) (λx v=>Q x (l.subset v));dsimp only;rw[FD];refine iJ T ?_;rw[jr];refine⟨rfl,.f,_,us,_,S,mm,inferInstance,rfl,L.y,M.g,I,⋯,λ_=>?_⟩;have U:Pu.aA (.aR .o ((qQ (pick rs (fX ks k)) us S).map λp=>((Sum.inr p.1:aS),af.t p.2)))=dG .f (qQ (pick rs (fX ks k)) us S):=by
    show Tr.aR .f (dM _)=_;rw[show dM ((qQ (pick rs (fX ks k)) us S).map λp=>((Sum.inr p.1:aS),af.t p.2))=_ from (cB _ (p0 _)).f];rfl
   dsimp only;rw[U];refine⟨(cB _ (p0 _)).t,⋯,m++[qQ (pick rs (fX ks k)) us S],_,_,by rw[map_append];rfl,by rw[length_append,hl];rfl,λj k' X C u=>?_⟩;rw[List.getElem?_append] at u;split at u
   .exact hX j k' X C u
   .have hj:j=i:=by
     have:=(List.getElem?_eq_some_iff.mp u).1;rw[List.length_singleton] at this;omega
    rw[hj,hl,Nat.sub_self] at u;rw[hj,hi] at C;cases C;cases u;exact⟨tl (pick rs (fX ks k)) us S,rfl,hK,λk hk=>UN L M hk⟩
 .rintro G ⟨m,a,b,rfl,hl,hX⟩;rfl';exact⟨EK m,q2 m hl hX _⟩
theorem sJ{j:Int}(h:j.natAbs<2 ^ 100):j.natAbs<2 ^ 8000:=lt_of_lt_of_le h (Nat.pow_le_pow_right ∎ ⋯)
def F8:bK:=cX 2 λb Q=>∃(f:Fl)(a:az)(k:Int),Fp f/\b=[.ag f ↥a,.int k]/\0<=k/\∀c:Int,Q (.int c)
theorem Iv(T:Tx w K mg){z:Bool}:aK P w K mg base bJ 1 T.rq.a T.rq.d ["_law_script","_law_k"] (bP K z 0 2 F8):=by
 refine cu T.rq.F Ik rfl ∎ λa7 A outer s H E i j h=>?_
 refine⟨_,(aQ (cQ (b7 mJ mi (qv 1) (d7 e5 e7 T.e9 (au (qv 0) aD))) (a6 (bV (ba (qv 0) (qv 1)))) cP)
  (a6 (bV aI))),?_⟩
 rintro l g _ ⟨_,f,b,k,_,rfl,e,q⟩;rfl';split
 .rename_i c;exact d8 _ _ _ (tM b e (by have:=of_decide_eq_true c;omega)) ⟨ik _,q _ _⟩
 .exact q _ _
theorem vW{i j:Int}(h:-(2 ^ 64)<i/\i<2 ^ 64):kf i j:=.inl (.inl h)
theorem Hr{i j:Int}(h:-(2 ^ 64)<j/\j<2 ^ 64):kf i j:=.inl (.inr h)
theorem D2{xs:ai}{r:Int}{Q:ay}(a:0<=r)(b:r<xs.length)(q:∀x,x∈xs->Q x):oQ (dc xs r) Q:=by
 rw[tM xs a ⋯];exact q _ (getElem_mem _)
theorem wC{ns:az}{r:Int}{Q:ay}(a:0<=r)(b:r<ns.length)(q:∀n,n∈ns->Q (.int n)):oQ (dc (ns.map Tr.int) r) Q:=by
 refine D2 a (by rw[length_map];exact b) λx d=>?_
 let⟨n,hn,rfl⟩:=mem_map.mp d;exact q n hn
def G6:bK:=cX 2 λa Q=>∃(c k:Int),a=[.int c,.int k]/\0<=k/\k<=1000/\∀r:Int,Q (.int r)
theorem l8(T:Tx w K mg){z:Bool}:aK P w K mg base bJ 1 T.jD.a T.jD.d ["_law_cell","_law_k"] (bP K z 0 2 G6):=by
 refine cu T.jD.F K3 rfl ∎ λa7 A outer s H E j l i=>?_
 refine⟨_,(aQ (bM 2 (gC (dA (gC (fq (fq (qv 0) (dA aI (qv 1))) aI) aI) aI) aI))
  (aQ (bM 2 (gC (dA (qv 2) (fq (jm (qv 2) aI) aI)) aI))
  (a6 (bV (gC (dA (qv 2) (fq (jm (qv 2) aI) aI)) aI))))),?_⟩
 rintro o h _ ⟨_,c,k,rfl,m,n,q⟩;rfl';have b:=emod_nonneg ((c+7919*k+1) % 2147483647*48271) (show (2147483647:Int)≠0 by decide);have e:=emod_lt_of_pos ((c+7919*k+1) % 2147483647*48271) (show (0:Int)<2147483647 by decide);generalize (c+7919*k+1) % 2147483647*48271 % 2147483647=u at b e;have f:=emod_nonneg (u*(u.fdiv 1009+69621)) (show (2147483647:Int)≠0 by decide);have g:=emod_lt_of_pos (u*(u.fdiv 1009+69621)) (show (0:Int)<2147483647 by decide);generalize u*(u.fdiv 1009+69621) % 2147483647=v at f g;exact⟨vW ∎,∎,Hr ∎,∎,⟨∎,sJ ∎⟩,vW ⋯,∎,⟨∎,sJ ∎⟩,vW ⋯,∎,q _ _⟩
def GH:bK:=cX 2 λd Q=>∃a b:Int,d=[.int a,.int b]/\0<=b/\Q (.int (gd a b))
theorem BH(T:Tx w K mg){z:Bool}:aK P w K mg base bJ 1 T.oR.a T.oR.d ["_law_one","_law_other"] (bP K z 0 2 GH):=by
 refine cu T.oR.F Il rfl ∎ λa7 A outer s H E n o l=>?_
 refine⟨_,(aQ (xN (b7 gE gx (qv 1) aI) (a6 (Uq 0 1 (au (qv 1) (au (gC (qv 0) (qv 1)) aD)))))
  (a6 (bV (d7 wd wZ T.uT (au (qv 0) aD))))),?_⟩
 rintro u i _ ⟨_,a,b,rfl,h,q⟩;refine⟨λm j=>∃x y,j=[.int x,.int y]/\0<=y/\gd x y=gd a b/\m=y.toNat,⟨_,a,b,rfl,h,rfl,rfl⟩,?_⟩;rintro m j ⟨x,y,rfl,r,e,rfl⟩;rfl';by_cases f:y=0
 .subst f;rw[if_neg ∎];rw[<- e] at q;have g:gd x 0=if x<0 then -x else x:=by
   unfold gd;rw[Int.gcd_zero_right];split<;>omega
  rw[g] at q;exact q _
 .rw[if_pos (by simp[f])];refine⟨⋯,(x % y).toNat,?_,_,_,rfl,emod_nonneg _ f,?_,rfl⟩
  .have:=emod_lt_of_pos x (show 0<y by omega);have:=emod_nonneg x f;omega
  .rw[<- e];unfold gd;have:=Int.emod_add_mul_ediv x y;rw[Int.gcd_comm x y,show x % y=x+y*(-(x / y)) by rw[Int.mul_neg];omega,Int.gcd_add_mul_left_right]
def GN:bK:=cX 2 λd Q=>∃a b:Int,d=[.int a,.int b]/\0<b/\bi b<=7990/\Q (af.t (Rat.divInt a b))
theorem vV(T:Tx w K mg){z:Bool}:aK P w K mg base bJ 2 T.ny.a T.ny.d ["_law_top","_law_bottom"] (bP K z 0 2 GN):=by
 refine cu T.ny.F IJ rfl ∎ λa7 A outer s H E l m i=>?_
 refine⟨_,(aQ (bM 2 (qc T.oR (BH T) (au (qv 0) (au (qv 1) aD))))
  (a6 (bV (i5 (au (jm (qv 0) (qv 2)) (au (jm (qv 1) (qv 2)) aD)))))),?_⟩
 rintro n h _ ⟨_,a,b,rfl,g,f,q⟩;have e:=ne_of_gt g;rfl';refine⟨rfl,a,b,rfl,le_of_lt g,λj=>?_⟩;rw[E6,<- B9 e,<- Ca e] at q;unfold dv at q;rw[if_neg ⋯] at q;rfl';exact⟨tq e f,tq e f,q _⟩
theorem EL(a:Int){b:Int}(f:0<b):(Rat.divInt a b).num.natAbs<=a.natAbs:=by
 by_cases e:a=0
 .subst e;rw[Rat.zero_divInt];exact zero_le _
 .have d:(Rat.divInt a b).num ∣ a:=by
   rw[Rat.num_divInt a b,Int.sign_eq_one_of_pos f,one_mul];exact Int.ediv_dvd_of_dvd (Int.gcd_dvd_right ..)
  exact le_of_dvd ⋯ (Int.natAbs_dvd_natAbs.mpr d)
theorem EM(a:Int){b:Int}(d:0<b):((Rat.divInt a b).den:Int)<=b:=Int.le_of_dvd d (wG a d)
theorem NB{r:Int}{Q:ay}(b:0<=r)(d:r<3)(q:∀k:Str,(k="least"\/k="most"\/k="just")->Q (.str k)):oQ (dc [.str (Str.ofString "least"),.str (Str.ofString "most"),.str (Str.ofString "just")] r) Q:=by
 refine D2 b d λx a=>?_
 rcases mem_cons.mp a with rfl |a
 .exact q _ (.inl rfl)
 rcases mem_cons.mp a with rfl |a
 .exact q _ (.inr (.inl rfl))
 rcases mem_cons.mp a with rfl |a
 .exact q _ (.inr (.inr rfl))
 cases a
theorem fV{A B:cw}(J:aU)(a:∀N:aU,(∀j,J j->N j)->A { D with nx:=N } j)(b:∀j,J j->B D j):sr A B D j:=a (B D) b
theorem d6{n:Nat}(a:0<n)(h:n<=3):n ∣ 6:=by
 rcases (by omega:n=1\/n=2\/n=3) with rfl |rfl |rfl<;>decide
structure R6(us:ah)(o:bY):Prop where
 p:∀p∈o.1,p.1∈us/\p.2.num.natAbs<=3/\p.2.den ∣ 6
 d:(o.1.map (·.1)).Nodup
 k:o.2.1="least"\/o.2.1="most"\/o.2.1="just"
 n:o.2.2.1.num.natAbs<=25/\o.2.2.1.den ∣ 6
 w:o.2.2.2.2=1
 l:o.1.length<=3
theorem fM{m:List (Str×Rat)}{u:Str}{a:Rat}(h:u ∉ m.map (·.1)):mS m u a=m++[(u,a)]:=by
 unfold mS;rw[if_neg];intro e;let⟨p,d,b⟩:=any_eq_true.mp e;exact h (mem_map.mpr ⟨p,d,of_decide_eq_true b⟩)
def Gn:bK:=cX 3 λa Q=>∃(f:Fl)(c b:Int)(us:ah)(_:Fp f),a=[.int c,.ag f ↥us,.int b]/\us.Nodup/\us.length<=3/\(b=1\/b=3)/\∀o:bY,R6 us o->Q (af.t o)
theorem K7(T:Tx w K mg){z:Bool}:aK P w K mg base bJ 3 T.rr.a T.rr.d ["_law_cell","_law_some","_law_bottoms"] (bP K z 0 3 Gn):=by
 refine cu T.rr.F K4 rfl ∎ λa7 A outer s H E hr hu C=>?_
 refine⟨_,(aQ (jn 3 tL)
  (aQ (fR (ox T.nE (au (qv 1) aD)) (i8 (n:=2) rfl (ew (dq 4) (ew (dq 5) iU))) (aQ (bM 6 (qc T.ny (vV T) (au (ba (gh (au aI (au (gU aI) (au aI (au aI (au (gU aI) aD)))))) (gC (qc T.jD (l8 T) (au (qv 0) (au (fq (qv 4) aI) aD))) aI)) (au (fq aI (gC (qc T.jD (l8 T) (au (qv 0) (au (fq (qv 4) aI) aD))) (qv 2))) aD))))
  (a6 (cQ (b7 lB lj (gC (qc T.jD (l8 T) (au (qv 0) (au (fq (qv 4) aI) aD))) aI) aI) (a6 (ub (dg 3) (qv 5) (qv 6))) cP))))
  (aQ (bM 7 (ba (gh (au gB (au gB (au gB aD)))) (gC (qc T.jD (l8 T) (au (qv 0) (au aI aD))) aI)))
  (aQ (bM 8 (ba (gh (au aI (au aI (au aI (au aI (au aI aD)))))) (gC (qc T.jD (l8 T) (au (qv 0) (au aI aD))) aI)))
  (Ft 3 (a6 (bV (i5 (au (qv 3) (au (qv 7) (au (qc T.ny (vV T) (au (ua (gC (qc T.jD (l8 T) (au (qv 0) (au aI aD))) aI) aI) (au (fq aI (gC (qc T.jD (l8 T) (au (qv 0) (au aI aD))) (qv 2))) aD))) (au (qv 8) (au aI aD))))))))))))),?_⟩
 rintro xs Q' _ ⟨_,f,c,b,us,_,rfl,I,δ,hb,q⟩;refine fV (λj=>j=[.int c,.ag f ↥us,.int b,.aR .o [],.aq,.aq,.aq,.aq,.aq]) (λN C=>?_) ?_
 .rfl';exact⟨rfl,C _ rfl⟩
 rintro _ rfl;refine fV (λj=>∃(g:List (Str×Rat))(x y v:Tr),j=[.int c,.ag f ↥us,.int b,.aR .o (g.map λp=>((Sum.inr p.1:aS),af.t p.2)),x,y,v,.aq,.aq]/\(∀p∈g,p.1∈us/\p.2.num.natAbs<=3/\p.2.den<=3)/\(g.map (·.1)).Nodup/\g.length<=3) (λN C=>?_) ?_
 .rfl';refine Loop.map us.zipIdx _ (λi j=>∃(g:List (Str×Rat))(x y v:Tr),j=[.int c,.ag f ↥us,.int b,.aR .o (g.map λp=>((Sum.inr p.1:aS),af.t p.2)),x,y,v,.aq,.aq]/\(∀p∈g,p.1∈us.take i/\p.2.num.natAbs<=3/\p.2.den<=3)/\(g.map (·.1)).Nodup/\g.length<=i) ⟨[],_,_,_,rfl,λ_ m=>(nomatch m),nodup_nil,le_refl 0⟩ ?_ ?_
  .rintro i ⟨u,i'⟩ j hi ⟨g,x,y,v,rfl,h,hd,B⟩;let⟨D,Q⟩:=qI hi;dsimp only at D Q;subst Q;have α:=(List.getElem?_eq_some_iff.mp D).1;walk_at "q";refine⟨rfl,c,_,rfl,⋯,⋯,λr1 _=>?_⟩;walk_at "q";refine⟨∎,wC (ns:=[1,-1,1,2,-3]) (emod_nonneg _ ∎) (emod_lt_of_pos _ ∎) λs hs=>?_⟩;have γ:s≠0/\s.natAbs<=3:=by
    have A:∀n:Int,n∈[(1:Int),-1,1,2,-3]->n≠0/\n.natAbs<=3:=∎
    exact A s hs
   walk_at "q";refine⟨rfl,c,_,rfl,⋯,⋯,λr2 _=>?_⟩;have l:0<b:=⋯
   have U:=emod_nonneg r2 (show b≠0 by omega);have G:=emod_lt_of_pos r2 l;walk_at "q";refine⟨l,rfl,_,_,rfl,⋯,le_trans (iL (k:=8) ⋯) ∎,λ_=>⟨jQ _,?_⟩⟩;rw[jP];have L:=EL s (show 0<1+r2 % b by omega);have M:=EM s (show 0<1+r2 % b by omega);generalize Rat.divInt s (1+r2 % b)=nu at L M;rfl';refine⟨rfl,c,_,rfl,⋯,⋯,λr3 _=>?_⟩;rfl';have J:us.take (i'+1)=us.take i'++[u]:=KW D;have hn:u ∉ g.map (·.1):=λm=>by
    let⟨p,r,e⟩:=mem_map.mp m;exact BR I D (e ▸ (h p r).1)
   refine⟨∎,?_⟩;split
   .rw[fM hn];refine⟨⋯,g++[(u,nu)],_,_,_,rfl,λp r=>?_,?_,by rw[length_append,List.length_singleton];omega⟩
    .rcases mem_append.mp r with r |r
     .rw[J];exact⟨mem_append.mpr (.inl (h p r).1),(h p r).2⟩
     .rw[mem_singleton.mp r,J];exact⟨mem_append.mpr (.inr (.head _)),(by omega:nu.num.natAbs<=3),(by omega:nu.den<=3)⟩
    .rw[map_append];refine nodup_append.mpr ⟨hd,nodup_cons.mpr ⟨λm=>(nomatch m),nodup_nil⟩,λa ma b' mb e=>?_⟩;rw[mem_singleton.mp mb] at e;have e:a=u:=e;subst e;exact hn ma
   .exact⟨g,_,_,_,rfl,λp r=>⟨by rw[J];exact mem_append.mpr (.inl (h p r).1),(h p r).2⟩,hd,⋯⟩
  .rintro j ⟨g,x,y,v,rfl,h,hd,B⟩;rw[length_zipIdx] at B;exact C _ ⟨g,x,y,v,rfl,λp m=>⟨List.mem_of_mem_take (h p m).1,(h p m).2⟩,hd,⋯⟩
 rintro _ ⟨g,x,y,v,rfl,h,hd,B⟩;walk_at "q";refine⟨rfl,c,_,rfl,∎,∎,λr7 _=>?_⟩;walk_at "q";refine⟨∎,NB (emod_nonneg _ ∎) (emod_lt_of_pos _ ∎) λk hk=>?_⟩;walk_at "q";refine⟨rfl,c,_,rfl,∎,∎,λr8 _=>?_⟩;walk_at "q";refine⟨∎,wC (ns:=[0,0,0,0,2]) (emod_nonneg _ ∎) (emod_lt_of_pos _ ∎) λrk β=>?_⟩;walk_at "q";have l:0<b:=⋯
 refine⟨rfl,c,_,rfl,∎,∎,λr3 _=>?_⟩;have g7:=emod_nonneg r3 (show (25:Int)≠0 by decide);have Y:=emod_lt_of_pos r3 (show (0:Int)<25 by decide);walk_at "q";refine⟨∎,rfl,c,_,rfl,∎,∎,λr4 _=>?_⟩;have U:=emod_nonneg r4 (show b≠0 by omega);have G:=emod_lt_of_pos r4 l;walk_at "q";refine⟨l,rfl,_,_,rfl,⋯,le_trans (iL (k:=8) ⋯) ∎,λ_=>?_⟩;have L:=EL (r3 % 25 - 4) (show 0<1+r4 % b by omega);have M:=EM (r3 % 25 - 4) (show 0<1+r4 % b by omega);generalize Rat.divInt (r3 % 25 - 4) (1+r4 % b)=nu at L M;have O:=cB _ (p0 g);have dp:=nu.den_pos;rw[show dM (g.map λp=>((Sum.inr p.1:aS),af.t p.2))=g.map λp=>((Sum.inr p.1:aS),af.t p.2) from O.f];refine⟨?_,q (g,k,nu,rk,1) ⟨λp m=>⟨(h p m).1,(h p m).2.1,d6 p.2.den_pos (h p m).2.2⟩,hd,hk,⟨(by omega:nu.num.natAbs<=25),d6 dp (by omega:nu.den<=3)⟩,rfl,B⟩ _⟩;rw[show cD (Tr.aR Fl.f (g.map λp=>((Sum.inr p.1:aS),af.t p.2)))=true from O.o,ik];rfl
theorem Te{b:Int}{c:Rat}{k x:Nat}(g:0<b)(h:b ∣ ((c.den*k:Nat):Int))(hd:(c.den:Int) ∣ b)(d:0<k)(e:c.num.natAbs<=x):(dX b c).natAbs<=x*k:=by
 have a:(0:Int)<(c.den:Int):=natCast_pos.mpr c.den_pos;let⟨y,rfl⟩:=hd;unfold dX;rw[Int.mul_fdiv_cancel_left y (ne_of_gt a),natAbs_mul];have f:y ∣ (k:Int):=by
  rw[natCast_mul] at h;exact Int.dvd_of_mul_dvd_mul_left (ne_of_gt a) h
 have:y.natAbs<=k:=le_of_dvd d (by have:=Int.natAbs_dvd_natAbs.mpr f;rwa[natAbs_natCast] at this);exact Nat.mul_le_mul e this
theorem fL{m:List (Str×Rat)}{u:Str}:(bZ m u).getD 0=0\/∃p∈m,(bZ m u).getD 0=p.2:=by
 unfold bZ;cases e:m.find? λp=>decide (p.1=u) with
 |none=>exact .inl rfl
 |some p=>exact .inr ⟨p,List.mem_of_find?_eq_some e,rfl⟩
theorem OW{us:ah}{o:bY}(h:R6 us o):j7 8 3 1 us o:=by
 have all:∀c∈cg us o,c.num.natAbs<=25/\c.den ∣ 6:=λc m=>by
  rcases mem_append.mp m with m |m
  .obtain⟨u,_,rfl⟩:=mem_map.mp m;rcases fL (m:=o.1) (u:=u) with e |⟨p,i,e⟩
   .rw[e];exact⟨∎,∎⟩
   .rw[e];exact⟨le_trans (h.p p i).2.1 ∎,(h.p p i).2.2⟩
  .rw[mem_singleton.mp m];exact h.n
 have dv:∀c∈cg us o,(c.den:Int) ∣ ((6:Nat):Int):=λc m=>Int.natCast_dvd_natCast.mpr (all c m).2
 let⟨b,_,j,v⟩:=gf (cg us o) 1 ∎;have d:=v 6 (one_dvd _) dv
 change 0<bF us o at b
 change ∀c∈cg us o,_ ∣ bF us o at j
 change bF us o ∣ _ at d
 have B:(bF us o).natAbs<=6:=le_of_dvd ∎ (by have:=Int.natAbs_dvd_natAbs.mpr d;rwa[natAbs_natCast] at this);have l:∀c∈cg us o,bi (dX (bF us o) c)<=8:=λc m=>by
  let⟨f,k,a⟩:=all c m;have r:0<k:=Nat.pos_of_ne_zero λz=>by rw[z] at a;cases a
  have s:k<=6:=le_of_dvd ∎ ⟨c.den,by rw[Nat.mul_comm];exact a⟩;have:=Te (k:=k) (x:=25) b (by rw[<- a];exact d) (j c m) r f;exact iL (lt_of_le_of_lt this ⋯)
 have A:bi ((6:Nat):Int)<=20:=by walk_at "k"
 refine⟨⟨⟨6,∎,dv,⋯⟩,λc m=>?_⟩,b,iL ⋯,λx m=>?_,l _ (mem_append.mpr (.inr (.head _))),⟨by rw[h.w];decide,by rw[h.w];decide +kernel⟩⟩
 .obtain⟨f,a2⟩:=all c m;have q:bi c.num<=40:=iL ⋯;have y:=le_of_dvd ∎ a2;have g:bi (c.den:Int)<=40:=iL (by rw[natAbs_natCast];omega);unfold bs;exact Nat.max_le.mpr ⟨le_trans q ∎,le_trans (by unfold bi at g;rwa[natAbs_natCast] at g) ∎⟩
 .obtain⟨c,mc,rfl⟩:=mem_map.mp m;exact l c (mem_append.mpr (.inl mc))
def dh:List (Rat×Rat)->Rat
 |[]=>0
 |p::ps=>p.1 * p.2 + dh ps
theorem wN:∀A B:List (Rat×Rat),dh (A++B)=dh A+dh B
 |[],B=>by rw[List.nil_append,dh];grind
 |p::A,B=>by rw[cons_append,dh,dh,wN A B];grind
theorem EN{M:Nat}:∀{ps:List (Rat×Rat)},(∀p∈ps,bs p.1+bs p.2<=M)->bs (dh ps)<=1+ps.length*(M+1)
 |[],_=>by rw[dh,nU];omega
 |p::ps,h=>by
  rw[dh,length_cons,Nat.succ_mul];have a:=EN (ps:=ps) λp m=>h p (.tail _ m)
  have b:=h p (.head _);have c:=tV p.1 p.2;have d:=Rw (p.1*p.2) (dh ps);omega
theorem Iw(f a b:Rat):Rat.divInt (f.num*(a.den:Int)*(b.den:Int)+a.num*b.num*(f.den:Int)) ((f.den:Int)*(a.den:Int)*(b.den:Int))=f+a*b:=by
 have e:∀x:Rat,x=(x.num:Rat) / ((x.den:Int):Rat):=λx=>by
  have:=Rat.num_divInt_den x;rw[Rat.divInt_eq_div] at this;exact this.symm
 have d:∀x:Rat,(((x.den:Int)):Rat)≠0:=λx z=>by
  have:=Rat.intCast_eq_zero_iff.mp z;have:=x.den_pos;omega
 have g:=e f;have h:=e a;have i:=e b;have j:=d f;have l:=d a;have m:=d b;rw[Rat.divInt_eq_div,Rat.intCast_add,Rat.intCast_mul,Rat.intCast_mul,Rat.intCast_mul,Rat.intCast_mul,Rat.intCast_mul,Rat.intCast_mul];generalize (f.num:Rat)=F at *;generalize ((f.den:Int):Rat)=F' at *;generalize (a.num:Rat)=A at *;generalize ((a.den:Int):Rat)=A' at *;generalize (b.num:Rat)=B at *;generalize ((b.den:Int):Rat)=B' at *;rw[g,h,i]
 grind
def Ah:bK:=cX 1 λb Q=>∃(f:Fl)(a:List (Rat×Rat))(M:Nat)(_:Fp f),b=[.ag f ↥a]/\(∀p∈a,bs p.1+bs p.2<=M)/\a.length*(M+1)+M+1<=3900/\Q (af.t (dh a))
theorem vY(T:Tx w K mg){z:Bool}:aK P w K mg base bJ 3 T.nA.a T.nA.d ["_law_pairs"] (bP K z 0 1 Ah):=by
 refine cu T.nA.F K5 rfl ∎ λa7 A outer s H E Q U o=>?_
 refine⟨_,(aQ (bM 1 (i5 (au aI (au aI aD))))
  (aQ (fR (eC (qv 0)) (i8 (n:=2) rfl (ew (dq 2) (ew (dq 3) iU))) (aQ (bM 4 (fq (dA (dA (ba (qv 1) aI) (ba (qv 2) aI)) (ba (qv 3) aI)) (dA (dA (ba (qv 2) aI) (ba (qv 3) aI)) (ba (qv 1) aI))))
  (a6 (bM 1 (qc T.ny (vV T) (au (qv 4) (au (dA (dA (ba (qv 1) aI) (ba (qv 2) aI)) (ba (qv 3) aI)) aD)))))))
  (a6 (bV (qv 1))))),?_⟩
 rintro xs L _ ⟨_,f,ps,M,_,rfl,r,O,q⟩;refine fV (λj=>j=[.ag f ↥ps,af.t (0:Rat),.aq,.aq,.aq]) (λN o=>?_) ?_
 .rfl';exact o _ rfl
 rintro _ rfl;rfl';refine Loop.map ps _ (λi j=>∃a b c:Tr,j=[.ag f ↥ps,af.t (dh (ps.take i)),a,b,c]) ⟨_,_,_,rfl⟩ ?_ ?_
 .rintro i ⟨a,b⟩ j hi ⟨x,y,v,rfl⟩;have G:=(List.getElem?_eq_some_iff.mp hi).1;have e:=r _ (mem_of_getElem? hi);have D:=EN (M:=M) (ps:=ps.take i) λp m=>r p (List.mem_of_mem_take m)
  rw[length_take] at D;have I:=Nat.mul_le_mul_right (M+1) (show min i ps.length<=ps.length by omega);have J:dh (ps.take (i+1))=dh (ps.take i)+a*b:=by
   rw[take_add_one,hi,wN];show dh (ps.take i)+dh [(a,b)]=_;rw[dh,dh]
   grind
  rw[J];generalize dh (ps.take i)=F at *;rw[show af.t (a,b)=Tr.aP [af.t a,af.t b] from rfl];rfl';dsimp only at e;have C:=iH F;have l:=gy F;have u:=iH a;have g:=gy a;have B:=iH b;have h:=gy b;have Y:=i6 F.num (a.den:Int);have m2:=i6 a.num b.num;have m3:=i6 (F.den:Int) (a.den:Int);have m4:=i6 ((F.den:Int)*(a.den:Int)) (b.den:Int);have p1:(0:Int)<(F.den:Int)*(a.den:Int)*(b.den:Int):=mul_pos (mul_pos (natCast_pos.mpr F.den_pos) (natCast_pos.mpr a.den_pos)) (natCast_pos.mpr b.den_pos);refine⟨eN C g ⋯,eN (le_refl _) h ⋯,eN u B ⋯,eN (le_refl _) l ⋯,eN l g ⋯,eN (le_refl _) h ⋯,rfl,_,_,rfl,p1,⋯,λ_=>?_⟩;rw[Iw];exact⟨jQ _,_,_,_,by rw[jP]⟩
 .rintro j ⟨a,b,c,rfl⟩;rfl';rw[take_length];exact q _
def GO:bK:=cX 1 λxs Q=>∃n:Int,xs=[.int n]/\Q (.bl true)
theorem BM(T:Tx w K mg){z:Bool}:aK P w K mg base bJ 1 T.oS.a T.oS.d ["_law_found"] (bP K z 0 1 GO):=by
 refine cu T.oS.F IX rfl ∎ λa7 A outer s H E f g e=>?_
 refine⟨_,(a6 (bV (kz (k8 K T.kQ (au (qv 0) (au (k9 T.FP) aD))) (i4 (SU (k8 K T.kQ (au (qv 0) (au (k9 T.FR) aD)))))))),?_⟩;rintro h b _ ⟨_,n,rfl,q⟩;rfl';exact⟨true,rfl,⟨false,rfl,q _⟩⟩
def GP:bK:=cX 1 λxs Q=>∃r:Rat,xs=[af.t r]/\Q (.bl true)
theorem BD(T:Tx w K mg){z:Bool}:aK P w K mg base bJ 2 T.oU.a T.oU.d ["_law_found"] (bP K z 0 1 GP):=by
 refine cu T.oU.F HN rfl ∎ λa7 A outer s H E g h f=>?_
 refine⟨_,(aQ (cQ (QW.t (i3 (iM (gD (k8 K T.kQ (au (qv 0) (au (k9 T.FO) aD))))) (jL (b7 gE gx (d7 e5 e7 T.e9 (au (qv 0) aD)) aI)))) (a6 (bV gS)) cP)
  (aQ (cQ (QW.t (i3 (iM (gD (qc T.oS (BM T) (au (ba (qv 0) aI) aD)))) (jL (iM (gD (qc T.oS (BM T) (au (ba (qv 0) aI) aD))))))) (a6 (bV gS)) cP)
  (a6 (bV (kz (fQ lB lj (ba (qv 0) aI) aI) (i4 (fQ ff e8 (qc T.oR (BH T) (au (ba (qv 0) aI) (au (ba (qv 0) aI) aD))) aI))))))),?_⟩
 rintro i e _ ⟨_,r,rfl,q⟩;rfl';refine⟨true,rfl,?_⟩;rfl';show nL _ [Tr.aP [.int r.num,.int r.den]] _;rfl';rw[if_neg ∎];have b:gd r.num (r.den:Int)=1:=by
  unfold gd;rw[show Int.gcd r.num (r.den:Int)=Nat.gcd r.num.natAbs r.den from rfl,r.reduced];rfl
 refine⟨rfl,_,rfl,λ_=>⟨rfl,_,rfl,λ_=>?_⟩⟩;show if decide (0<(r.den:Int))=true then _ else _
 rw[if_pos (decide_eq_true (natCast_pos.mpr r.den_pos))];refine⟨rfl,_,_,rfl,Int.natCast_nonneg _,λ_=>?_⟩;dsimp only;rw[b];rfl';exact q _
def GQ:bK:=cX 2 λa Q=>∃(o:bY)(r:Rat),a=[af.t o,af.t r]/\(o.2.1="least"\/o.2.1="most"\/o.2.1="just")/\(o.2.1="least"->0<=r)/\(o.2.1="most"->r<=0)/\Q (.bl true)
theorem Jm(T:Tx w K mg){z:Bool}:aK P w K mg base bJ 1 T.rB.a T.rB.d ["_law_one","_law_price"] (bP K z 0 2 GQ):=by
 refine cu T.rB.F Jx rfl ∎ λa7 A outer s H E i j h=>?_
 refine⟨_,(a6 (bV (qF (fQ ff e8 (ba (qv 0) aI) gB) (qF (kz (fQ ff e8 (ba (qv 0) aI) gB) (i4 (fQ xJ xt (ba (qv 1) aI) aI))) (i4 (kz (fQ ff e8 (ba (qv 0) aI) gB) (i4 (fQ Ts SQ (ba (qv 1) aI) aI)))))))),?_⟩;rintro l g _ ⟨_,o,r,rfl,b,e,f,q⟩;rfl';rcases b with b |b |b
 .rw[if_neg (by rw[b];decide),if_pos (decide_eq_true b),if_pos (decide_eq_true (Rat.num_nonneg.mpr (e b)))];exact q _
 .rw[if_neg (by rw[b];decide),if_neg (by rw[b];decide),if_pos (decide_eq_true b)];have:=f b;rw[show decide (r.num<=0)=true from decide_eq_true (by have:=Rat.num_nonneg.mpr (show 0<=-r by grind);rw[Rat.neg_num] at this;omega)];exact q _
 .rw[if_pos (decide_eq_true b)];exact q _
def jI(X:List (Str×Rat))(m:List (Str×Rat)):List (Rat×Rat):=m.map λp=>(p.2,(bZ X p.1).getD 0)
def Gp:bK:=cX 2 λa Q=>∃(o:bY)(X:List (Str×Rat))(M:Nat),a=[af.t o,dG .f X]/\o.1.length<=8/\(∀p∈o.1,∃c,bZ X p.1=some c/\bs p.2+bs c<=M)/\bs (-1)+bs o.2.2.1<=M/\10*(M+1)<=3900/\jb o.2.1 (dh (jI X o.1) - o.2.2.1)=0/\(o.2.1="least"\/o.2.1="most"\/o.2.1="just")/\Q (.bl true)
theorem Jn(T:Tx w K mg):aK P w K mg base bJ 4 T.rA.a T.rA.d ["_law_one","_law_placing"] (bP K true 0 2 Gp):=by
 refine cu T.rA.F Jw rfl ∎ λa7 A outer s H E I J D=>?_
 refine⟨_,(aQ (Qd 2 ["_law_name","_law_number","_law_placing"] [none,none,some 1] (ba (qv 0) aI) (oy (n:=2) rfl (iT (dk 0) (iT (dk 1) nV))) (λ_ _ _ _ _=>(i5 (au (qv 1) (au (ba (qv 2) (qv 0)) aD)))))
  (aQ (Up (qc T.nA (vY T) (au (fq (qv 2) (gh (au (i5 (au (i5 (au (gU aI) (au aI aD))) (au (ba (qv 0) aI) aD))) aD))) aD)) (i8 (n:=2) rfl (ew (dq 3) (ew (dq 4) iU))))
  (a6 (bV (qF (fQ ff e8 (qv 3) aI) (qF (kz (fQ ff e8 (ba (qv 0) aI) gB) (i4 (fQ lB lj (qv 3) aI))) (i4 (kz (fQ ff e8 (ba (qv 0) aI) gB) (i4 (fQ mJ mi (qv 3) aI)))))))))),?_⟩
 rintro L C _ ⟨_,o,X,M,rfl,G,l,u,m,hm,b,q⟩;rfl';rw[map_map];refine aZ.map o.1 _ (λp=>(p.2,(bZ X p.1).getD 0)) ⋯ (λp e R j=>?_) ?_
 .show lG 2 _ (Tr.aP [.str p.1,af.t p.2]) _ _;let⟨c,g,_⟩:=l p e;rw[g] at j;rfl';exact d8 _ _ c g j
 .rw[eM];rfl'
  change (jI X o.1 |>.map af.t).length+1<=1000000/\Ah [dn (Pu.aA (.ag .o ((jI X o.1).map af.t++[((-1:Rat),o.2.2.1)].map af.t)))] _
  rw[<- map_append,eM,kC];have i:(jI X o.1).length=o.1.length:=length_map _;refine⟨by rw[length_map];omega,rfl,.f,jI X o.1++[((-1:Rat),o.2.2.1)],M,inferInstance,rfl,λp e=>?_,?_,λ_=>⟨jQ _,?_⟩⟩
  .rcases mem_append.mp e with e |e
   .obtain⟨p',mp',rfl⟩:=mem_map.mp e;let⟨c,g,v⟩:=l p' mp';dsimp only;rw[g];exact v
   .rw[mem_singleton.mp e];exact u
  .rw[length_append,i,List.length_singleton];have:=Nat.mul_le_mul_right (M+1) (show o.1.length+1<=9 by omega);omega
  .have hv:dh (jI X o.1++[((-1:Rat),o.2.2.1)])=dh (jI X o.1) - o.2.2.1:=by rw[wN,dh,dh];grind
   rw[hv,jP];generalize dh (jI X o.1) - o.2.2.1=r at hm;show (2:Nat)=2/\_;refine⟨rfl,?_⟩;dsimp only;rfl';let⟨x,y,B⟩:=(Dr _ _).mp hm;by_cases h:r.num=0
   .rw[if_pos (decide_eq_true h)];exact q _
   .rw[if_neg (by simpa using h)];rcases b with b |b |b
    .rw[if_pos (decide_eq_true b),if_pos (decide_eq_true (by have:=Rat.num_nonneg.mpr (x b);omega))];exact q _
    .rw[if_neg (by rw[b];decide),if_pos (decide_eq_true b),show decide (r.num<0)=true from decide_eq_true (by have:=Rat.num_nonneg.mpr (show 0<=-r by have:=y b;grind);rw[Rat.neg_num] at this;omega)];exact q _
    .exact absurd (by rw[B (by rw[b];decide) (by rw[b];decide)];rfl) h
theorem Dt{u:Str}:∀{us:ah}{j:Nat}(y:Nat->Rat),us.Nodup->us[j]?=some u->dot (us.map λx=>(bZ [(u,(1:Rat))] x).getD 0) y=y j
 |v::us,j,y,nd,h=>by
  let⟨a,i⟩:=nodup_cons.mp nd;rw[map_cons,dot]
  match j,h with
  |0,h=>
   have d:v=u:=Option.some.inj h;subst d;have z:us.map (λx=>(bZ [(v,(1:Rat))] x).getD 0)=List.replicate us.length 0:=List.eq_replicate_iff.mpr ⟨length_map _,λb m=>by
    let⟨x,g,rfl⟩:=mem_map.mp m;have:¬ v=x:=λe=>a (e ▸ g)
    simp[bZ,this]⟩
   rw[z,wI,C9 rfl];show (1:Rat)*_+0=_
   grind
  |j+1,h=>
   have f:u∈us:=mem_of_getElem? h;have:¬ u=v:=λe=>a (e ▸ f)
   rw[Dt (u:=u) (us:=us) (j:=j) _ i h,show (bZ [(u,(1:Rat))] v).getD 0=0 by simp[bZ,this]]
   grind
theorem D3{a:Tr}{d:ai}(h:ef a a=some true)(h':df d d=some true):df (a::d) (a::d)=some true:=by
 show ((ef a a).bind λa=>(df d d).bind λb=>some (a&&b))=_;rw[h,h'];rfl
theorem tX{f g:Fl}{a:ai}(h:df a a=some true):ef (.ag f a) (.ag g a)=some true:=by
 show (if a.length=a.length then df a a else some false)=_;rw[if_pos rfl,h]
theorem eq_str(u:Str):ef (.str u) (.str u)=some true:=by
 show some (decide (u=u))=_;rw[decide_eq_true rfl]
theorem D4:∀us:ah,df ↥us ↥us=some true
 |[]=>rfl
 |u::us=>D3 (eq_str u) (D4 us)
theorem Du:∀us:ah,fJ ↥us=0
 |[]=>rfl
 |u::us=>by show max 0 (fJ ↥us)=0;rw[Du us];rfl
theorem D5{us:ah}(nd:us.Nodup){x:Nat->Rat}{j:Nat}{u:Str}(h:us[j]?=some u):bZ (us.zipIdx.map λp=>(p.1,x p.2)) u=some (x j):=by
 unfold bZ;have m:(u,j)∈us.zipIdx:=List.mem_zipIdx_iff_getElem?.mpr h;rw[List.find?_map];cases e:us.zipIdx.find? ((λp=>decide (p.1=u)) ∘ λp=>(p.1,x p.2)) with
 |none=>exact absurd (List.find?_eq_none.mp e _ m) (by simp)
 |some q=>
  have n:q.1=u:=of_decide_eq_true (p:=q.1=u) (by have:=List.find?_some e;exact this);have g:us[q.2]?=some q.1:=List.mem_zipIdx_iff_getElem?.mp (List.mem_of_find?_eq_some e);rw[n] at g;let⟨a,b⟩:=List.getElem?_eq_some_iff.mp g;let⟨d,f⟩:=List.getElem?_eq_some_iff.mp h;have i:q.2=j:=by
   rcases Nat.lt_trichotomy q.2 j with l |e |l
   .exact absurd (b.trans f.symm) (List.pairwise_iff_getElem.mp nd _ _ a d l)
   .exact e
   .exact absurd (f.trans b.symm) (List.pairwise_iff_getElem.mp nd _ _ d a l)
  show some (x q.2)=_;rw[i]
theorem NC(u v:Str)(c:Rat)(m:List (Str×Rat))(h:u ∉ m.map (·.1)):(bZ ((u,c)::m) v).getD 0=c*(bZ [(u,(1:Rat))] v).getD 0+(bZ m v).getD 0:=by
 unfold bZ;rw[find?_cons,find?_cons,List.find?_nil];by_cases e:u=v
 .have n:m.find? (λp=>decide (p.1=v))=none:=List.find?_eq_none.mpr λp a z=>h (by rw[e,<- of_decide_eq_true z];exact mem_map_of_mem a)
  rw[n];simp only[e,decide_true];show c=c*1+0
  grind
 .simp only[e,decide_false];show _=c*0+_
  grind
theorem D6{us:ah}(nd:us.Nodup)(x:Nat->Rat):∀m:List (Str×Rat),(m.map (·.1)).Nodup->(∀p∈m,p.1∈us)->dh (jI (us.zipIdx.map λp=>(p.1,x p.2)) m)=dot (us.map λu=>(bZ m u).getD 0) x
 |[],_,_=>(yb us x).symm
 |(u,c)::m,hn,hm=>by
  rw[map_cons,nodup_cons] at hn;let⟨j,a⟩:=List.getElem?_of_mem (hm (u,c) (.head _));have b:=D6 nd x m hn.2 λp d=>hm p (.tail _ d)
  show c*(bZ (us.zipIdx.map λp=>(p.1,x p.2)) u).getD 0+dh (jI _ m)=_;rw[b,D5 nd a,show (us.map λv=>(bZ ((u,c)::m) v).getD 0)=us.map λv=>c*(bZ [(u,(1:Rat))] v).getD 0+(bZ m v).getD 0 from map_congr_left λv _=>NC u v c m hn.1,wM,Dt x nd a];rfl
theorem RI(us:ah):↥us=us.zipIdx.map λp=>Tr.str p.1:=by
 have:us=us.zipIdx.map (·.1):=by rw[List.zipIdx_map_fst]
 conv=>lhs;rw[this]
 rw[map_map];rfl
theorem sE{r:Rat}(h:r.num.natAbs<=25)(d:r.den ∣ 6):bs r<=5:=by
 have b:bi r.num<=5:=iL ⋯;have e:=le_of_dvd ∎ d;have a:bi (r.den:Int)<=5:=iL (by rw[natAbs_natCast];omega);unfold bs;unfold bi at b a;rw[natAbs_natCast] at a;exact Nat.max_le.mpr ⟨b,a⟩
theorem DH{rs:aw}{ks:az}(h:Val rs ks){k:Int}(m:k∈ks):bS rs k∈rs:=by
 unfold bS;rw[getD_eq_getElem?_getD,getElem?_eq_getElem (h k m).2];exact getElem_mem _
def GR:bK:=cX 4 λa Q=>∃(f g h:Fl)(rs:aw)(us:ah)(ks:az)(X:List (Str×Rat))(z:Nat)(_:Fp f)(_:Fp g)(_:Fp h),a=[.ag f ↥rs,.ag g ↥us,.ag h ↥ks,dG .f X]/\us.Nodup/\us.length<=3/\(∀o∈rs,R6 us o)/\Val rs ks/\ks.length<=16/\1<=z/\z<=300/\rb z rs us ks X/\Q (.bl true)
theorem BC(T:Tx w K mg):aK P w K mg base bJ 5 T.oV.a T.oV.d ["_law_rows","_law_some","_law_rest","_law_placing"] (bP K true 0 4 GR):=by
 refine cu T.oV.F IK rfl ∎ λa7 A outer s H E L M J=>?_
 refine⟨_,(aQ (cQ (QW.t (i3 (iM (gD (k8 K T.kQ (au (qv 3) (au (k9 T.FQ) aD))))) (jL (b7 gE gx (iN (iI rfl) iy T.fv (au (qv 3) aD)) (qv 1))))) (a6 (bV gS)) cP)
  (aQ (cQ (iM (gD (d7 (Cm rfl) DD T.y4 (au (Qc ["_law_number"] [none] (qv 3) (dk 0) (λ_ _ _ _ _=>(kz (qc T.oU (BD T) (au (qv 0) aD)) (i4 (fQ xJ xt (ba (qv 0) aI) aI))))) aD)))) (a6 (bV gS)) cP)
  (a6 (bV (d7 (Cm rfl) DD T.y4 (au (gc ["_law_k","_law_placing","_law_rows"] [none,some 3,some 0] (eC (qv 2)) (dk 0) (λ_ _ _ _ _=>(qc T.rA (Jn T) (au (ba (qv 2) (qv 0)) (au (qv 1) aD))))) aD)))))),?_⟩
 rintro N I _ ⟨_,f,g,h,rs,us,ks,X,z,_,_,_,rfl,e,D,y,u,C,O,Q,⟨x,rfl,r,B⟩,q⟩;rfl';refine⟨true,rfl,?_⟩;rfl';have v:(((us.zipIdx.map λp=>(p.1,x p.2)).map λp=>((Sum.inr p.1:aS),af.t p.2)).map λp=>iZ p.1)=↥us:=by
  rw[map_map,map_map];show us.zipIdx.map (λp=>Tr.str p.1)=_;rw[<- RI]
 show jU true (.ag .o ((((us.zipIdx.map λp=>(p.1,x p.2)).map λp=>((Sum.inr p.1:aS),af.t p.2)).map λp=>iZ p.1))) _ _;rw[v];refine .inr ⟨true,tX (D4 us),?_,?_,?_⟩
 .rw[dep,Du];decide
 .rw[dep];omega
 rfl';rw[map_map,map_map];refine aZ.map us.zipIdx _ (λ_=>true) (by rw[length_zipIdx];omega) (λp b R i=>?_) ?_
 .have hp:=List.mem_zipIdx_iff_getElem?.mp b;have m:=(List.getElem?_eq_some_iff.mp hp).1;have G:=Rat.num_nonneg.mpr (r.1 p.2 m);show oD 0 (af.t (x p.2)) _ _;rfl';refine⟨rfl,x p.2,rfl,λ_=>?_⟩;rfl';rw[show decide (0<=(x p.2).num)=true from decide_eq_true G];exact i
 refine⟨us.zipIdx.map λ_=>true,rfl,?_⟩;rw[if_pos rfl,show (us.zipIdx.map λ_=>true).all id=true by rw[List.all_map];exact List.all_eq_true.mpr λ_ _=>rfl];rfl';refine aZ.map ks _ (λ_=>true) ⋯ (λk mk R i=>?_) ?_
 .rfl';refine d8 _ _ _ (qq u mk) ?_;rfl';have mo:=y _ (DH u mk);refine⟨rfl,bS rs k,_,z+6,rfl,by have:=mo.l;omega,λp b=>?_,?_,⋯,?_,mo.k,λ_=>i⟩
  .obtain⟨j,ej⟩:=List.getElem?_of_mem (mo.p p b).1;have:=sE (le_trans (mo.p p b).2.1 ∎) (mo.p p b).2.2;have:=B j (List.getElem?_eq_some_iff.mp ej).1;exact⟨x j,D5 e ej,⋯⟩
  .have:bs (-1)=1:=by walk_at "k"
   have:=sE mo.n.1 mo.n.2;omega
  .rw[D6 e x _ mo.d λp b=>(mo.p p b).1];exact r.2 k mk
 refine⟨ks.map λ_=>true,rfl,?_⟩;rw[if_pos rfl,show (ks.map λ_=>true).all id=true by rw[List.all_map];exact List.all_eq_true.mpr λ_ _=>rfl];exact⟨rfl,q _⟩
theorem K8{l ks:az}(h:l.Sublist ks):ks.Nodup->(ks.filter λk=>decide (k∈l))=l:=by
 induction h with
 |slnil=>intro _;rfl
 |@cons l ks a h b=>
  intro nd;rw[nodup_cons] at nd;rw[List.filter_cons,if_neg (by simpa using λm=>nd.1 (h.subset m)),b nd.2]
 |@cons_cons l ks a h b=>
  intro nd;rw[nodup_cons] at nd;rw[List.filter_cons,if_pos (by simp)];congr 1;rw[<- b nd.2];refine List.filter_congr λx d=>decide_eq_decide.mpr ?_
  rw[b nd.2,mem_cons];exact⟨λz=>z.resolve_left λe=>nd.1 (e ▸ d),.inr⟩
theorem sP:∀ns:az,df ↥ns ↥ns=some true
 |[]=>rfl
 |n::ns=>by
  rw[map_cons];exact D3 (by show some (decide (n=n))=some true;rw[decide_eq_true rfl]) (sP ns)
theorem p6:∀ns:az,fJ ↥ns=0
 |[]=>rfl
 |n::ns=>by show max 0 (fJ ↥ns)=0;rw[p6 ns];rfl
def lX(u:Str)(o:bY):Bool:=(bZ o.1 u).isSome
theorem wO(rs:aw)(f:bY->Rat)(c:bY->Bool):∀d:List (Int×Rat),(∀p∈d,c (bS rs p.1)=false->f (bS rs p.1)=0)->dh ((d.filter λp=>c (bS rs p.1)).map λp=>(p.2,f (bS rs p.1)))=el rs f d
 |[],_=>rfl
 |p::d,h=>by
  have a:=wO rs f c d λp m=>h p (.tail _ m)
  rw[el,List.filter_cons];by_cases e:c (bS rs p.1)=true
  .rw[if_pos e,map_cons,dh,a]
  .rw[if_neg e,a,h p (.head _) (by simpa using e)]
   grind
def GS:bK:=cX 5 λa Q=>∃(f g h:Fl)(rs:aw)(us:ah)(ks:az)(d:List (Int×Rat))(z:Nat)(_:Fp f)(_:Fp g)(_:Fp h),a=[.ag f ↥rs,.ag g ↥us,.ag h ↥ks,.ag .f ((d.map (·.1)).map af.t),.ag .f ((d.map (·.2)).map af.t)]/\us.Nodup/\us.length<=3/\(∀o∈rs,R6 us o)/\Val rs ks/\ks.Nodup/\ks.length<=6/\z<=110/\j9 z rs us ks d/\d.length<ks.length/\Q (.bl true)
theorem Jo(T:Tx w K mg):aK P w K mg base bJ 5 T.rC.a T.rC.d ["_law_rows","_law_some","_law_numbers","_law_told","_law_weights"] (bP K true 0 5 GS):=by
 refine cu T.rC.F IY rfl ∎ λa7 A outer s H E hr hu B=>?_
 refine⟨_,(aQ (cQ (QW.t (i3 (iM (gD (k8 K T.kQ (au (qv 3) (au (k9 T.fv) aD))))) (i3 (iM (gD (k8 K T.kQ (au (qv 4) (au (k9 T.fv) aD))))) (i3 (b7 gE gx (d7 e5 e7 T.e9 (au (qv 3) aD)) (d7 e5 e7 T.e9 (au (qv 4) aD))) (jL (b7 ff e8 (qv 3) (gh aD))))))) (a6 (bV gS)) cP)
  (aQ (cQ (QW.t (i3 (b7 gE gx (qv 3) (gc ["_law_k","_law_told"] [none,some 3] (eC (qv 2)) (dk 0) (λ_ _ _ _ _=>(qv 0)) (ht:=λ_ _ _ _ _=>(mB (b7 yE xw (qv 0) (qv 1)))))) (jL (b7 ff e8 (d7 e5 e7 T.e9 (au (qv 3) aD)) (d7 e5 e7 T.e9 (au (qv 2) aD)))))) (a6 (bV gS)) cP)
  (aQ (nW 5 ["_law_k","_law_rows"] [none,some 0] (eC (qv 3)) (dk 0) (λ_ _ _ _ _=>(ba (qv 1) (qv 0))))
  (aQ (fR (kB T.kd (au (qv 5) (au (qv 4) aD))) (i8 (n:=2) rfl (ew (dq 6) (ew (dq 7) iU))) (a6 (cQ (QW.t (i3 (iM (gD (qc T.oU (BD T) (au (qv 7) aD)))) (jL (iM (gD (qc T.rB (Jm T) (au (qv 6) (au (qv 7) aD)))))))) (a6 (bV gS)) cP)))
  (aQ (fR (eC (qv 1)) (dq 8) (a6 (cQ (b7 lB lj (ba (qc T.nA (vY T) (au (gc ["_law_one","_law_weight","_law_name"] [none,none,some 8] (kB T.kd (au (qv 5) (au (qv 4) aD))) (oy (n:=2) rfl (iT (dk 0) (iT (dk 1) nV))) (λ_ _ _ _ _=>(i5 (au (qv 1) (au (ba (ba (qv 0) aI) (qv 2)) aD)))) (ht:=λ_ _ _ _ _=>(mB (b7 yE xw (qv 2) (ba (qv 0) aI))))) aD)) aI) aI) (a6 (bV gS)) cP)))
  (a6 (bV (fQ ff e8 (qc T.nA (vY T) (au (gc ["_law_one","_law_weight"] [none,none] (kB T.kd (au (qv 5) (au (qv 4) aD))) (oy (n:=2) rfl (iT (dk 0) (iT (dk 1) nV))) (λ_ _ _ _ _=>(i5 (au (qv 1) (au (ba (qv 0) aI) aD))))) aD)) (i5 (au aI (au aI aD))))))))))),?_⟩
 rintro xs Q' _ ⟨_,f,g,h,rs,us,ks,d,z,_,_,_,rfl,γ,β,Y,hv,nd,α,L,C,hd,q⟩;have J:Val rs (d.map (·.1)):=λk m=>hv k (C.l.subset m)
 refine fV (λj=>j=[.ag f ↥rs,.ag g ↥us,.ag h ↥ks,.ag .f ((d.map (·.1)).map af.t),.ag .f ((d.map (·.2)).map af.t),.aq,.aq,.aq,.aq]) (λN B=>?_) ?_
 .rfl';refine⟨true,rfl,?_⟩;rfl';refine⟨true,rfl,?_⟩;rfl';refine .inr ⟨false,?_,by rw[dep,p6];decide,by rw[dep];omega,B _ rfl⟩;rw[ef,if_neg];rw[length_map,length_map];exact λe=>C.ne (List.length_eq_zero_iff.mp e)
 rintro _ rfl;refine fV (λj=>j=[.ag f ↥rs,.ag g ↥us,.ag h ↥ks,.ag .f ((d.map (·.1)).map af.t),.ag .f ((d.map (·.2)).map af.t),.aq,.aq,.aq,.aq]) (λN B=>?_) ?_
 .rfl';refine aZ.filter ks af.t (λk=>decide (k∈d.map (·.1))) id ⋯ (λk mk A R D G=>?_) ?_
  .rfl';refine DU ?_;show if decide (k∈d.map (·.1))=true then R (.int k) else A
   split
   .next e=>exact D e
   .next e=>exact G (by simpa using e)
  rw[map_id,K8 C.l nd];refine .inr ⟨true,tX (sP _),by rw[dep,p6];decide,by rw[dep];omega,?_⟩;rfl';rw[if_neg (by simpa using (show ¬ ((d.length:Nat):Int)=(ks.length:Nat) by omega))];exact B _ rfl
 rintro _ rfl;refine fV (λj=>j=[.ag f ↥rs,.ag g ↥us,.ag h ↥ks,.ag .f ((d.map (·.1)).map af.t),.ag .f ((d.map (·.2)).map af.t),.ag .f ((d.map λp=>bS rs p.1).map af.t),.aq,.aq,.aq]) (λN B=>?_) ?_
 .rfl';refine aZ.map (d.map (·.1)) af.t (λk=>bS rs k) (by rw[length_map];omega) (λk mk R M=>?_) ?_
  .rfl';exact d8 _ _ _ (qq J mk) M
  rw[eM];refine⟨jo _,B _ ?_⟩;rw[show (d.map λp=>bS rs p.1)=(d.map (·.1)).map λk=>bS rs k by rw[map_map];rfl];rfl
 rintro _ rfl;have I:d.length<=6:=⋯
 have L:(((d.map λp=>bS rs p.1).zip (d.map (·.2))).map λp=>Tr.aP [af.t p.1,af.t p.2])=d.map λp=>Tr.aP [af.t (bS rs p.1),af.t p.2]:=by rw[List.zip_map',map_map];rfl
 have v:∀p∈d,R6 us (bS rs p.1):=λp m=>Y _ (DH J (mem_map_of_mem m))
 refine fV (λj=>∃a b:Tr,j=[.ag f ↥rs,.ag g ↥us,.ag h ↥ks,.ag .f ((d.map (·.1)).map af.t),.ag .f ((d.map (·.2)).map af.t),.ag .f ((d.map λp=>bS rs p.1).map af.t),a,b,.aq]) (λN B=>?_) ?_
 .rfl';rw[L];refine Loop.map d _ (λ_ j=>∃a b:Tr,j=[.ag f ↥rs,.ag g ↥us,.ag h ↥ks,.ag .f ((d.map (·.1)).map af.t),.ag .f ((d.map (·.2)).map af.t),.ag .f ((d.map λp=>bS rs p.1).map af.t),a,b,.aq]) ⟨_,_,rfl⟩ ?_ λj h=>B j h
  rintro i p j O ⟨a,b,rfl⟩;have o:=mem_of_getElem? O;rfl';refine⟨rfl,p.2,rfl,λ_=>⟨rfl,bS rs p.1,p.2,rfl,(v p o).k,(C.c.s p o).1,(C.c.s p o).2,λ_=>⟨_,_,rfl⟩⟩⟩
 rintro _ ⟨a,b,rfl⟩;refine fV (λj=>∃a b c:Tr,j=[.ag f ↥rs,.ag g ↥us,.ag h ↥ks,.ag .f ((d.map (·.1)).map af.t),.ag .f ((d.map (·.2)).map af.t),.ag .f ((d.map λp=>bS rs p.1).map af.t),a,b,c]) (λN B=>?_) ?_
 .rfl';refine Loop.map us _ (λ_ j=>∃a b c:Tr,j=[.ag f ↥rs,.ag g ↥us,.ag h ↥ks,.ag .f ((d.map (·.1)).map af.t),.ag .f ((d.map (·.2)).map af.t),.ag .f ((d.map λp=>bS rs p.1).map af.t),a,b,c]) ⟨_,_,_,rfl⟩ ?_ λj h=>B j h
  rintro i u j O ⟨a,b,c,rfl⟩;rfl';rw[L];refine aZ.filter d _ (λp=>lX u (bS rs p.1)) (λp=>(p.2,(bZ (bS rs p.1).1 u).getD 0)) ⋯ (λp o A R D G=>?_) ?_
  .rfl';unfold lX at D G;cases e:bZ (bS rs p.1).1 u with
   |none=>rw[e] at G;exact G rfl
   |some x=>rw[e] at D;exact D rfl
  .rw[eM];rfl';refine⟨rfl,.f,_,437,inferInstance,rfl,λx Q=>?_,?_,λ_=>?_⟩
   .obtain⟨p,o,rfl⟩:=mem_map.mp Q;have o:=(mem_filter.mp o).1;have D:=C.b p o;have G:bs ((bZ (bS rs p.1).1 u).getD 0)<=5:=by
     rcases fL (m:=(bS rs p.1).1) (u:=u) with e |⟨y,U,e⟩
     .rw[e,nU];decide
     .rw[e];exact sE (le_trans ((v p o).p y U).2.1 ∎) ((v p o).p y U).2.2
    dsimp only;omega
   .rw[length_map];have:=Nat.mul_le_mul_right 438 (le_trans (length_filter_le (λp=>lX u (bS rs p.1)) d) I);omega
   .have hc:=C.c.c u (mem_of_getElem? O);rw[<- wO rs _ (lX u) d λp o e=>by unfold lX at e;rw[Option.isSome_eq_false_iff,Option.isNone_iff_eq_none] at e;rw[e];rfl] at hc;dsimp only;rfl';have hn:¬ 0<(dh ((d.filter λp=>lX u (bS rs p.1)).map λp=>(p.2,(bZ (bS rs p.1).1 u).getD 0))).num:=by
     have:=Rat.num_nonneg.mpr (show 0<=- dh ((d.filter λp=>lX u (bS rs p.1)).map λp=>(p.2,(bZ (bS rs p.1).1 u).getD 0)) by grind);rw[Rat.neg_num] at this;omega
    rw[if_neg (by simpa using hn)];exact⟨_,_,_,rfl⟩
 rintro _ ⟨a,b,c,rfl⟩;rfl';rw[L];refine aZ.map d _ (λp=>(p.2,(bS rs p.1).2.2.1)) ⋯ (λp o R M=>?_) ?_
 .rfl';exact M
 .rw[eM];rfl';refine⟨rfl,.f,_,437,inferInstance,rfl,λx Q=>?_,?_,λ_=>?_⟩
  .obtain⟨p,o,rfl⟩:=mem_map.mp Q;have D:=C.b p o;have G:=sE (v p o).n.1 (v p o).n.2;dsimp only;omega
  .rw[length_map];have:=Nat.mul_le_mul_right 438 I;omega
  .have hc:=C.c.r;rw[<- wO rs _ (λ_=>true) d λp o e=>(by cases e),List.filter_eq_self.mpr λ_ _=>rfl] at hc;rw[hc];refine tF ?_;rw[if_neg ∎,decide_eq_true rfl];exact⟨rfl,q _⟩
structure Dc where
 m:List (Str×Rat)
instance:af Dc:=⟨λd=>dG .f d.m,λd=>Dv d.m,λ_ z=>by cases z⟩
theorem EO(a:List (List (Str×Rat))):a.map (dG .f)=(a.map Dc.mk).map af.t:=by rw[map_map];rfl
structure kM(rs:aw)(us:ah)(ks:az):Prop where
 n:us.Nodup
 u:us.length<=3
 o:∀o∈rs,R6 us o
 r:rs.length<=6
 v:Val rs ks
 d:ks.Nodup
 l:ks.length<=6
 m:gM rs ks
theorem kM.z{rs:aw}{us:ah}{ks:az}(h:kM rs us ks):Bz 6 100 rs us:=UK (e:=8) (s:=3) (v:=1) (λo m=>OW (h.o o m)) ∎ (by have:=h.u;omega) ∎ ∎ ∎
theorem kM.sub{rs:aw}{us:ah}{ks js:az}(h:kM rs us ks)(s:js.Sublist ks):kM rs us js:=⟨h.n,h.u,h.o,h.r,λk m=>h.v k (s.subset m),s.nodup h.d,le_trans s.length_le h.l,λk m=>h.m k (s.subset m)⟩
def GU:bK:=cX 3 λa Q=>∃(f g h:Fl)(rs:aw)(us:ah)(ks:az)(_:Fp f)(_:Fp g)(_:Fp h),a=[.ag f ↥rs,.ag g ↥us,.ag h ↥ks]/\kM rs us ks/\(∀k∈ks,Fz rs us (fX ks k))/\Q (.bl true)
theorem K9(T:Tx w K mg):aK P w K mg base bJ 11 T.rD.a T.rD.d ["_law_rows","_law_some","_law_told"] (bP K true 0 3 GU):=by
 refine cu T.rD.F K6 rfl ∎ λa7 A outer s H E hr hu hN=>?_
 refine⟨_,(aQ (bM 3 (uu T.oP (CB T) (au (iN (iI rfl) iy T.fv (au (qv 0) aD)) (au (iN (iI rfl) iy T.fv (au (qv 1) aD)) (au (iN (iI rfl) iy T.fv (au (qv 2) aD)) aD)))))
  (aQ (cQ (QW.t (i3 (iM (gD (k8 K T.kQ (au (qv 3) (au (k9 T.fv) aD))))) (jL (b7 gE gx (d7 e5 e7 T.e9 (au (qv 3) aD)) (d7 e5 e7 T.e9 (au (qv 2) aD)))))) (a6 (bV gS)) cP)
  (aQ (fR (kB T.kd (au (qv 3) (au (qv 2) aD))) (i8 (n:=2) rfl (ew (dq 4) (ew (dq 5) iU))) (a6 (cQ (iM (gD (qc T.oV (BC T) (au (qv 0) (au (qv 1) (au (gc ["_law_k","_law_number"] [none,some 5] (eC (qv 2)) (dk 0) (λ_ _ _ _ _=>(qv 0)) (ht:=λ_ _ _ _ _=>(mB (b7 gE gx (qv 0) (qv 1))))) (au (qv 4) aD))))))) (a6 (bV gS)) cP)))
  (a6 (bV gS))))),?_⟩
 rintro xs Q' _ ⟨_,f,g,h,rs,us,ks,_,_,_,rfl,y,O,q⟩;have Q:=y.l;have α:=y.u;rfl';refine⟨rfl,.f,.f,.f,rs,us,ks,6,100,inferInstance,inferInstance,inferInstance,rfl,y.z,⋯,y.n,by have:=y.r;omega,y.l,y.v,y.d,y.m,λk mk d hd=>absurd (O k mk) (hd.s.c.no hd.s.k),λD U N _=>?_⟩;rw[EO];refine⟨jo _,?_⟩;rw[eM];rfl';refine⟨true,rfl,?_⟩;rfl';simp only[ia];rfl';rw[if_neg (by simp[U])];refine Loop.map ((D.map Dc.mk).zip ks) _ (λ_ j=>∃a b:Tr,j=[.ag f ↥rs,.ag g ↥us,.ag h ↥ks,.ag .f ((D.map Dc.mk).map af.t),a,b]) ⟨_,_,rfl⟩ ?_ ?_
 .rintro i ⟨⟨X⟩,k⟩ j hi ⟨a,b,rfl⟩;let⟨B,I⟩:=List.getElem?_zip_eq_some.mp hi;have J:D[i]?=some X:=by
   rw[getElem?_map] at B;cases e:D[i]? with
   |none=>rw[e] at B;cases B
   |some Y=>rw[e] at B;cases B;rfl
  have C:(fX ks k).Sublist ks:=filter_sublist;have G:=y.sub C;rfl';refine aZ.filter ks af.t (λx=>!decide (x=k)) id ⋯ (λx mx A R L M=>?_) ?_
  .rfl';split
   .next z=>exact L z
   .next z=>exact M (by simpa using z)
  rw[map_id,eM];rfl';refine⟨rfl,f,g,.f,rs,us,fX ks k,X,100,‹_›,‹_›,inferInstance,rfl,y.n,y.u,y.o,G.v,by have:=G.l;omega,∎,∎,N i k X I J,λ_=>⟨_,_,rfl⟩⟩
 .rintro j ⟨a,b,rfl⟩;rfl';exact q _
theorem aZ.rows{us:ah}(ys:List j)(g:j->Tr){pg:eu}{pe:a8}{b:ai}{Q:ay}(r:ys.length<=1000)(step:∀y∈ys,∀R:ay,(∀o,R6 us o->R (af.t o))->pg (g y) b λf=>pe f R)(q:∀rs:aw,rs.length=ys.length->(∀o∈rs,R6 us o)->Q (.ag .o ↥rs)):aZ (ys.map g) pg pJ pe b Q:=by
 refine⟨λi a=>∃rs:aw,a=↥rs/\rs.length=i/\∀o∈rs,R6 us o,⟨[],rfl,rfl,λ_ m=>(nomatch m)⟩,λi t a e h=>?_,λa h=>?_⟩
 .obtain⟨rs,rfl,e1,e2⟩:=h;rw[getElem?_map] at e;cases e':ys[i]? with
  |none=>rw[e'] at e;cases e
  |some y=>
   rw[e'] at e;cases e;have l:=(List.getElem?_eq_some_iff.mp e').1;refine step y (mem_of_getElem? e') _ λo d=>⟨by rw[length_map];omega,rs++[o],by rw[map_append];rfl,by rw[length_append,e1];rfl,λx n=>?_⟩
   rcases mem_append.mp n with z |z
   .exact e2 x z
   .rw[mem_singleton.mp z];exact d
 .obtain⟨rs,rfl,e1,e2⟩:=h;rw[length_map] at e1 ⊢;exact⟨⋯,q rs e1 e2⟩
def u3(K:aj):Sp:=λvs H Q _=>∃(a:ae)(ns:az),vs=[.ref a]/\bG K H a (ns.map V.int)/\ns.length<=63/\∀b,Q (.bl true) b
def Ai:bK:=cX 1 λa Q=>∃ns:az,a=[.ag (.l false) ↥ns]/\ns.length<=63/\Q (.bl true)
theorem eB{K:aj}{F:Hp}{B:Bool->Hp}:∀ns:az,Rs K F B ↥ns (ns.map V.int) []
 |[]=>⟨rfl,rfl⟩
 |n::ns=>⟨_,_,[],[],rfl,rfl,⟨rfl,rfl⟩,eB ns⟩
theorem Tf{K:aj}(vs:ax)(H:Hp)(Q:VK)(E:XK)(h:u3 K vs H Q E):bP K true 0 1 Ai vs H Q E:=by
 let⟨a,ns,rfl,b,d,k⟩:=h;refine⟨rfl,λ_=>none,H,[.ag (.l false) ↥ns],λ_=>[],λt _=>t=.bl true,λ_=>False,⟨?_,(λ_ _ _ _ z=>by cases z),rfl,?_,(λ_=>.nil),(λ_ _ m=>nomatch m),(λ_ _ _ _ m=>nomatch m),(λi h=>absurd h (Nat.not_lt_zero i)),λ_ _ _ _ z=>z.elim⟩,⟨rfl,ns,rfl,d,λ_=>rfl⟩,?_⟩
 .exact Gr.aJ (λ_ _ z=>by cases z)
 .intro i t e;cases i with
  |zero=>cases e;exact .inr ⟨.ref a,rfl,rfl,a,_,rfl,b,eB ns⟩
  |succ i=>cases e
 .intro F' H' j' g' cs' v t c _ r _ _ _ _ e;subst e;rw[r.1];exact k _
def pI(rs:aw):az:=(rs.zipIdx.filter λp=>decide (p.1.2.2.2.1=0)).map λp=>(p.2:Int)
theorem RJ{rs:aw}{us:ah}(n:us.Nodup)(u:us.length<=3)(o:∀o∈rs,R6 us o)(l:rs.length<=6):kM rs us (pI rs):=by
 have d:∀k∈pI rs,0<=k/\k.toNat<rs.length/\bS rs k∈rs/\(bS rs k).2.2.2.1=0:=λk m=>by
  ∎;let⟨p,q,rfl⟩:=mem_map.mp m;let⟨i,j⟩:=mem_filter.mp q;∎;have e:=List.mem_zipIdx_iff_getElem?.mp i;have g:=(List.getElem?_eq_some_iff.mp e).1;have f:bS rs (p.2:Int)=p.1:=by
   unfold bS;rw[Int.toNat_natCast,getD_eq_getElem?_getD,e];rfl
  refine⟨Int.natCast_nonneg _,by rw[Int.toNat_natCast];exact g,?_,?_⟩
  .rw[f];exact mem_of_getElem? e
  .rw[f];exact of_decide_eq_true j
 refine⟨n,u,o,l,λk m=>⟨(d k m).1,(d k m).2.1⟩,?_,?_,λk m=>⟨(d k m).2.2.2,by rw[(o _ (d k m).2.2.1).w];decide⟩⟩
 .unfold pI;have s:((rs.zipIdx.filter λp=>decide (p.1.2.2.2.1=0)).map (·.2)).Sublist (rs.zipIdx.map (·.2)):=filter_sublist.map _;rw[List.zipIdx_map_snd] at s;have nd:=s.nodup (List.nodup_range' (step:=1));rw[show (λp:bY×Nat=>(p.2:Int))=(λn:Nat=>(n:Int)) ∘ λp:bY×Nat=>p.2 from rfl,<- map_map];exact List.Pairwise.map _ (λa b h e=>h (Int.ofNat.inj e)) nd
 .unfold pI;rw[length_map];exact le_trans (length_filter_le _ _) (by rw[length_zipIdx];exact l)
theorem RK(T:Tx w K mg):aK P w K mg base bJ 60 T.kP.a T.kP.d ["_law_script"] (bP K true 0 1 Ai):=by
 refine cu T.kP.F u1 rfl ∎ λa7 A outer s H E hr hu r=>?_
 refine⟨_,(aQ (bM 1 (qc T.rq (Iv T) (au (qv 0) (au aI aD))))
  (aQ (bM 2 (qG (gh (au gB (au gB (au gB aD)))) ui (ow (fq aI (gC (qv 1) aI)))))
  (aQ (nW 3 ["_law_cell","_law_some","_law_first"] [none,some 2,some 1] (eC (qG (qv 0) (ow aI) (ow aI))) (dk 0) (λ_ _ _ _ _=>(qc T.rr (K7 T) (au (qv 0) (au (qv 1) (au (ba (gh (au aI (au aI aD))) (gC (jm (qv 2) aI) aI)) aD))))))
  (aQ (nW 4 ["_law_k","_law_one"] [none,none] (ox T.nE (au (qv 3) aD)) (oy (n:=2) rfl (iT (dk 0) (iT (dk 1) nV))) (λ_ _ _ _ _=>(qv 0)) (ht:=λ_ _ _ _ _=>(mB (b7 ff e8 (ba (qv 1) aI) aI))))
  (aQ (cQ (b7 ff e8 (gC (jm (qv 1) aI) aI) aI) (a6 (bM 4 (qG (qv 4) (ow aI) ui))) cP)
  (aQ (bM 5 (iN (iI rfl) iy T.fv (au (qv 4) aD)))
  (aQ (bM 6 i2)
  (aQ (bM 7 i2)
  (aQ (bM 8 i2)
  (aQ (Q5 (i:=9) (pe:=λq=>rV q _ _) rfl rfl rfl T.zd u1.nd ∎ rfl rfl (NJ (i:=6) ∎) (λpn xe te h=>tU (i:=6) u1.nd rfl (Or.inl rfl) h) (λpn xe R hx q=>(uu T.oP (CB T) (au (iN (iI rfl) iy T.fv (au (qv 3) aD)) (au (iN (iI rfl) iy T.fv (au (qv 2) aD)) (au (qv 5) aD))))) (λv=>(aQ (bM 7 (Fu K (qv 9)))
  (a6 (bM 8 (Fu K (qv 9)))))))
  (aQ (cQ (b7 gE gx (qv 5) (qv 4)) (a6 (bV gS)) cP)
  (aQ (cQ (b7 w9 v8 (qv 7) i2) (a6 (bV (kz (qc T.rC (Jo T) (au (qv 3) (au (qv 2) (au (qv 4) (au (qv 7) (au (qv 8) aD)))))) (i4 (qc T.rD (K9 T) (au (qv 3) (au (qv 2) (au (qv 7) aD)))))))) cP)
  (aQ (cQ (QW.t (i3 (iM (gD (k8 K T.kQ (au (qv 6) (au (k9 T.fv) aD))))) (jL (b7 gE gx (d7 e5 e7 T.e9 (au (qv 6) aD)) (d7 e5 e7 T.e9 (au (qv 4) aD)))))) (a6 (bV gS)) cP)
  (aQ (fR (kB T.kd (au (qv 6) (au (qv 4) aD))) (i8 (n:=2) rfl (ew (dq 10) (ew (dq 11) iU))) (a6 (cQ (iM (gD (qc T.oV (BC T) (au (qv 3) (au (qv 2) (au (gc ["_law_k","_law_number"] [none,some 11] (eC (qv 4)) (dk 0) (λ_ _ _ _ _=>(qv 0)) (ht:=λ_ _ _ _ _=>(mB (b7 gE gx (qv 0) (qv 1))))) (au (qv 10) aD))))))) (a6 (bV gS)) cP)))
  (a6 (bV gS)))))))))))))))),?_⟩
 rintro xs Q' _ ⟨_,g,rfl,δ,q⟩;refine fV (λj=>∃c:Int,j=[.ag (.l false) ↥g,.int c,.aq,.aq,.aq,.aq,.aq,.aq,.aq,.aq,.aq,.aq]) (λN r=>?_) ?_
 .rfl';exact⟨rfl,_,g,0,inferInstance,rfl,∎,λc j=>⟨rfl,r _ ⟨c,rfl⟩⟩⟩
 rintro _ ⟨c,rfl⟩;refine fV (λj=>∃us:ah,j=[.ag (.l false) ↥g,.int c,.ag .f ↥us,.aq,.aq,.aq,.aq,.aq,.aq,.aq,.aq,.aq]/\us.Nodup/\us.length<=3) (λN r=>?_) ?_
 .rfl';have m0:=emod_nonneg c (show (3:Int)≠0 by decide);have m1:=emod_lt_of_pos c (show (0:Int)<3 by decide);refine⟨∎,?_⟩;rcases (by omega:c % 3=0\/c % 3=1\/c % 3=2) with e |e |e<;>rw[e]
  .exact⟨rfl,r _ ⟨["left b"],rfl,∎,∎⟩⟩
  .exact⟨rfl,r _ ⟨["left b","width b"],rfl,∎,∎⟩⟩
  .exact⟨rfl,r _ ⟨["left b","width b","gap a"],rfl,∎,∎⟩⟩
 rintro _ ⟨us,rfl,nd,M⟩;have β:(iG g (some 1) (some 7)).length<=6:=by
  unfold iG;rw[length_take];unfold HT.dQ;dsimp only;simp only[show ¬ ((7:Int)<0) from by decide,show ¬ ((1:Int)<0) from by decide,if_false];omega
 refine fV (λj=>∃rs:aw,j=[.ag (.l false) ↥g,.int c,.ag .f ↥us,.ag .f ↥rs,.aq,.aq,.aq,.aq,.aq,.aq,.aq,.aq]/\rs.length<=6/\∀o∈rs,R6 us o) (λN r=>?_) ?_
 .rfl';refine aZ.rows (us:=us) _ _ ⋯ (λx mx R hq=>?_) λrs G ok=>?_
  .rfl';refine⟨⟨∎,sJ ∎⟩,∎,wC (ns:=[1,3]) (emod_nonneg _ ∎) (emod_lt_of_pos _ ∎) λb L=>?_⟩;have L:b=1\/b=3:=by
    rcases mem_cons.mp L with rfl |L
    .exact .inl rfl
    .exact .inr (mem_singleton.mp L)
   rfl';exact⟨rfl,.f,_,b,us,inferInstance,rfl,nd,M,L,λo r6 _=>hq o r6⟩
  rw[eM];exact⟨jt _,r _ ⟨rs,rfl,⋯,ok⟩⟩
 rintro _ ⟨rs,rfl,G,h6⟩;have J:=RJ nd M h6 G;refine fV (λj=>j=[.ag (.l false) ↥g,.int c,.ag .f ↥us,.ag .f ↥rs,.ag .f ((pI rs).map af.t),.aq,.aq,.aq,.aq,.aq,.aq,.aq]) (λN r=>?_) ?_
 .rfl';refine aZ.filter rs.zipIdx _ (λp=>decide (p.1.2.2.2.1=0)) (λp=>(p.2:Int)) (by rw[length_zipIdx];omega) (λp mp A R D U=>?_) ?_
  .rfl';split
   .next e=>exact D e
   .next e=>exact U (by simpa using e)
  rw[eM];exact⟨jo _,r _ rfl⟩
 rintro _ rfl;refine fV (λj=>∃ks:az,j=[.ag (.l false) ↥g,.int c,.ag .f ↥us,.ag .f ↥rs,.ag .f ↥ks,.aq,.aq,.aq,.aq,.aq,.aq,.aq]/\kM rs us ks) (λN r=>?_) ?_
 .rfl';refine⟨⟨∎,sJ ∎⟩,∎,?_⟩;split
  .exact r _ ⟨_,rfl,J.sub (by unfold iG;exact (List.take_sublist _ _).trans (List.drop_sublist _ _))⟩
  .exact r _ ⟨_,rfl,J⟩
 rintro _ ⟨ks,rfl,y⟩;have γ:=y.l;refine fV (λj=>j=[.ag (.l false) ↥g,.int c,.ag .f ↥us,.ag .f ↥rs,.ag .f ↥ks,.ag .f ↥ks,.aq,.aq,.aq,.aq,.aq,.aq]) (λN r=>by rfl';exact r _ rfl) ?_;rintro _ rfl;refine fV (λj=>j=[.ag (.l false) ↥g,.int c,.ag .f ↥us,.ag .f ↥rs,.ag .f ↥ks,.ag .f ↥ks,.aE,.aq,.aq,.aq,.aq,.aq]) (λN r=>by rfl';exact r _ rfl) ?_;rintro _ rfl;refine fV (λj=>j=[.ag (.l false) ↥g,.int c,.ag .f ↥us,.ag .f ↥rs,.ag .f ↥ks,.ag .f ↥ks,.aE,.aE,.aq,.aq,.aq,.aq]) (λN r=>by rfl';exact r _ rfl) ?_;rintro _ rfl;refine fV (λj=>j=[.ag (.l false) ↥g,.int c,.ag .f ↥us,.ag .f ↥rs,.ag .f ↥ks,.ag .f ↥ks,.aE,.aE,.aE,.aq,.aq,.aq]) (λN r=>by rfl';exact r _ rfl) ?_;rintro _ rfl;refine fV (λj=>(∃B:List (List (Str×Rat)),j=[.ag (.l false) ↥g,.int c,.ag .f ↥us,.ag .f ↥rs,.ag .f ↥ks,.ag .f ↥ks,.ag .f ((B.map Dc.mk).map af.t),.aE,.aE,.aq,.aq,.aq]/\B.length=ks.length/\∀(i:Nat)(k:Int)(X:List (Str×Rat)),ks[i]?=some k->B[i]?=some X->rb 100 rs us (fX ks k) X)\/∃(k:Int)(d:List (Int×Rat)),j=[.ag (.l false) ↥g,.int c,.ag .f ↥us,.ag .f ↥rs,.ag .f ↥ks,.ag .f ↥ks,.aE,.ag .f ((d.map (·.1)).map af.t),.ag .f ((d.map (·.2)).map af.t),.aq,.aq,.aq]/\k∈ks/\ra 100 rs us (fX ks k) d) (λN r=>?_) ?_
 .rfl';refine⟨rfl,.f,.f,.f,rs,us,ks,6,100,inferInstance,inferInstance,inferInstance,rfl,y.z,⋯,y.n,⋯,y.l,y.v,y.d,y.m,λk mk d hd=>?_,λB G hX _=>?_⟩
  .refine⟨T.FY,T.abo,rfl,_,rfl,FF T.zg T.ze T.jF.t,?_⟩;refine⟨jt _,_,rfl,FF T.zg T.zf T.jF.t,⟨jt _,?_⟩⟩;exact r _ (.inr ⟨k,d,rfl,mk,hd⟩)
  .rw[EO];refine⟨jo _,?_⟩;rw[eM];exact r _ (.inl ⟨B,rfl,G,hX⟩)
 rintro _ (⟨B,rfl,G,hX⟩ |⟨k,d,rfl,mk,hd⟩)
 .rfl';refine .inr ⟨true,tX (sP _),by rw[dep,p6];decide,by rw[dep];omega,?_⟩;rfl';rw[xr];rfl';refine⟨true,rfl,?_⟩;rfl';rw[if_neg (by simp[G])];refine Loop.map ((B.map Dc.mk).zip ks) _ (λ_ j=>∃a b:Tr,j=[.ag (.l false) ↥g,.int c,.ag .f ↥us,.ag .f ↥rs,.ag .f ↥ks,.ag .f ↥ks,.ag .f ((B.map Dc.mk).map af.t),.aE,.aE,.aq,a,b]) ⟨_,_,rfl⟩ ?_ ?_
  .rintro i ⟨⟨X⟩,k⟩ j hi ⟨a,b,rfl⟩;let⟨I,e2⟩:=List.getElem?_zip_eq_some.mp hi;have e3:B[i]?=some X:=by
    rw[getElem?_map] at I;cases e:B[i]? with
    |none=>rw[e] at I;cases I
    |some Y=>rw[e] at I;cases I;rfl
   have hs:=y.sub (js:=fX ks k) filter_sublist;rfl';refine aZ.filter ks af.t (λx=>!decide (x=k)) id ⋯ (λx mx A R D U=>?_) ?_
   .rfl';split
    .next z=>exact D z
    .next z=>exact U (by simpa using z)
   rw[map_id,eM];rfl';refine⟨rfl,.f,.f,.f,rs,us,fX ks k,X,100,inferInstance,inferInstance,inferInstance,rfl,y.n,y.u,y.o,hs.v,by have:=hs.l;omega,∎,∎,hX i k X e2 e3,λ_=>⟨_,_,rfl⟩⟩
  .rintro j ⟨a,b,rfl⟩;rfl';exact q _
 .have hos:(fX ks k).Sublist ks:=filter_sublist;have C:=hd.s.l.trans hos;have α:d.length<ks.length:=by
   have D:=hd.s.l.length_le;rw[length_map] at D;refine lt_of_le_of_lt D ?_;refine Nat.lt_of_le_of_ne hos.length_le λe=>?_
   have e:=hos.eq_of_length e;have O:=mk;rw[<- e] at O;have:=(mem_filter.mp O).2;simp at this
  rfl';refine .inr ⟨true,tX (sP _),by rw[dep,p6];decide,by rw[dep];omega,?_⟩;rfl';rw[show ∀Q:ay,kq true (Tr.ag .f ((d.map (·.1)).map af.t)) .aE Q=Q (.bl true) from λ_=>rfl];rfl';refine⟨rfl,.f,.f,.f,rs,us,ks,d,100,inferInstance,inferInstance,inferInstance,rfl,y.n,y.u,y.o,y.v,y.d,y.l,∎,⟨hd.s.c,C,hd.s.b⟩,α,λ_=>?_⟩;exact⟨rfl,.f,.f,.f,rs,us,d.map (λx=>x.1),inferInstance,inferInstance,inferInstance,rfl,y.sub C,hd.m,λ_=>⟨rfl,q _⟩⟩
theorem Tg(T:Tx w K mg):aK P w K mg base bJ 60 T.kP.a T.kP.d ["_law_script"] (u3 K):=(RK T).imp Tf
end
theorem walk{l:W.OpenLaw}{q:Program}{b:ah}{y:(bc)->aO->Prop}{r:World->aO->Prop}{d:DefRec}{K:Params->aj}(hn:l.most=some 63)(i:d.params.defaults=[])(o:d.name="law")(B:∀(w:World)(h:aO),r w h->(K w.params).In h)(F:∀(w:World)(mg:bc)(h:aO),(K w.params).In h->h.Ns mainGlobals mg->Nonempty (Tx w (K w.params) mg)):
  W.WalkO q b y r l.row.toRowW d [] (λf vs=>PySem.call f vs):=by
 refine L2.kK (n:=63) (k:=60) (x:="_law_script") (CX:=λ_=>bJ) (sp:=λw=>u3 (K w.params)) hn ∎ i ⟨rfl,∎,∎⟩ B ?_ (λ_ _ a ns D _ A=>⟨a,ns,rfl,A,D,λ_=>rfl⟩) λ_ _ _ _ _ z=>z
 intro w mg E h u G g;let⟨T⟩:=F w mg h u G;rw[o] at g;have e:=g.symm.trans T.kP.m;cases e;refine⟨T.kP.d,λs v=>?_,λbase _ _=>Tg T⟩;let⟨oc,od,kV,doc,pm,an,a7,ct,osl,j,H,C⟩:=T.kP.F.ex;rw[j];exact .of_eq rfl
end Sf
structure PySem.W.Fast:Prop where(tw17939900862433558426 tw10932334527361605384 tw10526142597978741287 tw10060975316330803159 tw17094419586340069965 tw5516636652713530609 tw11892630570430029816 tw5793353926724505585 tw9630550620453998802 tw6708923302927319821 tw12710644547935514834 tw16047111124673039679 tw5336261133956696129 tw850132970399326549 tw11058650164098806223 tw3991420734975388362 tw5161050268979324480 tw1200339504122283081 tw11154550469592878769 tw18322100112226536580 tw9391095916682171666 tw6853734346555777928 tw8296603981771044070 tw6021381012045526612 tw5484043674206889293 tw10225159512547169189 tw5268458582829068352 tw2395497932053925523 tw17752755758563748328 tw2772989121657957280 tw1365736610403029184 tw16084899608819952524 tw18004553821030509062 tw2301738578219840934 tw97029685060886789 tw9337531440420425338 tw13664062627037827549 tw8314689017203743000 tw17016505030887899803 tw10703849524948905286 tw17746140622529695239 tw11159656406431150714 tw6397975337742942405 tw9188832878811696880 tw14097916211388821808 tw406055716817334056 tw4388500350695310398 tw16793803257134461397 tw6965089001612111657 tw16668085314977764723 tw2605884252107670594 tw5720868424662887102 tw10641057669540535773 tw3887683100974460103 tw6014291596820191939 tw13498801299829446094 tw12381406240719799810 tw1233691918813005179 tw12704792202470455451 tw17400463432302147580 tw5408044108676356851 tw985321631276156856 tw16796935194840233168 tw14917828784076463443 tw3900280370666251441 tw10094789902779714605 tw1401170218634221624 tw5517867884056821918 tw18442656308726383682 tw1285313165664314620 tw466869151840745537 tw1308004714204412327 tw3410474613105210545 tw4591023436615682589 tw82296842345667886 tw3134988484336710028 tw12119724862632398699 tw14917766264452251291 tw14254924866598670060 tw13138866308977225267 tw1190089030941446030 tw4698594855992707718 tw1396285615854574016 tw18071955017624173135 tw17021042475205256102 tw12053692103128509721 tw13777881517447848317 tw7288760296105236339 tw7741831735259005501 tw5603471213161792452 tw4060301705044382790 tw743326703641028209 tw3601053342824679802 tw7288879821332490065 tw12925338460599026919 tw11618556824766165069 tw9505513946808269724 tw12618985160171159573 tw3795466407432276206 tw16997111264185552691 tw8607002192171444360 tw7844329381867321770 tw12122076090647443871 tw10872085531016550058 tw4016582658963744382 tw5120308742262223261 tw1047602556462332206 tw6112596265528864482 tw11435635260245215323 tw3006242511402159609 tw14746413705243313709 tw7253188488673013036 tw13859667187593675584 tw1267085167837048632 tw9888092528764228540 tw3339929237073185652 tw3538994467409960273 tw7633458466537491487 tw15161957124965753102 tw7932446912951785047 tw15729773893609997372 tw17618946776353043971 tw8610160733622389142 tw16633783572633298518 tw731493575185831613 tw3155953322306583313 tw4698678190957842358 tw4344803860645300667 tw2223020798628482360 tw7951985492014617231 tw17144326183493665076 tw15900552245418502953 tw17703525342876727281 tw11610292087256026700 tw15145114321494394904 tw6536093135640604584 tw4556435250399526726 tw7526672058530360479 tw1293621502876368094 tw7892847867254833594 tw4498015574762651639 tw8191597820463021645 tw8417195636111934204 tw332803860684100675 tw10368945523347413701 tw14025451052442640852 tw12873606993536733536 tw17436594443789475755 tw5882709292154058983 tw10239805930759703659 tw6301741330245819787 tw2981850126306606767 tw9922637726626140858 tw3894888040726443587 tw17834702068634899820 tw10593192015626398392 tw1375663269742316796 tw3627493162333962480 tw9099797223163666500 tw1605159635080006059 tw5198177560285279960 tw17768293268290486257 tw13597451799793766893 tw7056752580230574043 tw6588850992529398516 tw6298728493388191893 tw10956619537447303765 tw654137592035420993 tw3324040768833698519 tw12109989199745217877 tw13652422723199752299 tw4888588368437152193 tw14422465114184493573 tw17917254592590464635 tw7846025656146372803 tw3256791641080926813 tw1815727783310908746 tw3234927929093484668 tw7705030739506104316 tw18156169567229820534 tw14644597067951488244 tw3891803756654614858 tw10141655151347815132 tw17539837893402947320 tw5044849408198916165 tw8137756502359827350 tw11072263553189805445 tw14896185238217408278 tw9722496710312845765 tw4550585047517704466 tw11881642214766134811 tw17974523210296795277 tw14888223525949425439 tw2939894970015389249 tw16399595160528542443 tw10644855008470632093 tw5449798118317757997 tw8302292084067140483 tw1219472292573101758 tw18003239307442477914 tw9938001945488615166 tw14542956393183084171 tw14459006105542455400 tw8949447311049935760 tw4951935536659858992 tw8095999866723080521 tw9616061497159630516 tw7556178600018276383 tw15297520463875940552 tw9306852122102255917 tw11544784025713360347 tw823540436916216079 tw8089220446399500348 tw2333554036698565809 tw16597367254276249524 tw7537782753077917838 tw5262302359103496706 tw9431706436501652210 tw4648908580504826996 tw6855436691242429696 tw3106177741087840754 tw13557208181008219846 tw18019950964706287568 tw7437680052817538888 tw489302002972433375 tw8007045882620903652 tw9445283077559142333 tw3616068485180322616 tw5277951306788459495 tw16034132773736142755 tw2458435584438754626 tw15684749073548021998 tw11588779852087291696 tw11834156612968450755 tw7185454865722418140 tw15806111776945021824 tw15070059606662162805 tw5213296923075491725 tw15044033156503917155 tw5348921719513537678 tw1373531735589710419 tw8104728911539892396 tw2366549901491090959 tw16189139427879775921 tw16563789547298764049 tw15890786166545235045 tw4981695414132799174 tw16477615966831332666 tw9246500292109145061 tw7518124313670110704 tw8685612722858285751 tw9202395595989073597 tw13943977751377310759 tw2144581872757162182 tw18283557063481016645 tw1002946592660597583 tw11565265238358369666 tw6390079326095118867 tw10206785517749733826 tw7657624516824679709 tw4824558109848741711 tw17380077466804411918 tw8282978176690209397 tw5024864109855574059 tw10222243327974305935 tw6701414114663346353 tw12384313045180532100 tw15396450449098677103 tw12198611247062097917 tw17438964102534284584 tw16132160984316187430 tw3126617922001345221 tw9388515957021813596 tw549226574673302074 tw13807175135707548192 tw17003645383997319581 tw5870661023040004651 tw3228035718869082388 tw9987957837389412062 tw4721565539454625516 tw14866345642794670412 tw6799859029992221808 tw16646778082091891609 tw11416188467525165013 tw2613359564106481939 tw17844332511299407253 tw8341795494122716192 tw9160000916361155449 tw12114529994609085460 tw15014814882725702402 tw10876926604191211275 tw14985259172536425957 tw921982080485935979 tw7814623625024821419 tw13823124006029199348 tw1716214344624164804 tw8346546292096988778 tw3297448006258354795 tw8737294817921089073 tw12127356044160523492 tw1321947885355487158 tw3312707728548899094 tw17923420376124595101 tw2469814225065279517 tw5955700453007610021 tw8569527471986061071 tw5490115653364165993 tw11417503461270318430 tw7524549558941649745 tw17083934783780677027 tw15799626717733857957 tw2368683048282138768 tw6520140097901783957 tw10585668193587383811 tw12024508134413853960 tw3672856600691103911 tw8428626891360891858 tw14107889797554211953 tw11957562973278973723 tw9840619783116546111:True)
open PySem PySem.W PyProof.Rows
local macro_rules |`(tactic|walk_at "b")=>`(tactic|first |exact λ_ _ _ _ _ _=>Pu.D7 λ_=>rfl |exact λ_ _ _ _ _ _=>Pu.ln2 λ_ _=>rfl |exact λ_ _ _ _ _ _=>Pu.D8 λ_ _ _=>rfl |exact λ_ _ _ _ _ _=>Pu.D9 λ_ _ _ _=>rfl |exact λ_ _ _ _ _ _=>Pu.KC λ_ _ _ _ _=>rfl)
set_option maxRecDepth 100000 in
set_option maxHeartbeats 0 in
theorem PySem.Challenge.cw_springframe_k43_spared_holds : PySem.Challenge.rw_springframe_k43_spared.Holds := by
 w_on;o_law;k_head;(case hw=>w_witness2)
 k_fill
 refine Sf.walk (l:=PySem.Challenge.rw_springframe_k43_spared) rfl rfl rfl (λw h Y=>PySem.W.kIn_of Y) ?F
 case F=>
  intro w mg h KX G;refine⟨?_⟩;apply Sf.Tx.mk
  all_goals first |exact Pu.HD KX G (by k_is) (L2.kF (by k_is) (by k_is) (by k_is)) (by walk_at "b") |exact Pu.HF (by k_is) (L2.kF (by k_is) (by k_is) (by k_is)) (by k_is) (by walk_at "b") |exact Pu.HE (by k_is) (L2.kF (by k_is) (by k_is) (by k_is)) (by k_is) (by k_is) (by k_is) (by walk_at "b") |exact mg_of KX G (by k_is) |exact mg_none_of KX G (by k_is) |exact Pu.yc (by k_is) |exact L2.fP.mk (by k_is) (by k_is) (by k_is) (by k_is) |exact Pu.wa (by k_is) (L2.kF (by k_is) (by k_is) (by k_is)) (by k_is) (by rfl) (by rfl) (by rfl) (by rfl) (by k_exc) (by k_is) (by rfl) (by rfl) (by k_is) (by k_is) (by rfl) (by rfl) (by k_is) (by k_is) (by k_is) (by k_is) (by k_is) (by k_is) (by walk_at "b") |exact L2.gK.mk (by k_is) (by k_is) (by k_is) (by k_is) (by k_is) |exact⟨_,_,_,by k_is,rfl,rfl,Nat.le_of_ble_eq_true rfl,by repeat first |exact .nil |refine .cons ⟨_,rfl⟩ ?_⟩ |k_is |kit_is |k_exc |kts_exm
#print axioms PySem.Challenge.cw_springframe_k43_spared_holds
