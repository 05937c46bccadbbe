import PyProof.Rows.All
import Wide.All
import OpenK.AllK
import Wide.FinOn
import Lean
import PyProof.EqAt
import PyProof.EqKinds
import PyProof.TupleCall
import PySem.Challenge.RW_springframe_k42_whole_the_same_placing
set_option Elab.async false
set_option linter.all false
set_option maxRecDepth 100000
open List (length_map mem_append mem_map getElem?_map mem_cons map_append length_cons length_append map_cons map_map mem_of_getElem? size_toArray length_range mem_singleton append_nil append_assoc getElem?_eq_getElem getD_eq_getElem?_getD length_set length_replicate nodup_cons lookup_cons length_take getElem?_eq_none getElem?_range take_length getElem?_set_ne mem_append_right take_add_one mem_range map_congr_left ext_getElem? any_cons find?_cons getElem?_set_self of_mem_zip mem_cons_of_mem nodup_append length_zipIdx all_cons mem_filter length_nil getElem?_append_left map_nil getElem?_zipIdx append_eq_nil_iff nodup_nil length_zip length_filter_le map_set mem_filterMap mem_cons_self nil_append getElem?_append_right cons_append any_eq_true)
open Nat (le_refl le_trans ne_of_lt lt_of_lt_of_le zero_le lt_irrefl lt_succ_of_lt lt_of_le_of_lt le_of_dvd succ_mul mul_le_mul pow_add)
open Int (ne_of_gt mul_zero emod_nonneg emod_lt_of_pos le_of_lt mul_pos natAbs_natCast one_dvd dvd_trans natCast_pos zero_mul natAbs_mul mul_nonneg mul_comm one_mul natCast_mul)
open Bool (and_eq_true)
open Option (map_some isSome_map getD_some)
open Array (length_toList getElem?_toList)
local macro_rules|`(tactic|omega)=>`(tactic|first|decide|lia)
abbrev ah:=List PySem.Str
abbrev aL:=List PySem.Value
abbrev aV:=List (PySem.Addr×PySem.Obj)
abbrev aI:=List Int
abbrev bq:=List (List Rat)
abbrev aC:=List Rat
abbrev bG:=List (Option Nat)
abbrev bx:=PySem.Str->Option PySem.Value
abbrev dJ:=Option PySem.Value
abbrev aK:=Nat->Nat->Int
abbrev bK:=Option Int
abbrev bH:=List PySem.Expr
abbrev cA:=List PySem.Addr
abbrev df:=Option PySem.Addr
abbrev dm:=Array PySem.Value
abbrev cB:=List PySem.Env
abbrev ao:=PySem.W.Frag
abbrev ak:=PySem.Shared
abbrev aj:=PySem.Value
abbrev af:=PySem.Addr
abbrev aU:=PySem.Heap
theorem autoR(_:0=0:=by rfl):True:=.intro
theorem autoD(_:0=0:=by decide):True:=.intro
def Ng(G:Prop):Prop:=G->False
theorem dN{G}(h:Ng G->False):G:=Classical.byContradiction h
local macro_rules|`(tactic|∎)=>do
 let z:=Lean.mkIdent `zzz
 `(tactic|first|(refine $z ?_;clear $z)|(refine dN ?_;intro $z:ident))
local macro_rules|`(tactic|let $p:term:=$e)=>do
 let k:=λx a=>Lean.Syntax.node .none (`Lean.Parser.Tactic++x) a
 let m:=λx=>k `rcasesPatMed #[Lean.mkNullNode #[x]]
 let q:=p.raw.rewriteBottomUp λx=>match x with|.ident ..=>k `rcasesPat.one #[x]|.node _ `Lean.Parser.Term.hole a=>k `rcasesPat.ignore a|.node _ `Lean.Parser.Term.anonymousCtor a=>k `rcasesPat.tuple (a.modify 1 λs=>Lean.mkNullNode (s.getArgs.map λy=>if y.isAtom then y else k `rcasesPatLo #[m y,Lean.mkNullNode]))|_=>x
 if p.raw[1].getNumArgs<4 then `(tactic|obtain $(⟨m q⟩):rcasesPatMed:=$e) else
 `(tactic|first|(guard_target =ₛ False;obtain $(⟨m q⟩):rcasesPatMed:=$e)|(∎;obtain $(⟨m q⟩):rcasesPatMed:=$e;∎))
local macro_rules|`(⋯)=>`(by omega)|`(∎)=>`(by decide)|`(⇑$x)=>`(($x).heap.objs.size)|`(↥$x)=>`(($x).map $(Lean.mkIdent `Pu.ae.t))|`(do $x:term)=>`(autoParam $x $(Lean.mkIdent `autoR._auto_1))|`(~~~$x)=>`(autoParam $x $(Lean.mkIdent `autoD._auto_1))
set_option bootstrap.genMatcherCode false
local macro_rules|`(command|def $i:declId $s:optDeclSig $v:declVal)=>`(command|noncomputable def $i:declId $s:optDeclSig $v:declVal)|`(command|abbrev $i:declId $s:optDeclSig $v:declVal)=>`(command|noncomputable abbrev $i:declId $s:optDeclSig $v:declVal)|`(command|instance $s:declSig $v:declVal)=>`(command|noncomputable instance $s:declSig $v:declVal)
namespace L2
open PySem PySem.Spec PyProof.Rows
abbrev dq(x:Str):Prop:=(x == ("__debug__":Str))=false
abbrev du(e:Expr)(es:bH)(n:Env):Prop:=starEach (e::es) n=(false,eval e n)::starEach es n
abbrev ki(e:Expr)(n:Env):Prop:=starEach [e] n=[(false,eval e n)]
abbrev oO(e f:Expr)(n:Env):Prop:=starEach [e,f] n=[(false,eval e n),(false,eval f n)]
abbrev fa(p:Pos)(es:bH)(n:Env):Prop:=(backTo p (starEach es n)).any (·.1)=false
abbrev aS:=Sum Int Str
abbrev aT:=List (aS×bK)
def oS:aS->aj->Bool
 |.inl k,v=>Value.isInt k v
 |.inr x,v=>Value.isStrOf x v
def Ra(w:World):aS->Int
 |.inl k=>hashInt k
 |.inr x=>hashStr w x
theorem jQ:∀{k:aS}{v:aj},oS k v=true->(∃i t,k=Sum.inl i/\v=Value.int i t)\/(∃x t,k=Sum.inr x/\v=Value.str x t)
 |.inl i,v,h=>by
  let⟨t,e⟩:=Value.isInt_shape (k:=i) (v:=v) h;exact .inl ⟨i,t,rfl,e⟩
 |.inr x,v,h=>by
  let⟨t,e⟩:=Value.isStrOf_shape (x:=x) (v:=v) h;exact .inr ⟨x,t,rfl,e⟩
theorem NX(i:Int)(t:Tok):oS (.inl i) (.int i t)=true:=by simp[oS,Value.isInt]
theorem T6(x:Str)(t:Tok):oS (.inr x) (.str x t)=true:=by simp[oS,Value.isStrOf]
theorem Vm(a b:Int):decide ((Sum.inl a:aS)=Sum.inl b)=(a == b):=by
 by_cases e:a=b
 .subst e;simp
 .have h:¬ (Sum.inl a:aS)=Sum.inl b:=λq=>e (Sum.inl.inj q)
  rw[decide_eq_false h];exact (beq_eq_false_iff_ne.mpr e).symm
theorem GR(a b:Str):decide ((Sum.inr a:aS)=Sum.inr b)=decide (a=b):=by
 by_cases e:a=b
 .subst e;simp
 .have h:¬ (Sum.inr a:aS)=Sum.inr b:=λq=>e (Sum.inr.inj q)
  rw[decide_eq_false h,decide_eq_false e]
theorem Py(a:Int)(b:Str):decide ((Sum.inl a:aS)=Sum.inr b)=false:=decide_eq_false (λq=>nomatch q)
theorem T8(a:Str)(b:Int):decide ((Sum.inr a:aS)=Sum.inl b)=false:=decide_eq_false (λq=>nomatch q)
def eB(prog:Program)(w:World):PySem.KeyKind prog w aS where
 is:=oS
 hash:=Ra w
 inj:=λv a b g f=>by
  rcases jQ g with⟨i,t,rfl,rfl⟩ |⟨x,t,rfl,rfl⟩
  .rcases jQ f with⟨j,u,rfl,e⟩ |⟨y,u,rfl,e⟩
   .injection e with e1 _;rw[e1]
   .exact nomatch e
  .rcases jQ f with⟨j,u,rfl,e⟩ |⟨y,u,rfl,e⟩
   .exact nomatch e
   .injection e with e1 _;rw[e1]
 byValue:=λk v h=>by
  rcases jQ h with⟨i,t,rfl,rfl⟩ |⟨x,t,rfl,rfl⟩<;>rfl
 pyHash:=λd h=>by
  rcases jQ d with⟨i,t,rfl,rfl⟩ |⟨x,t,rfl,rfl⟩
  .exact wpAny_pyHash_int h
  .exact wpAny_pyHash_str h
 eqBool:=λl d h=>by
  rcases jQ l with⟨i,t,rfl,rfl⟩ |⟨x,t,rfl,rfl⟩
  .rcases jQ d with⟨j,u,rfl,rfl⟩ |⟨y,u,rfl,rfl⟩
   .rw[Vm] at h;exact wpAny_eqBool_int h
   .rw[Py] at h;exact SeqAt.EqAt.int_str i t y u _ _ _ _ h
  .rcases jQ d with⟨j,u,rfl,rfl⟩ |⟨y,u,rfl,rfl⟩
   .rw[T8] at h;exact SeqAt.EqAt.str_int x t j u _ _ _ _ h
   .rw[GR] at h;exact wpAny_eqBool_str h
 «strs»:=λk x t v h=>by
  rcases jQ h with⟨i,u,rfl,e⟩ |⟨y,u,rfl,e⟩
  .exact nomatch e
  .injection e with e1 _
   subst e1;cases v<;>rfl
theorem K5(prog:Program)(w:World)(i:Int)(t:Tok):(eB prog w).is (.inl i) (.int i t)=true:=NX i t
theorem Hz(prog:Program)(w:World)(x:Str)(t:Tok):(eB prog w).is (.inr x) (.str x t)=true:=T6 x t
inductive V where
 |aM |bl (b:Bool) |int (i:Int) |str (x:Str) |gg (b:Array UInt8) |kL (b:UInt64) |ref (a:Addr) |ty (n:String)
 deriving DecidableEq
abbrev bI:=List (aS×V)
abbrev aw:=List V
def aD:V->aj->Prop
 |.aM,u=>u=Value.none
 |.bl b,u=>u=Value.bool b
 |.int i,u=>∃t,u=Value.int i t
 |.str x,u=>∃t,u=Value.str x t
 |.gg b,u=>∃t,u=Value.bytes b t
 |.kL b,u=>∃t,u=Value.float b t
 |.ref a,u=>u=Value.ref a
 |.ty n,u=>u=Value.type n
abbrev aE:aw->aL->Prop:=Paired aD
theorem aE.length(r:aE xs us):xs.length=us.length:=Paired.length r
theorem aE.get:∀{xs:aw}{us:aL}{i:Nat}{x:V},aE xs us->xs[i]?=some x->∃u,us[i]?=some u/\aD x u
 |_,_,_,_,.nil,e=>by simp at e
 |_,_,0,_,.cons r _,e=>by simp at e;subst e;exact⟨_,rfl,r⟩
 |_,_,i + 1,x,.cons _ t,e=>by
  let⟨u,a,b⟩:=aE.get (i:=i) (x:=x) t (by simpa using e);exact⟨u,by simpa using a,b⟩
theorem aE.set(r:aD x u):∀{xs:aw}{us:aL}(i:Nat),aE xs us->aE (xs.set i x) (us.set i u)
 |_,_,_,.nil=>.nil
 |_,_,0,.cons _ t=>.cons r t
 |_,_,i + 1,.cons q t=>.cons q (aE.set r i t)
theorem aE.append:∀{xs ys:aw}{us a:aL},aE xs us->aE ys a->aE (xs++ys) (us++a)
 |_,_,_,_,.nil,s=>s
 |_,_,_,_,.cons r t,s=>.cons r (aE.append t s)
theorem aE.take:∀{xs:aw}{us:aL}(n:Nat),aE xs us->aE (xs.take n) (us.take n)
 |_,_,0,_=>.nil
 |_,_,_ + 1,.nil=>.nil
 |_,_,n + 1,.cons r t=>.cons r (aE.take n t)
theorem aE.drop:∀{xs:aw}{us:aL}(n:Nat),aE xs us->aE (xs.drop n) (us.drop n)
 |_,_,0,r=>r
 |_,_,_ + 1,.nil=>.nil
 |_,_,n + 1,.cons _ t=>aE.drop n t
def cD:Option V->dJ->Prop
 |some v,some u=>aD v u
 |none,none=>True
 |_,_=>False
def KV{j:Type}:List (j×V)->List (j×aj)->Prop:=Paired λ(p:j×V)(q:j×aj)=>p.1=q.1/\aD p.2 q.2
def kV:aS->V
 |.inl i=>.int i
 |.inr x=>.str x
inductive HO where
 /-- a list -/
 |ag (xs:List V)
 /-- a tuple (never changes) -/
 |aF (xs:List V)
 /-- a dict whose keys are ints and texts;one whose keys are tuples of ints and texts (the empty one is both) -/
 |dK (kvs:List (aS × V)) |dT (kvs:List (List aS × V))
 /-- a set of ints: bo members,bo size -/
 |set (S:Int -> Bool) (n:Nat)
 /-- an instance of the class at C,bo dict at dx,bo attributes -/
 |ins (C dx:Addr) (fs:List (Str × V))
 /-- the dict of the instance at x -/
 |own (x:Addr)
 /-- the dict of an exception -/
 |xd (fs:List (Str × V))
 /-- a bound method,f of x -/
 |met (f x:Addr)
 /-- a range object lo,lo + 1,.. below hi -/
 |jc (lo hi:Int)
 /-- a thing that is known to the object (the script;a dict while a loop walks it): read,never written while it is so -/
 |ay (o:Obj) (u:HO)
 /-- a code object's table -/
 |lK (ps:Array Value)
 /-- any other thing,by what is true of bo one object (a def of one's own: SetO a S n:=HO.ext λh=>..) -/
 |ext (φ:Heap -> Prop)
abbrev Hp:=Addr->Option HO
def aR(H:Hp)(a:af)(o:HO):Hp:=λb=>if b=a then some o else H b
theorem cq:aR H a o a=some o:=by unfold aR;rw[if_pos rfl]
theorem ba{H:Hp}(h:b≠a):aR H a o b=H b:=by unfold aR;rw[if_neg h]
theorem Rz{H:Hp}(h:H a=some o)(h':H b=some u)(d:o≠u):a≠b:=by
 intro e;subst e;rw[h] at h';exact d (Option.some.inj h')
theorem iY{H:Hp}(h:H a=some o)(h':H b=none):a≠b:=by
 intro e;subst e;rw[h] at h';cases h'
section
variable(P:Program)(w:World)
def a6(H:Hp)(h:aU)(a:af):HO->Prop
 |.ag e=>e.length <= sizeLine /\ ∃(b:aL)(n:Nat),aE e b /\ h.get? a=some { cls:=.type "list",data:=.seq b.toArray n }
 |.aF e=>e.length <= sizeLine /\ ∃b:aL,aE e b /\ IsTup h a b.toArray
 |.dK d=>d.length <= sizeLine /\ (a == sysModules)=false /\ ∃vs,KV d vs /\ h.DictOf (eB P w) a vs
 |.dT d=>d.length <= sizeLine /\ (a == sysModules)=false /\ ∃e:List (List aS × Addr × Value),
   Paired (λ(p:List aS×V)(q:List aS×af×aj)=>p.1=q.1/\H q.2.1=some (.aF (p.1.map kV))/\aD p.2 q.2.2) d e/\
   ∃o l s,h.get? a=some o/\o.ExactDict/\o.data=.dict l s/\l.toList=e.map (entryOfKey (tupleKind (eB P w)))/\(e.map (·.1)).Nodup
 |.set S n=>h.SetOf (intKind P w) a S n
 |.ins C i fs=>H i=some (.own a) /\ fs.length <= 1000 /\ i ≠ a /\ h.get? a=some (W.instObj C i) /\
   ∃g,h.Ns1 i g/\(∀f,cD (fs.lookup f) (g f))/\PySem.Within g (fs.map (·.1))
 |.own _=>∃o,h.get? a=some o
 |.xd fs=>∃g,h.Ns1 a g /\ ∀f,cD (fs.lookup f) (g f)
 |.jc lo y=>∃t u v,h.get? a=some { cls:=.type "range",data:=.fields #[.int lo t,.int y u,.int 1 v] }
 |.ay o u=>h.get? a=some o /\ a6 H h a u
 |.lK z=>h.get? a=some { cls:=.none,data:=.fields z }
 |.met f x=>h.get? a=some (W.methodObj (.ref f) (.ref x))
 |.ext j=>j h /\ (∃o,h.get? a=some o) /\ ∀m r:Heap,j m -> (∀o,m.get? a=some o -> r.get? a=some o) -> j r
def dg(H:Hp)(h:aU):Prop:=∀a o,H a=some o->a6 P w H h a o
end
section
variable{P:Program}{w:World}{H H':Hp}{h h':aU}{a:af}{o:HO}
theorem a6.lt(x:a6 P w H h a o):a<h.objs.size:=by
 cases o with
 |ag d=>let⟨_,_,_,_,e⟩:=x;exact Heap.lt_size e
 |aF d=>let⟨_,_,_,p⟩:=x;exact p.lt
 |dK b=>let⟨_,_,_,_,o,_,_,e,_⟩:=x;exact Heap.lt_size e
 |dT b=>let⟨_,_,_,_,o,_,_,e,_⟩:=x;exact Heap.lt_size e
 |set S n=>let⟨o,_,_,_,e,_⟩:=x;exact Heap.lt_size e
 |ins C g fs=>let⟨_,_,_,e,_⟩:=x;exact Heap.lt_size e
 |own y=>let⟨_,e⟩:=x;exact Heap.lt_size e
 |xd fs=>let⟨_,⟨_,_,_,e,_⟩,_⟩:=x;exact Heap.lt_size e
 |jc lo i=>let⟨_,_,_,e⟩:=x;exact Heap.lt_size e
 |ay j u=>let⟨e,_⟩:=x;exact Heap.lt_size e
 |lK l=>exact Heap.lt_size (show h.get? a=some _ from x)
 |met f y=>exact Heap.lt_size (show h.get? a=some _ from x)
 |ext m=>let⟨_,⟨_,e⟩,_⟩:=x;exact Heap.lt_size e
theorem Paired.nr{F G:j->i->Prop}:∀{l₁:List j}{l₂:List i},Paired F l₁ l₂->(∀a b,F a b->G a b)->Paired G l₁ l₂
 |_,_,.nil,_=>.nil
 |_,_,.cons r t,f=>.cons (f _ _ r) (Paired.nr t f)
theorem a6.eL(x:a6 P w H h a o)(k:∀b u,(b=a\/H b=some (.own a))->h.get? b=some u->h'.get? b=some u)(D:∀b,H b=some (.own a)->H' b=some (.own a))(ht:∀b xs,H b=some (.aF xs)->H' b=some (.aF xs)):a6 P w H' h' a o:=by
 induction o with
 |ag xs=>let⟨z,l,n,r,e⟩:=x;exact⟨z,l,n,r,k _ _ (.inl rfl) e⟩
 |aF xs=>let⟨z,l,r,g,e,c⟩:=x;exact⟨z,l,r,g,k _ _ (.inl rfl) e,c⟩
 |dK m=>let⟨z,y,vs,r,g,j,i,e,c⟩:=x;exact⟨z,y,vs,r,g,j,i,k _ _ (.inl rfl) e,c⟩
 |dT m=>
  let⟨z,y,xs,r,g,j,i,e,c⟩:=x;exact⟨z,y,xs,Paired.nr r λp q z=>⟨z.1,ht _ _ z.2.1,z.2.2⟩,g,j,i,k _ _ (.inl rfl) e,c⟩
 |set S n=>let⟨g,j,i,t,e,c⟩:=x;exact⟨g,j,i,t,k _ _ (.inl rfl) e,c⟩
 |ins C G fs=>
  let⟨d,z,ne,e,s,⟨od,j,i,B,c⟩,r⟩:=x;exact⟨D _ d,z,ne,k _ _ (.inl rfl) e,s,⟨od,j,i,k _ _ (.inr d) B,c⟩,r⟩
 |own y=>let⟨g,e⟩:=x;exact⟨g,k _ _ (.inl rfl) e⟩
 |xd fs=>let⟨s,⟨od,j,i,e,c⟩,r⟩:=x;exact⟨s,⟨od,j,i,k _ _ (.inl rfl) e,c⟩,r⟩
 |jc lo I=>let⟨t,u,v,e⟩:=x;exact⟨t,u,v,k _ _ (.inl rfl) e⟩
 |ay g u E=>let⟨e,q⟩:=x;exact⟨k _ _ (.inl rfl) e,E q⟩
 |lK A=>
  have e:h.get? a=some { cls:=.none,data:=.fields A }:=x;show h'.get? a=some { cls:=.none,data:=.fields A };exact k a _ (.inl rfl) e
 |met f y=>
  have e:h.get? a=some (W.methodObj (.ref f) (.ref y)):=x;show h'.get? a=some (W.methodObj (.ref f) (.ref y));exact k a _ (.inl rfl) e
 |ext J=>let⟨p,⟨o,e⟩,st⟩:=x;exact⟨st _ _ p λo q=>k _ _ (.inl rfl) q,⟨o,k _ _ (.inl rfl) e⟩,st⟩
theorem dg.lt(x:dg P w H h)(e:H a=some o):a<h.objs.size:=(x a o e).lt
theorem dg.fresh(x:dg P w H h)(e:h.objs.size<=a):H a=none:=by
 cases q:H a with
 |none=>rfl
 |some u=>exact absurd (lt_of_lt_of_le (x.lt q) e) (lt_irrefl _)
theorem dg.kept(x:dg P w H h)(k:∀b u,h.get? b=some u->h'.get? b=some u):dg P w H h':=λa o e=>
 (x a o e).eL (λb u _ q=>k b u q) (λ_ q=>q) λ_ _ q=>q
theorem dg.laid(x:dg P w H h)(k:∀b u,h.get? b=some u->h'.get? b=some u)(hp:h.objs.size<=a)(d:a6 P w (aR H a o) h' a o):dg P w (aR H a o) h':=λb u e=>by
 have hn:=x.fresh hp;by_cases f:b=a
 .subst f;rw[cq] at e;cases e;exact d
 .rw[ba f] at e;exact (x b u e).eL (λc v _ q=>k c v q) (λc q=>by rw[ba (iY q hn)];exact q) λc g q=>by rw[ba (iY q hn)];exact q
end
def Rd(H:Hp)(a:af)(u:HO):Prop:=H a=some u\/∃o,H a=some (.ay o u)
theorem Rd.of{H:Hp}(h:H a=some u):Rd H a u:=.inl h
theorem Rd.ok(r:Rd H a u)(x:dg P w H h):a6 P w H h a u:=by
 rcases r with r |⟨o,r⟩
 .exact x a u r
 .obtain⟨_,q⟩:=x a _ r;exact q
def oV:Option HO->Prop
 |some (.ag _)=>True
 |some (.dK _)=>True
 |some (.dT _)=>True
 |some (.set _ _)=>True
 |some (.ins _ _ _)=>True
 |some (.ext _)=>True
 |_=>False
section
variable{P:Program}{w:World}{H:Hp}{h h':aU}{x e:af}{o':HO}
theorem dg.write(ok:dg P w H h)(j:oV (H x))(he:e=x\/H e=some (.own x))(k:∀b u,b≠e->h.get? b=some u->h'.get? b=some u)(m:∃u,h'.get? e=some u)(n:a6 P w (aR H x o') h' x o'):dg P w (aR H x o') h':=λb u q=>by
 have d:∀c y,H c=some (.own y)->c≠x:=λc y r z=>by subst z;rw[r] at j;exact j
 have f:∀c l,H c=some (.aF l)->c≠x:=λc l r z=>by subst z;rw[r] at j;exact j
 by_cases g:b=x
 .subst g;rw[cq] at q;cases q;exact n
 .rw[ba g] at q;by_cases a:b=e
  .have q':H b=some (.own x):=by
    rcases he with z |z
    .exact absurd (a.trans z) g
    .rw[a];exact z
   rw[q] at q';cases q';let⟨v,o⟩:=m;exact⟨v,by rw[a];exact o⟩
  .refine (ok b u q).eL (λc v i r=>k c v ?_ r) (λc r=>by rw[ba (d c b r)];exact r) λc l r=>by rw[ba (f c l r)];exact r
   rcases i with rfl |i
   .exact a
   .rintro rfl;rcases he with z |z
    .exact d c b i z
    .rw[i] at z;cases z;exact g rfl
end
structure Un(fs ex:cA)(H H':Hp)(h h':aU):Prop where
 keep:∀b o,h.get? b=some o->H b=none->b ∉ fs->b ∉ ex->h'.get? b=some o
 slot:∀b o,h.get? b=some o->H b=none->b∈fs->b ∉ ex->∃sl,h'.get? b=some { o with slots:=sl }
 free:∀b o,h.get? b=some o->H b=none->b ∉ ex->H' b=none
 there:∀b o,h.get? b=some o->b ∉ ex->∃o',h'.get? b=some o'
 eZ:∀b xs,H b=some (.aF xs)->H' b=some (.aF xs)
 bp:∀b o u,H b=some (.ay o u)->H' b=some (.ay o u)
 eX:∀b ps,H b=some (.lK ps)->∃more,H' b=some (.lK (ps++more))
section
variable{fs fs' ex ex':cA}{H H1 H2:Hp}{h h1 h2 h':aU}{a x e:af}{o:HO}
theorem Un.any(u:Un fs ex H H1 h h1){ob:Obj}(q:h.get? b=some ob)(n:H b=none)(f:b ∉ ex):∃g,h1.get? b=some { ob with slots:=g }:=by
 by_cases d:b∈fs
 .exact u.slot b ob q n d f
 .exact⟨ob.slots,u.keep b ob q n d f⟩
theorem Un.kept(k:∀b u,h.get? b=some u->h'.get? b=some u):Un fs ex H H h h':=
 ⟨λb d q _ _ _=>k b d q,λb d q _ _ _=>⟨d.slots,k b d q⟩,λ_ _ _ n _=>n,λb d q _=>⟨d,k b d q⟩,λ_ _ q=>q,λ_ _ _ q=>q,λ_ f q=>⟨#[],by rw[q];simp⟩⟩
theorem Un.refl:Un fs ex H H h h:=Un.kept λ_ _ q=>q
theorem Un.laid(k:∀b u,h.get? b=some u->h'.get? b=some u)(hp:h.objs.size<=a)(hn:H a=none):Un fs ex H (aR H a o) h h' where
 keep:=λb u q _ _ _=>k b u q
 slot:=λb u q _ _ _=>⟨u.slots,k b u q⟩
 free:=λb u q n _=>by rw[ba (ne_of_lt (lt_of_lt_of_le (Heap.lt_size q) hp))];exact n
 there:=λb u q _=>⟨u,k b u q⟩
 eZ:=λb d q=>by rw[ba (iY q hn)];exact q
 bp:=λb u d q=>by rw[ba (iY q hn)];exact q
 eX:=λb f q=>⟨#[],by rw[ba (iY q hn),q];simp⟩
theorem Un.write(f:oV (H x))(he:e=x\/H e=some (.own x))(k:∀b u,b≠e->h.get? b=some u->h'.get? b=some u)(g:∃u,h'.get? e=some u):Un fs ex H (aR H x o) h h':=by
 have j:∀b,H b=none->b≠x:=λb n z=>by subst z;rw[n] at f;exact f
 have i:∀b,H b=none->b≠e:=λb n z=>by
  subst z;rcases he with r |r
  .exact j b n r
  .rw[n] at r;cases r
 have hm:∀b u,H b=some u->¬ oV (some u)->b≠x:=λb u q nm z=>by subst z;rw[q] at f;exact nm f
 refine⟨λb u q n _ _=>k b u (i b n) q,λb u q n _ _=>⟨u.slots,k b u (i b n) q⟩,λb u q n _=>by rw[ba (j b n)];exact n,λb u q _=>?_,
  λb l q=>by rw[ba (hm b _ q λz=>z)];exact q,λb u l q=>by rw[ba (hm b _ q λz=>z)];exact q,λb m q=>⟨#[],by rw[ba (hm b _ q λz=>z),q];simp⟩⟩
 by_cases d:b=e
 .subst d;exact g
 .exact⟨u,k b u d q⟩
end
def rN(h:aU)(H:Hp):cA:=(List.range h.objs.size).filter λa=>(H a).isSome
def kW(h:aU)(H:Hp):aU:=W.hideAll h (rN h H)
theorem RD(h:aU)(H:Hp):(kW h H).objs.size=h.objs.size:=W.hideAll_size _ _
theorem OI{H:Hp}(e:h.get? b=some o)(n:H b=none):(kW h H).get? b=some o:=
 W.hideAll_get _ e λhm=>by
  have q:(H b).isSome=true:=(mem_filter.mp hm).2;rw[n] at q;simp at q
theorem Vf{H:Hp}(e:(kW h H).get? b=some o):h.get? b=some o/\H b=none:=by
 have a:h.get? b=some o:=W.of_hideAll (rN h H) e;refine⟨a,?_⟩;cases q:H b with
 |none=>rfl
 |some x=>
  have hm:b∈rN h H:=mem_filter.mpr ⟨mem_range.mpr (Heap.lt_size a),by simp[q]⟩;have z:(kW h H).get? b=none:=W.hideAll_none (rN h H) hm;rw[z] at e;cases e
def Mt(g h:aU)(L:af):aV:=(List.range h.objs.size).filterMap λa=>if a=L\/(g.get? a).isSome=true then none else (h.get? a).map λo=>(a,o)
def rest(g h:aU)(L d:af):aV:=(Mt g h L).filter λp=>decide (p.1≠d)
structure Mod(K:ao)(mg:bx)(base:aU):Prop where
 kQ:K.In base
 glob:base.Ns mainGlobals mg
 blt:∃mb,base.Ns builtinsNs mb/\∀x:Str,x≠"__name__"->mb x=bootBuiltins x
 nolimit:base.NoLimit
structure Cx where
 prog:Program
 w:World
 K:W.Frag
 mg:bx
 base:Heap
 A:Around
 N:ah
 s₀:Shared
 H₀:Hp
 env:Env
 outer:cB
 stack:cB
 ex:cA
 fn:Str->Bool
 calm:Bool
 pn:aV
 xe:aj->ak->Prop
abbrev jR(X:Cx)(x:Str):Prop:=X.fn x=true\/X.env.scope.names.lookup x=some .local
def cz(l:cB):cA:=l.filterMap (·.frame)
abbrev Cx.fs(X:Cx):cA:=cz X.outer
def oE(sc:Scope)(x:Str):Prop:=sc.names.lookup x=some .local\/sc.names.lookup x=some .cell\/sc.names.lookup x=some .free
def Loc(sc:Scope)(x:Str):Prop:=sc.names.lookup x=some .local\/sc.names.lookup x=some .cell
def Pr(env:Env)(h:aU)(m:bx)(x:Str)(u:aj):Prop:=
 (env.kindOf x=some .local/\m x=some u)\/((env.kindOf x=some .cell\/env.kindOf x=some .free)/\∃c,env.cells.lookup x=some c/\h.IsCell c (some u))
structure Cx.Ok(X:Cx):Prop where
 mod:Mod X.K X.mg X.base
 kind:X.env.scope.kind=.function
 glob:X.env.globals=mainGlobals
 blt:X.env.builtins=builtinsNs
 above:⇑X.s₀<=X.env.locals
 inj:∀x y c,X.env.cells.lookup x=some c->X.env.cells.lookup y=some c->x=y
 has:∀x,(X.env.kindOf x=some .cell\/X.env.kindOf x=some .free)->∃c,X.env.cells.lookup x=some c
 lJ:∀x c,X.fn x=true->X.env.cells.lookup x=some c->⇑X.s₀<=c
 hd:X.calm=true->X.A.handled=none
 frames:X.A.frames=some X.stack
 l5:X.stack=X.outer\/(X.stack=X.env::X.outer/\X.env.frame=some X.env.locals)
 mn:∀b∈X.ex,b≠X.env.locals/\∀x c,X.env.cells.lookup x=some c->c≠b
 bs:∀b o,X.base.get? b=some o->X.s₀.heap.get? b=some o/\X.H₀ b=none
 jl:X.base.objs.size<=⇑X.s₀
 gG:∀b o,X.base.get? b=some o->b ∉ X.ex
 gB:∀b∈X.ex,b ∉ X.fs
 dy:X.s₀.heap.FunFrames X.base X.outer
 ko:∀b∈X.fs,X.H₀ b=none
structure au(X:Cx)(aa:aV)(j:List (Option V))(H:Hp)(s:ak):Prop where
 ok:X.Ok
 os:s.os=X.s₀.os
 bare:AllBare s.gens
 base:Un X.fs X.ex X.H₀ H X.s₀.heap s.heap
 loc:∃m,s.heap.Ns X.env.locals m/\∀(i:Nat)(x:Str)(v:V),X.N[i]?=some x->j[i]?=some (some v)->oE X.env.scope x->∃u,aD v u/\Pr X.env s.heap m x u
 cell:∀x c,X.env.cells.lookup x=some c->∃v,s.heap.IsCell c v
 free:H X.env.locals=none
 bV:∀x c,X.env.cells.lookup x=some c->H c=none
 pin:∀p∈X.pn++aa,s.heap.get? p.1=some p.2/\H p.1=none/\p.1≠X.env.locals/\p.1 ∉ X.fs/\∀v,p.2.data≠.cell v
 aN:dg X.prog X.w H s.heap
 len:j.length=X.N.length
section
variable{X:Cx}{aa:aV}{σ:List (Option V)}{H H':Hp}{s:ak}{h':aU}
theorem Cx.Ok.yj(ok:X.Ok)(e:X.base.get? b=some o):b ∉ X.fs:=λa=>by
 have:=(ok.dy.mem a).1;rw[e] at this;cases this
theorem au.bs(I:au X aa σ H s):∀b o,X.base.get? b=some o->s.heap.get? b=some o/\H b=none:=λb o e=>
 ⟨I.base.keep b o (I.ok.bs b o e).1 (I.ok.bs b o e).2 (I.ok.yj e) (I.ok.gG b o e),I.base.free b o (I.ok.bs b o e).1 (I.ok.bs b o e).2 (I.ok.gG b o e)⟩
theorem au.bk(I:au X aa σ H s):∀b o,X.base.get? b=some o->s.heap.get? b=some o:=λb o e=>(I.bs b o e).1
theorem au.mod(I:au X aa σ H s):Mod X.K X.mg X.base:=I.ok.mod
theorem au.cL(I:au X aa σ H s):X.K.In s.heap:=I.ok.mod.kQ.keeps I.bk
theorem au.lt(I:au X aa σ H s):X.env.locals<⇑s:=let ⟨_,hn,_⟩:=I.loc;hn.lt
theorem au.sz(I:au X aa σ H s):⇑X.s₀<=⇑s:=le_trans I.ok.above (Nat.le_of_lt I.lt)
theorem au.yy(I:au X aa σ H s)(h:⇑s<=a):a ∉ X.fs:=λb=>by
 let⟨_,o,d,_⟩:=I.ok.dy.mem b;exact absurd (lt_of_lt_of_le (Heap.lt_size d) (le_trans I.sz h)) (lt_irrefl _)
theorem au.m7(I:au X aa σ H s):∀x c,X.env.cells.lookup x=some c->c≠X.env.locals:=λx c e z=>by
 ∎;let⟨v,o,d,hd⟩:=I.cell x c e;let⟨m,⟨h,g,f,b,a,_⟩,_⟩:=I.loc;∎;rw[z,b] at d;cases d;rw[a] at hd;cases hd
theorem au.dy(I:au X aa σ H s):s.heap.FunFrames X.base X.outer:=by
 have all:∀(l:cB),(∀b∈cz l,b∈X.fs)->X.s₀.heap.FunFrames X.base l->s.heap.FunFrames X.base l:=by
  intro l
  induction l with
  |nil=>intro _ _;trivial
  |cons env r n=>
   intro g i;let⟨h,⟨L,o,f,hn,j,hd⟩,m⟩:=i;have a:L∈X.fs:=g L (by unfold cz;rw[List.filterMap_cons,f];exact mem_cons_self);let⟨p,e⟩:=I.base.slot L o j (I.ok.ko L a) a λz=>I.ok.gB L z a
   exact⟨h,⟨L,_,f,hn,e,hd⟩,n (λb d=>g b (by unfold cz;rw[List.filterMap_cons,f];exact mem_cons_of_mem _ d)) m⟩
 exact all X.outer (λ_ d=>d) I.ok.dy
theorem au.stack(I:au X aa σ H s):s.heap.FunFrames X.base X.stack:=by
 rcases I.ok.l5 with e |⟨e,a⟩
 .rw[e];exact I.dy
 .rw[e];let⟨m,hn,_⟩:=I.loc;refine .cons (by rw[I.ok.kind];decide) a hn ?_ I.dy;exact Heap.get?_none_of_le (le_trans I.ok.jl I.ok.above)
theorem au.eW(I:au X aa σ H s):∀b∈cz X.stack,b∈X.env.locals::X.fs:=λb a=>by
 rcases I.ok.l5 with e |⟨e,d⟩
 .rw[e] at a;exact mem_cons_of_mem _ a
 .rw[e] at a;unfold cz at a;rw[List.filterMap_cons,d] at a;exact a
theorem au.fN(I:au X aa σ H s):∀b∈cz X.stack,H b=none:=λb a=>by
 rcases mem_cons.mp (I.eW b a) with e |a
 .rw[e];exact I.free
 .obtain⟨_,o,ho,_⟩:=I.ok.dy.mem a;exact I.base.free b o ho (I.ok.ko b a) λz=>I.ok.gB b z a
theorem au.step{g':Array GenState}{t':Nat}{d':Drawn}{ch:cA}(I:au X aa σ H s)(g:∀b∈ch,(b∈X.ex\/⇑X.s₀<=b)/\b≠X.env.locals/\(∀x c,X.env.cells.lookup x=some c->c≠b)/\∀p∈X.pn++aa,p.1≠b)(keep:∀b o,b≠X.env.locals->b ∉ X.fs->b ∉ ch->s.heap.get? b=some o->H b=none->h'.get? b=some o)(slot:∀b o,b≠X.env.locals->b∈X.fs->b ∉ ch->s.heap.get? b=some o->H b=none->∃G,h'.get? b=some { o with slots:=G })(free:∀b o,b ∉ ch->s.heap.get? b=some o->H b=none->H' b=none)(there:∀b o,b ∉ ch->s.heap.get? b=some o->∃o',h'.get? b=some o')(eZ:∀b xs,H b=some (.aF xs)->H' b=some (.aF xs))(bp:∀b o u,H b=some (.ay o u)->H' b=some (.ay o u))(eX:∀b E,H b=some (.lK E)->∃C,H' b=some (.lK (E++C)))(ns:∀m,s.heap.Ns X.env.locals m->h'.Ns X.env.locals m)(aN:dg X.prog X.w H' h')(O:AllBare g'):
  au X aa σ H' { s with heap:=h',gens:=g',drawn:=d',toks:=t' }:=by
 have D:∀b o,X.s₀.heap.get? b=some o->b≠X.env.locals:=λb o e=>ne_of_lt (lt_of_lt_of_le (Heap.lt_size e) I.ok.above)
 have y:∀b o,X.s₀.heap.get? b=some o->b ∉ X.ex->b ∉ ch:=λb o e a A=>by
  rcases (g b A).1 with z |z
  .exact a z
  .exact absurd (lt_of_lt_of_le (Heap.lt_size e) z) (lt_irrefl _)
 have f:∀x c,X.env.cells.lookup x=some c->∀v,s.heap.IsCell c v->h'.IsCell c v:=λx c e v ⟨o,ho,hd⟩=>by
  have h:c ∉ ch:=λz=>(g c z).2.2.1 x c e rfl
  by_cases L:c∈X.fs
  .obtain⟨G,q⟩:=slot c o (I.m7 x c e) L h ho (I.bV x c e);exact⟨_,q,hd⟩
  .exact⟨o,keep c o (I.m7 x c e) L h ho (I.bV x c e),hd⟩
 refine⟨I.ok,I.os,O,⟨λb o e n A a=>?_,λb o e n A a=>?_,λb o e n a=>?_,λb o e a=>?_,λb xs e=>eZ b xs (I.base.eZ b xs e),λb o xs e=>bp b o xs (I.base.bp b o xs e),λb E e=>?_⟩,?_,λx c e=>?_,?_,λx c e=>?_,λp M=>?_,aN,I.len⟩
 .exact keep b o (D b o e) A (y b o e a) (I.base.keep b o e n A a) (I.base.free b o e n a)
 .obtain⟨G,j⟩:=I.base.slot b o e n A a;let⟨J,B⟩:=slot b _ (D b o e) A (y b o e a) j (I.base.free b o e n a);exact⟨J,B⟩
 .obtain⟨o',j⟩:=I.base.there b o e a;exact free b o' (y b o e a) j (I.base.free b o e n a)
 .obtain⟨o',j⟩:=I.base.there b o e a;exact there b o' (y b o e a) j
 .obtain⟨m1,j⟩:=I.base.eX b E e;let⟨Q,B⟩:=eX b _ j;exact⟨m1++Q,by rw[B,Array.append_assoc]⟩
 .obtain⟨m,hn,hl⟩:=I.loc;refine⟨m,ns m hn,λi x v j B N=>?_⟩;let⟨u,r,l⟩:=hl i x v j B N;refine⟨u,r,?_⟩;rcases l with l |⟨k,c,e,z⟩
  .exact .inl l
  .exact .inr ⟨k,c,e,f x c e _ z⟩
 .obtain⟨v,z⟩:=I.cell x c e;exact⟨v,f x c e v z⟩
 .obtain⟨m,⟨o,_,_,ho,_⟩,_⟩:=I.loc;exact free _ o (λz=>(g _ z).2.1 rfl) ho I.free
 .obtain⟨v,o,ho,hd⟩:=I.cell x c e;exact free c o (λz=>(g c z).2.2.1 x c e rfl) ho (I.bV x c e)
 .obtain⟨e,n,ne,nf,d⟩:=I.pin p M;have h:p.1 ∉ ch:=λz=>(g p.1 z).2.2.2 p M rfl
  exact⟨keep p.1 p.2 ne nf h e n,free p.1 p.2 h e n,ne,nf,d⟩
theorem au.un{t':Nat}(I:au X aa σ H s)(u:Un X.fs [] H H' s.heap h')(aN:dg X.prog X.w H' h'):au X aa σ H' { s with heap:=h',toks:=t' }:=by
 ∎;let⟨m,⟨o,p,l,h,r⟩,_⟩:=id I.loc;let⟨x,i⟩:=u.any h I.free (by simp);∎;exact I.step (g':=s.gens) (d':=s.drawn) (ch:=[]) (λ_ z=>nomatch z) (λb o _ g _ e n=>u.keep b o e n g (by simp)) (λb o _ g _ e n=>u.slot b o e n g (by simp)) (λb o _ e n=>u.free b o e n (by simp)) (λb o _ e=>u.there b o e (by simp)) u.eZ u.bp u.eX (λq hm=>by
  let⟨v,f,d,a,j⟩:=hm;rw[h] at a;cases a;exact⟨_,f,d,i,j⟩) aN I.bare
theorem au.call{g':Array GenState}{t':Nat}{d':Drawn}{ch:cA}(I:au X aa σ H s)(u:Un (cz X.stack) ch H H' s.heap h')(aN:dg X.prog X.w H' h')(q:AllBare g')(d:∀b∈ch,(b∈X.ex\/⇑X.s₀<=b)/\b≠X.env.locals/\(∀x c,X.env.cells.lookup x=some c->c≠b)/\∀p∈X.pn++aa,p.1≠b):
  au X aa σ H' { s with heap:=h',gens:=g',drawn:=d',toks:=t' }:=by
 let⟨m,⟨o,A,y,j,r⟩,_⟩:=id I.loc;let⟨D,i⟩:=u.any j I.free λz=>(d _ z).2.1 rfl
 exact I.step (ch:=ch) d (λb o i l a e n=>u.keep b o e n (λz=>(mem_cons.mp (I.eW b z)).elim i l) a) (λb o _ _ a e n=>u.any e n a) (λb o a e n=>u.free b o e n a) (λb o a e=>u.there b o e a) u.eZ u.bp u.eX (λB hm=>by
  let⟨C,h,g,f,v⟩:=hm;rw[j] at f;cases f;exact⟨_,h,g,i,v⟩) aN q
theorem au.turned{t':Nat}{it:af}(I:au X aa σ H s)(k:∀b o,b≠it->s.heap.get? b=some o->h'.get? b=some o)(hn:H it=none)(f:it≠X.env.locals)(g:it∈X.ex\/⇑X.s₀<=it)(h:∀x c,X.env.cells.lookup x=some c->c≠it)(i:∀p∈X.pn++aa,p.1≠it):au X aa σ H { s with heap:=h',toks:=t' }:=by
 have d:∀b u,H b=some u->b≠it:=λb u e z=>by rw[z,hn] at e;cases e
 refine I.step (g':=s.gens) (d':=s.drawn) (ch:=[it]) (λb j=>?_) (λb o _ _ a e _=>k b o (λz=>a (by simp[z])) e) (λb o _ _ a e _=>⟨o.slots,k b o (λz=>a (by simp[z])) e⟩) (λ_ _ _ _ n=>n)
  (λb o a e=>⟨o,k b o (λz=>a (by simp[z])) e⟩) (λ_ _ e=>e) (λ_ _ _ e=>e) (λb l e=>⟨#[],by rw[e];simp⟩) (λm hm=>?_) (λb u e=>?_) I.bare
 .have e:b=it:=by simpa using j
  subst e;exact⟨g,f,h,i⟩
 .obtain⟨o,es,ep,ho,r⟩:=hm;exact⟨o,es,ep,k _ o (Ne.symm f) ho,r⟩
 .refine (I.aN b u e).eL (λc v a q=>k c v ?_ q) (λ_ q=>q) λ_ _ q=>q
  rcases a with z |z
  .rw[z];exact d b u e
  .exact d c _ z
theorem au.tok(I:au X aa σ H s)(t:Nat):au X aa σ H { s with toks:=t }:=I.un (h':=s.heap) (t':=t) Un.refl I.aN
theorem au.kept(I:au X aa σ H s)(k:∀b u,s.heap.get? b=some u->h'.get? b=some u):au X aa σ H { s with heap:=h',toks:=t' }:=I.un (Un.kept k) (I.aN.kept k)
theorem au.laid(I:au X aa σ H s)(k:∀b u,s.heap.get? b=some u->h'.get? b=some u)(hp:⇑s<=a)(d:a6 X.prog X.w (aR H a o) h' a o):
  au X aa σ (aR H a o) { s with heap:=h',toks:=t' }:=I.un (Un.laid k hp (I.aN.fresh hp)) (I.aN.laid k hp d)
theorem au.write(I:au X aa σ H s)(f:oV (H x))(he:e=x\/H e=some (.own x))(k:∀b u,b≠e->s.heap.get? b=some u->h'.get? b=some u)(a:∃u,h'.get? e=some u)(d:a6 X.prog X.w (aR H x o) h' x o):au X aa σ (aR H x o) { s with heap:=h',toks:=t' }:=I.un (Un.write f he k a) (I.aN.write f he k a d)
theorem au.weak(I:au X aa σ H s)(e:σ'.length=σ.length)(w:∀(i:Nat) v,σ'[i]?=some (some v)->σ[i]?=some (some v)):au X aa σ' H s:=
 ⟨I.ok,I.os,I.bare,I.base,let ⟨m,hn,hl'⟩:=I.loc;⟨m,hn,λi x v a b d=>hl' i x v a (w i v b) d⟩,I.cell,I.free,I.bV,I.pin,I.aN,e.trans I.len⟩
theorem au.eP(I:au X aa σ H s)(h:∀p∈a,s.heap.get? p.1=some p.2/\H p.1=none/\p.1≠X.env.locals/\p.1 ∉ X.fs/\∀v,p.2.data≠.cell v):au X a σ H s:=
 ⟨I.ok,I.os,I.bare,I.base,I.loc,I.cell,I.free,I.bV,λp b=>(mem_append.mp b).elim (λz=>I.pin p (List.mem_append_left _ z)) (h p),I.aN,I.len⟩
theorem EO{N:ah}(f:N.Nodup){i j:Nat}{x:Str}(a:N[i]?=some x)(b:N[j]?=some x):i=j:=by
 let⟨g,d⟩:=List.getElem?_eq_some_iff.mp a;let⟨h,e⟩:=List.getElem?_eq_some_iff.mp b;exact (List.getElem_inj f).mp (d.trans e.symm)
theorem y8{M:Model}{A:Around}{E:aj->ak->Prop}{i:Nat}{x:Str}{v:V}{u:aj}{Q:Unit->ak->Prop}(I:au X aa σ H s)(hN:X.N.Nodup)(hi:X.N[i]?=some x)(C:Loc X.env.scope x)(r:aD v u)(h:∀s',au X aa (σ.set i (some v)) H s'->(∃a,Heap.SameBut a s.heap s'.heap/\(a=X.env.locals\/X.env.cells.lookup x=some a))->Q () s')(hf:jR X x:=by first |exact .inl rfl |exact .inr rfl |assumption):wpAny M A (storeName X.env x u) Q E s:=by
 let⟨m,hn,hl⟩:=id I.loc;have Y:(X.env.scope.kind == .class || (X.env.scope.kind == .module&&X.env.locals != X.env.globals))=false:=by rw[I.ok.kind];rfl
 have J:i<σ.length:=by rw[I.len];exact (List.getElem?_eq_some_iff.mp hi).1
 have m7:=I.m7;have l:∀{a:af}{h':aU},(∃o,s.heap.get? a=some o/\H a=none)->Heap.SameBut a s.heap h'->dg X.prog X.w H h':=λ{a h'} ha f b ob e=>by
  let⟨_,_,D⟩:=ha;refine (I.aN b ob e).eL (λc w' B q=>(f.2 c ?_).trans q) (λ_ q=>q) λ_ _ q=>q
  rintro rfl;rcases B with rfl |B
  .rw[D] at e;cases e
  .rw[D] at B;cases B
 rcases C with L |L
 .refine wpAny_storeName_local L hn (λh' γ f=>?_) Y;let⟨oL,_,_,δ,_⟩:=id hn;refine h _ ⟨I.ok,I.os,I.bare,⟨λb o e n O C=>?_,λb o e n O C=>?_,I.base.free,λb o e C=>?_,I.base.eZ,I.base.bp,I.base.eX⟩,⟨_,γ,λj y v' g G e3=>?_⟩,λy c e=>?_,I.free,I.bV,λp hp=>?_,l ⟨oL,δ,I.free⟩ f,by simpa using I.len⟩ ⟨_,f,.inl rfl⟩
  .exact (f.2 b (ne_of_lt (lt_of_lt_of_le (Heap.lt_size e) I.ok.above))).trans (I.base.keep b o e n O C)
  .obtain⟨sl,g⟩:=I.base.slot b o e n O C;exact⟨sl,(f.2 b (ne_of_lt (lt_of_lt_of_le (Heap.lt_size e) I.ok.above))).trans g⟩
  .obtain⟨o',g⟩:=I.base.there b o e C;exact⟨o',(f.2 b (ne_of_lt (lt_of_lt_of_le (Heap.lt_size e) I.ok.above))).trans g⟩
  .by_cases hj:j=i
   .subst hj;rw[hi] at g;cases g;rw[getElem?_set_self J] at G;cases G;exact⟨u,r,.inl ⟨L,by simp⟩⟩
   .rw[getElem?_set_ne (Ne.symm hj)] at G;let⟨u',r',q⟩:=hl j y v' g G e3;refine⟨u',r',?_⟩;rcases q with⟨k,e⟩ |⟨k,c,e,z⟩
    .refine .inl ⟨k,?_⟩;have:y≠x:=λe=>hj (EO hN g (e ▸ hi))
     simp[this,e]
    .exact .inr ⟨k,c,e,z.sameBut f (m7 y c e)⟩
  .obtain⟨w',z⟩:=I.cell y c e;exact⟨w',z.sameBut f (m7 y c e)⟩
  .obtain⟨e,n,ne,nf,d⟩:=I.pin p hp;exact⟨(f.2 p.1 ne).trans e,n,ne,nf,d⟩
 .have hfn:X.fn x=true:=by
   rcases hf with z |z
   .exact z
   .rw[z] at L;cases L
  let⟨c,B⟩:=I.ok.has x (.inl L);let⟨w',z⟩:=I.cell x c B;refine wpAny_storeName_cell I.ok.kind L B z (λh' U f=>?_);let⟨oc,α,β⟩:=id z;refine h { s with heap:=h' } ⟨I.ok,I.os,I.bare,⟨λb o e n O C=>?_,λb o e n O C=>?_,I.base.free,λb o e C=>?_,I.base.eZ,I.base.bp,I.base.eX⟩,⟨m,hn.sameBut f (Ne.symm (m7 x c B)),λj y v' g G e3=>?_⟩,λy c' e=>?_,I.free,I.bV,λp hp=>?_,l ⟨oc,α,I.bV x c B⟩ f,by simpa using I.len⟩ ⟨c,f,.inr B⟩
  .exact (f.2 b (ne_of_lt (lt_of_lt_of_le (Heap.lt_size e) (I.ok.lJ x c hfn B)))).trans (I.base.keep b o e n O C)
  .obtain⟨sl,g⟩:=I.base.slot b o e n O C;exact⟨sl,(f.2 b (ne_of_lt (lt_of_lt_of_le (Heap.lt_size e) (I.ok.lJ x c hfn B)))).trans g⟩
  .obtain⟨o',g⟩:=I.base.there b o e C;exact⟨o',(f.2 b (ne_of_lt (lt_of_lt_of_le (Heap.lt_size e) (I.ok.lJ x c hfn B)))).trans g⟩
  .by_cases hj:j=i
   .subst hj;rw[hi] at g;cases g;rw[getElem?_set_self J] at G;cases G;exact⟨u,r,.inr ⟨.inl L,c,B,U⟩⟩
   .rw[getElem?_set_ne (Ne.symm hj)] at G;let⟨u',r',q⟩:=hl j y v' g G e3;refine⟨u',r',?_⟩;rcases q with q |⟨k,c',e,z'⟩
    .exact .inl q
    .refine .inr ⟨k,c',e,z'.sameBut f ?_⟩;rintro rfl;exact hj (EO hN g (I.ok.inj _ _ _ e B ▸ hi))
  .by_cases hcc:c'=c
   .subst hcc;exact⟨_,U⟩
   .obtain⟨w2,z2⟩:=I.cell y c' e;exact⟨w2,z2.sameBut f hcc⟩
  .obtain⟨e,n,ne,nf,d⟩:=I.pin p hp;refine⟨(f.2 p.1 ?_).trans e,n,ne,nf,d⟩;intro q;rw[q,α] at e;have q':oc=p.2:=Option.some.inj e;exact d w' (by rw[<- q'];exact β)
theorem sG{Q:Unit->ak->Prop}(I:au X aa σ H s)(b:X.N.Nodup)(e:X.N[i]?=some x)(f:Loc X.env.scope x)(r:aD v u)(h:∀s',au X aa (σ.set i (some v)) H s'->Q () s')(d:jR X x:=by first |exact .inl rfl |exact .inr rfl |assumption):wpAny M A (storeName X.env x u) Q E s:=
 y8 I b e f r (λs' a _=>h s' a) d
theorem au.eA(I:au X aa σ H s)(f:s'.os=s.os)(u:Un (cz X.stack) ch H H' s.heap s'.heap)(aN:dg X.prog X.w H' s'.heap)(d:AllBare s'.gens)(a:∀b∈ch,(b∈X.ex\/⇑X.s₀<=b)/\b≠X.env.locals/\(∀x c,X.env.cells.lookup x=some c->c≠b)/\∀p∈X.pn++aa,p.1≠b):au X aa σ H' s':=by
 let⟨h',g',d',t',g⟩:=s';have e:g=s.os:=f;subst e;exact I.call (g':=g') (t':=t') (d':=d') u aN d a
end
abbrev XK:=Value->df->Hp->Prop
abbrev St:=List (Option V)
abbrev VK:=V->Hp->Prop
abbrev TE:=St->Hp->VK->Prop
abbrev TT:=St->Hp->(Bool->Hp->Prop)->Prop
abbrev TA:=St->Hp->(aw->Hp->Prop)->Prop
structure iq where
 nx:St->Hp->Prop
 rt:VK
 bk:St->Hp->Prop:=λ_ _=>False
 ct:St->Hp->Prop:=λ_ _=>False
abbrev TS:=iq->St->Hp->Prop
def EP(X:Cx)(aa:aV)(j:St)(Q:VK)(u:aj)(s':ak):Prop:=∃v a,au X aa j a s'/\aD v u/\Q v a
def TP(X:Cx)(aa:aV)(j:St)(Q:Bool->Hp->Prop)(b:Bool)(s':ak):Prop:=∃a,au X aa j a s'/\Q b a
def AP(X:Cx)(aa:aV)(j:St)(Q:aw->Hp->Prop)(us:aL)(s':ak):Prop:=∃vs a,au X aa j a s'/\aE vs us/\Q vs a
def SP(X:Cx)(aa:aV)(D:iq)(f:Flow)(s':ak):Prop:=
 match f with
 |.next=>∃b a,au X aa b a s' /\ D.nx b a
 |.brk=>∃b a,au X aa b a s' /\ D.bk b a
 |.cont=>∃b a,au X aa b a s' /\ D.ct b a
 |.ret u=>∃v b a,au X aa b a s' /\ aD v u /\ D.rt v a
def PE(X:Cx)(e:Expr)(t:TE):Prop:=
 ∀(aa:aV)(s:ak)(j:St)(H:Hp)(Q:VK),au X aa j H s->t j H Q->wpAny (model X.prog X.w) X.A (eval e X.env) (EP X aa j Q) X.xe s
def PT(X:Cx)(e:Expr)(t:TT):Prop:=
 ∀(aa:aV)(s:ak)(j:St)(H:Hp)(Q:Bool->Hp->Prop),au X aa j H s->t j H Q->wpAny (model X.prog X.w) X.A (isTrue e X.env (eval e X.env)) (TP X aa j Q) X.xe s
def PW(X:Cx)(e:Expr)(t:TT):Prop:=
 ∀(whole:Sem Value)(aa:aV)(s:ak)(j:St)(H:Hp)(Q:Bool->Hp->Prop),au X aa j H s->t j H Q->wpAny (model X.prog X.w) X.A (isTrue e X.env whole) (TP X aa j Q) X.xe s
theorem PW.pt(h:PW X e t):PT X e t:=h _
def PA(X:Cx)(a:bH)(t:TA):Prop:=
 ∀(pos:Pos)(aa:aV)(s:ak)(j:St)(H:Hp)(Q:aw->Hp->Prop),au X aa j H s->t j H Q->wpAny (model X.prog X.w) X.A (spliced (backTo pos (starEach a X.env))) (AP X aa j Q) X.xe s
def PS(X:Cx)(st:Stmt)(t:TS):Prop:=
 ∀(aa:aV)(s:ak)(j:St)(H:Hp)(D:iq),au X aa j H s->t D j H->wpAny (model X.prog X.w) X.A (exec st X.env) (SP X aa D) X.xe s
def fy(X:Cx)(st:List Stmt)(t:TS):Prop:=
 ∀(aa:aV)(s:ak)(j:St)(H:Hp)(D:iq),au X aa j H s->t D j H->wpAny (model X.prog X.w) X.A (execs st X.env) (SP X aa D) X.xe s
theorem bj{Q b:j->ak->Prop}(h:wpAny M A t Q E s)(d:∀a s,Q a s->b a s):wpAny M A t b E s:=wpAny_mono h d λ_ _ x=>x
section
variable{X:Cx}
def f6(i:Nat):TE:=λj H Q=>∃v,j[i]?=some (some v)/\Q v H
def tC(v:V):TE:=λ_ H Q=>Q v H
theorem uE(n:X.N[i]?=some x)(p:oE X.env.scope x)(hd: ~~~(dq x))(f: ~~~((x == ("__classdict__":Str))=false)):PE X (.Name x pos) (f6 i):=by
 intro aa s j H Q I h;∎;let⟨v,e,h⟩:=h;let⟨m,hn,o⟩:=I.loc;let⟨u,r,l⟩:=o i x v n e p;∎;have b:EP X aa j Q u s:=⟨v,H,I,r,h⟩;rcases l with⟨d,hm⟩ |⟨d,c,g,a⟩
 .exact wpAny_Name (wpAny_loadName_local I.ok.kind d hn hm b) hd
 .rcases d with d |d
  .exact wpAny_Name (wpAny_loadName_cell I.ok.kind d g a b) hd
  .exact wpAny_Name (wpAny_loadName_free I.ok.kind d g a b f) hd
theorem E3{i j pos}:PE X (.Constant (.int i) j pos) (tC (.int i)):=λ_ _ _ H _ I h=>wpAny_Constant_int ⟨.int i,H,I.tok _,⟨_,rfl⟩,h⟩
theorem IG{b j pos}:PE X (.Constant (.bool b) j pos) (tC (.bl b)):=λ_ _ _ H _ I h=>Constant_bool ⟨.bl b,H,I,rfl,h⟩
theorem JW{j pos}:PE X (.Constant .none j pos) (tC .aM):=λ_ _ _ H _ I h=>Constant_none ⟨.aM,H,I,rfl,h⟩
theorem D2{x j pos}:PE X (.Constant (.str x) j pos) (tC (.str x)):=λ_ _ _ H _ I h=>Calls.Constant_str ⟨.str x,H,I.tok _,⟨_,rfl⟩,h⟩
def Gl(X:Cx)(x:Str):Prop:=X.env.kindOf x=some .globalImplicit
theorem k4{Q:aj->ak->Prop}(I:au X aa j H s)(a:Gl X x)(hm:X.mg x=some u)(h:Q u s)(hd: ~~~(dq x)):wpAny (model X.prog X.w) X.A (eval (.Name x pos) X.env) Q E s:=
 Calls.Name_function_global I.ok.kind a (Calls.loadGlobal_global (by rw[I.ok.glob];exact I.mod.glob.keeps I.bk) hm h) hd
theorem jh{Q:aj->ak->Prop}(I:au X aa j H s)(d:Gl X x)(hm:X.mg x=none)(e:bootBuiltins x=some u)(h:Q u s)(hn: ~~~(x≠"__name__"))(hd: ~~~(dq x)):wpAny (model X.prog X.w) X.A (eval (.Name x pos) X.env) Q E s:=by
 let⟨f,a,b⟩:=I.mod.blt;exact Calls.Name_function_global I.ok.kind d (Calls.loadGlobal_builtin (by rw[I.ok.glob];exact I.mod.glob.keeps I.bk) hm (by rw[I.ok.blt];exact a.keeps I.bk) ((b x hn).trans e) h) hd
theorem IT(a:Gl X x)(hm:X.mg x=some u)(r:aD v u)(hd: ~~~(dq x)):PE X (.Name x pos) (tC v):=
 λ_ _ _ H _ I h=>k4 I a hm ⟨v,H,I,r,h⟩ hd
theorem Rq(a:Gl X x)(hm:X.mg x=none)(b:bootBuiltins x=some u)(r:aD v u)(hn: ~~~(x≠"__name__"))(hd: ~~~(dq x)):PE X (.Name x pos) (tC v):=
 λ_ _ _ H _ I h=>jh I a hm b ⟨v,H,I,r,h⟩ hn hd
variable{a b:Expr}{ta tb:TE}{pos:Pos}
def tB(t:TE):TT:=λj H Q=>t j H λx H1=>∃c,x=.bl c/\Q c H1
theorem LH(h:PE X e t)(he:∀whole,isTrue e X.env whole=(do let v <- whole;standAt e.pos;holding [v] (truthy v)):=by intro _;rfl):PT X e (tB t):=by
 intro aa s j H Q I l;refine isTrue_plain (bj (h aa s j H _ I l) λv o f=>?_) (he _);∎;let⟨x,g,i,n,m⟩:=f;let⟨d,rfl,q⟩:=m;∎;cases n;exact wpAny_truthy_bool ⟨g,i,q⟩
variable{tA tB':TT}{rest:bH}
def EY(t u:TT):TT:=λj H Q=>t j H λc d=>if c=true then u j d Q else Q false d
def DW(t u:TT):TT:=λj H Q=>t j H λc d=>if c=true then Q true d else u j d Q
def DC(t:TT):TT:=λj H Q=>t j H λc H1=>Q (!c) H1
theorem SI(d:PT X a tA):PW X (.BoolOp .And [a] pos) tA:=by
 intro g aa s j H Q I h;refine isTrue_and (bj (d aa s j H Q I h) λc f e=>?_);cases c with
 |true=>exact isTrue_and_nil e
 |false=>exact e
theorem O4(d:PT X a tA):PW X (.BoolOp .Or [a] pos) tA:=by
 intro g aa s j H Q I h;refine isTrue_or (bj (d aa s j H Q I h) λc f e=>?_);cases c with
 |false=>exact isTrue_or_nil e
 |true=>exact e
theorem Jk(i:PT X a tA)(l:PW X (.BoolOp .And (b::rest) pos) tB'):PW X (.BoolOp .And (a::b::rest) pos) (EY tA tB'):=by
 intro n aa s j H Q I h;refine isTrue_and (bj (i aa s j H _ I h) λc m d=>?_);let⟨e,f,g⟩:=d;cases c with
 |true=>exact l n aa m j e Q f g
 |false=>exact⟨e,f,g⟩
theorem Kh(i:PT X a tA)(l:PW X (.BoolOp .Or (b::rest) pos) tB'):PW X (.BoolOp .Or (a::b::rest) pos) (DW tA tB'):=by
 intro n aa s j H Q I h;refine isTrue_or (bj (i aa s j H _ I h) λc m d=>?_);let⟨e,f,g⟩:=d;cases c with
 |true=>exact⟨e,f,g⟩
 |false=>exact l n aa m j e Q f g
theorem HE(e:PT X a tA):PT X (.UnaryOp .Not a pos) (DC tA):=by
 intro aa s j H Q I h;exact isTrue_not (e aa s j H (λc d=>Q (!c) d) I h)
def BM(ta tb:TE):TE:=λj H Q=>ta j H λx d=>∃c,x=.bl c/\if c=true then tb j d Q else Q (.bl false) d
def CC(ta tb:TE):TE:=λj H Q=>ta j H λx d=>∃c,x=.bl c/\if c=true then Q (.bl true) d else tb j d Q
theorem Qn{op}(h:PE X a t):PE X (.BoolOp op [a] pos) t:=λaa s j H Q I d=>BoolOp_one (h aa s j H Q I d)
theorem Oi(i:PE X a ta)(l:PE X (.BoolOp .And (b::rest) pos) tb):PE X (.BoolOp .And (a::b::rest) pos) (BM ta tb):=by
 intro aa s j H Q I h;refine BoolOp_and (bj (i aa s j H _ I h) λv n e=>?_);∎;let⟨x,f,g,m,d⟩:=e;let⟨c,rfl,d⟩:=d;∎;cases m;refine wpAny_truthy_bool ?_;cases c with
 |true=>exact l aa n j f Q g d
 |false=>exact⟨.bl false,f,g,rfl,d⟩
theorem Hj(i:PE X a ta)(l:PE X (.BoolOp .Or (b::rest) pos) tb):PE X (.BoolOp .Or (a::b::rest) pos) (CC ta tb):=by
 intro aa s j H Q I h;refine BoolOp_or (bj (i aa s j H _ I h) λv n e=>?_);∎;let⟨x,f,g,m,d⟩:=e;let⟨c,rfl,d⟩:=d;∎;cases m;refine wpAny_truthy_bool ?_;cases c with
 |false=>exact l aa n j f Q g d
 |true=>exact⟨.bl true,f,g,rfl,d⟩
def AM(t:TT)(ta tb:TE):TE:=λj H Q=>t j H λc d=>if c=true then ta j d Q else tb j d Q
theorem My(o:PT X c tA)(m:PE X a ta)(n:PE X b tb):PE X (.IfExp c a b pos) (AM tA ta tb):=by
 intro aa s j H Q I h;refine wpAny_IfExp (bj (o aa s j H _ I h) λd l e=>?_);let⟨f,g,i⟩:=e;cases d with
 |true=>exact m aa l j f Q g i
 |false=>exact n aa l j f Q g i
end
def bC(K:ao)(H:Hp)(a:af)(xs:aw):Prop:=
 Rd H a (.ag xs)\/
  ∃(o:Obj)(b:dm)(n:Nat),K.lookup a=some o/\o.cls=.type "list"/\o.dict=none/\o.data=.seq b n/\b.size<=sizeLine/\aE xs b.toList
def cU(K:ao)(H:Hp)(a:af)(xs:aw):Prop:=
 Rd H a (.aF xs)\/
  ∃(o:Obj)(b:dm)(n:Nat),K.lookup a=some o/\o.cls=.type "tuple"/\o.data=.seq b n/\b.size<=sizeLine/\aE xs b.toList
def UT:aj->Option V
 |.none=>some .aM
 |.bool b=>some (.bl b)
 |.int i _=>some (.int i)
 |.str x _=>some (.str x)
 |.bytes b _=>some (.gg b)
 |.float b _=>some (.kL b)
 |.ref a=>some (.ref a)
 |.type n=>some (.ty n)
 |_=>none
theorem aD.abs(r:aD x u):UT u=some x:=by
 cases x with
 |aM=>cases r;rfl
 |bl _=>cases r;rfl
 |int _=>let⟨t,rfl⟩:=r;rfl
 |str _=>let⟨t,rfl⟩:=r;rfl
 |gg _=>let⟨t,rfl⟩:=r;rfl
 |kL _=>let⟨t,rfl⟩:=r;rfl
 |ref _=>cases r;rfl
 |ty _=>cases r;rfl
theorem aD.inj(r:aD x u)(q:aD y u):x=y:=Option.some.inj (r.abs.symm.trans q.abs)
theorem aE.inj:∀{xs ys:aw}{us:aL},aE xs us->aE ys us->xs=ys
 |_,_,_,.nil,.nil=>rfl
 |_,_,_,.cons r t,.cons r' t'=>by rw[r.inj r',aE.inj t t']
section
variable{X:Cx}{aa:aV}{σ:St}{H:Hp}{s:ak}{a:af}{xs ys:aw}
theorem bC.of{K:ao}(h:H a=some (.ag xs)):bC K H a xs:=.inl (.inl h)
theorem cU.of{K:ao}(h:H a=some (.aF xs)):cU K H a xs:=.inl (.inl h)
theorem au.list(I:au X aa σ H s)(h:bC X.K H a xs):∃bo:aL,aE xs bo/\PlainL s.heap a bo.toArray/\xs.length<=sizeLine:=by
 rcases h with h |⟨o,bo,n,d,b,hd,f,g,r⟩
 .obtain⟨z,bo,n,r,e⟩:=h.ok I.aN;exact⟨bo,r,⟨_,n,e,rfl,rfl,rfl⟩,z⟩
 .refine⟨bo.toList,r,⟨o,n,I.cL a o d,b,hd,by simpa using f⟩,?_⟩;have e:=r.length;simp only[length_toList] at e;omega
theorem au.tuple(I:au X aa σ H s)(h:cU X.K H a xs):∃bo:aL,aE xs bo/\IsTup s.heap a bo.toArray/\xs.length<=sizeLine:=by
 rcases h with h |⟨o,bo,n,d,b,f,g,r⟩
 .obtain⟨z,bo,r,p⟩:=h.ok I.aN;exact⟨bo,r,p,z⟩
 .refine⟨bo.toList,r,⟨o,I.cL a o d,b,n,by simpa using f⟩,?_⟩;have e:=r.length;simp only[length_toList] at e;omega
theorem au.da(I:au X aa σ H s)(h:bC X.K H a xs)(h':bC X.K H a ys):xs=ys:=by
 ∎;let⟨f,r,⟨o,n,e,_,_,d⟩,_⟩:=I.list h;let⟨b,j,⟨m,l,i,_,_,g⟩,_⟩:=I.list h';∎;rw[e] at i;cases i;rw[d] at g;injection g with d1 _
 have:f=b:=by simpa using congrArg Array.toList d1
 subst this;exact r.inj j
end
abbrev Cx.fv(X:Cx)(E:aj->ak->Prop):Cx:={ X with xe:=E }
abbrev Cx.oF(X:Cx):Cx:=X.fv λ_ _=>False
theorem Cx.Ok.fv{X:Cx}(ok:X.Ok)(E:aj->ak->Prop):(X.fv E).Ok:=
 ⟨ok.mod,ok.kind,ok.glob,ok.blt,ok.above,ok.inj,ok.has,ok.lJ,ok.hd,ok.frames,ok.l5,ok.mn,ok.bs,ok.jl,ok.gG,ok.gB,ok.dy,ok.ko⟩
theorem Cx.Ok.c9{X:Cx}{E:aj->ak->Prop}(ok:(X.fv E).Ok):X.Ok:=
 ⟨ok.mod,ok.kind,ok.glob,ok.blt,ok.above,ok.inj,ok.has,ok.lJ,ok.hd,ok.frames,ok.l5,ok.mn,ok.bs,ok.jl,ok.gG,ok.gB,ok.dy,ok.ko⟩
section
variable{X:Cx}{aa:aV}{σ:St}{H:Hp}{s:ak}{E:aj->ak->Prop}
theorem au.fv(I:au X aa σ H s)(E:aj->ak->Prop):au (X.fv E) aa σ H s:=⟨I.ok.fv E,I.os,I.bare,I.base,I.loc,I.cell,I.free,I.bV,I.pin,I.aN,I.len⟩
theorem au.c9(I:au (X.fv E) aa σ H s):au X aa σ H s:=⟨I.ok.c9,I.os,I.bare,I.base,I.loc,I.cell,I.free,I.bV,I.pin,I.aN,I.len⟩
theorem SP.c9(h:SP (X.fv E) aa D f s'):SP X aa D f s':=by
 cases f with
 |next=>let⟨a,b,I,q⟩:=h;exact⟨a,b,I.c9,q⟩
 |brk=>let⟨a,b,I,q⟩:=h;exact⟨a,b,I.c9,q⟩
 |cont=>let⟨a,b,I,q⟩:=h;exact⟨a,b,I.c9,q⟩
 |ret u=>let⟨v,a,b,I,r,q⟩:=h;exact⟨v,a,b,I.c9,r,q⟩
theorem fy.oF{st:List Stmt}{t:TS}(h:fy X.oF st t):fy X st t:=λaa s σ H D I a=>
 wpAny_mono (h aa s σ H D (I.fv _) a) (λ_ _ q=>q.c9) λ_ _ z=>False.elim z
end
section
variable{X:Cx}{st:Stmt}{rest:List Stmt}{t u:TS}{e:Expr}{te:TE}{pos:Pos}
def B5:TS:=λD j H=>D.nx j H
def uz(t u:TS):TS:=λD j H=>t { D with nx:=u D } j H
theorem Po:fy X [] B5:=λ_ _ j H _ I h=>wpAny_execs_nil ⟨j,H,I,h⟩
theorem yK(d:PS X st t)(g:fy X rest u):fy X (st::rest) (uz t u):=by
 intro aa s j H D I h;refine wpAny_execs_cons (bj (d aa s j H { D with nx:=u D } I h) λf l q=>?_);cases f with
 |next=>
  let⟨i,a,b,q⟩:=q;exact g aa l i a D b q
 |ret v=>exact q
 |brk=>exact q
 |cont=>exact q
theorem xX(a:PS X st t):fy X [st] t:=by
 intro aa s j H D I h;refine wpAny_execs_cons (bj (a aa s j H D I h) λf b q=>?_);cases f with
 |next=>exact wpAny_execs_nil q
 |ret v=>exact q
 |brk=>exact q
 |cont=>exact q
theorem au.quiet(I:au X aa j H s):interactive X.env=false:=by simp[interactive,I.ok.kind]
def oy(te:TE):TS:=λD j H=>te j H λ_ H1=>D.nx j H1
theorem pD(he:PE X e te)(hs:do swapsWith e none pos.line X.env=pure false):PS X (.Expr e pos) (oy te):=by
 intro aa s j H D I h;exact wpAny_Expr_any (bj (he aa s j H _ I h) λv i a=>by let⟨x,b,d,g,f⟩:=a;exact⟨j,b,d,f⟩) I.quiet hs
def yD(te:TE):TS:=λD j H=>te j H D.rt
theorem BV(he:PE X e te):PS X (.Return (some e) pos) (yD te):=by
 intro aa s j H D I h;exact wpAny_Return_some (bj (he aa s j H _ I h) λv i a=>by let⟨x,b,d,g,f⟩:=a;exact⟨x,j,b,d,g,f⟩)
def Gn(c:TT)(t u:TS):TS:=λD j H=>c j H λb a=>if b=true then t D j a else u D j a
theorem LP(p:PT X c tc)(n:fy X a t)(o:fy X b u):PS X (.If c a b pos) (Gn tc t u):=by
 intro aa s j H D I h;refine wpAny_If (bj (p aa s j H _ I h) λd m f=>?_);let⟨g,i,l⟩:=f;cases d with
 |true=>exact n aa m j g D i l
 |false=>exact o aa m j g D i l
def PJ:TS:=λ_ _ _=>False
theorem Wq:PS X st PJ:=λ_ _ _ _ _ _ h=>h.elim
end
abbrev TG:=V->St->Hp->(St->Hp->Prop)->Prop
abbrev mB:=aw->St->Hp->(St->Hp->Prop)->Prop
def PG(X:Cx)(a:Expr)(t:TG):Prop:=
 ∀(aa:aV)(s:ak)(j:St)(H:Hp)(v:V)(u:aj)(Q:St->Hp->Prop),au X aa j H s->aD v u->t v j H Q->
  wpAny (model X.prog X.w) X.A (assign a X.env u) (λ_ e=>∃d b,au X aa d b e/\Q d b) X.xe s
def oq(X:Cx)(e:bH)(t:mB):Prop:=
 ∀(aa:aV)(s:ak)(j:St)(H:Hp)(vs:aw)(us:aL)(Q:St->Hp->Prop),au X aa j H s->aE vs us->t vs j H Q->
  wpAny (model X.prog X.w) X.A (assignInOrder ((assignEach e X.env).map (·.2)) us) (λ_ d=>∃b a,au X aa b a d/\Q b a) X.xe s
abbrev CS:=V->V->V->Hp->(Hp->Prop)->Prop
def Dr(X:Cx)(t:CS):Prop:=
 ∀(aa:aV)(s:ak)(j:St)(H:Hp)(o i v:V)(ov b u:aj)(Q:Hp->Prop),au X aa j H s->aD o ov->aD i b->aD v u->t o i v H Q->
  wpAny (model X.prog X.w) X.A (setItem ov b u) (λ_ d=>∃a,au X aa j a d/\Q a) X.xe s
section
variable{X:Cx}{pos:Pos}
def jk(i:Nat):TG:=λv j H Q=>Q (j.set i (some v)) H
theorem uV(b:X.N.Nodup)(e:X.N[i]?=some x)(f:Loc X.env.scope x)(d:jR X x:=by first |exact .inl rfl |exact .inr rfl |assumption):PG X (.Name x pos) (jk i):=by
 intro aa s j H v u Q I r h;exact wpAny_assign_Name (sG I b e f r (λg a=>⟨_,H,a,h⟩) d)
def wu:mB:=λvs j H Q=>vs=[]/\Q j H
def yN(t:TG)(u:mB):mB:=λvs j H Q=>∃v r,vs=v::r/\t v j H λb a=>u r b a Q
theorem Ad:oq X [] wu:=by
 intro aa s j H vs us Q I r h;let⟨e,h⟩:=h;subst e;cases r;exact assignInOrder_nil ⟨j,H,I,h⟩
theorem Fw(g:PG X e t)(i:oq X es u)(hs:do (assignEach (e::es) X.env).map (·.2)=assign e X.env::(assignEach es X.env).map (·.2)):oq X (e::es) (yN t u):=by
 intro aa s j H vs us Q I r h;let⟨v,p,f,h⟩:=h;subst f;cases r with
 |cons r n=>
  rw[hs];refine assignInOrder_cons (bj (g aa s j H _ _ _ I r h) λ_ o a=>?_);let⟨l,b,d,m⟩:=a;exact i aa o l b _ _ Q d n m
def vd(K:ao)(n:Nat)(t:mB):TG:=λv j H Q=>∃a b,v=.ref a/\cU K H a b/\b.length=n/\t b j H Q
theorem z6(p:X.calm=true)(h:oq X es t)(hn:do (assignEach es X.env).length=n)(d:do (assignEach es X.env).findIdx? (·.1)=none):PG X (.Tuple es k pos) (vd X.K n t):=by
 intro aa s j H v u Q I r f;let⟨a,A,l,w,q,f⟩:=f;subst l;cases r;let⟨z,g,x,B⟩:=I.tuple w;refine assign_Tuple_tuple (I.ok.hd p) x (by simp[hn,<- q,g.length]) d λm y=>?_
 have i:au X aa j H { s with heap:=m }:=I.kept (t':=s.toks) λb o e=>y b o (ne_of_lt (Heap.lt_size e)) e
 exact h aa _ j H A _ Q i (by simpa using g) f
def A6(f e:TE)(t:CS):TG:=λv j H Q=>f j H λo a=>e j a λi b=>t o i v b λd=>Q j d
theorem Qy(q:PE X o to)(p:PE X i ti)(hs:Dr X t)(n:∀v,assign (.Subscript o i pos) X.env v=(do
   let ov <- holding [v] (eval o X.env)
   let b <- holding [v,ov] (eval i X.env)
   standAt pos
   holding [v,ov,b] (setItem ov b v)
   release [v,ov,b] []):=by intro _;rfl):PG X (.Subscript o i pos) (A6 to ti t):=by
 intro aa s j H v u Q I r h;rw[n];refine wpAny_bind (wpAny_holding (bj (q aa s j H _ I h) λov C a=>?_));let⟨x,d,g,B,w⟩:=a;refine wpAny_bind (wpAny_holding (bj (p aa C j d _ g w) λb D a=>?_));let⟨y,e,l,r2,z⟩:=a;refine wpAny_bind (wpAny_standAt (wpAny_bind (wpAny_holding (bj (hs aa D j e x y v ov b u _ l B r2 r z) λ_ E a=>?_))));let⟨f,m,A⟩:=a;exact wpAny_release ⟨j,f,m,A⟩
def kR(b:TE)(g:TG):TS:=λD j H=>b j H λx a=>g x j a D.nx
theorem z8(he:PE X e te)(i:PG X tg g)(hs:do swapsWithSole [tg] e pos.line X.env=pure false)(l:do swappedStores [tg] e X.env=pure none)(f:do (assignEach [tg] X.env).map (·.2)=[assign tg X.env]):PS X (.Assign [tg] e pos) (kR te g):=by
 intro aa s j H D I h;refine wpAny_Assign_stores (bj (he aa s j H _ I h) λv o a=>?_) hs l;let⟨x,b,d,n,m⟩:=a;rw[f];exact bj (i aa o j b x v _ d n m) λ_ p q=>q
theorem uG(g:X.N.Nodup)(m:X.N[i]?=some x)(n:Loc X.env.scope x)(he:PE X e te)(hs:do swapsWith e (some (.Name x pos')) pos.line X.env=pure false)(l:jR X x:=by first |exact .inl rfl |exact .inr rfl |assumption):
  PS X (.Assign [.Name x pos'] e pos) (kR te (jk i)):=by
 intro aa s j H D I h;refine wpAny_Assign_Name (bj (he aa s j H _ I h) λv q a=>?_) hs;let⟨y,b,d,p,o⟩:=a;exact sG d g m n p (λr f=>⟨_,b,f,o⟩) l
def y9(i j:Nat)(b:TA):TS:=λD G H=>b G H λvs a=>∃v w,vs=[v,w]/\D.nx ((G.set i (some v)).set j (some w)) a
theorem L6{kt k2 pt2}(hc:X.calm=true)(C:X.N.Nodup)(hi:X.N[i]?=some x)(hj:X.N[j]?=some y)(l:i≠j)(E:X.env.scope.names.lookup x=some .local)(J:X.env.scope.names.lookup y=some .local)(Y:PA X [a,b] ta)(hw:swappedStores [.Tuple [.Name x px,.Name y py] kt pt] (.Tuple [a,b] k2 pt2) X.env=pure (some [x,y]))(hs:do swapsWithSole [.Tuple [.Name x px,.Name y py] kt pt] (.Tuple [a,b] k2 pt2) pos.line X.env=pure false):
  PS X (.Assign [.Tuple [.Name x px,.Name y py] kt pt] (.Tuple [a,b] k2 pt2) pos) (y9 i j ta):=by
 intro aa s G H D I h;rw[exec_Assign_arm];refine wpAny_bind (wpAny_standAt ?_);rw[hs];refine wpAny_bind (wpAny_pure ?_);rw[if_neg ∎];refine wpAny_bind (Tuple_ (bj (Y _ aa s G H _ I h) λus d u=>?_));∎;let⟨vs,z,L,r1,n⟩:=u;let⟨v,w,U,n⟩:=n;∎;subst U;obtain⟨f,g,rfl,rv,r⟩:∃f g,us=[f,g]/\aD v f/\aD w g:=by
  cases r1 with
  |cons p q=>
   cases q with
   |cons p' q'=>
    cases q';exact⟨_,_,rfl,p,p'⟩
 refine wpAny_newObj_type ?_ (by show 2<=sizeLine;decide);have M:au X aa G z { d with heap:=d.heap.push { cls:=.type "tuple",data:=.seq [f,g].toArray } }:=L.kept (t':=d.toks) λb o e=>Heap.get?_push_of_some _ e
 rw[hw];refine wpAny_bind (wpAny_pure ?_);show wpAny (model X.prog X.w) X.A (do rule "assign.swapped-stores";let items <- unpackItems (.ref ⇑d) 2 none;assignInOrder [λv=>bindName X.env y v,λv=>bindName X.env x v] items.reverse;pure Flow.next) _ _ _;refine wpAny_bind (wpAny_rule (wpAny_bind (unpackItems_tuple (items:=#[f,g]) (I.ok.hd hc) (IsTup.new d.heap _) λh' m=>?_)));have O:=M.kept (h':=h') (t':=d.toks) λb o e=>m b o (ne_of_lt (Heap.lt_size e)) e
 show wpAny _ _ (assignInOrder [λv=>bindName X.env y v,λv=>bindName X.env x v] [g,f] >>= λ_=>pure Flow.next) _ _ _;refine wpAny_bind (assignInOrder_cons (wpAny_bindName (sG O C hj (.inl J) r (λs2 Q=>?_) (.inr J))));refine assignInOrder_cons (wpAny_bindName (sG Q C hi (.inl E) rv (λs3 B=>assignInOrder_nil (wpAny_pure ?_)) (.inr E)));rw[List.set_comm _ _ (Ne.symm l)] at B;exact⟨_,z,B,n⟩
end
section
variable{X:Cx}{pos:Pos}
def F8(c:TT)(tb:TS):TS:=λD j H=>∃W:Nat->St->Hp->Prop,(∃m,W m j H)/\∀m j H,W m j H->
 c j H λb d=>if b=true then ∃N:St->Hp->Prop,(∀e a,N e a->∃f,f<m/\W f e a)/\tb { D with nx:=N,ct:=N,bk:=D.nx } j d else D.nx j d
theorem KJ(hp:PassesOwn (model X.prog X.w) X.A X.env X.xe)(G:PT X c tc)(E:fy X body tb):PS X (.While c body [] pos) (F8 tc tb):=by
 intro aa s j H D I h;let⟨W,⟨J,Q⟩,turn⟩:=h;refine wpAny_While (codeAny_whileLoop (λn L=>∃B r,au X aa B r L/\W n B r) ?_ J ⟨j,H,I,Q⟩);rintro n M ⟨e,u,C,U⟩;refine wpAny_passesOwn hp (bj (G aa M e u _ C (turn n e u U)) λb O q=>?_);let⟨x,y,g⟩:=q;cases b with
 |true=>
  let⟨N,z,g⟩:=g;rw[if_pos rfl];refine wpAny_passesOwn hp (bj (E aa O e x _ y g) λf Y i=>?_);cases f with
  |next=>
   ∎;let⟨d,a,l,o⟩:=i;let⟨m,hm,p⟩:=z d a o;∎;exact⟨m,hm,d,a,l,p⟩
  |cont=>
   ∎;let⟨d,a,l,o⟩:=i;let⟨m,hm,p⟩:=z d a o;∎;exact⟨m,hm,d,a,l,p⟩
  |brk=>exact i
  |ret v=>exact i
 |false=>
  rw[if_neg Bool.false_ne_true];exact wpAny_execs_nil ⟨e,x,y,g⟩
end
structure It where
 go:Nat->Hp->Prop
 kr:Nat->Hp->V->Hp->Prop
 stop:Nat->Hp->Prop
def add(X:Cx)(aa:aV)(H:Hp)(b:af):Prop:=
 H b=none/\b≠X.env.locals/\b ∉ X.fs/\(b∈X.ex\/⇑X.s₀<=b)/\(∀x c,X.env.cells.lookup x=some c->c≠b)/\∀p∈X.pn++aa,p.1≠b
theorem au.fj{H d:Hp}(I:au X aa j H s)(a:⇑s<=b)(hn:d b=none):add X aa d b:=by
 refine⟨hn,Nat.ne_of_gt (lt_of_lt_of_le I.lt a),I.yy a,.inr (le_trans I.sz a),λx c e z=>?_,λp f z=>?_⟩
 .obtain⟨v,q⟩:=I.cell x c e;exact absurd (lt_of_lt_of_le q.lt (by rw[z];exact a)) (lt_irrefl _)
 .exact absurd (lt_of_lt_of_le (Heap.lt_size (I.pin p f).1) (by rw[z];exact a)) (lt_irrefl _)
structure ke(P:Program)(w:World)(K:ao)(tg:Expr)(J:It)(fp:cA)(it:af)(tn:Nat->aU->Prop):Prop where
 mem:it∈fp
 obj:∀i h,tn i h->∀b∈fp,∃o,h.get? b=some o/\∀v,o.data≠.cell v
 keep:∀i h h',tn i h->(∀b∈fp,∀o,h.get? b=some o->h'.get? b=some o)->tn i h'
 item:∀(X:Cx),X.prog=P->X.w=w->X.K=K->X.calm=true->∀(i:Nat)(aa:aV)(s:ak)(j:St)(H:Hp)(E:aj->ak->Prop),au X aa j H s->(∀b∈fp,add X aa H b)->tn i s.heap->J.go i H->
  wpAny (model P w) X.A (pyNext (.ref it)) (λr s1=>∃u,r=some u/\
   wpAny (model P w) X.A (letOwnedTupleGo tg (.ref it) u) (λ_ s2=>∃x H',au X aa j H' s2/\aD x u/\J.kr i H x H'/\tn (i+1) s2.heap/\∀b∈fp,H' b=none) E s1) E s
 done:∀(X:Cx),X.prog=P->X.w=w->X.K=K->X.calm=true->∀(i:Nat)(aa:aV)(s:ak)(j:St)(H:Hp)(E:aj->ak->Prop),au X aa j H s->(∀b∈fp,add X aa H b)->tn i s.heap->J.stop i H->
  wpAny (model P w) X.A (pyNext (.ref it)) (λr s1=>r=none/\au X aa j H s1) E s
 self:∀(A:Around)(i:Nat)(s:ak)(Q:aj->ak->Prop)(E:aj->ak->Prop),tn i s.heap->Q (.ref it) s->wpAny (model P w) A (pyIter (.ref it)) Q E s
abbrev TI:=St->Hp->(It->Hp->Prop)->Prop
def FC(X:Cx)(aa:aV)(j:St)(h:Expr)(R:It->Hp->Prop)(d:aj)(f:ak):Prop:=
 ∃(it:af)(e:cA)(g:Nat->aU->Prop)(J:It)(a:Hp),d=.ref it/\au X aa j a f/\ke X.prog X.w X.K h J e it g/\g 0 f.heap/\(∀b∈e,add X aa a b)/\R J a
def PI(X:Cx)(d a:Expr)(e:TI):Prop:=
 ∀(aa:aV)(s:ak)(j:St)(H:Hp)(R:It->Hp->Prop),au X aa j H s->e j H R->
  wpAny (model X.prog X.w) X.A (eval a X.env) (λv b=>wpAny (model X.prog X.w) X.A (pyIter v) (FC X aa j d R) X.xe b) X.xe s
theorem rJ{Q:Unit->ak->Prop}(d:s.heap.get? it=some o)(b:o.cls=.type n)(hd:o.data=.fields vs)(hn:["enumerate","zip","dict_itemiterator","dict_reverseitemiterator","odict_iterator","itertools.zip_longest","itertools.pairwise"].contains n=false)(a:Q () s):wpAny M A (letOwnedTupleGo tg (.ref it) u) Q E s:=by
 unfold letOwnedTupleGo;cases tg<;>first
  |exact wpAny_pure a
  |(cases u<;>first
    |exact wpAny_pure a
    | (refine wpAny_bind (wpAny_load d ?_)
       rw[b,hd];show wpAny M A (if (["enumerate","zip","dict_itemiterator","dict_reverseitemiterator","odict_iterator","itertools.zip_longest","itertools.pairwise"].contains n&&vs[0]? == some (rawInt _))=true then _ else _) Q E s;rw[if_neg (by intro h;rw[hn,Bool.false_and] at h;cases h)];exact wpAny_pure a))
def sN(K:ao)(a:af):It:=
 ⟨λi H=>∃b x,bC K H a b/\b[i]?=some x,λi H x d=>d=H/\∀b,bC K H a b->b[i]?=some x,λi H=>∃b,bC K H a b/\b.length<=i⟩
def mO(lo:Int)(n:Nat):It:=⟨λi _=>i<n,λi H x a=>a=H/\x=.int (lo+i),λi _=>n<=i⟩
theorem LA{P:Program}{w:World}{K:ao}{tg:Expr}(a it:af):ke P w K tg (sN K a) [it] it (λi h=>h.IsListIter it a i) where
 mem:=by simp
 obj:=λi h st b f=>by
  have e:b=it:=by simpa using f
  subst e;let⟨o,e,c,d⟩:=st;exact⟨o,e,λv z=>by rw[d] at z;cases z⟩
 keep:=λi h l st k=>st.at λo e=>k it (by simp) o e
 item:=by
  intro X D J C O i aa s j H E I m st G;subst D J C;∎;let⟨xs,x,n,L⟩:=G;let⟨M,N,p,hz⟩:=I.list n;let⟨u,Y,ru⟩:=N.get L;let⟨q,r,U,y,A,B⟩:=m it (by simp);∎;refine wpAny_pyNext_list_item st p.isList (x:=u) (by simpa using Y) λl g sb=>?_
  have Q:au X aa j H { s with heap:=l }:=I.turned (t':=s.toks) (λb o f e=>(sb.2 b f).trans e) q r y A B;let⟨o,e,c,d⟩:=id g;exact⟨u,rfl,rJ (s:={ s with heap:=l }) e c d ∎ ⟨x,H,Q,ru,⟨rfl,λys hy=>by rw[I.da hy n];exact L⟩,g,λb f=>(m b f).1⟩⟩
 done:=by
  intro X D J C O i aa s j H E I m st G;subst D J C;∎;let⟨xs,n,L⟩:=G;let⟨M,N,p,hz⟩:=I.list n;let⟨q,r,U,y,A,B⟩:=m it (by simp);∎;have hl:=N.length;exact wpAny_pyNext_list_end (I.ok.hd O) st p.isList (by simp;omega) λl eb=>⟨rfl,I.turned (t':=s.toks) (λb o f e=>eb b o f e) q r y A B⟩
 self:=λ_ _ _ _ _ st h=>wpAny_pyIter_listiter st h
theorem NV{P:Program}{w:World}{K:PySem.W.Frag}{M:Expr}(it:af)(lo:Int)(n:Nat):ke P w K M (mO lo n) [it] it (λi h=>IsRangeIter h it (lo+(i:Nat)*1) ((n:Int) - (i:Nat)) 1) where
 mem:=by simp
 obj:=λi h st b a=>by
  have e:b=it:=by simpa using a
  subst e;exact⟨_,st,λv z=>by
   have N:Data.fields _=Data.cell v:=z;cases N⟩
 keep:=λi h f st k=>k it (by simp) _ st
 item:=by
  intro X x B u y i aa s j H E I g st A;subst x B u;let⟨l,m,G,p,q,r⟩:=g it (by simp);have W:=Walks.range (prog:=X.prog) (w:=X.w) (I.ok.hd y) it lo 1 n;refine W.item i s _ _ A st λv f C J d L=>?_
  let⟨t,rfl⟩:=J;have D:au X aa j H { s with heap:=f,toks:=C }:=I.turned (λb o a e=>L b o (by simpa using a) e) l m p q r;refine⟨_,rfl,rJ (s:={ s with heap:=f,toks:=C }) (n:="range_iterator") d rfl rfl ∎ ⟨.int (lo+i),H,D,⟨t,?_⟩,⟨rfl,rfl⟩,d,λb a=>(g b a).1⟩⟩;rw[Int.mul_one]
 done:=by
  intro X x B u y i aa s j H E I g st A;subst x B u;let⟨l,m,G,p,q,r⟩:=g it (by simp);exact wpAny_pyNext_range_end (I.ok.hd y) st (by have:n<=i:=A;omega) λf eb=>⟨rfl,I.turned (t':=s.toks) (λb o a e=>eb b o a e) l m p q r⟩
 self:=λ_ _ _ _ _ st h=>wpAny_pyIter_rangeiter st h
section
variable{X:Cx}{tg:Expr}
def AO(K:ao)(d:TE):TI:=λj H R=>d j H λx b=>∃a,x=.ref a/\(∃e,bC K b a e)/\R (sN K a) b
theorem PM{l:Expr}{i:TE}(r:PE X l i):PI X tg l (AO X.K i):=by
 intro aa s j H R I h;refine bj (r aa s j H _ I h) λv f g=>?_
 ∎;let⟨x,m,d,z,y⟩:=g;let⟨a,e,⟨C,u⟩,q⟩:=y;∎;subst e;cases z;let⟨w,B,p,A⟩:=d.list u;refine wpAny_pyIter_list p.isList ?_;refine⟨⇑f,[⇑f],_,_,m,rfl,d.kept (t':=f.toks) λb o e=>Heap.get?_push_of_some _ e,LA a _,⟨_,Heap.get?_push_size _ rfl,rfl,rfl⟩,λb n=>?_,q⟩;have e:b=⇑f:=by simpa using n
 subst e;exact d.fj (le_refl _) (d.aN.fresh (le_refl _))
theorem Dy{aa:aV}{j:St}{H:Hp}{s:ak}{R:It->Hp->Prop}{E:aj->ak->Prop}{lo a:Int}{t u v:Tok}{f:Nat}(I:au X aa j H s)(h:-(2 ^ 62)<=lo)(i:lo<2 ^ 62)(l:-(2 ^ 62)<=a)(m:a<2 ^ 62)(q:R (mO lo (a - lo).toNat) H):wpAny (model X.prog X.w) X.A (pyIter (.ref ⇑s)) (FC X aa j tg R) E { s with heap:=s.heap.push { cls:=.type "range",data:=.fields #[.int lo t,.int a u,.int 1 v] },toks:=f }:=by
 refine wpAny_pyIter_range (IsRange.new ..) (small_one h i l m) ?_;have d:au X aa j H { s with heap:=s.heap.push { cls:=.type "range",data:=.fields #[.int lo t,.int a u,.int 1 v] },toks:=f }:=I.kept λb o e=>Heap.get?_push_of_some _ e
 refine⟨(s.heap.push { cls:=.type "range",data:=.fields #[.int lo t,.int a u,.int 1 v] }).objs.size,[(s.heap.push { cls:=.type "range",data:=.fields #[.int lo t,.int a u,.int 1 v] }).objs.size],_,_,H,rfl,
  d.kept (t':=f) λb o e=>Heap.get?_push_of_some _ e,NV _ lo (a - lo).toNat,?_,λb n=>?_,q⟩
 .have e1:lo+((0:Nat):Int)*1=lo:=by simp
  have g:(((a - lo).toNat:Nat):Int) - ((0:Nat):Int)=Builtin.Range.rangeSize lo a 1:=by rw[rangeSize_one];split<;>omega
  show IsRangeIter _ _ (lo+((0:Nat):Int)*1) ((((a - lo).toNat:Nat):Int) - ((0:Nat):Int)) 1;rw[e1,g];exact Heap.get?_push_size _ rfl
 .have e:b=(s.heap.push { cls:=.type "range",data:=.fields #[.int lo t,.int a u,.int 1 v] }).objs.size:=by simpa using n
  subst e;exact d.fj (le_refl _) (d.aN.fresh (le_refl _))
def BE(b:TA):TI:=λi H R=>b i H λvs a=>∃j:Int,vs=[.int j]/\-(2 ^ 62)<=j/\j<2 ^ 62/\R (mO 0 j.toNat) a
def FW(b:TA):TI:=λG H R=>b G H λvs a=>∃i j:Int,vs=[.int i,.int j]/\(-(2 ^ 62)<=i/\i<2 ^ 62/\-(2 ^ 62)<=j/\j<2 ^ 62)/\R (mO i (j - i).toNat) a
theorem Oe{a:Expr}{f:TA}{p pos:Pos}(m:Gl X "range")(hm:X.mg "range"=none)(l:PA X [a] f)(hs:do ki a X.env):PI X tg (.Call (.Name "range" p) [a] [] pos) (BE f):=by
 intro aa s i H R I h;refine Call_ (jh I m hm boot_range (PyProof.Rows.callWith_type1 (bj (l pos aa s i H _ I h) λus w d=>?_) hs rfl));∎;let⟨vs,v,g,o,b⟩:=d;let⟨j,e,b,n,q⟩:=b;∎;subst e;cases o with
 |cons r u=>
  cases u;let⟨t,rfl⟩:=r;exact call_range_1 (Dy g ⋯ ⋯ b n (by simpa using q))
theorem V6(o:Gl X "range")(hm:X.mg "range"=none)(n:PA X [a,b] ta)(hs:do oO a b X.env)(d:do ki b X.env):
  PI X tg (.Call (.Name "range" p) [a,b] [] pos) (FW ta):=by
 intro aa s G H R I h;refine Call_ (jh I o hm boot_range (PyProof.Rows.callWith_type1 (bj (n pos aa s G H _ I h) λus A l=>?_) (by rw[hs,d]) (by rw[d];rfl)));∎;let⟨vs,z,m,y,f⟩:=l;let⟨i,j,e,⟨f,u,v,w⟩,q⟩:=f;∎;subst e;cases y with
 |cons r g=>
  cases g with
  |cons x g=>
   cases g;let⟨t,rfl⟩:=r;let⟨B,rfl⟩:=x;exact call_range_2 (Dy m f u v w q)
def xV(l:TI)(g:TG)(tb:TS):TS:=λD j H=>l j H λJ e=>∃W:Nat->Nat->St->Hp->Prop,(∃m,W 0 m j e)/\∀i m j H,W i m j H->
 (J.stop i H/\D.nx j H)\/(J.go i H/\∃N:St->Hp->Prop,(∀b a,N b a->∃d,d<m/\W (i+1) d b a)/\∀x a,J.kr i H x a->g x j a λh f=>tb { D with nx:=N,ct:=N,bk:=D.nx } h f)
def pJ(fp:cA)(h:aU):aV:=fp.filterMap λb=>(h.get? b).map λo=>(b,o)
theorem tK(a:b∈fp)(e:h.get? b=some o):(b,o)∈pJ fp h:=mem_filterMap.mpr ⟨b,a,by rw[e];rfl⟩
theorem UK(hp:p∈pJ fp h):p.1∈fp/\h.get? p.1=some p.2:=by
 let⟨b,d,e⟩:=mem_filterMap.mp hp;cases q:h.get? b with
 |none=>rw[q] at e;cases e
 |some o=>
  rw[q] at e;have a:(b,o)=p:=Option.some.inj e;subst a;exact⟨d,q⟩
theorem au.pinned(I:au X aa j H s)(l:∀b∈fp,add X aa H b)(m:∀b∈fp,∃o,s.heap.get? b=some o/\∀v,o.data≠.cell v):au X (aa++pJ fp s.heap) j H s:=
 I.eP λp n=>(mem_append.mp n).elim (λz=>I.pin p (mem_append_right _ z)) λz=>by
  ∎;let⟨f,e⟩:=UK z;let⟨g,h,i,_⟩:=l p.1 f;let⟨o,a,d⟩:=m p.1 f;∎;rw[e] at a;cases a;exact⟨e,g,h,i,d⟩
theorem au.fh(I:au X (aa++pl) j H s):au X aa j H s:=I.eP λp a=>I.pin p (mem_append_right _ (List.mem_append_left _ a))
theorem Gi(hp:PassesOwn (model X.prog X.w) X.A X.env X.xe)(hc:X.calm=true)(hi:PI X tg iter wi)(hg:PG X tg g)(q:fy X body tb)(hs:∀x,foldedSetIterable iter X.env x=pure x:=by intro _;rfl):PS X (.For tg iter body [] pos) (xV wi g tb):=by
 intro aa s j H D I h;refine wpAny_For (bj (hi aa s j H _ I h) λv s1 h1=>bj h1 λδ s2 h2=>?_) hs;let⟨it,G,tn,J,H2,e,I2,T,γ,f2,W,⟨m0,w0⟩,turn⟩:=h2;subst e;have z:∀{B:Hp},(∀b∈G,B b=none)->∀b∈G,add X aa B b:=λhn b q=>⟨hn b q,(f2 b q).2⟩
 refine codeAny_forLoop_any (λn s'=>∃i M B,au X aa M B s'/\tn i s'.heap/\(∀b∈G,B b=none)/\W i n M B) ?_ m0 ⟨0,j,H2,I2,γ,λb q=>(f2 b q).1,w0⟩;rintro n s3 ⟨i,O,Y,I3,U,L,w3⟩;rcases turn i n O Y w3 with⟨stop,qn⟩ |⟨go,N,hN,step⟩
 .refine wpAny_passesOwn hp (bj (T.done X rfl rfl rfl hc i aa s3 O Y X.xe I3 (z L) U stop) λr s4 a=>?_);let⟨hr,I4⟩:=a;subst hr;exact wpAny_execs_nil ⟨O,Y,I4,qn⟩
 .refine wpAny_passesOwn hp (bj (T.item X rfl rfl rfl hc i aa s3 O Y X.xe I3 (z L) U go) λr s4 a=>?_);let⟨u,hr,h4⟩:=a;subst hr;refine wpAny_passesOwn hp (bj h4 λ_ s5 a=>?_);let⟨x,H5,I5,r5,y5,E,β⟩:=a;have α:=I5.pinned (z β) (T.obj _ _ E);refine wpAny_passesOwn hp (bj (hg _ s5 O H5 x u _ α r5 (step x H5 y5)) λ_ s6 a=>?_);let⟨j6,H6,I6,q6⟩:=a;refine wpAny_passesOwn hp (bj (q _ s6 j6 H6 _ I6 q6) λf s7 C=>?_);have again:∀{y:St}{l:Hp},au X (aa++pJ G s5.heap) y l s7->N y l->∃m,m<n/\∃i M B,au X aa M B s7/\tn i s7.heap/\(∀b∈G,B b=none)/\W i m M B:=λ{y l} p Q=>by
   let⟨m',hm,w7⟩:=hN y l Q;refine⟨m',hm,i+1,y,l,p.fh,T.keep _ _ _ E λb q o e=>(p.pin (b,o) (mem_append_right _ (mem_append_right _ (tK q e)))).1,λb q=>?_,w7⟩;let⟨o,e,d⟩:=T.obj _ _ E b q;exact (p.pin (b,o) (mem_append_right _ (mem_append_right _ (tK q e)))).2.1
  cases f with
  |next=>let⟨y,l,p,Q⟩:=C;exact again p Q
  |cont=>let⟨y,l,p,Q⟩:=C;exact again p Q
  |brk=>let⟨y,l,p,C⟩:=C;exact⟨y,l,p.fh,C⟩
  |ret v=>let⟨x7,y,l,p,r7,C⟩:=C;exact⟨x7,y,l,p.fh,r7,C⟩
end
abbrev R2:=V->V->Hp->VK->Prop
def b4(X:Cx)(f:aj->aj->Sem Value)(r:R2):Prop:=
 ∀(aa:aV)(s:ak)(j:St)(H:Hp)(x y:V)(v u:aj)(Q:VK),au X aa j H s->aD x v->aD y u->r x y H Q->
  wpAny (model X.prog X.w) X.A (f v u) (EP X aa j Q) X.xe s
def vC(X:Cx)(f:aj->Sem Value)(r:V->Hp->VK->Prop):Prop:=
 ∀(aa:aV)(s:ak)(j:St)(H:Hp)(x:V)(v:aj)(Q:VK),au X aa j H s->aD x v->r x H Q->
  wpAny (model X.prog X.w) X.A (f v) (EP X aa j Q) X.xe s
def bL(X:Cx)(f:aj)(r:aw->Hp->VK->Prop):Prop:=
 ∀(aa:aV)(s:ak)(j:St)(H:Hp)(a:aw)(us:aL)(Q:VK),au X aa j H s->aE a us->r a H Q->
  wpAny (model X.prog X.w) X.A (call f us) (EP X aa j Q) X.xe s
def Lq(X:Cx)(r:V->Hp->(Bool->Hp->Prop)->Prop):Prop:=
 ∀(aa:aV)(s:ak)(j:St)(H:Hp)(x:V)(v:aj)(Q:Bool->Hp->Prop),au X aa j H s->aD x v->r x H Q->
  wpAny (model X.prog X.w) X.A (truthy v) (TP X aa j Q) X.xe s
def l8(r:R2)(d tb:TE):TE:=λj H Q=>d j H λx a=>tb j a λy b=>r x y b Q
def Aw(r:V->Hp->VK->Prop)(b:TE):TE:=λj H Q=>b j H λx a=>r x a Q
def rI(C:Int->Int->Prop)(g:Int->Int->V):R2:=λx y H Q=>∃i j,x=.int i/\y=.int j/\C i j/\Q (g i j) H
def iX(g:Int->Int->V):R2:=λx y H Q=>∃i j,x=.int i/\y=.int j/\Q (g i j) H
def rU(g:Int->V):V->Hp->VK->Prop:=λx H Q=>∃i,x=.int i/\Q (g i) H
section
variable{X:Cx}{a b c:Expr}{ta tb tc:TE}{pos:Pos}
theorem yA(p:PE X a ta)(q:PE X b tb){R:V->V->Hp->Prop}(I:au X aa j H s)(h:ta j H λx m=>tb j m λy e=>R x y e){f:aj->aj->Sem Value}(r:∀v u l x y e,au X aa j e l->aD x v->aD y u->R x y e->wpAny (model X.prog X.w) X.A (f v u) Q X.xe l):
  wpAny (model X.prog X.w) X.A (eval a X.env) (λv g=>wpAny (model X.prog X.w) X.A (eval b X.env) (λu i=>wpAny (model X.prog X.w) X.A (f v u) Q X.xe i) X.xe g) X.xe s:=by
 refine bj (p aa s j H _ I h) λv D d=>?_
 let⟨x,m,n,C,z⟩:=d;refine bj (q aa D j m _ n z) λu l d=>?_
 let⟨y,e,o,r2,B⟩:=d;exact r v u l x y e o C r2 B
theorem Jr(i:b4 X (binaryOp op) r)(f:PE X a ta)(g:PE X b tb):PE X (.BinOp a op b pos) (l8 r ta tb):=by
 intro aa s j H Q I h;exact wpAny_BinOp (yA f g I h λv u n x y d e l m q=>i aa n j d x y v u Q e l m q)
theorem Q5(i:vC X (unaryOp op) r)(g:PE X a ta):PE X (.UnaryOp op a pos) (Aw r ta):=by
 intro aa s j H Q I h;exact UnaryOp_ (bj (g aa s j H _ I h) λv n d=>by let⟨x,e,f,m,l⟩:=d;exact i aa n j e x v Q f m l)
theorem sr{f:aj->aj->Sem Value}{C:Int->Int->Prop}{g:Int->Int->Int}(rule:∀(i j:Int)(t u:Tok)(s:ak)(Q:aj->ak->Prop)(E:aj->ak->Prop),C i j->Q (.int (g i j) s.toks) { s with toks:=s.toks+1 }->wpAny (model X.prog X.w) X.A (f (.int i t) (.int j u)) Q E s):
  b4 X f (rI C λi j=>.int (g i j)):=by
 intro aa s G H x y v u Q I e l h;∎;let⟨i,j,rfl,rfl,d,q⟩:=h;let⟨t,rfl⟩:=e;let⟨m,rfl⟩:=l;∎;exact rule i j t m s _ _ d ⟨.int (g i j),H,I.tok _,⟨_,rfl⟩,q⟩
theorem Ax{f:aj->aj->Sem Value}{g:Int->Int->Int}(rule:∀(i j:Int)(t u:Tok)(s:ak)(Q:aj->ak->Prop)(E:aj->ak->Prop),Q (.int (g i j) s.toks) { s with toks:=s.toks+1 }->wpAny (model X.prog X.w) X.A (f (.int i t) (.int j u)) Q E s):
  b4 X f (iX λi j=>.int (g i j)):=by
 intro aa s G H x y v u Q I d e h;∎;let⟨i,j,rfl,rfl,q⟩:=h;let⟨t,rfl⟩:=d;let⟨l,rfl⟩:=e;∎;exact rule i j t l s _ _ ⟨.int (g i j),H,I.tok _,⟨_,rfl⟩,q⟩
theorem yB{f:aj->aj->Sem Value}{g:Int->Int->Bool}(rule:∀(i j:Int)(t u:Tok)(s:ak)(Q:aj->ak->Prop)(E:aj->ak->Prop),Q (.bool (g i j)) s->wpAny (model X.prog X.w) X.A (f (.int i t) (.int j u)) Q E s):
  b4 X f (iX λi j=>.bl (g i j)):=by
 intro aa s G H x y v u Q I d e h;∎;let⟨i,j,rfl,rfl,q⟩:=h;let⟨t,rfl⟩:=d;let⟨l,rfl⟩:=e;∎;exact rule i j t l s _ _ ⟨.bl (g i j),H,I,rfl,q⟩
def uO(i j:Int):Prop:=0<=j/\j<=1000000/\i.natAbs<2 ^ 64
def kG(i j:Int):Prop:=(-(2 ^ 64)<i/\i<2 ^ 64)\/(-(2 ^ 64)<j/\j<2 ^ 64)
theorem kG.ok(h:kG i j):IntMulOk i j:=by
 rcases h with⟨d,e⟩ |⟨d,e⟩
 .exact .of_left (intBits_le_64 d e)
 .exact .of_right (intBits_le_64 d e)
theorem UJ:b4 X (binaryOp .Add) (iX λi j=>.int (i+j)):=Ax λ_ _ _ _ _ _ _ q=>add_int q
theorem Ni:b4 X (binaryOp .Sub) (iX λi j=>.int (i - j)):=Ax λ_ _ _ _ _ _ _ q=>sub_int q
theorem J9:b4 X (binaryOp .Mod) (rI (λ_ j=>0<j) λi j=>.int (i % j)):=sr λi j _ _ _ _ _ d q=>by
 have e:(0:Int)<j:=d;exact mod_int' ⋯ (by rw[Int.fmod_eq_emod_of_nonneg i ⋯];exact q)
theorem Qq:b4 X (binaryOp .Pow) (rI uO λi j=>.int (i ^ j.toNat)):=sr λ_ _ _ _ _ _ _ d q=>pow_int_small d.1 d.2.1 d.2.2 q
theorem OH{f:aj->Sem Value}{g:Int->Int}(rule:∀(i:Int)(t:Tok)(s:ak)(Q:aj->ak->Prop)(E:aj->ak->Prop),Q (.int (g i) s.toks) { s with toks:=s.toks+1 }->wpAny (model X.prog X.w) X.A (f (.int i t)) Q E s):
  vC X f (rU λi=>.int (g i)):=by
 intro aa s j H x v Q I d h;∎;let⟨i,rfl,q⟩:=h;let⟨t,rfl⟩:=d;∎;exact rule i t s _ _ ⟨.int (g i),H,I.tok _,⟨_,rfl⟩,q⟩
theorem KA:vC X (unaryOp .USub) (rU λi=>.int (-i)):=OH λ_ _ _ _ _ q=>neg_int q
end
def ym:V->V->Bool
 |.aM,.aM=>true |.aM,.int _=>true |.int _,.aM=>true |.aM,.bl _=>true |.bl _,.aM=>true |.aM,.str _=>true |.str _,.aM=>true
 |.int _,.int _=>true |.bl _,.bl _=>true |.str _,.str _=>true |.gg _,.gg _=>true
 |.int _,.str _=>true |.str _,.int _=>true |.bl _,.str _=>true |.str _,.bl _=>true
 |_,_=>false
def uZ:R2:=λx y H Q=>ym x y=true/\Q (.bl (decide (x=y))) H
def qF:R2:=λx y H Q=>ym x y=true/\Q (.bl (!decide (x=y))) H
theorem EF:decide (V.int i=V.int j)=(i == j):=by
 rw[Bool.eq_iff_iff];simp
theorem zN:decide (V.bl i=V.bl j)=(i == j):=by
 rw[Bool.eq_iff_iff];simp
theorem zT:decide (V.str i=V.str j)=(i == j):=by
 rw[Bool.eq_iff_iff];simp
theorem AQ:decide (V.gg i=V.gg j)=(i.toList == j.toList):=by
 rw[Bool.eq_iff_iff];cases i;cases j;simp
section
variable{X:Cx}{a b c:Expr}{ta tb tc:TE}{pos:Pos}
theorem cJ{Q:VK}(I:au X aa j H s)(q:Q (.bl k) H)(e:k=k'):EP X aa j Q (.bool k') s:=by
 subst e;exact⟨.bl k,H,I,rfl,q⟩
theorem JY:b4 X (compareOp .Eq) uZ:=by
 intro aa s G H x y v u Q I g d h;let⟨f,q⟩:=h;cases x with
 |aM=>
  cases g;cases y with
  |aM=>cases d;exact PySem.EqNone.eq_none_none (cJ I q (by simp))
  |bl j=>cases d;exact PySem.EqNone.eq_none_bool (cJ I q (by simp))
  |int j=>let⟨e,rfl⟩:=d;exact PySem.EqNone.eq_none_int (cJ I q (by simp))
  |str j=>let⟨e,rfl⟩:=d;exact PySem.EqNone.eq_none_str (cJ I q (by simp))
  |_=>exact absurd (show false=true from f) Bool.false_ne_true
 |bl i=>
  cases g;cases y with
  |aM=>cases d;exact PySem.EqNone.eq_bool_none (cJ I q (by simp))
  |bl j=>cases d;exact eq_bool (cJ I q zN)
  |str j=>let⟨e,rfl⟩:=d;exact PySem.EqMixed.eq_bool_str (cJ I q (by simp))
  |_=>exact absurd (show false=true from f) Bool.false_ne_true
 |int i=>
  let⟨t,rfl⟩:=g;cases y with
  |aM=>cases d;exact PySem.EqNone.eq_int_none (cJ I q (by simp))
  |int j=>let⟨e,rfl⟩:=d;exact eq_int (cJ I q EF)
  |str j=>let⟨e,rfl⟩:=d;exact PySem.EqMixed.eq_int_str (cJ I q (by simp))
  |_=>exact absurd (show false=true from f) Bool.false_ne_true
 |str i=>
  let⟨t,rfl⟩:=g;cases y with
  |aM=>cases d;exact PySem.EqNone.eq_str_none (cJ I q (by simp))
  |bl j=>cases d;exact PySem.EqMixed.eq_str_bool (cJ I q (by simp))
  |int j=>let⟨e,rfl⟩:=d;exact PySem.EqMixed.eq_str_int (cJ I q (by simp))
  |str j=>let⟨e,rfl⟩:=d;exact eq_str (cJ I q zT)
  |_=>exact absurd (show false=true from f) Bool.false_ne_true
 |gg i=>
  let⟨t,rfl⟩:=g;cases y with
  |gg j=>let⟨e,rfl⟩:=d;exact W.eq_bytes (cJ I q AQ)
  |_=>exact absurd (show false=true from f) Bool.false_ne_true
 |_=>cases y <;> exact absurd (show false=true from f) Bool.false_ne_true
theorem C2:b4 X (compareOp .NotEq) qF:=by
 intro aa s G H x y v u Q I g d h;let⟨f,q⟩:=h;cases x with
 |aM=>
  cases g;cases y with
  |aM=>cases d;exact PySem.EqNone.ne_none_none (cJ I q (by simp))
  |bl j=>cases d;exact PySem.EqNone.ne_none_bool (cJ I q (by simp))
  |int j=>let⟨e,rfl⟩:=d;exact PySem.EqNone.ne_none_int (cJ I q (by simp))
  |str j=>let⟨e,rfl⟩:=d;exact PySem.EqNone.ne_none_str (cJ I q (by simp))
  |_=>exact absurd (show false=true from f) Bool.false_ne_true
 |bl i=>
  cases g;cases y with
  |aM=>cases d;exact PySem.EqNone.ne_bool_none (cJ I q (by simp))
  |bl j=>cases d;exact ne_bool (cJ I q (congrArg not zN))
  |str j=>let⟨e,rfl⟩:=d;exact PySem.EqMixed.ne_bool_str (cJ I q (by simp))
  |_=>exact absurd (show false=true from f) Bool.false_ne_true
 |int i=>
  let⟨t,rfl⟩:=g;cases y with
  |aM=>cases d;exact PySem.EqNone.ne_int_none (cJ I q (by simp))
  |int j=>let⟨e,rfl⟩:=d;exact ne_int (cJ I q (congrArg not EF))
  |str j=>let⟨e,rfl⟩:=d;exact PySem.EqMixed.ne_int_str (cJ I q (by simp))
  |_=>exact absurd (show false=true from f) Bool.false_ne_true
 |str i=>
  let⟨t,rfl⟩:=g;cases y with
  |aM=>cases d;exact PySem.EqNone.ne_str_none (cJ I q (by simp))
  |bl j=>cases d;exact PySem.EqMixed.ne_str_bool (cJ I q (by simp))
  |int j=>let⟨e,rfl⟩:=d;exact PySem.EqMixed.ne_str_int (cJ I q (by simp))
  |str j=>let⟨e,rfl⟩:=d;exact ne_str (cJ I q (congrArg not zT))
  |_=>exact absurd (show false=true from f) Bool.false_ne_true
 |gg i=>
  let⟨t,rfl⟩:=g;cases y with
  |gg j=>let⟨e,rfl⟩:=d;exact W.ne_bytes (cJ I q (congrArg not AQ))
  |_=>exact absurd (show false=true from f) Bool.false_ne_true
 |_=>cases y <;> exact absurd (show false=true from f) Bool.false_ne_true
theorem SF:b4 X (compareOp .Lt) (iX λi j=>.bl (decide (i<j))):=yB λ_ _ _ _ _ _ _ q=>lt_int q
theorem N4:b4 X (compareOp .Gt) (iX λi j=>.bl (decide (j<i))):=yB λ_ _ _ _ _ _ _ q=>gt_int q
theorem IE:b4 X (compareOp .GtE) (iX λi j=>.bl (decide (j<=i))):=yB λ_ _ _ _ _ _ _ q=>ge_int q
theorem MY:b4 X (compareOp .Lt) (λx y H Q=>∃i j,x=.str i/\y=.str j/\Q (.bl (decide (i.cps.toList<j.cps.toList))) H):=by
 intro aa s G H x y v u Q I d e h;∎;let⟨i,j,rfl,rfl,q⟩:=h;let⟨t,rfl⟩:=d;let⟨f,rfl⟩:=e;∎;exact lt_str (cJ I q rfl)
theorem Sb:b4 X (compareOp .Is) (λx y H Q=>y=.aM/\Q (.bl (decide (x=.aM))) H):=by
 intro aa s j H x y v u Q I d e h;let⟨rfl,q⟩:=h;cases e;refine is_none_gen (cJ I q ?_);cases x<;>first
  |(cases d;rfl)
  |(let⟨t,rfl⟩:=d;rfl)
theorem TR:b4 X (compareOp .IsNot) (λx y H Q=>y=.aM/\Q (.bl (!decide (x=.aM))) H):=by
 intro aa s j H x y v u Q I d e h;let⟨rfl,q⟩:=h;cases e;refine isnot_none_gen (cJ I q ?_);cases x<;>first
  |(cases d;rfl)
  |(let⟨t,rfl⟩:=d;rfl)
theorem b4.or{r d:R2}(h:b4 X f r)(h':b4 X f d):b4 X f (λx y H Q=>r x y H Q\/d x y H Q):=by
 intro aa s j H x y v u Q I e g q;rcases q with q |q
 .exact h aa s j H x y v u Q I e g q
 .exact h' aa s j H x y v u Q I e g q
theorem WE(b:Expr)(h: ~~~(op≠.In))(f: ~~~(op≠.NotIn)):behindInMarks op b=false:=by
 have d:(op == CmpOp.In)=false:=by cases op<;>first |rfl |exact absurd rfl h
 have e:(op == CmpOp.NotIn)=false:=by cases op<;>first |rfl |exact absurd rfl f
 cases b<;>simp[behindInMarks,d,e]
theorem Lc(i:b4 X (compareOp op) r)(f:PE X a ta)(g:PE X b tb)(hm:behindInMarks op b=false):PE X (.Compare a [op] [b] pos) (l8 r ta tb):=by
 intro aa s j H Q I h;exact wpAny_Compare1 (yA f g I h λv u n x y d e l m q=>i aa n j d x y v u Q e l m q) hm
def rS(t:TE):TT:=λj H Q=>t j H λx H'=>∃k,x=.bl k/\Q k H'
theorem De(g:b4 X (compareOp op) r)(d:PE X a ta)(f:PE X b tb)(hm:behindInMarks op b=false):PT X (.Compare a [op] [b] pos) (rS (l8 r ta tb)):=by
 intro aa s j H Q I h;refine wpAny_isTrue_Compare1 (bj (d aa s j H _ I h) λv i ⟨x,H1,I1,r1,q1⟩=>bj (f aa i j H1 _ I1 q1) λu l ⟨y,H2,I2,r2,q2⟩=>
  bj (g aa l j H2 x y v u _ I2 r1 r2 q2) λc m ⟨z,H3,I3,r3,k,e,q3⟩=>?_) hm
 subst e;cases r3;exact wpAny_truthy_bool ⟨H3,I3,q3⟩
def vN(K:ao)(x:V)(H:Hp)(k:Bool):Prop:=
 match x with
 |.aM=>k=false
 |.bl b=>k=b
 |.int i=>k=(i != 0)
 |.str y=>y.length <= sizeLine /\ k=((y.length:Int) != 0)
 |.gg y=>y.size <= sizeLine /\ k=((y.size:Int) != 0)
 |.ref p=>(∃e,bC K H p e /\ k = !e.isEmpty) \/ (∃e,cU K H p e /\ k = !e.isEmpty) \/ ∃d,H p=some (.dK d) /\ k = !d.isEmpty
 |_=>False
theorem RK(r:KV kvs vs):(!vs.isEmpty)=!kvs.isEmpty:=by
 cases r<;>rfl
theorem Gh(r:aE xs bo):(!bo.toArray.isEmpty)=!xs.isEmpty:=by
 cases r<;>simp
theorem oo:(sizeLine:Nat)<2 ^ 63:=by rw[sizeLine_eq];decide
theorem Ob:Lq X (λx H Q=>∃k,vN X.K x H k/\Q k H):=by
 intro aa s j H x v Q I n h;let⟨k,e,q⟩:=h;have D:=oo;have E:sizeLine=16777216:=sizeLine_eq;cases x with
 |aM=>
  cases n;have d:k=false:=e;subst d;exact truthy_none ⟨H,I,q⟩
 |bl b=>
  cases n;have d:k=b:=e;subst d;exact wpAny_truthy_bool ⟨H,I,q⟩
 |int i=>
  let⟨t,rfl⟩:=n;have d:k=(i != 0):=e;subst d;exact PySem.P.truthy_int ⟨H,I,q⟩
 |str y=>
  let⟨t,rfl⟩:=n;obtain⟨C,d⟩:y.length<=sizeLine/\k=((y.length:Int) != 0):=e;subst d;exact PySem.P.truthy_str ⋯ ⟨H,I.tok _,q⟩
 |gg y=>
  let⟨t,rfl⟩:=n;obtain⟨C,d⟩:y.size<=sizeLine/\k=((y.size:Int) != 0):=e;subst d;exact W.truthy_bytes ⋯ ⟨H,I.tok _,q⟩
 |ref p=>
  cases n;have d:(∃l,bC X.K H p l/\k=!l.isEmpty)\/(∃l,cU X.K H p l/\k=!l.isEmpty)\/∃f,H p=some (.dK f)/\k=!f.isEmpty:=e;rcases d with⟨l,o,d⟩ |⟨l,o,d⟩ |⟨f,o,d⟩
  .subst d;let⟨u,r,z,A⟩:=I.list o;have g:=r.length;exact wpAny_truthy_list z.isList (by simp only[size_toArray];omega) ⟨H,I.tok _,by rw[Gh r];exact q⟩
  .subst d;let⟨u,r,z,A⟩:=I.tuple o;have g:=r.length;exact truthy_tuple z (by simp only[size_toArray];omega) ⟨H,I.tok _,by rw[Gh r];exact q⟩
  .subst d;obtain⟨A,B,vs,r,m⟩:f.length<=sizeLine/\(p == sysModules)=false/\∃vs,KV f vs/\s.heap.DictOf (eB X.prog X.w) p vs:=I.aN p _ o;have g:f.length=vs.length:=Paired.length r;exact wpAny_truthy_dict B m ⋯ ⟨H,I.tok _,by rw[RK r];exact q⟩
 |_=>exact (show False from e).elim
theorem RN(i:PE X a ta)(he:∀whole,isTrue a X.env whole=(do let v <- whole;standAt a.pos;holding [v] (truthy v))):
  PT X a (λj H Q=>ta j H λx e=>∃k,vN X.K x e k/\Q k e):=by
 intro aa s j H Q I h;exact isTrue_plain (bj (i aa s j H _ I h) λv n d=>by let⟨x,f,g,m,l⟩:=d;exact Ob aa n j f x v Q g m l) (he _)
theorem IL:b4 X (binaryOp .Add) (λx y H Q=>∃i j,x=.str i/\y=.str j/\i.length+j.length<=sizeLine/\Q (.str (i++j)) H):=by
 intro aa s G H x y v u Q I e f h;∎;let⟨i,j,rfl,rfl,d,q⟩:=h;let⟨t,rfl⟩:=e;let⟨g,rfl⟩:=f;∎;exact add_str (λg l=>⟨.str (i++j),H,I.tok _,⟨_,rfl⟩,q⟩) d
theorem jg(r:aE [x] us):∃u,us=[u]/\aD x u:=by
 cases r with
 |cons d r2=>cases r2;exact⟨_,rfl,d⟩
theorem DU(r:aE [x,y] us):∃u d,us=[u,d]/\aD x u/\aD y d:=by
 cases r with
 |cons e r2=>
  cases r2 with
  |cons r3 r4=>cases r4;exact⟨_,_,rfl,e,r3⟩
theorem xf:bL X (.builtin "abs") (λxs H Q=>∃i,xs=[.int i]/\Q (.int (if i<0 then -i else i)) H):=by
 intro aa s j H xs us Q I r h;∎;let⟨i,rfl,q⟩:=h;let⟨u,rfl,t,rfl⟩:=jg r;∎;exact call_abs_int λu d=>⟨.int (if i<0 then -i else i),H,I.tok _,⟨_,rfl⟩,q⟩
def Bb(K:ao)(x:V)(H:Hp)(n:Nat):Prop:=
 match x with
 |.str y=>y.length <= sizeLine /\ n=y.length
 |.gg y=>y.size <= sizeLine /\ n=y.size
 |.ref p=>(∃d,bC K H p d /\ n=d.length) \/ ∃d,cU K H p d /\ n=d.length
 |_=>False
theorem Nd:bL X (.builtin "len") (λxs H Q=>∃x n,xs=[x]/\Bb X.K x H n/\Q (.int n) H):=by
 intro aa s j H xs us Q I r h;∎;let⟨x,n,rfl,e,q⟩:=h;let⟨u,rfl,o⟩:=jg r;∎;have z:=oo;have A:sizeLine=16777216:=sizeLine_eq;cases x with
 |str y=>
  let⟨t,rfl⟩:=o;obtain⟨v,f⟩:y.length<=sizeLine/\n=y.length:=e;subst f;exact len_str ⋯ ⟨.int _,H,I.tok _,⟨_,rfl⟩,q⟩
 |gg y=>
  let⟨t,rfl⟩:=o;obtain⟨v,f⟩:y.size<=sizeLine/\n=y.size:=e;subst f;exact W.len_bytes ⋯ ⟨.int _,H,I.tok _,⟨_,rfl⟩,q⟩
 |ref p=>
  cases o;have f:(∃xs,bC X.K H p xs/\n=xs.length)\/∃xs,cU X.K H p xs/\n=xs.length:=e;rcases f with⟨xs,g,f⟩ |⟨xs,g,f⟩
  .subst f;let⟨i,m,l,w⟩:=I.list g;have d:=m.length;exact Calls.call_len_list l.isList (by simp only[size_toArray];omega) ⟨.int xs.length,H,I.tok _,⟨_,by simp only[size_toArray];rw[d]⟩,q⟩
  .subst f;let⟨i,m,l,w⟩:=I.tuple g;have d:=m.length;exact len_tuple l (by simp only[size_toArray];omega) ⟨.int xs.length,H,I.tok _,⟨_,by simp only[size_toArray];rw[d]⟩,q⟩
 |_=>exact (show False from e).elim
end
structure gC(h:aU)(x dx C:af)(mA:bx):Prop where
 obj:h.get? x=some (W.instObj C dx)
 ns:h.Ns1 dx mA
 ne:dx≠x
theorem Pz{h:aU}{f:af}{i:bx}(n:h.Ns1 f i):∃od,h.get? f=some od/\∀b,W.lookIn b od=some (i b):=by
 let⟨o,g,r,m,hd,l,_,hm⟩:=n;refine⟨o,m,λb=>?_⟩;have e:=hm b;unfold nsFind findBy at e;rw[<- Array.find?_toList] at e;unfold W.lookIn;rw[hd];dsimp only;split
 .rename_i y q;rw[q] at e;exact congrArg some e
 .rename_i q;rw[q] at e;have a:g.toList.any (·.refKey)=false:=by
   rw[List.any_eq_false];intro y p;let⟨z,t,d⟩:=l y (Array.mem_toList_iff.mp p);simp[DictEntry.refKey,d]
  have j:¬ g.toList.any (·.refKey)=true:=by rw[a];exact Bool.false_ne_true
  rw[if_neg j];exact congrArg some e
theorem gC.look{b:bx}(I:gC h x dx C b):∃od,W.InstAt h x (W.instObj C dx) C (some od)/\∀a,W.lookIn a od=some (b a):=
 let ⟨od,ho,hl⟩:=Pz I.ns
 ⟨od,⟨I.obj,rfl,rfl,ho⟩,hl⟩
section
variable{prog:Program}{w:World}{A:Around}{E:aj->ak->Prop}{s:ak}{K:ao}{x dx C f:af}{mA:bx}{name:Str}{v:aj}
theorem Hv{Q:aj->ak->Prop}(X:K.In s.heap)(I:gC s.heap x dx C mA)(d:W.plainGet K C name=true)(e:W.hasDictIn K C=true)(b:W.findIn K (.ref C) name=some none)(i:mA name=some v)(a:W.handedIn v=true)(h:Q v { s with toks:=s.toks+1 }):
  wpAny (model prog w) A (getAttr (.ref x) name expr) Q E s:=by
 let⟨od,J,g⟩:=I.look;exact W.get_value X J (W.plainGet_of d).1 (W.findObj_own e b rfl (by rw[g,i])) a h
theorem zi{Q:aj×aL->ak->Prop}(X:K.In s.heap)(I:gC s.heap x dx C mA)(a:W.plainGet K C name=true)(b:W.findIn K (.ref C) name=some (some (.ref f)))(ht:W.isFn K (.ref f)=true)(e:mA name=none)(h:Q (.ref f,[.ref x]) s):
  wpAny (model prog w) A (getMethod (.ref x) name pl) Q E s:=by
 let⟨od,J,d⟩:=I.look;exact W.method_fn X J (W.plainGet_of a).1 (W.plainGet_of a).2 b (beq_iff_eq.mp ht) (by show (W.lookIn name od).map (·.isSome)=some false;rw[d,e];rfl) h
theorem Ng{Q:Unit->ak->Prop}(X:K.In s.heap)(I:gC s.heap x dx C mA)(hs:W.findIn K (.ref C) "__setattr__"=some (some (.builtin "object.__setattr__")))(hp:W.plainOver K C=true)(ht:W.takerIn K C name=some none)(p:W.hasDictIn K C=true)(q:PySem.Within mA ns)(hsz:ns.length<=sizeLine)(h:∀h',gC h' x dx C (λy=>if y=name then some v else mA y)->Heap.SameBut dx s.heap h'->Q () { s with heap:=h',toks:=s.toks+2 }):
  wpAny (model prog w) A (setAttr (.ref x) name v) Q E s:=by
 let⟨od,J,B⟩:=I.look;refine W.set_plain X J hs (W.osa_open (s:={ s with toks:=s.toks+1 }) (r:=none) X J hp ht λb=>?_);let⟨z,o,i⟩:=W.any_some p;have u:s.heap.get? x=some ⟨.ref C,some dx,.plain,#[]⟩:=I.obj;refine wpAny_bind (wpAny_pure (wpAny_bind (wpAny_bind (wpAny_loadPart u (wpAny_bind (W.Looks.here (s:={ s with toks:=s.toks+1 }) (W.looks_clsIn X o) ?_))))));rw[i];refine wpAny_pure (a:=some dx) (wpAny_bind (wpAny_pure (wpAny_bind ?_)));refine wpAny_nsSet1 (s:={ s with toks:=s.toks+1 }) I.ns λh' d e=>?_
 let⟨D,n,m,l,j,g⟩:=d.count (PySem.Within.cons name v q);refine wpAny_bind (wpAny_lookBehind l (by rw[j];exact pastItsLine_dict (le_trans g (by rw[length_cons];omega))) ?_);exact wpAny_pure (h _ ⟨(e.2 _ (Ne.symm I.ne)).trans I.obj,d,I.ne⟩ e)
theorem Vx(X:K.In s.heap)(hm:W.makesIn K C=true)(b:W.findIn K (.ref C) "__init__"=some (some (.ref f)))(a:W.typeIn K (.ref f)=some (.type "function"))(h:codeAny (model prog w) (A.under (.builtin "type.__call__" ⟨.ref C::vs,kw⟩)) (.call (.ref f) ⟨.ref (⇑s+1)::vs,kw⟩) (W.InitBack (⇑s+1) R)
   { s with heap:=(s.heap.push W.emptyDict).push (W.instObj C ⇑s) }):
  codeAny (model prog w) A (.call (.ref C) ⟨vs,kw⟩) R s:=by
 let⟨e,g,d,t,os⟩:=s;exact W.make_core (W.makes_of X hm) (W.looks_findIn X b) (λself=>W.bind_fn X self a) (.inl rfl) h
end
def fk(f:Str)(v:V):List (Str×V)->List (Str×V)
 |[]=>[(f,v)]
 |(g,x)::r=>if g=f then (g,v)::r else (g,x)::fk f v r
theorem zA(f g:Str)(v:V):∀fs:List (Str×V),(fk f v fs).lookup g=if g=f then some v else fs.lookup g
 |[]=>by
  show List.lookup g [(f,v)]=_;by_cases h:g=f
  .have hb:(g == f)=true:=beq_iff_eq.mpr h;simp only[List.lookup,hb,if_pos h]
  .have hb:(g == f)=false:=beq_eq_false_iff_ne.mpr h;simp only[List.lookup,hb,if_neg h]
 |(k,x)::r=>by
  have b:=zA f g v r;rw[show fk f v ((k,x)::r)=(if k=f then (k,v)::r else (k,x)::fk f v r) from rfl];by_cases a:k=f
  .rw[if_pos a];by_cases h:g=k
   .have hb:(g == k)=true:=beq_iff_eq.mpr h;simp only[List.lookup,hb,if_pos (h.trans a)]
   .have hb:(g == k)=false:=beq_eq_false_iff_ne.mpr h;simp only[List.lookup,hb,if_neg (λe:g=f=>h (e.trans a.symm))]
  .rw[if_neg a];by_cases h:g=k
   .have hb:(g == k)=true:=beq_iff_eq.mpr h;simp only[List.lookup,hb,if_neg (λe:g=f=>a (h.symm.trans e))]
   .have hb:(g == k)=false:=beq_eq_false_iff_ne.mpr h;simp only[List.lookup,hb];exact b
theorem yM(f:Str)(v:V):∀fs:List (Str×V),f∈(fk f v fs).map (·.1)/\∀g,g∈fs.map (·.1)->g∈(fk f v fs).map (·.1)
 |[]=>⟨by simp[fk],λg h=>by simp at h⟩
 |(k,x)::r=>by
  let⟨b,d⟩:=yM f v r;rw[show fk f v ((k,x)::r)=(if k=f then (k,v)::r else (k,x)::fk f v r) from rfl];by_cases a:k=f
  .rw[if_pos a];subst a;exact⟨by simp,λg h=>by simpa using h⟩
  .rw[if_neg a];refine⟨?_,λg h=>?_⟩
   .rw[map_cons];exact mem_cons_of_mem _ b
   .rw[map_cons] at h ⊢;rcases mem_cons.mp h with e |e
    .exact mem_cons.mpr (.inl e)
    .exact mem_cons_of_mem _ (d g e)
theorem zL(f:Str)(v:V):∀fs:List (Str×V),(fk f v fs).length<=fs.length+1
 |[]=>by simp[fk]
 |(k,x)::r=>by
  have b:=zL f v r;rw[show fk f v ((k,x)::r)=(if k=f then (k,v)::r else (k,x)::fk f v r) from rfl];by_cases a:k=f
  .rw[if_pos a,length_cons,length_cons];omega
  .rw[if_neg a,length_cons,length_cons];omega
theorem cD.some_of(r:cD (some v) o):∃u,o=some u/\aD v u:=by
 cases o with
 |none=>exact (show False from r).elim
 |some u=>exact⟨u,rfl,r⟩
theorem cD.none_of(r:cD none o):o=none:=by
 cases o with
 |none=>rfl
 |some u=>exact (show False from r).elim
theorem Mb(r:aD v u):W.handedIn u=true:=by
 cases v with
 |aM=>cases (show u=Value.none from r);rfl
 |bl b=>cases (show u=Value.bool b from r);rfl
 |int i=>let⟨t,e⟩:=(show ∃t,u=Value.int i t from r);cases e;rfl
 |str x=>let⟨t,e⟩:=(show ∃t,u=Value.str x t from r);cases e;rfl
 |gg b=>let⟨t,e⟩:=(show ∃t,u=Value.bytes b t from r);cases e;rfl
 |kL b=>let⟨t,e⟩:=(show ∃t,u=Value.float b t from r);cases e;rfl
 |ref a=>cases (show u=Value.ref a from r);rfl
 |ty n=>cases (show u=Value.type n from r);rfl
section
variable{P:Program}{w:World}{H H':Hp}{h h':aU}{a C dx:af}{fs fs':List (Str×V)}
theorem zX(aN:dg P w H h)(e:H a=some (.ins C dx fs)):∃b,gC h a dx C b/\(∀f,cD (fs.lookup f) (b f))/\PySem.Within b (fs.map (·.1))/\fs.length<=1000/\H dx=some (.own a):=by
 let⟨d,z,ne,g,b,n,r,q⟩:=(show a6 P w H h a (.ins C dx fs) from aN a _ e);exact⟨b,⟨g,n,ne⟩,r,q,z,d⟩
end
structure gn(K:ao)(C:af):Prop where
 pg:W.plainGet K C Str.empty=true
 hd:W.hasDictIn K C=true
 po:W.plainOver K C=true
 sa:W.findIn K (.ref C) "__setattr__"=some (some (.builtin "object.__setattr__"))
theorem gn.get{K:ao}{C:af}(c:gn K C)(f:Str):W.plainGet K C f=true:=c.pg
def bg(K:ao)(C:af)(f:Str):Prop:=W.findIn K (.ref C) f=some none
theorem bg.pL{K:ao}{C:af}{f:Str}(n:bg K C f):W.takerIn K C f=some none:=by
 unfold W.takerIn;rw[show W.findIn K (.ref C) f=some none from n];rfl
structure zO(K:ao)(C:af)(m:Str)(f:af):Prop where
 at_:W.findIn K (.ref C) m=some (some (.ref f))
 fn:W.isFn K (.ref f)=true
 kp:W.keepIn K (.ref f)=true
section
variable{X:Cx}{aa:aV}{σ:St}{H:Hp}{s:ak}{a C dx:af}{fs:List (Str×V)}{f:Str}{v:V}{A:Around}{E:aj->ak->Prop}
theorem IH{Q:Unit->ak->Prop}(I:au X aa σ H s)(e:H a=some (.ins C dx fs))(c:gn X.K C)(n:bg X.K C f)(J:fs.length<1000)(G:aD y u)(h:∀s',au X aa σ (aR H a (.ins C dx (fk f y fs))) s'->Q () s'):wpAny (model X.prog X.w) A (setAttr (.ref a) f u) Q E s:=by
 let⟨j,O,r,l,_,i⟩:=zX I.aN e;have D:(fs.map (·.1)).length<=sizeLine:=by rw[length_map,sizeLine_eq];omega
 refine Ng I.cL O c.sa c.po n.pL c.hd l D λm d sb=>h _ ?_
 have hd:∃o,m.get? dx=some o:=let ⟨o,_,_,e',_⟩:=d.ns;⟨o,e'⟩
 refine I.write (x:=a) (e:=dx) (by rw[e];exact True.intro) (.inr i) (λb q p z=>(sb.2 b p).trans z) hd ?_;refine⟨by rw[ba O.ne];exact i,?_,O.ne,d.obj,_,d.ns,λg=>?_,λg B=>?_⟩
 .have:=zL f y fs;omega
 .show cD ((fk f y fs).lookup g) (if g=f then some u else j g);rw[zA];by_cases q:g=f
  .rw[if_pos q,if_pos q];exact G
  .rw[if_neg q,if_neg q];exact r g
 .by_cases q:g=f
  .rw[q];exact (yM f y fs).1
  .refine (yM f y fs).2 g (l g λz=>B ?_);show (if g=f then some u else j g)=none;rw[if_neg q];exact z
theorem au.made(I:au X aa σ H s):au X aa σ (aR (aR H ⇑s (.own (⇑s+1))) (⇑s+1) (.ins C ⇑s []))
  { s with heap:=(s.heap.push W.emptyDict).push (W.instObj C ⇑s) }:=by
 have d:(s.heap.push W.emptyDict).get? ⇑s=some W.emptyDict:=Heap.get?_push_size s.heap rfl;have h:((s.heap.push W.emptyDict).push (W.instObj C ⇑s)).get? (⇑s+1)=some (W.instObj C ⇑s):=by
  have:=Heap.get?_push_size (s.heap.push W.emptyDict) (o:=W.instObj C ⇑s) rfl;rwa[Heap.size_push] at this
 have i:(s.heap.push W.emptyDict).Ns ⇑s (λ_=>none):=⟨W.emptyDict,#[],_,d,rfl,(λe j=>absurd j (by simp)),λ_=>rfl⟩
 have g:=I.laid (a:=⇑s) (o:=.own (⇑s+1)) (h':=s.heap.push W.emptyDict) (t':=s.toks) (λb u q=>Heap.get?_push_of_some _ q) (le_refl _) ⟨_,d⟩;refine g.laid (a:=⇑s+1) (o:=.ins C ⇑s []) (t':=s.toks) (λb u q=>Heap.get?_push_of_some _ q) (Nat.le_of_eq (Heap.size_push _ _)) ?_;have ne:⇑s≠⇑s+1:=ne_of_lt (Nat.lt_succ_self _);refine⟨by rw[ba ne,cq],zero_le _,ne,h,λ_=>none,(Heap.Ns1.of_empty i).at λo q=>Heap.get?_push_of_some _ q,λ_=>True.intro,λy l=>absurd rfl l⟩
theorem Qz(d:attributeBase e f env (eval e env)=eval e env)(h:wpAny (model prog w) A (eval e env) (λo b=>wpAny (model prog w) A (getAttr o f true) Q E b) E s):wpAny (model prog w) A (eval (.Attribute e f pos) env) Q E s:=
 Attribute_any_ h (by rw[arm_eval_Attribute,d])
end
def wk(K:ao)(g h:TE)(f:Str):TS:=λD j H=>h j H λy e=>g j e λx b=>∃a C d fs,x=.ref a/\b a=some (.ins C d fs)/\gn K C/\bg K C f/\fs.length<1000/\
 D.nx j (aR b a (.ins C d (fk f y fs)))
section
variable{X:Cx}{o e value:Expr}{f:Str}{pos pos' tpos:Pos}{ta tv:TE}
theorem Bu(v:PE X o ta)(w:PE X value tv)(hs:swapsWith value (some (.Attribute o f pos')) pos.line X.env=pure false):PS X (.Assign [.Attribute o f pos'] value pos) (wk X.K ta tv f):=by
 intro aa s j H D I h;refine plainObj_wpAny_Assign_Attribute (bj (w aa s j H _ I h) λu E b=>?_) hs;let⟨y,g,i,B,q⟩:=b;refine bj (v aa E j g _ i q) λov L d=>?_
 let⟨x,G,m,A,a,C,J,fs,ex,r,c,n,l,z⟩:=d;subst ex;obtain rfl:ov=Value.ref a:=A;exact IH m r c n l B λM p=>⟨j,_,p,z⟩
end
section
variable{X:Cx}{aa:aV}{σ:St}{H:Hp}{s:ak}{A:Around}{E:aj->ak->Prop}{Q:aj->ak->Prop}{c:aj}{b:Bool}
inductive dM (K:W.Frag) (H:Hp):V->Value->Prop where
 |aM:dM K H .aM (.type "NoneType")
 |bl (x:Bool):dM K H (.bl x) (.type "bool")
 |int (i:Int):dM K H (.int i) (.type "int")
 |str (x:Str):dM K H (.str x) (.type "str")
 |kL (x:UInt64):dM K H (.kL x) (.type "float")
 |ag {a:Addr} {xs:List V} (e:H a=some (.ag xs)):dM K H (.ref a) (.type "list")
 |ay {a:Addr} {o:Obj} {xs:List V} (e:H a=some (.ay o (.ag xs))):dM K H (.ref a) (.type "list")
 |aF {a:Addr} {xs:List V} (e:H a=some (.aF xs)):dM K H (.ref a) (.type "tuple")
 |dK {a:Addr} {kvs:List (aS × V)} (e:H a=some (.dK kvs)):dM K H (.ref a) (.type "dict")
 |dT {a:Addr} {kvs:List (List aS × V)} (e:H a=some (.dT kvs)):dM K H (.ref a) (.type "dict")
 |ins {a C dx:Addr} {fs:List (Str × V)} (e:H a=some (.ins C dx fs)) (cl:gn K C) (ha:W.findIn K (.ref C) "__class__" = some (some (.builtin "object.__class__")))
   (hn:W.specialIn K (.builtin "object.__class__") "__get__"=some (some (.builtin "getset_descriptor.__get__"))) (htk:W.takesIn K (.builtin "object.__class__")=some true)
   (hm:W.mroIn K C (.type "object")=some true):dM K H (.ref a) (.ref C)
theorem Pj(I:au X aa σ H s)(f:aD x u)(ty:dM X.K H x t)(e:W.kitOne X.K t c=some b)(h:∀L,Q (.bool b) { s with toks:=L }):
  wpAny (model X.prog X.w) A (call (.builtin "isinstance") [u,c]) Q E s:=by
 cases ty with
 |aM=>cases (show u=Value.none from f);exact W.kia_one W.kitx_none I.cL True.intro e (λz=>nomatch z) h
 |bl y=>cases (show u=Value.bool y from f);exact W.kia_one W.kitx_bool I.cL True.intro e (λz=>nomatch z) h
 |int i=>let⟨t,q⟩:=(show ∃t,u=Value.int i t from f);cases q;exact W.kia_one W.kitx_int I.cL True.intro e (λz=>nomatch z) h
 |str y=>let⟨t,q⟩:=(show ∃t,u=Value.str y t from f);cases q;exact W.kia_one W.kitx_str I.cL True.intro e (λz=>nomatch z) h
 |kL y=>let⟨t,q⟩:=(show ∃t,u=Value.float y t from f);cases q;exact W.kia_one W.kitx_float I.cL True.intro e (λz=>nomatch z) h
 |@ag a l d=>
  cases (show u=Value.ref a from f);let⟨_,_,n,_,g⟩:=(show a6 X.prog X.w H s.heap a (.ag l) from I.aN a _ d);exact W.kia_one W.kitx_list I.cL ⟨_,g,rfl⟩ e (λz=>nomatch z) h
 |@ay a G l d=>
  cases (show u=Value.ref a from f);let⟨_,_,_,n,_,g⟩:=(show a6 X.prog X.w H s.heap a (.ay G (.ag l)) from I.aN a _ d);exact W.kia_one W.kitx_list I.cL ⟨_,g,rfl⟩ e (λz=>nomatch z) h
 |@aF a l d=>
  cases (show u=Value.ref a from f);∎;let⟨_,_,_,p⟩:=(show a6 X.prog X.w H s.heap a (.aF l) from I.aN a _ d);let⟨o,g,m,_⟩:=p;∎;exact W.kia_one W.kitx_tuple I.cL ⟨o,g,m⟩ e (λz=>nomatch z) h
 |@dK a j d=>
  cases (show u=Value.ref a from f);∎;let⟨_,_,vs,_,p⟩:=(show a6 X.prog X.w H s.heap a (.dK j) from I.aN a _ d);let⟨o,B,v,g,m,_⟩:=p;∎;exact W.kia_one W.kitx_dict I.cL ⟨o,g,m.1⟩ e (λz=>nomatch z) h
 |@dT a j d=>
  cases (show u=Value.ref a from f);let⟨_,_,l,_,o,B,v,g,m,_⟩:=(show a6 X.prog X.w H s.heap a (.dT j) from I.aN a _ d);exact W.kia_one W.kitx_dict I.cL ⟨o,g,m.1⟩ e (λz=>nomatch z) h
 |@ins a C M fs d cl D hn r hm=>
  cases (show u=Value.ref a from f);∎;let⟨N,O,_⟩:=zX I.aN d;let⟨od,J,_⟩:=O.look;∎;exact W.kia_one (W.kitx_own (cl.get _) cl.hd D hn r hm) I.cL J e (λz=>nomatch z) h
end
structure bu(k:Nat)(A:Around):Prop where
 hd:A.handled=none
 dp:A.depth+3*k+5<recursionLimit
 un:A.units+16*k+200<cLine
theorem bu.mono(r:bu k A)(h:j<=k):bu j A:=⟨r.hd,by have:=r.dp;omega,by have:=r.un;omega⟩
theorem bu.deeper(r:bu (k+1) A)(env:Env):bu k (A.deeper env):=
 ⟨r.hd,by have:=r.dp;show A.depth+1+3*k+5<_;omega,by have:=r.un;show A.units+3+16*k+200<_;omega⟩
theorem Lm{A:Around}{C:af}{us:aL}{a:List (Str×aj)}:(A.under (.builtin "type.__call__" ⟨.ref C::us,a⟩)).depth=A.depth+1:=by
 first |rfl |simp[Around.under,Code.weight,Code.isCreation,Code.isGuard,Code.isCaller,Code.frames,Code.isFrame,guardIds]
theorem PU{A:Around}{C:af}{us:aL}{a:List (Str×aj)}:(A.under (.builtin "type.__call__" ⟨.ref C::us,a⟩)).units=A.units+1:=by
 first |rfl |simp[Around.under,Code.cUnits,Code.frames,Code.isFrame]
theorem bu.make(r:bu (k+1) A)(C:af)(us:aL)(a:List (Str×aj)):bu k (A.under (.builtin "type.__call__" ⟨.ref C::us,a⟩)):=
 ⟨r.hd,by have:=r.dp;rw[Lm];omega,by have:=r.un;rw[PU];omega⟩
theorem bu.depth(r:bu k A):A.depth<recursionLimit:=by have:=r.dp;omega
theorem bu.units(r:bu k A):A.units+64<cLine:=by have:=r.un;omega
def iI:TA:=λ_ H Q=>Q [] H
def hY(d:TE)(tr:TA):TA:=λj H Q=>d j H λx a=>tr j a λe b=>Q (x::e) b
section
variable{X:Cx}{e:Expr}{es:bH}{te:TE}{t:TA}{pos:Pos}
theorem jE:PA X [] iI:=λ_ _ _ _ H Q I h=>Calls.spliced_nil ⟨[],H,I,.nil,h⟩
theorem iR(l:PE X e te)(m:PA X es t)(hs:do du e es X.env):PA X (e::es) (hY te t):=by
 intro pos aa s j H Q I h;rw[hs];show wpAny _ _ (spliced ((false,eval e X.env)::backTo pos (starEach es X.env))) _ _ s;refine Calls.spliced_cons (bj (l aa s j H _ I h) λu q a=>?_);let⟨x,d,g,p,n⟩:=a;exact bj (m pos aa q j d _ g n) λus v b=>by let⟨r,f,i,r2,o⟩:=b;exact⟨x::r,f,i,.cons p r2,o⟩
def DJ(t:TA):TE:=λj H Q=>t j H λb a=>b.length<=sizeLine/\∀p,a p=none->Q (.ref p) (aR a p (.aF b))
def zg(t:TA):TE:=λj H Q=>t j H λb a=>b.length<=sizeLine/\∀p,a p=none->Q (.ref p) (aR a p (.ag b))
theorem QY{x1}(h:PA X es t):PE X (.Tuple es x1 pos) (DJ t):=by
 intro aa s j H Q I l;refine wpAny_Tuple_spliced (bj (h pos aa s j H _ I l) λus a d=>?_);let⟨m,f,g,r,z,q⟩:=d;refine⟨by rw[<- r.length];exact z,?_⟩;have i:f ⇑a=none:=g.aN.fresh (le_refl _);refine⟨.ref ⇑a,aR f ⇑a (.aF m),g.laid (t':=a.toks) (λb u e=>Heap.get?_push_of_some _ e) (le_refl _) ?_,rfl,q _ i⟩;exact⟨z,us,r,⟨_,Heap.get?_push_size _ rfl,rfl,_,rfl⟩⟩
theorem Nk(h:PA X es t):PE X (.List es pos) (zg t):=by
 intro aa s j H Q I l;refine wpAny_List_spliced (bj (h pos aa s j H _ I l) λus a d=>?_);let⟨m,f,g,r,z,q⟩:=d;refine⟨by rw[<- r.length];exact z,?_⟩;have i:f ⇑a=none:=g.aN.fresh (le_refl _);refine⟨.ref ⇑a,aR f ⇑a (.ag m),g.laid (t':=a.toks) (λb u e=>Heap.get?_push_of_some _ e) (le_refl _) ?_,rfl,q _ i⟩;exact⟨z,us,0,r,Heap.get?_push_size _ rfl⟩
end
abbrev Sp:=aw->Hp->VK->XK->Prop
abbrev fD:=cB->Hp->ak->XK->aj->ak->Prop
structure ip(P:Program)(w:World)(K:ao)(mg:bx)(base:aU)(A:Around)(outer:cB)(s:ak)(H:Hp):Prop where
 frames:A.frames=some outer
 mod:Mod K mg base
 bs:∀b o,base.get? b=some o->s.heap.get? b=some o/\H b=none
 jl:base.objs.size<=⇑s
 dy:s.heap.FunFrames base outer
 ko:∀b∈cz outer,H b=none
 aN:dg P w H s.heap
 bare:AllBare s.gens
def CE(outer:cB)(P:Program)(w:World)(H:Hp)(s:ak)(Q:VK)(u:aj)(s':ak):Prop:=
 ∃v a,s'.os=s.os/\AllBare s'.gens/\Un (cz outer) [] H a s.heap s'.heap/\dg P w a s'.heap/\aD v u/\Q v a
def CR(CX:fD)(outer:cB)(P:Program)(w:World)(H:Hp)(s:ak)(Q:VK)(E:XK)(r:Result)(s':ak):Prop:=
 match r with
 |.ok (.ret u)=>CE outer P w H s Q u s'
 |.ok _=>False
 |.error e=>CX outer H s E e s'
structure aJ(P:Program)(w:World)(K:ao)(mg:bx)(base:aU)(CX:fD)(k:Nat)(f:af)(fd:FuncData)(ps:ah)(sp:Sp):Prop where
 len:∀vs H Q E,sp vs H Q E->vs.length=ps.length
 run:∀(A:Around)(outer:cB)(s:ak)(H:Hp)(args:Args)(us:aL)(vs:aw)(Q:VK)(E:XK),bu k A->ip P w K mg base A outer s H->BindsTo s fd args (ps.zip us)->aE vs us->sp vs H Q E->
  codeAny (model P w) A (.call (.ref f) args) (CR CX outer P w H s Q E) s
theorem aJ.mono{P:Program}{w:World}{K:ao}{mg:bx}{base:aU}{CX:fD}{j k:Nat}{f:af}{a:FuncData}{b:ah}{sp:Sp}(F:aJ P w K mg base CX j f a b sp)(h:j<=k):
  aJ P w K mg base CX k f a b sp:=⟨F.len,λA outer s H args us vs Q E d=>F.run A outer s H args us vs Q E (d.mono h)⟩
theorem aJ.imp{P:Program}{w:World}{K:ao}{mg:bx}{base:aU}{CX:fD}{k:Nat}{f:af}{b:FuncData}{d:ah}{sp a:Sp}(F:aJ P w K mg base CX k f b d sp)(h:∀vs H Q E,a vs H Q E->sp vs H Q E):aJ P w K mg base CX k f b d a:=
 ⟨λvs H Q E q=>F.len vs H Q E (h _ _ _ _ q),λA outer s H args us vs Q E i g e l j=>F.run A outer s H args us vs Q E i g e l (h _ _ _ _ j)⟩
theorem ip.make{P:Program}{w:World}{K:ao}{mg:bx}{base:aU}{A:Around}{outer:cB}{s:ak}{H:Hp}(e:ip P w K mg base A outer s H)(C:af)(us:aL)(a:List (Str×aj)):
  ip P w K mg base (A.under (.builtin "type.__call__" ⟨.ref C::us,a⟩)) outer s H:=⟨by first |exact e.frames |(simpa [Around.under,Code.envs,Code.isFrame,pushEnvs] using e.frames),e.mod,e.bs,e.jl,e.dy,e.ko,e.aN,e.bare⟩
section
variable{X:Cx}{aa:aV}{σ:St}{H:Hp}{s s':ak}
theorem au.ku(I:au X aa σ H s):ip X.prog X.w X.K X.mg X.base X.A X.stack s H:=
 ⟨I.ok.frames,I.ok.mod,I.bs,le_trans I.ok.jl I.sz,I.stack,I.fN,I.aN,I.bare⟩
theorem au.after(I:au X aa σ H s)(h:CE X.stack X.prog X.w H s Q u s'):EP X aa σ Q u s':=by
 ∎;let⟨v,e,os,bare,un,aN,r,q⟩:=h;let⟨f,g,d,t,a⟩:=s';∎;obtain rfl:a=s.os:=os;exact⟨v,e,I.call (h':=f) (g':=g) (d':=d) (t':=t) (ch:=[]) un aN bare (λb z=>absurd z (by simp)),r,q⟩
end
def FX(sp:Sp)(a:aw)(E:XK)(t:TA):TE:=λj H Q=>t j H λvs b=>sp (vs++a) b Q E
def Binds(K:ao)(d:FuncData)(b:ah)(a:aL):Prop:=
 ∀(s:ak)(us:aL),K.In s.heap->(us++a).length=b.length->BindsTo s d ⟨us,[]⟩ (b.zip (us++a))
theorem Binds.all{K:ao}{b:FuncData}{a:ah}(h:∀us:aL,us.length=a.length->bindArgs b ⟨us,[]⟩=pure (a.zip us)):Binds K b a []:=λs us _ d=>by
 rw[append_nil] at d ⊢;exact .of_eq (h us d)
def me(CX:fD)(X:Cx)(E:XK):Prop:=∀(aa:aV)(j:St)(H:Hp)(s:ak)(e:aj)(a:ak),au X aa j H s->CX X.stack H s E e a->X.xe e a
section
variable{X:Cx}{CX:fD}{k:Nat}{f C:af}{fd:FuncData}{ps:ah}{sp:Sp}{dvs:aw}{ds:aL}{E:XK}{x m:Str}{p pos apos:Pos}{e o:Expr}{es:bH}{ta:TE}{t:TA}
theorem Oy(F:aJ X.prog X.w X.K X.mg X.base CX k f fd ps sp)(i:bu k X.A)(d:Binds X.K fd ps ds)(hd:aE dvs ds)(l:me CX X E)(I:au X aa j H s)(r:aE vs us)(h:sp (vs++dvs) H Q E):wpAny (model X.prog X.w) X.A (call (.ref f) us) (EP X aa j Q) X.xe s:=by
 have r2:aE (vs++dvs) (us++ds):=r.append hd;have g:(us++ds).length=ps.length:=by rw[<- r2.length];exact F.len _ _ _ _ h
 refine wpAny_call (codeAny_mono (F.run X.A X.stack s H ⟨us,[]⟩ (us++ds) (vs++dvs) Q E i I.ku (d s us I.cL g) r2 h) λr n a=>?_);cases r with
 |error e=>exact l aa j H s e n I a
 |ok b=>
  cases b with
  |ret u=>exact I.after a
  |next=>exact False.elim a
  |brk=>exact False.elim a
  |cont=>exact False.elim a
theorem QM(F:aJ X.prog X.w X.K X.mg X.base CX k f fd ps sp)(u:bu k X.A)(l:Gl X x)(hm:X.mg x=some (.ref f))(n:W.keepIn X.K (.ref f)=true)(i:Binds X.K fd ps ds)(hd:aE dvs ds)(v:me CX X E)(g:PA X (e::es) t)(a: ~~~(dq x))(he:do du e es X.env)(hpl:do fa pos es X.env):
  PE X (.Call (.Name x p) (e::es) [] pos) (FX sp dvs E t):=by
 intro aa s j H Q I h;refine wpAny_Call_Name_kw (k4 I l hm ?_ a);refine W.callWith_K (h₀:=X.base) I.ok.mod.kQ n (bj (g pos aa s j H _ I h) λus z b=>?_) he hpl;let⟨vs,y,d,r,q⟩:=b;refine⟨d.cL,?_⟩;exact Oy F u i hd v d r q
structure Mk(K:ao)(C f:af):Prop where
 makes:W.makesIn K C=true
 init:W.findIn K (.ref C) "__init__"=some (some (.ref f))
 fn:W.isFn K (.ref f)=true
 kp:W.keepIn K (.ref C)=true
end
def PK(X:Cx)(a:List Keyword)(t:TA):Prop:=
 ∀(pos:Pos)(aa:aV)(s:ak)(j:St)(H:Hp)(Q:aw->Hp->Prop),au X aa j H s->t j H Q->wpAny (model X.prog X.w) X.A (evalAll ((backToKw pos (keywordEach a X.env)).map (·.2))) (AP X aa j Q) X.xe s
section
variable{X:Cx}{CX:fD}{k:Nat}{f C:af}{fd:FuncData}{ps ks:ah}{sp:Sp}{E:XK}{x m:Str}{p pos apos kpos:Pos}{e o:Expr}{es:bH}{kws:List Keyword}{te ta:TE}{t tk:TA}{nm:Option Str}
theorem OW:PK X [] iI:=λ_ _ _ _ H Q I h=>wpAny_evalAll_nil ⟨[],H,I,.nil,h⟩
theorem Mj(n:PE X e te)(q:PK X kws t):PK X (⟨nm,e,kpos⟩::kws) (hY te t):=by
 intro pos aa s j H Q I h;show wpAny _ _ (evalAll ((do let v <- eval e X.env;standAt pos;pure v)::(backToKw pos (keywordEach kws X.env)).map (·.2))) _ _ s;refine wpAny_evalAll_cons (wpAny_bind (bj (n aa s j H _ I h) λu z a=>?_));let⟨x,d,i,y,r⟩:=a;refine wpAny_bind (wpAny_standAt (wpAny_pure ?_));exact bj (q pos aa z j d _ i r) λus B b=>by let⟨A,g,l,r2,w⟩:=b;exact⟨x::A,g,l,.cons y r2,w⟩
variable{g:aL->aL->aL}{gV:aw->aw->aw}
end
structure bT(N P:ah)(sc:Scope):Prop where
 kind:sc.kind=.function
 co:sc.isCoroutine=false
 gen:sc.isGenerator=false
 nd:N.Nodup
 pre:N.take P.length=P
 par:∀x∈P,sc.names.lookup x=some .local\/sc.names.lookup x=some .cell
 ml:∀y∈sc.names,y.2≠.free
theorem Cw{kindOf:Str->Option NameKind}{x:Str}:∀{binds:List (Str×aj)}{m:bx},(∀v,(x,v) ∉ binds)->bindL kindOf binds m x=m x
 |[],_,_=>rfl
 |(n,v)::r,m,h=>by
  unfold bindL;rw[Cw λw a=>h w (mem_cons_of_mem _ a)];split
  .have:x≠n:=by rintro rfl;exact h v mem_cons_self
   simp[this]
  .rfl
theorem Cv{kindOf:Str->Option NameKind}{x:Str}:∀{binds:List (Str×aj)}{m:bx},(∀v,(x,v) ∉ binds)->bindC kindOf binds m x=m x
 |[],_,_=>rfl
 |(n,v)::r,m,h=>by
  unfold bindC;rw[Cv λw a=>h w (mem_cons_of_mem _ a)];split
  .rfl
  .have:x≠n:=by rintro rfl;exact h v mem_cons_self
   simp[this]
theorem Fd{kindOf:Str->Option NameKind}{v:aj}:∀{P:ah}{vs:aL}{i:Nat}{m:bx},P.Nodup->P[i]?=some x->vs[i]?=some v->kindOf x=some .local->
  bindL kindOf (P.zip vs) m x=some v
 |[],_,_,_,_,h,_,_=>by simp at h
 |_::_,[],_,_,_,_,h,_=>by simp at h
 |p::P,w::vs,0,m,nd,h1,h2,hk=>by
  simp at h1 h2;subst h1;subst h2;show bindL kindOf ((p,w)::P.zip vs) m p=_;unfold bindL;rw[Cw λv a=>(nodup_cons.mp nd).1 (of_mem_zip a).1,if_pos hk];simp
 |p::P,w::vs,i + 1,m,nd,h1,h2,hk=>by
  show bindL kindOf ((p,w)::P.zip vs) m x=_;unfold bindL;exact Fd (i:=i) (nodup_cons.mp nd).2 (by simpa using h1) (by simpa using h2) hk
theorem zm{kindOf:Str->Option NameKind}{v:aj}:∀{P:ah}{vs:aL}{i:Nat}{m:bx},P.Nodup->P[i]?=some x->vs[i]?=some v->kindOf x≠some .local->
  bindC kindOf (P.zip vs) m x=some v
 |[],_,_,_,_,h,_,_=>by simp at h
 |_::_,[],_,_,_,_,h,_=>by simp at h
 |p::P,w::vs,0,m,nd,h1,h2,hk=>by
  simp at h1 h2;subst h1;subst h2;show bindC kindOf ((p,w)::P.zip vs) m p=_;unfold bindC;rw[Cv λv a=>(nodup_cons.mp nd).1 (of_mem_zip a).1,if_neg hk];simp
 |p::P,w::vs,i + 1,m,nd,h1,h2,hk=>by
  show bindC kindOf ((p,w)::P.zip vs) m x=_;unfold bindC;exact zm (i:=i) (nodup_cons.mp nd).2 (by simpa using h1) (by simpa using h2) hk
def start(N:ah)(vs:aw):St:=vs.map some++List.replicate (N.length - vs.length) none
def i7(CX:fD)(P:Program)(w:World)(K:ao)(mg:bx)(base:aU)(N:ah)(b:Str)(a:Scope)(f:af)(g:aj)(A:Around)(outer:cB)(s:ak)(H:Hp)(E:XK):Cx where
 prog:=P
 w:=w
 K:=K
 mg:=mg
 base:=base
 A:=A.deeper (envOfC b a ⇑s f g)
 N:=N
 s₀:=s
 H₀:=H
 env:=envOfC b a ⇑s f g
 outer:=outer
 stack:=envOfC b a ⇑s f g::outer
 ex:=[]
 calm:=true
 fn:=λ_=>true
 pn:=[]
 xe:=λe i=>wpAny (model P w) (A.deeper (envOfC b a ⇑s f g)) (leaving (envOfC b a ⇑s f g) e) (λ_ d=>CX outer H s E e d) (λh d=>CX outer H s E h d) i
theorem zw{sc:Scope}{n:Nat}{x:Str}(h:sc.names.lookup x=some .cell):∃c,(cellsFrom n sc.names []).lookup x=some c:=by
 have q:=W.cellsFrom_some sc.names n [] (.inl h);exact Option.isSome_iff_exists.mp q
theorem Ju{CX:fD}{P:Program}{w:World}{K:ao}{mg:bx}{base:aU}{N B:ah}{g:Str}{d:Scope}{f:af}{G:aj}{A:Around}{outer:cB}{s O:ak}{H:Hp}{E:XK}{us:aL}{vs:aw}(S:bT N B d)(hd:A.handled=none)(l:ip P w K mg base A outer s H)(hl:vs.length=B.length)(r:aE vs us)(x:InCallC s ⇑s (bindL (envOfC g d ⇑s f G).kindOf (B.zip us) λ_=>none) (cellsFrom (⇑s+1) d.names []) (bindC (envOfC g d ⇑s f G).kindOf (B.zip us) λ_=>none) O):
  au (i7 CX P w K mg base N g d f G A outer s H E) [] (start N vs) H O:=by
 have U:B.length<=N.length:=by have:=congrArg List.length S.pre;rw[length_take] at this;omega
 let⟨I,tk,rfl,L⟩:=x.done;have o:∀b:Addr,b ∉ (i7 CX P w K mg base N g d f G A outer s H E).ex:=λb z=>absurd (show b∈([]:cA) from z) (by simp)
 refine⟨⟨l.mod,S.kind,rfl,rfl,le_refl _,λy z c I j=>?_,λy m=>?_,λy c _ h=>?_,λ_=>hd,Around.frames_deeper l.frames,.inr ⟨rfl,rfl⟩,λb z=>absurd z (o b),l.bs,l.jl,λb _ _=>o b,λb z=>absurd z (o b),l.dy,l.ko⟩,
  rfl,l.bare,Un.kept L,⟨_,x.toInCall.ns,λi y v I j h3=>?_⟩,λy c h=>⟨_,x.cell y c h⟩,l.aN.fresh (le_refl _),λy c h=>?_,λp C=>absurd (show p∈([]:aV) from C) (by simp),l.aN.kept L,?_⟩
 .exact name_of_addr x.apart (PySem.mem_of_lookup I) (PySem.mem_of_lookup j)
 .have m:d.names.lookup y=some .cell\/d.names.lookup y=some .free:=m;rcases m with m |m
  .exact zw m
  .exact absurd rfl (S.ml _ (PySem.mem_of_lookup m))
 .exact Nat.le_of_lt (x.above y c (PySem.mem_of_lookup h))
 .have J:i<vs.length:=by
   unfold start at j;by_cases J:i<vs.length
   .exact J
   .rw[getElem?_append_right (by simpa using J)] at j;rw[List.getElem?_replicate] at j;split at j<;>cases j
  have Q:vs[i]?=some v:=by
   unfold start at j;rw[getElem?_append_left (by simpa using J),getElem?_map] at j;cases e:vs[i]? with
   |none=>rw[e] at j;cases j
   |some a=>rw[e] at j;cases j;rfl
  let⟨u,M,Y⟩:=r.get Q;have C:B[i]?=some y:=by
   rw[<- S.pre,List.getElem?_take_of_lt ⋯];exact I
  have D:B.Nodup:=by rw[<- S.pre];exact S.nd.sublist (List.take_sublist _ _)
  refine⟨u,Y,?_⟩;rcases S.par y (mem_of_getElem? C) with k |k
  .exact .inl ⟨k,Fd D C M k⟩
  .obtain⟨c,e⟩:=zw (n:=⇑s+1) k;refine .inr ⟨.inl k,c,e,?_⟩;have q:=x.cell y c e;rw[zm D C M (by show d.names.lookup y≠_;rw[k];decide)] at q;exact q
 .exact l.aN.fresh (Nat.le_of_lt (x.above y c (PySem.mem_of_lookup h)))
 .unfold start;show _=N.length;rw[length_append,length_map,length_replicate];omega
theorem DG{CX:fD}{P:Program}{w:World}{K:ao}{mg:bx}{base:aU}{k:Nat}{f:af}{j d:Str}{g:Arguments}{h:List Stmt}{a:Scope}{dV kV doc pm a7 ct oc:aj}{an od:df}{osl:Array (dJ)}{N G:ah}{sp:Sp}(lk:K.lookup f=some ⟨oc,od,.func (W.fnOf j d g h a dV kV doc pm an a7 ct),osl⟩)(L:W.codeIn K a7 d=true)(S:bT N G a)(len:∀vs H Q E,sp vs H Q E->vs.length=G.length)(l:∀(A:Around)(outer:cB)(s:ak)(H:Hp)(vs:aw)(Q:VK)(E:XK),bu k (A.deeper (envOfC d a ⇑s f a7))->sp vs H Q E->
   ∃t,fy (i7 CX P w K mg base N d a f a7 A outer s H E) h t/\t { nx:=λ_ i=>Q .aM i,rt:=Q } (start N vs) H):
  aJ P w K mg base CX (k+1) f (W.fnOf j d g h a dV kV doc pm an a7 ct) G sp:=by
 refine⟨len,λA outer s H args us vs Q E M z hb r C=>?_⟩;have hl:=len _ _ _ _ C;have KX:K.In s.heap:=z.mod.kQ.keeps λb o e=>(z.bs b o e).1
 have O:s.heap.NoLimit:=z.mod.nolimit.keeps λb o e=>(z.bs b o e).1
 have m:∀y∈G.zip us,a.names.lookup y.1=some .local\/(a.names.lookup y.1=some .cell/\((cellsFrom (⇑s+1) a.names []).lookup y.1).isSome=true):=λ⟨n,v⟩ hy=>by
  rcases S.par n (of_mem_zip hy).1 with q |q
  .exact .inl q
  .exact .inr ⟨q,W.cellsFrom_some _ _ _ (.inl q)⟩
 refine codeAny_call_function M.depth (KX _ _ lk) rfl S.co S.gen rfl (W.codeRec_of KX L) (hb _ _ _ _ ?_);refine wpAny_newFunctionEnv_cells S.kind m λenv he s1 x=>?_
 subst he;refine⟨O.keeps x.toInCall.keep,codeAny_func ?_⟩;let⟨t,ht,hq⟩:=l A outer s H vs Q E (M.deeper _) C;have I:au (i7 CX P w K mg base N d a f a7 A outer s H E) [] (start N vs) H s1:=Ju S M.hd z hl r x;refine wpAny_mono (ht [] s1 (start N vs) H _ I hq) (λfl Y p=>?_) λe Y p=>p
 have B:∀{D:St}{i:Hp}{v:V}{u:aj},au (i7 CX P w K mg base N d a f a7 A outer s H E) [] D i Y->aD v u->Q v i->CE outer P w H s Q u Y:=
  λ{D i v u} J U q=>⟨v,i,J.os,J.bare,J.base,J.aN,U,q⟩
 cases fl with
 |ret u=>
  let⟨v,D,i,J,U,q⟩:=p;exact B J U q
 |next=>
  let⟨D,i,J,q⟩:=p;exact B (v:=V.aM) (u:=Value.none) J rfl q
 |brk=>
  let⟨_,_,_,q⟩:=p;exact False.elim q
 |cont=>
  let⟨_,_,_,q⟩:=p;exact False.elim q
section
variable{X:Cx}{x:Str}{p pos:Pos}{e:Expr}{es:bH}{t:TA}{id T:String}{r:aw->Hp->VK->Prop}
def kX(r:aw->Hp->VK->Prop)(t:TA):TE:=λj H Q=>t j H λvs a=>r vs a Q
theorem LF(i:bL X (.builtin id) r)(l:Gl X x)(hm:X.mg x=none)(m:bootBuiltins x=some (.builtin id))(g:PA X (e::es) t)(hn: ~~~(x≠"__name__"))(a: ~~~(dq x))(he:do du e es X.env)(hpl:do fa pos es X.env):PE X (.Call (.Name x p) (e::es) [] pos) (kX r t):=by
 intro aa s j H Q I h;refine wpAny_Call_Name_kw (jh I l hm m ?_ hn a);exact PyProof.Rows.callWith_builtin1 (bj (g pos aa s j H _ I h) λus q b=>by let⟨vs,d,f,o,n⟩:=b;exact i aa q j d vs us Q f o n) he hpl
theorem mH(i:bL X (.type T) r)(l:Gl X x)(hm:X.mg x=none)(m:bootBuiltins x=some (.type T))(g:PA X (e::es) t)(hn: ~~~(x≠"__name__"))(a: ~~~(dq x))(he:do du e es X.env)(hpl:do fa pos es X.env):PE X (.Call (.Name x p) (e::es) [] pos) (kX r t):=by
 intro aa s j H Q I h;refine wpAny_Call_Name_kw (jh I l hm m ?_ hn a);exact PyProof.Rows.callWith_type1 (bj (g pos aa s j H _ I h) λus q b=>by let⟨vs,d,f,o,n⟩:=b;exact i aa q j d vs us Q f o n) he hpl
end
section
variable{κ:Type}[DecidableEq κ]
def fO(kvs:List (κ×V))(k:κ):Option V:=(kvs.find? λa=>decide (a.1=k)).map (·.2)
def e5(kvs:List (κ×V))(k:κ)(v:V):List (κ×V):=
 if (kvs.any λa=>decide (a.1=k))=true then kvs.map (λa=>if a.1=k then (a.1,v) else a) else kvs++[(k,v)]
theorem xD{p:κ×V}{r:List (κ×V)}{k:κ}(e:p.1=k):fO (p::r) k=some p.2:=by simp[fO,find?_cons,e]
theorem vi{p:κ×V}{r:List (κ×V)}{k:κ}(e:¬ p.1=k):fO (p::r) k=fO r k:=by simp[fO,find?_cons,e]
theorem CO(k:κ):∀kvs:List (κ×V),(kvs.any λa=>decide (a.1=k))=(fO kvs k).isSome
 |[]=>rfl
 |p::r=>by
  rw[any_cons];by_cases e:p.1=k
  .simp only[xD e,decide_eq_true e,Bool.true_or,Option.isSome_some]
  .rw[vi e,decide_eq_false e,Bool.false_or];exact CO k r
theorem yF(kvs:List (κ×V))(k:κ)(v:V):(e5 kvs k v).length<=kvs.length+1:=by
 unfold e5;split
 .rw[length_map];omega
 .rw[length_append,length_cons,length_nil];omega
theorem cD.cG(r:cD o u):o.isSome=u.isSome:=by
 cases o with
 |none=>cases u with
  |none=>rfl
  |some _=>exact (show False from r).elim
 |some _=>cases u with
  |none=>exact (show False from r).elim
  |some _=>rfl
theorem cD.getD(r:cD o u)(rd:aD d d'):aD (o.getD d) (u.getD d'):=by
 cases o with
 |none=>cases u with
  |none=>exact rd
  |some _=>exact (show False from r).elim
 |some _=>cases u with
  |none=>exact (show False from r).elim
  |some _=>exact r
theorem KV.val{kvs:List (κ×V)}{vs:List (κ×aj)}(r:KV kvs vs)(k:κ):cD (fO kvs k) (valueAt vs k):=by
 unfold KV at r
 induction r with
 |nil=>exact True.intro
 |@cons p q i a h t g=>
  let⟨d,f⟩:=h;by_cases e:p.1=k
  .have e':q.1=k:=d.symm.trans e;have b:valueAt (q::a) k=some q.2:=by simp[valueAt,find?_cons,e']
   rw[xD e,b];exact f
  .have e':¬ q.1=k:=λz=>e (d.trans z)
   have b:valueAt (q::a) k=valueAt a k:=by simp[valueAt,find?_cons,e']
   rw[vi e,b];exact g
theorem KV.any(r:KV kvs vs)(k:κ):(kvs.any λa=>decide (a.1=k))=vs.any λa=>decide (a.1=k):=by
 unfold KV at r
 induction r with
 |nil=>rfl
 |cons h t b=>rw[any_cons,any_cons,b,h.1]
theorem KV.m4(r:KV kvs vs)(k:κ)(g:aD y u):
  KV (kvs.map λa=>if a.1=k then (a.1,y) else a) (vs.map λa=>if a.1=k then (a.1,u) else a):=by
 unfold KV at r ⊢
 induction r with
 |nil=>exact .nil
 |@cons p q i j h t f=>
  rw[map_cons,map_cons];refine .cons ?_ f;let⟨b,d⟩:=h;by_cases e:p.1=k
  .rw[if_pos e,if_pos (b.symm.trans e)];exact⟨b,g⟩
  .rw[if_neg e,if_neg (λz=>e (b.trans z))];exact⟨b,d⟩
theorem KV.put(r:KV kvs vs)(k:κ)(a:aD y u):KV (e5 kvs k y) (stored vs k u):=by
 unfold e5 stored;rw[r.any k];by_cases e:(vs.any λb=>decide (b.1=k))=true
 .rw[if_pos e,if_pos e];exact r.m4 k a
 .rw[if_neg e,if_neg e];exact Paired.snoc r ⟨rfl,a⟩
theorem KV.length(r:KV kvs vs):kvs.length=vs.length:=Paired.length r
end
theorem mK(r:aD (kV k) u):(eB P w).is k u=true:=by
 cases k with
 |inl i=>let⟨t,e⟩:=(show ∃t,u=Value.int i t from r);subst e;exact K5 P w i t
 |inr x=>let⟨t,e⟩:=(show ∃t,u=Value.str x t from r);subst e;exact Hz P w x t
theorem DZ:∀{ks:List aS}{us:aL},aE (ks.map kV) us->ItemsAre (eB P w) ks us
 |[],_,r=>by rw[map_nil] at r;cases r;exact .nil
 |k::ks,_,r=>by
  rw[map_cons] at r;cases r with
  |cons h t=>exact .cons (mK h) (DZ t)
abbrev KT(H:Hp):List (List aS×V)->List (List aS×af×aj)->Prop:=Paired λp q=>p.1=q.1/\H q.2.1=some (.aF (p.1.map kV))/\aD p.2 q.2.2
theorem KT.val{H:Hp}{kvs:List (List aS×V)}{xs:List (List aS×af×aj)}(r:KT H kvs xs)(k:List aS):cD (fO kvs k) ((atKey xs k).map (·.2)):=by
 induction r with
 |nil=>exact True.intro
 |@cons p q i a h t g=>
  let⟨d,_,f⟩:=h;by_cases e:p.1=k
  .have e':q.1=k:=d.symm.trans e;have b:atKey (q::a) k=some q.2:=by simp[atKey,find?_cons,e']
   rw[xD e,b];exact f
  .have e':¬ q.1=k:=λz=>e (d.trans z)
   have b:atKey (q::a) k=atKey a k:=by simp[atKey,find?_cons,e']
   rw[vi e,b];exact g
theorem KT.m4(r:KT H kvs xs)(k:List aS)(i:aD y u):
  KT H (kvs.map λb=>if b.1=k then (b.1,y) else b) (xs.map (putAt k u)):=by
 induction r with
 |nil=>exact .nil
 |@cons p q j l h t g=>
  rw[map_cons,map_cons];refine .cons ?_ g;let⟨a,d,f⟩:=h;unfold putAt;by_cases e:p.1=k
  .rw[if_pos e,if_pos (a.symm.trans e)];exact⟨a,d,i⟩
  .rw[if_neg e,if_neg (λz=>e (a.trans z))];exact⟨a,d,f⟩
theorem KT.put{H:Hp}(r:KT H kvs xs)(k:List aS)(d:H b=some (.aF (k.map kV)))(a:aD y u):
  KT H (e5 kvs k y) (storedH xs k b u):=by
 have e:(kvs.any λf=>decide (f.1=k))=(atKey xs k).isSome:=by
  rw[CO,(r.val k).cG,isSome_map]
 unfold e5 storedH;rw[e];by_cases q:(atKey xs k).isSome=true
 .rw[if_pos q,if_pos q];exact r.m4 k a
 .rw[if_neg q,if_neg q];exact Paired.snoc r ⟨rfl,d,a⟩
theorem KT.keeps{H a:Hp}(r:KT H kvs xs)(ht:∀b ys,H b=some (.aF ys)->a b=some (.aF ys)):KT a kvs xs:=
 Paired.nr r λ_ _ z=>⟨z.1,ht _ _ z.2.1,z.2.2⟩
section
variable{P:Program}{w:World}{H:Hp}{h:aU}{a:af}
theorem CP(ok:dg P w H h)(e:Rd H a u):a6 P w H h a u:=e.ok ok
theorem iT(ok:dg P w H h)(e:Rd H a (.dK kvs)):kvs.length<=sizeLine/\(a == sysModules)=false/\∃vs,KV kvs vs/\h.DictOf (eB P w) a vs:=
 show a6 P w H h a (.dK kvs) from CP ok e
theorem si(ok:dg P w H h)(e:H a=some (.dK kvs)):kvs.length<=sizeLine/\(a == sysModules)=false/\∃vs,KV kvs vs/\h.DictOf (eB P w) a vs:=iT ok (.inl e)
theorem n5(ok:dg P w H h)(e:H a=some (.aF (ks.map kV))):(tupleKind (eB P w)).is h ks a:=by
 let⟨_,b,r,o,d,f,n,g⟩:=(show a6 P w H h a (.aF (ks.map kV)) from ok a _ e);exact⟨o,b.toArray,n,d,f,g,by simpa using DZ r⟩
theorem mR(ok:dg P w H h)(e:Rd H a (.dT kvs)):kvs.length<=sizeLine/\(a == sysModules)=false/\
  ∃xs,KT H kvs xs/\h.DictOfH (tupleKind (eB P w)) a xs:=by
 let⟨z,y,xs,r,o,g,f,i,j,n,s,u⟩:=(show a6 P w H h a (.dT kvs) from CP ok e);refine⟨z,y,xs,r,o,g,f,i,j,n,s,λx b=>?_,u⟩;have all:∀{l:List (List aS×V)}{m:List (List aS×af×aj)},KT H l m->∀x∈m,(tupleKind (eB P w)).is h x.1 x.2.1:=by
  intro l m q
  induction q with
  |nil=>intro x b;exact nomatch b
  |@cons p q A B d t v=>
   intro x b;rcases mem_cons.mp b with e |b
   .subst e;exact n5 ok (by rw[<- d.1];exact d.2.1)
   .exact v x b
 exact all r x b
theorem UI(ok:dg P w H h)(e:H a=some (.dT kvs)):kvs.length<=sizeLine/\(a == sysModules)=false/\
  ∃xs,KT H kvs xs/\h.DictOfH (tupleKind (eB P w)) a xs:=mR ok (.inl e)
end
def lU(H:Hp)(a:af)(y:V)(r:Option V):Prop:=
 (∃d k,Rd H a (.dK d)/\y=kV k/\r=fO d k)\/∃d k b,Rd H a (.dT d)/\y=.ref b/\H b=some (.aF (k.map kV))/\r=fO d k
def jD(H:Hp)(a:af)(y v:V)(e:Hp):Prop:=
 (∃d k,H a=some (.dK d)/\y=kV k/\d.length<sizeLine/\e=aR H a (.dK (e5 d k v)))\/
 ∃d k b,H a=some (.dT d)/\y=.ref b/\H b=some (.aF (k.map kV))/\d.length<sizeLine/\e=aR H a (.dT (e5 d k v))
theorem jD.k{H:Hp}{a:af}{kvs:bI}{k:aS}{v:V}(e:H a=some (.dK kvs))(b:kvs.length<sizeLine):jD H a (kV k) v (aR H a (.dK (e5 kvs k v))):=.inl ⟨kvs,k,e,rfl,b,rfl⟩
section
variable{X:Cx}{aa:aV}{σ:St}{H:Hp}{s:ak}{a:af}{y v:V}{u r:aj}{o:Option V}{A:Around}{E:aj->ak->Prop}
theorem au.big(I:au X aa σ H s):sysModules<⇑s:=by
 have h:mainGlobals<⇑s:=(I.mod.glob.keeps I.bk).lt;exact Nat.lt_trans ∎ h
theorem Ha{Q:aj->ak->Prop}(C:A.units+1<cLine)(I:au X aa σ H s)(g:lU H a y (some v))(x:aD y u)(h:∀i s',au X aa σ H s'->aD v i->Q i s'):
  wpAny (model X.prog X.w) A (getItem (.ref a) u) Q E s:=by
 rcases g with⟨q,k,e,j,l⟩ |⟨q,k,b,e,j,eb,l⟩
 .subst j;∎;let⟨z,hd,vs,d,dd⟩:=iT I.aN e;let⟨i,n,f⟩:=cD.some_of (v:=v) (o:=valueAt vs k) (by rw[l];exact d.val k);∎;exact wpAny_getItem_of (mK x) dd.mapOf n (h i _ (I.tok _) f)
 .subst j;cases (show u=Value.ref b from x);∎;let⟨z,hd,D,d,dd⟩:=mR I.aN e;let⟨i,n,f⟩:=cD.some_of (v:=v) (o:=(atKey D k).map (·.2)) (by rw[l];exact d.val k);let⟨p,B,m⟩:=Option.map_eq_some_iff.mp n;∎;refine wpAny_getItem_heap (tupleKind_room_in1 C) (n5 I.aN eb) dd B ?_;rw[m];exact h i _ (I.tok _) f
theorem QZ{Q:aj->ak->Prop}(m:A.units+1<cLine)(I:au X aa σ H s)(g:lU H a y o)(j:aD y u)(h:∀s',au X aa σ H s'->Q (.bool o.isSome) s'):
  wpAny (model X.prog X.w) A (compareOp .In u (.ref a)) Q E s:=by
 rcases g with⟨i,k,e,f,l⟩ |⟨i,k,b,e,f,eb,l⟩
 .subst f;let⟨z,hd,vs,d,dd⟩:=iT I.aN e;refine wpAny_in_of (mK j) hd dd.mapOf ?_;rw[<- (d.val k).cG,<- l];exact h _ (I.tok _)
 .subst f;cases (show u=Value.ref b from j);let⟨z,hd,n,d,dd⟩:=mR I.aN e;refine wpAny_in_heap (tupleKind_room_in1 m) (n5 I.aN eb) hd dd ?_;have q:=(d.val k).cG;rw[isSome_map] at q;rw[<- q,<- l];exact h _ (I.tok _)
theorem Lj{Q:aj->ak->Prop}(m:A.units+1<cLine)(I:au X aa σ H s)(g:lU H a y o)(j:aD y u)(h:∀s',au X aa σ H s'->Q (.bool (!o.isSome)) s'):
  wpAny (model X.prog X.w) A (compareOp .NotIn u (.ref a)) Q E s:=by
 rcases g with⟨i,k,e,f,l⟩ |⟨i,k,b,e,f,eb,l⟩
 .subst f;let⟨z,hd,vs,d,dd⟩:=iT I.aN e;refine wpAny_notIn_of (mK j) hd dd.mapOf ?_;rw[<- (d.val k).cG,<- l];exact h _ (I.tok _)
 .subst f;cases (show u=Value.ref b from j);let⟨z,hd,n,d,dd⟩:=mR I.aN e;refine wpAny_notIn_heap (tupleKind_room_in1 m) (n5 I.aN eb) hd dd ?_;have q:=(d.val k).cG;rw[isSome_map] at q;rw[<- q,<- l];exact h _ (I.tok _)
theorem we(I:au X aa σ H s)(g:oV (H a))(hs:Heap.SameBut a s.heap h')(he:∃q,h'.get? a=some q)(d:a6 X.prog X.w (aR H a ob) h' a ob):
  au X aa σ (aR H a ob) { s with heap:=h',toks:=t' }:=
 I.write (x:=a) (e:=a) g (.inl rfl) (λb q f z=>(hs.2 b f).trans z) he d
theorem zV(z:kvs.length<=sizeLine)(hd:(a == sysModules)=false)(b:KV kvs vs)(dd:h'.DictOf (eB P w) a vs):
  a6 P w H' h' a (.dK kvs):=⟨z,hd,vs,b,dd⟩
theorem Nu{Q:Unit->ak->Prop}(hu:A.units+1<cLine)(I:au X aa σ H s)(g:jD H a y v H')(J:aD y u)(G:aD v r)(h:∀s',au X aa σ H' s'->Q () s'):
  wpAny (model X.prog X.w) A (setItem (.ref a) u r) Q E s:=by
 rcases g with⟨d,k,e,n,l,m⟩ |⟨d,k,b,e,n,eb,l,m⟩
 .subst n m;let⟨z,hd,vs,f,dd⟩:=si I.aN e;have B:vs.length<=sizeLine:=by rw[<- f.length];exact z
  have p:(e5 d k v).length<=sizeLine:=by have:=yF d k v;omega
  refine wpAny_setItem_pairs (hsz:=B) (mK J) dd λD i x=>h _ ?_
  have he:∃q,D.get? a=some q:=let ⟨q,_,_,j,_⟩:=i;⟨q,j⟩
  exact we I (by rw[e];exact True.intro) x he (zV p hd (f.put k G) i)
 .subst n m;cases (show u=Value.ref b from J);let⟨z,hd,xs,f,dd⟩:=UI I.aN e;have B:xs.length<=sizeLine:=by rw[<- Paired.length f];exact z
  have p:(e5 d k v).length<=sizeLine:=by have:=yF d k v;omega
  refine wpAny_setItem_heap (hsz:=B) (tupleKind_room_in1 hu) (n5 I.aN eb) dd λD i x=>h _ ?_
  let⟨q,M,L,j,N,O,U,_,Y⟩:=i;refine we I (by rw[e];exact True.intro) x ⟨q,j⟩ ⟨p,hd,_,(f.put k eb G).keeps λc ys C=>?_,q,M,L,j,N,O,U,Y⟩;rw[ba (Rz C e (λz=>nomatch z))];exact C
end
section
variable{X:Cx}{aa:aV}{σ:St}{H:Hp}{s:ak}{a:af}{kvs:bI}{k:aS}{u:aj}{A:Around}{E:aj->ak->Prop}
theorem QU{Q:aj->ak->Prop}(I:au X aa σ H s)(e:Rd H a (.dK kvs))(h:∀t s',au X aa σ H s'->Q (.int kvs.length t) s'):wpAny (model X.prog X.w) A (call (.builtin "len") [.ref a]) Q E s:=by
 let⟨z,hd,vs,b,dd⟩:=iT I.aN e;refine call_len_dict hd dd (by rw[<- b.length];rw[sizeLine_eq] at z;omega) ?_;rw[<- b.length];exact h _ _ (I.tok _)
end
theorem G3(I:au X aa j H s)(g:lU H a y o):s.TypeIs (.ref a) "dict":=by
 rcases g with⟨d,k,e,_,_⟩ |⟨d,k,b,e,_,_,_⟩
 .obtain⟨_,_,vs,_,dd⟩:=iT I.aN e;exact dd.typeIs
 .obtain⟨_,_,xs,_,dd⟩:=mR I.aN e;exact dd.typeIs
def Ai(g ty h:TE):TS:=λD j H=>h j H λv d=>g j d λx e=>ty j e λy f=>∃a b,x=.ref a/\jD f a y v b/\D.nx j b
section
variable{X:Cx}{o i e value:Expr}{pos pos' tpos:Pos}{td ty tv:TE}
theorem JQ(E:X.A.units+1<cLine)(C:PE X o td)(B:PE X i ty)(G:PE X value tv)(hs:swapsWith value (some (.Subscript o i pos')) pos.line X.env=pure false):
  PS X (.Assign [.Subscript o i pos'] value pos) (Ai td ty tv):=by
 intro aa s j H D I h;refine wpAny_Assign_Subscript (bj (G aa s j H _ I h) λr U b=>?_) hs;let⟨v,l,p,N,J⟩:=b;refine bj (C aa U j l _ p J) λu Y d=>?_
 let⟨x,m,q,O,L⟩:=d;refine bj (B aa Y j m _ q L) λiv s3 f=>?_
 let⟨y,H3,w,Q,a,n,ex,g,M⟩:=f;subst ex;obtain rfl:u=Value.ref a:=O;exact Nu E w g Q N λs4 z=>⟨j,n,z,M⟩
end
theorem A1(h:aU)(a:sysModules<h.objs.size):a6 P w H (h.push { cls:=.type "dict",data:=.dict #[] }) h.objs.size (.dK []):=
 ⟨zero_le _,beq_eq_false_iff_ne.mpr (Ne.symm (ne_of_lt a)),[],.nil,Heap.DictOf.new h⟩
def AR:TE:=λ_ H Q=>∀p,H p=none->Q (.ref p) (aR H p (.dK []))
section
variable{X:Cx}{pos:Pos}
theorem He:PE X (.Dict [] [] pos) AR:=λaa s j H Q I h=>
 wpAny_Dict_empty ⟨.ref ⇑s,_,I.laid (a:=⇑s) (o:=.dK []) (t':=s.toks) (λ_ _ q=>Heap.get?_push_of_some _ q) (le_refl _) (A1 s.heap I.big),rfl,h _ (I.aN.fresh (le_refl _))⟩
end
def ue:List (TE×TE)->St->Hp->(List (V×V)->Hp->Prop)->Prop
 |[],_,H,Q=>Q [] H
 |(tk,tv)::r,j,H,Q=>tk j H λx a=>tv j a λy b=>ue r j b λe d=>Q ((x,y)::e) d
abbrev VV:List (V×V)->List (aj×aj)->Prop:=Paired λp q=>aD p.1 q.1/\aD p.2 q.2
def qO(X:Cx)(pos:Pos)(keys:List (Option Expr))(a:bH)(b:List (TE×TE)):Prop:=
 ∀(aa:aV)(s:ak)(j:St)(H:Hp)(Q:List (V×V)->Hp->Prop),au X aa j H s->ue b j H Q->
  wpAny (model X.prog X.w) X.A (evalPairs (pairTrees keys a X.env pos)) (λvs f=>∃e d,au X aa j d f/\VV e vs/\Q e d) X.xe s
theorem KI:qO X pos [] [] []:=λaa s j H Q I h=>pairTrees_nil_walk ⟨[],H,I,.nil,h⟩
theorem V5(f:PE X k tk)(i:PE X v tv)(g:qO X pos ks vs trs):
  qO X pos (some k::ks) (v::vs) ((tk,tv)::trs):=λaa s j H Q I h=>
 pairTrees_cons_walk (bj (f aa s j H _ I h) λu n ⟨x,H1,I1,rx,q1⟩=>bj (i aa n j H1 _ I1 q1) λq o ⟨y,H2,I2,ry,q2⟩=>
  bj (g aa o j H2 _ I2 q2) λr p b=>by let⟨l,d,e,a,m⟩:=b;exact⟨(x,y)::l,d,e,.cons ⟨rx,ry⟩ a,m⟩)
def lx(kvs a:bI):bI:=a.foldl (λb d=>e5 b d.1 d.2) kvs
theorem KV.merge:∀{a:bI}{rs:List (aS×aj)}{kvs:bI}{vs:List (aS×aj)},KV a rs->KV kvs vs->KV (lx kvs a) (merged vs rs):=by
 intro a rs kvs vs r;unfold KV at r
 induction r generalizing kvs vs with
 |nil=>intro q;exact q
 |@cons p q f g h t b=>
  intro d;have e:KV (e5 kvs p.1 p.2) (stored vs q.1 q.2):=by
   have:=d.put p.1 h.2;rw[<- h.1];exact this
  exact b e
theorem DT:∀(a kvs:bI),(lx kvs a).length<=kvs.length+a.length
 |[],kvs=>by show kvs.length <= kvs.length + 0;omega
 |p::r,kvs=>by
  have b:=DT r (e5 kvs p.1 p.2);have d:=yF kvs p.1 p.2;show (lx (e5 kvs p.1 p.2) r).length<=_;rw[length_cons];omega
theorem AG:∀{kvs:bI}{e:List (aj×aj)},VV (kvs.map λd=>(kV d.1,d.2)) e->∃rs,Carries (eB P w) e rs/\KV kvs rs
 |[],_,r=>by rw[map_nil] at r;cases r;exact⟨[],True.intro,.nil⟩
 |p::kvs,_,r=>by
  rw[map_cons] at r;cases r with
  |@cons a b g bs h t=>
   ∎;let⟨rs,c,q⟩:=AG (P:=P) (w:=w) t;let⟨i,f⟩:=b;∎;exact⟨(p.1,f)::rs,⟨mK h.1,rfl,c⟩,.cons ⟨rfl,h.2⟩ q⟩
def FF(b:List (TE×TE)):TE:=λj H Q=>∀p,H p=none->ue b j (aR H p (.dK [])) λf d=>d p=some (.dK [])/\∃a:bI,f=a.map (λe=>(kV e.1,e.2))/\a.length<=15/\Q (.ref p) (aR d p (.dK (lx [] a)))
theorem Mz(h:qO X pos keys values trs)(d:keys.all (·.isSome)=true)(x:keys.length=values.length)(r:keys≠[])(g:keys.length<=15):PE X (.Dict keys values pos) (FF trs):=by
 intro aa s j H Q I q;have hn:=I.aN.fresh (le_refl ⇑s);have n:=I.laid (a:=⇑s) (o:=.dK []) (h':=s.heap.push { cls:=.type "dict",data:=.dict #[] }) (t':=s.toks) (λ_ _ q=>Heap.get?_push_of_some _ q) (le_refl _) (A1 s.heap I.big);refine wpAny_Dict_walk (knd:=eB X.prog X.w) d x r g (bj (h aa _ j _ _ n (q _ hn)) λN M l=>?_);let⟨L,G,m,i,e,f,p,J,B⟩:=l;subst p;∎;let⟨rs,c,D⟩:=AG (P:=X.prog) (w:=X.w) i;let⟨z,hd,E,C,dd⟩:=si m.aN e;∎;cases C;refine⟨rs,c,dd,λh' b y=>⟨.ref ⇑s,_,?_,rfl,B⟩⟩;have A:(lx [] f).length<=sizeLine:=by
  have u:=DT f [];rw[length_nil] at u;rw[sizeLine_eq];omega
 have v:∃q,h'.get? ⇑s=some q:=let ⟨q,_,_,hq,_⟩:=b;⟨q,hq⟩
 exact we m (by rw[e];exact True.intro) y v (zV A hd (D.merge .nil) b)
structure M2(X:Cx)(o:Expr)(m:Str)(apos:Pos)(e f:Expr)(a9:Pos):Prop where
 base:attributeBase o m X.env (eval o X.env)=eval o X.env
 SD:((backTo a9 (starEach [e,f] X.env)).all (λx=>!x.1)&&(backToKw a9 (keywordEach [] X.env)).all (λx=>x.1.isSome)
  && decide (([e,f]:bH).length+([]:List Keyword).length+(if ([]:List Keyword).isEmpty then 0 else 1)<30))=true
 line:(apos.endLine == a9.line)=true
 trees:backTo a9 (starEach [e,f] X.env)=[(false,eval e X.env),(false,eval f X.env)]
def Dc(H:Hp)(a:af):Prop:=(∃b,Rd H a (.dK b))\/∃b,Rd H a (.dT b)
theorem rh(I:au X aa j H s)(d:Dc H a):
  s.TypeIs (.ref a) "dict"/\(∀b,Value.ref a=.ref b->∃ob,s.heap.get? b=some ob/\ob.dict=none)/\(a == sysModules)=false:=by
 rcases d with⟨h,e⟩ |⟨h,e⟩
 .obtain⟨_,hd,vs,_,dd⟩:=iT I.aN e;refine⟨dd.typeIs,λb q=>?_,hd⟩;cases q;let⟨ob,_,_,f,g,_⟩:=dd;exact⟨ob,f,g.2.1⟩
 .obtain⟨_,hd,xs,_,dd⟩:=mR I.aN e;refine⟨dd.typeIs,λb q=>?_,hd⟩;cases q;let⟨ob,_,_,f,g,_⟩:=dd;exact⟨ob,f,g.2.1⟩
section
variable{X:Cx}{aa:aV}{σ:St}{H:Hp}{s:ak}{a:af}{y d:V}{u r:aj}{o:Option V}{A:Around}{E:aj->ak->Prop}
theorem Vy{Q:aj->ak->Prop}(p:A.units+1<cLine)(I:au X aa σ H s)(g:lU H a y o)(m:aD y u)(rd:aD d r)(h:∀n s',au X aa σ H s'->aD (o.getD d) n->Q n s'):
  wpAny (model X.prog X.w) A (call (.builtin "dict.get") [.ref a,u,r]) Q E s:=by
 rcases g with⟨j,k,e,i,l⟩ |⟨j,k,b,e,i,eb,l⟩
 .subst i;let⟨z,hd,vs,f,dd⟩:=iT I.aN e;refine call_meetsIn PySem.F.slot_dict_get dd.typeIs PySem.F.entry_dict_get (PySem.F.args_dict_get_3 _ _ _) (meets_dict_get_default (eB X.prog X.w) a (mK m) hd r) ⟨_,dd.mapOf,h _ _ (I.tok _) ?_⟩;rw[l];exact (f.val k).getD rd
 .subst i;cases (show u=Value.ref b from m);let⟨z,hd,q,f,dd⟩:=mR I.aN e;refine call_meetsIn PySem.F.slot_dict_get dd.typeIs PySem.F.entry_dict_get (PySem.F.args_dict_get_3 _ _ _) (meetsH_dict_get_default (tupleKind (eB X.prog X.w)) a b hd r) ⟨tupleKind_room_in1 p,k,q,n5 I.aN eb,dd,h _ _ (I.tok _) ?_⟩;rw[l];exact (f.val k).getD rd
end
def ED(f ty g:TE):TE:=λj H Q=>f j H λx b=>∃a,x=.ref a/\Dc b a/\ty j b λy e=>g j e λz d=>∃o,lU d a y o/\Q (o.getD z) d
section
variable{X:Cx}{o e f:Expr}{apos a9:Pos}{td ty tx:TE}
theorem Ow(v:X.A.units+1<cLine)(r:PE X o td)(he:PE X e ty)(q:PE X f tx)(m:M2 X o "get" apos e f a9):PE X (.Call (.Attribute o "get" apos) [e,f] [] a9) (ED td ty tx):=by
 intro aa s j H Q I h;refine wpAny_Call_method m.base m.SD m.line PySem.F.plainAttrs_dict PySem.F.slot_dict_get PySem.F.type_dict_get (bj (r aa s j H _ I h) λu C i=>?_);let⟨x,n,l,B,a,ex,d,w⟩:=i;subst ex;obtain rfl:u=Value.ref a:=B;let⟨E,G,_⟩:=rh l d;refine⟨E,G,?_⟩;rw[m.trees];refine Calls.callWith_builtin rfl (Calls.evalArgs_plain (Calls.spliced_cons (bj (he aa C j n _ l w) λL D ⟨y,H2,I2,ry,q2⟩=>
  Calls.spliced_cons (bj (q aa D j H2 _ I2 q2) λJ M ⟨z,H3,I3,rz,ov,g,q3⟩=>Calls.spliced_nil ?_))))
 exact Vy v I3 g ry rz λO N p b=>⟨_,H3,p,b,q3⟩
end
end L2
namespace HT
open PySem PyProof.Rows
section
variable{prog:Program}{w:World}{A:Around}{E:aj->ak->Prop}{s:ak}
def dw(n d:Nat):bK->Nat
 |none=>d
 |some v=>if v < 0 then (v + (n:Int)).toNat else min v.toNat n
end
end HT
namespace L2
open PySem PySem.Spec PyProof.Rows
abbrev TO:=St->Hp->(bK->Hp->Prop)->Prop
def PO(X:Cx)(e:Option Expr)(t:TO):Prop:=
 ∀(aa:aV)(s:ak)(j:St)(H:Hp)(Q:bK->Hp->Prop),au X aa j H s->t j H Q->
  wpAny (model X.prog X.w) X.A (evalPart e X.env) (λu b=>∃o a,au X aa j a b/\IsPart u o/\Q o a) X.xe s
def BW:TO:=λ_ H Q=>Q none H
def Ee(t:TE):TO:=λj H Q=>t j H λx a=>∃i,x=.int i/\Q (some i) a
theorem Ka:∀{us:aL},aE (ns.map V.int) us->IntsAre us ns:=by
 induction ns with
 |nil=>intro us r;rw[map_nil] at r;cases r;exact .nil
 |cons n ns a=>
  intro us r;rw[map_cons] at r;cases r with
  |cons b r2=>
   let⟨t,e⟩:=b;subst e;exact .cons n t (a r2)
section
variable{X:Cx}{e:Expr}{te:TE}{lo hi:Option Expr}{tl th:TO}{pos p2:Pos}
theorem HB:PO X none BW:=by
 intro aa s j H Q I h;rw[evalPart_none];exact wpAny_pure ⟨none,H,I,.none,h⟩
theorem VH(h:PE X e te):PO X (some e) (Ee te):=by
 intro aa s j H Q I f;rw[evalPart_some];refine bj (h aa s j H _ I f) λu m a=>?_
 ∎;let⟨x,b,d,l,g⟩:=a;let⟨i,rfl,q⟩:=g;let⟨t,rfl⟩:=l;∎;exact⟨some i,b,d,.int i t,q⟩
def lN(X:Cx)(r:V->bK->bK->Hp->VK->Prop):Prop:=
 ∀(aa:aV)(s:ak)(j:St)(H:Hp)(x:V)(v b d:aj)(lo hi:bK)(a:af)(Q:VK),au X aa j H s->aD x v->s.heap.IsSliceOf a b d .none->IsPart b lo->IsPart d hi->r x lo hi H Q->
  ∃T id,typeLookup (.type T) "__getitem__"=pure (some (.builtin id))/\s.TypeIs v T/\wpAny (model X.prog X.w) X.A (getItem v (.ref a)) (EP X aa j Q) X.xe s
theorem lN.or{r f:V->bK->bK->Hp->VK->Prop}(h:lN X r)(h':lN X f):lN X (λx lo hi H Q=>r x lo hi H Q\/f x lo hi H Q):=by
 intro aa s j H x v l m lo hi i Q I g a b d q;rcases q with q |q
 .exact h aa s j H x v l m lo hi i Q I g a b d q
 .exact h' aa s j H x v l m lo hi i Q I g a b d q
def D5(r:V->bK->bK->Hp->VK->Prop)(te:TE)(tl th:TO):TE:=λj H Q=>te j H λx a=>tl j a λl b=>th j b λu d=>r x l u d Q
theorem Pt(G:lN X r)(he:PE X e te)(E:PO X lo tl)(L:PO X hi th):PE X (.Subscript e (.Slice lo hi none p2) pos) (D5 r te tl th):=by
 intro aa s j H Q I h;refine Subscript_ (bj (he aa s j H _ I h) λv s1 d=>?_);let⟨x,n,p,r1,O⟩:=d;refine wpAny_Slice (bj (E aa s1 j n _ p O) λf s2 d=>?_);let⟨l,o,y,M,U⟩:=d;refine bj (L aa s2 j o _ y U) λg a i=>?_
 let⟨u,m,z,N,Y⟩:=i;rw[evalPart_none];refine wpAny_pure ?_;have B:au X aa j m { a with heap:=a.heap.push { cls:=.type "slice",data:=.fields #[f,g,.none] } }:=z.kept (t':=a.toks) λb ob q=>Heap.get?_push_of_some _ q
 let⟨T,id,C,J,D⟩:=G aa { a with heap:=a.heap.push { cls:=.type "slice",data:=.fields #[f,g,.none] } } j m x v f g l u ⇑a Q B r1 (Heap.IsSliceOf.new ..) M N Y;show wpAny (model X.prog X.w) X.A (subscriptTail e (.Slice lo hi none p2) v (.ref ⇑a)) (EP X aa j Q) X.xe { a with heap:=a.heap.push { cls:=.type "slice",data:=.fields #[f,g,.none] } };exact tail_any (ops:=[.ref ⇑a,v]) J C D (by with_unfolding_all rfl)
def rQ(xs:aw)(lo hi:bK):aw:=(xs.drop (HT.dw xs.length 0 lo)).take (HT.dw xs.length xs.length hi - HT.dw xs.length 0 lo)
theorem KR(xs:aw)(lo hi:bK):(rQ xs lo hi).length<=xs.length:=by
 unfold rQ;rw[length_take,List.length_drop];omega
end
def hX(n:Nat)(i:Int):Option Nat:=if 0<=i then (if i<n then some i.toNat else none) else if -(n:Int)<=i then some (i+n).toNat else none
def cX{G:Type}(xs:List G)(i:Int):Option G:=(hX xs.length i).bind λj=>xs[j]?
theorem A8(h:hX n i=some j):seqIndex? i n=some j/\j<n/\-(n:Int)<=i/\i<n:=by
 unfold hX at h;by_cases b:0<=i
 .rw[if_pos b] at h;by_cases a:i<n
  .rw[if_pos a] at h;have e:i.toNat=j:=Option.some.inj h;exact⟨by rw[seqIndex_of b a,e],⋯,⋯,a⟩
  .rw[if_neg a] at h;cases h
 .rw[if_neg b] at h;by_cases a:-(n:Int)<=i
  .rw[if_pos a] at h;have e:(i+n).toNat=j:=Option.some.inj h;exact⟨by rw[seqIndex_neg ⋯ a,e],⋯,a,⋯⟩
  .rw[if_neg a] at h;cases h
theorem w5(h:cX xs i=some v):∃j,seqIndex? i xs.length=some j/\xs[j]?=some v/\j<xs.length/\-(xs.length:Int)<=i/\i<xs.length:=by
 unfold cX at h;cases e:hX xs.length i with
 |none=>rw[e] at h;cases h
 |some j=>
  rw[e] at h;let⟨a,b,d,f⟩:=A8 e;exact⟨j,a,h,b,d,f⟩
def DA(b:Expr):Prop:=∀o i,subscripted b false o i=operate [o,i] (getItem o i)
def jJ(X:Cx)(r:R2):Prop:=
 ∀(value a:Expr)(aa:aV)(s:ak)(j:St)(H:Hp)(x y:V)(v u:aj)(Q:VK),au X aa j H s->aD x v->aD y u->r x y H Q->
  subscripted a false v u=operate [v,u] (getItem v u)->wpAny (model X.prog X.w) X.A (subscriptTail value a v u) (EP X aa j Q) X.xe s
def PX(X:Cx)(id:String)(r:V->aw->Hp->VK->Prop):Prop:=
 ∀(aa:aV)(s:ak)(j:St)(H:Hp)(x:V)(a:aw)(v:aj)(us:aL)(Q:VK),au X aa j H s->aD x v->aE a us->r x a H Q->
  wpAny (model X.prog X.w) X.A (call (.builtin id) (v::us)) (EP X aa j Q) X.xe s
section
variable{X:Cx}{a b:Expr}{ta tb:TE}{pos:Pos}
theorem jJ.or{r f:R2}(h:jJ X r)(h':jJ X f):jJ X (λx y H Q=>r x y H Q\/f x y H Q):=by
 intro value d aa s j H x y v u Q I g i q e;rcases q with q |q
 .exact h value d aa s j H x y v u Q I g i q e
 .exact h' value d aa s j H x y v u Q I g i q e
theorem QK(i:jJ X r)(f:PE X a ta)(g:PE X b tb)(hs:DA b):PE X (.Subscript a b pos) (l8 r ta tb):=by
 intro aa s j H Q I h;exact Subscript_ (yA f g I h λv u n x y d e l m q=>i a b aa n j d x y v u Q e l m q (hs _ _))
def Dw(K:ao):R2:=λx y H Q=>∃p d i v,x=.ref p/\y=.int i/\bC K H p d/\cX d i=some v/\Q v H
def FP(K:ao):R2:=λx y H Q=>∃p d i v,x=.ref p/\y=.int i/\cU K H p d/\cX d i=some v/\Q v H
def Ea:R2:=λx y H Q=>∃z i c,x=.str z/\y=.int i/\z.length<=sizeLine/\cX z.cps.toList i=some c/\Q (.str ⟨#[c]⟩) H
theorem RX:jJ X (Dw X.K):=by
 intro value m aa s G H x y v u Q I M N h A;let⟨p,xs,i,z,rfl,rfl,L,E,q⟩:=h;cases M;∎;let⟨t,rfl⟩:=N;let⟨f,r,g,Y⟩:=I.list L;let⟨j,e,B,U,C,D⟩:=w5 E;let⟨w,n,l⟩:=r.get B;∎;have J:=r.length;have hn:=oo;have d:EP X aa G Q w s:=⟨z,H,I,l,q⟩;by_cases o:0<=i
 .have hj:i.toNat=j:=by
   rw[seqIndex_of o D] at e;exact Option.some.inj e
  exact item_listR g.isList o ⋯ (by rw[hj];simpa using n) d A
 .have hj:(i+(f.toArray.size:Int)).toNat=j:=by
   rw[seqIndex_neg ⋯ C] at e;rw[size_toArray,<- J];exact Option.some.inj e
  exact subscriptTail_builtinR (x:=w) g.isList.typeIs slot_list_getitem.lookup
   (wpAny_getItem_list_neg (Q:=λr O=>r=w/\EP X aa G Q r O) g.isList ⋯ (by rw[size_toArray]<;>omega) ⋯ (by rw[hj];simpa using n) ⟨rfl,d⟩) A
theorem M6:jJ X (FP X.K):=by
 intro value f aa s G H x y v u Q I E J h C;let⟨p,Y,i,z,rfl,rfl,B,o,q⟩:=h;cases E;∎;let⟨t,rfl⟩:=J;let⟨D,r,g,U⟩:=I.tuple B;let⟨j,m,n,M,N,O⟩:=w5 o;let⟨w,l,e⟩:=r.get n;∎;have A:=r.length;have hn:=oo;have d:EP X aa G Q w s:=⟨z,H,I,e,q⟩;exact subscriptTail_builtinR (x:=w) g.typeIs slot_tuple_getitem.lookup
  (getItem_tuple (j:=j) (Q:=λr L=>r=w/\EP X aa G Q r L) g ⋯ ⋯ (by rw[size_toArray,<- A];exact m) (by simpa using l) ⟨rfl,d⟩) C
theorem Pp:jJ X Ea:=by
 intro value d aa s G H x y v u Q I w A h r;∎;let⟨z,i,c,rfl,rfl,C,o,q⟩:=h;let⟨t,rfl⟩:=w;let⟨D,rfl⟩:=A;let⟨j,e,l,B,m,n⟩:=w5 o;∎;have p:z.cps.toList.length=z.length:=by simp[Str.length]
 rw[p] at e m n;have hn:=oo;exact tail_any (typeIs_str s z t) slot_str_getitem.lookup (getItem_str (c:=c) (by
  have f:decide (i < -(2 ^ 63:Int))=false:=decide_eq_false ⋯;have g:decide (i ≥ 2 ^ 63)=false:=decide_eq_false ⋯;rw[f,g,Bool.or_false]) (by rw[e];simpa using l) ⟨.str ⟨#[c]⟩,H,I.tok _,⟨_,rfl⟩,q⟩) r
def Ec(K:ao):R2:=λx y H Q=>Dw K x y H Q\/FP K x y H Q\/Ea x y H Q
theorem Vw:jJ X (Ec X.K):=RX.or (M6.or Pp)
theorem Ip(bo:aL)(n j:Nat)(u:aj):Obj.mapSeq (·.setIfInBounds j u) { cls:=.type "list",data:=.seq bo.toArray n }={ cls:=.type "list",data:=.seq (bo.set j u).toArray n }:=by
 simp[Obj.mapSeq]
theorem au.ag{H:Hp}(I:au X aa j H s)(h:H p=some (.ag xs)):
  ∃(bo:aL)(n:Nat),aE xs bo/\s.heap.get? p=some { cls:=.type "list",data:=.seq bo.toArray n }/\xs.length<=sizeLine:=by
 let⟨z,bo,n,r,e⟩:=I.aN p _ h;exact⟨bo,n,r,e,z⟩
theorem au.m5{aa:aV}{j:St}{H:Hp}{s:ak}{p:af}{xs ys:aw}{bo its':aL}{n n':Nat}{f:Obj->Obj}(I:au X aa j H s)(h:H p=some (.ag xs))(i:s.heap.get? p=some { cls:=.type "list",data:=.seq bo.toArray n })(d:f { cls:=.type "list",data:=.seq bo.toArray n }={ cls:=.type "list",data:=.seq its'.toArray n' })(r:aE ys its')(hz:ys.length<=sizeLine)(t:Nat):
  au X aa j (aR H p (.ag ys)) { s with heap:=s.heap.update p f,toks:=t }:=by
 have e:(s.heap.update p f).get? p=some { cls:=.type "list",data:=.seq its'.toArray n' }:=by
  rw[Heap.get?_update_self f i (by rw[d]<;>rfl),d]
 refine I.write (x:=p) (e:=p) (by rw[h];trivial) (.inl rfl) (λb u g q=>(Heap.get?_update_other _ _ (Ne.symm g)).trans q) ⟨_,e⟩ ?_;exact⟨hz,its',n',r,e⟩
def Gv:V->V->V->Hp->(Hp->Prop)->Prop:=λo i v H Q=>∃p d k j,o=.ref p/\i=.int k/\H p=some (.ag d)/\hX d.length k=some j/\Q (aR H p (.ag (d.set j v)))
theorem Tt:Dr X Gv:=by
 intro aa s G H o i v ov L u Q I C B D h;let⟨p,E,k,j,rfl,rfl,y,z,q⟩:=h;cases C;∎;let⟨t,rfl⟩:=B;let⟨d,n,r,g,A⟩:=I.ag y;let⟨e,J,w,x⟩:=A8 z;∎;have f:=r.length;have hn:=oo;have l:au X aa G (aR H p (.ag (E.set j v))) { s with heap:=s.heap.update p (Obj.mapSeq (·.setIfInBounds j u)) }:=
  I.m5 y g (Ip d n j u) (r.set D j) (by rw[length_set];exact A) s.toks
 by_cases m:0<=k
 .have hk:k.toNat=j:=by
   rw[seqIndex_of m x] at e;exact Option.some.inj e
  exact W.ki_setAt g m ⋯ (by rw[size_toArray,<- f];exact x) (by rw[hk];exact⟨_,l,q⟩)
 .have hk:(k+(d.toArray.size:Int)).toNat=j:=by
   rw[seqIndex_neg ⋯ w] at e;rw[size_toArray,<- f];exact Option.some.inj e
  exact W.ki_setBack g ⋯ (by rw[size_toArray,<- f];exact w) ⋯ (by rw[hk];exact⟨_,l,q⟩)
theorem L8(lo d:bK)(n:Nat):(sliceBounds lo d none n).1=((HT.dw n 0 lo:Nat):Int)/\(sliceBounds lo d none n).2.1=((HT.dw n n d:Nat):Int)/\(sliceBounds lo d none n).2.2=1:=by
 refine⟨?_,?_,rfl⟩
 .cases lo with
  |none=>simp[sliceBounds,HT.dw]
  |some i=>
   simp only[sliceBounds,HT.dw,Option.getD_none,show (1:Int) > 0 by decide,if_true];by_cases h:i<0
   .simp only[h,if_true]<;>omega
   .simp only[h,if_false]<;>omega
 .cases d with
  |none=>simp[sliceBounds,HT.dw]
  |some i=>
   simp only[sliceBounds,HT.dw,Option.getD_none,show (1:Int) > 0 by decide,if_true];by_cases h:i<0
   .simp only[h,if_true]<;>omega
   .simp only[h,if_false]<;>omega
theorem Pb(bo:aL)(lo d:bK):slicePick bo.toArray lo d none=((bo.drop (HT.dw bo.length 0 lo)).take (HT.dw bo.length bo.length d - HT.dw bo.length 0 lo)).toArray:=by
 let⟨e,f,g⟩:=L8 lo d bo.toArray.size;unfold slicePick;rw[e,f,g];simp only[sliceRange_one,pick_run,size_toArray]<;>rfl
def FN(K:ao):V->bK->bK->Hp->VK->Prop:=λx lo e H Q=>∃a d,x=.ref a/\bC K H a d/\∀p,H p=none->Q (.ref p) (aR H p (.ag (rQ d lo e)))
theorem Iq:lN X (FN X.K):=by
 intro aa s j H x v A B lo f z Q I w i p u h;let⟨a,d,rfl,l,q⟩:=h;cases w;let⟨n,r,g,m⟩:=I.list l;have e:=r.length;refine⟨"list",_,slot_list_getitem.lookup,g.isList.typeIs,?_⟩;refine wpAny_getItem_list_slice g.isList i p u .none (by simp) ?_ (by rw[size_toArray]<;>omega);rw[Pb,<- e];refine⟨.ref ⇑s,_,I.laid (t':=s.toks) (o:=.ag (rQ d lo f)) (λb y q=>Heap.get?_push_of_some _ q) (le_refl _) ?_,rfl,q _ (I.aN.fresh (le_refl _))⟩;exact⟨le_trans (KR d lo f) m,_,0,(r.drop (HT.dw d.length 0 lo)).take (HT.dw d.length d.length f - HT.dw d.length 0 lo),Heap.get?_push_size _ rfl⟩
def iN:V->Bool
 |.aM=>true
 |.bl _=>true
 |.int _=>true
 |.str _=>true
 |_=>false
def hZ:V->V->Bool
 |.aM,.aM=>true
 |.bl a,.bl b=>a == b
 |.bl a,.int b=>(if a then 1 else 0) == b
 |.int a,.bl b=>a == (if b then 1 else 0)
 |.int a,.int b=>a == b
 |.str a,.str b=>a == b
 |_,_=>false
theorem mJ(g:aD y u)(d:aD x v)(h:iN y=true)(f:iN x=true):SeqAt.EqAt A s u v (hZ y x):=by
 cases y with
 |aM=>
  cases g;cases x with
  |aM=>cases d;exact SeqAt.EqAt.same _
  |bl b=>cases d;exact SeqAt.EqAt.none_bool b
  |int b=>let⟨t,rfl⟩:=d;exact SeqAt.EqAt.none_int b t
  |str b=>let⟨t,rfl⟩:=d;exact SeqAt.EqAt.none_str b t
  |_=>exact absurd (show false=true from f) Bool.false_ne_true
 |bl a=>
  cases g;cases x with
  |aM=>cases d;exact SeqAt.EqAt.bool_none a
  |bl b=>cases d;exact SeqAt.EqAt.bool_bool a b
  |int b=>let⟨t,rfl⟩:=d;exact SeqAt.EqAt.bool_int a b t
  |str b=>let⟨t,rfl⟩:=d;exact SeqAt.EqAt.bool_str a b t
  |_=>exact absurd (show false=true from f) Bool.false_ne_true
 |int a=>
  let⟨e,rfl⟩:=g;cases x with
  |aM=>cases d;exact SeqAt.EqAt.int_none a e
  |bl b=>cases d;exact SeqAt.EqAt.int_bool a e b
  |int b=>let⟨t,rfl⟩:=d;exact SeqAt.EqAt.int_int a e b t
  |str b=>let⟨t,rfl⟩:=d;exact SeqAt.EqAt.int_str a e b t
  |_=>exact absurd (show false=true from f) Bool.false_ne_true
 |str a=>
  let⟨e,rfl⟩:=g;cases x with
  |aM=>cases d;exact SeqAt.EqAt.str_none a e
  |bl b=>cases d;exact SeqAt.EqAt.str_bool a e b
  |int b=>let⟨t,rfl⟩:=d;exact SeqAt.EqAt.str_int a e b t
  |str b=>let⟨t,rfl⟩:=d;exact SeqAt.EqAt.str_str a e b t
  |_=>exact absurd (show false=true from f) Bool.false_ne_true
 |_=>exact absurd (show false=true from h) Bool.false_ne_true
def hB(x:V)(u:aj):Bool:=match u with
 |.none=>hZ .aM x
 |.bool b=>hZ (.bl b) x
 |.int i _=>hZ (.int i) x
 |.str z _=>hZ (.str z) x
 |_=>false
theorem Gz(r:aD y u)(f:iN y=true):hB x u=hZ y x:=by
 cases y with
 |aM=>cases r;rfl
 |bl b=>cases r;rfl
 |int i=>let⟨t,rfl⟩:=r;rfl
 |str z=>let⟨t,rfl⟩:=r;rfl
 |_=>exact absurd (show false=true from f) Bool.false_ne_true
theorem p9:∀{xs:aw}{us:aL},aE xs us->xs.all iN=true->us.any (hB x)=xs.any λy=>hZ y x
 |_,_,.nil,_=>rfl
 |y::xs,u::us,.cons r t,f=>by
  rw[all_cons,and_eq_true] at f;rw[any_cons,any_cons,Gz r f.1,p9 t f.2]
theorem qa(g:aD x v)(e:iN x=true):∀{xs:aw}{us:aL},aE xs us->xs.all iN=true->∀u∈us,SeqAt.EqAt A s u v (hB x u)
 |_,_,.nil,_=>λu d=>by cases d
 |y::xs,u::us,.cons r t,f=>λh d=>by
  rw[all_cons,and_eq_true] at f;rcases mem_cons.mp d with rfl |d
  .rw[Gz r f.1];exact mJ r g f.1 e
  .exact qa g e t f.2 h d
def su(x:V)(xs:aw):Bool:=xs.any λy=>hZ y x
def qZ(K:ao)(neg:Bool):R2:=λx y H Q=>∃p d,y=.ref p/\(bC K H p d\/cU K H p d)/\iN x=true/\d.all iN=true/\Q (.bl (if neg then !su x d else su x d)) H
theorem KQ:b4 X (compareOp .In) (qZ X.K false):=by
 intro aa s j H x y v u Q I g i h;let⟨p,l,rfl,d,f,fs,q⟩:=h;cases i;rcases d with d |d
 .obtain⟨bo,r,pl,hz⟩:=I.list d;refine SeqAt.in_listAt (hB x) pl.isList (λw e=>qa g f r fs w (by simpa using e)) ⟨.bl _,H,I,rfl,?_⟩;rw[show bo.toArray.any (hB x)=bo.any (hB x) by simp,p9 r fs];exact q
 .obtain⟨bo,r,pl,hz⟩:=I.tuple d;refine SeqAt.in_tupleAt (hB x) pl (λw e=>qa g f r fs w (by simpa using e)) ⟨.bl _,H,I,rfl,?_⟩;rw[show bo.toArray.any (hB x)=bo.any (hB x) by simp,p9 r fs];exact q
theorem Js:b4 X (compareOp .NotIn) (qZ X.K true):=by
 intro aa s j H x y v u Q I g i h;let⟨p,l,rfl,d,f,fs,q⟩:=h;cases i;rcases d with d |d
 .obtain⟨bo,r,pl,hz⟩:=I.list d;refine SeqAt.notIn_listAt (hB x) pl.isList (λw e=>qa g f r fs w (by simpa using e)) ⟨.bl _,H,I,rfl,?_⟩;rw[show bo.toArray.any (hB x)=bo.any (hB x) by simp,p9 r fs];exact q
 .obtain⟨bo,r,pl,hz⟩:=I.tuple d;refine SeqAt.notIn_tupleAt (hB x) pl (λw e=>qa g f r fs w (by simpa using e)) ⟨.bl _,H,I,rfl,?_⟩;rw[show bo.toArray.any (hB x)=bo.any (hB x) by simp,p9 r fs];exact q
theorem bL.or{r d:aw->Hp->VK->Prop}(h:bL X f r)(h':bL X f d):bL X f (λxs H Q=>r xs H Q\/d xs H Q):=by
 intro aa s j H xs us Q I rs q;rcases q with q |q
 .exact h aa s j H xs us Q I rs q
 .exact h' aa s j H xs us Q I rs q
theorem xP:bL X (.type "list") (λxs H Q=>∃p ys,xs=[.ref p]/\(bC X.K H p ys\/cU X.K H p ys)/\∀l,H l=none->Q (.ref l) (aR H l (.ag ys))):=by
 intro aa s j H xs us Q I r h;∎;let⟨p,ys,rfl,x,q⟩:=h;let⟨u,rfl,C⟩:=jg r;∎;cases C;have m:∀(d:aL),aE ys d->ys.length<=sizeLine->∀(f:aU)(g:Nat),(∀b B,s.heap.get? b=some B->f.get? b=some B)->
   f.get? ⇑s=some { cls:=.type "list",dict:=none,data:=.seq d.toArray g,slots:=#[] }->EP X aa j Q (.ref ⇑s) { s with heap:=f }:=λd i y f g kp e=>
  ⟨.ref ⇑s,_,I.laid (t':=s.toks) kp (le_refl _) (show a6 X.prog X.w _ f _ (.ag ys) from ⟨y,d,g,i,e⟩),rfl,q _ (I.aN.fresh (le_refl _))⟩
 rcases x with x |x
 .obtain⟨d,i,pl,y⟩:=I.list x;have v:=i.length;let⟨o,A,z,n,hd⟩:=pl.isList;exact call_list_seq p (.inl rfl) A z hd (λf g kp e=>m d i y f g kp e) (by simp only[size_toArray]<;>omega)
 .obtain⟨d,i,pl,y⟩:=I.tuple x;have v:=i.length;let⟨o,A,z,n,hd⟩:=pl;exact call_list_seq p (.inr rfl) A z hd (λf g kp e=>m d i y f g kp e) (by simp only[size_toArray]<;>omega)
def vF(K:ao)(T:String)(x:V)(H:Hp):Prop:=match x with
 |.str _=>T = "str"
 |.int _=>T = "int"
 |.ref p=>(T = "list" /\ ∃e,bC K H p e) \/ (T = "tuple" /\ ∃o,K.lookup p=some o /\ o.cls=.type "tuple" /\ o.dict=none) \/
   (T="dict"/\((∃d,H p=some (.dK d))\/∃d,H p=some (.dT d)))\/(T="set"/\∃S n,H p=some (.set S n))
 |_=>False
theorem TK(I:au X aa j H s)(r:aD x v)(ty:vF X.K T x H):
  s.TypeIs v T/\∀a,v=.ref a->∃ob,s.heap.get? a=some ob/\ob.dict=none:=by
 cases x with
 |str z=>
  let⟨t,rfl⟩:=r;cases (show T="str" from ty);exact⟨typeIs_str s z t,λ_ e=>nomatch e⟩
 |int i=>
  let⟨t,rfl⟩:=r;cases (show T="int" from ty);exact⟨typeIs_int s i t,λ_ e=>nomatch e⟩
 |ref p=>
  cases r;rcases ty with⟨rfl,m,l⟩ |⟨rfl,o,d,h,hd⟩ |⟨rfl,d⟩ |⟨rfl,S,n,d⟩
  .obtain⟨bo,_,pl,_⟩:=I.list l;refine⟨pl.isList.typeIs,λa e=>?_⟩;cases e;let⟨o,n,e,c,hd,_⟩:=pl;exact⟨o,e,hd⟩
  .refine⟨⟨o,I.cL p o d,h⟩,λa e=>?_⟩;cases e;exact⟨o,I.cL _ o d,hd⟩
  .have z:∃o,s.heap.get? p=some o/\o.ExactDict:=by
    rcases d with⟨g,d⟩ |⟨g,d⟩
    .obtain⟨_,_,_,_,o,_,_,e,ex,_⟩:=I.aN p _ d;exact⟨o,e,ex⟩
    .obtain⟨_,_,_,_,o,_,_,e,ex,_⟩:=I.aN p _ d;exact⟨o,e,ex⟩
   let⟨o,e,ex⟩:=z;refine⟨⟨o,e,ex.1⟩,λa f=>?_⟩;cases f;exact⟨o,e,ex.2.1⟩
  .obtain⟨o,_,_,_,e,ex,_⟩:=I.aN p _ d;refine⟨⟨o,e,ex.1⟩,λa f=>?_⟩;cases f;exact⟨o,e,ex.2.1⟩
 |_=>exact False.elim ty
def uy(K:ao)(T:String)(r:V->aw->Hp->VK->Prop)(f:TE)(t:TA):TE:=λj H Q=>f j H λx d=>vF K T x d/\t j d λg e=>r x g e Q
variable{o e:Expr}{es:bH}{to:TE}{t:TA}{name:Str}{apos a9:Pos}{T id:String}{r:V->aw->Hp->VK->Prop}
theorem xy(E:PlainAttrs T)(slot:Slot T name id)(l:typeOf (.builtin id)=pure (.type "method_descriptor"))(hm:PX X id r)(D:PE X o to)(C:PA X (e::es) t)(f:do attributeBase o name X.env (eval o X.env)=eval o X.env)(i:((backTo a9 (starEach (e::es) X.env)).all (λx=>!x.1)&&(backToKw a9 (keywordEach [] X.env)).all (λx=>x.1.isSome)
   && decide ((e::es).length+([]:List Keyword).length+(if ([]:List Keyword).isEmpty then 0 else 1)<30))=true:=by rfl)(g:do (apos.endLine == a9.line)=true)(hs:do du e es X.env)(d:do fa a9 es X.env):
  PE X (.Call (.Attribute o name apos) (e::es) [] a9) (uy X.K T r to t):=by
 intro aa s j H Q I h;refine wpAny_Call_method_late f i g rfl (bj (D aa s j H _ I h) λv L m=>?_);∎;let⟨x,w,p,u,ty,G⟩:=m;let⟨A,B⟩:=TK p u ty;∎;refine⟨T,id,E,slot,l,A,B,?_⟩;have q:=C a9 aa L j w _ p G;rw[hs] at q ⊢;refine Calls.callWith_builtin (by show (false || (backTo a9 (starEach es X.env)).any (·.1))=false;rw[d]<;>rfl) (Calls.evalArgs_plain ?_);exact bj q λus M n=>by let⟨vs,y,z,r2,J⟩:=n;exact hm aa M j y x vs v us Q z u r2 J
end
def xg(X:Cx)(id:String)(r:V->aw->Hp->VK->Prop):Prop:=
 ∀(aa:aV)(s:ak)(j:St)(H:Hp)(x:V)(a:aw)(v:aj)(us:aL)(Q:VK),au X aa j H s->aD x v->aE a us->r x a H Q->
  wpAny (model X.prog X.w) X.A (call (.builtin id) (v::us)) (EP X aa j Q) X.xe s
theorem aE.one:∀{x:V}{us:aL},aE [x] us->∃u,us=[u]/\aD x u
 |_,_,.cons r .nil=>⟨_,rfl,r⟩
theorem aE.rep(h:aE xs us):∀k:Nat,aE (List.replicate k xs).flatten (List.replicate k us).flatten
 |0=>.nil
 |k + 1=>by
  rw[List.replicate_succ,List.replicate_succ,List.flatten_cons,List.flatten_cons];exact aE.append h (aE.rep h k)
section
variable{X:Cx}{aa:aV}{σ:St}{H:Hp}{s:ak}{l b:af}{xs ys zs:aw}
theorem au.rg{bo its':aL}{n:Nat}{f:dm->dm}{t':Nat}(I:au X aa σ H s)(a:H l=some (.ag xs))(e:s.heap.get? l=some { cls:=.type "list",data:=.seq bo.toArray n })(g:f bo.toArray=its'.toArray)(i:aE ys its')(hz:ys.length<=sizeLine):
  au X aa σ (aR H l (.ag ys)) { s with heap:=s.heap.update l (Obj.mapSeq f),toks:=t' }:=by
 have q:=PySem.IsL.update e f;rw[g] at q;refine I.write (x:=l) (e:=l) (by rw[a];exact trivial) (.inl rfl) (λj u d h=>(Heap.get?_update_other s.heap (Obj.mapSeq f) (Ne.symm d)).trans h) ⟨_,q⟩ ?_;exact⟨hz,its',_,i,q⟩
theorem au.qk(I:au X aa σ H s)(a:aE ys bo)(hz:ys.length<=sizeLine):
  au X aa σ (aR H ⇑s (.ag ys)) { s with heap:=s.heap.push { cls:=.type "list",data:=.seq bo.toArray },toks:=t' }:=
 I.laid (λ_ _ q=>Heap.get?_push_of_some _ q) (le_refl _) ⟨hz,bo,0,a,Heap.get?_push_size _ rfl⟩
theorem au.fresh(I:au X aa σ H s):H ⇑s=none:=I.aN.fresh (le_refl _)
theorem au.pY(I:au X aa σ H s)(a:H l=some (.ag xs)):xs.length<=sizeLine/\∃(bo:aL)(n:Nat),aE xs bo/\xs.length=bo.length/\s.heap.get? l=some { cls:=.type "list",data:=.seq bo.toArray n }:=by
 let⟨z,bo,n,r,e⟩:=I.aN l _ a;exact⟨z,bo,n,r,r.length,e⟩
end
section
variable{X:Cx}
def By:V->aw->Hp->VK->Prop:=λx vs H Q=>∃l a y,x=.ref l/\vs=[y]/\H l=some (.ag a)/\a.length<sizeLine/\Q .aM (aR H l (.ag (a++[y])))
theorem UW:xg X "list.append" By:=by
 intro aa s j H x vs v us Q I g f h;let⟨l,o,y,rfl,rfl,b,m,q⟩:=h;cases g;∎;let⟨u,rfl,d⟩:=f.one;let⟨z,a,n,r,i,e⟩:=I.pY b;∎;refine call_meets F.slot_list_append ⟨_,e,rfl⟩ F.entry_list_append (F.args_list_append_2 _ _) (PySem.list_append l a.toArray n u (by rw[size_toArray];omega)) ⟨e,?_⟩;refine⟨.aM,_,I.rg (its':=a++[u]) b e (by simp) (r.append (.cons d .nil)) ?_,rfl,q⟩;rw[length_append,List.length_singleton];omega
end
end L2
namespace Att
open PySem PySem.W PySem.Calls PyProof.Rows
theorem PR:∀(ns:aI)(vs:aL),WellAll P h vs (ns.map WData.int)->IntsAre vs ns:=by
 intro ns
 induction ns with
 |nil=>
  intro vs w;rw[map_nil] at w;cases w;exact .nil
 |cons n ns d=>
  intro vs w;rw[map_cons] at w;cases w with
  |cons a b=>
   cases a;exact .cons _ _ (d _ b)
theorem LU{l:OpenLaw}{n:Nat}(hn:l.most=some n){P:Params}{h:aU}{args:List WData}{e:aL}(b:l.row.toRowW.claim.pre args=true)(o:WellAll P h e args):
  ∃a vs ns,e=[Value.ref a]/\args=[WData.list (ns.map WData.int)]/\h.get? a=some { cls:=.type "list",data:=.seq vs.toArray }/\IntsAre vs ns/\ns.length<=n:=by
 have m:WShape.hasAll [] args [.list .int]=true:=(pre_splitW b).1;have p:l.pre.holds [] { args:=args }=true:=(pre_splitW b).2;let⟨d,r,rfl,s,u⟩:=hasAllW_cons m;obtain rfl:=hasAllW_nil u;∎;let⟨A,rfl,v⟩:=hasW_list s;let⟨ns,rfl⟩:=items_int v;∎;have g:ns.length<=n:=by
  unfold OpenLaw.pre at p;have i:(WTm.not (.lt (.lit (.int (n:Int))) (.len (.arg 0)))).holds [] { args:=[.list (ns.map .int)] }=true:=by
   have i:=(holds_andW p).1;rw[hn] at i;exact i
  have j:=condW_of i (w_not (w_lt w_lit (w_len_list (w_arg rfl))));rw[length_map] at j;refine Nat.le_of_not_lt λq=>?_
  have x:(n:Int)<((ns.length:Nat):Int):=⋯
  first
   |(rw[decide_eq_true x] at j;exact absurd j ∎)
   |(simp at j;omega)
 cases o with
 |cons y z=>
  cases z;cases y with
  |list w f=>exact⟨_,_,ns,rfl,rfl,w,PR ns _ f,g⟩
theorem Mn(l:OpenLaw)(args:List WData):l.row.toRowW.claim.post args (.bool true) args=true:=
 postW_of (r:=l.row.toRowW) (X:=(true == true))
  (show WShape.has [] (.bool true) .bool=true by first |rfl |decide |simp[WShape.has,WShape.arms,WShape.armsAll])
  (show (WTm.eq .res (.lit (.bool true))).value [] { args:=args,res:=some (.bool true),after:=args }=some (.bool (true == true)) from w_eq_bool (w_res rfl) w_lit) rfl
theorem gw{l:OpenLaw}{n:Nat}{q:Program}{e:ah}{z:(bx)->aU->Prop}{A:World->aU->Prop}{d:DefRec}(hn:l.most=some n)(u:d.params.defaults=[])(call:∀(w:World)(s₀ b:ak)(mg y:bx)(h:af)(o:Obj)(pm p doc:aj)(a:af)(vs:aL)(ns:aI),
   Ground q e [] z w s₀ mg y b.heap->A w b.heap->
   b.heap.get? h=some o->o.data=.func (docDef d.name d.params d.body d.scope pm p doc)->b.heap.CodeRec p d.name->mg d.name=some (.ref h)->
   b.heap.get? a=some { cls:=.type "list",data:=.seq vs.toArray }->IntsAre vs ns->ns.length<=n->b.gens=#[]->
   codeAny (model l.prog w) callerA (.call (.ref h) ⟨[.ref a],[]⟩) (λr s'=>r=.ok (.ret (.bool true))/\OldK b.heap s'.heap/\s'.os=b.os/\AllBare s'.gens) b):
  WalkO q e z A l.row.toRowW d [] (λf vs=>PySem.call f vs):=by
 intro w s₀ b mg y G Y h o pm p doc E kV N hd s B v L args D U m C Q x M;obtain rfl:E=.none:=Dflts.none B u;obtain rfl:kV=.none:=Dflts.noKw B;let⟨a,vs,ns,rfl,rfl,j,g,i⟩:=LU hn m x;refine enter_call (codeAny_mono (call w s₀ b mg y h o pm p doc a vs ns G Y N (fd_plain hd) s v j g i L) λr s' O=>?_);let⟨rfl,H,I,J⟩:=O;exact⟨.inl ⟨.bool true,.bool true,[],rfl,λ_=>rfl,.bool true,Mn l _,λ_=>⟨List.Pairwise.nil,λ_ hm=>(nomatch hm)⟩⟩,H,I,J⟩
end Att
namespace L2
open PySem PySem.Spec PyProof.Rows
theorem CI:∀{vs:aL}{ns:aI},IntsAre vs ns->aE (ns.map V.int) vs
 |_,_,.nil=>.nil
 |_,_,.cons n t h=>.cons ⟨t,rfl⟩ (CI h)
def xS(H:Hp):Prop:=∀b,H b=none\/∃o a,H b=some (.ay o (.ag a))
theorem Wr{P:Program}{w:World}{K:ao}{mg Q:bx}{CX:fD}{k:Nat}{L a:af}{fd:FuncData}{x:Str}{sp:Sp}{f:ak}{vs:aL}{ns:aI}(Y:K.In f.heap)(C:f.heap.Ns mainGlobals mg)(i:f.heap.Ns builtinsNs Q)(N:∀x:Str,x≠"__name__"->Q x=bootBuiltins x)(B:f.heap.NoLimit)(hg:f.gens=#[])(I:f.heap.get? a=some { cls:=.type "list",data:=.seq vs.toArray })(hi:IntsAre vs ns)(hl:ns.length<=sizeLine)(hr:bu k callerA)(F:∀base:Heap,K.In base->base.Ns mainGlobals mg->aJ P w K mg base CX k L fd [x] sp)(l:∀(s:ak)(u:aj),BindsTo s fd ⟨[u],[]⟩ [(x,u)])(O:∀H:Hp,xS H->bC K H a (ns.map V.int)->sp [.ref a] H (λv _=>v=.bl true) λ_ _ _=>False)(M:∀H e s',CX [] H f (λ_ _ _=>False) e s'->False):
  codeAny (model P w) callerA (.call (.ref L) ⟨[.ref a],[]⟩) (λr s'=>r=.ok (.ret (.bool true))/\OldK f.heap s'.heap/\s'.os=f.os/\AllBare s'.gens) f:=by
 have rv:=CI hi;have E:=hi.length;have core:∀H:Hp,xS H->bC K H a (ns.map V.int)->dg P w H f.heap->(∀b,H b≠none->b=a)->(H a≠none->K.lookup a=none)->
   codeAny (model P w) callerA (.call (.ref L) ⟨[.ref a],[]⟩) (λr s'=>r=.ok (.ret (.bool true))/\OldK f.heap s'.heap/\s'.os=f.os/\AllBare s'.gens) f:=by
  intro H hO hS aN hA hK;have g:∀{b:af}{o:Obj},f.heap.get? b=some o->H b=none->(kW f.heap H).get? b=some o:=λe n=>OI e n
  have U:∀{b:af}{o:Obj}{y:Array DictEntry}{p:Nat},f.heap.get? b=some o->o.data=.dict y p->H b=none:=λ{b o y p} e d=>by
   cases q:H b with
   |none=>rfl
   |some u=>
    have J:b=a:=hA b (by rw[q];simp);subst J;rw[I] at e;cases e;have d':Data.seq vs.toArray _=Data.dict y p:=d;cases d'
  have j:∀{b:af}{m:bx},f.heap.Ns b m->(kW f.heap H).Ns b m:=λ{b m} ⟨o,y,p,e,d,r⟩=>⟨o,y,p,g e (U e d),d,r⟩
  have A:K.In (kW f.heap H):=λb o e=>g (Y b o e) (by
   cases q:H b with
   |none=>rfl
   |some u=>
    have J:b=a:=hA b (by rw[q];simp);subst J;rw[hK (by rw[q];simp)] at e;cases e)
  have hM:Mod K mg (kW f.heap H):=⟨A,j C,⟨Q,j i,N⟩,let ⟨mc,h1,h2⟩:=B;⟨mc,j h1,h2⟩⟩
  have e0:ip P w K mg (kW f.heap H) callerA [] f H:=⟨rfl,hM,λb o e=>Vf e,Nat.le_of_eq (RD _ _),trivial,λb i=>absurd (show b∈([]:cA) from i) (by simp),aN,.of_eq hg⟩
  refine codeAny_mono ((F _ A (j C)).run callerA [] f H ⟨[.ref a],[]⟩ [.ref a] [.ref a] _ _ hr e0 (l f (.ref a)) (.cons rfl .nil) (O H hO hS)) λr s' h=>?_
  cases r with
  |error e=>exact (M H e s' h).elim
  |ok fl=>
   cases fl with
   |next=>exact False.elim h
   |brk=>exact False.elim h
   |cont=>exact False.elim h
   |ret u=>
    let⟨v,H',os,bare,un,D,r',q⟩:=h;have q':v=.bl true:=q;subst q';obtain rfl:u=Value.bool true:=r';refine⟨rfl,OldK.of_keep λb o e=>?_,os,bare⟩;cases q:H b with
    |none=>exact un.keep b o e q (by intro z;exact absurd (show b∈([]:cA) from z) (by simp)) (by simp)
    |some u=>
     rcases hO b with z |⟨ob,xs,z⟩
     .rw[q] at z;cases z
     .have z2:=un.bp b ob _ z;let⟨e1,_⟩:=aN b _ z;let⟨e2,_⟩:=D b _ z2;rw[e] at e1;cases e1;exact e2
 cases hk:K.lookup a with
 |some o=>
  have e:=Y a o hk;rw[I] at e;cases e;refine core (λ_=>none) (λ_=>.inl rfl) (.inr ⟨_,vs.toArray,_,hk,rfl,rfl,rfl,by rw[size_toArray,E];exact hl,by simpa using rv⟩) (λb u z=>by have G:(none:Option HO)=some u:=z;cases G) (λb z=>absurd rfl z) λz=>absurd rfl z
 |none=>
  refine core (λb=>if b=a then some (.ay { cls:=.type "list",data:=.seq vs.toArray } (.ag (ns.map V.int))) else none) (λb=>?_) (.inl (.inr ⟨{ cls:=.type "list",data:=.seq vs.toArray },if_pos rfl⟩)) (λb u z=>?_) (λb z=>?_) λ_=>hk
  .by_cases i:b=a
   .exact .inr ⟨_,_,if_pos i⟩
   .exact .inl (if_neg i)
  .by_cases i:b=a
   .have G:=(if_pos i).symm.trans z;cases G;subst i;exact⟨I,by rw[length_map];exact hl,vs,_,rv,I⟩
   .have G:=(if_neg i).symm.trans z;cases G
  .by_cases i:b=a
   .exact i
   .exact absurd (if_neg i) z
theorem kC{l:W.OpenLaw}{n k:Nat}{q:Program}{m:ah}{L:(bx)->aU->Prop}{J:World->aU->Prop}{d:DefRec}{K:Params->ao}{CX:World->fD}{sp:World->Sp}{x:Str}(hn:l.most=some n)(D:n<=sizeLine)(B:d.params.defaults=[])(hr:bu k callerA)(Q:∀(w:World)(h:aU),J w h->(K w.params).In h)(F:∀(w:World)(mg:bx)(y:af)(h:aU),(K w.params).In h->h.Ns mainGlobals mg->mg d.name=some (.ref y)->
   ∃z:FuncData,(∀(s:ak)(u:aj),BindsTo s z ⟨[u],[]⟩ [(x,u)])/\
    ∀base:Heap,(K w.params).In base->base.Ns mainGlobals mg->aJ l.prog w (K w.params) mg base (CX w) k y z [x] (sp w))(E:∀(w:World)(H:Hp)(a:af)(ns:aI),ns.length<=n->xS H->bC (K w.params) H a (ns.map V.int)->sp w [.ref a] H (λv _=>v=.bl true) λ_ _ _=>False)(A:∀(w:World)(H:Hp)(s:ak)(e:aj)(s':ak),CX w [] H s (λ_ _ _=>False) e s'->False):
  W.WalkO q m L J l.row.toRowW d [] (λf vs=>PySem.call f vs):=by
 refine Att.gw hn B λw s₀ r mg mb y o pm cd doc a vs ns G Y ho hd α C p j i hg=>?_
 have I:=Q w _ Y;let⟨z,U,M⟩:=F w mg y _ I G.T.g C;exact Wr I G.T.g G.T.b G.T.builtins G.T.nolimit hg p j (le_trans i D) hr M U (λH N O=>E w H a ns i N O) λH e s'=>A w H r e s'
def inClass(s:Stmt)(j:Nat):Stmt:=match s with
 |.ClassDef _ _ _ a _ _ _ _ _ _ _=>a.getD j (.Pass ⟨0,0,0,0⟩)
 |_=>.Pass ⟨0,0,0,0⟩
def oR(s:Stmt):Arguments:=match s with
 |.FunctionDef _ a _ _ _ _ _ _ _ _=>a
 |_=>{ posonlyargs:=[],args:=[],vararg:=none,kwonlyargs:=[],kw_defaults:=[],kwarg:=none,defaults:=[] }
def jq(s:Stmt):List Stmt:=match s with
 |.FunctionDef _ _ b _ _ _ _ _ _ _=>b
 |_=>[]
def bE(s:Stmt):Scope:=match s with
 |.FunctionDef _ _ _ _ _ _ sc _ _ _=>sc
 |_=>{ kind:=.function,names:=[],isGenerator:=false,isCoroutine:=false }
abbrev bM:fD:=λ_ _ _ _ _ _=>False
abbrev E0:XK:=λ_ _ _=>False
theorem qP:me bM X E0:=λ_ _ _ _ _ _ _ h=>h.elim
structure gP(K:ao)(x qual:Str)(st:Stmt)(f:af)(fd:FuncData):Prop where
 ex:∃(oc:aj)(od:df)(kV doc pm:aj)(an:df)(a7 ct:aj)(osl:Array (dJ)),
  fd=W.fnOf x qual (oR st) (jq st) (bE st) .none kV doc pm an a7 ct/\K.lookup f=some ⟨oc,od,.func fd,osl⟩/\W.codeIn K a7 qual=true
 kp:W.keepIn K (.ref f)=true
section
variable{P:Program}{w:World}{K:ao}{mg:bx}{base:aU}
theorem gP.ok{x a:Str}{st:Stmt}{f:af}{i:FuncData}{N g:ah}{k:Nat}{sp:Sp}(F:gP K x a st f i)(S:bT N g (bE st))(len:∀vs H Q E,sp vs H Q E->vs.length=g.length)(b:∀(a7:aj)(A:Around)(outer:cB)(s:ak)(H:Hp)(vs:aw)(Q:VK)(E:XK),bu k (A.deeper (envOfC a (bE st) ⇑s f a7))->sp vs H Q E->
   ∃t,fy (i7 bM P w K mg base N a (bE st) f a7 A outer s H E).oF (jq st) t/\t { nx:=λ_ j=>Q .aM j,rt:=Q } (start N vs) H):aJ P w K mg base bM (k+1) f i g sp:=by
 let⟨oc,od,kV,doc,pm,an,a7,ct,osl,rfl,m,d⟩:=F.ex;refine DG m d S len λA outer s H vs Q E l e=>?_
 let⟨t,h,q⟩:=b a7 A outer s H vs Q E l e;exact⟨t,h.oF,q⟩
theorem gP.binds{x a:Str}{st:Stmt}{f:af}{d:FuncData}{b:ah}(F:gP K x a st f d)(h:∀(kV doc pm:aj)(an:df)(a7 ct:aj)(us:aL),us.length=b.length->bindArgs (W.fnOf x a (oR st) (jq st) (bE st) .none kV doc pm an a7 ct) ⟨us,[]⟩=pure (b.zip us)):Binds K d b []:=by
 let⟨oc,od,kV,doc,pm,an,a7,ct,osl,rfl,g,e⟩:=F.ex;exact .all (h kV doc pm an a7 ct)
theorem GP{x a:Str}{st:Stmt}{f:af}{oc:aj}{od an:df}{osl:Array (dJ)}{kV doc pm a7 ct:aj}(l:K.lookup f=some ⟨oc,od,.func (W.fnOf x a (oR st) (jq st) (bE st) .none kV doc pm an a7 ct),osl⟩)(c:W.codeIn K a7 a=true)(k:W.keepIn K (.ref f)=true):gP K x a st f (W.fnOf x a (oR st) (jq st) (bE st) .none kV doc pm an a7 ct):=⟨⟨oc,od,kV,doc,pm,an,a7,ct,osl,rfl,l,c⟩,k⟩
end
theorem F0(a:bu k A):A.units+1<cLine:=lt_of_le_of_lt (Nat.add_le_add_left (by decide:1<=64) _) a.units
section
variable{X:Cx}
theorem pv(i:Nat)(b:do X.N[i]?=some x)(d:oE X.env.scope x:=by first |exact Or.inl rfl |exact Or.inr (Or.inl rfl) |exact Or.inr (Or.inr rfl))(hd: ~~~(dq x))(a: ~~~((x == ("__classdict__":Str))=false)):PE X (.Name x pos) (f6 i):=uE b d hd a
end
def aB(H H':Hp):Prop:=∀b o,H b=some o->H' b=some o
theorem aB.refl(H:Hp):aB H H:=λ_ _ h=>h
theorem aB.trans(a:aB H H1)(b:aB H1 H2):aB H H2:=λc o h=>b c o (a c o h)
theorem aB.free{H a:Hp}(e:aB H a)(h:a l=Option.none):H l=Option.none:=by
 cases q:H l with
 |none=>rfl
 |some o=>
  rw[e l o q] at h;cases h
theorem aB.seq{K:ao}{H b:Hp}{a:af}{xs:aw}(e:aB H b)(h:bC K H a xs):bC K b a xs:=by
 rcases h with (h |⟨o,h⟩) |h
 .exact .inl (.inl (e _ _ h))
 .exact .inl (.inr ⟨o,e _ _ h⟩)
 .exact .inr h
section
variable{X:Cx}
theorem Jg:bL X (.builtin "len") (λxs H Q=>∃a kvs,xs=[V.ref a]/\H a=some (.dK kvs)/\Q (.int kvs.length) H):=by
 intro aa s j H xs us Q I r h;∎;let⟨a,kvs,rfl,d,q⟩:=h;let⟨u,rfl,e⟩:=jg r;∎;cases e;exact QU I (.inl d) λt f b=>⟨.int kvs.length,H,b,⟨t,rfl⟩,q⟩
end
end L2
set_option Elab.async false
set_option linter.all false
set_option maxRecDepth 100000
set_option maxHeartbeats 4000000
namespace L2
open PySem PySem.Spec PyProof.Rows
def iP(i j:Int):Prop:=∃n:Nat,n<=60000000/\i.natAbs<2 ^ n/\j.natAbs<2 ^ n
theorem y6(h:x.natAbs<2 ^ n):Builtin.Int.intBits x<=n:=by
 unfold Builtin.Int.intBits;by_cases e:(x == 0)=true
 .rw[if_pos e];exact zero_le _
 .rw[if_neg e];have a:x.natAbs≠0:=by
   intro z;have:x=0:=⋯
   rw[this] at e;exact e rfl
  exact (Nat.log2_lt a).mpr h
theorem iP.ok(h:iP i j):IntMulOk i j:=by
 let⟨n,hn,a,b⟩:=h;have f:=y6 a;have g:=y6 b;intro z;simp only[and_eq_true,Builtin.Int.intTooBig,decide_eq_true_eq] at z;have e:(bitsLine:Nat)=134217728:=∎
 have d:=z.2;rw[e] at d;omega
def kB(i j:Int):Prop:=kG i j\/iP i j
def dX(_ j:Int):Prop:=j≠0/\j.natAbs<2 ^ 8000
theorem dX.ok(h:dX i j):Builtin.divisionGoesByPylong i j=false:=by
 refine PyProof.noPylong_of_log2 ?_;have a:j.natAbs≠0:=by have:=h.1;omega
 have:=(Nat.log2_lt a).mpr h.2;omega
section
variable{X:Cx}
theorem G8:b4 X (binaryOp .Mult) (rI kB λi j=>.int (i*j)):=sr λ_ _ _ _ _ _ _ a q=>mul_int q (a.elim kG.ok iP.ok)
theorem Mc:b4 X (binaryOp .FloorDiv) (rI dX λi j=>.int (i.fdiv j)):=sr λ_ _ _ _ _ _ _ a q=>floordiv_int a.1 q (.inl a.ok)
end
section
variable{X:Cx}{aa:aV}{σ:St}{H:Hp}{s:ak}{a:af}{kvs:bI}
theorem au.freeze(I:au X aa σ H s)(e:H a=some (.dK kvs)):∃o,s.heap.get? a=some o/\au X aa σ (aR H a (.ay o (.dK kvs))) s:=by
 have ok:a6 X.prog X.w H s.heap a (.dK kvs):=I.aN a _ e;let⟨z,y,vs,r,o,f,d,b,c⟩:=id ok;refine⟨o,b,?_⟩;exact I.write (h':=s.heap) (t':=s.toks) (x:=a) (e:=a) (by rw[e];exact True.intro) (.inl rfl) (λ_ _ _ q=>q) ⟨o,b⟩ ⟨b,z,y,vs,r,o,f,d,b,c⟩
theorem au.fx(I:au X aa σ H s)(e:H a=some (.ay o (.dK kvs)))(hn:∀o u,X.H₀ a≠some (.ay o u)):au X aa σ (aR H a (.dK kvs)) s:=by
 have ne:∀b u,H b=some u->(∀o v,u≠.ay o v)->b≠a:=λb u h d z=>by
  subst z;rw[e] at h;exact d _ _ (Option.some.inj h).symm
 let⟨A,ok⟩:=(show a6 X.prog X.w H s.heap a (.ay o (.dK kvs)) from I.aN a _ e);refine⟨I.ok,I.os,I.bare,⟨λb f q n i g=>I.base.keep b f q n i g,λb f q n i g=>I.base.slot b f q n i g,λb f q n g=>?_,λb f q g=>I.base.there b f q g,λb j q=>?_,λb f u q=>?_,λb r q=>?_⟩,I.loc,I.cell,?_,λx c q=>?_,λp l=>?_,λb u q=>?_,I.len⟩
 .have z:=I.base.free b f q n g;rw[ba (by intro y;subst y;rw[e] at z;cases z)];exact z
 .have z:=I.base.eZ b j q;rw[ba (ne b _ z (λ_ _ y=>by cases y))];exact z
 .have z:=I.base.bp b f u q;rw[ba (by intro y;subst y;exact hn _ _ q)];exact z
 .obtain⟨m,z⟩:=I.base.eX b r q;exact⟨m,by rw[ba (ne b _ z (λ_ _ y=>by cases y))];exact z⟩
 .rw[ba (by intro y;have z:=I.free;rw[y,e] at z;cases z)];exact I.free
 .rw[ba (by intro y;have z:=I.bV x c q;rw[y,e] at z;cases z)];exact I.bV x c q
 .obtain⟨p1,p2,p3,p4,p5⟩:=I.pin p l;refine⟨p1,?_,p3,p4,p5⟩;rw[ba (by intro y;rw[y,e] at p2;cases p2)];exact p2
 .by_cases i:b=a
  .subst i;rw[cq] at q;cases q;exact ok
  .rw[ba i] at q;exact (I.aN b u q).eL (λ_ _ _ z=>z) (λc z=>by rw[ba (ne c _ z (λ_ _ y=>by cases y))];exact z) λc j z=>by rw[ba (ne c _ z (λ_ _ y=>by cases y))];exact z
end
def qu(a:af)(ob:Obj)(kvs:bI):It:=
 ⟨λi H=>i<kvs.length/\H a=some (.ay ob (.dK kvs)),λi H x b=>∃p k v,kvs[i]?=some (k,v)/\H p=none/\x=.ref p/\b=aR H p (.aF [kV k,v]),λi H=>kvs.length<=i/\H a=some (.ay ob (.dK kvs))⟩
theorem xb(h:(eB P w).is k u=true):aD (kV k) u:=by
 rcases jQ (k:=k) (v:=u) h with⟨i,t,rfl,rfl⟩ |⟨x,t,rfl,rfl⟩
 .exact⟨t,rfl⟩
 .exact⟨t,rfl⟩
theorem KV.at(r:KV kvs vs):∀{i:Nat}{k:aS}{v:V},kvs[i]?=some (k,v)->∃u,vs[i]?=some (k,u)/\aD v u:=by
 unfold KV at r
 induction r with
 |nil=>intro i k v h;simp at h
 |@cons p q d f h t b=>
  intro i k v e;cases i with
  |zero=>
   simp at e;subst e;have a:k=q.1:=h.1;exact⟨q.2,by rw[a];rfl,h.2⟩
  |succ i=>simpa using b (i:=i) (k:=k) (v:=v) (by simpa using e)
theorem Jx{P:Program}{w:World}{K:ao}{elts:bH}{x1:Nat}{pos:Pos}(a it:af)(ob:Obj)(kvs:bI)(ζ:a≠it):
  ke P w K (.Tuple elts x1 pos) (qu a ob kvs) [it] it (λi h=>∃g ep ok ov,ob.data=.dict g ep/\IsItemIter h it a i kvs.length ep ok ov) where
 mem:=by simp
 obj:=λi h st b m=>by
  have e:b=it:=by simpa using m
  subst e;let⟨g,ep,ok,ov,hd,e⟩:=st;exact⟨_,e,λv z=>by cases z⟩
 keep:=λi h h' st k=>by
  let⟨g,ep,ok,ov,hd,e⟩:=st;exact⟨g,ep,ok,ov,hd,k it (by simp) _ e⟩
 item:=by
  intro X hP hw hK hc i aa s j H E I hf st hg;subst hP hw hK;∎;let⟨g,ep,ok,ov,hd,d⟩:=st;let⟨hi,hH⟩:=hg;let⟨B,z,y,vs,r,J,β,α,f,N,n,O,U,Y⟩:=(show a6 X.prog X.w H s.heap a (.ay ob (.dK kvs)) from I.aN a _ hH);∎;have eo:J=ob:=by rw[B] at f;exact (Option.some.inj f).symm
  subst eo;rw[hd] at n;cases n;have hm:s.heap.DictAt (eB X.prog X.w) a vs ep:=⟨J,g,B,N,hd,O,U,Y⟩;obtain⟨⟨k,v⟩,x⟩:∃q,kvs[i]?=some q:=⟨kvs[i],by simp[hi]⟩;let⟨u,hu,ru⟩:=r.at x;have M:kvs.length=vs.length:=KV.length r;rw[M] at d;let⟨L,f1,f2,f3,f4,f5⟩:=hf it (by simp);refine wpAny_pyNext_items_item d hm hu λl h' p C hT η hk=>?_
  refine⟨.ref ⇑s,rfl,wpAny_letOwnedTupleGo_items C λh2 he hs=>?_⟩;have ε:it<⇑s:=Heap.lt_size d;have I1:=I.laid (a:=⇑s) (o:=.aF [kV k,v]) (h':=s.heap.push { cls:=.type "tuple",data:=.seq #[l,u] }) (t':=s.toks) (λb q D=>Heap.get?_push_of_some _ D) (le_refl _)
   ⟨by show 2<=sizeLine;decide,[l,u],.cons (xb p) (.cons ru .nil),⟨_,Heap.get?_push_size _ rfl,rfl,_,rfl⟩⟩
  have δ:H ⇑s=none:=I.aN.fresh (le_refl _);have G:it≠⇑s:=ne_of_lt ε;refine⟨.ref ⇑s,aR H ⇑s (.aF [kV k,v]),?_,rfl,⟨_,k,v,x,δ,rfl,rfl⟩,⟨g,ep,l,u,hd,by rw[M];exact he⟩,λb m=>?_⟩
  .have I2:au X aa j (aR H ⇑s (.aF [kV k,v])) { s with heap:=h2,toks:=s.toks }:=au.turned (s:={ s with heap:=s.heap.push { cls:=.type "tuple",data:=.seq #[l,u] },toks:=s.toks }) I1 (h':=h2) (t':=s.toks) (it:=it) (λb q m D=>?_) (by rw[ba G];exact L) f1 f3 f4 f5
   .exact I2
   .refine hs.extBut b q m ?_;rcases Heap.get?_push_cases D with⟨γ,eq⟩ |D
    .subst γ;subst eq;exact hT
    .exact hk b q m D
  .have e:b=it:=by simpa using m
   subst e;rw[ba G];exact L
 done:=by
  intro X hP hw hK hc i aa s j H E I hf st hg;subst hP hw hK;∎;let⟨g,ep,ok,ov,hd,d⟩:=st;let⟨hi,hH⟩:=hg;let⟨B,z,y,vs,r,J,β,α,f,N,n,O,U,Y⟩:=(show a6 X.prog X.w H s.heap a (.ay ob (.dK kvs)) from I.aN a _ hH);∎;have eo:J=ob:=by rw[B] at f;exact (Option.some.inj f).symm
  subst eo;rw[hd] at n;cases n;have hm:s.heap.DictAt (eB X.prog X.w) a vs ep:=⟨J,g,B,N,hd,O,U,Y⟩;have M:kvs.length=vs.length:=KV.length r;rw[M] at d;let⟨L,f1,f2,f3,f4,f5⟩:=hf it (by simp);exact wpAny_pyNext_items_end (I.ok.hd hc) d hm (by simp;omega) λh' eb=>⟨rfl,I.turned (t':=s.toks) (λb o m e=>eb b o m e) L f1 f3 f4 f5⟩
 self:=λA i s Q E st h=>by
  let⟨g,ep,ok,ov,hd,d⟩:=st;exact W.kcp_self d h
section
variable{X:Cx}
def B7(X:Cx)(f:TE):TI:=λj H R=>f j H λx d=>∃a b,x=.ref a/\d a=some (.dK b)/\∀e,(∀o u,X.H₀ a≠some (.ay o u))->R (qu a e b) (aR d a (.ay e (.dK b)))
theorem MO(ho:PE X o td)(l:attributeBase o "items" X.env (eval o X.env)=eval o X.env)(m:(apos.endLine == a9.line)=true):
  PI X (.Tuple elts x1 pos) (.Call (.Attribute o "items" apos) [] [] a9) (B7 X td):=by
 intro aa s j H R I h;refine wpAny_Call_method0_late l m (bj (ho aa s j H _ I h) λv i J=>?_);let⟨x,L,p,r1,a,g,ex,A,q⟩:=J;subst ex;obtain rfl:v=Value.ref a:=r1;let⟨N,t2,hd⟩:=rh p (.inl ⟨g,.inl A⟩);refine⟨"dict","dict.items",PySem.F.plainAttrs_dict,PySem.F.slot_dict_items,PySem.F.type_dict_items,N,t2,Calls.callWith_builtin rfl (PySem.evalArgs_none ?_)⟩;let⟨z,y,vs,r,dd⟩:=si p.aN A;refine call_meetsIn PySem.F.slot_dict_items N PySem.F.entry_dict_items (PySem.F.args_dict_items_1 _) (meets_dict_items (eB X.prog X.w) a hd) ⟨⟨vs,dd⟩,?_⟩;have C:au X aa j L { i with heap:=i.heap.push { cls:=.type "dict_items",data:=.fields #[.ref a] } }:=p.kept (t':=i.toks) λb o e=>Heap.get?_push_of_some _ e
 have G:∀o u,X.H₀ a≠some (.ay o u):=λo u z=>by
  have:=p.base.bp a o u z;rw[A] at this;cases this
 let⟨D,E⟩:=dd.dictAt;have f:=E.push { cls:=.type "dict_items",data:=.fields #[.ref a] };refine wpAny_pyIter_items (v:=⇑i) (d:=a) ⟨_,Heap.get?_push_size _ rfl,rfl,rfl⟩ f ?_;let⟨B,n,O⟩:=(C.kept (t':=i.toks) (h':=(i.heap.push { cls:=.type "dict_items",data:=.fields #[.ref a] }).push { cls:=.type "dict_itemiterator",data:=.fields #[.none,.bool false,.ref a,.int 0 0,.int vs.length 0,.int D 0,.none,.none] }) λb o e=>Heap.get?_push_of_some _ e).freeze A;have M:a<(i.heap.push { cls:=.type "dict_items",data:=.fields #[.ref a] }).objs.size:=f.lt_size;have hl:g.length=vs.length:=KV.length r;refine⟨_,[_],_,_,aR L a (.ay B (.dK g)),rfl,O,Jx a (i.heap.push { cls:=.type "dict_items",data:=.fields #[.ref a] }).objs.size B g (ne_of_lt M),?_,λb Y=>?_,q B G⟩
 .obtain⟨o2,es,ho2,c1,c2,_⟩:=f;have Q:B=o2:=by
   have U:=Heap.get?_push_of_some { cls:=.type "dict_itemiterator",data:=.fields #[.none,.bool false,.ref a,.int 0 0,.int vs.length 0,.int D 0,.none,.none] } ho2;rw[U] at n;exact (Option.some.inj n).symm
  subst Q;refine⟨es,D,.none,.none,c2,?_⟩;rw[hl];exact Heap.get?_push_size _ rfl
 .have e:b=(i.heap.push { cls:=.type "dict_items",data:=.fields #[.ref a] }).objs.size:=by simpa using Y
  subst e;refine C.fj (le_refl _) ?_;rw[ba (Nat.ne_of_gt M)];exact C.aN.fresh (le_refl _)
def nJ(X:Cx)(R:Hp->Prop)(H:Hp):Prop:=∃a d b,H a=some (.ay d (.dK b))/\(∀o u,X.H₀ a≠some (.ay o u))/\R (aR H a (.dK b))
def vT(X:Cx)(D:iq):iq:={ nx:=λj=>nJ X (D.nx j),rt:=λv=>nJ X (D.rt v),bk:=λj=>nJ X (D.bk j),ct:=λj=>nJ X (D.ct j) }
def Ex(X:Cx)(a:TE)(g:TG)(tb:TS):TS:=λD j H=>xV (B7 X a) g tb (vT X D) j H
theorem GV(hp:PassesOwn (model X.prog X.w) X.A X.env X.xe)(z:X.calm=true)(C:PE X o td)(B:PG X (.Tuple elts x1 pos) g)(y:fy X body tb)(d:do attributeBase o "items" X.env (eval o X.env)=eval o X.env)(i:do (apos.endLine == a9.line)=true)(hs:∀x,foldedSetIterable (.Call (.Attribute o "items" apos) [] [] a9) X.env x=pure x:=by intro _;rfl):PS X (.For (.Tuple elts x1 pos) (.Call (.Attribute o "items" apos) [] [] a9) body [] fpos) (Ex X td g tb):=by
 intro aa s j H D I h;have base:=Gi (pos:=fpos) hp z (MO (elts:=elts) (x1:=x1) (pos:=pos) C d i) B y hs aa s j H (vT X D) I h;refine bj base λf G q=>?_
 cases f with
 |next=>let⟨l,n,b,a,p,m,e,hn,r⟩:=q;exact⟨l,_,b.fx e hn,r⟩
 |brk=>let⟨l,n,b,a,p,m,e,hn,r⟩:=q;exact⟨l,_,b.fx e hn,r⟩
 |cont=>let⟨l,n,b,a,p,m,e,hn,r⟩:=q;exact⟨l,_,b.fx e hn,r⟩
 |ret u=>let⟨v,l,n,b,E,a,p,m,e,hn,r⟩:=q;exact⟨v,l,_,b.fx e hn,E,r⟩
end
theorem Jj{a:af}{ob:Obj}{kvs:bI}{g:TG}{tb:TS}{D:iq}{j:St}{H:Hp}(Pv:Nat->St->Hp->Prop)(s:Pv 0 j H)(w:∀i j H,i<=kvs.length->Pv i j H->H a=some (.ay ob (.dK kvs)))(hs:∀i k v j H p,kvs[i]?=some (k,v)->Pv i j H->H p=none->g (.ref p) j (aR H p (.aF [kV k,v])) λl f=>tb { D with nx:=Pv (i+1),ct:=Pv (i+1),bk:=D.nx } l f)(hd:∀j H,Pv kvs.length j H->D.nx j H):
  ∃W:Nat->Nat->St->Hp->Prop,(∃m,W 0 m j H)/\∀i m j H,W i m j H->
   ((qu a ob kvs).stop i H/\D.nx j H)\/((qu a ob kvs).go i H/\∃N:St->Hp->Prop,(∀h b,N h b->∃n,n<m/\W (i+1) n h b)/\∀x b,(qu a ob kvs).kr i H x b->g x j b λl f=>tb { D with nx:=N,ct:=N,bk:=D.nx } l f):=by
 refine⟨λi m j H=>m=kvs.length - i/\i<=kvs.length/\Pv i j H,⟨kvs.length,by simp,zero_le _,s⟩,?_⟩;rintro i m j H ⟨rfl,u,p⟩;have q:=w i j H u p;by_cases d:i<kvs.length
 .refine .inr ⟨⟨d,q⟩,Pv (i+1),λh b z=>⟨kvs.length - (i+1),⋯,rfl,d,z⟩,λx b y=>?_⟩;let⟨A,k,v,o,r,rfl,rfl⟩:=y;exact hs i k v j H A o p r
 .have e:i=kvs.length:=⋯
  subst e;exact .inl ⟨⟨le_refl _,q⟩,hd j H p⟩
section
variable{X:Cx}
theorem NH(N:X.calm=true):bL X (.type "list") (λxs H Q=>∃a kvs,xs=[.ref a]/\Rd H a (.dK kvs)/\∀p,H p=none->Q (.ref p) (aR H p (.ag (kvs.map λl=>kV l.1)))):=by
 intro aa s i H xs us Q I r h;∎;let⟨a,kvs,rfl,M,q⟩:=h;let⟨u,rfl,Y⟩:=jg r;∎;cases Y;∎;let⟨z,y,vs,m,dd⟩:=iT I.aN M;let⟨ep,B⟩:=dd.dictAt;∎;have E:kvs.length=vs.length:=KV.length m;refine W.kdl_call (W.kdl_dict (knd:=eB X.prog X.w) (kvs:=vs) (ep:=ep) y) (I.ok.hd N) B (by rw[<- E];exact z) λh' tk b J O L d=>?_
 have C:H ⇑s=none:=I.aN.fresh (le_refl _);refine⟨.ref ⇑s,_,I.laid (a:=⇑s) (o:=.ag (kvs.map λl=>kV l.1)) (h':=h') (t':=tk) O (le_refl _) ⟨by rw[length_map];exact z,b.toList,J,?_,by simpa using L⟩,rfl,q _ C⟩;have hn:b.toList.length=vs.length:=by rw[length_toList];exact d.1
 have gen:∀(kvs:bI)(us:aL),us.length=kvs.length->(∀(j:Nat) k v u,kvs[j]?=some (k,v)->us[j]?=some u->aD (kV k) u)->aE (kvs.map λl=>kV l.1) us:=by
  intro kvs
  induction kvs with
  |nil=>intro us e _;cases us with
   |nil=>exact .nil
   |cons _ _=>simp at e
  |cons p r U=>
   intro us e f;cases us with
   |nil=>simp at e
   |cons u us=>
    refine .cons (f 0 p.1 p.2 u rfl rfl) (U us (by simpa using e) λj k v w n A=>f (j+1) k v w (by simpa using n) (by simpa using A))
 refine gen kvs b.toList (by rw[hn,E]) λj k v u n A=>?_
 ∎;let⟨k',x,G,g⟩:=d.2 j u (by rw[<- getElem?_toList];exact A);let⟨u',D,_⟩:=m.at n;∎;rw[D] at G;cases G;exact xb g
def rj:V->dJ
 |.ty n=>some (.type n)
 |.ref a=>some (.ref a)
 |_=>none
theorem U7:bL X (.builtin "isinstance") (λxs H Q=>∃x c t b u,xs=[x,c]/\dM X.K H x t/\rj c=some u/\W.kitOne X.K t u=some b/\Q (.bl b) H):=by
 intro aa s j H xs us Q I r h;∎;let⟨x,c,t,b,u,rfl,ty,d,e,q⟩:=h;let⟨v,o,rfl,l,f⟩:=DU r;∎;have g:o=u:=by
  cases c with
  |ref a=>cases d;exact f
  |ty n=>cases d;exact f
  |aM=>cases d
  |bl n=>cases d
  |int i=>cases d
  |str i=>cases d
  |gg i=>cases d
  |kL i=>cases d
 subst g;exact Pj I l ty e λm=>⟨.bl b,H,I.tok m,rfl,q⟩
end
def e6(R:V->V->Prop):aw->aw->Prop
 |[],[]=>True
 |x::xs,y::ys=>R x y /\ e6 R xs ys
 |_,_=>False
theorem e6.length:∀{xs ys:aw},e6 R xs ys->xs.length=ys.length
 |[],[],_=>rfl
 |_::xs,_::ys,h=>by rw[length_cons,length_cons,e6.length h.2]
 |[],_::_,h=>h.elim
 |_::_,[],h=>h.elim
theorem e6.get{R:V->V->Prop}:∀{xs ys:aw}{j:Nat}{x y:V},e6 R xs ys->xs[j]?=some x->ys[j]?=some y->R x y
 |x::xs,y::ys,0,_,_,h,e1,e2=>by simp at e1 e2;subst e1 e2;exact h.1
 |_::xs,_::ys,j + 1,x,y,h,e1,e2=>e6.get (xs:=xs) (ys:=ys) (j:=j) h.2 (by simpa using e1) (by simpa using e2)
 |[],[],_,_,_,_,e1,_=>by simp at e1
 |[],_::_,_,_,_,h,_,_=>h.elim
 |_::_,[],_,_,_,h,_,_=>h.elim
def ji(K:ao)(H:Hp):Nat->V->V->Prop
 |0,x,y=>iN x=true /\ x=y
 |n + 1,x,y=>(iN x=true /\ x=y) \/ ∃p q a b,x=.ref p /\ y=.ref q /\ ((cU K H p a /\ cU K H q b) \/ (bC K H p a /\ bC K H q b)) /\ e6 (ji K H n) a b
theorem Gw(h:iN x=true):hZ x x=true:=by
 cases x<;>first |rfl |(simp[hZ];done) |(simp[iN] at h)
theorem lH(A:Around):A.in1.units=A.units+1:=rfl
section
variable{X:Cx}{aa:aV}{σ:St}{H:Hp}{s:ak}
theorem Wu(I:au X aa σ H s)(D:(cU X.K H p xs/\cU X.K H q ys)\/(bC X.K H p xs/\bC X.K H q ys))(o:A.units<cLine)(J:xs.length=ys.length)(he:∀(j:Nat) x y u v,xs[j]?=some x->ys[j]?=some y->aD x u->aD y v->SeqAt.EqAt A.in1 s u v true):SeqAt.RcAt A s (.ref p) (.ref q) true:=by
 have h:∀(b a:aL),aE xs b->aE ys a->∀j (f:j<b.toArray.size) (g:j<a.toArray.size),SeqAt.EqAt A.in1 s b.toArray[j] a.toArray[j] true:=by
  intro b a d r2 j f g;have r:=d.length;have w:=r2.length;simp only[size_toArray] at f g;∎;let⟨u,l,E⟩:=d.get (i:=j) (x:=xs[j]'⋯) (by simp);let⟨v,m,G⟩:=r2.get (i:=j) (x:=ys[j]'⋯) (by simp);∎;have B:b.toArray[j]'(by simpa using f)=u:=by
   have:=List.getElem?_eq_some_iff.mp l;let⟨_,z⟩:=this;simpa using z
  have C:a.toArray[j]'(by simpa using g)=v:=by
   have:=List.getElem?_eq_some_iff.mp m;let⟨_,z⟩:=this;simpa using z
  rw[B,C];exact he j _ _ u v (by simp) (by simp) E G
 rcases D with⟨f,g⟩ |⟨f,g⟩
 .obtain⟨b,d,t1,_⟩:=I.tuple f;let⟨a,r2,n,_⟩:=I.tuple g;have r:=d.length;have w:=r2.length;have z:=SeqAt.RcAt.tuples (A:=A) (e:=λ_=>true) t1 n o (h b a d r2);have e:((List.range (min b.toArray.size a.toArray.size)).all (λ_=>true)&&b.toArray.size == a.toArray.size)=true:=by
   simp only[size_toArray];simp;omega
  rw[e] at z;exact z
 .obtain⟨b,d,t1,_⟩:=I.list f;let⟨a,r2,n,_⟩:=I.list g;have r:=d.length;have w:=r2.length;have z:=SeqAt.RcAt.lists (A:=A) (e:=λ_=>true) t1.isList n.isList (by simp;omega) o (h b a d r2);have e:(List.range b.toArray.size).all (λ_=>true)=true:=by simp
  rw[e] at z;exact z
theorem Ct(I:au X aa σ H s):∀(n:Nat){A:Around}{x y:V}{u v:aj},ji X.K H n x y->aD x u->aD y v->A.units+n<cLine->SeqAt.EqAt A s u v true
 |0,A,x,y,u,v,⟨f,e⟩,ru,rv,_=>by
  subst e;have z:=mJ (A:=A) (s:=s) ru rv f f;rw[Gw f] at z;exact z
 |n + 1,A,x,y,u,v,.inl ⟨f,e⟩,ru,rv,_=>by
  subst e;have z:=mJ (A:=A) (s:=s) ru rv f f;rw[Gw f] at z;exact z
 |n + 1,A,x,y,u,v,.inr ⟨p,q,xs,ys,hx,hy,hk,al⟩,ru,rv,hu=>by
  subst hx hy;cases ru;cases rv;by_cases e:p=q
  .subst e;exact SeqAt.EqAt.same _
  .refine SeqAt.EqAt.of_refs e (Wu I hk ⋯ al.length λj x y u v a b d r2=>?_);exact Ct I n (A:=A.in1) (al.get a b) d r2 (by rw[lH];omega)
end
section
variable{X:Cx}
theorem PZ{kvs:bI}{vs:List (aS×aj)}{k:aS}{y:V}(r:KV kvs vs)(e:fO kvs k=some y):∃u,valueAt vs k=some u/\aD y u:=
 cD.some_of (v:=y) (o:=valueAt vs k) (by rw[<- e];exact r.val k)
def aig(K:ao)(H:Hp)(n:Nat)(a b:bI):Prop:=a.length=b.length/\∀k v,(k,v)∈a->∃y,fO b k=some y/\ji K H n v y
theorem IQ{aa:aV}{j:St}{H:Hp}{s:ak}{A:Around}{n:Nat}{d:bI}{g:List (aS×aj)}(I:au X aa j H s)(w:A.units+n<cLine)(C:KV d g):
  ∀{a:bI}{b:List (aS×aj)},KV a b->(∀k v,(k,v)∈a->∃y,fO d k=some y/\ji X.K H n v y)->W.KeqHits A s g b true:=by
 intro a b e;unfold KV at e
 induction e with
 |nil=>intro _;exact .nil
 |@cons p q E B h t x=>
  intro f;∎;let⟨y,i,l⟩:=f p.1 p.2 (mem_cons_self ..);let⟨u,o,D⟩:=PZ C i;∎;have z:=W.KeqHits.hit (A:=A) (s:=s) (k:=q.1) (v:=q.2) (y:=u) (r:=B) (by rw[<- h.1];exact o) (Ct I n (A:=A) l h.2 D w) (x λk v m=>f k v (mem_cons_of_mem _ m));simpa using z
def wj(K:ao)(b:Bool):R2:=λx y H Q=>∃n p q a d,n<=40/\x=.ref p/\y=.ref q/\Rd H p (.dK a)/\Rd H q (.dK d)/\aig K H n a d/\Q (.bl b) H
theorem K9(G:X.A.units+64<cLine):b4 X (compareOp .NotEq) (wj X.K false):=by
 intro aa s j H x y v u Q I z B h;let⟨n,p,q,o,w,hn,rfl,rfl,i,l,⟨E,al⟩,m⟩:=h;cases z;cases B;∎;let⟨M,C,b,a,f⟩:=iT I.aN i;let⟨N,D,d,r2,g⟩:=iT I.aN l;∎;have J:o.length=b.length:=KV.length a;have L:w.length=d.length:=KV.length r2;refine W.keq_ne (r:=true) C D f g ⋯ (λ_=>IQ I (by rw[lH];omega) r2 a al) ?_;have e:(b.length == d.length&&true)=true:=by simp;omega
 rw[e];exact⟨.bl false,H,I,rfl,m⟩
end
section
variable{σ:St}{H:Hp}{Q:VK}{D:iq}{K:ao}
theorem aB.aR(h:H a=none):aB H (aR H a o):=λb u e=>by rw[ba (iY e h)];exact e
theorem aB.aF(e:aB H H')(h:cU K H a xs):cU K H' a xs:=by
 rcases h with (h |⟨o,h⟩) |h
 .exact .inl (.inl (e _ _ h))
 .exact .inl (.inr ⟨o,e _ _ h⟩)
 .exact .inr h
theorem aB.rd(e:aB H H')(h:Rd H a u):Rd H' a u:=by
 rcases h with h |⟨o,h⟩
 .exact .inl (e _ _ h)
 .exact .inr ⟨o,e _ _ h⟩
end
section
variable{σ:St}{H:Hp}{Q:VK}{D:iq}{K:ao}{X:Cx}
theorem aB.ny(e:aB H H')(n:H a=none):aB H (L2.aR H' a o):=λb u q=>by rw[ba (iY q n)];exact e b u q
end
end L2
namespace Sf
def gd(a b:Int):Int:=(Int.gcd a b:Nat)
theorem Tu(a:Int)(h:0<=a):gd a 0=a:=by
 unfold gd;rw[Int.gcd_zero_right];omega
theorem KC(d:0<=a)(f:0<b):gd b (a % b)=gd a b:=by
 unfold gd Int.gcd;have e:(a % b).natAbs=a.natAbs % b.natAbs:=by
  let⟨m,rfl⟩:=Int.eq_ofNat_of_zero_le d;let⟨n,rfl⟩:=Int.eq_ofNat_of_zero_le (le_of_lt f);simp only[natAbs_natCast];rw[<- Int.natCast_emod,natAbs_natCast]
 rw[e,Nat.gcd_comm b.natAbs,Nat.gcd_comm a.natAbs,Nat.gcd_rec b.natAbs a.natAbs]
theorem ll(h:b≠0):0<gd a b:=by
 unfold gd;have:=Int.gcd_pos_of_ne_zero_right a h;omega
theorem SH(a b:Int):gd (a.natAbs:Int) (b.natAbs:Int)=gd a b:=by
 unfold gd;simp[Int.gcd]
theorem BN(a:Int):(if a<0 then -a else a)=(a.natAbs:Int):=by split<;>omega
theorem ME(a b:Int):gd (if a<0 then -a else a) (if b<0 then -b else b)=gd a b:=by
 rw[BN,BN,SH]
def dv(t b:Int):Int:=if b<0 then -(gd t b) else gd t b
theorem Eu(h:b≠0):dv t b≠0:=by
 have:=ll (a:=t) h;unfold dv;split<;>omega
theorem sd(t b:Int):gd t b ∣ t:=Int.gcd_dvd_left ..
theorem vh(t b:Int):gd t b ∣ b:=Int.gcd_dvd_right ..
theorem LO(t b:Int):dv t b ∣ t:=by
 unfold dv;split
 .exact Int.neg_dvd.mpr (sd t b)
 .exact sd t b
theorem SO(t b:Int):dv t b ∣ b:=by
 unfold dv;split
 .exact Int.neg_dvd.mpr (vh t b)
 .exact vh t b
theorem CT{x d:Int}(h:d ∣ x):x.fdiv d*d=x:=by
 rw[Int.fdiv_mul_cancel h]
theorem DO{t b:Int}(h:b≠0):t.fdiv (dv t b)=(Rat.divInt t b).num:=by
 have hd:=Eu (t:=t) h;refine Int.eq_of_mul_eq_mul_right hd ?_;rw[CT (LO t b),Rat.num_divInt];have e:b.gcd t=t.gcd b:=Int.gcd_comm ..;rw[e];have f:((t.gcd b:Nat):Int) ∣ t:=Int.gcd_dvd_left ..;have j:=ll (a:=t) h;unfold gd at j;unfold dv gd;rw[Int.mul_ediv_assoc _ f];let⟨k,i⟩:=f;generalize l:((t.gcd b:Nat):Int)=g at *;have d:t / g=k:=by rw[i];exact Int.mul_ediv_cancel_left k ⋯
 rw[d];split
 .rename_i hb;rw[Int.sign_eq_neg_one_of_neg hb];grind
 .rename_i hb;rw[Int.sign_eq_one_of_pos ⋯];grind
theorem Dp{t b:Int}(h:b≠0):b.fdiv (dv t b)=((Rat.divInt t b).den:Int):=by
 have hd:=Eu (t:=t) h;refine Int.eq_of_mul_eq_mul_right hd ?_;rw[CT (SO t b),Rat.den_divInt,if_neg h];have e:b.gcd t=t.gcd b:=Int.gcd_comm ..;rw[e];have i:(t.gcd b) ∣ b.natAbs:=by rw[<- Int.ofNat_dvd_left];exact Int.gcd_dvd_right ..
 have l:=ll (a:=t) h;unfold gd at l;unfold dv gd;let⟨k,f⟩:=i;have d:b.natAbs / t.gcd b=k:=by rw[f];exact Nat.mul_div_cancel_left k ⋯
 rw[d];generalize t.gcd b=g at *;have j:(b.natAbs:Int)=(g:Int)*(k:Int):=by rw[f];exact natCast_mul ..
 split<;>grind
theorem den_pos(q:Rat):0<(q.den:Int):=by have:=q.den_nz;omega
end Sf
namespace Sf
def Sm(n:Nat)(q:Rat):Prop:=q.num.natAbs<2 ^ n/\q.den<2 ^ n
theorem Et(h:b≠0):(Rat.divInt t b).num.natAbs<=t.natAbs/\(Rat.divInt t b).den<=b.natAbs:=by
 let⟨m,hm,g,i⟩:=Rat.divInt_num_den (n:=t) (d:=b) h (n':=(Rat.divInt t b).num) (d':=(Rat.divInt t b).den) (z':=(Rat.divInt t b).den_nz) (c:=(Rat.divInt t b).reduced) rfl;have a:1<=m.natAbs:=⋯
 have f:=congrArg Int.natAbs g;have e:=congrArg Int.natAbs i;rw[natAbs_mul] at f e;rw[natAbs_natCast] at e;constructor
 .rw[f];exact Nat.le_mul_of_pos_right _ a
 .rw[e];exact Nat.le_mul_of_pos_right _ a
theorem vR(h:b≠0)(a:t.natAbs<2 ^ n)(d:b.natAbs<2 ^ n):Sm n (Rat.divInt t b):=
 ⟨lt_of_le_of_lt (Et h).1 a,lt_of_le_of_lt (Et h).2 d⟩
theorem Rt(a b:Rat):a+b=Rat.divInt (a.num*b.den+b.num*a.den) (a.den*b.den):=by
 rw[Rat.add_def',<- Rat.divInt_ofNat];rfl
theorem As(a b:Rat):a - b=Rat.divInt (a.num*b.den - b.num*a.den) (a.den*b.den):=by
 rw[Rat.sub_def',<- Rat.divInt_ofNat];rfl
theorem Ab(a b:Rat):a*b=Rat.divInt (a.num*b.num) (a.den*b.den):=by
 rw[Rat.mul_def',<- Rat.divInt_ofNat];rfl
theorem pz(a b:Rat):(a.den*b.den:Int)≠0:=by
 have d:=den_pos a;have e:=den_pos b;exact ne_of_gt (mul_pos d e)
theorem VN(a:x<2 ^ n)(b:y<2 ^ m):x*y<2 ^ (n+m):=by
 rw[pow_add];exact Nat.mul_lt_mul'' a b
theorem oN{x y:Int}{n m:Nat}(a:x.natAbs<2 ^ n)(b:y.natAbs<2 ^ m):(x*y).natAbs<2 ^ (n+m):=by
 rw[natAbs_mul];exact VN a b
theorem DS{x y:Int}{n:Nat}(a:x.natAbs<2 ^ n)(b:y.natAbs<2 ^ n):(x - y).natAbs<2 ^ (n+1):=by
 rw[Nat.pow_succ];omega
theorem oU(h:Sm n q):(q.den:Int).natAbs<2 ^ n:=by rw[natAbs_natCast];exact h.2
theorem OA{x:Int}{n m:Nat}(h:x.natAbs<2 ^ n)(k:n<=m):x.natAbs<2 ^ m:=lt_of_lt_of_le h (Nat.pow_le_pow_right ∎ k)
theorem U4{n m:Nat}{a b:Rat}(d:Sm n a)(e:Sm m b):Sm (n+m+1) (a - b):=by
 rw[As];refine vR (pz a b) ?_ ?_
 .refine DS (oN d.1 (oU e)) ?_;rw[Nat.add_comm n m];exact oN e.1 (oU d)
 .exact OA (oN (oU d) (oU e)) ⋯
theorem bO(d:Sm n a)(e:Sm m b):Sm (n+m) (a*b):=by
 rw[Ab];exact vR (pz a b) (oN d.1 e.1) (oN (oU d) (oU e))
end Sf
namespace Sf
section
variable{κ:Type}[DecidableEq κ]
abbrev FL(κ:Type):=List (κ×Rat)
def gt(m:FL κ)(k:κ):Option Rat:=(m.find? λp=>decide (p.1=k)).map (·.2)
def nz(m:FL κ):FL κ:=m.filter λp=>decide (p.2≠0)
def sc(m:FL κ)(n:Rat):FL κ:=m.map λp=>(p.1,p.2*n)
def run(P:κ->Rat)(r:Rat)(m:FL κ):Rat:=m.foldl (λt p=>t+p.2*P p.1) r
end
end Sf
namespace Sf
section
variable{κ:Type}[DecidableEq κ]
theorem uR{j:Type}{m:List j}{i:Nat}{p:j}(e:m[i]?=some p):m.take (i+1)=m.take i++[p]:=by
 rw[take_add_one,e];rfl
end
end Sf
namespace Vc
open PySem L2 Sf
def Le(F b:Hp):Prop:=∀a u,(∀o w,u≠.ay o w)->Rd F a u->Rd b a u
theorem Le.refl(F:Hp):Le F F:=λ_ _ _ h=>h
theorem Le.trans(a:Le F G)(b:Le G H):Le F H:=λx u n h=>b x u n (a x u n h)
theorem Le.of(e:aB F F'):Le F F':=λa u _ h=>e.rd h
theorem Le.aF(e:Le F F')(h:cU K F a xs):cU K F' a xs:=by
 rcases h with h |h
 .exact .inl (e _ _ (by intro o w z;cases z) h)
 .exact .inr h
theorem Le.ag(e:Le F F')(h:bC K F a xs):bC K F' a xs:=by
 rcases h with h |h
 .exact .inl (e _ _ (by intro o w z;cases z) h)
 .exact .inr h
theorem Le.aO(e:Le F F')(h:Rd F a (.dK kvs)):Rd F' a (.dK kvs):=e _ _ (by intro o w z;cases z) h
def Fz(S:af->Prop)(F:Hp):Prop:=∀a o u,F a=some (.ay o u)->S a
abbrev S0:af->Prop:=λ_=>False
def wZ(F:Hp):af->Prop:=λa=>∃o u,F a=some (.ay o u)
structure Gr0(F H F' H':Hp):Prop where
 h:aB H H'
 f:aB F F'
 s:aB F' H'
 n:∀a u,F' a=some u->F a=none->H a=none
structure Gr(F H F' H':Hp):Prop extends Gr0 F H F' H' where
 z:Fz (wZ F) F'
theorem Gr0.refl(s:aB F H):Gr0 F H F H:=⟨aB.refl _,aB.refl _,s,(λa u h e=>by rw[h] at e;cases e)⟩
theorem Fz.refl(F:Hp):Fz (wZ F) F:=λ_ o u h=>⟨o,u,h⟩
theorem Gr.of(g:Gr0 F H F' H')(z:Fz (wZ F) F'):Gr F H F' H':=⟨g,z⟩
theorem Gr.le(g:Gr F H F' H'):Le F F':=.of g.f
theorem Gr.fz(g:Gr F H F' H')(c:Fz S F):Fz S F':=λa o u h=>by
 let⟨b,d,e⟩:=g.z a o u h;exact c a b d e
theorem Gr0.trans(a:Gr0 F H F1 H1)(b:Gr0 F1 H1 F2 H2):Gr0 F H F2 H2:=
 ⟨a.h.trans b.h,a.f.trans b.f,b.s,(λx u h e=>match q:F1 x with
  |none=>a.h.free (b.n x u h q)
  |some w=>a.n x w q e)⟩
theorem Gr0.tr(a:Gr0 F H F1 H1)(b:Gr F1 H1 F2 H2):Gr0 F H F2 H2:=a.trans b.toGr0
theorem Gr.own{F H a b:Hp}(g:Gr F H a b)(d:F o=none)(e:H o=some u):a o=none:=by
 cases q:a o with
 |none=>rfl
 |some w=>have:=g.n o w q d;rw[e] at this;cases this
theorem al{F H:Hp}{R:V->Hp->Prop}(j:aB F H)(m:∀x u,o≠.ay x u)(h:∀(p:af)(g i:Hp),Gr F H g i->g p=some o->R (.ref p) i):∀p,H p=none->R (.ref p) (aR H p o):=λp f=>by
 have l:F p=none:=j.free f;refine h p (aR F p o) (aR H p o) ⟨⟨aB.aR f,aB.aR l,?_,λa u e q=>?_⟩,λa x u e=>?_⟩ cq
 .intro b u e;by_cases d:b=p
  .subst d;rw[cq] at e ⊢;exact e
  .rw[ba d] at e ⊢;exact j b u e
 .by_cases d:a=p
  .subst d;exact f
  .rw[ba d,q] at e;cases e
 .by_cases d:a=p
  .subst d;rw[cq] at e;exact absurd (Option.some.inj e) (m x u)
  .rw[ba d] at e;exact⟨_,_,e⟩
theorem Ko{F H:Hp}{R:Hp->Prop}(j:aB F H)(i:∀x u,o≠.ay x u)(hp:H p=none)(h:∀b a:Hp,Gr F H b a->b p=some o->R a):R (aR H p o):=by
 have:=al (R:=λv a=>∀q,v=.ref q->q=p->R a) j i (λq b a g e z f d=>by cases f;subst d;exact h b a g e) p hp;exact this p rfl rfl
theorem DP{F H:Hp}(f:aB F H)(d:∀x u,o≠.ay x u)(hp:H p=none):∃a,Gr F H a (aR H p o)/\a p=some o:=
 Ko (R:=λb=>∃a,Gr F H a b/\a p=some o) f d hp λa _ g e=>⟨a,g,e⟩
theorem ay{Fb Hb F H:Hp}(g:Gr0 Fb Hb F H)(l:Fz S F)(i:Hb p=none)(j:F p=none)(m:H p=some o)(r:∀x u,o≠.ay x u):∃d,Gr0 Fb Hb d H/\Fz S d/\aB F d/\d p=some o/\∀a,a≠p->d a=F a:=by
 refine⟨aR F p o,⟨g.h,g.f.trans (aB.aR j),?_,λa u e q=>?_⟩,λa x u e=>?_,aB.aR j,cq,λ_ e=>ba e⟩
 .intro b u e;by_cases i:b=p
  .subst i;rw[cq] at e;cases e;exact m
  .rw[ba i] at e;exact g.s b u e
 .by_cases hb':a=p
  .subst hb';exact i
  .rw[ba hb'] at e;exact g.n a u e q
 .by_cases hb':a=p
  .subst hb';rw[cq] at e;exact absurd (Option.some.inj e) (r x u)
  .rw[ba hb'] at e;exact l a x u e
def fz(X:Hp)(a:af)(o:HO):Hp:=λb=>if b=a then (if X a=none then none else some o) else X b
theorem eU{X:Hp}(h:b≠a):fz X a o b=X b:=by unfold fz;rw[if_neg h]
theorem gM:fz X a o a=if X a=none then none else some o:=by unfold fz;rw[if_pos rfl]
theorem uf{X:Hp}(h:fz X a o a=some u):X a≠none/\some o=some u:=by
 rw[gM] at h;split at h
 .cases h
 .rename_i q;exact⟨q,h⟩
theorem JL(z:HO)(d:Gr0 Fb Hb F H):Gr0 (fz Fb a z) (fz Hb a z) (fz F a z) (aR H a z):=by
 refine⟨λb u e=>?_,λb u e=>?_,λb u e=>?_,λb u e q=>?_⟩
 .by_cases hb:b=a
  .subst hb;rw[cq];exact (uf e).2
  .rw[eU hb] at e;rw[ba hb];exact d.h b u e
 .by_cases hb:b=a
  .subst hb;rw[gM] at e ⊢;split at e
   .cases e
   .rename_i h;let⟨w,g⟩:=Option.ne_none_iff_exists'.mp h;rw[if_neg (by rw[d.f _ _ g];intro z;cases z)];exact e
  .rw[eU hb] at e ⊢;exact d.f b u e
 .by_cases hb:b=a
  .subst hb;rw[cq];exact (uf e).2
  .rw[eU hb] at e;rw[ba hb];exact d.s b u e
 .by_cases hb:b=a
  .subst hb;rw[gM] at e q ⊢;split at e
   .cases e
   .rename_i h;let⟨w,g⟩:=Option.ne_none_iff_exists'.mp h;split at q
    .rename_i hf;rw[if_pos (d.n _ _ g hf)]
    .cases q
  .rw[eU hb] at e q ⊢;exact d.n b u e q
theorem tI{F:Hp}(d:F a=none\/F a=some (.dK kvs)):Le F (fz F a (.ay ob (.dK kvs))):=λb u n h=>by
 by_cases e:b=a
 .subst e;rcases d with d |d
  .rcases h with h |⟨o,h⟩<;>(rw[d] at h;cases h)
  .rcases h with h |⟨o,h⟩
   .rw[d] at h;cases h;refine .inr ⟨ob,?_⟩;rw[gM,if_neg (by rw[d];intro z;cases z)]
   .rw[d] at h;cases h
 .rcases h with h |⟨o,h⟩
  .exact .inl (by rw[eU e];exact h)
  .exact .inr ⟨o,by rw[eU e];exact h⟩
theorem Qu{Fb Hb F H j m:Hp}{S:af->Prop}{R:Hp->Prop}(y:Gr0 Fb Hb F H)(C:H a=some (.dK kvs))(i:F a=none\/F a=some (.dK kvs))(r:Gr0 (fz Fb a (.ay ob (.dK kvs))) (fz Hb a (.ay ob (.dK kvs))) j m)(v:j a=fz F a (.ay ob (.dK kvs)) a)(A:Fz (λb=>b=a\/S b) j)(h:∀g l:Hp,Gr0 Fb Hb g l->Fz S g->Le j g->g a=F a->l a=some (.dK kvs)->(∀b,b≠a->g b=j b)->(∀b,b≠a->l b=m b)->R l):R (aR m a (.dK kvs)):=by
 have nn:j  a=none\/j a=some (.ay ob (.dK kvs)):=by
  rw[v,gM];split
  .exact .inl rfl
  .exact .inr rfl
 refine h (fz j a (.dK kvs)) (aR m a (.dK kvs)) ⟨λb u e=>?_,λb u e=>?_,λb u e=>?_,λb u e q=>?_⟩ (λb o u e=>?_) (λb u n e=>?_) ?_ cq (λb d=>eU d) (λb d=>ba d)
 .by_cases d:b=a
  .subst d;rw[cq];have:=y.h _ _ e;rw[C] at this;exact this
  .rw[ba d];exact r.h b u (by rw[eU d];exact e)
 .by_cases d:b=a
  .subst d;have p:=y.f _ _ e;rcases i with i |i
   .rw[i] at p;cases p
   .rw[i] at p;have B:j b=some (.ay ob (.dK kvs)):=by rw[v,gM,if_neg (by rw[i];intro z;cases z)]
    rw[gM,if_neg (by rw[B];intro z;cases z)];exact p
  .rw[eU d];exact r.f b u (by rw[eU d];exact e)
 .by_cases d:b=a
  .subst d;rw[cq];exact (uf e).2
  .rw[eU d] at e;rw[ba d];exact r.s b u e
 .by_cases d:b=a
  .subst d;rw[gM] at e;split at e
   .cases e
   .rename_i hn;rw[v,gM] at hn;split at hn
    .exact absurd rfl hn
    .rename_i hf;let⟨w,D⟩:=Option.ne_none_iff_exists'.mp hf;exact y.n _ _ D q
  .rw[eU d] at e;have:=r.n b u e (by rw[eU d];exact q);rw[eU d] at this;exact this
 .by_cases d:b=a
  .subst d;cases (uf e).2
  .rw[eU d] at e;rcases A b o u e with x |x
   .exact absurd x d
   .exact x
 .by_cases d:b=a
  .subst d;rcases nn with nn |nn
   .rcases e with e |⟨o,e⟩<;>(rw[nn] at e;cases e)
   .rcases e with e |⟨o,e⟩
    .rw[nn] at e;cases e;exact absurd rfl (n _ _)
    .rw[nn] at e;cases e;refine .inl ?_;rw[gM,if_neg (by rw[nn];intro z;cases z)]
  .rcases e with e |⟨o,e⟩
   .exact .inl (by rw[eU d];exact e)
   .exact .inr ⟨o,by rw[eU d];exact e⟩
 .rw[gM,v,gM];rcases i with i |i<;>rw[i]
  .rfl
  .rfl
theorem uP{F:Hp}(c:Fz S0 F)(h:Rd F a (.dK kvs)):F a=some (.dK kvs):=by
 rcases h with h |⟨o,h⟩
 .exact h
 .exact (c _ _ _ h).elim
abbrev Rep(j:Type):=Hp->V->j->Prop
def r2(K:ao){j i:Type}(A:Rep j)(B:Rep i):Rep (j×i):=λF v x=>∃a b d,v=.ref a/\cU K F a [b,d]/\A F b x.1/\B F d x.2
def r3(K:ao){j i G:Type}(A:Rep j)(B:Rep i)(C:Rep G):Rep (j×i×G):=λF v x=>∃a b d e,v=.ref a/\cU K F a [b,d,e]/\A F b x.1/\B F d x.2.1/\C F e x.2.2
def r5(K:ao){j i G h l:Type}(A:Rep j)(B:Rep i)(C:Rep G)(D:Rep h)(E:Rep l):Rep (j×i×G×h×l):=λF v x=>∃a b d e f g,v=.ref a/\cU K F a [b,d,e,f,g]/\A F b x.1/\B F d x.2.1/\C F e x.2.2.1/\D F f x.2.2.2.1/\E F g x.2.2.2.2
section
variable{α:Type}
def cF(m:List (Str×α))(k:Str):Option α:=(m.find? λp=>decide (p.1=k)).map (·.2)
def m6(m:List (Str×α))(k:Str)(y:α):List (Str×α):=if (m.any λp=>decide (p.1=k))=true then m.map (λp=>if p.1=k then (p.1,y) else p) else m++[(k,y)]
theorem n0(e:p.1=k):cF (p::r) k=some p.2:=by simp[cF,find?_cons,e]
theorem Ki(e:¬ p.1=k):cF (p::r) k=cF r k:=by simp[cF,find?_cons,e]
end
def bl(n:Nat):Nat:=if n=0 then 0 else Nat.log2 n+1
theorem kx:n<2 ^ k↔bl n<=k:=by
 unfold bl;by_cases h:n=0
 .subst h;simp[Nat.two_pow_pos]
 .rw[if_neg h,<- Nat.log2_lt h];omega
theorem ri(n:Nat):n<2 ^ bl n:=kx.mpr (le_refl _)
def bi(x:Int):Nat:=bl x.natAbs
def bs(q:Rat):Nat:=max (bl q.num.natAbs) (bl q.den)
theorem PQ(h:bs q<=n):Sm n q:=⟨kx.mpr (by unfold bs at h;omega),kx.mpr (by unfold bs at h;omega)⟩
theorem vM(h:Sm n q):bs q<=n:=by
 have a:=kx.mp h.1;have b:=kx.mp h.2;unfold bs;omega
theorem sZ(q:Rat):Sm (bs q) q:=PQ (le_refl _)
theorem sJ(a b:Rat):bs (a - b)<=bs a+bs b+1:=vM (U4 (sZ a) (sZ b))
theorem wa(a b:Rat):bs (a*b)<=bs a+bs b:=vM (bO (sZ a) (sZ b))
theorem lE:bs 0=1:=by decide +kernel
theorem fL(h:x.natAbs<2 ^ k):bi x<=k:=kx.mp h
theorem jy(h:bi x<=k):x.natAbs<2 ^ k:=kx.mpr h
theorem gu(x y:Int):bi (x*y)<=bi x+bi y:=kx.mp (oN (ri _) (ri _))
theorem Nf(x y:Int):bi (x - y)<=max (bi x) (bi y)+1:=by
 have a:x.natAbs<2 ^ (max (bi x) (bi y)):=lt_of_lt_of_le (ri _) (Nat.pow_le_pow_right ∎ (Nat.le_max_left _ _));have b:y.natAbs<2 ^ (max (bi x) (bi y)):=lt_of_lt_of_le (ri _) (Nat.pow_le_pow_right ∎ (Nat.le_max_right _ _));exact kx.mp (DS a b)
theorem iL(q:Rat):bi q.num<=bs q:=by unfold bi bs;omega
theorem fZ(q:Rat):bi (q.den:Int)<=bs q:=by unfold bi bs;rw[natAbs_natCast];omega
theorem oA(h:b≠0)(a:bi t<=k)(d:bi b<=k):bs (Rat.divInt t b)<=k:=vM (vR h (jy a) (jy d))
theorem GI(a:bi x<=60000000)(b:bi y<=60000000):kB x y:=.inr ⟨60000000,le_refl _,jy a,jy b⟩
theorem xK(h0:y≠0)(h1:bi y<=8000):dX x y:=⟨h0,jy h1⟩
def j5(K:ao)(H:Hp)(x:V)(t:aj):Prop:=dM K H x t\/(t=.type "tuple"/\∃a d,x=.ref a/\cU K H a d)\/(t=.type "list"/\∃a d,x=.ref a/\bC K H a d)\/(t=.type "dict"/\∃a b,x=.ref a/\Rd H a (.dK b))
section
variable{K:ao}{H:Hp}
theorem Vk(h:cU K H a xs):j5 K H (.ref a) (.type "tuple"):=.inr (.inl ⟨rfl,a,xs,rfl,h⟩)
theorem JG(h:bC K H a xs):j5 K H (.ref a) (.type "list"):=.inr (.inr (.inl ⟨rfl,a,xs,rfl,h⟩))
theorem JI(h:Rd H a (.dK kvs)):j5 K H (.ref a) (.type "dict"):=.inr (.inr (.inr ⟨rfl,a,kvs,rfl,h⟩))
theorem N6:j5 K H (.int i) (.type "int"):=.inl (.int i)
theorem TV:j5 K H (.str i) (.type "str"):=.inl (.str i)
theorem JH:j5 K H (.bl i) (.type "bool"):=.inl (.bl i)
theorem NF:j5 K H .aM (.type "NoneType"):=.inl .aM
end
section
open PySem.Spec PyProof.Rows
variable{X:Cx}
theorem Ru:bL X (.builtin "isinstance") (λxs H Q=>∃x c t b u,xs=[x,c]/\j5 X.K H x t/\rj c=some u/\W.kitOne X.K t u=some b/\Q (.bl b) H):=by
 intro aa s j H xs us Q I r h;let⟨x,c,t,b,u,rfl,ty,d,e,q⟩:=h;rcases ty with ty |⟨rfl,a,D,rfl,l⟩ |⟨rfl,a,D,rfl,l⟩ |⟨rfl,a,A,rfl,l⟩
 .exact U7 aa s j H [x,c] us Q I r ⟨x,c,t,b,u,rfl,ty,d,e,q⟩
 all_goals
  let⟨v,C,rfl,B,m⟩:=DU r;have y:C=u:=by
   cases c with
   |ref a=>cases d;exact m
   |ty n=>cases d;exact m
   |aM=>cases d
   |bl n=>cases d
   |int i=>cases d
   |str i=>cases d
   |gg i=>cases d
   |kL i=>cases d
  subst y;cases (show v=Value.ref a from B)
 .obtain⟨bo,_,p,_⟩:=I.tuple l;let⟨o,f,g,_⟩:=p;exact W.kia_one W.kitx_tuple I.cL ⟨o,f,g⟩ e (λz=>nomatch z) λw=>⟨.bl b,H,I.tok w,rfl,q⟩
 .obtain⟨bo,_,p,_⟩:=I.list l;let⟨o,f,g,_⟩:=p.isList;exact W.kia_one W.kitx_list I.cL ⟨o,f,g⟩ e (λz=>nomatch z) λw=>⟨.bl b,H,I.tok w,rfl,q⟩
 .obtain⟨_,_,vs,_,p⟩:=iT I.aN l;let⟨o,G,E,f,g,_⟩:=p;exact W.kia_one W.kitx_dict I.cL ⟨o,f,g.1⟩ e (λz=>nomatch z) λw=>⟨.bl b,H,I.tok w,rfl,q⟩
end
def sgn(z:Str)(i:Int):Str:=⟨#[z.cps.toList.getD i.toNat 0]⟩
section
variable{X:Cx}{aa:aV}{σ:St}{F H:Hp}{s:ak}{Au:Around}
theorem OY:∀{x y:V}{u:aj},aD x u->aD y u->x=y:=by
 intro x y u b a;cases x<;>cases y<;>simp only[aD] at b a<;>first
  |rfl
  |(subst b;simp at a;subst a;rfl)
  |(subst b;simp at a;done)
  |(let⟨t,rfl⟩:=b;let⟨d,e⟩:=a;simp at e;rw[e.1])
  |(let⟨t,rfl⟩:=b;simp at a;done)
  |(let⟨t,rfl⟩:=a;simp at b;done)
theorem yz:∀{xs ys:aw}{us:aL},aE xs us->aE ys us->xs=ys
 |[],[],_,_,_=>rfl
 |_::_,_::_,_,.cons h t,.cons h' t'=>by rw[OY h h',yz t t']
 |[],_::_,_,h,h'=>by cases h;cases h'
 |_::_,[],_,h,h'=>by cases h';cases h
theorem Rj(I:au X aa σ H s)(h:cU X.K H a xs)(i:cU X.K H a ys):xs=ys:=by
 ∎;let⟨us,j,⟨q,g,m,o,f⟩,_⟩:=I.tuple h;let⟨l,r2,⟨r,d,n,p,b⟩,_⟩:=I.tuple i;∎;rw[g] at d;cases d;rw[f] at b;injection b with e _
 have:us=l:=by simpa using e
 subst this;exact yz j r2
theorem Nj(I:au X aa σ H s)(h:bC X.K H a xs)(i:bC X.K H a ys):xs=ys:=by
 ∎;let⟨us,j,p1,_⟩:=I.list h;let⟨l,r2,p2,_⟩:=I.list i;let⟨q,g,m,o,f⟩:=p1.isList;let⟨r,d,n,p,b⟩:=p2.isList;∎;rw[g] at d;cases d;rw[f] at b;injection b with e _
 have:us=l:=by simpa using e
 subst this;exact yz j r2
theorem Fo(I:au X aa σ H s)(f:cU X.K H a xs)(g:cU X.K H b ys)(r:Au.units<cLine)(E:xs.length=ys.length)(e:Nat->Bool)(he:∀(j:Nat) x y u v,xs[j]?=some x->ys[j]?=some y->aD x u->aD y v->SeqAt.EqAt Au.in1 s u v (e j)):SeqAt.RcAt Au s (.ref a) (.ref b) ((List.range xs.length).all e):=by
 ∎;let⟨us,m,C,_⟩:=I.tuple f;let⟨d,r2,D,_⟩:=I.tuple g;∎;have G:=m.length;have J:=r2.length;have z:=SeqAt.RcAt.tuples (A:=Au) (e:=e) C D r (λj f g=>?_)
 .have e0:((List.range (min us.toArray.size d.toArray.size)).all e&&us.toArray.size == d.toArray.size)=(List.range xs.length).all e:=by
   simp only[size_toArray];have h:min us.length d.length=xs.length:=⋯
   have l:(us.length == d.length)=true:=by simp;omega
   rw[h,l,Bool.and_true]
  rw[e0] at z;exact z
 .simp only[size_toArray] at f g;∎;let⟨u,h,w⟩:=m.get (i:=j) (x:=xs[j]'⋯) (by simp);let⟨v,l,B⟩:=r2.get (i:=j) (x:=ys[j]'⋯) (by simp);let⟨_,n⟩:=List.getElem?_eq_some_iff.mp h;let⟨_,o⟩:=List.getElem?_eq_some_iff.mp l;∎;have p:us.toArray[j]'(by simpa using f)=u:=by simpa using n
  have q:d.toArray[j]'(by simpa using g)=v:=by simpa using o
  rw[p,q];exact he j _ _ u v (by simp) (by simp) w B
theorem FJ(I:au X aa σ H s)(d:bC X.K H a xs)(f:bC X.K H b ys)(q:Au.units<cLine)(G:xs.length=ys.length)(e:Nat->Bool)(he:∀(j:Nat) x y u v,xs[j]?=some x->ys[j]?=some y->aD x u->aD y v->SeqAt.EqAt Au.in1 s u v (e j)):SeqAt.RcAt Au s (.ref a) (.ref b) ((List.range xs.length).all e):=by
 ∎;let⟨us,g,C,_⟩:=I.list d;let⟨E,r2,D,_⟩:=I.list f;∎;have r:=g.length;have J:=r2.length;have z:=SeqAt.RcAt.lists (A:=Au) (e:=e) C.isList D.isList (by simp;omega) q (λj d f=>?_)
 .have e0:(List.range us.toArray.size).all e=(List.range xs.length).all e:=by
   simp only[size_toArray];rw[<- r]
  rw[e0] at z;exact z
 .simp only[size_toArray] at d f;∎;let⟨u,h,w⟩:=g.get (i:=j) (x:=xs[j]'⋯) (by simp);let⟨v,l,B⟩:=r2.get (i:=j) (x:=ys[j]'⋯) (by simp);let⟨_,m⟩:=List.getElem?_eq_some_iff.mp h;let⟨_,n⟩:=List.getElem?_eq_some_iff.mp l;∎;have o:us.toArray[j]'(by simpa using d)=u:=by simpa using m
  have p:E.toArray[j]'(by simpa using f)=v:=by simpa using n
  rw[o,p];exact he j _ _ u v (by simp) (by simp) w B
end
theorem K4(a:aD (.int i) u)(r2:aD (.int j) v):SeqAt.EqAt Au s u v (decide (i=j)):=by
 have z:=mJ (A:=Au) (s:=s) a r2 rfl rfl;have e:hZ (.int i) (.int j)=decide (i=j):=by show (i == j)=_;rw[Bool.beq_eq_decide_eq]
 rw[e] at z;exact z
theorem zJ:∀{n:Nat}{x y:V},ji K H n x y->ji K H (n+1) x y
 |0,_,_,h=>.inl h
 |n + 1,_,_,.inl h=>.inl h
 |n + 1,_,_,.inr ⟨p,q,b,a,h1,h2,h3,h4⟩=>.inr ⟨p,q,b,a,h1,h2,h3,by
  have gen:∀{b a:aw},e6 (ji K H n) b a->e6 (ji K H (n+1)) b a:=by
   intro b
   induction b with
   |nil=>intro a h;cases a with
    |nil=>exact True.intro
    |cons _ _=>exact h.elim
   |cons x b d=>intro a h;cases a with
    |nil=>exact h.elim
    |cons y a=>exact⟨zJ h.1,d h.2⟩
  exact gen h4⟩
theorem RH(h:ji K H n x y)(k:n<=m):ji K H m x y:=by
 induction k with
 |refl=>exact h
 |step _ a=>exact zJ a
end Vc
namespace L2
open PySem PySem.Spec PyProof.Rows
def jb(env:Env)(cs:List (Str×af))(y:Str×NameKind):List (Str×af):=if (y.2 == .free)=true then (match env.cells.lookup y.1 with |some a=>(y.1,a)::cs |none=>cs) else cs
def j4(a:Scope)(env:Env):List (Str×af):=a.names.foldl (jb env) []
def jO(a:Scope)(env:Env):Bool:=a.names.all λy=>!(y.2 == .free) || (env.cells.lookup y.1).isSome
theorem CB(h:jO scope env=true):closureFor scope env=pure (j4 scope env):=by
 unfold closureFor j4;unfold jO at h;have gen:∀(l:List (Str×NameKind))(b:List (Str×af)),(l.all λy=>!(y.2 == .free) || (env.cells.lookup y.1).isSome)=true->
   (forIn l b λx r=>match x with |(name,kind)=>if (kind == NameKind.free)=true then (do let a <- cellOf env name;pure (ForInStep.yield ((name,a)::r))) else pure (ForInStep.yield r):Sem (List (Str×af)))=pure (l.foldl (jb env) b):=by
  intro l
  induction l with
  |nil=>intro b _;rfl
  |cons y r i=>
   intro b f;rw[all_cons,and_eq_true] at f;let⟨n,k⟩:=y;rw[List.forIn_cons,List.foldl_cons];by_cases d:(k == NameKind.free)=true
   .have h1:=f.1;simp only[d,Bool.not_true,Bool.false_or] at h1;let⟨a,e⟩:=Option.isSome_iff_exists.mp h1;have g:jb env b (n,k)=(n,a)::b:=by unfold jb;simp[d,e]
    have j:cellOf env n=pure a:=by unfold cellOf;rw[e]
    rw[g,<- i _ f.2];simp only[d,if_true,j,pure_bind]
   .have g:jb env b (n,k)=b:=by unfold jb;simp[d]
    rw[g,<- i _ f.2];simp only[d,if_false,pure_bind,Bool.false_eq_true]
 have:=gen scope.names [] h;simp only[this,pure_bind]
theorem mP(h:(j4 scope env).lookup x=some c):env.cells.lookup x=some c:=by
 unfold j4 at h;have gen:∀(l:List (Str×NameKind))(b:List (Str×af)),(b.lookup x=some c->env.cells.lookup x=some c)->(l.foldl (jb env) b).lookup x=some c->env.cells.lookup x=some c:=by
  intro l
  induction l with
  |nil=>intro b f g;exact f g
  |cons y r i=>
   intro b f g;rw[List.foldl_cons] at g;refine i _ (λz=>?_) g;unfold jb at z;split at z
   .split at z
    .rename_i a e;rw[lookup_cons] at z;by_cases d:(x == y.1)=true
     .rw[d] at z;have:=eq_of_beq d;subst this;simp at z;rw[<- z];exact e
     .simp only[d] at z;exact f z
    .exact f z
   .exact f z
 exact gen scope.names [] (λz=>by cases z) h
theorem Ap(g:jO scope env=true)(h:scope.names.lookup x=some .free):∃c,(j4 scope env).lookup x=some c:=by
 unfold j4;unfold jO at g;have keep:∀(l:List (Str×NameKind))(b:List (Str×af)),(∃c,b.lookup x=some c)->∃c,(l.foldl (jb env) b).lookup x=some c:=by
  intro l
  induction l with
  |nil=>intro b f;exact f
  |cons y r i=>
   intro b f;rw[List.foldl_cons];refine i _ ?_;unfold jb;split
   .split
    .rw[lookup_cons];by_cases d:(x == y.1)=true
     .rw[d];exact⟨_,rfl⟩
     .simp only[d];exact f
    .exact f
   .exact f
 have gen:∀(l:List (Str×NameKind))(b:List (Str×af)),(l.all λy=>!(y.2 == .free) || (env.cells.lookup y.1).isSome)=true->l.lookup x=some .free->∃c,(l.foldl (jb env) b).lookup x=some c:=by
  intro l
  induction l with
  |nil=>intro b _ f;cases f
  |cons y r i=>
   intro b g f;rw[all_cons,and_eq_true] at g;let⟨n,k⟩:=y;rw[List.foldl_cons];rw[lookup_cons] at f;by_cases d:(x == n)=true
   .rw[d] at f;have:=eq_of_beq d;subst this;simp at f;subst f;refine keep r _ ?_;have j:(env.cells.lookup x).isSome=true:=g.1;let⟨a,e⟩:=Option.isSome_iff_exists.mp j;refine⟨a,?_⟩;unfold jb;rw[if_pos (show ((NameKind.free) == NameKind.free)=true from rfl)];dsimp only;rw[e];dsimp only;rw[lookup_cons,d]
   .simp only[d] at f;exact i _ g.2 f
 exact gen scope.names [] g h
theorem MN(b:∀y∈a.names,y.2≠.cell)(h:(relabel a env).names.lookup x=some .cell\/(relabel a env).names.lookup x=some .free):a.names.lookup x=some .free:=by
 unfold relabel at h;dsimp only at h;have gen:∀l:List (Str×NameKind),(∀y∈l,y.2≠.cell)->((l.map λ(n,k)=>if (k == NameKind.free&&env.scope.kind == .function&&env.kindOf n == some .cell) then (n,NameKind.cell) else (n,k)).lookup x=some .cell\/(l.map λ(n,k)=>if (k == NameKind.free&&env.scope.kind == .function&&env.kindOf n == some .cell) then (n,NameKind.cell) else (n,k)).lookup x=some .free)->l.lookup x=some .free:=by
  intro l
  induction l with
  |nil=>intro _ f;rcases f with f |f<;>cases f
  |cons y r m=>
   intro g f;let⟨n,k⟩:=y;have i:k≠.cell:=g (n,k) (mem_cons_self ..);rw[map_cons] at f;rw[lookup_cons];by_cases d:(x == n)=true
   .rw[d];dsimp only at f ⊢;by_cases e:(k == NameKind.free&&env.scope.kind == .function&&env.kindOf n == some .cell)=true
    .have:k=.free:=by
      simp only[and_eq_true] at e;exact eq_of_beq e.1.1
     rw[this]
    .rw[if_neg e,lookup_cons,d] at f;simp only[Option.some.injEq] at f;rcases f with f |f
     .exact absurd f i
     .rw[f]
   .simp only[d];refine m (λy j=>g y (mem_cons_of_mem _ j)) ?_;dsimp only at f;split at f<;>(rw[lookup_cons] at f;simp only[d] at f;exact f)
 exact gen a.names b h
inductive Wk:St->St->Prop
 |nil:Wk [] []
 |aM {a b:St} {x:Option V}:Wk a b -> Wk (none::a) (x::b)
 |sq {a b:St} {v:V}:Wk a b -> Wk (some v::a) (some v::b)
theorem Wk.length(h:Wk a b):b.length=a.length:=by
 induction h with
 |nil=>rfl
 |aM _ d=>simp[d]
 |sq _ d=>simp[d]
theorem Wk.get(h:Wk a b):∀{i:Nat}{v:V},a[i]?=some (some v)->b[i]?=some (some v):=by
 induction h with
 |nil=>intro i v e;simp at e
 |aM _ d=>
  intro i v e;cases i with
  |zero=>simp at e
  |succ i=>simpa using d (i:=i) (v:=v) (by simpa using e)
 |sq _ d=>
  intro i v e;cases i with
  |zero=>simpa using e
  |succ i=>simpa using d (i:=i) (v:=v) (by simpa using e)
theorem xB:∀a:St,Wk a a
 |[]=>.nil
 |none::a=>.aM (xB a)
 |some _::a=>.sq (xB a)
def eV(ix:bG)(j:St):St:=ix.map λo=>match o with |none=>none |some i=>(j[i]?).getD none
def bP(X:Cx)(sc:Scope):ah->bG->Prop
 |[],[]=>True
 |_::N,none::ix=>bP X sc N ix
 |x::N,some i::ix=>X.N[i]? = some x /\ X.env.kindOf x=some .cell /\ sc.names.lookup x=some .free /\ bP X sc N ix
 |_,_=>False
theorem bP.length:∀{N:ah}{ix:bG},bP X sc N ix->ix.length=N.length
 |[],[],_=>rfl
 |_::N,none::ix,h=>by rw[length_cons,length_cons,bP.length (X:=X) (sc:=sc) (N:=N) (ix:=ix) h]
 |_::N,some i::ix,h=>by rw[length_cons,length_cons,bP.length (X:=X) (sc:=sc) (N:=N) (ix:=ix) h.2.2.2]
 |[],_::_,h=>h.elim
 |_::_,[],h=>h.elim
theorem bP.get:∀{N:ah}{ix:bG}{j:Nat}{x:Str}{v:V},bP X sc N ix->N[j]?=some x->(eV ix G)[j]?=some (some v)->∃i:Nat,X.N[i]?=some x/\X.env.kindOf x=some .cell/\sc.names.lookup x=some .free/\G[i]?=some (some v)
 |_::N,none::ix,0,x,v,h,e1,e2=>by simp[eV] at e2
 |_::N,none::ix,j + 1,x,v,h,e1,e2=>bP.get (N:=N) (ix:=ix) (j:=j) h (by simpa using e1) (by simpa [eV] using e2)
 |y::N,some i::ix,0,x,v,h,e1,e2=>by
  simp at e1;subst e1;refine⟨i,h.1,h.2.1,h.2.2.1,?_⟩;simp[eV] at e2;cases q:G[i]? with
  |none=>rw[q] at e2;simp at e2
  |some o=>rw[q] at e2;simp at e2;rw[e2]
 |y::N,some i::ix,j + 1,x,v,h,e1,e2=>bP.get (N:=N) (ix:=ix) (j:=j) h.2.2.2 (by simpa using e1) (by simpa [eV] using e2)
 |[],[],_,_,_,_,e1,_=>by simp at e1
 |[],_::_,_,_,_,h,_,_=>h.elim
 |_::_,[],_,_,_,h,_,_=>h.elim
theorem Qk(h:scope.names.lookup x=some .free):(relabel scope env).names.lookup x=some .cell\/(relabel scope env).names.lookup x=some .free:=by
 unfold relabel;dsimp only;have gen:∀l:List (Str×NameKind),l.lookup x=some .free->((l.map λ(n,k)=>if (k == NameKind.free&&env.scope.kind == .function&&env.kindOf n == some .cell) then (n,NameKind.cell) else (n,k)).lookup x=some .cell\/(l.map λ(n,k)=>if (k == NameKind.free&&env.scope.kind == .function&&env.kindOf n == some .cell) then (n,NameKind.cell) else (n,k)).lookup x=some .free):=by
  intro l
  induction l with
  |nil=>intro f;cases f
  |cons y r b=>
   intro f;let⟨n,k⟩:=y;rw[lookup_cons] at f;rw[map_cons];by_cases a:(x == n)=true
   .rw[a] at f;simp at f;subst f;dsimp only;split
    .left;rw[lookup_cons,a]
    .right;rw[lookup_cons,a]
   .simp only[a] at f;dsimp only;split<;>(rw[lookup_cons];simp only[a];exact b f)
 exact gen scope.names h
def cQ(X:Cx)(a:Scope)(N:ah)(C:af)(s:ak)(H:Hp)(fp:cA)(pl:aV):Cx where
 prog:=X.prog
 w:=X.w
 K:=X.K
 mg:=X.mg
 base:=X.base
 A:=X.A
 N:=N
 s₀:=s
 H₀:=H
 env:=compEnvC a (j4 a X.env) C X.env
 outer:=X.stack
 stack:=X.stack
 ex:=fp
 fn:=λ_=>false
 calm:=X.calm
 pn:=X.pn++pl
 xe:=λ_ _=>False
def nA(Y:Cx)(a:bH)(t:TT):Prop:=
 ∀(aa:aV)(s:ak)(j:St)(H:Hp)(Q:Bool->Hp->Prop),au Y aa j H s->t j H Q->
  wpAny (model Y.prog Y.w) Y.A (forIn a true λc r=>if r=true then do let ok <- isTrue c Y.env (eval c Y.env);pure (ForInStep.yield ok) else pure (ForInStep.yield r)) (TP Y aa j Q) Y.xe s
def B6:TT:=λ_ H Q=>Q true H
theorem Sk:nA Y [] B6:=λ_ _ _ H _ I h=>wpAny_tests_nil ⟨H,I,h⟩
theorem BH(h:PT Y c t):nA Y [c] t:=λaa s j H Q I q=>wpAny_tests_one (h aa s j H Q I q)
theorem S9{R:Result->ak->Prop}(I:Nat->ak->Prop)(turn:∀n s,I n s->wpAny (model prog w) A (pyNext it) (λr b=>match r with
   |none=>R (.ok .next) b
   |some v=>wpAny (model prog w) A (letOwnedTupleGo target it v) (λ_ s₀=>wpAny (model prog w) A (assign target env v) (λ_ i=>
     wpAny (model prog w) A (forIn ifs true λc r=>if r=true then do let ok <- isTrue c env (eval c env);pure (ForInStep.yield ok) else pure (ForInStep.yield r)) (λok d=>
      if ok=true then wpAny (model prog w) A (eval elt env) (λx j=>
       wpAny (model prog w) A (call (.builtin "list.append") [acc,x]) (λ_ l=>∃m,m<n/\I m l) (notedBy (model prog w) A env λe s'=>R (.error e) s') j) (notedBy (model prog w) A env λe s'=>R (.error e) s') d
      else ∃m,m<n/\I m d) (notedBy (model prog w) A env λe s'=>R (.error e) s') i) (notedBy (model prog w) A env λe s'=>R (.error e) s') s₀) (notedBy (model prog w) A env λe s'=>R (.error e) s') b) (notedBy (model prog w) A env λe s'=>R (.error e) s') s)(n:Nat)(h:I n s):codeAny (model prog w) A (.compLoop (.ListComp elt [⟨target,iter,ifs,0⟩] scope pos) 0 it acc env) R s:=by
 refine codeAny_loop rfl I (λn s y=>?_) n h;show wpAny _ A ((compTurn (.ListComp elt [⟨target,iter,ifs,0⟩] scope pos) 0 it acc env).onRaise (λx=>do noteFrame x env;theTreesLotGoes x)) _ _ s;refine wpAny_noted ?_;rw[compTurn_list];refine wpAny_bind (wpAny_standAt (wpAny_bind (wpAny_mono (turn n s y) (λr b f=>?_) λ_ _ a=>a)));cases r with
 |none=>exact wpAny_pure f
 |some v=>
  refine wpAny_bind (wpAny_mono f (λ_ s₀ o=>?_) λ_ _ a=>a);refine wpAny_bind (wpAny_mono o (λ_ i p=>wpAny_bind (wpAny_mono p (λok d g=>?_) λ_ _ a=>a)) λ_ _ a=>a);cases ok with
  |false=>exact wpAny_pure ⟨rfl,g⟩
  |true=>
   exact wpAny_bind (wpAny_bind (wpAny_mono g (λx j q=>wpAny_bind (wpAny_mono q (λ_ l u=>wpAny_pure (wpAny_pure ⟨rfl,u⟩)) λ_ _ a=>a)) λ_ _ a=>a))
section
variable{X:Cx}{aa:aV}{σ:St}{H:Hp}{s:ak}{scope:Scope}{N:ah}{fp:cA}{C:af}
theorem GJ(I:au X aa σ H s)(l:⇑s<=C)(i:∀b∈fp,add X aa H b)(j:∀b∈fp,∃o,s.heap.get? b=some o)(f:scope.kind=.function)(d:∀y∈scope.names,y.2≠.cell)(g:jO scope X.env=true):
  (cQ X scope N C s H fp aa).Ok where
 mod:=I.ok.mod
 kind:=f
 glob:=I.ok.glob
 blt:=I.ok.blt
 above:=l
 inj:=λx y c m n=>I.ok.inj x y c (mP m) (mP n)
 has:=λx h=>Ap g (MN d h)
 lJ:=λx c h=>by cases h
 hd:=I.ok.hd
 frames:=I.ok.frames
 l5:=.inl rfl
 mn:=λb a=>⟨λz=>by let⟨o,e⟩:=j b a;have:=Heap.lt_size e;subst z;exact absurd (lt_of_lt_of_le this l) (lt_irrefl _),λx c e=>(i b a).2.2.2.2.1 x c (mP e)⟩
 bs:=I.bs
 jl:=le_trans I.ok.jl I.sz
 gG:=λb o e a=>by
  rcases (i b a).2.2.2.1 with z |z
  .exact I.ok.gG b o e z
  .exact absurd (lt_of_lt_of_le (Heap.lt_size e) (le_trans I.ok.jl z)) (lt_irrefl _)
 gB:=λb a hm=>by
  rcases mem_cons.mp (I.eW b hm) with z |z
  .exact (i b a).2.1 z
  .exact (i b a).2.2.1 z
 dy:=I.stack
 ko:=I.fN
theorem OF(I:au X aa σ H s)(ok:(cQ X scope N C s H fp aa).Ok)(w:⇑s<=C)(k:∀b o,s.heap.get? b=some o->h'.get? b=some o)(hn:h'.Ns C m)(g:bP X scope N ix)(a:jO scope X.env=true):
  au (cQ X scope N C s H fp aa) [] (eV ix σ) H { s with heap:=h',toks:=t' } where
 ok:=ok
 os:=rfl
 bare:=I.bare
 base:=Un.kept k
 loc:=⟨m,hn,λi x v A B Q=>by
  ∎;let⟨L,D,y,f,l⟩:=g.get A B;let⟨U,_,G⟩:=I.loc;let⟨u,r,look⟩:=G L x v D l (.inr (.inl y));∎;rcases look with⟨z,_⟩ |⟨_,c,E,o,h,hd⟩
  .rw[y] at z;cases z
  .obtain⟨c',hc'⟩:=Ap a f;have e:=mP hc';rw[E] at e;cases e;exact⟨u,r,.inr ⟨Qk f,c,hc',o,k _ _ h,hd⟩⟩⟩
 cell:=λx c e=>by
  let⟨v,o,h,hd⟩:=I.cell x c (mP e);exact⟨v,o,k _ _ h,hd⟩
 free:=I.aN.fresh w
 bV:=λx c e=>I.bV x c (mP e)
 pin:=λp J=>by
  have j:p∈X.pn++aa:=by simpa [cQ] using J
  let⟨e,n,ne,M,d⟩:=I.pin p j;refine⟨k _ _ e,n,λz=>?_,λz=>?_,d⟩
  .have:=Heap.lt_size e;have O:p.1=C:=z;rw[O] at this;exact absurd (lt_of_lt_of_le this w) (lt_irrefl _)
  .rcases mem_cons.mp (I.eW p.1 z) with q |q
   .exact ne q
   .exact M q
 aN:=I.aN.kept k
 len:=by
  have:=g.length;simp[eV,cQ,this]
theorem K8{h:Hp}(I:au X aa σ H s)(J:au (cQ X scope N C s H fp aa) pl σ' h s')(j:D=⇑s)(f:∀b∈fp,add X aa H b)(m:s'.heap.PlainList D bo.toArray)(p:aE acc bo)(hz:acc.length<=sizeLine)(hn:h D=none):au X aa σ (aR h D (.ag acc)) s':=by
 have i:∀b o,s.heap.get? b=some o->b≠D:=λb o e z=>by rw[z,j] at e;exact absurd (Heap.lt_size e) (lt_irrefl _)
 have a:H D=none:=I.aN.fresh (by rw[j];exact le_refl _);refine I.eA (ch:=fp) J.os ⟨J.base.keep,J.base.slot,λb o e n r=>?_,J.base.there,λb l e=>?_,λb o u e=>?_,λb v e=>?_⟩ (λb u e=>?_) J.bare λb d=>⟨(f b d).2.2.2.1,(f b d).2.1,(f b d).2.2.2.2.1,(f b d).2.2.2.2.2⟩
 .rw[ba (i b o e)];exact J.base.free b o e n r
 .rw[ba (iY e a)];exact J.base.eZ b l e
 .rw[ba (iY e a)];exact J.base.bp b o u e
 .obtain⟨mo,e2⟩:=J.base.eX b v e;exact⟨mo,by rw[ba (iY e a)];exact e2⟩
 .by_cases d:b=D
  .subst d;rw[cq] at e;cases e;let⟨n,g⟩:=m;exact⟨hz,bo,n,p,g⟩
  .rw[ba d] at e;exact (J.aN b u e).eL (λ_ _ _ q=>q) (λc q=>by rw[ba (iY q hn)];exact q) λc l q=>by rw[ba (iY q hn)];exact q
end
def pO(u:TI)(g:TG)(s:TT)(r:TE)(ix:bG):TE:=λj H Q=>u j H λJ n=>∃W:Nat->Nat->aw->Hp->Prop,(∃m,W 0 m [] n)/\∀i m a H,W i m a H->
 (J.stop i H/\a.length<=sizeLine/\∀p,H p=none->Q (.ref p) (aR H p (.ag a)))\/
 (J.go i H/\∃N:aw->Hp->Prop,(∀d e,N d e->∃l,l<m/\W (i+1) l d e)/\∀x e,J.kr i H x e->g x (eV ix j) e λf o=>Wk (eV ix j) f/\s f o λb h=>if b=true then r f h λv q=>a.length<sizeLine/\N (a++[v]) q else N a h)
section
variable{X:Cx}{elt target iter:Expr}{ifs:bH}{scope:Scope}{pos:Pos}{N:ah}{ix:bG}{wi:TI}{g:TG}{ti:TT}{te:TE}
theorem Ek{Q:VK}{RR:aj->af->Result->ak->Prop}{tn:Nat->aU->Prop}(hc:X.calm=true)(hg:∀C s H fp pl,PG (cQ X scope N C s H fp pl) target g)(ht:∀C s H fp pl,nA (cQ X scope N C s H fp pl) ifs ti)(he:∀C s H fp pl,PE (cQ X scope N C s H fp pl) elt te)(ε:scope.kind=.function)(δ:∀y∈scope.names,y.2≠.cell)(π:jO scope X.env=true)(hpk:bP X scope N ix)(I2:au X aa j O a)(T:ke X.prog X.w X.K target J fp it tn)(st2:tn 0 a.heap)(f2:∀b∈fp,add X aa O b)(h:∃W:Nat->Nat->aw->Hp->Prop,(∃m,W 0 m [] O)/\∀i m f H,W i m f H->
   (J.stop i H/\f.length<=sizeLine/\∀p,H p=none->Q (.ref p) (aR H p (.ag f)))\/
   (J.go i H/\∃N:aw->Hp->Prop,(∀ξ M,N ξ M->∃m',m'<m/\W (i+1) m' ξ M)/\∀x M,J.kr i H x M->g x (eV ix j) M λj2 O=>Wk (eV ix j) j2/\ti j2 O λb H3=>if b=true then te j2 H3 λv H4=>f.length<sizeLine/\N (f++[v]) H4 else N f H3))(hR:∀(D C:af)(s':ak)(M:Hp)(m:bx),au X aa j M s'->s'.heap.Ns C m->M C=none->⇑a<=C->Q (.ref D) M->RR (.ref D) C (.ok .next) s'):
  wpAny (model X.prog X.w) X.A (newList []) (λf U=>wpAny (model X.prog X.w) X.A (newFunctionEnv scope X.env.globals (j4 scope X.env) [] X.env.qual none .none (some X.env)) (λο s₄=>
   codeAny (model X.prog X.w) X.A (.compStart (.ListComp elt [⟨target,iter,ifs,0⟩] scope pos) 0 (.ref it) f { ο with scope:=relabel scope X.env }) (RR f ο.locals) s₄) E U) E a:=by
 let⟨W,⟨m0,w0⟩,turn⟩:=h;refine wpAny_newObj_type (wpAny_newFunctionEnv δ (by intro y hy;simp at hy) (λβ L G=>?_) ε);dsimp only at L G ⊢;generalize τ:a.heap.push { cls:=.type "list",dict:=none,data:=.seq ([]:aL).toArray }=P2 at L G ⊢;have hC:P2.objs.size=⇑a+1:=by rw[<- τ,Heap.size_push]
 have κ:⇑a≠P2.objs.size:=by rw[hC];exact ne_of_lt (Nat.lt_succ_self _)
 have γ:⇑a<=P2.objs.size:=by rw[hC];exact Nat.le_succ _
 have Y:∀b,b<⇑a->b≠P2.objs.size/\b≠⇑a:=λb l=>⟨by rw[hC];exact ne_of_lt (lt_succ_of_lt l),ne_of_lt l⟩
 have old:∀b o,a.heap.get? b=some o->β.get? b=some o:=λb o e=>G.extBut b o (Y b (Heap.lt_size e)).1 (Heap.get?_push_of_some _ (τ ▸ Heap.get?_push_of_some _ e))
 have hacc:β.PlainList ⇑a #[]:=⟨_,G.extBut _ _ κ (Heap.get?_push_of_some _ (τ ▸ Heap.get?_push_size _ rfl))⟩
 have hfo:∀b∈fp,∃o,a.heap.get? b=some o:=λb l=>let ⟨o,e,_⟩:=T.obj 0 _ st2 b l;⟨o,e⟩
 have υ:⇑a ∉ fp:=λhm=>by let⟨o,e⟩:=hfo _ hm;exact absurd (Heap.lt_size e) (lt_irrefl _)
 have ok:=GJ (N:=N) (C:=P2.objs.size) I2 γ f2 hfo ε δ π;have st1:tn 0 β:=T.keep 0 _ _ st2 λb _ o e=>old b o e
 have J0:=OF (t':=a.toks+([]:List (Str×aj)).length) (ix:=ix) I2 ok γ old L hpk π;have pnD:∀p∈X.pn++aa,p.1≠⇑a:=λp hp=>(Y _ (Heap.lt_size (I2.pin p hp).1)).2
 have σ:∀x c,(j4 scope X.env).lookup x=some c->c≠⇑a:=λx c e=>by
  let⟨v,o,ho,_⟩:=I2.cell x c (mP e);exact (Y _ (Heap.lt_size ho)).2
 have θ:∀{pl:aV}{M:Hp},(∀b∈fp,M b=none)->(∀p∈pl,p.1=⇑a)->∀b∈fp,add (cQ X scope N P2.objs.size a O fp aa) pl M b:=λ{pl M} hn hp b l=>by
  refine⟨hn b l,(ok.mn b l).1,ok.gB b l,.inl l,(ok.mn b l).2,λp hm=>?_⟩;rcases mem_append.mp hm with z |z
  .exact (f2 b l).2.2.2.2.2 p z
  .rw[hp p z];intro q;rw[q] at υ;exact υ l
 have ρ:∀U:Shared,U={ a with heap:=β,toks:=a.toks+([]:List (Str×aj)).length }->
   codeAny (model X.prog X.w) X.A (.compLoop (.ListComp elt [⟨target,iter,ifs,0⟩] scope pos) 0 (.ref it) (.ref ⇑a) (compEnvC scope (j4 scope X.env) P2.objs.size X.env)) (RR (.ref ⇑a) P2.objs.size) U:=by
  rintro U rfl;refine S9 (λn s'=>∃i f I j' M,au (cQ X scope N P2.objs.size a O fp aa) [] j' M s'/\Wk (eV ix j) j'/\tn i s'.heap/\(∀b∈fp,M b=none)/\s'.heap.PlainList ⇑a (List.toArray I)/\aE f I/\M ⇑a=none/\W i n f M) ?_ m0
   ⟨0,[],[],_,O,J0,xB _,st1,λb l=>(f2 b l).1,hacc,.nil,I2.aN.fresh (le_refl _),w0⟩
  rintro n s3 ⟨i,f,I,j3,H3,I3,wk3,st3,ω,pl3,ν,χ,w3⟩;let⟨kk,g3⟩:=id pl3;have ψ:au (cQ X scope N P2.objs.size a O fp aa) [(⇑a,⟨.type "list",none,.seq (List.toArray I) kk,#[]⟩)] j3 H3 s3:=I3.eP λp hp=>by
   have e:=mem_singleton.mp hp;subst e;refine⟨g3,χ,κ,λz=>?_,λv q=>by cases q⟩;let⟨_,o,ho,_⟩:=(I2.stack).mem z;exact absurd (Heap.lt_size ho) (lt_irrefl _)
  have α:∀p∈[((⇑a,⟨.type "list",none,.seq (List.toArray I) kk,#[]⟩):af×Obj)],p.1=⇑a:=λp hp=>by
   rw[mem_singleton.mp hp]
  rcases turn i n f H3 w3 with⟨stop,hlen,fin⟩ |⟨go,NN,hNN,step⟩
  .refine wpAny_mono (T.done (cQ X scope N P2.objs.size a O fp aa) rfl rfl rfl hc i _ s3 j3 H3 _ ψ (θ ω α) st3 stop) (λr s4 h4=>?_) λ_ _ z=>z
   let⟨hr,I4⟩:=h4;subst hr;have g4:=(I4.pin (⇑a,_) (mem_append_right _ (mem_singleton.mpr rfl))).1;let⟨mm,hnm,_⟩:=I4.loc;have B:=K8 I2 I4 rfl f2 ⟨kk,g4⟩ ν hlen χ;refine hR _ _ s4 _ mm B hnm ?_ γ (fin _ χ);rw[ba (Ne.symm κ)];exact I4.free
  .refine wpAny_mono (T.item (cQ X scope N P2.objs.size a O fp aa) rfl rfl rfl hc i _ s3 j3 H3 _ ψ (θ ω α) st3 go) (λr s4 h4=>?_) λ_ _ z=>z
   let⟨u,hr,h4⟩:=h4;subst hr;refine wpAny_mono h4 (λ_ s5 h5=>?_) λ_ _ z=>z
   let⟨x,H5,I5,r5,y5,μ,fr5⟩:=h5;have I5w:=I5.weak wk3.length.symm (λi v e=>wk3.get e);have I5':=I5w.pinned (fp:=fp) (θ fr5 α) (T.obj _ _ μ);refine wpAny_mono (hg P2.objs.size a O fp aa _ s5 _ H5 x u _ I5' r5 (step x H5 y5)) (λ_ s6 h6=>?_) λ_ _ z=>z.elim
   let⟨j6,H6,I6,wk6,q6⟩:=h6;refine wpAny_mono (ht P2.objs.size a O fp aa _ s6 j6 H6 _ I6 q6) (λok s7 h7=>?_) λ_ _ z=>z.elim
   let⟨H7,I7,q7⟩:=h7;have η:∀{j8:St}{H8:Hp}{s8:ak},au (cQ X scope N P2.objs.size a O fp aa) ([((⇑a,⟨.type "list",none,.seq (List.toArray I) kk,#[]⟩):af×Obj)]++pJ fp s5.heap) j8 H8 s8->
     (∀b∈fp,∀o,s5.heap.get? b=some o->s8.heap.get? b=some o)/\(∀b∈fp,H8 b=none):=λ{j8 H8 s8} I8=>by
    refine⟨λb l o e=>(I8.pin (b,o) (mem_append_right _ (mem_append_right _ (tK l e)))).1,λb l=>?_⟩;let⟨o,e,d⟩:=T.obj _ _ μ b l;exact (I8.pin (b,o) (mem_append_right _ (mem_append_right _ (tK l e)))).2.1
   have ι:∀{j8:St}{H8:Hp}{s8:ak}{pl:aV},au (cQ X scope N P2.objs.size a O fp aa) pl j8 H8 s8->au (cQ X scope N P2.objs.size a O fp aa) [] j8 H8 s8:=λI8=>I8.eP λp hp=>by cases hp
   cases ok with
   |false=>
    simp only[Bool.false_eq_true,if_false] at q7 ⊢;let⟨m',hm,w7⟩:=hNN _ _ q7;have p7:=I7.pin (⇑a,_) (mem_append_right _ (List.mem_append_left _ (mem_singleton.mpr rfl)));let⟨k1,k2⟩:=η I7;exact⟨m',hm,i+1,f,I,j6,H7,ι I7,wk6,T.keep _ _ _ μ k1,k2,⟨kk,p7.1⟩,ν,p7.2.1,w7⟩
   |true=>
    simp only[if_true] at q7 ⊢;refine wpAny_mono (he P2.objs.size a O fp aa _ s7 j6 H7 _ I7 q7) (λy s8 h8=>?_) λ_ _ z=>z.elim
    ∎;let⟨v,H8,I8,r8,hlt,q8⟩:=h8;let⟨m',hm,w8⟩:=hNN _ _ q8;∎;have p8:=I8.pin (⇑a,_) (mem_append_right _ (List.mem_append_left _ (mem_singleton.mpr rfl)));let⟨k1,k2⟩:=η I8;have hl:=ν.length;refine wpAny_list_append_plain (items:=List.toArray I) (hsz:=by rw[size_toArray,<- hl];exact Nat.le_of_lt hlt) ⟨kk,p8.1⟩ λh₅ φ ζ=>?_
    have I9:au (cQ X scope N P2.objs.size a O fp aa) [] j6 H8 { s8 with heap:=h₅ }:=(ι I8).turned (t':=s8.toks) (it:=⇑a) (λb o l e=>ζ.extBut b o l e) p8.2.1 κ (.inr (le_refl _)) σ (λp hp=>by
     have hp':p∈X.pn++aa:=by simpa [cQ] using hp
     exact pnD p hp')
    refine⟨m',hm,i+1,f++[v],I++[y],j6,H8,I9,wk6,T.keep _ _ _ μ λb l o e=>ζ.extBut b o (λz=>υ (z ▸ l)) (k1 b l o e),k2,?_,ν.append (.cons r8 .nil),p8.2.1,w8⟩;have e:(I++[y]).toArray=I.toArray.push y:=by simp
    rw[e];exact φ
 exact codeAny_compStart_list (ρ _ rfl) (T.self X.A 0 _ _ _ st1 (ρ _ rfl))
theorem EN(hc:X.calm=true)(hi:PI X target iter wi)(hg:∀C s H fp pl,PG (cQ X scope N C s H fp pl) target g)(ht:∀C s H fp pl,nA (cQ X scope N C s H fp pl) ifs ti)(he:∀C s H fp pl,PE (cQ X scope N C s H fp pl) elt te)(z:bP X scope N ix)(a:do scope.kind=.function)(l: ~~~(∀y∈scope.names,y.2≠.cell))(f: ~~~(∀x∈scope.names,x.2=.local->scope.names.lookup x.1=some .local))(i:do jO scope X.env=true)(hs:∀x,foldedSetIterable iter X.env x=pure x:=by intro _;rfl):PE X (.ListComp elt [⟨target,iter,ifs,0⟩] scope pos) (pO wi g ti te ix):=by
 intro aa s j H Q I h;rw[eval_ListComp];refine wpAny_comprehension_free (use:=none) rfl hs (CB i) a f ?_;refine bj (hi aa s j H _ I h) λv s1 O=>bj O λα s2 U=>?_
 let⟨it,fp,tn,J,H2,e,n,T,G,M,h⟩:=U;subst e;refine Ek (RR:=λr C=>compPost (model X.prog X.w) X.A X.xe none (EP X aa j Q) r C) hc hg ht he a l i z n T G M h ?_;intro D C s' L m B hn u d q;refine⟨m,hn,λh' E=>⟨.ref D,L,B.turned (t':=s'.toks) (it:=C) (λb o Y e=>E.extBut b o Y e) u (Nat.ne_of_gt (lt_of_lt_of_le n.lt d)) (.inr (le_trans n.sz d)) (λx c e=>?_) (λp hp=>?_),rfl,q⟩⟩
 .obtain⟨v,o,ho,_⟩:=n.cell x c e;exact ne_of_lt (lt_of_lt_of_le (Heap.lt_size ho) d)
 .exact ne_of_lt (lt_of_lt_of_le (Heap.lt_size (n.pin p hp).1) d)
theorem Ut(hN:X.N.Nodup)(β:X.N[i]?=some y)(hy:Loc X.env.scope y)(hc:X.calm=true)(hi:PI X target iter wi)(hg:∀C s H fp pl,PG (cQ X scope N C s H fp pl) target g)(ht:∀C s H fp pl,nA (cQ X scope N C s H fp pl) ifs ti)(he:∀C s H fp pl,PE (cQ X scope N C s H fp pl) elt te)(M:bP X scope N ix)(α:swapsWith (.ListComp elt [⟨target,iter,ifs,0⟩] scope pos) (some (.Name y py)) spos.line X.env=pure true:=by with_unfolding_all rfl)(d:do scope.kind=.function)(r: ~~~(∀y∈scope.names,y.2≠.cell))(l: ~~~(∀x∈scope.names,x.2=.local->scope.names.lookup x.1=some .local))(n:do jO scope X.env=true)(hs:∀x,foldedSetIterable iter X.env x=pure x:=by intro _;rfl)(hf:jR X y:=by first |exact .inl rfl |exact .inr rfl |assumption):PS X (.Assign [.Name y py] (.ListComp elt [⟨target,iter,ifs,0⟩] scope pos) spos) (kR (pO wi g ti te ix) (jk i)):=by
 intro aa s j H D I h;rw[exec_Assign_Name_used _ _ _ _ α];refine wpAny_bind (wpAny_standAt (wpAny_bind ?_));show wpAny _ X.A (do let _ <- comprehension (.ListComp elt [⟨target,iter,ifs,0⟩] scope pos) scope X.env _ (newList []) false (eval iter X.env) (some (assign (.Name y py) X.env))) _ _ s;refine wpAny_bind (wpAny_mono (wpAny_comprehension_free (use:=some (assign (.Name y py) X.env)) (Q:=λ_ E=>SP X aa D .next E) rfl hs (CB n) d l ?_) (λ_ E hq=>wpAny_pure (wpAny_pure hq)) λ_ _ e=>e);refine bj (hi aa s j H _ I h) λv s1 h1=>bj h1 λδ s2 h2=>?_
 let⟨it,fp,tn,J,H2,e,u,T,γ,f2,h⟩:=h2;subst e;refine Ek (Q:=λx H1=>jk i x j H1 D.nx) (RR:=λG C=>compPost (model X.prog X.w) X.A X.xe (some (assign (.Name y py) X.env)) (λ_ E=>SP X aa D .next E) G C) hc hg ht he d r n M u T γ f2 h ?_;intro Dd C E H' m B hn L f q;show wpAny _ X.A (assign (.Name y py) X.env (.ref Dd)) _ _ _;have cC:∀x c,X.env.cells.lookup x=some c->c≠C:=λx c e=>by
  let⟨v,o,ho,_⟩:=u.cell x c e;exact ne_of_lt (lt_of_lt_of_le (Heap.lt_size ho) f)
 have lC:X.env.locals≠C:=ne_of_lt (lt_of_lt_of_le u.lt f);refine wpAny_assign_Name (y8 (v:=.ref Dd) B hN β hy rfl (λs4 I4 Y=>?_) hf);let⟨a,U,ha⟩:=Y;have nC:C≠a:=by
  rcases ha with z |z
  .rw[z];exact Ne.symm lC
  .exact Ne.symm (cC _ _ z)
 refine⟨m,hn.sameBut U nC,λh' O=>⟨_,H',I4.turned (t':=s4.toks) (it:=C) (λb o hb e=>O.extBut b o hb e) L (Ne.symm lC) (.inr (le_trans u.sz f)) cC (λp hp=>?_),q⟩⟩;exact ne_of_lt (lt_of_lt_of_le (Heap.lt_size (u.pin p hp).1) f)
end
section
variable{g:TG}{ti:TT}{te:TE}{ix:bG}{σ:St}{Q:VK}
def C7(J:It)(g:TG)(ti:TT)(te:TE)(ix:bG)(σ:St)(Q:VK)(l:Hp):Prop:=∃W:Nat->Nat->aw->Hp->Prop,(∃m,W 0 m [] l)/\∀i m a H,W i m a H->
 (J.stop i H/\a.length<=sizeLine/\∀p,H p=none->Q (.ref p) (aR H p (.ag a)))\/
 (J.go i H/\∃N:aw->Hp->Prop,(∀d f,N d f->∃j,j<m/\W (i+1) j d f)/\∀x f,J.kr i H x f->g x (eV ix σ) f λe n=>Wk (eV ix σ) e/\ti e n λb h=>if b=true then te e h λv o=>a.length<sizeLine/\N (a++[v]) o else N a h)
theorem Br(Pv:Nat->aw->Hp->Prop)(u:Pv 0 [] H1)(j:∀i a H,i<n->Pv i a H->J.go i H)(l:∀a H,Pv n a H->J.stop n H)(hs:∀i x a H h,i<n->Pv i a H->J.kr i H x h->g x (eV ix σ) h λf r=>Wk (eV ix σ) f/\ti f r λb o=>if b=true then te f o λv s=>a.length<sizeLine/\Pv (i+1) (a++[v]) s else Pv (i+1) a o)(hd:∀a H,Pv n a H->a.length<=sizeLine/\∀p,H p=none->Q (.ref p) (aR H p (.ag a))):C7 J g ti te ix σ Q H1:=by
 refine⟨λi m a H=>m=n - i/\i<=n/\Pv i a H,⟨n,by simp,zero_le _,u⟩,?_⟩;rintro i m a H ⟨rfl,z,p⟩;by_cases d:i<n
 .exact .inr ⟨j i a H d p,Pv (i+1),λq h w=>⟨n - (i+1),⋯,rfl,d,w⟩,λx h y=>hs i x a H h d p y⟩
 .have e:i=n:=⋯
  subst e;exact .inl ⟨l a H p,hd a H p⟩
end
section
variable{X:Cx}
def Fj:V->bK->bK->Hp->VK->Prop:=λx lo a H Q=>∃z,x=.str z/\z.length<=sizeLine/\Q (.str (Txt.slice z lo a)) H
theorem Hc:lN X Fj:=by
 intro aa s G H x v y A lo o w Q I r d p m h;∎;let⟨z,rfl,e,q⟩:=h;let⟨t,rfl⟩:=(show ∃t,v=Value.str z t from r);∎;refine⟨"str",_,F.slot_str_getitem.lookup,typeIs_str _ _ _,?_⟩;have a:∀(g:Tok)(k:Nat),EP X aa G Q (.str (Txt.slice z lo o) g) { s with toks:=k }:=λg k=>⟨.str _,H,I.tok k,⟨g,rfl⟩,q⟩
 cases p with
 |none=>
  cases m with
  |none=>exact wpAny_getItem_str_slice (l:=none) (u:=none) (st:=none) d rfl (post_val_or_str ⟨le_trans (Txt.slice_le z _ _) e,λb k=>a b k⟩)
  |int j f=>exact wpAny_getItem_str_slice (l:=none) (u:=some (j,f)) (st:=none) d rfl (post_val_or_str ⟨le_trans (Txt.slice_le z _ _) e,λb k=>a b k⟩)
 |int i n=>
  cases m with
  |none=>exact wpAny_getItem_str_slice (l:=some (i,n)) (u:=none) (st:=none) d rfl (post_val_or_str ⟨le_trans (Txt.slice_le z _ _) e,λb k=>a b k⟩)
  |int j f=>exact wpAny_getItem_str_slice (l:=some (i,n)) (u:=some (j,f)) (st:=none) d rfl (post_val_or_str ⟨le_trans (Txt.slice_le z _ _) e,λb k=>a b k⟩)
end
def uC(lo c:Int)(n:Nat):It:=⟨λi _=>i<n,λi H x a=>a=H/\x=.int (lo+i*c),λi _=>n<=i⟩
theorem NS{P:Program}{w:World}{K:PySem.W.Frag}{M:Expr}(it:af)(lo c:Int)(n:Nat):ke P w K M (uC lo c n) [it] it (λi h=>IsRangeIter h it (lo+(i:Nat)*c) ((n:Int) - (i:Nat)) c) where
 mem:=by simp
 obj:=λi h st b a=>by
  have e:b=it:=by simpa using a
  subst e;exact⟨_,st,λv z=>by
   have N:Data.fields _=Data.cell v:=z;cases N⟩
 keep:=λi h f st k=>k it (by simp) _ st
 item:=by
  intro X x B u y i aa s j H E I g st A;subst x B u;let⟨l,m,G,p,q,r⟩:=g it (by simp);have W:=Walks.range (prog:=X.prog) (w:=X.w) (I.ok.hd y) it lo c n;refine W.item i s _ _ A st λv f C J d L=>?_
  let⟨t,rfl⟩:=J;have D:au X aa j H { s with heap:=f,toks:=C }:=I.turned (λb o a e=>L b o (by simpa using a) e) l m p q r;exact⟨_,rfl,rJ (s:={ s with heap:=f,toks:=C }) (n:="range_iterator") d rfl rfl ∎ ⟨.int (lo+i*c),H,D,⟨t,rfl⟩,⟨rfl,rfl⟩,d,λb a=>(g b a).1⟩⟩
 done:=by
  intro X x B u y i aa s j H E I g st A;subst x B u;let⟨l,m,G,p,q,r⟩:=g it (by simp);exact wpAny_pyNext_range_end (I.ok.hd y) st (by have:n<=i:=A;omega) λf eb=>⟨rfl,I.turned (t':=s.toks) (λb o a e=>eb b o a e) l m p q r⟩
 self:=λ_ _ _ _ _ st h=>wpAny_pyIter_rangeiter st h
def Cn(_:af)(_:aU):Prop:=True
section
variable{M:Model}{A:Around}{E:aj->ak->Prop}{s:ak}{base:aU}{env:Env}{outer:cB}{L e:af}
theorem Mi{a a0:aj}{Q:Unit->ak->Prop}(fr:A.frames=some (env::outer))(d:s.heap.FunFrames base (env::outer))(f:env.frame=some L)(t:s.heap.TracedW base e a a0)(i:base.StaysIn s.heap)(b:base.get? e=none)(c:Cn e s.heap)(h:∀k,Heap.LeftW base (env::outer) e a a0 s.heap k->Cn e k->Q () { s with heap:=k }):wpAny M A (leaving env (.ref e)) Q E s:=
 wpAny_leaving_nextW fr d f t i b λk g=>h k g trivial
theorem AA{o:Obj}{vs:dm}{a0:aj}{Q:Unit->ak->Prop}(fr:A.frames=some (env::outer))(b:s.heap.FunFrames base (env::outer))(d:env.frame=some L)(he:s.heap.get? e=some o)(j:base.StaysIn s.heap)(a:base.get? e=none)(hd:o.data=.fields vs)(g:vs[1]?=some .none)(f:vs[0]?=some a0)(l:vs[2]?=some .none)(h:∀k,Heap.LeftW base (env::outer) e o.cls a0 s.heap k->Cn e k->Q () { s with heap:=k }):wpAny M A (leaving env (.ref e)) Q E s:=
 wpAny_leaving_firstW fr b d he j a hd g f λk i=>h k i trivial
end
def nI(d h:aU)(H:Hp)(x:af)(a:aj):Prop:=
 d.get? x=none/\H x=none/\∃f b vs T oT e,d.get? T=none/\H T=none/\h.get? x=some b/\b.cls=a/\vs[0]?=some f/\b.data=.fields vs/\vs[1]?=some (.ref T)/\T≠x/\h.get? T=some oT/\oT.data=.fields e/\e[3]?=some .none/\Cn x h
def fq(P:Program)(w:World):fD:=λouter H s E e b=>∃x a d,e=.ref x/\b.os=s.os/\AllBare b.gens/\Un (cz outer) [] H d s.heap b.heap/\dg P w d b.heap/\nI s.heap b.heap d x a/\E a none d
theorem a6.has(x:a6 P w H h a o):∃u,h.get? a=some u:=by
 cases o with
 |ag d=>let⟨_,_,_,_,e⟩:=x;exact⟨_,e⟩
 |aF d=>let⟨_,_,_,u,e,_⟩:=x;exact⟨_,e⟩
 |dK b=>let⟨_,_,_,_,u,_,_,e,_⟩:=x;exact⟨_,e⟩
 |dT b=>let⟨_,_,_,_,u,_,_,e,_⟩:=x;exact⟨_,e⟩
 |set S n=>let⟨u,_,_,_,e,_⟩:=x;exact⟨_,e⟩
 |ins C g fs=>let⟨_,_,_,e,_⟩:=x;exact⟨_,e⟩
 |own y=>exact x
 |xd fs=>let⟨_,⟨u,_,_,e,_⟩,_⟩:=x;exact⟨_,e⟩
 |jc lo i=>let⟨_,_,_,e⟩:=x;exact⟨_,e⟩
 |ay j u=>let⟨e,_⟩:=x;exact⟨_,e⟩
 |lK l=>exact⟨_,x⟩
 |met f y=>exact⟨_,x⟩
 |ext m=>exact x.2.1
theorem CY{P:Program}{w:World}{fs fr l bad:cA}{H a:Hp}{h i j:aU}(u:Un fs [] H a h i)(aN:dg P w a i)(M:∀b∈l,b∈bad\/b∈fr)(E:∀b∈bad,h.get? b=none/\a b=none)(m:∀b∈fr,(b∈fs\/h.get? b=none)/\a b=none/\∃o,i.get? b=some o/\∀vs,o.data≠.fields vs)(I:∀b∈fs,b∈fr)(k:(W.hideAll i l).StaysIn j)(sm:i.UpToSlots j):
  Un fs [] H a h j/\dg P w a j/\∀x s a0,j.TracedW (W.hideAll i l) x s a0->Cn x j->h.get? x=none->a x=none->nI h j a x s:=by
 have gt:∀b o,i.get? b=some o->b ∉ bad->b ∉ fr->j.get? b=some o:=λb o e Q U=>k b o (W.hideAll_get _ e λz=>(M b z).elim Q U)
 have N:∀b o,h.get? b=some o->b ∉ bad:=λb o e z=>by rw[(E b z).1] at e;cases e
 have slots:∀b o,b∈fr->i.get? b=some o->∃C,j.get? b=some { o with slots:=C }:=λb o g e=>by
  let⟨_,_,y,f,d⟩:=m b g;rw[e] at f;cases f;exact sm b o e d
 have tr:∀b u,a b=some u->b ∉ bad/\b ∉ fr:=λb u e=>⟨λz=>(by rw[(E b z).2] at e;cases e),λz=>(by rw[(m b z).2.1] at e;cases e)⟩
 refine⟨⟨λb o e n g p=>?_,λb o e n g p=>?_,λb o e n p=>u.free b o e n p,λb o e p=>?_,u.eZ,u.bp,u.eX⟩,λb v e=>?_,λx s a0 O G p D=>?_⟩
 .refine gt b o (u.keep b o e n g p) (N b o e) λz=>?_
  rcases (m b z).1 with q |q
  .exact g q
  .rw[e] at q;cases q
 .obtain⟨C,e1⟩:=u.slot b o e n g p;let⟨J,A⟩:=slots b _ (I b g) e1;exact⟨J,A⟩
 .obtain⟨y,e1⟩:=u.there b o e p;by_cases g:b∈fr
  .obtain⟨C,A⟩:=slots b y g e1;exact⟨_,A⟩
  .exact⟨y,gt b y e1 (N b o e) g⟩
 .refine (aN b v e).eL (λc o B q=>?_) (λ_ q=>q) λ_ _ q=>q
  rcases B with rfl |B
  .exact gt c o q (tr c v e).1 (tr c v e).2
  .exact gt c o q (tr c _ B).1 (tr c _ B).2
 .obtain⟨oe,vs,T,oT,ts,t1,⟨t2,t3⟩,t4,t5,t6,t7,t8,t9,t10⟩:=O;have L:h.get? T=none/\a T=none:=by
   cases q:i.get? T with
   |none=>
    refine⟨?_,?_⟩
    .cases r:h.get? T with
     |none=>rfl
     |some o=>let⟨y,f⟩:=u.there T o r (by simp);rw[q] at f;cases f
    .cases r:a T with
     |none=>rfl
     |some v=>let⟨y,f⟩:=(aN T v r).has;rw[q] at f;cases f
   |some o=>
    by_cases hm:T∈l
    .rcases M T hm with z |z
     .exact E T z
     .obtain⟨C,A⟩:=slots T o z q;let⟨_,_,y,f,d⟩:=m T z;rw[q] at f;cases f;rw[t8] at A;cases A;exact absurd t9 (d ts)
    .have:=W.hideAll_get _ q hm;rw[t6] at this;cases this
  exact⟨p,D,a0,oe,vs,T,oT,ts,L.1,L.2,t1,t2,t3,t4,t5,t7,t8,t9,t10,G⟩
theorem nI.jA{H:Hp}(f:nI h0 h H x cls):∃T a0,h0.get? T=none/\H T=none/\∀l:cA,T∈l->h.TracedW (W.hideAll h l) x cls a0:=by
 let⟨_,_,a0,e,vs,T,oT,s,g,i,j,m,n,o,p,q,r,a,b,_⟩:=f;exact⟨T,a0,g,i,λl d=>⟨e,vs,T,oT,s,j,⟨m,n⟩,o,p,W.hideAll_none _ d,q,r,a,b⟩⟩
theorem nI.cn{H:Hp}(f:nI h0 h H x cls):Cn x h:=by
 let⟨_,_,d,e,vs,T,oT,r,g,i,j,l,m,n,o,p,q,a,b,c⟩:=f;exact c
section
variable{X:Cx}{aa:aV}{σ:St}{H:Hp}{s:ak}
theorem sA:∀env∈l,∀a,env.frame=some a->a∈cz l:=λenv b a d=>mem_filterMap.mpr ⟨env,b,d⟩
theorem au.E5(I:au X aa σ H s):∀b∈cz X.stack,(b∈X.fs\/X.s₀.heap.get? b=none)/\H b=none/\∃o,s.heap.get? b=some o/\∀vs,o.data≠.fields vs:=λb a=>by
 refine⟨?_,I.fN b a,(I.stack.mem a).2⟩;rcases mem_cons.mp (I.eW b a) with e |e
 .exact .inr (by rw[e];exact Heap.get?_none_of_le I.ok.above)
 .exact .inl e
theorem yo{E:XK}{x:af}{a:aj}(hs:X.stack=X.env::X.outer)(n:X.env.frame=some X.env.locals)(i:X.ex=[])(I:au X aa σ H s){l bad:cA}{d:aU}(o:∀b∈l,b∈bad\/b∈cz X.stack)(g:∀b∈bad,X.s₀.heap.get? b=none/\H b=none)(k:(W.hideAll s.heap l).StaysIn d)(sm:s.heap.UpToSlots d){a0:aj}(ht:d.TracedW (W.hideAll s.heap l) x a a0)(h:Cn x d)(p:X.s₀.heap.get? x=none)(f:H x=none)(e:E a none H):fq X.prog X.w X.outer X.H₀ X.s₀ E (.ref x) { s with heap:=d }:=by
 have j:=I.base;rw[i] at j;let⟨u,ok,m⟩:=CY j I.aN o g I.E5 (λb g=>by rw[hs];unfold cz;rw[List.filterMap_cons,n];exact mem_cons_of_mem _ g) k sm;exact⟨x,a,H,rfl,I.os,I.bare,u,ok,m x a a0 ht h p f,e⟩
def n7(X:Cx)(E:XK):Prop:=X.xe=λe d=>wpAny (model X.prog X.w) X.A (leaving X.env e) (λ_ a=>fq X.prog X.w X.outer X.H₀ X.s₀ E e a) (λb a=>fq X.prog X.w X.outer X.H₀ X.s₀ E b a) d
theorem ND{E:XK}(hs:X.stack=X.env::X.outer)(h:X.env.frame=some X.env.locals)(g:X.ex=[])(n:n7 X E):me (fq X.prog X.w) X E:=by
 intro aa σ H s e r I C;let⟨x,v,u,rfl,os,bare,un,aN,d,y⟩:=C;have J:au X aa σ u r:=I.eA (ch:=[]) os un aN bare (λb z=>absurd z (by simp));have up:∀b,s.heap.get? b=none->X.s₀.heap.get? b=none:=λb z=>by
  cases q:X.s₀.heap.get? b with
  |none=>rfl
  |some o=>let⟨Q,p⟩:=I.base.there b o q (by rw[g];simp);rw[z] at p;cases p
 let⟨T,N,i,B,m⟩:=d.jA;rw[n];have l:∀env∈X.env::X.outer,∀a,env.frame=some a->a∈x::T::cz X.stack:=λenv D a h=>.tail _ (.tail _ (by rw[hs];exact sA env D a h))
 refine Mi (base:=W.hideAll r.heap (x::T::cz X.stack)) (by rw[J.ok.frames,hs]) (W.funFrames_hide (hs ▸ J.stack) l) h (m _ (.tail _ (.head _))) (λb o q=>W.of_hideAll _ q)
  (W.hideAll_none _ (.head _)) d.cn λO A j=>?_
 let⟨G,_,L,M⟩:=A;exact yo hs h g J (bad:=[x,T]) (λb f=>by
  rcases mem_cons.mp f with z |f
  .exact .inl (by rw[z];exact .head _)
  .rcases mem_cons.mp f with z |f
   .exact .inl (by rw[z];exact .tail _ (.head _))
   .exact .inr f) (λb f=>by
  rcases mem_cons.mp f with z |f
  .rw[z];exact⟨up _ d.1,d.2.1⟩
  .have z:b=T:=by simpa using f
   rw[z];exact⟨up _ i,B⟩) G M L j (up _ d.1) d.2.1 y
end
theorem SG{K:ao}{h:aU}{C:af}{a:aL}{newId:String}(X:K.In h)(q:W.excIn K C a newId=true):
  ∃bm N nm f bs hd sn sub ab col dd k0 k1 k2 k3 k5 mN,h.get? C=some (excClassObj nm f C N bs bm hd sn sub ab col dd k0 k1 k2 k3 k5 newId)/\h.Ns N mN/\mN "__init__"=none/\OwnTail h a bm:=by
 unfold W.excIn at q;split at q
 case h_2=>cases q
 case h_1 ddc cdc slc hlook=>
  split at q
  case h_2=>cases q
  case h_1 Cc bmc k0 k1 k2 k3 nn k5 hmro hslots=>
   simp only[and_eq_true,beq_iff_eq,Bool.not_eq_true'] at q;∎;let⟨⟨⟨⟨⟨i,j⟩,d⟩,l⟩,b⟩,e⟩:=q;let⟨nm,bs,m,ns,f,hd,sn,sub,ab,col,g⟩:=cdc;∎;dsimp only at hmro d b e;let⟨n⟩:=slc;simp only at hslots;subst i j d hmro hslots;exact⟨_,_,_,_,_,_,_,_,_,_,_,_,_,_,_,_,_,X _ _ hlook,.of_isNs (W.isNs_of_in X b),W.nsMap_none_of_in X b e,W.tail_of_in X l⟩
def BD(C:af)(E:XK)(b:TE):TS:=λ_ j H=>b j H λ_ a=>E (.ref C) none a
section
variable{X:Cx}
theorem QX{E:XK}{x:Str}{np g pos:Pos}{f:Expr}{te:TE}{C:af}{B newId i:String}{n:aL}(hs:X.stack=X.env::X.outer)(L:X.env.frame=some X.env.locals)(A:X.ex=[])(α:n7 X E)(m:X.calm=true)(hg:Gl X x)(hm:X.mg x=some (.ref C))(FB:ExcBaseFacts B newId i n)(hq:W.excIn X.K C n newId=true)(he:PE X f te)(Q: ~~~(dq x))(G:do du f [] X.env)(hpl:do fa g [] X.env):
  PS X (.Raise (some (.Call (.Name x np) [f] [] g)) none pos) (BD C E te):=by
 intro aa s j H D I h;let⟨bm,N,nm,qn,bs,hd,sn,sub,ab,col,dd,k0,k1,k2,k3,k5,mN,hC,hN,Y,T⟩:=SG I.ok.mod.kQ hq;refine wpAny_Raise_call_subT (C:=C) (nm:=nm) (q:=qn) (N:=N) (bs:=bs) (bm:=bm) (hdct:=hd) (sn:=sn) (sub:=sub) (ab:=ab) (col:=col) (dd:=dd) (k0:=k0) (k1:=k1) (k2:=k2) (k3:=k3) (k5:=k5)
  FB (mN:=mN) (T.hasType FB.hasBase) (I.ok.hd m) (by rw[G];show (false || (backTo g (starEach [] X.env)).any (·.1))=false;rw[hpl];rfl) Y (k4 I hg hm ⟨rfl,?_⟩ Q)
 rw[G];refine Calls.evalArgs_plain ?_;refine Calls.spliced_cons ?_;refine bj (he aa s j H _ I h) λu s1 β=>?_
 let⟨v,M,l,_,q1⟩:=β;refine Calls.spliced_nil ?_;refine⟨rfl,by show (1:Nat)<=sizeLine;decide,l.bk _ _ hC,hN.keeps l.bk,T.keeps l.bk,λh' e d=>?_⟩;let⟨t,ht,γ,δ⟩:=d.there;have J:au X aa j M { s1 with heap:=h' }:=l.eA (ch:=[]) rfl (Un.kept d.keeps) (l.aN.kept d.keeps) l.bare (λb z=>absurd z (by simp));have up:∀b,s1.heap.get? b=none->X.s₀.heap.get? b=none:=λb z=>by
  cases q:X.s₀.heap.get? b with
  |none=>rfl
  |some o=>let⟨o',p⟩:=l.base.there b o q (by rw[A];simp);rw[z] at p;cases p
 have w:M e=none:=by
  cases r:M e with
  |none=>rfl
  |some v=>let⟨o',p⟩:=(l.aN e v r).has;rw[d.new] at p;cases p
 rw[α];have U:∀env∈X.env::X.outer,∀a,env.frame=some a->a∈e::cz X.stack:=λenv he a L=>.tail _ (by rw[hs];exact sA env he a L)
 refine AA (base:=W.hideAll h' (e::cz X.stack)) (a0:=.ref t) (by rw[J.ok.frames,hs]) (W.funFrames_hide (hs ▸ J.stack) U) L ht (λb o q=>W.of_hideAll _ q)
  (W.hideAll_none _ (.head _)) rfl rfl rfl rfl λh2 hL O=>?_
 let⟨l1,_,l3,l4⟩:=hL;exact yo hs L A J (bad:=[e]) (λb y=>by
  rcases mem_cons.mp y with z |y
  .exact .inl (by rw[z];exact .head _)
  .exact .inr y) (λb y=>by
  have z:b=e:=by simpa using y
  rw[z];exact⟨up _ d.new,w⟩) l1 l4 l3 O (up _ d.new) w q1
end
section
variable{P:Program}{w:World}{K:ao}{mg:bx}{base:aU}
theorem gP.vG{x a:Str}{st:Stmt}{f:af}{h:FuncData}{N g:ah}{k:Nat}{sp:Sp}(F:gP K x a st f h)(S:bT N g (bE st))(len:∀vs H Q E,sp vs H Q E->vs.length=g.length)(b:∀(a7:aj)(A:Around)(outer:cB)(s:ak)(H:Hp)(vs:aw)(Q:VK)(E:XK),bu k (A.deeper (envOfC a (bE st) ⇑s f a7))->sp vs H Q E->
   ∃t,fy (i7 (fq P w) P w K mg base N a (bE st) f a7 A outer s H E) (jq st) t/\t { nx:=λ_ i=>Q .aM i,rt:=Q } (start N vs) H):aJ P w K mg base (fq P w) (k+1) f h g sp:=by
 let⟨oc,od,kV,doc,pm,an,a7,ct,osl,rfl,l,d⟩:=F.ex;exact DG l d S len λA outer s H vs Q E j e=>b a7 A outer s H vs Q E j e
end
section
variable{X:Cx}
def ja(CX:fD)(X:Cx)(j:St)(E:XK):Prop:=∀(aa:aV)(H:Hp)(s:ak)(e:aj)(a:ak),au X aa j H s->CX X.stack H s E e a->X.xe e a
def F7(sp:Sp)(a:aw)(R:St->XK)(t:TA):TE:=λj H Q=>t j H λvs b=>sp (vs++a) b Q (R j)
variable{CX:fD}{k:Nat}{f:af}{fd:FuncData}{ps:ah}{sp:Sp}{dvs:aw}{ds:aL}{x:Str}{p pos:Pos}{e:Expr}{es:bH}{t:TA}
theorem vt(F:aJ X.prog X.w X.K X.mg X.base CX k f fd ps sp)(g:bu k X.A)(b:Binds X.K fd ps ds)(hd:aE dvs ds)(i:ja CX X j E)(I:au X aa j H s)(r:aE vs us)(h:sp (vs++dvs) H Q E):wpAny (model X.prog X.w) X.A (call (.ref f) us) (EP X aa j Q) X.xe s:=by
 have r2:=r.append hd;have d:(us++ds).length=ps.length:=r2.length ▸ F.len _ _ _ _ h;refine wpAny_call (codeAny_mono (F.run X.A X.stack s H ⟨us,[]⟩ (us++ds) (vs++dvs) Q E g I.ku (b s us I.cL d) r2 h) λr l a=>?_)
 match r,a with
 |.error e,a=>exact i aa H s e l I a
 |.ok (.ret u),a=>exact I.after a
 |.ok .next,a=>exact a.elim
 |.ok .brk,a=>exact a.elim
 |.ok .cont,a=>exact a.elim
theorem Rb{R:St->XK}(F:aJ X.prog X.w X.K X.mg X.base CX k f fd ps sp)(n:bu k X.A)(l:Gl X x)(hm:X.mg x=some (.ref f))(m:W.keepIn X.K (.ref f)=true)(i:Binds X.K fd ps ds)(hd:aE dvs ds)(o:∀j,ja CX X j (R j))(g:PA X (e::es) t)(a: ~~~(dq x))(he:do du e es X.env)(hpl:do fa pos es X.env):PE X (.Call (.Name x p) (e::es) [] pos) (F7 sp dvs R t):=by
 intro aa s j H Q I h;refine wpAny_Call_Name_kw (k4 I l hm ?_ a);exact W.callWith_K (h₀:=X.base) I.ok.mod.kQ m (bj (g pos aa s j H _ I h) λus v b=>by let⟨vs,u,d,r,q⟩:=b;exact⟨d.cL,vt F n i hd (o j) d r q⟩) he hpl
abbrev Cx.cV(X:Cx)(pn:aV)(xe:aj->ak->Prop):Cx:={ X with pn:=pn,xe:=xe }
theorem Cx.Ok.cV(ok:X.Ok)(pn:aV)(xe:aj->ak->Prop):(X.cV pn xe).Ok:=
 ⟨ok.mod,ok.kind,ok.glob,ok.blt,ok.above,ok.inj,ok.has,ok.lJ,ok.hd,ok.frames,ok.l5,ok.mn,ok.bs,ok.jl,ok.gG,ok.gB,ok.dy,ok.ko⟩
theorem au.pH(I:au X aa j H s)(xe:aj->ak->Prop):au (X.cV (X.pn++aa) xe) [] j H s:=
 ⟨I.ok.cV _ xe,I.os,I.bare,I.base,I.loc,I.cell,I.free,I.bV,by rw[append_nil];exact I.pin,I.aN,I.len⟩
theorem au.iO(ok:X.Ok)(I:au (X.cV (X.pn++aa) xe) more j H s):au X aa j H s:=
 ⟨ok,I.os,I.bare,I.base,I.loc,I.cell,I.free,I.bV,λp a=>I.pin p (List.mem_append_left _ a),I.aN,I.len⟩
abbrev Cx.bS(X:Cx)(v:aj):Cx:={ X with A:=X.A.mark (some v),calm:=false,xe:=λ_ _=>False }
theorem au.bS(I:au X aa j H s)(v:aj):au (X.bS v) aa j H s:=
 ⟨⟨I.ok.mod,I.ok.kind,I.ok.glob,I.ok.blt,I.ok.above,I.ok.inj,I.ok.has,I.ok.lJ,λz=>Bool.noConfusion z,I.ok.frames,I.ok.l5,I.ok.mn,I.ok.bs,I.ok.jl,I.ok.gG,I.ok.gB,I.ok.dy,I.ok.ko⟩,
  I.os,I.bare,I.base,I.loc,I.cell,I.free,I.bV,I.pin,I.aN,I.len⟩
theorem au.hV(ok:X.Ok)(I:au (X.bS v) aa j H s):au X aa j H s:=
 ⟨ok,I.os,I.bare,I.base,I.loc,I.cell,I.free,I.bV,I.pin,I.aN,I.len⟩
theorem SP.imp(q:SP Y pins' D fl s)(h:∀j H,au Y pins' j H s->au X aa j H s):SP X aa D fl s:=by
 cases fl with
 |next=>let⟨b,a,I,q⟩:=q;exact⟨b,a,h _ _ I,q⟩
 |brk=>let⟨b,a,I,q⟩:=q;exact⟨b,a,h _ _ I,q⟩
 |cont=>let⟨b,a,I,q⟩:=q;exact⟨b,a,h _ _ I,q⟩
 |ret u=>let⟨v,b,a,I,r,q⟩:=q;exact⟨v,b,a,h _ _ I,r,q⟩
def Eb(K:ao)(C:af)(b:TS)(D:iq):St->XK:=λj a _ H=>W.exmOne K a (.ref C)=some true/\b D j H
def Cf(K:ao)(C:af)(tb:(St->XK)->TS)(a:TS):TS:=λD j H=>tb (Eb K C a D) D j H
theorem KH{tb:(St->XK)->TS}(hs:X.stack=X.env::X.outer)(hf:X.env.frame=some X.env.locals)(hg:Gl X x)(hm:X.mg x=some (.ref C))(d:∀(pn:aV)(xe:aj->ak->Prop)(R:St->XK),(∀j,ja (fq X.prog X.w) (X.cV pn xe) j (R j))->fy (X.cV pn xe) body (tb R))(hh:∀v:Value,fy (X.bS v) (g::suite) th)(ε: ~~~(dq x)):
  PS X (.Try body [.ExceptHandler (some (.Name x np)) none (g::suite) hpos] [] [] pos) (Cf X.K C tb th):=by
 intro aa s j H D I h;refine wpAny_Try_except ?_;have G:∀n,ja (fq X.prog X.w) (X.cV (X.pn++aa) λe O=>wpAny (model X.prog X.w) X.A (noteFrame e X.env) (λ_ Q=>wpAny (model X.prog X.w) X.A (setFlight e none)
   (λ_ U=>wpAny (model X.prog X.w) X.A (handleBy e X.env [.ExceptHandler (some (.Name x np)) none (g::suite) hpos]) (SP X aa D) X.xe U) X.xe Q) X.xe O) n (Eb X.K C th D n):=by
  intro n μ H1 s1 e r I1 hc;let⟨y,α,H2,rfl,os,bare,un,aN,l,E,ι⟩:=hc;have J1:au X aa n H1 s1:=au.iO I.ok I1;have J2:au X aa n H2 r:=J1.eA (ch:=[]) os un aN bare (λb z=>absurd z (by simp));let⟨T,a0,δ,hT,κ⟩:=l.jA;have ζ:∀env∈X.env::X.outer,∀a,env.frame=some a->a∈y::T::cz X.stack:=λenv he a hf=>.tail _ (.tail _ (by rw[hs];exact sA env he a hf))
  have β:Heap.FlyingW (W.hideAll r.heap (y::T::cz X.stack)) (X.env::X.outer) y α a0 r.heap:=
   ⟨λb o q=>W.of_hideAll _ q,W.hideAll_none _ (.head _),W.funFrames_hide (hs ▸ J2.stack) ζ,κ _ (.tail _ (.head _))⟩
  have after:∀B:Heap,(W.hideAll r.heap (y::T::cz X.stack)).StaysIn B->r.heap.UpToSlots B->au X aa n H2 { r with heap:=B }:=λB k sm=>by
   let⟨u,ok,_⟩:=CY (fs:=cz X.stack) (fr:=cz X.stack) (bad:=[y,T]) un aN (λb d=>by
    rcases mem_cons.mp d with z |d
    .exact .inl (by rw[z];exact .head _)
    .rcases mem_cons.mp d with z |d
     .exact .inl (by rw[z];exact .tail _ (.head _))
     .exact .inr d) (λb d=>by
    rcases mem_cons.mp d with z |d
    .rw[z];exact⟨l.1,l.2.1⟩
    .have z:b=T:=by simpa using d
     rw[z];exact⟨δ,hT⟩) (λb d=>⟨.inl d,(J2.E5 b d).2⟩) (λ_ d=>d) k sm
   exact J1.eA (s':={ r with heap:=B }) (ch:=[]) os u ok bare (λb z=>absurd z (by simp))
  refine wpAny_looks_onW (by rw[I.ok.frames,hs]) hf β λh4 m L=>?_
  refine wpAny_landsW m λh5 i N=>?_
  have J5:=after h5 i.1 (L.trans N);refine wpAny_handleBy_cons (codeAny_handlers_test ?_) (by intro q;cases q);have M5:=J5.bS (.ref y);refine k4 (X:=X.bS (.ref y)) M5 hg hm ?_ ε;let⟨ob,η,θ⟩:=i.there;subst θ;refine (W.exm_one (M:=model X.prog X.w) J5.cL ((W.Looks.ld η).andThen .now) E).here ?_;refine codeAny_handlers_suite (lands_againW i λh6 γ ν=>?_);have J6:=(after h6 γ.1 ((L.trans N).trans ν)).bS (.ref y);exact wpAny_mono (hh (.ref y) aa _ n H2 D J6 ι) (λfl s7 q=>q.imp λj H J=>au.hV I.ok J) λ_ _ z=>z.elim
 refine wpAny_mono (d _ _ _ G [] s j H D (I.pH _) h) (λfl s1 q=>?_) λ_ _ z=>z
 have Y:SP X aa D fl s1:=q.imp λj H J=>au.iO I.ok J
 cases fl with
 |next=>exact wpAny_execs_nil Y
 |brk=>exact Y
 |cont=>exact Y
 |ret u=>exact Y
end
end L2
namespace L2
open PySem PySem.Spec PyProof.Rows PySem.W Builtin Builtin.ObjectAttr Builtin.Getset_descriptor
def LB(x C:af)(h:aU):Prop:=∃o,h.get? x=some o/\o.cls=.ref C
def wb(x C:af):HO:=.ext λh=>LB x C h/\Cn x h
end L2
namespace L2
open PySem PySem.Spec PyProof.Rows
theorem KY:me (fq P w) X E0:=λ_ _ _ _ _ _ _ a=>by let⟨_,_,_,_,_,_,_,_,_,h⟩:=a;exact h.elim
end L2
namespace Vc
open PySem L2 Sf
theorem Le.exc(e:Le F F')(h:Rd F a (wb a B)):Rd F' a (wb a B):=e _ _ (by intro o w z;cases z) h
end Vc
namespace L2
open PySem PySem.Spec PyProof.Rows
def tH(K:ao)(a:af):It:=
 ⟨λi H=>∃b x,bC K H a b/\b[i]?=some x,λi H y d=>∃p x,y=.ref p/\H p=none/\(∀b,bC K H a b->b[i]?=some x)/\d=aR H p (.aF [.int i,x]),λi H=>∃b,bC K H a b/\b.length<=i⟩
theorem au.iB{s:ak}(I:au X aa j H s)(k:∀c o,c≠a->c≠b->s.heap.get? c=some o->h'.get? c=some o)(y:add X aa H a)(A:add X aa H b)(D:∃o,h'.get? a=some o)(eb:∃o,h'.get? b=some o):au X aa j H { s with heap:=h',toks:=t' }:=by
 ∎;let⟨g,i,B,l,m,p⟩:=y;let⟨h,r,C,v,w,x⟩:=A;∎;refine I.eA (s':={ s with heap:=h',toks:=t' }) (ch:=[a,b]) rfl ⟨λc o e _ _ f=>?_,λc o e _ _ f=>⟨o.slots,?_⟩,λ_ _ _ n _=>n,λc o e f=>⟨o,?_⟩,λ_ _ q=>q,λ_ _ _ q=>q,λ_ E q=>⟨#[],by rw[q];simp⟩⟩ (λc u e=>?_) I.bare (λc f=>?_)
 .exact k c o (λz=>f (by simp[z])) (λz=>f (by simp[z])) e
 .exact k c o (λz=>f (by simp[z])) (λz=>f (by simp[z])) e
 .exact k c o (λz=>f (by simp[z])) (λz=>f (by simp[z])) e
 .refine (I.aN c u e).eL (λd o hd q=>k d o ?_ ?_ q) (λ_ q=>q) λ_ _ q=>q
  .rintro rfl;rcases hd with z |z
   .rw[<- z,g] at e;cases e
   .rw[g] at z;cases z
  .rintro rfl;rcases hd with z |z
   .rw[<- z,h] at e;cases e
   .rw[h] at z;cases z
 .rcases mem_cons.mp f with z |f
  .rw[z];exact⟨l,i,m,p⟩
  .have z:c=b:=by simpa using f
   rw[z];exact⟨v,r,w,x⟩
theorem Ta{P:Program}{w:World}{K:ao}{elts:bH}{x1:Nat}{pos:Pos}(a it n:af)(y:n≠it):
  ke P w K (.Tuple elts x1 pos) (tH K a) [n,it] n (λi h=>(∃g,IsEnum h n it i g)/\h.IsListIter it a i) where
 mem:=by simp
 obj:=λi h st b l=>by
  let⟨⟨g,O⟩,o,Q,c,d⟩:=st;rcases mem_cons.mp l with z |l
  .rw[z];exact⟨_,O,λv z=>by cases z⟩
  .have z:b=it:=by simpa using l
   rw[z];exact⟨o,Q,λv z=>by rw[d] at z;cases z⟩
 keep:=λi h h' st k=>by
  let⟨⟨g,O⟩,Q⟩:=st;exact⟨⟨g,k n (by simp) _ O⟩,Q.at λo e=>k it (by simp) o e⟩
 item:=by
  intro X Y hw U hc i aa s j H E I M st hg;subst Y hw U;∎;let⟨⟨g,A⟩,r⟩:=st;let⟨xs,x,m,hx⟩:=hg;let⟨δ,rv,p,hz⟩:=I.list m;let⟨u,hu,ru⟩:=rv.get hx;∎;have fe:=M n (by simp);have fi:=M it (by simp);refine wpAny_pyNext_enum_item A r p.isList (x:=u) (by simpa using hu) y λh' G C hT ε hk=>?_
  refine⟨.ref ⇑s,rfl,wpAny_letOwnedTupleGo_enum G λh2 B hs=>?_⟩;have le:n<⇑s:=Heap.lt_size A;have li:it<⇑s:=let ⟨o,e,_⟩:=r;Heap.lt_size e;have β:H ⇑s=none:=I.aN.fresh (le_refl _);have J:n≠⇑s:=ne_of_lt le;have L:it≠⇑s:=ne_of_lt li;have I1:=I.laid (a:=⇑s) (o:=.aF [.int i,x]) (h':=s.heap.push { cls:=.type "tuple",data:=.seq #[.int i s.toks,u] }) (t':=s.toks) (λb q m=>Heap.get?_push_of_some _ m) (le_refl _)
   ⟨by show 2<=sizeLine;decide,[.int i s.toks,u],.cons ⟨_,rfl⟩ (.cons ru .nil),⟨_,Heap.get?_push_size _ rfl,rfl,_,rfl⟩⟩
  have up:∀{b:af},b≠⇑s->add X aa H b->add X aa (aR H ⇑s (.aF [.int i,x])) b:=λl f=>⟨by rw[ba l];exact f.1,f.2⟩
  have γ:∀b q,b≠n->b≠it->(s.heap.push { cls:=.type "tuple",data:=.seq #[.int i s.toks,u] }).get? b=some q->h2.get? b=some q:=λb q h1 h3 m=>by
   refine hs.extBut b q h1 ?_;rcases Heap.get?_push_cases m with⟨α,eq⟩ |m
   .subst α;subst eq;exact hT
   .exact hk b q h1 h3 m
  let⟨N,ei,ci,di⟩:=C;have D:h2.IsListIter it a (i+1):=⟨N,hs.extBut it N (Ne.symm y) ei,ci,di⟩;refine⟨.ref ⇑s,aR H ⇑s (.aF [.int i,x]),?_,rfl,⟨_,x,rfl,β,λys hy=>by rw[I.da hy m];exact hx,rfl⟩,⟨⟨_,B⟩,D⟩,λb l=>?_⟩
  .exact au.iB (s:={ s with heap:=s.heap.push { cls:=.type "tuple",data:=.seq #[.int i s.toks,u] },toks:=s.toks }) (t':=s.toks+1) I1 γ (up J fe) (up L fi) ⟨_,B⟩ ⟨N,hs.extBut it N (Ne.symm y) ei⟩
  .rcases mem_cons.mp l with z |l
   .rw[z,ba J];exact fe.1
   .have z:b=it:=by simpa using l
    rw[z,ba L];exact fi.1
 done:=by
  intro X Y hw U hc i aa s j H E I M st hg;subst Y hw U;∎;let⟨⟨g,A⟩,r⟩:=st;let⟨xs,m,hx⟩:=hg;let⟨δ,rv,p,hz⟩:=I.list m;∎;have hl:=rv.length;let⟨f0,f1,f2,f3,f4,f5⟩:=M it (by simp);exact wpAny_pyNext_enum_end (I.ok.hd hc) A r p.isList (by simp;omega) λh' eb=>⟨rfl,I.turned (t':=s.toks) (λb o l e=>eb b o l e) f0 f1 f3 f4 f5⟩
 self:=λ_ _ _ _ _ st h=>let ⟨⟨_,A⟩,_⟩:=st;wpAny_pyIter_enum A h
section
variable{X:Cx}
def EA(K:ao)(d:TA):TI:=λj H R=>d j H λvs b=>∃a,vs=[.ref a]/\(∃e,bC K b a e)/\R (tH K a) b
theorem Oj{l:Expr}{v:TA}{elts:bH}{x1:Nat}{g p pos:Pos}(y:Gl X "enumerate")(hm:X.mg "enumerate"=none)(x:PA X [l] v)(hs:do ki l X.env):
  PI X (.Tuple elts x1 g) (.Call (.Name "enumerate" p) [l] [] pos) (EA X.K v):=by
 intro aa s j H R I h;refine Call_ (jh I y hm (u:=.type "enumerate") rfl (PyProof.Rows.callWith_type1 (bj (x pos aa s j H _ I h) λus d n=>?_) hs rfl));let⟨vs,w,f,E,a,e,⟨N,B⟩,q⟩:=n;subst e;cases E with
 |cons r G=>
  cases G;cases r;let⟨D,M,p,L⟩:=f.list B;refine call_enumerate_list p.isList λJ o m C A=>wpAny_pyIter_enum o ?_
  have ne:⇑d+1≠⇑d:=⋯
  refine⟨⇑d+1,[⇑d+1,⇑d],_,_,w,rfl,f.kept (t':=d.toks) A,Ta a _ _ ne,⟨⟨_,o⟩,m⟩,λb i=>?_,q⟩;rcases mem_cons.mp i with z |i
  .rw[z];exact f.fj ⋯ (f.aN.fresh ⋯)
  .have z:b=⇑d:=by simpa using i
   rw[z];exact f.fj (le_refl _) (f.aN.fresh (le_refl _))
end
def xr(b:aS×V->V)(a:af)(ob:Obj)(kvs:bI):It:=
 ⟨λi H=>i<kvs.length/\H a=some (.ay ob (.dK kvs)),λi H x e=>e=H/\∃d,kvs[i]?=some d/\x=b d,λi H=>kvs.length<=i/\H a=some (.ay ob (.dK kvs))⟩
abbrev sO:aS×V->V:=λkv=>kV kv.1
theorem FU{H:Hp}(I:au X aa j H s)(o:H a=some (.ay ob (.dK kvs)))(hd:ob.data=.dict es ep):
  ∃vs,KV kvs vs/\s.heap.DictAt (eB X.prog X.w) a vs ep/\kvs.length=vs.length:=by
 let⟨e,z,y,vs,r,p,n,m,b,f,d,g,h,i⟩:=(show a6 X.prog X.w H s.heap a (.ay ob (.dK kvs)) from I.aN a _ o);have l:ob=p:=Option.some.inj (e.symm.trans b);subst l;rw[hd] at d;cases d;exact⟨vs,r,⟨ob,es,e,f,hd,g,h,i⟩,KV.length r⟩
theorem IU{P:Program}{w:World}{K:ao}{tg:Expr}(a it:af)(ob:Obj)(kvs:bI):
  ke P w K tg (xr sO a ob kvs) [it] it (λi h=>∃l ep,ob.data=.dict l ep/\h.IsKeyIter it a i kvs.length ep) where
 mem:=by simp
 obj:=λi h st b m=>by
  let⟨l,ep,hd,o,e,c,d⟩:=st;rw[show b=it from by simpa using m];exact⟨o,e,λv z=>by rw[d] at z;cases z⟩
 keep:=λi h x st k=>by
  let⟨l,ep,hd,o,e,c,d⟩:=st;exact⟨l,ep,hd,o,k it (by simp) o e,c,d⟩
 item:=by
  intro X N Q M Y i aa s j H E I y st O;subst N Q M;∎;let⟨l,ep,hd,f⟩:=st;let⟨hi,L⟩:=O;let⟨vs,r,hm,A⟩:=FU I L hd;∎;obtain⟨⟨k,v⟩,p⟩:∃q,kvs[i]?=some q:=⟨kvs[i],by simp[hi]⟩;let⟨u,hu,ru⟩:=r.at p;rw[A] at f;let⟨B,C,f2,D,G,J⟩:=y it (by simp);refine wpAny_pyNext_dict_item f hm hu λU x n g sb=>?_
  have I1:au X aa j H { s with heap:=x }:=I.turned (t':=s.toks) (λb o m e=>(sb.2 b m).trans e) B C D G J;let⟨o,e,c,d⟩:=id g;refine⟨U,rfl,rJ (s:={ s with heap:=x }) e c d ∎ ⟨kV k,H,I1,xb n,⟨rfl,_,p,rfl⟩,⟨l,ep,hd,by rw[A];exact g⟩,λb m=>(y b m).1⟩⟩
 done:=by
  intro X N Q M Y i aa s j H E I y st O;subst N Q M;∎;let⟨l,ep,hd,f⟩:=st;let⟨hi,L⟩:=O;let⟨vs,r,hm,A⟩:=FU I L hd;∎;rw[A] at f;let⟨B,C,f2,D,G,J⟩:=y it (by simp);exact wpAny_pyNext_dict_end (I.ok.hd Y) f hm (by simp;omega) λx eb=>⟨rfl,I.turned (t':=s.toks) (λb o m e=>eb b o m e) B C D G J⟩
 self:=λ_ _ _ _ _ st h=>let ⟨_,_,_,f⟩:=st;wpAny_pyIter_keyiter f h
section
variable{X:Cx}
def wh(d:aS×V->V)(X:Cx)(g:TE):TI:=λj H R=>g j H λx e=>∃a b,x=.ref a/\e a=some (.dK b)/\∀f,(∀o u,X.H₀ a≠some (.ay o u))->R (xr d a f b) (aR e a (.ay f (.dK b)))
theorem MA(J:PE X o td):PI X tg o (wh sO X td):=by
 intro aa s j H R I h;refine bj (J aa s j H _ I h) λv i w=>?_
 let⟨x,B,g,M,a,d,ex,l,q⟩:=w;subst ex;obtain rfl:v=Value.ref a:=M;∎;let⟨N,O,hd⟩:=rh g (.inl ⟨d,.inl l⟩);let⟨z,y,vs,r,dd⟩:=si g.aN l;∎;have n:∀o u,X.H₀ a≠some (.ay o u):=λo u z=>by
  have:=g.base.bp a o u z;rw[l] at this;cases this
 let⟨A,f⟩:=dd.dictAt;refine wpAny_pyIter_dict hd f ?_;let⟨m,p,C⟩:=(g.kept (t':=i.toks) (h':=i.heap.push { cls:=.type "dict_keyiterator",data:=.fields #[.ref a,.int 0 0,.int vs.length 0,.int A 0] }) λb o e=>Heap.get?_push_of_some _ e).freeze l;have L:a<⇑i:=f.lt_size;have G:d.length=vs.length:=KV.length r;refine⟨_,[_],_,_,aR B a (.ay m (.dK d)),rfl,C,IU a ⇑i m d,?_,λb E=>?_,q m n⟩
 .obtain⟨o2,es,ho2,c1,c2,_⟩:=f;have D:m=o2:=Option.some.inj (p.symm.trans (Heap.get?_push_of_some _ ho2));subst D;exact⟨es,A,c2,by rw[G];exact⟨_,Heap.get?_push_size _ rfl,rfl,rfl⟩⟩
 .have e:b=⇑i:=by simpa using E
  subst e;exact g.fj (le_refl _) (by rw[ba (Nat.ne_of_gt L)];exact g.aN.fresh (le_refl _))
def vv(X:Cx)(t:TE):TE:=λj H Q=>t j H λv=>nJ X (Q v)
theorem Ll(h:PE X e t):PE X e (vv X t):=by
 intro aa s j H Q I q;refine bj (h aa s j H _ I q) λu m b=>?_
 let⟨v,i,d,g,a,l,f,e,hn,r⟩:=b;exact⟨v,_,d.fx e hn,g,r⟩
end
section
variable{g:TG}{ti:TT}{te:TE}{ix:bG}{σ:St}{Q:VK}
theorem Lw{h:aS×V->V}(Pv:Nat->aw->Hp->Prop)(r:Pv 0 [] H1)(m:∀i d H,i<=kvs.length->Pv i d H->H a=some (.ay ob (.dK kvs)))(hs:∀i k v d H,kvs[i]?=some (k,v)->Pv i d H->g (h (k,v)) (eV ix σ) H λf o=>Wk (eV ix σ) f/\ti f o λb l=>if b=true then te f l λv q=>d.length<sizeLine/\Pv (i+1) (d++[v]) q else Pv (i+1) d l)(hd:∀d H,Pv kvs.length d H->d.length<=sizeLine/\∀p,H p=none->Q (.ref p) (aR H p (.ag d))):C7 (xr h a ob kvs) g ti te ix σ Q H1:=by
 refine Br (n:=kvs.length) Pv r (λi d H j p=>⟨j,m i d H (Nat.le_of_lt j) p⟩) (λd H p=>⟨le_refl _,m _ d H (le_refl _) p⟩) (λi x d H s j p y=>?_) hd;let⟨rfl,⟨k,v⟩,e,rfl⟩:=y;exact hs i k v d _ e p
end
theorem au.iH{X:Cx}{aa:aV}{j:St}{H:Hp}{s:ak}{h':aU}{t':Nat}{ch:cA}(I:au X aa j H s)(k:∀c o,c ∉ ch->s.heap.get? c=some o->h'.get? c=some o)(g:∀b∈ch,add X aa H b):au X aa j H { s with heap:=h',toks:=t' }:=by
 refine I.eA (s':={ s with heap:=h',toks:=t' }) (ch:=ch) rfl ⟨λc o e _ _ a=>k c o a e,λc o e _ _ a=>⟨o.slots,k c o a e⟩,λ_ _ _ n _=>n,λc o e a=>⟨o,k c o a e⟩,λ_ _ q=>q,λ_ _ _ q=>q,λ_ h q=>⟨#[],by rw[q];simp⟩⟩ (λc u e=>?_) I.bare (λc a=>?_)
 .refine (I.aN c u e).eL (λd o hd q=>k d o (λhm=>?_) q) (λ_ q=>q) λ_ _ q=>q
  have f:=(g d hm).1;rcases hd with z |z
  .rw[<- z,f] at e;cases e
  .rw[f] at z;cases z
 .obtain⟨a0,a1,a2,a3,a4,a5⟩:=g c a;exact⟨a3,a1,a4,a5⟩
def tM(K:ao)(a b:af):It:=
 ⟨λi H=>∃d e x y,bC K H a d/\bC K H b e/\d[i]?=some x/\e[i]?=some y,
  λi H v f=>∃p x y,v=.ref p/\H p=none/\(∀d,bC K H a d->d[i]?=some x)/\(∀e,bC K H b e->e[i]?=some y)/\f=aR H p (.aF [x,y]),
  λi H=>∃d e,bC K H a d/\bC K H b e/\(d.length<=i\/e.length<=i)⟩
theorem Pk{P:Program}{w:World}{K:ao}{elts:bH}{x1:Nat}{pos:Pos}{a b z TI TO l m:af}(D:ZipApart z TI TO l m a b):
  ke P w K (.Tuple elts x1 pos) (tM K a b) [z,TI,TO,l,m] z (λi h=>IsZip h z TI TO .none/\IsPair h TI (.ref l) (.ref m)/\(∃c d,IsPair h TO c d)/\h.IsListIter l a i/\h.IsListIter m b i) where
 mem:=by simp
 obj:=λi h st c f=>by
  let⟨B,r,⟨u,v,C⟩,⟨o4,G,c4,d4⟩,⟨o5,J,c5,d5⟩⟩:=st;simp only[mem_cons,List.not_mem_nil,or_false] at f;rcases f with rfl |rfl |rfl |rfl |rfl
  .exact⟨_,B,λv z=>by cases z⟩
  .exact⟨_,r,λv z=>by cases z⟩
  .exact⟨_,C,λv z=>by cases z⟩
  .exact⟨o4,G,λv z=>by rw[d4] at z;cases z⟩
  .exact⟨o5,J,λv z=>by rw[d5] at z;cases z⟩
 keep:=λi h h' st k=>by
  let⟨B,r,⟨u,v,C⟩,G,J⟩:=st;exact⟨k z (by simp) _ B,k TI (by simp) _ r,⟨u,v,k TO (by simp) _ C⟩,G.at λo e=>k l (by simp) o e,J.at λo e=>k m (by simp) o e⟩
 item:=by
  intro X hP hw hK f i aa s j H E I O st hg;subst hP hw hK;∎;let⟨B,r,⟨c,d,C⟩,G,J⟩:=st;let⟨xs,ys,x,y,n,A,hx,hy⟩:=hg;let⟨ι,rv,p,hz⟩:=I.list n;let⟨U,L,p',η⟩:=I.list A;let⟨u,hu,ru⟩:=rv.get hx;let⟨M,ε,κ⟩:=L.get hy;∎;refine wpAny_pyNext_zip_item D B r C G J p.isList p'.isList (x:=u) (y:=M) (by simpa using hu) (by simpa using ε) λh' g1 g2 g3 g4 hT μ Y=>?_
  refine⟨.ref ⇑s,rfl,wpAny_letOwnedTupleGo_zip g1 λN θ Q=>?_⟩;have β:H ⇑s=none:=I.aN.fresh (le_refl _);have lt:∀{c o},s.heap.get? c=some o->c≠⇑s:=λe=>ne_of_lt (Heap.lt_size e)
  have ne:∀c∈[z,TI,TO,l,m],c≠⇑s:=λc f=>by
   simp only[mem_cons,List.not_mem_nil,or_false] at f;rcases f with rfl |rfl |rfl |rfl |rfl
   .exact lt B
   .exact lt r
   .exact lt C
   .obtain⟨o,e,_⟩:=G;exact lt e
   .obtain⟨o,e,_⟩:=J;exact lt e
  have I1:=I.laid (a:=⇑s) (o:=.aF [x,y]) (h':=s.heap.push { cls:=.type "tuple",data:=.seq #[u,M] }) (t':=s.toks) (λb q n=>Heap.get?_push_of_some _ n) (le_refl _)
   ⟨by show 2<=sizeLine;decide,[u,M],.cons ru (.cons κ .nil),⟨_,Heap.get?_push_size _ rfl,rfl,_,rfl⟩⟩
  have γ:∀c q,c ∉ [z,TI,TO,l,m]->(s.heap.push { cls:=.type "tuple",data:=.seq #[u,M] }).get? c=some q->N.get? c=some q:=λc q f n=>by
   refine Q.extBut c q (λg=>f (by simp[g])) ?_;rcases Heap.get?_push_cases n with⟨α,eq⟩ |n
   .subst α;subst eq;exact hT
   .exact Y c q (λg=>f (by simp[g])) (λg=>f (by simp[g])) (λg=>f (by simp[g])) (λg=>f (by simp[g])) n
  have t2:IsPair N TI (.ref l) (.ref m):=Q.extBut TI _ D.TIz (Y TI _ D.TIz D.TITO D.TIi1 D.TIi2 r);have t3:IsPair N TO u M:=Q.extBut TO _ D.TOz g2;have t4:N.IsListIter l a (i+1):=g3.at λo e=>Q.extBut l o D.i1z e
  have t5:N.IsListIter m b (i+1):=g4.at λo e=>Q.extBut m o D.i2z e
  refine⟨.ref ⇑s,aR H ⇑s (.aF [x,y]),?_,rfl,⟨_,x,y,rfl,β,λys hy=>by rw[I.da hy n];exact hx,λys ζ=>by rw[I.da ζ A];exact hy,rfl⟩,⟨θ,t2,⟨_,_,t3⟩,t4,t5⟩,λc f=>?_⟩
  .exact au.iH (s:={ s with heap:=s.heap.push { cls:=.type "tuple",data:=.seq #[u,M] },toks:=s.toks }) (t':=s.toks) I1 γ λc f=>⟨by rw[ba (ne c f)];exact (O c f).1,(O c f).2⟩
  .rw[ba (ne c f)];exact (O c f).1
 done:=by
  intro X hP hw hK f i aa s j H E I O st hg;subst hP hw hK;∎;let⟨B,r,⟨c,d,C⟩,G,J⟩:=st;let⟨xs,ys,n,A,δ⟩:=hg;let⟨ι,rv,p,hz⟩:=I.list n;let⟨U,L,p',η⟩:=I.list A;∎;have l1:=rv.length;have l2:=L.length;refine wpAny_pyNext_zip_end (I.ok.hd f) D B r C G J p.isList p'.isList (δ.imp (λh=>by simp;omega) λh=>by simp;omega) λh' Y=>⟨rfl,I.iH (t':=s.toks) (ch:=[z,TI,TO,l,m]) (λc o f e=>?_) O⟩
  exact Y c o (λg=>f (by simp[g])) (λg=>f (by simp[g])) (λg=>f (by simp[g])) (λg=>f (by simp[g])) e
 self:=λ_ _ _ _ _ st h=>wpAny_pyIter_zip st.1 h
section
variable{X:Cx}
def Ej(K:ao)(e:TA):TI:=λj H R=>e j H λvs d=>∃a b,vs=[.ref a,.ref b]/\(∃f,bC K d a f)/\(∃g,bC K d b g)/\R (tM K a b) d
theorem Tf{l m:Expr}{D:TA}{elts:bH}{x1:Nat}{i p pos:Pos}(Q:Gl X "zip")(hm:X.mg "zip"=none)(O:PA X [l,m] D)(hs:do oO l m X.env)(g:do ki m X.env):PI X (.Tuple elts x1 i) (.Call (.Name "zip" p) [l,m] [] pos) (Ej X.K D):=by
 intro aa s j H R I h;refine Call_ (jh I Q hm (u:=.type "zip") rfl (PyProof.Rows.callWith_type1 (bj (O pos aa s j H _ I h) λus d v=>?_) (by rw[hs,g]) (by rw[g];rfl)));let⟨vs,G,f,r1,a,b,e,⟨xs,Y⟩,⟨ys,n⟩,q⟩:=v;subst e;cases r1 with
 |cons r o=>
  cases o with
  |cons r' o=>
   cases o;cases r;cases r';∎;let⟨γ,rv,p,hz⟩:=f.list Y;let⟨B,δ,C,β⟩:=f.list n;∎;have la:a<⇑d:=let ⟨_,e,_⟩:=p.isList;Heap.lt_size e;have lb:b<⇑d:=let ⟨_,e,_⟩:=C.isList;Heap.lt_size e;refine call_zip_2 p.isList C.isList λh' w J L M N α U=>wpAny_pyIter_zip w ?_
   have E:ZipApart (⇑d+4) (⇑d+2) (⇑d+3) ⇑d (⇑d+1) a b:=by
    have lt:∀{x y:Nat},x<y->x≠y:=λh=>ne_of_lt h
    have gt:∀{x y:Nat},y<x->x≠y:=λh=>Nat.ne_of_gt h
    constructor<;>first |exact lt ⋯ |exact gt ⋯ |exact lt (lt_of_lt_of_le la ⋯) |exact lt (lt_of_lt_of_le lb ⋯)
   refine⟨⇑d+4,[⇑d+4,⇑d+2,⇑d+3,⇑d,⇑d+1],_,_,G,rfl,f.kept (t':=d.toks) U,Pk E,⟨w,J,⟨_,_,L⟩,M,N⟩,λc A=>?_,q⟩;have z:⇑d<=c:=by
    simp only[mem_cons,List.not_mem_nil,or_false] at A;rcases A with rfl |rfl |rfl |rfl |rfl
    .exact Nat.le_add_right _ _
    .exact Nat.le_add_right _ _
    .exact Nat.le_add_right _ _
    .exact le_refl _
    .exact Nat.le_add_right _ _
   exact f.fj z (f.aN.fresh z)
end
end L2
namespace Vc
open PySem L2 Sf
section
variable{X:Cx}{aa:aV}{σ:St}{H:Hp}{s:ak}{Au:Around}
theorem Kv(I:au X aa σ H s)(d:bC X.K H a xs)(f:bC X.K H b ys)(q:Au.units<cLine)(G:xs.length=ys.length)(e:Nat->Bool)(he:∀(j:Nat) x y u v,xs[j]?=some x->ys[j]?=some y->aD x u->aD y v->SeqAt.EqAt Au.in1 s u v (e j)):SeqAt.RcNeAt Au s (.ref a) (.ref b) (!(List.range xs.length).all e):=by
 ∎;let⟨us,g,C,_⟩:=I.list d;let⟨E,r2,D,_⟩:=I.list f;∎;have r:=g.length;have J:=r2.length;have z:=SeqAt.RcNeAt.lists (A:=Au) (e:=e) C.isList D.isList (by simp;omega) q (λj d f=>?_)
 .have e0:(List.range us.toArray.size).all e=(List.range xs.length).all e:=by
   simp only[size_toArray];rw[<- r]
  rw[e0] at z;exact z
 .simp only[size_toArray] at d f;∎;let⟨u,h,w⟩:=g.get (i:=j) (x:=xs[j]'⋯) (by simp);let⟨v,l,B⟩:=r2.get (i:=j) (x:=ys[j]'⋯) (by simp);let⟨_,m⟩:=List.getElem?_eq_some_iff.mp h;let⟨_,n⟩:=List.getElem?_eq_some_iff.mp l;∎;have o:us.toArray[j]'(by simpa using d)=u:=by simpa using m
  have p:E.toArray[j]'(by simpa using f)=v:=by simpa using n
  rw[o,p];exact he j _ _ u v (by simp) (by simp) w B
end
theorem ER{H:Hp}(h:H p=some (.ag xs)):vF K "list" (.ref p) H:=by
 exact .inl ⟨rfl,xs,bC.of h⟩
end Vc
namespace L2
open PySem PySem.Spec PyProof.Rows
def Cm:R2:=λx y H Q=>∃z n,x=.str z/\y=.int n/\z.length<=100/\0<=n/\n<=1000/\Q (.str (Txt.mul z n)) H
theorem N5:b4 X (binaryOp .Mult) Cm:=by
 intro aa s j H x y v u Q I b d h;∎;let⟨z,n,rfl,rfl,a,f,g,q⟩:=h;let⟨t,rfl⟩:=b;let⟨e,rfl⟩:=d;∎;exact SB.mul (mulOk_of 100 1000 a ⋯ ⋯ ∎ ∎) λe k=>⟨.str _,H,I.tok _,⟨_,rfl⟩,q⟩
section
variable{X:Cx}
theorem UY{kvs:bI}{vs:List (aS×aj)}{us:aL}(r:KV kvs vs)(a:us.length=kvs.length)(h:∀(j:Nat) u,us[j]?=some u->∃k,vs[j]?=some (k,u)):aE (kvs.map (·.2)) us:=by
 induction kvs generalizing vs us with
 |nil=>cases us with
  |nil=>exact .nil
  |cons _ _=>simp at a
 |cons p t l=>
  cases us with
  |nil=>simp at a
  |cons u us=>
   unfold KV at r;cases r with
   |cons b g=>
    rename_i q n;let⟨k,e⟩:=h 0 u rfl;have f:q=(k,u):=by simpa using e
    refine .cons (by rw[f] at b;exact b.2) (l (vs:=n) g (by simpa using a) λj w i=>?_);let⟨m,d⟩:=h (j+1) w (by simpa using i);exact⟨m,by simpa using d⟩
end
end L2
namespace Vc
open PySem L2 Sf
theorem iM(h:cF m x=some y):(x,y)∈m:=by
 induction m with
 |nil=>cases h
 |cons p r a=>
  by_cases e:p.1=x
  .rw[n0 e] at h;cases h;subst e;exact mem_cons_self ..
  .rw[Ki e] at h;exact mem_cons_of_mem _ (a h)
theorem eT{j:Type}{m:List (Str×j)}{x:Str}{y:j}(h:∀p∈m,p.1≠x):m6 m x y=m++[(x,y)]:=by
 unfold m6;rw[if_neg];intro z;rw[any_eq_true] at z;let⟨p,a,e⟩:=z;exact h p a (by simpa using e)
def r4(K:ao){j i G g:Type}(A:Rep j)(B:Rep i)(C:Rep G)(D:Rep g):Rep (j×i×G×g):=λF v x=>∃a b d e f,v=.ref a/\cU K F a [b,d,e,f]/\A F b x.1/\B F d x.2.1/\C F e x.2.2.1/\D F f x.2.2.2
end Vc
namespace L2
open PySem PySem.Spec PyProof.Rows
section
variable{X:Cx}
theorem NT:b4 X (compareOp .Gt) (λx y H Q=>∃i j,x=.str i/\y=.str j/\Q (.bl (decide (j.cps.toList<i.cps.toList))) H):=by
 intro aa s G H x y v u Q I a b h;∎;let⟨i,j,rfl,rfl,q⟩:=h;let⟨t,rfl⟩:=a;let⟨d,rfl⟩:=b;∎;exact PySem.P.gt_str (cJ I q rfl)
end
section
variable{prog:Program}{w:World}{A:Around}{E:aj->ak->Prop}{s:ak}
theorem Oh:typeLookup (.type "list_reverseiterator") "__len__"=pure none:=by rw[typeLookup_type,builtinLookup_eq_fast];kernel_rfl
theorem NJ:typeLookup (.type "list_reverseiterator") "__length_hint__"=pure (some (.builtin "list_reverseiterator.__length_hint__")):=by rw[typeLookup_type,builtinLookup_eq_fast];kernel_rfl
theorem Wd{Q:Bool->ak->Prop}(a:s.TypeIs (.ref r) "list_reverseiterator")(h:Q false s):wpAny (model prog w) A (Builtin.List.listLengthHint (.ref r)) Q E s:=by
 unfold Builtin.List.listLengthHint;refine wpAny_bind (wpAny_specialOf a Oh ?_);show wpAny _ A (specialOf (Value.ref r) (Str.ofString "__length_hint__") >>= _) _ _ _;refine wpAny_bind (wpAny_specialOf a NJ ?_);generalize xN:("list_reverseiterator.__length_hint__":String)=i0
 wp_delta
 rw[show splitId i0=some ("list_reverseiterator","__length_hint__") from by subst xN;decide +kernel];subst xN;refine wpAny_bind (wpAny_isInstance (T:="list_reverseiterator") (b:=true) a (by rw[isSubtype_type];kernel_rfl) ?_);refine wpAny_ite_split (λz=>absurd z ∎) (λ_=>?_);refine wpAny_ite_split (λ_=>?_) (λz=>absurd (by decide +kernel) z);refine wpAny_ite_split (λz=>absurd z (by decide +kernel)) (λ_=>?_);exact wpAny_pure h
theorem Ss{St:Nat->aU->Prop}{R:Result->ak->Prop}(W:Walks prog w A.in1 I fp [I] n P St)(N:I∈fp)(H:∀i (s:ak),St i s.heap->s.TypeIs (.ref I) T)(n1:(Value.type T == Value.type "list")=false)(n2:(Value.type T == Value.type "tuple")=false)(Y:∀(s:ak)(Q:Bool->ak->Prop)(E:aj->ak->Prop),s.TypeIs (.ref I) T->Q false s->wpAny (model prog w) A.in1 (Builtin.List.listLengthHint (.ref I)) Q E s)(a:St 0 s.heap)(S:af)(j:S ∉ fp)(g:aj)(D:Nat)(v:s.heap.get? S=some { cls:=.type "list",data:=.seq #[] D })(O:∀h' q d c,(∀b o,b≠S->b≠I->s.heap.get? b=some o->h'.get? b=some o)->h'.get? S=some { cls:=.type "list",dict:=none,data:=.seq d c,slots:=#[] }->ItemsOf P d n->R (.ok (.ret g)) { s with heap:=h',toks:=q })(hn:n<=sizeLine):
  wpAny (model prog w) A.in1 (Builtin.List.listExtendWith (.ref S) (.ref I) g)
   (λu s'=>match u with |.done f=>R (.ok f) s' |.again C=>C.quiet=true/\codeAny (model prog w) A C R s') (λe s'=>R (.error e) s') s:=by
 have B:S≠I:=λz=>j (z ▸ N)
 have m:∀(h:aU)(r q:Nat),St 0 h->(∀b o,b≠S->s.heap.get? b=some o->h.get? b=some o)->h.get? S=some { cls:=.type "list",data:=.seq #[] r }->
   codeAny (model prog w) A (.builtin "list.extend.loop" ⟨[.ref S,.ref I,g],[]⟩) R { s with heap:=h,toks:=q }:=by
  intro h r q st hk x;refine codeAny_extend_loopS W.toS hn S j g n 0 _ #[] r rfl (zero_le _) st x (ItemsOf.nil _) λs' d c J y l=>?_
  rw[Moved.eq_with J];exact O s'.heap s'.toks d c (λb o G M e=>J.heap b o (λz=>by
   rcases mem_cons.mp z with z |z
   .exact G z
   .exact M (mem_singleton.mp z)) (hk b o G e)) y l
 unfold Builtin.List.listExtendWith;refine wpAny_bind (wpAny_typeOf (H 0 s a) ?_);simp only[show Builtin.List.listSameRef (.ref S) (.ref I)=false by simp[Builtin.List.listSameRef,B],n1,n2,Bool.or_false,Bool.false_eq_true,if_false];refine wpAny_bind (W.self 0 s _ _ a (wpAny_bind (wpAny_holding (Y s _ _ (H 0 s a) ?_))));refine wpAny_ite_split (λ_=>?_) (λ_=>wpAny_pure ⟨plainId_quiet PySem.F.plain_extend_loop _,m _ D _ a (λb o _ e=>e) v⟩);refine wpAny_bind (wpAny_rule (wpAny_bind ?_));show wpAny _ _ (updateSeq S (·.push .none) >>= λ_=>updateSeq S (·.pop)) _ _ s;refine wpAny_bind (wpAny_updateSeq v rfl ?_);have L:=Heap.get?_update_self (Obj.mapSeq (·.push Value.none)) v rfl;refine wpAny_updateSeq (hz:=by seq_fits) L rfl ?_;have q2:=Heap.get?_update_self (Obj.mapSeq (·.pop)) L rfl;have p:∀b o,b≠S->s.heap.get? b=some o->((s.heap.update S (Obj.mapSeq (·.push Value.none))).update S (Obj.mapSeq (·.pop))).get? b=some o:=λb o z e=>(Heap.get?_update_other _ _ z.symm).trans ((Heap.get?_update_other _ _ z.symm).trans e)
 exact wpAny_pure ⟨plainId_quiet PySem.F.plain_extend_loop _,m _ _ _ (W.frame 0 _ _ a λb U o e=>p b o (λz=>j (z ▸ U)) e) p q2⟩
theorem Se{St:Nat->aU->Prop}{Q:aj->ak->Prop}(W:Walks prog w A.in1.in1 I fp [I] n P St)(u:I∈fp)(p:∀b∈fp,b<⇑s)(x:∀i (s:ak),St i s.heap->s.TypeIs (.ref I) T)(D:(Value.type T == Value.type "list")=false)(G:(Value.type T == Value.type "tuple")=false)(B:∀(s:ak)(Q:Bool->ak->Prop)(E:aj->ak->Prop),s.TypeIs (.ref I) T->Q false s->wpAny (model prog w) A.in1.in1 (Builtin.List.listLengthHint (.ref I)) Q E s)(q:St 0 s.heap)(hn:n<=sizeLine)(v:∀h' r a c,(∀b o,b≠I->s.heap.get? b=some o->h'.get? b=some o)->h'.get? ⇑s=some { cls:=.type "list",dict:=none,data:=.seq a c,slots:=#[] }->ItemsOf P a n->Q (.ref ⇑s) { s with heap:=h',toks:=r }):
  wpAny (model prog w) A (call (.type "list") [.ref I]) Q E s:=by
 refine callType_codes (Q₁:=λo d=>o=.ref ⇑s/\d={ s with heap:=s.heap.push { cls:=.type "list",data:=.seq #[] } }) PySem.F.called_list (PySem.F.typeCall_list_1 _) PySem.F.entry_list_init (code_list_new _ ⟨rfl,rfl⟩) λo d h=>?_
 let⟨rfl,rfl⟩:=h;have l:(s.heap.push { cls:=.type "list",data:=.seq #[] }).get? ⇑s=some { cls:=.type "list",data:=.seq #[] }:=Heap.get?_push_size _ rfl;have g:⇑s ∉ fp:=λz=>lt_irrefl _ (p _ z)
 refine⟨⟨_,l,rfl⟩,PySem.F.args_list_init_2 _ _,?_⟩;show wpAny _ _ (do let old <- Builtin.List.listItems (.ref ⇑s);Builtin.List.listUpdate (.ref ⇑s) (λ_=>#[]);letGo old.toList.reverse;Builtin.List.listExtendWith (.ref ⇑s) (.ref I) .none) _ _ _;refine wpAny_bind ?_;unfold Builtin.List.listItems;refine wpAny_bind (wpAny_seqItems l rfl (wpAny_pure ?_));show wpAny _ _ (updateSeq ⇑s (λ_=>#[]) >>= λ_=>letGo (#[]:dm).toList.reverse >>= λ_=>Builtin.List.listExtendWith (.ref ⇑s) (.ref I) .none) _ _ _;refine wpAny_bind (wpAny_updateSeq l rfl ?_);have H:=Heap.get?_update_self (Obj.mapSeq (λ_=>(#[]:dm))) l rfl;have j:∀b o,b≠⇑s->s.heap.get? b=some o->((s.heap.push { cls:=.type "list",data:=.seq #[] }).update ⇑s (Obj.mapSeq (λ_=>(#[]:dm)))).get? b=some o:=
  λb o z e=>(Heap.get?_update_other _ _ z.symm).trans (Heap.get?_push_of_some _ e)
 refine wpAny_bind (wpAny_letGo ?_);refine Ss (A:=A.in1) W u x D G B (W.frame 0 _ _ q λb y o e=>j b o (λz=>g (z ▸ y)) e) _ g .none _ H (λh' r a c C m f=>?_) hn;exact⟨rfl,v h' r a c (λb o z e=>C b o (ne_of_lt (Heap.lt_size e)) z (j b o (ne_of_lt (Heap.lt_size e)) e)) m f⟩
end
theorem Ou(h:aE xs us)(g:aE ys vs):aE (xs++ys) (us++vs):=by
 induction h with
 |nil=>exact g
 |cons a _ b=>exact .cons a b
theorem TZ(h:aE xs us):aE xs.reverse us.reverse:=by
 induction h with
 |nil=>exact .nil
 |cons a _ b=>rw[List.reverse_cons,List.reverse_cons];exact Ou b (.cons a .nil)
section
variable{X:Cx}
def EC(K:ao)(e:TA):TE:=λj H Q=>e j H λvs b=>∃a d,vs=[.ref a]/\bC K b a d/\∀p,b p=none->Q (.ref p) (aR b p (.ag d.reverse))
theorem RJ(hc:X.calm=true)(hg:Gl X "list")(hm:X.mg "list"=none)(B:Gl X "reversed")(E:X.mg "reversed"=none)(ha:PA X [l] ta)(G:do ki l X.env)(hs:do starEach [.Call (.Name "reversed" p2) [l] [] pos2] X.env=[(false,eval (.Call (.Name "reversed" p2) [l] [] pos2) X.env)]):
  PE X (.Call (.Name "list" p) [.Call (.Name "reversed" p2) [l] [] pos2] [] pos) (EC X.K ta):=by
 intro aa s i H Q I h;refine wpAny_Call_Name_kw (jh I hg hm (u:=.type "list") rfl ?_);refine PyProof.Rows.callWith_type1 ?_ hs rfl;rw[hs];show wpAny _ _ (spliced ((false,eval (.Call (.Name "reversed" p2) [l] [] pos2) X.env)::backTo pos [])) _ _ s;refine Calls.spliced_cons ?_;refine Call_ (jh I B E (u:=.type "reversed") rfl (PyProof.Rows.callWith_type1 (bj (ha pos2 aa s i H _ I h) λus m L=>?_) G rfl));let⟨vs,O,x,r1,a,xs,e,hq,q⟩:=L;subst e;cases r1 with
 |cons r rr=>
  cases rr;cases r;let⟨d,N,J,hz⟩:=x.list hq;have hl:=N.length;refine call_reversed_list J.isList ?_;refine Calls.spliced_nil ?_;have M:a<⇑m:=let ⟨o,ho,_⟩:=J.isList;Heap.lt_size ho;have W:=Walks.listRev (prog:=X.prog) (w:=X.w) (A:=X.A.in1.in1) (show X.A.in1.in1.handled=none from I.ok.hd hc) ⇑m a (ne_of_lt M) d.toArray;have I2:au X aa i O { m with heap:=m.heap.push (revObj a ((d.toArray.size:Int) - 1)) }:=x.kept (t':=m.toks) λb o e=>Heap.get?_push_of_some _ e
  have hI:(m.heap.push (revObj a ((d.toArray.size:Int) - 1))).IsRevIter ⇑m a ((d.toArray.size:Int) - 1 - ((0:Nat):Int)):=by
   refine⟨_,Heap.get?_push_size _ rfl,rfl,?_⟩;rw[show (d.toArray.size:Int) - 1 - ((0:Nat):Int)=(d.toArray.size:Int) - 1 by omega];rfl
  have f:=x.fj (le_refl _) (x.aN.fresh (le_refl ⇑m));refine Se (s:={ m with heap:=m.heap.push (revObj a ((d.toArray.size:Int) - 1)) }) W (by simp) (λb hb=>?_) (λ_ _ z=>z.2.1.typeIs) ∎ ∎ (λ_ _ _ t h=>Wd t h) ⟨zero_le _,hI,J.isList.at λo e=>Heap.get?_push_of_some _ e⟩ (by simp;omega) λh' tk n c hk hS g=>?_
  .show b<(m.heap.push _).objs.size;rw[Heap.size_push];rcases mem_cons.mp hb with z |z
   .rw[z];exact Nat.lt_succ_self _
   .rw[mem_singleton.mp z];exact lt_succ_of_lt M
  .have z1:(m.heap.push (revObj a ((d.toArray.size:Int) - 1))).objs.size=⇑m+1:=Heap.size_push ..;have D:∀b o,m.heap.get? b=some o->h'.get? b=some o:=λb o e=>hk b o (ne_of_lt (Heap.lt_size e)) (Heap.get?_push_of_some _ e)
   have U:n.toList=d.reverse:=by
    refine ext_getElem? λj=>?_
    rcases Nat.lt_or_ge j n.size with C |C
    .obtain⟨v,hv⟩:∃v,n[j]?=some v:=⟨n[j],by simp[C]⟩;have Y:=g.2 j v hv;have y:=g.1;rw[getElem?_toList,hv,List.getElem?_reverse (by simp at y;omega),<- Y];simp
    .have y:=g.1;rw[getElem?_eq_none (by simpa using C),getElem?_eq_none (by simp at y ⊢;omega)]
   refine⟨.ref _,_,x.laid (a:=(m.heap.push (revObj a ((d.toArray.size:Int) - 1))).objs.size) (o:=.ag xs.reverse) (h':=h') (t':=tk) D (by rw[z1];omega) ⟨by rw[List.length_reverse];exact hz,d.reverse,c,TZ N,by rw[<- U,Array.toArray_toList];exact hS⟩,rfl,q _ (by rw[z1];exact x.aN.fresh ⋯)⟩
end
end L2
namespace Vc
open PySem L2
theorem VT{Fb Hb F H e f:Hp}{S:af->Prop}(i:Gr0 Fb Hb F H)(u:H a=some (.dK kvs))(s:F a=none\/F a=some (.dK kvs))(j:Gr0 (fz Fb a (.ay ob (.dK kvs))) (fz Hb a (.ay ob (.dK kvs))) e f)(v:e a=fz F a (.ay ob (.dK kvs)) a)(h:Fz (λb=>b=a\/S b) e):
  ∃d:Hp,Gr0 Fb Hb d (aR f a (.dK kvs))/\Fz S d/\Le e d/\d a=F a/\(aR f a (.dK kvs)) a=some (.dK kvs)/\(∀b,b≠a->d b=e b)/\∀b,b≠a->(aR f a (.dK kvs)) b=f b:=
 Qu (R:=λU=>∃d:Hp,Gr0 Fb Hb d U/\Fz S d/\Le e d/\d a=F a/\U a=some (.dK kvs)/\(∀b,b≠a->d b=e b)/\∀b,b≠a->U b=f b) i u s j v h λg w l m n o p q r=>⟨g,l,m,n,o,p,q,r⟩
end Vc
namespace L2
open PySem PySem.Spec PyProof.Rows
section
variable{X:Cx}
def AI(K:ao):R2:=λx y H Q=>∃l b a d,x=.ref l/\y=.ref b/\bC K H l a/\bC K H b d/\a.length+d.length<=sizeLine/\∀p,H p=none->Q (.ref p) (aR H p (.ag (a++d)))
theorem JS:b4 X (binaryOp .Add) (AI X.K):=by
 intro aa s j H x y v u Q I D E h;let⟨l,b,Y,zs,rfl,rfl,C,B,L,q⟩:=h;cases D;cases E;∎;let⟨d,r,p1,z1⟩:=I.list C;let⟨a,r2,p2,z2⟩:=I.list B;∎;have M:=r.length;have N:=r2.length;∎;let⟨⟨G,z,O,i⟩,w,p,n,hd⟩:=p1.isList;let⟨⟨J,A,U,o⟩,g,e,m,f⟩:=p2.isList;∎;simp only at p hd e f;subst p hd e f;refine concat_meets ⟨_,w,rfl⟩ ⟨_,g,rfl⟩ noFill_list_add seq_list_add PySem.F.slot_list_add PySem.F.entry_list_add (PySem.F.args_list_add_2 _ _) (list_addW l b d.toArray a.toArray n m z A i o (by simp;omega)) ⟨w,g,?_⟩;rw[show d.toArray++a.toArray=(d++a).toArray by simp];exact⟨.ref _,_,I.qk (t':=s.toks) (r.append r2) (by rw[length_append];omega),rfl,q _ I.fresh⟩
theorem Kc:bL X (.type "int") (λxs H Q=>∃b,xs=[.bl b]/\Q (.int (if b=true then 1 else 0)) H):=by
 intro aa s j H xs us Q I r h;∎;let⟨b,rfl,q⟩:=h;let⟨u,rfl,a⟩:=jg r;∎;cases a;exact call_int_bool ⟨.int _,H,I.tok _,⟨_,rfl⟩,q⟩
end
end L2
namespace Vc
open PySem L2
def xN(a b:af)(H:Hp):Hp:=λx=>if x=a\/x=b then none else H x
end Vc
namespace Vc
open PySem L2 Sf
def cP(l:cA)(H:Hp):Hp:=λx=>if x∈l then none else H x
theorem nS{H:Hp}(a:x ∉ l)(h:H x=some o):cP l H x=some o:=by unfold cP;rw[if_neg a];exact h
theorem RC(h:x∈l):cP l H x=none:=if_pos h
theorem G9{H:Hp}(h:cP l H x=some o):x ∉ l/\H x=some o:=by
 unfold cP at h;by_cases z:x∈l
 .rw[if_pos z] at h;cases h
 .rw[if_neg z] at h;exact⟨z,h⟩
theorem xu(a:aB F H):Gr0 F (cP l H) F H:=⟨λ_ _ e=>(G9 e).2,aB.refl _,a,λx u h e=>by rw[h] at e;cases e⟩
theorem NA{Hb:Hp}(h:Hb a=none):∀x∈[a],Hb x=none:=λx z=>by rw[mem_singleton.mp z];exact h
theorem jT{Hb:Hp}(h:Hb a=none)(g:Hb b=none):∀x∈[a,b],Hb x=none:=λx z=>(mem_cons.mp z).elim (λe=>by rw[e];exact h) (NA g x)
theorem Fc{Hb:Hp}(h:Hb a=none)(g:Hb b=none)(f:Hb c=none):∀x∈[a,b,c],Hb x=none:=λx z=>(mem_cons.mp z).elim (λe=>by rw[e];exact h) (jT g f x)
end Vc
namespace L2
open PySem PySem.Spec PyProof.Rows
theorem vb(aN:dg P w H h)(e:Rd H a (.ins C dx fs)):∃b,gC h a dx C b/\∀f,cD (fs.lookup f) (b f):=by
 have x:a6 P w H h a (.ins C dx fs):=by
  rcases e with e |⟨o,e⟩
  .exact aN a _ e
  .exact (aN a _ e).2
 let⟨d,z,ne,g,b,n,r,q⟩:=x;exact⟨b,⟨g,n,ne⟩,r⟩
def uU(K:ao)(e:TE)(f:Str):TE:=λj H Q=>e j H λx b=>∃a C d fs v,x=.ref a/\Rd b a (.ins C d fs)/\gn K C/\bg K C f/\fs.lookup f=some v/\Q v b
section
variable{X:Cx}{CX:fD}{k:Nat}{E:XK}{m f:Str}{pos apos:Pos}{o e:Expr}{ta:TE}{D:af->Nat->Prop}{sp:Nat->Sp}
theorem BF(he:PE X e ta)(w:attributeBase e f X.env (eval e X.env)=eval e X.env):PE X (.Attribute e f pos) (uU X.K ta f):=by
 intro aa s j H Q I h;refine Qz w (bj (he aa s j H _ I h) λu G d=>?_);let⟨x,i,b,A,a,C,B,fs,v,ex,p,c,n,l,q⟩:=d;subst ex;obtain rfl:u=Value.ref a:=A;∎;let⟨z,O,r⟩:=vb b.aN p;let⟨u,y,g⟩:=cD.some_of (v:=v) (o:=z f) (by rw[<- l];exact r f);∎;exact Hv b.cL O (c.get f) c.hd n y (Mb g) ⟨v,i,b.tok _,g,q⟩
end
section
variable{X:Cx}{CX:fD}{k:Nat}{f C:af}{fd:FuncData}{ps:ah}{sp:Sp}{dvs:aw}{ds:aL}{x:Str}{p pos:Pos}{e:Expr}{es:bH}{t:TA}
def yc(C:af)(sp:Sp)(dvs:aw)(R:St->XK)(t:TA):TE:=λj H Q=>t j H λvs b=>∀x a,b x=none->b a=none->a≠x->
 sp (.ref x::(vs++dvs)) (aR (aR b a (.own x)) x (.ins C a [])) (λv d=>v=.aM/\Q (.ref x) d) (R j)
theorem Tw{H:Hp}{Q:VK}(M:Mk X.K C f)(F:aJ X.prog X.w X.K X.mg X.base CX k f fd ps sp)(z:bu (k+1) X.A)(q:Binds X.K fd ps ds)(hd:aE dvs ds)(B:ja CX X j E)(I:au X aa j H s)(r:aE vs us)(h:∀x d,H x=none->H d=none->d≠x->sp (.ref x::(vs++dvs)) (aR (aR H d (.own x)) x (.ins C d [])) (λv l=>v=.aM/\Q (.ref x) l) E):
  wpAny (model X.prog X.w) X.A (call (.ref C) us) (EP X aa j Q) X.xe s:=by
 have g:=h (⇑s+1) ⇑s (I.aN.fresh (Nat.le_succ _)) (I.aN.fresh (le_refl _)) (ne_of_lt (Nat.lt_succ_self _));have b:=au.made (C:=C) I;have r2:aE (V.ref (⇑s+1)::(vs++dvs)) (Value.ref (⇑s+1)::(us++ds)):=.cons rfl (r.append hd);have y:(Value.ref (⇑s+1)::us++ds).length=ps.length:=(r2.length.symm.trans (F.len _ _ _ _ g))
 refine wpAny_call (Vx (f:=f) I.cL M.makes M.init (beq_iff_eq.mp M.fn) (codeAny_mono (F.run _ X.stack _ _ ⟨Value.ref (⇑s+1)::us,[]⟩ (Value.ref (⇑s+1)::(us++ds)) _ _ E (z.make C us [])
  (b.ku.make C us []) (q _ (Value.ref (⇑s+1)::us) b.cL y) r2 g) λo J a=>?_))
 match o,a with
 |.error e,a=>exact B aa _ _ e J b a
 |.ok (.ret u),a=>
  let⟨v,i,m,G,n,D⟩:=b.after a;subst n;exact⟨G,⟨V.ref (⇑s+1),i,m,rfl,D⟩⟩
 |.ok .next,a=>exact a.elim
 |.ok .brk,a=>exact a.elim
 |.ok .cont,a=>exact a.elim
theorem Jm{R:St->XK}(M:Mk X.K C f)(F:aJ X.prog X.w X.K X.mg X.base CX k f fd ps sp)(m:bu (k+1) X.A)(l:Gl X x)(hm:X.mg x=some (.ref C))(i:Binds X.K fd ps ds)(hd:aE dvs ds)(n:∀j,ja CX X j (R j))(g:PA X (e::es) t)(a: ~~~(dq x))(he:do du e es X.env)(hpl:do fa pos es X.env):
  PE X (.Call (.Name x p) (e::es) [] pos) (yc C sp dvs R t):=by
 intro aa s j H Q I h;refine wpAny_Call_Name_kw (k4 I l hm ?_ a);exact W.callWith_K (h₀:=X.base) I.ok.mod.kQ M.kp (bj (g pos aa s j H _ I h) λus u b=>by let⟨vs,o,d,r,q⟩:=b;exact⟨d.cL,Tw M F m i hd (n j) d r q⟩) he hpl
end
def fA(P:Program)(w:World)(K:ao)(mg:bx)(base:aU)(CX:fD)(k:Nat)(m:Str)(C:af)(b:ah)(sp:Sp):Prop:=
 gn K C/\∃f a,zO K C m f/\aJ P w K mg base CX k f a b sp/\Binds K a b []
theorem fA.mono{P:Program}{w:World}{K:ao}{mg:bx}{base:aU}{CX:fD}{k a:Nat}{m:Str}{C:af}{b:ah}{sp:Sp}(h:fA P w K mg base CX k m C b sp)(le:k<=a):fA P w K mg base CX a m C b sp:=by
 let⟨c,f,d,hm,F,e⟩:=h;exact⟨c,f,d,hm,F.mono le,e⟩
end L2
namespace Vc
open PySem L2 Sf
section
variable{H:Hp}{Q:VK}{l:af}
theorem BI:cX (ws++[v]) (-1)=some v:=by
 unfold cX hX;rw[if_neg (by decide:¬ (0:Int)<=-1),length_append,if_pos (by simp only[length_cons,length_nil];omega)];have e:((-1:Int)+((ws.length+[v].length:Nat):Int)).toNat=ws.length:=by simp only[length_cons,length_nil];omega
 rw[e];show (ws++[v])[ws.length]?=some v;rw[getElem?_append_right (le_refl _),Nat.sub_self];rfl
end
end Vc
namespace L2
open PySem PySem.Spec PyProof.Rows
def gv(K:ao)(x a:Str)(st:Stmt)(f:af):Prop:=∃b,gP K x a st f b
theorem kK{K:ao}{x a:Str}{st:Stmt}{f:af}{oc:aj}{od an:df}{osl:Array (dJ)}{kV doc pm a7 ct:aj}(l:K.lookup f=some ⟨oc,od,.func (W.fnOf x a (oR st) (jq st) (bE st) .none kV doc pm an a7 ct),osl⟩)(c:W.codeIn K a7 a=true)(k:W.keepIn K (.ref f)=true):gv K x a st f:=⟨_,GP l c k⟩
theorem gv.kp{K:ao}{x a:Str}{st:Stmt}{f:af}(h:gv K x a st f):W.keepIn K (.ref f)=true:=h.choose_spec.kp
end L2
namespace Pu
open PySem L2 Vc Sf
inductive Fl where |f |o |l (k:Bool)
 deriving DecidableEq
inductive Tr where
 |int (n:Int) |bl (b:Bool) |str (s:Str) |aM |ax |ty (n:String) |cl (a:Addr) |exc (b:Addr)
 |aF (xs:List Tr) |ag (f:Fl) (xs:List Tr) |aO (f:Fl) (kvs:List (aS × Tr)) |ins (f:Fl) (c:Addr) (fs:List (Str × Tr))
abbrev az:=Tr->Prop
abbrev bw:=List (aS×Tr)
abbrev bz:=List (Str×Tr)
abbrev ai:=List Tr
abbrev aW:=ai->Prop
abbrev Cs:=List (af×HO)
mutual
/-- v stands for the tree: bo frozen parts in F,bo lent ones in B,bo own ones are the cells -/
noncomputable def R(K:W.Frag)(F:Hp)(B:Bool->Hp):Tr->V->Cs->Prop
 |.int n,v,cs=>v=.int n /\ cs=[]
 |.bl b,v,cs=>v=.bl b /\ cs=[]
 |.str s,v,cs=>v=.str s /\ cs=[]
 |.aM,v,cs=>v=.aM /\ cs=[]
 |.ax,_,_=>False
 |.ty n,v,cs=>v=.ty n /\ cs=[]
 |.cl a,v,cs=>v=.ref a /\ cs=[]
 |.exc b,v,cs=>cs=[] /\ ∃a,v=.ref a /\ Rd F a (wb a b)
 |.aF xs,v,cs=>∃a vs,v=.ref a /\ cU K F a vs /\ Rs K F B xs vs cs
 |.ag .f xs,v,cs=>cs=[] /\ ∃a vs,v=.ref a /\ bC K F a vs /\ Rs K F B xs vs []
 |.ag (.l k) xs,v,cs=>cs=[] /\ ∃a vs,v=.ref a /\ bC K (B k) a vs /\ Rs K F B xs vs []
 |.ag .o xs,v,cs=>∃a vs d,v=.ref a /\ cs=(a,.ag vs)::d /\ Rs K F B xs vs d
 |.aO .f xs,v,cs=>cs=[] /\ ∃a vs,v=.ref a /\ Rd F a (.dK vs) /\ Rk K F B xs vs [] /\ (xs.map (·.1)).Nodup
 |.aO (.l k) xs,v,cs=>cs=[] /\ ∃a vs,v=.ref a /\ Rd (B k) a (.dK vs) /\ Rk K F B xs vs [] /\ (xs.map (·.1)).Nodup
 |.aO .o xs,v,cs=>∃a vs d,v=.ref a /\ cs=(a,.dK vs)::d /\ Rk K F B xs vs d /\ (xs.map (·.1)).Nodup
 |.ins .f c xs,v,cs=>cs=[] /\ ∃a e vs,v=.ref a /\ Rd F a (.ins c e vs) /\ Rf K F B xs vs []
 |.ins (.l k) c xs,v,cs=>cs=[] /\ ∃a e vs,v=.ref a /\ Rd (B k) a (.ins c e vs) /\ Rf K F B xs vs []
 |.ins .o c xs,v,cs=>∃a e vs d,v=.ref a /\ cs=(a,.ins c e vs)::d /\ Rf K F B xs vs d
noncomputable def Rs(K:W.Frag)(F:Hp)(B:Bool->Hp):List Tr->List V->Cs->Prop
 |[],vs,cs=>vs=[] /\ cs=[]
 |x::xs,vs,cs=>∃v r c d,vs=v::r /\ cs=c ++ d /\ R K F B x v c /\ Rs K F B xs r d
noncomputable def Rk(K:W.Frag)(F:Hp)(B:Bool->Hp):List (aS×Tr)->List (aS×V)->Cs->Prop
 |[],vs,cs=>vs=[] /\ cs=[]
 |(k,x)::xs,vs,cs=>∃v r c d,vs=(k,v)::r /\ cs=c ++ d /\ R K F B x v c /\ Rk K F B xs r d
noncomputable def Rf(K:W.Frag)(F:Hp)(B:Bool->Hp):List (Str×Tr)->List (Str×V)->Cs->Prop
 |[],vs,cs=>vs=[] /\ cs=[]
 |(k,x)::xs,vs,cs=>∃v r c d,vs=(k,v)::r /\ cs=c ++ d /\ R K F B x v c /\ Rf K F B xs r d
end
mutual
noncomputable def aG:Tr->Tr
 |.aF a=>.aF (cT a)
 |.ag .o a=>.ag (.l true) (cT a)
 |.aO .o a=>.aO (.l true) (dS a)
 |.ins .o c a=>.ins (.l true) c (bY a)
 |t=>t
noncomputable def cT:List Tr->List Tr
 |[]=>[] |x::xs=>aG x::cT xs
noncomputable def dS:List (aS×Tr)->List (aS×Tr)
 |[]=>[] |(k,x)::xs=>(k,aG x)::dS xs
noncomputable def bY:List (Str×Tr)->List (Str×Tr)
 |[]=>[] |(k,x)::xs=>(k,aG x)::bY xs
end
mutual
/-- no one changes it any more -/
noncomputable def ay:Tr->Tr
 |.aF a=>.aF (bp a)
 |.ag .o a=>.ag .f (bp a)
 |.aO .o a=>.aO .f (dD a)
 |.ins .o c a=>.ins .f c (fC a)
 |t=>t
noncomputable def bp:List Tr->List Tr
 |[]=>[] |x::xs=>ay x::bp xs
noncomputable def dD:List (aS×Tr)->List (aS×Tr)
 |[]=>[] |(k,x)::xs=>(k,ay x)::dD xs
noncomputable def fC:List (Str×Tr)->List (Str×Tr)
 |[]=>[] |(k,x)::xs=>(k,ay x)::fC xs
end
mutual
/-- nothing lent in it -/
noncomputable def b9:Tr->Bool
 |.aF a=>cw a
 |.ag (.l _) _=>false
 |.aO (.l _) _=>false
 |.ins (.l _) _ _=>false
 |.ag _ a=>cw a
 |.aO _ a=>hG a
 |.ins _ _ a=>e9 a
 |_=>true
noncomputable def cw:List Tr->Bool
 |[]=>true |x::xs=>b9 x&&cw xs
noncomputable def hG:List (aS×Tr)->Bool
 |[]=>true |(_,x)::xs=>b9 x&&hG xs
noncomputable def e9:List (Str×Tr)->Bool
 |[]=>true |(_,x)::xs=>b9 x&&e9 xs
end
mutual
/-- nothing lent for now in it -/
noncomputable def bF:Tr->Bool
 |.aF a=>cR a
 |.ag (.l true) _=>false
 |.aO (.l true) _=>false
 |.ins (.l true) _ _=>false
 |.ag _ a=>cR a
 |.aO _ a=>gF a
 |.ins _ _ a=>fw a
 |_=>true
noncomputable def cR:List Tr->Bool
 |[]=>true |x::xs=>bF x&&cR xs
noncomputable def gF:List (aS×Tr)->Bool
 |[]=>true |(_,x)::xs=>bF x&&gF xs
noncomputable def fw:List (Str×Tr)->Bool
 |[]=>true |(_,x)::xs=>bF x&&fw xs
end
mutual
/-- as a callee has it: what is lent is lent to it -/
noncomputable def dn:Tr->Tr
 |.aF a=>.aF (cv a)
 |.ag (.l _) a=>.ag (.l false) (cv a)
 |.aO (.l _) a=>.aO (.l false) (hW a)
 |.ins (.l _) c a=>.ins (.l false) c (iF a)
 |.ag .o a=>.ag .o (cv a)
 |.aO .o a=>.aO .o (hW a)
 |.ins .o c a=>.ins .o c (iF a)
 |.ag .f a=>.ag .f (cv a)
 |.aO .f a=>.aO .f (hW a)
 |.ins .f c a=>.ins .f c (iF a)
 |t=>t
noncomputable def cv:List Tr->List Tr
 |[]=>[] |x::xs=>dn x::cv xs
noncomputable def hW:List (aS×Tr)->List (aS×Tr)
 |[]=>[] |(k,x)::xs=>(k,dn x)::hW xs
noncomputable def iF:List (Str×Tr)->List (Str×Tr)
 |[]=>[] |(k,x)::xs=>(k,dn x)::iF xs
end
mutual
theorem R.mo{B B':Bool->Hp}(e:Le F F')(b:∀k,Le (B k) (B' k)):∀(t:Tr){v:V}{cs:Cs},R K F B t v cs->R K F' B' t v cs
 |.int _,_,_,h=>h
 |.bl _,_,_,h=>h
 |.str _,_,_,h=>h
 |.aM,_,_,h=>h
 |.ax,_,_,h=>h
 |.ty _,_,_,h=>h
 |.cl _,_,_,h=>h
 |.exc _,_,_,y=>by let⟨z,a,d,g⟩:=y;exact⟨z,a,d,Le.exc e g⟩
 |.aF xs,_,_,y=>by let⟨a,vs,d,g,i⟩:=y;exact⟨a,vs,d,e.aF g,Rs.mo e b xs i⟩
 |.ag .f xs,_,_,y=>by let⟨z,a,vs,d,g,i⟩:=y;exact⟨z,a,vs,d,e.ag g,Rs.mo e b xs i⟩
 |.ag (.l k) xs,_,_,y=>by let⟨z,a,vs,d,g,i⟩:=y;exact⟨z,a,vs,d,(b k).ag g,Rs.mo e b xs i⟩
 |.ag .o xs,_,_,y=>by let⟨a,vs,j,d,g,i⟩:=y;exact⟨a,vs,j,d,g,Rs.mo e b xs i⟩
 |.aO .f xs,_,_,y=>by let⟨z,a,vs,d,g,i,n⟩:=y;exact⟨z,a,vs,d,e.aO g,Rk.mo e b xs i,n⟩
 |.aO (.l k) xs,_,_,y=>by let⟨z,a,vs,d,g,i,n⟩:=y;exact⟨z,a,vs,d,(b k).aO g,Rk.mo e b xs i,n⟩
 |.aO .o xs,_,_,y=>by let⟨a,vs,j,d,g,i,n⟩:=y;exact⟨a,vs,j,d,g,Rk.mo e b xs i,n⟩
 |.ins .f _ xs,_,_,y=>by let⟨z,a,m,vs,d,g,i⟩:=y;exact⟨z,a,m,vs,d,e _ _ (by intro _ _ z;cases z) g,Rf.mo e b xs i⟩
 |.ins (.l k) _ xs,_,_,y=>by let⟨z,a,m,vs,d,g,i⟩:=y;exact⟨z,a,m,vs,d,b k _ _ (by intro _ _ z;cases z) g,Rf.mo e b xs i⟩
 |.ins .o _ xs,_,_,y=>by let⟨a,m,vs,j,d,g,i⟩:=y;exact⟨a,m,vs,j,d,g,Rf.mo e b xs i⟩
theorem Rs.mo{B B':Bool->Hp}(e:Le F F')(b:∀k,Le (B k) (B' k)):∀(t:List Tr){v:List V}{cs:Cs},Rs K F B t v cs->Rs K F' B' t v cs
 |[],_,_,h=>h
 |x::xs,_,_,y=>by let⟨v,r,c,d,a,f,g,i⟩:=y;exact⟨v,r,c,d,a,f,R.mo e b x g,Rs.mo e b xs i⟩
theorem Rk.mo{B B':Bool->Hp}(e:Le F F')(b:∀k,Le (B k) (B' k)):∀(t:List (aS×Tr)){v:List (aS×V)}{cs:Cs},Rk K F B t v cs->Rk K F' B' t v cs
 |[],_,_,h=>h
 |(_,x)::xs,_,_,y=>by let⟨v,r,c,d,a,f,g,i⟩:=y;exact⟨v,r,c,d,a,f,R.mo e b x g,Rk.mo e b xs i⟩
theorem Rf.mo{B B':Bool->Hp}(e:Le F F')(b:∀k,Le (B k) (B' k)):∀(t:List (Str×Tr)){v:List (Str×V)}{cs:Cs},Rf K F B t v cs->Rf K F' B' t v cs
 |[],_,_,h=>h
 |(_,x)::xs,_,_,y=>by let⟨v,r,c,d,a,f,g,i⟩:=y;exact⟨v,r,c,d,a,f,R.mo e b x g,Rf.mo e b xs i⟩
end
section
mutual
theorem R.aG(b:∀k,Le (B k) (B' k)):∀(t:Tr){v:V}{cs:Cs},R K F B t v cs->(∀p∈cs,B' true p.1=some p.2)->R K F B' (aG t) v []
 |.int _,_,_,y,_=>by let⟨h,_⟩:=y;exact⟨h,rfl⟩
 |.bl _,_,_,y,_=>by let⟨h,_⟩:=y;exact⟨h,rfl⟩
 |.str _,_,_,y,_=>by let⟨h,_⟩:=y;exact⟨h,rfl⟩
 |.aM,_,_,y,_=>by let⟨h,_⟩:=y;exact⟨h,rfl⟩
 |.ax,_,_,h,_=>h.elim
 |.ty _,_,_,y,_=>by let⟨h,_⟩:=y;exact⟨h,rfl⟩
 |.cl _,_,_,y,_=>by let⟨h,_⟩:=y;exact⟨h,rfl⟩
 |.exc _,_,_,y,_=>by let⟨_,a,h,r⟩:=y;exact⟨rfl,a,h,r⟩
 |.aF xs,_,_,y,m=>by let⟨a,vs,e,d,g⟩:=y;exact⟨a,vs,e,d,Rs.aG b xs g m⟩
 |.ag .f xs,_,_,y,_=>by let⟨z,a,vs,e,d,g⟩:=y;exact⟨rfl,a,vs,e,d,Rs.mo (Le.refl F) b xs g⟩
 |.ag (.l k) xs,_,_,y,_=>by let⟨z,a,vs,e,d,g⟩:=y;exact⟨rfl,a,vs,e,(b k).ag d,Rs.mo (Le.refl F) b xs g⟩
 |.ag .o xs,_,_,y,m=>by let⟨a,vs,n,e,d,g⟩:=y;exact⟨rfl,a,vs,e,bC.of (m (a,.ag vs) (by rw[d];exact .head _)),Rs.aG b xs g λp q=>m p (by rw[d];exact .tail _ q)⟩
 |.aO .f xs,_,_,y,_=>by let⟨z,a,vs,e,d,g,j⟩:=y;exact⟨rfl,a,vs,e,d,Rk.mo (Le.refl F) b xs g,j⟩
 |.aO (.l k) xs,_,_,y,_=>by let⟨z,a,vs,e,d,g,j⟩:=y;exact⟨rfl,a,vs,e,(b k).aO d,Rk.mo (Le.refl F) b xs g,j⟩
 |.aO .o xs,_,_,y,m=>by let⟨a,vs,n,e,d,g,j⟩:=y;exact⟨rfl,a,vs,e,Rd.of (m (a,.dK vs) (by rw[d];exact .head _)),Rk.aG b xs g λp q=>m p (by rw[d];exact .tail _ q),by rw[fg];exact j⟩
 |.ins .f _ xs,_,_,y,_=>by let⟨z,a,i,vs,e,d,g⟩:=y;exact⟨rfl,a,i,vs,e,d,Rf.mo (Le.refl F) b xs g⟩
 |.ins (.l k) _ xs,_,_,y,_=>by let⟨z,a,i,vs,e,d,g⟩:=y;exact⟨rfl,a,i,vs,e,b k _ _ (by intro _ _ z;cases z) d,Rf.mo (Le.refl F) b xs g⟩
 |.ins .o _ xs,_,_,y,m=>by let⟨a,i,vs,n,e,d,g⟩:=y;exact⟨rfl,a,i,vs,e,Rd.of (m (a,.ins _ i vs) (by rw[d];exact .head _)),Rf.aG b xs g λp q=>m p (by rw[d];exact .tail _ q)⟩
theorem Rs.aG(b:∀k,Le (B k) (B' k)):∀(t:List Tr){v:List V}{cs:Cs},Rs K F B t v cs->(∀p∈cs,B' true p.1=some p.2)->Rs K F B' (cT t) v []
 |[],_,_,y,_=>by let⟨h,_⟩:=y;exact⟨h,rfl⟩
 |x::xs,_,_,y,m=>by let⟨v,r,c,d,e,a,f,g⟩:=y;exact⟨v,r,[],[],e,rfl,R.aG b x f λp q=>m p (by rw[a];exact mem_append.mpr (.inl q)),Rs.aG b xs g λp q=>m p (by rw[a];exact mem_append.mpr (.inr q))⟩
theorem Rk.aG(b:∀k,Le (B k) (B' k)):∀(t:List (aS×Tr)){v:List (aS×V)}{cs:Cs},Rk K F B t v cs->(∀p∈cs,B' true p.1=some p.2)->Rk K F B' (dS t) v []
 |[],_,_,y,_=>by let⟨h,_⟩:=y;exact⟨h,rfl⟩
 |(_,x)::xs,_,_,y,m=>by let⟨v,r,c,d,e,a,f,g⟩:=y;exact⟨v,r,[],[],e,rfl,R.aG b x f λp q=>m p (by rw[a];exact mem_append.mpr (.inl q)),Rk.aG b xs g λp q=>m p (by rw[a];exact mem_append.mpr (.inr q))⟩
theorem Rf.aG(b:∀k,Le (B k) (B' k)):∀(t:List (Str×Tr)){v:List (Str×V)}{cs:Cs},Rf K F B t v cs->(∀p∈cs,B' true p.1=some p.2)->Rf K F B' (bY t) v []
 |[],_,_,y,_=>by let⟨h,_⟩:=y;exact⟨h,rfl⟩
 |(_,x)::xs,_,_,y,m=>by let⟨v,r,c,d,e,a,f,g⟩:=y;exact⟨v,r,[],[],e,rfl,R.aG b x f λp q=>m p (by rw[a];exact mem_append.mpr (.inl q)),Rf.aG b xs g λp q=>m p (by rw[a];exact mem_append.mpr (.inr q))⟩
theorem fg:∀(xs:List (aS×Tr)),(dS xs).map (·.1)=xs.map (·.1)
 |[]=>rfl
 |(_,_)::xs=>by show _::_=_::_;rw[fg xs]
end
theorem Dh:∀(xs:bw),(dD xs).map (·.1)=xs.map (·.1)
 |[]=>rfl
 |(_,_)::xs=>by show _::_=_::_;rw[Dh xs]
mutual
/-- without lent parts B is not asked -/
theorem R.base:∀(t:Tr){v:V}{cs:Cs},b9 t=true->R K F B t v cs->R K F B' t v cs
 |.int _,_,_,_,h=>h
 |.bl _,_,_,_,h=>h
 |.str _,_,_,_,h=>h
 |.aM,_,_,_,h=>h
 |.ax,_,_,_,h=>h
 |.ty _,_,_,_,h=>h
 |.cl _,_,_,_,h=>h
 |.exc _,_,_,_,h=>h
 |.aF xs,_,_,n,y=>by let⟨a,vs,b,d,e⟩:=y;exact⟨a,vs,b,d,Rs.base xs n e⟩
 |.ag .f xs,_,_,n,y=>by let⟨z,a,vs,b,d,e⟩:=y;exact⟨z,a,vs,b,d,Rs.base xs n e⟩
 |.ag (.l k) xs,_,_,n,_=>by cases n
 |.ag .o xs,_,_,n,y=>by let⟨a,vs,g,b,d,e⟩:=y;exact⟨a,vs,g,b,d,Rs.base xs n e⟩
 |.aO .f xs,_,_,n,y=>by let⟨z,a,vs,b,d,e,j⟩:=y;exact⟨z,a,vs,b,d,Rk.base xs n e,j⟩
 |.aO (.l k) xs,_,_,n,_=>by cases n
 |.aO .o xs,_,_,n,y=>by let⟨a,vs,g,b,d,e,j⟩:=y;exact⟨a,vs,g,b,d,Rk.base xs n e,j⟩
 |.ins .f _ xs,_,_,n,y=>by let⟨z,a,i,vs,b,d,e⟩:=y;exact⟨z,a,i,vs,b,d,Rf.base xs n e⟩
 |.ins (.l k) _ xs,_,_,n,_=>by cases n
 |.ins .o _ xs,_,_,n,y=>by let⟨a,i,vs,g,b,d,e⟩:=y;exact⟨a,i,vs,g,b,d,Rf.base xs n e⟩
theorem Rs.base:∀(t:List Tr){v:List V}{cs:Cs},cw t=true->Rs K F B t v cs->Rs K F B' t v cs
 |[],_,_,_,h=>h
 |x::xs,_,_,n,y=>by
  let⟨v,r,c,d,a,b,e,f⟩:=y;rw[cw,and_eq_true] at n;exact⟨v,r,c,d,a,b,R.base x n.1 e,Rs.base xs n.2 f⟩
theorem Rk.base:∀(t:List (aS×Tr)){v:List (aS×V)}{cs:Cs},hG t=true->Rk K F B t v cs->Rk K F B' t v cs
 |[],_,_,_,h=>h
 |(_,x)::xs,_,_,n,y=>by
  let⟨v,r,c,d,a,b,e,f⟩:=y;rw[hG,and_eq_true] at n;exact⟨v,r,c,d,a,b,R.base x n.1 e,Rk.base xs n.2 f⟩
theorem Rf.base:∀(t:List (Str×Tr)){v:List (Str×V)}{cs:Cs},e9 t=true->Rf K F B t v cs->Rf K F B' t v cs
 |[],_,_,_,h=>h
 |(_,x)::xs,_,_,n,y=>by
  let⟨v,r,c,d,a,b,e,f⟩:=y;rw[e9,and_eq_true] at n;exact⟨v,r,c,d,a,b,R.base x n.1 e,Rf.base xs n.2 f⟩
end
mutual
theorem R.ay(b:Le F F'):∀(t:Tr){v:V}{cs:Cs},R K F B t v cs->(∀p∈cs,F' p.1=some p.2)->R K F' B (ay t) v []
 |.int _,_,_,y,_=>by let⟨h,_⟩:=y;exact⟨h,rfl⟩
 |.bl _,_,_,y,_=>by let⟨h,_⟩:=y;exact⟨h,rfl⟩
 |.str _,_,_,y,_=>by let⟨h,_⟩:=y;exact⟨h,rfl⟩
 |.aM,_,_,y,_=>by let⟨h,_⟩:=y;exact⟨h,rfl⟩
 |.ax,_,_,h,_=>h.elim
 |.ty _,_,_,y,_=>by let⟨h,_⟩:=y;exact⟨h,rfl⟩
 |.cl _,_,_,y,_=>by let⟨h,_⟩:=y;exact⟨h,rfl⟩
 |.exc _,_,_,y,_=>by let⟨_,a,h,r⟩:=y;exact⟨rfl,a,h,Le.exc b r⟩
 |.aF xs,_,_,y,m=>by let⟨a,vs,e,d,g⟩:=y;exact⟨a,vs,e,b.aF d,Rs.ay b xs g m⟩
 |.ag .f xs,_,_,y,_=>by let⟨z,a,vs,e,d,g⟩:=y;exact⟨rfl,a,vs,e,b.ag d,Rs.mo b (λk=>Le.refl (B k)) xs g⟩
 |.ag (.l k) xs,_,_,y,_=>by let⟨z,a,vs,e,d,g⟩:=y;exact⟨rfl,a,vs,e,d,Rs.mo b (λk=>Le.refl (B k)) xs g⟩
 |.ag .o xs,_,_,y,m=>by let⟨a,vs,n,e,d,g⟩:=y;exact⟨rfl,a,vs,e,bC.of (m (a,.ag vs) (by rw[d];exact .head _)),Rs.ay b xs g λp q=>m p (by rw[d];exact .tail _ q)⟩
 |.aO .f xs,_,_,y,_=>by let⟨z,a,vs,e,d,g,j⟩:=y;exact⟨rfl,a,vs,e,b.aO d,Rk.mo b (λk=>Le.refl (B k)) xs g,j⟩
 |.aO (.l k) xs,_,_,y,_=>by let⟨z,a,vs,e,d,g,j⟩:=y;exact⟨rfl,a,vs,e,d,Rk.mo b (λk=>Le.refl (B k)) xs g,j⟩
 |.aO .o xs,_,_,y,m=>by let⟨a,vs,n,e,d,g,j⟩:=y;exact⟨rfl,a,vs,e,Rd.of (m (a,.dK vs) (by rw[d];exact .head _)),Rk.ay b xs g λp q=>m p (by rw[d];exact .tail _ q),by rw[Dh];exact j⟩
 |.ins .f _ xs,_,_,y,_=>by let⟨z,a,i,vs,e,d,g⟩:=y;exact⟨rfl,a,i,vs,e,b _ _ (by intro _ _ z;cases z) d,Rf.mo b (λk=>Le.refl (B k)) xs g⟩
 |.ins (.l k) _ xs,_,_,y,_=>by let⟨z,a,i,vs,e,d,g⟩:=y;exact⟨rfl,a,i,vs,e,d,Rf.mo b (λk=>Le.refl (B k)) xs g⟩
 |.ins .o _ xs,_,_,y,m=>by let⟨a,i,vs,n,e,d,g⟩:=y;exact⟨rfl,a,i,vs,e,Rd.of (m (a,.ins _ i vs) (by rw[d];exact .head _)),Rf.ay b xs g λp q=>m p (by rw[d];exact .tail _ q)⟩
theorem Rs.ay(b:Le F F'):∀(t:List Tr){v:List V}{cs:Cs},Rs K F B t v cs->(∀p∈cs,F' p.1=some p.2)->Rs K F' B (bp t) v []
 |[],_,_,y,_=>by let⟨h,_⟩:=y;exact⟨h,rfl⟩
 |x::xs,_,_,y,m=>by let⟨v,r,c,d,e,a,f,g⟩:=y;exact⟨v,r,[],[],e,rfl,R.ay b x f λp q=>m p (by rw[a];exact mem_append.mpr (.inl q)),Rs.ay b xs g λp q=>m p (by rw[a];exact mem_append.mpr (.inr q))⟩
theorem Rk.ay(b:Le F F'):∀(t:List (aS×Tr)){v:List (aS×V)}{cs:Cs},Rk K F B t v cs->(∀p∈cs,F' p.1=some p.2)->Rk K F' B (dD t) v []
 |[],_,_,y,_=>by let⟨h,_⟩:=y;exact⟨h,rfl⟩
 |(_,x)::xs,_,_,y,m=>by let⟨v,r,c,d,e,a,f,g⟩:=y;exact⟨v,r,[],[],e,rfl,R.ay b x f λp q=>m p (by rw[a];exact mem_append.mpr (.inl q)),Rk.ay b xs g λp q=>m p (by rw[a];exact mem_append.mpr (.inr q))⟩
theorem Rf.ay(b:Le F F'):∀(t:List (Str×Tr)){v:List (Str×V)}{cs:Cs},Rf K F B t v cs->(∀p∈cs,F' p.1=some p.2)->Rf K F' B (fC t) v []
 |[],_,_,y,_=>by let⟨h,_⟩:=y;exact⟨h,rfl⟩
 |(_,x)::xs,_,_,y,m=>by let⟨v,r,c,d,e,a,f,g⟩:=y;exact⟨v,r,[],[],e,rfl,R.ay b x f λp q=>m p (by rw[a];exact mem_append.mpr (.inl q)),Rf.ay b xs g λp q=>m p (by rw[a];exact mem_append.mpr (.inr q))⟩
end
def Plain(cs:Cs):Prop:=∀p∈cs,∀x u,p.2≠HO.ay x u
theorem Plain.nil:Plain []:=λ_ h=>nomatch h
theorem Plain.cons{a:af}{o:HO}{cs:Cs}(h:∀x u,o≠HO.ay x u)(t:Plain cs):Plain ((a,o)::cs):=λp m=>by
 cases m with
 |head=>exact h
 |tail _ m=>exact t p m
theorem Plain.app(h:Plain c)(t:Plain d):Plain (c++d):=λp m=>(mem_append.mp m).elim (h p) (t p)
mutual
theorem R.plain:∀(t:Tr){v:V}{cs:Cs},R K F B t v cs->Plain cs
 |.int _,_,_,y=>by let⟨_,h⟩:=y;rw[h];exact .nil
 |.bl _,_,_,y=>by let⟨_,h⟩:=y;rw[h];exact .nil
 |.str _,_,_,y=>by let⟨_,h⟩:=y;rw[h];exact .nil
 |.aM,_,_,y=>by let⟨_,h⟩:=y;rw[h];exact .nil
 |.ax,_,_,h=>h.elim
 |.ty _,_,_,y=>by let⟨_,h⟩:=y;rw[h];exact .nil
 |.cl _,_,_,y=>by let⟨_,h⟩:=y;rw[h];exact .nil
 |.exc _,_,_,y=>by let⟨h,_⟩:=y;rw[h];exact .nil
 |.aF xs,_,_,y=>by let⟨a,vs,e,d,b⟩:=y;exact Rs.plain xs b
 |.ag .f xs,_,_,y=>by let⟨z,_⟩:=y;rw[z];exact .nil
 |.ag (.l k) xs,_,_,y=>by let⟨z,_⟩:=y;rw[z];exact .nil
 |.ag .o xs,_,_,y=>by let⟨a,vs,g,e,d,b⟩:=y;rw[d];exact .cons (by intro _ _ z;cases z) (Rs.plain xs b)
 |.aO .f xs,_,_,y=>by let⟨z,_⟩:=y;rw[z];exact .nil
 |.aO (.l k) xs,_,_,y=>by let⟨z,_⟩:=y;rw[z];exact .nil
 |.aO .o xs,_,_,y=>by let⟨a,vs,g,e,d,b,_⟩:=y;rw[d];exact .cons (by intro _ _ z;cases z) (Rk.plain xs b)
 |.ins .f _ xs,_,_,y=>by let⟨z,_⟩:=y;rw[z];exact .nil
 |.ins (.l k) _ xs,_,_,y=>by let⟨z,_⟩:=y;rw[z];exact .nil
 |.ins .o _ xs,_,_,y=>by let⟨a,i,vs,g,e,d,b⟩:=y;rw[d];exact .cons (by intro _ _ z;cases z) (Rf.plain xs b)
theorem Rs.plain:∀(t:List Tr){v:List V}{cs:Cs},Rs K F B t v cs->Plain cs
 |[],_,_,y=>by let⟨_,h⟩:=y;rw[h];exact .nil
 |x::xs,_,_,y=>by let⟨v,r,c,d,f,a,b,e⟩:=y;rw[a];exact (R.plain x b).app (Rs.plain xs e)
theorem Rk.plain:∀(t:List (aS×Tr)){v:List (aS×V)}{cs:Cs},Rk K F B t v cs->Plain cs
 |[],_,_,y=>by let⟨_,h⟩:=y;rw[h];exact .nil
 |(_,x)::xs,_,_,y=>by let⟨v,r,c,d,f,a,b,e⟩:=y;rw[a];exact (R.plain x b).app (Rk.plain xs e)
theorem Rf.plain:∀(t:List (Str×Tr)){v:List (Str×V)}{cs:Cs},Rf K F B t v cs->Plain cs
 |[],_,_,y=>by let⟨_,h⟩:=y;rw[h];exact .nil
 |(_,x)::xs,_,_,y=>by let⟨v,r,c,d,f,a,b,e⟩:=y;rw[a];exact (R.plain x b).app (Rf.plain xs e)
end
structure aq(F H:Hp)(cs:Cs):Prop where
 h:∀p∈cs,H p.1=some p.2
 f:∀p∈cs,F p.1=none
 nd:(cs.map (·.1)).Nodup
theorem aq.nil:aq F H []:=⟨λ_ h=>(nomatch h),λ_ h=>(nomatch h),nodup_nil⟩
theorem aq.gr(c:aq F H cs)(g:Gr F H F' H'):aq F' H' cs:=⟨λp m=>g.h _ _ (c.h p m),λp m=>g.own (c.f p m) (c.h p m),c.nd⟩
def c8(H:Hp)(cs:Cs):Prop:=∀p∈cs,H p.1=none
theorem c8.nil:c8 H []:=λ_ h=>nomatch h
theorem c8.back(s:aB H H')(n:c8 H' cs):c8 H cs:=λp m=>s.free (n p m)
theorem aq.app(h:aq F H c)(t:aq F H d)(n:∀p∈c,∀q∈d,p.1≠q.1):aq F H (c++d):=
 ⟨λp m=>(mem_append.mp m).elim (h.h p) (t.h p),λp m=>(mem_append.mp m).elim (h.f p) (t.f p),by
  rw[map_append,nodup_append];refine⟨h.nd,t.nd,λa e b g=>?_⟩;∎;let⟨p,i,rfl⟩:=mem_map.mp e;let⟨q,j,rfl⟩:=mem_map.mp g;∎;exact n p i q j⟩
theorem aq.left(h:aq F H (c++d)):aq F H c:=⟨λp m=>h.h p (mem_append.mpr (.inl m)),λp m=>h.f p (mem_append.mpr (.inl m)),by have:=h.nd;rw[map_append,nodup_append] at this;exact this.1⟩
theorem aq.right(h:aq F H (c++d)):aq F H d:=⟨λp m=>h.h p (mem_append.mpr (.inr m)),λp m=>h.f p (mem_append.mpr (.inr m)),by have:=h.nd;rw[map_append,nodup_append] at this;exact this.2.1⟩
structure Out(K:ao)(F:Hp)(B:Bool->Hp)(H F' H':Hp)(t:Tr)(v:V)(cs:Cs):Prop where
 g:Gr F H F' H'
 r:R K F' B t v cs
 c:aq F' H' cs
 n:c8 H cs
structure eF(K:ao)(F:Hp)(B:Bool->Hp)(H F' H':Hp)(t:ai)(v:aw)(cs:Cs):Prop where
 g:Gr F H F' H'
 r:Rs K F' B t v cs
 c:aq F' H' cs
 n:c8 H cs
def dQ(K:ao)(F:Hp)(B:Bool->Hp)(j:St)(G:ai):Prop:=∀(i:Nat)(t:Tr),G[i]?=some t->t=.ax\/∃v,j[i]?=some (some v)/\R K F B t v []
theorem dQ.mo(e:dQ K F B j G)(l:Le F F')(b:∀k,Le (B k) (B' k)):dQ K F' B' j G:=λi t h=>(e i t h).imp id λ⟨v,h1,h2⟩=>⟨v,h1,h2.mo l b t⟩
abbrev bc:=ai->(az)->Prop
abbrev b6:=ai->(aW)->Prop
abbrev d7:=ai->(Bool->Prop)->Prop
structure Md where
 z:Bool
 E:St->XK
 q:aj->Prop
def Md.fW(k:Md):Md:=⟨k.z,k.E,λ_=>False⟩
def Md.walk(k:Md):Md:=⟨false,k.E,λ_=>False⟩
def Md.base(b:Bool):Md:=⟨b,λ_=>E0,λ_=>False⟩
structure gY(K:ao)(k:Md)(F:Hp)(B:Bool->Hp)(H:Hp)(j:St)(i:ai):Prop where
 s:aB F H
 b:∀k,aB (B k) H
 z:k.z=true->Fz S0 F
 e:dQ K F B j i
 x:∀cls F' H',k.q cls->Gr F H F' H'->k.E j cls none H'
theorem _root_.Vc.Gr.aP(s:aB F H):Gr F H F H:=Gr.of (Gr0.refl s) (Fz.refl F)
theorem _root_.Vc.Gr.trans'(a:Gr F H F' H')(b:Gr F' H' F2 H2):Gr F H F2 H2:=Gr.of (a.toGr0.tr b) (b.fz a.z)
theorem gY.gr(c:gY K k F B H j i)(g:Gr F H a d):gY K k a B d j i:=⟨g.s,λk=>(c.b k).trans g.h,λh=>g.fz (c.z h),c.e.mo g.le (λk=>Le.refl (B k)),λf a d q l=>c.x f a d q (g.trans' l)⟩
def bD(K:ao)(k:Md)(f:TE)(pe:bc):Prop:=∀(F:Hp)(B:Bool->Hp)(H:Hp)(j:St)(i:ai)(Q:VK)(b:az),gY K k F B H j i->pe i b->(∀t v d a e,b t->Out K F B H d a t v e->Q v a)->f j H Q
def eM(K:ao)(k:Md)(f:TA)(pe:b6):Prop:=∀(F:Hp)(B:Bool->Hp)(H:Hp)(j:St)(i:ai)(Q:aw->Hp->Prop)(b:aW),gY K k F B H j i->pe i b->(∀t v d a e,b t->eF K F B H d a t v e->Q v a)->f j H Q
def fY(K:ao)(k:Md)(f:TT)(pe:d7):Prop:=∀(F:Hp)(B:Bool->Hp)(H:Hp)(j:St)(i:ai)(Q:Bool->Hp->Prop)(d:Bool->Prop),gY K k F B H j i->pe i d->(∀b e a,d b->Gr F H e a->Q b a)->f j H Q
theorem Out.same(s:aB F H)(r:R K F B t v []):Out K F B H F H t v []:=⟨Gr.aP s,r,.nil,.nil⟩
def uk(i:Nat):bc:=λj Q=>match j[i]? with |some .ax=>False |some t=>Q t |none=>False
theorem Px(i:Nat):bD K k (f6 i) (uk i):=λF B H j G Q d c p q=>by
 unfold uk at p;cases h:G[i]? with
 |none=>rw[h] at p;exact p.elim
 |some t=>
  rcases c.e i t h with rfl |⟨v,a,b⟩
  .rw[h] at p;exact p.elim
  .refine⟨v,a,q t v F H [] ?_ (Out.same c.s b)⟩;rw[h] at p;cases t with
   |ax=>exact p.elim
   |_=>exact p
def pC(t:Tr):bc:=λ_ Q=>Q t
theorem n6(h:∀F B,R K F B t v []):bD K k (tC v) (pC t):=λF B H j i Q a c p q=>q t v F H [] p (Out.same c.s (h F B))
theorem K1:bD K k (tC (.int n)) (pC (.int n)):=n6 λ_ _=>⟨rfl,rfl⟩
theorem IC:bD K k (tC (.str n)) (pC (.str n)):=n6 λ_ _=>⟨rfl,rfl⟩
theorem HQ:bD K k (tC (.bl n)) (pC (.bl n)):=n6 λ_ _=>⟨rfl,rfl⟩
theorem OJ:bD K k (tC .aM) (pC .aM):=n6 λ_ _=>⟨rfl,rfl⟩
def p2(d:Tr->Tr->(az)->Prop)(a b:bc):bc:=λj Q=>a j λx=>b j λy=>d x y Q
def ee(K:ao)(k:Md)(r:R2)(i:Tr->Tr->(az)->Prop):Prop:=∀(F:Hp)(B:Bool->Hp)(H:Hp)(x y:V)(h ty:Tr)(a b:Cs)(Q:VK)(g:az),aB F H->(∀k,aB (B k) H)->(k.z=true->Fz S0 F)->R K F B h x a->R K F B ty y b->aq F H a->aq F H b->(∀p∈a,∀q∈b,p.1≠q.1)->i h ty g->
 (∀t v d e f,g t->Gr F H d e->R K d B t v f->aq d e f->(∀p∈f,H p.1=none\/p∈a\/p∈b)->Q v e)->r x y H Q
theorem tN(o:ee K k r pr)(M:bD K k ta pa)(N:bD K k tb pb):bD K k (l8 r ta tb) (p2 pr pa pb):=λF B H j i Q E c p q=>by
 refine M F B H j i _ _ c p λx v f A I p1 d=>?_
 refine N f B A j i _ _ (c.gr d.g) p1 λy u l C J p2 a=>?_
 refine o l B C v u x y I J Q E a.g.s (λk=>((c.b k).trans d.g.h).trans a.g.h) (λh=>a.g.fz (d.g.fz (c.z h))) (d.r.mo a.g.le (λk=>Le.refl (B k)) x) a.r (d.c.gr a.g) a.c (λp O q U e=>by have:=d.c.h p O;rw[e,a.n q U] at this;cases this) p2 λt v' w D L Y g r' G n=>?_
 refine q t v' w D L Y ⟨(d.g.trans' a.g).trans' g,r',G,λp m=>?_⟩;rcases n p m with z |z |z
 .exact (d.g.h.trans a.g.h).free z
 .exact d.n p z
 .exact d.g.h.free (a.n p z)
def p1(b:Tr->(az)->Prop)(a:bc):bc:=λj Q=>a j λx=>b x Q
def Ac(K:ao)(k:Md)(r:V->Hp->VK->Prop)(h:Tr->(az)->Prop):Prop:=∀(F:Hp)(B:Bool->Hp)(H:Hp)(x:V)(g:Tr)(e:Cs)(Q:VK)(f:az),aB F H->(∀k,aB (B k) H)->(k.z=true->Fz S0 F)->R K F B g x e->aq F H e->h g f->
 (∀t v a b d,f t->Gr F H a b->R K a B t v d->aq a b d->(∀p∈d,H p.1=none\/p∈e)->Q v b)->r x H Q
theorem UR(o:Ac K k r pr)(C:bD K k ta pa):bD K k (Aw r ta) (p1 pr pa):=λF B H j i Q u c p q=>by
 refine C F B H j i _ _ c p λx v d f y p1 a=>?_
 refine o d B f v x y Q u a.g.s (λk=>(c.b k).trans a.g.h) (λh=>a.g.fz (c.z h)) a.r a.c p1 λt G e l A D g E w n=>?_
 refine q t G e l A D ⟨a.g.trans' g,E,w,λp m=>?_⟩;rcases n p m with z |z
 .exact a.g.h.free z
 .exact a.n p z
def sY:b6:=λ_ Q=>Q []
def wW(pe:bc)(a:b6):b6:=λj Q=>pe j λx=>a j λb=>Q (x::b)
theorem zR:eM K k iI sY:=λF B H j i Q a c p q=>q [] [] F H [] p ⟨Gr.aP c.s,⟨rfl,rfl⟩,.nil,.nil⟩
theorem Tj(h:bD K k te pe)(w:eM K k ta pa):eM K k (hY te ta) (wW pe pa):=λF B H j i Q C c p q=>by
 refine h F B H j i _ _ c p λx v l s d p1 a=>?_
 refine w l B s j i _ _ (c.gr a.g) p1 λA vs o u f p2 b=>?_
 refine q (x::A) (v::vs) o u (d++f) p2 ⟨a.g.trans' b.g,⟨v,vs,d,f,rfl,rfl,a.r.mo b.g.le (λk=>Le.refl (B k)) x,b.r⟩,(a.c.gr b.g).app b.c λp y q z e=>?_,λp m=>?_⟩
 .have:=a.c.h p y;rw[e,b.n q z] at this;cases this
 .rcases mem_append.mp m with m |m
  .exact a.n p m
  .exact a.g.h.free (b.n p m)
theorem Rs.length:∀{t:ai}{v:aw}{cs:Cs},Rs K F B t v cs->v.length=t.length
 |[],_,_,y=>by let⟨h,_⟩:=y;rw[h];rfl
 |x::xs,_,_,y=>by let⟨v,r,c,d,a,e,f,b⟩:=y;rw[a,length_cons,length_cons,Rs.length b]
theorem Rs.at:∀{t:ai}{v:aw}{cs:Cs}{i:Nat}{x:Tr},Rs K F B t v cs->t[i]?=some x->∃u c,v[i]?=some u/\R K F B x u c/\∀p∈c,p∈cs
 |x::xs,_,_,0,y,y0,h=>by
  let⟨v,r,c,d,a,b,f,g⟩:=y0;cases h;exact⟨v,c,by rw[a];rfl,f,λp m=>by rw[b];exact mem_append.mpr (.inl m)⟩
 |x::xs,_,_,i + 1,y,y0,h=>by
  ∎;let⟨v,r,c,d,a,b,f,g⟩:=y0;let⟨u,e,j,l,n⟩:=Rs.at (i:=i) g h;∎;exact⟨u,e,by rw[a];exact j,l,λp m=>by rw[b];exact mem_append.mpr (.inr (n p m))⟩
theorem Rs.at':∀{t:ai}{v:aw}{cs:Cs}{i:Nat}{x:Tr},Rs K F B t v cs->aq F H cs->t[i]?=some x->∃u c,v[i]?=some u/\R K F B x u c/\aq F H c/\∀p∈c,p∈cs
 |x::xs,_,_,0,y,y0,hc,h=>by
  let⟨v,r,c,d,b,a,f,g⟩:=y0;cases h;rw[a] at hc;exact⟨v,c,by rw[b];rfl,f,hc.left,λp m=>by rw[a];exact mem_append.mpr (.inl m)⟩
 |x::xs,_,_,i + 1,y,y0,hc,h=>by
  let⟨v,r,c,d,b,a,f,g⟩:=y0;rw[a] at hc;let⟨u,e,j,l,n,o⟩:=Rs.at' (i:=i) g hc.right h;exact⟨u,e,by rw[b];exact j,l,n,λp m=>by rw[a];exact mem_append.mpr (.inr (o p m))⟩
theorem Rk.keys:∀{t:bw}{v:bI}{cs:Cs},Rk K F B t v cs->v.map (·.1)=t.map (·.1)
 |[],_,_,y=>by let⟨h,_⟩:=y;rw[h];rfl
 |(k,x)::xs,_,_,y=>by let⟨v,r,c,d,a,e,f,b⟩:=y;rw[a,map_cons,map_cons,Rk.keys b]
theorem Rk.length(h:Rk K F B t v cs):v.length=t.length:=by have:=congrArg List.length h.keys;simpa using this
def look(m:bw)(k:aS):Option Tr:=(m.find? λp=>decide (p.1=k)).map (·.2)
theorem Rk.look:∀{t:bw}{v:bI}{cs:Cs}(k:aS),Rk K F B t v cs->aq F H cs->(look t k=none/\fO v k=none)\/∃x u c,look t k=some x/\fO v k=some u/\R K F B x u c/\aq F H c/\∀p∈c,p∈cs
 |[],_,_,k,y,_=>by let⟨h,_⟩:=y;exact .inl ⟨rfl,by rw[h];rfl⟩
 |(k',x)::xs,_,_,k,y,hc=>by
  let⟨v,r,c,d,b,a,q,s⟩:=y;rw[a] at hc;by_cases e:k'=k
  .refine .inr ⟨x,v,c,?_,?_,q,hc.left,λp m=>by rw[a];exact mem_append.mpr (.inl m)⟩
   .unfold Pu.look;rw[List.find?_cons_of_pos (by simpa using e)];rfl
   .unfold fO;rw[b,List.find?_cons_of_pos (by simpa using e)];rfl
  .have e1:Pu.look ((k',x)::xs) k=Pu.look xs k:=by unfold Pu.look;rw[List.find?_cons_of_neg (by simpa using e)]
   have o:fO ((k',v)::r) k=fO r k:=by unfold fO;rw[List.find?_cons_of_neg (by simpa using e)]
   rw[b,e1,o];rcases Rk.look (t:=xs) (v:=r) (cs:=d) k s hc.right with z |⟨y,u,n,f,g,i,j,l⟩
   .exact .inl z
   .exact .inr ⟨y,u,n,f,g,i,j,λp m=>by rw[a];exact mem_append.mpr (.inr (l p m))⟩
theorem R.cj(s:aB F H)(b:∀k,aB (B k) H)(r:R K F B (.ag f xs) v cs)(c:aq F H cs):∃a vs e,v=.ref a/\bC K H a vs/\Rs K F B xs vs e/\aq F H e/\∀p∈e,p∈cs:=by
 cases f with
 |f=>let⟨z,a,vs,g,d,i⟩:=r;exact⟨a,vs,[],g,s.seq d,i,.nil,λ_ m=>nomatch m⟩
 |l k=>let⟨z,a,vs,g,d,i⟩:=r;exact⟨a,vs,[],g,(b k).seq d,i,.nil,λ_ m=>nomatch m⟩
 |o=>
  let⟨a,vs,e,g,d,i⟩:=r;rw[d] at c;exact⟨a,vs,e,g,bC.of (c.h _ (.head _)),i,aq.right (c:=[_]) c,λp m=>by rw[d];exact .tail _ m⟩
theorem R.dc(s:aB F H)(r:R K F B (.aF xs) v cs):∃a vs,v=.ref a/\cU K H a vs/\Rs K F B xs vs cs:=by
 let⟨a,vs,b,d,e⟩:=r;exact⟨a,vs,b,s.aF d,e⟩
theorem R.gK(s:aB F H)(b:∀k,aB (B k) H)(r:R K F B (.aO f xs) v cs)(c:aq F H cs):∃a vs e,v=.ref a/\Rd H a (.dK vs)/\Rk K F B xs vs e/\aq F H e/\∀p∈e,p∈cs:=by
 cases f with
 |f=>let⟨z,a,vs,g,d,i,_⟩:=r;exact⟨a,vs,[],g,s.rd d,i,.nil,λ_ m=>nomatch m⟩
 |l k=>let⟨z,a,vs,g,d,i,_⟩:=r;exact⟨a,vs,[],g,(b k).rd d,i,.nil,λ_ m=>nomatch m⟩
 |o=>
  let⟨a,vs,e,g,d,i,_⟩:=r;rw[d] at c;exact⟨a,vs,e,g,Rd.of (c.h _ (.head _)),i,aq.right (c:=[_]) c,λp m=>by rw[d];exact .tail _ m⟩
theorem R.mW(s:aB F H)(b:∀k,aB (B k) H)(r:R K F B (.ins f C xs) v cs)(c:aq F H cs):∃a d vs g,v=.ref a/\Rd H a (.ins C d vs)/\Rf K F B xs vs g/\aq F H g/\∀p∈g,p∈cs:=by
 cases f with
 |f=>let⟨z,a,d,vs,i,e,j⟩:=r;exact⟨a,d,vs,[],i,s.rd e,j,.nil,λ_ m=>nomatch m⟩
 |l k=>let⟨z,a,d,vs,i,e,j⟩:=r;exact⟨a,d,vs,[],i,(b k).rd e,j,.nil,λ_ m=>nomatch m⟩
 |o=>
  let⟨a,d,vs,g,i,e,j⟩:=r;rw[e] at c;exact⟨a,d,vs,g,i,Rd.of (c.h _ (.head _)),j,aq.right (c:=[_]) c,λp m=>by rw[e];exact .tail _ m⟩
theorem rb(s:aB F H)(r:Rs K F B xs vs cs)(c:aq F H cs)(hp:H p=none):∃a,Gr F H a (aR H p (.aF vs))/\R K a B (.aF xs) (.ref p) cs/\aq a (aR H p (.aF vs)) cs:=by
 let⟨a,g,e⟩:=DP (o:=.aF vs) s (by intro _ _ z;cases z) hp;exact⟨a,g,⟨p,vs,rfl,cU.of e,r.mo g.le (λk=>Le.refl (B k)) xs⟩,c.gr g⟩
theorem Gr.iz(s:aB F H)(hp:H p=none):Gr F H F (aR H p o):=⟨⟨aB.aR hp,aB.refl F,s.ny (s.free hp),λa u h e=>by rw[h] at e;cases e⟩,Fz.refl F⟩
theorem rB(s:aB F H)(c:aq F H cs)(hp:H p=none):aq F (aR H p o) ((p,o)::cs):=
 ⟨λq m=>by
  cases m with
  |head=>exact cq
  |tail _ m=>show aR H p o q.1=_;rw[ba (iY (c.h q m) hp)];exact c.h q m,
 λq m=>by
  cases m with
  |head=>exact s.free hp
  |tail _ m=>exact c.f q m,
 by
  rw[map_cons,nodup_cons];refine⟨λm=>?_,c.nd⟩;let⟨q,a,e⟩:=mem_map.mp m;have e:q.1=p:=e;have:=c.h q a;rw[e,hp] at this;cases this⟩
def xx(b:b6):bc:=λj Q=>b j λa=>a.length<=10000/\Q (.aF a)
def xq(b:b6):bc:=λj Q=>b j λa=>a.length<=10000/\Q (.ag .o a)
theorem lL(h:n<=1000000):n<=sizeLine:=le_trans h ∎
theorem JZ(h:eM K k ta pa):bD K k (DJ ta) (xx pa):=λF B H j i Q v c p q=>by
 refine h F B H j i _ _ c p λm vs o u e p1 b=>⟨by rw[b.r.length];exact lL (le_trans p1.1 ∎),λa l=>?_⟩
 let⟨d,g,r,f⟩:=rb b.g.s b.r b.c l;exact q (.aF m) (.ref a) d _ e p1.2 ⟨b.g.trans' g,r,f,b.n⟩
theorem Jq(h:eM K k ta pa):bD K k (zg ta) (xq pa):=λF B H j i Q v c p q=>by
 refine h F B H j i _ _ c p λl vs f u e p1 b=>⟨by rw[b.r.length];exact lL (le_trans p1.1 ∎),λa d=>?_⟩
 refine q (.ag .o l) (.ref a) f _ ((a,.ag vs)::e) p1.2 ⟨b.g.trans' (Gr.iz b.g.s d),⟨a,vs,e,rfl,rfl,b.r⟩,rB b.g.s b.c d,λp m=>?_⟩;cases m with
 |head=>exact b.g.h.free d
 |tail _ m=>exact b.n p m
end
end Pu
namespace Pu
open PySem PySem.Spec PyProof.Rows L2 Vc Sf
section
def zQ:R2:=λx y H Q=>∃a v,x=.ref a/\lU H a y (some v)/\Q v H
theorem So(n:X.A.units+1<cLine):jJ X zQ:=by
 intro value d aa s j H x y v u Q I o p h m;let⟨a,z,rfl,g,q⟩:=h;obtain rfl:v=Value.ref a:=o;have i:=G3 I g;unfold subscriptTail;refine wpAny_bind ?_;rw[getitemInPython_of_ne i.not_modules];refine wpAny_bind (wpAny_specialOf i PySem.F.slot_dict_getitem.lookup ?_);have b:wpAny (model X.prog X.w) X.A (subscripted d false (.ref a) u) (λr e=>wpAny (model X.prog X.w) X.A (letTemporaryGo value (.ref a) r >>= λ_=>pure r) (EP X aa j Q) X.xe e) X.xe s:=by
  rw[m];exact wpAny_operating (Ha n I g p λC B l f=>wpAny_bind (wpAny_letTemporaryGo (wpAny_pure ⟨z,H,l,f,q⟩)))
 first
  |exact wpAny_pure (wpAny_bind b)
  |exact wpAny_bind (wpAny_pure (wpAny_bind b))
  |exact wpAny_bind b
def pE(neg:Bool):R2:=λy x H Q=>∃a o,x=.ref a/\lU H a y o/\Q (.bl (if neg then !o.isSome else o.isSome)) H
theorem RL(d:X.A.units+1<cLine):b4 X (compareOp .In) (pE false):=by
 intro aa s j H y x u v Q I f e h;let⟨a,o,rfl,g,q⟩:=h;obtain rfl:v=Value.ref a:=e;exact QZ d I g f λi b=>⟨.bl o.isSome,H,b,rfl,q⟩
theorem Kn(d:X.A.units+1<cLine):b4 X (compareOp .NotIn) (pE true):=by
 intro aa s j H y x u v Q I f e h;let⟨a,o,rfl,g,q⟩:=h;obtain rfl:v=Value.ref a:=e;exact Lj d I g f λi b=>⟨.bl (!o.isSome),H,b,rfl,q⟩
def BY(K:ao):R2:=λx y H Q=>iX (λi j=>.int (i+j)) x y H Q\/(λx y H Q=>(λx y H Q=>∃i j,x=.str i/\y=.str j/\i.length+j.length<=sizeLine/\Q (.str (i++j)) H) x y H Q\/AI K x y H Q) x y H Q
theorem Jo:b4 X (binaryOp .Add) (BY X.K):=UJ.or (IL.or JS)
def Gk:R2:=λx y H Q=>rI kB (λi j=>.int (i*j)) x y H Q\/Cm x y H Q
theorem Ih:b4 X (binaryOp .Mult) Gk:=G8.or N5
def z3(K:ao):R2:=λx y H Q=>Ec K x y H Q\/zQ x y H Q
theorem OC(a:X.A.units+1<cLine):jJ X (z3 X.K):=Vw.or (So a)
def Cy:R2:=λx y H Q=>iX (λi j=>.bl (decide (i<j))) x y H Q\/(λx y H Q=>∃i j,x=.str i/\y=.str j/\Q (.bl (decide (i.cps.toList<j.cps.toList))) H) x y H Q
theorem lj:b4 X (compareOp .Lt) Cy:=SF.or MY
def D9:R2:=λx y H Q=>iX (λi j=>.bl (decide (j<i))) x y H Q\/(λx y H Q=>∃i j,x=.str i/\y=.str j/\Q (.bl (decide (j.cps.toList<i.cps.toList))) H) x y H Q
theorem kJ:b4 X (compareOp .Gt) D9:=N4.or NT
end
section
variable{K:ao}{F F' H H':Hp}{B B':Bool->Hp}{k:Md}
def iV(C:Int->Int->Prop)(g:Int->Int->Tr)(x y:Tr)(Q:az):Prop:=match x,y with
 |.int i,.int j=>C i j /\ Q (g i j)
 |_,_=>False
theorem vn{g:Int->Int->V}{t:Int->Int->Tr}(h:∀i j F B,R K F B (t i j) (g i j) []):ee K k (rI C g) (iV C t):=λF B H x y r ty f l Q e s b z a d n o hd p q=>by
 unfold iV at p;split at p
 .obtain⟨rfl,_⟩:=a;let⟨rfl,_⟩:=d;exact⟨_,_,rfl,rfl,p.1,q _ _ F H [] p.2 (Gr.aP s) (h _ _ F B) .nil λ_ m=>nomatch m⟩
 .exact p.elim
theorem FA{g:Int->Int->V}{t:Int->Int->Tr}(h:∀i j F B,R K F B (t i j) (g i j) []):ee K k (iX g) (iV (λ_ _=>True) t):=λF B H x y r ty f l Q e s b z a d n o hd p q=>by
 unfold iV at p;split at p
 .obtain⟨rfl,_⟩:=a;let⟨rfl,_⟩:=d;exact⟨_,_,rfl,rfl,q _ _ F H [] p.2 (Gr.aP s) (h _ _ F B) .nil λ_ m=>nomatch m⟩
 .exact p.elim
def qD(x y:Tr)(Q:az):Prop:=match x,y with
 |.int i,.int j=>Q (.int (i + j))
 |.str i,.str j=>i.length + j.length <= 1000000 /\ Q (.str (i ++ j))
 |.ag _ xs,.ag _ ys=>xs.length + ys.length <= 1000000 /\ Q (.ag .o (xs ++ ys))
 |_,_=>False
theorem Rs.append:∀{xs ys:ai}{vs us:aw}{c d:Cs},Rs K F B xs vs c->Rs K F B ys us d->Rs K F B (xs++ys) (vs++us) (c++d)
 |[],_,_,_,_,_,y,h=>by let⟨a,b⟩:=y;rw[a,b];exact h
 |x::xs,_,_,_,_,_,y,h=>by let⟨v,r,c,d,a,b,e,f⟩:=y;rw[a,b];exact⟨v,r ++ _,c,d ++ _,rfl,by rw[append_assoc],e,Rs.append f h⟩
theorem kU(s:aB F H)(r:Rs K F B xs vs cs)(c:aq F H cs)(hp:H p=none):Gr F H F (aR H p (.ag vs))/\R K F B (.ag .o xs) (.ref p) ((p,.ag vs)::cs)/\aq F (aR H p (.ag vs)) ((p,.ag vs)::cs):=
 ⟨Gr.iz s hp,⟨p,vs,cs,rfl,rfl,r⟩,rB s c hp⟩
theorem OL:ee K k (BY K) qD:=λF B H x y J ty E G Q C s b z d e n o hd p q=>by
 unfold qD at p;split at p
 .obtain⟨rfl,_⟩:=d;let⟨rfl,_⟩:=e;exact .inl ⟨_,_,rfl,rfl,q _ _ F H [] p (Gr.aP s) ⟨rfl,rfl⟩ .nil λ_ m=>nomatch m⟩
 .obtain⟨rfl,_⟩:=d;let⟨rfl,_⟩:=e;exact .inr (.inl ⟨_,_,rfl,rfl,lL p.1,q _ _ F H [] p.2 (Gr.aP s) ⟨rfl,rfl⟩ .nil λ_ m=>nomatch m⟩)
 .obtain⟨a,vs,ds,rfl,h1,h2,h3,h4⟩:=d.cj s b n;let⟨D,us,I,rfl,i,f,j,g⟩:=e.cj s b o;refine .inr (.inr ⟨_,_,_,_,rfl,rfl,h1,i,lL (by rw[h2.length,f.length];exact p.1),λl h=>?_⟩);let⟨v,w,A⟩:=kU s (h2.append f) (h3.app j λp r q u=>hd p (h4 p r) q (g q u)) h;refine q _ _ F _ _ p.2 v w A λp m=>?_
  cases m with
  |head=>exact .inl h
  |tail _ m=>exact (mem_append.mp m).elim (λm=>.inr (.inl (h4 p m))) (λm=>.inr (.inr (g p m)))
 .exact p.elim
def ur(x y:Tr)(Q:az):Prop:=match x,y with
 |.int i,.int j=>kB i j /\ Q (.int (i * j))
 |_,_=>False
theorem RM:ee K k Gk ur:=λF B H x y j ty f g Q e s b z a d h i hd p q=>by
 unfold ur at p;split at p
 .obtain⟨rfl,_⟩:=a;let⟨rfl,_⟩:=d;exact .inl ⟨_,_,rfl,rfl,p.1,q _ _ F H [] p.2 (Gr.aP s) ⟨rfl,rfl⟩ .nil λ_ m=>nomatch m⟩
 .exact p.elim
def qW:Tr->Option aS
 |.int n=>some (.inl n)
 |.str x=>some (.inr x)
 |_=>none
theorem tV(r:R K F B t v cs)(h:qW t=some y):v=kV y:=by
 cases t with
 |int n=>cases h;exact r.1
 |str n=>cases h;exact r.1
 |_=>cases h
def iG(x y:Tr)(Q:az):Prop:=match x,y with
 |.aF xs,.int i=>(match cX xs i with |some t=>Q t |none=>False)
 |.ag _ xs,.int i=>(match cX xs i with |some t=>Q t |none=>False)
 |.str x,.int i=>x.length <= 1000000 /\ (match cX x.cps.toList i with |some c=>Q (.str ⟨#[c]⟩) |none=>False)
 |.aO _ m,y=>(match qW y with |some y=>(match look m y with |some t=>Q t |none=>False) |none=>False)
 |_,_=>False
theorem Rs.cX(r:Rs K F B xs vs cs)(c:aq F H cs)(h:L2.cX xs i=some t):∃u d,L2.cX vs i=some u/\R K F B t u d/\aq F H d/\∀p∈d,p∈cs:=by
 unfold L2.cX at h ⊢;rw[r.length];cases e:hX xs.length i with
 |none=>rw[e] at h;cases h
 |some j=>rw[e] at h;exact r.at' c h
theorem Kd:ee K k (z3 K) iG:=λF B H x y U ty M N Q L s b z h i w O hd p q=>by
 unfold iG at p;split at p
 .obtain⟨rfl,_⟩:=i;split at p
  .rename_i e;∎;let⟨a,vs,rfl,f,g⟩:=h.dc s;let⟨u,d,j,l,n,o⟩:=g.cX w e;∎;exact .inl (.inr (.inl ⟨_,_,_,_,rfl,rfl,f,j,q _ _ F H d p (Gr.aP s) l n λp m=>.inr (.inl (o p m))⟩))
  .exact p.elim
 .obtain⟨rfl,_⟩:=i;split at p
  .rename_i e;∎;let⟨a,vs,I,rfl,f,g,r,v⟩:=h.cj s b w;let⟨u,d,j,l,n,o⟩:=g.cX r e;∎;exact .inl (.inl ⟨_,_,_,_,rfl,rfl,f,j,q _ _ F H d p (Gr.aP s) l n λp m=>.inr (.inl (v p (o p m)))⟩)
  .exact p.elim
 .obtain⟨rfl,_⟩:=i;let⟨rfl,_⟩:=h;let⟨J,p⟩:=p;split at p
  .rename_i e;exact .inl (.inr (.inr ⟨_,_,_,rfl,rfl,lL J,e,q _ _ F H [] p (Gr.aP s) ⟨rfl,rfl⟩ .nil λ_ m=>nomatch m⟩))
  .exact p.elim
 .split at p
  .rename_i e;split at p
   .rename_i e';let⟨a,vs,I,rfl,f,g,r,v⟩:=h.gK s b w;obtain rfl:=tV i e;rcases g.look _ r with⟨z,_⟩ |⟨x,u,c,A,C,D,E,G⟩
    .rw[z] at e';cases e'
    .rw[A] at e';cases e';exact .inr ⟨a,u,rfl,.inl ⟨vs,_,f,rfl,C.symm⟩,q _ _ F H c p (Gr.aP s) D E λp m=>.inr (.inl (v p (G p m)))⟩
   .exact p.elim
  .exact p.elim
 .exact p.elim
def xj(x y:Tr)(Q:az):Prop:=match x,y with
 |.int i,.int j=>Q (.bl (decide (i < j)))
 |.str i,.str j=>Q (.bl (decide (i.cps.toList < j.cps.toList)))
 |_,_=>False
theorem lz:ee K k Cy xj:=λF B H x y j ty f g Q e s b z a d h i hd p q=>by
 unfold xj at p;split at p
 .obtain⟨rfl,_⟩:=a;let⟨rfl,_⟩:=d;exact .inl ⟨_,_,rfl,rfl,q _ _ F H [] p (Gr.aP s) ⟨rfl,rfl⟩ .nil λ_ m=>nomatch m⟩
 .obtain⟨rfl,_⟩:=a;let⟨rfl,_⟩:=d;exact .inr ⟨_,_,rfl,rfl,q _ _ F H [] p (Gr.aP s) ⟨rfl,rfl⟩ .nil λ_ m=>nomatch m⟩
 .exact p.elim
def xh(x y:Tr)(Q:az):Prop:=match x,y with
 |.int i,.int j=>Q (.bl (decide (j < i)))
 |.str i,.str j=>Q (.bl (decide (j.cps.toList < i.cps.toList)))
 |_,_=>False
theorem kE:ee K k D9 xh:=λF B H x y j ty f g Q e s b z a d h i hd p q=>by
 unfold xh at p;split at p
 .obtain⟨rfl,_⟩:=a;let⟨rfl,_⟩:=d;exact .inl ⟨_,_,rfl,rfl,q _ _ F H [] p (Gr.aP s) ⟨rfl,rfl⟩ .nil λ_ m=>nomatch m⟩
 .obtain⟨rfl,_⟩:=a;let⟨rfl,_⟩:=d;exact .inr ⟨_,_,rfl,rfl,q _ _ F H [] p (Gr.aP s) ⟨rfl,rfl⟩ .nil λ_ m=>nomatch m⟩
 .exact p.elim
theorem Je:ee K k (iX λi j=>.bl (decide (j<=i))) (iV (λ_ _=>True) λi j=>.bl (decide (j<=i))):=FA λ_ _ _ _=>⟨rfl,rfl⟩
theorem GK:ee K k (iX λi j=>.int (i - j)) (iV (λ_ _=>True) λi j=>.int (i - j)):=FA λ_ _ _ _=>⟨rfl,rfl⟩
theorem MC:ee K k (rI dX λi j=>.int (i.fdiv j)) (iV dX λi j=>.int (i.fdiv j)):=vn λ_ _ _ _=>⟨rfl,rfl⟩
theorem M1:ee K k (rI (λ_ j=>0<j) λi j=>.int (i % j)) (iV (λ_ j=>0<j) λi j=>.int (i % j)):=vn λ_ _ _ _=>⟨rfl,rfl⟩
def uJ(x:Tr)(Q:az):Prop:=match x with
 |.int i=>Q (.int (-i))
 |_=>False
theorem Vh:Ac K k (L2.rU λi=>.int (-i)) uJ:=λF B H x g e Q d s b z a f p q=>by
 unfold uJ at p;split at p
 .obtain⟨rfl,_⟩:=a;exact⟨_,rfl,q _ _ F H [] p (Gr.aP s) ⟨rfl,rfl⟩ .nil λ_ m=>nomatch m⟩
 .exact p.elim
def uX:Tr->Option V
 |.int n=>some (.int n) |.bl b=>some (.bl b) |.str x=>some (.str x) |.aM=>some .aM |_=>none
theorem uh(r:R K F B t v cs)(h:uX t=some u):v=u:=by
 cases t with
 |int n=>cases h;exact r.1
 |bl n=>cases h;exact r.1
 |str n=>cases h;exact r.1
 |aM=>cases h;exact r.1
 |_=>cases h
def qH(neg:Bool)(x y:Tr)(Q:az):Prop:=match uX x,uX y with
 |some u,some v=>ym u v=true /\ Q (.bl (if neg then !decide (u=v) else decide (u=v)))
 |_,_=>False
theorem WG:ee K k uZ (qH false):=λF B H x y j ty f g Q e s b z a d h i hd p q=>by
 unfold qH at p;split at p
 .rename_i e1 e2;obtain rfl:=uh a e1;obtain rfl:=uh d e2;exact⟨p.1,q _ _ F H [] p.2 (Gr.aP s) ⟨rfl,rfl⟩ .nil λ_ m=>nomatch m⟩
 .exact p.elim
theorem Q2:ee K k qF (qH true):=λF B H x y j ty f g Q e s b z a d h i hd p q=>by
 unfold qH at p;split at p
 .rename_i e1 e2;obtain rfl:=uh a e1;obtain rfl:=uh d e2;exact⟨p.1,q _ _ F H [] p.2 (Gr.aP s) ⟨rfl,rfl⟩ .nil λ_ m=>nomatch m⟩
 .exact p.elim
def kc(x:Tr)(Q:Bool->Prop):Prop:=match x with
 |.bl b=>Q b
 |_=>False
def pT(pe:bc):d7:=λj Q=>pe j λx=>kc x Q
theorem Fh(h:bD K k te pe):fY K k (tB te) (pT pe):=λF B H j i Q e c p q=>by
 refine h F B H j i _ _ c p λt v b d f p1 a=>?_
 unfold kc at p1;split at p1
 .obtain⟨rfl,_⟩:=a.r;exact⟨_,rfl,q _ b d p1 a.g⟩
 .exact p1.elim
theorem Te(h:bD K k te pe):fY K k (rS te) (pT pe):=Fh h
def xt(a b:d7):d7:=λj Q=>a j λc=>if c=true then b j Q else Q false
def vW(a b:d7):d7:=λj Q=>a j λc=>if c=true then Q true else b j Q
def vI(pa:d7):d7:=λj Q=>pa j λc=>Q (!c)
theorem WB(l:fY K k ta pa)(m:fY K k tb pb):fY K k (EY ta tb) (xt pa pb):=λF B H j i Q n c p q=>by
 refine l F B H j i _ _ c p λb d e p1 a=>?_
 cases b with
 |true=>rw[if_pos rfl];exact m d B e j i _ _ (c.gr a) p1 λb f g p2 h=>q b f g p2 (a.trans' h)
 |false=>exact q false d e p1 a
theorem MM(l:fY K k ta pa)(m:fY K k tb pb):fY K k (DW ta tb) (vW pa pb):=λF B H j i Q n c p q=>by
 refine l F B H j i _ _ c p λb d e p1 a=>?_
 cases b with
 |false=>exact m d B e j i _ _ (c.gr a) p1 λb f g p2 h=>q b f g p2 (a.trans' h)
 |true=>exact q true d e p1 a
theorem Ux(f:fY K k ta pa):fY K k (DC ta) (vI pa):=λF B H j i Q g c p q=>f F B H j i _ _ c p λb a d p1 e=>q (!b) a d p1 e
def vB(a b:bc):bc:=λj Q=>a j λx=>kc x λc=>if c=true then b j Q else Q (.bl false)
def wB(a b:bc):bc:=λj Q=>a j λx=>kc x λc=>if c=true then Q (.bl true) else b j Q
theorem Out.bl(g:Gr F H F1 H1):Out K F B H F1 H1 (.bl b) (.bl b) []:=⟨g,⟨rfl,rfl⟩,.nil,.nil⟩
theorem Out.tr(g:Gr F H F1 H1)(o:Out K F1 B H1 F2 H2 t v cs):Out K F B H F2 H2 t v cs:=⟨g.trans' o.g,o.r,o.c,o.n.back g.h⟩
theorem J7(m:bD K k ta pa)(n:bD K k tb pb):bD K k (BM ta tb) (vB pa pb):=λF B H j i Q s c p q=>by
 refine m F B H j i _ _ c p λt v d e u p1 a=>?_
 unfold kc at p1;split at p1
 .rename_i b;let⟨rfl,_⟩:=a.r;refine⟨b,rfl,?_⟩;cases b with
  |true=>exact n d B e j i _ _ (c.gr a.g) p1 λt v f h l p2 o=>q t v f h l p2 (.tr a.g o)
  |false=>exact q _ _ d e [] p1 (.bl a.g)
 .exact p1.elim
theorem Wc(m:bD K k ta pa)(n:bD K k tb pb):bD K k (CC ta tb) (wB pa pb):=λF B H j i Q s c p q=>by
 refine m F B H j i _ _ c p λt v d e u p1 a=>?_
 unfold kc at p1;split at p1
 .rename_i b;let⟨rfl,_⟩:=a.r;refine⟨b,rfl,?_⟩;cases b with
  |false=>exact n d B e j i _ _ (c.gr a.g) p1 λt v f h l p2 o=>q t v f h l p2 (.tr a.g o)
  |true=>exact q _ _ d e [] p1 (.bl a.g)
 .exact p1.elim
def wO(d:d7)(a b:bc):bc:=λj Q=>d j λc=>if c=true then a j Q else b j Q
theorem L7(o:fY K k tc pc)(m:bD K k ta pa)(n:bD K k tb pb):bD K k (AM tc ta tb) (wO pc pa pb):=λF B H j i Q r c p q=>by
 refine o F B H j i _ _ c p λb h l p1 a=>?_
 cases b with
 |true=>rw[if_pos rfl] at p1 ⊢;exact m h B l j i _ _ (c.gr a) p1 λt v d e f p2 g=>q t v d e f p2 (.tr a g)
 |false=>rw[if_neg ∎] at p1 ⊢;exact n h B l j i _ _ (c.gr a) p1 λt v d e f p2 g=>q t v d e f p2 (.tr a g)
end
end Pu
namespace Pu
open PySem L2 Vc Sf
section
mutual
theorem R.low:∀(t:Tr){v:V}{cs:Cs},bF t=true->B false=B' false->R K F B t v cs->R K F B' t v cs
 |.int _,_,_,_,_,h=>h
 |.bl _,_,_,_,_,h=>h
 |.str _,_,_,_,_,h=>h
 |.aM,_,_,_,_,h=>h
 |.ax,_,_,_,_,h=>h
 |.ty _,_,_,_,_,h=>h
 |.cl _,_,_,_,_,h=>h
 |.exc _,_,_,_,_,h=>h
 |.aF xs,_,_,n,e,y=>by let⟨a,vs,b,d,g⟩:=y;exact⟨a,vs,b,d,Rs.low xs n e g⟩
 |.ag .f xs,_,_,n,e,y=>by let⟨z,a,vs,b,d,g⟩:=y;exact⟨z,a,vs,b,d,Rs.low xs n e g⟩
 |.ag (.l true) xs,_,_,n,_,_=>by cases n
 |.ag (.l false) xs,_,_,n,e,y=>by let⟨z,a,vs,b,d,g⟩:=y;exact⟨z,a,vs,b,by rw[<- e];exact d,Rs.low xs n e g⟩
 |.ag .o xs,_,_,n,e,y=>by let⟨a,vs,i,b,d,g⟩:=y;exact⟨a,vs,i,b,d,Rs.low xs n e g⟩
 |.aO .f xs,_,_,n,e,y=>by let⟨z,a,vs,b,d,g,m⟩:=y;exact⟨z,a,vs,b,d,Rk.low xs n e g,m⟩
 |.aO (.l true) xs,_,_,n,_,_=>by cases n
 |.aO (.l false) xs,_,_,n,e,y=>by let⟨z,a,vs,b,d,g,m⟩:=y;exact⟨z,a,vs,b,by rw[<- e];exact d,Rk.low xs n e g,m⟩
 |.aO .o xs,_,_,n,e,y=>by let⟨a,vs,i,b,d,g,m⟩:=y;exact⟨a,vs,i,b,d,Rk.low xs n e g,m⟩
 |.ins .f _ xs,_,_,n,e,y=>by let⟨z,a,j,vs,b,d,g⟩:=y;exact⟨z,a,j,vs,b,d,Rf.low xs n e g⟩
 |.ins (.l true) _ xs,_,_,n,_,_=>by cases n
 |.ins (.l false) _ xs,_,_,n,e,y=>by let⟨z,a,j,vs,b,d,g⟩:=y;exact⟨z,a,j,vs,b,by rw[<- e];exact d,Rf.low xs n e g⟩
 |.ins .o _ xs,_,_,n,e,y=>by let⟨a,j,vs,i,b,d,g⟩:=y;exact⟨a,j,vs,i,b,d,Rf.low xs n e g⟩
theorem Rs.low:∀(t:List Tr){v:List V}{cs:Cs},cR t=true->B false=B' false->Rs K F B t v cs->Rs K F B' t v cs
 |[],_,_,_,_,h=>h
 |x::xs,_,_,n,e,y=>by
  let⟨v,r,c,d,a,b,f,g⟩:=y;rw[cR,and_eq_true] at n;exact⟨v,r,c,d,a,b,R.low x n.1 e f,Rs.low xs n.2 e g⟩
theorem Rk.low:∀(t:List (aS×Tr)){v:List (aS×V)}{cs:Cs},gF t=true->B false=B' false->Rk K F B t v cs->Rk K F B' t v cs
 |[],_,_,_,_,h=>h
 |(_,x)::xs,_,_,n,e,y=>by
  let⟨v,r,c,d,a,b,f,g⟩:=y;rw[gF,and_eq_true] at n;exact⟨v,r,c,d,a,b,R.low x n.1 e f,Rk.low xs n.2 e g⟩
theorem Rf.low:∀(t:List (Str×Tr)){v:List (Str×V)}{cs:Cs},fw t=true->B false=B' false->Rf K F B t v cs->Rf K F B' t v cs
 |[],_,_,_,_,h=>h
 |(_,x)::xs,_,_,n,e,y=>by
  let⟨v,r,c,d,a,b,f,g⟩:=y;rw[fw,and_eq_true] at n;exact⟨v,r,c,d,a,b,R.low x n.1 e f,Rf.low xs n.2 e g⟩
end
mutual
/-- what is lent is lent to the callee -/
theorem R.dn(b:∀k,Le (B k) G):∀(t:Tr){v:V}{cs:Cs},R K F B t v cs->R K F (λ_=>G) (dn t) v cs
 |.int _,_,_,h=>h
 |.bl _,_,_,h=>h
 |.str _,_,_,h=>h
 |.aM,_,_,h=>h
 |.ax,_,_,h=>h
 |.ty _,_,_,h=>h
 |.cl _,_,_,h=>h
 |.exc _,_,_,h=>h
 |.aF xs,_,_,y=>by let⟨a,vs,d,e,g⟩:=y;exact⟨a,vs,d,e,Rs.dn b xs g⟩
 |.ag .f xs,_,_,y=>by let⟨z,a,vs,d,e,g⟩:=y;exact⟨z,a,vs,d,e,Rs.dn b xs g⟩
 |.ag (.l k) xs,_,_,y=>by let⟨z,a,vs,d,e,g⟩:=y;exact⟨z,a,vs,d,(b k).ag e,Rs.dn b xs g⟩
 |.ag .o xs,_,_,y=>by let⟨a,vs,i,d,e,g⟩:=y;exact⟨a,vs,i,d,e,Rs.dn b xs g⟩
 |.aO .f xs,_,_,y=>by let⟨z,a,vs,d,e,g,m⟩:=y;exact⟨z,a,vs,d,e,Rk.dn b xs g,by rw[dZ];exact m⟩
 |.aO (.l k) xs,_,_,y=>by let⟨z,a,vs,d,e,g,m⟩:=y;exact⟨z,a,vs,d,(b k).aO e,Rk.dn b xs g,by rw[dZ];exact m⟩
 |.aO .o xs,_,_,y=>by let⟨a,vs,i,d,e,g,m⟩:=y;exact⟨a,vs,i,d,e,Rk.dn b xs g,by rw[dZ];exact m⟩
 |.ins .f _ xs,_,_,y=>by let⟨z,a,j,vs,d,e,g⟩:=y;exact⟨z,a,j,vs,d,e,Rf.dn b xs g⟩
 |.ins (.l k) _ xs,_,_,y=>by let⟨z,a,j,vs,d,e,g⟩:=y;exact⟨z,a,j,vs,d,b k _ _ (by intro _ _ z;cases z) e,Rf.dn b xs g⟩
 |.ins .o _ xs,_,_,y=>by let⟨a,j,vs,i,d,e,g⟩:=y;exact⟨a,j,vs,i,d,e,Rf.dn b xs g⟩
theorem Rs.dn(b:∀k,Le (B k) G):∀(t:List Tr){v:List V}{cs:Cs},Rs K F B t v cs->Rs K F (λ_=>G) (cv t) v cs
 |[],_,_,h=>h
 |x::xs,_,_,y=>by let⟨v,r,c,d,a,e,f,g⟩:=y;exact⟨v,r,c,d,a,e,R.dn b x f,Rs.dn b xs g⟩
theorem Rk.dn(b:∀k,Le (B k) G):∀(t:List (aS×Tr)){v:List (aS×V)}{cs:Cs},Rk K F B t v cs->Rk K F (λ_=>G) (hW t) v cs
 |[],_,_,h=>h
 |(_,x)::xs,_,_,y=>by let⟨v,r,c,d,a,e,f,g⟩:=y;exact⟨v,r,c,d,a,e,R.dn b x f,Rk.dn b xs g⟩
theorem Rf.dn(b:∀k,Le (B k) G):∀(t:List (Str×Tr)){v:List (Str×V)}{cs:Cs},Rf K F B t v cs->Rf K F (λ_=>G) (iF t) v cs
 |[],_,_,h=>h
 |(_,x)::xs,_,_,y=>by let⟨v,r,c,d,a,e,f,g⟩:=y;exact⟨v,r,c,d,a,e,R.dn b x f,Rf.dn b xs g⟩
theorem dZ:∀(xs:List (aS×Tr)),(hW xs).map (·.1)=xs.map (·.1)
 |[]=>rfl
 |(_,_)::xs=>by show _::_=_::_;rw[dZ xs]
end
theorem k8:∀(xs:ai),(cv xs).length=xs.length
 |[]=>rfl
 |_::xs=>by show (cv xs).length + 1=_;rw[k8 xs];rfl
end
structure bf(K:ao)(k:Md)(lo:Nat)(us:aw)(Fb Hb F H:Hp)(G:St)(J:ai)(cs:Nat->Cs):Prop where
 g:Gr Fb Hb F H
 z:k.z=true->Fz S0 F
 l:G.length=J.length
 e:∀(i:Nat)(t:Tr),J[i]?=some t->t=.ax\/∃v,G[i]?=some (some v)/\R K F (λ_=>Hb) t v (cs i)
 c:∀i,aq F H (cs i)
 n:∀i,c8 Hb (cs i)
 d:∀i j,i≠j->∀p∈cs i,∀q∈cs j,p.1≠q.1
 p:∀i,i<lo->G[i]?=(us[i]?).map some
 x:∀cls G' F' H',k.q cls->Gr Fb Hb F' H'->k.E G' cls none H'
section
def Bq(Hb H:Hp):Bool->Hp:=λb=>if b then H else Hb
theorem bf.er(W:bf K k lo us Fb Hb F H j G cs):gY K k F (Bq Hb H) H j (G.map aG) where
 s:=W.g.s
 b:=λb=>by
  cases b with
  |true=>exact aB.refl H
  |false=>exact W.g.h
 z:=W.z
 e:=λi t h=>by
  rw[getElem?_map] at h;cases q:G[i]? with
  |none=>rw[q] at h;cases h
  |some u=>
   rw[q] at h;cases h;rcases W.e i u q with rfl |⟨v,l,n⟩
   .exact .inl rfl
   .refine .inr ⟨v,l,n.aG (λb=>?_) u λp m=>(W.c i).h p m⟩;cases b with
    |true=>exact Le.of W.g.h
    |false=>exact Le.refl _
 x:=λa d f q g=>W.x a j d f q (W.g.trans' g)
theorem bf.gr(W:bf K k lo us Fb Hb F H j G cs)(g:Gr F H F' H'):bf K k lo us Fb Hb F' H' j G cs:=
 ⟨W.g.trans' g,λh=>g.fz (W.z h),W.l,λi t h=>(W.e i t h).imp id λ⟨v,h1,h2⟩=>⟨v,h1,h2.mo g.le (λ_=>Le.refl _) t⟩,λi=>(W.c i).gr g,W.n,W.d,W.p,W.x⟩
theorem bf.set{i:Nat}{t:Tr}{v:V}{c:Cs}(W:bf K k lo us Fb Hb F H G J cs)(y:lo<=i)(r:R K F (λ_=>Hb) t v c)(w:aq F H c)(n:c8 Hb c)(d:∀j,j≠i->∀p∈cs j,∀q∈c,p.1≠q.1):
  bf K k lo us Fb Hb F H (G.set i (some v)) (J.set i t) (λj=>if j=i then c else cs j) where
 g:=W.g
 z:=W.z
 l:=by rw[length_set,length_set];exact W.l
 e:=λj u h=>by
  by_cases e:j=i
  .subst e;have s:j<J.length:=by have:=(List.getElem?_eq_some_iff.mp h).1;rw[length_set] at this;exact this
   rw[getElem?_set_self s] at h;cases h;exact .inr ⟨v,getElem?_set_self (by rw[W.l];exact s),by rw[if_pos rfl];exact r⟩
  .rw[getElem?_set_ne (λz=>e z.symm)] at h;rw[if_neg e];exact (W.e j u h).imp id λ⟨v,h1,h2⟩=>⟨v,by rw[getElem?_set_ne (λz=>e z.symm)];exact h1,h2⟩
 c:=λj=>by
  split
  .exact w
  .exact W.c j
 n:=λj=>by
  split
  .exact n
  .exact W.n j
 d:=λa b ne p o q f=>by
  by_cases m:a=i
  .rw[if_pos m] at o;rw[if_neg (λz=>ne (m.trans z.symm))] at f;exact (d b (λz=>ne (m.trans z.symm)) q f p o).symm
  .rw[if_neg m] at o;by_cases eb:b=i
   .rw[if_pos eb] at f;exact d a m p o q f
   .rw[if_neg eb] at f;exact W.d a b ne p o q f
 p:=λj h=>by rw[getElem?_set_ne ⋯];exact W.p j h
 x:=W.x
theorem bf.out{i:Nat}{t:Tr}{v:V}{c:Cs}(W:bf K k lo us Fb Hb F H G J cs)(o:Out K F (Bq Hb H) H F' H' t v c)(a:lo<=i)(n:bF t=true):
  bf K k lo us Fb Hb F' H' (G.set i (some v)) (J.set i t) (λj=>if j=i then c else cs j):=
 (W.gr o.g).set a (o.r.low t n rfl) o.c (λp m=>W.g.h.free (o.n p m)) λj _ p b q d e=>by
  have:=(W.c j).h p b;rw[e,o.n q d] at this;cases this
end
structure Pd where
 nx:aW
 rt:Tr->aW
 bk:aW:=λ_=>False
 ct:aW:=λ_=>False
abbrev cc:=Pd->aW
structure Lk(K:ao)(k:Md)(lo:Nat)(us:aw)(Fb Hb:Hp)(D:iq)(D':Pd):Prop where
 nx:∀F H j G cs,bf K k lo us Fb Hb F H j G cs->D'.nx G->D.nx j H
 rt:∀F H j G cs v t c,bf K k lo us Fb Hb F H j G cs->R K F (λ_=>Hb) t v c->aq F H c->c8 Hb c->(∀i,∀p∈cs i,∀q∈c,p.1≠q.1)->b9 t=true->D'.rt t G->D.rt v H
 bk:∀F H j G cs,bf K k lo us Fb Hb F H j G cs->D'.bk G->D.bk j H
 ct:∀F H j G cs,bf K k lo us Fb Hb F H j G cs->D'.ct G->D.ct j H
def cO(K:ao)(k:Md)(lo:Nat)(g:TS)(f:cc):Prop:=∀(us:aw)(b d F H:Hp)(j:St)(i:ai)(e:Nat->Cs)(D:iq)(a:Pd),bf K k lo us b d F H j i e->f a i->Lk K k lo us b d D a->g D j H
section
def sS(p q:cc):cc:=λD j=>p { D with nx:=q D } j
def yg:cc:=λD j=>D.nx j
theorem GG(h:cO K k lo t p)(h':cO K k lo u q):cO K k lo (uz t u) (sS p q):=λus b d F H j i a D e W p L=>
 h us b d F H j i a _ _ W p ⟨λF H j i a W q=>h' us b d F H j i a D e W q L,L.rt,L.bk,L.ct⟩
theorem Nq:cO K k lo B5 yg:=λus d e F H j i a D b W p L=>L.nx F H j i a W p
def yq(i:Nat)(pe:bc):cc:=λD j=>pe (j.map aG) λt=>bF t=true/\D.nx (j.set i t)
theorem RY(e:lo<=i)(h:bD K k te pe):cO K k lo (kR te (jk i)) (yq i pe):=λus g d F H j G l D f W p L=>by
 refine h F (Bq d H) H j _ _ _ W.er p λt v a b c q o=>?_
 exact L.nx a b _ _ _ (W.out o e q.1) q.2
def yJ(pe:bc):cc:=λD j=>pe (j.map aG) λ_=>D.nx j
theorem Hq(h:bD K k te pe):cO K k lo (oy te) (yJ pe):=λus f d F H j i l D e W p L=>
 h F (Bq d H) H j _ _ _ W.er p λt v a b c q o=>L.nx a b _ _ _ (W.gr o.g) q
def uT(pe:bc):cc:=λD j=>pe (j.map aG) λt=>b9 t=true/\D.rt t j
theorem MX(h:bD K k te pe):cO K k lo (yD te) (uT pe):=λus w d F H j G f D u W p L=>by
 refine h F (Bq d H) H j _ _ _ W.er p λt v a b c q o=>?_
 refine L.rt a b j G f v t c (W.gr o.g) (o.r.base t q.1) o.c (λp m=>W.g.h.free (o.n p m)) (λi p l q s e=>?_) q.1 q.2;have:=(W.c i).h p l;rw[e,o.n q s] at this;cases this
def vY(a:d7)(p q:cc):cc:=λD j=>a (j.map aG) λb=>if b=true then p D j else q D j
theorem Ld(n:fY K k tc pc)(h:cO K k lo t p)(h':cO K k lo u q):cO K k lo (Gn tc t u) (vY pc p q):=λus f a F H j i m D d W p L=>by
 refine n F (Bq a H) H j _ _ _ W.er p λb e l q g=>?_
 cases b with
 |true=>exact h us f a e l j i m D d (W.gr g) q L
 |false=>exact h' us f a e l j i m D d (W.gr g) q L
def Az(f:d7)(e:cc):cc:=λD j=>∃I:Nat->aW,(∃m,I m j)/\∀m j,I m j->f (j.map aG) λb=>if b=true then e { D with nx:=λd=>∃a,a<m/\I a d,ct:=λd=>∃a,a<m/\I a d,bk:=D.nx } j else D.nx j
theorem Me(v:fY K k tc pc)(u:cO K k lo tb pb):cO K k lo (F8 tc tb) (Az pc pb):=λus f e F H j G a D y W p L=>by
 let⟨I,⟨x,w⟩,step⟩:=p;refine⟨λm j H=>∃F G a,bf K k lo us f e F H j G a/\I m G,⟨x,F,G,a,W,w⟩,?_⟩;rintro m j H ⟨F,G,a,W,i⟩;refine v F (Bq e H) H j _ _ _ W.er (step m G i) λb n r q g=>?_
 cases b with
 |false=>exact L.nx n r j G a (W.gr g) q
 |true=>
  refine⟨λs o=>∃d,d<m/\∃F G a,bf K k lo us f e F o s G a/\I d G,λs o h=>h,?_⟩;refine u us f e n r j G a _ _ (W.gr g) q ⟨?_,L.rt,?_,?_⟩
  .exact λF H j G a W ⟨d,l,i⟩=>⟨d,l,F,G,a,W,i⟩
  .exact L.nx
  .exact λF H j G a W ⟨d,l,i⟩=>⟨d,l,F,G,a,W,i⟩
end
abbrev bQ:=ai->(Tr->aW)->Prop
abbrev fR:=ai->(Tr->aW)->(aj->Prop)->Prop
def ic(K:ao)(z:Bool)(lo n:Nat)(m:fR):Sp:=λvs H Q E=>vs.length=n/\∃(F b:Hp)(h:ai)(j:Nat->Cs)(f:Tr->aW)(q:aj->Prop),bf K ⟨z,λ_=>E,q⟩ lo vs F b F H (vs.map some) h j/\m h f q/\
 ∀d e l g a v t c,bf K ⟨z,λ_=>E,q⟩ lo vs F b d e l g a->R K d (λ_=>b) t v c->aq d e c->c8 b c->(∀i,∀p∈a i,∀q∈c,p.1≠q.1)->b9 t=true->f t g->Q v e
def bR(K:ao)(z:Bool)(lo n:Nat)(a:bQ):Sp:=ic K z lo n λb Q _=>a b Q
theorem bf.md(W:bf K k lo us Fb Hb F H j i cs)(hz:k'.z=true->k.z=true)(x:∀a m f b,k'.q a->Gr Fb Hb f b->k'.E m a none b):bf K k' lo us Fb Hb F H j i cs:=⟨W.g,λh=>W.z (hz h),W.l,W.e,W.c,W.n,W.d,W.p,x⟩
section
theorem bf.start(N:ah)(b:lo<=vs.length)(W:bf K k lo us Fb Hb F H (vs.map some) j cs):bf K k lo us Fb Hb F H (start N vs) (j++List.replicate (N.length - j.length) .ax) cs where
 g:=W.g
 z:=W.z
 l:=by
  have:=W.l;rw[length_map] at this;show (vs.map some++List.replicate (N.length - vs.length) none).length=_;rw[length_append,length_append,length_replicate,length_replicate,length_map,this]
 e:=λi t h=>by
  have a:=W.l;rcases Nat.lt_or_ge i j.length with z |z
  .rw[getElem?_append_left z] at h;exact (W.e i t h).imp id λ⟨v,h1,h2⟩=>⟨v,by show (vs.map some++List.replicate (N.length - vs.length) none)[i]?=_;rw[getElem?_append_left (by rw[a];exact z)];exact h1,h2⟩
  .rw[getElem?_append_right z] at h;have m:=mem_of_getElem? h;exact .inl (List.mem_replicate.mp m).2
 c:=W.c
 n:=W.n
 d:=W.d
 p:=λi h=>by
  have e:=W.p i h;show (vs.map some++List.replicate (N.length - vs.length) none)[i]?=_;rw[getElem?_append_left (by rw[length_map];omega)];exact e
 x:=W.x
end
theorem Rs.split:∀{n:ai}{vs:aw}{c:Cs},Rs K F B n vs c->aq F H c->∃cs:Nat->Cs,(∀(i:Nat)(t:Tr),n[i]?=some t->∃v,vs[i]?=some v/\R K F B t v (cs i))/\(∀i,∀p∈cs i,p∈c)/\(∀i,aq F H (cs i))/\∀i j,i≠j->∀p∈cs i,∀q∈cs j,p.1≠q.1
 |[],_,_,_,_=>⟨λ_=>[],λi t h=>(by cases h),λ_ _ m=>(nomatch m),λ_=>.nil,λ_ _ _ _ m=>nomatch m⟩
 |x::xs,_,_,y,hc=>by
  let⟨v,r,c,d,g,l,D,E⟩:=y;rw[l] at hc;let⟨cs,o,e,s,w⟩:=Rs.split E hc.right;have f:∀p∈c,∀q∈d,p.1≠q.1:=λp a q b=>by
   have:=hc.nd;rw[map_append,nodup_append] at this;exact this.2.2 _ (mem_map.mpr ⟨p,a,rfl⟩) _ (mem_map.mpr ⟨q,b,rfl⟩)
  refine⟨λi=>match i with |0=>c |j+1=>cs j,λi t h=>?_,λi p m=>?_,λi=>?_,λi j ne p a q b=>?_⟩
  .cases i with
   |zero=>cases h;exact⟨v,by rw[g];rfl,D⟩
   |succ j=>let⟨u,A,C⟩:=o j t h;exact⟨u,by rw[g];exact A,C⟩
  .rw[l];cases i with
   |zero=>exact mem_append.mpr (.inl m)
   |succ j=>exact mem_append.mpr (.inr (e j p m))
  .cases i with
   |zero=>exact hc.left
   |succ j=>exact s j
  .cases i with
   |zero=>
    cases j with
    |zero=>exact absurd rfl ne
    |succ j=>exact f p a q (e j q b)
   |succ i=>
    cases j with
    |zero=>exact (f q b p (e i p a)).symm
    |succ j=>exact w i j (λz=>ne (by rw[z])) p a q b
section
theorem Q8{aZ:bQ}(F:gP K x qual st f fd)(S:bT N ps (bE st))(hn:ps.length=n)(L:lo<=n)(e:∀(a7:aj)(A:Around)(outer:cB)(s:ak)(H:Hp)(E:XK),bu m (A.deeper (PyProof.Rows.envOfC qual (bE st) ⇑s f a7))->
   ∃u B,fy (i7 bM P w K mg base N qual (bE st) f a7 A outer s H E).oF (jq st) u/\cO K (Md.base z) lo u B/\∀xs b,xs.length=n->aZ xs b->B { nx:=λi=>b .aM i,rt:=b } (xs++List.replicate (N.length - n) .ax)):
  aJ P w K mg base bM (m+1) f fd ps (bR K z lo n aZ):=by
 refine F.ok S (λvs H Q E h=>h.1.trans hn.symm) (λa7 A outer s H vs Q E O h=>?_);∎;let⟨hl,C,D,u,g,b,q,W,p,a⟩:=h;let⟨Y,B,G,I,M⟩:=e a7 A outer s H E O;∎;have o:u.length=n:=by have:=W.l;rw[length_map] at this;omega
 refine⟨Y,G,I vs C D C H _ _ g _ { nx:=λi=>b .aM i,rt:=b } ((W.start N ⋯).md id λ_ _ _ _ h=>h.elim) (by rw[o];exact M u b o p) ⟨?_,?_,λ_ _ _ _ _ _ (h:False)=>h.elim,λ_ _ _ _ _ _ (h:False)=>h.elim⟩⟩
 .exact λF H j i g y q=>a F H j i g .aM .aM [] (y.md id W.x) ⟨rfl,rfl⟩ .nil .nil (λ_ _ _ _ m=>nomatch m) rfl q
 .exact λF H j i g v t c y r J n d U q=>a F H j i g v t c (y.md id W.x) r J n d U q
theorem Ht{aZ:fR}(F:gP K x qual st f fd)(S:bT N ps (bE st))(hn:ps.length=n)(L:lo<=n)(e:∀(a7:aj)(A:Around)(outer:cB)(s:ak)(H:Hp)(E:XK)(q:aj->Prop),bu m (A.deeper (PyProof.Rows.envOfC qual (bE st) ⇑s f a7))->
   ∃u B,fy (i7 (fq P w) P w K mg base N qual (bE st) f a7 A outer s H E) (jq st) u/\cO K ⟨z,λ_=>E,q⟩ lo u B/\∀xs b,xs.length=n->aZ xs b q->B { nx:=λi=>b .aM i,rt:=b } (xs++List.replicate (N.length - n) .ax)):
  aJ P w K mg base (fq P w) (m+1) f fd ps (ic K z lo n aZ):=by
 refine F.vG S (λvs H Q E h=>h.1.trans hn.symm) (λa7 A outer s H vs Q E O h=>?_);∎;let⟨hl,C,D,u,g,b,q,W,p,a⟩:=h;let⟨Y,B,G,I,M⟩:=e a7 A outer s H E q O;∎;have o:u.length=n:=by have:=W.l;rw[length_map] at this;omega
 refine⟨Y,G,I vs C D C H _ _ g _ { nx:=λi=>b .aM i,rt:=b } (W.start N ⋯) (by rw[o];exact M u b o p) ⟨?_,?_,λ_ _ _ _ _ _ (h:False)=>h.elim,λ_ _ _ _ _ _ (h:False)=>h.elim⟩⟩
 .exact λF H j i g y q=>a F H j i g .aM .aM [] y ⟨rfl,rfl⟩ .nil .nil (λ_ _ _ _ m=>nomatch m) rfl q
 .exact λF H j i g v t c y r J n d U q=>a F H j i g v t c y r J n d U q
end
section
theorem wq{c:Cs}{p:af×HO}(m:p∈c):cP (c.map (·.1)) H p.1=none:=RC (mem_map.mpr ⟨p,m,rfl⟩)
theorem tu(n:c8 H c)(h:H a=some o):a ∉ c.map (·.1):=λm=>by
 let⟨p,b,rfl⟩:=mem_map.mp m;rw[n p b] at h;cases h
theorem _root_.Vc.Gr.cP(g:Gr F H F1 H1)(n:c8 H c)(g':Gr F1 (cP (c.map (·.1)) H1) F' H'):Gr F H F' H':=
 Gr.of ⟨λa u e=>g'.h a u (nS (tu n e) (g.h a u e)),g.f.trans g'.f,g'.s,λa u e z=>by
  cases q:F1 a with
  |some y=>exact g.n a y q z
  |none=>
   have h:=g'.n a u e q;by_cases m:a∈c.map (·.1)
   .obtain⟨p,mp,rfl⟩:=mem_map.mp m;exact n p mp
   .unfold Vc.cP at h;rw[if_neg m] at h;exact g.h.free h⟩ (g'.fz g.z)
def tE(q:aj->Prop)(aZ:fR)(a:b6):bc:=λj Q=>a j λb=>aZ (cv b) (λt _=>Q t) q
def u6(aZ:bQ)(a:b6):bc:=λj Q=>a j λb=>aZ (cv b) λt _=>Q t
theorem C6{n:Nat}{z:Bool}{aZ:fR}{L:TA}{I:b6}{R':St->XK}{q':aj->Prop}(hE:∀(F:Hp)(B:Bool->Hp)(H:Hp)(G:St)(J:ai),gY K k F B H G J->∀f y w,q' f->Gr F H y w->R' G f none w)(hk:z=true->k.z=true)(hn:∀xs Q q,aZ xs Q q->xs.length=n)(h:eM K k L I):bD K k (F7 (ic K z 0 n aZ) [] R' L) (tE q' aZ I):=λF B H G J Q Q' c p q=>by
 refine h F B H G J _ _ c p λl vs C D A p1 d=>?_
 rw[append_nil];let⟨cs,M,N,O,U⟩:=d.r.split d.c;have hl:vs.length=n:=by rw[d.r.length,<- hn _ _ _ p1,k8]
 have hb:∀k,aB (B k) (cP (A.map (·.1)) D):=λk a o e=>nS (tu d.n (c.b k a o e)) (d.g.h _ _ (c.b k a o e))
 refine⟨hl,C,cP (A.map (·.1)) D,cv l,cs,_,q',⟨⟨xu d.g.s,Fz.refl C⟩,λh=>d.g.fz (c.z (hk h)),by rw[length_map,k8,d.r.length],?_,O,λi p m=>wq (N i p m),U,λi h=>absurd h (Nat.not_lt_zero i),λf _ y w h g=>hE F B H G J c f y w h (d.g.cP d.n g)⟩,p1,?_⟩
 .intro i t h;have hi:i<l.length:=by have:=(List.getElem?_eq_some_iff.mp h).1;rw[k8] at this;exact this
  have e:∀(l:ai)(i:Nat),(cv l)[i]?=l[i]?.map dn:=by
   intro l
   induction l with
   |nil=>intro i;rfl
   |cons x xs ih=>intro i;cases i with
    |zero=>rfl
    |succ j=>exact ih j
  rw[e] at h;cases z:l[i]? with
  |none=>rw[z] at h;cases h
  |some u=>
   rw[z] at h;cases h;let⟨v,Y,b2⟩:=M i u z;exact .inr ⟨v,by rw[getElem?_map,Y];rfl,b2.dn (λk=>Le.of (hb k)) u⟩
 .intro y w G' J' cs' v t c' W r hc nw dj nl qt;refine q t v y w c' qt ⟨d.g.cP d.n W.g,r.base t nl,hc,λp m=>?_⟩;have z:=nw p m;by_cases E:p.1∈A.map (·.1)
  .obtain⟨q,mq,e⟩:=mem_map.mp E;have e:q.1=p.1:=e;rw[<- e];exact d.n q mq
  .unfold cP at z;rw[if_neg E] at z;exact d.g.h.free z
theorem OO{aZ:bQ}(a:z=true->k.z=true)(hn:∀xs Q,aZ xs Q->xs.length=n)(h:eM K k ta pa):bD K k (FX (bR K z 0 n aZ) [] E ta) (u6 aZ pa):=
 C6 (R':=λ_=>E) (q':=λ_=>False) (aZ:=λxs Q _=>aZ xs Q) (λ_ _ _ _ _ _ _ _ _ h=>h.elim) a (λxs Q _=>hn xs Q) h
def lO(K:ao)(k:Md)(r:aw->Hp->VK->Prop)(i:ai->(az)->Prop):Prop:=∀(F:Hp)(B:Bool->Hp)(H:Hp)(h:aw)(g:ai)(e:Cs)(Q:VK)(f:az),aB F H->(∀k,aB (B k) H)->(k.z=true->Fz S0 F)->Rs K F B g h e->aq F H e->i g f->
 (∀t v a b d,f t->Gr F H a b->R K a B t v d->aq a b d->(∀p∈d,H p.1=none\/p∈e)->Q v b)->r h H Q
def pB(b:ai->(az)->Prop)(a:b6):bc:=λj Q=>a j λd=>b d Q
theorem ES(o:lO K k r pr)(h:eM K k ta pa):bD K k (kX r ta) (pB pr pa):=λF B H j i Q u c p q=>by
 refine h F B H j i _ _ c p λD vs d f x p1 a=>?_
 refine o d B f vs D x Q u a.g.s (λk=>(c.b k).trans a.g.h) (λh=>a.g.fz (c.z h)) a.r a.c p1 λt v e l y A g C w n=>?_
 refine q t v e l y A ⟨a.g.trans' g,C,w,λp m=>?_⟩;rcases n p m with z |z
 .exact a.g.h.free z
 .exact a.n p z
theorem Rs.one(r:Rs K F B [t] xs cs):∃v,xs=[v]/\R K F B t v cs:=by
 let⟨v,r,c,d,b,a,e,rfl,rfl⟩:=r;rw[append_nil] at a;exact⟨v,b,by rw[a];exact e⟩
def xQ(a:ai)(Q:az):Prop:=match a with
 |[.int i]=>Q (.int (if i < 0 then -i else i))
 |_=>False
theorem vX:lO K k (λxs H Q=>∃i,xs=[.int i]/\Q (.int (if i<0 then -i else i)) H) xQ:=λF B H xs f d Q a s b z r e p q=>by
 unfold xQ at p;split at p
 .obtain⟨v,rfl,rfl,_⟩:=r.one;exact⟨_,rfl,q _ _ F H [] p (Gr.aP s) ⟨rfl,rfl⟩ .nil λ_ m=>nomatch m⟩
 .exact p.elim
end
structure QE(X:Cx)(k:Md)(e:Expr)(pe:bc):Prop where
 h:∃te,PE X e te/\bD X.K k te pe
structure QT(X:Cx)(k:Md)(e:Expr)(pe:d7):Prop where
 h:∃te,PT X e te/\fY X.K k te pe
structure QW(X:Cx)(k:Md)(e:Expr)(pe:d7):Prop where
 h:∃te,PW X e te/\fY X.K k te pe
structure QA(X:Cx)(k:Md)(es:bH)(pa:b6):Prop where
 h:∃ta,PA X es ta/\eM X.K k ta pa
structure QS(X:Cx)(k:Md)(lo:Nat)(st:Stmt)(ps:cc):Prop where
 h:∃ts,PS X st ts/\cO X.K k lo ts ps
structure QB(X:Cx)(k:Md)(lo:Nat)(sts:List Stmt)(ps:cc):Prop where
 h:∃ts,fy X sts ts/\cO X.K k lo ts ps
section
theorem qv(i:Nat)(b:do X.N[i]?=some x)(d:oE X.env.scope x:=by first |exact Or.inl rfl |exact Or.inr (Or.inl rfl) |exact Or.inr (Or.inr rfl))(hd: ~~~(dq x))(a: ~~~((x == ("__classdict__":Str))=false)):QE X k (.Name x pos) (uk i):=⟨_,uE b d hd a,Px i⟩
theorem aA{i j}:QE X k (.Constant (.int i) j pos) (pC (.int i)):=⟨_,E3,K1⟩
theorem gE{i j}:QE X k (.Constant (.str i) j pos) (pC (.str i)):=⟨_,D2,IC⟩
theorem rE{i j}:QE X k (.Constant (.bool i) j pos) (pC (.bl i)):=⟨_,IG,HQ⟩
theorem kP{j}:QE X k (.Constant .none j pos) (pC .aM):=⟨_,JW,OJ⟩
theorem E8(v:V)(a:Gl X x)(hm:X.mg x=some u)(r:aD v u)(ht:∀F B,R X.K F B t v [])(hd: ~~~(dq x)):QE X k (.Name x pos) (pC t):=⟨_,IT a hm r hd,n6 ht⟩
theorem nq(l:b4 X (binaryOp op) r)(hs:ee X.K k r pr)(i:QE X k a pa)(j:QE X k b pb):QE X k (.BinOp a op b pos) (p2 pr pa pb):=by
 ∎;let⟨m,f,g⟩:=i.h;let⟨tb,d,e⟩:=j.h;∎;exact⟨_,Jr l f d,tN hs g e⟩
theorem d8(d:QE X k a pa)(e:QE X k b pb):QE X k (.BinOp a .Add b pos) (p2 qD pa pb):=nq Jo OL d e
theorem mr(d:QE X k a pa)(e:QE X k b pb):QE X k (.BinOp a .Sub b pos) (p2 (iV (λ_ _=>True) λi j=>.int (i - j)) pa pb):=nq Ni GK d e
theorem dh(d:QE X k a pa)(e:QE X k b pb):QE X k (.BinOp a .Mult b pos) (p2 ur pa pb):=nq Ih RM d e
theorem fT(d:QE X k a pa)(e:QE X k b pb):QE X k (.BinOp a .FloorDiv b pos) (p2 (iV dX λi j=>.int (i.fdiv j)) pa pb):=nq Mc MC d e
theorem eE(d:QE X k a pa)(e:QE X k b pb):QE X k (.BinOp a .Mod b pos) (p2 (iV (λ_ j=>0<j) λi j=>.int (i % j)) pa pb):=nq J9 M1 d e
theorem gA(e:QE X k a pa):QE X k (.UnaryOp .USub a pos) (p1 uJ pa):=by
 let⟨f,b,d⟩:=e.h;exact⟨_,Q5 KA b,UR Vh d⟩
theorem aX(i:QE X k a pa)(j:QE X k b pb)(hs:DA b:=by exact λ_ _=>rfl)(l:X.A.units+1<cLine:=by assumption):QE X k (.Subscript a b pos) (p2 iG pa pb):=by
 ∎;let⟨m,f,g⟩:=i.h;let⟨tb,d,e⟩:=j.h;∎;exact⟨_,QK (OC l) f d hs,tN Kd g e⟩
theorem mI(l:b4 X (compareOp op) r)(hs:ee X.K k r pr)(i:QE X k a pa)(j:QE X k b pb)(hm:behindInMarks op b=false:=by with_unfolding_all rfl):QE X k (.Compare a [op] [b] pos) (p2 pr pa pb):=by
 ∎;let⟨m,f,g⟩:=i.h;let⟨tb,d,e⟩:=j.h;∎;exact⟨_,Lc l f d hm,tN hs g e⟩
theorem b5(l:b4 X (compareOp op) r)(hs:ee X.K k r pr)(i:QE X k a pa)(j:QE X k b pb)(hm:behindInMarks op b=false:=by with_unfolding_all rfl):QT X k (.Compare a [op] [b] pos) (pT (p2 pr pa pb)):=by
 ∎;let⟨m,f,g⟩:=i.h;let⟨tb,d,e⟩:=j.h;∎;exact⟨_,De l f d hm,Te (tN hs g e)⟩
theorem l9(h:QE X k e pe)(he:∀whole,isTrue e X.env whole=(do let v <- whole;standAt e.pos;holding [v] (truthy v)):=by intro _;rfl):QT X k e (pT pe):=by
 let⟨d,a,b⟩:=h.h;exact⟨_,LH a he,Fh b⟩
theorem L4(h:QT X k e pe):QT X k (.UnaryOp .Not e pos) (vI pe):=by
 let⟨d,a,b⟩:=h.h;exact⟨_,HE a,Ux b⟩
theorem QW.t(h:QW X k e pe):QT X k e pe:=by
 let⟨d,a,b⟩:=h.h;exact⟨_,a.pt,b⟩
theorem ng(h:QT X k e pe):QW X k (.BoolOp .And [e] pos) pe:=by
 let⟨d,a,b⟩:=h.h;exact⟨_,SI a,b⟩
theorem qx(h:QT X k e pe):QW X k (.BoolOp .Or [e] pos) pe:=by
 let⟨d,a,b⟩:=h.h;exact⟨_,O4 a,b⟩
theorem kZ(h:QT X k e pe)(h':QW X k (.BoolOp .And (f::r) pos) pf):QW X k (.BoolOp .And (e::f::r) pos) (xt pe pf):=by
 ∎;let⟨i,d,g⟩:=h.h;let⟨j,a,b⟩:=h'.h;∎;exact⟨_,Jk d a,WB g b⟩
theorem qS(h:QT X k e pe)(h':QW X k (.BoolOp .Or (f::r) pos) pf):QW X k (.BoolOp .Or (e::f::r) pos) (vW pe pf):=by
 ∎;let⟨i,d,g⟩:=h.h;let⟨j,a,b⟩:=h'.h;∎;exact⟨_,Kh d a,MM g b⟩
theorem wG{op}(h:QE X k e pe):QE X k (.BoolOp op [e] pos) pe:=by
 let⟨d,a,b⟩:=h.h;exact⟨_,Qn a,b⟩
theorem z4(h:QE X k e pe)(h':QE X k (.BoolOp .And (f::r) pos) pf):QE X k (.BoolOp .And (e::f::r) pos) (vB pe pf):=by
 ∎;let⟨i,d,g⟩:=h.h;let⟨j,a,b⟩:=h'.h;∎;exact⟨_,Oi d a,J7 g b⟩
theorem P4(h:QE X k e pe)(h':QE X k (.BoolOp .Or (f::r) pos) pf):QE X k (.BoolOp .Or (e::f::r) pos) (wB pe pf):=by
 ∎;let⟨i,d,g⟩:=h.h;let⟨j,a,b⟩:=h'.h;∎;exact⟨_,Hj d a,Wc g b⟩
theorem uK{pt:d7}(n:QT X k c pt)(l:QE X k a pa)(m:QE X k b pb):QE X k (.IfExp c a b pos) (wO pt pa pb):=by
 ∎;let⟨p,i,j⟩:=n.h;let⟨o,f,g⟩:=l.h;let⟨tb,d,e⟩:=m.h;∎;exact⟨_,My i f d,L7 j g e⟩
theorem aH:QA X k [] sY:=⟨_,jE,zR⟩
theorem ar(h:QE X k a pa)(h':QA X k es ps)(hs:do du a es X.env):QA X k (a::es) (wW pa ps):=by
 ∎;let⟨g,e,f⟩:=h.h;let⟨i,b,d⟩:=h'.h;∎;exact⟨_,iR e b hs,Tj f d⟩
theorem gp{x1}(h:QA X k es ps):QE X k (.Tuple es x1 pos) (xx ps):=by
 let⟨d,a,b⟩:=h.h;exact⟨_,QY a,JZ b⟩
theorem eH(h:QA X k es ps):QE X k (.List es pos) (xq ps):=by
 let⟨d,a,b⟩:=h.h;exact⟨_,Nk a,Jq b⟩
theorem fH{r:aw->Hp->VK->Prop}{d:ai->(az)->Prop}{id:String}{x:Str}{p:Pos}{e:Expr}{a:bH}{f:b6}(l:bL X (.builtin id) r)(n:lO X.K k r d)(hm:X.mg x=none)(j:QA X k (e::a) f)(m:do Gl X x)(o:do bootBuiltins x=some (.builtin id))(hn: ~~~(x≠"__name__"))(b: ~~~(dq x))(he:do du e a X.env)(hpl:do fa pos a X.env):
  QE X k (.Call (.Name x p) (e::a) [] pos) (pB d f):=by
 let⟨q,g,i⟩:=j.h;exact⟨_,LF l m hm o g hn b he hpl,ES n i⟩
theorem cZ:QB X k lo [] yg:=⟨_,Po,Nq⟩
theorem aQ(h:QS X k lo st p)(h':QB X k lo r q):QB X k lo (st::r) (sS p q):=by
 ∎;let⟨f,d,e⟩:=h.h;let⟨g,a,b⟩:=h'.h;∎;exact⟨_,yK d a,GG e b⟩
theorem aY(h:QS X k lo st p):QB X k lo [st] p:=by
 let⟨d,a,b⟩:=h.h;exact⟨_,xX a,b⟩
def E6:cc:=λ_ _=>False
theorem uN:QS X k lo st E6:=⟨_,Wq,λ_ _ _ _ _ _ _ _ _ _ _ h _=>h⟩
theorem Vv(h:QE X k e pe)(hs:do swapsWith e none pos.line X.env=pure false):QS X k lo (.Expr e pos) (yJ pe):=by
 let⟨d,a,b⟩:=h.h;exact⟨_,pD a hs,Hq b⟩
theorem b8(h:QE X k e pe):QS X k lo (.Return (some e) pos) (uT pe):=by
 let⟨d,a,b⟩:=h.h;exact⟨_,BV a,MX b⟩
theorem c6(j:QT X k e pe)(h:QB X k lo s1 p)(h':QB X k lo s2 q):QS X k lo (.If e s1 s2 pos) (vY pe p q):=by
 ∎;let⟨m,g,i⟩:=j.h;let⟨l,d,f⟩:=h.h;let⟨tb,a,b⟩:=h'.h;∎;exact⟨_,LP g d a,Ld i f b⟩
theorem wm(g:QT X k e pe)(h:QB X k lo s1 p)(hp:PassesOwn (model X.prog X.w) X.A X.env X.xe:=by first |exact PassesOwn.never |exact eh rfl):QS X k lo (.While e s1 [] pos) (Az pe p):=by
 ∎;let⟨j,d,f⟩:=g.h;let⟨i,a,b⟩:=h.h;∎;exact⟨_,KJ hp d a,Me f b⟩
theorem gc(i:Nat)(h:QE X k e pe)(d:X.N.Nodup:=by assumption)(j: ~~~(lo<=i))(g:do X.N[i]?=some x)(l:Loc X.env.scope x:=by first |exact Or.inl rfl |exact Or.inr rfl)(hs:do swapsWith e (some (.Name x pos')) pos.line X.env=pure false)(f:jR X x:=by first |exact .inl rfl |exact .inr rfl |assumption):
  QS X k lo (.Assign [.Name x pos'] e pos) (yq i pe):=by
 let⟨m,a,b⟩:=h.h;exact⟨_,uG d g l a hs f,RY j b⟩
end
section
theorem cg{aZ:bQ}(F:gP K x qual st f fd)(S:bT N ps (bE st))(hn:ps.length=n)(e:lo<=n)(a:∀(a7:aj)(A:Around)(outer:cB)(s:ak)(H:Hp)(E:XK),bu m (A.deeper (PyProof.Rows.envOfC qual (bE st) ⇑s f a7))->(A.deeper (PyProof.Rows.envOfC qual (bE st) ⇑s f a7)).units+1<cLine->N.Nodup->
   ∃b,QB (i7 bM P w K mg base N qual (bE st) f a7 A outer s H E).oF (Md.base z) lo (jq st) b/\∀xs d,xs.length=n->aZ xs d->b { nx:=λj=>d .aM j,rt:=d } (xs++List.replicate (N.length - n) .ax)):
  aJ P w K mg base bM (m+1) f fd ps (bR K z lo n aZ):=Q8 F S hn e λa7 A outer s H E g=>by
 ∎;let⟨b,h,q⟩:=a a7 A outer s H E g (F0 g) S.nd;let⟨o,i,l⟩:=h.h;∎;exact⟨o,b,i,l,q⟩
theorem rT{aZ:fR}(F:gP K x qual st f fd)(S:bT N ps (bE st))(hn:ps.length=n)(e:lo<=n)(a:∀(a7:aj)(A:Around)(outer:cB)(s:ak)(H:Hp)(E:XK)(q:aj->Prop),bu m (A.deeper (PyProof.Rows.envOfC qual (bE st) ⇑s f a7))->(A.deeper (PyProof.Rows.envOfC qual (bE st) ⇑s f a7)).units+1<cLine->N.Nodup->
   ∃b,QB (i7 (fq P w) P w K mg base N qual (bE st) f a7 A outer s H E) ⟨z,λ_=>E,q⟩ lo (jq st) b/\∀xs d,xs.length=n->aZ xs d q->b { nx:=λj=>d .aM j,rt:=d } (xs++List.replicate (N.length - n) .ax)):
  aJ P w K mg base (fq P w) (m+1) f fd ps (ic K z lo n aZ):=Ht F S hn e λa7 A outer s H E q g=>by
 ∎;let⟨b,h,q⟩:=a a7 A outer s H E q g (F0 g) S.nd;let⟨o,i,l⟩:=h.h;∎;exact⟨o,b,i,l,q⟩
end
section
theorem lay:∀(c:Cs){F:Hp},Gr Fb Hb F H->aq F H c->c8 Hb c->Plain c->∃i,Gr Fb Hb i H/\(∀S,Fz S F->Fz S i)/\aB F i/\(∀p∈c,i p.1=some p.2)/\∀a,a ∉ c.map (·.1)->i a=F a
 |[],F,g,_,_,_=>⟨F,g,λ_ h=>h,aB.refl F,λ_ m=>(nomatch m),λ_ _=>rfl⟩
 |(a,o)::c,F,g,hc,n,pl=>by
  let⟨s,y,D,C,q,l⟩:=Vc.ay g.toGr0 g.z (n _ (.head _)) (hc.f _ (.head _)) (hc.h _ (.head _)) (pl _ (.head _));have nd:=hc.nd;rw[map_cons,nodup_cons] at nd;have j:aq s H c:=⟨λp m=>hc.h p (.tail _ m),λp m=>by rw[l p.1 (λz=>nd.1 (mem_map.mpr ⟨p,m,z⟩))];exact hc.f p (.tail _ m),nd.2⟩;let⟨v,A,E,r,w,B⟩:=lay c ⟨y,D⟩ j (λp m=>n p (.tail _ m)) λp m=>pl p (.tail _ m)
  refine⟨v,A,λS h=>E S λb x u e=>?_,C.trans r,λp m=>?_,λb d=>?_⟩
  .by_cases d:b=a
   .subst d;rw[q] at e;exact absurd (Option.some.inj e) (pl _ (.head _) x u)
   .rw[l b d] at e;exact h b x u e
  .cases m with
   |head=>exact r _ _ q
   |tail _ m=>exact w p m
  .rw[map_cons,mem_cons] at d;rw[B b λz=>d (.inr z),l b λz=>d (.inl z)]
theorem bf.lay{c:Cs}(W:bf K k lo us Fb Hb F H G J cs)(u:aq F H c)(n:c8 Hb c)(pl:Plain c)(d:∀j,∀p∈cs j,∀q∈c,p.1≠q.1):∃a,bf K k lo us Fb Hb a H G J cs/\aB F a/\∀p∈c,a p.1=some p.2:=by
 let⟨o,s,y,b,r,w⟩:=Pu.lay c W.g u n pl;refine⟨o,⟨s,λh=>y _ (W.z h),W.l,λi t h=>(W.e i t h).imp id λ⟨v,h1,h2⟩=>⟨v,h1,h2.mo (Le.of b) (λ_=>Le.refl _) t⟩,λi=>⟨(W.c i).h,λp m=>?_,(W.c i).nd⟩,W.n,W.d,W.p,W.x⟩,b,r⟩;rw[w p.1 λz=>?_]
 .exact (W.c i).f p m
 .obtain⟨q,mq,e⟩:=mem_map.mp z;exact d i p m q mq e.symm
theorem bf.fresh{t:Tr}{v:V}{c:Cs}{B:Bool->Hp}(W:bf K k lo us Fb Hb F H i G cs)(o:Out K F B H F' H' t v c):c8 Hb c/\∀j,∀p∈cs j,∀q∈c,p.1≠q.1:=
 ⟨λp m=>W.g.h.free (o.n p m),λj p a q b e=>by
  have:=(W.c j).h p a;rw[e,o.n q b] at this;cases this⟩
theorem bf.outF{i:Nat}{t:Tr}{v:V}{c:Cs}(W:bf K k lo us Fb Hb F H j G cs)(o:Out K F (Bq Hb H) H F' H' t v c)(l:lo<=i)(n:bF t=true):
  ∃a b,bf K k lo us Fb Hb a H' (j.set i (some v)) (G.set i (ay t)) b:=by
 ∎;let⟨p,f⟩:=W.fresh o;let⟨d,e,q,h⟩:=(W.gr o.g).lay o.c p (o.r.plain t) f;∎;exact⟨d,_,e.set l ((R.low (B':=λ_=>Hb) t n rfl o.r).ay (Le.of q) t h) .nil .nil λ_ _ _ _ _ m=>nomatch m⟩
theorem bf.held{t:Tr}{v:V}{c:Cs}(W:bf K k lo us Fb Hb F H j i cs)(o:Out K F (Bq Hb H) H F' H' t v c)(n:bF t=true):
  ∃a,bf K k lo us Fb Hb a H' j i cs/\R K a (λ_=>Hb) (ay t) v []:=by
 ∎;let⟨h,e⟩:=W.fresh o;let⟨b,d,l,f⟩:=(W.gr o.g).lay o.c h (o.r.plain t) e;∎;exact⟨b,d,(R.low (B':=λ_=>Hb) t n rfl o.r).ay (Le.of l) t f⟩
def pX(i:Nat)(pe:bc):cc:=λD j=>pe (j.map aG) λt=>bF t=true/\D.nx (j.set i (ay t))
theorem D8(g:lo<=i)(h:bD K k te pe):cO K k lo (kR te (jk i)) (pX i pe):=λus n d F H j G r D l W p L=>by
 refine h F (Bq d H) H j _ _ _ W.er p λt v m b c q o=>?_
 let⟨a,f,e⟩:=W.outF o g q.1;exact L.nx a b _ _ _ e q.2
abbrev eI:=Tr->ai->(aW)->Prop
def mX(K:ao)(k:Md)(lo:Nat)(l:TG)(pg:eI):Prop:=∀(us:aw)(d a F H:Hp)(j:St)(i:ai)(h:Nat->Cs)(x:V)(t:Tr)(Q:St->Hp->Prop)(e:aW),bf K k lo us d a F H j i h->R K F (λ_=>a) t x []->pg t i e->(∀g f b,bf K k lo us d a F H g f b->e f->Q g H)->l x j H Q
def qL(i:Nat):eI:=λt j Q=>Q (j.set i t)
theorem N2(a:lo<=i):mX K k lo (jk i) (qL i):=λus b d F H j G f x t Q e W r p q=>q _ _ _ (W.set a r .nil .nil λ_ _ _ _ _ m=>nomatch m) p
def qU(K:ao)(k:Md)(lo:Nat)(n:mB)(pg:ai->ai->(aW)->Prop):Prop:=∀(us:aw)(d a F H:Hp)(j:St)(i:ai)(m:Nat->Cs)(l:aw)(h:ai)(Q:St->Hp->Prop)(e:aW),bf K k lo us d a F H j i m->Rs K F (λ_=>a) h l []->pg h i e->(∀g f b,bf K k lo us d a F H g f b->e f->Q g H)->n l j H Q
def nk:ai->ai->(aW)->Prop:=λa j Q=>match a with |[]=>Q j |_=>False
def mS(pg:eI)(b:ai->ai->(aW)->Prop):ai->ai->(aW)->Prop:=λd j Q=>match d with |t::r=>pg t j λa=>b r a Q |[]=>False
theorem GX:qU K k lo wu nk:=λus b d F H j i a g f Q e W r p q=>by
 unfold nk at p;split at p
 .exact⟨r.1,q j i a W p⟩
 .exact p.elim
theorem Rp(h:mX K k lo tg pg)(h':qU K k lo tr pr):qU K k lo (yN tg tr) (mS pg pr):=λus b f F H j i m x u Q g W r p q=>by
 unfold mS at p;split at p
 .obtain⟨v,w,c,d,h1,h2,h3,h4⟩:=r;have e:=append_eq_nil_iff.mp h2.symm;rw[e.1] at h3;rw[e.2] at h4;exact⟨v,w,h1,h us b f F H j i m v _ _ _ W h3 p λo n a l s=>h' us b f F H o n a w _ Q g l h4 s q⟩
 .exact p.elim
def lI(n:Nat)(b:ai->ai->(aW)->Prop):eI:=λt j Q=>match t with |.aF a=>a.length=n/\b a j Q |_=>False
theorem Wt(h:qU K k lo tr pr):mX K k lo (vd K n tr) (lI n pr):=λus b d F H j i f x t Q e W r p q=>by
 unfold lI at p;split at p
 .obtain⟨a,vs,rfl,h1,h2⟩:=r.dc W.g.s;exact⟨a,vs,rfl,h1,h2.length.trans p.1,h us b d F H j i f vs _ Q e W h2 p.2 q⟩
 .exact p.elim
def xR(pe:bc)(pg:eI):cc:=λD j=>pe (j.map aG) λt=>bF t=true/\pg (ay t) j D.nx
theorem HG(h:bD K k te pe)(n:mX K k lo tg pg):cO K k lo (kR te tg) (xR pe pg):=λus f e F H j i m D w W p L=>by
 refine h F (Bq e H) H j _ _ _ W.er p λt v x d c q o=>?_
 let⟨b,l,r2⟩:=W.held o q.1;exact n us f e b d j i m v _ _ _ l r2 q.2 λs r a g u=>L.nx b d s r a g u
def wH(i j:Nat)(d:b6):cc:=λD G=>d (G.map aG) λe=>match e with |[a,b]=>bF a=true/\bF b=true/\D.nx ((G.set i (ay a)).set j (ay b)) |_=>False
theorem Ke{i j:Nat}{l:TA}{d:b6}(z:lo<=i)(A:lo<=j)(h:eM K k l d):cO K k lo (y9 i j l) (wH i j d):=λus O a F H G J x D M W p L=>by
 refine h F (Bq a H) H G _ _ _ W.er p λQ vs N u c q o=>?_
 split at q
 .obtain⟨v,r,c1,d1,h1,h2,h3,v',r',c2,d2,g1,g2,g3,g4,g5⟩:=o.r;have E:c8 a c:=λp m=>W.g.h.free (o.n p m)
  have y:∀j,∀p∈x j,∀q∈c,p.1≠q.1:=λj p B q C e=>by
   have:=(W.c j).h p B;rw[e,o.n q C] at this;cases this
  have I:Plain c:=Rs.plain _ o.r;let⟨s,w,f,b⟩:=(W.gr o.g).lay o.c E I y;refine⟨v,v',by rw[h1,g1,g4],L.nx s u _ _ _ ((w.set z ((R.low (B':=λ_=>a) _ q.1 rfl h3).ay (Le.of f) _ λp m=>b p (by rw[h2];exact mem_append.mpr (.inl m))) .nil .nil λ_ _ _ _ _ m=>nomatch m).set A ((R.low (B':=λ_=>a) _ q.2.1 rfl g3).ay (Le.of f) _ λp m=>b p (by rw[h2,g2];exact mem_append.mpr (.inr (mem_append.mpr (.inl m))))) .nil .nil λ_ _ _ _ _ m=>nomatch m) q.2.2⟩
 .exact q.elim
end
def T1(J:It)(n:Nat)(h:Hp->Prop)(Y:Nat->Hp->V->Hp->Prop):Prop:=∀(g:TG)(tb:TS)(D:iq)(j:St)(H:Hp)(Pv:Nat->St->Hp->Prop),Pv 0 j H->(∀i j H,i<=n->Pv i j H->h H)->
 (∀i x j H a,i<n->Pv i j H->Y i H x a->g x j a λd b=>tb { D with nx:=Pv (i+1),ct:=Pv (i+1),bk:=D.nx } d b)->(∀j H,Pv n j H->D.nx j H)->
 ∃W:Nat->Nat->St->Hp->Prop,(∃m,W 0 m j H)/\∀i m j H,W i m j H->
  (J.stop i H/\D.nx j H)\/(J.go i H/\∃N:St->Hp->Prop,(∀e a,N e a->∃f,f<m/\W (i+1) f e a)/\∀x a,J.kr i H x a->g x j a λd b=>tb { D with nx:=N,ct:=N,bk:=D.nx } d b)
theorem xY{j:Type}{xs:List j}{i:Nat}{x:j}(h:xs[i]?=some x):i<xs.length:=(List.getElem?_eq_some_iff.mp h).1
structure fQ(J:It)(n:Nat)(Kp:Hp->Prop)(Y:Nat->Hp->V->Hp->Prop):Prop where
 go:∀i H,i<n->Kp H->J.go i H
 st:∀H,Kp H->J.stop n H
 yl:∀i H x H',i<n->Kp H->J.kr i H x H'->Y i H x H'
theorem fQ.runs(o:fQ J n Kp Y):T1 J n Kp Y:=λg tb D j H Pv h f l hd=>by
 refine⟨λi m j H=>m=n - i/\i<=n/\Pv i j H,⟨n,by simp,zero_le _,h⟩,?_⟩;rintro i m j H ⟨rfl,d,p⟩;by_cases a:i<n
 .exact .inr ⟨o.go i H a (f i j H d p),Pv (i+1),λr b q=>⟨n - (i+1),⋯,rfl,a,q⟩,λx b y=>l i x j H b a p (o.yl i H x b a (f i j H d p) y)⟩
 .have e:i=n:=⋯
  subst e;exact .inl ⟨o.st H (f i j H d p),hd j H p⟩
theorem nK{j:Type}{xs:List j}{i:Nat}(h:i<xs.length):∃x,xs[i]?=some x:=⟨_,getElem?_eq_getElem h⟩
theorem Uo{K:ao}{a:af}{xs:aw}:fQ (sN K a) xs.length (λH=>bC K H a xs) (λi H x b=>xs[i]?=some x/\b=H):=
 ⟨λi H h q=>by let⟨x,e⟩:=nK h;exact⟨xs,x,q,e⟩,λH q=>⟨xs,q,le_refl _⟩,λi H x b h q y=>⟨y.2 xs q,y.1⟩⟩
theorem Tg:fQ (mO l n) n (λ_=>True) (λi H x a=>x=.int (l+i)/\a=H):=⟨λi H h _=>h,λH _=>le_refl _,λi H x a h _ y=>⟨y.2,y.1⟩⟩
theorem KD:fQ (uC l c n) n (λ_=>True) (λi H x a=>x=.int (l+i*c)/\a=H):=⟨λi H h _=>h,λH _=>le_refl _,λi H x a h _ y=>⟨y.2,y.1⟩⟩
theorem TU{K:ao}{a:af}{xs:aw}:fQ (tH K a) xs.length (λH=>bC K H a xs) (λi H y b=>∃x p,xs[i]?=some x/\y=.ref p/\H p=none/\b=aR H p (.aF [.int i,x])):=
 ⟨λi H h q=>by let⟨x,e⟩:=nK h;exact⟨xs,x,q,e⟩,λH q=>⟨xs,q,le_refl _⟩,λi H y b h q z=>by let⟨p,x,d,f,g,j⟩:=z;exact⟨x,p,g xs q,d,f,j⟩⟩
theorem G6{K:ao}{a b:af}{xs ys:aw}:fQ (tM K a b) (min xs.length ys.length) (λH=>bC K H a xs/\bC K H b ys) (λi H z d=>∃x y p,xs[i]?=some x/\ys[i]?=some y/\z=.ref p/\H p=none/\d=aR H p (.aF [x,y])):=
 ⟨λi H h q=>by let⟨x,e⟩:=nK (xs:=xs) (i:=i) ⋯;let⟨y,f⟩:=nK (xs:=ys) (i:=i) ⋯;exact⟨xs,ys,x,y,q.1,q.2,e,f⟩,λH q=>⟨xs,ys,q.1,q.2,⋯⟩,λi H z d h q y=>by let⟨p,x,y,g,j,l,m,n⟩:=y;exact⟨x,y,p,l xs q.1,m ys q.2,g,j,n⟩⟩
def Src(K:ao)(B:Bool->Hp)(F:Hp)(J:It)(g:ai):Prop:=∃(f:Hp->Prop)(Y:Nat->Hp->V->Hp->Prop),fQ J g.length f Y/\(∀b a,Le F b->aB b a->(∀k,aB (B k) a)->f a)/\
 ∀i t b a x e,g[i]?=some t->Le F b->aB b a->(∀k,aB (B k) a)->Y i a x e->∃d,Gr b a d e/\R K d B t x []
section
abbrev iJ:=ai->(ai->Bool->Prop)->Prop
def kf(K:ao)(k:Md)(m:TI)(l:iJ):Prop:=∀(F:Hp)(B:Bool->Hp)(H:Hp)(j:St)(i:ai)(g:It->Hp->Prop)(f:ai->Bool->Prop),gY K k F B H j i->l i f->
 (∀b h J a e,f b h->Gr F H a e->Src K B a J b->(h=true->∀d:Bool->Hp,d false=B false->Src K d a J b)->g J e)->m j H g
theorem _root_.Vc.Gr.base(g:Gr Fb Hb F1 H1)(g':Gr F1 Hb F H):Gr Fb Hb F H:=
 Gr.of ⟨g'.h,g.f.trans g'.f,g'.s,λa u e z=>by
  cases q:F1 a with
  |some w=>exact g.n a w q z
  |none=>exact g'.n a u e q⟩ (g'.fz g.z)
theorem bf.base(a:bf K k lo us Fb Hb F1 H1 j0 i0 cs0)(W:bf K k lo us F1 Hb F H j i cs):bf K k lo us Fb Hb F H j i cs:=⟨a.g.base W.g,W.z,W.l,W.e,W.c,W.n,W.d,W.p,a.x⟩
theorem bf.rebase(W:bf K k lo us Fb Hb F H j i cs):bf K k lo us F Hb F H j i cs:=⟨⟨⟨W.g.h,aB.refl F,W.g.s,λa u e z=>by rw[e] at z;cases z⟩,Fz.refl F⟩,W.z,W.l,W.e,W.c,W.n,W.d,W.p,λb o f m q g=>W.x b o f m q (W.g.base g)⟩
theorem Lk.rebase(b:bf K k lo us Fb Hb F1 H1 j0 i0 cs0)(L:Lk K k lo us Fb Hb D D'):Lk K k lo us F1 Hb D D':=
 ⟨λF H j i a W=>L.nx F H j i a (b.base W),λF H j i a v t c W=>L.rt F H j i a v t c (b.base W),λF H j i a W=>L.bk F H j i a (b.base W),λF H j i a W=>L.ct F H j i a (b.base W)⟩
def yp(f:iJ)(pg:eI)(e:cc):cc:=λD j=>f (j.map aG) λa d=>d=true/\∃I:Nat->aW,I 0 j/\(∀i t j,a[i]?=some t->I i j->pg t j λb=>e { D with nx:=I (i+1),ct:=I (i+1),bk:=D.nx } b)/\∀j,I a.length j->D.nx j
theorem Ol(d:kf K k wi pi)(Q:mX K k lo tg pg)(O:cO K k lo tb pb):cO K k lo (xV wi tg tb) (yp pi pg pb):=λus Fb b F H j G a D D' W p L=>by
 refine d F (Bq b H) H j _ _ _ W.er p λA nl J e C q M _ u=>?_
 have w:=W.gr M;∎;let⟨o,I,U,step,n⟩:=q;let⟨Kp,Y,r,kp,yl⟩:=u o (λ_=>b) rfl;∎;have run:=r.runs;have l:=L.rebase w;refine run tg tb D j C (λi j H=>∃F G a,bf K k lo us e b F H j G a/\I i G) ⟨e,G,a,w.rebase,U⟩ ?_ ?_ ?_
 .rintro i j H d ⟨F,G,a,W,_⟩;exact kp F H (Le.of W.g.f) W.g.s λ_=>W.g.h
 .rintro i x j H H' d ⟨F,G,a,W,ii⟩ y;have z:A[i]?=some (A[i]'d):=getElem?_eq_getElem d;let⟨v,N,r2⟩:=yl i _ F H x H' z (Le.of W.g.f) W.g.s (λ_=>W.g.h) y;refine Q us e b v H' j G a x _ _ _ (W.gr N) r2 (step i _ G z ii) λj' B m E p'=>?_
  exact O us e b v H' j' B m _ _ E p' ⟨λF H j G a W q=>⟨F,G,a,W,q⟩,l.rt,l.nx,λF H j G a W q=>⟨F,G,a,W,q⟩⟩
 .rintro j H ⟨F,G,a,W,q⟩;exact l.nx F H j G a W (n G q)
theorem Ro(l:Le F F')(s:aB F' H')(h:bC K F a vs):bC K H' a vs:=s.seq (l.ag h)
theorem jV(r:R K F B (.ag f xs) v []):∃a vs,v=.ref a/\Rs K F B xs vs []/\∀g d,Le F g->aB g d->(∀k,aB (B k) d)->bC K d a vs:=by
 cases f with
 |f=>let⟨_,a,vs,h,e,i⟩:=r;exact⟨a,vs,h,i,λg d l s b=>Ro l s e⟩
 |l q=>let⟨_,a,vs,h,e,i⟩:=r;exact⟨a,vs,h,i,λg d l s b=>(b q).seq e⟩
 |o=>let⟨a,vs,j,h,e,i⟩:=r;cases e
theorem Rs.de{xs:ai}{vs:aw}{i:Nat}{t:Tr}(r:Rs K F B xs vs [])(h:xs[i]?=some t):∃u,vs[i]?=some u/\R K F B t u []:=by
 let⟨u,c,b,a,d⟩:=r.at h;have e:c=[]:=List.eq_nil_iff_forall_not_mem.mpr λp m=>nomatch d p m
 rw[e] at a;exact⟨u,b,a⟩
theorem zj{a:af}{f:Fl}{xs:ai}(r:R K F B (.ag f xs) (.ref a) []):Src K B F (sN K a) xs:=by
 let⟨v,vs,n,d,o⟩:=jV r;cases n;refine⟨_,_,d.length ▸ Uo (K:=K) (a:=a) (xs:=vs),o,λi t g q x h p l s b y=>?_⟩;∎;let⟨e,rfl⟩:=y;let⟨u,j,m⟩:=d.de p;∎;rw[j] at e;cases e;exact⟨g,Gr.aP s,m.mo l (λ_=>Le.refl _) t⟩
theorem Ef{a:af}{f:Fl}{xs:ai}(r:R K F B (.ag f xs) (.ref a) []):Src K B F (tH K a) (xs.mapIdx λi x=>.aF [.int i,x]):=by
 let⟨E,vs,v,e,w⟩:=jV r;cases v;refine⟨_,_,(by rw[List.length_mapIdx,<- e.length];exact TU (K:=K) (a:=a) (xs:=vs)),w,λi t C D x m d l s b y=>?_⟩;let⟨z,p,h,rfl,A,rfl⟩:=y;rw[List.getElem?_mapIdx] at d;cases q:xs[i]? with
 |none=>rw[q] at d;cases d
 |some u=>
  rw[q] at d;cases d;let⟨G,n,o⟩:=e.de q;rw[n] at h;cases h;let⟨j,g,r2,_⟩:=rb (xs:=[.int i,u]) (cs:=[]) s ⟨.int i,[z],[],[],rfl,rfl,⟨rfl,rfl⟩,z,[],[],[],rfl,rfl,o.mo l (λ_=>Le.refl _) u,rfl,rfl⟩ .nil A;exact⟨j,g,r2⟩
theorem zZ{a e:af}{f I:Fl}{xs ys:ai}(r:R K F B (.ag f xs) (.ref a) [])(U:R K F B (.ag I ys) (.ref e) []):Src K B F (tM K a e) (xs.zipWith (λx y=>.aF [x,y]) ys):=by
 ∎;let⟨_,vs,O,n,Q⟩:=jV r;let⟨_,us,M,m,N⟩:=jV U;∎;cases O;cases M;refine⟨(λH=>bC K H a vs/\bC K H e us),_,(by rw[List.length_zipWith,<- n.length,<- m.length];exact G6 (K:=K) (a:=a) (b:=e) (xs:=vs) (ys:=us)),λh j l s b=>⟨Q h j l s b,N h j l s b⟩,λi t h j x D d l s b y=>?_⟩;let⟨z,A,p,v,w,rfl,y3,rfl⟩:=y;rw[List.getElem?_zipWith] at d;cases q:xs[i]? with
 |none=>rw[q] at d;cases d
 |some u=>
  cases q':ys[i]? with
  |none=>rw[q,q'] at d;cases d
  |some o=>
   rw[q,q'] at d;cases d;∎;let⟨u',E,G⟩:=n.de q;let⟨Y,J,L⟩:=m.de q';∎;rw[E] at v;rw[J] at w;cases v;cases w;let⟨C,g,r2,_⟩:=rb (xs:=[u,o]) (cs:=[]) s ⟨z,[A],[],[],rfl,rfl,G.mo l (λ_=>Le.refl _) u,A,[],[],[],rfl,rfl,L.mo l (λ_=>Le.refl _) o,rfl,rfl⟩ .nil y3;exact⟨C,g,r2⟩
theorem Fu{l c:Int}{n:Nat}:Src K B F (uC l c n) ((List.range n).map λ(i:Nat)=>.int (l+i*c)):=by
 refine⟨_,_,(by rw[length_map,length_range];exact KD (l:=l) (c:=c) (n:=n)),λ_ _ _ _ _=>True.intro,λi t e g x f a h s b y=>?_⟩;let⟨rfl,rfl⟩:=y;rw[getElem?_map] at a;cases q:(List.range n)[i]? with
 |none=>rw[q] at a;cases a
 |some u=>
  rw[q] at a;cases a;have d:=xY q;rw[length_range] at d;rw[getElem?_range d] at q;cases q;exact⟨e,Gr.aP s,rfl,rfl⟩
theorem yQ{l:Int}{n:Nat}:Src K B F (mO l n) ((List.range n).map λ(i:Nat)=>.int (l+i)):=by
 refine⟨_,_,(by rw[length_map,length_range];exact Tg (l:=l) (n:=n)),λ_ _ _ _ _=>True.intro,λi t e g x f a h s b y=>?_⟩;let⟨rfl,rfl⟩:=y;rw[getElem?_map] at a;cases q:(List.range n)[i]? with
 |none=>rw[q] at a;cases a
 |some u=>
  rw[q] at a;cases a;have d:=xY q;rw[length_range] at d;rw[getElem?_range d] at q;cases q;exact⟨e,Gr.aP s,rfl,rfl⟩
theorem Out.held{t:Tr}{v:V}{c:Cs}(o:Out K F B H F' H' t v c):∃a,Gr F H a H'/\R K a B (ay t) v []:=by
 let⟨b,e,_,f,d,_⟩:=Pu.lay c o.g o.c o.n (o.r.plain t);exact⟨b,e,o.r.ay (Le.of f) t d⟩
theorem eF.held{t:ai}{v:aw}{c:Cs}(o:eF K F B H F' H' t v c):∃a,Gr F H a H'/\Rs K a B (bp t) v []:=by
 let⟨b,e,_,f,d,_⟩:=Pu.lay c o.g o.c o.n (o.r.plain t);exact⟨b,e,o.r.ay (Le.of f) t d⟩
def g9(t:Tr)(Q:aW):Prop:=match t with |.ag _ a=>Q a |_=>False
theorem q0{Q:aW}(h:g9 t Q):∃f xs,t=.ag f xs/\Q xs:=by
 unfold g9 at h;split at h
 .exact⟨_,_,rfl,h⟩
 .exact h.elim
def wc(pe:bc):iJ:=λj Q=>pe j λt=>g9 (ay t) λa=>Q a (bF (ay t))
theorem VG(h:bD K k te pe):kf K k (AO K te) (wc pe):=λF B H j i x w c p q=>by
 refine h F B H j i _ _ c p λt v u l y p1 o=>?_
 ∎;let⟨g,d,r2⟩:=o.held;let⟨f,z,e,p1⟩:=q0 p1;∎;rw[e] at r2 p1;let⟨a,vs,rfl,_,n⟩:=jV r2;exact⟨a,rfl,⟨vs,n g l (Le.refl _) d.s λk=>(c.b k).trans d.h⟩,q _ _ _ g l p1 d (zj r2) λhn r m=>zj (R.low _ hn m.symm r2)⟩
def mY(a:ai)(Q:az):Prop:=match a with |[t]=>Q t |_=>False
theorem zo{Q:az}(h:mY ts Q):∃t,ts=[t]/\Q t:=by
 unfold mY at h;split at h
 .exact⟨_,rfl,h⟩
 .exact h.elim
def vO(a:b6):iJ:=λj Q=>a j λb=>mY b λt=>g9 (ay t) λd=>Q (d.mapIdx λi x=>.aF [.int i,x]) (bF (ay t))
theorem L0(h:eM K k ta pa):kf K k (EA K ta) (vO pa):=λF B H j i C A c p q=>by
 refine h F B H j i _ _ c p λE vs z m D p1 o=>?_
 ∎;let⟨t,rfl,p1⟩:=zo p1;let⟨v,rfl,x⟩:=o.r.one;let⟨l,d,r2⟩:=Out.held ⟨o.g,x,o.c,o.n⟩;let⟨f,G,e,p1⟩:=q0 p1;∎;rw[e] at r2 p1;let⟨a,vs,rfl,_,w⟩:=jV r2;exact⟨a,rfl,⟨vs,w l m (Le.refl _) d.s λk=>(c.b k).trans d.h⟩,q _ _ _ l m p1 d (Ef r2) λhn y u=>Ef (R.low _ hn u.symm r2)⟩
def lQ(a:ai)(Q:Tr->az):Prop:=match a with |[t,u]=>Q t u |_=>False
theorem M0{Q:Tr->az}(h:lQ ts Q):∃t u,ts=[t,u]/\Q t u:=by
 unfold lQ at h;split at h
 .exact⟨_,_,rfl,h⟩
 .exact h.elim
theorem Rs.two(r:Rs K F B [t,u] xs cs):∃v w c d,xs=[v,w]/\R K F B t v c/\R K F B u w d/\cs=c++d:=by
 let⟨v,r,c,d,g,h,i,j,m,b,l,e,a,f,rfl,rfl⟩:=r;rw[append_nil] at a;exact⟨v,j,c,b,by rw[g,e],i,f,by rw[h,a]⟩
def xU(a:b6):iJ:=λj Q=>a j λb=>lQ b λt u=>g9 (ay t) λd=>g9 (ay u) λe=>Q (d.zipWith (λx y=>.aF [x,y]) e) (bF (ay t)&&bF (ay u))
theorem Jh(h:eM K k ta pa):kf K k (Ej K ta) (xU pa):=λF B H j i I G c p q=>by
 refine h F B H j i _ _ c p λO vs E d J p1 o=>?_
 ∎;let⟨t,u,rfl,p1⟩:=M0 p1;let⟨l,g,r2⟩:=o.held;let⟨v,w,L,M,rfl,r3,r4,e⟩:=Rs.two r2;∎;have z:=append_eq_nil_iff.mp e.symm;rw[z.1] at r3;rw[z.2] at r4;∎;let⟨f,Q,x,p1⟩:=q0 p1;let⟨N,U,y,p1⟩:=q0 p1;∎;rw[x] at r3 p1;rw[y] at r4 p1;∎;let⟨a,vs,rfl,_,C⟩:=jV r3;let⟨r,us,rfl,_,A⟩:=jV r4;∎;have m:∀k,aB (B k) d:=λk=>(c.b k).trans g.h
 refine⟨a,r,rfl,⟨vs,C l d (Le.refl _) g.s m⟩,⟨us,A l d (Le.refl _) g.s m⟩,q _ _ _ l d p1 g (zZ r3 r4) λhn D n=>?_⟩;rw[and_eq_true] at hn;exact zZ (R.low _ hn.1 n.symm r3) (R.low _ hn.2 n.symm r4)
def tJ(a:ai)(Q:Int->Prop):Prop:=match a with |[.int i]=>Q i |_=>False
def wy(a:b6):iJ:=λG Q=>a G λb=>tJ b λj=>-1000000<=j/\j<=1000000/\Q ((List.range j.toNat).map λ(i:Nat)=>.int i) true
theorem Oo(h:eM K k ta pa):kf K k (BE ta) (wy pa):=λF B H G J m f c p q=>by
 refine h F B H G J _ _ c p λu vs a e s p1 o=>?_
 unfold tJ at p1;split at p1
 .rename_i j;let⟨v,rfl,rfl,_⟩:=o.r.one;have b:∀B,Src K B a (mO 0 j.toNat) ((List.range j.toNat).map λ(i:Nat)=>.int i):=λB=>by
   have:=yQ (K:=K) (B:=B) (F:=a) (l:=0) (n:=Int.toNat j);simp only[Int.zero_add] at this;exact this
  exact⟨_,rfl,⋯,⋯,q _ _ _ a e p1.2.2 o.g (b B) λ_ d _=>b d⟩
 .exact p1.elim
def sj(a:ai)(Q:Int->Int->Prop):Prop:=match a with |[.int i,.int j]=>Q i j |_=>False
def wN(a:b6):iJ:=λG Q=>a G λb=>sj b λi j=>(-1000000<=i/\i<=1000000/\-1000000<=j/\j<=1000000)/\Q ((List.range (j - i).toNat).map λ(n:Nat)=>.int (i+n)) true
theorem Sy(h:eM K k ta pa):kf K k (FW ta) (wN pa):=λF B H j i f e c p q=>by
 refine h F B H j i _ _ c p λm vs a b l p1 o=>?_
 unfold sj at p1;split at p1
 .obtain⟨v,w,d1,d2,rfl,⟨rfl,_⟩,⟨rfl,_⟩,_⟩:=o.r.two;exact⟨_,_,rfl,⟨⋯,⋯,⋯,⋯⟩,q _ _ _ a b p1.2 o.g yQ λ_ d _=>yQ⟩
 .exact p1.elim
end
section
theorem bf.mut{i:Nat}(W:bf K k lo us Fb Hb F H G J cs)(N:G[i]?=some (some v))(e:(a,o)∈cs i)(hd:aq F H ds')(hn:c8 Hb ds')(E:∀p∈ds',p.1≠a)(C:∀j,j≠i->∀p∈ds',∀q∈cs j,p.1≠q.1)(B:c'.Perm ((a,o')::ds'))(O:R K F (λ_=>Hb) t' v c'):
  bf K k lo us Fb Hb F (aR H a o') G (J.set i t') (λj=>if j=i then c' else cs j):=by
 have I:=W.n i _ e;have D:=(W.c i).f _ e;have b:∀j,j≠i->∀p∈cs j,p.1≠a:=λj C p m z=>W.d j i C p m _ e z
 refine⟨⟨⟨W.g.h.ny I,W.g.f,W.g.s.ny D,W.g.n⟩,W.g.z⟩,W.z,by rw[length_set];exact W.l,λj u h=>?_,λj=>?_,λj=>?_,λx y ne p w q r=>?_,W.p,W.x⟩
 .by_cases ej:j=i
  .subst ej;have M:j<J.length:=by have:=(List.getElem?_eq_some_iff.mp h).1;rw[length_set] at this;exact this
   rw[getElem?_set_self M] at h;cases h;exact .inr ⟨v,N,by rw[if_pos rfl];exact O⟩
  .rw[getElem?_set_ne (λz=>ej z.symm)] at h;rw[if_neg ej];exact W.e j u h
 .split
  .refine⟨λp m=>?_,λp m=>?_,?_⟩
   .rcases mem_cons.mp (B.mem_iff.mp m) with rfl |m
    .exact cq
    .rw[ba (E p m)];exact hd.h p m
   .rcases mem_cons.mp (B.mem_iff.mp m) with rfl |m
    .exact D
    .exact hd.f p m
   .refine ((B.map (·.1)).nodup_iff).mpr ?_;rw[map_cons,nodup_cons];refine⟨λm=>?_,hd.nd⟩;let⟨p,w,e⟩:=mem_map.mp m;exact E p w e
  .rename_i ej;exact⟨λp m=>by rw[ba (b j ej p m)];exact (W.c j).h p m,(W.c j).f,(W.c j).nd⟩
 .split
  .intro p m;rcases mem_cons.mp (B.mem_iff.mp m) with rfl |m
   .exact I
   .exact hn p m
  .exact W.n j
 .have key:∀p,p∈c'->∀y,y≠i->∀q∈cs y,p.1≠q.1:=λp m y L q r=>by
   rcases mem_cons.mp (B.mem_iff.mp m) with rfl |m
   .exact (b y L q r).symm
   .exact C y L p m q r
  by_cases ex:x=i
  .have A:y≠i:=λz=>ne (ex.trans z.symm)
   rw[if_pos ex] at w;rw[if_neg A] at r;exact key p w y A q r
  .rw[if_neg ex] at w;by_cases A:y=i
   .rw[if_pos A] at r;exact (key q r x ex p w).symm
   .rw[if_neg A] at r;exact W.d x y ne p w q r
def adc(f:Str)(u:Tr):bz->bz
 |[]=>[]
 |(g,x)::r=>if g=f then (g,u)::r else (g,x)::adc f u r
def cN(t:Tr):ah->Tr
 |[]=>t
 |f::r=>match cN t r with |.ins .o _ fs=>(fs.lookup f).getD .ax |_=>.ax
def ia(t:Tr):ah->Tr->Tr
 |[],u=>u
 |f::r,u=>ia t r (match cN t r with |.ins .o c fs=>.ins .o c (adc f u fs) |y=>y)
def mE(K:ao)(t:Tr):ah->Prop
 |[]=>True
 |f::r=>mE K t r /\ (match cN t r with |.ins .o c fs=>(gn K c /\ bg K c f) /\ (fs.lookup f).isSome=true |_=>False)
def tR(K:ao)(i:Nat):ah->TE
 |[]=>f6 i
 |f::r=>uU K (tR K i r) f
theorem Rf.at:∀{fs:bz}{vs:List (Str×V)}{n:Cs}{f:Str}{x:Tr},Rf K F B fs vs n->fs.lookup f=some x->∃w c pre a,vs.lookup f=some w/\R K F B x w c/\n=pre++c++a/\∀b,Le F b->∀u d,R K b B u w d->Rf K b B (adc f u fs) vs (pre++d++a)
 |(g,y)::fs,_,_,f,x,y0,h=>by
  let⟨v,r,c,d,j,o,p,q⟩:=y0;by_cases e:g=f
  .subst e;rw[List.lookup_cons_self] at h;cases h;refine⟨v,c,[],d,by rw[j,List.lookup_cons_self],p,by rw[o];rfl,λb l u i m=>?_⟩;unfold adc;rw[if_pos rfl];exact⟨v,r,i,d,j,rfl,m,q.mo l (λ_=>Le.refl _) fs⟩
  .have e':(f == g)=false:=by simpa using λz=>e z.symm
   rw[lookup_cons,e'] at h;let⟨w,E,pre,a,s,A,C,D⟩:=Rf.at (fs:=fs) q h;refine⟨w,E,c++pre,a,by rw[j,lookup_cons,e'];exact s,A,by rw[o,C];simp only[append_assoc],λb l u i m=>?_⟩;unfold adc;rw[if_neg e];exact⟨v,r,c,pre++i++a,j,by simp only[append_assoc],p.mo l (λ_=>Le.refl _) y,D b l u i m⟩
theorem place{B:Bool->Hp}(s:aB F H)(b:∀k,aB (B k) H)(M:j[i]?=some (some v))(O:R K F B t v c0)(L:aq F H c0):∀(r:ah),mE K t r->∃w c rest,c0.Perm (c++rest)/\R K F B (cN t r) w c/\(∀g,Le F g->∀u d,R K g B u w d->∃p,R K g B (ia t r u) v p/\p.Perm (d++rest))/\∀Q:VK,Q w H->tR K i r j H Q
 |[],_=>⟨v,c0,[],by rw[append_nil],O,λg l u d G=>⟨d,G,by rw[append_nil]⟩,λQ q=>⟨v,M,q⟩⟩
 |f::r,ok=>by
  let⟨w,c,rest,p1,U,cl,rd⟩:=place s b M O L r ok.1;have A:=ok.2;split at A
  .rename_i C fs eg;∎;let⟨⟨vG,D⟩,E⟩:=A;let⟨x,N⟩:=Option.isSome_iff_exists.mp E;∎;rw[eg] at U;∎;let⟨a,m,vs,ds,I,J,h3⟩:=U;let⟨z,n,pre,e,Y,a2,a3,a4⟩:=h3.at N;∎;have hm:(a,HO.ins C m vs)∈c0:=p1.mem_iff.mpr (mem_append.mpr (.inl (by rw[J];exact .head _)));refine⟨z,n,(a,.ins C m vs)::(pre++e++rest),?_,?_,λg l u d G=>?_,λQ q=>?_⟩
   .refine p1.trans ?_;rw[J,a3];show List.Perm ((a,HO.ins C m vs)::((pre++n++e)++rest)) _;refine List.Perm.trans (List.Perm.cons _ ?_) (List.perm_middle.symm);rw[append_assoc pre n e,<- append_assoc,<- append_assoc,<- append_assoc];refine List.Perm.append_right _ ?_;refine List.Perm.append_right _ ?_;exact List.perm_append_comm
   .show R K F B (match cN t r with |.ins .o _ fs=>(fs.lookup f).getD .ax |_=>.ax) z n;rw[eg];show R K F B ((fs.lookup f).getD .ax) z n;rw[N];exact a2
   .obtain⟨p,b1,b2⟩:=cl g l (.ins .o C (adc f u fs)) ((a,.ins C m vs)::(pre++d++e)) ⟨a,m,vs,_,I,rfl,a4 g l u d G⟩;refine⟨p,?_,b2.trans ?_⟩
    .show R K g B (ia t r (match cN t r with |.ins .o c fs=>.ins .o c (adc f u fs) |y=>y)) v p;rw[eg];exact b1
    .show List.Perm ((a,HO.ins C m vs)::((pre++d++e)++rest)) _;refine List.Perm.trans (List.Perm.cons _ ?_) (List.perm_middle.symm);rw[append_assoc pre d e,<- append_assoc,<- append_assoc,<- append_assoc];refine List.Perm.append_right _ ?_;refine List.Perm.append_right _ ?_;exact List.perm_append_comm
   .exact rd _ ⟨a,C,m,vs,z,I,Rd.of (L.h _ hm),vG,D,Y,q⟩
  .exact A.elim
theorem bf.at(W:bf K k lo us Fb Hb F H G J cs)(ht:J[i]?=some t)(hn:t≠.ax)(r:ah)(ok:mE K t r):∃w c,R K F (λ_=>Hb) (cN t r) w c/\(∀p∈c,p∈cs i)/\aq F H c/\(∀Q:VK,Q w H->tR K i r G H Q)/\
  ∀b B,bf K k lo us Fb Hb b B G J cs->Le F b->∀(a:af)(o o':HO)(A ds' e:Cs)(u:Tr)(d:Cs),c=(a,o)::A->ds'.Sublist A->aq b B e->c8 Hb e->(∀j,∀p∈cs j,∀q∈e,p.1≠q.1)->d.Perm ((a,o')::(ds'++e))->R K b (λ_=>Hb) u w d->∃I,bf K k lo us Fb Hb b (aR B a o') G (J.set i (ia t r u)) I:=by
 rcases W.e i t ht with z |⟨v,Y,rv⟩
 .exact absurd z hn
 .obtain⟨w,c,rest,p1,r1,cl,rd⟩:=place W.g.s (λ_=>W.g.h) Y rv (W.c i) r ok;have sub:∀{F H:Hp},aq F H (cs i)->aq F H (c++rest):=λh=>⟨λp m=>h.h p (p1.mem_iff.mpr m),λp m=>h.f p (p1.mem_iff.mpr m),((p1.map (·.1)).nodup_iff).mp h.nd⟩
  refine⟨w,c,r1,λp m=>p1.mem_iff.mpr (mem_append.mpr (.inl m)),(sub (W.c i)).left,rd,λb B y l a o o' A ds' e u d L sl he M x pd ru=>?_⟩;let⟨c1,b1,b2⟩:=cl b l u d ru;have U:=sub (y.c i);rw[L] at U;have O:(a,o)∈cs i:=p1.mem_iff.mpr (mem_append.mpr (.inl (by rw[L];exact .head _)));have D:(a ∉ (A++rest).map (·.1))/\((A++rest).map (·.1)).Nodup:=nodup_cons.mp U.nd;have N:(ds'++rest).Sublist (A++rest):=sl.append_right rest;have C:∀p∈ds'++rest,p∈cs i:=λp m=>p1.mem_iff.mpr (by rw[L];exact .tail _ (N.subset m))
  have c3:aq b B (ds'++rest):=⟨λp m=>(y.c i).h p (C p m),λp m=>(y.c i).f p (C p m),List.Sublist.nodup (N.map _) D.2⟩
  refine⟨_,y.mut (o:=o) (o':=o') (ds':=(ds'++rest)++e) Y O (c3.app he λp mp q E=>x i p (C p mp) q E) ?_ ?_ ?_ (b2.trans ((pd.append_right rest).trans ?_)) b1⟩
  .exact λp m=>(mem_append.mp m).elim (λm=>y.n i p (C p m)) (M p)
  .intro p m z;rcases mem_append.mp m with m |m
   .exact D.1 (mem_map.mpr ⟨p,N.subset m,z⟩)
   .exact x i _ O p m z.symm
  .intro j hj p m q E;rcases mem_append.mp m with m |m
   .exact y.d i j (λz=>hj z.symm) p (C p m) q E
   .exact (x j q E p m).symm
  .show List.Perm ((a,o')::((ds'++e)++rest)) ((a,o')::((ds'++rest)++e));refine List.Perm.cons _ ?_;rw[append_assoc,append_assoc];exact List.Perm.append_left _ List.perm_append_comm
end
section
def gq(K:ao)(j:ai)(i:Nat)(r:ah)(Q:Tr->(Tr->ai)->Prop):Prop:=match j[i]? with
 |some .ax=>False
 |some t=>mE K t r /\ Q (cN t r) λu=>j.set i (ia t r u)
 |none=>False
theorem oz{Q:Tr->(Tr->ai)->Prop}(h:gq K j i r Q):∃t,j[i]?=some t/\t≠.ax/\mE K t r/\Q (cN t r) λu=>j.set i (ia t r u):=by
 unfold gq at h;split at h
 .exact h.elim
 .rename_i t ne e;exact⟨t,e,ne,h.1,h.2⟩
 .exact h.elim
theorem Rs.set:∀{xs:ai}{vs:aw}{e:Cs}(n:Nat){t:Tr}{v:V},Rs K F B xs vs e->R K F B t v []->∃ds',Rs K F B (xs.set n t) (vs.set n v) ds'/\ds'.Sublist e
 |[],_,e,n,_,_,y,_=>by let⟨a,b⟩:=y;exact⟨[],by rw[a];exact⟨rfl,rfl⟩,by rw[b];exact List.Sublist.refl _⟩
 |x::xs,_,_,0,_,_,y,rt=>by let⟨v,r,c,d,a,b,h,f⟩:=y;exact⟨d,by rw[a];exact⟨_,r,[],d,rfl,rfl,rt,f⟩,by rw[b];exact List.sublist_append_right c d⟩
 |x::xs,_,_,n + 1,_,_,y,rt=>by
  ∎;let⟨v,r,c,d,a,b,h,f⟩:=y;let⟨g,i,j⟩:=Rs.set (xs:=xs) n f rt;∎;exact⟨c++g,by rw[a];exact⟨v,_,c,g,rfl,rfl,h,i⟩,by rw[b];exact j.append_left c⟩
theorem Rs.snoc(h:Rs K F B xs vs ds)(rt:R K F B t v e):Rs K F B (xs++[t]) (vs++[v]) (ds++e):=h.append ⟨v,[],e,[],rfl,by rw[append_nil],rt,rfl,rfl⟩
theorem bf.ea{t:Tr}{v:V}{c:Cs}(W:bf K k lo us Fb Hb F H j i cs)(o:Out K F (Bq Hb H) H F' H' t v c)(n:bF t=true):
  ∃a,bf K k lo us Fb Hb a H' j i cs/\R K a (λ_=>Hb) (ay t) v []/\Le F a:=by
 ∎;let⟨l,f⟩:=W.fresh o;let⟨d,e,b,h⟩:=(W.gr o.g).lay o.c l (o.r.plain t) f;∎;exact⟨d,e,(R.low (B':=λ_=>Hb) t n rfl o.r).ay (Le.of b) t h,Le.trans o.g.le (Le.of b)⟩
theorem oW:c8 Hb []:=λ_ m=>nomatch m
theorem pU{cs:Nat->Cs}:∀(j:Nat),∀p∈cs j,∀q∈([]:Cs),p.1≠q.1:=λ_ _ _ _ m=>nomatch m
def jX(u:Tr)(Q:aW):Prop:=match u with |.ag .o xs=>Q xs |_=>False
theorem yn{Q:aW}(h:jX u Q):∃xs,u=.ag .o xs/\Q xs:=by
 unfold jX at h;split at h
 .exact⟨_,rfl,h⟩
 .exact h.elim
def vE(K:ao)(i:Nat)(r:ah)(pe:bc):cc:=λD j=>gq K j i r λu s=>jX u λa=>pe (j.map aG) λt=>bF t=true/\a.length<1000000/\D.nx (s (.ag .o (a++[ay t])))
theorem LR(h:bD K k te pe):cO K k lo (oy (uy K "list" By (tR K i r) (hY te iI))) (vE K i r pe):=λus U A F H j G cs D O W p L=>by
 ∎;let⟨t,E,I,J,p⟩:=oz p;let⟨z,M,p⟩:=yn p;let⟨w,c,y,sub,N,rd,cl⟩:=W.at E I r J;∎;rw[M] at y;let⟨a,vs,b,rfl,m,n⟩:=y;have s:H a=some (.ag vs):=N.h (a,.ag vs) (by rw[m];exact .head _);refine rd _ ⟨ER s,h F (Bq A H) H j _ _ _ W.er p λu v Q l Y q o=>?_⟩;let⟨f,B,r2,x⟩:=W.ea o q.1;have e:l a=some (.ag vs):=o.g.h _ _ s;let⟨d,C⟩:=cl f l B x a (.ag vs) (.ag (vs++[v])) b b [] (.ag .o (z++[ay u])) ((a,.ag (vs++[v]))::(b++[])) m (List.Sublist.refl _) .nil oW pU (List.Perm.refl _) ⟨a,vs++[v],b++[],rfl,rfl,(n.mo x (λ_=>Le.refl _) z).snoc r2⟩;exact⟨a,vs,v,rfl,rfl,e,lt_of_lt_of_le (by rw[n.length];exact q.2.1) ∎,L.nx f _ j _ d C q.2.2⟩
def qz(xs:ai)(y t:Tr)(Q:aW):Prop:=match y with |.int j=>(match hX xs.length j with |some n=>Q (xs.set n t) |none=>False) |_=>False
def yC(K:ao)(i:Nat)(r:ah)(b pe:bc):cc:=λD j=>pe (j.map aG) λt=>bF t=true/\gq K j i r λu s=>jX u λd=>b (j.map aG) λy=>qz d y (ay t) λa=>D.nx (s (.ag .o a))
theorem JE(h:bD K k te pe)(hj:bD K k tj pj):cO K k lo (kR te (A6 (tR K i r) tj Gv)) (yC K i r pj pe):=λus Fb x F H j G cs D D' W p L=>by
 refine h F (Bq x H) H j _ _ _ W.er p λu v F1 f c1 q o=>?_
 ∎;let⟨E,l,r2,l2⟩:=W.ea o q.1;let⟨t,Q,U,Y,p⟩:=oz q.2;let⟨C,eg,p⟩:=yn p;let⟨w,c,B,sub,hc,rd,cl⟩:=l.at Q U r Y;∎;rw[eg] at B;let⟨a,vs,O,rfl,z,A⟩:=B;have ha:f a=some (.ag vs):=hc.h (a,.ag vs) (by rw[z];exact .head _);refine rd _ (hj E (Bq x f) f j _ _ _ l.er p λy vy s I c3 e d=>?_);unfold qz at e;split at e
 .obtain⟨rfl,_⟩:=d.r;split at e
  .rename_i n en;∎;let⟨b,M,N⟩:=(A.mo d.g.le (λ_=>Le.refl _) C).set n (r2.mo d.g.le (λ_=>Le.refl _) _);let⟨m,J⟩:=cl s I (l.gr d.g) d.g.le a (.ag vs) (.ag (vs.set n v)) O b [] (.ag .o (C.set n (ay u))) ((a,.ag (vs.set n v))::(b++[])) z N .nil oW pU (List.Perm.refl _) ⟨a,_,b++[],rfl,rfl,by rw[append_nil];exact M⟩;∎;exact⟨a,vs,_,n,rfl,rfl,d.g.h _ _ ha,by rw[A.length];exact en,L.nx s _ j _ m J e⟩
  .exact e.elim
 .exact e.elim
def i1(m:bw)(y:aS)(t:Tr):bw:=
 if (m.any λa=>decide (a.1=y))=true then m.map (λa=>if a.1=y then (a.1,t) else a) else m++[(y,t)]
theorem Rk.any:∀{m:bw}{vs:bI}{b:Cs}{y:aS},Rk K F B m vs b->(vs.any λa=>decide (a.1=y))=m.any λa=>decide (a.1=y)
 |[],_,_,y,y0=>by let⟨h,_⟩:=y0;rw[h];rfl
 |(k,x)::m,_,_,y,y0=>by let⟨v,r,c,d,e,g,i,f⟩:=y0;rw[e,any_cons,any_cons,Rk.any f]
theorem Rk.rep:∀{m:bw}{vs:bI}{i:Cs}{y:aS}{t:Tr}{v:V},Rk K F B m vs i->R K F B t v []->∃ds',Rk K F B (m.map (λa=>if a.1=y then (a.1,t) else a)) (vs.map (λa=>if a.1=y then (a.1,v) else a)) ds'/\ds'.Sublist i
 |[],_,_,y,_,_,y0,_=>by let⟨h,n⟩:=y0;exact⟨[],by rw[h];exact⟨rfl,rfl⟩,by rw[n];exact List.Sublist.refl _⟩
 |(k,x)::m,_,_,y,t,w,y0,rt=>by
  ∎;let⟨v,r,c,d,j,l,o,p⟩:=y0;let⟨b,f,g⟩:=Rk.rep (y:=y) p rt;∎;by_cases e:k=y
  .refine⟨b,?_,by rw[l];exact g.trans (List.sublist_append_right c d)⟩;rw[j,map_cons,map_cons];show Rk K F B ((if k=y then (k,t) else (k,x))::_) ((if k=y then (k,w) else (k,v))::_) _;rw[if_pos e,if_pos e];exact⟨w,_,[],b,rfl,rfl,rt,f⟩
  .refine⟨c++b,?_,by rw[l];exact g.append_left c⟩;rw[j,map_cons,map_cons];show Rk K F B ((if k=y then (k,t) else (k,x))::_) ((if k=y then (k,w) else (k,v))::_) _;rw[if_neg e,if_neg e];exact⟨v,_,c,b,rfl,rfl,o,f⟩
theorem Rk.append:∀{m n:bw}{vs us:bI}{c d:Cs},Rk K F B m vs c->Rk K F B n us d->Rk K F B (m++n) (vs++us) (c++d)
 |[],_,_,_,_,_,y,h=>by let⟨a,b⟩:=y;rw[a,b];exact h
 |(k,x)::m,_,_,_,_,_,y,h=>by let⟨v,r,c,d,a,b,e,f⟩:=y;rw[a,b];exact⟨v,r ++ _,c,d ++ _,rfl,by rw[append_assoc],e,Rk.append f h⟩
theorem Rk.put(h:Rk K F B m vs ds)(rt:R K F B t v []):∃ds',Rk K F B (i1 m y t) (e5 vs y v) ds'/\ds'.Sublist ds:=by
 unfold i1 e5;rw[h.any];split
 .exact h.rep rt
 .exact⟨ds++[],h.append ⟨v,[],[],[],rfl,rfl,rt,rfl,rfl⟩,by rw[append_nil];exact List.Sublist.refl _⟩
theorem T9(n:(m.map (·.1)).Nodup)(y:aS)(t:Tr):((i1 m y t).map (·.1)).Nodup:=by
 unfold i1;split
 .have e:(m.map λd=>if d.1=y then (d.1,t) else d).map (·.1)=m.map (·.1):=by
   rw[map_map];refine map_congr_left λp _=>?_
   show (if p.1=y then (p.1,t) else p).1=p.1;split<;>rfl
  rw[e];exact n
 .rename_i h;rw[map_append,nodup_append];refine⟨n,nodup_cons.mpr ⟨λz=>(nomatch z),nodup_nil⟩,λa f b g e=>h ?_⟩;let⟨p,i,rfl⟩:=mem_map.mp f;rw[mem_singleton.mp g] at e;exact any_eq_true.mpr ⟨p,i,decide_eq_true e⟩
def qT(u:Tr)(Q:bw->Prop):Prop:=match u with |.aO .o xs=>Q xs |_=>False
theorem Hu{Q:bw->Prop}(h:qT u Q):∃xs,u=.aO .o xs/\Q xs:=by
 unfold qT at h;split at h
 .exact⟨_,rfl,h⟩
 .exact h.elim
def jM(y:Tr)(Q:aS->Prop):Prop:=match qW y with |some y=>Q y |none=>False
def xw(K:ao)(i:Nat)(r:ah)(a pe:bc):cc:=λD j=>pe (j.map aG) λt=>bF t=true/\gq K j i r λu s=>qT u λm=>a (j.map aG) λy=>jM y λy=>m.length<1000000/\D.nx (s (.aO .o (i1 m y (ay t))))
theorem Wl(h:bD K k te pe)(hj:bD K k tj pj):cO K k lo (Ai (tR K i r) tj te) (xw K i r pj pe):=λus Fb x F H j G cs D D' W p L=>by
 refine h F (Bq x H) H j _ _ _ W.er p λu v F1 f c1 q o=>?_
 ∎;let⟨C,l,r2,l2⟩:=W.ea o q.1;let⟨t,O,Q,U,p⟩:=oz q.2;let⟨m,Y,p⟩:=Hu p;let⟨w,c,B,sub,hc,rd,cl⟩:=l.at O Q r U;∎;rw[Y] at B;let⟨a,vs,N,rfl,z,A,h4⟩:=B;have ha:f a=some (.dK vs):=hc.h (a,.dK vs) (by rw[z];exact .head _);refine rd _ (hj C (Bq x f) f j _ _ _ l.er p λy vy s E c3 e d=>?_);unfold jM at e;split at e
 .rename_i yk ey;obtain rfl:=tV d.r ey;∎;let⟨b,J,M⟩:=(A.mo d.g.le (λ_=>Le.refl _) m).put (y:=yk) (r2.mo d.g.le (λ_=>Le.refl _) _);let⟨n,I⟩:=cl s E (l.gr d.g) d.g.le a (.dK vs) (.dK (e5 vs yk v)) N b [] (.aO .o (i1 m yk (ay u))) ((a,.dK (e5 vs yk v))::(b++[])) z M .nil oW pU (List.Perm.refl _) ⟨a,_,b++[],rfl,rfl,by rw[append_nil];exact J,T9 h4 _ _⟩;∎;exact⟨a,_,rfl,jD.k (d.g.h _ _ ha) (lt_of_lt_of_le (by rw[A.length];exact e.1) ∎),L.nx s _ j _ n I e.2⟩
 .exact e.elim
def u7:bc:=λ_ Q=>Q (.aO .o [])
theorem Uh:bD K k AR u7:=λF B H j i Q d c p q a b=>q _ _ F _ _ p ⟨Gr.iz c.s b,⟨a,[],[],rfl,rfl,⟨rfl,rfl⟩,nodup_nil⟩,rB c.s .nil b,λp m=>by
 cases m with
 |head=>exact b
 |tail _ m=>nomatch m⟩
def iu(f:Str)(u:Tr):bz->bz
 |[]=>[(f,u)]
 |(g,x)::r=>if g=f then (g,u)::r else (g,x)::iu f u r
theorem Rf.put:∀{fs:bz}{vs:List (Str×V)}{h:Cs}{f:Str}{t:Tr}{v:V}{e:Cs},Rf K F B fs vs h->R K F B t v e->∃ds' d,Rf K F B (iu f t fs) (fk f v vs) d/\ds'.Sublist h/\d.Perm (ds'++e)
 |[],_,_,f,t,v,e,y,rt=>by let⟨a,b⟩:=y;exact⟨[],e,by rw[a];exact⟨v,[],e,[],rfl,by rw[append_nil],rt,rfl,rfl⟩,by rw[b];exact List.Sublist.refl _,List.Perm.refl _⟩
 |(g,x)::fs,_,_,f,t,w,e,y,rt=>by
  let⟨v,r,c,d,a,b,j,i⟩:=y;by_cases z:g=f
  .refine⟨d,e++d,?_,by rw[b];exact List.sublist_append_right c d,List.perm_append_comm⟩;rw[a];show Rf K F B (if g=f then (g,t)::fs else _) (if g=f then (g,w)::r else _) _;rw[if_pos z,if_pos z];exact⟨w,r,e,d,rfl,rfl,rt,i⟩
  .obtain⟨d',d2,a1,a2,a3⟩:=Rf.put (f:=f) i rt;refine⟨c++d',c++d2,?_,by rw[b];exact a2.append_left c,by rw[append_assoc];exact a3.append_left c⟩;rw[a];show Rf K F B (if g=f then _ else (g,x)::iu f t fs) (if g=f then _ else (g,v)::fk f w r) _;rw[if_neg z,if_neg z];exact⟨v,_,c,d2,rfl,rfl,j,a1⟩
theorem Rf.length:∀{fs:bz}{vs:List (Str×V)}{a:Cs},Rf K F B fs vs a->vs.length=fs.length
 |[],_,_,y=>by let⟨h,_⟩:=y;rw[h];rfl
 |(k,x)::xs,_,_,y=>by let⟨v,r,c,d,b,f,g,e⟩:=y;rw[b,length_cons,length_cons,Rf.length e]
def adr(K:ao)(f:Str)(u:Tr)(Q:af->bz->Prop):Prop:=match u with |.ins .o c fs=>(gn K c/\bg K c f)/\fs.length<900/\Q c fs |_=>False
theorem AK{Q:af->bz->Prop}(h:adr K f u Q):∃c fs,u=.ins .o c fs/\(gn K c/\bg K c f)/\fs.length<900/\Q c fs:=by
 unfold adr at h;split at h
 .exact⟨_,_,rfl,h⟩
 .exact h.elim
def ve(K:ao)(i:Nat)(r:ah)(f:Str)(pe:bc):cc:=λD j=>pe (j.map aG) λt=>bF t=true/\gq K j i r λu s=>adr K f u λc fs=>D.nx (s (.ins .o c (iu f t fs)))
theorem O0(h:bD K k te pe):cO K k lo (wk K (tR K i r) te f) (ve K i r f pe):=λus Fb s F H j G cs D D' W p L=>by
 refine h F (Bq s H) H j _ _ _ W.er p λu v m n M q o=>?_
 have x:=W.gr o.g;∎;let⟨n1,N⟩:=W.fresh o;let⟨t,Q,U,Y,p⟩:=oz q.2;let⟨C,fs,eg,ok,hl,p⟩:=AK p;let⟨w,c,A,sub,hc,rd,cl⟩:=x.at Q U r Y;∎;rw[eg] at A;let⟨a,b,vs,O,rfl,y,z⟩:=A;have ha:n a=some (.ins C b vs):=hc.h (a,.ins C b vs) (by rw[y];exact .head _);∎;let⟨l,d,E,I,J⟩:=z.put (f:=f) (R.low (B':=λ_=>s) u q.1 rfl o.r);let⟨e,B⟩:=cl m n x (Le.refl _) a (.ins C b vs) (.ins C b (fk f v vs)) O l M (.ins .o C (iu f u fs)) ((a,.ins C b (fk f v vs))::d) y I o.c n1 N (List.Perm.cons _ J) ⟨a,b,_,d,rfl,rfl,E⟩;∎;exact rd _ ⟨a,C,b,vs,rfl,ha,ok.1,ok.2,lt_of_lt_of_le (by rw[z.length];exact hl) ∎,L.nx m _ j _ e B p⟩
end
section
theorem SQ{Hb:Hp}(h:Hb a=none\/Hb a=some (.dK vs)):Le (fz Hb a (.ay ob (.dK vs))) Hb:=λb u n r=>by
 by_cases e:b=a
 .subst e;rcases h with h |h
  .rcases r with r |⟨o,r⟩<;>(rw[gM,if_pos h] at r;cases r)
  .have z:fz Hb b (.ay ob (.dK vs)) b=some (.ay ob (.dK vs)):=by rw[gM,if_neg (by rw[h];intro z;cases z)]
   rcases r with r |⟨o,r⟩
   .rw[z] at r;cases r;exact absurd rfl (n _ _)
   .rw[z] at r;cases r;exact .inl h
 .rcases r with r |⟨o,r⟩
  .rw[eU e] at r;exact .inl r
  .rw[eU e] at r;exact .inr ⟨o,r⟩
theorem bf.walk(W:bf K k lo us F Hb F H j G cs)(b:F a=some (.dK vs)):bf K k.walk lo us (fz F a (.ay ob (.dK vs))) (fz Hb a (.ay ob (.dK vs))) (fz F a (.ay ob (.dK vs))) (aR H a (.ay ob (.dK vs))) j G cs:=by
 have r:H a=some (.dK vs):=W.g.s _ _ b;have o:Hb a=none\/Hb a=some (.dK vs):=by
  cases q:Hb a with
  |none=>exact .inl rfl
  |some u=>have:=W.g.h _ _ q;rw[r] at this;exact .inr this.symm
 have ne:∀i,∀p∈cs i,p.1≠a:=λi p m e=>by have:=(W.c i).f p m;rw[e,b] at this;cases this
 refine⟨⟨JL _ W.g.toGr0,Fz.refl _⟩,λh=>(by cases h),W.l,λi t h=>(W.e i t h).imp id λ⟨v,h1,h2⟩=>⟨v,h1,h2.mo (tI (.inr b)) (λ_=>tI o) t⟩,λi=>⟨λp m=>?_,λp m=>?_,(W.c i).nd⟩,λi p m=>?_,W.d,W.p,λ_ _ _ _ h=>h.elim⟩
 .rw[ba (ne i p m)];exact (W.c i).h p m
 .rw[eU (ne i p m)];exact (W.c i).f p m
 .rw[eU (ne i p m)];exact W.n i p m
theorem bf.fx(hz:k.z=true)(w:bf K k lo us F1 Hb F1 H1 j G cs)(B:F1 a=some (.dK vs))(W:bf K k.walk lo us (fz F1 a (.ay ob (.dK vs))) (fz Hb a (.ay ob (.dK vs))) F H j' G' y):
  H a=some (.ay ob (.dK vs))/\∃r,bf K k lo us F1 Hb r (aR H a (.dK vs)) j' G' y/\Le F r/\(∀b,b≠a->r b=F b)/\(∀b,F b=none->b≠a):=by
 have J:H1 a=some (.dK vs):=w.g.s _ _ B;have U:Hb a=none\/Hb a=some (.dK vs):=by
  cases q:Hb a with
  |none=>exact .inl rfl
  |some u=>have:=w.g.h _ _ q;rw[J] at this;exact .inr this.symm
 have I:fz F1 a (.ay ob (.dK vs)) a=some (.ay ob (.dK vs)):=by rw[gM,if_neg (by rw[B];intro z;cases z)]
 have A:F a=some (.ay ob (.dK vs)):=W.g.f _ _ I;have C:H a=some (.ay ob (.dK vs)):=W.g.s _ _ A;have O:Fz (λb=>b=a\/S0 b) F:=λb o u e=>by
  let⟨Y,u',E⟩:=W.g.z b o u e;by_cases eb:b=a
  .exact .inl eb
  .rw[eU eb] at E;exact .inr (w.z hz b Y u' E)
 let⟨N,Q,M,L,e2,n2,D,c2⟩:=VT (Fb:=F1) (Hb:=Hb) (F:=F1) (H:=H1) (S:=S0) w.g.toGr0 J (.inr B) W.g.toGr0 (A.trans I.symm) O;have ne:∀i,∀p∈y i,p.1≠a:=λi p m e=>by have:=(W.c i).f p m;rw[e,A] at this;cases this
 refine⟨C,N,⟨⟨Q,λb o u e=>(M b o u e).elim⟩,λ_=>M,W.l,λi t h=>(W.e i t h).imp id λ⟨v,h1,h2⟩=>⟨v,h1,h2.mo L (λ_=>SQ U) t⟩,λi=>⟨λp m=>?_,λp m=>?_,(W.c i).nd⟩,λi p m=>?_,W.d,W.p,w.x⟩,L,D,λb e z=>?_⟩
 .rw[ba (ne i p m)];exact (W.c i).h p m
 .rw[D _ (ne i p m)];exact (W.c i).f p m
 .have:=W.n i p m;rw[eU (ne i p m)] at this;exact this
 .rw[z,A] at e;cases e
def kO:aS->Tr |.inl n=>.int n |.inr s=>.str s
inductive Wm where |it |ks |vs
def wit:Wm->aS×Tr->Tr
 |.it,p=>.aF [kO p.1,p.2]
 |.ks,p=>kO p.1
 |.vs,p=>p.2
def q4(t:Tr)(Q:bw->Prop):Prop:=match t with |.aO .f m=>Q m |_=>False
def wM(w:Wm)(pe:bc)(pg:eI)(b:cc):cc:=λD j=>pe (j.map aG) λt=>bF t=true/\q4 (ay t) λm=>∃I:Nat->aW,I 0 j/\(∀i p j,m[i]?=some p->I i j->pg (wit w p) j λa=>b { D with nx:=I (i+1),ct:=I (i+1),bk:=D.nx } a)/\∀j,I m.length j->D.nx j
theorem Rk.de:∀{m:bw}{vs:bI}{i:Nat}{y:aS}{v:V},Rk K F B m vs []->vs[i]?=some (y,v)->∃t,m[i]?=some (y,t)/\R K F B t v []
 |[],_,i,y,v,y0,e=>by let⟨h,_⟩:=y0;rw[h] at e;cases e
 |(y',x)::m,_,0,y,v,y0,e=>by
  let⟨u,r,c,d,a,b,f,g⟩:=y0;rw[a] at e;cases e;have z:=append_eq_nil_iff.mp b.symm;rw[z.1] at f;exact⟨x,rfl,f⟩
 |(y',x)::m,_,i + 1,y,v,y0,e=>by
  let⟨u,r,c,d,a,b,f,g⟩:=y0;rw[a] at e;have z:=append_eq_nil_iff.mp b.symm;rw[z.2] at g;exact Rk.de (i:=i) g e
theorem EH:R K F B (kO y) (kV y) []:=by
 cases y with
 |inl n=>exact⟨rfl,rfl⟩
 |inr n=>exact⟨rfl,rfl⟩
theorem GS(hz:k.z=true)(b:∀o u,X.H₀ a≠some (.ay o u))(g:bf K k lo us F1 Hb F1 H1 j i cs)(l:F1 a=some (.dK vs))(L:Lk K k lo us F1 Hb D D'):Lk K k.walk lo us (fz F1 a (.ay ob (.dK vs))) (fz Hb a (.ay ob (.dK vs))) (vT X D) D':=by
 refine⟨λF H j i cs W q=>?_,λF H j i cs v t c W r e n d s q=>?_,λF H j i cs W q=>?_,λF H j i cs W q=>?_⟩
 .obtain⟨h1,F2,W2,_⟩:=g.fx hz l W;exact⟨a,ob,vs,h1,b,L.nx F2 _ j i cs W2 q⟩
 .obtain⟨h1,F2,W2,l2,b2,f2⟩:=g.fx hz l W;refine⟨a,ob,vs,h1,b,L.rt F2 _ j i cs v t c W2 ((r.mo l2 (λ_=>Le.refl _) t).base t s) ⟨λp m=>?_,λp m=>?_,e.nd⟩ (λp m=>?_) d s q⟩
  .rw[ba (f2 _ (e.f p m))];exact e.h p m
  .rw[b2 _ (f2 _ (e.f p m))];exact e.f p m
  .have:=n p m;rw[eU (f2 _ (e.f p m))] at this;exact this
 .obtain⟨h1,F2,W2,_⟩:=g.fx hz l W;exact⟨a,ob,vs,h1,b,L.bk F2 _ j i cs W2 q⟩
 .obtain⟨h1,F2,W2,_⟩:=g.fx hz l W;exact⟨a,ob,vs,h1,b,L.ct F2 _ j i cs W2 q⟩
theorem Ck(d:bf K k lo us F1 Hb F1 H1 j i cs)(b:F1 a=some (.dK vs))(r:Rk K F1 (λ_=>Hb) m vs [])(W:bf K k.walk lo us (fz F1 a (.ay ob (.dK vs))) (fz Hb a (.ay ob (.dK vs))) F H j' i' cs'):
  H a=some (.ay ob (.dK vs))/\Rk K F (λ_=>fz Hb a (.ay ob (.dK vs))) m vs []:=by
 have l:Hb a=none\/Hb a=some (.dK vs):=by
  cases q:Hb a with
  |none=>exact .inl rfl
  |some u=>have:=d.g.h _ _ q;rw[d.g.s _ _ b] at this;exact .inr this.symm
 have e:fz F1 a (.ay ob (.dK vs)) a=some (.ay ob (.dK vs)):=by rw[gM,if_neg (by rw[b];intro z;cases z)]
 exact⟨W.g.s _ _ (W.g.f _ _ e),r.mo (Le.trans (tI (.inr b)) (Le.of W.g.f)) (λ_=>tI l) m⟩
theorem Jw(hz:k.z=true)(h:bD K k te pe)(hg:mX K k.walk lo tg pg)(Y:cO K k.walk lo tb pb):cO K k lo (Ex X te tg tb) (wM .it pe pg pb):=λus Fb A F H j G cs D D' W p L=>by
 refine h F (Bq A H) H j _ _ _ W.er p λt v F1 H1 c p1 o=>?_
 let⟨C,d,r2⟩:=W.held o p1.1;have p2:=p1.2;unfold q4 at p2;split at p2
 .rename_i m em;rw[em] at r2;let⟨_,a,vs,rfl,U,r,h4⟩:=r2;have b:=uP (d.z hz) U;let⟨I,i0,step,n⟩:=p2;have f:=d.rebase;have J:=L.rebase d;refine⟨a,vs,rfl,d.g.s _ _ b,λob w=>?_⟩;have L2:=GS hz (X:=X) (ob:=ob) w f b J;refine Jj (λi j H=>∃F G cs,bf K k.walk lo us (fz C a (.ay ob (.dK vs))) (fz A a (.ay ob (.dK vs))) F H j G cs/\I i G) ⟨_,G,cs,f.walk b,i0⟩ ?_ ?_ ?_
  .rintro i j H hi ⟨F,G,cs,W,_⟩;exact (Ck f b r W).1
  .rintro i y u j H p e ⟨F,G,cs,W,ii⟩ hp;∎;let⟨_,rk⟩:=Ck f b r W;let⟨B,N,O⟩:=rk.de e;let⟨x,Q,r4,_⟩:=rb (xs:=[kO y,B]) (cs:=[]) W.g.s ⟨kV y,[u],[],[],rfl,rfl,EH,u,[],[],[],rfl,rfl,O,rfl,rfl⟩ .nil hp;∎;refine hg us _ _ x _ j G cs _ _ _ _ (W.gr Q) r4 (step i (y,B) G N ii) λj' E l M p'=>?_
   exact Y us _ _ x _ j' E l _ _ M p' ⟨λF H j G cs W q=>⟨F,G,cs,W,q⟩,L2.rt,L2.nx,λF H j G cs W q=>⟨F,G,cs,W,q⟩⟩
  .rintro j H ⟨F,G,cs,W,q⟩;exact L2.nx F H j G cs W (n G (by rw[<- r.length];exact q))
 .exact p2.elim
end
section
def Fg(K:ao):aw->Hp->VK->Prop:=λb H Q=>(λb H Q=>∃x n,b=[x]/\Bb K x H n/\Q (.int n) H) b H Q\/(λb H Q=>∃a d,b=[V.ref a]/\H a=some (.dK d)/\Q (.int d.length) H) b H Q
theorem g6:bL X (.builtin "len") (Fg X.K):=Nd.or Jg
def ET(K:ao):aw->Hp->VK->Prop:=λb H Q=>(λb H Q=>∃p e,b=[.ref p]/\(bC K H p e\/cU K H p e)/\∀l,H l=none->Q (.ref l) (aR H l (.ag e))) b H Q\/(λb H Q=>∃a d,b=[.ref a]/\Rd H a (.dK d)/\∀p,H p=none->Q (.ref p) (aR H p (.ag (d.map λf=>kV f.1)))) b H Q
theorem jn(a:X.calm=true):bL X (.type "list") (ET X.K):=xP.or (NH a)
def zG(K:ao):R2:=λx y H Q=>qZ K false x y H Q\/pE false x y H Q
theorem LX(a:X.A.units+1<cLine:=by assumption):b4 X (compareOp .In) (zG X.K):=KQ.or (RL a)
def CW(K:ao):R2:=λx y H Q=>qZ K true x y H Q\/pE true x y H Q
theorem x9(a:X.A.units+1<cLine:=by assumption):b4 X (compareOp .NotIn) (CW X.K):=Js.or (Kn a)
def zf(K:ao):V->bK->bK->Hp->VK->Prop:=λx l h H Q=>FN K x l h H Q\/Fj x l h H Q
theorem Sl:lN X (zf X.K):=Iq.or Hc
end
section
def nX(k:Bool)(a:ai)(Q:az):Prop:=match a with
 |[.str x]=>x.length <= 1000000 /\ Q (.int x.length)
 |[.ag _ xs]=>Q (.int xs.length)
 |[.aF xs]=>Q (.int xs.length)
 |[.aO .f m]=>k=true /\ Q (.int m.length)
 |[.aO .o m]=>Q (.int m.length)
 |_=>False
theorem gZ:lO K k (Fg K) (nX k.z):=λF B H u o n Q l s b z r g p q=>by
 unfold nX at p;split at p
 .obtain⟨v,rfl,rfl,_⟩:=r.one;exact .inl ⟨_,_,rfl,⟨lL p.1,rfl⟩,q _ _ F H [] p.2 (Gr.aP s) ⟨rfl,rfl⟩ .nil λ_ m=>nomatch m⟩
 .obtain⟨v,rfl,r1⟩:=r.one;let⟨a,vs,i,rfl,e,d,_⟩:=r1.cj s b g;exact .inl ⟨_,_,rfl,.inl ⟨vs,e,rfl⟩,q (.int vs.length) _ F H [] (by rw[<- d.length] at p;exact p) (Gr.aP s) ⟨rfl,rfl⟩ .nil λ_ m=>nomatch m⟩
 .obtain⟨v,rfl,r1⟩:=r.one;let⟨a,vs,rfl,e,d⟩:=r1.dc s;exact .inl ⟨_,_,rfl,.inr ⟨vs,e,rfl⟩,q (.int vs.length) _ F H [] (by rw[<- d.length] at p;exact p) (Gr.aP s) ⟨rfl,rfl⟩ .nil λ_ m=>nomatch m⟩
 .obtain⟨v,rfl,r1⟩:=r.one;let⟨_,a,vs,rfl,d,f,j⟩:=r1;exact .inr ⟨a,vs,rfl,s _ _ (uP (z p.1) d),q (.int vs.length) _ F H [] (by rw[<- f.length] at p;exact p.2) (Gr.aP s) ⟨rfl,rfl⟩ .nil λ_ m=>nomatch m⟩
 .obtain⟨v,rfl,r1⟩:=r.one;let⟨a,vs,i,rfl,d,f,j⟩:=r1;exact .inr ⟨a,vs,rfl,g.h (a,.dK vs) (by rw[d];exact .head _),q (.int vs.length) _ F H [] (by rw[<- f.length] at p;exact p) (Gr.aP s) ⟨rfl,rfl⟩ .nil λ_ m=>nomatch m⟩
 .exact p.elim
theorem Rk.k9:∀{m:bw}{vs:bI}{a:Cs},Rk K F B m vs a->Rs K F B (m.map λp=>kO p.1) (vs.map λf=>kV f.1) []
 |[],_,_,y=>by let⟨h,_⟩:=y;rw[h];exact⟨rfl,rfl⟩
 |(y,x)::m,_,_,y0=>by let⟨v,r,c,d,b,g,i,e⟩:=y0;rw[b];exact⟨kV y,_,[],[],rfl,rfl,EH,Rk.k9 e⟩
theorem sH{xs:ai}{vs:aw}{cs cx:Cs}{p:af}{Q:VK}{d:az}(s:aB F H)(r:Rs K F B xs vs cs)(c:aq F H cs)(sub:∀p∈cs,p∈cx)(hp:H p=none)(h:d (.ag .o xs))(q:∀t v a b cs,d t->Gr F H a b->R K a B t v cs->aq a b cs->(∀p∈cs,H p.1=none\/p∈cx)->Q v b):Q (.ref p) (aR H p (.ag vs)):=by
 let⟨e,f,g⟩:=kU s r c hp;refine q _ _ F _ _ h e f g λp m=>?_
 cases m with
 |head=>exact .inl hp
 |tail _ m=>exact .inr (sub p m)
def n8(a:ai)(Q:az):Prop:=match a with
 |[.ag _ xs]=>Q (.ag .o xs)
 |[.aF xs]=>Q (.ag .o xs)
 |[.aO _ m]=>Q (.ag .o (m.map λp=>kO p.1))
 |_=>False
theorem jr:lO K k (ET K) n8:=λF B H w u o Q n s b z r g p q=>by
 unfold n8 at p;split at p
 .obtain⟨v,rfl,r1⟩:=r.one;let⟨a,vs,j,rfl,d,e,h,i⟩:=r1.cj s b g;exact .inl ⟨_,_,rfl,.inl d,λl f=>sH s e h i f p q⟩
 .obtain⟨v,rfl,r1⟩:=r.one;let⟨a,vs,rfl,d,e⟩:=r1.dc s;exact .inl ⟨_,_,rfl,.inr d,λl f=>sH s e g (λ_ m=>m) f p q⟩
 .obtain⟨v,rfl,r1⟩:=r.one;let⟨a,vs,j,rfl,d,e,h,i⟩:=r1.gK s b g;exact .inr ⟨_,_,rfl,d,λl f=>sH s e.k9 .nil (λ_ m=>nomatch m) f p q⟩
 .exact p.elim
def vo(a:ai)(Q:az):Prop:=match a with
 |[.bl b]=>Q (.int (if b=true then 1 else 0))
 |_=>False
theorem M8:lO K k (λxs H Q=>∃b,xs=[.bl b]/\Q (.int (if b=true then 1 else 0)) H) vo:=λF B H xs f d Q a s b z r e p q=>by
 unfold vo at p;split at p
 .obtain⟨v,rfl,rfl,_⟩:=r.one;exact⟨_,rfl,q _ _ F H [] p (Gr.aP s) ⟨rfl,rfl⟩ .nil λ_ m=>nomatch m⟩
 .exact p.elim
def U5:Tr->Option String
 |.int _=>some "int" |.bl _=>some "bool" |.str _=>some "str" |.aM=>some "NoneType" |.aF _=>some "tuple" |.ag _ _=>some "list" |.aO _ _=>some "dict" |_=>none
def GO:Tr->dJ
 |.ty n=>some (.type n) |.cl a=>some (.ref a) |_=>none
def w4(K:ao)(a:ai)(Q:az):Prop:=match a with
 |[x,c]=>(match U5 x,GO c with |some t,some u=>∃b,W.kitOne K (.type t) u=some b /\ Q (.bl b) |_,_=>False)
 |_=>False
theorem Nm:lO K k (λxs H Q=>∃x c t b u,xs=[x,c]/\j5 K H x t/\rj c=some u/\W.kitOne K t u=some b/\Q (.bl b) H) (w4 K):=λF B H xs G D Q A s b z r h p q=>by
 unfold w4 at p;split at p
 .rename_i x c;let⟨v,w,C,E,rfl,d,r2,e⟩:=r.two;rw[e] at h;split at p
  .rename_i t u e1 e2;let⟨i,l,p⟩:=p;have y:rj w=some u:=by
    cases c with
    |ty n=>cases e2;rw[r2.1];rfl
    |cl a=>cases e2;rw[r2.1];rfl
    |_=>cases e2
   have o:j5 K H v (.type t):=by
    cases x with
    |int n=>cases e1;rw[d.1];exact N6
    |bl n=>cases e1;rw[d.1];exact JH
    |str n=>cases e1;rw[d.1];exact TV
    |aM=>cases e1;rw[d.1];exact NF
    |aF xs=>cases e1;let⟨a,vs,rfl,g,_⟩:=d.dc s;exact Vk g
    |ag f xs=>cases e1;let⟨a,vs,j,rfl,g,_⟩:=d.cj s b h.left;exact JG g
    |aO f xs=>cases e1;let⟨a,vs,j,rfl,g,_⟩:=d.gK s b h.left;exact JI g
    |_=>cases e1
   exact⟨v,w,_,i,u,rfl,o,y,l,q _ _ F H [] p (Gr.aP s) ⟨rfl,rfl⟩ .nil λ_ m=>nomatch m⟩
  .exact p.elim
 .exact p.elim
def mi:Tr->Bool
 |.int _=>true |.bl _=>true |.str _=>true |.aM=>true |_=>false
def oH:Tr->V
 |.int n=>.int n |.bl b=>.bl b |.str x=>.str x |_=>.aM
theorem u4(r:R K F B t v cs)(h:mi t=true):v=oH t/\iN v=true:=by
 cases t with
 |int n=>rw[r.1];exact⟨rfl,rfl⟩
 |bl n=>rw[r.1];exact⟨rfl,rfl⟩
 |str n=>rw[r.1];exact⟨rfl,rfl⟩
 |aM=>rw[r.1];exact⟨rfl,rfl⟩
 |_=>cases h
theorem yG:∀{a:ai}{vs:aw}{cs:Cs},Rs K F B a vs cs->a.all mi=true->vs=a.map oH/\vs.all iN=true
 |[],_,_,⟨h,_⟩,_=>by rw[h];exact⟨rfl,rfl⟩
 |x::xs,_,_,⟨v,r,c,d,h1,h2,h3,h4⟩,h=>by
  rw[all_cons,and_eq_true] at h;let⟨b,f⟩:=u4 h3 h.1;let⟨e,g⟩:=yG h4 h.2;rw[h1,e,b];exact⟨rfl,by rw[all_cons,<- e,g,<- b,f];rfl⟩
def og(x:Tr)(xs:ai):Bool:=su (oH x) (xs.map oH)
def qi(neg:Bool)(x y:Tr)(Q:az):Prop:=match y with
 |.ag _ a=>mi x=true /\ a.all mi=true /\ Q (.bl (if neg=true then !og x a else og x a))
 |.aF a=>mi x=true /\ a.all mi=true /\ Q (.bl (if neg=true then !og x a else og x a))
 |.aO _ m=>jM x λy=>Q (.bl (if neg=true then !(look m y).isSome else (look m y).isSome))
 |_=>False
theorem zB:ee K k (λx y H Q=>qZ K neg x y H Q\/pE neg x y H Q) (qi neg):=λF B H x y E ty A C Q w s b z j l D n hd p q=>by
 unfold qi at p;split at p
 .obtain⟨h1,h2,p⟩:=p;∎;let⟨a,vs,o,rfl,d,g,_⟩:=l.cj s b n;let⟨e,f⟩:=u4 j h1;let⟨h,i⟩:=yG g h2;∎;refine .inl ⟨a,vs,rfl,.inl d,f,i,q _ _ F H [] p (Gr.aP s) ⟨?_,rfl⟩ .nil λ_ m=>nomatch m⟩;rw[e,h];cases neg<;>rfl
 .obtain⟨h1,h2,p⟩:=p;∎;let⟨a,vs,rfl,d,g⟩:=l.dc s;let⟨e,f⟩:=u4 j h1;let⟨h,i⟩:=yG g h2;∎;refine .inl ⟨a,vs,rfl,.inr d,f,i,q _ _ F H [] p (Gr.aP s) ⟨?_,rfl⟩ .nil λ_ m=>nomatch m⟩;rw[e,h];cases neg<;>rfl
 .obtain⟨a,vs,o,rfl,d,g,g3,_⟩:=l.gK s b n;unfold jM at p;split at p
  .rename_i yk ey;obtain rfl:=tV j ey;rcases g.look yk g3 with⟨r,v⟩ |⟨x,u,c,e,f,_⟩
   .refine .inr ⟨a,none,rfl,.inl ⟨vs,yk,d,rfl,v.symm⟩,q _ _ F H [] p (Gr.aP s) ⟨?_,rfl⟩ .nil λ_ m=>nomatch m⟩;rw[r];cases neg<;>rfl
   .refine .inr ⟨a,some u,rfl,.inl ⟨vs,yk,d,rfl,f.symm⟩,q _ _ F H [] p (Gr.aP s) ⟨?_,rfl⟩ .nil λ_ m=>nomatch m⟩;rw[e];cases neg<;>rfl
  .exact p.elim
 .exact p.elim
theorem Uc:ee K k (zG K) (qi false):=zB
theorem yw:ee K k (CW K) (qi true):=zB
def gW(K:ao)(f:Str)(x:Tr)(Q:az):Prop:=match x with
 |.ins _ c fs=>(gn K c /\ bg K c f) /\ (match fs.lookup f with |some t=>Q t |none=>False)
 |_=>False
theorem Rf.look:∀{fs:bz}{vs:List (Str×V)}{a:Cs}{f:Str}{x:Tr},Rf K F B fs vs a->aq F H a->fs.lookup f=some x->∃u c,vs.lookup f=some u/\R K F B x u c/\aq F H c/\∀p∈c,p∈a:=λ{fs vs a f x} h d e=>by
 let⟨w,c,pre,g,i,j,b,_⟩:=h.at e;rw[b] at d;exact⟨w,c,i,j,d.left.right,λp m=>by rw[b];exact mem_append.mpr (.inl (mem_append.mpr (.inr m)))⟩
theorem Ox(h:bD K k te pe):bD K k (uU K te f) (p1 (gW K f) pe):=λF B H j i Q J c p q=>by
 refine h F B H j i _ _ c p λx v l o L p1 e=>?_
 unfold gW at p1;split at p1
 .obtain⟨ok,p1⟩:=p1;split at p1
  .rename_i t et;∎;let⟨a,C,vs,M,rfl,D,E,G,I⟩:=e.r.mW e.g.s (λk=>(c.b k).trans e.g.h) e.c;let⟨u,d,w,y,z,A⟩:=E.look G et;∎;exact⟨a,_,C,vs,u,rfl,D,ok.1,ok.2,w,q _ _ l o d p1 ⟨e.g,y,z,λp m=>e.n p (I p (A p m))⟩⟩
  .exact p1.elim
 .exact p1.elim
def rL(x y z:Tr)(Q:az):Prop:=match x with
 |.aO _ m=>jM y λy=>Q ((look m y).getD z)
 |_=>False
def p3(e:Tr->Tr->Tr->(az)->Prop)(a b d:bc):bc:=λj Q=>a j λx=>(match x with |.aO _ _=>True |_=>False)/\b j λy=>d j λz=>e x y z Q
theorem MU(ha:bD K k ta pa)(hb:bD K k tb pb)(hc:bD K k tc pc):bD K k (ED ta tb tc) (p3 rL pa pb pc):=λF B H j i Q Q' c p q=>by
 refine ha F B H j i _ _ c p λx v J M c1 p1 l=>?_
 let⟨hx,p1⟩:=p1;cases x with
 |aO f m=>
  have bB:∀{G},aB H G->∀k,aB (B k) G:=λs k=>(c.b k).trans s
  let⟨a,vs,ds,rfl,I,h2,h3,h4⟩:=l.r.gK l.g.s (bB l.g.h) l.c;refine⟨a,rfl,.inl ⟨vs,I⟩,hb J B M j i _ _ (c.gr l.g) p1 λy u L N c2 p2 A=>?_⟩;refine hc L B N j i _ _ ((c.gr l.g).gr A.g) p2 λz w E D c3 p3 C=>?_
  have e:=A.g.trans' C.g;unfold rL jM at p3;dsimp only at p3;split at p3
  .rename_i yk ey;obtain rfl:=tV A.r ey;have o:Rd D a (.dK vs):=(e.h).rd I;rcases (h2.mo e.le (λk=>Le.refl _) m).look yk (h3.gr e) with⟨z1,z2⟩ |⟨x,u,d,O,U,Y,a4,a5⟩
   .rw[z1] at p3;exact⟨none,.inl ⟨vs,yk,o,rfl,z2.symm⟩,q _ _ E D c3 p3 ⟨l.g.trans' e,C.r,C.c,C.n.back (l.g.h.trans A.g.h)⟩⟩
   .rw[O] at p3;exact⟨some u,.inl ⟨vs,yk,o,rfl,U.symm⟩,q _ _ E D d p3 ⟨l.g.trans' e,Y,a4,λp m=>l.n p (h4 p (a5 p m))⟩⟩
  .exact p3.elim
 |_=>exact hx.elim
abbrev ou:=ai->(bK->Prop)->Prop
def pR(K:ao)(k:Md)(f:TO)(pe:ou):Prop:=∀(F:Hp)(B:Bool->Hp)(H:Hp)(j:St)(i:ai)(Q:bK->Hp->Prop)(d:bK->Prop),gY K k F B H j i->pe i d->(∀b e a,d b->Gr F H e a->Q b a)->f j H Q
def yV:ou:=λ_ Q=>Q none
def vZ(pe:bc):ou:=λj Q=>pe j λx=>match x with |.int i=>Q (some i) |_=>False
theorem Hh:pR K k BW yV:=λF B H j i Q a c p q=>q none F H p (Gr.aP c.s)
theorem VO(h:bD K k te pe):pR K k (Ee te) (vZ pe):=λF B H j i Q e c p q=>by
 refine h F B H j i _ _ c p λx v b d f p1 a=>?_
 split at p1
 .obtain⟨rfl,_⟩:=a.r;exact⟨_,rfl,q _ b d p1 a.g⟩
 .exact p1.elim
def ik{j:Type}(xs:List j)(l h:bK):List j:=(xs.drop (HT.dw xs.length 0 l)).take (HT.dw xs.length xs.length h - HT.dw xs.length 0 l)
theorem Rs.drop:∀(n:Nat){xs:ai}{vs:aw}{a:Cs},Rs K F B xs vs a->aq F H a->∃d,Rs K F B (xs.drop n) (vs.drop n) d/\aq F H d/\∀p∈d,p∈a
 |0,_,_,a,h,hc=>⟨a,h,hc,λ_ m=>m⟩
 |n + 1,[],_,a,y,_=>by let⟨b,e⟩:=y;exact⟨[],by rw[b];exact⟨rfl,rfl⟩,.nil,λ_ m=>nomatch m⟩
 |n + 1,x::xs,_,_,y,hc=>by
  let⟨v,r,c,d,b,e,o,l⟩:=y;rw[e] at hc;let⟨j,f,g,i⟩:=Rs.drop n l hc.right;exact⟨j,by rw[b];exact f,g,λp m=>by rw[e];exact mem_append.mpr (.inr (i p m))⟩
theorem Rs.take:∀(n:Nat){xs:ai}{vs:aw}{a:Cs},Rs K F B xs vs a->aq F H a->∃d,Rs K F B (xs.take n) (vs.take n) d/\aq F H d/\∀p∈d,p∈a
 |0,_,_,a,h,hc=>⟨[],⟨rfl,rfl⟩,.nil,λ_ m=>nomatch m⟩
 |n + 1,[],_,a,y,_=>by let⟨b,e⟩:=y;exact⟨[],by rw[b];exact⟨rfl,rfl⟩,.nil,λ_ m=>nomatch m⟩
 |n + 1,x::xs,_,_,y,hc=>by
  let⟨v,r,c,d,b,e,l,o⟩:=y;rw[e] at hc;let⟨g,i,j,f⟩:=Rs.take n o hc.right;refine⟨c++g,by rw[b];exact⟨v,_,c,g,rfl,rfl,l,i⟩,hc.left.app j λp s q u=>?_,λp m=>by rw[e];exact (mem_append.mp m).elim (λm=>mem_append.mpr (.inl m)) λm=>mem_append.mpr (.inr (f p m))⟩;have:=hc.nd;rw[map_append,nodup_append] at this;exact this.2.2 _ (mem_map.mpr ⟨p,s,rfl⟩) _ (mem_map.mpr ⟨q,f q u,rfl⟩)
def tG(x:Tr)(l h:bK)(Q:az):Prop:=match x with
 |.ag _ a=>Q (.ag .o (ik a l h))
 |.str x=>x.length <= 1000000 /\ Q (.str (Txt.slice x l h))
 |_=>False
def wC(pe:bc)(pl a:ou):bc:=λj Q=>pe j λx=>pl j λl=>a j λh=>tG x l h Q
theorem N0(h:bD K k te pe)(Y:pR K k tl pl)(U:pR K k th ph):bD K k (D5 (zf K) te tl th) (wC pe pl ph):=λF B H j i Q Q' c p q=>by
 refine h F B H j i _ _ c p λx v z C c1 p1 e=>?_
 refine Y z B C j i _ _ (c.gr e.g) p1 λl A D p2 y=>?_
 refine U A B D j i _ _ ((c.gr e.g).gr y) p2 λh w E p3 O=>?_
 have d:=y.trans' O;have o:=(c.gr e.g).gr d;have r3:=e.r.mo d.le (λk=>Le.refl (B k)) x;have u:=e.c.gr d;unfold tG at p3;split at p3
 .obtain⟨a,vs,ds,rfl,h1,h2,h3,h4⟩:=r3.cj o.s o.b u;refine .inl ⟨a,vs,rfl,h1,λl' f=>?_⟩;∎;let⟨d1,G,I,J⟩:=h2.drop (HT.dw vs.length 0 l) h3;let⟨d2,L,M,N⟩:=G.take (HT.dw vs.length vs.length h - HT.dw vs.length 0 l) I;let⟨n1,n2,n3⟩:=kU o.s L M f;∎;refine q _ _ w _ _ p3 ⟨(e.g.trans' d).trans' n1,?_,n3,λp m=>?_⟩
  .unfold ik;rw[<- h2.length];exact n2
  .cases m with
   |head=>exact (e.g.h.trans d.h).free f
   |tail _ m=>exact e.n p (h4 p (J p (N p m)))
 .obtain⟨rfl,_⟩:=r3;exact .inr ⟨_,rfl,lL p3.1,q _ _ w E [] p3.2 ⟨e.g.trans' d,⟨rfl,rfl⟩,.nil,.nil⟩⟩
 .exact p3.elim
end
section
def mF(ix:bG)(j:ai):ai:=ix.map λo=>match o with |none=>.ax |some i=>(j[i]?).getD .ax
theorem dQ.pick(e:dQ K F B G J):dQ K F B (eV ix G) (mF ix J):=λj t h=>by
 unfold mF at h;rw[getElem?_map] at h;cases q:ix[j]? with
 |none=>rw[q] at h;cases h
 |some o=>
  rw[q] at h;cases o with
  |none=>cases h;exact .inl rfl
  |some i=>
   cases z:J[i]? with
   |none=>
    have h:some ((J[i]?).getD .ax)=some t:=h;rw[z] at h;cases h;exact .inl rfl
   |some u=>
    have h:some ((J[i]?).getD .ax)=some t:=h;rw[z] at h;cases h;refine (e i u z).imp id λa=>?_
    let⟨v,b,d⟩:=a;refine⟨v,?_,d⟩;unfold eV;rw[getElem?_map,q];show some ((G[i]?).getD none)=_;rw[b];rfl
theorem uB:∀{a b:St},a.length=b.length->(∀(i:Nat)(v:V),a[i]?=some (some v)->b[i]?=some (some v))->Wk a b
 |[],[],_,_=>.nil
 |[],_::_,h,_=>by cases h
 |_::_,[],h,_=>by cases h
 |none::a,y::b,h,g=>.aM (uB (Nat.succ.inj h) λi v e=>g (i + 1) v e)
 |some x::a,y::b,h,g=>by
  have e:=g 0 x rfl;cases e;exact .sq (uB (Nat.succ.inj h) λi v e=>g (i+1) v e)
def pI(K:ao)(e:List Nat)(f:TG)(pg:eI):Prop:=∀(F:Hp)(B:Bool->Hp)(H:Hp)(j:St)(G:ai)(x:V)(t:Tr)(Q:St->Hp->Prop)(d:aW),aB F H->dQ K F B j G->j.length=G.length->R K F B t x []->pg t G d->(∀a b,dQ K F B a b->a.length=b.length->a.length=j.length->(∀i,i ∉ e->a[i]?=j[i]?)->d b->Q a H)->f x j H Q
theorem dQ.set(e:dQ K F B G J)(d:G.length=J.length)(r:R K F B t x []):dQ K F B (G.set i (some x)) (J.set i t):=λj u h=>by
 by_cases a:j=i
 .subst a;have b:j<J.length:=by have:=xY h;rw[length_set] at this;exact this
  rw[getElem?_set_self b] at h;cases h;exact .inr ⟨x,getElem?_set_self (by rw[d];exact b),r⟩
 .rw[getElem?_set_ne (λz=>a z.symm)] at h;exact (e j u h).imp id λ⟨v,h1,h2⟩=>⟨v,by rw[getElem?_set_ne (λz=>a z.symm)];exact h1,h2⟩
theorem MT:pI K [i] (jk i) (qL i):=λF B H G J x t Q d s e a r p q=>q _ _ (e.set a r) (by rw[length_set,length_set];exact a) (by rw[length_set]) (λj b=>getElem?_set_ne λz=>b (by rw[z];exact mem_singleton.mpr rfl)) p
def pK(K:ao)(g:List Nat)(h:mB)(pg:ai->ai->(aW)->Prop):Prop:=∀(F:Hp)(B:Bool->Hp)(H:Hp)(j:St)(G:ai)(f:aw)(e:ai)(Q:St->Hp->Prop)(d:aW),aB F H->dQ K F B j G->j.length=G.length->Rs K F B e f []->pg e G d->(∀a b,dQ K F B a b->a.length=b.length->a.length=j.length->(∀i,i ∉ g->a[i]?=j[i]?)->d b->Q a H)->h f j H Q
theorem NY:pK K [] wu nk:=λF B H j i f d Q b s e a r p q=>by
 unfold nk at p;split at p
 .exact⟨r.1,q j i e a rfl (λ_ _=>rfl) p⟩
 .exact p.elim
theorem Hg(h:pI K js tg pg)(h':pK K ks tr pr):pK K (js++ks) (yN tg tr) (mS pg pr):=λF B H j G L J Q g s e n r p q=>by
 unfold mS at p;split at p
 .obtain⟨v,w,c,d,h1,h2,h3,h4⟩:=r;have z:=append_eq_nil_iff.mp h2.symm;rw[z.1] at h3;rw[z.2] at h4;refine⟨v,w,h1,h F B H j G v _ _ _ s e n h3 p λo b l x y D I=>h' F B H o b w _ Q g s l x h4 I λu f m A C E p2=>q u f m A (C.trans y) (λi a=>?_) p2⟩;rw[E i λz=>a (mem_append.mpr (.inr z)),D i λz=>a (mem_append.mpr (.inl z))]
 .exact p.elim
theorem NC(h:pK K js tr pr):pI K js (vd K n tr) (lI n pr):=λF B H j i x t Q b s e d r p q=>by
 unfold lI at p;split at p
 .obtain⟨a,vs,rfl,h1,h2⟩:=r.dc s;exact⟨a,vs,rfl,h1,h2.length.trans p.1,h F B H j i vs _ Q b s e d h2 p.2 q⟩
 .exact p.elim
def ql:d7:=λ_ Q=>Q true
theorem M3:fY K k B6 ql:=λF B H j i Q a c p q=>q true F H p (Gr.aP c.s)
def rD(f:iJ)(pg:eI)(pt:d7)(pe:bc)(ix:bG):bc:=λj Q=>f j λe _=>∃I:Nat->aW,I 0 []/\
 (∀i t a,e[i]?=some t->I i a->pg t (mF ix j) λd=>pt d λb=>if b=true then pe d λx=>a.length<1000000/\I (i+1) (a++[x]) else I (i+1) a)/\∀a,I e.length a->a.length<=1000000/\Q (.ag .o a)
theorem Gb{wi:TI}{pi:iJ}{js:List Nat}{tg:TG}{pg:eI}{ti:TT}{pt:d7}{te:TE}{pe:bc}{ix:bG}(hi:kf K k wi pi)(hg:pI K js tg pg)(ht:fY K k.fW ti pt)(he:bD K k.fW te pe)(hj:∀j∈js,ix[j]?=some none):bD K k (pO wi tg ti te ix) (rD pi pg pt pe ix):=λF B H G O Q Q' c p q=>by
 refine hi F B H G O _ _ c p λts nl J F1 H1 p1 E δ _=>?_
 ∎;let⟨I,i0,step,α⟩:=p1;let⟨Kp,Y,C,kp,yl⟩:=δ;∎;have c1:=c.gr E;refine Br (n:=ts.length) (λi w f=>∃o us d,Gr F1 H1 o f/\Rs K o B us w d/\aq o f d/\c8 H1 d/\I i us) ⟨F1,[],[],Gr.aP E.s,⟨rfl,rfl⟩,.nil,.nil,i0⟩ ?_ ?_ ?_ ?_
 .rintro i w f hlt ⟨o,us,d,g2,_⟩;exact C.go i f hlt (kp o f g2.le g2.s (c1.gr g2).b)
 .rintro w f ⟨o,us,d,g2,_⟩;exact C.st f (kp o f g2.le g2.s (c1.gr g2).b)
 .rintro i x w f H3 hlt ⟨o,us,d,g2,r2,hc2,n2,ii⟩ y;have c2:=c1.gr g2;∎;let⟨t,et⟩:=nK hlt;let⟨U,g3,r3⟩:=yl i t o f x H3 et g2.le g2.s c2.b (C.yl i f x H3 hlt (kp o f g2.le g2.s c2.b) y);∎;have D:=c2.gr g3;have β:(eV ix G).length=(mF ix O).length:=by unfold eV mF;rw[length_map,length_map]
  refine hg U B H3 _ _ x t _ _ D.s D.e.pick β r3 (step i t us et ii) λG2 O2 e2 l2 γ n3 p2=>⟨uB γ.symm λj v M=>?_,?_⟩
  .by_cases hjs:j∈js
   .have z:=hj j hjs;unfold eV at M;rw[getElem?_map,z] at M;cases M
   .rw[n3 j hjs];exact M
  .have c3':gY K k.fW U B H3 G2 O2:=⟨D.s,D.b,D.z,e2,λ_ _ _ h=>h.elim⟩
   refine ht U B H3 G2 O2 _ _ c3' p2 λb F4 H4 N g4=>?_
   have l:=g3.trans' g4;cases b with
   |false=>
    rw[if_neg ∎] at N ⊢;exact⟨F4,us,d,g2.trans' l,r2.mo l.le (λk=>Le.refl (B k)) us,hc2.gr l,n2,N⟩
   |true=>
    rw[if_pos rfl] at N ⊢;refine he F4 B H4 G2 O2 _ _ (c3'.gr g4) N λu v F5 H5 c5 p5 L=>?_
    have A:=l.trans' L.g;refine⟨lt_of_lt_of_le (by rw[r2.length];exact p5.1) ∎,F5,us++[u],d++c5,g2.trans' A,(r2.mo A.le (λk=>Le.refl (B k)) us).snoc L.r,(hc2.gr A).app L.c λp mp q mq e=>?_,λp m=>?_,p5.2⟩
    .have:=(hc2.gr l).h p mp;rw[e,L.n q mq] at this;cases this
    .rcases mem_append.mp m with m |m
     .exact n2 p m
     .exact (g2.h.trans l.h).free (L.n p m)
 .rintro w f ⟨o,us,d,g2,r2,hc2,n2,ii⟩;let⟨hl,hq⟩:=α us ii;refine⟨by rw[r2.length];exact lL hl,λa ha=>?_⟩;let⟨m1,m2,m3⟩:=kU g2.s r2 hc2 ha;refine q _ _ o _ _ hq ⟨(E.trans' g2).trans' m1,m2,m3,λp m=>?_⟩;cases m with
  |head=>exact (E.h.trans g2.h).free ha
  |tail _ m=>exact E.h.free (n2 p m)
end
mutual
noncomputable def dH:Tr->Tr->Option Bool
 |.aF xs,.aF ys=>if xs.length=ys.length then dk xs ys else none
 |.ag _ xs,.ag _ ys=>if xs.length=ys.length then dk xs ys else some false
 |.int a,.int b=>some (decide (a=b))
 |.str a,.str b=>some (decide (a=b))
 |.bl a,.bl b=>some (decide (a=b))
 |.aM,.aM=>some true
 |_,_=>none
noncomputable def dk:List Tr->List Tr->Option Bool
 |[],[]=>some true
 |x::xs,y::ys=>(dH x y).bind λa=>(dk xs ys).bind λb=>some (a&&b)
 |_,_=>none
end
mutual
noncomputable def dep:Tr->Nat
 |.aF a=>dP a + 1
 |.ag _ a=>dP a + 1
 |_=>0
noncomputable def dP:List Tr->Nat
 |[]=>0
 |x::xs=>max (dep x) (dP xs)
end
section
mutual
theorem v5(I:au X aa j H s)(i:aB F H)(sb:∀k,aB (B k) H):∀(t:Tr)(t':Tr)(v:V)(c d:Cs)(b:Bool),dH t t'=some b->R X.K F B t v c->R X.K F B t' v d->aq F H c->aq F H d->b=true
 |.aF y=>λt' v c d b e r g w h=>by
  cases t' with
  |aF A=>
   unfold dH at e;split at e
   .obtain⟨a,vs,rfl,u,n⟩:=r.dc i;let⟨l,x,p,q,m⟩:=g.dc i;cases p;have z:=Rj I u q;subst z;exact fS I i sb y A vs c d b e n m w h
   .cases e
  |_=>cases e
 |.ag f y=>λt' v c d b e r g w h=>by
  cases t' with
  |ag G A=>
   unfold dH at e;∎;let⟨a,vs,C,rfl,u,n,E,_⟩:=r.cj i sb w;let⟨l,x,o,p,q,m,D,_⟩:=g.cj i sb h;∎;cases p;have z:=Nj I u q;subst z;split at e
   .exact fS I i sb y A vs C o b e n m E D
   .rename_i hl;exact absurd (n.length.symm.trans m.length) hl
  |_=>cases e
 |.int a=>λt' v c d b e r g _ _=>by
  cases t' with
  |int l=>cases e;have:=r.1.symm.trans g.1;cases this;exact decide_eq_true rfl
  |_=>cases e
 |.str a=>λt' v c d b e r g _ _=>by
  cases t' with
  |str l=>cases e;have:=r.1.symm.trans g.1;cases this;exact decide_eq_true rfl
  |_=>cases e
 |.bl a=>λt' v c d b e r g _ _=>by
  cases t' with
  |bl l=>cases e;have:=r.1.symm.trans g.1;cases this;exact decide_eq_true rfl
  |_=>cases e
 |.aM=>λt' v c d b e r g _ _=>by
  cases t' with
  |aM=>cases e;rfl
  |_=>cases e
 |.ax=>λt' v c d b e _ _ _ _=>by cases t' <;> cases e
 |.ty _=>λt' v c d b e _ _ _ _=>by cases t' <;> cases e
 |.cl _=>λt' v c d b e _ _ _ _=>by cases t' <;> cases e
 |.exc _=>λt' v c d b e _ _ _ _=>by cases t' <;> cases e
 |.aO _ _=>λt' v c d b e _ _ _ _=>by cases t' <;> cases e
 |.ins _ _ _=>λt' v c d b e _ _ _ _=>by cases t' <;> cases e
theorem fS(I:au X aa j H s)(m:aB F H)(sb:∀k,aB (B k) H):∀(n:List Tr)(d:List Tr)(vs:List V)(c g:Cs)(b:Bool),dk n d=some b->Rs X.K F B n vs c->Rs X.K F B d vs g->aq F H c->aq F H g->b=true
 |[]=>λd vs c g b e _ _ _ _=>by
  cases d with
  |nil=>cases e;rfl
  |cons _ _=>cases e
 |x::xs=>λd vs c g b e r l h f=>by
  cases d with
  |nil=>cases e
  |cons y o=>
   ∎;let⟨v,r,q,w,E,G,J,L⟩:=r;let⟨M,l,u,z,i,A,C,D⟩:=l;∎;rw[E] at i;cases i;rw[G] at h;rw[A] at f;unfold dk at e;cases e1:dH x y with
   |none=>rw[e1] at e;cases e
   |some a=>
    cases e2:dk xs o with
    |none=>rw[e1,e2] at e;cases e
    |some p=>
     rw[e1,e2] at e;cases e;rw[v5 I m sb x y v q u a e1 J C h.left f.left,fS I m sb xs o r w z p e2 L D h.right f.right];rfl
end
def ij(b a:ai)(j:Nat):Bool:=match b[j]?,a[j]? with |some x,some y=>(dH x y).getD false |_,_=>false
theorem mu:∀{f d:ai}{b:Bool},dk f d=some b->(List.range f.length).all (ij f d)=b/\∀(j:Nat)(x y:Tr),f[j]?=some x->d[j]?=some y->dH x y=some (ij f d j)
 |[],[],b,e=>by cases e;exact⟨rfl,λj x y h=>by cases h⟩
 |[],_::_,b,e=>by cases e
 |_::_,[],b,e=>by cases e
 |x::xs,y::ys,b,e=>by
  unfold dk at e;cases e1:dH x y with
  |none=>rw[e1] at e;cases e
  |some a=>
   cases e2:dk xs ys with
   |none=>rw[e1,e2] at e;cases e
   |some o=>
    rw[e1,e2] at e;cases e;let⟨l,m⟩:=mu e2;refine⟨?_,λj u w g i=>?_⟩
    .rw[length_cons,List.range_succ_eq_map,all_cons,List.all_map];have n:ij (x::xs) (y::ys) 0=a:=by show (dH x y).getD false=a;rw[e1];rfl
     rw[n,<- l];rfl
    .cases j with
     |zero=>cases g;cases i;show dH x y=some ((dH x y).getD false);rw[e1];rfl
     |succ j=>exact m j u w g i
mutual
theorem Ky(I:au X aa i H s)(G:aB F H)(sb:∀k,aB (B k) H):∀(t:Tr)(t':Tr)(Au:Around)(v g:V)(c h:Cs)(b:Bool)(u l:Value),dH t t'=some b->R X.K F B t v c->R X.K F B t' g h->aq F H c->aq F H h->aD v u->aD g l->Au.units+dep t<cLine->SeqAt.EqAt Au s u l b
 |.aF C=>λt' Au v g c h b u l e r o M w m d hu=>by
  cases t' with
  |aF D=>
   have fn:=λ(z:v=g)=>v5 I G sb (.aF C) (.aF D) g c h b e (z ▸ r) o M w
   unfold dH at e;split at e
   .rename_i hl;∎;let⟨a,vs,rfl,Q,E⟩:=r.dc G;let⟨n,J,rfl,O,L⟩:=o.dc G;∎;obtain rfl:u=Value.ref a:=m;obtain rfl:l=Value.ref n:=d;by_cases z:a=n
    .rw[fn (by rw[z]),z];exact SeqAt.EqAt.same _
    .unfold dep at hu;let⟨al,ix⟩:=mu e;have N:=Fo (Au:=Au) I Q O ⋯ (by rw[E.length,L.length];exact hl) (ij C D) (λj x y p q ex Y rx ry=>cM I G sb C D (ij C D) Au.in1 vs J c h j x y p q ix E L M w ex Y rx ry (by rw[lH];omega));rw[E.length,al] at N;exact SeqAt.EqAt.of_refs z N
   .cases e
  |_=>cases e
 |.ag f C=>λt' Au v g c h b u l e r o M w m d hu=>by
  cases t' with
  |ag f' D=>
   have fn:=λ(z:v=g)=>v5 I G sb (.ag f C) (.ag f' D) g c h b e (z ▸ r) o M w
   unfold dH at e;∎;let⟨a,vs,ds,rfl,Q,E,h3,_⟩:=r.cj G sb M;let⟨n,J,U,rfl,O,L,g3,_⟩:=o.cj G sb w;∎;obtain rfl:u=Value.ref a:=m;obtain rfl:l=Value.ref n:=d;unfold dep at hu;by_cases z:a=n
   .rw[fn (by rw[z]),z];exact SeqAt.EqAt.same _
   .split at e
    .rename_i hl;let⟨al,ix⟩:=mu e;have N:=FJ (Au:=Au) I Q O ⋯ (by rw[E.length,L.length];exact hl) (ij C D) (λj x y p q ex Y rx ry=>cM I G sb C D (ij C D) Au.in1 vs J ds U j x y p q ix E L h3 g3 ex Y rx ry (by rw[lH];omega));rw[E.length,al] at N;exact SeqAt.EqAt.of_refs z N
    .rename_i hl;cases e;∎;let⟨us,r1,t1,_⟩:=I.list Q;let⟨zs,r2,t2,_⟩:=I.list O;∎;have m1:=r1.length;have m2:=r2.length;have l1:=E.length;have l2:=L.length;exact SeqAt.EqAt.of_refs z (SeqAt.RcAt.lists_lengths t1.isList t2.isList (by simp;omega) ⋯)
  |_=>cases e
 |.int a=>λt' Au v g c h b u l e r o _ _ m d _=>by
  cases t' with
  |int n=>cases e;rw[r.1] at m;rw[o.1] at d;exact K4 m d
  |_=>cases e
 |.str a=>λt' Au v g c h b u l e r o _ _ m d _=>by
  cases t' with
  |str n=>
   cases e;rw[r.1] at m;rw[o.1] at d;have z:=mJ (A:=Au) (s:=s) m d rfl rfl;have e:hZ (.str a) (.str n)=decide (a=n):=by show (a == n)=_;rw[Bool.beq_eq_decide_eq]
   rw[e] at z;exact z
  |_=>cases e
 |.bl a=>λt' Au v g c h b u l e r o _ _ m d _=>by
  cases t' with
  |bl n=>
   cases e;rw[r.1] at m;rw[o.1] at d;have z:=mJ (A:=Au) (s:=s) m d rfl rfl;have e:hZ (.bl a) (.bl n)=decide (a=n):=by show (a == n)=_;rw[Bool.beq_eq_decide_eq]
   rw[e] at z;exact z
  |_=>cases e
 |.aM=>λt' Au v g c h b u l e r o _ _ m d _=>by
  cases t' with
  |aM=>cases e;rw[r.1] at m;rw[o.1] at d;exact mJ (A:=Au) (s:=s) m d rfl rfl
  |_=>cases e
 |.ax=>λt' Au v g c h b u l e _ _ _ _ _ _ _=>by cases t' <;> cases e
 |.ty _=>λt' Au v g c h b u l e _ _ _ _ _ _ _=>by cases t' <;> cases e
 |.cl _=>λt' Au v g c h b u l e _ _ _ _ _ _ _=>by cases t' <;> cases e
 |.exc _=>λt' Au v g c h b u l e _ _ _ _ _ _ _=>by cases t' <;> cases e
 |.aO _ _=>λt' Au v g c h b u l e _ _ _ _ _ _ _=>by cases t' <;> cases e
 |.ins _ _ _=>λt' Au v g c h b u l e _ _ _ _ _ _ _=>by cases t' <;> cases e
theorem cM(I:au X aa G H s)(A:aB F H)(sb:∀k,aB (B k) H):∀(n:List Tr)(d:List Tr)(e:Nat->Bool)(Au:Around)(vs f:List V)(c o:Cs)(j:Nat)(x y:V)(u h:Value),(∀(j:Nat)(x y:Tr),n[j]?=some x->d[j]?=some y->dH x y=some (e j))->Rs X.K F B n vs c->Rs X.K F B d f o->aq F H c->aq F H o->vs[j]?=some x->f[j]?=some y->aD x u->aD y h->Au.units+dP n<cLine->SeqAt.EqAt Au s u h (e j)
 |[]=>λd e Au vs f c o j x y u h _ r _ _ _ ex _ _ _ _=>by rw[r.1] at ex;cases ex
 |t::n=>λd e Au vs f c o j x y u h w r p q g ex l z m hu=>by
  cases d with
  |nil=>rw[p.1] at l;cases l
  |cons C d=>
   ∎;let⟨v,r,D,J,U,Y,h3,h4⟩:=r;let⟨v',p,E,L,M,N,O,Q⟩:=p;∎;rw[U] at ex;rw[M] at l;rw[Y] at q;rw[N] at g;unfold dP at hu;cases j with
   |zero=>
    cases ex;cases l;exact Ky I A sb t C Au _ _ D E (e 0) u h (w 0 t C rfl rfl) h3 O q.left g.left z m ⋯
   |succ j=>exact cM I A sb n d (λi=>e (i+1)) Au r p J L j x y u h (λi a b ha hb=>w (i+1) a b ha hb) h4 Q q.right g.right ex l z m ⋯
end
theorem Sr(I:au X aa G H s)(f:cU X.K H a xs)(g:cU X.K H b ys)(r:Au.units<cLine)(E:xs.length=ys.length)(e:Nat->Bool)(he:∀(j:Nat) x y u v,xs[j]?=some x->ys[j]?=some y->aD x u->aD y v->SeqAt.EqAt Au.in1 s u v (e j)):SeqAt.RcNeAt Au s (.ref a) (.ref b) (!(List.range xs.length).all e):=by
 ∎;let⟨us,m,C,_⟩:=I.tuple f;let⟨d,r2,D,_⟩:=I.tuple g;∎;have J:=m.length;have L:=r2.length;have z:=SeqAt.RcNeAt.tuples (A:=Au) (e:=e) C D r (λj f g=>?_)
 .have e0:((List.range (min us.toArray.size d.toArray.size)).all e&&us.toArray.size == d.toArray.size)=(List.range xs.length).all e:=by
   simp only[size_toArray];have h:min us.length d.length=xs.length:=⋯
   have l:(us.length == d.length)=true:=by simp;omega
   rw[h,l,Bool.and_true]
  rw[e0] at z;exact z
 .simp only[size_toArray] at f g;∎;let⟨u,h,w⟩:=m.get (i:=j) (x:=xs[j]'⋯) (by simp);let⟨v,l,B⟩:=r2.get (i:=j) (x:=ys[j]'⋯) (by simp);let⟨_,n⟩:=List.getElem?_eq_some_iff.mp h;let⟨_,o⟩:=List.getElem?_eq_some_iff.mp l;∎;have p:us.toArray[j]'(by simpa using f)=u:=by simpa using n
  have q:d.toArray[j]'(by simpa using g)=v:=by simpa using o
  rw[p,q];exact he j _ _ u v (by simp) (by simp) w B
def ro(K:ao)(neg:Bool):R2:=λx y H Q=>∃(F:Hp)(B:Bool->Hp)(t d:Tr)(c a:Cs)(b:Bool),aB F H/\(∀k,aB (B k) H)/\R K F B t x c/\R K F B d y a/\aq F H c/\aq F H a/\dH t d=some b/\dep t<=60/\1<=dep t/\Q (.bl (if neg=true then !b else b)) H
theorem LV(hu:X.A.units+64<cLine):b4 X (compareOp .Eq) (ro X.K false):=by
 intro aa s i H x y v u Q I D E h;let⟨F,B,t,t',c,c',b,G,sb,r,r',hc,J,e,d,d1,q⟩:=h;have l:∀{p p':af},SeqAt.RcAt X.A s (.ref p) (.ref p') b->wpAny (model X.prog X.w) X.A (compareOp .Eq (.ref p) (.ref p')) (EP X aa i Q) X.xe s:=λm=>m X.prog X.w X.xe _ ⟨.bl b,H,I,rfl,q⟩
 cases t with
 |aF o=>
  cases t' with
  |aF z=>
   unfold dH at e;unfold dep at d;split at e
   .rename_i hl;∎;let⟨a,vs,rfl,M,g⟩:=r.dc G;let⟨N,n,rfl,L,C⟩:=r'.dc G;∎;obtain rfl:v=Value.ref a:=D;obtain rfl:u=Value.ref N:=E;let⟨al,Y⟩:=mu e;have m:=Fo (Au:=X.A) I M L ⋯ (by rw[g.length,C.length];exact hl) (ij o z) (λj x y p q ex U D E=>cM I G sb o z (ij o z) X.A.in1 vs n c c' j x y p q Y g C hc J ex U D E (by rw[lH];omega));rw[g.length,al] at m;exact l m
   .cases e
  |_=>cases e
 |ag f o=>
  cases t' with
  |ag f' z=>
   unfold dH at e;unfold dep at d;∎;let⟨a,vs,ds,rfl,M,g,h3,_⟩:=r.cj G sb hc;let⟨N,n,O,rfl,L,C,g3,_⟩:=r'.cj G sb J;∎;obtain rfl:v=Value.ref a:=D;obtain rfl:u=Value.ref N:=E;split at e
   .rename_i hl;let⟨al,Y⟩:=mu e;have m:=FJ (Au:=X.A) I M L ⋯ (by rw[g.length,C.length];exact hl) (ij o z) (λj x y p q ex U D E=>cM I G sb o z (ij o z) X.A.in1 vs n ds O j x y p q Y g C h3 g3 ex U D E (by rw[lH];omega));rw[g.length,al] at m;exact l m
   .rename_i hl;cases e;∎;let⟨us,r1,t1,_⟩:=I.list M;let⟨zs,r2,t2,_⟩:=I.list L;∎;have m1:=r1.length;have m2:=r2.length;have l1:=g.length;have l2:=C.length;exact l (SeqAt.RcAt.lists_lengths t1.isList t2.isList (by simp;omega) ⋯)
  |_=>cases e
 |_=>exact absurd d1 (by unfold dep;decide)
theorem Tq(hu:X.A.units+64<cLine):b4 X (compareOp .NotEq) (ro X.K true):=by
 intro aa s i H x y v u Q I D E h;let⟨F,B,t,t',c,c',b,G,sb,r,r',hc,J,e,d,d1,q⟩:=h;have l:∀{p p':af},SeqAt.RcNeAt X.A s (.ref p) (.ref p') (!b)->wpAny (model X.prog X.w) X.A (compareOp .NotEq (.ref p) (.ref p')) (EP X aa i Q) X.xe s:=λm=>m X.prog X.w X.xe _ ⟨.bl (!b),H,I,rfl,q⟩
 cases t with
 |aF o=>
  cases t' with
  |aF z=>
   unfold dH at e;unfold dep at d;split at e
   .rename_i hl;∎;let⟨a,vs,rfl,M,g⟩:=r.dc G;let⟨N,n,rfl,L,C⟩:=r'.dc G;∎;obtain rfl:v=Value.ref a:=D;obtain rfl:u=Value.ref N:=E;let⟨al,Y⟩:=mu e;have m:=Sr (Au:=X.A) I M L ⋯ (by rw[g.length,C.length];exact hl) (ij o z) (λj x y p q ex U D E=>cM I G sb o z (ij o z) X.A.in1 vs n c c' j x y p q Y g C hc J ex U D E (by rw[lH];omega));rw[g.length,al] at m;exact l m
   .cases e
  |_=>cases e
 |ag f o=>
  cases t' with
  |ag f' z=>
   unfold dH at e;unfold dep at d;∎;let⟨a,vs,ds,rfl,M,g,h3,_⟩:=r.cj G sb hc;let⟨N,n,O,rfl,L,C,g3,_⟩:=r'.cj G sb J;∎;obtain rfl:v=Value.ref a:=D;obtain rfl:u=Value.ref N:=E;split at e
   .rename_i hl;let⟨al,Y⟩:=mu e;have m:=Kv (Au:=X.A) I M L ⋯ (by rw[g.length,C.length];exact hl) (ij o z) (λj x y p q ex U D E=>cM I G sb o z (ij o z) X.A.in1 vs n ds O j x y p q Y g C h3 g3 ex U D E (by rw[lH];omega));rw[g.length,al] at m;exact l m
   .rename_i hl;cases e;∎;let⟨us,r1,t1,_⟩:=I.list M;let⟨zs,r2,t2,_⟩:=I.list L;∎;have m1:=r1.length;have m2:=r2.length;have l1:=g.length;have l2:=C.length;exact l (SeqAt.RcNeAt.lists_lengths (A:=X.A) t1.isList t2.isList (by simp;omega) ⋯)
  |_=>cases e
 |_=>exact absurd d1 (by unfold dep;decide)
def Ci(K:ao):R2:=λx y H Q=>uZ x y H Q\/ro K false x y H Q
theorem fX(a:X.A.units+64<cLine:=by exact bu.units (by assumption)):b4 X (compareOp .Eq) (Ci X.K):=JY.or (LV a)
def zk(K:ao):R2:=λx y H Q=>qF x y H Q\/ro K true x y H Q
theorem jW(a:X.A.units+64<cLine:=by exact bu.units (by assumption)):b4 X (compareOp .NotEq) (zk X.K):=C2.or (Tq a)
def kM(neg:Bool)(x y:Tr)(Q:az):Prop:=match x,y with
 |.int a,.int b=>Q (.bl (if neg=true then !decide (a=b) else decide (a=b)))
 |.str a,.str b=>Q (.bl (if neg=true then !decide (a=b) else decide (a=b)))
 |.bl a,.bl b=>Q (.bl (if neg=true then !decide (a=b) else decide (a=b)))
 |x,y=>qH neg x y Q \/ ∃b,dH x y=some b /\ dep x <= 60 /\ 1 <= dep x /\ Q (.bl (if neg=true then !b else b))
theorem fU:ee K k (Ci K) (kM false):=λF B H x y n ty g i Q o s b z a f j l hd p q=>by
 unfold kM at p;split at p
 .obtain⟨rfl,_⟩:=a;let⟨rfl,_⟩:=f;refine .inl ⟨rfl,q _ _ F H [] p (Gr.aP s) ⟨?_,rfl⟩ .nil λ_ m=>nomatch m⟩;exact congrArg V.bl (decide_eq_decide.mpr ⟨λh=>V.int.inj h,λh=>by rw[h]⟩)
 .obtain⟨rfl,_⟩:=a;let⟨rfl,_⟩:=f;refine .inl ⟨rfl,q _ _ F H [] p (Gr.aP s) ⟨?_,rfl⟩ .nil λ_ m=>nomatch m⟩;exact congrArg V.bl (decide_eq_decide.mpr ⟨λh=>V.str.inj h,λh=>by rw[h]⟩)
 .obtain⟨rfl,_⟩:=a;let⟨rfl,_⟩:=f;refine .inl ⟨rfl,q _ _ F H [] p (Gr.aP s) ⟨?_,rfl⟩ .nil λ_ m=>nomatch m⟩;exact congrArg V.bl (decide_eq_decide.mpr ⟨λh=>V.bl.inj h,λh=>by rw[h]⟩)
 .rcases p with p |p
  .exact .inl (WG (k:=k) F B H x y n ty g i Q o s b z a f j l hd p q)
  .obtain⟨bb,e,d,d1,p⟩:=p;exact .inr ⟨F,B,n,ty,g,i,bb,s,b,a,f,j,l,e,d,d1,q _ _ F H [] p (Gr.aP s) ⟨rfl,rfl⟩ .nil λ_ m=>nomatch m⟩
theorem j7:ee K k (zk K) (kM true):=λF B H x y n ty g i Q o s b z a f j l hd p q=>by
 unfold kM at p;split at p
 .obtain⟨rfl,_⟩:=a;let⟨rfl,_⟩:=f;refine .inl ⟨rfl,q _ _ F H [] p (Gr.aP s) ⟨?_,rfl⟩ .nil λ_ m=>nomatch m⟩;exact congrArg (λb=>V.bl (!b)) (decide_eq_decide.mpr ⟨λh=>V.int.inj h,λh=>by rw[h]⟩)
 .obtain⟨rfl,_⟩:=a;let⟨rfl,_⟩:=f;refine .inl ⟨rfl,q _ _ F H [] p (Gr.aP s) ⟨?_,rfl⟩ .nil λ_ m=>nomatch m⟩;exact congrArg (λb=>V.bl (!b)) (decide_eq_decide.mpr ⟨λh=>V.str.inj h,λh=>by rw[h]⟩)
 .obtain⟨rfl,_⟩:=a;let⟨rfl,_⟩:=f;refine .inl ⟨rfl,q _ _ F H [] p (Gr.aP s) ⟨?_,rfl⟩ .nil λ_ m=>nomatch m⟩;exact congrArg (λb=>V.bl (!b)) (decide_eq_decide.mpr ⟨λh=>V.bl.inj h,λh=>by rw[h]⟩)
 .rcases p with p |p
  .exact .inl (Q2 (k:=k) F B H x y n ty g i Q o s b z a f j l hd p q)
  .obtain⟨bb,e,d,d1,p⟩:=p;exact .inr ⟨F,B,n,ty,g,i,bb,s,b,a,f,j,l,e,d,d1,q _ _ F H [] p (Gr.aP s) ⟨rfl,rfl⟩ .nil λ_ m=>nomatch m⟩
end
def yY(K:ao)(k:Md)(pe:bc):TE:=λj H Q=>∃(F:Hp)(B:Bool->Hp)(i:ai)(b:az),gY K k F B H j i/\pe i b/\∀t v d a e,b t->Out K F B H d a t v e->Q v a
def yR(K:ao)(k:Md)(pe:d7):TT:=λj H Q=>∃(F:Hp)(B:Bool->Hp)(i:ai)(d:Bool->Prop),gY K k F B H j i/\pe i d/\∀b e a,d b->Gr F H e a->Q b a
section
theorem QE.of(h:QE X k e pe):PE X e (yY X.K k pe):=λaa s j H Q I ⟨F,B,i,Q',h1,h2,h3⟩=>by
 let⟨d,a,b⟩:=h.h;exact a aa s j H Q I (b F B H j i Q Q' h1 h2 h3)
theorem DQ:bD K k (yY K k pe) pe:=λF B H j i Q a b d e=>⟨F,B,i,a,b,d,e⟩
theorem QT.of(h:QT X k e pe):PT X e (yR X.K k pe):=λaa s j H Q I ⟨F,B,i,Q',h1,h2,h3⟩=>by
 let⟨d,a,b⟩:=h.h;exact a aa s j H Q I (b F B H j i Q Q' h1 h2 h3)
theorem E4:fY K k (yR K k pe) pe:=λF B H j i Q a b d e=>⟨F,B,i,a,b,d,e⟩
theorem AL(d:QE X k a pa)(e:QE X k b pb):QE X k (.BinOp a .Pow b pos) (p2 (iV uO λi j=>.int (i ^ j.toNat)) pa pb):=nq Qq (vn λ_ _ _ _=>⟨rfl,rfl⟩) d e
theorem i3(g:bL X (.type T) r)(j:lO X.K k r pr)(hm:X.mg x=none)(f:QA X k (e::es) ps)(i:do Gl X x)(l:do bootBuiltins x=some (.type T))(hn: ~~~(x≠"__name__"))(a: ~~~(dq x))(he:do du e es X.env)(hpl:do fa pos es X.env):
  QE X k (.Call (.Name x p) (e::es) [] pos) (pB pr ps):=by
 let⟨m,b,d⟩:=f.h;exact⟨_,mH g i hm l b hn a he hpl,ES j d⟩
theorem nV:QE X k (.Dict [] [] pos) u7:=⟨_,He,Uh⟩
theorem Uj(h:QE X k e pe)(d:do attributeBase e f X.env (eval e X.env)=eval e X.env):QE X k (.Attribute e f pos) (p1 (gW X.K f) pe):=by
 let⟨g,a,b⟩:=h.h;exact⟨_,BF a d,Ox b⟩
theorem Dv(m:QE X k o po)(he:QE X k e pe)(l:QE X k f pf)(hm:M2 X o "get" apos e f a9:=by exact⟨rfl,rfl,rfl,rfl⟩)(n:X.A.units+1<cLine:=by assumption):QE X k (.Call (.Attribute o "get" apos) [e,f] [] a9) (p3 rL po pe pf):=by
 ∎;let⟨p,i,j⟩:=m.h;let⟨q,d,g⟩:=he.h;let⟨r,a,b⟩:=l.h;∎;exact⟨_,Ow n i d a hm,MU j g b⟩
structure QO(X:Cx)(k:Md)(e:Option Expr)(pe:ou):Prop where
 h:∃te,PO X e te/\pR X.K k te pe
theorem qp:QO X k none yV:=⟨_,HB,Hh⟩
theorem mh(h:QE X k e pe):QO X k (some e) (vZ pe):=by
 let⟨d,a,b⟩:=h.h;exact⟨_,VH a,VO b⟩
theorem oM{e:Expr}{pe:bc}{l h:Option Expr}{pl a:ou}{p2:Pos}(he:QE X k e pe)(n:QO X k l pl)(m:QO X k h a):QE X k (.Subscript e (.Slice l h none p2) pos) (wC pe pl a):=by
 ∎;let⟨o,i,j⟩:=he.h;let⟨p,f,g⟩:=n.h;let⟨q,b,d⟩:=m.h;∎;exact⟨_,Pt Sl i f b,N0 j g d⟩
structure QG(X:Cx)(k:Md)(lo:Nat)(e:Expr)(pg:eI):Prop where
 h:∃tg,PG X e tg/\mX X.K k lo tg pg
structure uS(X:Cx)(k:Md)(lo:Nat)(es:bH)(pg:ai->ai->(aW)->Prop):Prop where
 h:∃tg,oq X es tg/\qU X.K k lo tg pg
theorem cS(i:Nat)(a:X.N.Nodup:=by assumption)(e: ~~~(lo<=i))(d:do X.N[i]?=some x)(f:Loc X.env.scope x:=by first |exact Or.inl rfl |exact Or.inr rfl)(b:jR X x:=by first |exact .inl rfl |exact .inr rfl |assumption):QG X k lo (.Name x pos) (qL i):=⟨_,uV a d f b,N2 e⟩
theorem hJ:uS X k lo [] nk:=⟨_,Ad,GX⟩
theorem dE(h:QG X k lo e pg)(h':uS X k lo es pr)(hs:do (assignEach (e::es) X.env).map (·.2)=assign e X.env::(assignEach es X.env).map (·.2)):uS X k lo (e::es) (mS pg pr):=by
 ∎;let⟨g,d,f⟩:=h.h;let⟨i,a,b⟩:=h'.h;∎;exact⟨_,Fw d a hs,Rp f b⟩
theorem h9(d:X.calm=true)(h:uS X k lo es pr)(hn:do (assignEach es X.env).length=n)(e:do (assignEach es X.env).findIdx? (·.1)=none):QG X k lo (.Tuple es kk pos) (lI n pr):=by
 let⟨f,a,b⟩:=h.h;exact⟨_,z6 d a hn e,Wt b⟩
structure QI(X:Cx)(k:Md)(tg e:Expr)(pi:iJ):Prop where
 h:∃ti,PI X tg e ti/\kf X.K k ti pi
section
theorem gm(h:QE X k l pl):QI X k tg l (wc pl):=by
 let⟨d,a,b⟩:=h.h;exact⟨_,PM a,VG b⟩
theorem rR(hm:X.mg "range"=none)(h:QA X k [l] ps)(d:do Gl X "range")(hs:do ki l X.env):QI X k tg (.Call (.Name "range" p) [l] [] pos) (wy ps):=by
 let⟨e,a,b⟩:=h.h;exact⟨_,Oe d hm a hs,Oo b⟩
theorem Nh(hm:X.mg "range"=none)(h:QA X k [l,m] ps)(e:do Gl X "range")(hs:do oO l m X.env)(a:do ki m X.env):QI X k tg (.Call (.Name "range" p) [l,m] [] pos) (wN ps):=by
 let⟨f,b,d⟩:=h.h;exact⟨_,V6 e hm b hs a,Sy d⟩
theorem l7(hm:X.mg "enumerate"=none)(h:QA X k [l] ps)(d:do Gl X "enumerate")(hs:do ki l X.env):QI X k (.Tuple es x1 tpos) (.Call (.Name "enumerate" p) [l] [] pos) (vO ps):=by
 let⟨e,a,b⟩:=h.h;exact⟨_,Oj d hm a hs,L0 b⟩
theorem qh(hm:X.mg "zip"=none)(h:QA X k [l,m] ps)(e:do Gl X "zip")(hs:do oO l m X.env)(a:do ki m X.env):QI X k (.Tuple es x1 tpos) (.Call (.Name "zip" p) [l,m] [] pos) (xU ps):=by
 let⟨f,b,d⟩:=h.h;exact⟨_,Tf e hm b hs a,Jh d⟩
end
theorem bJ(i:Nat)(h:QE X k e pe)(d:X.N.Nodup:=by assumption)(j: ~~~(lo<=i))(g:do X.N[i]?=some x)(l:Loc X.env.scope x:=by first |exact Or.inl rfl |exact Or.inr rfl)(hs:do swapsWith e (some (.Name x pos')) pos.line X.env=pure false)(f:jR X x:=by first |exact .inl rfl |exact .inr rfl |assumption):
  QS X k lo (.Assign [.Name x pos'] e pos) (pX i pe):=by
 let⟨m,a,b⟩:=h.h;exact⟨_,uG d g l a hs f,D8 j b⟩
theorem wQ(h:QE X k e pe)(l:QG X k lo tg pg)(g:do swapsWithSole [tg] e pos.line X.env=pure false)(i:do swappedStores [tg] e X.env=pure none)(j:do (assignEach [tg] X.env).map (·.2)=[assign tg X.env]):QS X k lo (.Assign [tg] e pos) (xR pe pg):=by
 ∎;let⟨m,a,b⟩:=h.h;let⟨n,d,f⟩:=l.h;∎;exact⟨_,z8 a d g i j,HG b f⟩
theorem JF(i j:Nat){x y:Str}{n:b6}{l m pt d:Pos}{g k2:Nat}(h:QA X k [a,b] n)(r:do X.calm=true)(q:X.N.Nodup:=by assumption)(v: ~~~(lo<=i))(f: ~~~(lo<=j))(s:do X.N[i]?=some x)(u:do X.N[j]?=some y)(e: ~~~(i≠j))(z:do X.env.scope.names.lookup x=some .local)(A:do X.env.scope.names.lookup y=some .local)(hs:do swappedStores [.Tuple [.Name x l,.Name y m] g pt] (.Tuple [a,b] k2 d) X.env=pure (some [x,y]))(w:do swapsWithSole [.Tuple [.Name x l,.Name y m] g pt] (.Tuple [a,b] k2 d) pos.line X.env=pure false):QS X k lo (.Assign [.Tuple [.Name x l,.Name y m] g pt] (.Tuple [a,b] k2 d) pos) (wH i j n):=by
 let⟨B,o,p⟩:=h.h;exact⟨_,L6 r q s u e z A o hs w,Ke v f p⟩
theorem fM(m:QI X k tg iter pi)(l:QG X k lo tg pg)(i:QB X k lo body pb)(hp:PassesOwn (model X.prog X.w) X.A X.env X.xe:=by first |exact PassesOwn.never |exact eh rfl)(j:do X.calm=true)(hs:∀x,foldedSetIterable iter X.env x=pure x:=by intro _;rfl):QS X k lo (.For tg iter body [] pos) (yp pi pg pb):=by
 ∎;let⟨n,f,g⟩:=m.h;let⟨o,d,e⟩:=l.h;let⟨tb,a,b⟩:=i.h;∎;exact⟨_,Gi hp j f d a hs,Ol g e b⟩
theorem An(q:QE X k o po)(p:QG X k.walk lo (.Tuple elts x1 tpos) pg)(m:QB X k.walk lo body pb)(hz:do k.z=true)(hp:PassesOwn (model X.prog X.w) X.A X.env X.xe:=by first |exact PassesOwn.never |exact eh rfl)(n:do X.calm=true)(i:do attributeBase o "items" X.env (eval o X.env)=eval o X.env)(j:do (apos.endLine == a9.line)=true)(l:∀x,foldedSetIterable (.Call (.Attribute o "items" apos) [] [] a9) X.env x=pure x:=by intro _;rfl):
  QS X k lo (.For (.Tuple elts x1 tpos) (.Call (.Attribute o "items" apos) [] [] a9) body [] pos) (wM .it po pg pb):=by
 ∎;let⟨r,d,e⟩:=q.h;let⟨s,f,g⟩:=p.h;let⟨tb,a,b⟩:=m.h;∎;exact⟨_,GV hp n d f a i j l,Jw hz e g b⟩
theorem cI(i:Nat)(b:do X.N[i]?=some x)(d:oE X.env.scope x:=by first |exact Or.inl rfl |exact Or.inr (Or.inl rfl) |exact Or.inr (Or.inr rfl))(hd: ~~~(dq x))(a: ~~~((x == ("__classdict__":Str))=false)):PE X (.Name x pos) (tR X.K i []):=uE b d hd a
theorem i8(hp:PE X o (tR X.K i r))(h:QE X k e pe)(f:do attributeBase o "append" X.env (eval o X.env)=eval o X.env)(g:do (((backTo a9 (starEach [e] X.env)).all (!·.1)&&(backToKw a9 (keywordEach [] X.env)).all (·.1.isSome))&&decide (([e].length+([]:List Keyword).length+if ([]:List Keyword).isEmpty=true then 0 else 1)<30))=true)(j:do (apos.endLine == a9.line)=true)(a:do du e [] X.env)(hs:do swapsWith (.Call (.Attribute o "append" apos) [e] [] a9) none spos.line X.env=pure false):
  QS X k lo (.Expr (.Call (.Attribute o "append" apos) [e] [] a9) spos) (vE X.K i r pe):=by
 let⟨l,b,d⟩:=h.h;exact⟨_,pD (xy PySem.F.plainAttrs_list slot_list_append type_list_append UW hp (iR b jE a) f g j a rfl) hs,LR d⟩
theorem nE(hp:PE X o (tR X.K i r))(p:QE X k j pj)(h:QE X k e pe)(n:∀v,assign (.Subscript o j pos') X.env v=(do
   let ov <- holding [v] (eval o X.env)
   let iv <- holding [v,ov] (eval j X.env)
   standAt pos'
   holding [v,ov,iv] (setItem ov iv v)
   release [v,ov,iv] []):=by intro _;rfl)(g:do swapsWithSole [.Subscript o j pos'] e pos.line X.env=pure false)(l:do swappedStores [.Subscript o j pos'] e X.env=pure none)(m:do (assignEach [.Subscript o j pos'] X.env).map (·.2)=[assign (.Subscript o j pos') X.env]):
  QS X k lo (.Assign [.Subscript o j pos'] e pos) (yC X.K i r pj pe):=by
 ∎;let⟨q,a,b⟩:=h.h;let⟨s,d,f⟩:=p.h;∎;exact⟨_,z8 a (Qy hp d Tt n) g l m,JE b f⟩
theorem pA(hp:PE X o (tR X.K i r))(g:QE X k j pj)(h:QE X k e pe)(l:X.A.units+1<cLine:=by assumption)(hs:do swapsWith e (some (.Subscript o j pos')) pos.line X.env=pure false):QS X k lo (.Assign [.Subscript o j pos'] e pos) (xw X.K i r pj pe):=by
 ∎;let⟨m,a,b⟩:=h.h;let⟨n,d,f⟩:=g.h;∎;exact⟨_,JQ l hp d a hs,Wl b f⟩
theorem mf(hp:PE X o (tR X.K i r))(h:QE X k e pe)(hs:do swapsWith e (some (.Attribute o f pos')) pos.line X.env=pure false):QS X k lo (.Assign [.Attribute o f pos'] e pos) (ve X.K i r f pe):=by
 let⟨d,a,b⟩:=h.h;exact⟨_,Bu hp a hs,O0 b⟩
structure qy(X:Cx)(scope:Scope)(N:ah)(js:List Nat)(e:Expr)(pg:eI):Prop where
 h:∃tg,(∀C s H fp pl,PG (cQ X scope N C s H fp pl) e tg)/\pI X.K js tg pg
structure sx(X:Cx)(scope:Scope)(N:ah)(js:List Nat)(es:bH)(pg:ai->ai->(aW)->Prop):Prop where
 h:∃tg,(∀C s H fp pl,oq (cQ X scope N C s H fp pl) es tg)/\pK X.K js tg pg
section
theorem fB(i:Nat)(b: ~~~(N.Nodup))(d:do N[i]?=some x)(a:∀C s H fp pl,(cQ X scope N C s H fp pl).env.scope.names.lookup x=some .local:=by intros;rfl):qy X scope N [i] (.Name x pos) (qL i):=⟨_,λC s H fp pl=>uV (X:=cQ X scope N C s H fp pl) b d (.inl (a C s H fp pl)) (.inr (a C s H fp pl)),MT⟩
theorem vg:sx X scope N [] [] nk:=⟨_,λ_ _ _ _ _=>Ad,NY⟩
theorem nM(h:qy X scope N js e pg)(h':sx X scope N ks es pr)(hs:∀C s H fp pl,(assignEach (e::es) (cQ X scope N C s H fp pl).env).map (·.2)=assign e (cQ X scope N C s H fp pl).env::(assignEach es (cQ X scope N C s H fp pl).env).map (·.2):=by intros;rfl):sx X scope N (js++ks) (e::es) (mS pg pr):=by
 ∎;let⟨g,d,f⟩:=h.h;let⟨i,a,b⟩:=h'.h;∎;exact⟨_,λC s H fp pl=>Fw (d C s H fp pl) (a C s H fp pl) (hs C s H fp pl),Hg f b⟩
theorem xp(d:X.calm=true)(h:sx X scope N js es pr)(hn:∀C s H fp pl,(assignEach es (cQ X scope N C s H fp pl).env).length=n:=by intros;rfl)(e:∀C s H fp pl,(assignEach es (cQ X scope N C s H fp pl).env).findIdx? (·.1)=none:=by intros;rfl):qy X scope N js (.Tuple es kk pos) (lI n pr):=by
 let⟨f,a,b⟩:=h.h;exact⟨_,λC s H fp pl=>z6 (X:=cQ X scope N C s H fp pl) d (a C s H fp pl) (hn C s H fp pl) (e C s H fp pl),NC b⟩
structure uv(Y:Cx)(k:Md)(es:bH)(pt:d7):Prop where
 h:nA Y es (yR Y.K k pt)
theorem Cu:uv X k [] ql:=⟨λaa s j H Q I a=>by let⟨F,B,i,b,d,e,f⟩:=a;exact Sk aa s j H Q I (M3 (k:=k) F B H j i Q b d e f)⟩
theorem T7{e:Expr}{pt:d7}(h:QT X k e pt):uv X k [e] pt:=⟨BH h.of⟩
variable{elt target iter:Expr}{ifs:bH}{ix:bG}{pi:iJ}{pg:eI}{pt:d7}{pe:bc}{js:List Nat}
theorem je(N:ah)(ix:bG)(q:QI X k target iter pi)(p:qy X a N js target pg)(he:∀C s H fp pl,QE (cQ X a N C s H fp pl) k.fW elt pe)(ht:∀C s H fp pl,uv (cQ X a N C s H fp pl) k.fW ifs pt:=by exact λ_ _ _ _ _=>Cu)(o:do X.calm=true)(g:bP X a N ix:=by repeat first |exact True.intro |refine⟨rfl,rfl,rfl,?_⟩)(r: ~~~(∀j∈js,ix[j]?=some none))(e:do a.kind=.function)(d: ~~~(∀y∈a.names,y.2≠.cell))(b: ~~~(∀x∈a.names,x.2=.local->a.names.lookup x.1=some .local))(f:do jO a X.env=true)(hs:∀x,foldedSetIterable iter X.env x=pure x:=by intro _;rfl):
  QE X k (.ListComp elt [⟨target,iter,ifs,0⟩] a pos) (rD pi pg pt pe ix):=by
 ∎;let⟨u,m,n⟩:=q.h;let⟨v,i,l⟩:=p.h;∎;exact⟨_,EN o m i (λC s H fp pl=>(ht C s H fp pl).h) (λC s H fp pl=>(he C s H fp pl).of) g e d b f hs,Gb n l E4 DQ r⟩
theorem nB(i:Nat)(N:ah)(ix:bG)(z:QI X k target iter pi)(w:qy X a N js target pg)(he:∀C s H fp pl,QE (cQ X a N C s H fp pl) k.fW elt pe)(ht:∀C s H fp pl,uv (cQ X a N C s H fp pl) k.fW ifs pt:=by exact λ_ _ _ _ _=>Cu)(r:X.N.Nodup:=by assumption)(B: ~~~(lo<=i))(m:do X.N[i]?=some y)(D:Loc X.env.scope y:=by first |exact Or.inl rfl |exact Or.inr rfl)(u:do X.calm=true)(g:bP X a N ix:=by repeat first |exact True.intro |refine⟨rfl,rfl,rfl,?_⟩)(A: ~~~(∀j∈js,ix[j]?=some none))(l:swapsWith (.ListComp elt [⟨target,iter,ifs,0⟩] a pos) (some (.Name y py)) spos.line X.env=pure true:=by with_unfolding_all rfl)(e:do a.kind=.function)(d: ~~~(∀y∈a.names,y.2≠.cell))(b: ~~~(∀x∈a.names,x.2=.local->a.names.lookup x.1=some .local))(f:do jO a X.env=true)(hs:∀x,foldedSetIterable iter X.env x=pure x:=by intro _;rfl)(v:jR X y:=by first |exact .inl rfl |exact .inr rfl |assumption):
  QS X k lo (.Assign [.Name y py] (.ListComp elt [⟨target,iter,ifs,0⟩] a pos) spos) (pX i (rD pi pg pt pe ix)):=by
 ∎;let⟨E,p,q⟩:=z.h;let⟨G,n,o⟩:=w.h;∎;exact⟨_,Ut r m D u p n (λC s H fp pl=>(ht C s H fp pl).h) (λC s H fp pl=>(he C s H fp pl).of) g l e d b f hs v,D8 B (Gb q o E4 DQ A)⟩
end
end
section
theorem Lk.md(L:Lk K k lo us Fb Hb D D')(hz:k.z=true->k'.z=true)(x:∀b f e d,k.q b->Gr Fb Hb e d->k.E f b none d):Lk K k' lo us Fb Hb D D':=
 ⟨λF H j i a W=>L.nx F H j i a (W.md hz x),λF H j i a v t c W=>L.rt F H j i a v t c (W.md hz x),λF H j i a W=>L.bk F H j i a (W.md hz x),λF H j i a W=>L.ct F H j i a (W.md hz x)⟩
def vr(q:aj->Prop)(C:af)(pe:bc):cc:=λ_ j=>pe (j.map aG) λ_=>q (.ref C)
theorem Om(h:bD K ⟨z,λ_=>E,q⟩ te pe):cO K ⟨z,λ_=>E,q⟩ lo (BD C E te) (vr q C pe):=λus f d F H j i l D e W p L=>
 h F (Bq d H) H j _ _ _ W.er p λt v a b c q o=>W.x (.ref C) j a b q (W.g.trans' o.g)
def D3(K:ao)(k:Md)(lo:Nat)(f:cc):TS:=λD j H=>∃(us:aw)(b d F:Hp)(i:ai)(e:Nat->Cs)(a:Pd),bf K k lo us b d F H j i e/\f a i/\Lk K k lo us b d D a
theorem QB.of(h:QB X k lo sts ps):fy X sts (D3 X.K k lo ps):=λaa s j H D I ⟨us,Fb,Hb,F,i,cs,D',h1,h2,h3⟩=>by
 let⟨d,a,b⟩:=h.h;exact a aa s j H D I (b us Fb Hb F H j i cs D D' h1 h2 h3)
theorem OT:cO K k lo (D3 K k lo ps) ps:=λus b d F H j i e D a f g h=>⟨us,b,d,F,i,e,a,f,g,h⟩
def yS(K:ao)(k:Md)(lo:Nat)(o:TE->TS)(n:bc->cc):Prop:=∀(us:aw)(d a F H:Hp)(j:St)(i:ai)(m:Nat->Cs)(D:iq)(b:Pd)(h:TE)(g:bc),bf K k lo us d a F H j i m->Lk K k lo us d a D b->(∀Q f,g (i.map aG) f->(∀t v l e c,f t->Out K F (Bq a H) H l e t v c->Q v e)->h j H Q)->n g b i->o h D j H
theorem RO(g:lo<=i):yS K k lo (λa=>kR a (jk i)) (pX i):=λus n r F H j G s D l a u W L h p=>h _ _ p λt v m d c q o=>by
 let⟨b,f,e⟩:=W.outF o g q.1;exact L.nx b d _ _ _ e q.2
def Fm(K:ao)(z:Bool)(pe:(aj->Prop)->bc)(R':St->XK):TE:=λj H Q=>∃q,yY K ⟨z,R',q⟩ (pe q) j H Q
theorem Vb{pe:(aj->Prop)->bc}(h:∀q,QE X ⟨z,R',q⟩ e (pe q)):PE X e (Fm X.K z pe R'):=λaa s j H Q I ⟨q,h'⟩=>(h q).of aa s j H Q I h'
@[reducible] def Cg(K:ao)(C:af)(a:aj):Prop:=W.exmOne K a (.ref C)=some true
def xG(K:ao)(C:af)(b:bc->cc)(pe:(aj->Prop)->bc)(d:cc):cc:=λD j=>b (pe λa=>Cg K C a/\d D j) D j
theorem Q9{n:TE->TS}(w:yS K k lo n pS)(y:cO K k.fW lo th ph):cO K k lo (Cf K C (λR'=>n (Fm K k.z pe R')) th) (xG K C pS pe ph):=λus f a F H j i l D d W p L=>
 w us f a F H j i l D d _ _ W L (λQ u A q=>⟨_,F,Bq a H,_,u,⟨W.er.s,W.er.b,W.er.z,W.er.e,λv o r m g=>⟨m.1,y us f a o r j i l D d ((W.gr g).md id λ_ _ _ _ h=>h.elim) m.2 (L.md id W.x)⟩⟩,A,q⟩) p
end
section
theorem EM(h:me (fq X.prog X.w) X E):∀j,ja (fq X.prog X.w) X j E:=λj aa H s e a I c=>h aa j H s e a I c
theorem Pg(hs:X.stack=X.env::X.outer)(j:X.env.frame=some X.env.locals)(d:X.ex=[])(f:n7 X E)(a:X.calm=true)(l:Gl X x)(hm:X.mg x=some (.ref C))(FB:ExcBaseFacts B newId initId bmB)(m:W.excIn X.K C bmB newId=true)(he:QE X ⟨z,λ_=>E,q⟩ e₀ pe)(b: ~~~(dq x))(e:do du e₀ [] X.env)(hpl:do fa a9 [] X.env):
  QS X ⟨z,λ_=>E,q⟩ lo (.Raise (some (.Call (.Name x np) [e₀] [] a9)) none pos) (vr q C pe):=by
 let⟨n,g,i⟩:=he.h;exact⟨_,QX hs j d f a l hm FB m g b e hpl,Om i⟩
section
theorem Tv(hs:X.stack=X.env::X.outer)(h:X.env.frame=some X.env.locals)(i:Gl X x)(hm:X.mg x=some (.ref C))(f:yS X.K k lo tS pS)(g:∀pn xe d,PE (X.cV pn xe) e d->PS (X.cV pn xe) st (tS d))(he:∀(pn:aV)(xe:aj->ak->Prop)(R':St->XK),(∀j,ja (fq X.prog X.w) (X.cV pn xe) j (R' j))->∀q,QE (X.cV pn xe) ⟨k.z,R',q⟩ e (pe q))(l:∀v:Value,QB (X.bS v) k.fW lo (a::suite) ph)(b: ~~~(dq x)):
  QS X k lo (.Try [st] [.ExceptHandler (some (.Name x np)) none (a::suite) hpos] [] [] pos) (xG X.K C pS pe ph):=
 ⟨_,KH hs h i hm (λpn xe R' m=>xX (g pn xe _ (Vb (he pn xe R' m)))) (λv=>(l v).of) b,Q9 f OT⟩
end
theorem DB:b4 X (compareOp .Is) (λx y H Q=>((∃d,y=.bl d)\/y=.aM)/\Q (.bl (decide (x=y))) H):=by
 intro aa s j H x y v u Q I a b h;let⟨e,q⟩:=h;rcases e with⟨d,rfl⟩ |rfl
 .cases b;cases x with
  |bl c=>cases a;exact PyProof.Rows.is_bool (cJ I q (by cases c<;>cases d<;>rfl))
  |_=>first
   |(cases a;exact wpAny_pure (cJ I q rfl))
   |(let⟨t,rfl⟩:=a;exact wpAny_pure (cJ I q rfl))
 .exact Sb aa s j H x _ v u Q I a b ⟨rfl,q⟩
end
section
theorem Bh:b4 X (compareOp .IsNot) (λx y H Q=>((∃d,y=.bl d)\/y=.aM)/\Q (.bl (!decide (x=y))) H):=by
 intro aa s j H x y v u Q I a b h;let⟨e,q⟩:=h;rcases e with⟨d,rfl⟩ |rfl
 .cases b;cases x with
  |bl c=>cases a;exact PyProof.Rows.isnot_bool (cJ I q (by cases c<;>cases d<;>rfl))
  |_=>first
   |(cases a;exact wpAny_pure (cJ I q rfl))
   |(let⟨t,rfl⟩:=a;exact wpAny_pure (cJ I q rfl))
 .exact TR aa s j H x _ v u Q I a b ⟨rfl,q⟩
end
section
def nF:Tr->Tr->Bool
 |.bl c,.bl d=>c == d
 |.aM,.aM=>true
 |_,_=>false
def kY(neg:Bool)(x y:Tr)(Q:az):Prop:=match y with
 |.bl d=>Q (.bl (neg ^^ nF x (.bl d)))
 |.aM=>Q (.bl (neg ^^ nF x .aM))
 |_=>False
theorem R.ref(r:R K F B t v c):(∃b,t=.bl b/\v=.bl b)\/(t=.aM/\v=.aM)\/(∀d,nF t (.bl d)=false/\nF t .aM=false/\v≠.bl d/\v≠.aM):=by
 cases t with
 |bl b=>exact .inl ⟨b,rfl,r.1⟩
 |aM=>exact .inr (.inl ⟨rfl,r.1⟩)
 |ax=>exact (show False from r).elim
 |int n=>exact .inr (.inr λd=>⟨rfl,rfl,(by rw[r.1];intro z;cases z),(by rw[r.1];intro z;cases z)⟩)
 |str n=>exact .inr (.inr λd=>⟨rfl,rfl,(by rw[r.1];intro z;cases z),(by rw[r.1];intro z;cases z)⟩)
 |ty n=>exact .inr (.inr λd=>⟨rfl,rfl,(by rw[r.1];intro z;cases z),(by rw[r.1];intro z;cases z)⟩)
 |cl n=>exact .inr (.inr λd=>⟨rfl,rfl,(by rw[r.1];intro z;cases z),(by rw[r.1];intro z;cases z)⟩)
 |exc n=>let⟨_,a,rfl,_⟩:=r;exact .inr (.inr λd=>⟨rfl,rfl,(by intro z;cases z),(by intro z;cases z)⟩)
 |aF e=>let⟨a,vs,rfl,_⟩:=r;exact .inr (.inr λd=>⟨rfl,rfl,(by intro z;cases z),(by intro z;cases z)⟩)
 |ag f e=>
  cases f with
  |o=>let⟨a,vs,g,rfl,_⟩:=r;exact .inr (.inr λd=>⟨rfl,rfl,(by intro z;cases z),(by intro z;cases z)⟩)
  |f=>let⟨_,a,vs,rfl,_⟩:=r;exact .inr (.inr λd=>⟨rfl,rfl,(by intro z;cases z),(by intro z;cases z)⟩)
  |l b=>let⟨_,a,vs,rfl,_⟩:=r;exact .inr (.inr λd=>⟨rfl,rfl,(by intro z;cases z),(by intro z;cases z)⟩)
 |aO f e=>
  cases f with
  |o=>let⟨a,vs,g,rfl,_⟩:=r;exact .inr (.inr λd=>⟨rfl,rfl,(by intro z;cases z),(by intro z;cases z)⟩)
  |f=>let⟨_,a,vs,rfl,_⟩:=r;exact .inr (.inr λd=>⟨rfl,rfl,(by intro z;cases z),(by intro z;cases z)⟩)
  |l b=>let⟨_,a,vs,rfl,_⟩:=r;exact .inr (.inr λd=>⟨rfl,rfl,(by intro z;cases z),(by intro z;cases z)⟩)
 |ins f c e=>
  cases f with
  |o=>let⟨a,h,vs,g,rfl,_⟩:=r;exact .inr (.inr λd=>⟨rfl,rfl,(by intro z;cases z),(by intro z;cases z)⟩)
  |f=>let⟨_,a,h,vs,rfl,_⟩:=r;exact .inr (.inr λd=>⟨rfl,rfl,(by intro z;cases z),(by intro z;cases z)⟩)
  |l b=>let⟨_,a,h,vs,rfl,_⟩:=r;exact .inr (.inr λd=>⟨rfl,rfl,(by intro z;cases z),(by intro z;cases z)⟩)
theorem BR(r:R K F B t v c)(d:Bool):decide (v=.bl d)=nF t (.bl d):=by
 rcases r.ref with⟨b,rfl,rfl⟩ |⟨rfl,rfl⟩ |h
 .cases b<;>cases d<;>rfl
 .rfl
 .rw[(h d).1];exact decide_eq_false (h d).2.2.1
theorem AN(r:R K F B t v c):decide (v=.aM)=nF t .aM:=by
 rcases r.ref with⟨b,rfl,rfl⟩ |⟨rfl,rfl⟩ |h
 .rfl
 .rfl
 .rw[(h true).2.1];exact decide_eq_false (h true).2.2.2
theorem FH:ee K k (λx y H Q=>((∃d,y=.bl d)\/y=.aM)/\Q (.bl (decide (x=y))) H) (kY false):=λF B H x y l ty g h Q f s b z a e i j hd p q=>by
 unfold kY at p;split at p
 .obtain⟨rfl,_⟩:=e;refine⟨.inl ⟨_,rfl⟩,?_⟩;rw[BR a];rw[Bool.false_xor] at p;exact q _ _ F H [] p (Gr.aP s) ⟨rfl,rfl⟩ .nil λ_ m=>nomatch m
 .obtain⟨rfl,_⟩:=e;refine⟨.inr rfl,?_⟩;rw[AN a];rw[Bool.false_xor] at p;exact q _ _ F H [] p (Gr.aP s) ⟨rfl,rfl⟩ .nil λ_ m=>nomatch m
 .exact p.elim
theorem GA:ee K k (λx y H Q=>((∃d,y=.bl d)\/y=.aM)/\Q (.bl (!decide (x=y))) H) (kY true):=λF B H x y l ty g h Q f s b z a e i j hd p q=>by
 unfold kY at p;split at p
 .obtain⟨rfl,_⟩:=e;refine⟨.inl ⟨_,rfl⟩,?_⟩;rw[BR a];rw[Bool.true_xor] at p;exact q _ _ F H [] p (Gr.aP s) ⟨rfl,rfl⟩ .nil λ_ m=>nomatch m
 .obtain⟨rfl,_⟩:=e;refine⟨.inr rfl,?_⟩;rw[AN a];rw[Bool.true_xor] at p;exact q _ _ F H [] p (Gr.aP s) ⟨rfl,rfl⟩ .nil λ_ m=>nomatch m
 .exact p.elim
theorem Uv(a:ai)(b:Gl X x)(hm:X.mg x=some (.ref c))(ht:∃(o:Obj)(bo:dm)(n:Nat),X.K.lookup c=some o/\o.cls=.type "tuple"/\o.data=.seq bo n/\bo.size<=sizeLine/\aE vs bo.toList)(d:∀F B,Rs X.K F B a vs [])(hd: ~~~(dq x)):QE X k (.Name x pos) (pC (.aF a)):=
 E8 (.ref c) b hm rfl (λF B=>⟨c,vs,rfl,.inr ht,d F B⟩) hd
theorem EJ:∀(a:aI),Rs K F B (a.map .int) (a.map V.int) []
 |[]=>⟨rfl,rfl⟩
 |i::a=>⟨.int i,a.map V.int,[],[],rfl,rfl,⟨rfl,rfl⟩,EJ a⟩
theorem iW(a:aI)(hm:X.mg x=some (.ref c))(ht:∃(o:Obj)(bo:dm)(n:Nat),X.K.lookup c=some o/\o.cls=.type "tuple"/\o.data=.seq bo n/\bo.size<=sizeLine/\aE (a.map V.int) bo.toList)(b:do Gl X x)(hd: ~~~(dq x)):QE X k (.Name x pos) (pC (.aF (a.map .int))):=
 Uv _ b hm ht (λ_ _=>EJ a) hd
theorem mD(hm:X.mg x=some (.int i t))(a:do Gl X x)(hd: ~~~(dq x)):QE X k (.Name x pos) (pC (.int i)):=E8 (.int i) a hm ⟨_,rfl⟩ (λ_ _=>⟨rfl,rfl⟩) hd
def sy:List (bc×bc)->ai->(bw->Prop)->Prop
 |[],_,Q=>Q []
 |(pk,pv)::r,j,Q=>pk j λx=>jM x λy=>pv j λt=>sy r j λm=>Q ((y,t)::m)
def pP(K:ao)(k:Md)(e:List (TE×TE))(h:List (bc×bc)):Prop:=∀(F:Hp)(B:Bool->Hp)(H:Hp)(j:St)(i:ai)(Q:List (V×V)->Hp->Prop)(f:bw->Prop),gY K k F B H j i->sy h i f->
 (∀m vs a b d,f m->m.length=h.length->Gr F H a b->Rk K a B m vs d->aq a b d->c8 H d->Q (vs.map λg=>(kV g.1,g.2)) b)->ue e j H Q
theorem LN:pP K k [] []:=λF B H j i Q a c p q=>q [] [] F H [] p rfl (Gr.aP c.s) ⟨rfl,rfl⟩ .nil .nil
theorem JO(r:R K F B t v c)(h:qW t=some y):v=kV y:=by
 unfold qW at h;split at h<;>cases h
 .exact r.1
 .exact r.1
theorem Jv{D E:TE}{f:List (TE×TE)}{A pv:bc}{C:List (bc×bc)}(U:bD K k D A)(hv:bD K k E pv)(h:pP K k f C):pP K k ((D,E)::f) ((A,pv)::C):=λF B H j i Q Q' c p q=>by
 refine U F B H j i _ _ c p λx v G L c1 p1 d=>?_
 unfold jM at p1;split at p1
 .rename_i y hy;refine hv G B L j i _ _ (c.gr d.g) p1 λt u I M o p2 b=>?_
  refine h I B M j i _ _ ((c.gr d.g).gr b.g) p2 λm vs J N s p3 Y l r3 O w=>?_
  have e:=JO d.r hy;rw[e];have:=q ((y,t)::m) ((y,u)::vs) J N (o++s) p3 (by rw [length_cons,length_cons,Y]) ((d.g.trans' b.g).trans' l) ⟨u,vs,o,s,rfl,rfl,b.r.mo l.le (λk=>Le.refl (B k)) t,r3⟩ ((b.c.gr l).app O λp a q mq z=>by have:=b.c.h p a;rw [z,w q mq] at this;cases this) (λp a=>by
   rcases mem_append.mp a with a |a
   .exact d.g.h.free (b.n p a)
   .exact (d.g.trans' b.g).h.free (w p a))
  exact this
 .exact p1.elim
end
theorem HC{a:bI}{y:aS}{v:V}(h:y ∉ a.map (·.1)):e5 a y v=a++[(y,v)]:=by
 unfold e5;rw[if_neg];rw[any_eq_true];rintro⟨p,m,e⟩;exact h (mem_map.mpr ⟨p,m,of_decide_eq_true e⟩)
theorem D1:∀(b a:bI),((a++b).map (·.1)).Nodup->lx a b=a++b
 |[],a,_=>by rw[append_nil];rfl
 |p::r,a,h=>by
  have e:e5 a p.1 p.2=a++[p]:=HC λm=>by
   rw[map_append,nodup_append] at h;exact h.2.2 _ m _ (mem_map.mpr ⟨p,.head _,rfl⟩) rfl
  show lx (e5 a p.1 p.2) r=_;rw[e,D1 r (a++[p]) (by rw[append_assoc];exact h),append_assoc];rfl
section
theorem Rk.fst:∀{m:bw}{vs:bI}{c:Cs},Rk K F B m vs c->vs.map (·.1)=m.map (·.1)
 |[],_,_,y=>by let⟨h,_⟩:=y;rw[h];rfl
 |(y,x)::m,_,_,y0=>by let⟨v,r,c,d,a,e,f,b⟩:=y0;rw[a,map_cons,map_cons,Rk.fst b]
def xA(a:List (bc×bc)):bc:=λj Q=>sy a j λm=>(m.map (·.1)).Nodup/\Q (.aO .o m)
theorem Qa(h:pP K k trs ps)(L:ps.length<=15):bD K k (FF trs) (xA ps):=λF B H j i Q N c p q d l=>by
 have J:Gr F H F (aR H d (.dK [])):=Gr.iz c.s l;refine h F B _ j i _ _ (c.gr J) p λm vs v D E p1 O g C w r=>?_
 have G:D d=some (.dK []):=g.h _ _ cq;have I:lx [] vs=vs:=D1 vs [] (by rw[nil_append,C.fst];exact p1.1);have U:vs.length=m.length:=by have:=congrArg List.length C.fst;rw[length_map,length_map] at this;exact this
 refine⟨G,vs,rfl,⋯,?_⟩;rw[I];have A:v d=none:=by
  cases z:v d with
  |none=>rfl
  |some u=>
   have y:=g.n d u z (c.s.free l);rw[cq] at y;cases y
 refine q (.aO .o m) (.ref d) v (aR D d (.dK vs)) ((d,.dK vs)::E) p1.2 ⟨Gr.of ⟨λa o e=>?_,g.f,λa o e=>?_,λa u e z=>?_⟩ g.z,⟨d,vs,E,rfl,rfl,C,p1.1⟩,⟨λx b=>?_,λx b=>?_,?_⟩,λx b=>?_⟩
 .have ne:a≠d:=λz=>by rw[z,l] at e;cases e
  rw[ba ne];exact g.h a o (by rw[ba ne];exact e)
 .have ne:a≠d:=λz=>by rw[z,A] at e;cases e
  rw[ba ne];exact g.s a o e
 .have y:=g.n a u e z;have ne:a≠d:=λz=>by rw[z,A] at e;cases e
  rw[ba ne] at y;exact y
 .cases b with
  |head=>exact cq
  |tail _ b=>
   have ne:x.1≠d:=λz=>by have:=r x b;rw[z,cq] at this;cases this
   rw[ba ne];exact w.h x b
 .cases b with
  |head=>exact A
  |tail _ b=>exact w.f x b
 .rw[map_cons,nodup_cons];refine⟨λM=>?_,w.nd⟩;let⟨x,b,e⟩:=mem_map.mp M;have:=r x b;have e:x.1=d:=e;rw[e,cq] at this;cases this
 .cases b with
  |head=>exact l
  |tail _ b=>
   have ne:x.1≠d:=λz=>by have:=r x b;rw[z,cq] at this;cases this
   have:=r x b;rw[ba ne] at this;exact this
end
section
structure QP(X:Cx)(k:Md)(pos:Pos)(keys:List (Option Expr))(values:bH)(ps:List (bc×bc)):Prop where
 h:∃trs,qO X pos keys values trs/\pP X.K k trs ps
theorem Vd:QP X k pos [] [] []:=⟨_,KI,LN⟩
theorem UX(l:QE X k a pa)(m:QE X k b pb)(h:QP X k pos ks vs ps):QP X k pos (some a::ks) (b::vs) ((pa,pb)::ps):=by
 ∎;let⟨n,d,e⟩:=l.h;let⟨tb,f,g⟩:=m.h;let⟨o,i,j⟩:=h.h;∎;exact⟨_,V5 d f i,Jv e g j⟩
theorem K6(h:QP X k pos keys values ps)(a:do keys.all (·.isSome)=true)(g:do keys.length=values.length)(f:keys≠[]:=by intro z;cases z)(b: ~~~(keys.length<=15))(hp: ~~~(ps.length<=15)):QE X k (.Dict keys values pos) (xA ps):=by
 let⟨i,d,e⟩:=h.h;exact⟨_,Mz d a g f b,Qa e hp⟩
theorem Hf(K:ao)(hm:X.mg x=none)(d:QA X k (e::es) ps)(b:do X.K=K)(f:do Gl X x)(g:do bootBuiltins x=some (.builtin "isinstance"))(hn: ~~~(x≠"__name__"))(a: ~~~(dq x))(he:do du e es X.env)(hpl:do fa pos es X.env):
  QE X k (.Call (.Name x p) (e::es) [] pos) (pB (w4 K) ps):=by
 subst b;exact fH Ru Nm hm d f g hn a he hpl
theorem cE(K:ao)(h:QE X k e pe)(a:do X.K=K)(b:do attributeBase e f X.env (eval e X.env)=eval e X.env):QE X k (.Attribute e f pos) (p1 (gW K f) pe):=by
 subst a;exact Uj h b
end
mutual
noncomputable def Cl:Tr->Bool
 |.aF a=>e8 a
 |.ag .f a=>e8 a
 |.aO .f a=>kS a
 |.ins .f _ a=>rm a
 |.ag _ _=>false
 |.aO _ _=>false
 |.ins _ _ _=>false
 |_=>true
noncomputable def e8:List Tr->Bool
 |[]=>true |x::xs=>Cl x&&e8 xs
noncomputable def kS:List (aS×Tr)->Bool
 |[]=>true |(_,x)::xs=>Cl x&&kS xs
noncomputable def rm:List (Str×Tr)->Bool
 |[]=>true |(_,x)::xs=>Cl x&&rm xs
end
structure BX(t:Tr):Prop where
 l:aG t=t
 f:ay t=t
 d:dn t=t
 o:b9 t=true
 t:bF t=true
structure Si(t:ai):Prop where
 l:cT t=t
 f:bp t=t
 d:cv t=t
 o:cw t=true
 t:cR t=true
structure Vg(t:bw):Prop where
 l:dS t=t
 f:dD t=t
 d:hW t=t
 o:hG t=true
 t:gF t=true
structure Ve(t:bz):Prop where
 l:bY t=t
 f:fC t=t
 d:iF t=t
 o:e9 t=true
 t:fw t=true
mutual
theorem jI:∀(t:Tr),Cl t=true->BX t
 |.int _,_=>⟨rfl,rfl,rfl,rfl,rfl⟩
 |.bl _,_=>⟨rfl,rfl,rfl,rfl,rfl⟩
 |.str _,_=>⟨rfl,rfl,rfl,rfl,rfl⟩
 |.aM,_=>⟨rfl,rfl,rfl,rfl,rfl⟩
 |.ax,_=>⟨rfl,rfl,rfl,rfl,rfl⟩
 |.ty _,_=>⟨rfl,rfl,rfl,rfl,rfl⟩
 |.cl _,_=>⟨rfl,rfl,rfl,rfl,rfl⟩
 |.exc _,_=>⟨rfl,rfl,rfl,rfl,rfl⟩
 |.aF xs,h=>have c:=gJ xs h;⟨by show Tr.aF (cT xs)=_;rw[c.l],by show Tr.aF (bp xs)=_;rw[c.f],by show Tr.aF (cv xs)=_;rw[c.d],c.o,c.t⟩
 |.ag .f xs,h=>have c:=gJ xs h;⟨rfl,rfl,by show Tr.ag .f (cv xs)=_;rw[c.d],c.o,c.t⟩
 |.aO .f xs,h=>have c:=cu xs h;⟨rfl,rfl,by show Tr.aO .f (hW xs)=_;rw[c.d],c.o,c.t⟩
 |.ins .f a xs,h=>have c:=qb xs h;⟨rfl,rfl,by show Tr.ins .f a (iF xs)=_;rw[c.d],c.o,c.t⟩
theorem gJ:∀(t:List Tr),e8 t=true->Si t
 |[],_=>⟨rfl,rfl,rfl,rfl,rfl⟩
 |x::xs,h=>by
  have h:(Cl x&&e8 xs)=true:=h;rw[and_eq_true] at h;have a:=jI x h.1;have b:=gJ xs h.2;exact⟨by show aG x::cT xs=_;rw[a.l,b.l],by show ay x::bp xs=_;rw[a.f,b.f],by show dn x::cv xs=_;rw[a.d,b.d],by show (b9 x&&cw xs)=_;rw[a.o,b.o];rfl,by show (bF x&&cR xs)=_;rw[a.t,b.t];rfl⟩
theorem cu:∀(t:List (aS×Tr)),kS t=true->Vg t
 |[],_=>⟨rfl,rfl,rfl,rfl,rfl⟩
 |(k,x)::xs,h=>by
  have h:(Cl x&&kS xs)=true:=h;rw[and_eq_true] at h;have a:=jI x h.1;have b:=cu xs h.2;exact⟨by show (k,aG x)::dS xs=_;rw[a.l,b.l],by show (k,ay x)::dD xs=_;rw[a.f,b.f],by show (k,dn x)::hW xs=_;rw[a.d,b.d],by show (b9 x&&hG xs)=_;rw[a.o,b.o];rfl,by show (bF x&&gF xs)=_;rw[a.t,b.t];rfl⟩
theorem qb:∀(t:List (Str×Tr)),rm t=true->Ve t
 |[],_=>⟨rfl,rfl,rfl,rfl,rfl⟩
 |(k,x)::xs,h=>by
  have h:(Cl x&&rm xs)=true:=h;rw[and_eq_true] at h;have a:=jI x h.1;have b:=qb xs h.2;exact⟨by show (k,aG x)::bY xs=_;rw[a.l,b.l],by show (k,ay x)::fC xs=_;rw[a.f,b.f],by show (k,dn x)::iF xs=_;rw[a.d,b.d],by show (b9 x&&e9 xs)=_;rw[a.o,b.o];rfl,by show (bF x&&fw xs)=_;rw[a.t,b.t];rfl⟩
end
class ae(α:Type) where
 t:α->Tr
 c:∀a,Cl (t a)=true
 h:∀a,t a≠.ax
theorem lG[ae j]:∀xs:List j,e8 ↥xs=true
 |[]=>rfl
 |x::xs=>by show (Cl (ae.t x)&&e8 ↥xs)=true;rw[ae.c x,lG xs];rfl
theorem jx[ae j]:∀xs:List (aS×j),kS (xs.map λp=>(p.1,ae.t p.2))=true
 |[]=>rfl
 |x::xs=>by show (Cl (ae.t x.2)&&kS (xs.map λp=>(p.1,ae.t p.2)))=true;rw[ae.c x.2,jx xs];rfl
instance:ae Int:=⟨.int,λ_=>rfl,λ_ z=>by cases z⟩
instance:ae Str:=⟨.str,λ_=>rfl,λ_ z=>by cases z⟩
instance:ae Bool:=⟨.bl,λ_=>rfl,λ_ z=>by cases z⟩
instance:ae Rat:=⟨λq=>.aF [.int q.num,.int (q.den:Int)],λ_=>rfl,λ_ z=>by cases z⟩
instance {j:Type} [ae j]:ae (List j):=⟨λxs=>.ag .f ↥xs,λxs=>lG xs,λ_ z=>by cases z⟩
instance {j i:Type} [ae j] [ae i]:ae (j ⊕ i):=⟨λx=>match x with |.inl a=>ae.t a |.inr b=>ae.t b,λx=>by cases x<;>exact ae.c _,λx=>by cases x<;>exact ae.h _⟩
instance {j i:Type} [ae j] [ae i]:ae (j×i):=⟨λx=>.aF [ae.t x.1,ae.t x.2],λx=>by show (Cl _&&(Cl _&&true))=true;rw[ae.c,ae.c];rfl,λ_ z=>by cases z⟩
section
variable{α β:Type}[ae α][ae β](a:α)(xs:List α)
@[simp] theorem UZ(n:Int):ae.t n=.int n:=rfl
@[simp] theorem Iw(n:Str):ae.t n=.str n:=rfl
@[simp] theorem WL(n:Bool):ae.t n=.bl n:=rfl
theorem z0(q:Rat):ae.t q=.aF [.int q.num,.int (q.den:Int)]:=rfl
theorem gh:ae.t xs=.ag .f ↥xs:=rfl
theorem lB:aG (ae.t a)=ae.t a:=(jI _ (ae.c a)).l
theorem ie:ay (ae.t a)=ae.t a:=(jI _ (ae.c a)).f
theorem jd:dn (ae.t a)=ae.t a:=(jI _ (ae.c a)).d
theorem gi:b9 (ae.t a)=true:=(jI _ (ae.c a)).o
theorem gx:bF (ae.t a)=true:=(jI _ (ae.c a)).t
theorem BC:cT ↥xs=↥xs:=(gJ _ (lG xs)).l
theorem nY:bp ↥xs=↥xs:=(gJ _ (lG xs)).f
theorem qg:cv ↥xs=↥xs:=(gJ _ (lG xs)).d
theorem lY:cw ↥xs=true:=(gJ _ (lG xs)).o
theorem gT:cR ↥xs=true:=(gJ _ (lG xs)).t
end
class inductive Fp:Fl->Prop where
 |f:Fp .f
 |l:Fp (.l false)
instance:Fp .f:=.f
instance:Fp (.l false):=.l
section
variable{f:Fl}[h:Fp f]
theorem L3:aG (.ag f xs)=.ag f xs:=by cases h<;>rfl
theorem Hd:ay (.ag f xs)=.ag f xs:=by cases h<;>rfl
theorem S7:dn (.ag f xs)=.ag f (cv xs):=by cases h<;>rfl
theorem UN{j:Type}[ae j]{xs:List j}:bF (.ag f ↥xs)=true:=by cases h<;>first |exact gT xs |rfl
theorem zK:aG (.aO f xs)=.aO f xs:=by cases h<;>rfl
theorem CF:ay (.aO f xs)=.aO f xs:=by cases h<;>rfl
theorem Ws:dn (.aO f xs)=.aO f (hW xs):=by cases h<;>rfl
theorem Mo{j:Type}[ae j]{xs:List (aS×j)}:bF (.aO f (xs.map λp=>(p.1,ae.t p.2)))=true:=by cases h<;>first |exact (cu _ (jx xs)).t |rfl
end
theorem ly:ay (.ag .o xs)=.ag .f (bp xs):=rfl
section
def n4(pa:b6):b6:=λj Q=>pa j λts=>Q (bp ts)
theorem Ph(h:eM K k ta pa):eM K k ta (n4 pa):=λF B H j i Q g c p q=>by
 refine h F B H j i _ _ c p λm vs f b l p1 e=>?_
 let⟨a,d,r2⟩:=e.held;exact q _ vs a b [] p1 ⟨d,r2,.nil,.nil⟩
theorem QA.ay(h:QA X k es pa):QA X k es (n4 pa):=by
 let⟨d,a,b⟩:=h.h;exact⟨d,a,Ph b⟩
end
theorem Sn(x:j)(xs:List j):cX (x::xs) 0=some x:=by unfold cX hX;simp
theorem Hl(x y:j)(xs:List j):cX (x::y::xs) 1=some y:=by unfold cX hX;rw[if_pos ⋯,if_pos (by simp only[length_cons];omega)];rfl
def cY(n:Nat)(g:ai->(az)->Prop):bQ:=λa Q=>a.length=n/\g a λt=>∀j,Q t j
def Ia:bQ:=cY 2 λd Q=>∃a b,d=[.int a,.int b]/\0<=a/\0<=b/\Q (.int (gd a b))
def TM:bQ:=cY 2 λd Q=>∃a b,d=[.int a,.int b]/\b≠0/\bi b<=7990/\Q (ae.t (Rat.divInt a b))
theorem vS(f:b≠0)(h:bi b<=k):bi (gd a b)<=k:=by
 refine fL ?_;have d:=jy h;have e:(gd a b).natAbs<=b.natAbs:=le_of_dvd ⋯ (Int.natAbs_dvd_natAbs.mpr (vh a b));omega
theorem tF(d:b≠0)(h:bi b<=7990):dX x (gd a b):=⟨by have:=ll (a:=a) d;omega,jy (le_trans (vS d h) (show 7990<=8000 by omega))⟩
theorem Dj(d:b≠0)(h:bi b<=7990):dX x (-gd a b):=⟨by have:=ll (a:=a) d;omega,by rw[Int.natAbs_neg];exact jy (le_trans (vS d h) (show 7990<=8000 by omega))⟩
def xO(f:Rat->Rat->Rat):bQ:=cY 2 λd Q=>∃a b:Rat,d=[ae.t a,ae.t b]/\bs a+bs b<=7990/\Q (ae.t (f a b))
theorem eJ(a:bi x<=n)(b:bi y<=m)(h:n+m<=60000000):kB x y:=GI ⋯ ⋯
theorem vu(a b:Rat)(h:bs a+bs b<=7990):bi ((a.den:Int)*b.den)<=7990:=le_trans (gu _ _) (by have:=fZ a;have:=fZ b;omega)
theorem tO[ae j][ae i](a:List j)(ns:List i):(↥a).zipWith (λx y=>Tr.aF [x,y]) ↥ns=(a.zip ns).map λp=>Tr.aF [ae.t p.1,ae.t p.2]:=by
 rw[List.zipWith_map,List.zip_eq_zipWith,List.map_zipWith]
theorem WC[ae j](a:List j):(↥a).mapIdx (λi x=>Tr.aF [.int i,x])=a.zipIdx.map λp=>Tr.aF [.int p.2,ae.t p.1]:=by
 apply ext_getElem?;intro i;rw[List.getElem?_mapIdx,getElem?_map,getElem?_map,getElem?_zipIdx];cases a[i]?<;>simp
theorem V8(a b:Rat):(a.num*(b.den:Int)<b.num*(a.den:Int))↔a<b:=by
 rw[Rat.lt_iff]
def Th:bQ:=cY 2 λd Q=>∃a b:Rat,d=[ae.t a,ae.t b]/\bs a+bs b<=60000000/\Q (.bl (decide (a<b)))
theorem TN(t:Tr)(a:ai)(Q:az):pC t a Q=(Q t):=rfl
theorem Qc(d:Tr->Tr->(az)->Prop)(a b:bc)(j:ai)(Q:az):p2 d a b j Q=(a j λx=>b j λy=>d x y Q):=rfl
theorem Wy(b:Tr->(az)->Prop)(a:bc)(j:ai)(Q:az):Pu.p1 b a j Q=(a j λx=>b x Q):=rfl
theorem KL:sY j' Q=(Q []):=rfl
theorem Tn:wW pe pa j Q=(pe j λx=>pa j λxs=>Q (x::xs)):=rfl
theorem Lh:xx pa j Q=(pa j λxs=>xs.length<=10000/\Q (.aF xs)):=rfl
theorem HW:xq pa j Q=(pa j λxs=>xs.length<=10000/\Q (.ag .o xs)):=rfl
theorem K7(pe:bc)(j:ai)(Q:Bool->Prop):pT pe j Q=(pe j λx=>kc x Q):=rfl
theorem Lx(a b:d7)(j:ai)(Q:Bool->Prop):xt a b j Q=(a j λc=>if c=true then b j Q else Q false):=rfl
theorem UD(a b:d7)(j:ai)(Q:Bool->Prop):vW a b j Q=(a j λc=>if c=true then Q true else b j Q):=rfl
theorem TX(a:d7)(j:ai)(Q:Bool->Prop):vI a j Q=(a j λc=>Q (!c)):=rfl
theorem OQ:vB pa pb j Q=(pa j λx=>kc x λc=>if c=true then pb j Q else Q (.bl false)):=rfl
theorem Oc:wB pa pb j Q=(pa j λx=>kc x λc=>if c=true then Q (.bl true) else pb j Q):=rfl
theorem US:wO pc pa pb j Q=(pc j λc=>if c=true then pa j Q else pb j Q):=rfl
theorem Ln:sS p q D j=(p { D with nx:=q D } j):=rfl
theorem Ti:yg D j=(D.nx j):=rfl
theorem Va(i:Nat)(pe:bc)(D:Pd)(j:ai):yq i pe D j=(pe (j.map aG) λt=>bF t=true/\D.nx (j.set i t)):=rfl
theorem PL:yJ pe D j=(pe (j.map aG) λ_=>D.nx j):=rfl
theorem JP:uT pe D j=(pe (j.map aG) λt=>b9 t=true/\D.rt t j):=rfl
theorem VY:vY pc p q D j=(pc (j.map aG) λb=>if b=true then p D j else q D j):=rfl
theorem NO:tE q aZ pa j Q=(pa j λa=>aZ (cv a) (λt _=>Q t) q):=rfl
theorem Ww:u6 aZ pa j Q=(pa j λa=>aZ (cv a) λt _=>Q t):=rfl
theorem Il(b:ai->(az)->Prop)(a:b6)(j:ai)(Q:az):pB b a j Q=(a j λd=>b d Q):=rfl
theorem Uy:E6 D' j'=(False):=rfl
theorem Ul(i:Nat)(pe:bc)(D:Pd)(j:ai):pX i pe D j=(pe (j.map aG) λt=>bF t=true/\D.nx (j.set i (ay t))):=rfl
theorem GC(i:Nat)(t:Tr)(j:ai)(Q:aW):qL i t j Q=(Q (j.set i t)):=rfl
theorem Be(a:ai)(j:ai)(Q:aW):nk a j Q=(match a with |[]=>Q j |_=>False):=rfl
theorem zE(pg:eI)(a:ai->ai->(aW)->Prop)(b:ai)(j:ai)(Q:aW):mS pg a b j Q=(match b with |t::r=>pg t j λd=>a r d Q |[]=>False):=rfl
theorem TL(n:Nat)(a:ai->ai->(aW)->Prop)(t:Tr)(j:ai)(Q:aW):lI n a t j Q=(match t with |.aF b=>b.length=n/\a b j Q |_=>False):=rfl
theorem Kr:xR pe pg D j=(pe (j.map aG) λt=>bF t=true/\pg (ay t) j D.nx):=rfl
theorem OD(i j:Nat)(d:b6)(D:Pd)(G:ai):wH i j d D G=(d (G.map aG) λe=>match e with |[a,b]=>bF a=true/\bF b=true/\D.nx ((G.set i (ay a)).set j (ay b)) |_=>False):=rfl
theorem Hk(pe:bc)(j:ai)(Q:ai->Bool->Prop):wc pe j Q=(pe j λt=>g9 (ay t) λxs=>Q xs (bF (ay t))):=rfl
theorem OS(a:b6)(j:ai)(Q:ai->Bool->Prop):vO a j Q=(a j λb=>mY b λt=>g9 (ay t) λxs=>Q (xs.mapIdx λi x=>.aF [.int i,x]) (bF (ay t))):=rfl
theorem MJ(a:b6)(j:ai)(Q:ai->Bool->Prop):xU a j Q=(a j λb=>lQ b λt u=>g9 (ay t) λxs=>g9 (ay u) λys=>Q (xs.zipWith (λx y=>.aF [x,y]) ys) (bF (ay t)&&bF (ay u))):=rfl
theorem Vs(a:b6)(G:ai)(Q:ai->Bool->Prop):wy a G Q=(a G λb=>tJ b λj=>-1000000<=j/\j<=1000000/\Q ((List.range j.toNat).map λ(i:Nat)=>.int i) true):=rfl
theorem WH(a:b6)(G:ai)(Q:ai->Bool->Prop):wN a G Q=(a G λb=>sj b λi j=>(-1000000<=i/\i<=1000000/\-1000000<=j/\j<=1000000)/\Q ((List.range (j - i).toNat).map λ(n:Nat)=>.int (i+n)) true):=rfl
theorem Pa(K:ao)(i:Nat)(r:ah)(pe:bc)(D:Pd)(j:ai):vE K i r pe D j=(gq K j i r λu s=>jX u λxs=>pe (j.map aG) λt=>bF t=true/\xs.length<1000000/\D.nx (s (.ag .o (xs++[ay t])))):=rfl
theorem Q0(K:ao)(i:Nat)(r:ah)(b pe:bc)(D:Pd)(j:ai):yC K i r b pe D j=(pe (j.map aG) λt=>bF t=true/\gq K j i r λu s=>jX u λxs=>b (j.map aG) λy=>qz xs y (ay t) λa=>D.nx (s (.ag .o a))):=rfl
theorem Qd(K:ao)(i:Nat)(r:ah)(a pe:bc)(D:Pd)(j:ai):xw K i r a pe D j=(pe (j.map aG) λt=>bF t=true/\gq K j i r λu s=>qT u λm=>a (j.map aG) λy=>jM y λy=>m.length<1000000/\D.nx (s (.aO .o (i1 m y (ay t))))):=rfl
theorem Rg:u7 j' Q=(Q (.aO .o [])):=rfl
theorem Jb(K:ao)(i:Nat)(r:ah)(f:Str)(pe:bc)(D:Pd)(j:ai):ve K i r f pe D j=(pe (j.map aG) λt=>bF t=true/\gq K j i r λu s=>adr K f u λc fs=>D.nx (s (.ins .o c (iu f t fs)))):=rfl
theorem IX(a:ai)(Q:bK->Prop):yV a Q=(Q none):=rfl
theorem Kg(pe:bc)(j:ai)(Q:bK->Prop):vZ pe j Q=(pe j λx=>match x with |.int i=>Q (some i) |_=>False):=rfl
theorem Qf:wC pe pl ph j Q=(pe j λx=>pl j λl=>ph j λh=>tG x l h Q):=rfl
theorem ON:vr q C pe D' j=(pe (j.map aG) λ_=>q (.ref C)):=rfl
theorem V7(K:ao)(C:af)(b:bc->cc)(pe:(aj->Prop)->bc)(d:cc)(D:Pd)(j:ai):xG K C b pe d D j=(b (pe λa=>Cg K C a/\d D j) D j):=rfl
theorem UU(a:List (bc×bc))(j:ai)(Q:az):xA a j Q=(sy a j λm=>(m.map (·.1)).Nodup/\Q (.aO .o m)):=rfl
theorem HS:n4 pa j Q=(pa j λts=>Q (bp ts)):=rfl
theorem zt(n:Int):aG (.int n)=(.int n):=rfl
theorem NI:aG (.bl n)=(.bl n):=rfl
theorem Ny:aG (.str n)=(.str n):=rfl
theorem JV:aG .aM=.aM:=rfl
theorem RT:aG .ax=.ax:=rfl
theorem Gu(n:Int):Pu.ay (.int n)=(.int n):=rfl
theorem IV:Pu.ay (.bl n)=(.bl n):=rfl
theorem TJ:Pu.ay (.str n)=(.str n):=rfl
theorem U3:Pu.ay .aM=.aM:=rfl
theorem Dt(n:Int):dn (.int n)=(.int n):=rfl
theorem Tp:dn .aM=.aM:=rfl
theorem C5(n:Int):b9 (.int n)=true:=rfl
theorem OP:b9 (.bl n)=true:=rfl
theorem Ic:b9 (.str n)=true:=rfl
theorem WA:b9 .aM=true:=rfl
theorem DV(n:Int):bF (.int n)=true:=rfl
theorem Mm:bF (.bl n)=true:=rfl
theorem GL:bF (.str n)=true:=rfl
theorem IW:bF .aM=true:=rfl
theorem Ls:aG (.aF xs)=.aF (cT xs):=rfl
theorem GQ:Pu.ay (.aF xs)=.aF (bp xs):=rfl
theorem U2:dn (.aF xs)=.aF (cv xs):=rfl
theorem TB:b9 (.aF xs)=cw xs:=rfl
theorem Nx:bF (.aF xs)=cR xs:=rfl
theorem Sx:aG (.ag .o xs)=.ag (.l true) (cT xs):=rfl
theorem Of:Pu.ay (.ag .o xs)=.ag .f (bp xs):=rfl
theorem OK:dn (.ag (.l true) xs)=.ag (.l false) (cv xs):=rfl
theorem Pl:Pu.ay (.ag (.l b) xs)=.ag (.l b) xs:=rfl
theorem Oa:b9 (.ag .o xs)=cw xs:=rfl
theorem VJ:bF (.ag .o xs)=cR xs:=rfl
theorem II:b9 (.ag .f xs)=cw xs:=rfl
theorem Ry(xs:bw):aG (.aO .o xs)=.aO (.l true) (dS xs):=rfl
theorem Wg(xs:bw):Pu.ay (.aO .o xs)=.aO .f (dD xs):=rfl
theorem Mr(xs:bw):b9 (.aO .o xs)=hG xs:=rfl
theorem Ub(xs:bw):bF (.aO .o xs)=gF xs:=rfl
def Loop(a:ai)(pg:eI)(d:cc)(D:Pd)(j:ai):Prop:=∃I:Nat->aW,I 0 j/\(∀i t j,a[i]?=some t->I i j->pg t j λb=>d { D with nx:=I (i+1),ct:=I (i+1),bk:=D.nx } b)/\∀j,I a.length j->D.nx j
theorem Hy:yp pi pg pb D j=(pi (j.map aG) λb a=>a=true/\Loop b pg pb D j):=rfl
theorem Loop.map(ys:List O)(g:O->Tr){pg:eI}(J:Nat->aW)(d:J 0 G)(step:∀i y G,ys[i]?=some y->J i G->pg (g y) G λb=>pb { D with nx:=J (i+1),ct:=J (i+1),bk:=D.nx } b)(a:∀G,J ys.length G->D.nx G):Loop (ys.map g) pg pb D G:=by
 refine⟨J,d,λi t G h j=>?_,λG h=>a G (by rw[length_map] at h;exact h)⟩;rw[getElem?_map] at h;cases e:ys[i]? with
 |none=>rw[e] at h;cases h
 |some y=>rw[e] at h;cases h;exact step i y G e j
def pV(o:Option Tr)(Q:az):Prop:=match o with |some .ax=>False |some t=>Q t |none=>False
theorem TH(i:Nat)(j:ai)(Q:az):uk i j Q=pV j[i]? Q:=rfl
theorem R6[ae j](a:j)(Q:az):pV (some (ae.t a)) Q=Q (ae.t a):=by
 have h:=ae.h a;generalize ae.t a=t at h;cases t with
 |ax=>exact absurd rfl h
 |_=>rfl
theorem Ot:pV (some (.int n)) Q=Q (.int n):=rfl
theorem QJ:pV (some (.bl n)) Q=Q (.bl n):=rfl
theorem Li:pV (some (.str n)) Q=Q (.str n):=rfl
theorem LZ:pV (some .aM) Q=Q .aM:=rfl
theorem Nt:pV (some (.aF xs)) Q=Q (.aF xs):=rfl
theorem IF:pV (some (.ag f xs)) Q=Q (.ag f xs):=rfl
theorem JC(f:Fl)(xs:bw)(Q:az):pV (some (.aO f xs)) Q=Q (.aO f xs):=rfl
theorem Kz(f:Fl)(c:af)(xs:bz)(Q:az):pV (some (.ins f c xs)) Q=Q (.ins f c xs):=rfl
theorem Qr(q:Rat)(Q:az):iG (ae.t q) (.int 0) Q=Q (.int q.num):=rfl
theorem Hw(q:Rat)(Q:az):iG (ae.t q) (.int 1) Q=Q (.int (q.den:Int)):=rfl
theorem RB:Tr.aF [.int 0,.int 1]=ae.t (0:Rat):=rfl
theorem MZ:Tr.aF [.int 1,.int 1]=ae.t (1:Rat):=rfl
def br(e:ai)(pg:eI)(pt:d7)(pe:bc)(f:ai)(Q:az):Prop:=∃I:Nat->aW,I 0 []/\
 (∀i t a,e[i]?=some t->I i a->pg t f λd=>pt d λb=>if b=true then pe d λx=>a.length<1000000/\I (i+1) (a++[x]) else I (i+1) a)/\∀a,I e.length a->a.length<=1000000/\Q (.ag .o a)
theorem Pq(a:iJ)(pg:eI)(pt:d7)(pe:bc)(ix:bG)(j:ai)(Q:az):rD a pg pt pe ix j Q=(a j λb _=>br b pg pt pe (mF ix j) Q):=rfl
theorem br.kN(ys:List j)(g:j->Tr)(h:j->Tr){pg:eI}{pe:bc}{Q:az}(d:ys.length<=1000000)(step:∀y∈ys,∀R:az,R (h y)->pg (g y) j' λf=>pe f R)(q:Q (.ag .o (ys.map h))):br (ys.map g) pg ql pe j' Q:=by
 refine⟨λi b=>b=(ys.take i).map h,rfl,λi t b e a=>?_,λb a=>?_⟩
 .rw[getElem?_map] at e;cases e':ys[i]? with
  |none=>rw[e'] at e;cases e
  |some y=>
   rw[e'] at e;cases e;have l:=(List.getElem?_eq_some_iff.mp e').1;refine step y (mem_of_getElem? e') _ ⟨?_,?_⟩
   .rw[a,length_map,length_take];omega
   .show b++[h y]=(ys.take (i+1)).map h;rw[a,take_add_one,e',map_append];rfl
 .rw[length_map,take_length] at a;rw[a,length_map];exact⟨d,q⟩
theorem br.map[ae j](ys:List i)(g:i->Tr)(h:i->j){pg:eI}{pe:bc}{Q:az}(a:ys.length<=1000000)(step:∀y∈ys,∀R:az,R (ae.t (h y))->pg (g y) j' λb=>pe b R)(q:Q (.ag .o ((ys.map h).map ae.t))):br (ys.map g) pg ql pe j' Q:=
 br.kN ys g (λy=>ae.t (h y)) a step (by rw[map_map] at q;exact q)
def c7{j:Type}[ae j](f:Fl)(m:List (Str×j)):Tr:=.aO f (m.map λp=>(Sum.inr p.1,ae.t p.2))
theorem Gg[ae j](m:List (Str×j)):(m.map λp=>((Sum.inr p.1:aS),ae.t p.2))=(m.map λp=>((Sum.inr p.1:aS),p.2)).map λp=>(p.1,ae.t p.2):=by rw[map_map];rfl
theorem rW[ae j](m:List (Str×j)):Cl (c7 .f m)=true:=by
 show kS (m.map λp=>((Sum.inr p.1:aS),ae.t p.2))=true;rw[Gg];exact jx _
theorem Bw[ae j](m:List (Str×j))(x:Str):look (m.map λp=>((Sum.inr p.1:aS),ae.t p.2)) (Sum.inr x)=(cF m x).map ae.t:=by
 unfold look cF
 induction m with
 |nil=>rfl
 |cons p m a=>
  rw[map_cons,find?_cons,find?_cons];by_cases h:p.1=x
  .rw[decide_eq_true (by rw[h]),decide_eq_true h];rfl
  .rw[decide_eq_false (λz=>h (Sum.inr.inj z)),decide_eq_false h];exact a
theorem VZ[ae j](f:Fl)(m:List (Str×j))(x:Str)(d:j)(Q:az):rL (c7 f m) (.str x) (ae.t d) Q=Q (ae.t ((cF m x).getD d)):=by
 show Q ((look (m.map λp=>((Sum.inr p.1:aS),ae.t p.2)) (Sum.inr x)).getD (ae.t d))=_;rw[Bw];cases cF m x<;>rfl
def DL(x:Tr):Prop:=match x with |.aO _ _=>True |_=>False
theorem Nn(e:Tr->Tr->Tr->(az)->Prop)(a b d:bc)(j:ai)(Q:az):p3 e a b d j Q=(a j λx=>DL x/\b j λy=>d j λz=>e x y z Q):=rfl
theorem SY[ae j](f:Fl)(m:List (Str×j)):DL (c7 f m)=True:=rfl
def oQ(o:Option Tr)(Q:az):Prop:=match o with |some t=>Q t |none=>False
theorem Im(t:Tr)(Q:az):oQ (some t) Q=Q t:=rfl
section
theorem Wh:iG (.aF xs) (.int i) Q=oQ (cX xs i) Q:=rfl
theorem gO:iG (.ag f xs) (.int i) Q=oQ (cX xs i) Q:=rfl
theorem Uz(C:Int->Int->Prop)(t:Int->Int->Tr):iV C t (.int i) (.int j) Q=(C i j/\Q (t i j)):=rfl
theorem Wi:qD (.int i) (.int j) Q=Q (.int (i+j)):=rfl
theorem u9:qD (.ag f xs) (.ag g ys) Q=(xs.length+ys.length<=1000000/\Q (.ag .o (xs++ys))):=rfl
theorem S1:ur (.int i) (.int j) Q=(kB i j/\Q (.int (i*j))):=rfl
theorem w_lt:xj (.int i) (.int j) Q=Q (.bl (decide (i<j))):=rfl
theorem Iu:xh (.int i) (.int j) Q=Q (.bl (decide (j<i))):=rfl
theorem Sa:uJ (.int i) Q=Q (.int (-i)):=rfl
theorem IJ:xQ [.int i] Q=Q (.int (if i<0 then -i else i)):=rfl
theorem C1(R:Bool->Prop):kc (.bl b) R=R b:=rfl
theorem OB:kM false (.int i) (.int j) Q=Q (.bl (decide (i=j))):=rfl
theorem GZ:kM false (.str x) (.str y) Q=Q (.bl (decide (x=y))):=rfl
theorem Qv:kM true (.int i) (.int j) Q=Q (.bl (!decide (i=j))):=rfl
theorem Ie:kM true (.str x) (.str y) Q=Q (.bl (!decide (x=y))):=rfl
theorem LK(k:Bool):nX k [.ag f xs] Q=Q (.int xs.length):=rfl
theorem U8(k:Bool):nX k [.aF xs] Q=Q (.int xs.length):=rfl
theorem G5:n8 [.ag f xs] Q=Q (.ag .o xs):=rfl
theorem jY(R:aW):g9 (.ag f xs) R=R xs:=rfl
theorem UB(t:Tr):mY [t] Q=Q t:=rfl
theorem Nw(t u:Tr)(R:Tr->az):lQ [t,u] R=R t u:=rfl
theorem J8(R:Int->Prop):tJ [.int i] R=R i:=rfl
theorem GY(R:Int->Int->Prop):sj [.int i,.int j] R=R i j:=rfl
theorem JR:vo [.bl b] Q=Q (.int (if b=true then 1 else 0)):=rfl
end
abbrev bW:=List (Str×Rat)×Str×Rat×Int×Int
abbrev av:=List bW
noncomputable instance (priority:=high) rowEnc:ae bW:=⟨λr=>.aF [c7 .f r.1,.str r.2.1,ae.t r.2.2.1,.int r.2.2.2.1,.int r.2.2.2.2],λr=>by show (Cl (c7 .f r.1)&&_)=true;rw[rW];rfl,λ_ z=>by cases z⟩
theorem JN(r:bW)(Q:az):iG (ae.t r) (.int 0) Q=Q (c7 .f r.1):=rfl
theorem Qb(r:bW)(Q:az):iG (ae.t r) (.int 1) Q=Q (.str r.2.1):=rfl
theorem NP(r:bW)(Q:az):iG (ae.t r) (.int 2) Q=Q (ae.t r.2.2.1):=rfl
theorem Ma(r:bW)(Q:az):iG (ae.t r) (.int 3) Q=Q (.int r.2.2.2.1):=rfl
theorem O3(r:bW)(Q:az):iG (ae.t r) (.int 4) Q=Q (.int r.2.2.2.2):=rfl
section
def o8(o:Option Tr)(R:az):Prop:=match o with |some .ax=>False |some t=>R t |none=>False
theorem OM(j:ai)(i:Nat)(Q:Tr->(Tr->ai)->Prop):gq K j i [] Q=o8 j[i]? λt=>Q t λu=>j.set i u:=by
 unfold gq o8;cases j[i]? with
 |none=>rfl
 |some t=>cases t <;> first |rfl |exact propext ⟨λh=>h.2,λh=>⟨trivial,h⟩⟩
theorem HM(f:Fl)(xs:ai)(R:az):o8 (some (.ag f xs)) R=R (.ag f xs):=rfl
theorem G4(f:Fl)(xs:bw)(R:az):o8 (some (.aO f xs)) R=R (.aO f xs):=rfl
theorem VM:jX (.ag .o xs) Q=Q xs:=rfl
theorem GH(xs:bw)(Q:bw->Prop):qT (.aO .o xs) Q=Q xs:=rfl
end
section
variable{α:Type}[ae α]
theorem EE(xs:List α)(a:α):↥xs++[ae.t a]=(xs++[a]).map ae.t:=by rw[map_append];rfl
theorem PV(xs:aI)(a:Int):↥xs++[Tr.int a]=(xs++[a]).map ae.t:=EE xs a
theorem gN(xs:List α)(i:Int):cX ↥xs i=(cX xs i).map ae.t:=by
 unfold cX;rw[length_map];cases hX xs.length i with
 |none=>rfl
 |some n=>exact getElem?_map ..
theorem tw(xs:List j)(a:0<=i)(h:i.toNat<xs.length):cX xs i=some (xs[i.toNat]'h):=by
 unfold cX hX;rw[if_pos a,if_pos ⋯];exact getElem?_eq_getElem h
theorem d0[ae j](o:Option j)(Q:az)(x:j)(h:o=some x)(q:Q (ae.t x)):oQ ↥o Q:=by rw[h];exact q
theorem V2(xs:List α)(l h:bK):ik ↥xs l h=(ik xs l h).map ae.t:=by
 unfold ik;rw[length_map,List.map_take,List.map_drop]
theorem v9(f:Fl)(xs:ai)(l h:bK)(Q:az):tG (.ag f xs) l h Q=Q (.ag .o (ik xs l h)):=rfl
end
theorem w9{p:cc}(J:aW)(a:∀N:aW,(∀j,J j->N j)->p { D with nx:=N } j)(b:∀j,J j->D.nx j):p D j:=a D.nx b
section
theorem bf.ax{i:Nat}(W:bf K k lo us Fb Hb F H G J cs):bf K k lo us Fb Hb F H G (J.set i .ax) (λj=>if j=i then [] else cs j) where
 g:=W.g
 z:=W.z
 l:=by rw[length_set];exact W.l
 e:=λj u h=>by
  by_cases e:j=i
  .subst e;have r:j<J.length:=by have:=(List.getElem?_eq_some_iff.mp h).1;rw[length_set] at this;exact this
   rw[getElem?_set_self r] at h;cases h;exact .inl rfl
  .rw[getElem?_set_ne (λz=>e z.symm)] at h;rw[if_neg e];exact W.e j u h
 c:=λj=>by
  split
  .exact .nil
  .exact W.c j
 n:=λj=>by
  split
  .exact .nil
  .exact W.n j
 d:=λa b ne p f q m=>by
  by_cases o:a=i
  .rw[if_pos o] at f;cases f
  .rw[if_neg o] at f;by_cases eb:b=i
   .rw[if_pos eb] at m;cases m
   .rw[if_neg eb] at m;exact W.d a b ne p f q m
 p:=W.p
 x:=W.x
theorem bf.fz{i:Nat}(W:bf K k lo us Fb Hb F H G J cs)(ht:J[i]?=some t)(hn:t≠.ax):∃m,bf K k lo us Fb Hb m H G (J.set i (Pu.ay t)) (λj=>if j=i then [] else cs j):=by
 rcases W.e i t ht with rfl |⟨v,w,r⟩
 .exact absurd rfl hn
 let⟨o,a,s,e⟩:=(W.ax (i:=i)).lay (W.c i) (W.n i) (r.plain t) (λj p f q A=>by
  by_cases b:j=i
  .rw[if_pos b] at f;cases f
  .rw[if_neg b] at f;exact W.d j i b p f q A)
 refine⟨o,⟨a.g,a.z,by rw[length_set];exact W.l,λj u h=>?_,a.c,a.n,a.d,a.p,a.x⟩⟩;by_cases b:j=i
 .subst b;have y:j<J.length:=by have:=(List.getElem?_eq_some_iff.mp h).1;rw[length_set] at this;exact this
  rw[getElem?_set_self y] at h;cases h;exact .inr ⟨v,w,by rw[if_pos rfl];exact r.ay (Le.of s) t e⟩
 .exact a.e j u (by rw[getElem?_set_ne (λz=>b z.symm)] at h ⊢;exact h)
def rK(i:Nat)(p:cc):cc:=λD j=>pV j[i]? λt=>p D (j.set i (Pu.ay t))
theorem Qt(h:cO K k lo ts p):cO K k lo ts (rK i p):=λus d f F H j G l D a W q L=>by
 unfold rK pV at q;split at q
 .exact q.elim
 .rename_i t hn e;let⟨b,g⟩:=W.fz e (λz=>hn (by rw[z]));exact h us d f b H j _ _ D a g q L
 .exact q.elim
theorem oX(i:Nat)(h:QB X k lo sts p):QB X k lo sts (rK i p):=by
 let⟨d,a,b⟩:=h.h;exact⟨d,a,Qt b⟩
theorem Iz(i:Nat)(p:cc)(D:Pd)(j:ai):rK i p D j=(pV j[i]? λt=>p D (j.set i (Pu.ay t))):=rfl
end
def iK(w:Wm)(m:bw)(pg:eI)(b:cc)(D:Pd)(j:ai):Prop:=∃I:Nat->aW,I 0 j/\(∀i p j,m[i]?=some p->I i j->pg (wit w p) j λa=>b { D with nx:=I (i+1),ct:=I (i+1),bk:=D.nx } a)/\∀j,I m.length j->D.nx j
theorem O9(w:Wm)(pe:bc)(pg:eI)(a:cc)(D:Pd)(j:ai):wM w pe pg a D j=(pe (j.map aG) λt=>bF t=true/\q4 (Pu.ay t) λm=>iK w m pg a D j):=rfl
theorem iK.map[ae O](m:List (Str×O)){pg:eI}(J:Nat->aW)(d:J 0 G)(step:∀i x y G,m[i]?=some (x,y)->J i G->pg (wit w (Sum.inr x,ae.t y)) G λb=>pb { D with nx:=J (i+1),ct:=J (i+1),bk:=D.nx } b)(a:∀G,J m.length G->D.nx G):iK w (m.map λp=>((Sum.inr p.1:aS),ae.t p.2)) pg pb D G:=by
 refine⟨J,d,λi t G h j=>?_,λG h=>a G (by rw[length_map] at h;exact h)⟩;rw[getElem?_map] at h;cases e:m[i]? with
 |none=>rw[e] at h;cases h
 |some y=>rw[e] at h;cases h;exact step i y.1 y.2 G e j
theorem Jc(x:Str)(t:Tr):wit .it (Sum.inr x,t)=.aF [.str x,t]:=rfl
section
variable{α:Type}[ae α](m:List (Str×α)){f:Fl}
theorem QQ(Q:bw->Prop):q4 (c7 .f m) Q=Q (m.map λp=>((Sum.inr p.1:aS),ae.t p.2)):=rfl
theorem Sh[h:Fp f]:aG (c7 f m)=c7 f m:=zK
theorem Io[h:Fp f]:Pu.ay (c7 f m)=c7 f m:=CF
theorem RE[h:Fp f]:bF (c7 f m)=true:=by
 unfold c7;rw[Gg];exact Mo
theorem Jn:pV (some (c7 f m)) Q=Q (c7 f m):=rfl
end
theorem br.filter[ae j](ys:List G)(g:G->Tr)(p:G->Bool)(h:G->j){pg:eI}{pt:d7}{Q:az}(r:ys.length<=1000000)(step:∀y∈ys,∀(A:Prop)(R:az),(p y=true->R (ae.t (h y)))->(p y=false->A)->pg (g y) j' λm=>pt m λb=>if b=true then pe m R else A)(q:Q (.ag .o (((ys.filter p).map h).map ae.t))):br (ys.map g) pg pt pe j' Q:=by
 refine⟨λi d=>d=(((ys.take i).filter p).map h).map ae.t,rfl,λi t d e a=>?_,λd a=>?_⟩
 .rw[getElem?_map] at e;cases e':ys[i]? with
  |none=>rw[e'] at e;cases e
  |some y=>
   rw[e'] at e;cases e;have l:=(List.getElem?_eq_some_iff.mp e').1;have n:ys.take (i+1)=ys.take i++[y]:=by rw[take_add_one,e'];rfl
   refine step y (mem_of_getElem? e') _ _ (λf=>⟨?_,?_⟩) (λf=>?_)
   .rw[a,length_map,length_map];have:=length_filter_le p (ys.take i);rw[length_take] at this;omega
   .show d++[ae.t (h y)]=(((ys.take (i+1)).filter p).map h).map ae.t;rw[n,List.filter_append,a,List.filter_cons_of_pos f,map_append,map_append];rfl
   .show d=(((ys.take (i+1)).filter p).map h).map ae.t;rw[n,List.filter_append,a,List.filter_cons_of_neg (by rw[f];decide),List.filter_nil,append_nil]
 .rw[length_map,take_length] at a;rw[a,length_map,length_map];exact⟨le_trans (length_filter_le p ys) r,q⟩
section
variable{α:Type}[ae α](m:List (Str×α))(f:Fl)
theorem MK(x:Str):((m.map λp=>((Sum.inr p.1:aS),ae.t p.2)).any λb=>decide (b.1=Sum.inr x))=m.any λp=>decide (p.1=x):=by
 induction m with
 |nil=>rfl
 |cons p m a=>
  rw[map_cons,any_cons,any_cons,a,decide_eq_decide.mpr (show (Sum.inr p.1:aS)=Sum.inr x↔p.1=x from ⟨λh=>Sum.inr.inj h,λh=>by rw[h]⟩)]
theorem CG(x:Str)(a:α):i1 (m.map λp=>((Sum.inr p.1:aS),ae.t p.2)) (Sum.inr x) (ae.t a)=(m6 m x a).map λp=>((Sum.inr p.1:aS),ae.t p.2):=by
 unfold i1 m6;rw[MK];split
 .rw[map_map,map_map];refine map_congr_left λp _=>?_
  show (if (Sum.inr p.1:aS)=Sum.inr x then _ else _)=_;by_cases h:p.1=x
  .rw[if_pos (by rw[h])];show _=((Sum.inr (if p.1=x then (p.1,a) else p).1:aS),ae.t (if p.1=x then (p.1,a) else p).2);rw[if_pos h]
  .rw[if_neg (λz=>h (Sum.inr.inj z))];show _=((Sum.inr (if p.1=x then (p.1,a) else p).1:aS),ae.t (if p.1=x then (p.1,a) else p).2);rw[if_neg h]
 .rw[map_append];rfl
theorem HV(x:Str)(Q:aS->Prop):jM (.str x) Q=Q (Sum.inr x):=rfl
theorem JK(x:Int)(Q:aS->Prop):jM (.int x) Q=Q (Sum.inl x):=rfl
end
mutual
noncomputable def nW:Tr->Tr->Bool
 |.int a,.int b=>decide (a=b)
 |.str a,.str b=>decide (a=b)
 |.bl a,.bl b=>decide (a=b)
 |.aM,.aM=>true
 |.aF xs,.aF ys=>jN xs ys
 |.ag _ xs,.ag _ ys=>jN xs ys
 |_,_=>false
noncomputable def jN:List Tr->List Tr->Bool
 |[],[]=>true
 |x::xs,y::ys=>nW x y&&jN xs ys
 |_,_=>false
end
def zC:bw->bw->Bool
 |[],[]=>true
 |x::xs,y::ys=>decide (x.1=y.1)&&(nW x.2 y.2&&zC xs ys)
 |_,_=>false
def Di:bw->Nat
 |[]=>0
 |x::xs=>max (dep x.2) (Di xs)
mutual
noncomputable def Qs:Tr->Tr->Bool
 |.int a,.int b=>decide (a=b)
 |.str a,.str b=>decide (a=b)
 |.bl a,.bl b=>decide (a=b)
 |.aM,.aM=>true
 |.aF xs,.aF ys=>mV xs ys
 |.ag _ xs,.ag _ ys=>mV xs ys
 |.aO _ xs,.aO _ ys=>zC xs ys
 |_,_=>false
noncomputable def mV:List Tr->List Tr->Bool
 |[],[]=>true
 |x::xs,y::ys=>Qs x y&&mV xs ys
 |_,_=>false
end
mutual
noncomputable def Qe:Tr->Nat
 |.aF a=>jL a + 1
 |.ag _ a=>jL a + 1
 |.aO _ a=>Di a + 1
 |_=>0
noncomputable def jL:List Tr->Nat
 |[]=>0
 |x::xs=>max (Qe x) (jL xs)
end
section
mutual
theorem Cj(l:aB F H)(sb:∀k,aB (B k) H):∀(t t':Tr)(v d:V)(c b:Cs),nW t t'=true->R K F B t v c->R K F B t' d b->aq F H c->aq F H b->ji K H (dep t) v d
 |.aF m=>λt' v d c b e r g u i=>by
  cases t' with
  |aF w=>
   unfold nW at e;∎;let⟨a,vs,rfl,q,s⟩:=r.dc l;let⟨j,h,rfl,o,p⟩:=g.dc l;∎;exact .inr ⟨a,j,vs,h,rfl,rfl,.inl ⟨q,o⟩,fP l sb m w vs h c b (dP m) e s p u i (le_refl _)⟩
  |_=>cases e
 |.ag f m=>λt' v d c b e r g u i=>by
  cases t' with
  |ag A w=>
   unfold nW at e;∎;let⟨a,vs,x,rfl,q,s,z,_⟩:=r.cj l sb u;let⟨j,h,n,rfl,o,p,y,_⟩:=g.cj l sb i;∎;exact .inr ⟨a,j,vs,h,rfl,rfl,.inr ⟨q,o⟩,fP l sb m w vs h x n (dP m) e s p z y (le_refl _)⟩
  |_=>cases e
 |.int a=>λt' v d c b e r g _ _=>by
  cases t' with
  |int j=>have:=of_decide_eq_true e;subst this;rw[r.1,g.1];exact⟨rfl,rfl⟩
  |_=>cases e
 |.str a=>λt' v d c b e r g _ _=>by
  cases t' with
  |str j=>have:=of_decide_eq_true e;subst this;rw[r.1,g.1];exact⟨rfl,rfl⟩
  |_=>cases e
 |.bl a=>λt' v d c b e r g _ _=>by
  cases t' with
  |bl j=>have:=of_decide_eq_true e;subst this;rw[r.1,g.1];exact⟨rfl,rfl⟩
  |_=>cases e
 |.aM=>λt' v d c b e r g _ _=>by
  cases t' with
  |aM=>rw[r.1,g.1];exact⟨rfl,rfl⟩
  |_=>cases e
 |.ax=>λt' v d c b e _ _ _ _=>by cases t' <;> cases e
 |.ty _=>λt' v d c b e _ _ _ _=>by cases t' <;> cases e
 |.cl _=>λt' v d c b e _ _ _ _=>by cases t' <;> cases e
 |.exc _=>λt' v d c b e _ _ _ _=>by cases t' <;> cases e
 |.aO _ _=>λt' v d c b e _ _ _ _=>by cases t' <;> cases e
 |.ins _ _ _=>λt' v d c b e _ _ _ _=>by cases t' <;> cases e
theorem fP(j:aB F H)(sb:∀k,aB (B k) H):∀(i a:List Tr)(vs b:List V)(c f:Cs)(n:Nat),jN i a=true->Rs K F B i vs c->Rs K F B a b f->aq F H c->aq F H f->dP i<=n->e6 (ji K H n) vs b
 |[]=>λa vs b c f n e r h _ _ _=>by
  cases a with
  |nil=>rw[r.1,h.1];exact True.intro
  |cons _ _=>cases e
 |x::xs=>λa vs b c f n e r h g d hn=>by
  cases a with
  |nil=>cases e
  |cons y J=>
   ∎;let⟨v,q,l,o,A,C,D,E⟩:=r;let⟨I,G,m,p,s,u,w,z⟩:=h;∎;rw[C] at g;rw[u] at d;rw[A,s];unfold jN at e;rw[and_eq_true] at e;unfold dP at hn;exact⟨RH (Cj j sb x y v I l m e.1 D w g.left d.left) ⋯,fP j sb xs J q G o p n e.2 E z g.right d.right ⋯⟩
end
end
def iw(b a:Str):Bool:=!(Builtin.Str.occurrences b a 0 b.length 1).isEmpty
theorem S5(hm:X.mg x=none)(a:do Gl X x)(b:do bootBuiltins x=some (.type n))(hn: ~~~(x≠"__name__"))(hd: ~~~(dq x)):QE X k (.Name x pos) (pC (.ty n)):=⟨_,Rq (v:=.ty n) a hm b rfl hn hd,n6 λ_ _=>⟨rfl,rfl⟩⟩
end Pu
namespace L2
open PySem PySem.Spec PyProof.Rows
abbrev qe(X:Cx)(o:Expr)(m:Str)(b:bH)(a pos:Pos)(pl:Sem Bool):Prop:=eval (.Call (.Attribute o m a) b [] pos) X.env=(do
   let ov <- eval o X.env
   standAt a.atName
   let (f,first) <- holding [ov] (getMethod ov m pl)
   callWith pos f first (backTo pos (starEach b X.env)) (backToKw pos (keywordEach [] X.env)))
def rf(D:af->Nat->Prop)(m:Str)(sp:Nat->Sp)(R:St->XK)(f:TE)(t:TA):TE:=λj H Q=>f j H λx b=>∃a C e fs g,x=.ref a/\Rd b a (.ins C e fs)/\D C g/\fs.lookup m=none/\t j b λvs d=>sp g (x::vs) d Q (R j)
section
theorem Bg(he:PE X o ta)(z:∀C g,D C g->fA X.prog X.w X.K X.mg X.base CX k m C ps (sp g))(G:bu k X.A)(J:∀j,ja CX X j (R j))(B:PA X (e::es) t)(n:do du e es X.env)(hpl:do fa pos es X.env)(ht:do qe X o m (e::es) apos pos pl):
  PE X (.Call (.Attribute o m apos) (e::es) [] pos) (rf D m sp R ta t):=by
 intro aa s j H Q I h;refine W.methodCall_KW (pl:=pl) (bj (he aa s j H _ I h) λu Y b=>?_) ht;let⟨x,v,i,U,a,C,dx,fs,g,ex,y,d,l,q⟩:=b;subst ex;obtain rfl:u=Value.ref a:=U;∎;let⟨c,f,fd,hm,F,E⟩:=z C g d;let⟨L,O,r⟩:=vb i.aN y;∎;have hn:L m=none:=cD.none_of (by rw[<- l];exact r m);refine zi i.cL O (c.get m) hm.at_ hm.fn hn ?_;refine W.callWith_K (first:=[.ref a]) (h₀:=X.base) I.ok.mod.kQ hm.kp (bj (B pos aa Y j v _ i q) λus s2 b=>?_) n hpl;let⟨vs,H2,p,N,M⟩:=b;refine⟨p.cL,?_⟩;exact vt (us:=.ref a::us) (vs:=.ref a::vs) F G E .nil (J j) p (.cons rfl N) (by rw[append_nil];exact M)
theorem NQ(he:PE X o ta)(n:∀C g,D C g->fA X.prog X.w X.K X.mg X.base CX k m C ps (sp g))(v:bu k X.A)(y:∀j,ja CX X j (R j))(ht:do qe X o m [] apos pos pl):
  PE X (.Call (.Attribute o m apos) [] [] pos) (rf D m sp R ta iI):=by
 intro aa s j H Q I h;refine W.methodCall_KW (pl:=pl) (bj (he aa s j H _ I h) λu L e=>?_) ht;let⟨x,E,b,B,a,C,G,fs,g,ex,i,d,l,q⟩:=e;subst ex;obtain rfl:u=Value.ref a:=B;∎;let⟨c,f,J,hm,F,p⟩:=n C g d;let⟨z,O,r⟩:=vb b.aN i;∎;have hn:z m=none:=cD.none_of (by rw[<- l];exact r m);refine zi b.cL O (c.get m) hm.at_ hm.fn hn ?_;exact W.callWith_K0 (first:=[.ref a]) b.cL hm.kp (vt (us:=[.ref a]) (vs:=[.ref a]) F v p .nil (y j) b (.cons rfl .nil) (by rw[append_nil];exact q))
theorem r0(h:me CX X E):∀j,ja CX X j E:=λj aa H s e a I c=>h aa j H s e a I c
end
end L2
namespace Pu
open PySem L2 Vc Sf
section
theorem AY:∀(a:ai)(i:Nat),(cv a)[i]?=a[i]?.map dn
 |[],_=>rfl
 |_::_,0=>rfl
 |_::xs,i + 1=>AY xs i
theorem xk{aZ:fR}{E:XK}{q':aj->Prop}{w:Tr->aW}{Q:VK}(hk:z=true->Fz S0 F)(hn:(cv ts).length=n)(A:∀k,aB (B k) H)(b:eF K F B H F1 H1 ts vs c1)(U:∀j f d,q' j->Gr F H f d->E j none d)(p1:aZ (cv ts) w q')(x:∀f d y g' l v t c,Gr F H f d->(∀c,c8 (cP (c1.map (·.1)) H1) c->c8 H c)->bf K ⟨z,λ_=>E,q'⟩ lo vs F1 (cP (c1.map (·.1)) H1) f d y g' l->R K f (λ_=>cP (c1.map (·.1)) H1) t v c->aq f d c->c8 H c->(∀i,∀p∈l i,∀q∈c,p.1≠q.1)->b9 t=true->w t g'->Q v d):ic K z lo n aZ vs H1 Q E:=by
 let⟨O,G,I,J,L⟩:=b.r.split b.c;have hl:vs.length=n:=by rw[b.r.length,<- hn,k8]
 have Y:∀k,aB (B k) (cP (c1.map (·.1)) H1):=λk a o e=>nS (tu b.n (A k a o e)) (b.g.h _ _ (A k a o e))
 have D:∀c,c8 (cP (c1.map (·.1)) H1) c->c8 H c:=λc n p m=>by
  have z:=n p m;by_cases C:p.1∈c1.map (·.1)
  .obtain⟨q,mq,e⟩:=mem_map.mp C;have e:q.1=p.1:=e;rw[<- e];exact b.n q mq
  .unfold cP at z;rw[if_neg C] at z;exact b.g.h.free z
 refine⟨hl,F1,cP (c1.map (·.1)) H1,cv ts,O,_,q',⟨⟨xu b.g.s,Fz.refl F1⟩,λh=>b.g.fz (hk h),by rw[length_map,k8,b.r.length],?_,J,λi p m=>wq (I i p m),L,λi _=>by rw[getElem?_map],λj _ f d h g=>U j f d h (b.g.cP b.n g)⟩,p1,?_⟩
 .intro i t h;rw[AY] at h;cases z:ts[i]? with
  |none=>rw[z] at h;cases h
  |some u=>
   rw[z] at h;cases h;let⟨v,M,N⟩:=G i u z;exact .inr ⟨v,by rw[getElem?_map,M];rfl,N.dn (λk=>Le.of (Y k)) u⟩
 .intro f d y g' l v t c' W r hc n dj nl qt;exact x f d y g' l v t c' (b.g.cP b.n W.g) D W r hc (D _ n) dj nl qt
theorem Vr{aZ:fR}{E:XK}{q':aj->Prop}{e:az}{Q:VK}(j:z=true->Fz S0 F)(hn:(cv ts).length=n)(f:∀k,aB (B k) H)(m:eF K F B H F1 H1 ts vs c1)(h:∀d b a,q' d->Gr F H b a->E d none a)(p1:aZ (cv ts) (λt _=>e t) q')(q:∀t v b a cs,e t->Out K F B H b a t v cs->Q v a):ic K z 0 n aZ vs H1 Q E:=
 xk j hn f m h p1 λb a _ _ _ v t c g _ _ r i n _ l o=>q t v b a c o ⟨g,r.base t l,i,n⟩
theorem eF.cons{b f:Hp}{t:Tr}{v:V}{c:Cs}{i:ai}{vs:aw}{d:Cs}(o:Out K F B H F1 H1 t v c)(a:eF K F1 B H1 b f i vs d):eF K F B H b f (t::i) (v::vs) (c++d) where
 g:=o.g.trans' a.g
 r:=⟨v,vs,c,d,rfl,rfl,o.r.mo a.g.le (λ_=>Le.refl _) t,a.r⟩
 c:=(o.c.gr a.g).app a.c λp j q l e=>by
  have:=o.c.h p j;rw[e,a.n q l] at this;cases this
 n:=λp m=>(mem_append.mp m).elim (o.n p) λm=>o.g.h.free (a.n p m)
def ig(D:af->Nat->Prop)(m:Str)(x:Tr)(Q:Nat->Prop):Prop:=match x with |.ins _ c fs=>∃g,D c g/\fs.lookup m=none/\Q g |_=>False
theorem DF{D:af->Nat->Prop}{Q:Nat->Prop}(h:ig D m x Q):∃f c fs g,x=.ins f c fs/\D c g/\fs.lookup m=none/\Q g:=by
 unfold ig at h;split at h
 .obtain⟨g,h⟩:=h;exact⟨_,_,_,g,rfl,h⟩
 .exact h.elim
def PH(q:aj->Prop)(D:af->Nat->Prop)(m:Str)(aZ:Nat->fR)(po:bc)(a:b6):bc:=λj Q=>po j λx=>ig D m x λc=>a j λb=>aZ c (cv (x::b)) (λt _=>Q t) q
def uc(D:af->Nat->Prop)(m:Str)(aZ:Nat->bQ)(po:bc)(a:b6):bc:=λj Q=>po j λx=>ig D m x λc=>a j λb=>aZ c (cv (x::b)) (λt _=>Q t)
theorem Rf.none_of:∀{fs:bz}{vs:List (Str×V)}{a:Cs}{f:Str},Rf K F B fs vs a->fs.lookup f=none->vs.lookup f=none
 |[],_,_,_,y,_=>by let⟨h,_⟩:=y;rw[h];rfl
 |(g,y)::fs,_,_,f,y0,h=>by
  let⟨v,r,c,d,b,j,l,i⟩:=y0;rw[b];rw[lookup_cons] at h ⊢;cases e:f == g with
  |true=>rw[e] at h;cases h
  |false=>rw[e] at h;exact Rf.none_of i h
theorem Kl{aZ:Nat->fR}{R':St->XK}{q':aj->Prop}(I:∀(F:Hp)(B:Bool->Hp)(H:Hp)(j:St)(i:ai),gY K k F B H j i->∀d o l,q' d->Gr F H o l->R' j d none l)(L:z=true->k.z=true)(hn:∀C xs Q q,aZ C xs Q q->xs.length=n)(h:bD K k te po)(J:eM K k ta pa):bD K k (rf D m (λC=>ic K z 0 n (aZ C)) R' te ta) (PH q' D m aZ po pa):=λF B H j i Q Q' c p q=>by
 refine h F B H j i _ _ c p λx v u w c1 p1 e=>?_
 ∎;let⟨f,C,fs,g,rfl,G,M,p1⟩:=DF p1;let⟨a,y,vs,ds,rfl,A,E,_⟩:=e.r.mW e.g.s (λk=>(c.b k).trans e.g.h) e.c;∎;refine⟨a,C,y,vs,g,rfl,A,G,E.none_of M,J u B w j i _ _ (c.gr e.g) p1 λts us U Y c2 p2 O=>?_⟩;exact Vr (λh=>c.z (L h)) (hn _ _ _ _ p2) c.b (eF.cons e O) (λd o l N g=>I F B H j i c d o l N g) p2 q
theorem Er{aZ:Nat->bQ}(b:z=true->k.z=true)(hn:∀C xs Q,aZ C xs Q->xs.length=n)(h:bD K k te po)(a:eM K k ta pa):bD K k (rf D m (λC=>bR K z 0 n (aZ C)) (λ_=>E) te ta) (uc D m aZ po pa):=
 Kl (R':=λ_=>E) (q':=λ_=>False) (aZ:=λC xs Q _=>aZ C xs Q) (λ_ _ _ _ _ _ _ _ _ h=>h.elim) b (λC xs Q _=>hn C xs Q) h a
def n9(o:Option Tr)(Q:az):Prop:=match o with |some (.ins f c fs)=>b9 (.ins f c fs)=true/\Q (.ins f c fs) |_=>False
theorem V3{Q:az}(h:n9 o Q):∃f c fs,o=some (.ins f c fs)/\b9 (.ins f c fs)=true/\Q (.ins f c fs):=by
 unfold n9 at h;split at h
 .exact⟨_,_,_,rfl,h⟩
 .exact h.elim
def Mq(q:aj->Prop)(C:af)(aZ:fR)(b:b6):bc:=λj Q=>b j λd=>aZ (cv (.ins .o C []::d)) (λt a=>t=.aM/\n9 a[0]? Q) q
def yi(C:af)(aZ:bQ)(b:b6):bc:=λj Q=>b j λd=>aZ (cv (.ins .o C []::d)) λt a=>t=.aM/\n9 a[0]? Q
theorem Lg(a:eF K F B H F1 H1 ts vs c1)(f:H1 x=none)(hd:H1 dx=none)(ne:dx≠x):∃b,eF K F B H b (aR (aR H1 dx (.own x)) x (.ins C dx [])) (.ins .o C []::ts) (.ref x::vs) ((x,.ins C dx [])::c1):=by
 let⟨b,e,_⟩:=DP (o:=.own x) a.g.s (by intro _ _ z;cases z) hd;have d:aR H1 dx (.own x) x=none:=by rw[ba (Ne.symm ne)];exact f
 have i:Gr b (aR H1 dx (.own x)) b (aR (aR H1 dx (.own x)) x (.ins C dx [])):=Gr.iz e.s d;have g:=e.trans' i;refine⟨b,a.g.trans' g,⟨.ref x,vs,[(x,.ins C dx [])],c1,rfl,rfl,⟨x,dx,[],[],rfl,rfl,rfl,rfl⟩,a.r.mo g.le (λ_=>Le.refl _) ts⟩,rB e.s (a.c.gr e) d,λp m=>?_⟩;cases m with
 |head=>exact a.g.h.free f
 |tail _ m=>exact a.n p m
theorem GW{aZ:fR}{R':St->XK}{q':aj->Prop}(E:∀(F:Hp)(B:Bool->Hp)(H:Hp)(j:St)(i:ai),gY K k F B H j i->∀a l d,q' a->Gr F H l d->R' j a none d)(I:z=true->k.z=true)(hn:∀xs Q q,aZ xs Q q->xs.length=n)(G:eM K k ta pa):bD K k (yc C (ic K z 1 n aZ) [] R' ta) (Mq q' C aZ pa):=λF B H j i Q Q' c p q=>by
 refine G F B H j i _ _ c p λts vs U H1 c1 p1 N x dx L hd ne=>?_
 rw[append_nil];let⟨Y,O⟩:=Lg (C:=C) N L hd ne;refine xk (λh=>c.z (I h)) (hn _ _ _ p1) c.b O (λa l d J g=>E F B H j i c a l d J g) p1 λl d j' i' m v t c' g M W r hc n dj nl o=>?_
 ∎;let⟨rfl,o⟩:=o;let⟨f,c,fs,s,w,y⟩:=V3 o;∎;refine⟨r.1,?_⟩;rcases W.e 0 _ s with z |⟨u,A,D⟩
 .cases z
 .have:=W.p 0 Nat.zero_lt_one;rw[A] at this;cases this;exact q _ _ l d (m 0) y ⟨g,D.base _ w,W.c 0,M _ (W.n 0)⟩
theorem WI{aZ:bQ}(b:z=true->k.z=true)(hn:∀xs Q,aZ xs Q->xs.length=n)(a:eM K k ta pa):bD K k (yc C (bR K z 1 n aZ) [] (λ_=>E) ta) (yi C aZ pa):=
 GW (R':=λ_=>E) (q':=λ_=>False) (aZ:=λxs Q _=>aZ xs Q) (λ_ _ _ _ _ _ _ _ _ h=>h.elim) b (λxs Q _=>hn xs Q) a
end
section
theorem ew{D:af->Nat->Prop}{aZ:Nat->bQ}(l:∀C g,D C g->fA X.prog X.w X.K X.mg X.base bM kj m C ps (bR X.K z 0 n (aZ g)))(s:QE X k o po)(p:QA X k (e::es) pa)(u:bu km X.A:=by assumption)(q:kj<=km:=by first |decide |omega)(r:z=true->k.z=true:=by first |exact id |exact λ_=>rfl)(hn:∀C xs Q,aZ C xs Q->xs.length=n:=by exact λ_ _ _ h=>h.1)(a:do du e es X.env)(hpl:do fa pos es X.env)(ht:do qe X o m (e::es) apos pos pl):QE X k (.Call (.Attribute o m apos) (e::es) [] pos) (uc D m aZ po (n4 pa)):=by
 ∎;let⟨x,i,j⟩:=s.h;let⟨v,b,f⟩:=p.ay.h;∎;exact⟨_,Bg (R:=λ_=>E0) i (λC g d=>(l C g d).mono q) u (r0 qP) b a hpl ht,Er r hn j f⟩
theorem Ga{D:af->Nat->Prop}{aZ:Nat->bQ}(e:∀C g,D C g->fA X.prog X.w X.K X.mg X.base bM kj m C ps (bR X.K z 0 n (aZ g)))(j:QE X k o po)(l:bu km X.A:=by assumption)(f:kj<=km:=by first |decide |omega)(i:z=true->k.z=true:=by first |exact id |exact λ_=>rfl)(hn:∀C xs Q,aZ C xs Q->xs.length=n:=by exact λ_ _ _ h=>h.1)(ht:do qe X o m [] apos pos pl):QE X k (.Call (.Attribute o m apos) [] [] pos) (uc D m aZ po sY):=by
 let⟨p,a,b⟩:=j.h;exact⟨_,NQ (R:=λ_=>E0) a (λC g d=>(e C g d).mono f) l (r0 qP) ht,Er i hn b zR⟩
end
abbrev kF:=ai->(Tr->aW)->Prop
structure kI(K:PySem.W.Frag)(k:Md)(lo:Nat)(us:aw)(Fb Hb F F' H':Hp)(j:St)(G:ai)(cs:Nat->Cs)(t:Tr)(v:V)(e:Cs):Prop where
 l:Le F F'
 W:bf K k lo us Fb Hb F' H' j G cs
 r:R K F' (λ_=>Hb) t v e
 c:aq F' H' e
 n:c8 Hb e
 d:∀i,∀p∈cs i,∀q∈e,p.1≠q.1
def om(K:ao)(k:Md)(lo:Nat)(m:TE)(pl:kF):Prop:=∀(us:aw)(b e F H:Hp)(j:St)(i:ai)(l:Nat->Cs)(Q:VK)(f:Tr->aW),bf K k lo us b e F H j i l->pl i f->
 (∀t v h d g a c,kI K k lo us b e F h d j g a t v c->f t g->Q v d)->m j H Q
section
theorem kI.held{t:Tr}{v:V}{c:Cs}(o:kI K k lo us Fb Hb F F' H' j i cs t v c):∃a,Le F a/\bf K k lo us Fb Hb a H' j i cs/\R K a (λ_=>Hb) (ay t) v []:=by
 let⟨a,e,b,f⟩:=o.W.lay o.c o.n (o.r.plain t) o.d;exact⟨a,o.l.trans (Le.of b),e,o.r.ay (Le.of b) t f⟩
def vL(i:Nat)(pl:kF):cc:=λD j=>pl j λt a=>D.nx (a.set i (ay t))
theorem Sd(n:lo<=i)(h:om K k lo te pl):cO K k lo (kR te (jk i)) (vL i pl):=λus b e F H j G g D q W p L=>by
 refine h us b e F H j G g _ _ W p λt v r d s l u o p1=>?_
 let⟨a,w,f,r2⟩:=o.held;exact L.nx a d _ _ _ (f.set n r2 .nil .nil λ_ _ _ _ _ m=>nomatch m) p1
def yu(pl:kF):cc:=λD j=>pl j λ_ j1=>D.nx j1
theorem P0(h:om K k lo te pl):cO K k lo (oy te) (yu pl):=λus b e F H j i f D l W p L=>
 h us b e F H j i f _ _ W p λt v a d n g m o p1=>L.nx a d _ _ _ o.W p1
def xW(pl:kF):cc:=λD j=>pl j λt a=>b9 t=true/\D.rt t a
theorem HU(h:om K k lo te pl):cO K k lo (yD te) (xW pl):=λus e g F H j i m D s W p L=>
 h us e g F H j i m _ _ W p λt v b f q a l o p1=>L.rt b f j q a v t l o.W o.r o.c o.n o.d p1.1 p1.2
end
section
def HA(K:ao)(F Hb:Hp)(j:St)(G:ai):bG->ai->aw->Prop
 |[],ts,vs=>ts=[] /\ vs=[]
 |none::hs,ts,vs=>∃t v a b,ts=t::a /\ vs=v::b /\ R K F (λ_=>Hb) t v [] /\ HA K F Hb j G hs a b
 |some i::hs,ts,vs=>∃t v a b,ts=t::a /\ vs=v::b /\ G[i]? = some t /\ t ≠ .ax /\ j[i]? = some (some v) /\ HA K F Hb j G hs a b
def qJ(K:ao)(k:Md)(lo:Nat)(hs:bG)(m:TA)(l:b6):Prop:=∀(us:aw)(d b F H:Hp)(j:St)(i:ai)(g:Nat->Cs)(Q:aw->Hp->Prop)(f:aW),bf K k lo us d b F H j i g->l i f->
 (∀h vs a e,Le F a->bf K k lo us d b a e j i g->HA K a b j i hs h vs->f h->Q vs e)->m j H Q
def xZ:b6:=λ_ Q=>Q []
def vH(pe:bc)(a:b6):b6:=λj Q=>pe (j.map aG) λt=>bF t=true/\a j λb=>Q (Pu.ay t::b)
theorem IP:qJ K k lo [] iI xZ:=λus a b F H j i e Q d W p q=>q [] [] F H (Le.refl F) W ⟨rfl,rfl⟩ p
theorem ud{Q:az}(h:pV o Q):∃t,o=some t/\t≠.ax/\Q t:=by
 unfold pV at h;split at h
 .exact h.elim
 .rename_i t hn;exact⟨t,rfl,λz=>hn (by rw[z]),h⟩
 .exact h.elim
theorem Uq(he:bD K k te pe)(h:qJ K k lo hs ta ph):qJ K k lo (none::hs) (hY te ta) (vH pe ph):=λus m b F H j i w Q z W p q=>by
 refine he F (Bq b H) H j _ _ _ W.er p λt v y n A e o=>?_
 let⟨g,s,r2,x⟩:=W.ea o e.1;exact h us m b g n j i w _ _ s e.2 λf vs l r d u a p3=>q (Pu.ay t::f) _ l r (x.trans d) u ⟨Pu.ay t,v,f,vs,rfl,rfl,r2.mo d (λ_=>Le.refl _) _,a⟩ p3
theorem HA.rs(W:bf K k lo us Fb Hb F H G J cs):∀{hs:bG}{C:ai}{vs:aw},(hs.filterMap id).Nodup->HA K F Hb G J hs C vs->∃c,Rs K F (λ_=>Hb) C vs c/\aq F H c/\c8 Hb c/\(∀p∈c,∃i,some i∈hs/\p∈cs i)/\∀i,some i∈hs->∀p∈cs i,p∈c
 |[],_,_,_,y=>by let⟨f,g⟩:=y;exact⟨[],by rw[f,g];exact⟨rfl,rfl⟩,.nil,.nil,(λ_ m=>nomatch m),λ_ m=>nomatch m⟩
 |none::hs,_,_,nd,y=>by
  ∎;let⟨t,v,A,a,f,g,w,x⟩:=y;let⟨c,l,o,r,h,s⟩:=HA.rs W (hs:=hs) nd x;∎;refine⟨c,by rw[f,g];exact⟨v,a,[],c,rfl,rfl,w,l⟩,o,r,λp m=>?_,λi m p b=>?_⟩
  .obtain⟨i,b1,b2⟩:=h p m;exact⟨i,.tail _ b1,b2⟩
  .cases m with
   |tail _ m=>exact s i m p b
 |some i::hs,_,_,nd,y=>by
  let⟨t,v,A,a,f,g,w,x,E,I⟩:=y;have nd:(i::hs.filterMap id).Nodup:=nd;rw[nodup_cons] at nd;let⟨c,l,o,r,h,s⟩:=HA.rs W (hs:=hs) nd.2 I;have M:some i ∉ hs:=λm=>nd.1 (mem_filterMap.mpr ⟨_,m,rfl⟩)
  have rt:R K F (λ_=>Hb) t v (cs i):=by
   rcases W.e i t w with z |⟨u,B,D⟩
   .exact absurd z x
   .rw[E] at B;cases B;exact D
  refine⟨cs i++c,by rw[f,g];exact⟨v,a,cs i,c,rfl,rfl,rt,l⟩,(W.c i).app o λp b q L=>?_,λp m=>(mem_append.mp m).elim (W.n i p) (r p),λp m=>?_,λj m p b=>?_⟩
  .obtain⟨j,b1,b2⟩:=h q L;exact W.d i j (λz=>M (by rw[z];exact b1)) p b q b2
  .rcases mem_append.mp m with m |m
   .exact⟨i,.head _,m⟩
   .obtain⟨j,b1,b2⟩:=h p m;exact⟨j,.tail _ b1,b2⟩
  .rcases mem_cons.mp m with e |m
   .cases e;exact mem_append.mpr (.inl b)
   .exact mem_append.mpr (.inr (s j m p b))
def fJ:bG->ai->ai
 |[],j=>j
 |none::hs,j=>fJ hs j
 |some i::hs,j=>(fJ hs j).set i .ax
theorem ye:∀(hs:bG)(j:ai),(fJ hs j).length=j.length
 |[],_=>rfl
 |none::hs,j=>ye hs j
 |some i::hs,j=>by show ((fJ hs j).set i .ax).length=_;rw[length_set];exact ye hs j
theorem sE:∀(hs:bG)(G:ai),some i ∉ hs->(fJ hs G).set i t=fJ hs (G.set i t)
 |[],_,_=>rfl
 |none::hs,G,h=>sE hs G λm=>h (.tail _ m)
 |some j::hs,G,h=>by
  show ((fJ hs G).set j .ax).set i t=(fJ hs (G.set i t)).set j .ax;rw[List.set_comm _ _ (λz=>h (by rw[z];exact .head _)),sE hs G λm=>h (.tail _ m)]
theorem wD:∀(hs:bG)(G:ai),(fJ hs G)[j]?=some t->t=.ax\/(some j ∉ hs/\G[j]?=some t)
 |[],_,h=>.inr ⟨(λm=>nomatch m),h⟩
 |none::hs,G,h=>(wD hs G h).imp id λ⟨a,b⟩=>⟨λm=>by cases m with |tail _ m=>exact a m,b⟩
 |some i::hs,G,h=>by
  have h:((fJ hs G).set i .ax)[j]?=some t:=h;by_cases e:i=j
  .subst e;have d:=(List.getElem?_eq_some_iff.mp h).1;rw[length_set] at d;rw[getElem?_set_self d] at h;cases h;exact .inl rfl
  .rw[getElem?_set_ne e] at h;exact (wD hs G h).imp id λ⟨a,b⟩=>⟨λm=>by
    rcases mem_cons.mp m with z |m
    .cases z;exact e rfl
    .exact a m,b⟩
theorem bf.past{hs:bG}{c:Cs}(W:bf K k lo us Fb Hb F H G J cs)(n:c8 Hb c)(A:∀p∈c,∃i,some i∈hs/\p∈cs i)(g:Gr F (cP (c.map (·.1)) H) F' H'):bf K k lo us Fb Hb F' H' G (fJ hs J) (λj=>if some j∈hs then [] else cs j)/\∀j,some j ∉ hs->∀p∈cs j,(cP (c.map (·.1)) H) p.1=some p.2:=by
 have B:Gr Fb Hb F' H':=W.g.cP n g;have keep:∀j,some j ∉ hs->∀p∈cs j,(cP (c.map (·.1)) H) p.1=some p.2:=λj s p o=>by
  refine nS (λm=>?_) ((W.c j).h p o);∎;let⟨q,r,e⟩:=mem_map.mp m;let⟨i,w,y⟩:=A q r;∎;exact W.d j i (λz=>s (by rw[z];exact w)) p o q y e.symm
 refine⟨⟨B,λh=>g.fz (W.z h),by rw[ye];exact W.l,λj t h=>?_,λj=>?_,λj=>?_,λa b ne p o q r=>?_,W.p,W.x⟩,keep⟩
 .rcases wD hs J h with z |⟨z,e⟩
  .exact .inl z
  .rw[if_neg z];exact (W.e j t e).imp id λ⟨v,h1,h2⟩=>⟨v,h1,h2.mo g.le (λ_=>Le.refl _) t⟩
 .split
  .exact .nil
  .rename_i s;refine⟨λp m=>g.h _ _ (keep j s p m),λp m=>?_,(W.c j).nd⟩;cases z:F' p.1 with
   |none=>rfl
   |some u=>
    have:=g.n p.1 u z ((W.c j).f p m);rw[keep j s p m] at this;cases this
 .split
  .exact .nil
  .exact W.n j
 .split at o
  .cases o
  .split at r
   .cases r
   .exact W.d a b ne p o q r
theorem bf.fill{i:Nat}{t:Tr}{v:V}{c:Cs}(W:bf K k lo us Fb Hb F H G J cs)(y:G[i]?=some (some v))(r:R K F (λ_=>Hb) t v c)(s:aq F H c)(n:c8 Hb c)(d:∀j,j≠i->∀p∈cs j,∀q∈c,p.1≠q.1):
  bf K k lo us Fb Hb F H G (J.set i t) (λj=>if j=i then c else cs j) where
 g:=W.g
 z:=W.z
 l:=by rw[length_set];exact W.l
 e:=λj u h=>by
  by_cases e:j=i
  .subst e;have w:j<J.length:=by have:=(List.getElem?_eq_some_iff.mp h).1;rw[length_set] at this;exact this
   rw[getElem?_set_self w] at h;cases h;exact .inr ⟨v,y,by rw[if_pos rfl];exact r⟩
  .rw[getElem?_set_ne (λz=>e z.symm)] at h;rw[if_neg e];exact W.e j u h
 c:=λj=>by
  split
  .exact s
  .exact W.c j
 n:=λj=>by
  split
  .exact n
  .exact W.n j
 d:=λa b ne p o q f=>by
  by_cases m:a=i
  .rw[if_pos m] at o;rw[if_neg (λz=>ne (m.trans z.symm))] at f;exact (d b (λz=>ne (m.trans z.symm)) q f p o).symm
  .rw[if_neg m] at o;by_cases eb:b=i
   .rw[if_pos eb] at f;exact d a m p o q f
   .rw[if_neg eb] at f;exact W.d a b ne p o q f
 p:=W.p
 x:=W.x
def jB:bG->Nat->ai->ai->(aW)->Prop
 |[],_,_,G,Q=>Q G
 |none::hs,j,G',G,Q=>jB hs (j + 1) G' G Q
 |some i::hs,j,G',G,Q=>pV G'[j]? λt=>b9 t=true /\ jB hs (j + 1) G' (G.set i t) Q
theorem yZ{Q:Md}{r:Nat}{vs:aw}{y:Hp}{C:St}{A:ai}{a:Nat->Cs}{G:Prop}{B:aW}(f:bf K Q r vs F1 y F' H' C A a)(x:aB Hb y):∀(hs:bG)(j:Nat)(O:ai)(cx:Nat->Cs),(hs.filterMap id).Nodup->bf K k lo us Fb Hb F' H' J (fJ hs O) cx->(∀n i,hs[n]?=some (some i)->∃v,J[i]?=some (some v)/\vs[j+n]?=some v)->j+hs.length<=r->
  (∀i m,(i<lo\/True)->j<=m->∀p∈cx i,∀q∈a m,p.1≠q.1)->jB hs j A O B->(∀s b,bf K k lo us Fb Hb F' H' J s b->(∀i,∀p∈b i,p∈cx i\/∃m,p∈a m)->B s->G)->G
 |[],j,O,cx,_,W,_,_,_,p,q=>q O cx W (λi p m=>.inl m) p
 |none::hs,j,O,cx,nd,W,hv,hl,d,p,q=>by
  refine yZ f x hs (j+1) O cx nd W (λn i e=>?_) (by rw[length_cons] at hl;omega) (λi m z hm=>d i m z ⋯) p q;let⟨v,l,o⟩:=hv (n+1) i e;exact⟨v,l,by rw[show j+1+n=j+(n+1) by omega];exact o⟩
 |some i::hs,j,O,cx,nd,W,hv,hl,d,p,q=>by
  have nd:(i::hs.filterMap id).Nodup:=nd;rw[nodup_cons] at nd;have U:some i ∉ hs:=λm=>nd.1 (mem_filterMap.mpr ⟨_,m,rfl⟩)
  ∎;let⟨t,H,I,L,p⟩:=ud p;let⟨v,l,o⟩:=hv 0 i rfl;∎;rw[length_cons] at hl;have rt:R K F' (λ_=>Hb) t v (a j):=by
   rcases f.e j t H with z |⟨u,M,N⟩
   .exact absurd z I
   .have:=f.p j ⋯;rw[M,show vs[j]?=some v from o] at this;cases this;exact N.base t L
  have E:bf K k lo us Fb Hb F' H' J (fJ hs (O.set i t)) (λm=>if m=i then a j else cx m):=by
   have:=W.fill (i:=i) l rt (f.c j) (λp m=>x.free (f.n j p m)) λm _ p h q w=>d m j (.inr trivial) (le_refl j) p h q w
   rw[show (fJ (some i::hs) O).set i t=fJ hs (O.set i t) by
    show ((fJ hs O).set i .ax).set i t=_;rw[List.set_set];exact sE hs O U] at this
   exact this
  refine yZ f x hs (j+1) (O.set i t) _ nd.2 E (λn g e=>?_) ⋯ (λg m z hm p h q w=>?_) p λs b D sub=>q s b D λg p m=>?_
  .obtain⟨v,l,o⟩:=hv (n+1) g e;exact⟨v,l,by rw[show j+1+n=j+(n+1) by omega];exact o⟩
  .by_cases ei:g=i
   .rw[if_pos ei] at h;exact f.d j m ⋯ p h q w
   .rw[if_neg ei] at h;exact d g m z ⋯ p h q w
  .rcases sub g p m with z |z
   .by_cases ei:g=i
    .rw[if_pos ei] at z;exact .inr ⟨j,z⟩
    .rw[if_neg ei] at z;exact .inl z
   .exact .inr z
theorem HA.at_:∀{hs:bG}{q:ai}{vs:aw}{n i:Nat},HA K F Hb j G hs q vs->hs[n]?=some (some i)->∃v,j[i]?=some (some v)/\vs[n]?=some v
 |none::hs,_,_,n,i,y,e=>by
  let⟨t,v,f,g,l,d,m,h⟩:=y;cases n with
  |zero=>cases e
  |succ n=>let⟨u,a,b⟩:=HA.at_ (hs:=hs) h e;exact⟨u,a,by rw[d];exact b⟩
 |some x::hs,_,_,n,i,y,e=>by
  let⟨t,v,f,g,l,d,m,h,o,p⟩:=y;cases n with
  |zero=>cases e;exact⟨v,o,by rw[d];rfl⟩
  |succ n=>let⟨u,a,b⟩:=HA.at_ (hs:=hs) p e;exact⟨u,a,by rw[d];exact b⟩
theorem HA.len:∀{hs:bG}{f:ai}{vs:aw},HA K F Hb j G hs f vs->f.length=hs.length
 |[],_,_,y=>by let⟨a,_⟩:=y;rw[a];rfl
 |none::hs,_,_,y=>by let⟨t,v,b,d,a,g,h,e⟩:=y;rw[a,length_cons,length_cons,HA.len e]
 |some i::hs,_,_,y=>by let⟨t,v,b,d,a,g,h,e,m,l⟩:=y;rw[a,length_cons,length_cons,HA.len l]
end
structure QL(X:Cx)(k:Md)(lo:Nat)(e:Expr)(pl:kF):Prop where
 h:∃te,PE X e te/\om X.K k lo te pl
structure QH(X:Cx)(k:Md)(lo:Nat)(es:bH)(hs:bG)(ph:b6):Prop where
 h:∃ta,PA X es ta/\qJ X.K k lo hs ta ph
section
theorem nD:QH X k lo [] [] xZ:=⟨_,jE,IP⟩
theorem kT(he:QE X k e pe)(h:QH X k lo es hs ph)(a:do du e es X.env):QH X k lo (e::es) (none::hs) (vH pe ph):=by
 ∎;let⟨i,f,g⟩:=he.h;let⟨j,b,d⟩:=h.h;∎;exact⟨_,iR f b a,Uq g d⟩
section
theorem xv(i:Nat)(h:QL X k lo e pl)(d:X.N.Nodup:=by assumption)(j: ~~~(lo<=i))(g:do X.N[i]?=some x)(l:Loc X.env.scope x:=by first |exact Or.inl rfl |exact Or.inr rfl)(hs:do swapsWith e (some (.Name x pos')) pos.line X.env=pure false)(f:jR X x:=by first |exact .inl rfl |exact .inr rfl |assumption):
  QS X k lo (.Assign [.Name x pos'] e pos) (vL i pl):=by
 let⟨m,a,b⟩:=h.h;exact⟨_,uG d g l a hs f,Sd j b⟩
theorem xa(h:QL X k lo e pl)(hs:do swapsWith e none pos.line X.env=pure false):QS X k lo (.Expr e pos) (yu pl):=by
 let⟨d,a,b⟩:=h.h;exact⟨_,pD a hs,P0 b⟩
theorem kl(h:QL X k lo e pl):QS X k lo (.Return (some e) pos) (xW pl):=by
 let⟨d,a,b⟩:=h.h;exact⟨_,BV a,HU b⟩
end
end
end Pu
namespace L2
open PySem PySem.Spec PyProof.Rows
def BJ(e:TE):TE:=λj H Q=>e j H λx d=>∃a b,x=.ref a/\Rd d a (.dK b)/\∀p,d p=none->Q (.ref p) (aR d p (.ag (b.map (·.2))))
theorem Vi(Y:X.calm=true)(hg:Gl X "list")(hm:X.mg "list"=none)(ho:PE X o td)(g:attributeBase o "values" X.env (eval o X.env)=eval o X.env)(l:(apos.endLine == a9.line)=true)(hs:do starEach [.Call (.Attribute o "values" apos) [] [] a9] X.env=[(false,eval (.Call (.Attribute o "values" apos) [] [] a9) X.env)]):
  PE X (.Call (.Name "list" p) [.Call (.Attribute o "values" apos) [] [] a9] [] pos) (BJ td):=by
 intro aa s i H Q I h;refine wpAny_Call_Name_kw (jh I hg hm (u:=.type "list") rfl ?_);refine PyProof.Rows.callWith_type1 ?_ hs rfl;rw[hs];show wpAny _ _ (spliced ((false,eval (.Call (.Attribute o "values" apos) [] [] a9) X.env)::backTo pos [])) _ _ s;refine Calls.spliced_cons ?_;refine wpAny_Call_method0_late g l (bj (ho aa s i H _ I h) λv m E=>?_);let⟨x,G,B,r1,a,kvs,ex,L,q⟩:=E;subst ex;obtain rfl:v=Value.ref a:=r1;let⟨N,t2,hd⟩:=rh B (.inl ⟨kvs,L⟩);refine⟨"dict","dict.values",PySem.F.plainAttrs_dict,PySem.F.slot_dict_values,PySem.F.type_dict_values,N,t2,Calls.callWith_builtin rfl (PySem.evalArgs_none ?_)⟩;let⟨z,y,vs,r,dd⟩:=iT B.aN L;refine call_meetsIn PySem.F.slot_dict_values N PySem.F.entry_dict_values (PySem.F.args_dict_values_1 _) (meets_dict_values (eB X.prog X.w) a hd) ⟨⟨vs,dd⟩,?_⟩;have J:au X aa i G { m with heap:=m.heap.push { cls:=.type "dict_values",data:=.fields #[.ref a] } }:=B.kept (t':=m.toks) λb o e=>Heap.get?_push_of_some _ e
 let⟨ep,C⟩:=dd.dictAt;have A:=C.push { cls:=.type "dict_values",data:=.fields #[.ref a] };have M:kvs.length=vs.length:=KV.length r;refine Calls.spliced_nil ?_;refine W.kdl_call (s:={ m with heap:=m.heap.push { cls:=.type "dict_values",data:=.fields #[.ref a] } }) (W.kdl_values (knd:=eB X.prog X.w) (kvs:=vs) (ep:=ep) (r:=⇑m) (d:=a)) (I.ok.hd Y) ⟨⟨_,Heap.get?_push_size _ rfl,rfl,rfl⟩,A⟩ (by rw[<- M];exact z) λh' tk n O hk U f=>?_
 have D:G (m.heap.push { cls:=.type "dict_values",data:=.fields #[.ref a] }).objs.size=none:=J.aN.fresh (le_refl _);refine⟨.ref _,_,J.laid (o:=.ag (kvs.map (·.2))) (h':=h') (t':=tk) hk (le_refl _) ⟨by rw[length_map];exact z,n.toList,O,?_,by rw[Array.toArray_toList];exact U⟩,rfl,q _ D⟩;refine UY r (by rw[length_toList,f.1,M]) λj u hu=>?_
 exact f.2 j u (by rw[<- getElem?_toList];exact hu)
end L2
namespace Pu
open PySem L2 Vc Sf
section
theorem Rk.snd:∀{m:bw}{vs:bI}{c:Cs},Rk K F B m vs c->Rs K F B (m.map (·.2)) (vs.map (·.2)) c
 |[],_,_,y=>by let⟨h,a⟩:=y;rw[h,a];exact⟨rfl,rfl⟩
 |(y,x)::m,_,_,y0=>by let⟨v,r,c,d,b,a,e,f⟩:=y0;rw[b,a];exact⟨v,_,c,d,rfl,rfl,e,Rk.snd f⟩
def rX(t:Tr)(Q:az):Prop:=match t with |.aO _ m=>Q (.ag .o (m.map (·.2))) |_=>False
theorem KO(h:bD K k te pe):bD K k (BJ te) (p1 rX pe):=λF B H j i Q z c p q=>by
 refine h F B H j i _ _ c p λx v f w A p1 d=>?_
 unfold rX at p1;split at p1
 .obtain⟨a,vs,ds,rfl,h1,h2,h3,h4⟩:=d.r.gK d.g.s (λk=>(c.b k).trans d.g.h) d.c;refine⟨a,vs,rfl,h1,λp e=>?_⟩;let⟨l,o,u⟩:=kU d.g.s h2.snd h3 e;refine q _ _ f _ _ p1 ⟨d.g.trans' l,o,u,λy m=>?_⟩;cases m with
  |head=>exact d.g.h.free e
  |tail _ m=>exact d.n y (h4 y m)
 .exact p1.elim
def CK(neg:Bool)(x y:Tr)(Q:az):Prop:=∃(f g:Fl)(m a:bw)(n:Nat),x=.aO f m/\y=.aO g a/\n<=20/\m.length=a.length/\(∀p∈m,∃t,look a p.1=some t/\nW p.2 t=true/\dep p.2=n)/\Q (.bl (!neg))
theorem Rk.mem:∀{m:bw}{vs:bI}{c:Cs}{y:aS}{u:V},Rk K F B m vs c->aq F H c->(y,u)∈vs->∃x d,(y,x)∈m/\R K F B x u d/\aq F H d
 |[],_,_,_,_,y,_,m=>by let⟨h,_⟩:=y;rw[h] at m;cases m
 |(k',x)::xs,_,_,y,u,y0,hc,m=>by
  let⟨v,r,c,d,a,b,f,g⟩:=y0;rw[b] at hc;rw[a] at m;rcases mem_cons.mp m with e |m
  .cases e;exact⟨x,c,.head _,f,hc.left⟩
  .obtain⟨x',d',a1,a2,a3⟩:=Rk.mem g hc.right m;exact⟨x',d',.tail _ a1,a2,a3⟩
theorem LL:ee K k (wj K (!neg)) (CK neg):=λF B H x y tx ty cx cy Q Q' s b z rx ry U Y hd p q=>by
 ∎;let⟨f,g,m,m',n,rfl,rfl,hn,O,al,p⟩:=p;let⟨a,vs,ds,rfl,M,j,N,_⟩:=rx.gK s b U;let⟨o,us,es,rfl,J,i,L,_⟩:=ry.gK s b Y;∎;have l1:vs.length=m.length:=by have:=congrArg List.length j.fst;rw[length_map,length_map] at this;exact this
 have l2:us.length=m'.length:=by have:=congrArg List.length i.fst;rw[length_map,length_map] at this;exact this
 refine⟨n,a,o,vs,us,le_trans hn ∎,rfl,rfl,M,J,⟨by rw[l1,l2];exact O,λkk v mv=>?_⟩,q _ _ F H [] p (Gr.aP s) ⟨rfl,rfl⟩ .nil λ_ m=>nomatch m⟩;∎;let⟨t,d,C,D,E⟩:=j.mem N mv;let⟨t',h,G,I⟩:=al _ C;∎;rcases i.look kk L with⟨l,_⟩ |⟨t2,u,c,e,r,w,A,_⟩
 .rw[h] at l;cases l
 .rw[h] at e;cases e;refine⟨u,r,?_⟩;have:=Cj s b t t' v u d c G D w E A;rw[I] at this;exact this
theorem HD:ee K k (wj K false) (CK true):=LL (neg:=true)
end
section
theorem We(f:X.calm=true)(g:Gl X "list")(hm:X.mg "list"=none)(h:QE X k o po)(d:do attributeBase o "values" X.env (eval o X.env)=eval o X.env)(e:do (apos.endLine == a9.line)=true)(hs:do starEach [.Call (.Attribute o "values" apos) [] [] a9] X.env=[(false,eval (.Call (.Attribute o "values" apos) [] [] a9) X.env)]):
  QE X k (.Call (.Name "list" p) [.Call (.Attribute o "values" apos) [] [] a9] [] pos) (p1 rX po):=by
 let⟨i,a,b⟩:=h.h;exact⟨_,Vi f g hm a d e hs,KO b⟩
end
theorem MB:uc D m aZ po pa j Q=(po j λx=>ig D m x λc=>pa j λa=>aZ c (cv (x::a)) (λt _=>Q t)):=rfl
theorem QR:yi C aZ pa j Q=(pa j λb=>aZ (cv (.ins .o C []::b)) λt a=>t=.aM/\n9 a[0]? Q):=rfl
theorem OG(i:Nat)(pl:kF)(D:Pd)(j:ai):vL i pl D j=(pl j λt a=>D.nx (a.set i (ay t))):=rfl
theorem RI:yu pl D j=(pl j λ_ j1=>D.nx j1):=rfl
theorem Rl:xW pl D j=(pl j λt a=>b9 t=true/\D.rt t a):=rfl
theorem NB:xZ j' Q=(Q []):=rfl
theorem TF:vH pe ph j Q=(pe (j.map aG) λt=>bF t=true/\ph j λa=>Q (Pu.ay t::a)):=rfl
theorem Iv(j:Nat)(a i:ai)(Q:aW):jB [] j a i Q=Q i:=rfl
theorem QV(hs:bG)(j:Nat)(a i:ai)(Q:aW):jB (none::hs) j a i Q=jB hs (j+1) a i Q:=rfl
theorem IM(c:af)(fs:bz):aG (.ins .o c fs)=.ins (.l true) c (bY fs):=rfl
theorem KS(c:af)(fs:bz):dn (.ins .o c fs)=.ins .o c (iF fs):=rfl
theorem w6(c:af)(fs:bz):b9 (.ins .o c fs)=e9 fs:=rfl
theorem AX(c:af)(fs:bz):bF (.ins .o c fs)=fw fs:=rfl
theorem PN(f:Fl)(m:bw)(Q:az):rX (.aO f m) Q=Q (.ag .o (m.map (·.2))):=rfl
theorem Wb(K:ao)(f:Str)(c:af)(fs:bz)(Q:af->bz->Prop):adr K f (.ins .o c fs) Q=((gn K c/\bg K c f)/\fs.length<900/\Q c fs):=rfl
theorem nv(f:Str)(u:Tr):iu f u []=[(f,u)]:=rfl
theorem Ji(f:Fl)(c:af)(xs:bz)(R:az):o8 (some (.ins f c xs)) R=R (.ins f c xs):=rfl
section
def vV(i:Nat):kF:=λj Q=>pV j[i]? λt=>Q t (j.set i .ax)
theorem S8:om K k lo (f6 i) (vV i):=λus o r F H G J b Q s W p q=>by
 let⟨t,f,g,p⟩:=ud p;rcases W.e i t f with z |⟨v,h,l⟩
 .exact absurd z g
 refine⟨v,h,q t v F H _ _ (b i) ⟨Le.refl _,W.ax (i:=i),l,W.c i,W.n i,λj p a q m=>?_⟩ p⟩;split at a
 .cases a
 .rename_i hj;exact W.d j i hj p a q m
theorem Lo(i:Nat)(j:ai)(Q:Tr->aW):vV i j Q=(pV j[i]? λt=>Q t (j.set i .ax)):=rfl
end
section
theorem kh(i:Nat)(b:do X.N[i]?=some x)(d:oE X.env.scope x:=by first |exact Or.inl rfl |exact Or.inr (Or.inl rfl) |exact Or.inr (Or.inr rfl))(hd: ~~~(dq x))(a: ~~~((x == ("__classdict__":Str))=false)):QL X k lo (.Name x pos) (vV i):=⟨_,uE b d hd a,S8⟩
end
section
def wI(o:Option Tr)(Q:Int->Prop):Prop:=match o with |some (.int a)=>Q a |_=>False
theorem KU{Q:Int->Prop}(h:wI o Q):∃a,o=some (.int a)/\Q a:=by
 unfold wI at h;split at h
 .exact⟨_,rfl,h⟩
 .exact h.elim
end
theorem Ii(n:Int)(Q:Int->Prop):wI (some (.int n)) Q=Q n:=rfl
theorem eh(a:n7 X E):PassesOwn (model X.prog X.w) X.A X.env X.xe:=by
 rw[show X.xe=_ from a]
 passes_own
abbrev WO:=Pd->ai->aj->Prop
def Dg:V->aw->Hp->VK->Prop:=λx vs H Q=>∃l a j y,x=.ref l/\vs=[.int j,y]/\H l=some (.ag a)/\0<=j/\j<=a.length/\a.length<sizeLine/\Q .aM (aR H l (.ag (a.take j.toNat++y::a.drop j.toNat)))
theorem Fi:∀{xs:aw}{us:aL},aE xs us->∀n,aE (xs.take n) (us.take n)
 |_,_,.nil,n=>by rw[List.take_nil,List.take_nil];exact .nil
 |_,_,.cons a b,0=>.nil
 |_,_,.cons a b,n + 1=>.cons a (Fi b n)
theorem Ay:∀{xs:aw}{us:aL},aE xs us->∀n,aE (xs.drop n) (us.drop n)
 |_,_,.nil,n=>by rw[List.drop_nil,List.drop_nil];exact .nil
 |_,_,.cons a b,0=>.cons a b
 |_,_,.cons a b,n + 1=>Ay b n
theorem N8:xg X "list.insert" Dg:=by
 intro aa s i H x vs v us Q I D C h;let⟨l,d,j,y,rfl,rfl,m,M,N,w,q⟩:=h;cases D;cases C with
 |cons f g=>
 rename_i G J;∎;let⟨u,rfl,B⟩:=aE.one g;let⟨E,rfl⟩:=(show ∃t,G=Value.int j t from f);let⟨z,a,n,r,L,e⟩:=I.pY m;∎;have o:d.length=a.length:=r.length;have A:d.length<2 ^ 24:=w;have b:Builtin.List.listFitsIndex j=true:=by
  unfold Builtin.List.listFitsIndex;rw[and_eq_true,decide_eq_true_eq,decide_eq_true_eq];omega
 refine call_meets PySem.F.slot_list_insert ⟨_,e,rfl⟩ PySem.F.entry_list_insert (PySem.F.args_list_insert_3 _ _ _) (PySem.AutoSeq1.list_insert_list_int_val_1 l a.toArray n j E u (by simp[b]) (by rw[size_toArray];omega)) ⟨e,?_⟩;refine⟨.aM,_,I.rg (its':=a.take j.toNat++u::a.drop j.toNat) m e ?_ ?_ ?_,rfl,q⟩
 .have ek:(if j<0 then (j+(a.toArray.size:Int)).toNat else min j.toNat a.toArray.size)=j.toNat:=by
   rw[if_neg ⋯,size_toArray];omega
  show (a.toArray.extract 0 (if j<0 then (j+(a.toArray.size:Int)).toNat else min j.toNat a.toArray.size)).push u++a.toArray.extract (if j<0 then (j+(a.toArray.size:Int)).toNat else min j.toNat a.toArray.size)=_;rw[ek];simp;rw[List.take_of_length_le (by rw[List.length_drop];omega)]
 .have h1:aE (d.take j.toNat) (a.take j.toNat):=Fi r _;have p:aE (d.drop j.toNat) (a.drop j.toNat):=Ay r _;exact h1.append (.cons B p)
 .rw[length_append,length_cons,length_take,List.length_drop];show _<=2 ^ 24;omega
def vf(K:ao)(i:Nat)(r:ah)(b pe:bc):cc:=λD G=>gq K G i r λu s=>jX u λa=>b (G.map aG) λy=>wI (some y) λj=>pe (G.map aG) λt=>bF t=true/\0<=j/\j<=a.length/\a.length<1000000/\D.nx (s (.ag .o (a.take j.toNat++ay t::a.drop j.toNat)))
section
theorem Rs.parts:∀(n:Nat){xs:ai}{vs:aw}{a:Cs},Rs K F B xs vs a->∃b e,a=b++e/\Rs K F B (xs.take n) (vs.take n) b/\Rs K F B (xs.drop n) (vs.drop n) e
 |0,xs,vs,a,h=>⟨[],a,rfl,⟨rfl,rfl⟩,h⟩
 |n + 1,[],vs,a,h=>by
  let⟨rfl,rfl⟩:=h;exact⟨[],[],rfl,⟨rfl,rfl⟩,⟨rfl,rfl⟩⟩
 |n + 1,x::xs,vs,a,h=>by
  ∎;let⟨v,r,c,d,rfl,rfl,i,j⟩:=h;let⟨b,e,rfl,f,g⟩:=Rs.parts n j;∎;exact⟨c++b,e,by rw[append_assoc],⟨v,_,c,b,rfl,rfl,i,f⟩,g⟩
theorem Kq(hj:bD K k tj pj)(h:bD K k te pe):cO K k lo (oy (uy K "list" Dg (tR K i r) (hY tj (hY te iI)))) (vf K i r pj pe):=λus Fb e F H G J cs D D' W p L=>by
 ∎;let⟨t,e1,e2,e3,p⟩:=oz p;let⟨d,eg,p⟩:=yn p;let⟨w,c,Y,sub,hc,rd,cl⟩:=W.at e1 e2 r e3;∎;rw[eg] at Y;let⟨a,vs,b,rfl,N,O⟩:=Y;have Q:H a=some (.ag vs):=hc.h (a,.ag vs) (by rw[N];exact .head _);refine rd _ ⟨ER Q,hj F (Bq e H) H G _ _ _ W.er p λy v1 F1 H1 c1 C l=>?_⟩;let⟨j,ej,C⟩:=KU C;cases ej;refine h F1 (Bq e H) H1 G _ _ _ (W.er.gr l.g) C λu v F2 x c2 q s=>?_
 have o:Out K F (Bq e H) H F2 x u v c2:=⟨l.g.trans' s.g,s.r,s.c,λp m=>l.g.h.free (s.n p m)⟩
 let⟨f,W3,r3,U⟩:=W.ea o q.1;have B:x a=some (.ag vs):=o.g.h _ _ Q;have M:=O.length;have rs:=O.mo U (λ_=>Le.refl _) d;let⟨d1,A,ed,E,I⟩:=Rs.parts j.toNat rs;have rn:Rs K f (λ_=>e) (d.take j.toNat++ay u::d.drop j.toNat) (vs.take j.toNat++v::vs.drop j.toNat) (b++[]):=by
  rw[show b++[]=d1++([]++A) by rw[ed];simp];exact E.append (show Rs K f (λ_=>e) (ay u::d.drop j.toNat) (v::vs.drop j.toNat) ([]++A) from ⟨v,_,[],A,rfl,rfl,r3,I⟩)
 let⟨z,W4⟩:=cl f x W3 U a (.ag vs) (.ag (vs.take j.toNat++v::vs.drop j.toNat)) b b [] (.ag .o (d.take j.toNat++ay u::d.drop j.toNat)) ((a,.ag (vs.take j.toNat++v::vs.drop j.toNat))::(b++[])) N (List.Sublist.refl _) .nil oW pU (List.Perm.refl _) ⟨a,_,b++[],rfl,rfl,rn⟩;exact⟨a,vs,j,v,rfl,by rw[l.r.1],B,q.2.1,by rw[M];exact q.2.2.1,lt_of_lt_of_le (by rw[M];exact q.2.2.2.1) ∎,L.nx f _ G _ z W4 q.2.2.2.2⟩
end
section
theorem U9(hp:PE X o (tR X.K i r))(p:QE X k j pj)(h:QE X k e pe)(f:do attributeBase o "insert" X.env (eval o X.env)=eval o X.env)(g:do (((backTo a9 (starEach [j,e] X.env)).all (!·.1)&&(backToKw a9 (keywordEach [] X.env)).all (·.1.isSome))&&decide (([j,e].length+([]:List Keyword).length+if ([]:List Keyword).isEmpty=true then 0 else 1)<30))=true)(l:do (apos.endLine == a9.line)=true)(a:do du j [e] X.env)(m:do du e [] X.env)(n:do fa a9 [e] X.env)(hs:do swapsWith (.Call (.Attribute o "insert" apos) [j,e] [] a9) none spos.line X.env=pure false):
  QS X k lo (.Expr (.Call (.Attribute o "insert" apos) [j,e] [] a9) spos) (vf X.K i r pj pe):=by
 ∎;let⟨v,q,s⟩:=p.h;let⟨u,b,d⟩:=h.h;∎;exact⟨_,pD (xy PySem.F.plainAttrs_list PySem.F.slot_list_insert PySem.F.type_list_insert N8 hp (iR q (iR b jE m) a) f g l a n) hs,Kq s d⟩
end
theorem R8(K:ao)(i:Nat)(r:ah)(a pe:bc)(D:Pd)(G:ai):vf K i r a pe D G=(gq K G i r λu s=>jX u λxs=>a (G.map aG) λy=>wI (some y) λj=>pe (G.map aG) λt=>bF t=true/\0<=j/\j<=xs.length/\xs.length<1000000/\D.nx (s (.ag .o (xs.take j.toNat++ay t::xs.drop j.toNat)))):=rfl
end Pu
namespace Pu
open PySem PySem.Spec PyProof.Rows
section
variable{p:aL->Prop}
theorem I0(h:p []):∀us:aL,us.length=0->p us:=λus e=>by
 cases us with
 |nil=>exact h
 |cons=>cases e
theorem tp{p:aL->Prop}{k:Nat}(h:∀a (us:aL),us.length=k->p (a::us)):∀us:aL,us.length=k+1->p us:=λus e=>by
 cases us with
 |nil=>cases e
 |cons a us=>exact h a us (Nat.succ.inj e)
theorem El(h:∀a,p [a]):∀us:aL,us.length=[x1].length->p us:=tp λa=>I0 (h a)
theorem ln2(h:∀a b,p [a,b]):∀us:aL,us.length=[x1,x2].length->p us:=tp λa=>El (x1:=x2) (p:=λl=>p (a::l)) (h a)
theorem zp(h:∀a b c,p [a,b,c]):∀us:aL,us.length=[x1,x2,x3].length->p us:=tp λa=>ln2 (x1:=x2) (x2:=x3) (p:=λl=>p (a::l)) (h a)
theorem VI(h:∀a b c d,p [a,b,c,d]):∀us:aL,us.length=[x1,x2,x3,x4].length->p us:=tp λa=>zp (x1:=x2) (x2:=x3) (x3:=x4) (p:=λl=>p (a::l)) (h a)
end
end Pu
namespace Pu
open PySem L2 Vc Sf
theorem oj(hp:PE X o (tR X.K i r))(a:do attributeBase o f X.env (eval o X.env)=eval o X.env):PE X (.Attribute o f pos) (tR X.K i (f::r)):=BF hp a
section
theorem aq.perm(h:aq F H c)(p:c.Perm d):aq F H d:=⟨λx m=>h.h x (p.mem_iff.mpr m),λx m=>h.f x (p.mem_iff.mpr m),((p.map (·.1)).nodup_iff).mp h.nd⟩
theorem aq.qd(h:aq F H (c++d)):∀p∈c,∀q∈d,p.1≠q.1:=by
 have:=h.nd;rw[map_append,nodup_append] at this;exact λp a q b=>this.2.2 _ (mem_map.mpr ⟨p,a,rfl⟩) _ (mem_map.mpr ⟨q,b,rfl⟩)
theorem Og{hs:bG}{n:Nat}{z:Bool}{aZ:fR}{ts:ai}{vs:aw}{E:XK}{q':aj->Prop}{Q':Tr->aW}{Q:VK}{t:Tr}{r:ah}{v w:V}{c rest:Cs}(W:bf K k lo us Fb Hb F1 H1 G J cs)(l:Le F F1)(hv:G[i]?=some (some v))(pm:(cs i).Perm (c++rest))(η:R K F1 (λ_=>Hb) (cN t r) w c)(cl:∀A,Le F1 A->∀u d,R K A (λ_=>Hb) u w d->∃c1,R K A (λ_=>Hb) (ia t r u) v c1/\c1.Perm (d++rest))(a:HA K F1 Hb G J hs ts vs)(nd:((some i::hs).filterMap id).Nodup)(hk:z=true->k.z=true)(hn:(cv (cN t r::ts)).length=n)(hE:∀N A D,q' N->Gr Fb Hb A D->E N none D)(p1:aZ (cv (cN t r::ts)) (λx J'=>pV J'[0]? λu=>b9 u=true/\jB hs 1 J' (J.set i (ia t r u)) λJ2=>Q' x J2) q')(q:∀t v A D J' U c,kI K k lo us Fb Hb F A D G J' U t v c->Q' t J'->Q v D):ic K z n n aZ (w::vs) H1 Q E:=by
 have O:(i::hs.filterMap id).Nodup:=nd;rw[nodup_cons] at O;have ni:some i ∉ hs:=λm=>O.1 (mem_filterMap.mpr ⟨_,m,rfl⟩)
 let⟨H,a1,a2,a3,a4,a5⟩:=a.rs W O.2;have Y:aq F1 H1 (c++rest):=(W.c i).perm pm;have sub:∀p∈c,p∈cs i:=λp m=>pm.mem_iff.mpr (mem_append.mpr (.inl m))
 have B:∀p∈rest,p∈cs i:=λp m=>pm.mem_iff.mpr (mem_append.mpr (.inr m))
 have β:∀p∈cs i,∀q∈H,p.1≠q.1:=λp b q y=>by
  let⟨j,b1,b2⟩:=a4 q y;exact W.d i j (λz=>ni (by rw[z];exact b1)) p b q b2
 have A2:aq F1 H1 (c++H):=Y.left.app a2 λp b q y=>β p (sub p b) q y
 have A3:c8 Hb (c++H):=λp m=>(mem_append.mp m).elim (λm=>W.n i p (sub p m)) (a3 p)
 have A4:∀p∈c++H,∃j,some j∈(some i::hs)/\p∈cs j:=λp m=>by
  rcases mem_append.mp m with m |m
  .exact⟨i,.head _,sub p m⟩
  .obtain⟨j,b1,b2⟩:=a4 p m;exact⟨j,.tail _ b1,b2⟩
 have hb:aB Hb (cP ((c++H).map (·.1)) H1):=λx o e=>nS (tu A3 e) (W.g.h _ _ e)
 have o1:eF K F1 (λ_=>Hb) (cP ((c++H).map (·.1)) H1) F1 H1 (cN t r::ts) (w::vs) (c++H):=⟨⟨xu W.g.s,Fz.refl F1⟩,⟨w,vs,c,H,rfl,rfl,η,a1⟩,A2,λp m=>wq m⟩
 refine xk (λh=>W.z (hk h)) hn (λ_=>hb) o1 (λN A D hq g=>hE N A D hq (W.g.cP A3 g)) p1 λA D G' J' U v' t' M g nw L r' ε nc dj nl qt=>?_
 let⟨W0,keep⟩:=W.past (hs:=some i::hs) A3 A4 g;have C:∀p∈rest,(cP ((c++H).map (·.1)) H1) p.1=some p.2:=λp b=>by
  refine nS (λm=>?_) ((W.c i).h p (B p b));let⟨q,y,e⟩:=mem_map.mp m;rcases mem_append.mp y with y |y
  .exact Y.qd q y p b e
  .exact β p (B p b) q y e.symm
 have I:∀(M:Cs),c8 (cP ((c++H).map (·.1)) H1) M->∀p∈rest,∀q∈M,p.1≠q.1:=λM nc p b q y e=>by
  have:=C p b;rw[e,nc q y] at this;cases this
 have qd:∀(M:Cs),c8 (cP ((c++H).map (·.1)) H1) M->∀j,∀p∈(if some j∈(some i::hs) then [] else cs j),∀q∈M,p.1≠q.1:=λM nc j p b q y e=>by
  split at b
  .cases b
  .rename_i hj;have:=keep j hj p b;rw[e,nc q y] at this;cases this
 let⟨u,x1,x2,x3,qt⟩:=ud qt;have α:0<n:=by rw[<- hn,k8];exact Nat.succ_pos _
 have ru:R K A (λ_=>Hb) u w (U 0):=by
  rcases L.e 0 u x1 with z |⟨u',g1,g2⟩
  .exact absurd z x2
  .have:=L.p 0 α;rw[g1] at this;cases this;exact g2.base u x3
 let⟨d1,y1,y2⟩:=cl A g.le u _ ru;have fr:∀p∈rest,A p.1=none:=λp m=>by
  cases z:A p.1 with
  |none=>rfl
  |some o=>
   have:=g.n p.1 o z ((W.c i).f p (B p m));rw[C p m] at this;cases this
 have cr:aq A D rest:=⟨λp m=>g.h _ _ (C p m),fr,Y.right.nd⟩
 have cd:aq A D d1:=((L.c 0).app cr λp b q y e=>I _ (L.n 0) q y p b e.symm).perm y2.symm;have ζ:c8 Hb d1:=λp m=>by
  rcases mem_append.mp (y2.mem_iff.mp m) with m |m
  .exact hb.free (L.n 0 p m)
  .exact W.n i p (B p m)
 have W1:bf K k lo us Fb Hb A D G (fJ hs (J.set i (ia t r u))) (λm=>if m=i then d1 else (if some m∈(some i::hs) then [] else cs m)):=by
  have:=W0.fill (i:=i) hv y1 cd ζ λm hm p b q y=>by
   rcases mem_append.mp (y2.mem_iff.mp y) with y |y
   .exact qd _ (L.n 0) m p b q y
   .split at b
    .cases b
    .exact W.d m i hm p b q (B q y)
  rw[show (fJ (some i::hs) J).set i (ia t r u)=fJ hs (J.set i (ia t r u)) by
   show ((fJ hs J).set i .ax).set i _=_;rw[List.set_set];exact sE hs J ni] at this
  exact this
 have θ:n=hs.length+1:=by rw[<- hn,k8,length_cons,a.len]
 refine yZ L hb hs 1 (J.set i (ia t r u)) _ O.2 W1 (λm j e=>?_) ⋯ (λj m _ hm p b q y=>?_) qt λJ2 δ W2 γ q2=>?_
 .obtain⟨x,h1,h2⟩:=a.at_ e;exact⟨x,h1,by rw[show 1+m=m+1 by omega];exact h2⟩
 .by_cases ej:j=i
  .rw[if_pos ej] at b;rcases mem_append.mp (y2.mem_iff.mp b) with b |b
   .exact L.d 0 m ⋯ p b q y
   .exact I _ (L.n m) p b q y
  .rw[if_neg ej] at b;exact qd _ (L.n m) j p b q y
 .refine q t' v' A D J2 δ M ⟨l.trans g.le,W2,r'.base t' nl,ε,λp m=>hb.free (nc p m),λj p b q y=>?_⟩ q2;rcases γ j p b with z |⟨m,z⟩
  .by_cases ej:j=i
   .rw[if_pos ej] at z;rcases mem_append.mp (y2.mem_iff.mp z) with z |z
    .exact dj 0 p z q y
    .exact I _ nc p z q y
   .rw[if_neg ej] at z;exact qd _ nc j p z q y
  .exact dj m p z q y
def HH(K:ao)(q:aj->Prop)(D:af->Nat->Prop)(m:Str)(i:Nat)(r:ah)(hs:bG)(aZ:Nat->fR)(d:b6):kF:=λj Q=>pV j[i]? λt=>mE K t r/\ig D m (cN t r) λc=>d j λe=>aZ c (cv (cN t r::e)) (λx a=>pV a[0]? λu=>b9 u=true/\jB hs 1 a (j.set i (ia t r u)) λb=>Q x b) q
theorem Nl{aZ:Nat->fR}{R':St->XK}{q':aj->Prop}{r:ah}(hE:∀(us:aw)(Fb Hb F H:Hp)(j:St)(G:ai)(cs:Nat->Cs),bf K k lo us Fb Hb F H j G cs->∀b d u,q' b->Gr Fb Hb d u->R' j b none u)(nd:((some i::hs).filterMap id).Nodup)(hk:z=true->k.z=true)(hn:∀C xs Q q,aZ C xs Q q->xs.length=n)(h:qJ K k lo hs ta ph):om K k lo (rf D m (λC=>ic K z n n (aZ C)) R' (tR K i r) ta) (HH K q' D m i r hs aZ ph):=λus Fb Hb F H j G cs Q Q' W p q=>by
 ∎;let⟨t,J,L,ok,p⟩:=ud p;let⟨f,C,fs,g,M,Y,hl,p⟩:=DF p;∎;rcases W.e i _ J with z |⟨v,A,U⟩
 .exact absurd z L
 let⟨w,c,rest,pm,l,cl,rd⟩:=place W.g.s (λ_=>W.g.h) A U (W.c i) r ok;have hc:aq F H c:=((W.c i).perm pm).left;have o:=l;rw[M] at o;let⟨a,I,vs,ds,rfl,N,O,_⟩:=o.mW W.g.s (λ_=>W.g.h) hc;refine rd _ ⟨a,C,I,vs,g,rfl,N,Y,O.none_of hl,h us Fb Hb F H j G cs _ _ W p λts α B E x y ha p1=>?_⟩;exact Og y x A pm (l.mo x (λ_=>Le.refl _) _) (λd l'=>cl d (x.trans l')) ha nd hk (hn _ _ _ _ p1) (λb d u hq g=>hE us Fb Hb B E j G cs y b d u hq g) p1 q
end
section
def qV(K:ao)(D:af->Nat->Prop)(m:Str)(i:Nat)(r:ah)(hs:bG)(aZ:Nat->bQ)(d:b6):kF:=λj Q=>pV j[i]? λt=>mE K t r/\ig D m (cN t r) λc=>d j λe=>aZ c (cv (cN t r::e)) (λx a=>pV a[0]? λu=>b9 u=true/\jB hs 1 a (j.set i (ia t r u)) λb=>Q x b)
theorem nG{D:af->Nat->Prop}{aZ:Nat->bQ}(hp:PE X o (tR X.K i r))(j:∀C g,D C g->fA X.prog X.w X.K X.mg X.base bM kj m C ps (bR X.K z n n (aZ g)))(l:QH X k lo (e::es) hs ph)(s:bu km X.A:=by assumption)(p:kj<=km:=by first |decide |omega)(q:z=true->k.z=true:=by first |exact id |exact λ_=>rfl)(hn:∀C xs Q,aZ C xs Q->xs.length=n:=by exact λ_ _ _ h=>h.1)(nd: ~~~(((some i::hs).filterMap id).Nodup))(a:do du e es X.env)(hpl:do fa pos es X.env)(ht:do qe X o m (e::es) apos pos pl):QL X k lo (.Call (.Attribute o m apos) (e::es) [] pos) (qV X.K D m i r hs aZ ph):=by
 let⟨u,b,f⟩:=l.h;exact⟨_,Bg (R:=λ_=>E0) hp (λC g d=>(j C g d).mono p) s (r0 qP) b a hpl ht,Nl (q':=λ_=>False) (aZ:=λg xs Q _=>aZ g xs Q) (λ_ _ _ _ _ _ _ _ _ _ _ _ h=>h.elim) nd q (λC xs Q _=>hn C xs Q) f⟩
end
end Pu
namespace L2
open PySem PySem.Spec PyProof.Rows
section
def CH:aw->Hp->VK->Prop:=λa H Q=>∃n:Nat,a=[.int n]/\n<=1000/\∀p,H p=none->Q (.ref p) (aR H p (.jc 0 n))
theorem NK:bL X (.type "range") CH:=by
 intro aa s j H f us Q I r h;∎;let⟨n,rfl,hn,q⟩:=h;let⟨u,rfl,d⟩:=jg r;let⟨t,rfl⟩:=(show ∃t,u=Value.int n t from d);∎;refine call_range_1 ⟨.ref ⇑s,_,I.laid (a:=⇑s) (o:=.jc 0 n) (t':=s.toks+1+1) (λb o e=>Heap.get?_push_of_some _ e) (le_refl _) ⟨_,_,_,Heap.get?_push_size _ rfl⟩,rfl,q _ (I.aN.fresh (le_refl _))⟩
def Bl:aw->Hp->VK->Prop:=λb H Q=>∃(a:af)(n:Nat),b=[.ref a]/\H a=some (.jc 0 n)/\n<=1000/\∀p,H p=none->Q (.ref p) (aR H p (.ag ((List.range n).map λi:Nat=>V.int (i:Int))))
theorem Gs:∀(n:Nat)(m:Nat){bo:aL},bo.length=n->(∀(i:Nat)(v:aj),bo[i]?=some v->∃t,v=Value.int ((m+i:Nat):Int) t)->aE ((List.range' m n).map λi:Nat=>V.int (i:Int)) bo
 |0,m,[],_,_=>.nil
 |n + 1,m,x::bo,hl,h=>by
  let⟨t,e⟩:=h 0 x rfl;rw[List.range'_succ,map_cons];refine .cons ⟨t,e⟩ (Gs n (m+1) (by simpa using hl) λi v a=>?_);let⟨t,e⟩:=h (i+1) v a;exact⟨t,by rw[e];congr 2;omega⟩
theorem SA(p:X.calm=true):bL X (.type "list") Bl:=by
 intro aa s j H B us Q I r h;∎;let⟨a,n,rfl,m,hn,q⟩:=h;let⟨u,rfl,y⟩:=jg r;∎;cases y;let⟨t,u,v,e⟩:=I.aN a _ m;refine call_list_range (a:=0) (b:=n) (c:=1) (n:=n) (I.ok.hd p) e (small_one ⋯ ⋯ ⋯ ⋯) (by rw[rangeSize_one];split<;>omega) ⋯ λA z d g w l f=>?_
 refine⟨.ref ⇑s,_,I.laid (a:=⇑s) (o:=.ag ((List.range n).map λi:Nat=>V.int (i:Int))) (t':=z) w (le_refl _) ⟨by rw[length_map,length_range,sizeLine_eq];omega,d.toList,g,?_,by rw[Array.toArray_toList];exact l⟩,rfl,q _ (I.aN.fresh (le_refl _))⟩;have:=Gs n 0 (bo:=d.toList) (by rw[length_toList];exact f.1) λi v x=>by
  let⟨t,e⟩:=f.2 i v (by rw[<- getElem?_toList];exact x);exact⟨t,by rw[e];congr 1;omega⟩
 rw[List.range_eq_range'];exact this
end
end L2
namespace Pu
open PySem L2 Vc Sf
section
def CZ(t:Tr)(Q:az):Prop:=∃n:Nat,t=.int n/\n<=1000/\Q (.ag .o ((List.range n).map λi:Nat=>Tr.int (i:Int)))
theorem dW:∀(ns:List Nat),Rs K F B (ns.map λi:Nat=>Tr.int (i:Int)) (ns.map λi:Nat=>V.int (i:Int)) []
 |[]=>⟨rfl,rfl⟩
 |n::ns=>⟨.int n,_,[],[],rfl,rfl,⟨rfl,rfl⟩,dW ns⟩
theorem SN(h:bD K k te pe):bD K k (kX Bl (hY (kX CH (hY te iI)) iI)) (p1 CZ pe):=λF B H j i Q z c p q=>by
 refine h F B H j i _ _ c p λx v d f A p1 b=>?_
 ∎;let⟨n,rfl,hn,p1⟩:=p1;let⟨rfl,_⟩:=b.r;∎;refine⟨n,rfl,hn,λp l=>⟨p,n,rfl,cq,hn,λp2 a=>?_⟩⟩;have e:Gr d f d (aR f p (.jc 0 n)):=Gr.iz b.g.s l;let⟨o,u,w⟩:=kU (K:=K) (B:=B) e.s (dW (List.range n)) .nil a;refine q _ _ d _ _ p1 ⟨(b.g.trans' e).trans' o,u,w,λy m=>?_⟩;cases m with
 |head=>exact b.g.h.free (e.h.free a)
 |tail _ m=>cases m
theorem Lz{p p2 a:Pos}(l:X.calm=true)(m:Gl X "list")(hm:X.mg "list"=none)(b:Gl X "range")(d:X.mg "range"=none)(h:QE X k e pe)(f:do du e [] X.env)(g:do starEach [Expr.Call (.Name "range" p2) [e] [] a] X.env=(false,eval (Expr.Call (.Name "range" p2) [e] [] a) X.env)::starEach [] X.env):
  QE X k (.Call (.Name "list" p) [.Call (.Name "range" p2) [e] [] a] [] pos) (p1 CZ pe):=by
 let⟨n,i,j⟩:=h.h;exact⟨_,mH (SA l) m hm rfl (iR (mH NK b d rfl (iR i jE f) (he:=f)) jE g) (he:=g),SN j⟩
end
theorem fm{f:Str}{u:Tr}{r:bz}:List.lookup f ((f,u)::r)=some u:=by rw[lookup_cons,show (f == f)=true from beq_self_eq_true f]
theorem bZ{f g:Str}{u:Tr}{r:bz}{v:Option Tr}(h:List.lookup f r=v)(e:(f == g)=false:=by decide +kernel):List.lookup f ((g,u)::r)=v:=by rw[lookup_cons,e];exact h
theorem yT{f:Str}:List.lookup f ([]:bz)=none:=rfl
theorem g8{K:ao}{f:Str}{g:Fl}{c:af}{fs:bz}{u:Tr}{Q:az}(a:gn K c/\bg K c f)(b:fs.lookup f=some u)(q:Q u):gW K f (.ins g c fs) Q:=⟨a,by rw[b];exact q⟩
theorem wA{D:af->Nat->Prop}{m:Str}{f:Fl}{c:af}{fs:bz}{n:Nat}{Q:Nat->Prop}(hd:D c n)(a:fs.lookup m=none)(q:Q n):ig D m (.ins f c fs) Q:=⟨n,hd,a,q⟩
theorem rA{K:ao}{j:ai}{i:Nat}{c:af}{fs:bz}{f:Str}{u:Tr}{Q:Tr->(Tr->ai)->Prop}(h:j[i]?=some (.ins .o c fs))(b:gn K c/\bg K c f)(a:fs.lookup f=some u)(q:Q u λv=>j.set i (.ins .o c (adc f v fs))):gq K j i [f] Q:=by
 unfold gq;rw[h];refine⟨⟨trivial,b,by rw[a];rfl⟩,?_⟩;show Q ((fs.lookup f).getD .ax) _;rw[a];exact q
theorem Es{K:ao}{D:af->Nat->Prop}{m:Str}{i:Nat}{f:Str}{hs:bG}{aZ:Nat->bQ}{d:b6}{j:ai}{Q:Tr->aW}{c:af}{fs:bz}{u:Tr}(h:j[i]?=some (.ins .o c fs))(l:gn K c/\bg K c f)(a:fs.lookup f=some u)(q:ig D m u λg=>d j λp=>aZ g (cv (u::p)) (λx b=>pV b[0]? λv=>b9 v=true/\jB hs 1 b (j.set i (.ins .o c (adc f v fs))) λn=>Q x n)):qV K D m i [f] hs aZ d j Q:=by
 unfold qV;rw[h];have e:cN (.ins .o c fs) [f]=u:=by show (fs.lookup f).getD .ax=u;rw[a];rfl
 refine⟨⟨trivial,l,by rw[a];rfl⟩,?_⟩;rw[e];exact q
section
def x8(K:ao)(i:Nat)(r:ah)(f:Str)(pe:bc):cc:=λD j=>pe (j.map aG) λt=>bF t=true/\gq K j i r λu s=>adr K f u λc fs=>D.nx (s (.ins .o c (iu f (ay t) fs)))
theorem Jy(h:bD K k te pe):cO K k lo (wk K (tR K i r) te f) (x8 K i r f pe):=λus Fb z F H j G cs D D' W p L=>by
 refine h F (Bq z H) H j _ _ _ W.er p λu v F1 m c1 q o=>?_
 ∎;let⟨l,n,r2,l2⟩:=W.ea o q.1;let⟨t,M,N,O,p⟩:=oz q.2;let⟨C,fs,Q,ok,hl,p⟩:=AK p;let⟨w,c,y,sub,Y,rd,cl⟩:=n.at M N r O;∎;rw[Q] at y;let⟨a,b,vs,J,rfl,s,x⟩:=y;have U:m a=some (.ins C b vs):=Y.h (a,.ins C b vs) (by rw[s];exact .head _);∎;let⟨g,d,B,E,I⟩:=x.put (f:=f) r2;let⟨e,A⟩:=cl l m n (Le.refl _) a (.ins C b vs) (.ins C b (fk f v vs)) J g [] (.ins .o C (iu f (ay u) fs)) ((a,.ins C b (fk f v vs))::d) s E .nil oW pU (List.Perm.cons _ I) ⟨a,b,_,d,rfl,rfl,B⟩;∎;exact rd _ ⟨a,C,b,vs,rfl,U,ok.1,ok.2,lt_of_lt_of_le (by rw[x.length];exact hl) ∎,L.nx l _ j _ e A p⟩
theorem sI(hp:PE X o (tR X.K i r))(h:QE X k e pe)(hs:do swapsWith e (some (.Attribute o f pos')) pos.line X.env=pure false):QS X k lo (.Assign [.Attribute o f pos'] e pos) (x8 X.K i r f pe):=by
 let⟨d,a,b⟩:=h.h;exact⟨_,Bu hp a hs,Jy b⟩
theorem Lr(K:ao)(i:Nat)(r:ah)(f:Str)(pe:bc)(D:Pd)(j:ai):x8 K i r f pe D j=(pe (j.map aG) λt=>bF t=true/\gq K j i r λu s=>adr K f u λc fs=>D.nx (s (.ins .o c (iu f (ay t) fs)))):=rfl
end
end Pu
namespace L2
open PySem PySem.Spec PyProof.Rows
section
def Bj(K:ao):R2:=λx y H Q=>∃(l:af)(a:aw)(n:Int),x=.ref l/\y=.int n/\bC K H l a/\0<=n/\n<=1000/\a.length<=100/\∀p,H p=none->Q (.ref p) (aR H p (.ag (List.replicate n.toNat a).flatten))
theorem IA:b4 X (binaryOp .Mult) (Bj X.K):=by
 intro aa s j H x y v u Q I p w h;let⟨l,E,n,rfl,rfl,m,B,C,o,q⟩:=h;cases p;∎;let⟨t,rfl⟩:=w;let⟨a,r,p1,G⟩:=I.list m;∎;have i:=r.length;let⟨⟨A,f,D,d⟩,b,g,k,hd⟩:=p1.isList;simp only at g hd;subst g hd;have e:a.toArray.size*n.toNat<=100*1000:=by rw[size_toArray,<- i];exact mul_le_mul o ⋯
 refine wpAny_binaryOp_repeat_ref (T:="list") (U:="int") ∎ ⟨_,b,rfl⟩ (λz=>PySem.typeIs_int z n t) noFill_list_mul F.fills_int_mul F.slot_int_rmul repeat_list F.slot_int_index.lookup
  (call_meets F.slot_int_rmul (PySem.typeIs_int s n t) F.entry_int_rmul (F.args_int_rmul_2 _ _) (lm_int_rmul_list_any n t l a.toArray k f d)
   ⟨b,rfl,⟨_,b,rfl⟩,call_meets F.slot_list_mul ⟨_,b,rfl⟩ F.entry_list_mul (F.args_list_mul_2 _ _)
    (lm_list_mul_any l a.toArray k f d n t (by simp[Builtin.List.listFitsIndex];omega) ⋯ (by rw[size_toArray] at e;simp[Builtin.List.listTooLong,sizeLine];omega))
    ⟨b,?_⟩⟩)
 rw[listMul_foldl_if];refine⟨.ref _,_,I.qk (t':=s.toks) (r.rep n.toNat) ?_,rfl,q _ I.fresh⟩;rw[List.length_flatten,List.map_replicate,List.sum_replicate_nat,i,Nat.mul_comm];rw[size_toArray] at e;exact le_trans e ∎
end
end L2
namespace Pu
open PySem L2 Vc Sf
section
def sU(x y:Tr)(Q:az):Prop:=match x,y with
 |.ag _ [a],.int n=>Cl a=true /\ 0 <= n /\ n <= 1000 /\ Q (.ag .o (List.replicate n.toNat a))
 |_,_=>False
mutual
theorem R.nH:∀(t:Tr){v:V}{c:Cs},Cl t=true->R K F B t v c->c=[]
 |.int _,_,_,_,h=>h.2
 |.bl _,_,_,_,h=>h.2
 |.str _,_,_,_,h=>h.2
 |.aM,_,_,_,h=>h.2
 |.ax,_,_,_,h=>h.elim
 |.ty _,_,_,_,h=>h.2
 |.cl _,_,_,_,h=>h.2
 |.exc _,_,_,_,h=>h.1
 |.aF xs,_,_,n,y=>by let⟨a,vs,d,e,b⟩:=y;exact Rs.nH xs n b
 |.ag .f xs,_,_,_,h=>h.1
 |.ag .o xs,_,_,n,_=>nomatch n
 |.ag (.l _) xs,_,_,n,_=>nomatch n
 |.aO .f xs,_,_,_,h=>h.1
 |.aO .o xs,_,_,n,_=>nomatch n
 |.aO (.l _) xs,_,_,n,_=>nomatch n
 |.ins .f _ xs,_,_,_,h=>h.1
 |.ins .o _ xs,_,_,n,_=>nomatch n
 |.ins (.l _) _ xs,_,_,n,_=>nomatch n
theorem Rs.nH:∀(t:List Tr){v:List V}{c:Cs},e8 t=true->Rs K F B t v c->c=[]
 |[],_,_,_,h=>h.2
 |x::xs,_,_,n,y=>by
  let⟨v,r,c,d,f,a,b,e⟩:=y;have n:(Cl x&&e8 xs)=true:=n;rw[and_eq_true] at n;rw[a,R.nH x n.1 b,Rs.nH xs n.2 e];rfl
end
theorem Rs.rep(r:R K F B a v []):∀n:Nat,Rs K F B (List.replicate n a) (List.replicate n [v]).flatten []
 |0=>⟨rfl,rfl⟩
 |n + 1=>⟨v,(List.replicate n [v]).flatten,[],[],rfl,rfl,r,Rs.rep r n⟩
theorem M9:ee K k (Bj K) sU:=λF B H x y U ty cx J Q I s b z E G A O hd p q=>by
 unfold sU at p;split at p
 .rename_i a n;∎;let⟨D,C,p1,p2⟩:=p;let⟨rfl,_⟩:=G;let⟨l,vs,L,rfl,o,u,M,N⟩:=E.cj s b A;let⟨v,r,c,d,rfl,rfl,e,⟨rfl,rfl⟩⟩:=u;∎;rw[R.nH a D e] at e;exact⟨_,_,_,rfl,rfl,o,C,p1,(show 1<=100 by decide),λl w=>sH (cx:=cx) s (Rs.rep e n.toNat) .nil (λ_ m=>nomatch m) w p2 λt v f i j h g r c m=>q t v f i j h g r c λp z=>(m p z).imp id .inl⟩
 .exact p.elim
theorem v8(d:QE X k a pa)(e:QE X k b pb):QE X k (.BinOp a .Mult b pos) (p2 sU pa pb):=nq IA M9 d e
theorem Np:sU (.ag f [a]) (.int n) Q=(Cl a=true/\0<=n/\n<=1000/\Q (.ag .o (List.replicate n.toNat a))):=rfl
end
section
variable{K:ao}{mg:bx}{h:aU}{x qual:Str}{st:Stmt}{ps:ah}{f c:af}
set_option genInjectivity false in
set_option genSizeOf false in
structure dz(K:ao)(mg:bx)(x:Str)(st:Stmt)(ps:ah) where
 a:Addr
 d:FuncData
 F:gP K x x st a d
 b:Binds K d ps []
 m:mg x=some (.ref a)
set_option genInjectivity false in
set_option genSizeOf false in
structure eO(K:ao)(c:af)(x qual:Str)(st:Stmt)(ps:ah) where
 a:Addr
 d:FuncData
 F:gP K x qual st a d
 b:Binds K d ps []
 t:zO K c x a
set_option genInjectivity false in
set_option genSizeOf false in
structure uD(K:ao)(c:af)(qual:Str)(st:Stmt)(ps:ah) where
 a:Addr
 d:FuncData
 F:gP K "__init__" qual st a d
 b:Binds K d ps []
 t:Mk K c a
abbrev jz(x qual:Str)(st:Stmt)(ps:ah):Prop:=∀(kV doc pm:aj)(an:df)(a7 ct:aj)(us:aL),us.length=ps.length->bindArgs (W.fnOf x qual (oR st) (jq st) (bE st) .none kV doc pm an a7 ct) ⟨us,[]⟩=pure (ps.zip us)
noncomputable def U0(X:K.In h)(G:h.Ns mainGlobals mg)(e:W.nsIn K mainGlobals x=some (some (.ref f)))(F:gv K x x st f)(a:jz x x st ps):dz K mg x st ps:=⟨f,F.choose,F.choose_spec,F.choose_spec.binds a,W.mg_of X G e⟩
noncomputable def Pm(e:W.findIn K (.ref c) x=some (some (.ref f)))(F:gv K x qual st f)(i:W.isFn K (.ref f)=true)(a:jz x qual st ps):eO K c x qual st ps:=⟨f,F.choose,F.choose_spec,F.choose_spec.binds a,⟨e,i,F.kp⟩⟩
noncomputable def VA(e:W.findIn K (.ref c) "__init__"=some (some (.ref f)))(F:gv K "__init__" qual st f)(i:W.isFn K (.ref f)=true)(m:W.makesIn K c=true)(k:W.keepIn K (.ref c)=true)(a:jz "__init__" qual st ps):uD K c qual st ps:=⟨f,F.choose,F.choose_spec,F.choose_spec.binds a,⟨m,e,i,k⟩⟩
abbrev zc(K:ao)(c:af)(vs:aw):Prop:=∃(o:Obj)(a:dm)(n:Nat),K.lookup c=some o/\o.cls=.type "tuple"/\o.data=.seq a n/\a.size<=sizeLine/\aE vs a.toList
theorem wX(e:W.findIn K (.ref c) x=some none):bg K c x:=e
end
end Pu
namespace L2
section
open PySem PySem.W PySem.Builtin PySem.Builtin.ObjectAttr
@[inline] def gb:aL:=[.type "ValueError",.type "Exception",.type "BaseException",.type "object"]
def mG(K:Frag)(C F:af):Bool:=(clsIn K C).any λa=>a.mro == .ref C::.ref F::gb&&a.hasDict
section
variable{prog:Program}{w:World}{A:Around}{E:aj->ak->Prop}{s:ak}{K:Frag}{x C F:af}{R:Result->ak->Prop}
theorem Aq{n:Obj}{od:Option Obj}{a:Str}{d:Tok}{v:aj}(X:K.In s.heap)(I:InstAt s.heap x n C od)(hp:mG K C F=true)(ht:findIn K (.ref C) a=some none)(h:wpAny (model prog w) A.in1 (storeInOwnDict (.ref x) (.ref C) (.str a d) a v false)
   (λg s'=>match g with |.done f=>R (.ok f) s' |.again j=>j.quiet=true/\codeAny (model prog w) A j R s') (λe s'=>R (.error e) s') s):
  codeAny (model prog w) A (.call (.builtin "object.__setattr__") ⟨[.ref x,.str a d,v],[]⟩) R s:=by
 have b:=PySem.F.store_object;let⟨m,l,i⟩:=any_some hp;simp only[and_eq_true,beq_iff_eq] at i;have sub:Looks (model prog w) s.heap (isInstance (.ref x) (.type "object")) true:=I.type.andThen (looks_mroIn X (by unfold mroIn;rw[l,Option.bind_some,i.1,if_neg (by exact Bool.false_ne_true)];exact congrArg some (by unfold gb;simp only[List.contains_cons,List.contains_nil];rw[show (Value.type "object" == Value.type "object")=true from by decide];simp)));refine codeAny_call_builtin b.slot.plain b.entry (@check_slot (model prog w) _ _ s "object.__setattr__" "object" "__setattr__" (.ref x) [.str a d,v] [] _ b.kind b.split sub (b.args (.ref x) (.str a d) v) ?_);have hm:Looks (model prog w) s.heap (mroOf (.ref C)) m.mro:=(looks_clsIn X l).andThen .now;rw[osa_eq,refuse_eq];refine wpAny_bind (wpAny_bind (I.type.here (wpAny_bind (hm.here ?_))));rw[i.1,refuseLoop_ref,refuseLoop_ref,show refuseLoop (.ref x) "__setattr__" gb=pure () from PySem.F.store_ValueError.passes _];exact wpAny_pure (wpAny_bind (I.type.here (wpAny_bind ((looks_findIn X ht).here (wpAny_bind (wpAny_pure h))))))
theorem MS{vs:dm}{a:Str}{v:aj}{Q:Unit->ak->Prop}(X:K.In s.heap)(j:s.heap.get? x=some ⟨.ref C,none,.fields vs,#[]⟩)(hp:mG K C F=true)(ht:findIn K (.ref C) a=some none)(hs:findIn K (.ref C) "__setattr__"=some (some (.builtin "object.__setattr__")))(h:∀h' d,s.heap.get? d=none->h'.get? x=some ⟨.ref C,some d,.fields vs,#[]⟩->(h'.Ns1 d λy=>if y=a then some v else none)->(∀b o,b≠x->s.heap.get? b=some o->h'.get? b=some o)->Q () { s with heap:=h',toks:=s.toks+2 }):
  wpAny (model prog w) A (setAttr (.ref x) a v) Q E s:=by
 have I:InstAt s.heap x ⟨.ref C,none,.fields vs,#[]⟩ C none:=⟨j,rfl,rfl,trivial⟩
 refine set_plain X I hs (Aq (s:={ s with toks:=s.toks+1 }) X I hp ht ?_);let⟨J,G,z⟩:=any_some hp;simp only[and_eq_true,beq_iff_eq] at z;have f:(s.heap.push { cls:=.type "dict",data:=.dict #[] }).get? x=some ⟨.ref C,none,.fields vs,#[]⟩:=Heap.get?_push_of_some _ j;have i:x≠⇑s:=ne_of_lt (Heap.lt_size j);refine wpAny_bind (wpAny_pure (wpAny_bind (wpAny_bind (wpAny_loadPart j (wpAny_bind (Looks.here (s:={ s with toks:=s.toks+1 }) (looks_clsIn X G) ?_))))));rw[z.2];refine wpAny_bind (wpAny_alloc' ?_);refine wpAny_bind (wpAny_update' f ?_);refine wpAny_pure ?_;have p:((s.heap.push { cls:=.type "dict",data:=.dict #[] }).update x λo=>{ cls:=o.cls,dict:=some ⇑s,data:=o.data,slots:=o.slots }).get? ⇑s=some { cls:=.type "dict",data:=.dict #[] }:=
  (Heap.get?_update_ne _ _ _ _ i.symm).trans (Heap.get?_push_at rfl rfl)
 have q:((s.heap.push { cls:=.type "dict",data:=.dict #[] }).update x λo=>{ cls:=o.cls,dict:=some ⇑s,data:=o.data,slots:=o.slots }).Ns ⇑s (λ_=>none):=
  ⟨_,#[],_,p,rfl,λe H=>absurd H (by simp),λ_=>rfl⟩
 show wpAny _ _ (storeInDict ⇑s (.str a _) a v) _ _ _;unfold storeInDict newKeyGuard;refine wpAny_bind (wpAny_pure (wpAny_bind (wpAny_nsSet1 (Heap.Ns1.of_empty q) λh' g hs=>?_)));let⟨L,D,B,r,n,m⟩:=g.count (Within.cons a v Within.nil);refine wpAny_bind (wpAny_lookBehind r (by rw[n];exact pastItsLine_dict (le_trans m (by rw[length_cons,length_nil,sizeLine_eq];omega))) ?_);refine wpAny_pure (h h' _ (Heap.get?_none_of_le (le_refl _)) ?_ g λb M l u=>?_)
 .exact (hs.2 x i).trans (Heap.get?_update_self _ f rfl)
 .exact (hs.2 b (ne_of_lt (Heap.lt_size u))).trans ((Heap.get?_update_ne _ _ _ _ l).trans (Heap.get?_push_of_some _ u))
theorem Hi{vs:dm}{a:Str}{v:aj}{d:af}{m:bx}{ns:ah}{Q:Unit->ak->Prop}(X:K.In s.heap)(j:s.heap.get? x=some ⟨.ref C,some d,.fields vs,#[]⟩)(hd:s.heap.Ns1 d m)(hp:mG K C F=true)(ht:findIn K (.ref C) a=some none)(hs:findIn K (.ref C) "__setattr__"=some (some (.builtin "object.__setattr__")))(q:Within m ns)(hz:ns.length<=1000)(h:∀h',(h'.Ns1 d λy=>if y=a then some v else m y)->Heap.SameBut d s.heap h'->Q () { s with heap:=h',toks:=s.toks+2 }):
  wpAny (model prog w) A (setAttr (.ref x) a v) Q E s:=by
 let⟨od,D,B,l,u,z⟩:=id hd;have I:InstAt s.heap x ⟨.ref C,some d,.fields vs,#[]⟩ C (some od):=⟨j,rfl,rfl,l⟩;refine set_plain X I hs (Aq (s:={ s with toks:=s.toks+1 }) X I hp ht ?_);let⟨r,p,i⟩:=any_some hp;simp only[and_eq_true,beq_iff_eq] at i;refine wpAny_bind (wpAny_pure (wpAny_bind (wpAny_bind (wpAny_loadPart j (wpAny_bind (Looks.here (s:={ s with toks:=s.toks+1 }) (looks_clsIn X p) ?_))))));rw[i.2];refine wpAny_pure ?_;show wpAny _ _ (storeInDict d (.str a _) a v) _ _ _;unfold storeInDict newKeyGuard;refine wpAny_bind (wpAny_pure (wpAny_bind (wpAny_nsSet1 (s:={ s with toks:=s.toks+1 }) hd λh' b hs=>?_)));let⟨G,o,n,g,f,e⟩:=b.count (Within.cons a v q);refine wpAny_bind (wpAny_lookBehind g (by rw[f];exact pastItsLine_dict (le_trans e (by rw[length_cons,sizeLine_eq];omega))) ?_);exact wpAny_pure (h h' b hs)
end
theorem WK{K:Frag}{h:aU}{N:af}{m:bx}{n:Str}{v:aj}(X:K.In h)(G:h.Ns N m)(e:nsIn K N n=some (some v)):m n=some v:=by
 let⟨o,g,f,b,hd,_,a⟩:=G;unfold nsIn at e;split at e
 .rename_i c d es' n' sl q;have:=X _ _ q;rw[b] at this;cases this;cases hd;split at e
  .rename_i en he;cases e;rw[<- a];unfold nsFind findBy;rw[<- Array.find?_toList,he];rfl
  .split at e<;>cases e
 .cases e
def oK(K:Frag)(C a:af):Bool:=match K.lookup C with
 |some ⟨.type "type",_,.cls cd,sl⟩=>(match cd.mro,sl.toList with
  |.ref C'::bm,[_,_,_,_,some (.builtin n),_]=>C' == C&&n == "ValueError.__new__" && !cd.hasDel&&tailIn K gb bm&&nsOkIn K cd.ns&&nsIn K cd.ns "__init__" == some (some (.ref a))
  |_,_=>false)
 |_=>false
theorem FT{K:Frag}{h:aU}{C e:af}(X:K.In h)(q:oK K C e=true):
  ∃bm N nm f bs hd sn sub ab col dd k0 k1 k2 k3 k5 mN,h.get? C=some (excClassObj nm f C N bs bm hd sn sub ab col dd k0 k1 k2 k3 k5 "ValueError.__new__")/\h.Ns N mN/\mN "__init__"=some (.ref e)/\OwnTail h gb bm:=by
 unfold oK at q;split at q
 case h_2=>cases q
 case h_1 ddc cdc slc hlook=>
  split at q
  case h_2=>cases q
  case h_1 Cc bmc k0 k1 k2 k3 nn k5 hmro hslots=>
   simp only[and_eq_true,beq_iff_eq,Bool.not_eq_true'] at q;∎;let⟨⟨⟨⟨⟨i,j⟩,b⟩,l⟩,a⟩,d⟩:=q;let⟨nm,bs,m,ns,f,hd,sn,sub,ab,col,g⟩:=cdc;∎;dsimp only at hmro b a d;let⟨n⟩:=slc;simp only at hslots;subst i j b hmro hslots;exact⟨_,_,_,_,_,_,_,_,_,_,_,_,_,_,_,_,_,X _ _ hlook,.of_isNs (isNs_of_in X a),WK X (.of_isNs (isNs_of_in X a)) d,tail_of_in X l⟩
section
variable{prog:Program}{w:World}{A:Around}{E:aj->ak->Prop}{h:aU}{g:Array GenState}{d:Drawn}{t:Nat}{os:OsState}
variable{nm q:Str}{C N:af}{bs bm:aL}{hdct:Bool}{sn:ah}{sub:aL}{ab:Bool}{col:Option Bool}{dd:df}{k0 k1 k2 k3 k5:dJ}
theorem HF(T:OwnTail h gb bm){mN:bx}{rest:aL}{p:af}{y:Obj}{Q:Fin->ak->Prop}(n:h.get? C=some (excClassObj nm q C N bs bm hdct sn sub ab col dd k0 k1 k2 k3 k5 "ValueError.__new__"))(hn:h.Ns N mN)(B:mN "__init__"=some (.ref p))(u:h.get? p=some y)(v:y.cls=.type "function")(f:rest.length<=1000)(D:∀h' e,Heap.MadeExcOf h h' e (.ref C) rest->h.objs.size<=e->
   wpAny (model prog w) A (call (.ref p) (.ref e::rest)) (λr s'=>r=.none/\Q (.done (.ret (.ref e))) s') E ⟨h',g,d,t,os⟩):
  wpAny (model prog w) A (Builtin.«type.__call__» ⟨.ref C::rest,[]⟩) Q E ⟨h,g,d,t,os⟩:=by
 have F:=PySem.F.excBase_ValueError;have f:rest.length<=sizeLine:=by rw[sizeLine_eq];omega
 repeat (first |with_reducible refine wpAny_loadPart_at n ?_ |with_reducible refine wpAny_madeBy_exc n ?_ |wp_step)
 refine codeAny_call_builtin_code (Code.quiet_builtin _ F.quiet) (wpAny_check_new_subT F T n ?_);refine codeAny_exc_new_subT F T n ?_ f;show wpAny _ _ _ _ _ _;have a:=Heap.get?_push_of_some { cls:=.ref C,data:=.fields #[.ref h.objs.size,.none,.none,.none,.bool false,.none] }
  (Heap.get?_push_of_some { cls:=.type "tuple",data:=.seq rest.toArray } n)
 have i:=Heap.get?_push_of_some { cls:=.ref C,data:=.fields #[.ref h.objs.size,.none,.none,.none,.bool false,.none] }
  (Heap.get?_push_of_some { cls:=.type "tuple",data:=.seq rest.toArray } u)
 have l:((h.push { cls:=.type "tuple",data:=.seq rest.toArray }).push { cls:=.ref C,data:=.fields #[.ref h.objs.size,.none,.none,.none,.bool false,.none] }).Ns N mN:=
  let ⟨o,es,ep,e,r⟩:=hn;⟨o,es,ep,Heap.get?_push_of_some _ (Heap.get?_push_of_some _ e),r⟩
 have j:((h.push { cls:=.type "tuple",data:=.seq rest.toArray }).push
   { cls:=.ref C,data:=.fields #[.ref h.objs.size,.none,.none,.none,.bool false,.none] }).get? (h.objs.size+1)=some
   { cls:=.ref C,data:=.fields #[.ref h.objs.size,.none,.none,.none,.bool false,.none] }:=by heap_get
 have s:(Value.ref C::bm).contains (.ref C)=true:=by simp
 have m:=T.keeps (h':=(h.push { cls:=.type "tuple",data:=.seq rest.toArray }).push { cls:=.ref C,data:=.fields #[.ref h.objs.size,.none,.none,.none,.bool false,.none] })
  λb o e=>Heap.get?_push_of_some _ (Heap.get?_push_of_some _ e)
 unfold isInstance
 repeat (first |with_reducible refine wpAny_loadPart_at j ?_ |(with_reducible refine wpAny_isSubtype_exc a ?_;rw[s]) |wp_step)
 show wpAny _ _ (typeLookup (.ref C) _) _ _ _;refine wpAny_typeLookup_tail a l m F.mroIs F.init.lookup ?_;rw[B];refine wpAny_holding (wpAny_bind ?_);unfold bindSpecial;refine wpAny_bind (wpAny_typeOf (T:="function") ⟨_,i,v⟩ ?_);rw[if_pos ∎];refine wpAny_pure (wpAny_bind (wpAny_mono (D _ (h.objs.size+1) ⟨λb o z=>Heap.get?_push_of_some _ (Heap.get?_push_of_some _ z),Heap.get?_none_of_le (Nat.le_succ _),h.objs.size,j,Heap.get?_none_of_le (le_refl _),?_⟩ (Nat.le_succ _)) (λr s' G=>?_) λ_ _ x=>x))
 .exact Heap.get?_push_of_some _ (Heap.get?_push_at rfl rfl)
 .obtain⟨rfl,hQ⟩:=G
  wp_walk
  exact hQ
theorem LD(T:OwnTail h gb bm){mN:bx}{rest:aL}{f:af}{l:Obj}{Q:aj->ak->Prop}(b:h.get? C=some (excClassObj nm q C N bs bm hdct sn sub ab col dd k0 k1 k2 k3 k5 "ValueError.__new__"))(hn:h.Ns N mN)(m:mN "__init__"=some (.ref f))(i:h.get? f=some l)(j:l.cls=.type "function")(a:rest.length<=1000)(o:∀h' e,Heap.MadeExcOf h h' e (.ref C) rest->h.objs.size<=e->
   wpAny (model prog w) (A.under (.builtin "type.__call__" ⟨.ref C::rest,[]⟩)) (call (.ref f) (.ref e::rest)) (λr s'=>r=.none/\Q (.ref e) s') E ⟨h',g,d,t,os⟩):
  wpAny (model prog w) A (call (.ref C) rest) Q E ⟨h,g,d,t,os⟩:=by
 have p:=tc_lookup;have s:=tc_bind (.ref C);have u:(⟨h,g,d,t,os⟩:ak).TypeIs (.ref C) "type":=⟨_,b,rfl⟩
 refine wpAny_call (codeAny_of_tree ?_);show wpAny _ _ (callAny (.ref C) _) _ _ _
 repeat (any_goals (first |assumption |with_reducible refine wpAny_loadPart_at b ?_ |wp_step))
 refine⟨rfl,?_⟩;refine codeAny_call_builtin_at (Code.quiet_builtin _ (by decide +kernel)) entry_typeCall (wpAny_check_type_call_sub b (HF T b hn m i j a λh' e hm n=>?_));exact o h' e hm n
theorem Ur(T:OwnTail h gb bm)(a:h.get? C=some (excClassObj nm q C N bs bm hdct sn sub ab col dd k0 k1 k2 k3 k5 "ValueError.__new__")){e:af}{od:df}{l:af}{u:aj}{Q:aj->ak->Prop}(he:h.get? e=some ⟨.ref C,od,.fields #[.ref l,.none,.none,.none,.bool false,.none],#[]⟩)(j:∀h' t',h.get? t'=none->h'.get? e=some ⟨.ref C,od,.fields #[.ref t',.none,.none,.none,.bool false,.none],#[]⟩->(∀b o,b≠e->h.get? b=some o->h'.get? b=some o)->Q .none ⟨h',g,d,t,os⟩):
  wpAny (model prog w) A (call (.builtin "ValueError.__init__") [.ref e,u]) Q E ⟨h,g,d,t,os⟩:=by
 have F:=PySem.F.excBase_ValueError;refine wpAny_call (codeAny_call_builtin F.init.plain F.initEntry (wpAny_check_init_subU F T a he rfl ?_))
 wp_walk
 refine j _ h.objs.size (Heap.get?_none_of_le (le_refl _)) ?_ λb o f i=>?_
 .rw[Heap.get?_update_self _ (Heap.get?_push_of_some _ he) rfl];rfl
 .rw[Heap.get?_update_other _ _ (Ne.symm f)];exact Heap.get?_push_of_some _ i
end
end
end L2
namespace L2
open PySem PySem.Spec PyProof.Rows
section
variable{M:Model}{A:Around}{E:aj->ak->Prop}{env:Env}
variable{nm q:Str}{C N:af}{bs bm:aL}{hdct:Bool}{sn:ah}{sub:aL}{ab:Bool}{col:Option Bool}{dd:df}{k0 k1 k2 k3 k5:dJ}{newId:String}
theorem Q1{s:ak}{x:Sem Value}{Q:Flow->ak->Prop}(b:bm.contains (.type "BaseException")=true)(n:A.handled=none)(h:wpAny M A x (λv a=>∃e od t,v=.ref e/\a.heap.get? C=some (excClassObj nm q C N bs bm hdct sn sub ab col dd k0 k1 k2 k3 k5 newId)/\
   a.heap.get? e=some ⟨.ref C,od,.fields #[.ref t,.none,.none,.none,.bool false,.none],#[]⟩/\E (.ref e) a) E s):
  wpAny M A (raiseStmt env (some x) none) Q E s:=by
 have i:(Value.ref C::bm).contains (.type "BaseException")=true:=by rw[List.contains_cons,b,Bool.or_true]
 unfold raiseStmt;refine wpAny_bind (wpAny_mono h (λv a f=>?_) λ_ _ x=>x);let⟨e,od,t,rfl,j,m,l⟩:=f;let⟨o,g,d,p,os⟩:=a
 repeat (first |with_reducible refine wpAny_loadPart_at m ?_ |with_reducible refine wpAny_loadPart_at j ?_ |(with_reducible refine wpAny_isSubtype_exc j ?_;rw[i]) |wp_step)
 exact wpAny_raiseNew_none n l
end
def XO(C e:af)(od:df):HO:=.ext λh=>∃t:Addr,h.get? e=some ⟨.ref C,od,.fields #[.ref t,.none,.none,.none,.bool false,.none],#[]⟩
def XD(d:af)(ns:ah):HO:=.ext λh=>∃m,h.Ns1 d m/\PySem.Within m ns
theorem xc{P:Program}{w:World}{H:Hp}{h:aU}{C e t:af}{od:df}(x:h.get? e=some ⟨.ref C,od,.fields #[.ref t,.none,.none,.none,.bool false,.none],#[]⟩):a6 P w H h e (XO C e od):=⟨⟨t,x⟩,⟨_,x⟩,λ_ _ ⟨t,z⟩ k=>⟨t,k _ z⟩⟩
theorem Cb{P:Program}{w:World}{H:Hp}{h:aU}{d:af}{ns:ah}{m:bx}(x:h.Ns1 d m)(y:PySem.Within m ns):a6 P w H h d (XD d ns):=⟨⟨m,x,y⟩,let ⟨o,_,_,e,_⟩:=x;⟨o,e⟩,λ_ _ ⟨m,z,y⟩ k=>⟨m,z.at k,y⟩⟩
theorem VP{H:Hp}{a:af}{o:HO}(h:H a=some o):aR H a o=H:=by
 funext b;unfold aR;split
 .subst_vars;exact h.symm
 .rfl
structure pw(K:ao)(C F fI:af):Prop where
 ex:oK K C fI=true
 ov:mG K C F=true
 sa:W.findIn K (.ref C) "__setattr__"=some (some (.builtin "object.__setattr__"))
 kp:W.keepIn K (.ref C)=true
 fn:W.isFn K (.ref fI)=true
 rd:W.readsIn K F (.type "type")=true
 sp:W.specialIn K (.ref F) "__getattribute__"=some (some (.builtin "type.__getattribute__"))
 fc:W.findCls K (.ref F) (.type "type") "__init__"=some (.val (.builtin "ValueError.__init__"))
section
variable{X:Cx}
theorem J3{M:Model}{A:Around}{E:aj->ak->Prop}{s:ak}{env:Env}{pos:Pos}{id:String}{e:Expr}{rest:bH}{Q:aj->ak->Prop}(h:wpAny M A (spliced (backTo pos (starEach (e::rest) env))) (λvs b=>wpAny M A (call (.builtin id) vs) Q E b) E s)(he:du e rest env)(a:fa pos rest env):wpAny M A (callWith pos (.builtin id) [] (backTo pos (starEach (e::rest) env)) []) Q E s:=by
 rw[he] at h ⊢;exact PySem.Calls.callWith_builtin (by show (false || (backTo pos (starEach rest env)).any (·.1))=false;rw[a];rfl) (PySem.Calls.evalArgs_plain h)
def BK(C:af)(t:TA):TE:=λj H Q=>t j H λvs a=>∃e od u,vs=[.ref e,u]/\a e=some (XO C e od)/\Q .aM a
theorem RV{C F U:af}{x:Str}{D m pos:Pos}{l i:Expr}{t:TA}{pl:Sem Bool}(c:pw X.K C F U)(hg:Gl X x)(hm:X.mg x=some (.ref F))(ha:PA X [l,i] t)(y: ~~~(dq x))(B:do du l [i] X.env)(hpl:do fa pos [i] X.env)(ht:eval (.Call (.Attribute (.Name x D) "__init__" m) [l,i] [] pos) X.env=(do
   let ov <- eval (.Name x D) X.env
   standAt m.atName
   let (f,first) <- holding [ov] (getMethod ov "__init__" pl)
   callWith pos f first (backTo pos (starEach [l,i] X.env)) (backToKw pos (keywordEach [] X.env))):=by rfl):
  PE X (.Call (.Attribute (.Name x D) "__init__" m) [l,i] [] pos) (BK C t):=by
 intro aa s j H Q I h;refine W.methodCall_KW (pl:=pl) (k4 I hg hm ?_ y) ht;refine W.method_cls I.cL c.sp (W.cls_value I.cL c.rd c.fc rfl ?_);have L:=I.tok (s.toks+1);refine J3 (bj (ha pos aa _ j H _ L h) λus s1 E=>?_) B hpl;let⟨vs,J,w,r,e,od,u,O,A,q⟩:=E;subst O;obtain⟨v,n,rfl,rx,r1⟩:∃v n,us=v::n/\aD (.ref e) v/\aE [u] n:=by cases r with |cons a b=>exact⟨_,_,rfl,a,b⟩
 let⟨u2,rfl,ru⟩:=jg r1;obtain rfl:v=Value.ref e:=rx;∎;let⟨bm,N,nm,qn,bs,hd,sn,sub,ab,M,dd,k0,k1,k2,k3,k5,mN,Y,_,_,T⟩:=FT w.cL c.ex;let⟨⟨t0,ho⟩,_,_⟩:=w.aN e _ A;let⟨hp,g,d,tk,os⟩:=s1;∎;refine Ur T Y ho λh' t' _ p hk=>?_
 have G:=w.write (x:=e) (e:=e) (o:=XO C e od) (h':=h') (t':=tk) (by rw[A];exact True.intro) (.inl rfl) (λb u hb z=>hk b u hb z) ⟨_,p⟩ (xc p);rw[VP A] at G;exact⟨.aM,J,G,rfl,q⟩
def yr(C:af)(g h:TE)(f:Str):TS:=λD j H=>h j H λ_ b=>g j b λx a=>∃e,x=.ref e/\
 ((a e=some (XO C e none)/\∀d,a d=none->d≠e->D.nx j (aR (aR a d (XD d [f])) e (XO C e (some d))))\/
  ∃d ns,a e=some (XO C e (some d))/\a d=some (XD d ns)/\ns.length<=900/\D.nx j (aR a d (XD d (f::ns))))
theorem Bo{C F fI:af}{o value:Expr}{f:Str}{pos i:Pos}{ta tv:TE}(c:pw X.K C F fI)(nf:W.findIn X.K (.ref C) f=some none)(ha:PE X o ta)(hv:PE X value tv)(hs:swapsWith value (some (.Attribute o f i)) pos.line X.env=pure false):PS X (.Assign [.Attribute o f i] value pos) (yr C ta tv f):=by
 intro aa s j H D I h;refine plainObj_wpAny_Assign_Attribute (bj (hv aa s j H _ I h) λu s1 Q=>?_) hs;let⟨y,H1,I1,ry,q⟩:=Q;refine bj (ha aa s1 j H1 _ I1 q) λov s2 U=>?_
 let⟨x,l,a,rx,e,ex,J⟩:=U;subst ex;obtain rfl:ov=Value.ref e:=rx;rcases J with⟨r,J⟩ |⟨d,ns,r,hd,hz,J⟩
 .obtain⟨⟨t0,ho⟩,_,_⟩:=a.aN e _ r;refine MS a.cL ho c.ov nf c.sa λh' d cP G M L=>?_
  have N:d≠e:=λz=>by rw[z,ho] at cP;cases cP
  have A:l d=none:=by
   cases z:l d with
   |none=>rfl
   |some v=>let⟨o',Y⟩:=(a.aN d v z).has;rw[cP] at Y;cases Y
  have nd:∀b v,l b=some v->b≠d:=λb v z w=>by rw[w,A] at z;cases z
  have up:∀b v,l b=some v->b≠e->aR (aR l d (XD d [f])) e (XO C e (some d)) b=some v:=λb v z n=>by rw[ba n,ba (nd b v z)];exact z
  have ne:∀b v,l b=some v->v≠XO C e none->b≠e:=λb v z n w=>by rw[w,r] at z;cases z;exact n rfl
  have O:∀b,l b=none->b≠e:=λb z w=>by rw[w,r] at z;cases z
  refine⟨j,_,a.un (t':=s2.toks+2) ⟨λb o z n _ _=>L b o (O b n) z,λb o z n _ _=>⟨o.slots,L b o (O b n) z⟩,λb o z n _=>?_,λb o z _=>?_,λb xs z=>up b _ z (ne b _ z λw=>by cases w),λb o u z=>up b _ z (ne b _ z λw=>by cases w),
   λb ps z=>⟨#[],by rw[Array.append_empty];exact up b _ z (ne b _ z λw=>by cases w)⟩⟩ λb v z=>?_,J d A N⟩
  .rw[ba (O b n),ba (λw=>by rw[w,cP] at z;cases z)];exact n
  .by_cases g:b=e
   .exact⟨_,by rw[g];exact G⟩
   .exact⟨o,L b o g z⟩
  .by_cases g:b=e
   .subst g;rw[cq] at z;cases z;exact xc G
   .rw[ba g] at z;by_cases B:b=d
    .subst B;rw[cq] at z;cases z;exact Cb M (PySem.Within.cons f u PySem.Within.nil)
    .rw[ba B] at z;refine (a.aN b v z).eL (λc o p q=>L c o (λw=>?_) q) (λc q=>up c _ q (ne c _ q λw=>by cases w)) λc xs q=>up c _ q (ne c _ q λw=>by cases w)
     rcases p with p |p
     .exact g (p.symm.trans w)
     .rw[w,r] at p;cases p
 .obtain⟨⟨t0,ho⟩,_,_⟩:=a.aN e _ r;let⟨⟨m,hm,hw⟩,_,_⟩:=a.aN d _ hd;refine Hi a.cL ho hm c.ov nf c.sa hw ⋯ λh' E sb=>?_
  have I3:=a.write (x:=d) (e:=d) (o:=XD d (f::ns)) (h':=h') (t':=s2.toks+2) (by rw[hd];exact True.intro) (.inl rfl) (λb u g z=>(sb.2 b g).trans z) (let ⟨o,_,_,e,_⟩:=E;⟨o,e⟩) (Cb E (PySem.Within.cons f u hw));exact⟨j,_,I3,J⟩
def jm(e:af)(H d:Hp):Prop:=(∀a o,a≠e->H a=some o->d a=some o)/\(∀b y,d b=some (.own y)->H b=some (.own y))/\∀b f,d b=some (.aF f)->H b=some (.aF f)
theorem jm.refl{e:af}{H:Hp}:jm e H H:=⟨λ_ _ _ h=>h,λ_ _ h=>h,λ_ _ h=>h⟩
theorem jm.put{e a:af}{H d:Hp}{o:HO}(g:jm e H d)(h:a=e\/H a=none)(i:∀y,o≠.own y)(j:∀xs,o≠.aF xs):jm e H (aR d a o):=by
 refine⟨λx v f z=>?_,λb y z=>?_,λb y z=>?_⟩
 .rw[ba λw=>?_]
  .exact g.1 x v f z
  .rcases h with h |h
   .exact f (w.trans h)
   .rw[w,h] at z;cases z
 .by_cases hb:b=a
  .rw[hb,cq] at z;cases z;exact absurd rfl (i y)
  .rw[ba hb] at z;exact g.2.1 b y z
 .by_cases hb:b=a
  .rw[hb,cq] at z;cases z;exact absurd rfl (j y)
  .rw[ba hb] at z;exact g.2.2 b y z
theorem jm.no{e a:af}{H b:Hp}(g:jm e H b)(h:b a=none):a=e\/H a=none:=by
 by_cases d:a=e
 .exact .inl d
 .refine .inr ?_;cases z:H a with
  |none=>rfl
  |some v=>rw[g.1 a v d z] at h;cases h
def jG(K:ao)(H:Hp)(a:af)(xs:aw):Prop:=bC K H a xs\/cU K H a xs
theorem jG.on{K:ao}{C e a:af}{od:df}{xs:aw}{H b:Hp}(q:jG K H a xs)(he:H e=some (XO C e od))(g:jm e H b):jG K b a xs:=by
 have k:∀u,u≠XO C e od->H a=some u->b a=some u:=λu n z=>g.1 a u (λw=>by rw[w,he] at z;cases z;exact n rfl) z
 rcases q with (r |r) |(r |r)
 .rcases r with r |⟨o,r⟩
  .exact .inl (.inl (.inl (k _ (λw=>by cases w) r)))
  .exact .inl (.inl (.inr ⟨o,k _ (λw=>by cases w) r⟩))
 .exact .inl (.inr r)
 .rcases r with r |⟨o,r⟩
  .exact .inr (.inl (.inl (k _ (λw=>by cases w) r)))
  .exact .inr (.inl (.inr ⟨o,k _ (λw=>by cases w) r⟩))
 .exact .inr (.inr r)
def xF(K:ao)(C:af):Sp:=λvs H Q _=>∃e a b f g,vs=[.ref e,.ref a,.ref b]/\H e=some (XO C e none)/\jG K H a f/\jG K H b g/\∀d od,jm e H d->d e=some (XO C e od)->Q .aM d
theorem Vu{K:ao}{C e a b:af}{xs ys:aw}{D:iq}{N:ah}{H:Hp}{z:V}{Q:VK}(he:H e=some (XO C e none))(n:jG K H a xs)(r:jG K H b ys)(q:∀i od,jm e H i->i e=some (XO C e od)->D.nx (start N [.ref e,.ref a,.ref b]) i):
  uz (oy (BK C (hY (f6 0) (hY (tC z) iI)))) (uz (yr C (f6 0) (kX (λxs H Q=>∃p ys,xs=[.ref p]/\(bC K H p ys\/cU K H p ys)/\∀l,H l=none->Q (.ref l) (aR H l (.ag ys))) (hY (f6 1) iI)) "numbers")
   (yr C (f6 0) (kX (λxs H Q=>∃p ys,xs=[.ref p]/\(bC K H p ys\/cU K H p ys)/\∀l,H l=none->Q (.ref l) (aR H l (.ag ys))) (hY (f6 2) iI)) "weights")) D (start N [.ref e,.ref a,.ref b]) H:=by
 refine⟨.ref e,rfl,e,none,z,rfl,he,⟨.ref a,rfl,a,xs,rfl,n,λl h=>⟨.ref e,rfl,e,rfl,.inl ⟨?_,λd hd f=>?_⟩⟩⟩⟩
 .rw[ba λw=>by rw[<- w,he] at h;cases h];exact he
 have s:l≠e:=λw=>by rw[w,he] at h;cases h
 have m:=(jm.refl (e:=e) (H:=H)).put (a:=l) (o:=.ag xs) (.inr h) (λ_ w=>by cases w) (λ_ w=>by cases w);have g:=m.no hd;have j:=(m.put (a:=d) (o:=XD d ["numbers"]) g (λ_ w=>by cases w) (λ_ w=>by cases w)).put (a:=e) (o:=XO C e (some d)) (.inl rfl) (λ_ w=>by cases w) (λ_ w=>by cases w);refine⟨.ref b,rfl,b,ys,rfl,r.on he j,λu jT=>⟨.ref e,rfl,e,rfl,.inr ⟨d,["numbers"],?_,?_,∎,q _ (some d) ((j.put (j.no jT) (λ_ w=>by cases w) (λ_ w=>by cases w)).put g (λ_ w=>by cases w) (λ_ w=>by cases w)) ?_⟩⟩⟩
 .rw[ba (λw=>by rw[<- w,cq] at jT;cases jT),cq]
 .rw[ba (λw=>by rw[<- w,ba f,cq] at jT;cases jT),ba f,cq]
 .rw[ba f.symm,ba (λw=>by rw[<- w,cq] at jT;cases jT),cq]
def C8(K:ao)(C:af)(E:XK)(e:TA):TS:=λ_ j H=>e j H λvs d=>∃a b f g,vs=[.ref a,.ref b]/\jG K d a f/\jG K d b g/\E (.ref C) none d
theorem VF{E:XK}{x:Str}{np p pos:Pos}{l i:Expr}{t:TA}{C F fI:af}{fd:FuncData}{ps:ah}{k:Nat}(hs:X.stack=X.env::X.outer)(hf:X.env.frame=some X.env.locals)(Y:X.ex=[])(ν:n7 X E)(O:X.calm=true)(hg:Gl X x)(hm:X.mg x=some (.ref C))(c:pw X.K C F fI)(G:aJ X.prog X.w X.K X.mg X.base bM k fI fd ps (xF X.K C))(hr:bu (k+1) X.A)(M:Binds X.K fd ps [])(ha:PA X [l,i] t)(ε: ~~~(dq x))(μ:do du l [i] X.env)(hpl:do fa p [i] X.env):
  PS X (.Raise (some (.Call (.Name x np) [l,i] [] p)) none pos) (C8 X.K C E t):=by
 intro aa s j H D I h;let⟨bm,N,nm,qn,bs,hd,sn,sub,ab,col,dd,k0,k1,k2,k3,k5,mN,hC,hN,ι,T⟩:=FT I.ok.mod.kQ c.ex;rw[arm_exec_Raise];refine wpAny_bind (wpAny_standAt (Q1 (C:=C) (nm:=nm) (q:=qn) (N:=N) (bs:=bs) (bm:=bm) (hdct:=hd) (sn:=sn) (sub:=sub) (ab:=ab) (col:=col) (dd:=dd) (k0:=k0) (k1:=k1) (k2:=k2) (k3:=k3) (k5:=k5) (newId:="ValueError.__new__") (T.hasType PySem.F.excBase_ValueError.hasBase) (I.ok.hd O) (wpAny_bind (wpAny_mono (wpAny_Call_Name_kw (k4 I hg hm ?_ ε)) (λv ο γ=>wpAny_bind (wpAny_standAt (wpAny_pure γ))) λ_ _ x=>x))));refine W.callWith_K (h₀:=X.base) I.ok.mod.kQ c.kp (bj (ha p aa s j H _ I h) λus s1 ξ=>?_) μ hpl;let⟨vs,m,y,r,a,b,L,ys,ev,sa,sb,q1⟩:=ξ;refine⟨y.cL,?_⟩;subst ev;have β:us.length=2:=r.length.symm;let⟨hp,g,dr,tk,os⟩:=s1;have Q:∃oI,hp.get? fI=some oI/\oI.cls=.type "function":=by
  let⟨o,ho,z⟩:=Option.map_eq_some_iff.mp (beq_iff_eq.mp c.fn);exact⟨o,y.cL _ _ ho,z⟩
 let⟨oI,Q,η⟩:=Q;refine LD (T.keeps y.bk) (y.bk _ _ hC) (hN.keeps y.bk) ι Q η (by show us.length<=1000;omega) λh' e d α=>?_
 let⟨t,ht,π,ρ⟩:=d.there;have B:m e=none:=y.aN.fresh α;have J:au X aa j (aR m e (XO C e none)) ⟨h',g,dr,tk,os⟩:=y.laid (t':=tk) d.keeps α (xc ht);have on:∀{a L},jG X.K m a L->jG X.K (aR m e (XO C e none)) a L:=λ{a L} q=>by
  have k:∀u,m a=some u->aR m e (XO C e none) a=some u:=λu z=>by rw[ba λw=>by rw[w,B] at z;cases z];exact z
  rcases q with (r |r) |(r |r)
  .rcases r with r |⟨o,r⟩
   .exact .inl (.inl (.inl (k _ r)))
   .exact .inl (.inl (.inr ⟨o,k _ r⟩))
  .exact .inl (.inr r)
  .rcases r with r |⟨o,r⟩
   .exact .inr (.inl (.inl (k _ r)))
   .exact .inr (.inl (.inr ⟨o,k _ r⟩))
  .exact .inr (.inr r)
 have Fc:(Value.ref e::us++[]).length=ps.length:=by
  have z:=G.len [.ref e,.ref a,.ref b] (aR m e (XO C e none)) (λ_ _=>True) (λ_ _ _=>False) ⟨e,a,b,L,ys,rfl,cq,on sa,on sb,λ_ _ _ _=>trivial⟩;rw[<- z];simp[β]
 refine wpAny_call (codeAny_mono (G.run _ X.stack _ (aR m e (XO C e none)) ⟨.ref e::us,[]⟩ (.ref e::us++[]) [.ref e,.ref a,.ref b] (λv H'=>v=.aM/\jm e (aR m e (XO C e none)) H'/\∃od,H' e=some (XO C e od)) (λ_ _ _=>False) (hr.make _ _ _) (J.ku.make C us []) (M _ (.ref e::us) J.cL Fc) (by rw[append_nil];exact .cons rfl r) ⟨e,a,b,L,ys,rfl,cq,on sa,on sb,λH' od g he=>⟨rfl,g,od,he⟩⟩) λr s' hq=>?_);cases r with
 |error x=>exact False.elim hq
 |ok fl=>
 cases fl with
 |next=>exact False.elim hq
 |brk=>exact False.elim hq
 |cont=>exact False.elim hq
 |ret u=>
 let⟨v,H',κ,bare,un,aN,rv,rfl,gd,od,ζ⟩:=hq;obtain rfl:u=Value.none:=rv;let⟨⟨t1,U⟩,_,_⟩:=aN e _ ζ;have ne:∀b o,hp.get? b=some o->b≠e:=λb o z w=>by rw[w,d.new] at z;cases z
 have nt:∀b v,m b=some v->b≠e:=λb v z w=>by rw[w,B] at z;cases z
 have I4:au X aa j m s':=y.eA (ch:=[]) (κ.trans rfl) ⟨λb o z n f x=>un.keep b o (d.keeps b o z) (by rw [ba (ne b o z)];exact n) f x,λb o z n f x=>un.slot b o (d.keeps b o z) (by rw [ba (ne b o z)];exact n) f x,λb o z n _=>n,
  λb o z x=>un.there b o (d.keeps b o z) x,λ_ _ z=>z,λ_ _ _ z=>z,λ_ ps z=>⟨#[],by rw[Array.append_empty];exact z⟩⟩ (λb v z=>?_) bare (λb z=>absurd z (by simp))
 .refine⟨rfl,e,od,t1,rfl,I4.bk _ _ hC,U,?_⟩;have up:∀b,hp.get? b=none->X.s₀.heap.get? b=none:=λb z=>by
   cases q:X.s₀.heap.get? b with
   |none=>rfl
   |some o=>let⟨o',e'⟩:=y.base.there b o q (by rw[Y];simp);rw[z] at e';cases e'
  rw[ν];have θ:∀env∈X.env::X.outer,∀a,env.frame=some a->a∈e::cz X.stack:=λenv he a hf=>.tail _ (by rw[hs];exact sA env he a hf)
  refine AA (base:=W.hideAll s'.heap (e::cz X.stack)) (a0:=.ref t1) (by rw[I4.ok.frames,hs]) (W.funFrames_hide (hs ▸ I4.stack) θ) hf U (λb o q=>W.of_hideAll _ q)
   (W.hideAll_none _ (.head _)) rfl rfl rfl rfl λh2 hL δ=>?_
  let⟨l1,_,l3,l4⟩:=hL;exact yo hs hf Y I4 (bad:=[e]) (λb M=>by
   rcases mem_cons.mp M with z |M
   .exact .inl (by rw[z];exact .head _)
   .exact .inr M) (λb M=>by
   have z:b=e:=by simpa using M
   rw[z];exact⟨up _ d.new,B⟩) l1 l4 l3 δ (up _ d.new) B q1
 .have z':=gd.1 b v (nt b v z) (by rw[ba (nt b v z)];exact z);have ow:∀c u,aR m e (XO C e none) c=some u->u≠XO C e none->m c=some u:=λc u w n=>by
   by_cases hc:c=e
   .rw[hc,cq] at w;cases w;exact absurd rfl n
   .rw[ba hc] at w;exact w
  exact (aN b v z').eL (λ_ _ _ q=>q) (λc q=>ow c _ (gd.2.1 c b q) λw=>by cases w) λc L q=>ow c _ (gd.2.2 c L q) λw=>by cases w
end
end L2
namespace Pu
open PySem L2 Vc Sf
section
variable{X:Cx}
def vJ(a:ai)(Q:Prop):Prop:=match a with |[.ag _ _,.ag _ _]=>Q |_=>False
def v3(q:aj->Prop)(C:af)(a:b6):cc:=λ_ j=>a (j.map aG) λb=>vJ b (q (.ref C))
theorem Ov{z:Bool}{q:aj->Prop}{E:XK}{K:PySem.W.Frag}{f:TA}{e:b6}{lo:Nat}{C:af}(h:eM K ⟨z,λ_=>E,q⟩ f e):cO K ⟨z,λ_=>E,q⟩ lo (C8 K C E f) (v3 q C e):=λus y n F H j i A D w W p L=>
 h F (Bq n H) H j _ _ _ W.er p λB vs l m c p2 o=>by
  have d:=W.er.gr o.g;unfold vJ at p2;split at p2
  .obtain⟨v1,r1,c1,d1,rfl,rfl,h1,v2,r2,c2,d2,rfl,rfl,h2,rfl,rfl⟩:=o.r;∎;let⟨a,u,_,rfl,sa,_⟩:=h1.cj d.s d.b (aq.left o.c);let⟨b,v,_,rfl,sb,_⟩:=h2.cj d.s d.b (aq.left (aq.right o.c));∎;exact⟨a,b,u,v,rfl,.inl sa,.inl sb,W.x (.ref C) j l m p2 (W.g.trans' o.g)⟩
  .exact p2.elim
theorem Tc{z:Bool}{q:aj->Prop}{E:XK}{x:Str}{D d pos:Pos}{b a:Expr}{n:b6}{lo:Nat}{C F l:af}{m:FuncData}{o:ah}{k:Nat}(hs:X.stack=X.env::X.outer)(v:X.env.frame=some X.env.locals)(g:X.ex=[])(j:n7 X E)(e:X.calm=true)(y:Gl X x)(hm:X.mg x=some (.ref C))(c:pw X.K C F l)(G:aJ X.prog X.w X.K X.mg X.base bM k l m o (xF X.K C))(B:bu (k+1) X.A)(u:Binds X.K m o [])(s:QA X ⟨z,λ_=>E,q⟩ [b,a] n)(f: ~~~(dq x))(i:do du b [a] X.env)(hpl:do fa d [a] X.env):
  QS X ⟨z,λ_=>E,q⟩ lo (.Raise (some (.Call (.Name x D) [b,a] [] d)) none pos) (v3 q C n):=by
 let⟨H,p,r⟩:=s.h;exact⟨_,VF hs v g j e y hm c G B u p f i hpl,Ov r⟩
end
end Pu
namespace L2
open PySem PySem.Spec PyProof.Rows
section
variable{X:Cx}{tg a b c:Expr}{ta:TA}{p pos:Pos}
def CU(ta:TA):TI:=λj H R=>ta j H λvs d=>∃i:Int,vs=[.int i,.int (-1),.int (-1)]/\-1<=i/\i<1000000/\R (uC i (-1) (i+1).toNat) d
theorem Ir(z:Gl X "range")(hm:X.mg "range"=none)(x:PA X [a,b,c] ta)(hs:do starEach [a,b,c] X.env=[(false,eval a X.env),(false,eval b X.env),(false,eval c X.env)])(d:do oO b c X.env):
  PI X tg (.Call (.Name "range" p) [a,b,c] [] pos) (CU ta):=by
 intro aa s j H R I h;refine Call_ (jh I z hm boot_range (PyProof.Rows.callWith_type1 (bj (x pos aa s j H _ I h) λus g u=>?_) (by rw[hs,d]) (by rw[d];rfl)));∎;let⟨vs,v,w,C,A⟩:=u;let⟨i,e,D,E,q⟩:=A;∎;subst e;cases C with
 |cons r f=>
 cases f with
 |cons B f=>
 cases f with
 |cons m f=>
 cases f;∎;let⟨t,rfl⟩:=r;let⟨t',rfl⟩:=B;let⟨n,rfl⟩:=m;∎;have sz:Builtin.Range.rangeSize i (-1) (-1)=i+1:=by
  unfold Builtin.Range.rangeSize;rw[if_neg ∎,show (- -1:Int)=1 from rfl,Int.ediv_one];split<;>omega
 have sm:Builtin.Range.small i (-1) (-1)=true:=by
  unfold Builtin.Range.small;simp only[Builtin.Range.rangeFitsLong,and_eq_true,Bool.or_eq_true,decide_eq_true_eq,beq_iff_eq];exact⟨⟨⟨⟨⋯,∎⟩,∎⟩,⋯⟩,.inr ∎⟩
 refine call_range_3 ∎ ?_ (.inl (PyProof.noPylong_small ∎));refine wpAny_pyIter_range (IsRange.new ..) sm ?_;have l:au X aa j v { g with heap:=g.heap.push { cls:=.type "range",data:=.fields #[.int i t,.int (-1) t',.int (-1) n] },toks:=g.toks }:=w.kept λb o e=>Heap.get?_push_of_some _ e
 refine⟨_,[_],_,_,v,rfl,l.kept (t':=g.toks) λb o e=>Heap.get?_push_of_some _ e,NS _ i (-1) (i+1).toNat,?_,λb y=>?_,q⟩
 .show IsRangeIter _ _ (i+((0:Nat):Int)*(-1)) ((((i+1).toNat:Nat):Int) - ((0:Nat):Int)) (-1);rw[show i+((0:Nat):Int)*(-1)=i from by simp,show (((i+1).toNat:Nat):Int) - ((0:Nat):Int)=Builtin.Range.rangeSize i (-1) (-1) from by rw[sz];omega];exact Heap.get?_push_size _ rfl
 .have e:=mem_singleton.mp y;rw[e];exact l.fj (le_refl _) (l.aN.fresh (le_refl _))
def FI:aw->Hp->VK->Prop:=λd H Q=>∃(a:Int)(n:Nat),d=[.int a,.int (a+n)]/\0<=a/\a<=1000/\n<=1000/\∀p,H p=none->Q (.ref p) (aR H p (.jc a (a+n)))
theorem N7:bL X (.type "range") FI:=by
 intro aa s j H m us Q I r h;let⟨a,n,rfl,_,_,hn,q⟩:=h;cases r with
 |cons d f=>
 ∎;let⟨i,rfl,g⟩:=jg f;let⟨t,rfl⟩:=(show ∃t,_=Value.int a t from d);let⟨l,rfl⟩:=(show ∃t,i=Value.int (a+n) t from g);∎;exact call_range_2 ⟨.ref ⇑s,_,I.laid (a:=⇑s) (o:=.jc a (a+n)) (t':=s.toks+1) (λb o e=>Heap.get?_push_of_some _ e) (le_refl _) ⟨_,_,_,Heap.get?_push_size _ rfl⟩,rfl,q _ (I.aN.fresh (le_refl _))⟩
def zW:aw->Hp->VK->Prop:=λd H Q=>∃(p:af)(a:Int)(n:Nat),d=[.ref p]/\H p=some (.jc a (a+n))/\0<=a/\a<=1000/\n<=1000/\∀p,H p=none->Q (.ref p) (aR H p (.ag ((List.range n).map λi:Nat=>V.int (a+i))))
theorem EX(a:Int):∀(n:Nat)(m:Nat){bo:aL},bo.length=n->(∀(i:Nat)(v:aj),bo[i]?=some v->∃t,v=Value.int (a+(m+i:Nat)) t)->aE ((List.range' m n).map λi:Nat=>V.int (a+i)) bo
 |0,m,[],_,_=>.nil
 |n + 1,m,x::bo,hl,h=>by
  let⟨t,e⟩:=h 0 x rfl;rw[List.range'_succ,map_cons];refine .cons ⟨t,e⟩ (EX a n (m+1) (by simpa using hl) λi v d=>?_);let⟨t,e⟩:=h (i+1) v d;exact⟨t,by rw[e];congr 2;omega⟩
theorem Od(w:X.calm=true):bL X (.type "list") zW:=by
 intro aa s j H E us Q I r h;∎;let⟨p,a,n,rfl,m,C,D,hn,q⟩:=h;let⟨u,rfl,z⟩:=jg r;∎;cases z;let⟨t,u,v,e⟩:=I.aN p _ m;refine call_list_range (a:=a) (b:=a+n) (c:=1) (n:=n) (I.ok.hd w) e (small_one ⋯ ⋯ ⋯ ⋯) (by rw[rangeSize_one];split<;>omega) ⋯ λB A d g x l f=>?_
 refine⟨.ref ⇑s,_,I.laid (a:=⇑s) (o:=.ag ((List.range n).map λi:Nat=>V.int (a+i))) (t':=A) x (le_refl _) ⟨by rw[length_map,length_range,sizeLine_eq];omega,d.toList,g,?_,by rw[Array.toArray_toList];exact l⟩,rfl,q _ (I.aN.fresh (le_refl _))⟩;have:=EX a n 0 (bo:=d.toList) (by rw[length_toList];exact f.1) λi v y=>by
  let⟨t,e⟩:=f.2 i v (by rw[<- getElem?_toList];exact y);exact⟨t,by rw[e];congr 1⟩
 rw[List.range_eq_range'];exact this
end
end L2
namespace Pu
open PySem L2 Vc Sf
section
def qq(a:ai)(Q:Int->Prop):Prop:=match a with |[.int i,.int j,.int k]=>j=-1/\k=-1/\-1<=i/\i<1000000/\Q i |_=>False
def vc(a:b6):iJ:=λj Q=>a j λb=>qq b λi=>Q ((List.range (i+1).toNat).map λ(n:Nat)=>.int (i+n*(-1))) true
theorem Ug(h:eM K k ta pa):kf K k (CU ta) (vc pa):=λF B H j i n m c p q=>by
 refine h F B H j i _ _ c p λu vs a b s p1 o=>?_
 unfold qq at p1;split at p1
 .obtain⟨v,r,c2,d,rfl,rfl,⟨rfl,_⟩,v',r',c',d',rfl,rfl,⟨rfl,_⟩,v2,r2,c3,d3,rfl,rfl,⟨rfl,_⟩,rfl,rfl⟩:=o.r;let⟨rfl,rfl,e,f,p1⟩:=p1;exact⟨_,rfl,e,f,q _ _ _ a b p1 o.g Fu λ_ l _=>Fu⟩
 .exact p1.elim
theorem Ku(e:Gl X "range")(hm:X.mg "range"=none)(h:QA X k [l,m,n] ps)(hs:do starEach [l,m,n] X.env=[(false,eval l X.env),(false,eval m X.env),(false,eval n X.env)])(a:do oO m n X.env):QI X k tg (.Call (.Name "range" p) [l,m,n] [] pos) (vc ps):=by
 let⟨f,b,d⟩:=h.h;exact⟨_,Ir e hm b hs a,Ug d⟩
def tq(a:ai)(Q:az):Prop:=match a with |[.ag _ xs]=>e8 xs=true/\Q (.ag .o xs.reverse) |_=>False
theorem AF:∀{xs:ai}{vs:aw}{x:Tr}{v:V},Rs K F B xs vs []->R K F B x v []->Rs K F B (xs++[x]) (vs++[v]) []
 |[],_,x,v,y,r=>by let⟨h,_⟩:=y;rw[h];exact⟨v,[],[],[],rfl,rfl,r,rfl,rfl⟩
 |y::xs,_,x,v,y0,r'=>by
  ∎;let⟨w,r,c,d,a,b,e,f⟩:=y0;let⟨rfl,rfl⟩:=append_eq_nil_iff.mp b.symm;∎;rw[a];exact⟨w,_,[],[],rfl,rfl,e,AF f r'⟩
theorem F3:∀{xs:ai}{vs:aw},Rs K F B xs vs []->Rs K F B xs.reverse vs.reverse []
 |[],_,y=>by let⟨h,_⟩:=y;rw[h];exact⟨rfl,rfl⟩
 |y::xs,_,y0=>by
  ∎;let⟨w,r,c,d,a,b,e,f⟩:=y0;let⟨rfl,rfl⟩:=append_eq_nil_iff.mp b.symm;∎;rw[a,List.reverse_cons,List.reverse_cons];exact AF (F3 f) e
theorem KZ(h:eM K k ta pa):bD K k (EC K ta) (λi Q=>pa i λl=>tq l Q):=λF B H j i Q C c p q=>by
 refine h F B H j i _ _ c p λl vs n A D p1 o=>?_
 unfold tq at p1;split at p1
 .obtain⟨v,rfl,r1⟩:=o.r.one;have d:=c.gr o.g;let⟨a,us,E,rfl,u,e,_⟩:=r1.cj d.s d.b o.c;obtain rfl:=Rs.nH _ p1.1 e;refine⟨a,us,rfl,u,λp f=>?_⟩;let⟨w,x,z⟩:=kU (K:=K) (B:=B) o.g.s (F3 e) .nil f;refine q _ _ n _ _ p1.2 ⟨o.g.trans' w,x,z,λy m=>?_⟩;cases m with
  |head=>exact o.g.h.free f
  |tail _ m=>cases m
 .exact p1.elim
theorem OE{p p2 a:Pos}(m:X.calm=true)(n:Gl X "list")(hm:X.mg "list"=none)(b:Gl X "reversed")(d:X.mg "reversed"=none)(h:QA X k [l] ps)(g:do ki l X.env)(i:do starEach [Expr.Call (.Name "reversed" p2) [l] [] a] X.env=[(false,eval (Expr.Call (.Name "reversed" p2) [l] [] a) X.env)]):
  QE X k (.Call (.Name "list" p) [.Call (.Name "reversed" p2) [l] [] a] [] pos) (λj Q=>ps j λo=>tq o Q):=by
 let⟨q,e,f⟩:=h.h;exact⟨_,RJ m n hm b d e g i,KZ f⟩
def BQ(t u:Tr)(Q:az):Prop:=∃(a:Int)(n:Nat),t=.int a/\u=.int (a+n)/\0<=a/\a<=1000/\n<=1000/\Q (.ag .o ((List.range n).map λi:Nat=>Tr.int (a+i)))
theorem Ge(a:Int):∀(ns:List Nat),Rs K F B (ns.map λi:Nat=>Tr.int (a+i)) (ns.map λi:Nat=>V.int (a+i)) []
 |[]=>⟨rfl,rfl⟩
 |n::ns=>⟨.int (a + n),_,[],[],rfl,rfl,⟨rfl,rfl⟩,Ge a ns⟩
theorem Jp(h:eM K k ta pa):bD K k (kX zW (hY (kX FI ta) iI)) (λi Q=>pa i λz=>lQ z λt u=>BQ t u Q):=λF B H j i Q G c p q=>by
 refine h F B H j i _ _ c p λz vs e l I p1 d=>?_
 unfold lQ at p1;split at p1
 .obtain⟨v,w,d1,d2,rfl,r1,r2,_⟩:=d.r.two;∎;let⟨a,n,rfl,rfl,o,x,hn,p1⟩:=p1;let⟨rfl,_⟩:=r1;let⟨rfl,_⟩:=r2;∎;refine⟨a,n,rfl,o,x,hn,λp A=>⟨p,a,n,rfl,cq,o,x,hn,λp2 b=>?_⟩⟩;have f:Gr e l e (aR l p (.jc a (a+n))):=Gr.iz d.g.s A;let⟨C,D,E⟩:=kU (K:=K) (B:=B) f.s (Ge a (List.range n)) .nil b;refine q _ _ e _ _ p1 ⟨(d.g.trans' f).trans' C,D,E,λy m=>?_⟩;cases m with
  |head=>exact d.g.h.free (f.h.free b)
  |tail _ m=>cases m
 .exact p1.elim
theorem T5{p p2 a:Pos}(o:X.calm=true)(q:Gl X "list")(hm:X.mg "list"=none)(b:Gl X "range")(d:X.mg "range"=none)(h:QA X k [l,m] ps)(i:do du l [m] X.env)(n:do fa a [m] X.env)(e:do starEach [Expr.Call (.Name "range" p2) [l,m] [] a] X.env=(false,eval (Expr.Call (.Name "range" p2) [l,m] [] a) X.env)::starEach [] X.env):
  QE X k (.Call (.Name "list" p) [.Call (.Name "range" p2) [l,m] [] a] [] pos) (λj Q=>ps j λr=>lQ r λt u=>BQ t u Q):=by
 let⟨s,f,g⟩:=h.h;exact⟨_,mH (Od o) q hm rfl (iR (mH N7 b d rfl f (he:=i) (hpl:=n)) jE e) (he:=e),Jp g⟩
def wY(i j:Nat):bc:=λG Q=>∃(m:bw)(ns:aI)(y:Int),G[i]?=some (.aO .f m)/\m.map (·.1)=ns.map (λn=>(Sum.inl n:aS))/\G[j]?=some (.int y)/\ns.length<=1000/\Q (.ag .o ((ns.filter λx=>!decide (x=y)).map Tr.int))
theorem C0:∀(ns:aI),Rs K F B (ns.map Tr.int) (ns.map V.int) []
 |[]=>⟨rfl,rfl⟩
 |n::ns=>⟨.int n,_,[],[],rfl,rfl,⟨rfl,rfl⟩,C0 ns⟩
theorem KW(hz:k.z=true){i j:Nat}:bD K k (vv X (pO (wh sO X (f6 i)) (jk 0) (rS (l8 qF (f6 0) (f6 1))) (f6 0) [none,some j])) (wY i j):=λF B H G J Q Q' c p q=>by
 let⟨m,ns,y,hi,hm,hj,hn,pQ⟩:=p;rcases c.e i _ hi with z |⟨v,h1,_,a,vs,rfl,h2,h3,h4⟩
 .cases z
 rcases c.e j _ hj with z |⟨v,g1,rfl,_⟩
 .cases z
 have hF:=uP (c.z hz) h2;have N:=c.s _ _ hF;have ek:∀{m:bw}{vs:bI},Rk K F B m vs []->vs.map (·.1)=m.map (·.1):=λ{m}=>by
  induction m with
  |nil=>intro vs h;rw[h.1];rfl
  |cons x m ih=>
   intro vs h;∎;let⟨v,r,c,d,g,A,e3,e4⟩:=h;let⟨rfl,rfl⟩:=append_eq_nil_iff.mp A.symm;∎;rw[g,map_cons,map_cons,ih e4]
 have O:vs.map (·.1)=ns.map (λn=>(Sum.inl n:aS)):=(ek h3).trans hm;have hl:vs.length=ns.length:=by have:=congrArg List.length O;simpa using this
 refine⟨.ref a,h1,a,vs,rfl,N,λM L=>?_⟩;refine Lw (Q:=λv=>nJ X (Q v)) (λn f E=>E=aR H a (.ay M (.dK vs))/\f=((ns.take n).filter λx=>!decide (x=y)).map V.int) ⟨rfl,rfl⟩ (λ_ _ _ _ h=>by rw[h.1,cq]) ?_ ?_
 .rintro n kk v f E e ⟨rfl,rfl⟩;have g:(ns.map (λn=>(Sum.inl n:aS)))[n]?=some kk:=by rw[<- O,getElem?_map,e];rfl
  rw[getElem?_map] at g;cases A:ns[n]? with
  |none=>rw[A] at g;cases g
  |some x=>
   rw[A] at g;cases g;have Y:ns.take (n+1)=ns.take n++[x]:=by rw[take_add_one,A];rfl
   have U:(((ns.take n).filter λx=>!decide (x=y)).map V.int).length<=1000:=by
    rw[length_map];exact le_trans (length_filter_le _ _) (by rw[length_take];omega)
   refine⟨uB rfl λi v e=>?_,.int x,rfl,.int y,?_,rfl,_,rfl,?_⟩
   .match i,e with
    |1,e=>exact e
   .show ([none,some j].map λo=>match o with |none=>none |some i=>(G[i]?).getD none)[1]?=_;show some ((G[j]?).getD none)=_;rw[g1];rfl
   .have di:decide (V.int x=V.int y)=decide (x=y):=by by_cases z:x=y<;>simp[z]
    rw[di];by_cases z:x=y
    .subst z;rw[decide_eq_true rfl];refine⟨rfl,?_⟩;rw[Y,List.filter_append];simp
    .rw[decide_eq_false z];refine⟨.int x,rfl,by rw[sizeLine_eq];omega,rfl,?_⟩;rw[Y,List.filter_append,map_append];simp[z]
 .rintro f E ⟨rfl,rfl⟩;have C:ns.take vs.length=ns:=by rw[hl,take_length]
  rw[C];refine⟨?_,λp D=>?_⟩
  .rw[length_map,sizeLine_eq];have:=length_filter_le (λx=>!decide (x=y)) ns;omega
  have u:p≠a:=λw=>by rw[w,cq] at D;cases D
  rw[ba u] at D;refine⟨a,M,vs,by rw[ba (Ne.symm u),cq],L,?_⟩;have eq:aR (aR (aR H a (.ay M (.dK vs))) p (.ag ((ns.filter λx=>!decide (x=y)).map V.int))) a (.dK vs)=aR H p (.ag ((ns.filter λx=>!decide (x=y)).map V.int)):=by
   funext b;by_cases I:b=a
   .rw[I,cq,ba (Ne.symm u),N]
   .rw[ba I];by_cases l:b=p
    .rw[l,cq,cq]
    .rw[ba l,ba I,ba l]
  rw[eq];let⟨n1,n2,n3⟩:=kU (K:=K) (B:=B) c.s (C0 (ns.filter λx=>!decide (x=y))) .nil D;refine q _ _ F _ _ pQ ⟨n1,n2,n3,λy m=>?_⟩;cases m with
  |head=>exact D
  |tail _ m=>cases m
theorem Qi{e:Expr}{i j:Nat}(hz:k.z=true)(h:PE X e (vv X (pO (wh sO X (f6 i)) (jk 0) (rS (l8 qF (f6 0) (f6 1))) (f6 0) [none,some j]))):QE X k e (wY i j):=⟨_,h,KW hz⟩
end
end Pu
namespace L2
section
open PySem
open AutoSeq1 (wpAny_loadPart')
section
variable{prog:Program}{w:World}{A:Around}{E:aj->ak->Prop}{s:ak}
theorem Ml(l:af)(items:dm)(n:Nat)(b:df)(m:Array (dJ))(o:Tok):
  Meets (Builtin.«enumerate.__new__» ⟨[.type "enumerate",.ref l],[("start",.int 1 o)]⟩) (λ_ R s=>s.heap.get? l=some { cls:=.type "list",dict:=b,data:=.seq items n,slots:=m }/\
   R (.ok (.ret (.ref (s.heap.push { cls:=.type "list_iterator",data:=.fields #[.ref l,.int 0 0] }).objs.size)))
    { s with heap:=(s.heap.push { cls:=.type "list_iterator",data:=.fields #[.ref l,.int 0 0] }).push { cls:=.type "enumerate",data:=.fields #[.none,.bool false,.ref ⇑s,rawInt 1,.none,.none] } }):=
 .of_wp λprog w A R s h=>by
  ∎;let⟨j,g,d,f,os⟩:=s;let⟨a,h⟩:=h;∎;have i:=sub_enumerate;have e:Heap.IsList (Shared.heap ⟨j,g,d,f,os⟩) l items:=⟨_,a,rfl,n,rfl⟩
  wp_walk using wpAny_loadPart' a
  refine wpAny_stack_any λst=>wpAny_pure ?_
  split
  .rename_i c _ _ _ _ _;cases (c == Value.type "enumerate")
   .wp_walk using wpAny_loadPart' a,wpAny_pyIter_list e
    exact⟨_,rfl,h⟩
   .wp_walk using wpAny_loadPart' a,wpAny_pyIter_list e
    exact⟨_,rfl,h⟩
  .wp_walk using wpAny_loadPart' a,wpAny_pyIter_list e
   exact⟨_,rfl,h⟩
theorem Wf{self x:aj}{e:List (Str×aj)}:Meets (Builtin.«object.__init__» ⟨[self,x],e⟩) (λ_ R s=>s.TypeIs self "enumerate"/\R (.ok (.ret .none)) s):=by
 refine Meets.of_wp λprog w A R s d=>?_
 let⟨f,b⟩:=d;have g:=F.called_enumerate.init.lookup;have hm:=F.called_enumerate.made;have a:(some "enumerate.__new__" != some "object.__new__")=true:=∎
 repeat (any_goals (first |assumption |wp_step))
 exact⟨_,rfl,b⟩
theorem VW{l:af}{items:dm}{f:Tok}{Q:aj->ak->Prop}(C:s.heap.IsList l items)(h:∀h',IsEnum h' (⇑s+1) ⇑s 1 .none->h'.IsListIter ⇑s l 0->(∀b o,s.heap.get? b=some o->h'.get? b=some o)->Q (.ref (⇑s+1)) { s with heap:=h' }):
  wpAny (model prog w) A (call (.type "enumerate") [.ref l] [("start",.int 1 f)]) Q E s:=by
 let⟨⟨c,i,dt,J⟩,H,j,n,hd⟩:=C
 replace j:c=.type "list":=j
 replace hd:dt=.seq items n:=hd
 subst j hd;have d:=F.called_enumerate;let⟨c,N,y⟩:=d.mro;have p:=d.made;have z:=d.sub;refine wpAny_call (codeAny_of_tree ?_);show wpAny _ _ (callAny (.type "enumerate") _) _ _ _;refine wpAny_pure ⟨Code.quiet_builtin _ (by decide +kernel),codeAny_builtin F.entry_type_call ?_⟩;rw[Around.under_plain (weight_type_call_type _ _ _) (units_type_call_type _ _ _)];have L:=d.notType;have M:=d.canCreate;have G:checkTypeCall "enumerate" ⟨[.ref l],[("start",.int 1 f)]⟩=pure ():=by kernel_rfl
 have m:checkBuiltinCall "enumerate.__new__" ⟨[.type "enumerate",.ref l],[("start",.int 1 f)]⟩=pure ():=by kernel_rfl
 repeat (any_goals (first |assumption |wp_step))
 have B:(s.heap.push { cls:=.type "list_iterator",data:=.fields #[.ref l,.int 0 0] }).objs.size=⇑s+1:=Heap.size_push ..;have x:IsEnum ((s.heap.push { cls:=.type "list_iterator",data:=.fields #[.ref l,.int 0 0] }).push { cls:=.type "enumerate",data:=.fields #[.none,.bool false,.ref ⇑s,rawInt 1,.none,.none] }) (⇑s+1) ⇑s 1 .none:=by
  have:=Heap.get?_push_size (s.heap.push { cls:=.type "list_iterator",data:=.fields #[.ref l,.int 0 0] }) (o:={ cls:=.type "enumerate",data:=.fields #[.none,.bool false,.ref ⇑s,rawInt 1,.none,.none] }) rfl;rw[B] at this;exact this
 have u:codeAny (model prog w) A.in1 (.call (.builtin "enumerate.__new__") ⟨[.type "enumerate",.ref l],[("start",.int 1 f)]⟩) (λr a=>r=.ok (.ret (.ref (⇑s+1)))/\a={ s with heap:=(s.heap.push { cls:=.type "list_iterator",data:=.fields #[.ref l,.int 0 0] }).push { cls:=.type "enumerate",data:=.fields #[.none,.bool false,.ref ⇑s,rawInt 1,.none,.none] } }) s:=
  codeAny_call_builtin d.plain F.entry_enumerate_new (wpAny_of_eq m (Ml l items n i J f prog w A.in1 (λr a=>r=.ok (.ret (.ref (⇑s+1)))/\a={ s with heap:=(s.heap.push { cls:=.type "list_iterator",data:=.fields #[.ref l,.int 0 0] }).push { cls:=.type "enumerate",data:=.fields #[.none,.bool false,.ref ⇑s,rawInt 1,.none,.none] } }) s ⟨H,by rw[B],rfl⟩))
 refine codeAny_mono u λr a q=>?_
 let⟨rfl,rfl⟩:=q;have v:Shared.TypeIs { s with heap:=(s.heap.push { cls:=.type "list_iterator",data:=.fields #[.ref l,.int 0 0] }).push { cls:=.type "enumerate",data:=.fields #[.none,.bool false,.ref ⇑s,rawInt 1,.none,.none] } } (.ref (⇑s+1)) "enumerate":=⟨_,x,rfl⟩;have I:=d.init.lookup;have D:=d.init.bind (.ref (⇑s+1))
 repeat (any_goals (first |assumption |wp_step))
 have aN:argsOk "object.__init__" ⟨[.ref (⇑s+1),.ref l],[("start",.int 1 f)]⟩:=by kernel_rfl
 have g:codeAny (model prog w) A.in1 (.call (.builtin "object.__init__") ⟨[.ref (⇑s+1),.ref l],[("start",.int 1 f)]⟩) (λr a=>r=.ok (.ret .none)/\a={ s with heap:=(s.heap.push { cls:=.type "list_iterator",data:=.fields #[.ref l,.int 0 0] }).push { cls:=.type "enumerate",data:=.fields #[.none,.bool false,.ref ⇑s,rawInt 1,.none,.none] } }) { s with heap:=(s.heap.push { cls:=.type "list_iterator",data:=.fields #[.ref l,.int 0 0] }).push { cls:=.type "enumerate",data:=.fields #[.none,.bool false,.ref ⇑s,rawInt 1,.none,.none] } }:=
  codeAny_call_builtin d.init.plain F.entry_object_init (d.init.check _ _ _ _ _ _ _ _ v aN (Wf prog w A.in1 (λr a=>r=.ok (.ret .none)/\a={ s with heap:=(s.heap.push { cls:=.type "list_iterator",data:=.fields #[.ref l,.int 0 0] }).push { cls:=.type "enumerate",data:=.fields #[.none,.bool false,.ref ⇑s,rawInt 1,.none,.none] } }) _ ⟨v,rfl,rfl⟩))
 refine codeAny_mono g λr a q=>?_
 let⟨rfl,rfl⟩:=q
 repeat (any_goals (first |assumption |wp_step))
 refine h _ x ⟨_,Heap.get?_push_of_some _ (Heap.get?_push_size _ rfl),rfl,rfl⟩ λb o e=>Heap.get?_push_of_some _ (Heap.get?_push_of_some _ e)
end
end
end L2
namespace L2
open PySem PySem.Spec PyProof.Rows
theorem NM{prog:Program}{w:World}{A:Around}(d:A.handled=none)(it l:af)(a:l≠it)(items:dm):
  Draws prog w A it [it,l] (items.size+1) (λi v=>items[i - 1]?=some v) (λj h=>∃i:Nat,j=i+1/\h.IsListIter it l i/\h.IsList l items) where
 live:=λ_ _ ⟨_,_,st⟩=>let ⟨o,ho,_⟩:=st.1;⟨o,ho⟩
 frame:=λ_ _ _ ⟨i,e,st⟩ hk=>⟨i,e,st.1.at λo e=>hk it (by simp) o e,st.2.at λo e=>hk l (by simp) o e⟩
 item:=λj s Q E m ⟨i,e,st⟩ hQ=>by
  subst e;exact (Draws.list d it l a items).item i s Q E ⋯ st λx f g p b sb=>hQ x f g (by simpa using p) ⟨i+1,rfl,b⟩ sb
 done:=λs Q E ⟨i,e,st⟩ hE=>by
  obtain rfl:i=items.size:=⋯
  exact (Draws.list d it l a items).done s Q E st hE
def uu(K:ao)(a:af):It:=
 ⟨λi H=>∃b x,bC K H a b/\b[i]?=some x,λi H y d=>∃p x,y=.ref p/\H p=none/\(∀b,bC K H a b->b[i]?=some x)/\d=aR H p (.aF [.int ((i+1:Nat):Int),x]),λi H=>∃b,bC K H a b/\b.length<=i⟩
theorem Ui{P:Program}{w:World}{K:ao}{elts:bH}{x1:Nat}{pos:Pos}(a it n:af)(B:n≠it):
  ke P w K (.Tuple elts x1 pos) (uu K a) [n,it] n (λi h=>(∃g,IsEnum h n it ((i+1:Nat):Int) g)/\h.IsListIter it a i/\a≠it/\a≠n) where
 mem:=by simp
 obj:=λi h st b l=>by
  let⟨⟨g,e1⟩,⟨o,e2,c,d⟩,_⟩:=st;rcases mem_cons.mp l with z |l
  .rw[z];exact⟨_,e1,λv z=>by cases z⟩
  .have z:b=it:=by simpa using l
   rw[z];exact⟨o,e2,λv z=>by rw[d] at z;cases z⟩
 keep:=λi h h' st k=>by
  let⟨⟨g,e1⟩,e2,e3⟩:=st;exact⟨⟨g,k n (by simp) _ e1⟩,e2.at λo e=>k it (by simp) o e,e3⟩
 item:=by
  intro X hP hw hK hc i aa s j H E I hf st hg;subst hP hw hK;∎;let⟨⟨g,G⟩,y,α,Y⟩:=st;let⟨xs,x,r,hx⟩:=hg;let⟨m,rv,p,hz⟩:=I.list r;let⟨u,hu,ru⟩:=rv.get hx;∎;have fe:=hf n (by simp);have fi:=hf it (by simp);have η:i<m.toArray.size:=by have:=(List.getElem?_eq_some_iff.mp hu).1;simpa using this
  refine wpAny_pyNext_enum_itemD (NM (A:=X.A.in1) (I.ok.hd hc) it a α m.toArray) G ⟨i,rfl,y,p.isList⟩ ⋯ B (by simp[B,Ne.symm Y]) λJ h' C pu O U hT θ hk=>?_
  let⟨i',ei,M,_⟩:=U;obtain rfl:i'=i+1:=⋯
  have eu:J=u:=by
   have z:m.toArray[i]?=some J:=by simpa using pu
   rw[List.getElem?_toArray,hu] at z;cases z;rfl
  subst eu;refine⟨.ref ⇑s,rfl,wpAny_letOwnedTupleGo_enum O λh2 L hs=>?_⟩;have le:n<⇑s:=Heap.lt_size G;have li:it<⇑s:=let ⟨o,e,_⟩:=y;Heap.lt_size e;have ε:H ⇑s=none:=I.aN.fresh (le_refl _);have β:n≠⇑s:=ne_of_lt le;have γ:it≠⇑s:=ne_of_lt li;have I1:=I.laid (a:=⇑s) (o:=.aF [.int ((i+1:Nat):Int),x]) (h':=s.heap.push { cls:=.type "tuple",data:=.seq #[.int ((i+1:Nat):Int) C,J] }) (t':=C) (λb q r=>Heap.get?_push_of_some _ r) (le_refl _)
   ⟨by show 2<=sizeLine;decide,[.int ((i+1:Nat):Int) C,J],.cons ⟨_,rfl⟩ (.cons ru .nil),⟨_,Heap.get?_push_size _ rfl,rfl,_,rfl⟩⟩
  have up:∀{b:af},b≠⇑s->add X aa H b->add X aa (aR H ⇑s (.aF [.int ((i+1:Nat):Int),x])) b:=λl f=>⟨by rw[ba l];exact f.1,f.2⟩
  have ζ:∀b q,b≠n->b≠it->(s.heap.push { cls:=.type "tuple",data:=.seq #[.int ((i+1:Nat):Int) C,J] }).get? b=some q->h2.get? b=some q:=λb q h1 h3 r=>by
   refine hs.extBut b q h1 ?_;rcases Heap.get?_push_cases r with⟨δ,eq⟩ |r
   .subst δ;subst eq;exact hT
   .exact hk b q h1 h3 r
  let⟨oi,ei,ci,di⟩:=M;have N:h2.IsListIter it a (i+1):=⟨oi,hs.extBut it oi (Ne.symm B) ei,ci,di⟩;refine⟨.ref ⇑s,aR H ⇑s (.aF [.int ((i+1:Nat):Int),x]),?_,rfl,⟨_,x,rfl,ε,λys hy=>by rw[I.da hy r];exact hx,rfl⟩,⟨⟨_,L⟩,N,α,Y⟩,λb l=>?_⟩
  .exact au.iB (s:={ s with heap:=s.heap.push { cls:=.type "tuple",data:=.seq #[.int ((i+1:Nat):Int) C,J] },toks:=C }) (t':=C+1) I1 ζ (up β fe) (up γ fi) ⟨_,L⟩ ⟨oi,hs.extBut it oi (Ne.symm B) ei⟩
  .rcases mem_cons.mp l with z |l
   .rw[z,ba β];exact fe.1
   .have z:b=it:=by simpa using l
    rw[z,ba γ];exact fi.1
 done:=by
  intro X hP hw hK hc i aa s j H E I hf st hg;subst hP hw hK;∎;let⟨⟨g,G⟩,y,_⟩:=st;let⟨xs,r,hx⟩:=hg;let⟨m,rv,p,hz⟩:=I.list r;∎;have hl:=rv.length;let⟨f0,f1,f2,f3,f4,f5⟩:=hf it (by simp);have D:Draws X.prog X.w X.A.in1 it [it,a] 0 (λ_ _=>True) (λ_ h=>h.IsListIter it a i/\h.IsList a m.toArray):=⟨λ_ _ st=>let ⟨o,ho,_⟩:=st.1;⟨o,ho⟩,λ_ _ _ st hk=>⟨st.1.at λo e=>hk it (by simp) o e,st.2.at λo e=>hk a (by simp) o e⟩,λ_ _ _ _ h=>absurd h (Nat.not_lt_zero _),
   λs Q E st hE=>wpAny_nextOf_list_end (I.ok.hd hc) st.1 st.2 (by simp;omega) hE⟩
  exact wpAny_pyNext_enum_endD D G ⟨y,p.isList⟩ λh' eb=>⟨rfl,I.turned (t':=s.toks) (λb o l e=>eb b o l e) f0 f1 f3 f4 f5⟩
 self:=λ_ _ _ _ _ st h=>let ⟨⟨_,G⟩,_⟩:=st;wpAny_pyIter_enum G h
theorem LJ{M:Model}{A:Around}{E:aj->ak->Prop}{s:ak}{pos:Pos}{T:String}{first:aL}{args:List (Bool×Sem Value)}{e:List (Option Str×Sem Value)}{Q:aj->ak->Prop}(b:(args.any (·.1) || e.any (·.1.isNone))=false)(h:wpAny M A (evalArgs (.type T) true args e) (λa d=>wpAny M A (call (.type T) (first++a.pos) a.kw) Q E d) E s):
  wpAny M A (callWith pos (.type T) first args e) Q E s:=by
 unfold callWith;refine wpAny_bind (wpAny_holding (wpAny_mono h (λa d f=>wpAny_bind (wpAny_standAt ?_)) λ_ _ x=>x));simp only[b];refine wpAny_bind (wpAny_pure ?_);exact wpAny_bind (wpAny_mono f (λr g i=>wpAny_bind (wpAny_holding (wpAny_point (wpAny_pure i)))) λ_ _ x=>x)
section
variable{X:Cx}
def Ah(K:ao)(d:TA):TI:=λj H R=>d j H λvs b=>∃a,vs=[.ref a]/\(∃e,bC K b a e)/\R (uu K a) b
theorem Ij{l:Expr}{E:TA}{elts:bH}{x1 x:Nat}{m p pos d kpos:Pos}(Q:Gl X "enumerate")(hm:X.mg "enumerate"=none)(O:PA X [l] E)(hs:do du l [] X.env)(hpl:do ((backTo pos (starEach [l] X.env)).any (·.1) || (backToKw pos (keywordEach [⟨some "start",.Constant (.int 1) x d,kpos⟩] X.env)).any (·.1.isNone))=false):
  PI X (.Tuple elts x1 m) (.Call (.Name "enumerate" p) [l] [⟨some "start",.Constant (.int 1) x d,kpos⟩] pos) (Ah X.K E):=by
 intro aa s G H R I h;refine wpAny_Call_Name_kw (jh I Q hm (u:=.type "enumerate") rfl ?_);refine LJ hpl (evalArgs_kw2 rfl (bj (O pos aa s G H _ I h) λus s1 y=>?_) hs);let⟨vs,B,L,r1,a,e,⟨xs,Y⟩,q⟩:=y;refine bj (Mj (nm:=some "start") (kpos:=kpos) (E3 (X:=X) (i:=1) (j:=x) (pos:=d)) OW pos aa s1 G B (λJ n=>J=[.int 1]/\n=B) L ⟨rfl,rfl⟩) λks f A=>?_
 let⟨J,n,g,r2,N,M⟩:=A;subst e N M;let⟨k1,rfl,t,rfl⟩:=jg r2;cases r1 with
 |cons r rr=>
  cases rr;cases r;let⟨α,rv,p,hz⟩:=g.list Y;refine VW p.isList λh' C w U=>wpAny_pyIter_enum C ?_
  have ne:⇑f+1≠⇑f:=⋯
  have D:a<⇑f:=let ⟨o,ho,_⟩:=p.isList;Heap.lt_size ho;refine⟨⇑f+1,[⇑f+1,⇑f],_,_,n,rfl,g.kept (t':=f.toks) U,Ui a _ _ ne,⟨⟨_,C⟩,w,ne_of_lt D,ne_of_lt (lt_succ_of_lt D)⟩,λb v=>?_,q⟩;rcases mem_cons.mp v with z |v
  .rw[z];exact g.fj ⋯ (g.aN.fresh ⋯)
  .have z:b=⇑f:=by simpa using v
   rw[z];exact g.fj (le_refl _) (g.aN.fresh (le_refl _))
end
end L2
namespace Pu
open PySem L2 Vc Sf
section
theorem Wo{K:ao}{a:af}{xs:aw}:fQ (uu K a) xs.length (λH=>bC K H a xs) (λi H y b=>∃x p,xs[i]?=some x/\y=.ref p/\H p=none/\b=aR H p (.aF [.int ((i+1:Nat):Int),x])):=
 ⟨λi H h q=>by let⟨x,e⟩:=nK h;exact⟨xs,x,q,e⟩,λH q=>⟨xs,q,le_refl _⟩,λi H y b h q z=>by let⟨p,x,d,f,g,j⟩:=z;exact⟨x,p,g xs q,d,f,j⟩⟩
theorem Bx{a:af}{f:Fl}{xs:ai}(r:R K F B (.ag f xs) (.ref a) []):Src K B F (uu K a) (xs.mapIdx λi x=>.aF [.int ((i+1:Nat):Int),x]):=by
 let⟨E,vs,v,e,w⟩:=jV r;cases v;refine⟨_,_,(by rw[List.length_mapIdx,<- e.length];exact Wo (K:=K) (a:=a) (xs:=vs)),w,λi t C D x m d l s b y=>?_⟩;let⟨z,p,h,rfl,A,rfl⟩:=y;rw[List.getElem?_mapIdx] at d;cases q:xs[i]? with
 |none=>rw[q] at d;cases d
 |some u=>
  rw[q] at d;cases d;let⟨G,n,o⟩:=e.de q;rw[n] at h;cases h;let⟨j,g,r2,_⟩:=rb (xs:=[.int ((i+1:Nat):Int),u]) (cs:=[]) s ⟨.int ((i+1:Nat):Int),[z],[],[],rfl,rfl,⟨rfl,rfl⟩,z,[],[],[],rfl,rfl,o.mo l (λ_=>Le.refl _) u,rfl,rfl⟩ .nil A;exact⟨j,g,r2⟩
def yt(a:b6):iJ:=λj Q=>a j λb=>mY b λt=>g9 (ay t) λd=>Q (d.mapIdx λi x=>.aF [.int ((i+1:Nat):Int),x]) (bF (ay t))
theorem Mg(h:eM K k ta pa):kf K k (Ah K ta) (yt pa):=λF B H j i C A c p q=>by
 refine h F B H j i _ _ c p λE vs z m D p1 o=>?_
 ∎;let⟨t,rfl,p1⟩:=zo p1;let⟨v,rfl,x⟩:=o.r.one;let⟨l,d,r2⟩:=Out.held ⟨o.g,x,o.c,o.n⟩;let⟨f,G,e,p1⟩:=q0 p1;∎;rw[e] at r2 p1;let⟨a,vs,rfl,_,w⟩:=jV r2;exact⟨a,rfl,⟨vs,w l m (Le.refl _) d.s λk=>(c.b k).trans d.h⟩,q _ _ _ l m p1 d (Bx r2) λhn y u=>Bx (R.low _ hn u.symm r2)⟩
theorem Rw{b:Nat}{a kpos:Pos}(f:Gl X "enumerate")(hm:X.mg "enumerate"=none)(h:QA X k [l] ps)(hs:do du l [] X.env)(hpl:do ((backTo pos (starEach [l] X.env)).any (·.1) || (backToKw pos (keywordEach [⟨some "start",.Constant (.int 1) b a,kpos⟩] X.env)).any (·.1.isNone))=false):QI X k (.Tuple es x1 tpos) (.Call (.Name "enumerate" p) [l] [⟨some "start",.Constant (.int 1) b a,kpos⟩] pos) (yt ps):=by
 let⟨g,d,e⟩:=h.h;exact⟨_,Ij f hm d hs hpl,Mg e⟩
end
section
variable{K:ao}{qual:Str}{st:Stmt}{ps:ah}{f c E:af}
set_option genInjectivity false in
set_option genSizeOf false in
structure yW(K:ao)(c E:af)(qual:Str)(st:Stmt)(ps:ah) where
 a:Addr
 d:FuncData
 F:gP K "__init__" qual st a d
 b:Binds K d ps []
 t:pw K c E a
noncomputable def Nz(F:gv K "__init__" qual st f)(x1:oK K c f=true)(x2:mG K c E=true)(x3:W.findIn K (.ref c) "__setattr__"=some (some (.builtin "object.__setattr__")))(b:W.keepIn K (.ref c)=true)(d:W.isFn K (.ref f)=true)(e:W.readsIn K E (.type "type")=true)(g:W.specialIn K (.ref E) "__getattribute__"=some (some (.builtin "type.__getattribute__")))(h:W.findCls K (.ref E) (.type "type") "__init__"=some (.val (.builtin "ValueError.__init__")))(a:jz "__init__" qual st ps):yW K c E qual st ps:=
 ⟨f,F.choose,F.choose_spec,F.choose_spec.binds a,⟨x1,x2,x3,b,d,e,g,h⟩⟩
end
theorem Rn:v3 q C pa D' j=(pa (j.map aG) λa=>vJ a (q (.ref C))):=rfl
theorem HP(a:b6)(j:ai)(Q:ai->Bool->Prop):vc a j Q=(a j λb=>qq b λi=>Q ((List.range (i+1).toNat).map λ(n:Nat)=>.int (i+n*(-1))) true):=rfl
theorem Nv(i j:Nat)(G:ai)(Q:az):wY i j G Q=(∃(m:bw)(ns:aI)(y:Int),G[i]?=some (.aO .f m)/\m.map (·.1)=ns.map (λn=>(Sum.inl n:aS))/\G[j]?=some (.int y)/\ns.length<=1000/\Q (.ag .o ((ns.filter λx=>!decide (x=y)).map Tr.int))):=rfl
theorem Q7(a:b6)(j:ai)(Q:ai->Bool->Prop):yt a j Q=(a j λb=>mY b λt=>g9 (ay t) λxs=>Q (xs.mapIdx λi x=>.aF [.int ((i+1:Nat):Int),x]) (bF (ay t))):=rfl
theorem Q4(i:Int)(Q:Int->Prop):qq [.int i,.int (-1),.int (-1)] Q=(-1<=i/\i<1000000/\Q i):=by
 unfold qq;simp
theorem KG:tq [.ag f xs] Q=(e8 xs=true/\Q (.ag .o xs.reverse)):=rfl
section
def tD(x:Tr)(Q:Bool->Prop):Prop:=match x with |.aO .f m=>Q (!m.isEmpty) |_=>False
def yL(pe:bc):d7:=λj Q=>pe j λx=>tD x Q
theorem Jt(hz:k.z=true)(h:bD K k te pe):fY K k (λj H Q=>te j H λx d=>∃b,vN K x d b/\Q b d) (yL pe):=λF B H j i Q A c p q=>by
 refine h F B H j i _ _ c p λt v f l C p1 o=>?_
 unfold tD at p1;split at p1
 .rename_i m;let⟨_,a,vs,rfl,u,w,D⟩:=o.r;have y:=uP ((c.gr o.g).z hz) u;refine⟨!vs.isEmpty,.inr (.inr ⟨vs,o.g.s _ _ y,rfl⟩),q _ f l ?_ o.g⟩;have e:=w.length;have n:vs.isEmpty=m.isEmpty:=by
   cases vs with
   |nil=>cases m with
    |nil=>rfl
    |cons _ _=>cases e
   |cons _ _=>cases m with
    |nil=>cases e
    |cons _ _=>rfl
  rw[n];exact p1
 .exact p1.elim
theorem Kb(hz:k.z=true)(h:QE X k e pe)(he:∀whole,isTrue e X.env whole=(do let v <- whole;standAt e.pos;holding [v] (truthy v)):=by intro _;rfl):QT X k e (yL pe):=by
 let⟨d,a,b⟩:=h.h;exact⟨_,RN a he,Jt hz b⟩
theorem Wv(pe:bc)(j:ai)(Q:Bool->Prop):yL pe j Q=(pe j λx=>tD x Q):=rfl
theorem MP(m:bw)(Q:Bool->Prop):tD (.aO .f m) Q=Q (!m.isEmpty):=rfl
theorem yd(f:Fl)(m:bw)(Q:az):n8 [.aO f m] Q=Q (.ag .o (m.map λp=>kO p.1)):=by cases f<;>rfl
end
section
variable{K:ao}{qual:Str}{st:Stmt}{ps:ah}{f c E:af}
theorem HL{a:ClassData}(h:W.clsIn K c=some a)(hm:a.mro=.ref c::.ref E::gb)(hd:a.hasDict=true):mG K c E=true:=by
 unfold mG;rw[h];show (a.mro == _&&a.hasDict)=true;rw[hm,hd,beq_self_eq_true];rfl
theorem La(h:W.excIn K E gb "ValueError.__new__"=true):W.tailIn K gb (.ref E::gb)=true:=by
 unfold W.excIn at h;split at h
 case h_2=>cases h
 case h_1 ddc cdc slc hlook=>
  split at h
  case h_2=>cases h
  case h_1 Cc bmc k0 k1 k2 k3 nn k5 hmro hslots=>
   simp only[and_eq_true,beq_iff_eq,Bool.not_eq_true'] at h;let⟨⟨⟨⟨⟨d,e⟩,g⟩,i⟩,a⟩,b⟩:=h;unfold W.tailIn;refine Bool.or_eq_true_iff.mpr (.inr ?_);dsimp only;rw[hlook];dsimp only;rw[a,b,beq_self_eq_true,Bool.true_and,Bool.true_and];unfold W.tailIn gb;exact Bool.or_eq_true_iff.mpr (.inl (beq_self_eq_true _))
theorem Lu{o j:Obj}{dd:df}{g:ClassData}{l:Array (dJ)}{k0 k1 k2 k3 k5:dJ}{i:Array DictEntry}{n:Nat}(m:K.lookup c=some o)(u:o=⟨.type "type",dd,.cls g,l⟩)(hm:g.mro=.ref c::.ref E::gb)(hs:l.toList=[k0,k1,k2,k3,some (.builtin "ValueError.__new__"),k5])(h:g.hasDel=false)(p:W.excIn K E gb "ValueError.__new__"=true)(q:K.lookup g.ns=some j)(hd:j.data=.dict i n)(s:(i.toList.all λe=>match e.key with |.str _ _=>true |_=>false)=true)(r:W.nsIn K g.ns "__init__"=some (some (.ref f))):oK K c f=true:=by
 have aN:W.nsOkIn K g.ns=true:=by
  unfold W.nsOkIn;rw[q];let⟨a,b,d,e⟩:=j;dsimp only at hd;subst hd;show (i.all _)=true;rw[<- Array.all_toList];exact s
 unfold oK;simp only[m,u,hm,hs];rw[La p,aN,r,h,beq_self_eq_true,beq_self_eq_true,beq_self_eq_true];rfl
noncomputable def wJ{d:ClassData}{o h:Obj}{dd:df}{a:ClassData}{i:Array (dJ)}{k0 k1 k2 k3 k5:dJ}{g:Array DictEntry}{n:Nat}(e:W.findIn K (.ref c) "__init__"=some (some (.ref f)))(F:gv K "__init__" qual st f)(p:K.lookup c=some o)(w:o=⟨.type "type",dd,.cls a,i⟩)(hm:a.mro=.ref c::.ref E::gb)(hs:i.toList=[k0,k1,k2,k3,some (.builtin "ValueError.__new__"),k5])(b:a.hasDel=false)(q:W.excIn K E gb "ValueError.__new__"=true)(r:K.lookup a.ns=some h)(hd:h.data=.dict g n)(v:(g.toList.all λe=>match e.key with |.str _ _=>true |_=>false)=true)(u:W.nsIn K a.ns "__init__"=some (some (.ref f)))(j:W.clsIn K c=some d)(l:d.mro=.ref c::.ref E::gb)(m:d.hasDict=true)(x3:W.findIn K (.ref c) "__setattr__"=some (some (.builtin "object.__setattr__")))(x:W.keepIn K (.ref c)=true)(y:W.isFn K (.ref f)=true)(z:W.readsIn K E (.type "type")=true)(A:W.specialIn K (.ref E) "__getattribute__"=some (some (.builtin "type.__getattribute__")))(B:W.findCls K (.ref E) (.type "type") "__init__"=some (.val (.builtin "ValueError.__init__")))(s:jz "__init__" qual st ps):yW K c E qual st ps:=
 Nz F (Lu p w hm hs b q r hd v u) (HL j l m) x3 x y z A B s
end
end Pu
namespace L2
open PySem PySem.Spec PyProof.Rows
section
def BA(K:ao):V->aw->Hp->VK->Prop:=λx vs H Q=>∃(l:af)(ns:aI)(c:Int),x=.ref l/\vs=[.int c]/\bC K H l (ns.map V.int)/\c∈ns/\ns.length<=1000/\Q (.int (ns.idxOf c:Nat)) H
theorem S4:xg X "list.index" (BA X.K):=by
 intro aa s i H x vs v us Q I C B h;let⟨l,ns,c,rfl,rfl,p,e,D,q⟩:=h;cases C;∎;let⟨u,rfl,A⟩:=B.one;let⟨t,rfl⟩:=A;let⟨b,r,⟨⟨oc,od,z,osl⟩,n,m,o,hd,f⟩,E⟩:=I.list p;∎;cases o;cases hd;cases f;have d:=Ka r;have a:=d.length;have g:ns.idxOf c<ns.length:=List.idxOf_lt_length_iff.mpr e;refine call_meets F.slot_list_index ⟨_,m,rfl⟩ F.entry_list_index (F.args_list_index_2 _ _) (SeqAt.list_indexAt l _ n none osl (.int c t) (isInt c) (ns.idxOf c) (by simpa [a] using g) ⋯ ?_ ?_) ⟨m,λy w=>(eq_isInt c t d y (by simpa using w)).at _ _,.int _,H,I.tok _,⟨_,rfl⟩,q⟩
 .show isInt c b[ns.idxOf c]=true;rw[isInt_at c d _ ⋯ g];simpa using List.getElem_idxOf g
 .intro j hjs hlt;show isInt c b[j]=false;rw[isInt_at c d j (by simpa using hjs) ⋯];exact ne_of_lt_idxOf hlt _
end
end L2
namespace Pu
open PySem L2 Vc Sf
section
def u3(po pe:bc):bc:=λj Q=>po j λx=>∃(f:Fl)(ns:aI),x=.ag f (ns.map Tr.int)/\pe j λt=>∃c:Int,t=.int c/\c∈ns/\ns.length<=1000/\Q (.int (ns.idxOf c:Nat))
theorem FK:∀{ns:aI}{vs:aw}{c:Cs},Rs K F B (ns.map Tr.int) vs c->vs=ns.map V.int/\c=[]
 |[],_,_,h=>h
 |n::ns,_,_,y=>by
  ∎;let⟨v,r,c,d,g,i,j,l⟩:=y;let⟨a,b⟩:=FK l;let⟨e,f⟩:=(show v=V.int n/\c=[] from j);∎;exact⟨by rw[g,a,e];rfl,by rw[i,f,b];rfl⟩
theorem Nr(A:bD K k to po)(he:bD K k te pe):bD K k (uy K "list" (BA K) to (hY te iI)) (u3 po pe):=λF B H j i Q D c p q=>by
 refine A F B H j i _ _ c p λx v m o E p1 d=>?_
 ∎;let⟨f,ns,rfl,p1⟩:=p1;let⟨a,vs,I,rfl,l,z,J,L⟩:=d.r.cj d.g.s (λk=>(c.b k).trans d.g.h) d.c;let⟨rfl,_⟩:=FK z;∎;refine⟨.inl ⟨rfl,_,l⟩,he m B o j i _ _ (c.gr d.g) p1 λy u n w G p2 e=>?_⟩;∎;let⟨b,rfl,p2,p3,C⟩:=p2;let⟨rfl,_⟩:=e.r;∎;exact⟨a,ns,b,rfl,rfl,(l.imp (λh=>e.g.h.rd h) id),p2,p3,q _ _ n w [] C ⟨d.g.trans' e.g,⟨rfl,rfl⟩,.nil,.nil⟩⟩
theorem Ua(hp:QE X k o po)(h:QE X k e pe)(f:do attributeBase o "index" X.env (eval o X.env)=eval o X.env)(g:do (((backTo a9 (starEach [e] X.env)).all (!·.1)&&(backToKw a9 (keywordEach [] X.env)).all (·.1.isSome))&&decide (([e].length+([]:List Keyword).length+if ([]:List Keyword).isEmpty=true then 0 else 1)<30))=true)(i:do (apos.endLine == a9.line)=true)(a:do du e [] X.env):
  QE X k (.Call (.Attribute o "index" apos) [e] [] a9) (u3 po pe):=by
 ∎;let⟨n,j,l⟩:=hp.h;let⟨m,b,d⟩:=h.h;∎;exact⟨_,xy PySem.F.plainAttrs_list PySem.F.slot_list_index PySem.F.type_list_index S4 j (iR b jE a) f g i a rfl,Nr l d⟩
theorem Ri:u3 po pe j Q=(po j λx=>∃(f:Fl)(ns:aI),x=.ag f (ns.map Tr.int)/\pe j λt=>∃c:Int,t=.int c/\c∈ns/\ns.length<=1000/\Q (.int (ns.idxOf c:Nat))):=rfl
end
end Pu
namespace Pu
theorem VC(f:j->i)(a:j)(l:List j):List.map f (a::l)=f a::List.map f l:=rfl
theorem P8(f:j->i):List.map f []=[]:=rfl
open PySem L2 in
theorem RZ(CX:fD)(P:Program)(w:World)(K:ao)(mg:bx)(base:aU)(N:ah)(b:Str)(a:Scope)(f:af)(d:aj)(A:Around)(outer:cB)(s:ak)(H:Hp)(E:XK):(i7 CX P w K mg base N b a f d A outer s H E).K=K:=rfl
end Pu
namespace Pu
open PySem L2 Vc Sf
section
variable{st:Stmt}{x:Str}{p pos:Pos}{e:Expr}{es:bH}{pn:ah}{ps:b6}{j m n:Nat}{z:Bool}{C:af}{qual:Str}
theorem qc{aZ:bQ}(r:dz X.K X.mg x st pn)(G:aJ X.prog X.w X.K X.mg X.base bM j r.a r.d pn (bR X.K z 0 n aZ))(l:QA X k (e::es) ps)(u:bu m X.A:=by assumption)(q:j<=m:=by first |decide |omega)(s:z=true->k.z=true:=by first |exact id |exact λ_=>rfl)(hn:∀xs Q,aZ xs Q->xs.length=n:=by exact λ_ _ h=>h.1)(o:do Gl X x)(f: ~~~(dq x))(he:do du e es X.env)(hpl:do fa pos es X.env):
  QE X k (.Call (.Name x p) (e::es) [] pos) (u6 aZ (n4 ps)):=by
 let⟨v,g,i⟩:=l.ay.h;exact⟨_,QM (E:=E0) (G.mono q) u o r.m r.F.kp r.b .nil qP g f he hpl,OO s hn i⟩
theorem rG{aZ:fR}(r:dz X.K X.mg x st pn)(G:aJ X.prog X.w X.K X.mg X.base (fq X.prog X.w) j r.a r.d pn (ic X.K z 0 n aZ))(y:QA X k (e::es) ps)(O:∀i,ja (fq X.prog X.w) X i (k.E i):=by first |assumption |exact EM (ND rfl rfl rfl rfl) |exact EM KY)(N:bu m X.A:=by assumption)(I:j<=m:=by first |decide |omega)(L:z=true->k.z=true:=by first |exact id |exact λ_=>rfl)(hn:∀xs Q q,aZ xs Q q->xs.length=n:=by exact λ_ _ _ h=>h.1)(D:do Gl X x)(l: ~~~(dq x))(he:do du e es X.env)(hpl:do fa pos es X.env):
  QE X k (.Call (.Name x p) (e::es) [] pos) (tE k.q aZ (n4 ps)):=by
 let⟨U,u,v⟩:=y.ay.h;exact⟨_,Rb (G.mono I) N D r.m r.F.kp r.b .nil O u l he hpl,C6 (λF B H i J c f o s M g=>c.x f o s M g) L hn v⟩
theorem Dx{aZ:bQ}(r:uD X.K C qual st pn)(G:aJ X.prog X.w X.K X.mg X.base bM j r.a r.d pn (bR X.K z 1 n aZ))(hm:X.mg x=some (.ref C))(l:QA X k (e::es) ps)(u:bu (m+1) X.A:=by assumption)(q:j<=m:=by first |decide |omega)(s:z=true->k.z=true:=by first |exact id |exact λ_=>rfl)(hn:∀xs Q,aZ xs Q->xs.length=n:=by exact λ_ _ h=>h.1)(o:do Gl X x)(f: ~~~(dq x))(he:do du e es X.env)(hpl:do fa pos es X.env):
  QE X k (.Call (.Name x p) (e::es) [] pos) (yi C aZ ps):=by
 let⟨v,g,i⟩:=l.h;exact⟨_,Jm (R:=λ_=>E0) r.t (G.mono q) u o hm r.b .nil (r0 qP) g f he hpl,WI s hn i⟩
end
end Pu
namespace Lp
def sm:Nat->(Nat->Int)->Int
 |0,_=>0
 |n + 1,f=>sm n f + f n
theorem a8{f g:Nat->Int}:∀{n:Nat},(∀k,k<n->f k=g k)->sm n f=sm n g
 |0,_=>rfl
 |n + 1,h=>by rw[sm,sm,a8 λk a=>h k ⋯,h n ⋯]
theorem oZ(a b:Int)(f g:Nat->Int):∀n:Nat,sm n (λk=>a*f k+b*g k)=a*sm n f+b*sm n g
 |0=>by simp[sm]
 |n + 1=>by rw[sm,sm,sm,oZ a b f g n];grind
theorem bO(a:Int)(f:Nat->Int):∀n:Nat,sm n (λk=>a*f k)=a*sm n f
 |0=>by simp[sm]
 |n + 1=>by rw[sm,sm,bO a f n];grind
theorem jw{f:Nat->Int}:∀{n:Nat},(∀k,k<n->f k=0)->sm n f=0
 |0,_=>rfl
 |n + 1,h=>by rw[sm,jw λk a=>h k ⋯,h n ⋯];rfl
theorem gS{f:Nat->Int}{a:Nat}:∀{n:Nat},a<n->(∀k,k<n->k≠a->f k=0)->sm n f=f a
 |n + 1,ha,h=>by
  by_cases e:a=n
  .subst e;rw[sm,jw λk b=>h k ⋯ ⋯];omega
  .rw[sm,gS (a:=a) ⋯ λk b=>h k ⋯,h n ⋯ ⋯];omega
theorem e7{f:Nat->Int}{a b:Nat}(d:a<b):∀{n:Nat},b<n->(∀k,k<n->k≠a->k≠b->f k=0)->sm n f=f a+f b
 |n + 1,hb,h=>by
  by_cases e:b=n
  .subst e;rw[sm,gS (a:=a) d λk g i=>h k ⋯ i ⋯]
  .rw[sm,e7 d ⋯ λk g=>h k ⋯,h n ⋯ ⋯ ⋯];omega
theorem qY(f:aK)(n:Nat):∀m:Nat,sm m (λi=>sm n (f i))=sm n λk=>sm m λi=>f i k
 |0=>by rw[sm,jw];intro k _;rfl
 |m + 1=>by
  rw[sm,qY f n m];have:=oZ 1 1 (λk=>sm m λi=>f i k) (f m) n;simp only[one_mul] at this;rw[<- this];rfl
def sg(n:Nat):Int:=if n % 2=0 then 1 else -1
theorem NW(n:Nat):sg (n+1)=- sg n:=by unfold sg;split<;>split<;>omega
def skip(k j:Nat):Nat:=if j<k then j else j+1
def up{i:Type}(v:Nat->i)(s:Nat)(x:i):Nat->i:=λj=>if j=s then x else v j
def dt:Nat->(aK)->Int
 |0,_=>1
 |m + 1,v=>sm (m + 1) λk=>sg (m + k) * v k m * dt m (λj=>v (skip k j))
theorem mw:∀{m:Nat}{v w:aK},(∀j i,j<m->i<m->v j i=w j i)->dt m v=dt m w
 |0,_,_,_=>rfl
 |m + 1,v,w,h=>by
  rw[dt,dt];apply a8;intro k a;rw[h k m a ⋯,mw (m:=m) (v:=λj=>v (skip k j)) (w:=λj=>w (skip k j)) λj i d b=>h _ _ (by unfold skip;split<;>omega) ⋯]
theorem vA{v:aK}{s k:Nat}(x:Nat->Int)(h:k≠s):(λj=>up v s x (skip k j))=up (λj=>v (skip k j)) (if s<k then s else s - 1) x:=by
 funext j;unfold up skip;dsimp only;by_cases a:s<k
 .rw[if_pos a];by_cases b:j<k
  .rw[if_pos b]
  .rw[if_neg b,if_neg ⋯,if_neg ⋯]
 .rw[if_neg a];by_cases b:j<k
  .rw[if_pos b,if_neg ⋯,if_neg ⋯]
  .rw[if_neg b];by_cases c:j+1=s
   .rw[if_pos c,if_pos ⋯]
   .rw[if_neg c,if_neg ⋯]
theorem RQ{v:aK}{s:Nat}(x:Nat->Int):(λj=>up v s x (skip s j))=λj=>v (skip s j):=by
 funext j;unfold up skip;rw[if_neg (by split<;>omega)]
theorem i6{v:aK}{s:Nat}{x:Nat->Int}:up v s x s=x:=by simp[up]
theorem iA{v:aK}{s k:Nat}{x:Nat->Int}(h:k≠s):up v s x k=v k:=by simp[up,h]
theorem m9(a b:Int)(x y:Nat->Int):∀{m:Nat}(v:aK){s:Nat},s<m->dt m (up v s λi=>a*x i+b*y i)=a*dt m (up v s x)+b*dt m (up v s y)
 |m + 1,v,s,hs=>by
  simp only[dt];rw[<- oZ];apply a8;intro k d;by_cases e:k=s
  .subst e;simp only[RQ,i6];grind
  .simp only[iA e];rw[vA _ e,vA _ e,vA _ e,m9 a b x y (m:=m) _ (by split<;>omega)];grind
theorem En:∀{m:Nat}{v:aK}{a:Nat},a+1<m->(∀i,i<m->v a i=v (a+1) i)->dt m v=0
 |m + 1,v,a,ha,h=>by
  rw[dt,e7 (a:=a) (b:=a+1) ⋯ ha]
  .have e:dt m (λj=>v (skip a j))=dt m (λj=>v (skip (a+1) j)):=by
    apply mw;intro j i f d;unfold skip;by_cases c:j=a
    .subst c;rw[if_neg ⋯,if_pos ⋯];exact (h i ⋯).symm
    .by_cases b:j<a
     .rw[if_pos b,if_pos ⋯]
     .rw[if_neg b,if_neg ⋯]
   rw[e,h m ⋯,<- Nat.add_assoc,NW];grind
  .intro k hk ka kb;rw[En (m:=m) (v:=λj=>v (skip k j)) (a:=if k<a then a - 1 else a),mul_zero]
   .split<;>omega
   .intro i d;unfold skip;by_cases c:k<a
    .simp only[c,if_true];rw[if_neg ⋯,if_neg ⋯,show a - 1+1=a by omega];exact h i ⋯
    .simp only[c,if_false];rw[if_pos ⋯,if_pos ⋯];exact h i ⋯
theorem mM{v:aK}{s t:Nat}{x y:Nat->Int}(h:s≠t):up (up v s x) t y=up (up v t y) s x:=by
 funext j;unfold up;by_cases a:j=t<;>by_cases b:j=s<;>simp[a,b]<;>omega
theorem CL{m a b:Nat}(d:a≠b)(e:a<m)(f:b<m)(h:∀v:aK,(∀i,i<m->v a i=v b i)->dt m v=0)(v:aK)(x y:Nat->Int):dt m (up (up v a x) b y)=- dt m (up (up v a y) b x):=by
 have z:=λp=>h (up (up v a p) b p) λi _=>by rw[iA d,i6,i6]
 have l:=m9 1 1 x y (m:=m) (up v a λi=>1*x i+1*y i) f;rw[z,mM d,mM d,m9 1 1 x y (m:=m) _ e,m9 1 1 x y (m:=m) _ e,mM d.symm,mM d.symm,mM d.symm,mM d.symm,z,z] at l;omega
theorem um{m:Nat}:∀(n:Nat){v:aK}{a b:Nat},b=a+n+1->b<m->(∀i,i<m->v a i=v b i)->dt m v=0
 |0,v,a,b,e,hb,h=>by subst e;exact En hb h
 |n + 1,v,a,b,e,hb,h=>by
  have s:=CL (m:=m) (a:=b - 1) (b:=b) ⋯ ⋯ hb (λw g=>um 0 ⋯ hb g) v (v (b - 1)) (v b);have f:up (up v (b - 1) (v (b - 1))) b (v b)=v:=by
   funext j;unfold up;by_cases c:j=b
   .simp[c]
   .by_cases d:j=b - 1
    .rw[if_neg c,if_pos d,d]
    .rw[if_neg c,if_neg d]
  rw[f,um n (v:=up (up v (b - 1) (v b)) b (v (b - 1))) (a:=a) (b:=b - 1) ⋯ ⋯] at s
  .omega
  .intro i hi;rw[iA ⋯,iA ⋯,iA ⋯,i6];exact h i hi
theorem oY{m a b:Nat}{v:aK}(e:a≠b)(d:a<m)(f:b<m)(h:∀i,i<m->v a i=v b i):dt m v=0:=by
 by_cases c:a<b
 .exact um (b - a - 1) ⋯ f h
 .exact um (a - b - 1) (a:=b) (b:=a) ⋯ d λi g=>(h i g).symm
theorem Ly{m a b:Nat}(d:a≠b)(e:a<m)(f:b<m)(v:aK)(x y:Nat->Int):dt m (up (up v a x) b y)=- dt m (up (up v a y) b x):=
 CL d e f (λ_ h=>oY d e f h) v x y
theorem yI{m s:Nat}(hs:s<m)(v:aK)(c:Nat->Int)(u:aK):∀n:Nat,dt m (up v s λi=>sm n λj=>c j*u j i)=sm n λj=>c j*dt m (up v s (u j))
 |0=>by
  have:=m9 0 0 (λ_=>0) (λ_=>0) (m:=m) v hs;simp only[zero_mul,Int.add_zero] at this;exact this
 |n + 1=>by
  have:=m9 1 (c n) (λi=>sm n λj=>c j*u j i) (u n) (m:=m) v hs;simp only[one_mul] at this;show dt m (up v s λi=>(sm n λj=>c j*u j i)+c n*u n i)=_;rw[this,yI hs v c u n];rfl
theorem yb:∀m:Nat,dt m (λj i=>if i=j then 1 else 0)=1
 |0=>rfl
 |m + 1=>by
  rw[dt,gS (a:=m) ⋯]
  .rw[if_pos rfl,mw (w:=λj i=>if i=j then 1 else 0),yb m]
   .have:sg (m+m)=1:=by unfold sg;rw[if_pos ⋯]
    rw[this];rfl
   .intro j i hj hi;unfold skip;rw[if_pos hj]
  .intro k hk hn;rw[if_neg ⋯,mul_zero,zero_mul]
end Lp
namespace Lp
variable{m n:Nat}{A:aK}{S:Nat->Nat}
def bs(A:aK)(S:Nat->Nat):aK:=λj i=>A i (S j)
def dd(m:Nat)(A:aK)(S:Nat->Nat):Int:=dt m (bs A S)
def tt(m:Nat)(A:aK)(S:Nat->Nat)(i k:Nat):Int:=dt m (up (bs A S) i λx=>A x k)
def Cr(m:Nat)(A:aK)(S:Nat->Nat):Prop:=∀i k,i<m->dd m A S*A i k=sm m λj=>tt m A S j k*A i (S j)
theorem vP{v:aK}{i:Nat}:up v i (v i)=v:=by funext j;unfold up;split<;>simp_all
theorem HN{v:aK}{i:Nat}{x y:Nat->Int}:up (up v i x) i y=up v i y:=by funext j;unfold up;split<;>simp_all
theorem yv{r c:Nat}:bs A (up S r c)=up (bs A S) r λx=>A x c:=by funext j i;unfold bs up;split<;>rfl
theorem FZ{i:Nat}:tt m A S i (S i)=dd m A S:=by
 unfold tt dd;rw[show (λx=>A x (S i))=bs A S i from rfl,vP]
theorem BP{i j:Nat}(a:i<m)(b:j<m)(h:i≠j):tt m A S i (S j)=0:=
 oY h a b λx _=>by rw[i6,iA (Ne.symm h)];rfl
theorem u5(h:dd m A S≠0){i j:Nat}(a:i<m)(b:j<m)(e:S i=S j):i=j:=by
 apply Classical.byContradiction;intro q;exact h (oY q a b λx _=>by unfold bs;rw[e])
theorem dR{r c:Nat}:dd m A (up S r c)=tt m A S r c:=by unfold dd tt;rw[yv]
theorem bU{r c k:Nat}:tt m A (up S r c) r k=tt m A S r k:=by unfold tt;rw[yv,HN]
theorem dO(C:Cr m A S){r c i:Nat}(k:Nat)(f:i<m)(l:r<m)(h:i≠r):
  dd m A S*tt m A (up S r c) i k=tt m A S i k*tt m A S r c - tt m A S i c*tt m A S r k:=by
 have s:dd m A S*tt m A (up S r c) i k=dt m (up (up (bs A S) r λx=>A x c) i λx=>sm m λj=>tt m A S j k*bs A S j x):=by
  unfold tt;rw[yv];have:=m9 (dd m A S) 0 (λx=>A x k) (λ_=>0) (m:=m) (up (bs A S) r λx=>A x c) f;simp only[zero_mul,Int.add_zero] at this;rw[<- this];apply mw;intro j x d u;by_cases q:j=i
  .subst q;rw[i6,i6];exact C x k u
  .rw[iA q,iA q]
 have z:∀j,j<m->j≠i->j≠r->tt m A S j k*dt m (up (up (bs A S) r λx=>A x c) i (bs A S j))=0:=λj d e g=>by
  rw[oY (a:=i) (b:=j) (Ne.symm e) f d λx _=>by rw[i6,iA e,iA g],mul_zero]
 have o:dt m (up (up (bs A S) r λx=>A x c) i (bs A S i))=tt m A S r c:=by
  rw[mM (Ne.symm h),vP];rfl
 have p:dt m (up (up (bs A S) r λx=>A x c) i (bs A S r))=- tt m A S i c:=by
  rw[Ly (Ne.symm h) l f,vP];rfl
 rw[s,yI f];by_cases q:i<r
 .rw[e7 q l λj d e g=>z j d e g,o,p];grind
 .rw[e7 (a:=r) (b:=i) ⋯ f λj d g e=>z j d e g,o,p];grind
theorem Cr.turn(C:Cr m A S)(hd:dd m A S≠0){r c:Nat}(o:r<m):Cr m A (up S r c):=by
 intro i k l;rw[dR];have g:sm m (λj=>dd m A S*(tt m A (up S r c) j k*A i (up S r c j)) - tt m A S r c*(tt m A S j k*A i (S j))+tt m A S r k*(tt m A S j c*A i (S j)))=dd m A S*tt m A S r k*A i c:=by
  rw[gS (a:=r) o]
  .rw[bU];simp only[up,if_true];grind
  .intro j hj q;have:=dO C (c:=c) k hj o q;rw[show up S r c j=S j by simp[up,q]];grind
 have e:∀(f g h:Nat->Int)(a b d:Int)(n:Nat),sm n (λj=>a*f j - b*g j+d*h j)=a*sm n f - b*sm n g+d*sm n h:=by
  intro f g h a b d n;induction n with
  |zero=>simp[sm]
  |succ n p=>rw[sm,sm,sm,sm,p];grind
 rw[e,<- C i k l,<- C i c l] at g;apply Int.eq_of_mul_eq_mul_left hd
 grind
theorem D6{j:Nat}(k:Nat)(b:j<m):tt m A S j k=sm m λi=>A i k*dt m (up (bs A S) j λx=>if x=i then 1 else 0):=by
 unfold tt;rw[<- yI b (bs A S) (λi=>A i k) (λi x=>if x=i then 1 else 0)];apply mw;intro a x e d;by_cases q:a=j
 .subst q;rw[i6,i6,gS (a:=x) d]
  .simp
  .intro i hi h;rw[if_neg (Ne.symm h),mul_zero]
 .rw[iA q,iA q]
def mC(m N:Nat)(A:aK)(y:Nat->Int):Prop:=∀i,i<m->sm N (λk=>A i k*y k)=0
theorem mC.tt{N:Nat}{y:Nat->Int}(h:mC m N A y){j:Nat}(b:j<m):sm N (λk=>tt m A S j k*y k)=0:=by
 rw[a8 (g:=λk=>sm m λi=>dt m (up (bs A S) j λx=>if x=i then 1 else 0)*(A i k*y k))]
 .rw[<- qY λi k=>dt m (up (bs A S) j λx=>if x=i then 1 else 0)*(A i k*y k)];apply jw;intro i a;rw[bO,h i a,mul_zero]
 .intro k _;rw[D6 k b,mul_comm,<- bO];apply a8;intro i _;grind
theorem JX{N:Nat}{y:Nat->Int}(C:Cr m A S)(hd:dd m A S≠0)(h:∀j,j<m->sm N (λk=>Lp.tt m A S j k*y k)=0):mC m N A y:=by
 intro i a;apply Int.eq_of_mul_eq_mul_left hd;rw[<- bO,mul_zero,a8 (g:=λk=>sm m λj=>A i (S j)*(Lp.tt m A S j k*y k))]
 .rw[<- qY λj k=>A i (S j)*(Lp.tt m A S j k*y k)];apply jw;intro j b;rw[bO,h j b,mul_zero]
 .intro k _;rw[<- Int.mul_assoc,C i k a,mul_comm,<- bO];apply a8;intro j _;grind
def zz(m:Nat)(A:aK)(c:Nat->Int)(S:Nat->Nat)(k:Nat):Int:=dd m A S*c k - sm m λi=>c (S i)*tt m A S i k
theorem ef{c:Nat->Int}{i:Nat}(b:i<m):zz m A c S (S i)=0:=by
 unfold zz;rw[gS (a:=i) b,FZ]
 .grind
 .intro j hj q;rw[BP hj b q,mul_zero]
theorem rF{N:Nat}{c y:Nat->Int}(h:mC m N A y):sm N (λk=>zz m A c S k*y k)=dd m A S*sm N λk=>c k*y k:=by
 rw[a8 (g:=λk=>dd m A S*(c k*y k)+(-1)*sm m λi=>c (S i)*(tt m A S i k*y k)),oZ,<- qY λi k=>c (S i)*(tt m A S i k*y k)]
 .rw[jw (n:=m)]
  .grind
  .intro i hi;rw[bO,h.tt hi,mul_zero]
 .intro k _;unfold zz;have:sm m (λi=>c (S i)*tt m A S i k)*y k=sm m λi=>c (S i)*(tt m A S i k*y k):=by
   rw[mul_comm,<- bO];apply a8;intro i _;grind
  grind
theorem Ql(C:Cr m A S)(hd:dd m A S≠0){c:Nat->Int}{r e:Nat}(k:Nat)(l:r<m):
  dd m A S*zz m A c (up S r e) k=zz m A c S k*tt m A S r e - zz m A c S e*tt m A S r k:=by
 unfold zz;rw[dR];have g:sm m (λi=>dd m A S*(c (up S r e i)*tt m A (up S r e) i k) - tt m A S r e*(c (S i)*tt m A S i k)+tt m A S r k*(c (S i)*tt m A S i e))=dd m A S*tt m A S r k*c e:=by
  rw[gS (a:=r) l]
  .rw[bU];simp only[up,if_true];grind
  .intro j hj q;have:=dO C (c:=e) k hj l q;rw[show up S r e j=S j by simp[up,q]];grind
 have o:∀(f g h:Nat->Int)(a b d:Int)(n:Nat),sm n (λj=>a*f j - b*g j+d*h j)=a*sm n f - b*sm n g+d*sm n h:=by
  intro f g h a b d n;induction n with
  |zero=>simp[sm]
  |succ n p=>rw[sm,sm,sm,sm,p];grind
 rw[o] at g
 grind
end Lp
namespace Lp
variable{m n:Nat}{A:aK}
theorem Dl{d x y:Int}(hd:0<d)(h:d*x<=d*y):x<=y:=Int.le_of_mul_le_mul_left h hd
theorem tr{a b c x y z:Int}(f:0<x)(g:0<y)(hz:0<z)(d:a*y<=b*x)(e:b*z<=c*y):a*z<=c*x:=by
 have h:=Int.mul_le_mul_of_nonneg_right d (le_of_lt hz);have i:=Int.mul_le_mul_of_nonneg_right e (le_of_lt f);apply Dl g;grind
theorem cH{f:Nat->Int}:∀{n:Nat},(∀k,k<n->0<=f k)->0<=sm n f
 |0,_=>Int.le_refl _
 |n + 1,h=>by
  have:=cH (n:=n) λk a=>h k ⋯
  have:=h n ⋯;rw[sm];omega
structure Gd(m n:Nat)(A:aK)(S:Nat->Nat):Prop where
 cr:Cr m A S
 pos:0<dd m A S
 lt:∀i,i<m->S i<n
 fe:∀i,i<m->0<=tt m A S i n
def Ent(m n:Nat)(A:aK)(c:Nat->Int)(sh:Nat->Prop)(S:Nat->Nat)(e:Nat):Prop:=
 e<n/\zz m A c S e<0/\¬ sh e/\∀k,k<e->¬ sh k->0<=zz m A c S k
def Lv(m n:Nat)(A:aK)(S:Nat->Nat)(r e:Nat):Prop:=
 r<m/\0<tt m A S r e/\∀i,i<m->0<tt m A S i e->tt m A S r n*tt m A S i e<tt m A S i n*tt m A S r e\/(tt m A S r n*tt m A S i e=tt m A S i n*tt m A S r e/\S r<=S i)
theorem Gd.turn{S:Nat->Nat}{r e:Nat}(G:Gd m n A S)(V:Lv m n A S r e)(he:e<n):Gd m n A (up S r e):=by
 refine⟨G.cr.turn (ne_of_gt G.pos) V.1,by rw[dR];exact V.2.1,λi d=>?_,λi d=>?_⟩
 .unfold up;split
  .exact he
  .exact G.lt i d
 .by_cases q:i=r
  .rw[q,bU];exact G.fe r V.1
  .have t:=dO G.cr (c:=e) n d V.1 q;apply Dl G.pos;rw[t,mul_zero];by_cases p:0<tt m A S i e
   .have:=V.2.2 i d p;have:tt m A S r n*tt m A S i e<=tt m A S i n*tt m A S r e:=⋯
    rw[mul_comm (tt m A S i e)];omega
   .have a:=mul_nonneg (G.fe i d) (le_of_lt V.2.1);have b:=mul_nonneg (show 0<=- tt m A S i e by omega) (G.fe r V.1);rw[Int.neg_mul] at b;omega
def dr(m:Nat)(A:aK)(S:Nat->Nat)(e k:Nat):Int:=(if k=e then dd m A S else 0)+(-1)*sm m λi=>if S i=k then tt m A S i e else 0
theorem wU{S:Nat->Nat}{e:Nat}(C:Cr m A S)(hd:dd m A S≠0)(lt:∀i,i<m->S i<n+1)(he:e<n+1):mC m (n+1) A (dr m A S e):=by
 apply JX C hd;intro j b;rw[a8 (g:=λk=>1*(tt m A S j k*if k=e then dd m A S else 0)+(-1)*sm m λi=>if S i=k then tt m A S j k*tt m A S i e else 0),oZ]
 .rw[gS (n:=n+1) (a:=e) he,if_pos rfl,<- qY λi k=>if S i=k then tt m A S j k*tt m A S i e else 0,gS (n:=m) (a:=j) b,gS (n:=n+1) (a:=S j) (lt j b),if_pos rfl,FZ]
  .grind
  .intro k _ q;rw[if_neg (Ne.symm q)]
  .intro i hi q;apply jw;intro k _;split
   .rename_i h;rw[<- h,BP b hi (Ne.symm q),zero_mul]
   .rfl
  .intro k _ q;rw[if_neg q,mul_zero]
 .intro k _;unfold dr;have:sm m (λi=>if S i=k then tt m A S j k*tt m A S i e else 0)=tt m A S j k*sm m λi=>if S i=k then tt m A S i e else 0:=by
   rw[<- bO];apply a8;intro i _;split
   .rfl
   .rw[mul_zero]
  rw[this];grind
theorem qo{S:Nat->Nat}{e:Nat}(h:∀i,i<m->S i≠e):dr m A S e e=dd m A S:=by
 unfold dr;rw[if_pos rfl,jw λi a=>if_neg (h i a)];omega
theorem uW{S:Nat->Nat}{e i:Nat}(hd:dd m A S≠0)(b:i<m)(h:S i≠e):dr m A S e (S i)=- tt m A S i e:=by
 unfold dr;rw[if_neg h,gS (a:=i) b,if_pos rfl]
 .omega
 .intro j hj q;rw[if_neg λx=>q (u5 hd hj b x)]
theorem oC{S:Nat->Nat}{e k:Nat}(h:∀i,i<m->S i≠k)(b:k≠e):dr m A S e k=0:=by
 unfold dr;rw[if_neg b,jw λi a=>if_neg (h i a)];rfl
theorem zq(e:Nat->Nat):∀{L:Nat},0<L->∃t,t<L/\∀u,u<L->e u<=e t
 |1,_=>⟨0,⋯,λu a=>by rw[show u=0 by omega];omega⟩
 |L + 2,_=>by
  let⟨t,b,h⟩:=zq e (L:=L+1) ⋯;by_cases q:e t<=e (L+1)
  .exact⟨L+1,⋯,λu a=>by
    by_cases x:u=L+1
    .subst x;omega
    .have:=h u ⋯;omega⟩
  .exact⟨t,⋯,λu a=>by
    by_cases x:u=L+1
    .subst x;omega
    .exact h u ⋯⟩
theorem RF{c:Nat->Int}{sh:Nat->Prop}{S:Nat->Nat->Nat}{r e:Nat->Nat}{L:Nat}(hL:0<L)(G:∀t,t<=L->Gd m n A (S t))(E:∀t,t<L->Ent m n A c sh (S t) (e t))(V:∀t,t<L->Lv m n A (S t) (r t) (e t))(U:∀t,t<L->S (t+1)=up (S t) (r t) (e t))(B:S L=S 0):False:=by
 have nz:=λt d=>ne_of_gt (G t d).pos
 have dU:∀t,t<L->dd m A (S (t+1))=tt m A (S t) (r t) (e t):=λt d=>by rw[U t d,dR]
 have zU:=λt (d:t<L)=>Ql (G t ⋯).cr (nz t ⋯) (c:=c) (e:=e t) n (V t d).1
 have st:∀t,t<L->zz m A c (S t) n*dd m A (S (t+1))<=zz m A c (S (t+1)) n*dd m A (S t)/\(0<tt m A (S t) (r t) n->zz m A c (S t) n*dd m A (S (t+1))<zz m A c (S (t+1)) n*dd m A (S t)):=λt d=>by
  have z:=zU t d;rw[<- U t d,<- dU t d] at z;have a:=(E t d).2.1;have f:=(G t ⋯).fe _ (V t d).1;refine⟨?_,λp=>?_⟩
  .have:=mul_nonneg (show 0<=- zz m A c (S t) (e t) by omega) f
   grind
  .have:=mul_pos (show 0 < - zz m A c (S t) (e t) by omega) p
   grind
 have mono:∀u t,t<=u->u<=L->zz m A c (S t) n*dd m A (S u)<=zz m A c (S u) n*dd m A (S t):=by
  intro u;induction u with
  |zero=>intro t h _;rw[show t=0 by omega];omega
  |succ u H=>
   intro t h v;by_cases q:t=u+1
   .subst q;omega
   .exact tr (G t ⋯).pos (G u ⋯).pos (G (u+1) v).pos (H t ⋯ ⋯) (st u ⋯).1
 have C:∀t,t<L->tt m A (S t) (r t) n=0:=λt d=>by
  apply Classical.byContradiction;intro q;have f:=(G t ⋯).fe _ (V t d).1;have s:=(st t d).2 ⋯;have a:=mono t 0 ⋯ ⋯;have b:=mono L (t+1) ⋯ ⋯;rw[B] at b;have:=tr (G (t+1) ⋯).pos (G 0 ⋯).pos (G t ⋯).pos b a;omega
 have val:∀k t,t<=L->((sm m λi=>if S t i=k then tt m A (S t) i n else 0)=0↔(sm m λi=>if S 0 i=k then tt m A (S 0) i n else 0)=0):=by
  intro k t;induction t with
  |zero=>exact λ_=>Iff.rfl
  |succ t H=>
   intro d;rw[<- H ⋯];have h:dd m A (S t)*(sm m λi=>if S (t+1) i=k then tt m A (S (t+1)) i n else 0)=dd m A (S (t+1))*(sm m λi=>if S t i=k then tt m A (S t) i n else 0):=by
    rw[<- bO,<- bO];apply a8;intro i g;by_cases q:i=r t
    .rw[U t ⋯,q,bU,C t ⋯,ite_self,ite_self,mul_zero,mul_zero]
    .have:=dO (G t ⋯).cr (c:=e t) n g (V t ⋯).1 q;rw[C t ⋯,<- U t ⋯,<- dU t ⋯] at this;rw[show S (t+1) i=S t i by rw[U t ⋯];simp[up,q]];split<;>grind
   constructor
   .intro x;rw[x,mul_zero] at h;exact (Int.mul_eq_zero.mp h.symm).resolve_left (nz _ d)
   .intro x;rw[x,mul_zero] at h;exact (Int.mul_eq_zero.mp h).resolve_left (nz _ ⋯)
 have D:∀t,t<L->∀i,i<m->S t i≠e t:=λt d i g q=>by
  have:=(E t d).2.1;rw[<- q,ef g] at this;omega
 have Q:∀t k,t<L->(∃i,i<m/\S (t+1) i=k)->k=e t\/∃i,i<m/\S t i=k:=λt k d ⟨i,g,q⟩=>by
  rw[U t d] at q;unfold up at q;split at q
  .exact .inl q.symm
  .exact .inr ⟨i,g,q⟩
 have out:∀t k,t<L->(∃i,i<m/\S t i=k)->k=S t (r t)\/∃i,i<m/\S (t+1) i=k:=λt k d ⟨i,g,q⟩=>by
  by_cases x:i=r t
  .subst x;exact .inl q.symm
  .refine .inr ⟨i,g,?_⟩;rw[U t d];simp[up,x,q]
 have back:∀k,(∀t,t<L->e t≠k)->∀s t,t<=s->s<=L->(∃i,i<m/\S s i=k)->∃i,i<m/\S t i=k:=by
  intro k J s;induction s with
  |zero=>intro t h _ b;rw[show t=0 by omega];exact b
  |succ s H=>
   intro t h l b;by_cases q:t=s+1
   .rw[q];exact b
   .rcases Q s k ⋯ b with x |x
    .exact absurd x.symm (J s ⋯)
    .exact H t ⋯ ⋯ x
 have O:∀k,(∀t,t<L->S t (r t)≠k)->∀s t,t<=s->s<=L->(∃i,i<m/\S t i=k)->∃i,i<m/\S s i=k:=by
  intro k J s;induction s with
  |zero=>intro t h _ b;rw[show t=0 by omega] at b;exact b
  |succ s H=>
   intro t h l b;by_cases q:t=s+1
   .rw[<- q];exact b
   .rcases out s k ⋯ (H t ⋯ ⋯ b) with x |x
    .exact absurd x.symm (J s ⋯)
    .exact x
 let⟨t,d,big⟩:=zq e hL;have lv:∃s,s<L/\S s (r s)=e t:=by
  apply Classical.byContradiction;intro q;have f:=O (e t) λs l x=>q ⟨s,l,x⟩
  have b1:∃i,i<m/\S (t+1) i=e t:=⟨r t,(V t d).1,by rw[U t d];simp[up]⟩
  have Y:=f L (t+1) ⋯ ⋯ b1;rw[B] at Y;let⟨i,g,x⟩:=f t 0 ⋯ ⋯ Y;exact D t d i g x
 let⟨s,l,hl⟩:=lv;have M:=G s ⋯;have o:=D s l;have K:=wU (e:=e s) M.cr (nz s ⋯) (λi g=>lt_succ_of_lt (M.lt i g)) (lt_succ_of_lt (E s l).1);have k1:=rF (S:=S s) (c:=c) K;have k2:=rF (S:=S t) (c:=c) K;rw[gS (a:=e s) (lt_succ_of_lt (E s l).1),qo o,mul_comm] at k1
 .have k3:=Int.eq_of_mul_eq_mul_left (nz s ⋯) k1;have neg:=(E s l).2.1;rw[k3] at neg;have p:0<=sm (n+1) λk=>zz m A c (S t) k*dr m A (S s) (e s) k:=by
   apply cH;intro k J;have es:e s<e t:=by
    have:=big s l;have:=o (r s) (V s l).1;omega
   by_cases q:k=e s
   .subst q;rw[qo o];exact mul_nonneg ((E t d).2.2.2 _ es (E s l).2.2.1) (le_of_lt M.pos)
   .by_cases b:∃i,i<m/\S s i=k
    .obtain⟨i,g,x⟩:=b;subst x;rw[uW (nz s ⋯) g q];by_cases N:∃u,u<L/\e u=S s i
     .obtain⟨u,v,x⟩:=N;by_cases y:S s i=e t
      .have:i=r s:=u5 (nz s ⋯) g (V s l).1 (y.trans hl.symm);rw[y,this];have a:=(E t d).2.1;have b:=(V s l).2.1;have:=mul_pos (show 0 < - zz m A c (S t) (e t) by omega) b
       grind
      .have lt:S s i<e t:=by have:=big u v;omega
       have z:=(E t d).2.2.2 _ lt (x ▸ (E u v).2.2.1);by_cases p:0<tt m A (S s) i (e s)
       .have v0:tt m A (S s) i n=0:=by
         have w:(sm m λj=>if S u j=S s i then tt m A (S u) j n else 0)=0:=jw λj I=>if_neg λy=>D u v j I (y.trans x.symm)
         have w2:=(val (S s i) s ⋯).mpr ((val (S s i) u ⋯).mp w);rw[gS (a:=i) g,if_pos rfl] at w2
         .exact w2
         .intro j I y;rw[if_neg λz=>y (u5 (nz s ⋯) I g z)]
        have:=(V s l).2.2 i g p;rw[C s l,v0,hl] at this;omega
       .exact mul_nonneg z ⋯
     .have b0:=back (S s i) (λu v x=>N ⟨u,v,x⟩) s 0 ⋯ ⋯ ⟨i,g,rfl⟩;rw[<- B] at b0;let⟨j,I,x⟩:=back (S s i) (λu v x=>N ⟨u,v,x⟩) L t ⋯ ⋯ b0;rw[<- x,ef I,zero_mul];omega
    .rw[oC (λi g x=>b ⟨i,g,x⟩) q,mul_zero];omega
  rw[k2] at p;have:=mul_pos (G t ⋯).pos (show 0 < - sm (n+1) λk=>c k*dr m A (S s) (e s) k by omega)
  grind
 .intro k _ q;by_cases b:∃i,i<m/\S s i=k
  .obtain⟨i,g,x⟩:=b;rw[<- x,ef g,zero_mul]
  .rw[oC (λi g x=>b ⟨i,g,x⟩) q,mul_zero]
end Lp
namespace Lp
variable{m n:Nat}{A:aK}
theorem yf:∀(K:Nat){L:Nat}{f:Nat->Nat},(∀t,t<L->f t<K)->(∀s t,s<t->t<L->f s≠f t)->L<=K
 |0,L,f,h,_=>by
  by_cases q:L=0
  .omega
  .have:=h 0 ⋯;omega
 |K + 1,L,f,h,d=>by
  by_cases q:∃t,t<L/\f t=K
  .obtain⟨t,g,e⟩:=q;have:=yf K (L:=L - 1) (f:=λs=>f (skip t s)) (λs i=>by
    have a:skip t s<L/\skip t s≠t:=by unfold skip;split<;>omega
    have b:=h _ a.1;have c:f (skip t s)≠f t:=by
     by_cases x:skip t s<t
     .exact d _ _ x g
     .exact (d _ _ ⋯ a.1).symm
    show f (skip t s)<K;omega) λs u l j=>d _ _ (by unfold skip;split<;>split<;>omega) (by unfold skip;split<;>omega)
   omega
  .have:=yf K (L:=L) (f:=f) (λt g=>by
    have a:=h t g;have b:f t≠K:=λe=>q ⟨t,g,e⟩
    omega) d
   omega
def code(n:Nat):Nat->(Nat->Nat)->Nat
 |0,_=>0
 |m + 1,S=>code n m S * n + S m
theorem zh{S:Nat->Nat}:∀{m:Nat},(∀i,i<m->S i<n)->code n m S<n ^ m
 |0,_=>by simp[code]
 |m + 1,h=>by
  have a:=zh (m:=m) λi d=>h i ⋯
  have b:=h m ⋯;have c:=Nat.mul_le_mul_right n (Nat.succ_le_of_lt a);rw[code,Nat.pow_succ];rw[succ_mul] at c;omega
theorem zv{S R:Nat->Nat}:∀{m:Nat},(∀i,i<m->S i<n)->(∀i,i<m->R i<n)->code n m S=code n m R->∀i,i<m->S i=R i
 |m + 1,h,g,e,i,d=>by
  rw[code,code] at e;have a:=h m ⋯;have b:=g m ⋯;have f:S m=R m:=by
   have:=congrArg (· % n) e;simp only[Nat.add_comm _ (S m),Nat.add_comm _ (R m),Nat.add_mul_mod_self_right,Nat.mod_eq_of_lt a,Nat.mod_eq_of_lt b] at this;exact this
  by_cases q:i=m
  .subst q;exact f
  .refine zv (m:=m) (λi d=>h i ⋯) (λi d=>g i ⋯) ?_ i ⋯;exact Nat.eq_of_mul_eq_mul_right ⋯ (show code n m S*n=code n m R*n by omega)
def Cd(m n:Nat)(A:aK)(c:Nat->Int)(sh:Nat->Prop)(S a:Nat->Nat):Prop:=∃r e,Ent m n A c sh S e/\Lv m n A S r e/\a=up S r e
def Ch(m n:Nat)(A:aK)(c:Nat->Int)(sh:Nat->Prop):Nat->(Nat->Nat)->Prop
 |0,_=>True
 |L + 1,S=>∃a,Cd m n A c sh S a /\ Ch m n A c sh L a
def jz(m n:Nat)(A:aK)(c:Nat->Int)(sh:Nat->Prop)(S:Nat->Nat)(N:Nat):Prop:=∀L,Ch m n A c sh L S->L<=N
theorem jz.step{c:Nat->Int}{sh:Nat->Prop}{S a:Nat->Nat}{N:Nat}(B:jz m n A c sh S N)(s:Cd m n A c sh S a):0<N/\jz m n A c sh a (N - 1):=
 ⟨B 1 ⟨a,s,trivial⟩,λL h=>by have:=B (L+1) ⟨a,s,h⟩;omega⟩
theorem Ch.seq{c:Nat->Int}{sh:Nat->Prop}:∀{L:Nat}{S:Nat->Nat},Gd m n A S->Ch m n A c sh L S->∃(T:Nat->Nat->Nat)(r e:Nat->Nat),T 0=S/\(∀t,t<=L->Gd m n A (T t))/\(∀t,t<L->Ent m n A c sh (T t) (e t)/\Lv m n A (T t) (r t) (e t)/\T (t+1)=up (T t) (r t) (e t))
 |0,S,G,_=>⟨λ_=>S,λ_=>0,λ_=>0,rfl,λ_ _=>G,λt h=>absurd h ⋯⟩
 |L + 1,S,G,⟨S',⟨r,e,h1,h2,h3⟩,h⟩=>by
  let⟨T,d,a,f,g,s⟩:=Ch.seq (h3 ▸ G.turn h2 h1.1:Gd m n A S') h;refine⟨λt=>match t with |0=>S |t+1=>T t,λt=>match t with |0=>r |t+1=>d t,λt=>match t with |0=>e |t+1=>a t,rfl,λt b=>?_,λt b=>?_⟩
  .cases t with
   |zero=>exact G
   |succ t=>exact g t ⋯
  .cases t with
   |zero=>exact⟨h1,h2,f.trans h3⟩
   |succ t=>exact s t ⋯
theorem Qm{c:Nat->Int}{sh:Nat->Prop}{S:Nat->Nat}(G:Gd m n A S):jz m n A c sh S (n ^ m):=by
 intro L h;let⟨T,r,e,w,g,s⟩:=h.seq G;have out:∀t,t<=L->∀i,m<=i->T t i=S i:=by
  intro t;induction t with
  |zero=>intro _ i _;rw[w]
  |succ t p=>
   intro d i o;let⟨_,v,u⟩:=s t ⋯;have:=v.1;rw[u,<- p ⋯ i o];unfold up;rw[if_neg ⋯]
 have:=yf (n ^ m) (L:=L+1) (f:=λt=>code n m (T t)) (λt d=>zh (g t ⋯).lt) λa b y z q=>by
  have j:=zv (g a ⋯).lt (g b ⋯).lt q;have l:T (a+(b - a))=T (a+0):=by
   rw[show a+(b - a)=b by omega];funext i;by_cases x:i<m
   .exact (j i x).symm
   .rw[out b ⋯ i ⋯];exact (out a ⋯ i ⋯).symm
  exact RF (L:=b - a) (S:=λt=>T (a+t)) (r:=λt=>r (a+t)) (e:=λt=>e (a+t)) ⋯ (λt d=>g _ ⋯) (λt d=>(s _ ⋯).1) (λt d=>(s _ ⋯).2.1) (λt d=>(s (a+t) ⋯).2.2) l
 omega
end Lp
namespace Lp
variable{m n:Nat}{A:aK}{S:Nat->Nat}{c:Nat->Int}{sh:Nat->Prop}
structure eN(m n:Nat)(A:aK)(sh:Nat->Prop)(q:Int)(y:Nat->Int):Prop where
 l6:mC m (n+1) A y
 nn:∀k,k<n->0<=y k
 sz:∀k,k<n->sh k->y k=0
 rhs:y n=-q
theorem Al{f:Nat->Int}:∀{n:Nat},(∀k,k<n->0<=f k)->sm n f=0->∀k,k<n->f k=0
 |n + 1,h,e,k,d=>by
  rw[sm] at e;have a:=cH (n:=n) (f:=f) λk d=>h k ⋯
  have b:=h n ⋯;by_cases q:k=n
  .subst q;omega
  .exact Al (n:=n) (λk d=>h k ⋯) ⋯ k ⋯
theorem eN.cost{q:Int}{y:Nat->Int}(F:eN m n A sh q y)(a:c n=0):dd m A S*sm n (λk=>c k*y k)=sm n (λk=>zz m A c S k*y k) - q*zz m A c S n:=by
 have h:=rF (S:=S) (c:=c) F.l6;rw[sm,sm,F.rhs,a] at h;grind
theorem opt{q:Int}{y:Nat->Int}(b:c n=0)(hz:∀k,k<n->¬ sh k->0<=zz m A c S k)(F:eN m n A sh q y):
  -(q*zz m A c S n)<=dd m A S*sm n (λk=>c k*y k)/\(dd m A S*sm n (λk=>c k*y k)=-(q*zz m A c S n)↔eN m n A (λk=>sh k\/0<zz m A c S k) q y):=by
 have t:∀k,k<n->0<=zz m A c S k*y k:=λk a=>by
  by_cases s:sh k
  .rw[F.sz k a s,mul_zero];omega
  .exact mul_nonneg (hz k a s) (F.nn k a)
 have e:=F.cost (S:=S) b;have p:=cH t;refine⟨⋯,λh=>?_,λG=>?_⟩
 .have z:=Al t ⋯;refine⟨F.l6,F.nn,λk a s=>?_,F.rhs⟩;rcases s with s |s
  .exact F.sz k a s
  .exact (Int.mul_eq_zero.mp (z k a)).resolve_left (ne_of_gt s)
 .rw[e,jw λk a=>?_]
  .omega
  .by_cases s:sh k\/0<zz m A c S k
   .rw[G.sz k a s,mul_zero]
   .have:=hz k a λx=>s (.inl x)
    have d:¬ 0<zz m A c S k:=λx=>s (.inr x)
    rw[show zz m A c S k=0 by omega,zero_mul]
def kD(m n:Nat)(A:aK)(S:Nat->Nat)(k:Nat):Int:=(-1)*dr m A S n k
theorem iE(G:Gd m n A S){i:Nat}(a:i<m):kD m n A S (S i)=tt m A S i n:=by
 unfold kD;rw[uW (ne_of_gt G.pos) a (ne_of_lt (G.lt i a))];omega
theorem d9{k:Nat}(a:k≠n)(h:∀i,i<m->S i≠k):kD m n A S k=0:=by
 unfold kD;rw[oC h a];rfl
theorem jP(G:Gd m n A S)(hs:∀i,i<m->¬ sh (S i)):eN m n A sh (dd m A S) (kD m n A S):=by
 have K:=wU (e:=n) G.cr (ne_of_gt G.pos) (λi a=>lt_succ_of_lt (G.lt i a)) (Nat.lt_succ_self n);refine⟨λi a=>?_,λk d=>?_,λk d s=>?_,?_⟩
 .rw[a8 (g:=λk=>(-1)*(A i k*dr m A S n k)) λk _=>by unfold kD;grind,bO,K i a];rfl
 .by_cases b:∃i,i<m/\S i=k
  .obtain⟨i,a,x⟩:=b;rw[<- x,iE G a];exact G.fe i a
  .rw[d9 ⋯ λi a x=>b ⟨i,a,x⟩];omega
 .exact d9 ⋯ λi a x=>hs i a (x ▸ s)
 .unfold kD;rw[qo λi a=>ne_of_lt (G.lt i a)];omega
theorem MW(G:Gd m n A S){e:Nat}(he:e<n)(hn:∀i,i<m->S i≠e)(ht:∀i,i<m->tt m A S i e<=0)(f:c n=0):
  (∀k,k<n->0<=dr m A S e k)/\mC m (n+1) A (dr m A S e)/\dr m A S e n=0/\sm n (λk=>c k*dr m A S e k)=zz m A c S e:=by
 have K:=wU (e:=e) G.cr (ne_of_gt G.pos) (λi d=>lt_succ_of_lt (G.lt i d)) (lt_succ_of_lt he);have z:dr m A S e n=0:=oC (λi d=>ne_of_lt (G.lt i d)) (Nat.ne_of_gt he);refine⟨λk g=>?_,K,z,?_⟩
 .by_cases q:k=e
  .subst q;rw[qo hn];exact le_of_lt G.pos
  .by_cases b:∃i,i<m/\S i=k
   .obtain⟨i,d,x⟩:=b;rw[<- x,uW (ne_of_gt G.pos) d (hn i d)];have:=ht i d;omega
   .rw[oC (λi d x=>b ⟨i,d,x⟩) q];omega
 .have h:=rF (S:=S) (c:=c) K;rw[gS (a:=e) (lt_succ_of_lt he),qo hn] at h
  .apply Int.eq_of_mul_eq_mul_left (ne_of_gt G.pos);rw[sm,z] at h;grind
  .intro k _ q;by_cases b:∃i,i<m/\S i=k
   .obtain⟨i,d,x⟩:=b;rw[<- x,ef d,zero_mul]
   .rw[oC (λi d x=>b ⟨i,d,x⟩) q,mul_zero]
def gD:Nat->Nat
 |0=>1
 |m + 1=>(m + 1) * gD m
theorem xn{f:Nat->Int}{B:Nat}:∀{n:Nat},(∀k,k<n->(f k).natAbs<=B)->(sm n f).natAbs<=n*B
 |0,_=>by simp[sm]
 |n + 1,h=>by
  have a:=xn (n:=n) λk d=>h k ⋯
  have b:=h n ⋯;have c:=Int.natAbs_add_le (sm n f) (f n);rw[sm,succ_mul];omega
theorem wg{M:Nat}:∀{m:Nat}{v:aK},(∀j i,j<m->i<m->(v j i).natAbs<=M)->(dt m v).natAbs<=gD m*M ^ m
 |0,v,_=>by simp[dt,gD]
 |m + 1,v,h=>by
  rw[dt,gD,Nat.pow_succ,Nat.mul_assoc];apply xn;intro k d;have a:=wg (m:=m) (v:=λj=>v (skip k j)) (M:=M) λj i f e=>h _ _ (by unfold skip;split<;>omega) ⋯
  have b:=h k m d ⋯;have s:(sg (m+k)).natAbs=1:=by unfold sg;split<;>rfl
  rw[natAbs_mul,natAbs_mul,s,Nat.one_mul];have:=mul_le_mul b a;rw[Nat.mul_comm M] at this;rw[<- Nat.mul_assoc];exact this
end Lp
namespace Lp
variable{m n:Nat}{A:aK}{S:Nat->Nat}
def Un(m:Nat)(A:aK)(S:Nat->Nat):Prop:=∀i j,i<m->j<m->A i (S j)=if i=j then 1 else 0
theorem Un.dd(h:Un m A S):dd m A S=1:=by
 rw[<- yb m];exact mw λj i b a=>h i j a b
theorem Un.tt(h:Un m A S){i:Nat}(k:Nat)(f:i<m):tt m A S i k=A i k:=by
 rw[D6 k f,gS (a:=i) f]
 .rw[mw (w:=λj x=>if x=j then 1 else 0),yb,Int.mul_one];intro j x d g;by_cases e:j=i
  .subst e;rw[i6]
  .rw[iA e];exact h x j g d
 .intro j d e;rw[oY (a:=i) (b:=j) (Ne.symm e) f d,mul_zero];intro x g;rw[i6,iA e];exact (h x j g d).symm
theorem Un.gd(h:Un m A S)(lt:∀i,i<m->S i<n)(fe:∀i,i<m->0<=A i n):Gd m n A S:=by
 refine⟨λi k b=>?_,by rw[h.dd];decide,lt,λi b=>by rw[h.tt n b];exact fe i b⟩;rw[h.dd,gS (a:=i) b]
 .rw[h.tt k b,h i i b b,if_pos rfl];grind
 .intro j hj e;rw[h i j b hj,if_neg (Ne.symm e),mul_zero]
theorem jH{M:Nat}(h:∀i k,i<m->k<=n->(A i k).natAbs<=M)(lt:∀i,i<m->S i<n){i k:Nat}(d:k<=n):(tt m A S i k).natAbs<=gD m*M ^ m:=by
 refine wg λj x b a=>?_
 unfold up bs;split
 .exact h x k a d
 .exact h x _ a (Nat.le_of_lt (lt j b))
theorem hU{M:Nat}(h:∀i k,i<m->k<=n->(A i k).natAbs<=M)(lt:∀i,i<m->S i<n):(dd m A S).natAbs<=gD m*M ^ m:=
 wg λj x a b=>h x _ b (Nat.le_of_lt (lt j a))
theorem mL{M C:Nat}{c:Nat->Int}(h:∀i k,i<m->k<=n->(A i k).natAbs<=M)(lt:∀i,i<m->S i<n)(e:∀k,(c k).natAbs<=C){k:Nat}(f:k<=n):(zz m A c S k).natAbs<=(m+1)*(C*(gD m*M ^ m)):=by
 unfold zz;have a:=hU h lt;have b:(sm m λi=>c (S i)*tt m A S i k).natAbs<=m*(C*(gD m*M ^ m)):=xn λi g=>by
  rw[natAbs_mul];exact mul_le_mul (e _) (jH h lt f)
 have d:(dd m A S*c k).natAbs<=C*(gD m*M ^ m):=by rw[natAbs_mul,Nat.mul_comm];exact mul_le_mul (e k) a
 have:=Int.natAbs_sub_le (dd m A S*c k) (sm m λi=>c (S i)*tt m A S i k);rw[succ_mul];omega
end Lp
namespace Sf
open PySem L2 Vc Pu
local macro_rules | `(tactic| walk_at "c") => `(tactic| exact ⟨rfl, rfl, rfl, by decide +kernel, rfl, by decide +kernel, by decide +kernel⟩)
local macro_rules | `(tactic| walk_at "k") => `(tactic| decide +kernel)
def inClass(s:Stmt)(j:Nat):Stmt:=match s with
 |.ClassDef _ _ _ a _ _ _ _ _ _ _=>a.getD j (.Pass ⟨0,0,0,0⟩)
 |_=>.Pass ⟨0,0,0,0⟩
def top(i:Nat):Stmt:=PySem.Challenge.pw_springframe_k42_whole_the_same_placing.main.body.getD i (.Pass ⟨0,0,0,0⟩)
abbrev C4:Stmt:=top 7
abbrev CA:Stmt:=top 8
abbrev Ak:Stmt:=top 9
abbrev AB:Stmt:=top 10
abbrev DM:Stmt:=top 11
abbrev Ag:Stmt:=top 12
abbrev GD:Stmt:=top 13
abbrev B0:Stmt:=top 19
abbrev Ba:Stmt:=top 21
abbrev Co:Stmt:=top 22
abbrev acl:Stmt:=top 25
abbrev Aa:Stmt:=top 27
abbrev zS:Stmt:=top 28
abbrev Dk:Stmt:=top 29
abbrev DE:Stmt:=top 32
abbrev EU:Stmt:=top 33
abbrev Eg:Stmt:=top 34
abbrev B4:Stmt:=top 35
abbrev Bv:Stmt:=top 37
abbrev zI:Stmt:=top 38
abbrev Bs:Stmt:=top 39
abbrev Ar:Stmt:=top 40
abbrev BS:Stmt:=top 41
abbrev DR:Stmt:=top 42
abbrev zb:Stmt:=top 43
abbrev Ep:Stmt:=top 44
abbrev Bf:Stmt:=top 45
abbrev zM:Stmt:=top 46
abbrev Ez:Stmt:=inClass (top 23) 0
abbrev Ca:Stmt:=inClass (top 23) 1
abbrev Gq:Stmt:=inClass (top 23) 2
abbrev BG:Stmt:=inClass (top 23) 3
abbrev A9:Stmt:=inClass (top 23) 4
abbrev CM:Stmt:=inClass (top 23) 5
abbrev Ed:Stmt:=inClass (top 23) 6
abbrev zr:Stmt:=inClass (top 23) 7
abbrev CQ:Stmt:=inClass (top 23) 8
abbrev Fs:Stmt:=inClass (top 24) 0
abbrev EB:Stmt:=inClass (top 24) 1
abbrev Ae:Stmt:=inClass (top 24) 2
abbrev BO:Stmt:=inClass (top 24) 3
abbrev A7:Stmt:=inClass (top 24) 4
abbrev Dz:Stmt:=inClass (top 24) 5
abbrev DI:Stmt:=inClass (top 24) 6
abbrev z7:Stmt:=inClass (top 24) 7
abbrev F9:Stmt:=inClass (top 24) 9
abbrev AU:Stmt:=inClass (top 24) 10
abbrev ze:Stmt:=inClass (top 24) 11
abbrev AV:Stmt:=inClass (top 24) 12
abbrev act:Stmt:=inClass (top 24) 13
abbrev Cz:Stmt:=inClass (top 24) 14
abbrev Ff:Stmt:=inClass (top 4) 0
theorem RA:bT ["top","bottom","divisor"] ["top","bottom"] (bE C4):=by walk_at "c"
theorem L5:bT ["one","other","remainder"] ["one","other"] (bE CA):=by walk_at "c"
theorem Na:bT ["one","other"] ["one","other"] (bE Ak):=by walk_at "c"
theorem Vp:bT ["one","other"] ["one","other"] (bE AB):=by walk_at "c"
theorem Km:bT ["one","other"] ["one","other"] (bE DM):=by walk_at "c"
theorem Pe:bT ["one","other"] ["one","other"] (bE Ag):=by walk_at "c"
theorem NG:bT ["one","other"] ["one","other"] (bE GD):=by walk_at "c"
theorem Wz:bT ["rows","unknowns"] ["rows","unknowns"] (bE B0):=by walk_at "c"
theorem Qg:bT ["fractions","bottom","fraction"] ["fractions"] (bE Ba):=by walk_at "c"
theorem Lb:bT ["fractions","bottom"] ["fractions","bottom"] (bE Co):=by walk_at "c"
theorem N9:bT ["rows","unknowns","sheet"] ["rows","unknowns"] (bE acl):=by walk_at "c"
theorem Oz:bT ["rows","unknowns","numbers","sheet","missed","shown","number","price"] ["rows","unknowns","numbers"] (bE Aa):=by walk_at "c"
theorem J4:bT ["rows","unknowns","numbers","clash","number","fewer"] ["rows","unknowns","numbers"] (bE zS):=by walk_at "c"
theorem Jz:bT ["rows","unknowns","numbers","sheet","clash"] ["rows","unknowns","numbers"] (bE Dk):=by walk_at "c"
theorem Mu:bT ["unknowns"] ["unknowns"] (bE DE):=by walk_at "c"
theorem IY:bT ["sheet","unknowns","ranks"] ["sheet","unknowns"] (bE EU):=by walk_at "c"
theorem SE:bT ["rows","unknowns","sheet","costs"] ["rows","unknowns"] (bE Eg):=by walk_at "c"
theorem Mh:bT ["rows","unknowns","sheet","settled","papers","place","goal","prices_and_shares"] ["rows","unknowns"] (bE B4):=by walk_at "c"
theorem Pc:bT ["_law_script","_law_k"] ["_law_script","_law_k"] (bE Bv):=by walk_at "c"
theorem OU:bT ["_law_cell","_law_k","_law_base","_law_left","_law_step","_law_number"] ["_law_cell","_law_k"] (bE zI):=by walk_at "c"
theorem S2:bT ["_law_one","_law_other_here"] ["_law_one","_law_other_here"] (bE Bs):=by walk_at "c"
theorem Q6:bT ["_law_top","_law_bottom","_law_both"] ["_law_top","_law_bottom"] (bE Ar):=by walk_at "c"
theorem VL:bT ["_law_cell","_law_some","_law_bottoms","_law_parts","_law_k","_law_name","_law_number","_law_kind","_law_rank","_law_weight"] ["_law_cell","_law_some","_law_bottoms"] (bE BS):=by walk_at "c"
theorem UQ:bT ["_law_one","_law_top","_law_bottom","_law_parts","_law_name","_law_number","_law_kind"] ["_law_one","_law_top","_law_bottom"] (bE DR):=by walk_at "c"
theorem Mv:bT ["_law_rows","_law_first","_law_found","_law_k","_law_one","_law_mixed","_law_top","_law_bottom"] ["_law_rows","_law_first"] (bE zb):=by walk_at "c"
theorem Jf:bT ["_law_rows","_law_first","_law_found","_law_k","_law_one","_law_at"] ["_law_rows","_law_first"] (bE Ep):=by walk_at "c"
theorem Af:bT ["_law_rows","_law_some","_law_found","_law_clash"] ["_law_rows","_law_some"] (bE Bf):=by walk_at "c"
theorem T2:bT ["_law_script","_law_first","_law_some","_law_rows","_law_others","_law_found","_law_clash","_law_told","_law_other_here","_law_one"] ["_law_script"] (bE zM):=by walk_at "c"
theorem UL:bT ["self","lines","solved"] ["self","lines","solved"] (bE Ez):=by walk_at "c"
theorem OV:bT ["self","costs","left","line","column","cost"] ["self","costs"] (bE Ca):=by walk_at "c"
theorem Ts:bT ["self","costs","column","line"] ["self","costs"] (bE Gq):=by walk_at "c"
theorem U6:bT ["self","costs","left","column"] ["self","costs"] (bE BG):=by walk_at "c"
theorem H9:bT ["self","column","best","number","line"] ["self","column"] (bE A9):=by walk_at "c"
theorem GN:bT ["self","number","best","column","line","other","one_way","other_way"] ["self","number","best","column"] (bE CM):=by walk_at "c"
theorem Kw:bT ["self","number","column","turned","middle","lines","line","entry"] ["self","number","column"] (bE Ed):=by walk_at "c"
theorem NZ:bT ["self","costs","mark","left","column"] ["self","costs","mark"] (bE zr):=by walk_at "c"
theorem QF:bT ["self","column"] ["self","column"] (bE CQ):=by walk_at "c"
theorem M4:bT ["self","rows","unknowns","lines","solved","number","one","line","upright"] ["self","rows","unknowns"] (bE Fs):=by walk_at "c"
theorem RU:bT ["self"] ["self"] (bE EB):=by walk_at "c"
theorem R5:bT ["self","number"] ["self","number"] (bE Ae):=by walk_at "c"
theorem V4:bT ["self","number"] ["self","number"] (bE BO):=by walk_at "c"
theorem LY:bT ["self","number","one","fractions","scale","entries","line"] ["self","number","one"] (bE A7):=by walk_at "c"
theorem V1:bT ["self","rank","costs","number","one","cost"] ["self","rank"] (bE Dz):=by walk_at "c"
theorem UG:bT ["self","parts","costs"] ["self","parts"] (bE DI):=by walk_at "c"
theorem Wx:bT ["self","costs","scale","numbers","column","fall","left"] ["self","costs"] (bE z7):=by walk_at "c"
theorem IZ:bT ["self","place"] ["self","place"] (bE F9):=by walk_at "c"
theorem Uw:bT ["self","told","place","unknown"] ["self"] (bE AU):=by walk_at "c"
theorem Ud:bT ["self","place","left","shares","ahead","share"] ["self","place"] (bE ze):=by walk_at "c"
theorem Nb:bT ["self","left","ahead","share","column","mark","needed"] ["self","left","ahead"] (bE AV):=by walk_at "c"
theorem L9:bT ["self","left"] ["self","left"] (bE act):=by walk_at "c"
theorem IK:bT ["self","number","left","below","above","kind","scale"] ["self","number","left"] (bE Cz):=by walk_at "c"
theorem OZ:bT ["self","numbers","weights"] ["self","numbers","weights"] (bE Ff):=by walk_at "c"
set_option genInjectivity false in
set_option genSizeOf false in
structure Tx(w:World)(K:ao)(mg:bx) where
 {aaa:af}
 RG:mg "Table"=some (.ref aaa)
 iS:gn K aaa
 vj:bg K aaa "lines"
 ya:bg K aaa "solved"
 xH:bg K aaa "bottom"
 xi:bg K aaa "shut"
 {aah:af}
 Ho:mg "Sheet"=some (.ref aah)
 fu:gn K aah
 qC:bg K aah "rows"
 nQ:bg K aah "unknowns"
 vD:bg K aah "scales"
 xl:bg K aah "settled"
 tm:bg K aah "table"
 jC:dz K mg "part" C4 ["top","bottom"]
 qK:dz K mg "greatest_divisor" CA ["one","other"]
 tZ:dz K mg "plus" Ak ["one","other"]
 nO:dz K mg "minus" AB ["one","other"]
 mQ:dz K mg "times" DM ["one","other"]
 pM:dz K mg "over" Ag ["one","other"]
 sD:dz K mg "under" GD ["one","other"]
 uA:dz K mg "check_many" B0 ["rows","unknowns"]
 ra:dz K mg "common_bottom" Ba ["fractions"]
 q5:dz K mg "whole_numbers" Co ["fractions","bottom"]
 qM:dz K mg "settled_musts" acl ["rows","unknowns"]
 qj:dz K mg "shown_clash" Aa ["rows","unknowns","numbers"]
 uj:dz K mg "least_clash" zS ["rows","unknowns","numbers"]
 rH:dz K mg "fitted" Dk ["rows","unknowns","numbers"]
 sk:dz K mg "goals_of" DE ["unknowns"]
 tL:dz K mg "goal_costs" EU ["sheet","unknowns"]
 rY:dz K mg "settled_sheet" Eg ["rows","unknowns"]
 sW:dz K mg "laid" B4 ["rows","unknowns"]
 ua:dz K mg "_law_cell_at" Bv ["_law_script","_law_k"]
 iQ:dz K mg "_law_mix" zI ["_law_cell","_law_k"]
 tX:dz K mg "_law_divisor" Bs ["_law_one","_law_other_here"]
 my:dz K mg "_law_lowest" Ar ["_law_top","_law_bottom"]
 sF:dz K mg "_law_row" BS ["_law_cell","_law_some","_law_bottoms"]
 uL:dz K mg "_law_times" DR ["_law_one","_law_top","_law_bottom"]
 tQ:dz K mg "_law_other" zb ["_law_rows","_law_first"]
 tU:dz K mg "_law_turned_about" Ep ["_law_rows","_law_first"]
 qf:dz K mg "_law_laid" Bf ["_law_rows","_law_some"]
 lF:dz K mg "law" zM ["_law_script"]
 uw:uD K aaa "Table.__init__" Ez ["self","lines","solved"]
 q9:eO K aaa "costs_left" "Table.costs_left" Ca ["self","costs"]
 uF:eO K aaa "go_down" "Table.go_down" Gq ["self","costs"]
 pq:eO K aaa "falling" "Table.falling" BG ["self","costs"]
 tf:eO K aaa "first_stop" "Table.first_stop" A9 ["self","column"]
 sQ:eO K aaa "stops_ahead" "Table.stops_ahead" CM ["self","number","best","column"]
 sT:eO K aaa "turn" "Table.turn" Ed ["self","number","column"]
 tW:eO K aaa "shut_rising" "Table.shut_rising" zr ["self","costs","mark"]
 tP:eO K aaa "told" "Table.told" CQ ["self","column"]
 rO:uD K aah "Sheet.__init__" Fs ["self","rows","unknowns"]
 rV:eO K aah "columns" "Sheet.columns" EB ["self"]
 nh:eO K aah "below" "Sheet.below" Ae ["self","number"]
 l0:eO K aah "above" "Sheet.above" BO ["self","number"]
 uo:eO K aah "line_of" "Sheet.line_of" A7 ["self","number","one"]
 pN:eO K aah "rank_costs" "Sheet.rank_costs" Dz ["self","rank"]
 ui:eO K aah "sum_costs" "Sheet.sum_costs" DI ["self","parts"]
 qQ:eO K aah "settle" "Sheet.settle" z7 ["self","costs"]
 nT:eO K aah "value" "Sheet.value" F9 ["self","place"]
 uI:eO K aah "placing" "Sheet.placing" AU ["self"]
 tT:eO K aah "paper" "Sheet.paper" ze ["self","place"]
 rM:eO K aah "share_of" "Sheet.share_of" AV ["self","left","ahead"]
 pG:eO K aah "prices" "Sheet.prices" act ["self","left"]
 uM:eO K aah "price" "Sheet.price" Cz ["self","number","left"]
 {abe:af}
 jj:mg "NOUGHT"=some (.ref abe)
 jo:zc K abe (([0,1]:aI).map V.int)
 {abh:af}
 LQ:mg "ONE"=some (.ref abh)
 Sj:zc K abh (([1,1]:aI).map V.int)
 {abk:Tok}
 vz:mg "MUST"=some (.int (0) abk)
 {abm:Tok}
 GB:mg "MOST_RANK"=some (.int (4) abm)
 {abo:Tok}
 VQ:mg "MOST_ROWS"=some (.int (16) abo)
 {abq:Tok}
 Uu:mg "MOST_UNKNOWNS"=some (.int (8) abq)
 {abt:af}
 MQ:mg "FrameError"=some (.ref abt)
 {abv:af}
 O5:mg "TooMany"=some (.ref abv)
 VS:W.excIn K abv [.type "ValueError",.type "Exception",.type "BaseException",.type "object"] "ValueError.__new__"=true
 {aby:af}
 Fv:mg "Clash"=some (.ref aby)
 {abA:af}
 WM:mg "NoPart"=some (.ref abA)
 lR:yW K aby abt "Clash.__init__" Ff ["self","numbers","weights"]
 Kj:W.findIn K (.ref aby) "numbers"=some none
 IS:W.findIn K (.ref aby) "weights"=some none
 TC:W.exmOne K (.ref aby) (.ref aby)=some true
 vQ:mg "abs"=none
 gX:mg "len"=none
 k7:mg "range"=none
 VE:mg "isinstance"=none
 RS:mg "tuple"=none
 gk:mg "list"=none
 WN:mg "any"=none
 k6:mg "enumerate"=none
 pZ:mg "zip"=none
 UO:mg "reversed"=none
 HX:mg "int"=none
section
variable{P:Program}{w:World}{K:ao}{mg:bx}{base:aU}
@[inline] def Cq:String:="RZ Ri Wv MP Rn HP Nv Q7 Q4 KG Lr Np R8 Ii MB QR OG RI Rl NB TF Iv QV IM KS PN Wb nv Ji Lo bY fC iF e9 fw TN Qc Wy KL Tn Lh HW K7 Lx UD TX OQ Oc US Ln Ti Va PL JP NO Ww Il Uy Ul GC Be zE TL Kr OD Hk OS MJ Vs WH Pa Q0 Qd Rg Jb IX Kg Qf ON V7 UU HS zt NI Ny JV RT Gu IV TJ U3 Dt Tp C5 OP Ic WA DV Mm GL IW Ls GQ U2 TB Nx Sx Of OK Pl Oa VJ II Ry Wg Mr Ub Hy Nn Pq VZ SY JN Qb NP Ma O3 mF getD_some TH R6 Ot QJ Li LZ Nt IF JC Kz CG HV JK Iz O9 Jc QQ Sh Io RE Jn length_map OM HM G4 VM GH EE PV gN V2 v9 Im Wh gO Uz Wi u9 S1 w_lt Iu Sa IJ C1 OB GZ Qv Ie LK U8 G5 jY UB Nw J8 GY JR Sn Hl VC P8 List.getElem?_cons_succ List.getElem?_cons_zero List.set_cons_zero List.set_cons_succ cT bp cv cw cR Bool.and_self if_true if_false true_and cons_append nil_append List.replicate Nat.reduceSub length_cons length_nil Nat.reduceAdd Nat.reduceLeDiff decide_true decide_false Bool.not_true Bool.not_false Bool.false_eq_true Qr Hw RB MZ UZ Iw lB ie jd gi gx BC nY qg lY gT L3 Hd S7 UN zK CF Ws tO WC Tr.int.injEq"
local macro_rules |`(tactic|rfl')=>do
 let a:=((Cq++" VY").splitOn " ").toArray.map λx=>Lean.mkIdent x.toName
 `(tactic|simp only[$[$a:ident],*])
local macro_rules |`(tactic|walk_at "q")=>do
 let a:=(Cq.splitOn " ").toArray.map λx=>Lean.mkIdent x.toName
 `(tactic|simp only[$[$a:ident],*])
def dA:Fl->Fl |.o=>.l true |.f=>.f |.l b=>.l b
def d6:Fl->Fl |.o=>.o |.f=>.f |.l _=>.l false
instance:ae (bK):=⟨λo=>match o with |none=>.aM |some n=>.int n,λo=>by cases o<;>rfl,λo z=>by cases o<;>cases z⟩
def mT(m:aT):bw:=m.map λp=>(p.1,ae.t p.2)
structure gy where
 ls:List (aI)
 so:aI
 bt:Int
 m:aT
structure gL where
 rs:av
 us:ah
 sc:aI
 ss:bq
 tb:gy
def fK(f:Fl)(S:gy):bz:=[("lines",ae.t S.ls),("solved",.ag f ↥S.so),("bottom",.int S.bt),("shut",.aO f (mT S.m))]
def bX(T:Tx w K mg)(f:Fl)(S:gy):Tr:=.ins f T.aaa (fK f S)
def gI(T:Tx w K mg)(f:Fl)(S:gL):bz:=[("rows",ae.t S.rs),("unknowns",ae.t S.us),("scales",.ag f ↥S.sc),("settled",.ag f ↥S.ss),("table",bX T f S.tb)]
def b7(T:Tx w K mg)(f:Fl)(S:gL):Tr:=.ins f T.aah (gI T f S)
def jF(f:Fl)(rs:av)(us:ah)(sc:aI):bz:=[("rows",ae.t rs),("unknowns",ae.t us),("scales",.ag f ↥sc),("settled",.ag f [])]
def gU(T:Tx w K mg)(f:Fl)(rs:av)(us:ah)(sc:aI):Tr:=.ins f T.aah (jF f rs us sc)
def sR(T:Tx w K mg)(C:af)(g:Nat):Prop:=C=T.aaa/\g=0
def xo(T:Tx w K mg)(C:af)(g:Nat):Prop:=C=T.aah/\g=0
theorem j9(T:Tx w K mg){x q:Str}{st:Stmt}{e:ah}{m lo n:Nat}{z:Bool}{g:bQ}(r:eO K T.aaa x q st e)(G:aJ P w K mg base bM m r.a r.d e (bR K z lo n g)):∀C i,sR T C i->fA P w K mg base bM m x C e (bR K z lo n g):=λC i h=>by
 let⟨rfl,rfl⟩:=h;exact⟨T.iS,_,_,r.t,G,r.b⟩
theorem eS(T:Tx w K mg){x q:Str}{st:Stmt}{e:ah}{m lo n:Nat}{z:Bool}{g:bQ}(r:eO K T.aah x q st e)(G:aJ P w K mg base bM m r.a r.d e (bR K z lo n g)):∀C i,xo T C i->fA P w K mg base bM m x C e (bR K z lo n g):=λC i h=>by
 let⟨rfl,rfl⟩:=h;exact⟨T.fu,_,_,r.t,G,r.b⟩
theorem vw[ae j](f:Fl)(xs:List j):aG (.ag f ↥xs)=.ag (dA f) ↥xs:=by
 cases f with
 |f=>rfl
 |o=>show Tr.ag _ (cT _)=_;rw[BC];rfl
 |l b=>rfl
theorem wK[ae j](f:Fl)(xs:List j):dn (.ag f ↥xs)=.ag (d6 f) ↥xs:=by
 cases f with
 |f=>show Tr.ag .f (cv _)=_;rw[qg];rfl
 |o=>show Tr.ag .o (cv _)=_;rw[qg];rfl
 |l b=>show Tr.ag (.l false) (cv _)=_;rw[qg];rfl
theorem P9(f:Fl):aG (.ag f [])=.ag (dA f) []:=by cases f<;>rfl
theorem KN(f:Fl):dn (.ag f [])=.ag (d6 f) []:=by cases f<;>rfl
theorem QD(f:Fl)(m:aT):aG (.aO f (mT m))=.aO (dA f) (mT m):=by
 cases f with
 |f=>rfl
 |o=>show Tr.aO _ (dS _)=_;rw[show dS (mT m)=mT m from (cu _ (jx m)).l];rfl
 |l b=>rfl
theorem Pn(f:Fl)(m:aT):dn (.aO f (mT m))=.aO (d6 f) (mT m):=by
 have e:hW (mT m)=mT m:=(cu _ (jx m)).d;cases f with
 |f=>show Tr.aO .f (hW _)=_;rw[e];rfl
 |o=>show Tr.aO .o (hW _)=_;rw[e];rfl
 |l b=>show Tr.aO (.l false) (hW _)=_;rw[e];rfl
theorem wL(f:Fl)(c:af)(fs:bz)(h:f=.o\/bY fs=fs):aG (.ins f c fs)=.ins (dA f) c (bY fs):=by
 rcases h with rfl |h
 .rfl
 .cases f with
  |o=>rfl
  |f=>show Tr.ins .f c fs=_;rw[h];rfl
  |l b=>show Tr.ins (.l b) c fs=_;rw[h];rfl
theorem wF(f:Fl)(c:af)(fs:bz):dn (.ins f c fs)=.ins (d6 f) c (iF fs):=by cases f<;>rfl
theorem ir(T:Tx w K mg)(f:Fl)(S:gy):aG (bX T f S)=bX T (dA f) S:=by
 have e:bY (fK f S)=fK (dA f) S:=by simp only[fK,bY,QD,vw,zt,lB]
 unfold bX;rw[wL _ _ _ ?_,e];cases f with
 |o=>exact .inl rfl
 |f=>exact .inr e
 |l b=>exact .inr e
theorem iC(T:Tx w K mg)(f:Fl)(S:gy):dn (bX T f S)=bX T (d6 f) S:=by
 unfold bX fK;rw[wF];simp only[iF,Pn,wK,Dt,jd]
theorem eQ(T:Tx w K mg)(f:Fl)(S:gL):aG (b7 T f S)=b7 T (dA f) S:=by
 have e:bY (gI T f S)=gI T (dA f) S:=by simp only[gI,bY,vw,ir,lB]
 unfold b7;rw[wL _ _ _ ?_,e];cases f with
 |o=>exact .inl rfl
 |f=>exact .inr e
 |l b=>exact .inr e
theorem fE(T:Tx w K mg)(f:Fl)(S:gL):dn (b7 T f S)=b7 T (d6 f) S:=by
 unfold b7 gI;rw[wF];simp only[iF,wK,iC,jd]
theorem Av(T:Tx w K mg)(f:Fl)(rs:av)(us:ah)(sc:aI):aG (gU T f rs us sc)=gU T (dA f) rs us sc:=by
 have e:bY (jF f rs us sc)=jF (dA f) rs us sc:=by simp only[jF,bY,vw,P9,lB]
 unfold gU;rw[wL _ _ _ ?_,e];cases f with
 |o=>exact .inl rfl
 |f=>exact .inr e
 |l b=>exact .inr e
theorem x6(T:Tx w K mg)(f:Fl)(rs:av)(us:ah)(sc:aI):dn (gU T f rs us sc)=gU T (d6 f) rs us sc:=by
 unfold gU jF;rw[wF];simp only[iF,wK,KN,jd]
theorem gf(T:Tx w K mg)(f:Fl)(S:gy)(Q:az):pV (some (bX T f S)) Q=Q (bX T f S):=rfl
theorem dI(T:Tx w K mg)(f:Fl)(S:gL)(Q:az):pV (some (b7 T f S)) Q=Q (b7 T f S):=rfl
theorem vU(T:Tx w K mg)(f:Fl)(rs:av)(us:ah)(sc:aI)(Q:az):pV (some (gU T f rs us sc)) Q=Q (gU T f rs us sc):=rfl
theorem Ib(m:aT):b9 (.aO .o (mT m))=true:=(cu _ (jx m)).o
theorem nZ[ae j](xs:List j):b9 (.ag .o ↥xs)=true:=lY xs
theorem M7(m:aT):bF (.aO .o (mT m))=true:=(cu _ (jx m)).t
theorem lT[ae j](xs:List j):bF (.ag .o ↥xs)=true:=gT xs
theorem qI(T:Tx w K mg)(S:gy):b9 (bX T .o S)=true:=by
 unfold bX fK;rw[w6];simp only[e9,Ib,nZ,gi,C5,Bool.and_self]
theorem Ey(T:Tx w K mg)(S:gy):bF (bX T .o S)=true:=by
 unfold bX fK;rw[AX];simp only[fw,M7,lT,gx,DV,Bool.and_self]
theorem oh(T:Tx w K mg)(S:gL):b9 (b7 T .o S)=true:=by
 unfold b7 gI;rw[w6];simp only[e9,nZ,qI,gi,Bool.and_self]
theorem qG(T:Tx w K mg)(S:gL):bF (b7 T .o S)=true:=by
 unfold b7 gI;rw[AX];simp only[fw,lT,Ey,gx,Bool.and_self]
theorem MG(T:Tx w K mg)(rs:av)(us:ah)(sc:aI):b9 (gU T .o rs us sc)=true:=by
 unfold gU jF;rw[w6];simp only[e9,nZ,gi,show b9 (.ag .o [])=true from rfl,Bool.and_self]
section
variable(T:Tx w K mg){f:Fl}{S:gL}{B:gy}{Q:az}{rs:av}{us:ah}{sc:aI}
theorem lZ(q:Q (.ag .f ↥B.ls)):gW K "lines" (bX T f B) Q:=g8 ⟨T.iS,T.vj⟩ fm q
theorem p0(q:Q (.ag f ↥B.so)):gW K "solved" (bX T f B) Q:=g8 ⟨T.iS,T.ya⟩ (bZ fm) q
theorem sL(q:Q (.int B.bt)):gW K "bottom" (bX T f B) Q:=g8 ⟨T.iS,T.xH⟩ (bZ (bZ fm)) q
theorem xC(q:Q (.aO f (mT B.m))):gW K "shut" (bX T f B) Q:=g8 ⟨T.iS,T.xi⟩ (bZ (bZ (bZ fm))) q
theorem sv(q:Q (.ag .f ↥S.rs)):gW K "rows" (b7 T f S) Q:=g8 ⟨T.fu,T.qC⟩ fm q
theorem FV(q:Q (.ag .f ↥S.us)):gW K "unknowns" (b7 T f S) Q:=g8 ⟨T.fu,T.nQ⟩ (bZ fm) q
theorem AJ(q:Q (.ag f ↥S.sc)):gW K "scales" (b7 T f S) Q:=g8 ⟨T.fu,T.vD⟩ (bZ (bZ fm)) q
theorem oG(q:Q (.ag f ↥S.ss)):gW K "settled" (b7 T f S) Q:=g8 ⟨T.fu,T.xl⟩ (bZ (bZ (bZ fm))) q
theorem yH(q:Q (bX T f S.tb)):gW K "table" (b7 T f S) Q:=g8 ⟨T.fu,T.tm⟩ (bZ (bZ (bZ (bZ fm)))) q
theorem Rx(q:Q (.ag .f ↥rs)):gW K "rows" (gU T f rs us sc) Q:=g8 ⟨T.fu,T.qC⟩ fm q
theorem O7(q:Q (.ag .f ↥us)):gW K "unknowns" (gU T f rs us sc) Q:=g8 ⟨T.fu,T.nQ⟩ (bZ fm) q
theorem lu{n:Str}{R:Nat->Prop}(q:R 0)(a:(n == ("lines":Str))=false:=by walk_at "k")(b:(n == ("solved":Str))=false:=by walk_at "k")(d:(n == ("bottom":Str))=false:=by walk_at "k")(e:(n == ("shut":Str))=false:=by walk_at "k"):ig (sR T) n (bX T f B) R:=wA ⟨rfl,rfl⟩ (bZ (bZ (bZ (bZ yT e) d) b) a) q
theorem fG{n:Str}{R:Nat->Prop}(q:R 0)(a:(n == ("rows":Str))=false:=by walk_at "k")(b:(n == ("unknowns":Str))=false:=by walk_at "k")(d:(n == ("scales":Str))=false:=by walk_at "k")(e:(n == ("settled":Str))=false:=by walk_at "k")(g:(n == ("table":Str))=false:=by walk_at "k"):ig (xo T) n (b7 T f S) R:=wA ⟨rfl,rfl⟩ (bZ (bZ (bZ (bZ (bZ yT g) e) d) b) a) q
theorem qR{n:Str}{R:Nat->Prop}(q:R 0)(a:(n == ("rows":Str))=false:=by walk_at "k")(b:(n == ("unknowns":Str))=false:=by walk_at "k")(d:(n == ("scales":Str))=false:=by walk_at "k")(e:(n == ("settled":Str))=false:=by walk_at "k"):ig (xo T) n (gU T f rs us sc) R:=wA ⟨rfl,rfl⟩ (bZ (bZ (bZ (bZ yT e) d) b) a) q
end
theorem lS{f g:Str}{v u:Tr}{r:bz}(h:(g == f)=false:=by walk_at "k"):iu g u ((f,v)::r)=(f,v)::iu g u r:=by
 show (if f=g then _ else _)=_;rw[if_neg λz=>by rw[z,beq_self_eq_true] at h;cases h]
theorem qw{f:Str}{v u:Tr}{r:bz}:adc f u ((f,v)::r)=(f,u)::r:=by
 show (if f=f then _ else _)=_;rw[if_pos rfl]
theorem i2{f g:Str}{v u:Tr}{r:bz}(h:(g == f)=false:=by walk_at "k"):adc g u ((f,v)::r)=(f,v)::adc g u r:=by
 show (if f=g then _ else _)=_;rw[if_neg λz=>by rw[z,beq_self_eq_true] at h;cases h]
theorem Vj(S:gy)(a:aT):adc "shut" (.aO .o (mT a)) (fK .o S)=fK .o { S with m:=a }:=by
 unfold fK;rw[i2,i2,i2,qw]
theorem zl(T:Tx w K mg)(S:gL)(B:gy):adc "table" (bX T .o B) (gI T .o S)=gI T .o { S with tb:=B }:=by
 unfold gI;rw[i2,i2,i2,i2,qw]
theorem PF(T:Tx w K mg)(S:gL)(a:bq):adc "settled" (.ag .o ↥a) (gI T .o S)=gI T .o { S with ss:=a }:=by
 unfold gI;rw[i2,i2,i2,qw]
theorem Rv(rs:av)(us:ah)(sc a:aI):adc "scales" (.ag .o ↥a) (jF .o rs us sc)=jF .o rs us a:=by
 unfold jF;rw[i2,i2,qw]
theorem C9(T:Tx w K mg)(S:gL):Tr.ins (.l true) T.aah (bY (gI T .o S))=b7 T (.l true) S:=eQ T .o S
theorem f9{f:Fl}[h:Fp f]:dA f=f:=by cases h<;>rfl
theorem ib{f:Fl}[h:Fp f]:d6 f=f:=by cases h<;>rfl
theorem K0(m:aT)(y:aS)(k:bK):i1 (mT m) y (ae.t k)=mT (if (m.any λp=>decide (p.1=y))=true then m.map (λp=>if p.1=y then (p.1,k) else p) else m++[(y,k)]):=by
 unfold i1;have e:((mT m).any λa=>decide (a.1=y))=m.any λp=>decide (p.1=y):=by unfold mT;rw[List.any_map];rfl
 rw[e];split
 .unfold mT;rw[map_map,map_map];refine map_congr_left λp _=>?_
  show (if p.1=y then (p.1,ae.t k) else (p.1,ae.t p.2))=((if p.1=y then (p.1,k) else p).1,ae.t (if p.1=y then (p.1,k) else p).2)
  split<;>rfl
 .unfold mT;rw[map_append];rfl
theorem BL(T:Tx w K mg){z:Bool}:aJ P w K mg base bM 1 T.qK.a T.qK.d ["one","other"] (bR K z 0 2 Ia):=by
 refine cg T.qK.F L5 rfl ∎ λa7 A outer s H E p r o=>?_
 refine⟨_,(aQ (wm (b5 jW j7 (qv 1) aA) (aQ (bJ 2 (eE (qv 0) (qv 1)))
  (aQ (bJ 0 (qv 1))
  (aY (bJ 1 (qv 2))))))
  (aY (b8 (qv 0)))),?_⟩
 rintro u n _ ⟨_,a,b,rfl,h,i,q⟩;refine⟨λm j=>∃x y z,j=[.int x,.int y,z]/\0<=x/\0<=y/\gd x y=gd a b/\m=y.toNat,⟨_,a,b,.ax,rfl,h,i,rfl,rfl⟩,?_⟩;rintro m j ⟨x,y,z,rfl,g,l,e,rfl⟩;rfl';by_cases f:y=0
 .subst f;rfl';rw[<- e,Tu x g] at q;exact q _
 .rw[if_pos (by simp[f])];refine⟨⋯,?_⟩;refine⟨(x % y).toNat,?_,_,_,_,rfl,l,emod_nonneg _ f,?_,rfl⟩
  .have:=emod_lt_of_pos x (show 0<y by omega);have:=emod_nonneg x f;omega
  .rw[KC g ⋯];exact e
theorem lq(T:Tx w K mg){z:Bool}:aJ P w K mg base bM 2 T.jC.a T.jC.d ["top","bottom"] (bR K z 0 2 TM):=by
 refine cg T.jC.F RA rfl ∎ λa7 A outer s H E l m i=>?_
 refine⟨_,(aQ (c6 (b5 fX fU (qv 1) aA) (aY uN) cZ)
  (aQ (bJ 2 (qc T.qK (BL T) (ar (fH xf vX T.vQ (ar (qv 0) aH)) (ar (fH xf vX T.vQ (ar (qv 1) aH)) aH))))
  (aQ (c6 (b5 lj lz (qv 1) aA) (aY (bJ 2 (gA (qv 2)))) cZ)
  (aY (b8 (gp (ar (fT (qv 0) (qv 2)) (ar (fT (qv 1) (qv 2)) aH)))))))),?_⟩
 rintro n g _ ⟨_,a,b,rfl,e,f,q⟩;rfl';rw[if_neg (by simp[e])];refine⟨rfl,_,_,rfl,by split<;>omega,by split<;>omega,λj=>?_⟩;rw[ME];rw[z0,<- DO e,<- Dp e] at q;unfold dv at q;by_cases h:b<0
 .rw[if_pos h] at q;rw[if_pos (decide_eq_true h)];rfl';exact⟨Dj e f,Dj e f,q _⟩
 .rw[if_neg h] at q;rw[if_neg (by simp[h])];rfl';exact⟨tF e f,tF e f,q _⟩
theorem Td(T:Tx w K mg){z:Bool}:aJ P w K mg base bM 3 T.tZ.a T.tZ.d ["one","other"] (bR K z 0 2 (xO (·+·))):=by
 refine cg T.tZ.F Na rfl ∎ λa7 A outer s H E h i g=>?_
 refine⟨_,(aY (b8 (qc T.jC (lq T) (ar (d8 (dh (aX (qv 0) aA) (aX (qv 1) aA)) (dh (aX (qv 1) aA) (aX (qv 0) aA))) (ar (dh (aX (qv 0) aA) (aX (qv 1) aA)) aH))))),?_⟩;rintro l f _ ⟨_,a,b,rfl,e,q⟩;rfl';refine⟨eJ (iL a) (fZ b) ⋯,eJ (iL b) (fZ a) ⋯,eJ (fZ a) (fZ b) ⋯,rfl,_,_,rfl,pz a b,vu a b e,λj=>?_⟩;rw[<- Rt];exact⟨gi _,q _⟩
theorem xJ(T:Tx w K mg){z:Bool}:aJ P w K mg base bM 3 T.nO.a T.nO.d ["one","other"] (bR K z 0 2 (xO (· - ·))):=by
 refine cg T.nO.F Vp rfl ∎ λa7 A outer s H E h i g=>?_
 refine⟨_,(aY (b8 (qc T.jC (lq T) (ar (mr (dh (aX (qv 0) aA) (aX (qv 1) aA)) (dh (aX (qv 1) aA) (aX (qv 0) aA))) (ar (dh (aX (qv 0) aA) (aX (qv 1) aA)) aH))))),?_⟩;rintro l f _ ⟨_,a,b,rfl,e,q⟩;rfl';refine⟨eJ (iL a) (fZ b) ⋯,eJ (iL b) (fZ a) ⋯,eJ (fZ a) (fZ b) ⋯,rfl,_,_,rfl,pz a b,vu a b e,λj=>?_⟩;rw[<- As];exact⟨gi _,q _⟩
theorem sC(T:Tx w K mg){z:Bool}:aJ P w K mg base bM 3 T.mQ.a T.mQ.d ["one","other"] (bR K z 0 2 (xO (·*·))):=by
 refine cg T.mQ.F Km rfl ∎ λa7 A outer s H E h i g=>?_
 refine⟨_,(aY (b8 (qc T.jC (lq T) (ar (dh (aX (qv 0) aA) (aX (qv 1) aA)) (ar (dh (aX (qv 0) aA) (aX (qv 1) aA)) aH))))),?_⟩;rintro l f _ ⟨_,a,b,rfl,e,q⟩;rfl';refine⟨eJ (iL a) (iL b) ⋯,eJ (fZ a) (fZ b) ⋯,rfl,_,_,rfl,pz a b,vu a b e,λj=>?_⟩;rw[<- Ab];exact⟨gi _,q _⟩
theorem QC(T:Tx w K mg){z:Bool}:aJ P w K mg base bM 1 T.sD.a T.sD.d ["one","other"] (bR K z 0 2 Th):=by
 refine cg T.sD.F NG rfl ∎ λa7 A outer s H E h i g=>?_
 refine⟨_,(aY (b8 (mI lj lz (dh (aX (qv 0) aA) (aX (qv 1) aA)) (dh (aX (qv 1) aA) (aX (qv 0) aA))))),?_⟩;rintro j e _ ⟨_,a,b,rfl,f,q⟩;rfl';refine⟨eJ (iL a) (fZ b) ⋯,eJ (iL b) (fZ a) ⋯,?_⟩;rw[decide_eq_decide.mpr (V8 a b)];exact q _
theorem Bn(a b:Rat):Rat.divInt (a.num*(b.den:Int)) ((a.den:Int)*b.num)=a / b:=by
 rw[<- Rat.divInt_mul_divInt,Rat.num_divInt_den,Rat.div_def,Rat.inv_def]
def RW:bQ:=cY 2 λd Q=>∃a b:Rat,d=[ae.t a,ae.t b]/\b≠0/\bs a+bs b<=7990/\Q (ae.t (a / b))
theorem Gx(T:Tx w K mg){z:Bool}:aJ P w K mg base bM 3 T.pM.a T.pM.d ["one","other"] (bR K z 0 2 RW):=by
 refine cg T.pM.F Pe rfl ∎ λa7 A outer s H E i l h=>?_
 refine⟨_,(aQ (c6 (b5 fX fU (aX (qv 1) aA) aA) (aY uN) cZ)
  (aY (b8 (qc T.jC (lq T) (ar (dh (aX (qv 0) aA) (aX (qv 1) aA)) (ar (dh (aX (qv 0) aA) (aX (qv 1) aA)) aH)))))),?_⟩
 rintro m f _ ⟨_,a,b,rfl,e,g,q⟩;have hn:b.num≠0:=λz=>e (Rat.num_eq_zero.mp z)
 rfl';rw[if_neg (by simp[hn])];refine⟨eJ (iL a) (fZ b) ⋯,eJ (fZ a) (iL b) ⋯,rfl,_,_,rfl,Int.mul_ne_zero (by have:=a.den_nz;omega) hn,le_trans (gu _ _) (by have:=fZ a;have:=iL b;omega),λj=>?_⟩;rw[Bn];exact⟨gi _,q _⟩
def Uk(T:Tx w K mg):fR:=λa Q q=>a.length=2/\∃(f g:Fl)(rs:av)(us:ah)(_:Fp f)(_:Fp g),a=[.ag f ↥rs,.ag g ↥us]/\(16<rs.length\/8<us.length->q (.ref T.abv))/\(rs.length<=16->us.length<=8->∀j,Q .aM j)
theorem Hm(T:Tx w K mg){z:Bool}:aJ P w K mg base (fq P w) 1 T.uA.a T.uA.d ["rows","unknowns"] (ic K z 0 2 (Uk T)):=by
 refine rT T.uA.F Wz rfl ∎ λa7 A outer s H E q n o m=>?_
 refine⟨_,(aY (c6 (QW.t (qS (b5 kJ kE (fH g6 gZ T.gX (ar (qv 0) aH)) (mD T.VQ)) (qx (b5 kJ kE (fH g6 gZ T.gX (ar (qv 1) aH)) (mD T.Uu))))) (aY (Pg rfl rfl rfl rfl rfl rfl T.O5 PySem.F.excBase_ValueError T.VS gE)) cZ)),?_⟩;rintro p i _ ⟨_,f,g,rs,us,_,_,rfl,b,e⟩;rfl';split
 .rename_i c;exact b (.inl (by have:=of_decide_eq_true c;omega))
 .rename_i c;have j:¬ (16:Int)<(rs.length:Int):=λh=>c (decide_eq_true h)
  split
  .rename_i c2;exact b (.inr (by have:=of_decide_eq_true c2;omega))
  .rename_i c2;have l:¬ (8:Int)<(us.length:Int):=λh=>c2 (decide_eq_true h)
   exact e ⋯ ⋯ _
def uH(m n:Nat)(A:aK)(S:Nat->Nat):List (aI):=(List.range m).map λi=>(List.range (n+1)).map (Lp.tt m A S i)
def mZ(m:Nat)(S:Nat->Nat):aI:=(List.range m).map λi=>(S i:Int)
def cm(m n:Nat)(A:aK)(S:Nat->Nat)(mk:aT):gy:=⟨uH m n A S,mZ m S,Lp.dd m A S,mk⟩
structure Sz(m n:Nat)(A:aK):Prop where
 hm:m<=16
 hn:n<=60
 t:∀S i k,(∀i,i<m->S i<n)->k<=n->bi (Lp.tt m A S i k)<=3000
 d:∀S,(∀i,i<m->S i<n)->bi (Lp.dd m A S)<=3000
def cf(ns:aI):Nat->Int:=λk=>ns.getD k 0
def mU(ns:aI)(n:Nat):Prop:=ns.length=n/\∀c∈ns,bi c<=3000
theorem oJ{n i j:Nat}(h:(List.range n)[i]?=some j):j<n/\i=j:=by
 let⟨a,b⟩:=List.getElem?_eq_some_iff.mp h;rw[List.getElem_range] at b;rw[length_range] at a;omega
theorem eK{xs:List j}{s:Nat}{x:j}(h:xs[s]?=some x):cX xs (s:Int)=some x:=by
 let⟨a,e⟩:=List.getElem?_eq_some_iff.mp h;rw[tw xs ⋯ (by simpa using a)];simp[e]
theorem gj[ae j](xs:List j):Pu.ay (.ag .o ↥xs)=ae.t xs:=by show Tr.ag .f (bp _)=_;rw[nY];rfl
theorem Df[ae j](h:i->List j):∀vs:List i,bp (vs.map λv=>.ag .o ((h v).map ae.t))=(vs.map h).map ae.t
 |[]=>rfl
 |v::vs=>by
  show Pu.ay (.ag .o ((h v).map ae.t))::bp (vs.map λv=>.ag .o ((h v).map ae.t))=ae.t (h v)::(vs.map h).map ae.t;rw[Df h vs];show Tr.ag .f (bp _)::_=_;rw[nY];rfl
theorem Am[ae j](h:i->List j):∀vs:List i,cR (vs.map λv=>.ag .o ((h v).map ae.t))=true
 |[]=>rfl
 |v::vs=>by
  show (bF (.ag .o ((h v).map ae.t))&&cR (vs.map λv=>.ag .o ((h v).map ae.t)))=true;rw[Am h vs,lT];rfl
def R0(T:Tx w K mg):bQ:=λa Q=>a.length=3/\∃(f g:Fl)(ls:List (aI))(so:aI)(_:Fp f)(_:Fp g),a=[.ins .o T.aaa [],.ag f ↥ls,.ag g ↥so]/\ls.length<=100/\∀j:ai,j[0]?=some (bX T .o ⟨ls,so,1,[]⟩)->Q .aM j
theorem KP(T:Tx w K mg){z:Bool}:aJ P w K mg base bM 1 T.uw.a T.uw.d ["self","lines","solved"] (bR K z 1 3 (R0 T)):=by
 refine cg T.uw.F UL rfl ∎ λa7 A outer s H E j n h=>?_
 refine⟨_,(aQ (sI (cI 0) (je ["line"] [none] (gm (qv 1)) (fB 0) (λ_ _ _ _ _=>(i3 (jn rfl) jr T.gk (ar (qv 0) aH)))))
  (aQ (mf (cI 0) (i3 (jn rfl) jr T.gk (ar (qv 2) aH)))
  (aQ (mf (cI 0) aA)
  (aY (mf (cI 0) nV))))),?_⟩
 rintro p e _ ⟨_,f,g,ls,so,_,_,rfl,i,q⟩;rfl';refine br.kN ls _ (λl=>.ag .o ↥l) ⋯ (λl m R b=>?_) ?_
 .rfl';exact b
 rw[show Pu.ay (.ag .o (ls.map λl=>.ag .o ↥l))=.ag .f (bp (ls.map λl=>.ag .o ↥l)) from rfl,Df (λl=>l),List.map_id'];refine⟨Am (λl=>l) ls,⟨T.iS,T.vj⟩,∎,⟨T.iS,T.ya⟩,∎,⟨T.iS,T.xH⟩,by (repeat first |rw[nv] |rw[lS]);exact (by decide:2<900),rfl,⟨T.iS,T.xi⟩,by (repeat first |rw[nv] |rw[lS]);exact (by decide:3<900),q _ ?_⟩
 (repeat first |rw[nv] |rw[lS])
 rfl
theorem HY(ns:aI)(d:Int)(S:Nat->Nat)(t:aK)(h:ns.length=n):ns.map (λc=>c*d)++[0]=(List.range (n+1)).map λk=>d*cf ns k - Lp.sm 0 λj=>cf ns (S j)*t j k:=by
 apply ext_getElem?;intro k;rw[getElem?_map,List.getElem?_append,length_map,h];by_cases q:k<n
 .rw[if_pos q,getElem?_map,getElem?_range ⋯,getElem?_eq_getElem ⋯];simp only[map_some,cf,Lp.sm,Int.sub_zero,getD_eq_getElem?_getD,getElem?_eq_getElem (show k<ns.length by omega),getD_some,mul_comm]
 .rw[if_neg q];by_cases e:k=n
  .subst e;rw[getElem?_range ⋯];simp[cf,Lp.sm,getD_eq_getElem?_getD,getElem?_eq_none (show ns.length<=k by omega)]
  .rw[getElem?_eq_none (show (List.range (n+1)).length<=k by rw[length_range];omega),getElem?_eq_none (by simp;omega)];rfl
theorem SV(n:Nat)(a:Nat->Int)(v:Int)(t:Nat->Int):List.zipWith (λx y=>x - v*y) ((List.range (n+1)).map a) ((List.range (n+1)).map t)=(List.range (n+1)).map λk=>a k - v*t k:=by
 rw[List.zipWith_map,List.zipWith_self]
theorem JT{ns:aI}{n:Nat}(h:mU ns n)(k:Nat):bi (cf ns k)<=3000:=by
 unfold cf;rw[getD_eq_getElem?_getD];by_cases q:k<ns.length
 .rw[getElem?_eq_getElem q];exact h.2 _ (List.getElem_mem q)
 .rw[getElem?_eq_none ⋯];decide
theorem Jd{ns:aI}{n k:Nat}(h:ns.length=n)(a:k<n):ns[k]?=some (cf ns k):=by
 unfold cf;rw[getD_eq_getElem?_getD,getElem?_eq_getElem ⋯];rfl
theorem SU(m n:Nat)(M:aK)(S:Nat->Nat)(mk:aT):(cm m n M S mk).ls.zip (cm m n M S mk).so=(List.range m).map λi=>((List.range (n+1)).map (Lp.tt m M S i),(S i:Int)):=by
 show List.zip ((List.range m).map _) ((List.range m).map _)=_;rw[List.zip_eq_zipWith,List.zipWith_map,List.zipWith_self]
def CJ(T:Tx w K mg):bQ:=cY 2 λa Q=>∃(f g:Fl)(m n:Nat)(M:aK)(S:Nat->Nat)(mk:aT)(ns:aI)(_:Fp f)(_:Fp g),a=[bX T f (cm m n M S mk),.ag g ↥ns]/\Sz m n M/\(∀i,i<m->S i<n)/\mU ns n/\Q (ae.t ((List.range (n+1)).map (Lp.zz m M (cf ns) S)))
theorem AD(T:Tx w K mg){z:Bool}:aJ P w K mg base bM 1 T.q9.a T.q9.d ["self","costs"] (bR K z 0 2 (CJ T)):=by
 refine cg T.q9.F OV rfl ∎ λa7 A outer s H E Q U O=>?_
 refine⟨_,(aQ (bJ 2 (d8 (je ["cost","self"] [none,some 0] (gm (qv 1)) (fB 0) (λ_ _ _ _ _=>(dh (qv 0) (cE K (qv 1))))) (eH (ar aA aH))))
  (aQ (fM (qh T.pZ (ar (cE K (qv 0)) (ar (cE K (qv 0)) aH))) (h9 (n:=2) rfl (dE (cS 3) (dE (cS 4) hJ))) (aQ (bJ 5 (aX (qv 1) (qv 4)))
  (aY (c6 (b5 jW j7 (qv 5) aA) (aY (nB 2 ["one","other","cost"] [none,none,some 5] (qh T.pZ (ar (qv 2) (ar (qv 3) aH))) (xp (n:=2) rfl (nM (fB 0) (nM (fB 1) vg))) (λ_ _ _ _ _=>(mr (qv 0) (dh (qv 2) (qv 1)))))) cZ))))
  (aY (b8 (qv 2))))),?_⟩
 rintro Y N _ ⟨_,f,g,m,n,M,S,mk,ns,_,_,rfl,h,v,x,q⟩;have hn:=h.hn;have hm:=h.hm;have B:=x.1;have hd:=h.d S v;rfl';simp only[ir,f9,gf];refine br.map ns _ (λc=>c*Lp.dd m M S) ⋯ (λc I R r=>?_) ?_
 .rfl';simp only[gf];refine sL T ?_;rfl';exact⟨eJ (x.2 c I) hd ⋯,r⟩
 rfl';refine⟨⋯,lZ T (p0 T ?_)⟩;rfl';rw[HY ns (Lp.dd m M S) S (Lp.tt m M S) B];rw[SU,map_map];refine Loop.map (List.range m) _ (λi G=>∃y z u,G=[bX T f (cm m n M S mk),.ag g ↥ns,ae.t ((List.range (n+1)).map λk=>Lp.dd m M S*cf ns k - Lp.sm i λj=>cf ns (S j)*Lp.tt m M S j k),y,z,u]) ⟨_,_,_,rfl⟩ ?_ ?_
 .rintro i j G hj ⟨y,z,u,rfl⟩;let⟨C,rfl⟩:=oJ hj;dsimp only[Function.comp];rfl';refine d0 _ _ _ (eK (Jd B (v i C))) ?_;rfl';by_cases o:cf ns (S i)=0
  .rw[if_neg (by simp[o])];simp only[Lp.sm,o,zero_mul,Int.add_zero];exact⟨_,_,_,rfl⟩
  .rw[if_pos (by simp[o]),gh,gh,jY,jY,tO];refine br.map _ _ (λp=>p.1 - cf ns (S i)*p.2) (by rw[length_zip,length_map,length_range];omega) (λp J R r=>?_) ?_
   .rfl';let⟨k,D,e⟩:=mem_map.mp (of_mem_zip J).2;rw[mem_range] at D;exact⟨eJ (JT x _) (e ▸ h.t S i k v ⋯) ⋯,r⟩
   .have e3:∀L l:aI,(L.zip l).map (λp=>p.1 - cf ns (S i)*p.2)=List.zipWith (λa b=>a - cf ns (S i)*b) L l:=λL l=>by rw[List.zip_eq_zipWith,List.map_zipWith]
    rw[e3,SV,gj];simp only[Lp.sm,<- Int.sub_sub];exact⟨lT _,_,_,_,rfl⟩
 .rintro G ⟨y,z,u,rfl⟩;rfl';rw[length_range];exact q _
def eY(mk:aT)(k:Nat):Prop:=(look (mT mk) (Sum.inl (k:Int))).isSome=true
theorem ox{f:Nat->Int}{n k:Nat}(h:k<n):((List.range n).map f)[k]?=some (f k):=by rw[getElem?_map,getElem?_range h];rfl
section
variable(T:Tx w K mg){f₀ f g:Fl}{m n:Nat}{M:aK}{S:Nat->Nat}{mk:aT}{ns:aI}{Q:az}
theorem Eo[Fp f][Fp g](hz:Sz m n M)(a:∀i,i<m->S i<n)(b:mU ns n)(q:Q (ae.t ((List.range (n+1)).map (Lp.zz m M (cf ns) S)))):ig (sR T) "costs_left" (bX T f₀ (cm m n M S mk)) λ_=>CJ T [bX T f (cm m n M S mk),.ag g ↥ns] λt _=>Q t:=lu T ⟨rfl,f,g,m,n,M,S,mk,ns,‹_›,‹_›,rfl,hz,a,b,λ_=>q⟩
end
def AE(T:Tx w K mg):bQ:=cY 2 λa Q=>∃(f g:Fl)(m n:Nat)(M:aK)(S:Nat->Nat)(mk:aT)(ns:aI)(_:Fp f)(_:Fp g),a=[bX T f (cm m n M S mk),.ag g ↥ns]/\Sz m n M/\(∀i,i<m->S i<n)/\mU ns n/\(∀e:Nat,Lp.Ent m n M (cf ns) (eY mk) S e->Q (.int e))/\((∀k,k<n->¬ eY mk k->0<=Lp.zz m M (cf ns) S k)->Q .aM)
theorem Bi(T:Tx w K mg){z:Bool}:aJ P w K mg base bM 2 T.pq.a T.pq.d ["self","costs"] (bR K z 0 2 (AE T)):=by
 refine cg T.pq.F U6 rfl ∎ λa7 A outer s H E J L D=>?_
 refine⟨_,(aQ (bJ 2 (ew (j9 T T.q9 (AD T)) (qv 0) (ar (qv 1) aH)))
  (aQ (fM (rR T.k7 (ar (fH g6 gZ T.gX (ar (qv 1) aH)) aH)) (cS 3) (aY (c6 (QW.t (kZ (b5 lj lz (aX (qv 2) (qv 3)) aA) (ng (b5 x9 yw (qv 3) (cE K (qv 0)))))) (aY (b8 (qv 3))) cZ)))
  (aY (b8 kP)))),?_⟩
 rintro N C _ ⟨_,f,g,m,n,M,S,mk,ns,_,_,rfl,v,B,u,q⟩;have hn:=v.hn;have I:=u.1;rfl';simp only[ir,iC,f9,ib,gf];refine Eo T v B u ?_;rfl';refine⟨⋯,⋯,Loop.map _ _ (λi G=>(∃y,G=[bX T f (cm m n M S mk),.ag g ↥ns,ae.t ((List.range (n+1)).map (Lp.zz m M (cf ns) S)),y])/\∀k,k<i->¬ eY mk k->0<=Lp.zz m M (cf ns) S k) ⟨⟨_,rfl⟩,λk o=>absurd o ⋯⟩ ?_ ?_⟩
 .rintro i j G hj ⟨⟨y,rfl⟩,o⟩;have p:j<ns.length/\i=j:=by have:=oJ hj;omega
  let⟨p,rfl⟩:=p;rfl';rw[gh,gO,gN];refine d0 _ _ _ (eK (ox (show i<n+1 by omega))) ?_;rfl';have r:(Lp.zz m M (cf ns) S i<0->eY mk i)->∀k,k<i+1->¬ eY mk k->0<=Lp.zz m M (cf ns) S k:=λh k b l=>by
   by_cases e:k=i
   .subst e;have:¬ Lp.zz m M (cf ns) S k<0:=λx=>l (h x)
    omega
   .exact o k ⋯ l
  by_cases h:Lp.zz m M (cf ns) S i<0
  .rw[if_pos (decide_eq_true h)];simp only[ir,f9,gf];refine xC T (show if (!(look (mT mk) (Sum.inl (i:Int))).isSome)=true then _ else _ from ?_);by_cases l:eY mk i
   .rw[if_neg (by rw[show (look (mT mk) (Sum.inl (i:Int))).isSome=true from l];decide)];exact⟨⟨_,rfl⟩,r λ_=>l⟩
   .rw[if_pos (by rw[show (look (mT mk) (Sum.inl (i:Int))).isSome=false from eq_false_of_ne_true l];rfl)];exact q.1 i ⟨⋯,h,l,λk b=>o k b⟩ _
  .rw[if_neg (by simpa using h)];exact⟨⟨_,rfl⟩,r λx=>absurd x h⟩
 .rintro G ⟨⟨y,rfl⟩,o⟩;rfl';exact q.2 (λk b=>o k (by simpa using (show k<ns.length by omega))) _
theorem qE{m n i:Nat}{M:aK}{S:Nat->Nat}{mk:aT}(h:i<m):(cm m n M S mk).ls[i]?=some ((List.range (n+1)).map (Lp.tt m M S i)):=by
 show ((List.range m).map _)[i]?=_;rw[getElem?_map,getElem?_range h];rfl
theorem xT{m n i:Nat}{M:aK}{S:Nat->Nat}{mk:aT}(h:i<m):(cm m n M S mk).so[i]?=some (S i:Int):=by
 show ((List.range m).map _)[i]?=_;rw[getElem?_map,getElem?_range h];rfl
theorem wV{n:Nat}(f:Nat->Int):cX ((List.range (n+1)).map f) (-1)=some (f n):=by
 rw[List.range_succ,map_append];exact BI
def ot(m n:Nat)(M:aK)(S:Nat->Nat)(c i b:Nat):Bool:=decide (Lp.tt m M S i n*Lp.tt m M S b c<Lp.tt m M S b n*Lp.tt m M S i c) || (decide (Lp.tt m M S i n*Lp.tt m M S b c=Lp.tt m M S b n*Lp.tt m M S i c)&&decide ((S i:Int)<(S b:Int)))
def VD(T:Tx w K mg):bQ:=cY 4 λa Q=>∃(f:Fl)(m n:Nat)(M:aK)(S:Nat->Nat)(mk:aT)(i b c:Nat)(_:Fp f),a=[bX T f (cm m n M S mk),.int i,.int b,.int c]/\Sz m n M/\(∀i,i<m->S i<n)/\i<m/\b<m/\c<n/\Q (.bl (ot m n M S c i b))
theorem Wj(T:Tx w K mg){z:Bool}:aJ P w K mg base bM 1 T.sQ.a T.sQ.d ["self","number","best","column"] (bR K z 0 4 (VD T)):=by
 refine cg T.sQ.F GN rfl ∎ λa7 A outer s H E D G B=>?_
 refine⟨_,(aQ (bJ 4 (aX (cE K (qv 0)) (qv 1)))
  (aQ (bJ 5 (aX (cE K (qv 0)) (qv 2)))
  (aQ (bJ 6 (dh (aX (qv 4) (gA aA)) (aX (qv 5) (qv 3))))
  (aQ (bJ 7 (dh (aX (qv 5) (gA aA)) (aX (qv 4) (qv 3))))
  (aY (b8 (P4 (mI lj lz (qv 6) (qv 7)) (wG (z4 (mI fX fU (qv 6) (qv 7)) (wG (mI lj lz (aX (cE K (qv 0)) (qv 1)) (aX (cE K (qv 0)) (qv 2))))))))))))),?_⟩
 rintro I y _ ⟨_,f,m,n,M,S,mk,i,b,c,_,rfl,r,x,p,o,C,q⟩;have hn:=r.hn;rfl';simp only[ir,iC,f9,ib,gf];refine lZ T ?_;rw[gO,gN];refine d0 _ _ _ (eK (qE p)) ⟨gx _,?_⟩;refine lZ T ?_;rw[gO,gN];refine d0 _ _ _ (eK (qE o)) ⟨gx _,?_⟩;rfl';simp only[gh];rfl';have u:∀j,cX ((List.range (n+1)).map (Lp.tt m M S j)) (-1)=some (Lp.tt m M S j n):=λj=>wV _
 have v:∀j,cX ((List.range (n+1)).map (Lp.tt m M S j)) (c:Int)=some (Lp.tt m M S j c):=λj=>eK (ox ⋯)
 simp only[u,v,map_some];rfl';have l:=λj k (h:k<=n)=>r.t S j k x h
 refine⟨eJ (l i n (le_refl _)) (l b c ⋯) ⋯,eJ (l b n (le_refl _)) (l i c ⋯) ⋯,?_⟩;unfold ot at q;by_cases e:Lp.tt m M S i n*Lp.tt m M S b c<Lp.tt m M S b n*Lp.tt m M S i c
 .rw[if_pos (decide_eq_true e)];rw[decide_eq_true e,Bool.true_or] at q;exact q _
 .rw[if_neg (by simpa using e)];rw[decide_eq_false e,Bool.false_or] at q;by_cases g:Lp.tt m M S i n*Lp.tt m M S b c=Lp.tt m M S b n*Lp.tt m M S i c
  .rw[if_pos (decide_eq_true g)];rw[decide_eq_true g,Bool.true_and] at q;refine p0 T ?_;rw[gO,gN];refine d0 _ _ _ (eK (xT p)) (p0 T ?_);rw[gO,gN];refine d0 _ _ _ (eK (xT o)) ?_;exact⟨rfl,q _⟩
  .rw[if_neg (by simpa using g)];rw[decide_eq_false g,Bool.false_and] at q;exact q _
def iU(m n:Nat)(M:aK)(S:Nat->Nat)(c b i:Nat):Prop:=Lp.tt m M S b n*Lp.tt m M S i c<Lp.tt m M S i n*Lp.tt m M S b c\/(Lp.tt m M S b n*Lp.tt m M S i c=Lp.tt m M S i n*Lp.tt m M S b c/\S b<=S i)
def kg(m n:Nat)(M:aK)(S:Nat->Nat)(c i:Nat):Option Nat->Prop
 |none=>∀j,j < i -> Lp.tt m M S j c <= 0
 |some b=>b < i /\ 0 < Lp.tt m M S b c /\ ∀j,j < i -> 0 < Lp.tt m M S j c -> iU m n M S c b j
theorem iU.trans{m n:Nat}{M:aK}{S:Nat->Nat}{c a b i:Nat}(d:0<Lp.tt m M S a c)(f:0<Lp.tt m M S b c)(j:0<Lp.tt m M S i c)(h:iU m n M S c a b)(g:iU m n M S c b i):iU m n M S c a i:=by
 unfold iU at *;generalize Lp.tt m M S a c=x at *;generalize Lp.tt m M S b c=y at *;generalize Lp.tt m M S i c=z at *;generalize Lp.tt m M S a n=u at *;generalize Lp.tt m M S b n=v at *;generalize Lp.tt m M S i n=w at *;have t:=Lp.tr (a:=u) (b:=v) (c:=w) d f j ⋯ ⋯;by_cases e:u*z=w*x
 .refine .inr ⟨e,?_⟩;have l:=Lp.tr (a:=w) (b:=u) (c:=v) j d f ⋯ ⋯;have r2:=Lp.tr (a:=v) (b:=w) (c:=u) f j d ⋯ ⋯;omega
 .exact .inl ⋯
theorem B9{m n:Nat}{M:aK}{S:Nat->Nat}{c i b:Nat}:(ot m n M S c i b=true->iU m n M S c i b)/\(ot m n M S c i b=false->iU m n M S c b i):=by
 unfold ot iU;simp only[Bool.or_eq_true,and_eq_true,decide_eq_true_eq,Bool.or_eq_false_iff,Bool.and_eq_false_iff,decide_eq_false_iff_not];omega
theorem EI{Q:az}:kY false .aM .aM Q=Q (.bl true):=rfl
theorem Fx{Q:az}{i:Int}:kY false (.int i) .aM Q=Q (.bl false):=rfl
theorem Dq{Q:az}:kY true .aM .aM Q=Q (.bl false):=rfl
theorem Ik{Q:az}{i:Int}:kY true (.int i) .aM Q=Q (.bl true):=rfl
def oT:Option Nat->Tr
 |none=>.aM
 |some b=>.int b
theorem Qh(m n:Nat)(M:aK)(S:Nat->Nat)(mk:aT):(cm m n M S mk).ls.zipIdx=(List.range m).map λi=>((List.range (n+1)).map (Lp.tt m M S i),i):=by
 apply ext_getElem?;intro k;rw[getElem?_zipIdx,getElem?_map];by_cases h:k<m
 .rw[qE h,getElem?_range h];simp
 .rw[getElem?_eq_none (show (cm m n M S mk).ls.length<=k by show ((List.range m).map _).length<=k;rw[length_map,length_range];omega),getElem?_eq_none (by rw[length_range];omega)];rfl
theorem kg.skip{m n:Nat}{M:aK}{S:Nat->Nat}{c i:Nat}{o:Option Nat}(h:kg m n M S c i o)(hn:¬ 0<Lp.tt m M S i c):kg m n M S c (i+1) o:=by
 cases o with
 |none=>
  intro j a;by_cases e:j=i
  .subst e;omega
  .exact h j ⋯
 |some b=>
  refine⟨by have:=h.1;omega,h.2.1,λj a p=>?_⟩;by_cases e:j=i
  .subst e;exact absurd p hn
  .exact h.2.2 j ⋯ p
theorem kg.keep{m n:Nat}{M:aK}{S:Nat->Nat}{c i b:Nat}(h:kg m n M S c i (some b))(g:iU m n M S c b i):kg m n M S c (i+1) (some b):=
 ⟨by have:=h.1;omega,h.2.1,λj a p=>by
  by_cases e:j=i
  .subst e;exact g
  .exact h.2.2 j ⋯ p⟩
theorem iU.refl{m n:Nat}{M:aK}{S:Nat->Nat}{c i:Nat}:iU m n M S c i i:=.inr ⟨rfl,le_refl _⟩
theorem kg.take{m n:Nat}{M:aK}{S:Nat->Nat}{c i:Nat}{o:Option Nat}(h:kg m n M S c i o)(hp:0<Lp.tt m M S i c)(g:∀b,o=some b->iU m n M S c i b):kg m n M S c (i+1) (some i):=
 ⟨Nat.lt_succ_self i,hp,λj a p=>by
  by_cases e:j=i
  .subst e;exact .refl
  .cases o with
   |none=>have:=h j ⋯;omega
   |some b=>exact (g b rfl).trans hp h.2.1 p (h.2.2 j ⋯ p)⟩
def TY(T:Tx w K mg):bQ:=cY 2 λa Q=>∃(f:Fl)(m n:Nat)(M:aK)(S:Nat->Nat)(mk:aT)(c:Nat)(_:Fp f),a=[bX T f (cm m n M S mk),.int c]/\Sz m n M/\(∀i,i<m->S i<n)/\c<n/\(∀r:Nat,Lp.Lv m n M S r c->Q (.int r))/\((∀i,i<m->Lp.tt m M S i c<=0)->Q .aM)
theorem LW(T:Tx w K mg){z:Bool}:aJ P w K mg base bM 2 T.tf.a T.tf.d ["self","column"] (bR K z 0 2 (TY T)):=by
 refine cg T.tf.F H9 rfl ∎ λa7 A outer s H E D I C=>?_
 refine⟨_,(aQ (bJ 2 kP)
  (aQ (fM (l7 T.k6 (ar (cE K (qv 0)) aH)) (h9 (n:=2) rfl (dE (cS 3) (dE (cS 4) hJ))) (aY (c6 (QW.t (kZ (b5 kJ kE (aX (qv 4) (qv 1)) aA) (ng (QW.t (qS (b5 DB FH (qv 2) kP) (qx (l9 (ew (j9 T T.sQ (Wj T)) (qv 0) (ar (qv 3) (ar (qv 2) (ar (qv 1) aH))))))))))) (aY (bJ 2 (qv 3))) cZ)))
  (aY (b8 (qv 2))))),?_⟩
 rintro J x _ ⟨_,f,m,n,M,S,mk,c,_,rfl,l,u,v,q⟩;have hn:=l.hn;have hm:=l.hm;rfl';simp only[ir,iC,f9,ib,gf];refine lZ T ?_;rfl';rw[Qh,map_map];refine Loop.map (List.range m) _ (λi G=>∃(o:Option Nat)(y z:Tr),G=[bX T f (cm m n M S mk),.int c,oT o,y,z]/\kg m n M S c i o) ⟨none,_,_,rfl,λj h=>absurd h ⋯⟩ ?_ ?_
 .rintro i j G h ⟨o,y,z,rfl,ho⟩;let⟨p,rfl⟩:=oJ h;dsimp only[Function.comp];rfl';simp only[gh];rfl';refine d0 _ _ _ (eK (ox (show c<n+1 by omega))) ?_;rfl';by_cases g:0<Lp.tt m M S i c
  .rw[if_pos (decide_eq_true g)];cases o with
   |none=>
    rw[show oT none=.aM from rfl];rfl';rw[EI];exact⟨some i,_,_,rfl,ho.take g λb e=>by cases e⟩
   |some b=>
    rw[show oT (some b)=.int b from rfl];rfl';rw[Fx];rfl';simp only[ir,iC,f9,ib,gf];refine lu T ⟨rfl,f,m,n,M,S,mk,i,b,c,‹_›,rfl,l,u,p,Nat.lt_trans ho.1 p,v,λ_=>?_⟩;rfl';cases e:ot m n M S c i b with
    |true=>exact⟨some i,_,_,rfl,ho.take g λB r=>by cases r;exact B9.1 e⟩
    |false=>exact⟨some b,_,_,rfl,ho.keep (B9.2 e)⟩
  .rw[if_neg (by simpa using g)];exact⟨o,_,_,rfl,ho.skip g⟩
 .rintro G ⟨o,y,z,rfl,ho⟩;rw[length_range] at ho;cases o with
  |none=>
   rw[show oT none=.aM from rfl];rfl';exact q.2 ho _
  |some b=>
   rw[show oT (some b)=.int b from rfl];rfl';exact q.1 b ⟨ho.1,ho.2.1,ho.2.2⟩ _
theorem mz{xs:ai}{k:Nat}{t:Tr}{Q:aW}(h:k<xs.length)(q:Q (xs.set k t)):qz xs (.int k) t Q:=by
 show (match hX xs.length (k:Int) with |some n=>Q (xs.set n t) |none=>False);have e:hX xs.length (k:Int)=some k:=by unfold hX;rw[if_pos ⋯,if_pos (by simpa using h)];simp
 rw[e];exact q
theorem Kk{xs:ai}{k:Nat}{t:Tr}{Q:aW}(h:k<xs.length)(q:Q (xs.set k t)):jX (.ag .o xs) λxs=>qz xs (.int k) t Q:=mz h q
theorem FE(F:Nat->j)(i:Nat):(List.range (i+1)).map F=(List.range i).map F++[F i]:=by rw[List.range_succ,map_append];rfl
def nR(m n:Nat)(M:aK)(S:Nat->Nat)(r c i k:Nat):Int:=(Lp.tt m M S i k*Lp.tt m M S r c - Lp.tt m M S i c*Lp.tt m M S r k).fdiv (Lp.dd m M S)
theorem PD{m n:Nat}{M:aK}{S:Nat->Nat}{r c:Nat}(hz:Sz m n M)(G:Lp.Gd m n M S)(a:r<m)(b:c<n)(hp:0<Lp.tt m M S r c):((List.range m).map λj=>(List.range (n+1)).map (nR m n M S r c j)).set r ((List.range (n+1)).map (Lp.tt m M S r))=uH m n M (Lp.up S r c):=by
 apply ext_getElem?;intro i;unfold uH;rw[List.getElem?_set,getElem?_map,getElem?_map,length_map,length_range];by_cases e:r=i
 .subst e;rw[if_pos rfl,if_pos a,getElem?_range a,map_some];congr 1;exact map_congr_left λk _=>Lp.bU.symm
 .rw[if_neg e];by_cases h:i<m
  .rw[getElem?_range h,map_some,map_some];congr 1;refine map_congr_left λk _=>?_
   unfold nR;rw[<- Lp.dO G.cr k h a (Ne.symm e)];exact Int.mul_fdiv_cancel_left _ (ne_of_gt G.pos)
  .rw[getElem?_eq_none (by rw[length_range];omega)];rfl
theorem Sw{m:Nat}{S:Nat->Nat}{r c:Nat}(a:r<m):(mZ m S).set r (c:Int)=mZ m (Lp.up S r c):=by
 apply ext_getElem?;intro i;unfold mZ;rw[List.getElem?_set,getElem?_map,getElem?_map,length_map,length_range];by_cases e:r=i
 .subst e;rw[if_pos rfl,if_pos a,getElem?_range a];simp[Lp.up]
 .rw[if_neg e];by_cases h:i<m
  .rw[getElem?_range h];simp[Lp.up,Ne.symm e]
  .rw[getElem?_eq_none (by rw[length_range];omega)];rfl
theorem D4{f:Str}{v u:Tr}{r:bz}:iu f u ((f,v)::r)=(f,u)::r:=by
 show (if f=f then _ else _)=_;rw[if_pos rfl]
theorem MR(B:gy)(ls:List (aI)):iu "lines" (.ag .f ↥ls) (fK .o B)=fK .o { B with ls:=ls }:=by unfold fK;rw[D4];rfl
theorem Jl(B:gy)(d:Int):iu "bottom" (.int d) (fK .o B)=fK .o { B with bt:=d }:=by unfold fK;rw[lS,lS,D4]
theorem UC(B:gy)(so:aI):adc "solved" (.ag .o ↥so) (fK .o B)=fK .o { B with so:=so }:=by unfold fK;rw[i2,qw]
def ML(T:Tx w K mg):bQ:=λa Q=>a.length=3/\∃(m n:Nat)(M:aK)(S:Nat->Nat)(mk:aT)(r c:Nat),a=[bX T .o (cm m n M S mk),.int r,.int c]/\Sz m n M/\Lp.Gd m n M S/\r<m/\c<n/\0<Lp.tt m M S r c/\∀j:ai,j[0]?=some (bX T .o (cm m n M (Lp.up S r c) mk))->Q .aM j
theorem SJ(T:Tx w K mg){z:Bool}:aJ P w K mg base bM 1 T.sT.a T.sT.d ["self","number","column"] (bR K z 3 3 (ML T)):=by
 refine cg T.sT.F Kw rfl ∎ λa7 A outer s H E hr hu U=>?_
 refine⟨_,(aQ (bJ 3 (aX (cE K (qv 0)) (qv 1)))
  (aQ (c6 (b5 lj lz (aX (qv 3) (qv 2)) aA) (aY (nB 3 ["entry"] [none] (gm (qv 3)) (fB 0) (λ_ _ _ _ _=>(gA (qv 0))))) cZ)
  (aQ (bJ 4 (aX (qv 3) (qv 2)))
  (aQ (gc 5 (eH aH))
  (aQ (fM (gm (cE K (qv 0))) (cS 6) (aQ (bJ 7 (aX (qv 6) (qv 2)))
  (aY (i8 (cI 5) (je ["one","other","self","middle","entry"] [none,none,some 0,some 4,some 7] (qh T.pZ (ar (qv 6) (ar (qv 3) aH))) (xp (n:=2) rfl (nM (fB 0) (nM (fB 1) vg))) (λ_ _ _ _ _=>(fT (mr (dh (qv 0) (qv 3)) (dh (qv 4) (qv 1))) (cE K (qv 2)))))))))
  (aQ (nE (cI 5) (qv 1) (qv 3))
  (oX 5 (aQ (sI (cI 0) (qv 5))
  (aQ (mf (cI 0) (qv 4))
  (aY (nE (oj (cI 0)) (qv 1) (qv 2)))))))))))),?_⟩
 rintro xs Q _ ⟨_,m,n,M,S,mk,r,c,rfl,f,G,b,D,N,q⟩;have hn:=f.hn;have hm:=f.hm;rfl';simp only[ir,iC,dA,d6,gf];refine lZ T ?_;rw[gO,gN];refine d0 _ _ _ (eK (qE b)) ⟨gx _,?_⟩;rfl';simp only[gh];rfl';have x:cX ((List.range (n+1)).map (Lp.tt m M S r)) (c:Int)=some (Lp.tt m M S r c):=eK (ox ⋯);simp only[x,map_some];rfl';rw[if_neg (by simp;omega)];refine lZ T ?_;rfl';rw[show (cm m n M S mk).ls=(List.range m).map λi=>(List.range (n+1)).map (Lp.tt m M S i) from rfl,map_map];refine Loop.map (List.range m) _ (λi J=>∃(y z:Tr),J=[bX T .o (cm m n M S mk),.int r,.int c,ae.t ((List.range (n+1)).map (Lp.tt m M S r)),.int (Lp.tt m M S r c),.ag .o (((List.range i).map λj=>(List.range (n+1)).map (nR m n M S r c j)).map ae.t),y,z]) ⟨_,_,rfl⟩ ?_ ?_
 .rintro i j J hj ⟨y,z,rfl⟩;let⟨Y,rfl⟩:=oJ hj;have B:cX ((List.range (n+1)).map (Lp.tt m M S i)) (c:Int)=some (Lp.tt m M S i c):=eK (ox ⋯);dsimp only[Function.comp];rfl';simp only[gh];rfl';simp only[B,map_some];rfl';simp only[ir,dA];refine br.map _ _ (λp=>(p.1*Lp.tt m M S r c - Lp.tt m M S i c*p.2).fdiv (Lp.dd m M S)) (by rw[length_zip,length_map,length_range];omega) (λp h R C=>?_) ?_
  .rfl';∎;let⟨k,I,e⟩:=mem_map.mp (of_mem_zip h).1;let⟨O,g,v⟩:=mem_map.mp (of_mem_zip h).2;∎;rw[mem_range] at I g;have l:bi p.1<=3000:=by rw[<- e];exact f.t S i k G.lt ⋯
   have u:bi p.2<=3000:=by rw[<- v];exact f.t S r O G.lt ⋯
   refine⟨eJ l (f.t S r c G.lt ⋯) ⋯,eJ (f.t S i c G.lt ⋯) u ⋯,?_⟩;simp only[gf];refine sL T ?_;rfl';exact⟨xK (ne_of_gt G.pos) (le_trans (f.d S G.lt) ⋯),C⟩
  .have eR:((((List.range (n+1)).map (Lp.tt m M S i)).zip ((List.range (n+1)).map (Lp.tt m M S r))).map λp=>(p.1*Lp.tt m M S r c - Lp.tt m M S i c*p.2).fdiv (Lp.dd m M S))=(List.range (n+1)).map (nR m n M S r c i):=by rw[List.zip_map',map_map];rfl
   rw[eR,gj,FE _ i,map_append (l₂:=[_])];exact⟨lT _,by rw[length_range];omega,_,_,rfl⟩
 .rintro J ⟨y,z,rfl⟩;rfl';rw[length_range];refine mz (by rw[length_map,length_map,length_range];exact b) ?_;rw[<- map_set,PD f G b D N,nY];refine⟨gT _,?_⟩;unfold bX;rfl';rw[MR,Jl];refine⟨⟨T.iS,T.vj⟩,(by decide:4<900),⟨T.iS,T.xH⟩,(by decide:4<900),rA rfl ⟨T.iS,T.ya⟩ (bZ fm) ?_⟩;dsimp only[cm];have L:r<((mZ m S).map ae.t).length:=by unfold mZ;rw[length_map,length_map,length_range];exact b
  refine Kk L ?_;rw[show Tr.int (c:Int)=ae.t (c:Int) from rfl,<- map_set,Sw b,UC];refine q _ ?_;unfold bX cm;rw[Lp.dR];rfl
def jK(m:Nat)(mk:aT)(S:Nat->Nat):Prop:=∀i,i<m->¬ eY mk (S i)
def se(m n:Nat)(M:aK)(mk:aT)(c:Nat->Int)(S:Nat->Nat):Prop:=∀k,k<n->¬ eY mk k->0<=Lp.zz m M c S k
def NU(T:Tx w K mg):bQ:=λb Q=>b.length=2/\∃(g:Fl)(m n:Nat)(M:aK)(S:Nat->Nat)(mk:aT)(ns:aI)(_:Fp g),b=[bX T .o (cm m n M S mk),.ag g ↥ns]/\Sz m n M/\Lp.Gd m n M S/\jK m mk S/\mU ns n/\(∀a,Lp.Gd m n M a->jK m mk a->se m n M mk (cf ns) a->∀j:ai,j[0]?=some (bX T .o (cm m n M a mk))->Q .aM j)/\(∀a (e:Nat),Lp.Gd m n M a->jK m mk a->Lp.Ent m n M (cf ns) (eY mk) a e->(∀i,i<m->Lp.tt m M a i e<=0)->∀j:ai,j[0]?=some (bX T .o (cm m n M a mk))->Q (.int e) j)
def EL(m n:Nat)(M:aK)(mk:aT)(c:Nat->Int)(S:Nat->Nat):Option Nat->Prop
 |none=>se m n M mk c S
 |some e=>Lp.Ent m n M c (eY mk) S e
theorem Fy(o:Option Nat):bF (oT o)=true:=by cases o<;>rfl
theorem AS(o:Option Nat):Pu.ay (oT o)=oT o:=by cases o<;>rfl
theorem jK.turn{m n:Nat}{M:aK}{mk:aT}{c:Nat->Int}{S:Nat->Nat}{r e:Nat}(h:jK m mk S)(E:Lp.Ent m n M c (eY mk) S e):jK m mk (Lp.up S r e):=λi a=>by
 unfold Lp.up;split
 .exact E.2.2.1
 .exact h i a
theorem QN(T:Tx w K mg){z:Bool}:aJ P w K mg base bM 3 T.uF.a T.uF.d ["self","costs"] (bR K z 2 2 (NU T)):=by
 refine cg T.uF.F Ts rfl ∎ λa7 A outer s H E hr hu v=>?_
 refine⟨_,(aQ (bJ 2 (ew (j9 T T.pq (Bi T)) (qv 0) (ar (qv 1) aH)))
  (aQ (wm (b5 Bh GA (qv 2) kP) (aQ (bJ 3 (ew (j9 T T.tf (LW T)) (qv 0) (ar (qv 2) aH)))
  (aQ (c6 (b5 DB FH (qv 3) kP) (aY (b8 (qv 2))) cZ)
  (aQ (xa (nG (cI 0) (j9 T T.sT (SJ T)) (kT (qv 3) (kT (qv 2) nD))))
  (aY (bJ 2 (ew (j9 T T.pq (Bi T)) (qv 0) (ar (qv 1) aH))))))))
  (aY (b8 kP)))),?_⟩
 rintro xs Q' _ ⟨_,g,m,n,M,S,mk,ns,_,rfl,C,G,v,O,U,Y⟩;have p:∀(S:Nat->Nat)(q f:Fl) [Fp f] (R:az),Lp.Gd m n M S->(∀o,EL m n M mk (cf ns) S o->R (oT o))->ig (sR T) "falling" (bX T q (cm m n M S mk)) λ_=>AE T [bX T f (cm m n M S mk),.ag g ↥ns] λt _=>R t:=λS q f _ R G h=>
  lu T ⟨rfl,f,g,m,n,M,S,mk,ns,‹_›,‹_›,rfl,C,G.lt,O,λe x _=>h (some e) x,λx _=>h none x⟩
 rfl';simp only[ir,iC,dA,d6,gf];refine p S _ _ _ G λo i=>?_
 rw[Fy,AS];refine⟨rfl,?_⟩;refine⟨λN j=>∃(b:Nat->Nat)(o:Option Nat)(y:Tr),j=[bX T .o (cm m n M b mk),.ag g ↥ns,oT o,y]/\Lp.Gd m n M b/\jK m mk b/\Lp.jz m n M (cf ns) (eY mk) b N/\EL m n M mk (cf ns) b o,⟨_,S,o,_,rfl,G,v,Lp.Qm G,i⟩,?_⟩;rintro N j ⟨b,o,y,rfl,G,v,L,i⟩;cases o with
 |none=>
  rw[show oT none=.aM from rfl];rfl';rw[Dq];rfl';exact U b G v i _ rfl
 |some e=>
  rw[show oT (some e)=.int e from rfl];rfl';rw[Ik];rfl';simp only[ir,iC,dA,d6,gf];refine lu T ⟨rfl,.l false,m,n,M,b,mk,e,inferInstance,rfl,C,G.lt,i.1,λr u _=>?_,λu _=>?_⟩
  .rfl';rw[Fx];rfl';refine⟨trivial,lu T ?_⟩;rfl';simp only[show cN (bX T .o (cm m n M b mk)) []=bX T .o (cm m n M b mk) from rfl,iC,d6];refine⟨rfl,m,n,M,b,mk,r,e,rfl,C,G,u.1,i.1,u.2.1,λj' J=>?_⟩;dsimp only;rw[J,gf];refine⟨qI T _,?_⟩;simp only[ia,ir,iC,dA,d6,gf];have D:=G.turn u i.1;refine p (Lp.up b r e) _ _ _ D λQ B=>?_
   rw[Fy,AS];let⟨b1,I⟩:=L.step ⟨r,e,i,u,rfl⟩;exact⟨rfl,N - 1,⋯,_,Q,_,rfl,D,v.turn i,I,B⟩
  .rfl';rw[EI];rfl';exact Y b e G v i u _ rfl
def ju(m n:Nat)(M:aK)(mk:aT)(c:Nat->Int)(S:Nat->Nat)(k:Nat):Bool:=decide (0<Lp.zz m M c S k) && !(look (mT mk) (Sum.inl (k:Int))).isSome
def ft(m n:Nat)(M:aK)(mk:aT)(c:Nat->Int)(S:Nat->Nat)(a:Int)(i:Nat):aT:=mk++((List.range i).filter (ju m n M mk c S)).map λ(k:Nat)=>((Sum.inl (k:Int):aS),some a)
theorem Ft(mk:aT)(y:aS):(look (mT mk) y).isSome=mk.any λp=>decide (p.1=y):=by
 unfold look mT;rw[isSome_map,List.find?_map,isSome_map,List.isSome_find?];rfl
theorem nN{mk:aT}{k:Nat}:eY mk k↔∃p∈mk,p.1=Sum.inl (k:Int):=by
 unfold eY;rw[Ft,any_eq_true];simp only[decide_eq_true_eq]
theorem oP{m n:Nat}{M:aK}{mk:aT}{c:Nat->Int}{S:Nat->Nat}{a:Int}{i k:Nat}:eY (ft m n M mk c S a i) k↔eY mk k\/(k<i/\0<Lp.zz m M c S k):=by
 rw[nN,nN];unfold ft;constructor
 .rintro⟨p,b,e⟩;rcases mem_append.mp b with b |b
  .exact .inl ⟨p,b,e⟩
  .obtain⟨j,mj,rfl⟩:=mem_map.mp b;let⟨f,d⟩:=mem_filter.mp mj;unfold ju at d;simp only[and_eq_true,decide_eq_true_eq] at d;have:j=k:=Int.ofNat.inj (Sum.inl.inj e);subst this;exact .inr ⟨mem_range.mp f,d.1⟩
 .intro h;by_cases g:eY mk k
  .obtain⟨p,b,e⟩:=nN.mp g;exact⟨p,mem_append.mpr (.inl b),e⟩
  .rcases h with h |⟨f,d⟩
   .exact absurd (nN.mpr h) g
   .refine⟨_,mem_append.mpr (.inr (mem_map.mpr ⟨k,mem_filter.mpr ⟨mem_range.mpr f,?_⟩,rfl⟩)),rfl⟩;unfold ju;rw[decide_eq_true d,eq_false_of_ne_true g];rfl
theorem Ds{m n:Nat}{M:aK}{mk:aT}{c:Nat->Int}{S:Nat->Nat}{a:Int}{i:Nat}:(look (mT (ft m n M mk c S a i)) (Sum.inl (i:Int))).isSome=(look (mT mk) (Sum.inl (i:Int))).isSome:=by
 apply Bool.eq_iff_iff.mpr;show eY (ft m n M mk c S a i) i↔eY mk i;rw[oP];exact⟨λh=>h.elim id λh=>absurd h.1 (lt_irrefl _),.inl⟩
theorem y7{m n:Nat}{M:aK}{mk:aT}{c:Nat->Int}{S:Nat->Nat}{a:Int}{i:Nat}:ft m n M mk c S a (i+1)=if ju m n M mk c S i=true then ft m n M mk c S a i++[((Sum.inl (i:Int):aS),some a)] else ft m n M mk c S a i:=by
 unfold ft;rw[List.range_succ,List.filter_append,map_append,<- append_assoc];split
 .rename_i h;rw[List.filter_cons_of_pos h];rfl
 .rename_i h;rw[List.filter_cons_of_neg h];simp
theorem C3{m n:Nat}{M:aK}{mk:aT}{c:Nat->Int}{S:Nat->Nat}{a:Int}{i:Nat}:(ft m n M mk c S a i).length<=mk.length+i:=by
 unfold ft;rw[length_append,length_map];have:=length_filter_le (ju m n M mk c S) (List.range i);rw[length_range] at this;omega
def G0(T:Tx w K mg):bQ:=λa Q=>a.length=3/\∃(g:Fl)(m n:Nat)(M:aK)(S:Nat->Nat)(mk:aT)(ns:aI)(k:Int)(_:Fp g),a=[bX T .o (cm m n M S mk),.ag g ↥ns,.int k]/\Sz m n M/\(∀i,i<m->S i<n)/\mU ns n/\mk.length<=10000/\∀j:ai,j[0]?=some (bX T .o (cm m n M S (ft m n M mk (cf ns) S k n)))->Q (ae.t ((List.range (n+1)).map (Lp.zz m M (cf ns) S))) j
theorem To(T:Tx w K mg){z:Bool}:aJ P w K mg base bM 2 T.tW.a T.tW.d ["self","costs","mark"] (bR K z 3 3 (G0 T)):=by
 refine cg T.tW.F NZ rfl ∎ λa7 A outer s H E J L I=>?_
 refine⟨_,(aQ (bJ 3 (ew (j9 T T.q9 (AD T)) (qv 0) (ar (qv 1) aH)))
  (aQ (fM (rR T.k7 (ar (fH g6 gZ T.gX (ar (qv 1) aH)) aH)) (cS 4) (aY (c6 (QW.t (kZ (b5 kJ kE (aX (qv 3) (qv 4)) aA) (ng (b5 x9 yw (qv 4) (cE K (qv 0)))))) (aY (pA (oj (cI 0)) (qv 4) (qv 2))) cZ)))
  (aY (b8 (qv 3))))),?_⟩
 rintro N D _ ⟨_,g,m,n,M,S,mk,ns,k,_,rfl,u,x,r,hm,q⟩;have hn:=u.hn;have B:=r.1;rfl';simp only[ir,iC,dA,d6,gf];refine Eo T u x r ?_;rfl';refine⟨⋯,⋯,Loop.map _ _ (λi G=>∃(y:Tr),G=[bX T .o (cm m n M S (ft m n M mk (cf ns) S k i)),.ag g ↥ns,.int k,ae.t ((List.range (n+1)).map (Lp.zz m M (cf ns) S)),y]) ⟨_,by unfold ft;rw[List.range_zero,List.filter_nil,map_nil,append_nil]⟩ ?_ ?_⟩
 .rintro i j G hj ⟨y,rfl⟩;have b:j<ns.length/\i=j:=by have:=oJ hj;omega
  let⟨b,rfl⟩:=b;rfl';rw[gh,gO,gN];refine d0 _ _ _ (eK (ox (show i<n+1 by omega))) ?_;rfl';have l:ju m n M mk (cf ns) S i=false->ft m n M mk (cf ns) S k (i+1)=ft m n M mk (cf ns) S k i:=λh=>by rw[y7,h,if_neg ∎]
  by_cases h:0<Lp.zz m M (cf ns) S i
  .rw[if_pos (decide_eq_true h)];simp only[ir,dA,gf];refine xC T (show if (!(look (mT (ft m n M mk (cf ns) S k i)) (Sum.inl (i:Int))).isSome)=true then _ else _ from ?_);rw[Ds];by_cases f:(look (mT mk) (Sum.inl (i:Int))).isSome=true
   .rw[f,if_neg ∎,l (by unfold ju;rw[f];simp)];exact⟨_,rfl⟩
   .rw[eq_false_of_ne_true f,if_pos ∎];have C:=C3 (m:=m) (n:=n) (M:=M) (mk:=mk) (c:=cf ns) (S:=S) (a:=k) (i:=i);refine rA rfl ⟨T.iS,T.xi⟩ (bZ (bZ (bZ fm))) ⟨by show (mT (ft m n M mk (cf ns) S k i)).length<1000000;unfold mT;rw[length_map];omega,?_⟩;rw[show Tr.int k=ae.t (some k:bK) from rfl];have e:=K0 (ft m n M mk (cf ns) S k i) (Sum.inl (i:Int)) (some k);rw[if_neg (by rw[<- Ft,Ds];exact f)] at e;have v:ju m n M mk (cf ns) S i=true:=by unfold ju;rw[decide_eq_true h,eq_false_of_ne_true f];rfl
    have p:=y7 (m:=m) (n:=n) (M:=M) (mk:=mk) (c:=cf ns) (S:=S) (a:=k) (i:=i);rw[if_pos v] at p;rw[p];dsimp only[cm];rw[e,Vj];exact⟨_,rfl⟩
  .rw[if_neg (by simpa using h),l (by unfold ju;rw[decide_eq_false h];rfl)];exact⟨_,rfl⟩
 .rintro G ⟨y,rfl⟩;rfl';refine q _ ?_;rw[show (List.range ((ns.length:Int)).toNat).length=n by rw[length_range];simpa using B];rfl
theorem Qx(x:Int)(ns:aI):og (.int x) ↥ns=decide (x∈ns):=by
 induction ns with
 |nil=>rfl
 |cons n ns a=>
  unfold og su at a ⊢;rw[map_cons,map_cons,any_cons,a];by_cases h:x=n
  .simp[h,oH,hZ]
  .simp[h,oH,hZ,Ne.symm h]
theorem DX:∀ns:aI,(↥ns).all mi=true
 |[]=>rfl
 |n::ns=>by simp only[map_cons,all_cons,DX ns,Bool.and_true];rfl
theorem Vl{neg:Bool}{f:Fl}{x:Int}{ns:aI}{Q:az}(q:Q (.bl (if neg=true then !decide (x∈ns) else decide (x∈ns)))):qi neg (.int x) (.ag f ↥ns) Q:=⟨rfl,DX ns,by rw[Qx];exact q⟩
def fV(m n:Nat)(M:aK)(S:Nat->Nat)(k:Nat):Rat:=Rat.divInt (Lp.kD m n M S k) (Lp.dd m M S)
def Sv(T:Tx w K mg):bQ:=cY 2 λa Q=>∃(f:Fl)(m n:Nat)(M:aK)(S:Nat->Nat)(mk:aT)(k:Nat)(_:Fp f),a=[bX T f (cm m n M S mk),.int k]/\Sz m n M/\Lp.Gd m n M S/\k<n/\Q (ae.t (fV m n M S k))
theorem OR{m n k:Nat}{M:aK}{S:Nat->Nat}{mk:aT}:(k:Int)∈(cm m n M S mk).so↔∃i,i<m/\S i=k:=by
 show (k:Int)∈(List.range m).map (λi=>(S i:Int))↔_;rw[mem_map];exact⟨λ⟨i,h,e⟩=>⟨i,mem_range.mp h,Int.ofNat.inj e⟩,λ⟨i,h,e⟩=>⟨i,mem_range.mpr h,by rw[e]⟩⟩
theorem O6(T:Tx w K mg){z:Bool}:aJ P w K mg base bM 3 T.tP.a T.tP.d ["self","column"] (bR K z 0 2 (Sv T)):=by
 refine cg T.tP.F QF rfl ∎ λa7 A outer s H E C D y=>?_
 refine⟨_,(aQ (c6 (b5 x9 yw (qv 1) (cE K (qv 0))) (aY (b8 (iW [0,1] T.jj T.jo))) cZ)
  (aY (b8 (qc T.jC (lq T) (ar (aX (aX (cE K (qv 0)) (Ua (cE K (qv 0)) (qv 1))) (gA aA)) (ar (cE K (qv 0)) aH)))))),?_⟩
 rintro I v _ ⟨_,f,m,n,M,S,mk,k,_,rfl,o,G,u,q⟩;rfl';simp only[ir,f9,gf];refine p0 T (Vl ?_);by_cases h:(k:Int)∈(cm m n M S mk).so
 .rw[decide_eq_true h];rfl';refine lZ T (p0 T ?_);have B:(cm m n M S mk).so.length=m:=by show ((List.range m).map _).length=m;rw[length_map,length_range]
  have hm:=o.hm;refine⟨f,(cm m n M S mk).so,rfl,_,rfl,h,⋯,?_⟩;have b:(cm m n M S mk).so.idxOf (k:Int)<m:=by have:=List.idxOf_lt_length_iff.mpr h;omega
  have g:(cm m n M S mk).so[(cm m n M S mk).so.idxOf (k:Int)]?=some (k:Int):=by
   have l:(cm m n M S mk).so.idxOf (k:Int)<(cm m n M S mk).so.length:=⋯
   rw[getElem?_eq_getElem l];exact congrArg some (by simpa using List.getElem_idxOf l)
  generalize (cm m n M S mk).so.idxOf (k:Int)=j at b g;rw[xT b] at g;have p:S j=k:=Int.ofNat.inj (Option.some.inj g);rw[gO,gN];refine d0 _ _ _ (eK (qE b)) ?_;rw[gh,gO,gN,wV];refine d0 _ _ _ rfl (sL T ?_);refine⟨rfl,Lp.tt m M S j n,Lp.dd m M S,rfl,ne_of_gt G.pos,le_trans (o.d S G.lt) ⋯,λJ=>⟨gi _,?_⟩⟩;have e:fV m n M S k=Rat.divInt (Lp.tt m M S j n) (Lp.dd m M S):=by unfold fV;rw[<- p,Lp.iE G b]
  rw[<- e];exact q _
 .rw[decide_eq_false h];rfl';have e:fV m n M S k=0:=by unfold fV;rw[Lp.d9 (ne_of_lt u) λi r x=>h (OR.mpr ⟨i,r,x⟩),Rat.zero_divInt]
  rw[e] at q;exact q _
def jv(b:Int)(c:Rat):Int:=b.fdiv (gd b (c.den:Int))*(c.den:Int)
def cp(cs:aC):Int:=cs.foldl jv 1
theorem T3{b:Int}(i:0<b)(c:Rat):jv b c=((Int.lcm b (c.den:Int):Nat):Int):=by
 have hd:(0:Int)<(c.den:Int):=natCast_pos.mpr c.den_pos;have d:=ll (a:=b) (b:=(c.den:Int)) (ne_of_gt hd);let⟨x,f⟩:=sd b (c.den:Int);have e:b.fdiv (gd b (c.den:Int))=x:=by
  have:=Int.mul_fdiv_cancel_left (a:=gd b (c.den:Int)) x (ne_of_gt d);rwa[<- f] at this
 unfold jv;rw[e];have h:=Int.gcd_mul_lcm b (c.den:Int);have g:gd b (c.den:Int)*((Int.lcm b (c.den:Int):Nat):Int)=b*(c.den:Int):=by
  unfold gd;rw[<- natCast_mul,h,natCast_mul,Int.natAbs_of_nonneg (le_of_lt i),Int.natAbs_of_nonneg (le_of_lt hd)]
 apply Int.eq_of_mul_eq_mul_left (ne_of_gt d);rw[g]
 conv=>rhs;lhs;rw[f]
 grind
theorem gQ:∀(cs:aC)(b:Int),0<b->0<cs.foldl jv b/\b ∣ cs.foldl jv b/\(∀c∈cs,(c.den:Int) ∣ cs.foldl jv b)/\∀X:Nat,b ∣ (X:Int)->(∀c∈cs,(c.den:Int) ∣ (X:Int))->cs.foldl jv b ∣ (X:Int)
 |[],b,hb=>⟨hb,Int.dvd_refl _,λc m=>(nomatch m),λX h _=>h⟩
 |c::cs,b,hb=>by
  have hd:(0:Int)<(c.den:Int):=natCast_pos.mpr c.den_pos;have a:=T3 hb c;have i:0<jv b c:=by rw[a];exact natCast_pos.mpr (Int.lcm_pos (ne_of_gt hb) (ne_of_gt hd))
  let⟨j,f,l,n⟩:=gQ cs (jv b c) i;refine⟨j,dvd_trans (by rw[a];exact Int.dvd_lcm_left _ _) f,λd m=>?_,λX g e=>?_⟩
  .rcases mem_cons.mp m with rfl |m
   .exact dvd_trans (by rw[a];exact Int.dvd_lcm_right _ _) f
   .exact l d m
  .refine n X ?_ λd m=>e d (.tail _ m)
   rw[a];exact Int.natCast_dvd_natCast.mpr (Int.lcm_dvd g (e c (.head _)))
theorem kH{a:Int}{X:Nat}(h:a ∣ (X:Int))(d:0<X):bi a<=bi (X:Int):=by
 have b:a.natAbs<=X:=le_of_dvd d (Int.natAbs_dvd_natAbs.mpr h);refine fL (lt_of_le_of_lt b ?_);have:=jy (x:=(X:Int)) (le_refl _);rwa[natAbs_natCast] at this
def r6(cs:aC)(X:Nat):Prop:=0<X/\(∀c∈cs,(c.den:Int) ∣ (X:Int))/\bi (X:Int)<=3000
def RP:bQ:=cY 1 λb Q=>∃(f:Fl)(a:aC)(X:Nat)(_:Fp f),b=[.ag f ↥a]/\r6 a X/\Q (.int (cp a))
theorem Ao(T:Tx w K mg){z:Bool}:aJ P w K mg base bM 2 T.ra.a T.ra.d ["fractions"] (bR K z 0 1 RP):=by
 refine cg T.ra.F Qg rfl ∎ λa7 A outer s H E J L D=>?_
 refine⟨_,(aQ (bJ 1 aA)
  (aQ (fM (gm (qv 0)) (cS 2) (aY (bJ 1 (dh (fT (qv 1) (qc T.qK (BL T) (ar (qv 1) (ar (aX (qv 2) aA) aH)))) (aX (qv 2) aA)))))
  (aY (b8 (qv 1))))),?_⟩
 rintro M B _ ⟨_,f,b,X,_,rfl,⟨h,hd,G⟩,q⟩;rfl';refine Loop.map b ae.t (λi j=>∃y,j=[.ag f ↥b,.int (cp (b.take i)),y]) ⟨_,rfl⟩ ?_ ?_
 .rintro i c j hc ⟨y,rfl⟩;have m:=mem_of_getElem? hc;let⟨p1,_,_,v⟩:=gQ (b.take i) 1 ∎;have o:=v X (one_dvd _) λc m=>hd c (List.mem_of_mem_take m)
  have g:(0:Int)<(c.den:Int):=natCast_pos.mpr c.den_pos;have C:=kH o h;have p:=kH (hd c m) h;have e:cp (b.take (i+1))=jv (cp (b.take i)) c:=by
   unfold cp;rw[take_add_one,hc,List.foldl_append];rfl
  rw[e];show (_:Prop);rfl';refine⟨rfl,cp (b.take i),(c.den:Int),rfl,le_of_lt p1,le_of_lt g,λ_=>?_⟩;rfl';have I:=vS (a:=cp (b.take i)) (ne_of_gt g) p;refine⟨xK (ne_of_gt (ll (ne_of_gt g))) ⋯,eJ (n:=6001) (m:=3000) ?_ ⋯ ⋯,_,rfl⟩;let⟨x,l⟩:=sd (cp (b.take i)) (c.den:Int);have u:(cp (b.take i)).fdiv (gd (cp (b.take i)) (c.den:Int))=x:=by
   have:=Int.mul_fdiv_cancel_left (a:=gd (cp (b.take i)) (c.den:Int)) x (ne_of_gt (ll (ne_of_gt g)));rwa[<- l] at this
  rw[u];have r:x ∣ (X:Int):=dvd_trans (show x ∣ cp (b.take i) by rw[l];exact Int.dvd_mul_left _ _) o;have:=kH r h;omega
 .rintro j ⟨y,rfl⟩;rfl';rw[take_length];exact q _
def fo(b:Int)(c:Rat):Int:=c.num*b.fdiv (c.den:Int)
def G7:bQ:=cY 2 λb Q=>∃(f:Fl)(a:aC)(X:Nat)(_:Fp f),b=[.ag f ↥a,.int (cp a)]/\r6 a X/\a.length<=100/\(∀c∈a,bs c<=3000)/\Q (.ag .o ((a.map (fo (cp a))).map ae.t))
theorem zd(T:Tx w K mg){z:Bool}:aJ P w K mg base bM 1 T.q5.a T.q5.d ["fractions","bottom"] (bR K z 0 2 G7):=by
 refine cg T.q5.F Lb rfl ∎ λa7 A outer s H E I J C=>?_
 refine⟨_,(aY (b8 (je ["fraction","bottom"] [none,some 1] (gm (qv 0)) (fB 0) (λ_ _ _ _ _=>(dh (aX (qv 0) aA) (fT (qv 1) (aX (qv 0) aA))))))),?_⟩;rintro L u _ ⟨_,f,b,X,_,rfl,⟨g,hd,D⟩,G,o,q⟩;rfl';refine br.map b _ (fo (cp b)) ⋯ (λc m R l=>?_) ⟨nZ _,q _⟩;rfl';have e:(0:Int)<(c.den:Int):=natCast_pos.mpr c.den_pos;let⟨p1,_,p3,p⟩:=gQ b 1 ∎;have r:=p X (one_dvd _) hd;have v:=kH (hd c m) g;have B:=o c m;have y:=iL c;refine⟨xK (ne_of_gt e) ⋯,eJ (n:=3000) (m:=3000) ⋯ ?_ ⋯,l⟩;let⟨x,h⟩:=p3 c m;have j:(cp b).fdiv (c.den:Int)=x:=by
  have:=Int.mul_fdiv_cancel_left (a:=(c.den:Int)) x (ne_of_gt e);rwa[<- h] at this
 rw[j];have i:x ∣ (X:Int):=dvd_trans (show x ∣ b.foldl jv 1 by rw[h];exact Int.dvd_mul_left _ _) r;have:=kH i g;omega
theorem pF{i j:Int}(h:i.natAbs<1000)(h':j.natAbs<1000):kB i j:=.inr ⟨10,∎,⋯,⋯⟩
def sV(fs:bz)(rs:av)(us:ah):Prop:=fs.lookup ("rows":Str)=some (Tr.ag .f ↥rs)/\fs.lookup ("unknowns":Str)=some (Tr.ag .f ↥us)
theorem iw(T:Tx w K mg)(f:Fl)(S:gL):sV (gI T f S) S.rs S.us:=⟨fm,bZ fm⟩
theorem rP(f:Fl)(rs:av)(us:ah)(sc:aI):sV (jF f rs us sc) rs us:=⟨fm,bZ fm⟩
theorem wR{f:Fl}[h:Fp f](c:af)(fs:bz):aG (.ins f c fs)=.ins f c fs:=by cases h<;>rfl
theorem vq(f:Fl)(c:af)(fs:bz)(Q:az):pV (some (.ins f c fs)) Q=Q (.ins f c fs):=rfl
def IB(T:Tx w K mg):bQ:=cY 1 λa Q=>∃(f:Fl)(fs:bz)(rs:av)(us:ah)(_:Fp f),a=[.ins f T.aah fs]/\sV fs rs us/\rs.length<=100/\Q (.int ((us.length+2*rs.length:Nat):Int))
theorem MV(T:Tx w K mg){z:Bool}:aJ P w K mg base bM 1 T.rV.a T.rV.d ["self"] (bR K z 0 1 (IB T)):=by
 refine cg T.rV.F RU rfl ∎ λa7 A outer s H E i j e=>?_
 refine⟨_,(aY (b8 (d8 (fH g6 gZ T.gX (ar (cE K (qv 0)) aH)) (dh aA (fH g6 gZ T.gX (ar (cE K (qv 0)) aH)))))),?_⟩;rintro l b _ ⟨_,f,fs,rs,us,_,rfl,h,g,q⟩;rfl';simp only[wR,vq];refine g8 ⟨T.fu,T.nQ⟩ h.2 ?_;rfl';refine g8 ⟨T.fu,T.qC⟩ h.1 ?_;rfl';refine⟨pF ∎ ⋯,?_⟩;rw[show (us.length:Int)+2*(rs.length:Int)=((us.length+2*rs.length:Nat):Int) by omega];exact q _
def Eh(T:Tx w K mg)(d:Nat):bQ:=cY 2 λa Q=>∃(f:Fl)(fs:bz)(rs:av)(us:ah)(i:Nat)(_:Fp f),a=[.ins f T.aah fs,.int i]/\sV fs rs us/\i<=100/\Q (.int ((us.length+2*i+d:Nat):Int))
theorem rp(T:Tx w K mg){z:Bool}:aJ P w K mg base bM 1 T.nh.a T.nh.d ["self","number"] (bR K z 0 2 (Eh T 0)):=by
 refine cg T.nh.F R5 rfl ∎ λa7 A outer s H E j l e=>?_
 refine⟨_,(aY (b8 (d8 (fH g6 gZ T.gX (ar (cE K (qv 0)) aH)) (dh aA (qv 1))))),?_⟩;rintro m b _ ⟨_,f,fs,rs,us,i,_,rfl,h,g,q⟩;rfl';simp only[wR,vq];refine g8 ⟨T.fu,T.nQ⟩ h.2 ?_;rfl';refine⟨pF ∎ ⋯,?_⟩;rw[show (us.length:Int)+2*(i:Int)=((us.length+2*i+0:Nat):Int) by omega];exact q _
theorem s9(T:Tx w K mg){z:Bool}:aJ P w K mg base bM 1 T.l0.a T.l0.d ["self","number"] (bR K z 0 2 (Eh T 1)):=by
 refine cg T.l0.F V4 rfl ∎ λa7 A outer s H E j l e=>?_
 refine⟨_,(aY (b8 (d8 (d8 (fH g6 gZ T.gX (ar (cE K (qv 0)) aH)) (dh aA (qv 1))) aA))),?_⟩;rintro m b _ ⟨_,f,fs,rs,us,i,_,rfl,h,g,q⟩;rfl';simp only[wR,vq];refine g8 ⟨T.fu,T.nQ⟩ h.2 ?_;rfl';refine⟨pF ∎ ⋯,?_⟩;rw[show (us.length:Int)+2*(i:Int)+1=((us.length+2*i+1:Nat):Int) by omega];exact q _
theorem Qp{j:Type}(A:List j)(x:j):ik (A++[x]) none (some (-1))=A:=by
 have a:HT.dw (A++[x]).length 0 none=0:=rfl;have b:HT.dw (A++[x]).length (A++[x]).length (some (-1))=A.length:=by unfold HT.dw;simp;omega
 unfold ik;rw[a,b];simp
theorem N3{j:Type}(A:List j)(x:j):ik (A++[x]) (some (-1)) none=[x]:=by
 have a:HT.dw (A++[x]).length 0 (some (-1))=A.length:=by unfold HT.dw;simp;omega
 have b:HT.dw (A++[x]).length (A++[x]).length none=A.length+1:=by unfold HT.dw;simp
 unfold ik;rw[a,b];simp
def g0(us:ah)(o:bW):aC:=us.map λu=>(cF o.1 u).getD 0
def cz(us:ah)(o:bW):aC:=g0 us o++[o.2.2.1]
def bA(us:ah)(o:bW):Int:=cp (cz us o)
def eC(us:ah)(o:bW):aI:=(g0 us o).map (fo (bA us o))
def cK(us:ah)(o:bW):Int:=fo (bA us o) o.2.2.1
def A0(U R i:Nat)(E:aI)(x:Int)(k:Nat):Int:=if k<U then E.getD k 0 else if k=U+2*i then 1 else if k=U+2*i+1 then -1 else if k=U+2*R then x else 0
def jS(us:ah)(R i:Nat)(o:bW):aI:=(List.range (us.length+2*R+1)).map (A0 us.length R i (eC us o) (cK us o))
def va(us:ah)(o:bW):Prop:=(∃X,r6 (cz us o) X)/\∀c∈cz us o,bs c<=3000
theorem LS{U R i:Nat}{E:aI}{x:Int}(f:E.length=U)(g:i<R):((E++List.replicate (2*R) 0++[x]).set (U+2*i+0) 1).set (U+2*i+1) (-1)=(List.range (U+2*R+1)).map (A0 U R i E x):=by
 apply ext_getElem?;intro k;rw[List.getElem?_set,List.getElem?_set,length_set,getElem?_map,length_append,length_append,length_replicate,f];by_cases h:k<U+2*R+1
 .rw[getElem?_range h,map_some];unfold A0;by_cases d:k<U
  .rw[if_neg ⋯,if_neg ⋯,getElem?_append_left (by rw[length_append,length_replicate];omega),getElem?_append_left ⋯,if_pos d,getD_eq_getElem?_getD,getElem?_eq_getElem ⋯];rfl
  .rw[if_neg d];by_cases e:k=U+2*i
   .rw[if_neg ⋯,if_pos ⋯,if_pos (by simp;omega),if_pos e]
   .rw[if_neg e];by_cases a:k=U+2*i+1
    .rw[if_pos a.symm,if_pos (by simp;omega),if_pos a]
    .rw[if_neg ⋯,if_neg ⋯,if_neg a];by_cases b:k=U+2*R
     .rw[if_pos b,getElem?_append_right (by rw[length_append,length_replicate];omega),length_append,length_replicate,b,show U+2*R - (E.length+2*R)=0 by omega];rfl
     .rw[if_neg b,getElem?_append_left (by rw[length_append,length_replicate];omega),getElem?_append_right ⋯,List.getElem?_replicate,if_pos ⋯]
 .rw[getElem?_eq_none (show (List.range (U+2*R+1)).length<=k by rw[length_range];omega),if_neg ⋯,if_neg ⋯,getElem?_eq_none (by rw[length_append,length_append,length_replicate,f];simp;omega)];rfl
def Mf(T:Tx w K mg):bQ:=λa Q=>a.length=3/\∃(rs:av)(us:ah)(sc:aI)(i:Nat)(o:bW),a=[gU T .o rs us sc,.int i,ae.t o]/\va us o/\rs.length<=16/\us.length<=10/\sc.length<=100/\i<rs.length/\∀j:ai,j[0]?=some (gU T .o rs us (sc++[bA us o]))->Q (.ag .o ((jS us rs.length i o).map ae.t)) j
theorem SK(T:Tx w K mg){z:Bool}:aJ P w K mg base bM 3 T.uo.a T.uo.d ["self","number","one"] (bR K z 3 3 (Mf T)):=by
 refine cg T.uo.F LY rfl ∎ λa7 A outer s H E C G y=>?_
 refine⟨_,(aQ (bJ 3 (d8 (je ["unknown","one"] [none,some 2] (gm (cE K (qv 0))) (fB 0) (λ_ _ _ _ _=>(Dv (aX (qv 1) aA) (qv 0) (iW [0,1] T.jj T.jo)))) (eH (ar (aX (qv 2) aA) aH))))
  (aQ (bJ 4 (qc T.ra (Ao T) (ar (qv 3) aH)))
  (aQ (bJ 5 (qc T.q5 (zd T) (ar (qv 3) (ar (qv 4) aH))))
  (aQ (gc 6 (d8 (d8 (oM (qv 5) qp (mh (gA aA))) (v8 (eH (ar aA aH)) (dh aA (fH g6 gZ T.gX (ar (cE K (qv 0)) aH))))) (oM (qv 5) (mh (gA aA)) qp)))
  (aQ (nE (cI 6) (ew (eS T T.nh (rp T)) (qv 0) (ar (qv 1) aH)) aA)
  (aQ (nE (cI 6) (ew (eS T T.l0 (s9 T)) (qv 0) (ar (qv 1) aH)) (gA aA))
  (aQ (i8 (oj (cI 0)) (qv 4))
  (aY (kl (kh 6)))))))))),?_⟩
 rintro J v _ ⟨_,rs,us,sc,i,o,rfl,r,e,g,D,p,q⟩;rfl';simp only[Av,x6,dA,d6,vU];refine O7 T ?_;rfl';refine br.map us _ (λu=>(cF o.1 u).getD 0) ⋯ (λx I R m=>?_) ?_
 .rfl';exact m
 let⟨⟨X,b⟩,n⟩:=r;have B:(cz us o).length=us.length+1:=by unfold cz g0;rw[length_append,length_map];rfl
 rfl';refine⟨⋯,rfl,.f,cz us o,X,inferInstance,rfl,b,λ_=>?_⟩;rfl';refine⟨rfl,.f,cz us o,X,inferInstance,rfl,b,⋯,n,λ_=>?_⟩;rw[show (cz us o).map (fo (cp (cz us o)))=eC us o++[cK us o] by unfold cz eC cK bA;rw[map_append];rfl];rfl';rw[Qp,N3];refine Rx T ?_;rfl';have j:(eC us o).length=us.length:=by unfold eC g0;rw[length_map,length_map]
 have h:List.map ae.t (eC us o)++List.replicate (2*(rs.length:Int)).toNat (Tr.int 0)++[Tr.int (cK us o)]=(eC us o++List.replicate (2*rs.length) 0++[cK us o]).map ae.t:=by
  rw[map_append,map_append,List.map_replicate,show (2*(rs.length:Int)).toNat=2*rs.length by omega];rfl
 rw[h];refine⟨pF ∎ ⋯,rfl,⋯,⋯,by rw[length_replicate];omega,by rw[length_append,length_map,length_replicate];omega,gT _,qR T ⟨rfl,.l false,_,rs,us,i,inferInstance,rfl,rP _ _ _ _,⋯,λ_=>mz (by simp;omega) ?_⟩⟩;refine qR T ⟨rfl,.l false,_,rs,us,i,inferInstance,rfl,rP _ _ _ _,⋯,λ_=>mz (by simp;omega) ?_⟩;rw[show Tr.int 1=ae.t (1:Int) from rfl,show Tr.int (-1)=ae.t (-1:Int) from rfl,<- map_set,<- map_set,LS j p];refine rA rfl ⟨T.fu,T.vD⟩ (bZ (bZ fm)) ?_;rfl';rw[Rv];exact⟨⋯,q _ rfl⟩
theorem wd{D:af->Nat->Prop}{m:Str}{i:Nat}{hs:bG}{aZ:Nat->bQ}{b:b6}{j:ai}{Q:Tr->aW}{t:Tr}(h:j[i]?=some t)(d:t≠.ax)(q:ig D m t λc=>b j λf=>aZ c (cv (t::f)) (λx a=>pV a[0]? λu=>b9 u=true/\jB hs 1 a (j.set i u) λe=>Q x e)):qV K D m i [] hs aZ b j Q:=by
 unfold qV;rw[h];cases t with
 |ax=>exact absurd rfl d
 |_=>exact⟨trivial,q⟩
theorem lg{rs:List j}{i:Nat}{p:j×Nat}(h:rs.zipIdx[i]?=some p):rs[i]?=some p.1/\p.2=i:=by
 rw[getElem?_zipIdx] at h;cases e:rs[i]? with
 |none=>rw[e] at h;cases h
 |some o=>rw[e] at h;cases h;exact⟨rfl,by simp⟩
def p6(us:ah)(R i:Nat)(o:bW):aI:=if 0<=cK us o then jS us R i o else (jS us R i o).map λx=>-x
def lp(U i:Nat)(x:Int):Nat:=if 0<=x then U+2*i else U+2*i+1
def ky(us:ah)(R:Nat)(a:List (bW×Nat)):List (aI):=a.map λp=>p6 us R p.2 p.1
def lh(us:ah)(a:List (bW×Nat)):aI:=a.map λp=>((lp us.length p.2 (cK us p.1):Nat):Int)
def EZ(rs:av)(us:ah):gy:=⟨ky us rs.length rs.zipIdx,lh us rs.zipIdx,1,[]⟩
def ug(rs:av)(us:ah):gL:=⟨rs,us,rs.map (bA us),[],EZ rs us⟩
structure oB(rs:av)(us:ah):Prop where
 r:rs.length<=16
 u:us.length<=10
 o:∀o∈rs,va us o
theorem V9(us:ah)(R i:Nat)(o:bW)(a:i<R):cX (jS us R i o) (-1)=some (cK us o):=by
 unfold jS;rw[wV];unfold A0;rw[if_neg ⋯,if_neg ⋯,if_neg ⋯,if_pos rfl]
def Fq(T:Tx w K mg):bQ:=λa Q=>a.length=3/\∃(f g:Fl)(rs:av)(us:ah)(_:Fp f)(_:Fp g),a=[.ins .o T.aah [],.ag f ↥rs,.ag g ↥us]/\oB rs us/\∀j:ai,j[0]?=some (b7 T .o (ug rs us))->Q .aM j
theorem O1(T:Tx w K mg){z:Bool}:aJ P w K mg base bM 4 T.rO.a T.rO.d ["self","rows","unknowns"] (bR K z 1 3 (Fq T)):=by
 refine cg T.rO.F M4 rfl ∎ λa7 A outer s H E M N L=>?_
 refine⟨_,(aQ (sI (cI 0) (i3 (jn rfl) jr T.gk (ar (qv 1) aH)))
  (aQ (sI (cI 0) (i3 (jn rfl) jr T.gk (ar (qv 2) aH)))
  (aQ (mf (cI 0) (eH aH))
  (aQ (mf (cI 0) (eH aH))
  (aQ (gc 3 (eH aH))
  (aQ (gc 4 (eH aH))
  (aQ (fM (l7 T.k6 (ar (cE K (qv 0)) aH)) (h9 (n:=2) rfl (dE (cS 5) (dE (cS 6) hJ))) (aQ (xv 7 (nG (cI 0) (eS T T.uo (SK T)) (kT (qv 5) (kT (qv 6) nD))))
  (aQ (bJ 8 (mI IE Je (aX (qv 7) (gA aA)) aA))
  (aQ (i8 (cI 3) (uK (l9 (qv 8)) (qv 7) (je ["entry"] [none] (gm (qv 7)) (fB 0) (λ_ _ _ _ _=>(gA (qv 0))))))
  (aY (i8 (cI 4) (uK (l9 (qv 8)) (ew (eS T T.nh (rp T)) (qv 0) (ar (qv 5) aH)) (ew (eS T T.l0 (s9 T)) (qv 0) (ar (qv 5) aH)))))))))
  (aY (mf (cI 0) (Dx T.uw (KP T) T.RG (QA.ay (ar (qv 3) (ar (qv 4) aH))))))))))))),?_⟩
 rintro U J _ ⟨_,f,g,rs,us,_,_,rfl,p,q⟩;rfl';refine⟨⟨T.fu,T.qC⟩,∎,⟨T.fu,T.nQ⟩,∎,⟨T.fu,T.vD⟩,?_⟩
 (repeat first |rw[nv] |rw[lS])
 refine⟨(show 2<900 by decide),⟨T.fu,T.xl⟩,?_⟩
 (repeat first |rw[nv] |rw[lS])
 refine⟨(show 3<900 by decide),g8 ⟨T.fu,T.qC⟩ fm ?_⟩;rfl';refine Loop.map rs.zipIdx _ (λi j=>∃a b c d,j=[gU T .o rs us ((rs.take i).map (bA us)),.ag f ↥rs,.ag g ↥us,.ag .o ((ky us rs.length (rs.zipIdx.take i)).map ae.t),.ag .o ((lh us (rs.zipIdx.take i)).map ae.t),a,b,c,d]) ⟨_,_,_,_,rfl⟩ ?_ ?_
 .rintro i ⟨o,i'⟩ j hi ⟨a,b,c,d,rfl⟩;let⟨B,C⟩:=lg hi;dsimp only at B C;subst C;have y:i'<rs.length:=(List.getElem?_eq_some_iff.mp B).1;have v:=p.r;have aN:=p.o o (mem_of_getElem? B);have I:rs.zipIdx.take (i'+1)=rs.zipIdx.take i'++[(o,i')]:=by rw[take_add_one,hi];rfl
  rfl';refine wd rfl (by intro z;cases z) (qR T ?_);rfl';simp only[x6,d6];refine⟨rfl,rs,us,_,i',o,rfl,aN,v,p.u,by rw[length_map,length_take];omega,y,λj e=>?_⟩;dsimp only;rw[e,vU];refine⟨MG _ _ _ _,?_⟩;have rep:(rs.take (i'+1)).map (bA us)=(rs.take i').map (bA us)++[bA us o]:=by rw[take_add_one,B,map_append];rfl
  have D:ky us rs.length (rs.zipIdx.take i'++[(o,i')])=ky us rs.length (rs.zipIdx.take i')++[p6 us rs.length i' o]:=by unfold ky;rw[map_append];rfl
  have G:lh us (rs.zipIdx.take i'++[(o,i')])=lh us (rs.zipIdx.take i')++[((lp us.length i' (cK us o):Nat):Int)]:=by unfold lh;rw[map_append];rfl
  have O:(ky us rs.length (rs.zipIdx.take i')).length<=16:=by unfold ky;rw[length_map,length_take];omega
  have Q:(lh us (rs.zipIdx.take i')).length<=16:=by unfold lh;rw[length_map,length_take];omega
  rfl';refine d0 _ _ (cK us o) (V9 _ _ _ _ y) ?_;rw[rep,I,D,G];rfl';simp only[Av,dA,vU,x6,d6];by_cases h:0<=cK us o
  .rw[if_pos (decide_eq_true h),if_pos (decide_eq_true h),show p6 us rs.length i' o=jS us rs.length i' o from if_pos h,show lp us.length i' (cK us o)=us.length+2*i'+0 from if_pos h,map_append,map_append];exact⟨⋯,qR T ⟨rfl,.l false,_,rs,us,i',inferInstance,rfl,rP _ _ _ _,⋯,λ_=>⟨rfl,⋯,_,_,_,_,rfl⟩⟩⟩
  .rw[if_neg (by simpa using h)];refine br.map (jS us rs.length i' o) _ (λx=>-x) (by unfold jS;simp;have:=p.u;omega) (λc m R p=>?_) ⟨lT _,⋯,?_⟩
   .rfl';exact p
   .rw[gj,if_neg (by simpa using h),show p6 us rs.length i' o=(jS us rs.length i' o).map (λx=>-x) from if_neg h,show lp us.length i' (cK us o)=us.length+2*i'+1 from if_neg h,map_append,map_append];exact qR T ⟨rfl,.l false,_,rs,us,i',inferInstance,rfl,rP _ _ _ _,⋯,λ_=>⟨rfl,⋯,_,_,_,_,rfl⟩⟩
 .rintro j ⟨a,b,c,d,rfl⟩;rw[length_zipIdx,show rs.zipIdx.take rs.length=rs.zipIdx from by rw[<- length_zipIdx (l:=rs),take_length],take_length];rfl';refine⟨rfl,.l false,.l false,_,_,inferInstance,inferInstance,rfl,by unfold ky;rw[length_map,length_zipIdx];have:=p.r;omega,λj e=>⟨rfl,?_⟩⟩;rw[e];refine⟨qI T _,Ey T _,?_⟩;refine⟨⟨T.fu,T.tm⟩,show 4<900 by decide,q _ ?_⟩;unfold jF
  (repeat first |rw[nv] |rw[lS])
  rfl
def sgn(x:Int):Int:=if 0<=x then 1 else -1
def Mx(rs:av)(us:ah)(i k:Nat):Int:=match rs[i]? with
 |some o=>sgn (cK us o) * A0 us.length rs.length i (eC us o) (cK us o) k
 |none=>0
def S0(rs:av)(us:ah)(i:Nat):Nat:=match rs[i]? with
 |some o=>lp us.length i (cK us o)
 |none=>0
def bh(rs:av)(us:ah):Nat:=us.length+2*rs.length
def eD(rs:av)(us:ah)(ss:bq)(S:Nat->Nat)(mk:aT):gL:=⟨rs,us,rs.map (bA us),ss,cm rs.length (bh rs us) (Mx rs us) S mk⟩
section
variable{rs:av}{us:ah}
theorem lX{i:Nat}{o:bW}(h:rs[i]?=some o)(k:Nat):Mx rs us i k=sgn (cK us o)*A0 us.length rs.length i (eC us o) (cK us o) k:=by unfold Mx;rw[h]
theorem wz{i:Nat}{o:bW}(h:rs[i]?=some o):S0 rs us i=lp us.length i (cK us o):=by unfold S0;rw[h]
theorem lW{i:Nat}(h:i<rs.length):∃o,rs[i]?=some o:=⟨_,getElem?_eq_getElem h⟩
theorem S6{i:Nat}(h:i<rs.length):S0 rs us i<bh rs us:=by
 let⟨o,a⟩:=lW h;rw[wz a];unfold lp bh;split<;>omega
theorem vx:Lp.Un rs.length (Mx rs us) (S0 rs us):=by
 intro i j d f;let⟨o,b⟩:=lW d;let⟨p,a⟩:=lW f;rw[lX b,wz a];unfold lp A0;by_cases e:i=j
 .subst e;rw[b] at a;cases a;rw[if_pos rfl];unfold sgn;split
  .rw[if_neg ⋯,if_pos rfl];rfl
  .rw[if_neg ⋯,if_neg ⋯,if_pos rfl];rfl
 .rw[if_neg e];split
  .rw[if_neg ⋯,if_neg ⋯,if_neg ⋯,if_neg ⋯,mul_zero]
  .rw[if_neg ⋯,if_neg ⋯,if_neg ⋯,if_neg ⋯,mul_zero]
theorem PC{i:Nat}(h:i<rs.length):0<=Mx rs us i (bh rs us):=by
 let⟨o,a⟩:=lW h;rw[lX a];unfold A0 bh;rw[if_neg ⋯,if_neg ⋯,if_neg ⋯,if_pos rfl];unfold sgn;split<;>omega
theorem E2:Lp.Gd rs.length (bh rs us) (Mx rs us) (S0 rs us):=vx.gd (λ_ h=>S6 h) λ_ h=>PC h
theorem Nc:ug rs us=eD rs us [] (S0 rs us) []:=by
 unfold ug eD EZ cm;rw[vx.dd];congr 2
 .unfold ky uH;apply ext_getElem?;intro i;rw[getElem?_map,getElem?_map,getElem?_zipIdx];by_cases h:i<rs.length
  .obtain⟨o,ho⟩:=lW h;rw[ho,getElem?_range h];simp only[map_some,Nat.zero_add];congr 1;have e:(List.range (bh rs us+1)).map (Lp.tt rs.length (Mx rs us) (S0 rs us) i)=(List.range (bh rs us+1)).map (Mx rs us i):=map_congr_left λk _=>vx.tt k h
   rw[e];unfold p6 jS;split
   .rename_i hx;refine map_congr_left λk _=>?_
    rw[lX ho,show sgn (cK us o)=1 from if_pos hx,one_mul]
   .rename_i hx;rw[map_map];refine map_congr_left λk _=>?_
    rw[lX ho,show sgn (cK us o)=-1 from if_neg hx];show - _=_;omega
  .rw[getElem?_eq_none (show rs.length<=i by omega),getElem?_eq_none (by rw[length_range];omega)];rfl
 .unfold lh mZ;apply ext_getElem?;intro i;rw[getElem?_map,getElem?_map,getElem?_zipIdx];by_cases h:i<rs.length
  .obtain⟨o,ho⟩:=lW h;rw[ho,getElem?_range h];simp only[map_some,Nat.zero_add];rw[wz ho]
  .rw[getElem?_eq_none (show rs.length<=i by omega),getElem?_eq_none (by rw[length_range];omega)];rfl
end
theorem MH{j:Type}(A:List j)(x y:j)(B:List j)(k:Nat)(h:A.length=k):(A++x::B).set k y=A++y::B:=by
 subst h;rw[List.set_append_right _ _ (le_refl _),Nat.sub_self];rfl
def cb(us:ah)(k:Int)(o:bW):Rat:=if o.2.2.2.1=k then (if o.2.1="most" then 0 else Rat.divInt o.2.2.2.2 (bA us o)) else 0
def ca(us:ah)(k:Int)(o:bW):Rat:=if o.2.2.2.1=k then (if o.2.1="least" then 0 else Rat.divInt o.2.2.2.2 (bA us o)) else 0
def cW(us:ah)(rs:av)(k:Int):aC:=List.replicate us.length 0++rs.flatMap λo=>[cb us k o,ca us k o]
theorem yE{j:Type}(f g:j->Rat)(xs:List j):(xs.flatMap λo=>[f o,g o]).length=2*xs.length:=by
 induction xs with
 |nil=>rfl
 |cons x xs a=>rw[List.flatMap_cons,length_append,a];simp;omega
theorem Bt[ae j](A:List j)(x y:j)(B:List j)(k:Nat)(h:A.length=k):((A++x::B).map ae.t).set k (ae.t y)=(A++y::B).map ae.t:=by rw[<- map_set,MH _ _ _ _ _ h]
theorem CV[ae j](A:List j)(x a y:j)(B:List j)(k:Nat)(h:A.length=k):((A++a::x::B).map ae.t).set (k+1) (ae.t y)=(A++a::y::B).map ae.t:=by
 have e:∀z:j,A++a::z::B=(A++[a])++z::B:=λz=>by rw[append_assoc];rfl
 rw[e,e,Bt _ _ _ _ _ (by rw[length_append,h];rfl)]
def HZ(T:Tx w K mg):bQ:=cY 2 λa Q=>∃(f:Fl)(rs:av)(us:ah)(ss:bq)(S:Nat->Nat)(mk:aT)(k:Int)(_:Fp f),a=[b7 T f (eD rs us ss S mk),.int k]/\oB rs us/\(∀o∈rs,0<bA us o/\bi (bA us o)<=3000)/\Q (.ag .o ((cW us rs k).map ae.t))
theorem zY(T:Tx w K mg){z:Bool}:aJ P w K mg base bM 3 T.pN.a T.pN.d ["self","rank"] (bR K z 0 2 (HZ T)):=by
 refine cg T.pN.F V1 rfl ∎ λa7 A outer s H E Y hu U=>?_
 refine⟨_,(aQ (gc 2 (v8 (eH (ar (iW [0,1] T.jj T.jo) aH)) (Ga (eS T T.rV (MV T)) (qv 0))))
  (aQ (fM (l7 T.k6 (ar (cE K (qv 0)) aH)) (h9 (n:=2) rfl (dE (cS 3) (dE (cS 4) hJ))) (aY (c6 (b5 fX fU (aX (qv 4) aA) (qv 1)) (aQ (bJ 5 (qc T.jC (lq T) (ar (aX (qv 4) aA) (ar (aX (cE K (qv 0)) (qv 3)) aH))))
  (aQ (c6 (b5 jW j7 (aX (qv 4) aA) gE) (aY (nE (cI 2) (ew (eS T T.nh (rp T)) (qv 0) (ar (qv 3) aH)) (qv 5))) cZ)
  (aY (c6 (b5 jW j7 (aX (qv 4) aA) gE) (aY (nE (cI 2) (ew (eS T T.l0 (s9 T)) (qv 0) (ar (qv 3) aH)) (qv 5))) cZ)))) cZ)))
  (aY (kl (kh 2))))),?_⟩
 rintro xs Q _ ⟨_,f,rs,us,ss,S,mk,k,_,rfl,B,p,q⟩;have J:=B.r;have I:=B.u;rfl';simp only[eQ,fE,f9,ib,dI];refine fG T ⟨rfl,f,_,rs,us,‹_›,rfl,iw T f _,⋯,λ_=>?_⟩;rfl';have G:List.replicate ((us.length+2*rs.length:Nat):Int).toNat (ae.t (0:Rat))=(List.replicate us.length (0:Rat)++((rs.take 0).flatMap λo=>[cb us k o,ca us k o])++List.replicate (2*(rs.length - 0)) 0).map ae.t:=by
  rw[List.take_zero,List.flatMap_nil,append_nil,List.replicate_append_replicate,List.map_replicate,Int.toNat_natCast];rfl
 rw[G];refine⟨rfl,⋯,⋯,gT _,sv T ?_⟩;show g9 (Pu.ay (Tr.ag .f ↥rs)) _;rfl';refine Loop.map rs.zipIdx _ (λi j=>∃a b c,j=[b7 T f (eD rs us ss S mk),.int k,.ag .o ((List.replicate us.length (0:Rat)++((rs.take i).flatMap λo=>[cb us k o,ca us k o])++List.replicate (2*(rs.length - i)) 0).map ae.t),a,b,c]) ⟨_,_,_,rfl⟩ ?_ ?_
 .rintro i ⟨o,i'⟩ j hi ⟨a,b,c,rfl⟩;let⟨l,y⟩:=lg hi;dsimp only at l y;subst y;have M:i'<rs.length:=(List.getElem?_eq_some_iff.mp l).1;have O:rs.take (i'+1)=rs.take i'++[o]:=by rw[take_add_one,l];rfl
  have g:(List.replicate us.length (0:Rat)++((rs.take i').flatMap λo=>[cb us k o,ca us k o])).length=us.length+2*i':=by rw[length_append,length_replicate,yE,length_take];omega
  have C:List.replicate (2*(rs.length - i')) (0:Rat)=0::0::List.replicate (2*(rs.length - (i'+1))) 0:=by
   rw[show 2*(rs.length - i')=2*(rs.length - (i'+1))+1+1 by omega];rfl
  have D:List.replicate us.length (0:Rat)++((rs.take (i'+1)).flatMap λo=>[cb us k o,ca us k o])++List.replicate (2*(rs.length - (i'+1))) 0=(List.replicate us.length (0:Rat)++((rs.take i').flatMap λo=>[cb us k o,ca us k o]))++cb us k o::ca us k o::List.replicate (2*(rs.length - (i'+1))) 0:=by
   rw[O,List.flatMap_append,List.flatMap_singleton,<- append_assoc,append_assoc];rfl
  rw[C,D];generalize List.replicate us.length (0:Rat)++((rs.take i').flatMap λo=>[cb us k o,ca us k o])=L at g ⊢;generalize List.replicate (2*(rs.length - (i'+1))) (0:Rat)=Z;rfl';by_cases h:o.2.2.2.1=k
  .rw[if_pos (decide_eq_true h)];simp only[eQ,fE,f9,ib,dI];refine AJ T ?_;show iG (.ag f ((rs.map (bA us)).map ae.t)) (.int i') _;rw[gO,gN];refine d0 _ _ (bA us o) (eK (by rw[getElem?_map,l];rfl)) ?_;rfl';refine⟨rfl,o.2.2.2.2,bA us o,rfl,ne_of_gt (p o (mem_of_getElem? l)).1,by have:=(p o (mem_of_getElem? l)).2;omega,λ_=>?_⟩;rfl';unfold cb ca;rw[if_pos h,if_pos h];have N:(us.length+2*i'+0:Nat)<((L++(0:Rat)::0::Z).map ae.t).length:=by rw[length_map,length_append,g];simp
   have v:∀x:Rat,(us.length+2*i'+1:Nat)<((L++x::(0:Rat)::Z).map ae.t).length:=λx=>by rw[length_map,length_append,g];simp
   by_cases m:o.2.1="most"
   .have e:¬ o.2.1="least":=by rw[m];decide +kernel
    rw[if_pos m,if_neg e,if_neg (by simp[m]),if_pos (by simp[e])];refine fG T ⟨rfl,f,_,rs,us,i',‹_›,rfl,iw T f _,⋯,λ_=>mz (v 0) ?_⟩;rw[CV _ _ _ _ _ _ g];exact⟨_,_,_,rfl⟩
   .rw[if_neg m,if_pos (by simp[m])];refine fG T ⟨rfl,f,_,rs,us,i',‹_›,rfl,iw T f _,⋯,λ_=>mz N ?_⟩;rw[Bt _ _ _ _ _ (show L.length=us.length+2*i'+0 from g)];by_cases e:o.2.1="least"
    .rw[if_pos e,if_neg (by simp[e])];exact⟨_,_,_,rfl⟩
    .rw[if_neg e,if_pos (by simp[e])];refine fG T ⟨rfl,f,_,rs,us,i',‹_›,rfl,iw T f _,⋯,λ_=>mz (v _) ?_⟩;rw[CV _ _ _ _ _ _ g];exact⟨_,_,_,rfl⟩
  .rw[if_neg (by simpa using h)];unfold cb ca;rw[if_neg h,if_neg h];exact⟨_,_,_,rfl⟩
 .rintro j ⟨a,b,c,rfl⟩;rw[length_zipIdx,take_length,Nat.sub_self,Nat.mul_zero,List.replicate_zero,append_nil];rfl';exact q _
def dG(us:ah)(R:Nat)(a:List (Str×Rat)):aC:=(us.map λx=>(cF a x).getD 0)++List.replicate (2*R) 0
def Ew(T:Tx w K mg):bQ:=cY 2 λb Q=>∃(f g:Fl)(rs:av)(us:ah)(ss:bq)(S:Nat->Nat)(mk:aT)(a:List (Str×Rat))(_:Fp f)(_:Fp g),b=[b7 T f (eD rs us ss S mk),c7 g a]/\oB rs us/\Q (.ag .o ((dG us rs.length a).map ae.t))
theorem JA(T:Tx w K mg){z:Bool}:aJ P w K mg base bM 2 T.ui.a T.ui.d ["self","parts"] (bR K z 0 2 (Ew T)):=by
 refine cg T.ui.F UG rfl ∎ λa7 A outer s H E n o m=>?_
 refine⟨_,(aQ (nB 2 ["unknown","parts"] [none,some 1] (gm (cE K (qv 0))) (fB 0) (λ_ _ _ _ _=>(Dv (qv 1) (qv 0) (iW [0,1] T.jj T.jo))))
  (aY (b8 (d8 (qv 2) (v8 (eH (ar (iW [0,1] T.jj T.jo) aH)) (dh aA (fH g6 gZ T.gX (ar (cE K (qv 0)) aH)))))))),?_⟩
 rintro v l _ ⟨_,f,g,rs,us,ss,S,mk,e,_,_,rfl,b,q⟩;have j:=b.r;have i:=b.u;rfl';simp only[eQ,fE,f9,ib,dI];refine FV T ?_;show g9 (Tr.ag .f ↥us) _;rfl';refine br.map us _ (λx=>(cF e x).getD 0) ⋯ (λx p R b=>?_) ?_
 .rfl';exact b
 .rfl';refine sv T ?_;show nX _ [Tr.ag .f ↥rs] _;rfl';have h:List.map ae.t (us.map λx=>(cF e x).getD 0)++List.replicate (2*(rs.length:Int)).toNat (ae.t (0:Rat))=(dG us rs.length e).map ae.t:=by
   unfold dG;rw[map_append,List.map_replicate,show (2*(rs.length:Int)).toNat=2*rs.length by omega]
  rw[h];exact⟨pF ∎ ⋯,rfl,⋯,⋯,by rw[length_replicate];omega,lY _,q _⟩
def dC(cs:aC):aI:=cs.map (fo (cp cs))
structure dN(rs:av)(us:ah)(cs:aC):Prop where
 l:cs.length=bh rs us
 x:∃X,r6 cs X
 b:∀c∈cs,bs c<=3000
 n:∀c∈dC cs,bi c<=3000
 p:∀c∈cs,0<=c
theorem dN.c{rs:av}{us:ah}{cs:aC}(h:dN rs us cs):mU (dC cs) (bh rs us):=⟨by unfold dC;rw[length_map];exact h.l,h.n⟩
theorem dN.nn{rs:av}{us:ah}{cs:aC}(h:dN rs us cs)(k:Nat):0<=cf (dC cs) k:=by
 unfold cf dC;rw[getD_eq_getElem?_getD,getElem?_map];cases e:cs[k]? with
 |none=>exact Int.le_refl _
 |some c=>
  have p:=h.p c (mem_of_getElem? e);have a:=(gQ cs 1 ∎).1;show 0<=fo (cp cs) c;unfold fo;exact mul_nonneg (Rat.num_nonneg.mpr p) (Int.fdiv_nonneg (le_of_lt a) (Int.natCast_nonneg _))
theorem Rc{m n:Nat}{M:aK}{S:Nat->Nat}{c:Nat->Int}{sh:Nat->Prop}{e:Nat}(G:Lp.Gd m n M S)(b:∀k,0<=c k)(a:c n=0)(E:Lp.Ent m n M c sh S e)(h:∀i,i<m->Lp.tt m M S i e<=0):False:=by
 have ne:∀i,i<m->S i≠e:=λi d q=>by have:=E.2.1;rw[<- q,Lp.ef d] at this;omega
 let⟨g,_,_,r4⟩:=Lp.MW G E.1 ne h a;have:0<=Lp.sm n λk=>c k*Lp.dr m M S e k:=Lp.cH λk f=>mul_nonneg (b k) (g k f)
 have:=E.2.1;omega
theorem wx{ns:aI}{n:Nat}(h:ns.length=n):cf ns n=0:=by unfold cf;rw[getD_eq_getElem?_getD,getElem?_eq_none ⋯];rfl
def il(rs:av)(us:ah)(cs:aC)(S:Nat->Nat):aC:=(List.range (bh rs us+1)).map λk=>Rat.divInt (Lp.zz rs.length (Mx rs us) (cf (dC cs)) S k) (cp cs*Lp.dd rs.length (Mx rs us) S)
theorem UA[ae j](xs:List j)(x:j):↥xs++[ae.t x]=(xs++[x]).map ae.t:=by rw[map_append];rfl
def MI(T:Tx w K mg):bQ:=λd Q=>d.length=2/\∃(g:Fl)(rs:av)(us:ah)(ss:bq)(S:Nat->Nat)(mk:aT)(b:aC)(_:Fp g),d=[b7 T .o (eD rs us ss S mk),.ag g ↥b]/\Sz rs.length (bh rs us) (Mx rs us)/\Lp.Gd rs.length (bh rs us) (Mx rs us) S/\jK rs.length mk S/\dN rs us b/\mk.length<=10000/\ss.length<=1000/\∀a,Lp.Gd rs.length (bh rs us) (Mx rs us) a->jK rs.length mk a->se rs.length (bh rs us) (Mx rs us) mk (cf (dC b)) a->∀j:ai,j[0]?=some (b7 T .o (eD rs us (ss++[il rs us b a]) a (ft rs.length (bh rs us) (Mx rs us) mk (cf (dC b)) a ss.length (bh rs us))))->Q .aM j
theorem Du(T:Tx w K mg){z:Bool}:aJ P w K mg base bM 4 T.qQ.a T.qQ.d ["self","costs"] (bR K z 2 2 (MI T)):=by
 refine cg T.qQ.F Wx rfl ∎ λa7 A outer s H E U hu y=>?_
 refine⟨_,(aQ (bJ 2 (qc T.ra (Ao T) (ar (qv 1) aH)))
  (aQ (bJ 3 (qc T.q5 (zd T) (ar (qv 1) (ar (qv 2) aH))))
  (aQ (xv 4 (nG (oj (cI 0)) (j9 T T.uF (QN T)) (kT (qv 3) nD)))
  (aQ (c6 (b5 Bh GA (qv 4) kP) (aQ uN
  (aY uN)) cZ)
  (aQ (xv 6 (nG (oj (cI 0)) (j9 T T.tW (To T)) (kT (qv 3) (kT (fH g6 gZ T.gX (ar (cE K (qv 0)) aH)) nD))))
  (aQ (i8 (oj (cI 0)) (je ["entry","scale","self"] [none,some 2,some 0] (gm (qv 6)) (fB 0) (λ_ _ _ _ _=>(qc T.jC (lq T) (ar (qv 0) (ar (dh (qv 1) (cE K (cE K (qv 2)))) aH))))))
  (aY (b8 kP)))))))),?_⟩
 rintro xs B _ ⟨_,g,rs,us,ss,S,mk,h,_,rfl,v,G,y,j,hm,Y,q⟩;let⟨X,u⟩:=j.x;have hn:=v.hn;have Q:=j.l;rfl';refine⟨rfl,g,h,X,‹_›,rfl,u,λ_=>?_⟩;rfl';refine⟨rfl,g,h,X,‹_›,rfl,u,⋯,j.b,λ_=>?_⟩;rfl';refine Es rfl ⟨T.fu,T.tm⟩ (bZ (bZ (bZ (bZ fm)))) (lu T ?_);rfl';simp only[iC,d6];refine⟨rfl,.f,rs.length,bh rs us,Mx rs us,S,mk,dC h,inferInstance,rfl,v,G,y,j.c,λi p r D O e=>?_,λi e p r C N=>(Rc p j.nn (wx j.c.1) C N).elim⟩;dsimp only;rw[e,gf];refine⟨qI T _,?_⟩;rw[zl];rfl';rw[Dq];rfl';refine Es rfl ⟨T.fu,T.tm⟩ (bZ (bZ (bZ (bZ fm)))) (lu T ?_);rfl';rw[C9];refine oG T ?_;show nX _ [Tr.ag _ ↥ss] _;rfl';simp only[iC,d6];refine⟨rfl,.f,rs.length,bh rs us,Mx rs us,i,mk,dC h,_,inferInstance,rfl,v,p.lt,j.c,hm,λO e=>?_⟩;dsimp only;rw[e,gf];refine⟨qI T _,?_⟩;rw[zl];refine rA rfl ⟨T.fu,T.xl⟩ (bZ (bZ (bZ fm))) ?_;rfl';rw[C9,gh,jY];have L:=(gQ h 1 ∎).1;have M:=kH ((gQ h 1 ∎).2.2.2 X (one_dvd _) u.2.1) u.1;have J:=u.2.2;have hd:=v.d i p.lt;refine br.map _ _ (λn=>Rat.divInt n (cp h*Lp.dd rs.length (Mx rs us) i)) (by rw[length_map,length_range];omega) (λn hn R I=>?_) ⟨lT _,show ss.length<1000000 by omega,?_⟩
 .rfl';simp only[dI];refine yH T (sL T ?_);rfl';exact⟨eJ (n:=3000) (m:=3000) (by unfold cp;omega) hd ⋯,rfl,n,_,rfl,ne_of_gt (mul_pos L p.pos),le_trans (gu (cp h) (Lp.dd rs.length (Mx rs us) i)) (by unfold cp;omega),λ_=>I⟩
 .rw[gj,map_map]
  change B Tr.aM (Tr.ins .o T.aah (adc "settled" (.ag .o (↥ss++[ae.t (il rs us h i)])) (gI T .o (eD rs us ss i (ft rs.length (bh rs us) (Mx rs us) mk (cf (dC h)) i ss.length (bh rs us)))))::_)
  rw[UA,PF];exact q i p r D _ rfl
def T4(T:Tx w K mg):bQ:=cY 2 λa Q=>∃(f:Fl)(S:gL)(i:Nat)(r:aC)(x:Rat)(_:Fp f),a=[b7 T f S,.int i]/\S.ss[i]?=some (r++[x])/\bs x<=7000/\Q (ae.t (0 - x))
theorem u0(T:Tx w K mg){z:Bool}:aJ P w K mg base bM 4 T.nT.a T.nT.d ["self","place"] (bR K z 0 2 (T4 T)):=by
 refine cg T.nT.F IZ rfl ∎ λa7 A outer s H E j l g=>?_
 refine⟨_,(aY (b8 (qc T.nO (xJ T) (ar (iW [0,1] T.jj T.jo) (ar (aX (aX (cE K (qv 0)) (qv 1)) (gA aA)) aH))))),?_⟩;rintro n e _ ⟨_,f,S,i,r,x,_,rfl,b,m,q⟩;rfl';simp only[eQ,f9,dI];refine oG T ?_;rfl';refine d0 _ _ (r++[x]) (eK b) ?_;rw[gh,gO,gN,BI];refine d0 _ _ x rfl ?_;rw[ie,jd];have h:bs (0:Rat)<=10:=by walk_at "k"
 exact⟨rfl,0,x,rfl,⋯,λ_=>⟨gi _,q _⟩⟩
def nP(rs:av)(us:ah)(S:Nat->Nat)(p:Str×Nat):Str×Rat:=(p.1,fV rs.length (bh rs us) (Mx rs us) S p.2)
def fF(rs:av)(us:ah)(S:Nat->Nat):List (Str×Rat):=us.zipIdx.map (nP rs us S)
def VB(T:Tx w K mg):bQ:=cY 1 λa Q=>∃(f:Fl)(rs:av)(us:ah)(ss:bq)(S:Nat->Nat)(mk:aT)(_:Fp f),a=[b7 T f (eD rs us ss S mk)]/\Sz rs.length (bh rs us) (Mx rs us)/\Lp.Gd rs.length (bh rs us) (Mx rs us) S/\us.Nodup/\us.length<=50/\Q (.aO .o ((fF rs us S).map λp=>((Sum.inr p.1:aS),ae.t p.2)))
theorem yX{us:ah}(h:us.Nodup){i:Nat}{u:Str}(e:us[i]?=some u):¬ u∈us.take i:=λm=>by
 ∎;let⟨j,f,b⟩:=List.mem_take_iff_getElem.mp m;let⟨d,a⟩:=List.getElem?_eq_some_iff.mp e;∎;exact (List.pairwise_iff_getElem.mp h) j i ⋯ d ⋯ (b.trans a.symm)
theorem o7[ae j](m:List (Str×j)):kS (m.map λp=>((Sum.inr p.1:aS),ae.t p.2))=true:=by
 have:=jx (m.map λp=>((Sum.inr p.1:aS),p.2));rw[map_map] at this;exact this
theorem MD(T:Tx w K mg){z:Bool}:aJ P w K mg base bM 4 T.uI.a T.uI.d ["self"] (bR K z 0 1 (VB T)):=by
 refine cg T.uI.F Uw rfl ∎ λa7 A outer s H E L M D=>?_
 refine⟨_,(aQ (gc 1 nV)
  (aQ (fM (l7 T.k6 (ar (cE K (qv 0)) aH)) (h9 (n:=2) rfl (dE (cS 2) (dE (cS 3) hJ))) (aY (pA (cI 1) (qv 3) (ew (j9 T T.tP (O6 T)) (cE K (qv 0)) (ar (qv 2) aH)))))
  (aY (kl (kh 1))))),?_⟩
 rintro N C _ ⟨_,f,rs,us,ss,S,mk,_,rfl,g,G,hn,I,q⟩;rfl';simp only[eQ,dI];refine⟨rfl,FV T ?_⟩;show g9 (Pu.ay (Tr.ag .f ↥us)) _;rfl';refine Loop.map us.zipIdx _ (λi J=>∃y z,J=[b7 T f (eD rs us ss S mk),.aO .o (((us.zipIdx.take i).map (nP rs us S)).map λp=>((Sum.inr p.1:aS),ae.t p.2)),y,z]) ⟨_,_,rfl⟩ ?_ ?_
 .rintro i ⟨u,j⟩ J hj ⟨y,z,rfl⟩;let⟨e,h⟩:=lg hj;dsimp only at e h;subst h;have r:=(List.getElem?_eq_some_iff.mp e).1;rfl';simp only[eQ,dI];refine yH T ?_;simp only[iC,f9,ib];refine lu T ⟨rfl,_,_,_,_,_,_,j,inferInstance,rfl,g,G,by unfold bh;omega,λ_=>?_⟩;rfl';have m:m6 ((us.zipIdx.take j).map (nP rs us S)) u (fV rs.length (bh rs us) (Mx rs us) S j)=(us.zipIdx.take (j+1)).map (nP rs us S):=by
   rw[eT,take_add_one,hj,Option.toList_some,map_append]
   .rfl
   .intro z g;let⟨⟨x,k⟩,v,rfl⟩:=mem_map.mp g;rintro rfl;refine yX hn e ?_;let⟨B,b,l⟩:=List.mem_take_iff_getElem.mp v;have:=lg (List.getElem?_eq_some_iff.mpr ⟨⋯,l⟩);exact List.mem_take_iff_getElem.mpr ⟨B,by rw[length_zipIdx] at b;exact b,(List.getElem?_eq_some_iff.mp this.1).2⟩
  rw[m];exact⟨by rw[length_take];omega,_,_,rfl⟩
 .rintro J ⟨y,z,rfl⟩;rw[take_length];rfl';exact⟨(cu _ (o7 _)).o,q _⟩
theorem sM{x:Int}(h:bi x<=100):bs (x:Rat)<=100:=by
 unfold bs;show max (bl x.natAbs) (bl 1)<=100;have:bl 1<=1:=by walk_at "k"
 unfold bi at h;omega
def Bd(lr:aC):Prop:=∀x∈lr,bs x<=3900
def qX(kind:Str)(sc:Int)(b a:Rat):Rat:=if kind="least" then a*(sc:Rat) else if kind="most" then b*((-sc:Int):Rat) else (a - b)*Rat.divInt sc 2
def rl(rs:av)(us:ah)(a:aC)(i:Nat):Rat:=match rs[i]? with
 |some o=>qX o.2.1 (bA us o) (a.getD (us.length + 2 * i) 0) (a.getD (us.length + 2 * i + 1) 0)
 |none=>0
def oa(rs:av)(us:ah)(a:aC):aC:=(List.range rs.length).map (rl rs us a)
def P1(T:Tx w K mg):bQ:=cY 3 λb Q=>∃(f g:Fl)(rs:av)(us:ah)(ss:bq)(S:Nat->Nat)(mk:aT)(i:Nat)(a:aC)(o:bW)(_:Fp f)(_:Fp g),b=[b7 T f (eD rs us ss S mk),.int i,.ag g ↥a]/\i<=100/\rs[i]?=some o/\a.length=us.length+2*rs.length+1/\Bd a/\bi (bA us o)<=100/\Q (ae.t (qX o.2.1 (bA us o) (a.getD (us.length+2*i) 0) (a.getD (us.length+2*i+1) 0)))
theorem K2(T:Tx w K mg){z:Bool}:aJ P w K mg base bM 4 T.uM.a T.uM.d ["self","number","left"] (bR K z 0 3 (P1 T)):=by
 refine cg T.uM.F IK rfl ∎ λa7 A outer s H E M N G=>?_
 refine⟨_,(aQ (bJ 3 (aX (qv 2) (ew (eS T T.nh (rp T)) (qv 0) (ar (qv 1) aH))))
  (aQ (bJ 4 (aX (qv 2) (ew (eS T T.l0 (s9 T)) (qv 0) (ar (qv 1) aH))))
  (aQ (bJ 5 (aX (aX (cE K (qv 0)) (qv 1)) aA))
  (aQ (bJ 6 (aX (cE K (qv 0)) (qv 1)))
  (aQ (c6 (b5 fX fU (qv 5) gE) (aY (b8 (qc T.mQ (sC T) (ar (qv 4) (ar (gp (ar (qv 6) (ar aA aH))) aH))))) cZ)
  (aQ (c6 (b5 fX fU (qv 5) gE) (aY (b8 (qc T.mQ (sC T) (ar (qv 3) (ar (gp (ar (gA (qv 6)) (ar aA aH))) aH))))) cZ)
  (aY (b8 (qc T.mQ (sC T) (ar (qc T.nO (xJ T) (ar (qv 4) (ar (qv 3) aH))) (ar (qc T.jC (lq T) (ar (qv 6) (ar aA aH))) aH))))))))))),?_⟩
 rintro O D _ ⟨_,f,g,rs,us,ss,S,mk,i,n,o,_,_,rfl,J,l,L,p,m,q⟩;have v:=(List.getElem?_eq_some_iff.mp l).1;rfl';simp only[eQ,fE,f9,ib,dI];refine fG T ⟨rfl,f,_,rs,us,i,‹_›,rfl,iw T f _,⋯,λ_=>?_⟩;obtain⟨b,eb⟩:∃b,n[us.length+2*i+0]?=some b:=⟨_,getElem?_eq_getElem ⋯⟩;obtain⟨a,j⟩:∃a,n[us.length+2*i+1]?=some a:=⟨_,getElem?_eq_getElem ⋯⟩;rw[getD_eq_getElem?_getD,getD_eq_getElem?_getD,j,show n[us.length+2*i]?=some b from eb] at q;have r:=p b (mem_of_getElem? eb);have u:=p a (mem_of_getElem? j);rfl';refine d0 _ _ b (eK eb) ?_;rfl'
 try simp only[eQ,fE,f9,ib,dI]
 refine fG T ⟨rfl,f,_,rs,us,i,‹_›,rfl,iw T f _,⋯,λ_=>?_⟩;rfl';refine d0 _ _ a (eK j) ?_;rfl'
 try simp only[eQ,fE,f9,ib,dI]
 refine sv T ?_;rfl';refine d0 _ _ o (eK l) ?_;rfl';refine AJ T ?_;show iG (.ag f ((rs.map (bA us)).map ae.t)) (.int i) _;rw[gO,gN];refine d0 _ _ (bA us o) (eK (by rw[getElem?_map,l];rfl)) ?_;rfl';have B:=sM m;have C:=sM (x:=-bA us o) (by unfold bi;rw[Int.natAbs_neg];exact m);unfold qX at q;by_cases e:o.2.1="least"
 .rw[if_pos (decide_eq_true e)];rw[if_pos e] at q;exact⟨rfl,a,(bA us o:Rat),rfl,⋯,λ_=>⟨gi _,q _⟩⟩
 .rw[if_neg (by simpa using e)];rw[if_neg e] at q;by_cases h:o.2.1="most"
  .rw[if_pos (decide_eq_true h)];rw[if_pos h] at q;exact⟨rfl,b,((-bA us o:Int):Rat),rfl,⋯,λ_=>⟨gi _,q _⟩⟩
  .rw[if_neg (by simpa using h)];rw[if_neg h] at q;have y:=sJ a b;have I:bs (Rat.divInt (bA us o) 2)<=100:=oA ∎ m (by walk_at "k");refine⟨rfl,a,b,rfl,⋯,λ_=>⟨rfl,_,2,rfl,∎,by walk_at "k",λ_=>?_⟩⟩;dsimp only;rw[ie,jd];exact⟨rfl,_,_,rfl,⋯,λ_=>⟨gi _,q _⟩⟩
def Sq(T:Tx w K mg):bQ:=cY 2 λb Q=>∃(f g:Fl)(rs:av)(us:ah)(ss:bq)(S:Nat->Nat)(mk:aT)(a:aC)(_:Fp f)(_:Fp g),b=[b7 T f (eD rs us ss S mk),.ag g ↥a]/\rs.length<=100/\a.length=us.length+2*rs.length+1/\Bd a/\(∀o∈rs,bi (bA us o)<=100)/\Q (.ag .o ((oa rs us a).map ae.t))
theorem Bk(T:Tx w K mg){z:Bool}:aJ P w K mg base bM 5 T.pG.a T.pG.d ["self","left"] (bR K z 0 2 (Sq T)):=by
 refine cg T.pG.F L9 rfl ∎ λa7 A outer s H E u v r=>?_
 refine⟨_,(aY (b8 (je ["number","left","self"] [none,some 1,some 0] (rR T.k7 (ar (fH g6 gZ T.gX (ar (cE K (qv 0)) aH)) aH)) (fB 0) (λ_ _ _ _ _=>(ew (eS T T.uM (K2 T)) (qv 2) (ar (qv 0) (ar (qv 1) aH))))))),?_⟩;rintro x p _ ⟨_,f,g,rs,us,ss,S,mk,h,_,_,rfl,j,n,l,o,q⟩;rfl';simp only[eQ,fE,f9,ib,dI];refine sv T ?_;rfl'
 change -1000000<=(rs.length:Int)/\(rs.length:Int)<=1000000/\br (List.map (λi:Nat=>Tr.int (i:Int)) (List.range ((rs.length:Int)).toNat)) _ _ _ _ _
 rw[Int.toNat_natCast];refine⟨⋯,⋯,br.map (List.range rs.length) _ (rl rs us h) (by rw[length_range];omega) (λi m R e=>?_) ⟨nZ _,q _⟩⟩;have b:=mem_range.mp m;rfl'
 try simp only[eQ,fE,f9,ib,dI]
 refine fG T ⟨rfl,f,g,rs,us,ss,S,mk,i,h,rs[i],‹_›,‹_›,rfl,⋯,getElem?_eq_getElem b,n,l,o _ (List.getElem_mem b),λ_=>?_⟩;unfold rl at e;rw[getElem?_eq_getElem b] at e;exact e
theorem Vz{a b:Rat}(h:b≠0):bs (a / b)<=bs a+bs b:=by
 have hn:b.num≠0:=λz=>h (Rat.num_eq_zero.mp z)
 rw[<- Bn];exact oA (Int.mul_ne_zero (by have:=a.den_nz;omega) hn) (le_trans (gu _ _) (by have:=iL a;have:=fZ b;omega)) (le_trans (gu _ _) (by have:=fZ a;have:=iL b;omega))
structure nL(C:Nat)(ss:bq)(mk:aT):Prop where
 r:∀row∈ss,∀v∈row,bs v<=3000
 m:∀p∈mk,∃kn j:Nat,p.2=some (kn:Int)/\p.1=Sum.inl (j:Int)/\j<C/\∃row v,ss[kn]?=some row/\row[j]?=some v/\0<v
def o9(a:aC)(ss:bq)(k:Nat)(j:Nat):Rat:=(0 - a.getD j 0) / (ss.getD k []).getD j 0
def iD(b:aC)(ss:bq)(k:Nat)(s:Rat)(p:aS×bK):Rat:=match p with
 |(.inl j,some a)=>if a=(k:Int) then (if s < o9 b ss k j.toNat then o9 b ss k j.toNat else s) else s
 |_=>s
def shr(a:aC)(ss:bq)(k:Nat)(mk:aT):Rat:=mk.foldl (iD a ss k) 0
def Q3(T:Tx w K mg):bQ:=cY 3 λb Q=>∃(g:Fl)(rs:av)(us:ah)(ss:bq)(S:Nat->Nat)(mk:aT)(a:aC)(k C:Nat)(_:Fp g),b=[b7 T .f (eD rs us ss S mk),.ag g ↥a,.int k]/\nL C ss mk/\a.length=C+1/\Bd a/\Q (ae.t (shr a ss k mk))
theorem JB(T:Tx w K mg):aJ P w K mg base bM 4 T.rM.a T.rM.d ["self","left","ahead"] (bR K true 0 3 (Q3 T)):=by
 refine cg T.rM.F Nb rfl ∎ λa7 A outer s H E hr hu hN=>?_
 refine⟨_,(aQ (bJ 3 (iW [0,1] T.jj T.jo))
  (aQ (An (cE K (cE K (qv 0))) (h9 (n:=2) rfl (dE (cS 4) (dE (cS 5) hJ))) (aY (c6 (b5 fX fU (qv 5) (qv 2)) (aQ (bJ 6 (qc T.pM (Gx T) (ar (qc T.nO (xJ T) (ar (iW [0,1] T.jj T.jo) (ar (aX (qv 1) (qv 4)) aH))) (ar (aX (aX (cE K (qv 0)) (qv 2)) (qv 4)) aH))))
  (aY (bJ 3 (uK (l9 (qc T.sD (QC T) (ar (qv 3) (ar (qv 6) aH)))) (qv 6) (qv 3))))) cZ)))
  (aY (b8 (qv 3))))),?_⟩
 rintro xs Q' _ ⟨_,g,rs,us,ss,S,m,h,k,C,_,rfl,O,hl,hb,q⟩;rfl';simp only[eQ,fE,dA,d6,dI];refine yH T (xC T ?_);have U:Pu.ay (.aO .f (mT m))=.aO .f (mT m):=rfl
 change bF (Tr.aO .f (mT m))=true/\q4 (Pu.ay (Tr.aO .f (mT m))) _
 rw[U];refine⟨(cu _ (jx m)).t,⟨λi G=>∃a b c,G=[b7 T .f (eD rs us ss S m),.ag g ↥h,.int k,ae.t ((m.take i).foldl (iD h ss k) 0),a,b,c]/\bs ((m.take i).foldl (iD h ss k) 0)<=6910,⟨_,_,_,rfl,by rw[List.take_zero];show bs 0<=6910;rw[lE];decide⟩,?_,?_⟩⟩
 .rintro i p G hp ⟨a,b,c,rfl,hsb⟩;unfold mT at hp;rw[getElem?_map] at hp;cases e:m[i]? with
  |none=>rw[e] at hp;cases hp
  |some L=>
  rw[e] at hp;cases hp;have tk:(m.take (i+1)).foldl (iD h ss k) 0=iD h ss k ((m.take i).foldl (iD h ss k) 0) L:=by rw[take_add_one,e,List.foldl_append];rfl
  let⟨kn,j,M,N,hj,o,v,y,B,Q⟩:=O.m L (mem_of_getElem? e);obtain⟨x,ex⟩:∃x,h[j]?=some x:=⟨_,getElem?_eq_getElem (by rw[hl];omega)⟩;have β:=hb x (mem_of_getElem? ex);have α:=O.r o (mem_of_getElem? y) v (mem_of_getElem? B);let⟨y1,y2⟩:=L;dsimp only at M N;subst M N;show lI _ _ (.aF [.int (j:Int),.int (kn:Int)]) _ _;rfl';simp only[tk];generalize (m.take i).foldl (iD h ss k) 0=sh at hsb ⊢;by_cases I:(kn:Int)=(k:Int)
  .rw[if_pos (decide_eq_true I)];have J:kn=k:=⋯
   subst J;have Y:o9 h ss kn j=(0 - x) / v:=by
    unfold o9;rw[getD_eq_getElem?_getD,ex,getD_eq_getElem?_getD,getD_eq_getElem?_getD,y];simp[B]
   have D:iD h ss kn sh (Sum.inl (j:Int),some (kn:Int))=if sh<(0 - x) / v then (0 - x) / v else sh:=by
    unfold iD;dsimp only;rw[if_pos rfl,Int.toNat_natCast,Y]
   rw[D];refine d0 _ _ x (eK ex) ?_;rfl';refine⟨rfl,0,x,rfl,by rw[lE];omega,λ_=>?_⟩;rfl';simp only[eQ,dA,dI];refine oG T ?_;rfl';refine d0 _ _ o (eK y) ?_;rw[gh,gO,gN];refine d0 _ _ v (eK B) ?_;have hs:=sJ 0 x;rw[lE] at hs;have u:v≠0:=λz=>by rw[z] at Q;exact absurd Q ∎
   rw[ie,jd];refine⟨rfl,0 - x,v,rfl,u,⋯,λ_=>⟨gx _,?_⟩⟩;have hd:=Vz (a:=0 - x) (b:=v) u;rfl';refine⟨rfl,sh,(0 - x) / v,rfl,⋯,λ_=>?_⟩;rfl';by_cases l:sh<(0 - x) / v
   .rw[if_pos (decide_eq_true l),if_pos l];exact⟨_,_,_,rfl,⋯⟩
   .rw[if_neg (by simpa using l),if_neg l];exact⟨_,_,_,rfl,hsb⟩
  .rw[if_neg (by simpa using I)];have D:iD h ss k sh (Sum.inl (j:Int),some (kn:Int))=sh:=by unfold iD;dsimp only;rw[if_neg I]
   rw[D];exact⟨_,_,_,rfl,hsb⟩
 .rintro G ⟨a,b,c,rfl,_⟩;rfl';rw[show (m.take (mT m).length)=m by unfold mT;rw[length_map,take_length]];exact q _
theorem ux{neg:Bool}{a b:Rat}{Q:az}(q:Q (.bl (if neg=true then !decide (a=b) else decide (a=b)))):kM neg (ae.t a) (ae.t b) Q:=by
 refine .inr ⟨decide (a=b),?_,show (1:Nat)<=60 by decide,le_refl 1,q⟩;show (if 2=2 then (some (decide (a.num=b.num))).bind λx=>((some (decide ((a.den:Int)=b.den))).bind λy=>(some true).bind λz=>some (y&&z)).bind λy=>some (x&&y) else none)=_;rw[if_pos rfl];show some (decide (a.num=b.num)&&(decide ((a.den:Int)=b.den)&&true))=_;congr 1;by_cases h:a=b
 .subst h;simp
 .rw[decide_eq_false h];by_cases d:a.num=b.num
  .have h2:¬ (a.den:Int)=b.den:=λz=>h (Rat.ext d ⋯)
   rw[decide_eq_false h2,Bool.false_and,Bool.and_false]
  .rw[decide_eq_false d,Bool.false_and]
def rC(ss:bq)(mk:aT)(st:aC×aC)(k:Nat):aC×aC:=(if shr st.1 ss k mk=0 then st.1 else List.zipWith (λa b=>a+shr st.1 ss k mk*b) st.1 (ss.getD k []),st.2++[shr st.1 ss k mk])
def pp(ss:bq)(mk:aT)(i:Nat):Nat->aC×aC
 |0=>(ss.getD i [],[])
 |j + 1=>rC ss mk (pp ss mk i j) (i - 1 - j)
structure BB(C:Nat)(ss:bq)(mk:aT)(i:Nat):Prop where
 l:∀j,j<=i->(pp ss mk i j).1.length=C+1/\Bd (pp ss mk i j).1
 s:∀j,j<i->∀b∈ss.getD (i - 1 - j) [],bs (shr (pp ss mk i j).1 ss (i - 1 - j) mk)+bs b<=7990/\bs (shr (pp ss mk i j).1 ss (i - 1 - j) mk*b)<=4000
def GU(T:Tx w K mg):bQ:=cY 2 λa Q=>∃(rs:av)(us:ah)(ss:bq)(S:Nat->Nat)(mk:aT)(i:Nat),a=[b7 T .f (eD rs us ss S mk),.int i]/\rs.length<=16/\us.length<=10/\i<ss.length/\ss.length<=1000/\nL (bh rs us) ss mk/\BB (bh rs us) ss mk i/\(∀o∈rs,bi (bA us o)<=100)/\Q (.aF [.ag .o ((oa rs us (pp ss mk i i).1).map ae.t),.ag .o ((pp ss mk i i).2.reverse.map ae.t)])
theorem xI{ss:bq}{mk:aT}{i:Nat}:∀j,(pp ss mk i j).2.length=j
 |0=>rfl
 |j + 1=>by show (_ ++ [_]).length=_;rw[length_append,xI j];rfl
theorem Sg(T:Tx w K mg):aJ P w K mg base bM 6 T.tT.a T.tT.d ["self","place"] (bR K true 0 2 (GU T)):=by
 refine cg T.tT.F Ud rfl ∎ λa7 A outer s H E hr hu hN=>?_
 refine⟨_,(aQ (bJ 2 (aX (cE K (qv 0)) (qv 1)))
  (aQ (gc 3 (eH aH))
  (aQ (fM (Ku rfl T.k7 (ar (mr (qv 1) aA) (ar (gA aA) (ar (gA aA) aH)))) (cS 4) (aQ (bJ 5 (ew (eS T T.rM (JB T)) (qv 0) (ar (qv 2) (ar (qv 4) aH))))
  (aQ (c6 (b5 jW j7 (qv 5) (iW [0,1] T.jj T.jo)) (aY (nB 2 ["one","other","share"] [none,none,some 5] (qh T.pZ (ar (qv 2) (ar (aX (cE K (qv 0)) (qv 4)) aH))) (xp (n:=2) rfl (nM (fB 0) (nM (fB 1) vg))) (λ_ _ _ _ _=>(qc T.tZ (Td T) (ar (qv 0) (ar (qc T.mQ (sC T) (ar (qv 2) (ar (qv 1) aH))) aH)))))) cZ)
  (aY (i8 (cI 3) (qv 5))))))
  (aY (b8 (gp (ar (ew (eS T T.pG (Bk T)) (qv 0) (ar (qv 2) aH)) (ar (OE rfl rfl T.gk rfl T.UO (ar (qv 3) aH)) aH)))))))),?_⟩
 rintro xs Y _ ⟨_,rs,us,ss,S,m,i,rfl,L,J,O,h,N,r,y,q⟩;have v:ss[i]?=some (ss.getD i []):=by rw[getD_eq_getElem?_getD,getElem?_eq_getElem O];rfl
 rfl';simp only[eQ,fE,dA,d6,dI];refine oG T ?_;rfl';refine d0 _ _ _ (eK v) ?_;rfl';refine⟨⋯,⋯,Loop.map (List.range ((i:Int) - 1+1).toNat) (λn:Nat=>Tr.int ((i:Int) - 1+n*-1)) (λj G=>∃a b,G=[b7 T .f (eD rs us ss S m),.int i,ae.t (pp ss m i j).1,.ag .o ((pp ss m i j).2.map ae.t),a,b]) ⟨_,_,rfl⟩ ?_ ?_⟩
 .rintro j n G hj ⟨a,b,rfl⟩;let⟨hn,rfl⟩:=oJ hj;have u:j<i:=⋯
  have I:(i:Int) - 1+(j:Int)*-1=((i - 1 - j:Nat):Int):=⋯
  rw[I];have e:=r.l j ⋯;have x:=r.s j u;have D:(pp ss m i (j+1)).2=(pp ss m i j).2++[shr (pp ss m i j).1 ss (i - 1 - j) m]:=rfl;have C:(pp ss m i (j+1)).1=if shr (pp ss m i j).1 ss (i - 1 - j) m=0 then (pp ss m i j).1 else List.zipWith (λa b=>a+shr (pp ss m i j).1 ss (i - 1 - j) m*b) (pp ss m i j).1 (ss.getD (i - 1 - j) []):=rfl
  have z:=xI (ss:=ss) (mk:=m) (i:=i) j;rfl'
  try simp only[eQ,fE,dA,d6,dI]
  refine fG T ⟨rfl,.f,rs,us,ss,S,m,(pp ss m i j).1,i - 1 - j,_,inferInstance,rfl,N,e.1,e.2,λ_=>?_⟩;rfl';simp only[D,C];generalize shr (pp ss m i j).1 ss (i - 1 - j) m=sh at x ⊢;refine ux ?_;rfl';by_cases g:sh=0
  .rw[if_neg (by simp[g]),if_pos g];exact⟨⋯,_,_,rfl⟩
  .rw[if_pos (by simp[g]),if_neg g];have Q:ss[i - 1 - j]?=some (ss.getD (i - 1 - j) []):=by rw[getD_eq_getElem?_getD,getElem?_eq_getElem ⋯];rfl
   refine oG T ?_;rw[gO,gN];refine d0 _ _ _ (eK Q) ?_;generalize ss.getD (i - 1 - j) []=row at x ⊢;generalize (pp ss m i j).1=lr at e ⊢;have hc:lr.length<=100:=by have:=e.1;unfold bh at this;omega
   rw[ie,gh,gh,jY,jY,tO];refine br.map (lr.zip row) _ (λp=>p.1+sh*p.2) (by rw[length_zip];omega) (λp U R M=>?_) ?_
   .obtain⟨m1,m2⟩:=of_mem_zip U;have b1:=e.2 _ m1;let⟨B,b3⟩:=x _ m2;rfl';refine⟨rfl,sh,p.2,rfl,B,λ_=>?_⟩;dsimp only;rw[ie,jd];exact⟨rfl,p.1,sh*p.2,rfl,⋯,λ_=>M⟩
   .have e3:(lr.zip row).map (λp=>p.1+sh*p.2)=List.zipWith (λa b=>a+sh*b) lr row:=by rw[List.zip_eq_zipWith,List.map_zipWith]
    rw[e3,gj];exact⟨lT _,⋯,_,_,rfl⟩
 .rintro G ⟨a,b,rfl⟩;rw[length_range,show ((i:Int) - 1+1).toNat=i by omega];rfl';simp only[eQ,fE,dA,d6,dI];have e:=r.l i (le_refl _);refine fG T ⟨rfl,.f,.f,rs,us,ss,S,m,(pp ss m i i).1,inferInstance,inferInstance,rfl,⋯,e.1,e.2,y,λ_=>?_⟩;rw[<- List.map_reverse];exact⟨lG _,by rw[nZ,lY];rfl,q _⟩
structure kA(e s v:Nat)(us:ah)(o:bW):Prop where
 b:va us o
 p:0<bA us o
 sb:bi (bA us o)<=s
 eb:∀x∈eC us o,bi x<=e
 x:bi (cK us o)<=e
 w:0<=o.2.2.2.2/\bi o.2.2.2.2<=v
theorem yO{x:Int}{k:Nat}(h:bi x<=k):x.natAbs<=2 ^ k:=Nat.le_of_lt (jy h)
theorem x5:∀{m k:Nat},m<=k->Lp.gD m<=Lp.gD k
 |m,0,h=>by rw[show m=0 by omega];exact le_refl _
 |m,k + 1,h=>by
  by_cases e:m=k+1
  .rw[e];exact le_refl _
  .exact le_trans (x5 (show m<=k by omega)) (Nat.le_mul_of_pos_left _ ⋯)
section
variable{rs:av}{us:ah}{e s v:Nat}
theorem sf(h:∀o∈rs,kA e s v us o){i k:Nat}(b:i<rs.length):(Mx rs us i k).natAbs<=2 ^ e:=by
 let⟨o,a⟩:=lW b;have z:=h o (mem_of_getElem? a);have one:1<=2 ^ e:=Nat.one_le_two_pow;rw[lX a,natAbs_mul,show (sgn (cK us o)).natAbs=1 by unfold sgn;split<;>rfl,Nat.one_mul];unfold A0;split
 .rw[getD_eq_getElem?_getD];cases q:(eC us o)[k]? with
  |none=>exact zero_le _
  |some x=>exact yO (z.eb x (mem_of_getElem? q))
 .split
  .exact one
  .split
   .exact one
   .split
    .exact yO z.x
    .exact zero_le _
def fb(N:Nat):Nat:=if N<=10 then 22 else 45
theorem Vq{m N:Nat}(h:m<=N)(a:N<=16):Lp.gD m<2 ^ fb N:=by
 unfold fb;split
 .exact lt_of_le_of_lt (x5 (show m<=10 by omega)) (by walk_at "k")
 .exact lt_of_le_of_lt (x5 (show m<=16 by omega)) (by walk_at "k")
theorem vl{m f:Nat}(a:Lp.gD m<2 ^ f){x:Int}(h:x.natAbs<=Lp.gD m*(2 ^ e) ^ m):bi x<=f+e*m:=by
 refine fL (lt_of_le_of_lt h ?_);rw[<- Nat.pow_mul,pow_add];exact Nat.mul_lt_mul_of_pos_right a (Nat.two_pow_pos _)
theorem Mp(h:∀o∈rs,kA e s v us o)(hm:rs.length<=16){f:Nat}(g:Lp.gD rs.length<2 ^ f)(hn:bh rs us<=60)(b:f+e*rs.length<=3000):Sz rs.length (bh rs us) (Mx rs us) where
 hm:=⋯
 hn:=hn
 t:=λS i k lt j=>le_trans (vl g (Lp.jH (λi k a _=>sf h a) lt j)) b
 d:=λS lt=>le_trans (vl g (Lp.hU (λi k a _=>sf h a) lt)) b
def sX(us:ah):av->Nat
 |[]=>1
 |o::rs=>(bA us o).natAbs * sX us rs
theorem vp:∀{rs:av},(∀o∈rs,kA e s v us o)->0<sX us rs
 |[],_=>Nat.one_pos
 |o::rs,h=>Nat.mul_pos (by have:=(h o (.head _)).p;omega) (vp λq m=>h q (.tail _ m))
theorem yU:∀{rs:av}{o:bW},o∈rs->bA us o ∣ (sX us rs:Int)
 |p::rs,o,m=>by
  show _ ∣ (((bA us p).natAbs*sX us rs:Nat):Int);rw[natCast_mul];rcases mem_cons.mp m with rfl |m
  .exact dvd_trans (Int.dvd_natAbs_self) (Int.dvd_mul_right _ _)
  .exact dvd_trans (yU m) (Int.dvd_mul_left _ _)
theorem xm:∀{rs:av},(∀o∈rs,kA e s v us o)->bi (sX us rs:Int)<=1+s*rs.length
 |[],_=>by show bi 1 <= _;exact le_trans (show bi 1 <= 1 by walk_at "k") ⋯
 |o::rs,h=>by
  show bi (((bA us o).natAbs*sX us rs:Nat):Int)<=_;rw[natCast_mul];have a:=gu ((bA us o).natAbs:Int) (sX us rs:Int);have b:=xm (rs:=rs) λq m=>h q (.tail _ m)
  have c:bi ((bA us o).natAbs:Int)<=s:=by unfold bi;rw[natAbs_natCast];exact (h o (.head _)).sb
  rw[length_cons,Nat.mul_succ];omega
theorem rZ(a:Int){b:Int}(d:0<b):((Rat.divInt a b).den:Int) ∣ b:=by
 rw[Rat.den_divInt,if_neg (ne_of_gt d)];exact dvd_trans (Int.natCast_dvd_natCast.mpr (Nat.div_dvd_of_dvd (Nat.gcd_dvd_left _ _))) (Int.natAbs_dvd_self)
theorem Ce{cs:aC}{X:Nat}(p:cs.length=bh rs us)(i:0<X)(hd:∀c∈cs,(c.den:Int) ∣ (X:Int)){x y:Nat}(u:bi (X:Int)<=x)(j:∀c∈cs,bi c.num<=y)(hp:∀c∈cs,0<=c)(h:x+y<=3000):dN rs us cs/\∀k,bi (cf (dC cs) k)<=x+y:=by
 have f:∀c∈cs,bi (fo (cp cs) c)<=x+y:=λc m=>by
  unfold fo;let⟨z,l⟩:=(gQ cs 1 ∎).2.2.1 c m;have g:(0:Int)<(c.den:Int):=natCast_pos.mpr c.den_pos;have o:(cp cs).fdiv (c.den:Int)=z:=by
   have:=Int.mul_fdiv_cancel_left (a:=(c.den:Int)) z (ne_of_gt g);rwa[<- l] at this
  rw[o];have r:=(gQ cs 1 ∎).2.2.2 X (one_dvd _) hd;have n:z ∣ (X:Int):=dvd_trans (by rw[l];exact Int.dvd_mul_left _ _) r;have:=kH n i;have:=gu c.num z;have:=j c m;omega
 refine⟨⟨p,⟨X,i,hd,⋯⟩,λc m=>?_,λc m=>?_,hp⟩,λk=>?_⟩
 .have a:=kH (hd c m) i;have b:=j c m;unfold bs;unfold bi at a b;rw[natAbs_natCast] at a;have:bi (X:Int)=bl (X:Int).natAbs:=rfl;omega
 .unfold dC at m;let⟨d,md,rfl⟩:=mem_map.mp m;have:=f d md;omega
 .unfold cf dC;rw[getD_eq_getElem?_getD,getElem?_map];cases q:cs[k]? with
  |none=>exact zero_le _
  |some c=>exact f c (mem_of_getElem? q)
theorem Hn(a:Int){b:Int}(g:0<b):bi (Rat.divInt a b).num<=bi a:=by
 have h:=Rat.num_divInt a b;by_cases f:a=0
 .subst f;rw[Rat.zero_divInt];exact zero_le _
 .have d:(Rat.divInt a b).num ∣ a:=by
   rw[h,Int.sign_eq_one_of_pos g,one_mul];exact Int.ediv_dvd_of_dvd (Int.gcd_dvd_right ..)
  have:=le_of_dvd ⋯ (Int.natAbs_dvd_natAbs.mpr d);exact fL (lt_of_le_of_lt this (jy (le_refl _)))
theorem qB{a b:Int}(d:0<=a)(f:0<b):0<=Rat.divInt a b:=Rat.divInt_nonneg d (le_of_lt f)
theorem ub{k:Int}{c:Rat}(m:c∈cW us rs k):c=0\/∃o∈rs,c=Rat.divInt o.2.2.2.2 (bA us o):=by
 unfold cW at m;rcases mem_append.mp m with m |m
 .exact .inl (List.eq_of_mem_replicate m)
 .obtain⟨o,ho,mo⟩:=List.mem_flatMap.mp m;simp only[mem_cons,List.not_mem_nil,or_false] at mo;rcases mo with rfl |rfl
  .unfold cb;split
   .split
    .exact .inl rfl
    .exact .inr ⟨o,ho,rfl⟩
   .exact .inl rfl
  .unfold ca;split
   .split
    .exact .inl rfl
    .exact .inr ⟨o,ho,rfl⟩
   .exact .inl rfl
theorem VU(h:∀o∈rs,kA e s v us o)(k:Int)(a:1+s*rs.length+v<=3000):dN rs us (cW us rs k)/\∀j,bi (cf (dC (cW us rs k)) j)<=1+s*rs.length+v:=by
 refine Ce (X:=sX us rs) (by unfold cW bh;rw[length_append,length_replicate,yE]) (vp h) (λc m=>?_) (xm h) (λc m=>?_) (λc m=>?_) a
 .rcases ub m with rfl |⟨o,ho,rfl⟩
  .exact one_dvd _
  .exact dvd_trans (rZ _ (h o ho).p) (yU ho)
 .rcases ub m with rfl |⟨o,ho,rfl⟩
  .exact zero_le _
  .exact le_trans (Hn _ (h o ho).p) (h o ho).w.2
 .rcases ub m with rfl |⟨o,ho,rfl⟩
  .exact Rat.le_refl
  .exact qB (h o ho).w.1 (h o ho).p
theorem OX{a:List (Str×Rat)}(hp:∀u,(cF a u).getD 0=0\/(cF a u).getD 0=1):dN rs us (dG us rs.length a)/\∀j,bi (cf (dC (dG us rs.length a)) j)<=2:=by
 have mem:∀c∈dG us rs.length a,c=0\/c=1:=λc m=>by
  unfold dG at m;rcases mem_append.mp m with m |m
  .obtain⟨u,_,rfl⟩:=mem_map.mp m;exact hp u
  .exact .inl (List.eq_of_mem_replicate m)
 refine Ce (X:=1) (x:=1) (y:=1) (by unfold dG bh;rw[length_append,length_map,length_replicate]) ∎ (λc m=>?_) (by walk_at "k") (λc m=>?_) (λc m=>?_) ∎
 .rcases mem c m with rfl |rfl<;>exact one_dvd _
 .rcases mem c m with rfl |rfl<;>decide +kernel
 .rcases mem c m with rfl |rfl<;>decide
def CD(l d:Nat)(b:aC):Prop:=∃D:Int,0<D/\bi D<=d/\∀x∈b,∃a:Int,x=Rat.divInt a D/\bi a<=l
theorem CD.mono{l d g d':Nat}{f:aC}(h:CD l d f)(a:l<=g)(b:d<=d'):CD g d' f:=by
 let⟨D,i,n,j⟩:=h;exact⟨D,i,⋯,λx m=>by let⟨y,e,o⟩:=j x m;exact⟨y,e,⋯⟩⟩
theorem CD.bs{l d:Nat}{b:aC}(h:CD l d b)(hd:d<=l){x:Rat}(m:x∈b):Vc.bs x<=l:=by
 ∎;let⟨D,f,j,i⟩:=h;let⟨a,rfl,g⟩:=i x m;∎;exact oA (ne_of_gt f) g ⋯
theorem FD(h:∀o∈rs,kA e s v us o)(hm:rs.length<=16){f:Nat}(b:Lp.gD rs.length<2 ^ f){cs:aC}{S:Nat->Nat}{C x:Nat}(lt:∀i,i<rs.length->S i<bh rs us)(G:0<Lp.dd rs.length (Mx rs us) S)(j:∀k,bi (cf (dC cs) k)<=C)(n:bi (cp cs)<=x)(m:x<=C+5):CD (C+(f+5)+e*rs.length) (C+(f+5)+e*rs.length) (il rs us cs S):=by
 have hd:=vl b (Lp.hU (A:=Mx rs us) (λi k a _=>sf h a) lt);refine⟨cp cs*Lp.dd rs.length (Mx rs us) S,mul_pos (gQ cs 1 ∎).1 G,le_trans (gu _ _) ⋯,λy d=>?_⟩;unfold il at d;let⟨k,l,rfl⟩:=mem_map.mp d;rw[mem_range] at l;refine⟨_,rfl,?_⟩;have z:=Lp.mL (A:=Mx rs us) (λi k a _=>sf h a) lt (C:=2 ^ C) (λk=>yO (j k)) (k:=k) ⋯;refine fL (lt_of_le_of_lt z ?_);rw[show C+(f+5)+e*rs.length=5+(C+(f+e*rs.length)) by omega,pow_add,pow_add 2 C];have g:Lp.gD rs.length*(2 ^ e) ^ rs.length<2 ^ (f+e*rs.length):=by
  rw[<- Nat.pow_mul,pow_add];exact Nat.mul_lt_mul_of_pos_right b (Nat.two_pow_pos _)
 exact Nat.mul_lt_mul_of_lt_of_le (show rs.length+1<2 ^ 5 by omega) (Nat.mul_le_mul_left _ (Nat.le_of_lt g)) (Nat.mul_pos (Nat.two_pow_pos _) (Nat.two_pow_pos _))
end
theorem UE(a D b E:Int):(0 - Rat.divInt a D) / Rat.divInt b E=Rat.divInt (-a*E) (D*b):=by
 rw[Rat.div_def,Rat.sub_eq_add_neg,Rat.zero_add,Rat.neg_divInt,Rat.inv_divInt,Rat.divInt_mul_divInt]
theorem zx(a D b c:Int){E:Int}(d:E≠0):Rat.divInt (-a*E) (D*b)*Rat.divInt c E=Rat.divInt (-(a*c)) (D*b):=by
 rw[Rat.divInt_mul_divInt,show -a*E*c=(-(a*c))*E by grind,Rat.divInt_mul_right d]
theorem Ja(x:Int){D:Int}(a:Int){b:Int}(c:Int)(d:D≠0)(e:b≠0):Rat.divInt x D+Rat.divInt (-(a*c)) (D*b)=Rat.divInt (x*b - a*c) (D*b):=by
 have h:=Int.mul_ne_zero d e;rw[Rat.divInt_add_divInt _ _ d h];exact (Rat.divInt_eq_divInt_iff (Int.mul_ne_zero d h) h).mpr (by grind)
theorem P5{b:aC}{ss:bq}{k C:Nat}{mk:aT}(h:nL C ss mk):shr b ss k mk=0\/∃j a v,j<C/\ss[k]?=some a/\a[j]?=some v/\0<v/\shr b ss k mk=(0 - b.getD j 0) / v:=by
 unfold shr;have f:∀(l:aT)(s:Rat),(∀p∈l,p∈mk)->(s=0\/∃j a v,j<C/\ss[k]?=some a/\a[j]?=some v/\0<v/\s=(0 - b.getD j 0) / v)->(l.foldl (iD b ss k) s=0\/∃j a v,j<C/\ss[k]?=some a/\a[j]?=some v/\0<v/\l.foldl (iD b ss k) s=(0 - b.getD j 0) / v):=by
  intro l
  induction l with
  |nil=>intro s _ d;exact d
  |cons p l y=>
   intro s r d;refine y _ (λq m=>r q (.tail _ m)) ?_;∎;let⟨kn,j,g,i,u,a,v,n,o,x⟩:=h.m p (r p (.head _));let⟨z,A⟩:=p;∎;dsimp only at g i;subst g i;unfold iD;dsimp only;split
   .rename_i hk;have e:kn=k:=⋯
    subst e;split
    .refine .inr ⟨j,a,v,u,n,o,x,?_⟩;unfold o9;rw[Int.toNat_natCast,getD_eq_getElem?_getD (l:=ss),n,getD_some,getD_eq_getElem?_getD (l:=a),o];rfl
    .exact d
   .exact d
 exact f mk 0 (λ_ m=>m) (.inl rfl)
theorem E7{ss:bq}{mk:aT}{st:aC×aC}{k C l d z:Nat}(h:nL C ss mk)(hk:k<ss.length)(A:st.1.length=C+1)(L:CD l d st.1)(hd:d<=l)(α:1<=l)(hr:(ss.getD k []).length=C+1)(cr:CD z z (ss.getD k [])):
  (rC ss mk st k).1.length=C+1/\CD (l+z+1) (d+z) (rC ss mk st k).1/\∀b∈ss.getD k [],bs (shr st.1 ss k mk)<=l+z/\bs (shr st.1 ss k mk*b)<=l+z+1:=by
 have g:ss[k]?=some (ss.getD k []):=by rw[getD_eq_getElem?_getD,getElem?_eq_getElem hk];rfl
 have up:CD (l+z+1) (d+z) st.1:=by
  let⟨D,O,h2,Q⟩:=L;exact⟨D,O,⋯,λx m=>by let⟨a,e,ha⟩:=Q x m;exact⟨a,e,⋯⟩⟩
 unfold rC;dsimp only;rcases P5 h with N |⟨j,ε,v,hj,M,e4,hv,n⟩
 .rw[if_pos N,N];refine⟨A,up,λb H=>⟨by rw[lE];omega,by rw[Rat.zero_mul,lE];omega⟩⟩
 .rw[g] at M;cases M;∎;let⟨D,r,β,U⟩:=L;let⟨E,s,γ,G⟩:=cr;∎;have B:∃x,st.1[j]?=some x:=⟨_,getElem?_eq_getElem ⋯⟩;∎;let⟨x,ex⟩:=B;let⟨a,rfl,ha⟩:=U x (mem_of_getElem? ex);let⟨b,rfl,hb⟩:=G v (mem_of_getElem? e4);∎;have o:0<b:=by
   apply Classical.byContradiction;intro q;have:Rat.divInt b E<=0:=by
    have:=qB (a:=-b) (b:=E) ⋯ s;rw[<- Rat.neg_divInt] at this;have:=Rat.neg_le_neg this;rwa[Rat.neg_neg,Rat.neg_zero] at this
   exact absurd hv (Rat.not_lt.mpr this)
  rw[getD_eq_getElem?_getD,ex,getD_some,UE] at n;have nz:=Int.mul_ne_zero (ne_of_gt r) (ne_of_gt o);have sb:bs (shr st.1 ss k mk)<=l+z:=by
   rw[n];refine oA nz (le_trans (gu _ _) ?_) (le_trans (gu _ _) ⋯);have:bi (-a)=bi a:=by unfold bi;rw[Int.natAbs_neg]
   omega
  have H:∀c∈ss.getD k [],bs (shr st.1 ss k mk*c)<=l+z+1:=λc i=>by
   let⟨f,rfl,u⟩:=G c i;rw[n,zx _ _ _ _ (ne_of_gt s)];refine oA nz ?_ (le_trans (gu _ _) ⋯);have e:bi (-(a*f))=bi (a*f):=by unfold bi;rw[Int.natAbs_neg]
   rw[e];exact le_trans (gu _ _) ⋯
  split
  .exact⟨A,up,λc i=>⟨sb,H c i⟩⟩
  .refine⟨by rw[List.length_zipWith,A,hr];omega,⟨D*b,mul_pos r o,le_trans (gu _ _) ⋯,λy Y=>?_⟩,λc i=>⟨sb,H c i⟩⟩;have ez:List.zipWith (λa b=>a+shr st.1 ss k mk*b) st.1 (ss.getD k [])=(st.1.zip (ss.getD k [])).map λp=>p.1+shr st.1 ss k mk*p.2:=by rw[List.zip_eq_zipWith,List.map_zipWith]
   rw[ez] at Y;∎;let⟨⟨p,c⟩,I,rfl⟩:=mem_map.mp Y;let⟨m1,m2⟩:=of_mem_zip I;let⟨J,rfl,δ⟩:=U p m1;let⟨f,rfl,u⟩:=G c m2;∎;refine⟨J*b - a*f,?_,?_⟩
   .rw[n,zx _ _ _ _ (ne_of_gt s),Ja _ _ _ (ne_of_gt r) (ne_of_gt o)]
   .have O:=Nf (J*b) (a*f);have h2:=gu J b;have Q:=gu a f;omega
theorem Iy{ss:bq}{mk:aT}{C z i:Nat}(h:nL C ss mk)(u:∀o∈ss,o.length=C+1/\CD z z o)(r:i<ss.length)(q:z+i*(z+1)<=3900)(A:1<=z):BB C ss mk i:=by
 have at':∀k,k<ss.length->(ss.getD k []).length=C+1/\CD z z (ss.getD k []):=λk s=>by
  have e:ss[k]?=some (ss.getD k []):=by rw[getD_eq_getElem?_getD,getElem?_eq_getElem s];rfl
  exact u _ (mem_of_getElem? e)
 have l:∀j,j<=i->(pp ss mk i j).1.length=C+1/\CD (z+j*(z+1)) (z+j*z) (pp ss mk i j).1:=by
  intro j
  induction j with
  |zero=>intro _;let⟨a,b⟩:=at' i r;exact⟨a,by rw[Nat.zero_mul,Nat.zero_mul,Nat.add_zero];exact b⟩
  |succ j v=>
   intro n;∎;let⟨a,b⟩:=v ⋯;let⟨c,d⟩:=at' (i - 1 - j) ⋯;let⟨p1,p2,_⟩:=E7 (st:=pp ss mk i j) h ⋯ a b (by rw[Nat.mul_succ];omega) ⋯ c d;∎;refine⟨p1,?_⟩;rw[show z+(j+1)*(z+1)=z+j*(z+1)+z+1 by rw[succ_mul];omega,show z+(j+1)*z=z+j*z+z by rw[succ_mul];omega];exact p2
 have g:∀j,j<=i->z+j*(z+1)<=3900:=λj n=>le_trans (Nat.add_le_add_left (Nat.mul_le_mul_right _ n) _) q
 refine⟨λj n=>⟨(l j n).1,λx m=>?_⟩,λj n b p=>?_⟩
 .exact le_trans ((l j n).2.bs (by rw[Nat.mul_succ];omega) m) (g j ⋯)
 .obtain⟨a,b'⟩:=l j ⋯;∎;let⟨c,d⟩:=at' (i - 1 - j) ⋯;let⟨_,_,p3⟩:=E7 (st:=pp ss mk i j) h ⋯ a b' (by rw[Nat.mul_succ];omega) ⋯ c d;let⟨B,D⟩:=p3 b p;∎;have f:=g (j+1) ⋯;rw[succ_mul] at f;have y:=d.bs (le_refl _) p;omega
abbrev dF:=(Nat->Int)×Int×Int
def i5(n:Nat)(y:Nat->Int)(q:Int)(a:Prop):List dF->Prop
 |[]=>a
 |g::gs=>g.2.1 * q < g.2.2 * Lp.sm n (λk=>g.1 k * y k) \/ (g.2.2 * Lp.sm n (λk=>g.1 k * y k)=g.2.1 * q /\ i5 n y q a gs)
theorem i5.imp{n:Nat}{y:Nat->Int}{q:Int}{f d:Prop}(h:f->d):∀{e:List dF},i5 n y q f e->i5 n y q d e
 |[],p=>h p
 |_::_,p=>Or.imp id (λ⟨a,b⟩=>⟨a,i5.imp h b⟩) p
theorem i5.snoc{n:Nat}{y:Nat->Int}{q:Int}{f:Prop}(g:dF):∀{d:List dF},i5 n y q (g.2.1*q<g.2.2*Lp.sm n (λk=>g.1 k*y k)\/(g.2.2*Lp.sm n (λk=>g.1 k*y k)=g.2.1*q/\f)) d->i5 n y q f (d++[g])
 |[],p=>p
 |_::_,p=>Or.imp id (λ⟨a,b⟩=>⟨a,i5.snoc g b⟩) p
structure gR(z:Nat)(rs:av)(us:ah)(gs:List (aC×dF))(ss:bq)(S:Nat->Nat)(mk:aT):Prop where
 g:Lp.Gd rs.length (bh rs us) (Mx rs us) S
 n:jK rs.length mk S
 m:nL (bh rs us) ss mk
 r:∀row∈ss,row.length=bh rs us+1/\CD z z row
 l:mk.length<=ss.length*bh rs us
 s:ss.length=gs.length
 c:∀p∈gs,p.2.1=cf (dC p.1)/\0<p.2.2.2
 v:∀(i:Nat)(p:aC×dF),gs[i]?=some p->∃row x,ss[i]?=some (row++[x])/\0 - x=Rat.divInt p.2.2.1 (p.2.2.2*cp p.1)
 x:∀(q:Int)(y:Nat->Int),0<=q->Lp.eN rs.length (bh rs us) (Mx rs us) (λ_=>False) q y->i5 (bh rs us) y q (Lp.eN rs.length (bh rs us) (Mx rs us) (eY mk) q y) (gs.map (·.2))
 e:∀(q:Int)(y:Nat->Int),Lp.eN rs.length (bh rs us) (Mx rs us) (eY mk) q y->∀p∈gs,p.2.2.2*Lp.sm (bh rs us) (λk=>p.2.1 k*y k)=p.2.2.1*q
theorem U1{z:Nat}{rs:av}{us:ah}:gR z rs us [] [] (S0 rs us) []:=by
 refine⟨E2,λi a h=>?_,⟨λ_ m=>(nomatch m),λ_ m=>(nomatch m)⟩,λ_ m=>(nomatch m),zero_le _,rfl,λ_ m=>(nomatch m),λi p h=>?_,λq y _ F=>⟨F.l6,F.nn,λk _ s=>?_,F.rhs⟩,λ_ _ _ _ m=>(nomatch m)⟩
 .exact absurd (nN.mp h) (by simp)
 .cases h
 .exact absurd (nN.mp s) (by simp)
theorem Hs(rs:av)(us:ah)(cs:aC)(S:Nat->Nat):il rs us cs S=(List.range (bh rs us)).map (λk=>Rat.divInt (Lp.zz rs.length (Mx rs us) (cf (dC cs)) S k) (cp cs*Lp.dd rs.length (Mx rs us) S))++[Rat.divInt (Lp.zz rs.length (Mx rs us) (cf (dC cs)) S (bh rs us)) (cp cs*Lp.dd rs.length (Mx rs us) S)]:=by
 unfold il;rw[FE]
theorem gR.step{z:Nat}{rs:av}{us:ah}{B:List (aC×dF)}{ss:bq}{S d:Nat->Nat}{mk:aT}{cs:aC}(h:gR z rs us B ss S mk)(hz:z<=3000)(L:dN rs us cs)(G:Lp.Gd rs.length (bh rs us) (Mx rs us) d)(hN:jK rs.length mk d)(N:se rs.length (bh rs us) (Mx rs us) mk (cf (dC cs)) d)(J:CD z z (il rs us cs d)):
  gR z rs us (B++[(cs,cf (dC cs),- Lp.zz rs.length (Mx rs us) (cf (dC cs)) d (bh rs us),Lp.dd rs.length (Mx rs us) d)]) (ss++[il rs us cs d]) d (ft rs.length (bh rs us) (Mx rs us) mk (cf (dC cs)) d ss.length (bh rs us)):=by
 have u:(il rs us cs d).length=bh rs us+1:=by unfold il;rw[length_map,length_range]
 have hb:=(gQ cs 1 ∎).1;refine⟨G,λi D s=>?_,⟨λf m v I=>?_,λp m=>?_⟩,λf m=>?_,?_,by rw[length_append,length_append,h.s];rfl,λp m=>?_,λi p e=>?_,λq y hq F=>?_,λq y F p m=>?_⟩
 .rcases oP.mp s with s |⟨_,s⟩
  .exact hN i D s
  .rw[Lp.ef D] at s;omega
 .rcases mem_append.mp m with m |m
  .exact h.m.r f m v I
  .rw[mem_singleton.mp m] at I;exact le_trans (J.bs (le_refl _) I) hz
 .unfold ft at m;rcases mem_append.mp m with m |m
  .obtain⟨kn,j,e1,e2,H,f,v,e3,e4,hv⟩:=h.m.m p m;refine⟨kn,j,e1,e2,H,f,v,?_,e4,hv⟩;rw[getElem?_append_left (List.getElem?_eq_some_iff.mp e3).1];exact e3
  .obtain⟨j,mj,rfl⟩:=mem_map.mp m;let⟨Y,C⟩:=mem_filter.mp mj;have H:=mem_range.mp Y;unfold ju at C;simp only[and_eq_true,decide_eq_true_eq] at C;refine⟨ss.length,j,rfl,rfl,H,il rs us cs d,Rat.divInt (Lp.zz rs.length (Mx rs us) (cf (dC cs)) d j) (cp cs*Lp.dd rs.length (Mx rs us) d),by rw[getElem?_append_right (le_refl _),Nat.sub_self];rfl,?_,?_⟩
   .unfold il;rw[getElem?_map,getElem?_range ⋯];rfl
   .have hd:=mul_pos hb G.pos;have U:=qB (le_of_lt C.1) hd;refine Rat.lt_of_le_of_ne U λe=>?_
    rw[<- Rat.zero_divInt 1] at e;have:=(Rat.divInt_eq_divInt_iff ∎ (ne_of_gt hd)).mp e;omega
 .rcases mem_append.mp m with m |m
  .exact h.r f m
  .rw[mem_singleton.mp m];exact⟨u,J⟩
 .have a:=C3 (m:=rs.length) (n:=bh rs us) (M:=Mx rs us) (mk:=mk) (c:=cf (dC cs)) (S:=d) (a:=(ss.length:Int)) (i:=bh rs us);have b:=h.l;rw[length_append,List.length_singleton,succ_mul];omega
 .rcases mem_append.mp m with m |m
  .exact h.c p m
  .rw[mem_singleton.mp m];exact⟨rfl,G.pos⟩
 .rw[List.getElem?_append] at e;split at e
  .obtain⟨f,x,e1,e2⟩:=h.v i p e;exact⟨f,x,by rw[getElem?_append_left (List.getElem?_eq_some_iff.mp e1).1];exact e1,e2⟩
  .rename_i D;have E:i - B.length=0:=by
    have:=(List.getElem?_eq_some_iff.mp e).1;simp at this;omega
   rw[E] at e;cases e;have Q:i=ss.length:=by rw[h.s];omega
   refine⟨_,_,by rw[Q,getElem?_append_right (le_refl _),Nat.sub_self,Hs];rfl,?_⟩;rw[Rat.sub_eq_add_neg,Rat.zero_add,Rat.neg_divInt,mul_comm]
 .rw[map_append];refine i5.snoc _ ((h.x q y hq F).imp λO=>?_);let⟨o,A⟩:=Lp.opt (c:=cf (dC cs)) (S:=d) (wx L.c.1) (λk g s=>N k g s) O;dsimp only;have e:-(q*Lp.zz rs.length (Mx rs us) (cf (dC cs)) d (bh rs us))=- Lp.zz rs.length (Mx rs us) (cf (dC cs)) d (bh rs us)*q:=by grind
  rw[e] at o A;rcases Int.lt_or_eq_of_le o with o |o
  .exact .inl o
  .have F2:=A.mp o.symm;refine .inr ⟨o.symm,F2.l6,F2.nn,λk g s=>?_,F2.rhs⟩;rcases oP.mp s with s |⟨_,s⟩
   .exact F2.sz k g (.inl s)
   .exact F2.sz k g (.inr s)
 .have F1:Lp.eN rs.length (bh rs us) (Mx rs us) (eY mk) q y:=⟨F.l6,F.nn,λk g s=>F.sz k g (oP.mpr (.inl s)),F.rhs⟩
  rcases mem_append.mp m with m |m
  .exact h.e q y F1 p m
  .rw[mem_singleton.mp m];have A:=(Lp.opt (c:=cf (dC cs)) (S:=d) (wx L.c.1) (λk g s=>N k g s) F1).2.mpr ⟨F.l6,F.nn,λk g s=>?_,F.rhs⟩
   .dsimp only;rw[A]
    grind
   .rcases s with s |s
    .exact F.sz k g (oP.mpr (.inl s))
    .exact F.sz k g (oP.mpr (.inr ⟨g,s⟩))
structure sP(z:Nat)(rs:av)(us:ah):Prop where
 b:oB rs us
 y:Sz rs.length (bh rs us) (Mx rs us)
 s:∀o∈rs,0<bA us o/\bi (bA us o)<=100
 k:∀r:Int,dN rs us (cW us rs r)/\∀S,Lp.Gd rs.length (bh rs us) (Mx rs us) S->CD z z (il rs us (cW us rs r) S)
 c:∀ps:List (Str×Rat),(∀u,(cF ps u).getD 0=0\/(cF ps u).getD 0=1)->dN rs us (dG us rs.length ps)/\∀S,Lp.Gd rs.length (bh rs us) (Mx rs us) S->CD z z (il rs us (dG us rs.length ps) S)
 h:1<=z/\z<=645
theorem dN.cb{rs:av}{us:ah}{cs:aC}(h:dN rs us cs){X:Nat}(a:0<X)(hd:∀c∈cs,(c.den:Int) ∣ (X:Int)):bi (cp cs)<=bi (X:Int):=kH ((gQ cs 1 ∎).2.2.2 X (one_dvd _) hd) a
theorem VR{rs:av}{us:ah}{e s v N z:Nat}(h:∀o∈rs,kA e s v us o)(hm:rs.length<=N)(i:N<=16)(A:us.length<=8)(hs:s<=100)(hz:2+s*N+v+(fb N+5)+e*N<=z)(y:z<=645):sP z rs us:=by
 have d:=Vq hm i;have l:=Nat.mul_le_mul_left s hm;have n:=Nat.mul_le_mul_left e hm;have q:2<=fb N:=by unfold fb;split<;>decide
 have hn:bh rs us<=60:=by unfold bh;omega
 refine⟨⟨⋯,⋯,λo m=>(h o m).b⟩,Mp h ⋯ d hn ⋯,λo m=>⟨(h o m).p,le_trans (h o m).sb ⋯⟩,λr=>?_,λj g=>?_,⋯⟩
 .obtain⟨a,b⟩:=VU h r ⋯;refine⟨a,λS G=>?_⟩;have c:bi (cp (cW us rs r))<=1+s*N:=le_trans (a.cb (vp h) λc m=>by
   rcases ub m with rfl |⟨o,f,rfl⟩
   .exact one_dvd _
   .exact dvd_trans (rZ _ (h o f).p) (yU f)) (le_trans (xm h) ⋯)
  have:=FD (S:=S) h ⋯ d (C:=1+s*N+v) (x:=1+s*N) G.lt G.pos (λk=>le_trans (b k) ⋯) c ⋯;exact this.mono ⋯ ⋯
 .obtain⟨a,b⟩:=OX (rs:=rs) (us:=us) g;refine⟨a,λS G=>?_⟩;have c:bi (cp (dG us rs.length j))<=1:=le_trans (a.cb (X:=1) ∎ λc m=>by
   unfold dG at m;rcases mem_append.mp m with m |m
   .obtain⟨u,_,rfl⟩:=mem_map.mp m;rcases g u with e |e<;>rw[e]<;>exact one_dvd _
   .rw[List.eq_of_mem_replicate m];exact one_dvd _) (by walk_at "k")
  have:=FD (S:=S) h ⋯ d (C:=2) (x:=1) G.lt G.pos (λk=>le_trans (b k) ⋯) c ⋯;exact this.mono ⋯ ⋯
structure Bz(N z:Nat)(rs:av)(us:ah):Prop where
 n:N<=16
 q:∀qs:av,(∀o∈qs,o∈rs)->qs.length<=N->sP z qs us
theorem Gy{rs:av}{us:ah}{e s v N z:Nat}(h:∀o∈rs,kA e s v us o)(a:N<=16)(g:us.length<=8)(hs:s<=100)(hz:2+s*N+v+(fb N+5)+e*N<=z)(b:z<=645):Bz N z rs us:=⟨a,λ_ f d=>VR (λo m=>h o (f o m)) d a g hs hz b⟩
theorem R1(T:Tx w K mg){f g:Fl}{rs:av}{us:ah}[Fp f][Fp g](a:oB rs us){R:az}(q:R (b7 T .o (ug rs us))):Fq T [.ins .o T.aah [],.ag f ↥rs,.ag g ↥us] λt b=>t=.aM/\n9 b[0]? R:=⟨rfl,f,g,rs,us,‹_›,‹_›,rfl,a,λj e=>⟨rfl,by rw[e];exact⟨oh T _,q⟩⟩⟩
def MF(T:Tx w K mg):bQ:=cY 2 λa Q=>∃(f g:Fl)(rs:av)(us:ah)(z:Nat)(_:Fp f)(_:Fp g),a=[.ag f ↥rs,.ag g ↥us]/\sP z rs us/\∀(p:aC×dF)(ss:bq)(S:Nat->Nat)(mk:aT),p.1=cW us rs 0->gR z rs us [p] ss S mk->Q (b7 T .o (eD rs us ss S mk))
theorem zy(T:Tx w K mg){z:Bool}:aJ P w K mg base bM 6 T.qM.a T.qM.d ["rows","unknowns"] (bR K z 0 2 (MF T)):=by
 refine cg T.qM.F N9 rfl ∎ λa7 A outer s H E I J r=>?_
 refine⟨_,(aQ (gc 2 (Dx T.rO (O1 T) T.Ho (QA.ay (ar (qv 0) (ar (qv 1) aH)))))
  (aQ (xa (nG (cI 2) (eS T T.qQ (Du T)) (kT (ew (eS T T.pN (zY T)) (qv 2) (ar (mD T.vz) aH)) nD)))
  (aY (kl (kh 2))))),?_⟩
 rintro L D _ ⟨_,f,g,rs,us,C,_,_,rfl,i,q⟩;let⟨p,x⟩:=i.k 0;have u:=U1 (z:=C) (rs:=rs) (us:=us);rfl';refine R1 T i.b ⟨qG T _,wd rfl (by intro z;cases z) (fG T ?_)⟩;rw[Nc];rfl';simp only[eQ,fE,dA,d6,dI];refine fG T ⟨rfl,.l false,rs,us,[],S0 rs us,[],_,inferInstance,rfl,i.b,λo m=>⟨(i.s o m).1,by have:=(i.s o m).2;omega⟩,λ_=>?_⟩;rfl';refine⟨rfl,.f,rs,us,[],S0 rs us,[],cW us rs 0,inferInstance,rfl,i.y,E2,u.n,p,by simp,by simp,λv G r B j e=>?_⟩;dsimp only;rw[e,dI];refine⟨oh T _,?_⟩;rw[dI];exact⟨oh T _,q _ _ _ _ rfl (u.step (by have:=i.h.2;omega) p G r B (x v G)) _⟩
def lM:bW:=([],"",0,0,1)
def pick(rs:av)(ks:aI):av:=ks.map λk=>rs.getD k.toNat lM
def Val(rs:av)(ks:aI):Prop:=∀k∈ks,0<=k/\k.toNat<rs.length
theorem yh{rs:av}{ks:aI}(h:Val rs ks){k:Int}(m:k∈ks):cX rs k=some (rs.getD k.toNat lM):=by
 let⟨a,b⟩:=h k m;rw[tw rs a b,getD_eq_getElem?_getD,getElem?_eq_getElem b];rfl
theorem A5{rs:av}{us:ah}{ks:aI}{N z:Nat}(b:Bz N z rs us)(a:ks.length<=N)(d:Val rs ks):sP z (pick rs ks) us:=
 b.q _ (λo m=>by
  let⟨k,mk,rfl⟩:=mem_map.mp m;rw[getD_eq_getElem?_getD,getElem?_eq_getElem (d k mk).2];exact List.getElem_mem _) (by unfold pick;rw[length_map];exact a)
theorem Pw{rs:av}{us:ah}{a:aC}(h:∀y∈a,bs y<=645)(hs:∀o∈rs,bi (bA us o)<=100):∀x∈oa rs us a,bs x<=1500:=by
 intro x m;unfold oa at m;let⟨i,_,rfl⟩:=mem_map.mp m;have at':∀j,bs (a.getD j 0)<=645:=λj=>by
  rw[getD_eq_getElem?_getD];cases e:a[j]? with
  |none=>show bs 0<=645;rw[lE];decide
  |some y=>exact h y (mem_of_getElem? e)
 unfold rl;cases e:rs[i]? with
 |none=>show bs 0 <= 1500;rw[lE];decide
 |some o=>
  have so:=hs o (mem_of_getElem? e);have g:=at' (us.length+2*i);have l:=at' (us.length+2*i+1);have b:=sM so;have d:=sM (x:=-bA us o) (by unfold bi;rw[Int.natAbs_neg];exact so);have f:bs (Rat.divInt (bA us o) 2)<=100:=oA ∎ so (by walk_at "k");show bs (qX _ _ _ _)<=1500;unfold qX;split
  .have:=wa (a.getD (us.length+2*i+1) 0) (bA us o:Rat);omega
  .split
   .have:=wa (a.getD (us.length+2*i) 0) ((-bA us o:Int):Rat);omega
   .have:=wa (a.getD (us.length+2*i+1) 0 - a.getD (us.length+2*i) 0) (Rat.divInt (bA us o) 2);have:=sJ (a.getD (us.length+2*i+1) 0) (a.getD (us.length+2*i) 0);omega
def dK(d:List (Int×Rat)):bw:=d.map λp=>((Sum.inl p.1:aS),ae.t p.2)
theorem lD(d:List (Int×Rat)):kS (dK d)=true:=by
 have:=jx (d.map λp=>((Sum.inl p.1:aS),p.2));rw[map_map] at this;exact this
def nU(d:List (Int×Rat))(y:Int)(k:Rat):List (Int×Rat):=if (d.any λp=>decide (p.1=y))=true then d.map (λp=>if p.1=y then (p.1,k) else p) else d++[(y,k)]
theorem Kf(d:List (Int×Rat))(y:Int)(k:Rat):i1 (dK d) (Sum.inl y) (ae.t k)=dK (nU d y k):=by
 unfold i1 nU;have e:((dK d).any λa=>decide (a.1=(Sum.inl y:aS)))=d.any λp=>decide (p.1=y):=by
  unfold dK;rw[List.any_map];congr 1;funext p;exact decide_eq_decide.mpr ⟨λz=>Sum.inl.inj z,λz=>by show (Sum.inl p.1:aS)=_;rw[z]⟩
 rw[e];split
 .unfold dK;rw[map_map,map_map];refine map_congr_left λp _=>?_
  show (if (Sum.inl p.1:aS)=Sum.inl y then ((Sum.inl p.1:aS),ae.t k) else (Sum.inl p.1,ae.t p.2))=(Sum.inl (if p.1=y then (p.1,k) else p).1,ae.t (if p.1=y then (p.1,k) else p).2)
  by_cases h:p.1=y
  .rw[if_pos h,if_pos (by rw[h])]
  .rw[if_neg h,if_neg (λz=>h (Sum.inl.inj z))]
 .unfold dK;rw[map_append];rfl
theorem Ks{d:List (Int×Rat)}{y:Int}{k:Rat}{ks:aI}(h:∀p∈d,p.1∈ks)(a:y∈ks):∀p∈nU d y k,p.1∈ks:=λp m=>by
 unfold nU at m;split at m
 .obtain⟨p',mp,rfl⟩:=mem_map.mp m;split
  .exact h p' mp
  .exact h p' mp
 .rcases mem_append.mp m with z |z
  .exact h p z
  .rw[mem_singleton.mp z];exact a
theorem JD(d:List (Int×Rat))(y:Int)(k:Rat):(nU d y k).length<=d.length+1:=by
 unfold nU;split
 .rw[length_map];omega
 .rw[length_append];exact le_refl _
theorem Bp(d:List (Int×Rat)):Pu.ay (.aO .o (dK d))=.aO .f (dK d):=by show Tr.aO .f (dD _)=_;rw[show dD (dK d)=dK d from (cu _ (lD d)).f]
theorem UM(T:Tx w K mg)(S:gy):Pu.ay (bX T .o S)=bX T .f S:=by
 unfold bX fK;show Tr.ins .f _ (fC _)=_;simp only[fC,ie,Gu,gj,show Pu.ay (.aO .o (mT S.m))=.aO .f (mT S.m) from by show Tr.aO .f (dD _)=_;rw[show dD (mT S.m)=mT S.m from (cu _ (jx S.m)).f]];rfl
theorem Aj(T:Tx w K mg)(S:gL):Pu.ay (b7 T .o S)=b7 T .f S:=by
 unfold b7 gI;show Tr.ins .f _ (fC _)=_;simp only[fC,ie,UM,gj];rfl
def Vt:bQ:=cY 3 λa Q=>∃(f g h:Fl)(rs:av)(us:ah)(ks:aI)(N zz:Nat)(_:Fp f)(_:Fp g)(_:Fp h),a=[.ag f ↥rs,.ag g ↥us,.ag h ↥ks]/\Bz N zz rs us/\us.length<=8/\ks.length<=N/\Val rs ks/\∀d:List (Int×Rat),(∀p∈d,p.1∈ks)->d.length<=ks.length->Q (.aO .o (dK d))
theorem FR(T:Tx w K mg){z:Bool}:aJ P w K mg base bM 7 T.qj.a T.qj.d ["rows","unknowns","numbers"] (bR K z 0 3 Vt):=by
 refine cg T.qj.F Oz rfl ∎ λa7 A outer s H E hr hu hN=>?_
 refine⟨_,(aQ (bJ 3 (qc T.qM (zy T) (ar (je ["number","rows"] [none,some 0] (gm (qv 2)) (fB 0) (λ_ _ _ _ _=>(aX (qv 1) (qv 0)))) (ar (qv 1) aH))))
  (aQ (bJ 4 (ew (eS T T.nT (u0 T)) (qv 3) (ar aA aH)))
  (aQ (gc 5 nV)
  (aQ (c6 (b5 fX fU (qv 4) (iW [0,1] T.jj T.jo)) (aY (kl (kh 5))) cZ)
  (aQ (fM (qh T.pZ (ar (qv 2) (ar (ew (eS T T.pG (Bk T)) (qv 3) (ar (aX (cE K (qv 3)) aA) aH)) aH))) (h9 (n:=2) rfl (dE (cS 6) (dE (cS 7) hJ))) (aY (c6 (b5 jW j7 (qv 7) (iW [0,1] T.jj T.jo)) (aY (pA (cI 5) (qv 6) (qc T.pM (Gx T) (ar (qv 7) (ar (qv 4) aH))))) cZ)))
  (aY (kl (kh 5)))))))),?_⟩
 rintro xs Q' _ ⟨_,f,g,h,rs,us,ks,N,zz,_,_,_,rfl,D,α,J,hv,q⟩;have Q:=D.n;have u:=A5 D J hv;have γ:=u.h.2;rfl';refine br.map ks _ (λk=>rs.getD k.toNat lM) ⋯ (λk mk R u=>?_) ?_
 .rfl';exact d0 _ _ _ (yh hv mk) u
 rfl';refine⟨rfl,.f,g,pick rs ks,us,zz,inferInstance,‹_›,rfl,u,λp ss S mk hp Y _=>?_⟩;let⟨e,l,C,_⟩:=Y.v 0 p rfl;have B:=Y.r _ (mem_of_getElem? C);have G:∀y∈e++[l],bs y<=645:=λy m=>le_trans (B.2.bs (le_refl _) m) u.h.2
 have β:=G l (mem_append.mpr (.inr (.head _)));have U:=u.b.r;simp only[Aj,eQ,fE,dA,d6,dI];refine⟨qG T _,fG T ⟨rfl,.f,_,0,e,l,inferInstance,rfl,C,⋯,λ_=>?_⟩⟩;have L:=sJ 0 l;rw[lE] at L;rfl';refine⟨rfl,ux ?_⟩;rfl';by_cases O:0 - l=0
 .rw[if_pos (decide_eq_true O)];exact⟨rfl,q [] (λ_ m=>(nomatch m)) (zero_le _) _⟩
 .rw[if_neg (by simpa using O)];refine fG T (oG T ?_);rw[gO,gN];refine d0 _ _ _ (eK (s:=0) C) ?_;rw[ie,jd];refine⟨rfl,.f,.f,pick rs ks,us,ss,S,mk,e++[l],inferInstance,inferInstance,rfl,⋯,B.1,λy m=>le_trans (G y m) ⋯,λo m=>(u.s o m).2,λ_=>?_⟩;have M:=Pw (rs:=pick rs ks) (us:=us) G λo m=>(u.s o m).2
  dsimp only;rw[gj,Bool.true_and,gh,jY,tO];refine⟨gT _,Loop.map (ks.zip (oa (pick rs ks) us (e++[l]))) _ (λi j=>∃(d:List (Int×Rat))(a b:Tr),j=[.ag f ↥rs,.ag g ↥us,.ag h ↥ks,b7 T .f (eD (pick rs ks) us ss S mk),ae.t (0 - l),.aO .o (dK d),a,b]/\(∀p∈d,p.1∈ks)/\d.length<=i) ⟨[],_,_,rfl,λ_ m=>(nomatch m),le_refl _⟩ ?_ ?_⟩
  .rintro i ⟨k,x⟩ j hi ⟨d,a,b,rfl,hd,hdl⟩;have hm:=of_mem_zip (mem_of_getElem? hi);have I:=(List.getElem?_eq_some_iff.mp hi).1;rw[length_zip] at I;rfl';refine ux ?_;rfl';by_cases hx:x=0
   .rw[if_neg (by simp[hx])];exact⟨d,_,_,rfl,hd,⋯⟩
   .rw[if_pos (by simp[hx])];have:=M x hm.2
    skip
    refine⟨rfl,x,0 - l,rfl,O,⋯,λ_=>?_⟩;dsimp only;rw[ie,Kf];exact⟨gx _,by unfold dK;rw[length_map];omega,_,_,_,rfl,Ks hd hm.1,le_trans (JD _ _ _) ⋯⟩
  .rintro j ⟨d,a,b,rfl,hd,hdl⟩;rfl';rw[length_zip] at hdl;exact⟨(cu _ (lD d)).o,q d hd ⋯ _⟩
def PB:bQ:=cY 3 λa Q=>∃(f g h:Fl)(rs:av)(us:ah)(ks:aI)(N zz:Nat)(_:Fp f)(_:Fp g)(_:Fp h),a=[.ag f ↥rs,.ag g ↥us,.ag h ↥ks]/\Bz N zz rs us/\us.length<=8/\ks.length<=N/\Val rs ks/\∀d:List (Int×Rat),Q (.aO .f (dK d))
theorem Ue(T:Tx w K mg):aJ P w K mg base bM 8 T.uj.a T.uj.d ["rows","unknowns","numbers"] (bR K true 0 3 PB):=by
 refine cg T.uj.F J4 rfl ∎ λa7 A outer s H E Y hu U=>?_
 refine⟨_,(aQ (bJ 3 (qc T.qj (FR T) (ar (qv 0) (ar (qv 1) (ar (qv 2) aH)))))
  (aQ (fM (gm (i3 (jn rfl) jr T.gk (ar (qv 3) aH))) (cS 4) (aY (c6 (b5 LX Uc (qv 4) (qv 3)) (aQ (bJ 5 (qc T.qj (FR T) (ar (qv 0) (ar (qv 1) (ar (Qi rfl (Ll (EN (N:=["other","number"]) (ix:=[none,some 4]) rfl (MA (pv 3)) (λ_ _ _ _ _=>uV (show (["other","number"]:ah).Nodup by decide) rfl (.inl rfl) (.inr rfl)) (λ_ _ _ _ _=>BH (De C2 (pv 0) (pv 1) (WE _))) (λ_ _ _ _ _=>pv 0) ⟨rfl,rfl,rfl,True.intro⟩))) aH)))))
  (aY (bJ 3 (uK (Kb rfl (qv 5)) (qv 5) (qv 3))))) cZ)))
  (aY (b8 (qv 3))))),?_⟩
 rintro xs Q _ ⟨_,f,g,h,rs,us,ks,N,zz,_,_,_,rfl,u,y,G,L,q⟩;have J:=u.n;rfl';refine⟨rfl,f,g,h,rs,us,ks,N,zz,‹_›,‹_›,‹_›,rfl,u,y,G,L,λd hd O _=>?_⟩;dsimp only;rw[Bp];rfl';have r:∀d:List (Int×Rat),(dK d).map (λp=>kO p.1)=(d.map (·.1)).map ae.t:=λd=>by
  unfold dK;rw[map_map,map_map];rfl
 have D:∀d:List (Int×Rat),(dK d).map (·.1)=(d.map (·.1)).map λn=>(Sum.inl n:aS):=λd=>by
  unfold dK;rw[map_map,map_map];rfl
 refine⟨(cu _ (lD d)).t,?_⟩;rw[yd,r,gj,gh,jY];refine⟨gT _,Loop.map (d.map (·.1)) _ (λ_ j=>∃(e:List (Int×Rat))(a b:Tr),j=[.ag f ↥rs,.ag g ↥us,.ag h ↥ks,.aO .f (dK e),a,b]/\(∀p∈e,p.1∈ks)/\e.length<=N) ⟨d,_,_,rfl,hd,⋯⟩ ?_ ?_⟩
 .rintro i k j hi ⟨e,a,b,rfl,hd',hl'⟩;rfl';show if ((look (dK e) (Sum.inl k)).isSome)=true then _ else _
  split
  .refine⟨dK e,e.map (·.1),k,rfl,D e,rfl,by rw[length_map];omega,?_⟩;have m:Val rs ((e.map (·.1)).filter λx=>!decide (x=k)):=λx I=>by
    let⟨p,z,rfl⟩:=mem_map.mp (mem_filter.mp I).1;exact L _ (hd' p z)
   have l:((e.map (·.1)).filter λx=>!decide (x=k)).length<=N:=le_trans (length_filter_le _ _) (by rw[length_map];exact hl');have v:∀x∈(e.map (·.1)).filter (λx=>!decide (x=k)),x∈ks:=λx I=>by
    let⟨p,z,rfl⟩:=mem_map.mp (mem_filter.mp I).1;exact hd' p z
   generalize (e.map (·.1)).filter (λx=>!decide (x=k))=fs at m l v ⊢;have M:cv (bp (fs.map Tr.int))=↥fs:=by rw[show fs.map Tr.int=↥fs from rfl,nY,qg]
   rw[M];refine⟨rfl,f,g,.f,rs,us,fs,N,zz,‹_›,‹_›,inferInstance,rfl,u,y,l,m,λB C jT _=>?_⟩;dsimp only;rw[Bp];rfl';refine⟨(cu _ (lD B)).t,?_⟩;split
   .exact⟨(cu _ (lD B)).t,B,_,_,rfl,λp z=>v _ (C p z),⋯⟩
   .exact⟨(cu _ (lD e)).t,e,_,_,rfl,hd',hl'⟩
  .exact⟨e,_,_,rfl,hd',hl'⟩
 .rintro j ⟨e,a,b,rfl,hd',hl'⟩;rfl';exact⟨(cu _ (lD e)).o,q e _⟩
theorem R9(T:Tx w K mg):aJ P w K mg base bM 1 T.lR.a T.lR.d ["self","numbers","weights"] (xF K T.aby):=by
 refine T.lR.F.ok OZ (λvs H Q E h=>?_) λa7 A outer s H vs Q E f h=>?_
 .obtain⟨_,_,_,_,_,rfl,_⟩:=h;rfl
 .obtain⟨e,a,b,xs,ys,rfl,he,ha,hb,q⟩:=h;exact⟨_,yK (pD (RV T.lR.t rfl T.MQ (iR (pv 0) (iR D2 jE)))) (yK (Bo T.lR.t T.Kj (pv 0) (mH xP rfl T.gk rfl (iR (pv 1) jE)) rfl) (xX (Bo T.lR.t T.IS (pv 0) (mH xP rfl T.gk rfl (iR (pv 2) jE)) rfl))),Vu (Q:=Q) he ha hb q⟩
def Vn(T:Tx w K mg):fR:=λa Q q=>a.length=3/\∃(f g h:Fl)(rs:av)(us:ah)(ks:aI)(N zz:Nat)(_:Fp f)(_:Fp g)(_:Fp h),a=[.ag f ↥rs,.ag g ↥us,.ag h ↥ks]/\Bz N zz rs us/\us.length<=8/\ks.length<=N/\Val rs ks/\
 (∀(p:aC×dF)(ss:bq)(S:Nat->Nat)(mk:aT),p.1=cW us (pick rs ks) 0->gR zz (pick rs ks) us [p] ss S mk->p.2.2.1≠0->q (.ref T.aby))/\
 (∀(p:aC×dF)(ss:bq)(S:Nat->Nat)(mk:aT),p.1=cW us (pick rs ks) 0->gR zz (pick rs ks) us [p] ss S mk->p.2.2.1=0->∀j,Q (b7 T .o (eD (pick rs ks) us ss S mk)) j)
theorem Ms(T:Tx w K mg):aJ P w K mg base (fq P w) 9 T.rH.a T.rH.d ["rows","unknowns","numbers"] (ic K true 0 3 (Vn T)):=by
 refine rT T.rH.F Jz rfl ∎ λa7 A outer s H E q hr hu hN=>?_
 refine⟨_,(aQ (gc 3 (qc T.qM (zy T) (ar (je ["number","rows"] [none,some 0] (gm (qv 2)) (fB 0) (λ_ _ _ _ _=>(aX (qv 1) (qv 0)))) (ar (qv 1) aH))))
  (aQ (c6 (b5 fX fU (ew (eS T T.nT (u0 T)) (qv 3) (ar aA aH)) (iW [0,1] T.jj T.jo)) (aY (kl (kh 3))) cZ)
  (aQ (bJ 4 (qc T.uj (Ue T) (ar (qv 0) (ar (qv 1) (ar (je ["number","rows"] [none,some 0] (gm (qv 2)) (fB 0) (λ_ _ _ _ _=>(qv 0)) (ht:=λ_ _ _ _ _=>(T7 (b5 fX fU (aX (aX (qv 1) (qv 0)) aA) (mD T.vz))))) aH)))))
  (aY (Tc rfl rfl rfl rfl rfl rfl T.Fv T.lR.t ((R9 T).mono ⋯) hr T.lR.b (ar (i3 (jn rfl) jr T.gk (ar (qv 4) aH)) (ar (We rfl rfl T.gk (qv 4)) aH))))))),?_⟩
 rintro xs Q' _ ⟨_,f,g,h,rs,us,ks,N,zz,_,_,_,rfl,o,O,C,M,q1,q2⟩;have Q:=o.n;have L:=A5 o C M;have β:=L.h.2;rfl';refine br.map ks _ (λk=>rs.getD k.toNat lM) ⋯ (λk mk R L=>?_) ?_
 .rfl';exact d0 _ _ _ (yh M mk) L
 rfl';refine⟨rfl,.f,g,pick rs ks,us,zz,inferInstance,‹_›,rfl,L,λp ss S mk U y _=>?_⟩;let⟨I,J,u,Y⟩:=y.v 0 p rfl;have G:=y.r _ (mem_of_getElem? u);have α:=G.2.bs (le_refl _) (mem_append.mpr (.inr (.head _)):J∈I++[J]);have D:=mul_pos (y.c p (.head _)).2 (gQ p.1 1 ∎).1;have i:0 - J=0↔p.2.2.1=0:=by
  rw[Y];constructor
  .intro e;rw[<- Rat.zero_divInt 1] at e;have:=(Rat.divInt_eq_divInt_iff (ne_of_gt D) ∎).mp e;omega
  .intro e;rw[e,Rat.zero_divInt]
 try simp only[eQ,fE,dA,d6,dI]
 refine⟨qG T _,fG T ⟨rfl,.l false,_,0,I,J,inferInstance,rfl,u,⋯,λ_=>?_⟩⟩;rfl';refine ux ?_;rfl';by_cases ht:0 - J=0
 .rw[if_pos (decide_eq_true ht)];exact⟨oh T _,q2 p ss S mk U y (i.mp ht) _⟩
 .rw[if_neg (by simpa using ht)];have B:=q1 p ss S mk U y λz=>ht (i.mpr z)
  have m:Val rs (ks.filter λk=>decide ((rs.getD k.toNat lM).2.2.2.1=0)):=λx mx=>M x (mem_filter.mp mx).1
  have j:(ks.filter λk=>decide ((rs.getD k.toNat lM).2.2.2.1=0)).length<=N:=le_trans (length_filter_le _ _) C;refine br.filter ks ae.t (λk=>decide ((rs.getD k.toNat lM).2.2.2.1=0)) id ⋯ (λk mk A R h1 h2=>?_) ?_
  .rfl';refine d0 _ _ _ (yh M mk) ?_;rfl';split
   .next z=>exact h1 z
   .next z=>exact h2 (by simpa using z)
  .rw[List.map_id];generalize (ks.filter λk=>decide ((rs.getD k.toNat lM).2.2.2.1=0))=fs at m j;rw[gj,jd];refine⟨rfl,f,g,.f,rs,us,fs,N,zz,‹_›,‹_›,inferInstance,rfl,o,O,j,m,λd _=>⟨(cu _ (lD d)).t,?_⟩⟩;rfl';rw[yd];exact B
def kz(us:ah):List (Int ⊕ Str):=([1,2,3,4]:aI).map Sum.inl++us.map Sum.inr
theorem Rm(us:ah):(([1,2,3,4]:aI).map ae.t++↥us)=(kz us).map ae.t:=by
 unfold kz;rw[map_append,map_map,map_map];rfl
def LC:bQ:=cY 1 λa Q=>∃(f:Fl)(us:ah)(_:Fp f),a=[.ag f ↥us]/\us.length<=100/\Q (.ag .o ((kz us).map ae.t))
theorem Ig(T:Tx w K mg){z:Bool}:aJ P w K mg base bM 1 T.sk.a T.sk.d ["unknowns"] (bR K z 0 1 LC):=by
 refine cg T.sk.F Mu rfl ∎ λa7 A outer s H E h j g=>?_
 refine⟨_,(aY (b8 (d8 (T5 rfl rfl T.gk rfl T.k7 (ar aA (ar (d8 (mD T.GB) aA) aH))) (i3 (jn rfl) jr T.gk (ar (qv 0) aH))))),?_⟩;rintro l e _ ⟨_,f,us,_,rfl,b,q⟩;rfl';refine⟨1,4,rfl,rfl,∎,∎,∎,?_⟩;dsimp only;rw[show (List.range 4).map (λi:Nat=>Tr.int (1+i))=([1,2,3,4]:aI).map ae.t from rfl,u9,Rm];exact⟨by rw[length_map,length_map];show 4+us.length<=1000000;omega,lY _,q _⟩
def nj(rs:av)(us vs:ah):bq:=([0,1,2,3,4]:aI).map (cW us rs)++vs.map λu=>dG us rs.length [(u,1)]
theorem H0(u x:Str):(cF [(u,(1:Rat))] x).getD 0=0\/(cF [(u,(1:Rat))] x).getD 0=1:=by
 by_cases e:u=x
 .rw[n0 (p:=(u,(1:Rat))) e];exact .inr rfl
 .left;simp[cF,e]
def gz(x:aC):Tr:=.ag .o ↥x
theorem y4:∀B:bq,bp (B.map gz)=↥B
 |[]=>rfl
 |x::B=>by show Pu.ay (.ag .o ↥x)::bp (B.map gz)=ae.t x::_;rw[gj,y4 B]
theorem D7:∀(A B:ai),bp (A++B)=bp A++bp B
 |[],_=>rfl
 |a::A,B=>by show Pu.ay a::bp (A ++ B)=_;rw[D7 A B];rfl
theorem HJ(A B:bq):Pu.ay (.ag .o (↥A++B.map gz))=.ag .f ((A++B).map ae.t):=by
 show Tr.ag .f (bp _)=_;rw[D7,nY,y4,map_append]
theorem ly(B:bq):Pu.ay (.ag .o (B.map gz))=ae.t B:=by
 show Tr.ag .f (bp _)=_;rw[y4];rfl
theorem AW:∀B:bq,cR (B.map gz)=true
 |[]=>rfl
 |x::B=>by show (cR ↥x&&cR (B.map gz))=true;rw[gT,AW B];rfl
theorem Bc:∀B:bq,cw (B.map gz)=true
 |[]=>rfl
 |x::B=>by show (cw ↥x&&cw (B.map gz))=true;rw[lY,Bc B];rfl
theorem Em:∀A B:ai,cw (A++B)=(cw A&&cw B)
 |[],_=>rfl
 |a::A,B=>by show (b9 a&&cw (A ++ B))=(b9 a&&cw A&&cw B);rw[Em A B,Bool.and_assoc]
def Wa(T:Tx w K mg):bQ:=cY 2 λa Q=>∃(f g:Fl)(rs:av)(us vs:ah)(ss:bq)(S:Nat->Nat)(mk:aT)(_:Fp f)(_:Fp g),a=[b7 T f (eD rs us ss S mk),.ag g ↥vs]/\oB rs us/\(∀o∈rs,0<bA us o/\bi (bA us o)<=3000)/\vs.length<=100/\Q (.ag .o ((([0,1,2,3,4]:aI).map (cW us rs)).map ae.t++(vs.map λu=>dG us rs.length [(u,1)]).map gz))
theorem Tz(T:Tx w K mg){z:Bool}:aJ P w K mg base bM 4 T.tL.a T.tL.d ["sheet","unknowns"] (bR K z 0 2 (Wa T)):=by
 refine cg T.tL.F IY rfl ∎ λa7 A outer s H E p r o=>?_
 refine⟨_,(aQ (nB 2 ["rank","sheet"] [none,some 0] (Nh T.k7 (ar (mD T.vz) (ar (d8 (mD T.GB) aA) aH))) (fB 0) (λ_ _ _ _ _=>(ew (eS T T.pN (zY T)) (qv 1) (ar (qv 0) aH))))
  (aY (b8 (d8 (qv 2) (je ["unknown","sheet"] [none,some 0] (gm (qv 1)) (fB 0) (λ_ _ _ _ _=>(ew (eS T T.ui (JA T)) (qv 1) (ar (K6 (UX (qv 0) (iW [1,1] T.LQ T.Sj) Vd) (hp:=Nat.le_of_ble_eq_true rfl)) aH)))))))),?_⟩
 rintro v m _ ⟨_,f,g,rs,us,vs,ss,S,mk,_,_,rfl,e,b,l,q⟩;rfl';rw[eQ,f9];rw[show List.map (λn:Nat=>Tr.int (0+n)) (List.range (4+1 - 0:Int).toNat)=([0,1,2,3,4]:aI).map ae.t from rfl];refine⟨∎,br.kN _ _ (λk=>gz (cW us rs k)) ∎ (λk _ R h=>?_) ⟨?_,?_⟩⟩
 .rfl';rw[dI];exact fG T ⟨rfl,f,rs,us,ss,S,mk,k,‹_›,by rw[fE,ib],e,b,λ_=>h⟩
 .exact AW (([0,1,2,3,4]:aI).map (cW us rs))
 rw[show List.map (λk=>gz (cW us rs k)) ([0,1,2,3,4]:aI)=(([0,1,2,3,4]:aI).map (cW us rs)).map gz from rfl,ly,lB];generalize i:([0,1,2,3,4]:aI).map (cW us rs)=A at q ⊢;have j:A.length=5:=by rw[<- i];rfl
 rfl';refine br.kN vs _ (λu=>gz (dG us rs.length [(u,(1:Rat))])) ⋯ (λu _ R h=>?_) ?_
 .rfl';rw[dI];refine fG T ?_;show (List.map (λx=>x.fst) [((Sum.inr u:aS),ae.t (1:Rat))]).Nodup/\Ew T [dn (b7 T f (eD rs us ss S mk)),Tr.aO .f (hW (dD [((Sum.inr u:aS),ae.t (1:Rat))]))] _;refine⟨by simp,rfl,f,.f,rs,us,ss,S,mk,[(u,1)],‹_›,inferInstance,by rw[fE,ib];rfl,e,λ_=>h⟩
 .rw[show List.map (λu=>gz (dG us rs.length [(u,(1:Rat))])) vs=(vs.map λu=>dG us rs.length [(u,1)]).map gz from by rw[map_map];rfl,show (ae.t A:Tr)=.ag .f ↥A from rfl,u9];refine⟨by simp only[length_map,j];omega,?_,q _⟩;show cw _=true;rw[Em,lY,Bc];rfl
theorem Fn{j:Type}(x:j)(r:List j):ik (x::r) (some 1) none=r:=by
 have a:HT.dw (x::r).length 0 (some 1)=1:=by
  unfold HT.dw;simp
 have b:HT.dw (x::r).length (x::r).length none=(x::r).length:=rfl;unfold ik;rw[a,b];simp
def lP(n:Nat):aI:=(List.range n).map λi:Nat=>(i:Int)
theorem FY(rs:av):pick rs (lP rs.length)=rs:=by
 unfold pick lP;rw[map_map];refine List.ext_getElem (by simp) λi b a=>?_
 simp only[List.getElem_map,List.getElem_range,Function.comp];rw[Int.toNat_natCast,getD_eq_getElem?_getD,getElem?_eq_getElem a];rfl
theorem Pf(rs:av):Val rs (lP rs.length):=λk m=>by
 let⟨i,a,rfl⟩:=mem_map.mp m;exact⟨Int.natCast_nonneg _,by rw[Int.toNat_natCast];exact mem_range.mp a⟩
def NR(T:Tx w K mg):fR:=λb Q q=>b.length=2/\∃(f g:Fl)(rs:av)(us:ah)(N zz:Nat)(_:Fp f)(_:Fp g),b=[.ag f ↥rs,.ag g ↥us]/\Bz N zz rs us/\rs.length<=N/\us.length<=8/\
 (∀(p:aC×dF)(ss:bq)(S:Nat->Nat)(mk:aT),p.1=cW us rs 0->gR zz rs us [p] ss S mk->p.2.2.1≠0->q (.ref T.aby))/\
 (∀(a:List (aC×dF))(ss:bq)(S:Nat->Nat)(mk:aT),a.map (·.1)=nj rs us us->(∀p,a[0]?=some p->p.2.2.1=0)->gR zz rs us a ss S mk->∀j,Q (b7 T .o (eD rs us ss S mk)) j)
theorem Mw(T:Tx w K mg):aJ P w K mg base (fq P w) 10 T.rY.a T.rY.d ["rows","unknowns"] (ic K true 0 2 (NR T)):=by
 refine rT T.rY.F SE rfl ∎ λa7 A outer s H E q hr hu hN=>?_
 refine⟨_,(aQ (Vv (rG T.uA (Hm T) (ar (qv 0) (ar (qv 1) aH))))
  (aQ (gc 2 (rG T.rH (Ms T) (ar (qv 0) (ar (qv 1) (ar (Lz rfl rfl T.gk rfl T.k7 (fH g6 gZ T.gX (ar (qv 0) aH))) aH)))))
  (aQ (fM (gm (oM (qc T.tL (Tz T) (ar (qv 2) (ar (qv 1) aH))) (mh aA) qp)) (cS 3) (aY (xa (nG (cI 2) (eS T T.qQ (Du T)) (kT (qv 3) nD)))))
  (aY (kl (kh 2)))))),?_⟩
 rintro xs Q' _ ⟨_,f,g,rs,us,N,zz,_,_,rfl,v,h1,h2,q3,U⟩;have I:=v.n;rfl';refine⟨rfl,f,g,rs,us,‹_›,‹_›,rfl,λh=>absurd h ⋯,λ_ _ j=>?_⟩;refine⟨rs.length,rfl,⋯,?_⟩;dsimp only;rw[show (List.range rs.length).map (λi:Nat=>Tr.int (i:Int))=(lP rs.length).map ae.t from by unfold lP;rw[map_map];rfl,gj,jd];have α:(lP rs.length).length=rs.length:=by unfold lP;rw[length_map,length_range]
 have B:=v.q rs (λ_ m=>m) h1;have ε:=B.h.2;have I:=v.n;have Q:∀o∈rs,0<bA us o/\bi (bA us o)<=3000:=λo m=>⟨(B.s o m).1,by have:=(B.s o m).2;omega⟩
 refine⟨rfl,f,g,.f,rs,us,lP rs.length,N,zz,‹_›,‹_›,inferInstance,rfl,v,⋯,⋯,Pf rs,λp ss S mk L r O=>?_,λp ss S mk L r D _=>⟨qG T _,?_⟩⟩
 .rw[FY] at L r;exact q3 p ss S mk L r O
 rw[FY] at L r ⊢;rw[eQ];simp only[dA,dI];rw[show Pu.ay (b7 T (Fl.l true) (eD rs us ss S mk))=b7 T (Fl.l true) (eD rs us ss S mk) from rfl,fE];refine⟨rfl,.l false,g,rs,us,us,ss,S,mk,inferInstance,‹_›,rfl,B.b,Q,⋯,λ_=>?_⟩;dsimp only;have ok:∀C∈(([1,2,3,4]:aI).map (cW us rs)++us.map λu=>dG us rs.length [(u,1)]),dN rs us C/\∀S,Lp.Gd rs.length (bh rs us) (Mx rs us) S->CD zz zz (il rs us C S):=λC mc=>by
  rcases mem_append.mp mc with m |m
  .obtain⟨k,_,rfl⟩:=mem_map.mp m;exact B.k k
  .obtain⟨u,_,rfl⟩:=mem_map.mp m;exact B.c _ (H0 u)
 have el:(([1,2,3,4]:aI).map (cW us rs)++us.map λu=>dG us rs.length [(u,1)]).length=us.length+4:=by rw[length_append,length_map,length_map];simp;omega
 have ec:ik ((([0,1,2,3,4]:aI).map (cW us rs)).map ae.t++(us.map λu=>dG us rs.length [(u,1)]).map gz) (some 1) none=((([1,2,3,4]:aI).map (cW us rs)).map ae.t++(us.map λu=>dG us rs.length [(u,1)]).map gz):=Fn _ _;have eg:nj rs us us=cW us rs 0::(([1,2,3,4]:aI).map (cW us rs)++us.map λu=>dG us rs.length [(u,1)]):=rfl;rw[v9,ec,HJ];rw[eg] at U;generalize (([1,2,3,4]:aI).map (cW us rs)++us.map λu=>dG us rs.length [(u,1)])=cl at ok el U;have J:bh rs us<=40:=by unfold bh;omega
 rw[jY];refine⟨gT _,Loop.map cl _ (λi j=>∃(x:List (aC×dF))(ss:bq)(S:Nat->Nat)(mk:aT)(a:Tr),j=[.ag f ↥rs,.ag g ↥us,b7 T .o (eD rs us ss S mk),a]/\gR zz rs us x ss S mk/\x.map (·.1)=cW us rs 0::cl.take i/\∀p,x[0]?=some p->p.2.2.1=0) ⟨[p],ss,S,mk,_,rfl,r,by rw[List.take_zero];exact congrArg (·::[]) L,λp' e=>by cases e;exact D⟩ ?_ ?_⟩
 .rintro i C j hi ⟨x,ss,S,mk,a,rfl,r,eG,D⟩;have γ:=(List.getElem?_eq_some_iff.mp hi).1;let⟨hC,hD⟩:=ok C (mem_of_getElem? hi);have β:x.length=i+1:=by have:=congrArg List.length eG;rw[length_map,length_cons,length_take] at this;omega
  have δ:=r.s;have M:mk.length<=10000:=le_trans r.l (le_trans (mul_le_mul (show ss.length<=20 by omega) J) ∎);rfl';refine wd rfl (by intro z;cases z) (fG T ?_);rfl';rw[fE];refine⟨rfl,.f,rs,us,ss,S,mk,C,inferInstance,rfl,B.y,r.g,r.n,hC,M,⋯,λY G hN hO j2 e=>?_⟩;dsimp only;rw[e,dI];refine⟨oh T _,?_⟩;refine⟨_,_,Y,_,_,rfl,r.step ⋯ hC G hN hO (hD Y G),?_,λp' e'=>?_⟩
  .rw[map_append,eG,take_add_one,hi];rfl
  .rw[getElem?_append_left ⋯] at e';exact D p' e'
 .rintro j ⟨x,ss,S,mk,a,rfl,r,eG,D⟩;rfl'
  try rw[dI]
  rw[take_length] at eG;exact⟨oh T _,U x ss S mk eG D r _⟩
theorem ID{j:Type}[ae j](xs:List j):List.mapIdx (λi x=>Tr.aF [Tr.int ((i+1:Nat):Int),x]) ↥xs=xs.zipIdx.map λp=>Tr.aF [Tr.int ((p.2+1:Nat):Int),ae.t p.1]:=by
 refine List.ext_getElem (by simp) λi a b=>?_
 simp
def dB(p:aC×dF):Rat:=Rat.divInt p.2.2.1 (p.2.2.2*cp p.1)
def ff(us:ah)(a:List (aC×dF)):List ((Int ⊕ Str)×Rat):=(kz us).zip (a.tail.map dB)
def SS(T:Tx w K mg):fR:=λd Q q=>d.length=2/\∃(f g:Fl)(rs:av)(us:ah)(N zz:Nat)(_:Fp f)(_:Fp g),d=[.ag f ↥rs,.ag g ↥us]/\Bz N zz rs us/\us.Nodup/\rs.length<=N/\us.length<=8/\zz+(us.length+4)*(zz+1)<=3900/\
 (∀(p:aC×dF)(ss:bq)(S:Nat->Nat)(mk:aT),p.1=cW us rs 0->gR zz rs us [p] ss S mk->p.2.2.1≠0->q (.ref T.aby))/\
 (∀(a:List (aC×dF))(ss:bq)(S:Nat->Nat)(mk:aT),a.map (·.1)=nj rs us us->(∀p,a[0]?=some p->p.2.2.1=0)->gR zz rs us a ss S mk->∀(b:List (aC×aC)) j,Q (.aF [.aO .o ((fF rs us S).map λp=>((Sum.inr p.1:aS),ae.t p.2)),ae.t (ff us a),ae.t b]) j)
theorem Kx(T:Tx w K mg):aJ P w K mg base (fq P w) 11 T.sW.a T.sW.d ["rows","unknowns"] (ic K true 0 2 (SS T)):=by
 refine rT T.sW.F Mh rfl ∎ λa7 A outer s H E q hr hu hN=>?_
 refine⟨_,(aQ (bJ 2 (rG T.rY (Mw T) (ar (qv 0) (ar (qv 1) aH))))
  (aQ (gc 3 (eH aH))
  (aQ (gc 4 (eH aH))
  (aQ (fM (Rw rfl T.k6 (ar (qc T.sk (Ig T) (ar (qv 1) aH)) aH)) (h9 (n:=2) rfl (dE (cS 5) (dE (cS 6) hJ))) (aQ (i8 (cI 3) (gp (ar (qv 6) (ar (ew (eS T T.nT (u0 T)) (qv 2) (ar (qv 5) aH)) aH))))
  (aQ (bJ 7 (ew (eS T T.tT (Sg T)) (qv 2) (ar (qv 5) aH)))
  (aY (i8 (cI 4) (gp (ar (aX (qv 7) aA) (ar (oM (aX (qv 7) aA) (mh aA) qp) aH))))))))
  (oX 4 (oX 3 (aY (b8 (gp (ar (Ga (eS T T.uI (MD T)) (qv 2)) (ar (qv 3) (ar (qv 4) aH)))))))))))),?_⟩
 rintro xs Q' _ ⟨_,f,g,rs,us,N,zz,_,_,rfl,u,β,h1,h2,h3,q1,q2⟩;have I:=u.n;rfl';refine⟨rfl,f,g,rs,us,N,zz,‹_›,‹_›,rfl,u,h1,⋯,q1,λp ss S mk eg h0 C _=>?_⟩;have O:=u.q rs (λ_ m=>m) h1;have η:=O.h.2;have I:=u.n;have γ:p.length=us.length+5:=by
  have:=congrArg List.length eg;unfold nj at this;rw[length_map,length_append,length_map,length_map] at this;simp at this;omega
 have ζ:=C.s;dsimp only;rw[Aj];refine⟨qG T _,rfl,g,us,‹_›,rfl,⋯,λ_=>?_⟩;dsimp only;rw[gj,gh,jY,ID];have δ:(kz us).length=us.length+4:=by unfold kz;rw[length_append,length_map,length_map];simp;omega
 refine⟨gT _,Loop.map _ _ (λi j=>∃(b:List (aC×aC))(x y z:Tr),j=[.ag f ↥rs,.ag g ↥us,b7 T .f (eD rs us ss S mk),.ag .o (((ff us p).take i).map ae.t),.ag .o ↥b,x,y,z]/\b.length=i) ⟨[],_,_,_,rfl,rfl⟩ ?_ ?_⟩
 .rintro i ⟨gl,l⟩ j hi ⟨b,x,y,z,rfl,eb⟩;let⟨hg,ei⟩:=lg hi;dsimp only at hg ei;subst ei;have ε:l<(kz us).length:=(List.getElem?_eq_some_iff.mp hg).1;have J:l+1<ss.length:=⋯
  obtain⟨pg,L⟩:∃pg,p[l+1]?=some pg:=⟨_,getElem?_eq_getElem ⋯⟩;let⟨r,v,G,ev⟩:=C.v (l+1) pg L;have M:=C.r _ (mem_of_getElem? G);have hv:=M.2.bs (le_refl _) (mem_append.mpr (.inr (.head _)):v∈r++[v]);have Y:(ff us p).take (l+1)=(ff us p).take l++[(gl,0 - v)]:=by
   rw[take_add_one];congr 1;unfold ff;rw[List.getElem?_zip_eq_some.mpr (show (kz us)[l]?=some (gl,dB pg).1/\(p.tail.map dB)[l]?=some (gl,dB pg).2 from ⟨hg,by rw[getElem?_map,List.getElem?_tail,L];rfl⟩)];show [(gl,dB pg)]=_;rw[ev];rfl
  have α:=Iy C.m C.r J (le_trans (Nat.add_le_add_left (Nat.mul_le_mul_right _ (show l+1<=us.length+4 by omega)) _) h3) O.h.1;rfl';simp only[eQ,dA,dI,fE,d6];refine fG T ⟨rfl,.f,_,l+1,r,v,inferInstance,rfl,G,⋯,λ_=>?_⟩;dsimp only;rw[gx];refine⟨rfl,by rw[length_take];omega,fG T ⟨rfl,rs,us,ss,S,mk,l+1,rfl,⋯,⋯,J,⋯,C.m,α,λo m=>(O.s o m).2,λ_=>?_⟩⟩;dsimp only;have ep:∀(A B:aC),Pu.ay (Tr.aF [.ag .o ↥A,.ag .o ↥B])=.aF [ae.t A,ae.t B]:=λA B=>by
   show Tr.aF [Pu.ay _,Pu.ay _]=_;rw[gj,gj]
  have el:∀(A B:aC),aG (Tr.aF [ae.t A,ae.t B])=.aF [ae.t A,ae.t B]:=λA B=>lB (A,B)
  generalize oa rs us (pp ss mk (l+1) (l+1)).1=qA;obtain⟨Q,D,U⟩:∃Q D,(pp ss mk (l+1) (l+1)).2.reverse=Q::D:=by
   cases e:(pp ss mk (l+1) (l+1)).2.reverse with
   |nil=>have:=congrArg List.length e;rw[List.length_reverse,xI] at this;cases this
   |cons Q D=>exact⟨Q,D,rfl⟩
  rw[U];rw[ep,el];refine⟨by show (cR (_:ai)&&(cR (_:ai)&&true))=true;rw[gT,gT];rfl,?_⟩;rfl';rw[gh,v9,map_cons,Fn,gj];rw[Y,map_append,show List.map ae.t b++[Tr.aF [ae.t qA,ae.t D]]=(b++[(qA,D)]).map ae.t from by rw[map_append];rfl];exact⟨by show (true&&(cR _&&true))=true;rw[gT];rfl,⋯,b++[(qA,D)],_,_,_,rfl,by rw[length_append,eb];rfl⟩
 .rintro j ⟨b,x,y,z,rfl,eb⟩;rfl';simp only[eQ,dA,dI,fE,d6];rw[length_zipIdx,show (ff us p).take (kz us).length=ff us p from List.take_of_length_le (by unfold ff;rw[length_zip];omega)];exact fG T ⟨rfl,.f,rs,us,ss,S,mk,inferInstance,rfl,O.y,C.g,β,⋯,λ_=>⟨by rw[show (b9 (Tr.aO .o _))=true from (cu _ (o7 _)).o];rfl,q2 p ss S mk eg h0 C b _⟩⟩
def dot:aC->(Nat->Rat)->Rat
 |[],_=>0
 |c::cs,y=>c * y 0 + dot cs λk=>y (k + 1)
theorem DK:∀{cs:aC}{y z:Nat->Rat},(∀k,k<cs.length->y k=z k)->dot cs y=dot cs z
 |[],_,_,_=>rfl
 |c::cs,y,z,h=>by
  rw[dot,dot,h 0 (Nat.zero_lt_succ _),DK λk a=>h (k+1) (Nat.succ_lt_succ a)]
theorem Fe(a:Rat):∀(cs:aC)(y:Nat->Rat),dot cs (λk=>a*y k)=a*dot cs y
 |[],_=>by rw[dot,dot];grind
 |c::cs,y=>by rw[dot,dot,Fe a cs];grind
theorem yP:∀(A B:aC)(y:Nat->Rat),dot (A++B) y=dot A y+dot B λk=>y (A.length+k)
 |[],B,y=>by
  rw[dot,nil_append];have:(λk=>y (([]:aC).length+k))=y:=by funext k;rw[length_nil,Nat.zero_add]
  rw[this];grind
 |c::A,B,y=>by
  rw[cons_append,dot,dot,yP A B];have:(λk=>y (A.length+k+1))=λk=>y ((c::A).length+k):=by funext k;rw[length_cons];congr 1;omega
  rw[this];grind
theorem pW:∀(n:Nat)(y:Nat->Rat),dot (List.replicate n 0) y=0
 |0,_=>rfl
 |n + 1,y=>by rw[List.replicate_succ,dot,pW n];grind
theorem CN(f:Nat->Int):∀n,Lp.sm (n+1) f=f 0+Lp.sm n λk=>f (k+1)
 |0=>by rw[Lp.sm,Lp.sm,Lp.sm];omega
 |n + 1=>by rw[Lp.sm,CN f n,Lp.sm];omega
theorem E1(a:Nat)(f:Nat->Int):∀b,Lp.sm (a+b) f=Lp.sm a f+Lp.sm b λk=>f (a+k)
 |0=>by rw[Nat.add_zero,Lp.sm];omega
 |b + 1=>by rw[<- Nat.add_assoc,Lp.sm,E1 a f b,Lp.sm];omega
theorem yx{b:Int}{c:Rat}(h:(c.den:Int) ∣ b):((fo b c:Int):Rat)=b*c:=by
 let⟨k,rfl⟩:=h;have hd:(c.den:Int)≠0:=by have:=c.den_pos;omega
 unfold fo;rw[Int.mul_fdiv_cancel_left k hd,Rat.intCast_mul,Rat.intCast_mul];have e:c*(c.den:Int)=c.num:=by
  have:=Rat.num_divInt_den c;rw[Rat.divInt_eq_div] at this;have d:((c.den:Int):Rat)≠0:=λe=>hd (Rat.intCast_eq_zero_iff.mp e)
  have m:=Rat.div_mul_cancel (a:=(c.num:Rat)) d;rw[this] at m;exact m
 rw[<- e]
 grind
theorem xM{b:Int}:∀{cs:aC}(y:Nat->Int),(∀c∈cs,(c.den:Int) ∣ b)->((Lp.sm cs.length (λk=>(cs.map (fo b)).getD k 0*y k):Int):Rat)=b*dot cs λk=>(y k:Rat)
 |[],y,_=>by rw[dot,length_nil,Lp.sm];show (0:Rat)=_;grind
 |c::cs,y,h=>by
  rw[length_cons,CN,Rat.intCast_add,Rat.intCast_mul,dot];have a:=xM (cs:=cs) (λk=>y (k+1)) λc m=>h c (.tail _ m)
  rw[show (λk=>((c::cs).map (fo b)).getD (k+1) 0*y (k+1))=λk=>(cs.map (fo b)).getD k 0*y (k+1) from rfl,a,show ((c::cs).map (fo b)).getD 0 0=fo b c from rfl,yx (h c (.head _))]
  grind
def gH(us:ah)(o:bW)(x:Nat->Rat):Rat:=dot (g0 us o) x - o.2.2.1
def i4(k:Str)(d:Rat):Rat:=if k="least" then (if d<0 then -d else 0) else if k="most" then (if 0<d then d else 0) else if d<0 then -d else d
def bN(us:ah)(k:Int)(x:Nat->Rat):av->Rat
 |[]=>0
 |o::rs=>(if o.2.2.2.1=k then (o.2.2.2.2:Rat) * i4 o.2.1 (gH us o x) else 0) + bN us k x rs
def cst(us:ah)(k:Int):av->(Nat->Rat)->Rat
 |[],_=>0
 |o::rs,y=>cb us k o * y 0 + ca us k o * y 1 + cst us k rs λj=>y (j + 2)
theorem Gp(us:ah)(k:Int):∀(rs:av)(y:Nat->Rat),dot (rs.flatMap λo=>[cb us k o,ca us k o]) y=cst us k rs y
 |[],_=>rfl
 |o::rs,y=>by
  rw[List.flatMap_cons,cst,<- Gp us k rs,cons_append,cons_append,nil_append,dot,dot]
  grind
theorem Dm(us:ah)(rs:av)(k:Int)(y:Nat->Rat):dot (cW us rs k) y=cst us k rs λj=>y (us.length+j):=by
 unfold cW;rw[yP,pW,Gp,length_replicate];grind
theorem G1{us:ah}{k:Int}{o:bW}{q d a b:Rat}(hs:0<bA us o)(u:0<=o.2.2.2.2)(n:0<=a)(p:0<=b)(e:b - a=- ((bA us o:Rat)*(d*q)))(x:0<=q):q*(if o.2.2.2.1=k then (o.2.2.2.2:Rat)*i4 o.2.1 d else 0)<=cb us k o*b+ca us k o*a:=by
 unfold cb ca;by_cases f:o.2.2.2.1=k
 .rw[if_pos f,if_pos f,if_pos f];have i:(0:Rat)<(bA us o:Rat):=Rat.intCast_pos.mpr hs;have s:Rat.divInt o.2.2.2.2 (bA us o)*(bA us o:Rat)=(o.2.2.2.2:Rat):=by
   rw[Rat.divInt_eq_div];exact Rat.div_mul_cancel (Rat.ne_of_gt i)
  have j:0<=Rat.divInt o.2.2.2.2 (bA us o):=qB u hs;generalize Rat.divInt o.2.2.2.2 (bA us o)=r at *;have y:=Rat.mul_nonneg j n;have A:=Rat.mul_nonneg j p;have z:r*b - r*a=- (q*((o.2.2.2.2:Rat)*d)):=by
   have v:r*(b - a)=r*(- ((bA us o:Rat)*(d*q))):=by rw[e]
   rw[<- s];grind
  generalize (o.2.2.2.2:Rat)=W at *;have l:q*(W*(-d))=- (q*(W*d)):=by grind
  have m:q*(W*0)=0:=by grind
  unfold i4;generalize q*(W*d)=Z at *;by_cases h:o.2.1="least"
  .have g:¬ o.2.1="most":=by rw[h];decide
   rw[if_pos h,if_pos h,if_neg g];split
   .rw[l];grind
   .rw[m];grind
  .rw[if_neg h,if_neg h];by_cases g:o.2.1="most"
   .rw[if_pos g,if_pos g];split
    .grind
    .rw[m];grind
   .rw[if_neg g,if_neg g];split
    .rw[l];grind
    .grind
 .rw[if_neg f,if_neg f,if_neg f];grind
theorem Up{us:ah}{k:Int}{o:bW}{q d a b:Rat}(hs:0<bA us o)(n:a=0\/b=0)(B:0<=a)(C:0<=b)(e:b - a=- ((bA us o:Rat)*(d*q)))(D:0<q):q*(if o.2.2.2.1=k then (o.2.2.2.2:Rat)*i4 o.2.1 d else 0)=cb us k o*b+ca us k o*a:=by
 unfold cb ca;by_cases f:o.2.2.2.1=k
 .rw[if_pos f,if_pos f,if_pos f];have i:(0:Rat)<(bA us o:Rat):=Rat.intCast_pos.mpr hs;have E:Rat.divInt o.2.2.2.2 (bA us o)*(bA us o:Rat)=(o.2.2.2.2:Rat):=by
   rw[Rat.divInt_eq_div];exact Rat.div_mul_cancel (Rat.ne_of_gt i)
  have j:0<(bA us o:Rat)*q:=Rat.mul_pos i D;have u:b - a=- ((bA us o:Rat)*q*d):=by rw[e];grind
  generalize Rat.divInt o.2.2.2.2 (bA us o)=r at *;have z:r*b - r*a=- (q*((o.2.2.2.2:Rat)*d)):=by
   have u:r*(b - a)=r*(- ((bA us o:Rat)*(d*q))):=by rw[e]
   rw[<- E];grind
  have y:d<0->a=0:=λhd=>by
   have:=Rat.mul_pos j (show 0 < -d by grind);rcases n with h |h
   .exact h
   .grind
  have A:0<d->b=0:=λhd=>by
   have:=Rat.mul_pos j hd;rcases n with h |h
   .grind
   .exact h
  have s:d=0->a=0/\b=0:=λhd=>by
   rw[hd] at u;rcases n with h |h<;>grind
  generalize (o.2.2.2.2:Rat)=W at *;have v:q*(W*(-d))=- (q*(W*d)):=by grind
  have x:q*(W*0)=0:=by grind
  have m:r*0=0:=Rat.mul_zero r;have p:d<0\/d=0\/0<d:=by grind
  have c:(d<0/\r*a=0)\/(d=0/\r*a=0/\r*b=0)\/(0<d/\r*b=0):=by
   rcases p with t |t |t
   .exact .inl ⟨t,by rw[y t,m]⟩
   .exact .inr (.inl ⟨t,by rw[(s t).1,m],by rw[(s t).2,m]⟩)
   .exact .inr (.inr ⟨t,by rw[A t,m]⟩)
  unfold i4;generalize q*(W*d)=Z at *;by_cases l:o.2.1="least"
  .have g:¬ o.2.1="most":=by rw[l];decide
   rw[if_pos l,if_pos l,if_neg g];split
   .rw[v];grind
   .rw[x];grind
  .rw[if_neg l,if_neg l];by_cases g:o.2.1="most"
   .rw[if_pos g,if_pos g];split
    .grind
    .rw[x];grind
   .rw[if_neg g,if_neg g];split
    .rw[v];grind
    .grind
 .rw[if_neg f,if_neg f,if_neg f];grind
theorem z5{us:ah}{k:Int}{x:Nat->Rat}{q:Rat}(a:0<=q):∀(rs:av)(y:Nat->Rat),(∀o∈rs,0<bA us o/\0<=o.2.2.2.2)->(∀j,j<2*rs.length->0<=y j)->(∀i o,rs[i]?=some o->y (2*i) - y (2*i+1)=- ((bA us o:Rat)*(gH us o x*q)))->q*bN us k x rs<=cst us k rs y
 |[],_,_,_,_=>by rw[bN,cst];grind
 |o::rs,y,h,nn,e=>by
  rw[bN,cst,Rat.mul_add];have d:=G1 (k:=k) (h o (.head _)).1 (h o (.head _)).2 (nn 1 (by rw[length_cons];omega)) (nn 0 (by rw[length_cons];omega)) (e 0 o rfl) a;have f:=z5 (k:=k) a rs (λj=>y (j+2)) (λo m=>h o (.tail _ m)) (λj g=>nn (j+2) (by rw[length_cons];omega)) λi o b=>e (i+1) o b
  grind
theorem Cp{us:ah}{k:Int}{x:Nat->Rat}{q:Rat}(a:0<q):∀(rs:av)(y:Nat->Rat),(∀o∈rs,0<bA us o)->(∀j,j<2*rs.length->0<=y j)->(∀i o,rs[i]?=some o->(y (2*i+1)=0\/y (2*i)=0)/\y (2*i) - y (2*i+1)=- ((bA us o:Rat)*(gH us o x*q)))->q*bN us k x rs=cst us k rs y
 |[],_,_,_,_=>by rw[bN,cst];grind
 |o::rs,y,h,nn,e=>by
  rw[bN,cst,Rat.mul_add];have b:=Up (k:=k) (h o (.head _)) (e 0 o rfl).1 (nn 1 (by rw[length_cons];omega)) (nn 0 (by rw[length_cons];omega)) (e 0 o rfl).2 a;have d:=Cp (k:=k) a rs (λj=>y (j+2)) (λo m=>h o (.tail _ m)) (λj g=>nn (j+2) (by rw[length_cons];omega)) λi o f=>e (i+1) o f
  rw[b,d]
theorem B8{us:ah}{o:bW}{R i:Nat}{y:Nat->Int}(q:i<R):Lp.sm (us.length+2*R+1) (λk=>A0 us.length R i (eC us o) (cK us o) k*y k)=Lp.sm us.length (λk=>(eC us o).getD k 0*y k)+(y (us.length+2*i) - y (us.length+2*i+1))+cK us o*y (us.length+2*R):=by
 rw[Lp.sm,E1];have j:Lp.sm us.length (λk=>A0 us.length R i (eC us o) (cK us o) k*y k)=Lp.sm us.length (λk=>(eC us o).getD k 0*y k):=Lp.a8 λk d=>by unfold A0;rw[if_pos d]
 have l:=Lp.e7 (f:=λk=>A0 us.length R i (eC us o) (cK us o) (us.length+k)*y (us.length+k)) (a:=2*i) (b:=2*i+1) ⋯ (n:=2*R) ⋯ λk d m p=>by
  unfold A0;rw[if_neg ⋯,if_neg ⋯,if_neg ⋯,if_neg ⋯,zero_mul]
 rw[j,l];have e:A0 us.length R i (eC us o) (cK us o) (us.length+2*i)=1:=by unfold A0;rw[if_neg ⋯,if_pos rfl]
 have g:A0 us.length R i (eC us o) (cK us o) (us.length+(2*i+1))=-1:=by unfold A0;rw[if_neg ⋯,if_neg ⋯,if_pos ⋯]
 have h:A0 us.length R i (eC us o) (cK us o) (us.length+2*R)=cK us o:=by unfold A0;rw[if_neg ⋯,if_neg ⋯,if_neg ⋯,if_pos rfl]
 rw[e,g,h,one_mul,<- Nat.add_assoc];omega
theorem uq(us:ah)(o:bW):0<bA us o/\(∀c∈g0 us o,(c.den:Int) ∣ bA us o)/\(o.2.2.1.den:Int) ∣ bA us o:=by
 have h:=gQ (cz us o) 1 ∎;exact⟨h.1,λc m=>h.2.2.1 c (mem_append.mpr (.inl m)),h.2.2.1 _ (mem_append.mpr (.inr (.head _)))⟩
theorem Hr(us:ah)(o:bW)(y:Nat->Int):((Lp.sm us.length (λk=>(eC us o).getD k 0*y k):Int):Rat)=bA us o*dot (g0 us o) λk=>(y k:Rat):=by
 have:=xM (b:=bA us o) (cs:=g0 us o) y (uq us o).2.1;rwa[show (g0 us o).length=us.length from length_map _] at this
theorem DY{rs:av}{us:ah}{sh:Nat->Prop}{q:Int}{y:Nat->Int}(F:Lp.eN rs.length (bh rs us) (Mx rs us) sh q y){x:Nat->Rat}(j:∀k,k<us.length->x k*q=y k){i:Nat}{o:bW}(a:rs[i]?=some o):((y (us.length+2*i):Int):Rat) - ((y (us.length+(2*i+1)):Int):Rat)=- ((bA us o:Rat)*(gH us o x*q)):=by
 have b:=(List.getElem?_eq_some_iff.mp a).1;have k:=F.l6 i b;rw[Lp.a8 (g:=λk=>sgn (cK us o)*(A0 us.length rs.length i (eC us o) (cK us o) k*y k)) λk _=>by rw[lX a,Int.mul_assoc],Lp.bO] at k;have h:sgn (cK us o)≠0:=by unfold sgn;split<;>decide
 have e:=(Int.mul_eq_zero.mp k).resolve_left h;rw[show bh rs us+1=us.length+2*rs.length+1 from rfl,B8 b,show us.length+2*rs.length=bh rs us from rfl,F.rhs] at e;have c:((_:Int):Rat)=((0:Int):Rat):=congrArg (λz:Int=>(z:Rat)) e;rw[Rat.intCast_add,Rat.intCast_add,Hr,Rat.intCast_sub,Rat.intCast_mul,Rat.intCast_neg,show cK us o=fo (bA us o) o.2.2.1 from rfl,yx (uq us o).2.2] at c;have d:dot (g0 us o) (λk=>(y k:Rat))=q*dot (g0 us o) x:=by
  rw[<- Fe];refine DK λk f=>?_
  rw[<- j k (by rwa[show (g0 us o).length=us.length from length_map _] at f)];exact Rat.mul_comm _ _
 rw[d,Rat.intCast_zero] at c;unfold gH;rw[<- Nat.add_assoc]
 grind
def jZ(us:ah)(q:Int)(t:Nat->Int)(o:bW):Int:=cK us o*q - Lp.sm us.length λk=>(eC us o).getD k 0*t k
def iy(rs:av)(us:ah)(q:Int)(t:Nat->Int)(k:Nat):Int:=
 if k<us.length then t k else if k=bh rs us then -q else match rs[(k - us.length) / 2]? with
 |some o=>if (k - us.length) % 2=0 then max (jZ us q t o) 0 else max (- jZ us q t o) 0
 |none=>0
theorem tY{rs:av}{us:ah}{q:Int}{t:Nat->Int}{i:Nat}{o:bW}(a:rs[i]?=some o):iy rs us q t (us.length+2*i)=max (jZ us q t o) 0/\iy rs us q t (us.length+2*i+1)=max (- jZ us q t o) 0:=by
 have b:=(List.getElem?_eq_some_iff.mp a).1;unfold iy bh;rw[if_neg ⋯,if_neg ⋯,if_neg ⋯,if_neg ⋯,show (us.length+2*i - us.length) / 2=i by omega,show (us.length+2*i+1 - us.length) / 2=i by omega,a];dsimp only;rw[if_pos ⋯,if_neg ⋯];exact⟨rfl,rfl⟩
theorem EK{rs:av}{us:ah}{q:Int}{t:Nat->Int}(ht:∀k,k<us.length->0<=t k):Lp.eN rs.length (bh rs us) (Mx rs us) (λ_=>False) q (iy rs us q t):=by
 have a:iy rs us q t (bh rs us)=-q:=by unfold iy;rw[if_neg (by unfold bh;omega),if_pos rfl]
 refine⟨λi b=>?_,λk d=>?_,λ_ _ h=>h.elim,a⟩
 .obtain⟨o,ho⟩:=lW b;rw[Lp.a8 (g:=λk=>sgn (cK us o)*(A0 us.length rs.length i (eC us o) (cK us o) k*iy rs us q t k)) λk _=>by rw[lX ho,Int.mul_assoc],Lp.bO,show bh rs us+1=us.length+2*rs.length+1 from rfl,B8 b,show us.length+2*rs.length=bh rs us from rfl,a,(tY ho).1,(tY ho).2];rw[Lp.a8 (g:=λk=>(eC us o).getD k 0*t k) λk d=>by rw[show iy rs us q t k=t k by unfold iy;rw[if_pos d]]];have:Lp.sm us.length (λk=>(eC us o).getD k 0*t k)+(max (jZ us q t o) 0 - max (- jZ us q t o) 0)+cK us o*-q=0:=by
   have e:jZ us q t o=cK us o*q - Lp.sm us.length λk=>(eC us o).getD k 0*t k:=rfl
   rw[Int.mul_neg];omega
  rw[this,mul_zero]
 .unfold iy;split
  .exact ht k (by assumption)
  .rw[if_neg ⋯];split
   .split<;>omega
   .exact Int.le_refl _
def jU(rs:av)(us:ah):Int ⊕ (Str×Nat)->aC
 |.inl k=>cW us rs k
 |.inr p=>dG us rs.length [(p.1,1)]
def o6(rs:av)(us:ah)(x:Nat->Rat):Int ⊕ (Str×Nat)->Rat
 |.inl k=>bN us k x rs
 |.inr p=>x p.2
def oD(us:ah):Int ⊕ (Str×Nat)->Prop
 |.inl _=>True
 |.inr p=>us[p.2]? = some p.1
theorem Gf{u:Str}:∀{us:ah}{j:Nat}(y:Nat->Rat),us.Nodup->us[j]?=some u->dot (us.map λx=>(cF [(u,(1:Rat))] x).getD 0) y=y j
 |v::us,j,y,nd,h=>by
  let⟨a,i⟩:=nodup_cons.mp nd;rw[map_cons,dot]
  match j,h with
  |0,h=>
   have d:v=u:=Option.some.inj h;subst d;have z:us.map (λx=>(cF [(v,(1:Rat))] x).getD 0)=List.replicate us.length 0:=List.eq_replicate_iff.mpr ⟨length_map _,λb m=>by
    let⟨x,g,rfl⟩:=mem_map.mp m;have:¬ v=x:=λe=>a (e ▸ g)
    simp[cF,this]⟩
   rw[z,pW,n0 rfl];show (1:Rat)*_+0=_
   grind
  |j+1,h=>
   have f:u∈us:=mem_of_getElem? h;have:¬ u=v:=λe=>a (e ▸ f)
   rw[Gf (u:=u) (us:=us) (j:=j) _ i h,show (cF [(u,(1:Rat))] v).getD 0=0 by simp[cF,this]]
   grind
theorem Gm{us:ah}{u:Str}{j R:Nat}(y:Nat->Rat)(nd:us.Nodup)(h:us[j]?=some u):dot (dG us R [(u,1)]) y=y j:=by
 unfold dG;rw[yP,pW,Gf y nd h];grind
theorem P7{rs:av}{us:ah}{sh:Nat->Prop}{q:Int}{y:Nat->Int}(F:Lp.eN rs.length (bh rs us) (Mx rs us) sh q y)(e:0<q){x:Nat->Rat}(a:∀k,k<us.length->x k*q=y k)(f:∀o∈rs,0<=o.2.2.2.2)(nd:us.Nodup){d:Int ⊕ (Str×Nat)}(hd:oD us d):q*o6 rs us x d<=dot (jU rs us d) λk=>(y k:Rat):=by
 match d,hd with
 |.inl k,_=>
  show q*bN us k x rs<=dot (cW us rs k) _;rw[Dm];refine z5 (Rat.le_of_lt (Rat.intCast_pos.mpr e)) rs _ (λo m=>⟨(uq us o).1,f o m⟩) (λj g=>Rat.intCast_nonneg.mpr (F.nn _ (by unfold bh;omega))) λi o b=>DY F a b
 |.inr p,h=>
  show q*x p.2<=dot (dG us rs.length [(p.1,1)]) _;rw[Gm _ nd h,<- a _ (List.getElem?_eq_some_iff.mp h).1]
  grind
theorem V0{rs:av}{us:ah}{q:Int}{t:Nat->Int}(ht:∀k,k<us.length->0<=t k)(f:0<q){x:Nat->Rat}(g:∀k,k<us.length->x k*q=t k)(nd:us.Nodup){d:Int ⊕ (Str×Nat)}(hd:oD us d):q*o6 rs us x d=dot (jU rs us d) λk=>(iy rs us q t k:Rat):=by
 have F:=EK (rs:=rs) (q:=q) ht;have a:∀k,k<us.length->x k*q=iy rs us q t k:=λk e=>by rw[g k e];unfold iy;rw[if_pos e]
 match d,hd with
 |.inl k,_=>
  show q*bN us k x rs=dot (cW us rs k) _;rw[Dm];refine Cp (Rat.intCast_pos.mpr f) rs _ (λo m=>(uq us o).1) (λj l=>Rat.intCast_nonneg.mpr (F.nn _ (by unfold bh;omega))) λi o b=>⟨?_,DY F a b⟩
  show ((iy rs us q t (us.length+2*i+1):Int):Rat)=0\/((iy rs us q t (us.length+2*i):Int):Rat)=0;rw[(tY b).1,(tY b).2];by_cases h:0<=jZ us q t o
  .left;rw[show max (- jZ us q t o) 0=0 by omega];rfl
  .right;rw[show max (jZ us q t o) 0=0 by omega];rfl
 |.inr p,h=>
  show q*x p.2=dot (dG us rs.length [(p.1,1)]) _;rw[Gm _ nd h,<- a _ (List.getElem?_eq_some_iff.mp h).1]
  grind
def kq:aC->aC->Prop
 |v::vs,g::gs=>v < g \/ (v=g /\ kq vs gs)
 |_,_=>True
theorem v7{p:aC×dF}(h:0<p.2.2.2):dB p*((p.2.2.2:Rat)*(cp p.1:Rat))=(p.2.2.1:Rat)/\0<(p.2.2.2:Rat)*(cp p.1:Rat):=by
 have b:=(gQ p.1 1 ∎).1;have a:=Rat.mul_pos (Rat.intCast_pos.mpr h) (Rat.intCast_pos.mpr b);refine⟨?_,a⟩;unfold dB;rw[Rat.divInt_eq_div,Rat.intCast_mul];exact Rat.div_mul_cancel (Rat.ne_of_gt a)
theorem Us{a b c:Rat}(d:0<c)(h:a*c<b*c):a<b:=by
 have:=Rat.mul_lt_mul_right d (a:=a) (b:=b);exact this.mp h
theorem zH{n:Nat}{y:Nat->Int}{q:Int}{f:Prop}(r:0<q):∀(d:List (aC×dF))(G:aC),(∀p∈d,0<p.2.2.2)->(∀(i:Nat)(p:aC×dF)(g:Rat),d[i]?=some p->G[i]?=some g->((Lp.sm n (λk=>p.2.1 k*y k):Int):Rat)=cp p.1*(q*g))->i5 n y q f (d.map (·.2))->kq (d.map dB) G
 |[],_,_,_,_=>by rw[map_nil];unfold kq;trivial
 |p::d,[],_,_,_=>by unfold kq;trivial
 |p::d,g::G,hp,e,h=>by
  have o:=e 0 p g rfl rfl;let⟨s,A⟩:=v7 (hp p (.head _));have j:(0:Rat)<q:=Rat.intCast_pos.mpr r;have u:=Rat.mul_pos A j;rw[map_cons];show dB p<g\/(dB p=g/\kq (d.map dB) G);rcases h with h |⟨h,x⟩
  .left;have h:=Rat.intCast_lt_intCast.mpr h;rw[Rat.intCast_mul,Rat.intCast_mul,o,<- s] at h;refine Us u ?_
   grind
  .right;refine⟨?_,zH r d G (λp m=>hp p (.tail _ m)) (λi p g a b=>e (i+1) p g a b) x⟩;have h:((_:Int):Rat)=((_:Int):Rat):=congrArg (λz:Int=>(z:Rat)) h;rw[Rat.intCast_mul,Rat.intCast_mul,o,<- s] at h;have B:dB p*((p.2.2.2:Rat)*(cp p.1:Rat)*q)=g*((p.2.2.2:Rat)*(cp p.1:Rat)*q):=by grind
   have v:(dB p - g)*((p.2.2.2:Rat)*(cp p.1:Rat)*q)=0:=by grind
   rcases Rat.mul_eq_zero.mp v with l |l
   .grind
   .exact absurd l (Rat.ne_of_gt u)
theorem FO:∀(V G:aC),V.length=G.length->kq V G->(∀(i:Nat)(v g:Rat),V[i]?=some v->G[i]?=some g->g<=v)->V=G
 |[],[],_,_,_=>rfl
 |v::V,g::G,hl,h,le=>by
  have e:=le 0 v g rfl rfl;rcases h with h |⟨h,d⟩
  .exact absurd h (by grind)
  .rw[h,FO V G (Nat.succ.inj hl) d λi v g a b=>le (i+1) v g a b]
theorem BZ:∀(n:Nat)(x:Nat->Rat),∃(q:Int)(t:Nat->Int),0<q/\∀k,k<n->x k*q=t k
 |0,_=>⟨1,λ_=>0,∎,λk a=>absurd a (Nat.not_lt_zero k)⟩
 |n + 1,x=>by
  let⟨q,t,b,h⟩:=BZ n x;have hd:(0:Int)<((x n).den:Int):=natCast_pos.mpr (x n).den_pos;refine⟨(x n).den*q,λk=>if k=n then (x n).num*q else (x n).den*t k,mul_pos hd b,λk a=>?_⟩;show x k*_=(((if k=n then (x n).num*q else (x n).den*t k):Int):Rat);by_cases e:k=n
  .rw[if_pos e,e];have w:=yx (c:=x n) (Int.dvd_refl ((x n).den:Int));unfold fo at w;rw[Int.fdiv_self (ne_of_gt hd),Int.mul_one] at w;rw[Rat.intCast_mul,Rat.intCast_mul,w]
   grind
  .rw[if_neg e,Rat.intCast_mul,Rat.intCast_mul,<- h k ⋯]
   grind
theorem GF{rs:av}{us:ah}(d:Int ⊕ (Str×Nat)):(jU rs us d).length=bh rs us:=by
 unfold bh
 match d with
 |.inl k=>
  show (cW us rs k).length=_;unfold cW;rw[length_append,length_replicate,yE]
 |.inr p=>
  show (dG us rs.length [(p.1,1)]).length=_;unfold dG;rw[length_append,length_replicate,length_map]
theorem BU{rs:av}{us:ah}{cs:aC}(h:cs.length=bh rs us)(y:Nat->Int):((Lp.sm (bh rs us) (λk=>cf (dC cs) k*y k):Int):Rat)=cp cs*dot cs λk=>(y k:Rat):=by
 rw[<- h];exact xM (b:=cp cs) (cs:=cs) y (gQ cs 1 ∎).2.2.1
theorem Gj{rs:av}{us:ah}{a:List (aC×dF)}{D:List (Int ⊕ (Str×Nat))}(b:a.map (·.1)=D.map (jU rs us)){i:Nat}{p:aC×dF}(hp:a[i]?=some p):∃d,D[i]?=some d/\p.1=jU rs us d:=by
 have this:(a.map (·.1))[i]?=(D.map (jU rs us))[i]?:=by rw[b]
 rw[getElem?_map,getElem?_map,hp,map_some] at this;cases e:D[i]? with
 |none=>rw[e] at this;cases this
 |some d=>rw[e] at this;exact⟨d,rfl,Option.some.inj this⟩
theorem uY{z:Nat}{rs:av}{us:ah}{a:List (aC×dF)}{ss:bq}{S:Nat->Nat}{mk:aT}{D:List (Int ⊕ (Str×Nat))}(h:gR z rs us a ss S mk)(u:a.map (·.1)=D.map (jU rs us))(hd:∀d∈D,oD us d)(nd:us.Nodup){x:Nat->Rat}(v:∀k,k<us.length->0<=x k):kq (a.map dB) (D.map (o6 rs us x)):=by
 let⟨q,t,b,r⟩:=BZ us.length x;have e:(0:Rat)<q:=Rat.intCast_pos.mpr b;have s:∀k,k<us.length->0<=t k:=λk n=>by
  have:=Rat.mul_nonneg (v k n) (Rat.le_of_lt e);rw[r k n] at this;exact Rat.intCast_nonneg.mp this
 refine zH b a _ (λp m=>(h.c p m).2) (λi p g o l=>?_) (h.x q _ (le_of_lt b) (EK s));let⟨d,f,j⟩:=Gj u o;rw[getElem?_map,f,map_some] at l;cases l;rw[(h.c p (mem_of_getElem? o)).1,BU (by rw[j];exact GF d),j,V0 s b r nd (hd d (mem_of_getElem? f))]
theorem PY{rs:av}{us:ah}{S:Nat->Nat}(G:Lp.Gd rs.length (bh rs us) (Mx rs us) S)(k:Nat):fV rs.length (bh rs us) (Mx rs us) S k*(Lp.dd rs.length (Mx rs us) S:Int)=(Lp.kD rs.length (bh rs us) (Mx rs us) S k:Int):=by
 unfold fV;rw[Rat.divInt_eq_div];exact Rat.div_mul_cancel (Rat.ne_of_gt (Rat.intCast_pos.mpr G.pos))
theorem best{z:Nat}{rs:av}{us:ah}{f:List (aC×dF)}{ss:bq}{S:Nat->Nat}{mk:aT}{D:List (Int ⊕ (Str×Nat))}(h:gR z rs us f ss S mk)(j:f.map (·.1)=D.map (jU rs us))(hd:∀d∈D,oD us d)(nd:us.Nodup)(G:∀o∈rs,0<=o.2.2.2.2):(∀k,k<us.length->0<=fV rs.length (bh rs us) (Mx rs us) S k)/\f.map dB=D.map (o6 rs us (fV rs.length (bh rs us) (Mx rs us) S)):=by
 have F:=Lp.jP (sh:=eY mk) h.g h.n;have m:=h.g.pos;have q:(0:Rat)<(Lp.dd rs.length (Mx rs us) S:Int):=Rat.intCast_pos.mpr m;have y:∀k,k<us.length->0<=fV rs.length (bh rs us) (Mx rs us) S k:=λk J=>by
  unfold fV;exact qB (F.nn k (by unfold bh;omega)) m
 refine⟨y,FO _ _ (by rw[length_map,length_map];have:=congrArg List.length j;rwa[length_map,length_map] at this) (uY h j hd nd y) λi v g b x=>?_⟩;rw[getElem?_map] at b;cases hp:f[i]? with
 |none=>rw[hp] at b;cases b
 |some p=>
  rw[hp] at b;cases b;let⟨d,s,u⟩:=Gj j hp;rw[getElem?_map,s,map_some] at x;cases x;have r:=mem_of_getElem? hp;have B:((_:Int):Rat)=((_:Int):Rat):=congrArg (λz:Int=>(z:Rat)) (h.e _ _ F p r);let⟨H,I⟩:=v7 (h.c p r).2;rw[Rat.intCast_mul,Rat.intCast_mul,(h.c p r).1,BU (by rw[u];exact GF d),<- H] at B;have a:=P7 F m (λk _=>PY h.g k) G nd (hd d (mem_of_getElem? s));rw[<- u] at a;generalize dot p.1 _=A at *;have C:(A - dB p*(Lp.dd rs.length (Mx rs us) S:Int))*((p.2.2.2:Rat)*(cp p.1:Rat))=0:=by grind
  have E:A=dB p*(Lp.dd rs.length (Mx rs us) S:Int):=by
   rcases Rat.mul_eq_zero.mp C with c |c
   .grind
   .exact absurd c (Rat.ne_of_gt I)
  rw[E] at a;refine Rat.not_lt.mp λl=>?_
  have:=(Rat.mul_lt_mul_right q).mpr l
  grind
theorem i9{j:Int}(h:j.natAbs<2 ^ 100):j.natAbs<2 ^ 8000:=lt_of_lt_of_le h (Nat.pow_le_pow_right ∎ ⋯)
def JU:bQ:=cY 2 λb Q=>∃(f:Fl)(a:aI)(k:Int),Fp f/\b=[.ag f ↥a,.int k]/\0<=k/\∀c:Int,Q (.int c)
theorem Lf(T:Tx w K mg){z:Bool}:aJ P w K mg base bM 1 T.ua.a T.ua.d ["_law_script","_law_k"] (bR K z 0 2 JU):=by
 refine cg T.ua.F Pc rfl ∎ λa7 A outer s H E i j h=>?_
 refine⟨_,(aQ (c6 (b5 lj lz (qv 1) (fH g6 gZ T.gX (ar (qv 0) aH))) (aY (b8 (aX (qv 0) (qv 1)))) cZ)
  (aY (b8 aA))),?_⟩
 rintro l g _ ⟨_,f,b,k,_,rfl,e,q⟩;rfl';split
 .rename_i c;exact d0 _ _ _ (tw b e (by have:=of_decide_eq_true c;omega)) ⟨gi _,q _ _⟩
 .exact q _ _
theorem vm{i j:Int}(h:-(2 ^ 64)<i/\i<2 ^ 64):kB i j:=.inl (.inl h)
theorem NL{i j:Int}(h:-(2 ^ 64)<j/\j<2 ^ 64):kB i j:=.inl (.inr h)
theorem S3:uO 10 12:=⟨∎,∎,∎⟩
theorem vK{xs:ai}{r:Int}{Q:az}(a:0<=r)(b:r<xs.length)(q:∀x,x∈xs->Q x):oQ (cX xs r) Q:=by
 rw[tw xs a ⋯];exact q _ (List.getElem_mem _)
theorem qr{ns:aI}{r:Int}{Q:az}(a:0<=r)(b:r<ns.length)(q:∀n,n∈ns->Q (.int n)):oQ (cX (ns.map Tr.int) r) Q:=by
 refine vK a (by rw[length_map];exact b) λx d=>?_
 let⟨n,hn,rfl⟩:=mem_map.mp d;exact q n hn
def R7:bQ:=cY 2 λa Q=>∃(c k:Int),a=[.int c,.int k]/\0<=k/\k<=1000/\∀r:Int,Q (.int r)
theorem jt(T:Tx w K mg){z:Bool}:aJ P w K mg base bM 1 T.iQ.a T.iQ.d ["_law_cell","_law_k"] (bR K z 0 2 R7):=by
 refine cg T.iQ.F OU rfl ∎ λa7 A outer s H E y B g=>?_
 refine⟨_,(aQ (c6 (b5 fX fU (eE (fT (qv 0) aA) aA) aA) (aQ (bJ 2 (aX (eH (ar aA (ar (AL aA aA) aH))) (eE (fT (qv 0) aA) aA)))
  (aQ (bJ 3 (fT (qv 0) aA))
  (aQ (fM (rR T.k7 (ar (mr (qv 1) aA) aH)) (cS 4) (aY (bJ 3 (fT (qv 3) (qv 2)))))
  (aY (c6 (b5 kJ kE (qv 3) aA) (aY (b8 (eE (qv 3) (qv 2)))) cZ))))) cZ)
  (aQ (bJ 5 (eE (dh (eE (d8 (d8 (qv 0) (dh aA (qv 1))) aA) aA) aA) aA))
  (aQ (bJ 5 (eE (dh (qv 5) (d8 (fT (qv 5) aA) aA)) aA))
  (aY (b8 (eE (dh (qv 5) (d8 (fT (qv 5) aA) aA)) aA)))))),?_⟩
 rintro I x _ ⟨_,c,k,rfl,C,D,q⟩;walk_at "q";refine w9 (λG=>∃a b d e:Tr,G=[.int c,.int k,a,b,d,e]) (λN g=>?_) ?_
 .rfl';refine⟨⟨∎,i9 ∎⟩,∎,?_⟩;split
  .refine⟨S3,⟨∎,i9 ∎⟩,∎,qr (ns:=[50,10 ^ Int.toNat 12]) (emod_nonneg _ ∎) (emod_lt_of_pos _ ∎) λbs p=>?_⟩;have f:0<bs/\bs.natAbs<2 ^ 100:=by
    rcases mem_cons.mp p with rfl |r
    .decide
    .rw[mem_singleton.mp r];decide
   rfl';refine⟨⟨∎,i9 ∎⟩,⋯,⋯,Loop.map _ _ (λi G=>∃(n:Int)(d:Tr),G=[.int c,.int k,.int bs,.int n,d,.ax]) ⟨_,_,rfl⟩ ?_ ?_⟩
   .rintro i j G hi ⟨n,d,rfl⟩;rfl';exact⟨⟨⋯,i9 f.2⟩,_,_,rfl⟩
   .rintro G ⟨n,d,rfl⟩;rfl';split
    .exact⟨f.1,q _ _⟩
    .exact g _ ⟨_,_,_,_,rfl⟩
  .exact g _ ⟨_,_,_,_,rfl⟩
 rintro _ ⟨a,b,d,e,rfl⟩;rfl';have h:=emod_nonneg ((c+7919*k+1) % 2147483647*48271) (show (2147483647:Int)≠0 by decide);have l:=emod_lt_of_pos ((c+7919*k+1) % 2147483647*48271) (show (0:Int)<2147483647 by decide);generalize (c+7919*k+1) % 2147483647*48271 % 2147483647=u at h l;have m:=emod_nonneg (u*(u.fdiv 1009+69621)) (show (2147483647:Int)≠0 by decide);have o:=emod_lt_of_pos (u*(u.fdiv 1009+69621)) (show (0:Int)<2147483647 by decide);generalize u*(u.fdiv 1009+69621) % 2147483647=v at m o;exact⟨vm ∎,∎,NL ∎,∎,⟨∎,i9 ∎⟩,vm ⋯,∎,⟨∎,i9 ∎⟩,vm ⋯,∎,q _ _⟩
def UH:bQ:=cY 2 λd Q=>∃a b:Int,d=[.int a,.int b]/\0<=b/\Q (.int (gd a b))
theorem SX(T:Tx w K mg){z:Bool}:aJ P w K mg base bM 1 T.tX.a T.tX.d ["_law_one","_law_other_here"] (bR K z 0 2 UH):=by
 refine cg T.tX.F S2 rfl ∎ λa7 A outer s H E n o l=>?_
 refine⟨_,(aQ (wm (b5 jW j7 (qv 1) aA) (aY (JF 0 1 (ar (qv 1) (ar (eE (qv 0) (qv 1)) aH)))))
  (aY (b8 (fH xf vX T.vQ (ar (qv 0) aH))))),?_⟩
 rintro r i _ ⟨_,a,b,rfl,h,q⟩;refine⟨λm j=>∃x y,j=[.int x,.int y]/\0<=y/\gd x y=gd a b/\m=y.toNat,⟨_,a,b,rfl,h,rfl,rfl⟩,?_⟩;rintro m j ⟨x,y,rfl,p,e,rfl⟩;rfl';by_cases f:y=0
 .subst f;rw[if_neg ∎];rw[<- e] at q;have g:gd x 0=if x<0 then -x else x:=by
   unfold gd;rw[Int.gcd_zero_right];split<;>omega
  rw[g] at q;exact q _
 .rw[if_pos (by simp[f])];refine⟨⋯,(x % y).toNat,?_,_,_,rfl,emod_nonneg _ f,?_,rfl⟩
  .have:=emod_lt_of_pos x (show 0<y by omega);have:=emod_nonneg x f;omega
  .rw[<- e];unfold gd;have:=Int.emod_add_mul_ediv x y;rw[Int.gcd_comm x y,show x % y=x+y*(-(x / y)) by rw[Int.mul_neg];omega,Int.gcd_add_mul_left_right]
def Qw:bQ:=cY 2 λd Q=>∃a b:Int,d=[.int a,.int b]/\0<b/\bi b<=7990/\Q (ae.t (Rat.divInt a b))
theorem uQ(T:Tx w K mg){z:Bool}:aJ P w K mg base bM 2 T.my.a T.my.d ["_law_top","_law_bottom"] (bR K z 0 2 Qw):=by
 refine cg T.my.F Q6 rfl ∎ λa7 A outer s H E l m i=>?_
 refine⟨_,(aQ (bJ 2 (qc T.tX (SX T) (ar (qv 0) (ar (qv 1) aH))))
  (aY (b8 (gp (ar (fT (qv 0) (qv 2)) (ar (fT (qv 1) (qv 2)) aH)))))),?_⟩
 rintro n h _ ⟨_,a,b,rfl,g,f,q⟩;have e:=ne_of_gt g;rfl';refine⟨rfl,a,b,rfl,le_of_lt g,λj=>?_⟩;rw[z0,<- DO e,<- Dp e] at q;unfold dv at q;rw[if_neg ⋯] at q;rfl';exact⟨tF e f,tF e f,q _⟩
theorem za:∀(A B:aC),A.length=B.length->kq A B->kq B A->A=B
 |[],[],_,_,_=>rfl
 |a::A,b::B,hl,h,g=>by
  rcases h with h |⟨h,d⟩
  .rcases g with g |⟨g,_⟩<;>grind
  .rcases g with g |⟨_,g'⟩
   .grind
   .rw[h,za A B (Nat.succ.inj hl) d g']
theorem AZ{us:ah}{k:Int}{x:Nat->Rat}{rs d:av}(h:rs.Perm d):bN us k x rs=bN us k x d:=by
 induction h with
 |nil=>rfl
 |cons o _ e=>rw[bN,bN,e]
 |swap o p l=>rw[bN,bN,bN,bN];grind
 |trans _ _ a b=>rw[a,b]
theorem Um(k:Str)(d:Rat):0<=i4 k d:=by
 unfold i4
 repeat' split
 all_goals grind
theorem m8{us:ah}{k:Int}{x:Nat->Rat}:∀{rs:av},(∀o∈rs,0<=o.2.2.2.2)->0<=bN us k x rs
 |[],_=>Rat.le_refl
 |o::rs,h=>by
  have b:=m8 (us:=us) (k:=k) (x:=x) λo m=>h o (.tail _ m)
  have a:(0:Rat)<=(o.2.2.2.2:Rat):=Rat.intCast_nonneg.mpr (h o (.head _));have:=Rat.mul_nonneg a (Um o.2.1 (gH us o x));rw[bN];split<;>grind
theorem o3(us:ah)(k:Int)(x:Nat->Rat):∀A B:av,bN us k x (A++B)=bN us k x A+bN us k x B
 |[],B=>by rw[nil_append,bN,Rat.zero_add]
 |o::A,B=>by rw[cons_append,bN,bN,o3 us k x A B,Rat.add_assoc]
def Eqv(us:ah)(rs a:av):Prop:=∀x:Nat->Rat,(∀k:Int,k≠0->bN us k x rs=bN us k x a)/\(bN us 0 x rs=0↔bN us 0 x a=0)
def Wn(rs:av):Prop:=∀o∈rs,0<=o.2.2.2.2
theorem Eqv.refl(us:ah)(rs:av):Eqv us rs rs:=λ_=>⟨λ_ _=>rfl,Iff.rfl⟩
theorem Eqv.symm{us:ah}{rs a:av}(h:Eqv us rs a):Eqv us a rs:=λx=>⟨λk b=>((h x).1 k b).symm,(h x).2.symm⟩
theorem Eqv.trans{us:ah}{rs d b:av}(h:Eqv us rs d)(g:Eqv us d b):Eqv us rs b:=λx=>⟨λk a=>((h x).1 k a).trans ((g x).1 k a),(h x).2.trans (g x).2⟩
theorem Eqv.perm{us:ah}{rs a:av}(h:rs.Perm a):Eqv us rs a:=λx=>⟨λ_ _=>AZ h,by rw[AZ h]⟩
theorem Eqv.app{us:ah}{A B C D:av}(h:Eqv us A B)(g:Eqv us C D)(j:Wn A)(l:Wn B)(m:Wn C)(n:Wn D):Eqv us (A++C) (B++D):=λx=>by
 refine⟨λk i=>by rw[o3,o3,(h x).1 k i,(g x).1 k i],?_⟩;have a:=m8 (us:=us) (k:=0) (x:=x) j;have b:=m8 (us:=us) (k:=0) (x:=x) l;have c:=m8 (us:=us) (k:=0) (x:=x) m;have d:=m8 (us:=us) (k:=0) (x:=x) n;have e:=(h x).2;have f:=(g x).2;rw[o3,o3];constructor
 .intro z;rw[e.mp (by grind),f.mp (by grind)];grind
 .intro z;rw[e.mpr (by grind),f.mpr (by grind)];grind
theorem zF{us:ah}{o:bW}(a:o.2.2.2.1=0)(d:0<=o.2.2.2.2):Eqv us [o] [o,o]:=λx=>by
 have n:=m8 (us:=us) (k:=0) (x:=x) (rs:=[o]) λp m=>by rw[mem_singleton.mp m];exact d
 refine⟨λk b=>?_,?_⟩
 .rw[bN,bN,bN,bN,bN,if_neg (by rw[a];exact λe=>b e.symm)];grind
 .rw[bN,bN] at n ⊢;rw[bN,bN,bN];constructor<;>intro z<;>grind
theorem K3{us:ah}{a:List (Str×Rat)}{b:Str}{c:Rat}{r v w:Int}:Eqv us [(a,b,c,r,v+w)] [(a,b,c,r,v),(a,b,c,r,w)]:=λx=>by
 have d:∀k,bN us k x [(a,b,c,r,v+w)]=bN us k x [(a,b,c,r,v),(a,b,c,r,w)]:=λk=>by
  rw[bN,bN,bN,bN,bN];have e:gH us (a,b,c,r,v+w) x=gH us (a,b,c,r,v) x:=rfl;have f:gH us (a,b,c,r,w) x=gH us (a,b,c,r,v) x:=rfl;rw[e,f];dsimp only;split
  .rw[Rat.intCast_add];grind
  .grind
 exact⟨λk _=>d k,by rw[d 0]⟩
def jf(k:Str):Str:=if k="least" then "most" else if k="most" then "least" else k
def lA(c:Rat)(o:bW):bW:=(o.1.map λp=>(p.1,p.2*c),if c<0 then jf o.2.1 else o.2.1,o.2.2.1*c,o.2.2.2.1,o.2.2.2.2)
theorem DH(c:Rat)(u:Str):∀m:List (Str×Rat),(cF (m.map λp=>(p.1,p.2*c)) u).getD 0=(cF m u).getD 0*c
 |[]=>by show (0:Rat)=0 * c;grind
 |p::m=>by
  by_cases e:p.1=u
  .rw[map_cons,n0 (p:=(p.1,p.2*c)) e,n0 (p:=p) e];rfl
  .have h1:cF ((p::m).map λp=>(p.1,p.2*c)) u=cF (m.map λp=>(p.1,p.2*c)) u:=by simp[cF,e]
   have a:cF (p::m) u=cF m u:=by simp[cF,e]
   rw[h1,a];exact DH c u m
theorem Ei(c:Rat)(x:Nat->Rat):∀cs:aC,∀y:Nat->Rat,dot (cs.map (·*c)) y=dot cs y*c
 |[],_=>by rw[map_nil,dot];grind
 |a::cs,y=>by rw[map_cons,dot,dot,Ei c x cs];grind
theorem LI(us:ah)(c:Rat)(o:bW)(x:Nat->Rat):gH us (lA c o) x=gH us o x*c:=by
 unfold gH;have e:g0 us (lA c o)=(g0 us o).map (·*c):=by
  unfold g0;rw[map_map];exact map_congr_left λu _=>DH c u o.1
 rw[e,Ei c x];show _ - o.2.2.1*c=_
 grind
theorem B3(k:Str)(d:Rat):i4 k d=0↔(k="least"->0<=d)/\(k="most"->d<=0)/\(k≠"least"->k≠"most"->d=0):=by
 unfold i4;have ne:¬ ("most":Str)="least":=∎
 by_cases a:k="least"
 .rw[if_pos a];have b:¬ k="most":=λe=>ne (e.symm.trans a)
  split<;>grind
 .rw[if_neg a];by_cases b:k="most"
  .rw[if_pos b];split<;>grind
  .rw[if_neg b];split<;>grind
theorem Rr(k:Str)(d:Rat){c:Rat}(i:c≠0):i4 (if c<0 then jf k else k) (d*c)=0↔i4 k d=0:=by
 rw[B3,B3];have ne:¬ ("most":Str)="least":=∎
 have m:¬ ("least":Str)="most":=∎
 by_cases hn:c<0
 .rw[if_pos hn];have b:0<=d*c↔d<=0:=by
   constructor
   .intro h;refine Rat.not_lt.mp λg=>?_
    have:=Rat.mul_pos g (show 0 < -c by grind)
    grind
   .intro h;have:=Rat.mul_nonneg (show 0<=-d by grind) (show 0<=-c by grind)
    grind
  have e:d*c<=0↔0<=d:=by
   constructor
   .intro h;refine Rat.not_lt.mp λg=>?_
    have:=Rat.mul_pos (show 0 < -d by grind) (show 0 < -c by grind)
    grind
   .intro h;have:=Rat.mul_nonneg h (show 0<=-c by grind)
    grind
  have f:d*c=0↔d=0:=⟨λh=>(Rat.mul_eq_zero.mp h).resolve_right i,λh=>by rw[h];grind⟩
  unfold jf;rw[b,e,f];by_cases j:k="least"
  .rw[if_pos j];grind
  .rw[if_neg j];by_cases l:k="most"
   .rw[if_pos l];grind
   .rw[if_neg l];grind
 .rw[if_neg hn];have a:0<c:=by grind
  have b:0<=d*c↔0<=d:=by
   constructor
   .intro h;refine Rat.not_lt.mp λg=>?_
    have:=Rat.mul_pos (show 0 < -d by grind) a
    grind
   .intro h;exact Rat.mul_nonneg h (Rat.le_of_lt a)
  have e:d*c<=0↔d<=0:=by
   constructor
   .intro h;refine Rat.not_lt.mp λg=>?_
    have:=Rat.mul_pos g a
    grind
   .intro h;have:=Rat.mul_nonneg (show 0<=-d by grind) (Rat.le_of_lt a)
    grind
  have f:d*c=0↔d=0:=⟨λh=>(Rat.mul_eq_zero.mp h).resolve_right i,λh=>by rw[h];grind⟩
  rw[b,e,f]
theorem SR{us:ah}{o:bW}{c:Rat}(b:o.2.2.2.1=0)(g:0<o.2.2.2.2)(f:c≠0):Eqv us [o] [lA c o]:=λx=>by
 have a:(o.2.2.2.2:Rat)≠0:=Rat.ne_of_gt (Rat.intCast_pos.mpr g);refine⟨λk d=>?_,?_⟩
 .rw[bN,bN,bN,bN,if_neg (by rw[b];exact λe=>d e.symm),if_neg (by show ¬ o.2.2.2.1=k;rw[b];exact λe=>d e.symm)]
 .rw[bN,bN,bN,bN,if_pos b,if_pos (show (lA c o).2.2.2.1=0 from b),Rat.add_zero,Rat.add_zero,LI,Rat.mul_eq_zero,Rat.mul_eq_zero];have e:=Rr o.2.1 (gH us o x) f;constructor
  .intro z;exact .inr (e.mpr (z.resolve_left a))
  .intro z;exact .inr (e.mp (z.resolve_left a))
def DD(us:ah):List (Int ⊕ (Str×Nat)):=([0,1,2,3,4]:aI).map Sum.inl++us.zipIdx.map Sum.inr
theorem AH(us:ah):∀d∈DD us,oD us d:=by
 intro d m;rcases mem_append.mp m with m |m
 .obtain⟨k,_,rfl⟩:=mem_map.mp m;exact True.intro
 .obtain⟨p,mp,rfl⟩:=mem_map.mp m;have:=List.mem_zipIdx_iff_getElem?.mp mp;exact this
theorem JJ(rs:av)(us:ah):nj rs us us=(DD us).map (jU rs us):=by
 unfold nj DD;rw[map_append,map_map,map_map];congr 1;apply ext_getElem?;intro i;rw[getElem?_map,getElem?_map,getElem?_zipIdx];cases us[i]?<;>rfl
def iZ(rs:av)(us:ah)(x:Nat->Rat):aC:=(DD us).map (o6 rs us x)
theorem qm(rs:av)(us:ah)(x:Nat->Rat):iZ rs us x=bN us 0 x rs::(([1,2,3,4]:aI).map λk=>bN us k x rs)++us.zipIdx.map λp=>x p.2:=by
 unfold iZ DD;rw[map_append,map_map,map_map];rfl
theorem F6{us:ah}{rs a:av}(E:Eqv us rs a){x:Nat->Rat}(h:bN us 0 x rs=0):iZ rs us x=iZ a us x:=by
 rw[qm,qm,h,(E x).2.mp h];congr 2;exact map_congr_left λk mk=>(E x).1 k (by rintro rfl;exact absurd mk ∎)
theorem HI(rs a:av)(us:ah)(x y:Nat->Rat):(iZ rs us x).length=(iZ a us y).length:=by unfold iZ;rw[length_map,length_map]
theorem Kt{rs d:av}{us:ah}{x y:Nat->Rat}(h:iZ rs us x=iZ d us y){i:Nat}(b:i<us.length):x i=y i:=by
 rw[qm,qm] at h;have a:=(List.append_inj h (by simp)).2;have:=congrArg (λl=>l[i]?) a;rw[getElem?_map,getElem?_map,getElem?_zipIdx,getElem?_eq_getElem b] at this;simpa using this
structure qN(rs:av)(us:ah)(S:Nat->Nat)(gs:List (aC×dF)):Prop where
 n:∀k,k<us.length->0<=fV rs.length (bh rs us) (Mx rs us) S k
 v:gs.map dB=iZ rs us (fV rs.length (bh rs us) (Mx rs us) S)
 z:bN us 0 (fV rs.length (bh rs us) (Mx rs us) S) rs=0
 l:∀y:Nat->Rat,(∀k,k<us.length->0<=y k)->kq (iZ rs us (fV rs.length (bh rs us) (Mx rs us) S)) (iZ rs us y)
theorem Vo{z:Nat}{rs:av}{us:ah}{a:List (aC×dF)}{ss:bq}{S:Nat->Nat}{mk:aT}(f:gR z rs us a ss S mk)(d:a.map (·.1)=nj rs us us)(h:∀p,a[0]?=some p->p.2.2.1=0)(nd:us.Nodup)(i:Wn rs):qN rs us S a:=by
 rw[JJ] at d;let⟨g,b⟩:=best f d (AH us) nd i;refine⟨g,b,?_,λy j=>?_⟩
 .have e:(a.map dB)[0]?=(iZ rs us (fV rs.length (bh rs us) (Mx rs us) S))[0]?:=by rw[b];rfl
  rw[qm,getElem?_map] at e;cases q:a[0]? with
  |none=>rw[q] at e;cases e
  |some p=>
   rw[q] at e;have e:dB p=_:=Option.some.inj e;rw[<- e];unfold dB;rw[h p q,Rat.zero_divInt]
 .have:=uY f d (AH us) nd j;rw[b] at this;exact this
theorem P6{z:Nat}{rs:av}{us:ah}{p:aC×dF}{ss:bq}{S:Nat->Nat}{mk:aT}(a:gR z rs us [p] ss S mk)(e:p.1=cW us rs 0)(f:p.2.2.1≠0)(nd:us.Nodup)(h:Wn rs){y:Nat->Rat}(i:∀k,k<us.length->0<=y k):bN us 0 y rs≠0:=by
 have g:[p].map (·.1)=[Sum.inl (0:Int)].map (jU rs us):=congrArg (·::[]) e;have hd:∀d∈[(Sum.inl (0:Int):Int ⊕ (Str×Nat))],oD us d:=λd m=>by rw[mem_singleton.mp m];exact True.intro
 let⟨_,b⟩:=best a g hd nd h;have l:=uY a g hd nd i;have b:dB p=bN us 0 _ rs:=(List.cons.inj b).1;have n:=m8 (us:=us) (k:=0) (x:=fV rs.length (bh rs us) (Mx rs us) S) h;rw[<- b] at n;have v:=v7 (a.c p (.head _)).2;have j:dB p≠0:=λz=>by
  rw[z,Rat.zero_mul] at v;exact f (Rat.intCast_eq_zero_iff.mp v.1.symm)
 intro z;have l:dB p<bN us 0 y rs\/(dB p=bN us 0 y rs/\_):=l;rw[z] at l;rcases l with l |⟨l,_⟩
 .grind
 .exact j l
theorem N1{rs b:av}{us:ah}{S R:Nat->Nat}{a hs:List (aC×dF)}(E:Eqv us rs b)(A:qN rs us S a)(B:qN b us R hs):fF rs us S=fF b us R/\ff us a=ff us hs:=by
 have g:=F6 E A.z;have h:=F6 E.symm B.z;have d:=A.l _ B.n;have f:=B.l _ A.n;rw[<- h] at d;rw[<- g] at f;have e:=za _ _ (HI _ _ _ _ _) d f;constructor
 .unfold fF;refine map_congr_left λp j=>?_
  unfold nP;have i:=List.mem_zipIdx_iff_getElem?.mp j;rw[Kt e (List.getElem?_eq_some_iff.mp i).1]
 .unfold ff;have:a.tail.map dB=hs.tail.map dB:=by
   rw[show a.tail.map dB=(a.map dB).tail by cases a<;>rfl,show hs.tail.map dB=(hs.map dB).tail by cases hs<;>rfl,A.v,B.v,e]
  rw[this]
theorem u1(a:Int){b:Int}(f:0<b):(Rat.divInt a b).num.natAbs<=a.natAbs:=by
 by_cases e:a=0
 .subst e;rw[Rat.zero_divInt];exact zero_le _
 .have d:(Rat.divInt a b).num ∣ a:=by
   rw[Rat.num_divInt a b,Int.sign_eq_one_of_pos f,one_mul];exact Int.ediv_dvd_of_dvd (Int.gcd_dvd_right ..)
  exact le_of_dvd ⋯ (Int.natAbs_dvd_natAbs.mpr d)
theorem E9(a:Int){b:Int}(d:0<b):((Rat.divInt a b).den:Int)<=b:=Int.le_of_dvd d (rZ a d)
theorem WD{r:Int}{Q:az}(b:0<=r)(d:r<3)(q:∀k:Str,(k="least"\/k="most"\/k="just")->Q (.str k)):oQ (cX [.str (Str.ofString "least"),.str (Str.ofString "most"),.str (Str.ofString "just")] r) Q:=by
 refine vK b d λx a=>?_
 rcases mem_cons.mp a with rfl |a
 .exact q _ (.inl rfl)
 rcases mem_cons.mp a with rfl |a
 .exact q _ (.inr (.inl rfl))
 rcases mem_cons.mp a with rfl |a
 .exact q _ (.inr (.inr rfl))
 cases a
theorem f7{A B:cc}(J:aW)(a:∀N:aW,(∀j,J j->N j)->A { D with nx:=N } j)(b:∀j,J j->B D j):sS A B D j:=a (B D) b
theorem z9{n:Nat}(a:0<n)(h:n<=3):n ∣ 30:=by
 rcases (by omega:n=1\/n=2\/n=3) with rfl |rfl |rfl<;>decide
theorem UP:uO 10 5:=⟨∎,∎,∎⟩
structure R4(us:ah)(o:bW):Prop where
 p:∀p∈o.1,p.1∈us/\p.2≠0/\p.2.num.natAbs<=9/\p.2.den ∣ 30
 d:(o.1.map (·.1)).Nodup
 k:o.2.1="least"\/o.2.1="most"\/o.2.1="just"
 n:o.2.2.1.num.natAbs<=75/\o.2.2.1.den ∣ 30
 r:0<=o.2.2.2.1/\o.2.2.2.1<=4
 w:1<=o.2.2.2.2/\o.2.2.2.2<=10 ^ 5
 l:o.1.length<=4
theorem eT{m:List (Str×Rat)}{u:Str}{a:Rat}(h:u ∉ m.map (·.1)):m6 m u a=m++[(u,a)]:=by
 unfold m6;rw[if_neg];intro e;let⟨p,d,b⟩:=any_eq_true.mp e;exact h (mem_map.mpr ⟨p,d,of_decide_eq_true b⟩)
def TQ:bQ:=cY 3 λa Q=>∃(f:Fl)(c b:Int)(us:ah)(_:Fp f),a=[.int c,.ag f ↥us,.int b]/\us.Nodup/\us.length<=4/\(b=1\/b=3)/\∀o:bW,R4 us o->(∀p∈o.1,p.2.num.natAbs<=3/\p.2.den<=3)->o.2.2.1.num.natAbs<=25->o.2.2.1.den<=3->Q (ae.t o)
theorem Oq(T:Tx w K mg){z:Bool}:aJ P w K mg base bM 3 T.sF.a T.sF.d ["_law_cell","_law_some","_law_bottoms"] (bR K z 0 3 TQ):=by
 refine cg T.sF.F VL rfl ∎ λa7 A outer s H E hr hu D=>?_
 refine⟨_,(aQ (gc 3 nV)
  (aQ (fM (l7 T.k6 (ar (qv 1) aH)) (h9 (n:=2) rfl (dE (cS 4) (dE (cS 5) hJ))) (aQ (bJ 6 (qc T.my (uQ T) (ar (aX (eH (ar aA (ar (gA aA) (ar aA (ar aA (ar (gA aA) aH)))))) (eE (qc T.iQ (jt T) (ar (qv 0) (ar (d8 (qv 4) aA) aH))) aA)) (ar (d8 aA (eE (qc T.iQ (jt T) (ar (qv 0) (ar (d8 (qv 4) aA) aH))) (qv 2))) aH))))
  (aY (c6 (b5 fX fU (eE (qc T.iQ (jt T) (ar (qv 0) (ar (d8 (qv 4) aA) aH))) aA) aA) (aY (pA (cI 3) (qv 5) (qv 6))) cZ))))
  (aQ (bJ 7 (aX (eH (ar gE (ar gE (ar gE aH)))) (eE (qc T.iQ (jt T) (ar (qv 0) (ar aA aH))) aA)))
  (aQ (bJ 8 (aX (eH (ar aA (ar aA (ar aA (ar aA (ar aA (ar aA (ar aA aH)))))))) (eE (qc T.iQ (jt T) (ar (qv 0) (ar aA aH))) aA)))
  (aQ (bJ 9 aA)
  (aQ (c6 (b5 kJ kE (qv 8) aA) (aY (bJ 9 (d8 aA (eE (qc T.iQ (jt T) (ar (qv 0) (ar aA aH))) (aX (eH (ar aA (ar aA (ar (AL aA aA) aH)))) (eE (qc T.iQ (jt T) (ar (qv 0) (ar aA aH))) aA)))))) cZ)
  (oX 3 (aY (b8 (gp (ar (qv 3) (ar (qv 7) (ar (qc T.my (uQ T) (ar (mr (eE (qc T.iQ (jt T) (ar (qv 0) (ar aA aH))) aA) aA) (ar (d8 aA (eE (qc T.iQ (jt T) (ar (qv 0) (ar aA aH))) (qv 2))) aH))) (ar (qv 8) (ar (qv 9) aH))))))))))))))),?_⟩
 rintro xs Q' _ ⟨_,f,c,b,us,_,rfl,O,δ,hb,q⟩;refine f7 (λj=>j=[.int c,.ag f ↥us,.int b,.aO .o [],.ax,.ax,.ax,.ax,.ax,.ax]) (λN D=>?_) ?_
 .rfl';exact⟨rfl,D _ rfl⟩
 rintro _ rfl;refine f7 (λj=>∃(g:List (Str×Rat))(x y v:Tr),j=[.int c,.ag f ↥us,.int b,.aO .o (g.map λp=>((Sum.inr p.1:aS),ae.t p.2)),x,y,v,.ax,.ax,.ax]/\(∀p∈g,p.1∈us/\p.2≠0/\p.2.num.natAbs<=3/\p.2.den<=3)/\(g.map (·.1)).Nodup/\g.length<=4) (λN D=>?_) ?_
 .rfl';refine Loop.map us.zipIdx _ (λi j=>∃(g:List (Str×Rat))(x y v:Tr),j=[.int c,.ag f ↥us,.int b,.aO .o (g.map λp=>((Sum.inr p.1:aS),ae.t p.2)),x,y,v,.ax,.ax,.ax]/\(∀p∈g,p.1∈us.take i/\p.2≠0/\p.2.num.natAbs<=3/\p.2.den<=3)/\(g.map (·.1)).Nodup/\g.length<=i) ⟨[],_,_,_,rfl,λ_ m=>(nomatch m),nodup_nil,le_refl 0⟩ ?_ ?_
  .rintro i ⟨u,i'⟩ j hi ⟨g,x,y,v,rfl,h,hd,C⟩;let⟨J,ei⟩:=lg hi;dsimp only at J ei;subst ei;have β:=(List.getElem?_eq_some_iff.mp J).1;walk_at "q";refine⟨rfl,c,_,rfl,⋯,⋯,λr1 _=>?_⟩;walk_at "q";refine⟨∎,qr (ns:=[1,-1,1,2,-3]) (emod_nonneg _ ∎) (emod_lt_of_pos _ ∎) λs hs=>?_⟩;have γ:s≠0/\s.natAbs<=3:=by
    have A:∀n:Int,n∈[(1:Int),-1,1,2,-3]->n≠0/\n.natAbs<=3:=∎
    exact A s hs
   walk_at "q";refine⟨rfl,c,_,rfl,⋯,⋯,λr2 _=>?_⟩;have l:0<b:=⋯
   have g3:=emod_nonneg r2 (show b≠0 by omega);have L:=emod_lt_of_pos r2 l;walk_at "q";refine⟨l,rfl,_,_,rfl,⋯,le_trans (fL (k:=8) ⋯) ∎,λ_=>⟨gx _,?_⟩⟩;rw[ie];have t1:=u1 s (show 0<1+r2 % b by omega);have t2:=E9 s (show 0<1+r2 % b by omega);have t3:Rat.divInt s (1+r2 % b)≠0:=λe=>by
    rw[<- Rat.zero_divInt 1] at e;have:=(Rat.divInt_eq_divInt_iff (show 1+r2 % b≠0 by omega) ∎).mp e;omega
   generalize Rat.divInt s (1+r2 % b)=nu at t1 t2 t3;rfl';refine⟨rfl,c,_,rfl,⋯,⋯,λr3 _=>?_⟩;rfl';have U:us.take (i'+1)=us.take i'++[u]:=uR J;have hn:u ∉ g.map (·.1):=λm=>by
    let⟨p,r,e⟩:=mem_map.mp m;exact yX O J (e ▸ (h p r).1)
   refine⟨∎,?_⟩;split
   .rw[eT hn];refine⟨⋯,g++[(u,nu)],_,_,_,rfl,λp r=>?_,?_,by rw[length_append,List.length_singleton];omega⟩
    .rcases mem_append.mp r with r |r
     .rw[U];exact⟨mem_append.mpr (.inl (h p r).1),(h p r).2⟩
     .rw[mem_singleton.mp r,U];exact⟨mem_append.mpr (.inr (.head _)),t3,(by omega:nu.num.natAbs<=3),(by omega:nu.den<=3)⟩
    .rw[map_append];refine nodup_append.mpr ⟨hd,nodup_cons.mpr ⟨λm=>(nomatch m),nodup_nil⟩,λa ma b' mb e=>?_⟩;rw[mem_singleton.mp mb] at e;have e:a=u:=e;subst e;exact hn ma
   .exact⟨g,_,_,_,rfl,λp r=>⟨by rw[U];exact mem_append.mpr (.inl (h p r).1),(h p r).2⟩,hd,⋯⟩
  .rintro j ⟨g,x,y,v,rfl,h,hd,C⟩;rw[length_zipIdx] at C;exact D _ ⟨g,x,y,v,rfl,λp m=>⟨List.mem_of_mem_take (h p m).1,(h p m).2⟩,hd,⋯⟩
 rintro _ ⟨g,x,y,v,rfl,h,hd,C⟩;walk_at "q";refine⟨rfl,c,_,rfl,∎,∎,λr7 _=>?_⟩;walk_at "q";refine⟨∎,WD (emod_nonneg _ ∎) (emod_lt_of_pos _ ∎) λk hk=>?_⟩;walk_at "q";refine⟨rfl,c,_,rfl,∎,∎,λr8 _=>?_⟩;walk_at "q";refine⟨∎,qr (ns:=[0,0,1,2,2,3,4]) (emod_nonneg _ ∎) (emod_lt_of_pos _ ∎) λI Q=>?_⟩;have M:0<=I/\I<=4:=by
  have A:∀n:Int,n∈[(0:Int),0,1,2,2,3,4]->0<=n/\n<=4:=∎
  exact A I Q
 walk_at "q";refine w9 (λj=>∃B:Int,j=[.int c,.ag f ↥us,.int b,.aO .o (g.map λp=>((Sum.inr p.1:aS),ae.t p.2)),x,y,v,.str k,.int I,.int B]/\1<=B/\B<=10 ^ 5) (λN D=>?_) ?_
 .rfl';split
  .refine⟨rfl,c,_,rfl,∎,∎,λr9 _=>⟨UP,?_⟩⟩;refine⟨rfl,c,_,rfl,∎,∎,λε _=>?_⟩;rfl';refine⟨∎,qr (ns:=[1,9,10 ^ Int.toNat 5]) (emod_nonneg _ ∎) (emod_lt_of_pos _ ∎) λB Y=>?_⟩;have G:0<B/\B<=10 ^ 5:=by
    have A:∀n:Int,n∈[(1:Int),9,10 ^ Int.toNat 5]->0<n/\n<=10 ^ 5:=∎
    exact A B Y
   have y0:=emod_nonneg r9 (show B≠0 by omega);have y1:=emod_lt_of_pos r9 G.1;rfl';exact⟨G.1,D _ ⟨_,rfl,⋯,⋯⟩⟩
  .exact D _ ⟨1,rfl,∎,∎⟩
 rintro _ ⟨B,rfl,w0,w1⟩;walk_at "q";have l:0<b:=⋯
 refine⟨rfl,c,_,rfl,∎,∎,λr3 _=>?_⟩;have g7:=emod_nonneg r3 (show (25:Int)≠0 by decide);have α:=emod_lt_of_pos r3 (show (0:Int)<25 by decide);walk_at "q";refine⟨∎,rfl,c,_,rfl,∎,∎,λr4 _=>?_⟩;have g3:=emod_nonneg r4 (show b≠0 by omega);have L:=emod_lt_of_pos r4 l;walk_at "q";refine⟨l,rfl,_,_,rfl,⋯,le_trans (fL (k:=8) ⋯) ∎,λ_=>?_⟩;have t1:=u1 (r3 % 25 - 4) (show 0<1+r4 % b by omega);have t2:=E9 (r3 % 25 - 4) (show 0<1+r4 % b by omega);generalize Rat.divInt (r3 % 25 - 4) (1+r4 % b)=nu at t1 t2;have ck:=cu _ (o7 g);have dp:=nu.den_pos;rw[show dD (g.map λp=>((Sum.inr p.1:aS),ae.t p.2))=g.map λp=>((Sum.inr p.1:aS),ae.t p.2) from ck.f];refine⟨?_,q (g,k,nu,I,B) ⟨λp m=>⟨(h p m).1,(h p m).2.1,le_trans (h p m).2.2.1 ∎,z9 p.2.den_pos (h p m).2.2.2⟩,hd,hk,⟨(by omega:nu.num.natAbs<=75),z9 dp (by omega:nu.den<=3)⟩,M,⟨w0,w1⟩,C⟩ (λp m=>(h p m).2.2) (by omega:nu.num.natAbs<=25) (by omega:nu.den<=3) _⟩;rw[show b9 (Tr.aO Fl.f (g.map λp=>((Sum.inr p.1:aS),ae.t p.2)))=true from ck.o,gi];rfl
structure R3(us:ah)(o:bW):Prop where
 r:R4 us o
 p:∀p∈o.1,p.2.num.natAbs<=3/\p.2.den<=3
 n:o.2.2.1.num.natAbs<=25/\o.2.2.1.den<=3
def Tb(t b:Int):Prop:=(t=2/\b=1)\/(t=-3/\b=1)\/(t=1/\b=5)
theorem xE(p:Rat){t b:Int}(a:b≠0):Rat.divInt (p.num*t) ((p.den:Int)*b)=p*Rat.divInt t b:=by
 rw[<- Rat.divInt_mul_divInt,Rat.num_divInt_den]
theorem Tb.ok{t b:Int}(h:Tb t b):0<b/\b<=5/\t≠0/\t.natAbs<=3:=by
 rcases h with⟨rfl,rfl⟩ |⟨rfl,rfl⟩ |⟨rfl,rfl⟩<;>decide
theorem Tb.neg{t b:Int}(h:Tb t b):Rat.divInt t b<0↔t<0:=by
 rcases h with⟨rfl,rfl⟩ |⟨rfl,rfl⟩ |⟨rfl,rfl⟩<;>decide +kernel
def Hx:bQ:=cY 3 λa Q=>∃(o:bW)(us:ah)(t b:Int),a=[ae.t o,.int t,.int b]/\R3 us o/\Tb t b/\Q (ae.t (lA (Rat.divInt t b) o))
theorem WJ(T:Tx w K mg):aJ P w K mg base bM 3 T.uL.a T.uL.d ["_law_one","_law_top","_law_bottom"] (bR K true 0 3 Hx):=by
 refine cg T.uL.F UQ rfl ∎ λa7 A outer s H E hr hu e=>?_
 refine⟨_,(aQ (gc 3 nV)
  (aQ (An (aX (qv 0) aA) (h9 (n:=2) rfl (dE (cS 4) (dE (cS 5) hJ))) (aY (pA (cI 3) (qv 4) (qc T.my (uQ T) (ar (dh (aX (qv 5) aA) (qv 1)) (ar (dh (aX (qv 5) aA) (qv 2)) aH))))))
  (aQ (bJ 6 (aX (qv 0) aA))
  (aQ (c6 (QW.t (kZ (b5 lj lz (qv 1) aA) (ng (b5 jW j7 (qv 6) gE)))) (aY (bJ 6 (aX (eH (ar gE (ar gE aH))) (i3 Kc M8 T.HX (ar (mI fX fU (qv 6) gE) aH))))) cZ)
  (oX 3 (aY (b8 (gp (ar (qv 3) (ar (qv 6) (ar (qc T.my (uQ T) (ar (dh (aX (aX (qv 0) aA) aA) (qv 1)) (ar (dh (aX (aX (qv 0) aA) aA) (qv 2)) aH))) (ar (aX (qv 0) aA) (ar (aX (qv 0) aA) aH))))))))))))),?_⟩
 rintro xs Q' _ ⟨_,o,us,t,b,rfl,v,z,q⟩;let⟨g,O,Y,α⟩:=z.ok;refine f7 (λj=>j=[ae.t o,.int t,.int b,.aO .o [],.ax,.ax,.ax]) (λN e=>?_) ?_
 .rfl';exact⟨rfl,e _ rfl⟩
 rintro _ rfl;refine f7 (λj=>∃x y:Tr,j=[ae.t o,.int t,.int b,.aO .o ((o.1.map λp=>(p.1,p.2*Rat.divInt t b)).map λp=>((Sum.inr p.1:aS),ae.t p.2)),x,y,.ax]) (λN e=>?_) ?_
 .rfl';refine iK.map o.1 (λi j=>∃x y:Tr,j=[ae.t o,.int t,.int b,.aO .o (((o.1.take i).map λp=>(p.1,p.2*Rat.divInt t b)).map λp=>((Sum.inr p.1:aS),ae.t p.2)),x,y,.ax]) ⟨_,_,rfl⟩ ?_ ?_
  .rintro i u p j hi ⟨x,y,rfl⟩;let⟨p1,p2⟩:=v.p _ (mem_of_getElem? hi);dsimp only at p1 p2;have B:bi p.num<=8:=fL ⋯;have C:bi (p.den:Int)<=8:=fL (by rw[natAbs_natCast];omega);have D:bi t<=8:=fL ⋯;have G:bi b<=8:=fL ⋯;have M:=gu (p.den:Int) b;have h:(0:Int)<(p.den:Int)*b:=mul_pos (natCast_pos.mpr p.den_pos) g;have hn:u ∉ ((o.1.take i).map λp=>(p.1,p.2*Rat.divInt t b)).map (·.1):=λm=>by
    rw[map_map] at m;refine yX v.r.d (i:=i) (u:=u) (by rw[getElem?_map,hi];rfl) ?_;rw[<- List.map_take];exact m
   have U:=v.r.l;rfl';refine⟨eJ B D ∎,eJ C G ∎,rfl,_,_,rfl,h,⋯,λ_=>⟨gx _,by rw[length_take];omega,?_⟩⟩;rw[ie,CG,xE p (ne_of_gt g),eT hn,uR hi,show ((o.1.take i++[(u,p)]).map λp=>(p.1,p.2*Rat.divInt t b))=((o.1.take i).map λp=>(p.1,p.2*Rat.divInt t b))++[(u,p*Rat.divInt t b)] by rw[map_append];rfl];exact⟨_,_,rfl⟩
  .rintro j ⟨x,y,rfl⟩;rw[take_length];exact e _ ⟨_,_,rfl⟩
 rintro _ ⟨x,y,rfl⟩;walk_at "q";refine w9 (λj=>j=[ae.t o,.int t,.int b,.aO .o ((o.1.map λp=>(p.1,p.2*Rat.divInt t b)).map λp=>((Sum.inr p.1:aS),ae.t p.2)),x,y,.str (if Rat.divInt t b<0 then jf o.2.1 else o.2.1)]) (λN e=>?_) ?_
 .rfl';rw[show (if Rat.divInt t b<0 then jf o.2.1 else o.2.1)=if t<0 then jf o.2.1 else o.2.1 by simp only[z.neg]] at e;unfold jf at e;have ne:¬ ("most":Str)="least":=∎
  have I:¬ ("just":Str)="least":=∎
  have J:¬ ("just":Str)="most":=∎
  by_cases hn:t<0
  .rw[if_pos hn] at e;rw[if_pos (decide_eq_true hn)];rcases v.r.k with k |k |k<;>rw[k] at e ⊢
   .rw[if_pos rfl] at e;exact⟨rfl,e _ rfl⟩
   .rw[if_neg ne,if_pos rfl] at e;exact⟨rfl,e _ rfl⟩
   .rw[if_neg I,if_neg J] at e;exact e _ rfl
  .rw[if_neg hn] at e;rw[if_neg (by simpa using hn)];exact e _ rfl
 rintro _ rfl;generalize Q:(if Rat.divInt t b<0 then jf o.2.1 else o.2.1)=kd;let⟨n1,n2⟩:=v.n;have B:bi o.2.2.1.num<=8:=fL ⋯;have C:bi (o.2.2.1.den:Int)<=8:=fL (by rw[natAbs_natCast];omega);have D:bi t<=8:=fL ⋯;have G:bi b<=8:=fL ⋯;have M:=gu (o.2.2.1.den:Int) b;have h:(0:Int)<(o.2.2.1.den:Int)*b:=mul_pos (natCast_pos.mpr o.2.2.1.den_pos) g;have L:=cu _ (o7 (o.1.map λp=>(p.1,p.2*Rat.divInt t b)));rfl';refine⟨eJ B D ∎,eJ C G ∎,rfl,_,_,rfl,h,⋯,λ_=>?_⟩;rw[xE _ (ne_of_gt g),show dD ((o.1.map λp=>(p.1,p.2*Rat.divInt t b)).map λp=>((Sum.inr p.1:aS),ae.t p.2))=_ from L.f];unfold lA at q;rw[Q] at q;refine⟨?_,q _⟩;rw[show b9 (Tr.aO Fl.f ((o.1.map λp=>(p.1,p.2*Rat.divInt t b)).map λp=>((Sum.inr p.1:aS),ae.t p.2)))=true from L.o,gi];rfl
theorem Su{us:ah}{o:bW}{t b:Int}(h:R3 us o)(tb:Tb t b):R4 us (lA (Rat.divInt t b) o):=by
 let⟨a,A,B,i⟩:=tb.ok;have g:b=1\/b=5:=by rcases tb with⟨_,h⟩ |⟨_,h⟩ |⟨_,h⟩<;>omega
 have f:∀(p:Rat)(x:Nat),p.num.natAbs<=x->p.den<=3->(p*Rat.divInt t b).num.natAbs<=x*3/\(p*Rat.divInt t b).den ∣ 30:=λp x z E=>by
  have dp:=p.den_pos;have hd:(0:Int)<(p.den:Int)*b:=mul_pos (natCast_pos.mpr dp) a;rw[<- xE p (ne_of_gt a)];refine⟨le_trans (u1 _ hd) (by rw[natAbs_mul];exact mul_le_mul z i),?_⟩;have v:=rZ (p.num*t) hd;have y:(p.den:Int)*b ∣ 30:=by
   rcases (by omega:p.den=1\/p.den=2\/p.den=3) with e |e |e<;>rcases g with rfl |rfl<;>rw[e]<;>decide
  exact Int.natCast_dvd_natCast.mp (dvd_trans v y)
 have u:Rat.divInt t b≠0:=λe=>by
  rw[<- Rat.zero_divInt 1] at e;have:=(Rat.divInt_eq_divInt_iff (ne_of_gt a) ∎).mp e;omega
 refine⟨λp m=>?_,?_,?_,?_,h.r.r,h.r.w,?_⟩
 .obtain⟨q,mq,rfl⟩:=mem_map.mp (show p∈o.1.map λp=>(p.1,p.2*Rat.divInt t b) from m);let⟨j,s⟩:=h.p q mq;let⟨C,D⟩:=f q.2 3 j s;exact⟨(h.r.p q mq).1,λe=>(Rat.mul_eq_zero.mp e).elim (h.r.p q mq).2.1 u,C,D⟩
 .show ((o.1.map λp=>(p.1,p.2*Rat.divInt t b)).map (·.1)).Nodup;rw[map_map];exact h.r.d
 .show (if Rat.divInt t b<0 then jf o.2.1 else o.2.1)=_\/(if Rat.divInt t b<0 then jf o.2.1 else o.2.1)=_\/(if Rat.divInt t b<0 then jf o.2.1 else o.2.1)=_;split
  .unfold jf;rcases h.r.k with k |k |k<;>rw[k]
   .exact .inr (.inl rfl)
   .exact .inl rfl
   .exact .inr (.inr rfl)
  .exact h.r.k
 .exact f o.2.2.1 25 h.n.1 h.n.2
 .show (o.1.map _).length<=4;rw[length_map];exact h.r.l
def O8:bQ:=cY 2 λa Q=>∃(f:Fl)(rs:av)(us:ah)(c:Int)(_:Fp f),a=[.ag f ↥rs,.int c]/\rs.length<=7/\(∀o∈rs,R3 us o)/\∀fs:av,(∀o∈fs,R4 us o)->fs.length<=14->Eqv us rs fs->Q (.ag .o ↥fs)
theorem Qj(T:Tx w K mg):aJ P w K mg base bM 4 T.tQ.a T.tQ.d ["_law_rows","_law_first"] (bR K true 0 2 O8):=by
 refine cg T.tQ.F Mv rfl ∎ λa7 A outer s H E hr hu z=>?_
 refine⟨_,(aQ (gc 2 (eH aH))
  (aQ (fM (l7 T.k6 (ar (qv 0) aH)) (h9 (n:=2) rfl (dE (cS 3) (dE (cS 4) hJ))) (aQ (bJ 5 (qc T.iQ (jt T) (ar (qv 1) (ar (d8 (qv 3) aA) aH))))
  (aQ (c6 (QW.t (kZ (b5 fX fU (aX (qv 4) aA) aA) (ng (b5 fX fU (eE (qv 5) aA) aA)))) (aY (i8 (cI 2) (qv 4))) cZ)
  (aQ (c6 (QW.t (kZ (b5 fX fU (aX (qv 4) aA) aA) (ng (b5 kJ kE (eE (fT (qv 5) aA) aA) aA)))) (aQ (wQ (aX (eH (ar (gp (ar aA (ar aA aH))) (ar (gp (ar (gA aA) (ar aA aH))) (ar (gp (ar aA (ar aA aH))) aH)))) (eE (fT (qv 5) aA) aA)) (h9 (n:=2) rfl (dE (cS 6) (dE (cS 7) hJ))))
  (aY (bJ 4 (qc T.uL (WJ T) (ar (qv 4) (ar (qv 6) (ar (qv 7) aH))))))) cZ)
  (aQ (c6 (QW.t (kZ (b5 kJ kE (aX (qv 4) aA) aA) (kZ (b5 kJ kE (aX (qv 4) aA) aA) (ng (b5 fX fU (eE (qv 5) aA) aA))))) (aQ (i8 (cI 2) (gp (ar (aX (qv 4) aA) (ar (aX (qv 4) aA) (ar (aX (qv 4) aA) (ar (aX (qv 4) aA) (ar (fT (aX (qv 4) aA) aA) aH)))))))
  (aY (bJ 4 (gp (ar (aX (qv 4) aA) (ar (aX (qv 4) aA) (ar (aX (qv 4) aA) (ar (aX (qv 4) aA) (ar (mr (aX (qv 4) aA) (fT (aX (qv 4) aA) aA)) aH))))))))) cZ)
  (aY (i8 (cI 2) (qv 4))))))))
  (aY (kl (kh 2))))),?_⟩
 rintro xs Q' _ ⟨_,f,rs,us,c,_,rfl,hl,h3,q⟩;rfl';refine Loop.map rs.zipIdx _ (λi j=>∃(fs:av)(x y v w r:Tr),j=[.ag f ↥rs,.int c,.ag .o ↥fs,x,y,v,w,r]/\(∀o∈fs,R4 us o)/\fs.length<=2*i/\Eqv us (rs.take i) fs) ⟨[],_,_,_,_,_,rfl,λ_ m=>(nomatch m),le_refl _,Eqv.refl _ _⟩ ?_ ?_
 .rintro i ⟨o,C⟩ j hi ⟨fs,x,y,v,w,r,rfl,hf,hfl,hE⟩;let⟨M,Y⟩:=lg hi;dsimp only at M Y;subst Y;have α:=(List.getElem?_eq_some_iff.mp M).1;have I:=h3 o (mem_of_getElem? M);have ow:=I.r.w;refine⟨rfl,?_⟩;simp only[zE,GC,Be,List.set_cons_succ,List.set_cons_zero];refine f7 (λj=>∃m:Int,j=[.ag f ↥rs,.int c,.ag .o ↥fs,.int (C:Int),ae.t o,.int m,w,r]) (λN z=>?_) ?_
  .rfl';exact⟨rfl,c,_,rfl,⋯,⋯,λm _=>⟨rfl,z _ ⟨m,rfl⟩⟩⟩
  rintro _ ⟨m,rfl⟩;refine f7 (λj=>∃pre:av,j=[.ag f ↥rs,.int c,.ag .o ((fs++pre).map ae.t),.int (C:Int),ae.t o,.int m,w,r]/\(pre=[]\/(pre=[o]/\o.2.2.2.1=0))) (λN z=>?_) ?_
  .rfl';have no:N [.ag f ↥rs,.int c,.ag .o ↥fs,.int (C:Int),ae.t o,.int m,w,r]:=z _ ⟨[],by rw[append_nil],.inl rfl⟩;split
   .next B=>
    refine⟨∎,?_⟩;split
    .exact⟨⋯,z _ ⟨[o],rfl,.inr ⟨rfl,of_decide_eq_true B⟩⟩⟩
    .exact no
   .exact no
  rintro _ ⟨pre,rfl,u⟩;refine f7 (λj=>∃(g:bW)(w r:Tr),j=[.ag f ↥rs,.int c,.ag .o ((fs++pre).map ae.t),.int (C:Int),ae.t g,.int m,w,r]/\R4 us g/\Eqv us [o] (pre++[g])/\(0<g.2.2.2.1->pre=[]/\g=o)) (λN z=>?_) ?_
  .have wo:Wn [o]:=λp h=>by rw[mem_singleton.mp h];omega
   have no:N [.ag f ↥rs,.int c,.ag .o ((fs++pre).map ae.t),.int (C:Int),ae.t o,.int m,w,r]:=by
    refine z _ ⟨o,_,_,rfl,I.r,?_,λQ=>⟨?_,rfl⟩⟩
    .rcases u with rfl |⟨rfl,h0⟩
     .exact Eqv.refl _ _
     .exact zF h0 ⋯
    .rcases u with rfl |⟨_,h0⟩
     .rfl
     .omega
   rfl';split
   .next B=>
    have B:=of_decide_eq_true B;refine⟨⟨∎,i9 ∎⟩,∎,?_⟩;split
    .refine⟨⟨∎,i9 ∎⟩,∎,vK (emod_nonneg _ ∎) (emod_lt_of_pos _ ∎) λx L=>?_⟩;obtain⟨t,b,rfl,tb⟩:∃t b:Int,x=.aF [.int t,.int b]/\Tb t b:=by
      rcases mem_cons.mp L with rfl |L
      .exact⟨_,_,rfl,.inl ⟨rfl,rfl⟩⟩
      rcases mem_cons.mp L with rfl |L
      .exact⟨_,_,rfl,.inr (.inl ⟨rfl,rfl⟩)⟩
      rw[mem_singleton.mp L];exact⟨_,_,rfl,.inr (.inr ⟨rfl,rfl⟩)⟩
     let⟨O,_,γ,_⟩:=tb.ok;have c0:Rat.divInt t b≠0:=λe=>by
      rw[<- Rat.zero_divInt 1] at e;have:=(Rat.divInt_eq_divInt_iff (ne_of_gt O) ∎).mp e;omega
     have rt:=Su I tb;have et:=SR (us:=us) B ⋯ c0;have wt:Wn [lA (Rat.divInt t b) o]:=λp h=>by rw[mem_singleton.mp h];have:=rt.w;omega
     rfl';refine⟨rfl,o,us,t,b,rfl,I,tb,λ_=>⟨gx _,z _ ⟨_,_,_,by rw[ie],rt,?_,λQ=>?_⟩⟩⟩
     .rcases u with rfl |⟨rfl,_⟩
      .exact et
      .exact (zF B ⋯).trans ((Eqv.refl us [o]).app et wo wo wo wt)
     .have Q:0<o.2.2.2.1:=Q;omega
    .exact no
   .exact no
  rintro _ ⟨g,w,r,rfl,r2,e2,z2⟩;have J:(∀p∈pre,R4 us p)/\pre.length<=1:=by
   rcases u with rfl |⟨rfl,_⟩
   .exact⟨λ_ h=>(nomatch h),zero_le _⟩
   .exact⟨λp h=>by rw[mem_singleton.mp h];exact I.r,le_refl _⟩
  refine f7 (λj=>∃(D:av)(G:bW),j=[.ag f ↥rs,.int c,.ag .o ((fs++D).map ae.t),.int (C:Int),ae.t G,.int m,w,r]/\R4 us G/\(∀p∈D,R4 us p)/\D.length<=1/\Eqv us [o] (D++[G])) (λN z=>?_) ?_
  .have no:N [.ag f ↥rs,.int c,.ag .o ((fs++pre).map ae.t),.int (C:Int),ae.t g,.int m,w,r]:=z _ ⟨pre,g,rfl,r2,J.1,J.2,e2⟩;rfl';split
   .next B=>
    split
    .next k1=>
     refine⟨∎,?_⟩;split
     .obtain⟨rfl,rfl⟩:=z2 (of_decide_eq_true B);have k1:=of_decide_eq_true k1;have f2:g.2.2.2.2.fdiv 2=g.2.2.2.2 / 2:=Int.fdiv_eq_ediv_of_nonneg _ ∎;have U:=K3 (us:=us) (a:=g.1) (b:=g.2.1) (c:=g.2.2.1) (r:=g.2.2.2.1) (v:=g.2.2.2.2.fdiv 2) (w:=g.2.2.2.2 - g.2.2.2.2.fdiv 2);rw[show g.2.2.2.2.fdiv 2+(g.2.2.2.2 - g.2.2.2.2.fdiv 2)=g.2.2.2.2 by omega] at U;refine⟨⟨∎,i9 ∎⟩,by rw[append_nil];omega,⟨∎,i9 ∎⟩,z _ ⟨[(g.1,g.2.1,g.2.2.1,g.2.2.2.1,g.2.2.2.2.fdiv 2)],(g.1,g.2.1,g.2.2.1,g.2.2.2.1,g.2.2.2.2 - g.2.2.2.2.fdiv 2),?_,⟨r2.p,r2.d,r2.k,r2.n,r2.r,?_,r2.l⟩,λp h=>?_,le_refl _,U⟩⟩
      .rw[append_nil,map_append];rfl
      .show 1<=g.2.2.2.2 - g.2.2.2.2.fdiv 2/\g.2.2.2.2 - g.2.2.2.2.fdiv 2<=10 ^ 5;omega
      .rw[mem_singleton.mp h];refine⟨r2.p,r2.d,r2.k,r2.n,r2.r,?_,r2.l⟩;show 1<=g.2.2.2.2.fdiv 2/\g.2.2.2.2.fdiv 2<=10 ^ 5;omega
     .exact no
    .exact no
   .exact no
  rintro _ ⟨D,G,rfl,r3,hq,β,e3⟩;rfl';have rq:∀p∈D++[G],R4 us p:=λp h=>by
   rcases mem_append.mp h with h |h
   .exact hq p h
   .rw[mem_singleton.mp h];exact r3
  refine⟨by rw[length_append];omega,fs++D++[G],_,_,_,_,_,rfl,λp h=>?_,?_,?_⟩
  .rw[append_assoc] at h;rcases mem_append.mp h with h |h
   .exact hf p h
   .exact rq p h
  .rw[length_append,length_append,List.length_singleton];omega
  .rw[uR M,append_assoc];exact hE.app e3 (λp h=>by have:=(h3 p (List.mem_of_mem_take h)).r.w;omega) (λp h=>by have:=(hf p h).w;omega) (λp h=>by rw[mem_singleton.mp h];omega) (λp h=>by have:=(rq p h).w;omega)
 .rintro j ⟨fs,x,y,v,w,r,rfl,hf,hfl,hE⟩;rw[length_zipIdx] at hfl hE;rw[take_length] at hE;rfl';exact q fs hf ⋯ hE _
def Rh:bQ:=cY 2 λa Q=>∃(f:Fl)(rs:av)(c:Int)(_:Fp f),a=[.ag f ↥rs,.int c]/\rs.length<=14/\∀fs:av,rs.Perm fs->Q (.ag .o ↥fs)
theorem LG(T:Tx w K mg){z:Bool}:aJ P w K mg base bM 2 T.tU.a T.tU.d ["_law_rows","_law_first"] (bR K z 0 2 Rh):=by
 refine cg T.tU.F Jf rfl ∎ λa7 A outer s H E I J C=>?_
 refine⟨_,(aQ (gc 2 (eH aH))
  (aQ (fM (l7 T.k6 (ar (qv 0) aH)) (h9 (n:=2) rfl (dE (cS 3) (dE (cS 4) hJ))) (aQ (bJ 5 (eE (qc T.iQ (jt T) (ar (qv 1) (ar (d8 (qv 3) aA) aH))) (d8 (fH g6 gZ T.gX (ar (qv 2) aH)) aA)))
  (aY (U9 (cI 2) (qv 5) (qv 4)))))
  (aY (kl (kh 2))))),?_⟩
 rintro L u _ ⟨_,f,rs,c,_,rfl,D,q⟩;rfl';refine Loop.map rs.zipIdx _ (λi G=>∃(fs:av)(x y v:Tr),G=[.ag f ↥rs,.int c,.ag .o ↥fs,x,y,v]/\(rs.take i).Perm fs) ⟨[],_,_,_,rfl,List.Perm.refl _⟩ ?_ ?_
 .rintro i ⟨o,i'⟩ G hi ⟨fs,x,y,v,rfl,hP⟩;let⟨e,g⟩:=lg hi;dsimp only at e g;subst g;have r:=(List.getElem?_eq_some_iff.mp e).1;have b:=hP.length_eq;rw[length_take] at b;rfl';refine⟨rfl,c,_,rfl,⋯,⋯,λm _=>?_⟩;have h:=emod_nonneg m (show ((fs.length:Int)+1)≠0 by omega);have B:=emod_lt_of_pos m (show (0:Int)<(fs.length:Int)+1 by omega);rfl';generalize (m % ((fs.length:Int)+1)).toNat=j;refine⟨⋯,h,⋯,⋯,fs.take j++o::fs.drop j,_,_,_,by rw[map_append,map_cons,List.map_take,List.map_drop],?_⟩;rw[uR e];have l:(rs.take i'++[o]).Perm (o::fs):=(List.perm_append_singleton _ _).trans (hP.cons o);have p:(fs.take j++o::fs.drop j).Perm (o::fs):=by
   have:=List.perm_middle (a:=o) (l₁:=fs.take j) (l₂:=fs.drop j);rwa[List.take_append_drop] at this
  exact l.trans p.symm
 .rintro G ⟨fs,x,y,v,rfl,hP⟩;rw[length_zipIdx,take_length] at hP;rfl';exact q fs hP _
def zD(T:Tx w K mg):bQ:=cY 2 λd Q=>∃(f g:Fl)(rs:av)(us:ah)(N zz:Nat)(_:Fp f)(_:Fp g),d=[.ag f ↥rs,.ag g ↥us]/\Bz N zz rs us/\us.Nodup/\rs.length<=N/\us.length<=8/\zz+(us.length+4)*(zz+1)<=3900/\Wn rs/\
 ((∀y:Nat->Rat,(∀k,k<us.length->0<=y k)->bN us 0 y rs≠0)->Q (.aF [.aM,.bl true]))/\
 (∀(a:List (aC×dF))(S:Nat->Nat)(b:List (aC×aC)),qN rs us S a->Q (.aF [.aF [c7 .f (fF rs us S),ae.t (ff us a),ae.t b],.bl false]))
theorem EV(T:Tx w K mg):aJ P w K mg base bM 12 T.qf.a T.qf.d ["_law_rows","_law_some"] (bR K true 0 2 (zD T)):=by
 refine cg T.qf.F Af rfl ∎ λa7 A outer s H E U Y Q=>?_
 refine⟨_,(aQ (bJ 2 kP)
  (aQ (bJ 3 rE)
  (aQ (Tv (pe:=λq=>tE q _ _) rfl rfl rfl T.Fv (RO (i:=2) ∎) (λpn xe te h=>uG (i:=2) Af.nd rfl (Or.inl rfl) h) (λpn xe R hx q=>(rG T.sW (Kx T) (ar (qv 0) (ar (qv 1) aH)))) (λv=>(aY (bJ 3 rE))))
  (aY (b8 (gp (ar (qv 2) (ar (qv 3) aH)))))))),?_⟩
 rintro xs O _ ⟨_,f,g,rs,us,N,zz,_,_,rfl,C,nd,D,r,I,x,J,M⟩;rfl';refine⟨rfl,f,g,rs,us,N,zz,‹_›,‹_›,rfl,C,nd,D,r,I,λp ss S mk e m n=>⟨T.TC,J (λy G=>P6 m e n nd x G) _⟩,λj ss S mk z B m b _=>?_⟩;have u:=cu _ (o7 (fF rs us S));have cl:=jI _ (rW (fF rs us S));have F:Pu.ay (Tr.aF [.aO .o ((fF rs us S).map λp=>((Sum.inr p.1:aS),ae.t p.2)),ae.t (ff us j),ae.t b])=.aF [c7 .f (fF rs us S),ae.t (ff us j),ae.t b]:=by
  show Tr.aF [Tr.aO .f (dD _),Pu.ay (ae.t (ff us j)),Pu.ay (ae.t b)]=_;rw[u.f,ie,ie];rfl
 have L:aG (Tr.aF [c7 .f (fF rs us S),ae.t (ff us j),ae.t b])=.aF [c7 .f (fF rs us S),ae.t (ff us j),ae.t b]:=by
  show Tr.aF [aG (c7 .f (fF rs us S)),aG (ae.t (ff us j)),aG (ae.t b)]=_;rw[cl.l,lB,lB]
 dsimp only;rw[F,L];refine⟨?_,?_,M j S b (Vo m z B nd x) _⟩
 .show (gF ((fF rs us S).map λp=>((Sum.inr p.1:aS),ae.t p.2))&&(bF (ae.t (ff us j))&&(bF (ae.t b)&&true)))=true;rw[u.t,gx,gx];rfl
 .show ((b9 (c7 .f (fF rs us S))&&(b9 (ae.t (ff us j))&&(b9 (ae.t b)&&true)))&&true)=true;rw[cl.o,gi,gi];rfl
theorem HK{b:Int}{c:Rat}{k x:Nat}(g:0<b)(h:b ∣ ((c.den*k:Nat):Int))(hd:(c.den:Int) ∣ b)(d:0<k)(e:c.num.natAbs<=x):(fo b c).natAbs<=x*k:=by
 have a:(0:Int)<(c.den:Int):=natCast_pos.mpr c.den_pos;let⟨y,rfl⟩:=hd;unfold fo;rw[Int.mul_fdiv_cancel_left y (ne_of_gt a),natAbs_mul];have f:y ∣ (k:Int):=by
  rw[natCast_mul] at h;exact Int.dvd_of_mul_dvd_mul_left (ne_of_gt a) h
 have:y.natAbs<=k:=le_of_dvd d (by have:=Int.natAbs_dvd_natAbs.mpr f;rwa[natAbs_natCast] at this);exact mul_le_mul e this
theorem iM{m:List (Str×Rat)}{u:Str}:(cF m u).getD 0=0\/∃p∈m,(cF m u).getD 0=p.2:=by
 unfold cF;cases e:m.find? λp=>decide (p.1=u) with
 |none=>exact .inl rfl
 |some p=>exact .inr ⟨p,List.mem_of_find?_eq_some e,rfl⟩
theorem FQ{us:ah}{o:bW}(h:R4 us o):kA 12 5 17 us o:=by
 have all:∀c∈cz us o,c.num.natAbs<=75/\c.den ∣ 30:=λc m=>by
  rcases mem_append.mp m with m |m
  .obtain⟨u,_,rfl⟩:=mem_map.mp m;rcases iM (m:=o.1) (u:=u) with e |⟨p,i,e⟩
   .rw[e];exact⟨∎,∎⟩
   .rw[e];exact⟨le_trans (h.p p i).2.2.1 ∎,(h.p p i).2.2.2⟩
  .rw[mem_singleton.mp m];exact h.n
 have dv:∀c∈cz us o,(c.den:Int) ∣ ((30:Nat):Int):=λc m=>Int.natCast_dvd_natCast.mpr (all c m).2
 let⟨b,_,j,v⟩:=gQ (cz us o) 1 ∎;have d:=v 30 (one_dvd _) dv
 change 0<bA us o at b
 change ∀c∈cz us o,_ ∣ bA us o at j
 change bA us o ∣ _ at d
 have B:(bA us o).natAbs<=30:=le_of_dvd ∎ (by have:=Int.natAbs_dvd_natAbs.mpr d;rwa[natAbs_natCast] at this);have l:∀c∈cz us o,bi (fo (bA us o) c)<=12:=λc m=>by
  let⟨f,k,a⟩:=all c m;have r:0<k:=Nat.pos_of_ne_zero λz=>by rw[z] at a;cases a
  have s:k<=30:=le_of_dvd ∎ ⟨c.den,by rw[Nat.mul_comm];exact a⟩;have:=HK (k:=k) (x:=75) b (by rw[<- a];exact d) (j c m) r f;exact fL (lt_of_le_of_lt this ⋯)
 have A:bi ((30:Nat):Int)<=20:=by walk_at "k"
 refine⟨⟨⟨30,∎,dv,⋯⟩,λc m=>?_⟩,b,fL ⋯,λx m=>?_,l _ (mem_append.mpr (.inr (.head _))),⟨by have:=h.w;omega,fL (by have:=h.w;omega)⟩⟩
 .obtain⟨f,a2⟩:=all c m;have q:bi c.num<=40:=fL ⋯;have y:=le_of_dvd ∎ a2;have g:bi (c.den:Int)<=40:=fL (by rw[natAbs_natCast];omega);unfold bs;exact Nat.max_le.mpr ⟨le_trans q ∎,le_trans (by unfold bi at g;rwa[natAbs_natCast] at g) ∎⟩
 .obtain⟨c,mc,rfl⟩:=mem_map.mp m;exact l c (mem_append.mpr (.inl mc))
theorem br.rows{us:ah}(ys:List j)(g:j->Tr){pg:eI}{pe:bc}{b:ai}{Q:az}(p:ys.length<=1000)(step:∀y∈ys,∀R:az,(∀o,R3 us o->R (ae.t o))->pg (g y) b λf=>pe f R)(q:∀rs:av,rs.length=ys.length->(∀o∈rs,R3 us o)->Q (.ag .o ↥rs)):br (ys.map g) pg ql pe b Q:=by
 refine⟨λi a=>∃rs:av,a=↥rs/\rs.length=i/\∀o∈rs,R3 us o,⟨[],rfl,rfl,λ_ m=>(nomatch m)⟩,λi t a e h=>?_,λa h=>?_⟩
 .obtain⟨rs,rfl,e1,e2⟩:=h;rw[getElem?_map] at e;cases e':ys[i]? with
  |none=>rw[e'] at e;cases e
  |some y=>
   rw[e'] at e;cases e;have l:=(List.getElem?_eq_some_iff.mp e').1;refine step y (mem_of_getElem? e') _ λo d=>⟨by rw[length_map];omega,rs++[o],by rw[map_append];rfl,by rw[length_append,e1];rfl,λx n=>?_⟩
   rcases mem_append.mp n with z |z
   .exact e2 x z
   .rw[mem_singleton.mp z];exact d
 .obtain⟨rs,rfl,e1,e2⟩:=h;rw[length_map] at e1 ⊢;exact⟨⋯,q rs e1 e2⟩
def vk(K:ao):Sp:=λvs H Q _=>∃(a:af)(ns:aI),vs=[.ref a]/\bC K H a (ns.map V.int)/\ns.length<=63/\∀b,Q (.bl true) b
def D0:bQ:=cY 1 λa Q=>∃ns:aI,a=[.ag (.l false) ↥ns]/\ns.length<=63/\Q (.bl true)
theorem dW{K:ao}{F:Hp}{B:Bool->Hp}:∀ns:aI,Rs K F B ↥ns (ns.map V.int) []
 |[]=>⟨rfl,rfl⟩
 |n::ns=>⟨_,_,[],[],rfl,rfl,⟨rfl,rfl⟩,dW ns⟩
theorem SW{K:ao}(vs:aw)(H:Hp)(Q:VK)(E:XK)(h:vk K vs H Q E):bR K true 0 1 D0 vs H Q E:=by
 let⟨a,ns,rfl,b,d,k⟩:=h;refine⟨rfl,λ_=>none,H,[.ag (.l false) ↥ns],λ_=>[],λt _=>t=.bl true,λ_=>False,⟨?_,(λ_ _ _ _ z=>by cases z),rfl,?_,(λ_=>.nil),(λ_ _ m=>nomatch m),(λ_ _ _ _ m=>nomatch m),(λi h=>absurd h (Nat.not_lt_zero i)),λ_ _ _ _ z=>z.elim⟩,⟨rfl,ns,rfl,d,λ_=>rfl⟩,?_⟩
 .exact Gr.aP (λ_ _ z=>by cases z)
 .intro i t e;cases i with
  |zero=>cases e;exact .inr ⟨.ref a,rfl,rfl,a,_,rfl,b,dW ns⟩
  |succ i=>cases e
 .intro F' H' j' g' cs' v t c _ r _ _ _ _ e;subst e;rw[r.1];exact k _
def lV:bW:=([],"most",Rat.divInt 7 3,0,1)
theorem Qo(us:ah):R4 us lV:=⟨λ_ m=>(nomatch m),nodup_nil,.inr (.inl rfl),⟨by walk_at "k",by walk_at "k"⟩,⟨∎,∎⟩,⟨∎,∎⟩,zero_le _⟩
theorem JM(us:ah):Eqv us [] [lV]:=λx=>by
 have e:gH us lV x=0 - Rat.divInt 7 3:=by
  unfold gH;have z:g0 us lV=List.replicate us.length 0:=List.eq_replicate_iff.mpr ⟨length_map _,λb m=>by
   let⟨u,_,rfl⟩:=mem_map.mp m;rfl⟩
  rw[z,pW];rfl
 have m:i4 lV.2.1 (gH us lV x)=0:=by rw[e];decide +kernel
 have a:∀k,bN us k x [lV]=0:=λk=>by
  rw[bN,bN,m];split<;>grind
 exact⟨λk _=>by rw[a];rfl,by rw[a];exact⟨λ_=>rfl,λ_=>rfl⟩⟩
theorem LM{x:Rat}:dH (ae.t x) (ae.t x)=some true:=by
 show (if 2=2 then (some (decide (x.num=x.num))).bind λa=>((some (decide ((x.den:Int)=x.den))).bind λb=>(some true).bind λc=>some (b&&c)).bind λb=>some (a&&b) else none)=_;rw[if_pos rfl,decide_eq_true rfl,decide_eq_true rfl];rfl
theorem SM{a:Tr}{x:Rat}(h:dH a a=some true):dH (.aF [a,ae.t x]) (.aF [a,ae.t x])=some true:=by
 show (if 2=2 then (dH a a).bind λa=>((dH (ae.t x) (ae.t x)).bind λb=>(some true).bind λc=>some (b&&c)).bind λb=>some (a&&b) else none)=_;rw[if_pos rfl,h,LM];rfl
theorem Bm{a:Tr}{d:ai}(h:dH a a=some true)(h':dk d d=some true):dk (a::d) (a::d)=some true:=by
 show ((dH a a).bind λa=>(dk d d).bind λb=>some (a&&b))=_;rw[h,h'];rfl
theorem EW{f g:Fl}{a:ai}(h:dk a a=some true):dH (.ag f a) (.ag g a)=some true:=by
 show (if a.length=a.length then dk a a else some false)=_;rw[if_pos rfl,h]
theorem eq_str(u:Str):dH (.str u) (.str u)=some true:=by
 show some (decide (u=u))=_;rw[decide_eq_true rfl]
theorem EG:∀us:ah,dk ↥us ↥us=some true
 |[]=>rfl
 |u::us=>Bm (eq_str u) (EG us)
theorem FG:∀Y:List ((Int ⊕ Str)×Rat),dk ↥Y ↥Y=some true
 |[]=>rfl
 |(a,r)::Y=>by
  refine Bm (SM (x:=r) ?_) (FG Y);cases a with
  |inl n=>show some (decide (n=n))=_;rw[decide_eq_true rfl]
  |inr u=>exact eq_str u
theorem DN:∀us:ah,dP ↥us=0
 |[]=>rfl
 |u::us=>by show max 0 (dP ↥us)=0;rw[DN us];rfl
theorem zP:∀Y:List ((Int ⊕ Str)×Rat),dP ↥Y<=2
 |[]=>zero_le _
 |(a,r)::Y=>Nat.max_le.mpr ⟨by cases a <;> exact le_refl 2,zP Y⟩
theorem Dn:∀{X:List (Str×Rat)},(X.map (·.1)).Nodup->∀q∈X,cF X q.1=some q.2
 |p::X,nd,q,m=>by
  let⟨a,b⟩:=nodup_cons.mp nd;rcases mem_cons.mp m with rfl |m
  .exact n0 rfl
  .have e:¬ p.1=q.1:=λe=>a (mem_map.mpr ⟨q,m,e.symm⟩)
   rw[show cF (p::X) q.1=cF X q.1 by simp[cF,e]];exact Dn b q m
def Lt(rs:av)(us:ah)(t:Tr)(cl:Bool):Prop:=(t=.aM/\cl=true/\∀y:Nat->Rat,(∀k,k<us.length->0<=y k)->bN us 0 y rs≠0)\/∃(a:List (aC×dF))(S:Nat->Nat)(b:List (aC×aC)),t=.aF [c7 .f (fF rs us S),ae.t (ff us a),ae.t b]/\cl=false/\qN rs us S a
theorem Lt.c{rs:av}{us:ah}{t:Tr}{cl:Bool}(h:Lt rs us t cl):BX t:=by
 rcases h with⟨rfl,_⟩ |⟨a,S,b,rfl,_⟩
 .exact⟨rfl,rfl,rfl,rfl,rfl⟩
 .refine jI _ ?_;show (Cl (c7 .f (fF rs us S))&&(Cl (ae.t (ff us a))&&(Cl (ae.t b)&&true)))=true;rw[rW,ae.c,ae.c];rfl
theorem zu(T:Tx w K mg){f g:Fl}[Fp f][Fp g]{rs:av}{us:ah}{N zz:Nat}{Q:Tr->aW}(e:Bz N zz rs us)(nd:us.Nodup)(i:rs.length<=N)(a:us.length<=8)(hz:zz+(us.length+4)*(zz+1)<=3900)(l:Wn rs)(q:∀t cl j,Lt rs us t cl->Q (.aF [t,.bl cl]) j):zD T [.ag f ↥rs,.ag g ↥us] Q:=⟨rfl,f,g,rs,us,N,zz,‹_›,‹_›,rfl,e,nd,i,a,hz,l,λh j=>q _ _ j (.inl ⟨rfl,rfl,h⟩),λd S b h j=>q _ _ j (.inr ⟨d,S,b,rfl,rfl,h⟩)⟩
theorem HR(T:Tx w K mg):aJ P w K mg base bM 60 T.lF.a T.lF.d ["_law_script"] (bR K true 0 1 D0):=by
 refine cg T.lF.F T2 rfl ∎ λa7 A outer s H E hr hu u=>?_
 refine⟨_,(aQ (bJ 1 (qc T.ua (Lf T) (ar (qv 0) (ar aA aH))))
  (aQ (bJ 2 (oM (eH (ar gE (ar gE (ar gE (ar gE aH))))) qp (mh (d8 aA (eE (qv 1) aA)))))
  (aQ (nB 3 ["_law_cell","_law_some","_law_first"] [none,some 2,some 1] (gm (oM (qv 0) (mh aA) (mh aA))) (fB 0) (λ_ _ _ _ _=>(qc T.sF (Oq T) (ar (qv 0) (ar (qv 1) (ar (aX (eH (ar aA (ar aA aH))) (eE (fT (qv 2) aA) aA)) aH))))))
  (aQ (gc 4 (qc T.tU (LG T) (ar (qc T.tQ (Qj T) (ar (qv 3) (ar (qv 1) aH))) (ar (qv 1) aH))))
  (aQ (c6 (b5 fX fU (eE (fT (qv 1) aA) aA) aA) (aY (i8 (cI 4) (gp (ar nV (ar gE (ar (gp (ar aA (ar aA aH))) (ar aA (ar aA aH)))))))) cZ)
  (aQ (wQ (qc T.qf (EV T) (ar (i3 (jn rfl) jr T.gk (ar (qv 3) aH)) (ar (i3 (jn rfl) jr T.gk (ar (qv 2) aH)) aH))) (h9 (n:=2) rfl (dE (cS 5) (dE (cS 6) hJ))))
  (aQ (wQ (qc T.qf (EV T) (ar (i3 (jn rfl) jr T.gk (ar (qv 4) aH)) (ar (i3 (jn rfl) jr T.gk (ar (qv 2) aH)) aH))) (h9 (n:=2) rfl (dE (cS 7) (dE (cS 8) hJ))))
  (aQ (c6 (QW.t (qS (l9 (qv 6)) (qx (l9 (qv 8))))) (aY (b8 (z4 (qv 6) (wG (qv 8))))) cZ)
  (aQ (fM (gm (eH (ar (qv 5) (ar (qv 7) aH)))) (cS 9) (aY (c6 (QW.t (qS (L4 (l9 (Hf K T.VE (ar (qv 9) (ar (S5 T.RS) aH))))) (qx (b5 jW j7 (fH g6 gZ T.gX (ar (qv 9) aH)) aA)))) (aY (b8 rE)) cZ)))
  (aQ (c6 (QW.t (qS (b5 (K9 hr.units) HD (aX (qv 5) aA) (aX (qv 7) aA)) (qx (b5 jW j7 (i3 (jn rfl) jr T.gk (ar (aX (qv 5) aA) aH)) (qv 2))))) (aY (b8 rE)) cZ)
  (aY (b8 (mI fX fU (aX (qv 5) aA) (aX (qv 7) aA)))))))))))))),?_⟩
 rintro xs Q' _ ⟨_,g,rfl,δ,q⟩;refine f7 (λj=>∃c:Int,j=[.ag (.l false) ↥g,.int c,.ax,.ax,.ax,.ax,.ax,.ax,.ax,.ax]) (λN u=>?_) ?_
 .rfl';exact⟨rfl,_,g,0,inferInstance,rfl,∎,λc j=>⟨rfl,u _ ⟨c,rfl⟩⟩⟩
 rintro _ ⟨c,rfl⟩;refine f7 (λj=>∃us:ah,j=[.ag (.l false) ↥g,.int c,.ag .f ↥us,.ax,.ax,.ax,.ax,.ax,.ax,.ax]/\us.Nodup/\us.length<=4) (λN u=>?_) ?_
 .rfl';have m0:=emod_nonneg c (show (4:Int)≠0 by decide);have m1:=emod_lt_of_pos c (show (0:Int)<4 by decide);refine⟨∎,?_⟩;rcases (by omega:c % 4=0\/c % 4=1\/c % 4=2\/c % 4=3) with e |e |e |e<;>rw[e]
  .exact⟨rfl,u _ ⟨["left b"],rfl,∎,∎⟩⟩
  .exact⟨rfl,u _ ⟨["left b","left a"],rfl,∎,∎⟩⟩
  .exact⟨rfl,u _ ⟨["left b","left a","width a"],rfl,∎,∎⟩⟩
  .exact⟨rfl,u _ ⟨["left b","left a","width a","gap c"],rfl,∎,∎⟩⟩
 rintro _ ⟨us,rfl,nd,α⟩;have γ:(ik g (some 1) (some 8)).length<=7:=by
  unfold ik;rw[length_take];unfold HT.dw;dsimp only;simp only[show ¬ ((8:Int)<0) from by decide,show ¬ ((1:Int)<0) from by decide,if_false];omega
 refine f7 (λj=>∃rs:av,j=[.ag (.l false) ↥g,.int c,.ag .f ↥us,.ag .f ↥rs,.ax,.ax,.ax,.ax,.ax,.ax]/\rs.length<=7/\∀o∈rs,R3 us o) (λN u=>?_) ?_
 .rfl';refine br.rows (us:=us) _ _ ⋯ (λx mx R hq=>?_) λrs hl ok=>?_
  .rfl';refine⟨⟨∎,i9 ∎⟩,∎,qr (ns:=[1,3]) (emod_nonneg _ ∎) (emod_lt_of_pos _ ∎) λb O=>?_⟩;have O:b=1\/b=3:=by
    rcases mem_cons.mp O with rfl |O
    .exact .inl rfl
    .exact .inr (mem_singleton.mp O)
   rfl';exact⟨rfl,.f,_,b,us,inferInstance,rfl,nd,α,O,λo r4 p n d _=>hq o ⟨r4,p,n,d⟩⟩
  rw[gj];exact⟨gT _,u _ ⟨rs,rfl,⋯,ok⟩⟩
 rintro _ ⟨rs,rfl,hl,h3⟩;refine f7 (λj=>∃y:av,j=[.ag (.l false) ↥g,.int c,.ag .f ↥us,.ag .f ↥rs,.ag .o ↥y,.ax,.ax,.ax,.ax,.ax]/\y.length<=14/\(∀o∈y,R4 us o)/\Eqv us rs y) (λN u=>?_) ?_
 .rfl';refine⟨rfl,.f,rs,us,c,inferInstance,rfl,hl,h3,λfs r4 Q B _=>?_⟩;dsimp only;rw[gj,jd];refine⟨rfl,.f,fs,c,inferInstance,rfl,Q,λU hP _=>⟨gT _,u _ ⟨U,rfl,by rw[<- hP.length_eq];exact Q,λo mo=>r4 o (hP.mem_iff.mpr mo),B.trans (Eqv.perm hP)⟩⟩⟩
 rintro _ ⟨y,rfl,I,r4,B⟩;refine f7 (λj=>∃y:av,j=[.ag (.l false) ↥g,.int c,.ag .f ↥us,.ag .f ↥rs,.ag .o ↥y,.ax,.ax,.ax,.ax,.ax]/\y.length<=15/\(∀o∈y,R4 us o)/\Eqv us rs y) (λN u=>?_) ?_
 .rfl';refine⟨⟨∎,i9 ∎⟩,∎,?_⟩;split
  .refine⟨rfl,⋯,u _ ⟨y++[lV],by rw[map_append];rfl,by rw[length_append,List.length_singleton];omega,λp J=>?_,?_⟩⟩
   .rcases mem_append.mp J with J |J
    .exact r4 p J
    .rw[mem_singleton.mp J];exact Qo us
   .have:=B.app (JM us) (λp m=>by have:=(h3 p m).r.w;omega) (λp m=>by have:=(r4 p m).w;omega) (λ_ m=>(nomatch m)) (λp m=>by rw[mem_singleton.mp m];decide);rwa[append_nil] at this
  .exact u _ ⟨y,rfl,⋯,r4,B⟩
 clear B r4 I y;rintro _ ⟨y,rfl,I,r4,B⟩;have w1:Wn rs:=λp m=>by have:=(h3 p m).r.w;omega
 have w2:Wn y:=λp m=>by have:=(r4 p m).w;omega
 have B1:Bz 7 324 rs us:=Gy (e:=12) (s:=5) (v:=17) (λo m=>FQ (h3 o m).r) ∎ ⋯ ∎ ∎ ∎;have B2:Bz 15 324 y us:=Gy (e:=12) (s:=5) (v:=17) (λo m=>FQ (r4 o m)) ∎ ⋯ ∎ ∎ ∎;have hz:324+(us.length+4)*(324+1)<=3900:=⋯
 refine f7 (λj=>∃(t:Tr)(cl:Bool),j=[.ag (.l false) ↥g,.int c,.ag .f ↥us,.ag .f ↥rs,.ag .o ↥y,t,.bl cl,.ax,.ax,.ax]/\Lt rs us t cl) (λN u=>?_) ?_
 .rfl';refine zu T B1 nd hl ⋯ hz w1 λt cl _ h=>?_
  refine⟨by show (bF t&&true)=true;rw[h.c.t];rfl,?_⟩;rw[show Pu.ay (Tr.aF [t,.bl cl])=.aF [t,.bl cl] by show Tr.aF [Pu.ay t,.bl cl]=_;rw[h.c.f]];exact⟨rfl,u _ ⟨t,cl,rfl,h⟩⟩
 rintro _ ⟨t1,c1,rfl,L1⟩;refine f7 (λj=>∃(t:Tr)(cl:Bool),j=[.ag (.l false) ↥g,.int c,.ag .f ↥us,.ag .f ↥rs,.ag .o ↥y,t1,.bl c1,t,.bl cl,.ax]/\Lt y us t cl) (λN u=>?_) ?_
 .rfl';refine zu T B2 nd I ⋯ hz w2 λt cl _ h=>?_
  refine⟨by show (bF t&&true)=true;rw[h.c.t];rfl,?_⟩;rw[show Pu.ay (Tr.aF [t,.bl cl])=.aF [t,.bl cl] by show Tr.aF [Pu.ay t,.bl cl]=_;rw[h.c.f]];exact⟨rfl,u _ ⟨t,cl,rfl,h⟩⟩
 rintro _ ⟨t2,c2,rfl,C⟩;have β:c1=c2:=by
  rcases L1 with⟨_,rfl,L⟩ |⟨U,S,b,_,rfl,L⟩<;>rcases C with⟨_,rfl,M⟩ |⟨hs,R,D,_,rfl,M⟩
  .rfl
  .exact absurd ((B _).2.mpr M.z) (L _ M.n)
  .exact absurd ((B _).2.mp L.z) (M _ L.n)
  .rfl
 subst β;rcases L1 with⟨rfl,rfl,_⟩ |⟨U,S,b,rfl,rfl,L⟩
 .rcases C with⟨rfl,_,_⟩ |⟨_,_,_,_,e,_⟩
  .rfl';exact q _
  .cases e
 rcases C with⟨_,e,_⟩ |⟨hs,R,D,rfl,_,M⟩
 .cases e
 let⟨ep,es⟩:=N1 B L M;rw[<- ep,<- es];have G:(fF rs us S).map (·.1)=us:=by
  unfold fF nP;rw[map_map];apply ext_getElem?;intro i;rw[getElem?_map,getElem?_zipIdx];cases us[i]?<;>rfl
 generalize fF rs us S=X at G;generalize ff us U=Y;refine f7 (λj=>j=[.ag (.l false) ↥g,.int c,.ag .f ↥us,.ag .f ↥rs,.ag .o ↥y,.aF [c7 .f X,ae.t Y,ae.t b],.bl false,.aF [c7 .f X,ae.t Y,ae.t D],.bl false,.ax]) (λN u=>?_) ?_
 .rfl';exact u _ rfl
 rintro _ rfl;refine f7 (λj=>∃x:Tr,j=[.ag (.l false) ↥g,.int c,.ag .f ↥us,.ag .f ↥rs,.ag .o ↥y,.aF [c7 .f X,ae.t Y,ae.t b],.bl false,.aF [c7 .f X,ae.t Y,ae.t D],.bl false,x]) (λN u=>?_) ?_
 .rfl';refine⟨?_,Loop.map [b,D] (λb=>Tr.aF [c7 .f X,ae.t Y,ae.t b]) (λ_ j=>∃x:Tr,j=[.ag (.l false) ↥g,.int c,.ag .f ↥us,.ag .f ↥rs,.ag .o ↥y,.aF [c7 .f X,ae.t Y,ae.t b],.bl false,.aF [c7 .f X,ae.t Y,ae.t D],.bl false,x]) ⟨_,rfl⟩ ?_ ?_⟩
  .have cl:=jI _ (rW X);show ((bF (c7 .f X)&&(bF (ae.t Y)&&(bF (ae.t b)&&true)))&&((bF (c7 .f X)&&(bF (ae.t Y)&&(bF (ae.t D)&&true)))&&true))=true;rw[cl.t,gx,gx,gx];rfl
  .rintro i b0 j _ ⟨x,rfl⟩;rfl';refine⟨true,rfl,?_⟩;exact⟨_,rfl⟩
  .rintro j ⟨x,rfl⟩;exact u _ ⟨x,rfl⟩
 rintro _ ⟨x,rfl⟩;refine f7 (λj=>j=[.ag (.l false) ↥g,.int c,.ag .f ↥us,.ag .f ↥rs,.ag .o ↥y,.aF [c7 .f X,ae.t Y,ae.t b],.bl false,.aF [c7 .f X,ae.t Y,ae.t D],.bl false,x]) (λN u=>?_) ?_
 .rfl';refine⟨.f,.f,_,_,1,rfl,rfl,∎,rfl,λp J=>?_,?_⟩
  .obtain⟨q',mq,rfl⟩:=mem_map.mp J;refine⟨ae.t q'.2,?_,?_,rfl⟩
   .rw[Bw,Dn (by rw[G];exact nd) q' mq];rfl
   .show (decide (q'.2.num=q'.2.num)&&(decide ((q'.2.den:Int)=q'.2.den)&&true))=true;rw[decide_eq_true rfl,decide_eq_true rfl];rfl
  .dsimp only;rw[show (!true)=false from rfl,C1,if_neg ∎,show n8 [c7 .f X]=n8 [.aO .f (X.map λp=>((Sum.inr p.1:aS),ae.t p.2))] from rfl,yd,show ((X.map λp=>((Sum.inr p.1:aS),ae.t p.2)).map λp=>kO p.1)=↥us by rw[<- G,map_map,map_map];rfl];refine .inr ⟨true,EW (EG us),by show dP ↥us+1<=60;rw[DN];decide,Nat.succ_le_succ (zero_le _),?_⟩;exact u _ rfl
 rintro _ rfl;rfl';have dY:=zP Y;exact .inr ⟨true,EW (FG Y),by show dP ↥Y+1<=60;omega,Nat.succ_le_succ (zero_le _),rfl,q _⟩
theorem VX(T:Tx w K mg):aJ P w K mg base bM 60 T.lF.a T.lF.d ["_law_script"] (vk K):=(HR T).imp SW
end
theorem walk{l:W.OpenLaw}{q:Program}{b:ah}{u:(bx)->aU->Prop}{p:World->aU->Prop}{d:DefRec}{K:Params->ao}(hn:l.most=some 63)(i:d.params.defaults=[])(o:d.name="law")(A:∀(w:World)(h:aU),p w h->(K w.params).In h)(F:∀(w:World)(mg:bx)(h:aU),(K w.params).In h->h.Ns mainGlobals mg->Nonempty (Tx w (K w.params) mg)):
  W.WalkO q b u p l.row.toRowW d [] (λf vs=>PySem.call f vs):=by
 refine L2.kC (n:=63) (k:=60) (x:="_law_script") (CX:=λ_=>bM) (sp:=λw=>vk (K w.params)) hn ∎ i ⟨rfl,∎,∎⟩ A ?_ (λ_ _ a ns C _ y=>⟨a,ns,rfl,y,C,λ_=>rfl⟩) λ_ _ _ _ _ z=>z
 intro w mg D h r G g;let⟨T⟩:=F w mg h r G;rw[o] at g;have e:=g.symm.trans T.lF.m;cases e;refine⟨T.lF.d,λs v=>?_,λbase _ _=>VX T⟩;let⟨oc,od,kV,doc,pm,an,a7,ct,osl,j,E,B⟩:=T.lF.F.ex;rw[j];exact .of_eq rfl
end Sf
structure PySem.W.Fast:Prop where(tw634425145707926418 tw7253408234281039250 tw10453148334290716018 tw8665953743565942531 tw13896361127281615383 tw12055454069348325193 tw5958219130467462865 tw6361705608578965799 tw2983210397577737365 tw6120403593556487626 tw2308783501017847124 tw12266848600357525725 tw4528878803893477869 tw18079110531265318661 tw1143217230296887897 tw14059312685655908271 tw621711796098042784 tw16847829371076774333 tw1027594749856641161 tw10695240368495594488 tw10073220424179267939 tw6959929555697126742 tw5490811121343725178 tw14454964890145594302 tw11528485475617632081 tw16402175551844503844 tw15498032716672814454 tw3728209462363896166 tw17524846816376629269 tw4609838840483024477 tw15222488977297169835 tw491208216813320733 tw6185559527114862779 tw14404078654333039311 tw14027912746107283386 tw6167893711825995943 tw1536400748510512645 tw16316244959793170484 tw15570774754899326445 tw5566094828784558907 tw3593879171848558268 tw15431979069586113294 tw971991469837669122 tw6385867242604333282 tw1820713052837735048 tw12440702082236584615 tw10589704605666624121 tw9631412412675832381 tw2394443360152780467 tw14387727972658680143 tw8033680457045755910 tw7056414972783296269 tw11426583020647434846 tw3749743823819501983 tw16937065759399091484 tw7404352895567157404 tw14313677319323178007 tw13389851678955996695 tw8152051872652493727 tw16740246915039199837 tw2194566233717386833 tw2796755273608050773 tw1984723496731072449 tw13788850144631302702 tw7915587991550444786 tw13250819387931172493 tw7718650132647285529 tw14207801904149614540 tw15454785716407687322 tw2409674777967761778 tw2815608018609329586 tw10077777992039833951 tw4927044129259113244 tw16303040949028610303 tw5852932389141683874 tw3724783124194508435 tw9858739586684625070 tw6851083614052910660 tw13682144394815395420 tw6945732696972659632 tw1971680485515270026 tw6965059447559345742 tw3993740245174651296 tw3664815885106933871 tw13229509816694350119 tw9369127866049441595 tw223265288503707049 tw628381389111026871 tw14876854126069967881 tw8157452635673814363 tw5527360413069906715 tw15005137392917686741 tw10102071881641885511 tw13801678534302927779 tw15311195010995882705 tw9121320624510240843 tw17522221266225224902 tw5039010406537248433 tw13207337258717142372 tw10689893187760583417 tw2944559417119124604 tw13567932341472430651 tw3097325366541737998 tw11605758841514509279 tw17731059764638395172 tw1956169729639187369 tw8318758683554451085 tw16551218711295096993 tw10921017849429578732 tw16323202656954340612 tw8657034264222869447 tw8936064441313970052 tw9266457411884995681 tw12579305518424050254 tw13226190212831999252 tw9594558152928353413 tw2373627806165652407 tw3808752053097987377 tw1504235693078845665 tw13813039031598818058 tw18239029372941729095 tw15483351692059835776 tw17303572091493530550 tw9372946871388874664 tw850788320786284240 tw12578725419801471427 tw1948111888331035604 tw1161192390277812987 tw6535751796234597559 tw1136591896925979276 tw5733498857267784489 tw2335167009145495655 tw11498912613804299949 tw12053817883518909134 tw5510082940227753852 tw6552567424981006587 tw10784159343572788229 tw8754031095697572027 tw12194118856474535547 tw17645443320882900960 tw14036363742164797063 tw3216408562948555268 tw17922815482961093947 tw1811497512872195270 tw8390759399470810631 tw14131515933426090267 tw2974489711675007423 tw5924764681687950559 tw4586939450569577302 tw18320256106080304882 tw18290824181578564448 tw11807449566327284856 tw17690534916111812226 tw7524722472676889578 tw8727951697348050689 tw1328429428049421976 tw1592708537658455634 tw13114751898997171321 tw11167759322477804169 tw13897531831913552957 tw486699239935519593 tw13693186615134798880 tw314485790448190999 tw3349295691946535843 tw7639817308704516418 tw5037070181671572882 tw8238104083735185757 tw9212909551347659199 tw10437858922575622246 tw2438049579221042730 tw16292990460977832866 tw15101593427253991657 tw15292135581025100068 tw2513926146510299851 tw1570830124008233048 tw12459901363059513546 tw18079250178457565025 tw12100213657256502974 tw6360756902905132084 tw917364186357396699 tw2880279462620206648 tw15100509987962442323 tw5882356315727632355 tw14232303504860858487 tw10076221386741960062 tw167916407439025169 tw15877181892244907467 tw12051267713196324326 tw6798591871718188672 tw13339410225906155926 tw8073659276795950631 tw1127527513565525071 tw10116740179118415483 tw14405410852664848170 tw13042269190840860601 tw14378011421738003887 tw522185743416708534 tw1906688248869195400 tw2565402592953039878 tw6484392192975266866 tw501258777297776331 tw11707691396688893924 tw4846712925944250463 tw2682019689245400959 tw9548403930370066606 tw8878353511243046598 tw6130397636416522325 tw16299081932770378839 tw8371478925878773589 tw7202457437976372367 tw4826917227500289996 tw18251732449087354656 tw18105508684763051088 tw14495436208228269976 tw12682985730559723838 tw8398851623069069360 tw12780372678616368594 tw590850028398563237 tw9227462156770288814 tw9944161310256619573 tw15764172789506403972 tw6910831606122798924 tw16257422631610570016 tw14459404970771602486 tw3979582153323146935 tw17601549231687567361 tw1640053244728919370 tw15603511030866777411 tw7458904224997443090 tw10089495637834695777 tw3449907890108941708 tw3425215564278623055 tw10848416239809921381 tw16620278808645258535 tw7375944726891036924 tw9128909973340098763 tw5391056388482314115 tw5293672522994854190 tw3081645886956660642 tw5233197002483393583 tw8933965308931202032 tw8351031388289560476 tw1376532774733921754 tw4650444608391096012 tw13088367978819375890 tw11376326813721953017 tw4772769418491456010 tw13824622299451622892 tw18174819644229020607 tw1095860276631284066 tw8174054702239096695 tw2920534596778977312 tw6211388288660979579 tw16668506904465440790 tw11747735007814265212 tw14735267801927041879 tw15345091781394134959 tw6638737411586655511 tw9946428172571404666 tw17396003167540617261 tw13741700263570791940 tw7894571733306949511 tw14311896540560393106 tw1067067559706507183 tw10274170609598796681 tw9308085491217278864 tw6608741808047849669 tw14553093554027936556 tw11943920393321678021 tw2118030557731858340 tw861913047612896309 tw2026992941368260335 tw17370945102216588082 tw17135354460166440377 tw16738667045487638366 tw13741761271891937253 tw11513848045674160580 tw17669047674662608494 tw12131516601196811987 tw2807704507363829090 tw13692045208041006338 tw15519257062144116679 tw14246225379032366623 tw13536061512152212025 tw11285601261737343585 tw10354410698836248041 tw13925478239811794682 tw16597982328673258178 tw2974549598380776409 tw995404873584019748 tw13460052219088031452 tw2023532461153802334 tw1754942847050334829 tw16818156982137231914 tw5998703413740795784 tw3733244884223381422 tw9030863786434444672 tw264481495245415673 tw17626977465225995279 tw13830905783718409447 tw8392663608530900497 tw485337793611333616 tw17283160422810282963 tw1360687618425624876 tw12195151784838653991 tw6189079480042888112 tw9250253776050173382 tw14941628283469922885 tw958980013395998943 tw10705985558940874872 tw10496888792252880594 tw810496622880539487 tw7944211768436168303 tw5408301459254442772 tw15816134921813128524 tw10426296613632128890 tw18272355470836625298 tw12285736351927254165 tw15522306493893181768 tw3081573105905572888 tw7995511644997400410 tw10458976948846880417 tw2351268444063594932 tw9522317729493799430 tw589147809715949047 tw262212484752859116 tw16691129112379910872 tw1260323586175600020 tw11794670246378377286 tw10208543305417282557 tw9965627002062329670 tw8830523724610831316 tw7957033504529056514 tw6459098014196862904 tw17380625287216504312 tw16991440389939941650 tw3667687830665625994 tw11248131421385124485 tw8012941470801253065 tw7403274089813334001 tw4099039997918366863 tw10907322492662932422 tw9977285981379584800 tw8030853192369641116 tw6628528516176794070 tw18069053543468665580 tw17342899386295168358 tw15954631245847043239 tw995277157225697462 tw9751434913044767161 tw9724429543005101703 tw9635287295410981526 tw9582275945072125057 tw9268405580482471446 tw9168119908652526545 tw8892549422977201287 tw8621980514928922722 tw8513667723033783732 tw8492536842826876683 tw8448806604295190305 tw8069774965867654132 tw8061073524912102418 tw8054161228663747070 tw8053751791872703904 tw7972386205243507452 tw7812021424596102980 tw7462252173941143370 tw6927525315726536433 tw6841894913151250677 tw6750221378941955606 tw6750116424504712359 tw6741536078767663233 tw6547477511229988477 tw6341939851684677435 tw624434965347778447 tw6206765923059720898 tw6192910483429364562 tw6099790158205463429 tw6088183623804912468 tw608455866637498030 tw6012512593662181189 tw5779938718328031608 tw5768334814601942945 tw5710560734239060353 tw5495986995766098166 tw5466637073638012639:True)
open PySem PySem.W PyProof.Rows
local macro_rules |`(tactic|walk_at "b")=>`(tactic|first |exact λ_ _ _ _ _ _=>Pu.El λ_=>rfl |exact λ_ _ _ _ _ _=>Pu.ln2 λ_ _=>rfl |exact λ_ _ _ _ _ _=>Pu.zp λ_ _ _=>rfl |exact λ_ _ _ _ _ _=>Pu.VI λ_ _ _ _=>rfl)
set_option maxRecDepth 100000 in
set_option maxHeartbeats 0 in
theorem PySem.Challenge.cw_springframe_k42_whole_the_same_placing_holds : PySem.Challenge.rw_springframe_k42_whole_the_same_placing.Holds := by
 w_on;o_law;k_head;(case hw=>w_witness2)
 k_fill
 refine Sf.walk (l:=PySem.Challenge.rw_springframe_k42_whole_the_same_placing) rfl rfl rfl (λw h Y=>PySem.W.kIn_of Y) ?F
 case F=>
  intro w mg h KX G;refine⟨?_⟩;apply Sf.Tx.mk
  all_goals first |exact Pu.U0 KX G (by k_is) (L2.kK (by k_is) (by k_is) (by k_is)) (by walk_at "b") |exact Pu.Pm (by k_is) (L2.kK (by k_is) (by k_is) (by k_is)) (by k_is) (by walk_at "b") |exact Pu.VA (by k_is) (L2.kK (by k_is) (by k_is) (by k_is)) (by k_is) (by k_is) (by k_is) (by walk_at "b") |exact mg_of KX G (by k_is) |exact mg_none_of KX G (by k_is) |exact Pu.wX (by k_is) |exact L2.gn.mk (by k_is) (by k_is) (by k_is) (by k_is) |exact Pu.wJ (by k_is) (L2.kK (by k_is) (by k_is) (by k_is)) (by k_is) (by rfl) (by rfl) (by rfl) (by rfl) (by k_exc) (by k_is) (by rfl) (by rfl) (by k_is) (by k_is) (by rfl) (by rfl) (by k_is) (by k_is) (by k_is) (by k_is) (by k_is) (by k_is) (by walk_at "b") |exact⟨_,_,_,by k_is,rfl,rfl,Nat.le_of_ble_eq_true rfl,by repeat first |exact .nil |refine .cons ⟨_,rfl⟩ ?_⟩ |k_is |kit_is |k_exc |kts_exm
#print axioms PySem.Challenge.cw_springframe_k42_whole_the_same_placing_holds
