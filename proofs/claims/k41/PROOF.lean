import PyProof.Rows.All
import Wide.All
import OpenK.AllK
import Wide.FinOn
import Lean
import PyProof.EqAt
import PyProof.EqKinds
import PyProof.TupleCall
import PySem.Challenge.RW_springframe_k41_one_unknown
set_option Elab.async false
set_option linter.all false
set_option maxRecDepth 100000
open List (length_map mem_append mem_cons mem_map getElem?_map map_cons length_cons map_append length_append mem_of_getElem? length_range size_toArray map_map getD_eq_getElem?_getD mem_singleton getElem?_eq_getElem append_nil append_assoc length_set length_replicate lookup_cons getElem?_eq_none getElem?_range nodup_cons length_take mem_range getElem?_set_ne take_length mem_append_right take_add_one any_cons of_mem_zip mem_filter map_nil getElem?_set_self find?_cons ext_getElem? all_cons map_congr_left length_nil getElem?_append_left nodup_append mem_cons_of_mem length_filter_le append_eq_nil_iff length_zip getElem_mem cons_append any_eq_true map_set mem_filterMap length_zipIdx nil_append getElem?_append_right flatMap_cons)
open Nat (le_refl le_trans ne_of_lt lt_of_lt_of_le zero_le lt_irrefl max_le lt_succ_of_lt lt_of_le_of_lt succ_mul mul_le_mul le_of_dvd pow_add)
open Int (ne_of_gt mul_zero natAbs_natCast natCast_pos emod_nonneg le_of_lt mul_pos emod_lt_of_pos one_dvd zero_mul dvd_trans natAbs_neg natAbs_mul mul_nonneg natCast_mul mul_comm one_mul mul_eq_zero)
open Bool (and_eq_true)
open Option (map_some isSome_map getD_some)
open Array (length_toList getElem?_toList)
local macro_rules|`(tactic|omega)=>`(tactic|first|decide|lia)
abbrev aj:=List PySem.Str
abbrev aM:=List PySem.Value
abbrev aV:=List (PySem.Addr×PySem.Obj)
abbrev aH:=List Int
abbrev br:=List (List Rat)
abbrev aB:=List Rat
abbrev bG:=List (Option Nat)
abbrev bu:=PySem.Str->Option PySem.Value
abbrev d0:=Option PySem.Value
abbrev aJ:=Nat->Nat->Int
abbrev bI:=Option Int
abbrev bH:=List PySem.Expr
abbrev cD:=List PySem.Addr
abbrev c7:=Option PySem.Addr
abbrev dm:=Array PySem.Value
abbrev cz:=List PySem.Env
abbrev ao:=PySem.W.Frag
abbrev ak:=PySem.Shared
abbrev ai:=PySem.Value
abbrev af:=PySem.Addr
abbrev aT:=PySem.Heap
namespace L2
open PySem PySem.Spec PyProof.Rows
abbrev du(x:Str):Prop:=(x == ("__debug__":Str))=false
abbrev dH(e:Expr)(es:bH)(n:Env):Prop:=starEach (e::es) n=(false,eval e n)::starEach es n
abbrev j7(e:Expr)(n:Env):Prop:=starEach [e] n=[(false,eval e n)]
abbrev nI(e f:Expr)(n:Env):Prop:=starEach [e,f] n=[(false,eval e n),(false,eval f n)]
abbrev fk(p:Pos)(es:bH)(n:Env):Prop:=(backTo p (starEach es n)).any (·.1)=false
abbrev aU:=Sum Int Str
abbrev aR:=List (aU×bI)
def nY:aU->ai->Bool
 |.inl k,v=>Value.isInt k v
 |.inr x,v=>Value.isStrOf x v
def N4(w:World):aU->Int
 |.inl k=>hashInt k
 |.inr x=>hashStr w x
theorem jX:∀{k:aU}{v:ai},nY k v=true->(∃i t,k=Sum.inl i/\v=Value.int i t)\/(∃x t,k=Sum.inr x/\v=Value.str x t)
 |.inl i,v,h=>by
  obtain⟨t,e⟩:=Value.isInt_shape (k:=i) (v:=v) h;exact .inl ⟨i,t,rfl,e⟩
 |.inr x,v,h=>by
  obtain⟨t,e⟩:=Value.isStrOf_shape (x:=x) (v:=v) h;exact .inr ⟨x,t,rfl,e⟩
theorem Kn(i:Int)(t:Tok):nY (.inl i) (.int i t)=true:=by simp[nY,Value.isInt]
theorem LS(x:Str)(t:Tok):nY (.inr x) (.str x t)=true:=by simp[nY,Value.isStrOf]
theorem MH(a b:Int):decide ((Sum.inl a:aU)=Sum.inl b)=(a == b):=by
 by_cases e:a=b
 .subst e;simp
 .have h:¬ (Sum.inl a:aU)=Sum.inl b:=λq=>e (Sum.inl.inj q)
  rw[decide_eq_false h];exact (beq_eq_false_iff_ne.mpr e).symm
theorem RO(a b:Str):decide ((Sum.inr a:aU)=Sum.inr b)=decide (a=b):=by
 by_cases e:a=b
 .subst e;simp
 .have h:¬ (Sum.inr a:aU)=Sum.inr b:=λq=>e (Sum.inr.inj q)
  rw[decide_eq_false h,decide_eq_false e]
theorem Ji(a:Int)(b:Str):decide ((Sum.inl a:aU)=Sum.inr b)=false:=decide_eq_false (λq=>nomatch q)
theorem Q6(a:Str)(b:Int):decide ((Sum.inr a:aU)=Sum.inl b)=false:=decide_eq_false (λq=>nomatch q)
def eA(prog:Program)(w:World):PySem.KeyKind prog w aU where
 is:=nY
 hash:=N4 w
 inj:=λv a b g f=>by
  rcases jX g with⟨i,t,rfl,rfl⟩ |⟨x,t,rfl,rfl⟩
  .rcases jX f with⟨j,u,rfl,e⟩ |⟨y,u,rfl,e⟩
   .injection e with e1 _;rw[e1]
   .exact nomatch e
  .rcases jX f with⟨j,u,rfl,e⟩ |⟨y,u,rfl,e⟩
   .exact nomatch e
   .injection e with e1 _;rw[e1]
 byValue:=λk v h=>by
  rcases jX h with⟨i,t,rfl,rfl⟩ |⟨x,t,rfl,rfl⟩<;>rfl
 pyHash:=λd h=>by
  rcases jX d with⟨i,t,rfl,rfl⟩ |⟨x,t,rfl,rfl⟩
  .exact wpAny_pyHash_int h
  .exact wpAny_pyHash_str h
 eqBool:=λl d h=>by
  rcases jX l with⟨i,t,rfl,rfl⟩ |⟨x,t,rfl,rfl⟩
  .rcases jX d with⟨j,u,rfl,rfl⟩ |⟨y,u,rfl,rfl⟩
   .rw[MH] at h;exact wpAny_eqBool_int h
   .rw[Ji] at h;exact SeqAt.EqAt.int_str i t y u _ _ _ _ h
  .rcases jX d with⟨j,u,rfl,rfl⟩ |⟨y,u,rfl,rfl⟩
   .rw[Q6] at h;exact SeqAt.EqAt.str_int x t j u _ _ _ _ h
   .rw[RO] at h;exact wpAny_eqBool_str h
 «strs»:=λk x t v h=>by
  rcases jX h with⟨i,u,rfl,e⟩ |⟨y,u,rfl,e⟩
  .exact nomatch e
  .injection e with e1 _
   subst e1;cases v<;>rfl
theorem UM(prog:Program)(w:World)(i:Int)(t:Tok):(eA prog w).is (.inl i) (.int i t)=true:=Kn i t
theorem Rr(prog:Program)(w:World)(x:Str)(t:Tok):(eA prog w).is (.inr x) (.str x t)=true:=LS x t
inductive V where
 |aL |bl (b:Bool) |int (i:Int) |str (x:Str) |gc (b:Array UInt8) |kW (b:UInt64) |ref (a:Addr) |ty (n:String)
 deriving DecidableEq
abbrev bT:=List (aU×V)
abbrev aw:=List V
def aE:V->ai->Prop
 |.aL,u=>u=Value.none
 |.bl b,u=>u=Value.bool b
 |.int i,u=>∃t,u=Value.int i t
 |.str x,u=>∃t,u=Value.str x t
 |.gc b,u=>∃t,u=Value.bytes b t
 |.kW b,u=>∃t,u=Value.float b t
 |.ref a,u=>u=Value.ref a
 |.ty n,u=>u=Value.type n
abbrev aI:aw->aM->Prop:=Paired aE
theorem aI.length(r:aI xs us):xs.length=us.length:=Paired.length r
theorem aI.get:∀{xs:aw}{us:aM}{i:Nat}{x:V},aI xs us->xs[i]?=some x->∃u,us[i]?=some u/\aE x u
 |_,_,_,_,.nil,e=>by simp at e
 |_,_,0,_,.cons r _,e=>by simp at e;subst e;exact⟨_,rfl,r⟩
 |_,_,i + 1,x,.cons _ t,e=>by
  obtain⟨u,a,b⟩:=aI.get (i:=i) (x:=x) t (by simpa using e);exact⟨u,by simpa using a,b⟩
theorem aI.set(r:aE x u):∀{xs:aw}{us:aM}(i:Nat),aI xs us->aI (xs.set i x) (us.set i u)
 |_,_,_,.nil=>.nil
 |_,_,0,.cons _ t=>.cons r t
 |_,_,i + 1,.cons q t=>.cons q (aI.set r i t)
theorem aI.append:∀{xs ys:aw}{us a:aM},aI xs us->aI ys a->aI (xs++ys) (us++a)
 |_,_,_,_,.nil,s=>s
 |_,_,_,_,.cons r t,s=>.cons r (aI.append t s)
theorem aI.take:∀{xs:aw}{us:aM}(n:Nat),aI xs us->aI (xs.take n) (us.take n)
 |_,_,0,_=>.nil
 |_,_,_ + 1,.nil=>.nil
 |_,_,n + 1,.cons r t=>.cons r (aI.take n t)
theorem aI.drop:∀{xs:aw}{us:aM}(n:Nat),aI xs us->aI (xs.drop n) (us.drop n)
 |_,_,0,r=>r
 |_,_,_ + 1,.nil=>.nil
 |_,_,n + 1,.cons _ t=>aI.drop n t
def cG:Option V->d0->Prop
 |some v,some u=>aE v u
 |none,none=>True
 |_,_=>False
def KV{j:Type}:List (j×V)->List (j×ai)->Prop:=Paired λ(p:j×V)(q:j×ai)=>p.1=q.1/\aE p.2 q.2
def kV:aU->V
 |.inl i=>.int i
 |.inr x=>.str x
inductive HO where
 /-- a list -/
 |ag (xs:List V)
 /-- a tuple (never changes) -/
 |aG (xs:List V)
 /-- a dict whose keys are ints and texts;one whose keys are tuples of ints and texts (the empty one is both) -/
 |dK (kvs:List (aU × V)) |dT (kvs:List (List aU × V))
 /-- a set of ints: bo members,bo size -/
 |set (S:Int -> Bool) (n:Nat)
 /-- an instance of the class at C,bo dict at dx,bo attributes -/
 |ins (C dx:Addr) (fs:List (Str × V))
 /-- the dict of the instance at x -/
 |own (x:Addr)
 /-- the dict of an exception -/
 |xd (fs:List (Str × V))
 /-- a bound method,f of x -/
 |met (f x:Addr)
 /-- a range object lo,lo + 1,.. below hi -/
 |je (lo hi:Int)
 /-- a thing that is known to the object (the script;a dict while a loop walks it): read,never written while it is so -/
 |ay (o:Obj) (u:HO)
 /-- a code object's table -/
 |k8 (ps:Array Value)
 /-- any other thing,by what is true of bo one object (a def of one's own: SetO a S n:=HO.ext λh=>..) -/
 |ext (φ:Heap -> Prop)
abbrev Hp:=Addr->Option HO
def aQ(H:Hp)(a:af)(o:HO):Hp:=λb=>if b=a then some o else H b
theorem cq:aQ H a o a=some o:=by unfold aQ;rw[if_pos rfl]
theorem ba{H:Hp}(h:b≠a):aQ H a o b=H b:=by unfold aQ;rw[if_neg h]
theorem Oz{H:Hp}(h:H a=some o)(h':H b=some u)(d:o≠u):a≠b:=by
 intro e;subst e;rw[h] at h';exact d (Option.some.inj h')
theorem iW{H:Hp}(h:H a=some o)(h':H b=none):a≠b:=by
 intro e;subst e;rw[h] at h';cases h'
section
variable(P:Program)(w:World)
def a6(H:Hp)(h:aT)(a:af):HO->Prop
 |.ag e=>e.length <= sizeLine /\ ∃(b:aM)(n:Nat),aI e b /\ h.get? a=some { cls:=.type "list",data:=.seq b.toArray n }
 |.aG e=>e.length <= sizeLine /\ ∃b:aM,aI e b /\ IsTup h a b.toArray
 |.dK d=>d.length <= sizeLine /\ (a == sysModules)=false /\ ∃vs,KV d vs /\ h.DictOf (eA P w) a vs
 |.dT d=>d.length <= sizeLine /\ (a == sysModules)=false /\ ∃e:List (List aU × Addr × Value),
   Paired (λ(p:List aU×V)(q:List aU×af×ai)=>p.1=q.1/\H q.2.1=some (.aG (p.1.map kV))/\aE p.2 q.2.2) d e/\
   ∃o l s,h.get? a=some o/\o.ExactDict/\o.data=.dict l s/\l.toList=e.map (entryOfKey (tupleKind (eA P w)))/\(e.map (·.1)).Nodup
 |.set S n=>h.SetOf (intKind P w) a S n
 |.ins C i fs=>H i=some (.own a) /\ fs.length <= 1000 /\ i ≠ a /\ h.get? a=some (W.instObj C i) /\
   ∃g,h.Ns1 i g/\(∀f,cG (fs.lookup f) (g f))/\PySem.Within g (fs.map (·.1))
 |.own _=>∃o,h.get? a=some o
 |.xd fs=>∃g,h.Ns1 a g /\ ∀f,cG (fs.lookup f) (g f)
 |.je lo y=>∃t u v,h.get? a=some { cls:=.type "range",data:=.fields #[.int lo t,.int y u,.int 1 v] }
 |.ay o u=>h.get? a=some o /\ a6 H h a u
 |.k8 z=>h.get? a=some { cls:=.none,data:=.fields z }
 |.met f x=>h.get? a=some (W.methodObj (.ref f) (.ref x))
 |.ext j=>j h /\ (∃o,h.get? a=some o) /\ ∀m r:Heap,j m -> (∀o,m.get? a=some o -> r.get? a=some o) -> j r
def dk(H:Hp)(h:aT):Prop:=∀a o,H a=some o->a6 P w H h a o
end
section
variable{P:Program}{w:World}{H H':Hp}{h h':aT}{a:af}{o:HO}
theorem a6.lt(x:a6 P w H h a o):a<h.objs.size:=by
 cases o with
 |ag d=>obtain⟨_,_,_,_,e⟩:=x;exact Heap.lt_size e
 |aG d=>obtain⟨_,_,_,p⟩:=x;exact p.lt
 |dK b=>obtain⟨_,_,_,_,o,_,_,e,_⟩:=x;exact Heap.lt_size e
 |dT b=>obtain⟨_,_,_,_,o,_,_,e,_⟩:=x;exact Heap.lt_size e
 |set S n=>obtain⟨o,_,_,_,e,_⟩:=x;exact Heap.lt_size e
 |ins C g fs=>obtain⟨_,_,_,e,_⟩:=x;exact Heap.lt_size e
 |own y=>obtain⟨_,e⟩:=x;exact Heap.lt_size e
 |xd fs=>obtain⟨_,⟨_,_,_,e,_⟩,_⟩:=x;exact Heap.lt_size e
 |je lo i=>obtain⟨_,_,_,e⟩:=x;exact Heap.lt_size e
 |ay j u=>obtain⟨e,_⟩:=x;exact Heap.lt_size e
 |k8 l=>exact Heap.lt_size (show h.get? a=some _ from x)
 |met f y=>exact Heap.lt_size (show h.get? a=some _ from x)
 |ext m=>obtain⟨_,⟨_,e⟩,_⟩:=x;exact Heap.lt_size e
theorem Paired.mL{F G:j->i->Prop}:∀{d:List j}{l₂:List i},Paired F d l₂->(∀a b,F a b->G a b)->Paired G d l₂
 |_,_,.nil,_=>.nil
 |_,_,.cons r t,f=>.cons (f _ _ r) (Paired.mL t f)
theorem a6.eI(x:a6 P w H h a o)(k:∀b u,(b=a\/H b=some (.own a))->h.get? b=some u->h'.get? b=some u)(D:∀b,H b=some (.own a)->H' b=some (.own a))(ht:∀b xs,H b=some (.aG xs)->H' b=some (.aG xs)):a6 P w H' h' a o:=by
 induction o with
 |ag xs=>obtain⟨z,l,n,r,e⟩:=x;exact⟨z,l,n,r,k _ _ (.inl rfl) e⟩
 |aG xs=>obtain⟨z,l,r,g,e,c⟩:=x;exact⟨z,l,r,g,k _ _ (.inl rfl) e,c⟩
 |dK m=>obtain⟨z,y,vs,r,g,j,i,e,c⟩:=x;exact⟨z,y,vs,r,g,j,i,k _ _ (.inl rfl) e,c⟩
 |dT m=>
  obtain⟨z,y,xs,r,g,j,i,e,c⟩:=x;exact⟨z,y,xs,Paired.mL r λp q z=>⟨z.1,ht _ _ z.2.1,z.2.2⟩,g,j,i,k _ _ (.inl rfl) e,c⟩
 |set S n=>obtain⟨g,j,i,t,e,c⟩:=x;exact⟨g,j,i,t,k _ _ (.inl rfl) e,c⟩
 |ins C G fs=>
  obtain⟨d,z,ne,e,s,⟨od,j,i,B,c⟩,r⟩:=x;exact⟨D _ d,z,ne,k _ _ (.inl rfl) e,s,⟨od,j,i,k _ _ (.inr d) B,c⟩,r⟩
 |own y=>obtain⟨g,e⟩:=x;exact⟨g,k _ _ (.inl rfl) e⟩
 |xd fs=>obtain⟨s,⟨od,j,i,e,c⟩,r⟩:=x;exact⟨s,⟨od,j,i,k _ _ (.inl rfl) e,c⟩,r⟩
 |je lo I=>obtain⟨t,u,v,e⟩:=x;exact⟨t,u,v,k _ _ (.inl rfl) e⟩
 |ay g u E=>obtain⟨e,q⟩:=x;exact⟨k _ _ (.inl rfl) e,E q⟩
 |k8 A=>
  have e:h.get? a=some { cls:=.none,data:=.fields A }:=x;show h'.get? a=some { cls:=.none,data:=.fields A };exact k a _ (.inl rfl) e
 |met f y=>
  have e:h.get? a=some (W.methodObj (.ref f) (.ref y)):=x;show h'.get? a=some (W.methodObj (.ref f) (.ref y));exact k a _ (.inl rfl) e
 |ext J=>obtain⟨p,⟨o,e⟩,st⟩:=x;exact⟨st _ _ p λo q=>k _ _ (.inl rfl) q,⟨o,k _ _ (.inl rfl) e⟩,st⟩
theorem dk.lt(x:dk P w H h)(e:H a=some o):a<h.objs.size:=(x a o e).lt
theorem dk.fresh(x:dk P w H h)(e:h.objs.size<=a):H a=none:=by
 cases q:H a with
 |none=>rfl
 |some u=>exact absurd (lt_of_lt_of_le (x.lt q) e) (lt_irrefl _)
theorem dk.kept(x:dk P w H h)(k:∀b u,h.get? b=some u->h'.get? b=some u):dk P w H h':=λa o e=>
 (x a o e).eI (λb u _ q=>k b u q) (λ_ q=>q) λ_ _ q=>q
theorem dk.laid(x:dk P w H h)(k:∀b u,h.get? b=some u->h'.get? b=some u)(hp:h.objs.size<=a)(d:a6 P w (aQ H a o) h' a o):dk P w (aQ H a o) h':=λb u e=>by
 have hn:=x.fresh hp;by_cases f:b=a
 .subst f;rw[cq] at e;cases e;exact d
 .rw[ba f] at e;exact (x b u e).eI (λc v _ q=>k c v q) (λc q=>by rw[ba (iW q hn)];exact q) λc g q=>by rw[ba (iW q hn)];exact q
end
def Rd(H:Hp)(a:af)(u:HO):Prop:=H a=some u\/∃o,H a=some (.ay o u)
theorem Rd.of{H:Hp}(h:H a=some u):Rd H a u:=.inl h
theorem Rd.ok(r:Rd H a u)(x:dk P w H h):a6 P w H h a u:=by
 rcases r with r |⟨o,r⟩
 .exact x a u r
 .obtain⟨_,q⟩:=x a _ r;exact q
def qB:Option HO->Prop
 |some (.ag _)=>True
 |some (.dK _)=>True
 |some (.dT _)=>True
 |some (.set _ _)=>True
 |some (.ins _ _ _)=>True
 |some (.ext _)=>True
 |_=>False
section
variable{P:Program}{w:World}{H:Hp}{h h':aT}{x e:af}{o':HO}
theorem dk.write(ok:dk P w H h)(j:qB (H x))(he:e=x\/H e=some (.own x))(k:∀b u,b≠e->h.get? b=some u->h'.get? b=some u)(m:∃u,h'.get? e=some u)(n:a6 P w (aQ H x o') h' x o'):dk P w (aQ H x o') h':=λb u q=>by
 have d:∀c y,H c=some (.own y)->c≠x:=λc y r z=>by subst z;rw[r] at j;exact j
 have f:∀c l,H c=some (.aG l)->c≠x:=λc l r z=>by subst z;rw[r] at j;exact j
 by_cases g:b=x
 .subst g;rw[cq] at q;cases q;exact n
 .rw[ba g] at q;by_cases a:b=e
  .have q':H b=some (.own x):=by
    rcases he with z |z
    .exact absurd (a.trans z) g
    .rw[a];exact z
   rw[q] at q';cases q';obtain⟨v,o⟩:=m;exact⟨v,by rw[a];exact o⟩
  .refine (ok b u q).eI (λc v i r=>k c v ?_ r) (λc r=>by rw[ba (d c b r)];exact r) λc l r=>by rw[ba (f c l r)];exact r
   rcases i with rfl |i
   .exact a
   .rintro rfl;rcases he with z |z
    .exact d c b i z
    .rw[i] at z;cases z;exact g rfl
end
structure Un(fs ex:cD)(H H':Hp)(h h':aT):Prop where
 keep:∀b o,h.get? b=some o->H b=none->b ∉ fs->b ∉ ex->h'.get? b=some o
 slot:∀b o,h.get? b=some o->H b=none->b∈fs->b ∉ ex->∃sl,h'.get? b=some { o with slots:=sl }
 free:∀b o,h.get? b=some o->H b=none->b ∉ ex->H' b=none
 there:∀b o,h.get? b=some o->b ∉ ex->∃o',h'.get? b=some o'
 e5:∀b xs,H b=some (.aG xs)->H' b=some (.aG xs)
 bp:∀b o u,H b=some (.ay o u)->H' b=some (.ay o u)
 e8:∀b ps,H b=some (.k8 ps)->∃more,H' b=some (.k8 (ps++more))
section
variable{fs fs' ex ex':cD}{H H1 H2:Hp}{h h1 h2 h':aT}{a x e:af}{o:HO}
theorem Un.any(u:Un fs ex H H1 h h1){ob:Obj}(q:h.get? b=some ob)(n:H b=none)(f:b ∉ ex):∃g,h1.get? b=some { ob with slots:=g }:=by
 by_cases d:b∈fs
 .exact u.slot b ob q n d f
 .exact⟨ob.slots,u.keep b ob q n d f⟩
theorem Un.kept(k:∀b u,h.get? b=some u->h'.get? b=some u):Un fs ex H H h h':=
 ⟨λb d q _ _ _=>k b d q,λb d q _ _ _=>⟨d.slots,k b d q⟩,λ_ _ _ n _=>n,λb d q _=>⟨d,k b d q⟩,λ_ _ q=>q,λ_ _ _ q=>q,λ_ f q=>⟨#[],by rw[q];simp⟩⟩
theorem Un.refl:Un fs ex H H h h:=Un.kept λ_ _ q=>q
theorem Un.laid(k:∀b u,h.get? b=some u->h'.get? b=some u)(hp:h.objs.size<=a)(hn:H a=none):Un fs ex H (aQ H a o) h h' where
 keep:=λb u q _ _ _=>k b u q
 slot:=λb u q _ _ _=>⟨u.slots,k b u q⟩
 free:=λb u q n _=>by rw[ba (ne_of_lt (lt_of_lt_of_le (Heap.lt_size q) hp))];exact n
 there:=λb u q _=>⟨u,k b u q⟩
 e5:=λb d q=>by rw[ba (iW q hn)];exact q
 bp:=λb u d q=>by rw[ba (iW q hn)];exact q
 e8:=λb f q=>⟨#[],by rw[ba (iW q hn),q];simp⟩
theorem Un.write(f:qB (H x))(he:e=x\/H e=some (.own x))(k:∀b u,b≠e->h.get? b=some u->h'.get? b=some u)(g:∃u,h'.get? e=some u):Un fs ex H (aQ H x o) h h':=by
 have j:∀b,H b=none->b≠x:=λb n z=>by subst z;rw[n] at f;exact f
 have i:∀b,H b=none->b≠e:=λb n z=>by
  subst z;rcases he with r |r
  .exact j b n r
  .rw[n] at r;cases r
 have hm:∀b u,H b=some u->¬ qB (some u)->b≠x:=λb u q nm z=>by subst z;rw[q] at f;exact nm f
 refine⟨λb u q n _ _=>k b u (i b n) q,λb u q n _ _=>⟨u.slots,k b u (i b n) q⟩,λb u q n _=>by rw[ba (j b n)];exact n,λb u q _=>?_,
  λb l q=>by rw[ba (hm b _ q λz=>z)];exact q,λb u l q=>by rw[ba (hm b _ q λz=>z)];exact q,λb m q=>⟨#[],by rw[ba (hm b _ q λz=>z),q];simp⟩⟩
 by_cases d:b=e
 .subst d;exact g
 .exact⟨u,k b u d q⟩
end
def sZ(h:aT)(H:Hp):cD:=(List.range h.objs.size).filter λa=>(H a).isSome
def kC(h:aT)(H:Hp):aT:=W.hideAll h (sZ h H)
theorem Rq(h:aT)(H:Hp):(kC h H).objs.size=h.objs.size:=W.hideAll_size _ _
theorem OQ{H:Hp}(e:h.get? b=some o)(n:H b=none):(kC h H).get? b=some o:=
 W.hideAll_get _ e λhm=>by
  have q:(H b).isSome=true:=(mem_filter.mp hm).2;rw[n] at q;simp at q
theorem LP{H:Hp}(e:(kC h H).get? b=some o):h.get? b=some o/\H b=none:=by
 have a:h.get? b=some o:=W.of_hideAll (sZ h H) e;refine⟨a,?_⟩;cases q:H b with
 |none=>rfl
 |some x=>
  have hm:b∈sZ h H:=mem_filter.mpr ⟨mem_range.mpr (Heap.lt_size a),by simp[q]⟩;have z:(kC h H).get? b=none:=W.hideAll_none (sZ h H) hm;rw[z] at e;cases e
def UH(g h:aT)(L:af):aV:=(List.range h.objs.size).filterMap λa=>if a=L\/(g.get? a).isSome=true then none else (h.get? a).map λo=>(a,o)
def rest(g h:aT)(L d:af):aV:=(UH g h L).filter λp=>decide (p.1≠d)
structure Mod(K:ao)(mg:bu)(base:aT):Prop where
 ky:K.In base
 glob:base.Ns mainGlobals mg
 blt:∃mb,base.Ns builtinsNs mb/\∀x:Str,x≠"__name__"->mb x=bootBuiltins x
 nolimit:base.NoLimit
structure Cx where
 prog:Program
 w:World
 K:W.Frag
 mg:bu
 base:Heap
 A:Around
 N:aj
 s₀:Shared
 H₀:Hp
 env:Env
 outer:cz
 stack:cz
 ex:cD
 fn:Str->Bool
 calm:Bool
 pn:aV
 xe:ai->ak->Prop
abbrev ke(X:Cx)(x:Str):Prop:=X.fn x=true\/X.env.scope.names.lookup x=some .local
def cB(l:cz):cD:=l.filterMap (·.frame)
abbrev Cx.fs(X:Cx):cD:=cB X.outer
def n4(sc:Scope)(x:Str):Prop:=sc.names.lookup x=some .local\/sc.names.lookup x=some .cell\/sc.names.lookup x=some .free
def Loc(sc:Scope)(x:Str):Prop:=sc.names.lookup x=some .local\/sc.names.lookup x=some .cell
def Kr(env:Env)(h:aT)(m:bu)(x:Str)(u:ai):Prop:=
 (env.kindOf x=some .local/\m x=some u)\/((env.kindOf x=some .cell\/env.kindOf x=some .free)/\∃c,env.cells.lookup x=some c/\h.IsCell c (some u))
structure Cx.Ok(X:Cx):Prop where
 mod:Mod X.K X.mg X.base
 kind:X.env.scope.kind=.function
 glob:X.env.globals=mainGlobals
 blt:X.env.builtins=builtinsNs
 above:X.s₀.heap.objs.size<=X.env.locals
 inj:∀x y c,X.env.cells.lookup x=some c->X.env.cells.lookup y=some c->x=y
 has:∀x,(X.env.kindOf x=some .cell\/X.env.kindOf x=some .free)->∃c,X.env.cells.lookup x=some c
 lq:∀x c,X.fn x=true->X.env.cells.lookup x=some c->X.s₀.heap.objs.size<=c
 hd:X.calm=true->X.A.handled=none
 frames:X.A.frames=some X.stack
 mQ:X.stack=X.outer\/(X.stack=X.env::X.outer/\X.env.frame=some X.env.locals)
 lZ:∀b∈X.ex,b≠X.env.locals/\∀x c,X.env.cells.lookup x=some c->c≠b
 bs:∀b o,X.base.get? b=some o->X.s₀.heap.get? b=some o/\X.H₀ b=none
 jf:X.base.objs.size<=X.s₀.heap.objs.size
 gw:∀b o,X.base.get? b=some o->b ∉ X.ex
 gv:∀b∈X.ex,b ∉ X.fs
 dz:X.s₀.heap.FunFrames X.base X.outer
 jU:∀b∈X.fs,X.H₀ b=none
structure au(X:Cx)(aa:aV)(j:List (Option V))(H:Hp)(s:ak):Prop where
 ok:X.Ok
 os:s.os=X.s₀.os
 bare:AllBare s.gens
 base:Un X.fs X.ex X.H₀ H X.s₀.heap s.heap
 loc:∃m,s.heap.Ns X.env.locals m/\∀(i:Nat)(x:Str)(v:V),X.N[i]?=some x->j[i]?=some (some v)->n4 X.env.scope x->∃u,aE v u/\Kr X.env s.heap m x u
 cell:∀x c,X.env.cells.lookup x=some c->∃v,s.heap.IsCell c v
 free:H X.env.locals=none
 bW:∀x c,X.env.cells.lookup x=some c->H c=none
 pin:∀p∈X.pn++aa,s.heap.get? p.1=some p.2/\H p.1=none/\p.1≠X.env.locals/\p.1 ∉ X.fs/\∀v,p.2.data≠.cell v
 aN:dk X.prog X.w H s.heap
 len:j.length=X.N.length
section
variable{X:Cx}{aa:aV}{σ:List (Option V)}{H H':Hp}{s:ak}{h':aT}
theorem Cx.Ok.xh(ok:X.Ok)(e:X.base.get? b=some o):b ∉ X.fs:=λa=>by
 have:=(ok.dz.mem a).1;rw[e] at this;cases this
theorem au.bs(I:au X aa σ H s):∀b o,X.base.get? b=some o->s.heap.get? b=some o/\H b=none:=λb o e=>
 ⟨I.base.keep b o (I.ok.bs b o e).1 (I.ok.bs b o e).2 (I.ok.xh e) (I.ok.gw b o e),I.base.free b o (I.ok.bs b o e).1 (I.ok.bs b o e).2 (I.ok.gw b o e)⟩
theorem au.bk(I:au X aa σ H s):∀b o,X.base.get? b=some o->s.heap.get? b=some o:=λb o e=>(I.bs b o e).1
theorem au.mod(I:au X aa σ H s):Mod X.K X.mg X.base:=I.ok.mod
theorem au.cJ(I:au X aa σ H s):X.K.In s.heap:=I.ok.mod.ky.keeps I.bk
theorem au.lt(I:au X aa σ H s):X.env.locals<s.heap.objs.size:=let ⟨_,hn,_⟩:=I.loc;hn.lt
theorem au.sz(I:au X aa σ H s):X.s₀.heap.objs.size<=s.heap.objs.size:=le_trans I.ok.above (Nat.le_of_lt I.lt)
theorem au.y6(I:au X aa σ H s)(h:s.heap.objs.size<=a):a ∉ X.fs:=λb=>by
 obtain⟨_,o,d,_⟩:=I.ok.dz.mem b;exact absurd (lt_of_lt_of_le (Heap.lt_size d) (le_trans I.sz h)) (lt_irrefl _)
theorem au.lX(I:au X aa σ H s):∀x c,X.env.cells.lookup x=some c->c≠X.env.locals:=λx c e z=>by
 obtain⟨v,o,d,hd⟩:=I.cell x c e;obtain⟨m,⟨h,g,f,b,a,_⟩,_⟩:=I.loc;rw[z,b] at d;cases d;rw[a] at hd;cases hd
theorem au.dz(I:au X aa σ H s):s.heap.FunFrames X.base X.outer:=by
 have all:∀(l:cz),(∀b∈cB l,b∈X.fs)->X.s₀.heap.FunFrames X.base l->s.heap.FunFrames X.base l:=by
  intro l
  induction l with
  |nil=>intro _ _;trivial
  |cons env r n=>
   intro g i;obtain⟨h,⟨L,o,f,hn,j,hd⟩,m⟩:=i;have a:L∈X.fs:=g L (by unfold cB;rw[List.filterMap_cons,f];exact List.mem_cons_self);obtain⟨p,e⟩:=I.base.slot L o j (I.ok.jU L a) a λz=>I.ok.gv L z a
   exact⟨h,⟨L,_,f,hn,e,hd⟩,n (λb d=>g b (by unfold cB;rw[List.filterMap_cons,f];exact mem_cons_of_mem _ d)) m⟩
 exact all X.outer (λ_ d=>d) I.ok.dz
theorem au.stack(I:au X aa σ H s):s.heap.FunFrames X.base X.stack:=by
 rcases I.ok.mQ with e |⟨e,a⟩
 .rw[e];exact I.dz
 .rw[e];obtain⟨m,hn,_⟩:=I.loc;refine .cons (by rw[I.ok.kind];decide) a hn ?_ I.dz;exact Heap.get?_none_of_le (le_trans I.ok.jf I.ok.above)
theorem au.eY(I:au X aa σ H s):∀b∈cB X.stack,b∈X.env.locals::X.fs:=λb a=>by
 rcases I.ok.mQ with e |⟨e,d⟩
 .rw[e] at a;exact mem_cons_of_mem _ a
 .rw[e] at a;unfold cB at a;rw[List.filterMap_cons,d] at a;exact a
theorem au.fU(I:au X aa σ H s):∀b∈cB X.stack,H b=none:=λb a=>by
 rcases mem_cons.mp (I.eY b a) with e |a
 .rw[e];exact I.free
 .obtain⟨_,o,ho,_⟩:=I.ok.dz.mem a;exact I.base.free b o ho (I.ok.jU b a) λz=>I.ok.gv b z a
theorem au.step{g':Array GenState}{t':Nat}{d':Drawn}{ch:cD}(I:au X aa σ H s)(g:∀b∈ch,(b∈X.ex\/X.s₀.heap.objs.size<=b)/\b≠X.env.locals/\(∀x c,X.env.cells.lookup x=some c->c≠b)/\∀p∈X.pn++aa,p.1≠b)(keep:∀b o,b≠X.env.locals->b ∉ X.fs->b ∉ ch->s.heap.get? b=some o->H b=none->h'.get? b=some o)(slot:∀b o,b≠X.env.locals->b∈X.fs->b ∉ ch->s.heap.get? b=some o->H b=none->∃G,h'.get? b=some { o with slots:=G })(free:∀b o,b ∉ ch->s.heap.get? b=some o->H b=none->H' b=none)(there:∀b o,b ∉ ch->s.heap.get? b=some o->∃o',h'.get? b=some o')(e5:∀b xs,H b=some (.aG xs)->H' b=some (.aG xs))(bp:∀b o u,H b=some (.ay o u)->H' b=some (.ay o u))(e8:∀b E,H b=some (.k8 E)->∃C,H' b=some (.k8 (E++C)))(ns:∀m,s.heap.Ns X.env.locals m->h'.Ns X.env.locals m)(aN:dk X.prog X.w H' h')(O:AllBare g'):
  au X aa σ H' { s with heap:=h',gens:=g',drawn:=d',toks:=t' }:=by
 have D:∀b o,X.s₀.heap.get? b=some o->b≠X.env.locals:=λb o e=>ne_of_lt (lt_of_lt_of_le (Heap.lt_size e) I.ok.above)
 have y:∀b o,X.s₀.heap.get? b=some o->b ∉ X.ex->b ∉ ch:=λb o e a A=>by
  rcases (g b A).1 with z |z
  .exact a z
  .exact absurd (lt_of_lt_of_le (Heap.lt_size e) z) (lt_irrefl _)
 have f:∀x c,X.env.cells.lookup x=some c->∀v,s.heap.IsCell c v->h'.IsCell c v:=λx c e v ⟨o,ho,hd⟩=>by
  have h:c ∉ ch:=λz=>(g c z).2.2.1 x c e rfl
  by_cases L:c∈X.fs
  .obtain⟨G,q⟩:=slot c o (I.lX x c e) L h ho (I.bW x c e);exact⟨_,q,hd⟩
  .exact⟨o,keep c o (I.lX x c e) L h ho (I.bW x c e),hd⟩
 refine⟨I.ok,I.os,O,⟨λb o e n A a=>?_,λb o e n A a=>?_,λb o e n a=>?_,λb o e a=>?_,λb xs e=>e5 b xs (I.base.e5 b xs e),λb o xs e=>bp b o xs (I.base.bp b o xs e),λb E e=>?_⟩,?_,λx c e=>?_,?_,λx c e=>?_,λp M=>?_,aN,I.len⟩
 .exact keep b o (D b o e) A (y b o e a) (I.base.keep b o e n A a) (I.base.free b o e n a)
 .obtain⟨G,j⟩:=I.base.slot b o e n A a;obtain⟨J,B⟩:=slot b _ (D b o e) A (y b o e a) j (I.base.free b o e n a);exact⟨J,B⟩
 .obtain⟨o',j⟩:=I.base.there b o e a;exact free b o' (y b o e a) j (I.base.free b o e n a)
 .obtain⟨o',j⟩:=I.base.there b o e a;exact there b o' (y b o e a) j
 .obtain⟨m1,j⟩:=I.base.e8 b E e;obtain⟨Q,B⟩:=e8 b _ j;exact⟨m1++Q,by rw[B,Array.append_assoc]⟩
 .obtain⟨m,hn,hl⟩:=I.loc;refine⟨m,ns m hn,λi x v j B N=>?_⟩;obtain⟨u,r,l⟩:=hl i x v j B N;refine⟨u,r,?_⟩;rcases l with l |⟨k,c,e,z⟩
  .exact .inl l
  .exact .inr ⟨k,c,e,f x c e _ z⟩
 .obtain⟨v,z⟩:=I.cell x c e;exact⟨v,f x c e v z⟩
 .obtain⟨m,⟨o,_,_,ho,_⟩,_⟩:=I.loc;exact free _ o (λz=>(g _ z).2.1 rfl) ho I.free
 .obtain⟨v,o,ho,hd⟩:=I.cell x c e;exact free c o (λz=>(g c z).2.2.1 x c e rfl) ho (I.bW x c e)
 .obtain⟨e,n,ne,nf,d⟩:=I.pin p M;have h:p.1 ∉ ch:=λz=>(g p.1 z).2.2.2 p M rfl
  exact⟨keep p.1 p.2 ne nf h e n,free p.1 p.2 h e n,ne,nf,d⟩
theorem au.un{t':Nat}(I:au X aa σ H s)(u:Un X.fs [] H H' s.heap h')(aN:dk X.prog X.w H' h'):au X aa σ H' { s with heap:=h',toks:=t' }:=by
 obtain⟨m,⟨o,p,l,h,r⟩,_⟩:=id I.loc;obtain⟨y,i⟩:=u.any h I.free (by simp);exact I.step (g':=s.gens) (d':=s.drawn) (ch:=[]) (λ_ z=>nomatch z) (λb o _ g _ e n=>u.keep b o e n g (by simp)) (λb o _ g _ e n=>u.slot b o e n g (by simp)) (λb o _ e n=>u.free b o e n (by simp)) (λb o _ e=>u.there b o e (by simp)) u.e5 u.bp u.e8 (λq hm=>by
  obtain⟨x,f,d,a,j⟩:=hm;rw[h] at a;cases a;exact⟨_,f,d,i,j⟩) aN I.bare
theorem au.call{g':Array GenState}{t':Nat}{d':Drawn}{ch:cD}(I:au X aa σ H s)(u:Un (cB X.stack) ch H H' s.heap h')(aN:dk X.prog X.w H' h')(q:AllBare g')(d:∀b∈ch,(b∈X.ex\/X.s₀.heap.objs.size<=b)/\b≠X.env.locals/\(∀x c,X.env.cells.lookup x=some c->c≠b)/\∀p∈X.pn++aa,p.1≠b):
  au X aa σ H' { s with heap:=h',gens:=g',drawn:=d',toks:=t' }:=by
 obtain⟨m,⟨o,B,A,j,r⟩,_⟩:=id I.loc;obtain⟨E,i⟩:=u.any j I.free λz=>(d _ z).2.1 rfl
 exact I.step (ch:=ch) d (λb o i l a e n=>u.keep b o e n (λz=>(mem_cons.mp (I.eY b z)).elim i l) a) (λb o _ _ a e n=>u.any e n a) (λb o a e n=>u.free b o e n a) (λb o a e=>u.there b o e a) u.e5 u.bp u.e8 (λC hm=>by
  obtain⟨D,h,g,f,y⟩:=hm;rw[j] at f;cases f;exact⟨_,h,g,i,y⟩) aN q
theorem au.turned{t':Nat}{it:af}(I:au X aa σ H s)(k:∀b o,b≠it->s.heap.get? b=some o->h'.get? b=some o)(hn:H it=none)(f:it≠X.env.locals)(g:it∈X.ex\/X.s₀.heap.objs.size<=it)(h:∀x c,X.env.cells.lookup x=some c->c≠it)(i:∀p∈X.pn++aa,p.1≠it):au X aa σ H { s with heap:=h',toks:=t' }:=by
 have d:∀b u,H b=some u->b≠it:=λb u e z=>by rw[z,hn] at e;cases e
 refine I.step (g':=s.gens) (d':=s.drawn) (ch:=[it]) (λb j=>?_) (λb o _ _ a e _=>k b o (λz=>a (by simp[z])) e) (λb o _ _ a e _=>⟨o.slots,k b o (λz=>a (by simp[z])) e⟩) (λ_ _ _ _ n=>n)
  (λb o a e=>⟨o,k b o (λz=>a (by simp[z])) e⟩) (λ_ _ e=>e) (λ_ _ _ e=>e) (λb l e=>⟨#[],by rw[e];simp⟩) (λm hm=>?_) (λb u e=>?_) I.bare
 .have e:b=it:=by simpa using j
  subst e;exact⟨g,f,h,i⟩
 .obtain⟨o,es,ep,ho,r⟩:=hm;exact⟨o,es,ep,k _ o (Ne.symm f) ho,r⟩
 .refine (I.aN b u e).eI (λc v a q=>k c v ?_ q) (λ_ q=>q) λ_ _ q=>q
  rcases a with z |z
  .rw[z];exact d b u e
  .exact d c _ z
theorem au.tok(I:au X aa σ H s)(t:Nat):au X aa σ H { s with toks:=t }:=I.un (h':=s.heap) (t':=t) Un.refl I.aN
theorem au.kept(I:au X aa σ H s)(k:∀b u,s.heap.get? b=some u->h'.get? b=some u):au X aa σ H { s with heap:=h',toks:=t' }:=I.un (Un.kept k) (I.aN.kept k)
theorem au.laid(I:au X aa σ H s)(k:∀b u,s.heap.get? b=some u->h'.get? b=some u)(hp:s.heap.objs.size<=a)(d:a6 X.prog X.w (aQ H a o) h' a o):
  au X aa σ (aQ H a o) { s with heap:=h',toks:=t' }:=I.un (Un.laid k hp (I.aN.fresh hp)) (I.aN.laid k hp d)
theorem au.write(I:au X aa σ H s)(f:qB (H x))(he:e=x\/H e=some (.own x))(k:∀b u,b≠e->s.heap.get? b=some u->h'.get? b=some u)(a:∃u,h'.get? e=some u)(d:a6 X.prog X.w (aQ H x o) h' x o):au X aa σ (aQ H x o) { s with heap:=h',toks:=t' }:=I.un (Un.write f he k a) (I.aN.write f he k a d)
theorem au.weak(I:au X aa σ H s)(e:σ'.length=σ.length)(w:∀(i:Nat) v,σ'[i]?=some (some v)->σ[i]?=some (some v)):au X aa σ' H s:=
 ⟨I.ok,I.os,I.bare,I.base,let ⟨m,hn,hl'⟩:=I.loc;⟨m,hn,λi x v a b d=>hl' i x v a (w i v b) d⟩,I.cell,I.free,I.bW,I.pin,I.aN,e.trans I.len⟩
theorem au.eL(I:au X aa σ H s)(h:∀p∈a,s.heap.get? p.1=some p.2/\H p.1=none/\p.1≠X.env.locals/\p.1 ∉ X.fs/\∀v,p.2.data≠.cell v):au X a σ H s:=
 ⟨I.ok,I.os,I.bare,I.base,I.loc,I.cell,I.free,I.bW,λp b=>(mem_append.mp b).elim (λz=>I.pin p (List.mem_append_left _ z)) (h p),I.aN,I.len⟩
theorem BY{N:aj}(f:N.Nodup){i j:Nat}{x:Str}(a:N[i]?=some x)(b:N[j]?=some x):i=j:=by
 obtain⟨g,d⟩:=List.getElem?_eq_some_iff.mp a;obtain⟨h,e⟩:=List.getElem?_eq_some_iff.mp b;exact (List.getElem_inj f).mp (d.trans e.symm)
theorem BN{M:Model}{A:Around}{E:ai->ak->Prop}{i:Nat}{x:Str}{v:V}{u:ai}{Q:Unit->ak->Prop}(I:au X aa σ H s)(hN:X.N.Nodup)(hi:X.N[i]?=some x)(C:Loc X.env.scope x)(r:aE v u)(h:∀s',au X aa (σ.set i (some v)) H s'->(∃a,Heap.SameBut a s.heap s'.heap/\(a=X.env.locals\/X.env.cells.lookup x=some a))->Q () s')(hf:ke X x:=by first |exact .inl rfl |exact .inr rfl |assumption):wpAny M A (storeName X.env x u) Q E s:=by
 obtain⟨m,hn,hl⟩:=id I.loc;have Y:(X.env.scope.kind == .class || (X.env.scope.kind == .module&&X.env.locals != X.env.globals))=false:=by rw[I.ok.kind];rfl
 have J:i<σ.length:=by rw[I.len];exact (List.getElem?_eq_some_iff.mp hi).1
 have lX:=I.lX;have l:∀{a:af}{h':aT},(∃o,s.heap.get? a=some o/\H a=none)->Heap.SameBut a s.heap h'->dk X.prog X.w H h':=λ{a h'} ha f b ob e=>by
  obtain⟨_,_,D⟩:=ha;refine (I.aN b ob e).eI (λc w' B q=>(f.2 c ?_).trans q) (λ_ q=>q) λ_ _ q=>q
  rintro rfl;rcases B with rfl |B
  .rw[D] at e;cases e
  .rw[D] at B;cases B
 rcases C with L |L
 .refine wpAny_storeName_local L hn (λh' γ f=>?_) Y;obtain⟨oL,_,_,δ,_⟩:=id hn;refine h _ ⟨I.ok,I.os,I.bare,⟨λb o e n O C=>?_,λb o e n O C=>?_,I.base.free,λb o e C=>?_,I.base.e5,I.base.bp,I.base.e8⟩,⟨_,γ,λj y v' g G e3=>?_⟩,λy c e=>?_,I.free,I.bW,λp hp=>?_,l ⟨oL,δ,I.free⟩ f,by simpa using I.len⟩ ⟨_,f,.inl rfl⟩
  .exact (f.2 b (ne_of_lt (lt_of_lt_of_le (Heap.lt_size e) I.ok.above))).trans (I.base.keep b o e n O C)
  .obtain⟨sl,g⟩:=I.base.slot b o e n O C;exact⟨sl,(f.2 b (ne_of_lt (lt_of_lt_of_le (Heap.lt_size e) I.ok.above))).trans g⟩
  .obtain⟨o',g⟩:=I.base.there b o e C;exact⟨o',(f.2 b (ne_of_lt (lt_of_lt_of_le (Heap.lt_size e) I.ok.above))).trans g⟩
  .by_cases hj:j=i
   .subst hj;rw[hi] at g;cases g;rw[getElem?_set_self J] at G;cases G;exact⟨u,r,.inl ⟨L,by simp⟩⟩
   .rw[getElem?_set_ne (Ne.symm hj)] at G;obtain⟨u',r',q⟩:=hl j y v' g G e3;refine⟨u',r',?_⟩;rcases q with⟨k,e⟩ |⟨k,c,e,z⟩
    .refine .inl ⟨k,?_⟩;have:y≠x:=λe=>hj (BY hN g (e ▸ hi))
     simp[this,e]
    .exact .inr ⟨k,c,e,z.sameBut f (lX y c e)⟩
  .obtain⟨w',z⟩:=I.cell y c e;exact⟨w',z.sameBut f (lX y c e)⟩
  .obtain⟨e,n,ne,nf,d⟩:=I.pin p hp;exact⟨(f.2 p.1 ne).trans e,n,ne,nf,d⟩
 .have hfn:X.fn x=true:=by
   rcases hf with z |z
   .exact z
   .rw[z] at L;cases L
  obtain⟨c,B⟩:=I.ok.has x (.inl L);obtain⟨w',z⟩:=I.cell x c B;refine wpAny_storeName_cell I.ok.kind L B z (λh' U f=>?_);obtain⟨oc,α,β⟩:=id z;refine h { s with heap:=h' } ⟨I.ok,I.os,I.bare,⟨λb o e n O C=>?_,λb o e n O C=>?_,I.base.free,λb o e C=>?_,I.base.e5,I.base.bp,I.base.e8⟩,⟨m,hn.sameBut f (Ne.symm (lX x c B)),λj y v' g G e3=>?_⟩,λy c' e=>?_,I.free,I.bW,λp hp=>?_,l ⟨oc,α,I.bW x c B⟩ f,by simpa using I.len⟩ ⟨c,f,.inr B⟩
  .exact (f.2 b (ne_of_lt (lt_of_lt_of_le (Heap.lt_size e) (I.ok.lq x c hfn B)))).trans (I.base.keep b o e n O C)
  .obtain⟨sl,g⟩:=I.base.slot b o e n O C;exact⟨sl,(f.2 b (ne_of_lt (lt_of_lt_of_le (Heap.lt_size e) (I.ok.lq x c hfn B)))).trans g⟩
  .obtain⟨o',g⟩:=I.base.there b o e C;exact⟨o',(f.2 b (ne_of_lt (lt_of_lt_of_le (Heap.lt_size e) (I.ok.lq x c hfn B)))).trans g⟩
  .by_cases hj:j=i
   .subst hj;rw[hi] at g;cases g;rw[getElem?_set_self J] at G;cases G;exact⟨u,r,.inr ⟨.inl L,c,B,U⟩⟩
   .rw[getElem?_set_ne (Ne.symm hj)] at G;obtain⟨u',r',q⟩:=hl j y v' g G e3;refine⟨u',r',?_⟩;rcases q with q |⟨k,c',e,z'⟩
    .exact .inl q
    .refine .inr ⟨k,c',e,z'.sameBut f ?_⟩;rintro rfl;exact hj (BY hN g (I.ok.inj _ _ _ e B ▸ hi))
  .by_cases hcc:c'=c
   .subst hcc;exact⟨_,U⟩
   .obtain⟨w2,z2⟩:=I.cell y c' e;exact⟨w2,z2.sameBut f hcc⟩
  .obtain⟨e,n,ne,nf,d⟩:=I.pin p hp;refine⟨(f.2 p.1 ?_).trans e,n,ne,nf,d⟩;intro q;rw[q,α] at e;have q':oc=p.2:=Option.some.inj e;exact d w' (by rw[<- q'];exact β)
theorem uE{Q:Unit->ak->Prop}(I:au X aa σ H s)(b:X.N.Nodup)(e:X.N[i]?=some x)(f:Loc X.env.scope x)(r:aE v u)(h:∀s',au X aa (σ.set i (some v)) H s'->Q () s')(d:ke X x:=by first |exact .inl rfl |exact .inr rfl |assumption):wpAny M A (storeName X.env x u) Q E s:=
 BN I b e f r (λs' a _=>h s' a) d
theorem au.eB(I:au X aa σ H s)(f:s'.os=s.os)(u:Un (cB X.stack) ch H H' s.heap s'.heap)(aN:dk X.prog X.w H' s'.heap)(d:AllBare s'.gens)(a:∀b∈ch,(b∈X.ex\/X.s₀.heap.objs.size<=b)/\b≠X.env.locals/\(∀x c,X.env.cells.lookup x=some c->c≠b)/\∀p∈X.pn++aa,p.1≠b):au X aa σ H' s':=by
 obtain⟨h',g',d',t',g⟩:=s';have e:g=s.os:=f;subst e;exact I.call (g':=g') (t':=t') (d':=d') u aN d a
end
abbrev XK:=Value->c7->Hp->Prop
abbrev St:=List (Option V)
abbrev VK:=V->Hp->Prop
abbrev TE:=St->Hp->VK->Prop
abbrev TT:=St->Hp->(Bool->Hp->Prop)->Prop
abbrev TA:=St->Hp->(aw->Hp->Prop)->Prop
structure g9 where
 nx:St->Hp->Prop
 rt:VK
 bk:St->Hp->Prop:=λ_ _=>False
 ct:St->Hp->Prop:=λ_ _=>False
abbrev TS:=g9->St->Hp->Prop
def EP(X:Cx)(aa:aV)(j:St)(Q:VK)(u:ai)(s':ak):Prop:=∃v a,au X aa j a s'/\aE v u/\Q v a
def TP(X:Cx)(aa:aV)(j:St)(Q:Bool->Hp->Prop)(b:Bool)(s':ak):Prop:=∃a,au X aa j a s'/\Q b a
def AP(X:Cx)(aa:aV)(j:St)(Q:aw->Hp->Prop)(us:aM)(s':ak):Prop:=∃vs a,au X aa j a s'/\aI vs us/\Q vs a
def SP(X:Cx)(aa:aV)(D:g9)(f:Flow)(s':ak):Prop:=
 match f with
 |.next=>∃b a,au X aa b a s' /\ D.nx b a
 |.brk=>∃b a,au X aa b a s' /\ D.bk b a
 |.cont=>∃b a,au X aa b a s' /\ D.ct b a
 |.ret u=>∃v b a,au X aa b a s' /\ aE v u /\ D.rt v a
def PE(X:Cx)(e:Expr)(t:TE):Prop:=
 ∀(aa:aV)(s:ak)(j:St)(H:Hp)(Q:VK),au X aa j H s->t j H Q->wpAny (model X.prog X.w) X.A (eval e X.env) (EP X aa j Q) X.xe s
def PT(X:Cx)(e:Expr)(t:TT):Prop:=
 ∀(aa:aV)(s:ak)(j:St)(H:Hp)(Q:Bool->Hp->Prop),au X aa j H s->t j H Q->wpAny (model X.prog X.w) X.A (isTrue e X.env (eval e X.env)) (TP X aa j Q) X.xe s
def PW(X:Cx)(e:Expr)(t:TT):Prop:=
 ∀(whole:Sem Value)(aa:aV)(s:ak)(j:St)(H:Hp)(Q:Bool->Hp->Prop),au X aa j H s->t j H Q->wpAny (model X.prog X.w) X.A (isTrue e X.env whole) (TP X aa j Q) X.xe s
theorem PW.pt(h:PW X e t):PT X e t:=h _
def PA(X:Cx)(a:bH)(t:TA):Prop:=
 ∀(pos:Pos)(aa:aV)(s:ak)(j:St)(H:Hp)(Q:aw->Hp->Prop),au X aa j H s->t j H Q->wpAny (model X.prog X.w) X.A (spliced (backTo pos (starEach a X.env))) (AP X aa j Q) X.xe s
def PS(X:Cx)(st:Stmt)(t:TS):Prop:=
 ∀(aa:aV)(s:ak)(j:St)(H:Hp)(D:g9),au X aa j H s->t D j H->wpAny (model X.prog X.w) X.A (exec st X.env) (SP X aa D) X.xe s
def fA(X:Cx)(st:List Stmt)(t:TS):Prop:=
 ∀(aa:aV)(s:ak)(j:St)(H:Hp)(D:g9),au X aa j H s->t D j H->wpAny (model X.prog X.w) X.A (execs st X.env) (SP X aa D) X.xe s
theorem bh{Q b:j->ak->Prop}(h:wpAny M A t Q E s)(d:∀a s,Q a s->b a s):wpAny M A t b E s:=wpAny_mono h d λ_ _ x=>x
section
variable{X:Cx}
def f7(i:Nat):TE:=λj H Q=>∃v,j[i]?=some (some v)/\Q v H
def tC(v:V):TE:=λ_ H Q=>Q v H
theorem q0(n:X.N[i]?=some x)(p:n4 X.env.scope x)(hd:du x:=by decide)(f:(x == ("__classdict__":Str))=false:=by decide):PE X (.Name x pos) (f7 i):=by
 intro aa s j H Q I h;obtain⟨v,e,h⟩:=h;obtain⟨m,hn,o⟩:=I.loc;obtain⟨u,r,l⟩:=o i x v n e p;have b:EP X aa j Q u s:=⟨v,H,I,r,h⟩;rcases l with⟨d,hm⟩ |⟨d,c,g,a⟩
 .exact wpAny_Name (wpAny_loadName_local I.ok.kind d hn hm b) hd
 .rcases d with d |d
  .exact wpAny_Name (wpAny_loadName_cell I.ok.kind d g a b) hd
  .exact wpAny_Name (wpAny_loadName_free I.ok.kind d g a b f) hd
theorem FR{i j pos}:PE X (.Constant (.int i) j pos) (tC (.int i)):=λ_ _ _ H _ I h=>wpAny_Constant_int ⟨.int i,H,I.tok _,⟨_,rfl⟩,h⟩
theorem S9{b j pos}:PE X (.Constant (.bool b) j pos) (tC (.bl b)):=λ_ _ _ H _ I h=>Constant_bool ⟨.bl b,H,I,rfl,h⟩
theorem JE{j pos}:PE X (.Constant .none j pos) (tC .aL):=λ_ _ _ H _ I h=>Constant_none ⟨.aL,H,I,rfl,h⟩
theorem D5{x j pos}:PE X (.Constant (.str x) j pos) (tC (.str x)):=λ_ _ _ H _ I h=>Calls.Constant_str ⟨.str x,H,I.tok _,⟨_,rfl⟩,h⟩
def Gl(X:Cx)(x:Str):Prop:=X.env.kindOf x=some .globalImplicit
theorem lL{Q:ai->ak->Prop}(I:au X aa j H s)(a:Gl X x)(hm:X.mg x=some u)(h:Q u s)(hd:du x:=by decide):wpAny (model X.prog X.w) X.A (eval (.Name x pos) X.env) Q E s:=
 Calls.Name_function_global I.ok.kind a (Calls.loadGlobal_global (by rw[I.ok.glob];exact I.mod.glob.keeps I.bk) hm h) hd
theorem i3{Q:ai->ak->Prop}(I:au X aa j H s)(d:Gl X x)(hm:X.mg x=none)(e:bootBuiltins x=some u)(h:Q u s)(hn:x≠"__name__":=by decide)(hd:du x:=by decide):wpAny (model X.prog X.w) X.A (eval (.Name x pos) X.env) Q E s:=by
 obtain⟨f,a,b⟩:=I.mod.blt;exact Calls.Name_function_global I.ok.kind d (Calls.loadGlobal_builtin (by rw[I.ok.glob];exact I.mod.glob.keeps I.bk) hm (by rw[I.ok.blt];exact a.keeps I.bk) ((b x hn).trans e) h) hd
theorem S2(a:Gl X x)(hm:X.mg x=some u)(r:aE v u)(hd:du x:=by decide):PE X (.Name x pos) (tC v):=
 λ_ _ _ H _ I h=>lL I a hm ⟨v,H,I,r,h⟩ hd
theorem Vz(a:Gl X x)(hm:X.mg x=none)(b:bootBuiltins x=some u)(r:aE v u)(hn:x≠"__name__":=by decide)(hd:du x:=by decide):PE X (.Name x pos) (tC v):=
 λ_ _ _ H _ I h=>i3 I a hm b ⟨v,H,I,r,h⟩ hn hd
variable{a b:Expr}{ta tb:TE}{pos:Pos}
def tB(t:TE):TT:=λj H Q=>t j H λx H1=>∃c,x=.bl c/\Q c H1
theorem NS(h:PE X e t)(he:∀whole,isTrue e X.env whole=(do let v <- whole;standAt e.pos;holding [v] (truthy v)):=by intro _;rfl):PT X e (tB t):=by
 intro aa s j H Q I l;refine isTrue_plain (bh (h aa s j H _ I l) λv n f=>?_) (he _);obtain⟨x,g,i,r1,m⟩:=f;obtain⟨d,rfl,q⟩:=m;cases r1;exact wpAny_truthy_bool ⟨g,i,q⟩
variable{tA tB':TT}{rest:bH}
def Ai(t u:TT):TT:=λj H Q=>t j H λc d=>if c=true then u j d Q else Q false d
def B8(t u:TT):TT:=λj H Q=>t j H λc d=>if c=true then Q true d else u j d Q
def BL(t:TT):TT:=λj H Q=>t j H λc H1=>Q (!c) H1
theorem Jk(d:PT X a tA):PW X (.BoolOp .And [a] pos) tA:=by
 intro g aa s j H Q I h;refine isTrue_and (bh (d aa s j H Q I h) λc f e=>?_);cases c with
 |true=>exact isTrue_and_nil e
 |false=>exact e
theorem Sa(d:PT X a tA):PW X (.BoolOp .Or [a] pos) tA:=by
 intro g aa s j H Q I h;refine isTrue_or (bh (d aa s j H Q I h) λc f e=>?_);cases c with
 |false=>exact isTrue_or_nil e
 |true=>exact e
theorem GU(i:PT X a tA)(l:PW X (.BoolOp .And (b::rest) pos) tB'):PW X (.BoolOp .And (a::b::rest) pos) (Ai tA tB'):=by
 intro n aa s j H Q I h;refine isTrue_and (bh (i aa s j H _ I h) λc m d=>?_);obtain⟨e,f,g⟩:=d;cases c with
 |true=>exact l n aa m j e Q f g
 |false=>exact⟨e,f,g⟩
theorem Mj(i:PT X a tA)(l:PW X (.BoolOp .Or (b::rest) pos) tB'):PW X (.BoolOp .Or (a::b::rest) pos) (B8 tA tB'):=by
 intro n aa s j H Q I h;refine isTrue_or (bh (i aa s j H _ I h) λc m d=>?_);obtain⟨e,f,g⟩:=d;cases c with
 |true=>exact⟨e,f,g⟩
 |false=>exact l n aa m j e Q f g
theorem Wq(e:PT X a tA):PT X (.UnaryOp .Not a pos) (BL tA):=by
 intro aa s j H Q I h;exact isTrue_not (e aa s j H (λc d=>Q (!c) d) I h)
def Ag(ta tb:TE):TE:=λj H Q=>ta j H λx d=>∃c,x=.bl c/\if c=true then tb j d Q else Q (.bl false) d
def Gs(ta tb:TE):TE:=λj H Q=>ta j H λx d=>∃c,x=.bl c/\if c=true then Q (.bl true) d else tb j d Q
theorem NM{op}(h:PE X a t):PE X (.BoolOp op [a] pos) t:=λaa s j H Q I d=>BoolOp_one (h aa s j H Q I d)
theorem KQ(i:PE X a ta)(l:PE X (.BoolOp .And (b::rest) pos) tb):PE X (.BoolOp .And (a::b::rest) pos) (Ag ta tb):=by
 intro aa s j H Q I h;refine BoolOp_and (bh (i aa s j H _ I h) λv m e=>?_);obtain⟨x,f,g,r1,d⟩:=e;obtain⟨c,rfl,d⟩:=d;cases r1;refine wpAny_truthy_bool ?_;cases c with
 |true=>exact l aa m j f Q g d
 |false=>exact⟨.bl false,f,g,rfl,d⟩
theorem KL(i:PE X a ta)(l:PE X (.BoolOp .Or (b::rest) pos) tb):PE X (.BoolOp .Or (a::b::rest) pos) (Gs ta tb):=by
 intro aa s j H Q I h;refine BoolOp_or (bh (i aa s j H _ I h) λv m e=>?_);obtain⟨x,f,g,r1,d⟩:=e;obtain⟨c,rfl,d⟩:=d;cases r1;refine wpAny_truthy_bool ?_;cases c with
 |false=>exact l aa m j f Q g d
 |true=>exact⟨.bl true,f,g,rfl,d⟩
def CP(t:TT)(ta tb:TE):TE:=λj H Q=>t j H λc d=>if c=true then ta j d Q else tb j d Q
theorem U7(o:PT X c tA)(m:PE X a ta)(n:PE X b tb):PE X (.IfExp c a b pos) (CP tA ta tb):=by
 intro aa s j H Q I h;refine wpAny_IfExp (bh (o aa s j H _ I h) λd l e=>?_);obtain⟨f,g,i⟩:=e;cases d with
 |true=>exact m aa l j f Q g i
 |false=>exact n aa l j f Q g i
end
def bE(K:ao)(H:Hp)(a:af)(xs:aw):Prop:=
 Rd H a (.ag xs)\/
  ∃(o:Obj)(b:dm)(n:Nat),K.lookup a=some o/\o.cls=.type "list"/\o.dict=none/\o.data=.seq b n/\b.size<=sizeLine/\aI xs b.toList
def df(K:ao)(H:Hp)(a:af)(xs:aw):Prop:=
 Rd H a (.aG xs)\/
  ∃(o:Obj)(b:dm)(n:Nat),K.lookup a=some o/\o.cls=.type "tuple"/\o.data=.seq b n/\b.size<=sizeLine/\aI xs b.toList
def OV:ai->Option V
 |.none=>some .aL
 |.bool b=>some (.bl b)
 |.int i _=>some (.int i)
 |.str x _=>some (.str x)
 |.bytes b _=>some (.gc b)
 |.float b _=>some (.kW b)
 |.ref a=>some (.ref a)
 |.type n=>some (.ty n)
 |_=>none
theorem aE.abs(r:aE x u):OV u=some x:=by
 cases x with
 |aL=>cases r;rfl
 |bl _=>cases r;rfl
 |int _=>obtain⟨t,rfl⟩:=r;rfl
 |str _=>obtain⟨t,rfl⟩:=r;rfl
 |gc _=>obtain⟨t,rfl⟩:=r;rfl
 |kW _=>obtain⟨t,rfl⟩:=r;rfl
 |ref _=>cases r;rfl
 |ty _=>cases r;rfl
theorem aE.inj(r:aE x u)(q:aE y u):x=y:=Option.some.inj (r.abs.symm.trans q.abs)
theorem aI.inj:∀{xs ys:aw}{us:aM},aI xs us->aI ys us->xs=ys
 |_,_,_,.nil,.nil=>rfl
 |_,_,_,.cons r t,.cons r' t'=>by rw[r.inj r',aI.inj t t']
section
variable{X:Cx}{aa:aV}{σ:St}{H:Hp}{s:ak}{a:af}{xs ys:aw}
theorem bE.of{K:ao}(h:H a=some (.ag xs)):bE K H a xs:=.inl (.inl h)
theorem df.of{K:ao}(h:H a=some (.aG xs)):df K H a xs:=.inl (.inl h)
theorem au.list(I:au X aa σ H s)(h:bE X.K H a xs):∃bo:aM,aI xs bo/\PlainL s.heap a bo.toArray/\xs.length<=sizeLine:=by
 rcases h with h |⟨o,bo,n,d,b,hd,f,g,r⟩
 .obtain⟨z,bo,n,r,e⟩:=h.ok I.aN;exact⟨bo,r,⟨_,n,e,rfl,rfl,rfl⟩,z⟩
 .refine⟨bo.toList,r,⟨o,n,I.cJ a o d,b,hd,by simpa using f⟩,?_⟩;have e:=r.length;simp only[length_toList] at e;omega
theorem au.tuple(I:au X aa σ H s)(h:df X.K H a xs):∃bo:aM,aI xs bo/\IsTup s.heap a bo.toArray/\xs.length<=sizeLine:=by
 rcases h with h |⟨o,bo,n,d,b,f,g,r⟩
 .obtain⟨z,bo,r,p⟩:=h.ok I.aN;exact⟨bo,r,p,z⟩
 .refine⟨bo.toList,r,⟨o,I.cJ a o d,b,n,by simpa using f⟩,?_⟩;have e:=r.length;simp only[length_toList] at e;omega
theorem au.cZ(I:au X aa σ H s)(h:bE X.K H a xs)(h':bE X.K H a ys):xs=ys:=by
 obtain⟨f,r,⟨o,n,e,_,_,d⟩,_⟩:=I.list h;obtain⟨b,j,⟨m,l,i,_,_,g⟩,_⟩:=I.list h';rw[e] at i;cases i;rw[d] at g;injection g with d1 _
 have:f=b:=by simpa using congrArg Array.toList d1
 subst this;exact r.inj j
end
abbrev Cx.fy(X:Cx)(E:ai->ak->Prop):Cx:={ X with xe:=E }
abbrev Cx.oa(X:Cx):Cx:=X.fy λ_ _=>False
theorem Cx.Ok.fy{X:Cx}(ok:X.Ok)(E:ai->ak->Prop):(X.fy E).Ok:=
 ⟨ok.mod,ok.kind,ok.glob,ok.blt,ok.above,ok.inj,ok.has,ok.lq,ok.hd,ok.frames,ok.mQ,ok.lZ,ok.bs,ok.jf,ok.gw,ok.gv,ok.dz,ok.jU⟩
theorem Cx.Ok.c6{X:Cx}{E:ai->ak->Prop}(ok:(X.fy E).Ok):X.Ok:=
 ⟨ok.mod,ok.kind,ok.glob,ok.blt,ok.above,ok.inj,ok.has,ok.lq,ok.hd,ok.frames,ok.mQ,ok.lZ,ok.bs,ok.jf,ok.gw,ok.gv,ok.dz,ok.jU⟩
section
variable{X:Cx}{aa:aV}{σ:St}{H:Hp}{s:ak}{E:ai->ak->Prop}
theorem au.fy(I:au X aa σ H s)(E:ai->ak->Prop):au (X.fy E) aa σ H s:=⟨I.ok.fy E,I.os,I.bare,I.base,I.loc,I.cell,I.free,I.bW,I.pin,I.aN,I.len⟩
theorem au.c6(I:au (X.fy E) aa σ H s):au X aa σ H s:=⟨I.ok.c6,I.os,I.bare,I.base,I.loc,I.cell,I.free,I.bW,I.pin,I.aN,I.len⟩
theorem SP.c6(h:SP (X.fy E) aa D f s'):SP X aa D f s':=by
 cases f with
 |next=>obtain⟨a,b,I,q⟩:=h;exact⟨a,b,I.c6,q⟩
 |brk=>obtain⟨a,b,I,q⟩:=h;exact⟨a,b,I.c6,q⟩
 |cont=>obtain⟨a,b,I,q⟩:=h;exact⟨a,b,I.c6,q⟩
 |ret u=>obtain⟨v,a,b,I,r,q⟩:=h;exact⟨v,a,b,I.c6,r,q⟩
theorem fA.oa{st:List Stmt}{t:TS}(h:fA X.oa st t):fA X st t:=λaa s σ H D I a=>
 wpAny_mono (h aa s σ H D (I.fy _) a) (λ_ _ q=>q.c6) λ_ _ z=>False.elim z
end
section
variable{X:Cx}{st:Stmt}{rest:List Stmt}{t u:TS}{e:Expr}{te:TE}{pos:Pos}
def BS:TS:=λD j H=>D.nx j H
def si(t u:TS):TS:=λD j H=>t { D with nx:=u D } j H
theorem VZ:fA X [] BS:=λ_ _ j H _ I h=>wpAny_execs_nil ⟨j,H,I,h⟩
theorem vc(d:PS X st t)(g:fA X rest u):fA X (st::rest) (si t u):=by
 intro aa s j H D I h;refine wpAny_execs_cons (bh (d aa s j H { D with nx:=u D } I h) λf l q=>?_);cases f with
 |next=>
  obtain⟨i,a,b,q⟩:=q;exact g aa l i a D b q
 |ret v=>exact q
 |brk=>exact q
 |cont=>exact q
theorem w1(a:PS X st t):fA X [st] t:=by
 intro aa s j H D I h;refine wpAny_execs_cons (bh (a aa s j H D I h) λf b q=>?_);cases f with
 |next=>exact wpAny_execs_nil q
 |ret v=>exact q
 |brk=>exact q
 |cont=>exact q
theorem au.quiet(I:au X aa j H s):interactive X.env=false:=by simp[interactive,I.ok.kind]
def pR(te:TE):TS:=λD j H=>te j H λ_ H1=>D.nx j H1
theorem tJ(he:PE X e te)(hs:swapsWith e none pos.line X.env=pure false:=by rfl):PS X (.Expr e pos) (pR te):=by
 intro aa s j H D I h;exact wpAny_Expr_any (bh (he aa s j H _ I h) λv g a=>by obtain⟨x,b,d,r1,f⟩:=a;exact⟨j,b,d,f⟩) I.quiet hs
def vI(te:TE):TS:=λD j H=>te j H D.rt
theorem Bv(he:PE X e te):PS X (.Return (some e) pos) (vI te):=by
 intro aa s j H D I h;exact wpAny_Return_some (bh (he aa s j H _ I h) λv g a=>by obtain⟨x,b,d,r1,f⟩:=a;exact⟨x,j,b,d,r1,f⟩)
def Ci(c:TT)(t u:TS):TS:=λD j H=>c j H λb a=>if b=true then t D j a else u D j a
theorem Ip(p:PT X c tc)(n:fA X a t)(o:fA X b u):PS X (.If c a b pos) (Ci tc t u):=by
 intro aa s j H D I h;refine wpAny_If (bh (p aa s j H _ I h) λd m f=>?_);obtain⟨g,i,l⟩:=f;cases d with
 |true=>exact n aa m j g D i l
 |false=>exact o aa m j g D i l
def OL:TS:=λ_ _ _=>False
theorem KO:PS X st OL:=λ_ _ _ _ _ _ h=>h.elim
end
abbrev TG:=V->St->Hp->(St->Hp->Prop)->Prop
abbrev mS:=aw->St->Hp->(St->Hp->Prop)->Prop
def PG(X:Cx)(a:Expr)(t:TG):Prop:=
 ∀(aa:aV)(s:ak)(j:St)(H:Hp)(v:V)(u:ai)(Q:St->Hp->Prop),au X aa j H s->aE v u->t v j H Q->
  wpAny (model X.prog X.w) X.A (assign a X.env u) (λ_ e=>∃d b,au X aa d b e/\Q d b) X.xe s
def nS(X:Cx)(e:bH)(t:mS):Prop:=
 ∀(aa:aV)(s:ak)(j:St)(H:Hp)(vs:aw)(us:aM)(Q:St->Hp->Prop),au X aa j H s->aI vs us->t vs j H Q->
  wpAny (model X.prog X.w) X.A (assignInOrder ((assignEach e X.env).map (·.2)) us) (λ_ d=>∃b a,au X aa b a d/\Q b a) X.xe s
abbrev An:=V->V->V->Hp->(Hp->Prop)->Prop
def E4(X:Cx)(t:An):Prop:=
 ∀(aa:aV)(s:ak)(j:St)(H:Hp)(o i v:V)(ov b u:ai)(Q:Hp->Prop),au X aa j H s->aE o ov->aE i b->aE v u->t o i v H Q->
  wpAny (model X.prog X.w) X.A (setItem ov b u) (λ_ d=>∃a,au X aa j a d/\Q a) X.xe s
section
variable{X:Cx}{pos:Pos}
def jb(i:Nat):TG:=λv j H Q=>Q (j.set i (some v)) H
theorem vV(b:X.N.Nodup)(e:X.N[i]?=some x)(f:Loc X.env.scope x)(d:ke X x:=by first |exact .inl rfl |exact .inr rfl |assumption):PG X (.Name x pos) (jb i):=by
 intro aa s j H v u Q I r h;exact wpAny_assign_Name (uE I b e f r (λg a=>⟨_,H,a,h⟩) d)
def xa:mS:=λvs j H Q=>vs=[]/\Q j H
def wj(t:TG)(u:mS):mS:=λvs j H Q=>∃v r,vs=v::r/\t v j H λb a=>u r b a Q
theorem BI:nS X [] xa:=by
 intro aa s j H vs us Q I r h;obtain⟨e,h⟩:=h;subst e;cases r;exact assignInOrder_nil ⟨j,H,I,h⟩
theorem Cj(g:PG X e t)(i:nS X es u)(hs:(assignEach (e::es) X.env).map (·.2)=assign e X.env::(assignEach es X.env).map (·.2):=by rfl):nS X (e::es) (wj t u):=by
 intro aa s j H vs us Q I r h;obtain⟨v,p,f,h⟩:=h;subst f;cases r with
 |cons r n=>
  rw[hs];refine assignInOrder_cons (bh (g aa s j H _ _ _ I r h) λ_ o a=>?_);obtain⟨l,b,d,m⟩:=a;exact i aa o l b _ _ Q d n m
def vD(K:ao)(n:Nat)(t:mS):TG:=λv j H Q=>∃a b,v=.ref a/\df K H a b/\b.length=n/\t b j H Q
theorem BQ(p:X.calm=true)(h:nS X es t)(hn:(assignEach es X.env).length=n:=by rfl)(d:(assignEach es X.env).findIdx? (·.1)=none:=by rfl):PG X (.Tuple es k pos) (vD X.K n t):=by
 intro aa s j H v u Q I r f;obtain⟨a,A,l,w,q,f⟩:=f;subst l;cases r;obtain⟨z,g,x,B⟩:=I.tuple w;refine assign_Tuple_tuple (I.ok.hd p) x (by simp[hn,<- q,g.length]) d λm y=>?_
 have i:au X aa j H { s with heap:=m }:=I.kept (t':=s.toks) λb o e=>y b o (ne_of_lt (Heap.lt_size e)) e
 exact h aa _ j H A _ Q i (by simpa using g) f
def CG(f e:TE)(t:An):TG:=λv j H Q=>f j H λo a=>e j a λi b=>t o i v b λd=>Q j d
theorem K7(q:PE X o to)(p:PE X i ti)(hs:E4 X t)(n:∀v,assign (.Subscript o i pos) X.env v=(do
   let ov <- holding [v] (eval o X.env)
   let b <- holding [v,ov] (eval i X.env)
   standAt pos
   holding [v,ov,b] (setItem ov b v)
   release [v,ov,b] []):=by intro _;rfl):PG X (.Subscript o i pos) (CG to ti t):=by
 intro aa s j H v u Q I r h;rw[n];refine wpAny_bind (wpAny_holding (bh (q aa s j H _ I h) λov B a=>?_));obtain⟨x,d,g,r1,w⟩:=a;refine wpAny_bind (wpAny_holding (bh (p aa B j d _ g w) λb C a=>?_));obtain⟨y,e,l,r2,z⟩:=a;refine wpAny_bind (wpAny_standAt (wpAny_bind (wpAny_holding (bh (hs aa C j e x y v ov b u _ l r1 r2 r z) λ_ D a=>?_))));obtain⟨f,m,A⟩:=a;exact wpAny_release ⟨j,f,m,A⟩
def kI(b:TE)(g:TG):TS:=λD j H=>b j H λx a=>g x j a D.nx
theorem Ei(he:PE X e te)(i:PG X tg g)(hs:swapsWithSole [tg] e pos.line X.env=pure false:=by rfl)(l:swappedStores [tg] e X.env=pure none:=by rfl)(f:(assignEach [tg] X.env).map (·.2)=[assign tg X.env]:=by rfl):PS X (.Assign [tg] e pos) (kI te g):=by
 intro aa s j H D I h;refine wpAny_Assign_stores (bh (he aa s j H _ I h) λv n a=>?_) hs l;obtain⟨x,b,d,r1,m⟩:=a;rw[f];exact bh (i aa n j b x v _ d r1 m) λ_ o q=>q
theorem q5(g:X.N.Nodup)(m:X.N[i]?=some x)(n:Loc X.env.scope x)(he:PE X e te)(hs:swapsWith e (some (.Name x pos')) pos.line X.env=pure false:=by rfl)(l:ke X x:=by first |exact .inl rfl |exact .inr rfl |assumption):
  PS X (.Assign [.Name x pos'] e pos) (kI te (jb i)):=by
 intro aa s j H D I h;refine wpAny_Assign_Name (bh (he aa s j H _ I h) λv p a=>?_) hs;obtain⟨y,b,d,r1,o⟩:=a;exact uE d g m n r1 (λq f=>⟨_,b,f,o⟩) l
def D7(i j:Nat)(b:TA):TS:=λD G H=>b G H λvs a=>∃v w,vs=[v,w]/\D.nx ((G.set i (some v)).set j (some w)) a
theorem Pb{kt k2 pt2}(hc:X.calm=true)(C:X.N.Nodup)(hi:X.N[i]?=some x)(hj:X.N[j]?=some y)(l:i≠j)(E:X.env.scope.names.lookup x=some .local)(J:X.env.scope.names.lookup y=some .local)(Y:PA X [a,b] ta)(hw:swappedStores [.Tuple [.Name x px,.Name y py] kt pt] (.Tuple [a,b] k2 pt2) X.env=pure (some [x,y]))(hs:swapsWithSole [.Tuple [.Name x px,.Name y py] kt pt] (.Tuple [a,b] k2 pt2) pos.line X.env=pure false:=by rfl):
  PS X (.Assign [.Tuple [.Name x px,.Name y py] kt pt] (.Tuple [a,b] k2 pt2) pos) (D7 i j ta):=by
 intro aa s G H D I h;rw[exec_Assign_arm];refine wpAny_bind (wpAny_standAt ?_);rw[hs];refine wpAny_bind (wpAny_pure ?_);rw[if_neg (by decide)];refine wpAny_bind (Tuple_ (bh (Y _ aa s G H _ I h) λus d u=>?_));obtain⟨vs,z,L,r1,n⟩:=u;obtain⟨v,w,U,n⟩:=n;subst U;obtain⟨f,g,rfl,rv,r⟩:∃f g,us=[f,g]/\aE v f/\aE w g:=by
  cases r1 with
  |cons p q=>
   cases q with
   |cons p' q'=>
    cases q';exact⟨_,_,rfl,p,p'⟩
 refine wpAny_newObj_type ?_ (by show 2<=sizeLine;decide);have M:au X aa G z { d with heap:=d.heap.push { cls:=.type "tuple",data:=.seq [f,g].toArray } }:=L.kept (t':=d.toks) λb o e=>Heap.get?_push_of_some _ e
 rw[hw];refine wpAny_bind (wpAny_pure ?_);show wpAny (model X.prog X.w) X.A (do rule "assign.swapped-stores";let items <- unpackItems (.ref d.heap.objs.size) 2 none;assignInOrder [λv=>bindName X.env y v,λv=>bindName X.env x v] items.reverse;pure Flow.next) _ _ _;refine wpAny_bind (wpAny_rule (wpAny_bind (unpackItems_tuple (items:=#[f,g]) (I.ok.hd hc) (IsTup.new d.heap _) λh' m=>?_)));have O:=M.kept (h':=h') (t':=d.toks) λb o e=>m b o (ne_of_lt (Heap.lt_size e)) e
 show wpAny _ _ (assignInOrder [λv=>bindName X.env y v,λv=>bindName X.env x v] [g,f] >>= λ_=>pure Flow.next) _ _ _;refine wpAny_bind (assignInOrder_cons (wpAny_bindName (uE O C hj (.inl J) r (λs2 Q=>?_) (.inr J))));refine assignInOrder_cons (wpAny_bindName (uE Q C hi (.inl E) rv (λs3 B=>assignInOrder_nil (wpAny_pure ?_)) (.inr E)));rw[List.set_comm _ _ (Ne.symm l)] at B;exact⟨_,z,B,n⟩
end
section
variable{X:Cx}{pos:Pos}
def Cb(c:TT)(tb:TS):TS:=λD j H=>∃W:Nat->St->Hp->Prop,(∃m,W m j H)/\∀m j H,W m j H->
 c j H λb d=>if b=true then ∃N:St->Hp->Prop,(∀e a,N e a->∃f,f<m/\W f e a)/\tb { D with nx:=N,ct:=N,bk:=D.nx } j d else D.nx j d
theorem OU(hp:PassesOwn (model X.prog X.w) X.A X.env X.xe)(E:PT X c tc)(C:fA X body tb):PS X (.While c body [] pos) (Cb tc tb):=by
 intro aa s j H D I h;obtain⟨W,⟨G,w0⟩,turn⟩:=h;refine wpAny_While (codeAny_whileLoop (λn J=>∃z q,au X aa z q J/\W n z q) ?_ G ⟨j,H,I,w0⟩);rintro n L ⟨e,r,B,O⟩;refine wpAny_passesOwn hp (bh (E aa L e r _ B (turn n e r O)) λb M p=>?_);obtain⟨u,x,g⟩:=p;cases b with
 |true=>
  obtain⟨N,y,g⟩:=g;rw[if_pos rfl];refine wpAny_passesOwn hp (bh (C aa M e u _ x g) λf Q i=>?_);cases f with
  |next=>
   obtain⟨d,a,l,o⟩:=i;obtain⟨m,hm,w3⟩:=y d a o;exact⟨m,hm,d,a,l,w3⟩
  |cont=>
   obtain⟨d,a,l,o⟩:=i;obtain⟨m,hm,w3⟩:=y d a o;exact⟨m,hm,d,a,l,w3⟩
  |brk=>exact i
  |ret v=>exact i
 |false=>
  rw[if_neg Bool.false_ne_true];exact wpAny_execs_nil ⟨e,u,x,g⟩
end
structure It where
 go:Nat->Hp->Prop
 kK:Nat->Hp->V->Hp->Prop
 stop:Nat->Hp->Prop
def gn(X:Cx)(aa:aV)(H:Hp)(b:af):Prop:=
 H b=none/\b≠X.env.locals/\b ∉ X.fs/\(b∈X.ex\/X.s₀.heap.objs.size<=b)/\(∀x c,X.env.cells.lookup x=some c->c≠b)/\∀p∈X.pn++aa,p.1≠b
theorem au.fb{H d:Hp}(I:au X aa j H s)(a:s.heap.objs.size<=b)(hn:d b=none):gn X aa d b:=by
 refine⟨hn,Nat.ne_of_gt (lt_of_lt_of_le I.lt a),I.y6 a,.inr (le_trans I.sz a),λx c e z=>?_,λp f z=>?_⟩
 .obtain⟨v,q⟩:=I.cell x c e;exact absurd (lt_of_lt_of_le q.lt (by rw[z];exact a)) (lt_irrefl _)
 .exact absurd (lt_of_lt_of_le (Heap.lt_size (I.pin p f).1) (by rw[z];exact a)) (lt_irrefl _)
structure kd(P:Program)(w:World)(K:ao)(tg:Expr)(J:It)(fp:cD)(it:af)(tn:Nat->aT->Prop):Prop where
 mem:it∈fp
 obj:∀i h,tn i h->∀b∈fp,∃o,h.get? b=some o/\∀v,o.data≠.cell v
 keep:∀i h h',tn i h->(∀b∈fp,∀o,h.get? b=some o->h'.get? b=some o)->tn i h'
 item:∀(X:Cx),X.prog=P->X.w=w->X.K=K->X.calm=true->∀(i:Nat)(aa:aV)(s:ak)(j:St)(H:Hp)(E:ai->ak->Prop),au X aa j H s->(∀b∈fp,gn X aa H b)->tn i s.heap->J.go i H->
  wpAny (model P w) X.A (pyNext (.ref it)) (λr s1=>∃u,r=some u/\
   wpAny (model P w) X.A (letOwnedTupleGo tg (.ref it) u) (λ_ s2=>∃x H',au X aa j H' s2/\aE x u/\J.kK i H x H'/\tn (i+1) s2.heap/\∀b∈fp,H' b=none) E s1) E s
 done:∀(X:Cx),X.prog=P->X.w=w->X.K=K->X.calm=true->∀(i:Nat)(aa:aV)(s:ak)(j:St)(H:Hp)(E:ai->ak->Prop),au X aa j H s->(∀b∈fp,gn X aa H b)->tn i s.heap->J.stop i H->
  wpAny (model P w) X.A (pyNext (.ref it)) (λr s1=>r=none/\au X aa j H s1) E s
 self:∀(A:Around)(i:Nat)(s:ak)(Q:ai->ak->Prop)(E:ai->ak->Prop),tn i s.heap->Q (.ref it) s->wpAny (model P w) A (pyIter (.ref it)) Q E s
abbrev TI:=St->Hp->(It->Hp->Prop)->Prop
def Ay(X:Cx)(aa:aV)(j:St)(h:Expr)(R:It->Hp->Prop)(d:ai)(f:ak):Prop:=
 ∃(it:af)(e:cD)(g:Nat->aT->Prop)(J:It)(a:Hp),d=.ref it/\au X aa j a f/\kd X.prog X.w X.K h J e it g/\g 0 f.heap/\(∀b∈e,gn X aa a b)/\R J a
def PI(X:Cx)(d a:Expr)(e:TI):Prop:=
 ∀(aa:aV)(s:ak)(j:St)(H:Hp)(R:It->Hp->Prop),au X aa j H s->e j H R->
  wpAny (model X.prog X.w) X.A (eval a X.env) (λv b=>wpAny (model X.prog X.w) X.A (pyIter v) (Ay X aa j d R) X.xe b) X.xe s
theorem sv{Q:Unit->ak->Prop}(d:s.heap.get? it=some o)(b:o.cls=.type n)(hd:o.data=.fields vs)(hn:["enumerate","zip","dict_itemiterator","dict_reverseitemiterator","odict_iterator","itertools.zip_longest","itertools.pairwise"].contains n=false)(a:Q () s):wpAny M A (letOwnedTupleGo tg (.ref it) u) Q E s:=by
 unfold letOwnedTupleGo;cases tg<;>first
  |exact wpAny_pure a
  |(cases u<;>first
    |exact wpAny_pure a
    | (refine wpAny_bind (wpAny_load d ?_)
       rw[b,hd];show wpAny M A (if (["enumerate","zip","dict_itemiterator","dict_reverseitemiterator","odict_iterator","itertools.zip_longest","itertools.pairwise"].contains n&&vs[0]? == some (rawInt _))=true then _ else _) Q E s;rw[if_neg (by intro h;rw[hn,Bool.false_and] at h;cases h)];exact wpAny_pure a))
def rl(K:ao)(a:af):It:=
 ⟨λi H=>∃b x,bE K H a b/\b[i]?=some x,λi H x d=>d=H/\∀b,bE K H a b->b[i]?=some x,λi H=>∃b,bE K H a b/\b.length<=i⟩
def mD(lo:Int)(n:Nat):It:=⟨λi _=>i<n,λi H x a=>a=H/\x=.int (lo+i),λi _=>n<=i⟩
theorem Kx{P:Program}{w:World}{K:ao}{tg:Expr}(a it:af):kd P w K tg (rl K a) [it] it (λi h=>h.IsListIter it a i) where
 mem:=by simp
 obj:=λi h st b f=>by
  have e:b=it:=by simpa using f
  subst e;obtain⟨o,e,c,d⟩:=st;exact⟨o,e,λv z=>by rw[d] at z;cases z⟩
 keep:=λi h l st k=>st.at λo e=>k it (by simp) o e
 item:=by
  intro X D J C O i aa s j H E I m st G;subst D J C;obtain⟨xs,x,n,L⟩:=G;obtain⟨M,N,p,hz⟩:=I.list n;obtain⟨u,Y,ru⟩:=N.get L;obtain⟨q,r,U,y,A,B⟩:=m it (by simp);refine wpAny_pyNext_list_item st p.isList (x:=u) (by simpa using Y) λl g sb=>?_
  have Q:au X aa j H { s with heap:=l }:=I.turned (t':=s.toks) (λb o f e=>(sb.2 b f).trans e) q r y A B;obtain⟨o,e,c,d⟩:=id g;exact⟨u,rfl,sv (s:={ s with heap:=l }) e c d (by decide) ⟨x,H,Q,ru,⟨rfl,λys hy=>by rw[I.cZ hy n];exact L⟩,g,λb f=>(m b f).1⟩⟩
 done:=by
  intro X D J C O i aa s j H E I m st G;subst D J C;obtain⟨xs,n,L⟩:=G;obtain⟨M,N,p,hz⟩:=I.list n;obtain⟨q,r,U,y,A,B⟩:=m it (by simp);have hl:=N.length;exact wpAny_pyNext_list_end (I.ok.hd O) st p.isList (by simp;omega) λl eb=>⟨rfl,I.turned (t':=s.toks) (λb o f e=>eb b o f e) q r y A B⟩
 self:=λ_ _ _ _ _ st h=>wpAny_pyIter_listiter st h
theorem Oo{P:Program}{w:World}{K:PySem.W.Frag}{M:Expr}(it:af)(lo:Int)(n:Nat):kd P w K M (mD lo n) [it] it (λi h=>IsRangeIter h it (lo+(i:Nat)*1) ((n:Int) - (i:Nat)) 1) where
 mem:=by simp
 obj:=λi h st b a=>by
  have e:b=it:=by simpa using a
  subst e;exact⟨_,st,λv z=>by
   have N:Data.fields _=Data.cell v:=z;cases N⟩
 keep:=λi h f st k=>k it (by simp) _ st
 item:=by
  intro X x B u y i aa s j H E I g st A;subst x B u;obtain⟨l,m,G,p,q,r⟩:=g it (by simp);have W:=Walks.range (prog:=X.prog) (w:=X.w) (I.ok.hd y) it lo 1 n;refine W.item i s _ _ A st λv f C J d L=>?_
  obtain⟨t,rfl⟩:=J;have D:au X aa j H { s with heap:=f,toks:=C }:=I.turned (λb o a e=>L b o (by simpa using a) e) l m p q r;refine⟨_,rfl,sv (s:={ s with heap:=f,toks:=C }) (n:="range_iterator") d rfl rfl (by decide) ⟨.int (lo+i),H,D,⟨t,?_⟩,⟨rfl,rfl⟩,d,λb a=>(g b a).1⟩⟩;rw[Int.mul_one]
 done:=by
  intro X x B u y i aa s j H E I g st A;subst x B u;obtain⟨l,m,G,p,q,r⟩:=g it (by simp);exact wpAny_pyNext_range_end (I.ok.hd y) st (by have:n<=i:=A;omega) λf eb=>⟨rfl,I.turned (t':=s.toks) (λb o a e=>eb b o a e) l m p q r⟩
 self:=λ_ _ _ _ _ st h=>wpAny_pyIter_rangeiter st h
section
variable{X:Cx}{tg:Expr}
def Ec(K:ao)(d:TE):TI:=λj H R=>d j H λx b=>∃a,x=.ref a/\(∃e,bE K b a e)/\R (rl K a) b
theorem Hl{l:Expr}{i:TE}(r:PE X l i):PI X tg l (Ec X.K i):=by
 intro aa s j H R I h;refine bh (r aa s j H _ I h) λv f g=>?_
 obtain⟨x,m,d,r1,y⟩:=g;obtain⟨a,e,⟨B,u⟩,q⟩:=y;subst e;cases r1;obtain⟨w,A,p,z⟩:=d.list u;refine wpAny_pyIter_list p.isList ?_;refine⟨f.heap.objs.size,[f.heap.objs.size],_,_,m,rfl,d.kept (t':=f.toks) λb o e=>Heap.get?_push_of_some _ e,Kx a _,⟨_,Heap.get?_push_size _ rfl,rfl,rfl⟩,λb n=>?_,q⟩;have e:b=f.heap.objs.size:=by simpa using n
 subst e;exact d.fb (le_refl _) (d.aN.fresh (le_refl _))
theorem AQ{aa:aV}{j:St}{H:Hp}{s:ak}{R:It->Hp->Prop}{E:ai->ak->Prop}{lo a:Int}{t u v:Tok}{f:Nat}(I:au X aa j H s)(h:-(2 ^ 62)<=lo)(i:lo<2 ^ 62)(l:-(2 ^ 62)<=a)(m:a<2 ^ 62)(q:R (mD lo (a - lo).toNat) H):wpAny (model X.prog X.w) X.A (pyIter (.ref s.heap.objs.size)) (Ay X aa j tg R) E { s with heap:=s.heap.push { cls:=.type "range",data:=.fields #[.int lo t,.int a u,.int 1 v] },toks:=f }:=by
 refine wpAny_pyIter_range (IsRange.new ..) (small_one h i l m) ?_;have d:au X aa j H { s with heap:=s.heap.push { cls:=.type "range",data:=.fields #[.int lo t,.int a u,.int 1 v] },toks:=f }:=I.kept λb o e=>Heap.get?_push_of_some _ e
 refine⟨(s.heap.push { cls:=.type "range",data:=.fields #[.int lo t,.int a u,.int 1 v] }).objs.size,[(s.heap.push { cls:=.type "range",data:=.fields #[.int lo t,.int a u,.int 1 v] }).objs.size],_,_,H,rfl,
  d.kept (t':=f) λb o e=>Heap.get?_push_of_some _ e,Oo _ lo (a - lo).toNat,?_,λb n=>?_,q⟩
 .have e1:lo+((0:Nat):Int)*1=lo:=by simp
  have g:(((a - lo).toNat:Nat):Int) - ((0:Nat):Int)=Builtin.Range.rangeSize lo a 1:=by rw[rangeSize_one];split<;>omega
  show IsRangeIter _ _ (lo+((0:Nat):Int)*1) ((((a - lo).toNat:Nat):Int) - ((0:Nat):Int)) 1;rw[e1,g];exact Heap.get?_push_size _ rfl
 .have e:b=(s.heap.push { cls:=.type "range",data:=.fields #[.int lo t,.int a u,.int 1 v] }).objs.size:=by simpa using n
  subst e;exact d.fb (le_refl _) (d.aN.fresh (le_refl _))
def C6(b:TA):TI:=λi H R=>b i H λvs a=>∃j:Int,vs=[.int j]/\-(2 ^ 62)<=j/\j<2 ^ 62/\R (mD 0 j.toNat) a
def Eh(b:TA):TI:=λG H R=>b G H λvs a=>∃i j:Int,vs=[.int i,.int j]/\(-(2 ^ 62)<=i/\i<2 ^ 62/\-(2 ^ 62)<=j/\j<2 ^ 62)/\R (mD i (j - i).toNat) a
theorem QD{a:Expr}{f:TA}{p pos:Pos}(m:Gl X "range")(hm:X.mg "range"=none)(l:PA X [a] f)(hs:j7 a X.env:=by rfl):PI X tg (.Call (.Name "range" p) [a] [] pos) (C6 f):=by
 intro aa s i H R I h;refine Call_ (i3 I m hm boot_range (PyProof.Rows.callWith_type1 (bh (l pos aa s i H _ I h) λus w d=>?_) hs rfl));obtain⟨vs,u,g,r1,b⟩:=d;obtain⟨j,e,b,n,q⟩:=b;subst e;cases r1 with
 |cons r o=>
  cases o;obtain⟨t,rfl⟩:=r;exact call_range_1 (AQ g (by omega) (by omega) b n (by simpa using q))
theorem LB(o:Gl X "range")(hm:X.mg "range"=none)(n:PA X [a,b] ta)(hs:nI a b X.env:=by rfl)(d:j7 b X.env:=by rfl):
  PI X tg (.Call (.Name "range" p) [a,b] [] pos) (Eh ta):=by
 intro aa s G H R I h;refine Call_ (i3 I o hm boot_range (PyProof.Rows.callWith_type1 (bh (n pos aa s G H _ I h) λus A l=>?_) (by rw[hs,d]) (by rw[d];rfl)));obtain⟨vs,z,m,r1,f⟩:=l;obtain⟨i,j,e,⟨f,u,w,x⟩,q⟩:=f;subst e;cases r1 with
 |cons r g=>
  cases g with
  |cons y g=>
   cases g;obtain⟨t,rfl⟩:=r;obtain⟨B,rfl⟩:=y;exact call_range_2 (AQ m f u w x q)
def yZ(l:TI)(g:TG)(tb:TS):TS:=λD j H=>l j H λJ e=>∃W:Nat->Nat->St->Hp->Prop,(∃m,W 0 m j e)/\∀i m j H,W i m j H->
 (J.stop i H/\D.nx j H)\/(J.go i H/\∃N:St->Hp->Prop,(∀b a,N b a->∃d,d<m/\W (i+1) d b a)/\∀x a,J.kK i H x a->g x j a λh f=>tb { D with nx:=N,ct:=N,bk:=D.nx } h f)
def pY(fp:cD)(h:aT):aV:=fp.filterMap λb=>(h.get? b).map λo=>(b,o)
theorem rb(a:b∈fp)(e:h.get? b=some o):(b,o)∈pY fp h:=mem_filterMap.mpr ⟨b,a,by rw[e];rfl⟩
theorem Oy(hp:p∈pY fp h):p.1∈fp/\h.get? p.1=some p.2:=by
 obtain⟨b,d,e⟩:=mem_filterMap.mp hp;cases q:h.get? b with
 |none=>rw[q] at e;cases e
 |some o=>
  rw[q] at e;have a:(b,o)=p:=Option.some.inj e;subst a;exact⟨d,q⟩
theorem au.pinned(I:au X aa j H s)(l:∀b∈fp,gn X aa H b)(m:∀b∈fp,∃o,s.heap.get? b=some o/\∀v,o.data≠.cell v):au X (aa++pY fp s.heap) j H s:=
 I.eL λp n=>(mem_append.mp n).elim (λz=>I.pin p (mem_append_right _ z)) λz=>by
  obtain⟨f,e⟩:=Oy z;obtain⟨g,h,i,_⟩:=l p.1 f;obtain⟨o,a,d⟩:=m p.1 f;rw[e] at a;cases a;exact⟨e,g,h,i,d⟩
theorem au.e6(I:au X (aa++pl) j H s):au X aa j H s:=I.eL λp a=>I.pin p (mem_append_right _ (List.mem_append_left _ a))
theorem EV(hp:PassesOwn (model X.prog X.w) X.A X.env X.xe)(hc:X.calm=true)(hi:PI X tg iter wi)(hg:PG X tg g)(q:fA X body tb)(hs:∀x,foldedSetIterable iter X.env x=pure x:=by intro _;rfl):PS X (.For tg iter body [] pos) (yZ wi g tb):=by
 intro aa s j H D I h;refine wpAny_For (bh (hi aa s j H _ I h) λv s1 h1=>bh h1 λδ s2 h2=>?_) hs;obtain⟨it,G,tn,J,H2,e,I2,T,γ,f2,W,⟨m0,w0⟩,turn⟩:=h2;subst e;have z:∀{B:Hp},(∀b∈G,B b=none)->∀b∈G,gn X aa B b:=λhn b q=>⟨hn b q,(f2 b q).2⟩
 refine codeAny_forLoop_any (λn s'=>∃i M B,au X aa M B s'/\tn i s'.heap/\(∀b∈G,B b=none)/\W i n M B) ?_ m0 ⟨0,j,H2,I2,γ,λb q=>(f2 b q).1,w0⟩;rintro n s3 ⟨i,O,Y,I3,U,L,w3⟩;rcases turn i n O Y w3 with⟨stop,qn⟩ |⟨go,N,hN,step⟩
 .refine wpAny_passesOwn hp (bh (T.done X rfl rfl rfl hc i aa s3 O Y X.xe I3 (z L) U stop) λr s4 a=>?_);obtain⟨hr,I4⟩:=a;subst hr;exact wpAny_execs_nil ⟨O,Y,I4,qn⟩
 .refine wpAny_passesOwn hp (bh (T.item X rfl rfl rfl hc i aa s3 O Y X.xe I3 (z L) U go) λr s4 a=>?_);obtain⟨u,hr,h4⟩:=a;subst hr;refine wpAny_passesOwn hp (bh h4 λ_ s5 a=>?_);obtain⟨x,H5,I5,r5,y5,E,β⟩:=a;have α:=I5.pinned (z β) (T.obj _ _ E);refine wpAny_passesOwn hp (bh (hg _ s5 O H5 x u _ α r5 (step x H5 y5)) λ_ s6 a=>?_);obtain⟨j6,H6,I6,q6⟩:=a;refine wpAny_passesOwn hp (bh (q _ s6 j6 H6 _ I6 q6) λf s7 C=>?_);have again:∀{y:St}{l:Hp},au X (aa++pY G s5.heap) y l s7->N y l->∃m,m<n/\∃i M B,au X aa M B s7/\tn i s7.heap/\(∀b∈G,B b=none)/\W i m M B:=λ{y l} p Q=>by
   obtain⟨m',hm,w7⟩:=hN y l Q;refine⟨m',hm,i+1,y,l,p.e6,T.keep _ _ _ E λb q o e=>(p.pin (b,o) (mem_append_right _ (mem_append_right _ (rb q e)))).1,λb q=>?_,w7⟩;obtain⟨o,e,d⟩:=T.obj _ _ E b q;exact (p.pin (b,o) (mem_append_right _ (mem_append_right _ (rb q e)))).2.1
  cases f with
  |next=>obtain⟨y,l,p,Q⟩:=C;exact again p Q
  |cont=>obtain⟨y,l,p,Q⟩:=C;exact again p Q
  |brk=>obtain⟨y,l,p,C⟩:=C;exact⟨y,l,p.e6,C⟩
  |ret v=>obtain⟨x7,y,l,p,r7,C⟩:=C;exact⟨x7,y,l,p.e6,r7,C⟩
end
abbrev R2:=V->V->Hp->VK->Prop
def b6(X:Cx)(f:ai->ai->Sem Value)(r:R2):Prop:=
 ∀(aa:aV)(s:ak)(j:St)(H:Hp)(x y:V)(v u:ai)(Q:VK),au X aa j H s->aE x v->aE y u->r x y H Q->
  wpAny (model X.prog X.w) X.A (f v u) (EP X aa j Q) X.xe s
def wM(X:Cx)(f:ai->Sem Value)(r:V->Hp->VK->Prop):Prop:=
 ∀(aa:aV)(s:ak)(j:St)(H:Hp)(x:V)(v:ai)(Q:VK),au X aa j H s->aE x v->r x H Q->
  wpAny (model X.prog X.w) X.A (f v) (EP X aa j Q) X.xe s
def bK(X:Cx)(f:ai)(r:aw->Hp->VK->Prop):Prop:=
 ∀(aa:aV)(s:ak)(j:St)(H:Hp)(a:aw)(us:aM)(Q:VK),au X aa j H s->aI a us->r a H Q->
  wpAny (model X.prog X.w) X.A (call f us) (EP X aa j Q) X.xe s
def P9(X:Cx)(r:V->Hp->(Bool->Hp->Prop)->Prop):Prop:=
 ∀(aa:aV)(s:ak)(j:St)(H:Hp)(x:V)(v:ai)(Q:Bool->Hp->Prop),au X aa j H s->aE x v->r x H Q->
  wpAny (model X.prog X.w) X.A (truthy v) (TP X aa j Q) X.xe s
def mW(r:R2)(d tb:TE):TE:=λj H Q=>d j H λx a=>tb j a λy b=>r x y b Q
def Fe(r:V->Hp->VK->Prop)(b:TE):TE:=λj H Q=>b j H λx a=>r x a Q
def rI(C:Int->Int->Prop)(g:Int->Int->V):R2:=λx y H Q=>∃i j,x=.int i/\y=.int j/\C i j/\Q (g i j) H
def iJ(g:Int->Int->V):R2:=λx y H Q=>∃i j,x=.int i/\y=.int j/\Q (g i j) H
def rU(g:Int->V):V->Hp->VK->Prop:=λx H Q=>∃i,x=.int i/\Q (g i) H
section
variable{X:Cx}{a b c:Expr}{ta tb tc:TE}{pos:Pos}
theorem wa(p:PE X a ta)(q:PE X b tb){R:V->V->Hp->Prop}(I:au X aa j H s)(h:ta j H λx m=>tb j m λy e=>R x y e){f:ai->ai->Sem Value}(r:∀v u l x y e,au X aa j e l->aE x v->aE y u->R x y e->wpAny (model X.prog X.w) X.A (f v u) Q X.xe l):
  wpAny (model X.prog X.w) X.A (eval a X.env) (λv g=>wpAny (model X.prog X.w) X.A (eval b X.env) (λu i=>wpAny (model X.prog X.w) X.A (f v u) Q X.xe i) X.xe g) X.xe s:=by
 refine bh (p aa s j H _ I h) λv C d=>?_
 obtain⟨x,m,n,r1,z⟩:=d;refine bh (q aa C j m _ n z) λu l d=>?_
 obtain⟨y,e,o,r2,B⟩:=d;exact r v u l x y e o r1 r2 B
theorem Qo(i:b6 X (binaryOp op) r)(f:PE X a ta)(g:PE X b tb):PE X (.BinOp a op b pos) (mW r ta tb):=by
 intro aa s j H Q I h;exact wpAny_BinOp (wa f g I h λv u n x y d e l m q=>i aa n j d x y v u Q e l m q)
theorem T7(i:wM X (unaryOp op) r)(g:PE X a ta):PE X (.UnaryOp op a pos) (Fe r ta):=by
 intro aa s j H Q I h;exact UnaryOp_ (bh (g aa s j H _ I h) λv m d=>by obtain⟨x,e,f,r1,l⟩:=d;exact i aa m j e x v Q f r1 l)
theorem rF{f:ai->ai->Sem Value}{C:Int->Int->Prop}{g:Int->Int->Int}(rule:∀(i j:Int)(t u:Tok)(s:ak)(Q:ai->ak->Prop)(E:ai->ak->Prop),C i j->Q (.int (g i j) s.toks) { s with toks:=s.toks+1 }->wpAny (model X.prog X.w) X.A (f (.int i t) (.int j u)) Q E s):
  b6 X f (rI C λi j=>.int (g i j)):=by
 intro aa s G H x y v u Q I e l h;obtain⟨i,j,rfl,rfl,d,q⟩:=h;obtain⟨t,rfl⟩:=e;obtain⟨m,rfl⟩:=l;exact rule i j t m s _ _ d ⟨.int (g i j),H,I.tok _,⟨_,rfl⟩,q⟩
theorem AE{f:ai->ai->Sem Value}{g:Int->Int->Int}(rule:∀(i j:Int)(t u:Tok)(s:ak)(Q:ai->ak->Prop)(E:ai->ak->Prop),Q (.int (g i j) s.toks) { s with toks:=s.toks+1 }->wpAny (model X.prog X.w) X.A (f (.int i t) (.int j u)) Q E s):
  b6 X f (iJ λi j=>.int (g i j)):=by
 intro aa s G H x y v u Q I d e h;obtain⟨i,j,rfl,rfl,q⟩:=h;obtain⟨t,rfl⟩:=d;obtain⟨l,rfl⟩:=e;exact rule i j t l s _ _ ⟨.int (g i j),H,I.tok _,⟨_,rfl⟩,q⟩
theorem vh{f:ai->ai->Sem Value}{g:Int->Int->Bool}(rule:∀(i j:Int)(t u:Tok)(s:ak)(Q:ai->ak->Prop)(E:ai->ak->Prop),Q (.bool (g i j)) s->wpAny (model X.prog X.w) X.A (f (.int i t) (.int j u)) Q E s):
  b6 X f (iJ λi j=>.bl (g i j)):=by
 intro aa s G H x y v u Q I d e h;obtain⟨i,j,rfl,rfl,q⟩:=h;obtain⟨t,rfl⟩:=d;obtain⟨l,rfl⟩:=e;exact rule i j t l s _ _ ⟨.bl (g i j),H,I,rfl,q⟩
def pH(i j:Int):Prop:=0<=j/\j<=1000000/\i.natAbs<2 ^ 64
def kr(i j:Int):Prop:=(-(2 ^ 64)<i/\i<2 ^ 64)\/(-(2 ^ 64)<j/\j<2 ^ 64)
theorem kr.ok(h:kr i j):IntMulOk i j:=by
 rcases h with⟨d,e⟩ |⟨d,e⟩
 .exact .of_left (intBits_le_64 d e)
 .exact .of_right (intBits_le_64 d e)
theorem IK:b6 X (binaryOp .Add) (iJ λi j=>.int (i+j)):=AE λ_ _ _ _ _ _ _ q=>add_int q
theorem Hh:b6 X (binaryOp .Sub) (iJ λi j=>.int (i - j)):=AE λ_ _ _ _ _ _ _ q=>sub_int q
theorem Sw:b6 X (binaryOp .Mod) (rI (λ_ j=>0<j) λi j=>.int (i % j)):=rF λi j _ _ _ _ _ d q=>by
 have e:(0:Int)<j:=d;exact mod_int' (by omega) (by rw[Int.fmod_eq_emod_of_nonneg i (by omega)];exact q)
theorem Nd:b6 X (binaryOp .Pow) (rI pH λi j=>.int (i ^ j.toNat)):=rF λ_ _ _ _ _ _ _ d q=>pow_int_small d.1 d.2.1 d.2.2 q
theorem Sn{f:ai->Sem Value}{g:Int->Int}(rule:∀(i:Int)(t:Tok)(s:ak)(Q:ai->ak->Prop)(E:ai->ak->Prop),Q (.int (g i) s.toks) { s with toks:=s.toks+1 }->wpAny (model X.prog X.w) X.A (f (.int i t)) Q E s):
  wM X f (rU λi=>.int (g i)):=by
 intro aa s j H x v Q I d h;obtain⟨i,rfl,q⟩:=h;obtain⟨t,rfl⟩:=d;exact rule i t s _ _ ⟨.int (g i),H,I.tok _,⟨_,rfl⟩,q⟩
theorem M1:wM X (unaryOp .USub) (rU λi=>.int (-i)):=Sn λ_ _ _ _ _ q=>neg_int q
end
def xy:V->V->Bool
 |.aL,.aL=>true |.aL,.int _=>true |.int _,.aL=>true |.aL,.bl _=>true |.bl _,.aL=>true |.aL,.str _=>true |.str _,.aL=>true
 |.int _,.int _=>true |.bl _,.bl _=>true |.str _,.str _=>true |.gc _,.gc _=>true
 |.int _,.str _=>true |.str _,.int _=>true |.bl _,.str _=>true |.str _,.bl _=>true
 |_,_=>false
def xu:R2:=λx y H Q=>xy x y=true/\Q (.bl (decide (x=y))) H
def o3:R2:=λx y H Q=>xy x y=true/\Q (.bl (!decide (x=y))) H
theorem F8:decide (V.int i=V.int j)=(i == j):=by
 rw[Bool.eq_iff_iff];simp
theorem CH:decide (V.bl i=V.bl j)=(i == j):=by
 rw[Bool.eq_iff_iff];simp
theorem BU:decide (V.str i=V.str j)=(i == j):=by
 rw[Bool.eq_iff_iff];simp
theorem ED:decide (V.gc i=V.gc j)=(i.toList == j.toList):=by
 rw[Bool.eq_iff_iff];cases i;cases j;simp
section
variable{X:Cx}{a b c:Expr}{ta tb tc:TE}{pos:Pos}
theorem cK{Q:VK}(I:au X aa j H s)(q:Q (.bl k) H)(e:k=k'):EP X aa j Q (.bool k') s:=by
 subst e;exact⟨.bl k,H,I,rfl,q⟩
theorem MR:b6 X (compareOp .Eq) xu:=by
 intro aa s G H x y v u Q I g d h;obtain⟨f,q⟩:=h;cases x with
 |aL=>
  cases g;cases y with
  |aL=>cases d;exact PySem.EqNone.eq_none_none (cK I q (by simp))
  |bl j=>cases d;exact PySem.EqNone.eq_none_bool (cK I q (by simp))
  |int j=>obtain⟨e,rfl⟩:=d;exact PySem.EqNone.eq_none_int (cK I q (by simp))
  |str j=>obtain⟨e,rfl⟩:=d;exact PySem.EqNone.eq_none_str (cK I q (by simp))
  |_=>exact absurd (show false=true from f) Bool.false_ne_true
 |bl i=>
  cases g;cases y with
  |aL=>cases d;exact PySem.EqNone.eq_bool_none (cK I q (by simp))
  |bl j=>cases d;exact eq_bool (cK I q CH)
  |str j=>obtain⟨e,rfl⟩:=d;exact PySem.EqMixed.eq_bool_str (cK I q (by simp))
  |_=>exact absurd (show false=true from f) Bool.false_ne_true
 |int i=>
  obtain⟨t,rfl⟩:=g;cases y with
  |aL=>cases d;exact PySem.EqNone.eq_int_none (cK I q (by simp))
  |int j=>obtain⟨e,rfl⟩:=d;exact eq_int (cK I q F8)
  |str j=>obtain⟨e,rfl⟩:=d;exact PySem.EqMixed.eq_int_str (cK I q (by simp))
  |_=>exact absurd (show false=true from f) Bool.false_ne_true
 |str i=>
  obtain⟨t,rfl⟩:=g;cases y with
  |aL=>cases d;exact PySem.EqNone.eq_str_none (cK I q (by simp))
  |bl j=>cases d;exact PySem.EqMixed.eq_str_bool (cK I q (by simp))
  |int j=>obtain⟨e,rfl⟩:=d;exact PySem.EqMixed.eq_str_int (cK I q (by simp))
  |str j=>obtain⟨e,rfl⟩:=d;exact eq_str (cK I q BU)
  |_=>exact absurd (show false=true from f) Bool.false_ne_true
 |gc i=>
  obtain⟨t,rfl⟩:=g;cases y with
  |gc j=>obtain⟨e,rfl⟩:=d;exact W.eq_bytes (cK I q ED)
  |_=>exact absurd (show false=true from f) Bool.false_ne_true
 |_=>cases y <;> exact absurd (show false=true from f) Bool.false_ne_true
theorem AN:b6 X (compareOp .NotEq) o3:=by
 intro aa s G H x y v u Q I g d h;obtain⟨f,q⟩:=h;cases x with
 |aL=>
  cases g;cases y with
  |aL=>cases d;exact PySem.EqNone.ne_none_none (cK I q (by simp))
  |bl j=>cases d;exact PySem.EqNone.ne_none_bool (cK I q (by simp))
  |int j=>obtain⟨e,rfl⟩:=d;exact PySem.EqNone.ne_none_int (cK I q (by simp))
  |str j=>obtain⟨e,rfl⟩:=d;exact PySem.EqNone.ne_none_str (cK I q (by simp))
  |_=>exact absurd (show false=true from f) Bool.false_ne_true
 |bl i=>
  cases g;cases y with
  |aL=>cases d;exact PySem.EqNone.ne_bool_none (cK I q (by simp))
  |bl j=>cases d;exact ne_bool (cK I q (congrArg not CH))
  |str j=>obtain⟨e,rfl⟩:=d;exact PySem.EqMixed.ne_bool_str (cK I q (by simp))
  |_=>exact absurd (show false=true from f) Bool.false_ne_true
 |int i=>
  obtain⟨t,rfl⟩:=g;cases y with
  |aL=>cases d;exact PySem.EqNone.ne_int_none (cK I q (by simp))
  |int j=>obtain⟨e,rfl⟩:=d;exact ne_int (cK I q (congrArg not F8))
  |str j=>obtain⟨e,rfl⟩:=d;exact PySem.EqMixed.ne_int_str (cK I q (by simp))
  |_=>exact absurd (show false=true from f) Bool.false_ne_true
 |str i=>
  obtain⟨t,rfl⟩:=g;cases y with
  |aL=>cases d;exact PySem.EqNone.ne_str_none (cK I q (by simp))
  |bl j=>cases d;exact PySem.EqMixed.ne_str_bool (cK I q (by simp))
  |int j=>obtain⟨e,rfl⟩:=d;exact PySem.EqMixed.ne_str_int (cK I q (by simp))
  |str j=>obtain⟨e,rfl⟩:=d;exact ne_str (cK I q (congrArg not BU))
  |_=>exact absurd (show false=true from f) Bool.false_ne_true
 |gc i=>
  obtain⟨t,rfl⟩:=g;cases y with
  |gc j=>obtain⟨e,rfl⟩:=d;exact W.ne_bytes (cK I q (congrArg not ED))
  |_=>exact absurd (show false=true from f) Bool.false_ne_true
 |_=>cases y <;> exact absurd (show false=true from f) Bool.false_ne_true
theorem MZ:b6 X (compareOp .Lt) (iJ λi j=>.bl (decide (i<j))):=vh λ_ _ _ _ _ _ _ q=>lt_int q
theorem VT:b6 X (compareOp .Gt) (iJ λi j=>.bl (decide (j<i))):=vh λ_ _ _ _ _ _ _ q=>gt_int q
theorem N0:b6 X (compareOp .GtE) (iJ λi j=>.bl (decide (j<=i))):=vh λ_ _ _ _ _ _ _ q=>ge_int q
theorem Im:b6 X (compareOp .Lt) (λx y H Q=>∃i j,x=.str i/\y=.str j/\Q (.bl (decide (i.cps.toList<j.cps.toList))) H):=by
 intro aa s G H x y v u Q I d e h;obtain⟨i,j,rfl,rfl,q⟩:=h;obtain⟨t,rfl⟩:=d;obtain⟨f,rfl⟩:=e;exact lt_str (cK I q rfl)
theorem HK:b6 X (compareOp .Is) (λx y H Q=>y=.aL/\Q (.bl (decide (x=.aL))) H):=by
 intro aa s j H x y v u Q I d e h;obtain⟨rfl,q⟩:=h;cases e;refine is_none_gen (cK I q ?_);cases x<;>first
  |(cases d;rfl)
  |(obtain⟨t,rfl⟩:=d;rfl)
theorem V9:b6 X (compareOp .IsNot) (λx y H Q=>y=.aL/\Q (.bl (!decide (x=.aL))) H):=by
 intro aa s j H x y v u Q I d e h;obtain⟨rfl,q⟩:=h;cases e;refine isnot_none_gen (cK I q ?_);cases x<;>first
  |(cases d;rfl)
  |(obtain⟨t,rfl⟩:=d;rfl)
theorem b6.or{r d:R2}(h:b6 X f r)(h':b6 X f d):b6 X f (λx y H Q=>r x y H Q\/d x y H Q):=by
 intro aa s j H x y v u Q I e g q;rcases q with q |q
 .exact h aa s j H x y v u Q I e g q
 .exact h' aa s j H x y v u Q I e g q
theorem NX(b:Expr)(h:op≠.In:=by decide)(f:op≠.NotIn:=by decide):behindInMarks op b=false:=by
 have d:(op == CmpOp.In)=false:=by cases op<;>first |rfl |exact absurd rfl h
 have e:(op == CmpOp.NotIn)=false:=by cases op<;>first |rfl |exact absurd rfl f
 cases b<;>simp[behindInMarks,d,e]
theorem RM(i:b6 X (compareOp op) r)(f:PE X a ta)(g:PE X b tb)(hm:behindInMarks op b=false):PE X (.Compare a [op] [b] pos) (mW r ta tb):=by
 intro aa s j H Q I h;exact wpAny_Compare1 (wa f g I h λv u n x y d e l m q=>i aa n j d x y v u Q e l m q) hm
def um(t:TE):TT:=λj H Q=>t j H λx H'=>∃k,x=.bl k/\Q k H'
theorem BH(g:b6 X (compareOp op) r)(d:PE X a ta)(f:PE X b tb)(hm:behindInMarks op b=false):PT X (.Compare a [op] [b] pos) (um (mW r ta tb)):=by
 intro aa s j H Q I h;refine wpAny_isTrue_Compare1 (bh (d aa s j H _ I h) λv i ⟨x,H1,I1,r1,q1⟩=>bh (f aa i j H1 _ I1 q1) λu l ⟨y,H2,I2,r2,q2⟩=>
  bh (g aa l j H2 x y v u _ I2 r1 r2 q2) λc m ⟨z,H3,I3,r3,k,e,q3⟩=>?_) hm
 subst e;cases r3;exact wpAny_truthy_bool ⟨H3,I3,q3⟩
def yG(K:ao)(x:V)(H:Hp)(k:Bool):Prop:=
 match x with
 |.aL=>k=false
 |.bl b=>k=b
 |.int i=>k=(i != 0)
 |.str y=>y.length <= sizeLine /\ k=((y.length:Int) != 0)
 |.gc y=>y.size <= sizeLine /\ k=((y.size:Int) != 0)
 |.ref p=>(∃e,bE K H p e /\ k = !e.isEmpty) \/ (∃e,df K H p e /\ k = !e.isEmpty) \/ ∃d,H p=some (.dK d) /\ k = !d.isEmpty
 |_=>False
theorem JZ(r:KV kvs vs):(!vs.isEmpty)=!kvs.isEmpty:=by
 cases r<;>rfl
theorem zf(r:aI xs bo):(!bo.toArray.isEmpty)=!xs.isEmpty:=by
 cases r<;>simp
theorem nH:(sizeLine:Nat)<2 ^ 63:=by rw[sizeLine_eq];decide
theorem KI:P9 X (λx H Q=>∃k,yG X.K x H k/\Q k H):=by
 intro aa s j H x v Q I n h;obtain⟨k,e,q⟩:=h;have D:=nH;have E:sizeLine=16777216:=sizeLine_eq;cases x with
 |aL=>
  cases n;have d:k=false:=e;subst d;exact truthy_none ⟨H,I,q⟩
 |bl b=>
  cases n;have d:k=b:=e;subst d;exact wpAny_truthy_bool ⟨H,I,q⟩
 |int i=>
  obtain⟨t,rfl⟩:=n;have d:k=(i != 0):=e;subst d;exact PySem.P.truthy_int ⟨H,I,q⟩
 |str y=>
  obtain⟨t,rfl⟩:=n;obtain⟨C,d⟩:y.length<=sizeLine/\k=((y.length:Int) != 0):=e;subst d;exact PySem.P.truthy_str (by omega) ⟨H,I.tok _,q⟩
 |gc y=>
  obtain⟨t,rfl⟩:=n;obtain⟨C,d⟩:y.size<=sizeLine/\k=((y.size:Int) != 0):=e;subst d;exact W.truthy_bytes (by omega) ⟨H,I.tok _,q⟩
 |ref p=>
  cases n;have d:(∃l,bE X.K H p l/\k=!l.isEmpty)\/(∃l,df X.K H p l/\k=!l.isEmpty)\/∃f,H p=some (.dK f)/\k=!f.isEmpty:=e;rcases d with⟨l,o,d⟩ |⟨l,o,d⟩ |⟨f,o,d⟩
  .subst d;obtain⟨u,r,z,A⟩:=I.list o;have g:=r.length;exact wpAny_truthy_list z.isList (by simp only[size_toArray];omega) ⟨H,I.tok _,by rw[zf r];exact q⟩
  .subst d;obtain⟨u,r,z,A⟩:=I.tuple o;have g:=r.length;exact truthy_tuple z (by simp only[size_toArray];omega) ⟨H,I.tok _,by rw[zf r];exact q⟩
  .subst d;obtain⟨A,B,vs,r,m⟩:f.length<=sizeLine/\(p == sysModules)=false/\∃vs,KV f vs/\s.heap.DictOf (eA X.prog X.w) p vs:=I.aN p _ o;have g:f.length=vs.length:=Paired.length r;exact wpAny_truthy_dict B m (by omega) ⟨H,I.tok _,by rw[JZ r];exact q⟩
 |_=>exact (show False from e).elim
theorem OX(i:PE X a ta)(he:∀whole,isTrue a X.env whole=(do let v <- whole;standAt a.pos;holding [v] (truthy v))):
  PT X a (λj H Q=>ta j H λx e=>∃k,yG X.K x e k/\Q k e):=by
 intro aa s j H Q I h;exact isTrue_plain (bh (i aa s j H _ I h) λv m d=>by obtain⟨x,f,g,r1,l⟩:=d;exact KI aa m j f x v Q g r1 l) (he _)
theorem Gz:b6 X (binaryOp .Add) (λx y H Q=>∃i j,x=.str i/\y=.str j/\i.length+j.length<=sizeLine/\Q (.str (i++j)) H):=by
 intro aa s G H x y v u Q I e f h;obtain⟨i,j,rfl,rfl,d,q⟩:=h;obtain⟨t,rfl⟩:=e;obtain⟨g,rfl⟩:=f;exact add_str (λg l=>⟨.str (i++j),H,I.tok _,⟨_,rfl⟩,q⟩) d
theorem ja(r:aI [x] us):∃u,us=[u]/\aE x u:=by
 cases r with
 |cons r1 r2=>cases r2;exact⟨_,rfl,r1⟩
theorem Ck(r:aI [x,y] us):∃u d,us=[u,d]/\aE x u/\aE y d:=by
 cases r with
 |cons r1 r2=>
  cases r2 with
  |cons r3 r4=>cases r4;exact⟨_,_,rfl,r1,r3⟩
theorem rV:bK X (.builtin "abs") (λxs H Q=>∃i,xs=[.int i]/\Q (.int (if i<0 then -i else i)) H):=by
 intro aa s j H xs us Q I r h;obtain⟨i,rfl,q⟩:=h;obtain⟨u,rfl,t,rfl⟩:=ja r;exact call_abs_int λu d=>⟨.int (if i<0 then -i else i),H,I.tok _,⟨_,rfl⟩,q⟩
def EC(K:ao)(x:V)(H:Hp)(n:Nat):Prop:=
 match x with
 |.str y=>y.length <= sizeLine /\ n=y.length
 |.gc y=>y.size <= sizeLine /\ n=y.size
 |.ref p=>(∃d,bE K H p d /\ n=d.length) \/ ∃d,df K H p d /\ n=d.length
 |_=>False
theorem QX:bK X (.builtin "len") (λxs H Q=>∃x n,xs=[x]/\EC X.K x H n/\Q (.int n) H):=by
 intro aa s j H xs us Q I r h;obtain⟨x,n,rfl,e,q⟩:=h;obtain⟨u,rfl,o⟩:=ja r;have A:=nH;have B:sizeLine=16777216:=sizeLine_eq;cases x with
 |str y=>
  obtain⟨t,rfl⟩:=o;obtain⟨w,f⟩:y.length<=sizeLine/\n=y.length:=e;subst f;exact len_str (by omega) ⟨.int _,H,I.tok _,⟨_,rfl⟩,q⟩
 |gc y=>
  obtain⟨t,rfl⟩:=o;obtain⟨w,f⟩:y.size<=sizeLine/\n=y.size:=e;subst f;exact W.len_bytes (by omega) ⟨.int _,H,I.tok _,⟨_,rfl⟩,q⟩
 |ref p=>
  cases o;have f:(∃xs,bE X.K H p xs/\n=xs.length)\/∃xs,df X.K H p xs/\n=xs.length:=e;rcases f with⟨xs,g,f⟩ |⟨xs,g,f⟩
  .subst f;obtain⟨i,m,l,z⟩:=I.list g;have d:=m.length;exact Calls.call_len_list l.isList (by simp only[size_toArray];omega) ⟨.int xs.length,H,I.tok _,⟨_,by simp only[size_toArray];rw[d]⟩,q⟩
  .subst f;obtain⟨i,m,l,z⟩:=I.tuple g;have d:=m.length;exact len_tuple l (by simp only[size_toArray];omega) ⟨.int xs.length,H,I.tok _,⟨_,by simp only[size_toArray];rw[d]⟩,q⟩
 |_=>exact (show False from e).elim
end
structure gz(h:aT)(x dx C:af)(mA:bu):Prop where
 obj:h.get? x=some (W.instObj C dx)
 ns:h.Ns1 dx mA
 ne:dx≠x
theorem Ts{h:aT}{f:af}{i:bu}(n:h.Ns1 f i):∃od,h.get? f=some od/\∀b,W.lookIn b od=some (i b):=by
 obtain⟨o,g,r,m,hd,l,_,hm⟩:=n;refine⟨o,m,λb=>?_⟩;have e:=hm b;unfold nsFind findBy at e;rw[<- Array.find?_toList] at e;unfold W.lookIn;rw[hd];dsimp only;split
 .rename_i y q;rw[q] at e;exact congrArg some e
 .rename_i q;rw[q] at e;have a:g.toList.any (·.refKey)=false:=by
   rw[List.any_eq_false];intro y p;obtain⟨z,t,d⟩:=l y (Array.mem_toList_iff.mp p);simp[DictEntry.refKey,d]
  have j:¬ g.toList.any (·.refKey)=true:=by rw[a];exact Bool.false_ne_true
  rw[if_neg j];exact congrArg some e
theorem gz.look{b:bu}(I:gz h x dx C b):∃od,W.InstAt h x (W.instObj C dx) C (some od)/\∀a,W.lookIn a od=some (b a):=
 let ⟨od,ho,hl⟩:=Ts I.ns
 ⟨od,⟨I.obj,rfl,rfl,ho⟩,hl⟩
section
variable{prog:Program}{w:World}{A:Around}{E:ai->ak->Prop}{s:ak}{K:ao}{x dx C f:af}{mA:bu}{name:Str}{v:ai}
theorem VO{Q:ai->ak->Prop}(X:K.In s.heap)(I:gz s.heap x dx C mA)(d:W.plainGet K C name=true)(e:W.hasDictIn K C=true)(b:W.findIn K (.ref C) name=some none)(i:mA name=some v)(a:W.handedIn v=true)(h:Q v { s with toks:=s.toks+1 }):
  wpAny (model prog w) A (getAttr (.ref x) name expr) Q E s:=by
 obtain⟨od,J,g⟩:=I.look;exact W.get_value X J (W.plainGet_of d).1 (W.findObj_own e b rfl (by rw[g,i])) a h
theorem DB{Q:ai×aM->ak->Prop}(X:K.In s.heap)(I:gz s.heap x dx C mA)(a:W.plainGet K C name=true)(b:W.findIn K (.ref C) name=some (some (.ref f)))(ht:W.isFn K (.ref f)=true)(e:mA name=none)(h:Q (.ref f,[.ref x]) s):
  wpAny (model prog w) A (getMethod (.ref x) name pl) Q E s:=by
 obtain⟨od,J,d⟩:=I.look;exact W.method_fn X J (W.plainGet_of a).1 (W.plainGet_of a).2 b (beq_iff_eq.mp ht) (by show (W.lookIn name od).map (·.isSome)=some false;rw[d,e];rfl) h
theorem VR{Q:Unit->ak->Prop}(X:K.In s.heap)(I:gz s.heap x dx C mA)(hs:W.findIn K (.ref C) "__setattr__"=some (some (.builtin "object.__setattr__")))(hp:W.plainOver K C=true)(ht:W.takerIn K C name=some none)(p:W.hasDictIn K C=true)(q:PySem.Within mA ns)(hsz:ns.length<=sizeLine)(h:∀h',gz h' x dx C (λy=>if y=name then some v else mA y)->Heap.SameBut dx s.heap h'->Q () { s with heap:=h',toks:=s.toks+2 }):
  wpAny (model prog w) A (setAttr (.ref x) name v) Q E s:=by
 obtain⟨od,J,B⟩:=I.look;refine W.set_plain X J hs (W.osa_open (s:={ s with toks:=s.toks+1 }) (r:=none) X J hp ht λb=>?_);obtain⟨z,o,i⟩:=W.any_some p;have u:s.heap.get? x=some ⟨.ref C,some dx,.plain,#[]⟩:=I.obj;refine wpAny_bind (wpAny_pure (wpAny_bind (wpAny_bind (wpAny_loadPart u (wpAny_bind (W.Looks.here (s:={ s with toks:=s.toks+1 }) (W.looks_clsIn X o) ?_))))));rw[i];refine wpAny_pure (a:=some dx) (wpAny_bind (wpAny_pure (wpAny_bind ?_)));refine wpAny_nsSet1 (s:={ s with toks:=s.toks+1 }) I.ns λh' d e=>?_
 obtain⟨D,n,m,l,j,g⟩:=d.count (PySem.Within.cons name v q);refine wpAny_bind (wpAny_lookBehind l (by rw[j];exact pastItsLine_dict (le_trans g (by rw[length_cons];omega))) ?_);exact wpAny_pure (h _ ⟨(e.2 _ (Ne.symm I.ne)).trans I.obj,d,I.ne⟩ e)
theorem PL(X:K.In s.heap)(hm:W.makesIn K C=true)(b:W.findIn K (.ref C) "__init__"=some (some (.ref f)))(a:W.typeIn K (.ref f)=some (.type "function"))(h:codeAny (model prog w) (A.under (.builtin "type.__call__" ⟨.ref C::vs,kw⟩)) (.call (.ref f) ⟨.ref (s.heap.objs.size+1)::vs,kw⟩) (W.InitBack (s.heap.objs.size+1) R)
   { s with heap:=(s.heap.push W.emptyDict).push (W.instObj C s.heap.objs.size) }):
  codeAny (model prog w) A (.call (.ref C) ⟨vs,kw⟩) R s:=by
 obtain⟨e,g,d,t,os⟩:=s;exact W.make_core (W.makes_of X hm) (W.looks_findIn X b) (λself=>W.bind_fn X self a) (.inl rfl) h
end
def fq(f:Str)(v:V):List (Str×V)->List (Str×V)
 |[]=>[(f,v)]
 |(g,x)::r=>if g=f then (g,v)::r else (g,x)::fq f v r
theorem BM(f g:Str)(v:V):∀fs:List (Str×V),(fq f v fs).lookup g=if g=f then some v else fs.lookup g
 |[]=>by
  show List.lookup g [(f,v)]=_;by_cases h:g=f
  .have hb:(g == f)=true:=beq_iff_eq.mpr h;simp only[List.lookup,hb,if_pos h]
  .have hb:(g == f)=false:=beq_eq_false_iff_ne.mpr h;simp only[List.lookup,hb,if_neg h]
 |(k,x)::r=>by
  have b:=BM f g v r;rw[show fq f v ((k,x)::r)=(if k=f then (k,v)::r else (k,x)::fq f v r) from rfl];by_cases a:k=f
  .rw[if_pos a];by_cases h:g=k
   .have hb:(g == k)=true:=beq_iff_eq.mpr h;simp only[List.lookup,hb,if_pos (h.trans a)]
   .have hb:(g == k)=false:=beq_eq_false_iff_ne.mpr h;simp only[List.lookup,hb,if_neg (λe:g=f=>h (e.trans a.symm))]
  .rw[if_neg a];by_cases h:g=k
   .have hb:(g == k)=true:=beq_iff_eq.mpr h;simp only[List.lookup,hb,if_neg (λe:g=f=>a (h.symm.trans e))]
   .have hb:(g == k)=false:=beq_eq_false_iff_ne.mpr h;simp only[List.lookup,hb];exact b
theorem yN(f:Str)(v:V):∀fs:List (Str×V),f∈(fq f v fs).map (·.1)/\∀g,g∈fs.map (·.1)->g∈(fq f v fs).map (·.1)
 |[]=>⟨by simp[fq],λg h=>by simp at h⟩
 |(k,x)::r=>by
  obtain⟨b,d⟩:=yN f v r;rw[show fq f v ((k,x)::r)=(if k=f then (k,v)::r else (k,x)::fq f v r) from rfl];by_cases a:k=f
  .rw[if_pos a];subst a;exact⟨by simp,λg h=>by simpa using h⟩
  .rw[if_neg a];refine⟨?_,λg h=>?_⟩
   .rw[map_cons];exact mem_cons_of_mem _ b
   .rw[map_cons] at h ⊢;rcases mem_cons.mp h with e |e
    .exact mem_cons.mpr (.inl e)
    .exact mem_cons_of_mem _ (d g e)
theorem Ek(f:Str)(v:V):∀fs:List (Str×V),(fq f v fs).length<=fs.length+1
 |[]=>by simp[fq]
 |(k,x)::r=>by
  have b:=Ek f v r;rw[show fq f v ((k,x)::r)=(if k=f then (k,v)::r else (k,x)::fq f v r) from rfl];by_cases a:k=f
  .rw[if_pos a,length_cons,length_cons];omega
  .rw[if_neg a,length_cons,length_cons];omega
theorem cG.some_of(r:cG (some v) o):∃u,o=some u/\aE v u:=by
 cases o with
 |none=>exact (show False from r).elim
 |some u=>exact⟨u,rfl,r⟩
theorem cG.none_of(r:cG none o):o=none:=by
 cases o with
 |none=>rfl
 |some u=>exact (show False from r).elim
theorem Td(r:aE v u):W.handedIn u=true:=by
 cases v with
 |aL=>cases (show u=Value.none from r);rfl
 |bl b=>cases (show u=Value.bool b from r);rfl
 |int i=>obtain⟨t,e⟩:=(show ∃t,u=Value.int i t from r);cases e;rfl
 |str x=>obtain⟨t,e⟩:=(show ∃t,u=Value.str x t from r);cases e;rfl
 |gc b=>obtain⟨t,e⟩:=(show ∃t,u=Value.bytes b t from r);cases e;rfl
 |kW b=>obtain⟨t,e⟩:=(show ∃t,u=Value.float b t from r);cases e;rfl
 |ref a=>cases (show u=Value.ref a from r);rfl
 |ty n=>cases (show u=Value.type n from r);rfl
section
variable{P:Program}{w:World}{H H':Hp}{h h':aT}{a C dx:af}{fs fs':List (Str×V)}
theorem Dv(aN:dk P w H h)(e:H a=some (.ins C dx fs)):∃b,gz h a dx C b/\(∀f,cG (fs.lookup f) (b f))/\PySem.Within b (fs.map (·.1))/\fs.length<=1000/\H dx=some (.own a):=by
 obtain⟨d,z,ne,g,b,n,r,q⟩:=(show a6 P w H h a (.ins C dx fs) from aN a _ e);exact⟨b,⟨g,n,ne⟩,r,q,z,d⟩
end
structure gg(K:ao)(C:af):Prop where
 pg:W.plainGet K C Str.empty=true
 hd:W.hasDictIn K C=true
 po:W.plainOver K C=true
 sa:W.findIn K (.ref C) "__setattr__"=some (some (.builtin "object.__setattr__"))
theorem gg.get{K:ao}{C:af}(c:gg K C)(f:Str):W.plainGet K C f=true:=c.pg
def bf(K:ao)(C:af)(f:Str):Prop:=W.findIn K (.ref C) f=some none
theorem bf.qZ{K:ao}{C:af}{f:Str}(n:bf K C f):W.takerIn K C f=some none:=by
 unfold W.takerIn;rw[show W.findIn K (.ref C) f=some none from n];rfl
structure Cd(K:ao)(C:af)(m:Str)(f:af):Prop where
 at_:W.findIn K (.ref C) m=some (some (.ref f))
 fn:W.isFn K (.ref f)=true
 kp:W.keepIn K (.ref f)=true
section
variable{X:Cx}{aa:aV}{σ:St}{H:Hp}{s:ak}{a C dx:af}{fs:List (Str×V)}{f:Str}{v:V}{A:Around}{E:ai->ak->Prop}
theorem N2{Q:Unit->ak->Prop}(I:au X aa σ H s)(e:H a=some (.ins C dx fs))(c:gg X.K C)(n:bf X.K C f)(J:fs.length<1000)(G:aE y u)(h:∀s',au X aa σ (aQ H a (.ins C dx (fq f y fs))) s'->Q () s'):wpAny (model X.prog X.w) A (setAttr (.ref a) f u) Q E s:=by
 obtain⟨j,O,r,l,_,i⟩:=Dv I.aN e;have D:(fs.map (·.1)).length<=sizeLine:=by rw[length_map,sizeLine_eq];omega
 refine VR I.cJ O c.sa c.po n.qZ c.hd l D λm d sb=>h _ ?_
 have hd:∃o,m.get? dx=some o:=let ⟨o,_,_,e',_⟩:=d.ns;⟨o,e'⟩
 refine I.write (x:=a) (e:=dx) (by rw[e];exact True.intro) (.inr i) (λb q p z=>(sb.2 b p).trans z) hd ?_;refine⟨by rw[ba O.ne];exact i,?_,O.ne,d.obj,_,d.ns,λg=>?_,λg B=>?_⟩
 .have:=Ek f y fs;omega
 .show cG ((fq f y fs).lookup g) (if g=f then some u else j g);rw[BM];by_cases q:g=f
  .rw[if_pos q,if_pos q];exact G
  .rw[if_neg q,if_neg q];exact r g
 .by_cases q:g=f
  .rw[q];exact (yN f y fs).1
  .refine (yN f y fs).2 g (l g λz=>B ?_);show (if g=f then some u else j g)=none;rw[if_neg q];exact z
theorem au.made(I:au X aa σ H s):au X aa σ (aQ (aQ H s.heap.objs.size (.own (s.heap.objs.size+1))) (s.heap.objs.size+1) (.ins C s.heap.objs.size []))
  { s with heap:=(s.heap.push W.emptyDict).push (W.instObj C s.heap.objs.size) }:=by
 have d:(s.heap.push W.emptyDict).get? s.heap.objs.size=some W.emptyDict:=Heap.get?_push_size s.heap rfl;have h:((s.heap.push W.emptyDict).push (W.instObj C s.heap.objs.size)).get? (s.heap.objs.size+1)=some (W.instObj C s.heap.objs.size):=by
  have:=Heap.get?_push_size (s.heap.push W.emptyDict) (o:=W.instObj C s.heap.objs.size) rfl;rwa[Heap.size_push] at this
 have i:(s.heap.push W.emptyDict).Ns s.heap.objs.size (λ_=>none):=⟨W.emptyDict,#[],_,d,rfl,(λe j=>absurd j (by simp)),λ_=>rfl⟩
 have g:=I.laid (a:=s.heap.objs.size) (o:=.own (s.heap.objs.size+1)) (h':=s.heap.push W.emptyDict) (t':=s.toks) (λb u q=>Heap.get?_push_of_some _ q) (le_refl _) ⟨_,d⟩;refine g.laid (a:=s.heap.objs.size+1) (o:=.ins C s.heap.objs.size []) (t':=s.toks) (λb u q=>Heap.get?_push_of_some _ q) (Nat.le_of_eq (Heap.size_push _ _)) ?_;have ne:s.heap.objs.size≠s.heap.objs.size+1:=ne_of_lt (Nat.lt_succ_self _);refine⟨by rw[ba ne,cq],zero_le _,ne,h,λ_=>none,(Heap.Ns1.of_empty i).at λo q=>Heap.get?_push_of_some _ q,λ_=>True.intro,λy l=>absurd rfl l⟩
theorem R0(d:attributeBase e f env (eval e env)=eval e env)(h:wpAny (model prog w) A (eval e env) (λo b=>wpAny (model prog w) A (getAttr o f true) Q E b) E s):wpAny (model prog w) A (eval (.Attribute e f pos) env) Q E s:=
 Attribute_any_ h (by rw[arm_eval_Attribute,d])
end
def xr(K:ao)(g h:TE)(f:Str):TS:=λD j H=>h j H λy e=>g j e λx b=>∃a C d fs,x=.ref a/\b a=some (.ins C d fs)/\gg K C/\bf K C f/\fs.length<1000/\
 D.nx j (aQ b a (.ins C d (fq f y fs)))
section
variable{X:Cx}{o e value:Expr}{f:Str}{pos pos' tpos:Pos}{ta tv:TE}
theorem BJ(w:PE X o ta)(z:PE X value tv)(hs:swapsWith value (some (.Attribute o f pos')) pos.line X.env=pure false):PS X (.Assign [.Attribute o f pos'] value pos) (xr X.K ta tv f):=by
 intro aa s j H D I h;refine plainObj_wpAny_Assign_Attribute (bh (z aa s j H _ I h) λu G b=>?_) hs;obtain⟨y,g,i,E,q⟩:=b;refine bh (w aa G j g _ i q) λov M d=>?_
 obtain⟨x,J,m,B,a,C,L,fs,ex,r,c,n,l,A⟩:=d;subst ex;obtain rfl:ov=Value.ref a:=B;exact N2 m r c n l E λN p=>⟨j,_,p,A⟩
end
section
variable{X:Cx}{aa:aV}{σ:St}{H:Hp}{s:ak}{A:Around}{E:ai->ak->Prop}{Q:ai->ak->Prop}{c:ai}{b:Bool}
inductive dY (K:W.Frag) (H:Hp):V->Value->Prop where
 |aL:dY K H .aL (.type "NoneType")
 |bl (x:Bool):dY K H (.bl x) (.type "bool")
 |int (i:Int):dY K H (.int i) (.type "int")
 |str (x:Str):dY K H (.str x) (.type "str")
 |kW (x:UInt64):dY K H (.kW x) (.type "float")
 |ag {a:Addr} {xs:List V} (e:H a=some (.ag xs)):dY K H (.ref a) (.type "list")
 |ay {a:Addr} {o:Obj} {xs:List V} (e:H a=some (.ay o (.ag xs))):dY K H (.ref a) (.type "list")
 |aG {a:Addr} {xs:List V} (e:H a=some (.aG xs)):dY K H (.ref a) (.type "tuple")
 |dK {a:Addr} {kvs:List (aU × V)} (e:H a=some (.dK kvs)):dY K H (.ref a) (.type "dict")
 |dT {a:Addr} {kvs:List (List aU × V)} (e:H a=some (.dT kvs)):dY K H (.ref a) (.type "dict")
 |ins {a C dx:Addr} {fs:List (Str × V)} (e:H a=some (.ins C dx fs)) (cl:gg K C) (ha:W.findIn K (.ref C) "__class__" = some (some (.builtin "object.__class__")))
   (hn:W.specialIn K (.builtin "object.__class__") "__get__"=some (some (.builtin "getset_descriptor.__get__"))) (htk:W.takesIn K (.builtin "object.__class__")=some true)
   (hm:W.mroIn K C (.type "object")=some true):dY K H (.ref a) (.ref C)
theorem Ir(I:au X aa σ H s)(f:aE x u)(ty:dY X.K H x t)(e:W.kitOne X.K t c=some b)(h:∀M,Q (.bool b) { s with toks:=M }):
  wpAny (model X.prog X.w) A (call (.builtin "isinstance") [u,c]) Q E s:=by
 cases ty with
 |aL=>cases (show u=Value.none from f);exact W.kia_one W.kitx_none I.cJ True.intro e (λz=>nomatch z) h
 |bl y=>cases (show u=Value.bool y from f);exact W.kia_one W.kitx_bool I.cJ True.intro e (λz=>nomatch z) h
 |int i=>obtain⟨t,q⟩:=(show ∃t,u=Value.int i t from f);cases q;exact W.kia_one W.kitx_int I.cJ True.intro e (λz=>nomatch z) h
 |str y=>obtain⟨t,q⟩:=(show ∃t,u=Value.str y t from f);cases q;exact W.kia_one W.kitx_str I.cJ True.intro e (λz=>nomatch z) h
 |kW y=>obtain⟨t,q⟩:=(show ∃t,u=Value.float y t from f);cases q;exact W.kia_one W.kitx_float I.cJ True.intro e (λz=>nomatch z) h
 |@ag a l d=>
  cases (show u=Value.ref a from f);obtain⟨_,_,n,_,g⟩:=(show a6 X.prog X.w H s.heap a (.ag l) from I.aN a _ d);exact W.kia_one W.kitx_list I.cJ ⟨_,g,rfl⟩ e (λz=>nomatch z) h
 |@ay a L l d=>
  cases (show u=Value.ref a from f);obtain⟨_,_,_,n,_,g⟩:=(show a6 X.prog X.w H s.heap a (.ay L (.ag l)) from I.aN a _ d);exact W.kia_one W.kitx_list I.cJ ⟨_,g,rfl⟩ e (λz=>nomatch z) h
 |@aG a l d=>
  cases (show u=Value.ref a from f);obtain⟨_,_,_,p⟩:=(show a6 X.prog X.w H s.heap a (.aG l) from I.aN a _ d);obtain⟨o,g,m,_⟩:=p;exact W.kia_one W.kitx_tuple I.cJ ⟨o,g,m⟩ e (λz=>nomatch z) h
 |@dK a j d=>
  cases (show u=Value.ref a from f);obtain⟨_,_,vs,_,p⟩:=(show a6 X.prog X.w H s.heap a (.dK j) from I.aN a _ d);obtain⟨o,D,B,g,m,_⟩:=p;exact W.kia_one W.kitx_dict I.cJ ⟨o,g,m.1⟩ e (λz=>nomatch z) h
 |@dT a j d=>
  cases (show u=Value.ref a from f);obtain⟨_,_,l,_,o,D,B,g,m,_⟩:=(show a6 X.prog X.w H s.heap a (.dT j) from I.aN a _ d);exact W.kia_one W.kitx_dict I.cJ ⟨o,g,m.1⟩ e (λz=>nomatch z) h
 |@ins a C N fs d cl G hn r hm=>
  cases (show u=Value.ref a from f);obtain⟨U,O,_⟩:=Dv I.aN d;obtain⟨od,J,_⟩:=O.look;exact W.kia_one (W.kitx_own (cl.get _) cl.hd G hn r hm) I.cJ J e (λz=>nomatch z) h
end
structure bw(k:Nat)(A:Around):Prop where
 hd:A.handled=none
 dp:A.depth+3*k+5<recursionLimit
 un:A.units+16*k+200<cLine
theorem bw.mono(r:bw k A)(h:j<=k):bw j A:=⟨r.hd,by have:=r.dp;omega,by have:=r.un;omega⟩
theorem bw.deeper(r:bw (k+1) A)(env:Env):bw k (A.deeper env):=
 ⟨r.hd,by have:=r.dp;show A.depth+1+3*k+5<_;omega,by have:=r.un;show A.units+3+16*k+200<_;omega⟩
theorem Kq{A:Around}{C:af}{us:aM}{a:List (Str×ai)}:(A.under (.builtin "type.__call__" ⟨.ref C::us,a⟩)).depth=A.depth+1:=by
 first |rfl |simp[Around.under,Code.weight,Code.isCreation,Code.isGuard,Code.isCaller,Code.frames,Code.isFrame,guardIds]
theorem L6{A:Around}{C:af}{us:aM}{a:List (Str×ai)}:(A.under (.builtin "type.__call__" ⟨.ref C::us,a⟩)).units=A.units+1:=by
 first |rfl |simp[Around.under,Code.cUnits,Code.frames,Code.isFrame]
theorem bw.make(r:bw (k+1) A)(C:af)(us:aM)(a:List (Str×ai)):bw k (A.under (.builtin "type.__call__" ⟨.ref C::us,a⟩)):=
 ⟨r.hd,by have:=r.dp;rw[Kq];omega,by have:=r.un;rw[L6];omega⟩
theorem bw.depth(r:bw k A):A.depth<recursionLimit:=by have:=r.dp;omega
theorem bw.units(r:bw k A):A.units+64<cLine:=by have:=r.un;omega
def iU:TA:=λ_ H Q=>Q [] H
def iS(d:TE)(tr:TA):TA:=λj H Q=>d j H λx a=>tr j a λe b=>Q (x::e) b
section
variable{X:Cx}{e:Expr}{es:bH}{te:TE}{t:TA}{pos:Pos}
theorem jT:PA X [] iU:=λ_ _ _ _ H Q I h=>Calls.spliced_nil ⟨[],H,I,.nil,h⟩
theorem ju(l:PE X e te)(m:PA X es t)(hs:dH e es X.env:=by rfl):PA X (e::es) (iS te t):=by
 intro pos aa s j H Q I h;rw[hs];show wpAny _ _ (spliced ((false,eval e X.env)::backTo pos (starEach es X.env))) _ _ s;refine Calls.spliced_cons (bh (l aa s j H _ I h) λu p a=>?_);obtain⟨x,d,g,r1,n⟩:=a;exact bh (m pos aa p j d _ g n) λus r b=>by obtain⟨q,f,i,r2,o⟩:=b;exact⟨x::q,f,i,.cons r1 r2,o⟩
def Af(t:TA):TE:=λj H Q=>t j H λb a=>b.length<=sizeLine/\∀p,a p=none->Q (.ref p) (aQ a p (.aG b))
def BA(t:TA):TE:=λj H Q=>t j H λb a=>b.length<=sizeLine/\∀p,a p=none->Q (.ref p) (aQ a p (.ag b))
theorem G3{x1}(h:PA X es t):PE X (.Tuple es x1 pos) (Af t):=by
 intro aa s j H Q I l;refine wpAny_Tuple_spliced (bh (h pos aa s j H _ I l) λus a d=>?_);obtain⟨m,f,g,r,z,q⟩:=d;refine⟨by rw[<- r.length];exact z,?_⟩;have i:f a.heap.objs.size=none:=g.aN.fresh (le_refl _);refine⟨.ref a.heap.objs.size,aQ f a.heap.objs.size (.aG m),g.laid (t':=a.toks) (λb u e=>Heap.get?_push_of_some _ e) (le_refl _) ?_,rfl,q _ i⟩;exact⟨z,us,r,⟨_,Heap.get?_push_size _ rfl,rfl,_,rfl⟩⟩
theorem HY(h:PA X es t):PE X (.List es pos) (BA t):=by
 intro aa s j H Q I l;refine wpAny_List_spliced (bh (h pos aa s j H _ I l) λus a d=>?_);obtain⟨m,f,g,r,z,q⟩:=d;refine⟨by rw[<- r.length];exact z,?_⟩;have i:f a.heap.objs.size=none:=g.aN.fresh (le_refl _);refine⟨.ref a.heap.objs.size,aQ f a.heap.objs.size (.ag m),g.laid (t':=a.toks) (λb u e=>Heap.get?_push_of_some _ e) (le_refl _) ?_,rfl,q _ i⟩;exact⟨z,us,0,r,Heap.get?_push_size _ rfl⟩
end
abbrev Sp:=aw->Hp->VK->XK->Prop
abbrev fB:=cz->Hp->ak->XK->ai->ak->Prop
structure ij(P:Program)(w:World)(K:ao)(mg:bu)(base:aT)(A:Around)(outer:cz)(s:ak)(H:Hp):Prop where
 frames:A.frames=some outer
 mod:Mod K mg base
 bs:∀b o,base.get? b=some o->s.heap.get? b=some o/\H b=none
 jf:base.objs.size<=s.heap.objs.size
 dz:s.heap.FunFrames base outer
 jU:∀b∈cB outer,H b=none
 aN:dk P w H s.heap
 bare:AllBare s.gens
def CE(outer:cz)(P:Program)(w:World)(H:Hp)(s:ak)(Q:VK)(u:ai)(s':ak):Prop:=
 ∃v a,s'.os=s.os/\AllBare s'.gens/\Un (cB outer) [] H a s.heap s'.heap/\dk P w a s'.heap/\aE v u/\Q v a
def CR(CX:fB)(outer:cz)(P:Program)(w:World)(H:Hp)(s:ak)(Q:VK)(E:XK)(r:Result)(s':ak):Prop:=
 match r with
 |.ok (.ret u)=>CE outer P w H s Q u s'
 |.ok _=>False
 |.error e=>CX outer H s E e s'
structure aK(P:Program)(w:World)(K:ao)(mg:bu)(base:aT)(CX:fB)(k:Nat)(f:af)(fd:FuncData)(ps:aj)(sp:Sp):Prop where
 len:∀vs H Q E,sp vs H Q E->vs.length=ps.length
 run:∀(A:Around)(outer:cz)(s:ak)(H:Hp)(args:Args)(us:aM)(vs:aw)(Q:VK)(E:XK),bw k A->ij P w K mg base A outer s H->BindsTo s fd args (ps.zip us)->aI vs us->sp vs H Q E->
  codeAny (model P w) A (.call (.ref f) args) (CR CX outer P w H s Q E) s
theorem aK.mono{P:Program}{w:World}{K:ao}{mg:bu}{base:aT}{CX:fB}{j k:Nat}{f:af}{a:FuncData}{b:aj}{sp:Sp}(F:aK P w K mg base CX j f a b sp)(h:j<=k):
  aK P w K mg base CX k f a b sp:=⟨F.len,λA outer s H args us vs Q E d=>F.run A outer s H args us vs Q E (d.mono h)⟩
theorem aK.imp{P:Program}{w:World}{K:ao}{mg:bu}{base:aT}{CX:fB}{k:Nat}{f:af}{b:FuncData}{d:aj}{sp a:Sp}(F:aK P w K mg base CX k f b d sp)(h:∀vs H Q E,a vs H Q E->sp vs H Q E):aK P w K mg base CX k f b d a:=
 ⟨λvs H Q E q=>F.len vs H Q E (h _ _ _ _ q),λA outer s H args us vs Q E i g e l j=>F.run A outer s H args us vs Q E i g e l (h _ _ _ _ j)⟩
theorem ij.make{P:Program}{w:World}{K:ao}{mg:bu}{base:aT}{A:Around}{outer:cz}{s:ak}{H:Hp}(e:ij P w K mg base A outer s H)(C:af)(us:aM)(a:List (Str×ai)):
  ij P w K mg base (A.under (.builtin "type.__call__" ⟨.ref C::us,a⟩)) outer s H:=⟨by first |exact e.frames |(simpa [Around.under,Code.envs,Code.isFrame,pushEnvs] using e.frames),e.mod,e.bs,e.jf,e.dz,e.jU,e.aN,e.bare⟩
section
variable{X:Cx}{aa:aV}{σ:St}{H:Hp}{s s':ak}
theorem au.kX(I:au X aa σ H s):ij X.prog X.w X.K X.mg X.base X.A X.stack s H:=
 ⟨I.ok.frames,I.ok.mod,I.bs,le_trans I.ok.jf I.sz,I.stack,I.fU,I.aN,I.bare⟩
theorem au.after(I:au X aa σ H s)(h:CE X.stack X.prog X.w H s Q u s'):EP X aa σ Q u s':=by
 obtain⟨v,e,os,bare,un,aN,r,q⟩:=h;obtain⟨f,g,d,t,a⟩:=s';obtain rfl:a=s.os:=os;exact⟨v,e,I.call (h':=f) (g':=g) (d':=d) (t':=t) (ch:=[]) un aN bare (λb z=>absurd z (by simp)),r,q⟩
end
def z9(sp:Sp)(a:aw)(E:XK)(t:TA):TE:=λj H Q=>t j H λvs b=>sp (vs++a) b Q E
def Binds(K:ao)(d:FuncData)(b:aj)(a:aM):Prop:=
 ∀(s:ak)(us:aM),K.In s.heap->(us++a).length=b.length->BindsTo s d ⟨us,[]⟩ (b.zip (us++a))
theorem Binds.all{K:ao}{b:FuncData}{a:aj}(h:∀us:aM,us.length=a.length->bindArgs b ⟨us,[]⟩=pure (a.zip us)):Binds K b a []:=λs us _ d=>by
 rw[append_nil] at d ⊢;exact .of_eq (h us d)
def l7(CX:fB)(X:Cx)(E:XK):Prop:=∀(aa:aV)(j:St)(H:Hp)(s:ak)(e:ai)(a:ak),au X aa j H s->CX X.stack H s E e a->X.xe e a
section
variable{X:Cx}{CX:fB}{k:Nat}{f C:af}{fd:FuncData}{ps:aj}{sp:Sp}{dvs:aw}{ds:aM}{E:XK}{x m:Str}{p pos apos:Pos}{e o:Expr}{es:bH}{ta:TE}{t:TA}
theorem UA(F:aK X.prog X.w X.K X.mg X.base CX k f fd ps sp)(i:bw k X.A)(d:Binds X.K fd ps ds)(hd:aI dvs ds)(l:l7 CX X E)(I:au X aa j H s)(r:aI vs us)(h:sp (vs++dvs) H Q E):wpAny (model X.prog X.w) X.A (call (.ref f) us) (EP X aa j Q) X.xe s:=by
 have r2:aI (vs++dvs) (us++ds):=r.append hd;have g:(us++ds).length=ps.length:=by rw[<- r2.length];exact F.len _ _ _ _ h
 refine wpAny_call (codeAny_mono (F.run X.A X.stack s H ⟨us,[]⟩ (us++ds) (vs++dvs) Q E i I.kX (d s us I.cJ g) r2 h) λr n a=>?_);cases r with
 |error e=>exact l aa j H s e n I a
 |ok b=>
  cases b with
  |ret u=>exact I.after a
  |next=>exact False.elim a
  |brk=>exact False.elim a
  |cont=>exact False.elim a
theorem QV(F:aK X.prog X.w X.K X.mg X.base CX k f fd ps sp)(u:bw k X.A)(l:Gl X x)(hm:X.mg x=some (.ref f))(n:W.keepIn X.K (.ref f)=true)(i:Binds X.K fd ps ds)(hd:aI dvs ds)(y:l7 CX X E)(g:PA X (e::es) t)(a:du x:=by decide)(he:dH e es X.env:=by rfl)(hpl:fk pos es X.env:=by rfl):
  PE X (.Call (.Name x p) (e::es) [] pos) (z9 sp dvs E t):=by
 intro aa s j H Q I h;refine wpAny_Call_Name_kw (lL I l hm ?_ a);refine W.callWith_K (h₀:=X.base) I.ok.mod.ky n (bh (g pos aa s j H _ I h) λus B b=>?_) he hpl;obtain⟨vs,z,d,r,q⟩:=b;refine⟨d.cJ,?_⟩;exact UA F u i hd y d r q
structure Mk(K:ao)(C f:af):Prop where
 makes:W.makesIn K C=true
 init:W.findIn K (.ref C) "__init__"=some (some (.ref f))
 fn:W.isFn K (.ref f)=true
 kp:W.keepIn K (.ref C)=true
end
def PK(X:Cx)(a:List Keyword)(t:TA):Prop:=
 ∀(pos:Pos)(aa:aV)(s:ak)(j:St)(H:Hp)(Q:aw->Hp->Prop),au X aa j H s->t j H Q->wpAny (model X.prog X.w) X.A (evalAll ((backToKw pos (keywordEach a X.env)).map (·.2))) (AP X aa j Q) X.xe s
section
variable{X:Cx}{CX:fB}{k:Nat}{f C:af}{fd:FuncData}{ps ks:aj}{sp:Sp}{E:XK}{x m:Str}{p pos apos kpos:Pos}{e o:Expr}{es:bH}{kws:List Keyword}{te ta:TE}{t tk:TA}{nm:Option Str}
theorem Sd:PK X [] iU:=λ_ _ _ _ H Q I h=>wpAny_evalAll_nil ⟨[],H,I,.nil,h⟩
theorem OK(n:PE X e te)(q:PK X kws t):PK X (⟨nm,e,kpos⟩::kws) (iS te t):=by
 intro pos aa s j H Q I h;show wpAny _ _ (evalAll ((do let v <- eval e X.env;standAt pos;pure v)::(backToKw pos (keywordEach kws X.env)).map (·.2))) _ _ s;refine wpAny_evalAll_cons (wpAny_bind (bh (n aa s j H _ I h) λu y a=>?_));obtain⟨x,d,i,r1,r⟩:=a;refine wpAny_bind (wpAny_standAt (wpAny_pure ?_));exact bh (q pos aa y j d _ i r) λus A b=>by obtain⟨z,g,l,r2,w⟩:=b;exact⟨x::z,g,l,.cons r1 r2,w⟩
variable{g:aM->aM->aM}{gV:aw->aw->aw}
end
structure bS(N P:aj)(sc:Scope):Prop where
 kind:sc.kind=.function
 co:sc.isCoroutine=false
 gen:sc.isGenerator=false
 nd:N.Nodup
 pre:N.take P.length=P
 par:∀x∈P,sc.names.lookup x=some .local\/sc.names.lookup x=some .cell
 mv:∀y∈sc.names,y.2≠.free
theorem zG{kindOf:Str->Option NameKind}{x:Str}:∀{binds:List (Str×ai)}{m:bu},(∀v,(x,v) ∉ binds)->bindL kindOf binds m x=m x
 |[],_,_=>rfl
 |(n,v)::r,m,h=>by
  unfold bindL;rw[zG λw a=>h w (mem_cons_of_mem _ a)];split
  .have:x≠n:=by rintro rfl;exact h v List.mem_cons_self
   simp[this]
  .rfl
theorem Ah{kindOf:Str->Option NameKind}{x:Str}:∀{binds:List (Str×ai)}{m:bu},(∀v,(x,v) ∉ binds)->bindC kindOf binds m x=m x
 |[],_,_=>rfl
 |(n,v)::r,m,h=>by
  unfold bindC;rw[Ah λw a=>h w (mem_cons_of_mem _ a)];split
  .rfl
  .have:x≠n:=by rintro rfl;exact h v List.mem_cons_self
   simp[this]
theorem zK{kindOf:Str->Option NameKind}{v:ai}:∀{P:aj}{vs:aM}{i:Nat}{m:bu},P.Nodup->P[i]?=some x->vs[i]?=some v->kindOf x=some .local->
  bindL kindOf (P.zip vs) m x=some v
 |[],_,_,_,_,h,_,_=>by simp at h
 |_::_,[],_,_,_,_,h,_=>by simp at h
 |p::P,w::vs,0,m,nd,h1,h2,hk=>by
  simp at h1 h2;subst h1;subst h2;show bindL kindOf ((p,w)::P.zip vs) m p=_;unfold bindL;rw[zG λv a=>(nodup_cons.mp nd).1 (of_mem_zip a).1,if_pos hk];simp
 |p::P,w::vs,i + 1,m,nd,h1,h2,hk=>by
  show bindL kindOf ((p,w)::P.zip vs) m x=_;unfold bindL;exact zK (i:=i) (nodup_cons.mp nd).2 (by simpa using h1) (by simpa using h2) hk
theorem zO{kindOf:Str->Option NameKind}{v:ai}:∀{P:aj}{vs:aM}{i:Nat}{m:bu},P.Nodup->P[i]?=some x->vs[i]?=some v->kindOf x≠some .local->
  bindC kindOf (P.zip vs) m x=some v
 |[],_,_,_,_,h,_,_=>by simp at h
 |_::_,[],_,_,_,_,h,_=>by simp at h
 |p::P,w::vs,0,m,nd,h1,h2,hk=>by
  simp at h1 h2;subst h1;subst h2;show bindC kindOf ((p,w)::P.zip vs) m p=_;unfold bindC;rw[Ah λv a=>(nodup_cons.mp nd).1 (of_mem_zip a).1,if_neg hk];simp
 |p::P,w::vs,i + 1,m,nd,h1,h2,hk=>by
  show bindC kindOf ((p,w)::P.zip vs) m x=_;unfold bindC;exact zO (i:=i) (nodup_cons.mp nd).2 (by simpa using h1) (by simpa using h2) hk
def start(N:aj)(vs:aw):St:=vs.map some++List.replicate (N.length - vs.length) none
def i2(CX:fB)(P:Program)(w:World)(K:ao)(mg:bu)(base:aT)(N:aj)(b:Str)(a:Scope)(f:af)(g:ai)(A:Around)(outer:cz)(s:ak)(H:Hp)(E:XK):Cx where
 prog:=P
 w:=w
 K:=K
 mg:=mg
 base:=base
 A:=A.deeper (envOfC b a s.heap.objs.size f g)
 N:=N
 s₀:=s
 H₀:=H
 env:=envOfC b a s.heap.objs.size f g
 outer:=outer
 stack:=envOfC b a s.heap.objs.size f g::outer
 ex:=[]
 calm:=true
 fn:=λ_=>true
 pn:=[]
 xe:=λe i=>wpAny (model P w) (A.deeper (envOfC b a s.heap.objs.size f g)) (leaving (envOfC b a s.heap.objs.size f g) e) (λ_ d=>CX outer H s E e d) (λh d=>CX outer H s E h d) i
theorem EY{sc:Scope}{n:Nat}{x:Str}(h:sc.names.lookup x=some .cell):∃c,(cellsFrom n sc.names []).lookup x=some c:=by
 have q:=W.cellsFrom_some sc.names n [] (.inl h);exact Option.isSome_iff_exists.mp q
theorem Oc{CX:fB}{P:Program}{w:World}{K:ao}{mg:bu}{base:aT}{N B:aj}{g:Str}{d:Scope}{f:af}{G:ai}{A:Around}{outer:cz}{s O:ak}{H:Hp}{E:XK}{us:aM}{vs:aw}(S:bS N B d)(hd:A.handled=none)(l:ij P w K mg base A outer s H)(hl:vs.length=B.length)(r:aI vs us)(x:InCallC s s.heap.objs.size (bindL (envOfC g d s.heap.objs.size f G).kindOf (B.zip us) λ_=>none) (cellsFrom (s.heap.objs.size+1) d.names []) (bindC (envOfC g d s.heap.objs.size f G).kindOf (B.zip us) λ_=>none) O):
  au (i2 CX P w K mg base N g d f G A outer s H E) [] (start N vs) H O:=by
 have U:B.length<=N.length:=by have:=congrArg List.length S.pre;rw[length_take] at this;omega
 obtain⟨I,tk,rfl,L⟩:=x.done;have o:∀b:Addr,b ∉ (i2 CX P w K mg base N g d f G A outer s H E).ex:=λb z=>absurd (show b∈([]:cD) from z) (by simp)
 refine⟨⟨l.mod,S.kind,rfl,rfl,le_refl _,λy z c I j=>?_,λy m=>?_,λy c _ h=>?_,λ_=>hd,Around.frames_deeper l.frames,.inr ⟨rfl,rfl⟩,λb z=>absurd z (o b),l.bs,l.jf,λb _ _=>o b,λb z=>absurd z (o b),l.dz,l.jU⟩,
  rfl,l.bare,Un.kept L,⟨_,x.toInCall.ns,λi y v I j h3=>?_⟩,λy c h=>⟨_,x.cell y c h⟩,l.aN.fresh (le_refl _),λy c h=>?_,λp C=>absurd (show p∈([]:aV) from C) (by simp),l.aN.kept L,?_⟩
 .exact name_of_addr x.apart (PySem.mem_of_lookup I) (PySem.mem_of_lookup j)
 .have m:d.names.lookup y=some .cell\/d.names.lookup y=some .free:=m;rcases m with m |m
  .exact EY m
  .exact absurd rfl (S.mv _ (PySem.mem_of_lookup m))
 .exact Nat.le_of_lt (x.above y c (PySem.mem_of_lookup h))
 .have J:i<vs.length:=by
   unfold start at j;by_cases J:i<vs.length
   .exact J
   .rw[getElem?_append_right (by simpa using J)] at j;rw[List.getElem?_replicate] at j;split at j<;>cases j
  have Q:vs[i]?=some v:=by
   unfold start at j;rw[getElem?_append_left (by simpa using J),getElem?_map] at j;cases e:vs[i]? with
   |none=>rw[e] at j;cases j
   |some a=>rw[e] at j;cases j;rfl
  obtain⟨u,M,Y⟩:=r.get Q;have C:B[i]?=some y:=by
   rw[<- S.pre,List.getElem?_take_of_lt (by omega)];exact I
  have D:B.Nodup:=by rw[<- S.pre];exact S.nd.sublist (List.take_sublist _ _)
  refine⟨u,Y,?_⟩;rcases S.par y (mem_of_getElem? C) with k |k
  .exact .inl ⟨k,zK D C M k⟩
  .obtain⟨c,e⟩:=EY (n:=s.heap.objs.size+1) k;refine .inr ⟨.inl k,c,e,?_⟩;have q:=x.cell y c e;rw[zO D C M (by show d.names.lookup y≠_;rw[k];decide)] at q;exact q
 .exact l.aN.fresh (Nat.le_of_lt (x.above y c (PySem.mem_of_lookup h)))
 .unfold start;show _=N.length;rw[length_append,length_map,length_replicate];omega
theorem Bo{CX:fB}{P:Program}{w:World}{K:ao}{mg:bu}{base:aT}{k:Nat}{f:af}{j d:Str}{g:Arguments}{h:List Stmt}{a:Scope}{dV kV doc pm a7 ct oc:ai}{an od:c7}{osl:Array (d0)}{N G:aj}{sp:Sp}(lk:K.lookup f=some ⟨oc,od,.func (W.fnOf j d g h a dV kV doc pm an a7 ct),osl⟩)(L:W.codeIn K a7 d=true)(S:bS N G a)(len:∀vs H Q E,sp vs H Q E->vs.length=G.length)(l:∀(A:Around)(outer:cz)(s:ak)(H:Hp)(vs:aw)(Q:VK)(E:XK),bw k (A.deeper (envOfC d a s.heap.objs.size f a7))->sp vs H Q E->
   ∃t,fA (i2 CX P w K mg base N d a f a7 A outer s H E) h t/\t { nx:=λ_ i=>Q .aL i,rt:=Q } (start N vs) H):
  aK P w K mg base CX (k+1) f (W.fnOf j d g h a dV kV doc pm an a7 ct) G sp:=by
 refine⟨len,λA outer s H args us vs Q E M z hb r C=>?_⟩;have hl:=len _ _ _ _ C;have KX:K.In s.heap:=z.mod.ky.keeps λb o e=>(z.bs b o e).1
 have O:s.heap.NoLimit:=z.mod.nolimit.keeps λb o e=>(z.bs b o e).1
 have m:∀y∈G.zip us,a.names.lookup y.1=some .local\/(a.names.lookup y.1=some .cell/\((cellsFrom (s.heap.objs.size+1) a.names []).lookup y.1).isSome=true):=λ⟨n,v⟩ hy=>by
  rcases S.par n (of_mem_zip hy).1 with q |q
  .exact .inl q
  .exact .inr ⟨q,W.cellsFrom_some _ _ _ (.inl q)⟩
 refine codeAny_call_function M.depth (KX _ _ lk) rfl S.co S.gen rfl (W.codeRec_of KX L) (hb _ _ _ _ ?_);refine wpAny_newFunctionEnv_cells S.kind m λenv he s1 x=>?_
 subst he;refine⟨O.keeps x.toInCall.keep,codeAny_func ?_⟩;obtain⟨t,ht,hq⟩:=l A outer s H vs Q E (M.deeper _) C;have I:au (i2 CX P w K mg base N d a f a7 A outer s H E) [] (start N vs) H s1:=Oc S M.hd z hl r x;refine wpAny_mono (ht [] s1 (start N vs) H _ I hq) (λfl Y p=>?_) λe Y p=>p
 have B:∀{D:St}{i:Hp}{v:V}{u:ai},au (i2 CX P w K mg base N d a f a7 A outer s H E) [] D i Y->aE v u->Q v i->CE outer P w H s Q u Y:=
  λ{D i v u} J U q=>⟨v,i,J.os,J.bare,J.base,J.aN,U,q⟩
 cases fl with
 |ret u=>
  obtain⟨v,D,i,J,U,q⟩:=p;exact B J U q
 |next=>
  obtain⟨D,i,J,q⟩:=p;exact B (v:=V.aL) (u:=Value.none) J rfl q
 |brk=>
  obtain⟨_,_,_,q⟩:=p;exact False.elim q
 |cont=>
  obtain⟨_,_,_,q⟩:=p;exact False.elim q
section
variable{X:Cx}{x:Str}{p pos:Pos}{e:Expr}{es:bH}{t:TA}{id T:String}{r:aw->Hp->VK->Prop}
def kO(r:aw->Hp->VK->Prop)(t:TA):TE:=λj H Q=>t j H λvs a=>r vs a Q
theorem NK(i:bK X (.builtin id) r)(l:Gl X x)(hm:X.mg x=none)(m:bootBuiltins x=some (.builtin id))(g:PA X (e::es) t)(hn:x≠"__name__":=by decide)(a:du x:=by decide)(he:dH e es X.env:=by rfl)(hpl:fk pos es X.env:=by rfl):PE X (.Call (.Name x p) (e::es) [] pos) (kO r t):=by
 intro aa s j H Q I h;refine wpAny_Call_Name_kw (i3 I l hm m ?_ hn a);exact PyProof.Rows.callWith_builtin1 (bh (g pos aa s j H _ I h) λus o b=>by obtain⟨vs,d,f,r1,n⟩:=b;exact i aa o j d vs us Q f r1 n) he hpl
theorem l9(i:bK X (.type T) r)(l:Gl X x)(hm:X.mg x=none)(m:bootBuiltins x=some (.type T))(g:PA X (e::es) t)(hn:x≠"__name__":=by decide)(a:du x:=by decide)(he:dH e es X.env:=by rfl)(hpl:fk pos es X.env:=by rfl):PE X (.Call (.Name x p) (e::es) [] pos) (kO r t):=by
 intro aa s j H Q I h;refine wpAny_Call_Name_kw (i3 I l hm m ?_ hn a);exact PyProof.Rows.callWith_type1 (bh (g pos aa s j H _ I h) λus o b=>by obtain⟨vs,d,f,r1,n⟩:=b;exact i aa o j d vs us Q f r1 n) he hpl
end
section
variable{κ:Type}[DecidableEq κ]
def gN(kvs:List (κ×V))(k:κ):Option V:=(kvs.find? λa=>decide (a.1=k)).map (·.2)
def ff(kvs:List (κ×V))(k:κ)(v:V):List (κ×V):=
 if (kvs.any λa=>decide (a.1=k))=true then kvs.map (λa=>if a.1=k then (a.1,v) else a) else kvs++[(k,v)]
theorem yV{p:κ×V}{r:List (κ×V)}{k:κ}(e:p.1=k):gN (p::r) k=some p.2:=by simp[gN,find?_cons,e]
theorem yB{p:κ×V}{r:List (κ×V)}{k:κ}(e:¬ p.1=k):gN (p::r) k=gN r k:=by simp[gN,find?_cons,e]
theorem Dy(k:κ):∀kvs:List (κ×V),(kvs.any λa=>decide (a.1=k))=(gN kvs k).isSome
 |[]=>rfl
 |p::r=>by
  rw[any_cons];by_cases e:p.1=k
  .simp only[yV e,decide_eq_true e,Bool.true_or,Option.isSome_some]
  .rw[yB e,decide_eq_false e,Bool.false_or];exact Dy k r
theorem wu(kvs:List (κ×V))(k:κ)(v:V):(ff kvs k v).length<=kvs.length+1:=by
 unfold ff;split
 .rw[length_map];omega
 .rw[length_append,length_cons,length_nil];omega
theorem cG.cI(r:cG o u):o.isSome=u.isSome:=by
 cases o with
 |none=>cases u with
  |none=>rfl
  |some _=>exact (show False from r).elim
 |some _=>cases u with
  |none=>exact (show False from r).elim
  |some _=>rfl
theorem cG.getD(r:cG o u)(rd:aE d d'):aE (o.getD d) (u.getD d'):=by
 cases o with
 |none=>cases u with
  |none=>exact rd
  |some _=>exact (show False from r).elim
 |some _=>cases u with
  |none=>exact (show False from r).elim
  |some _=>exact r
theorem KV.val{kvs:List (κ×V)}{vs:List (κ×ai)}(r:KV kvs vs)(k:κ):cG (gN kvs k) (valueAt vs k):=by
 unfold KV at r
 induction r with
 |nil=>exact True.intro
 |@cons p q i a h t g=>
  obtain⟨d,f⟩:=h;by_cases e:p.1=k
  .have e':q.1=k:=d.symm.trans e;have b:valueAt (q::a) k=some q.2:=by simp[valueAt,find?_cons,e']
   rw[yV e,b];exact f
  .have e':¬ q.1=k:=λz=>e (d.trans z)
   have b:valueAt (q::a) k=valueAt a k:=by simp[valueAt,find?_cons,e']
   rw[yB e,b];exact g
theorem KV.any(r:KV kvs vs)(k:κ):(kvs.any λa=>decide (a.1=k))=vs.any λa=>decide (a.1=k):=by
 unfold KV at r
 induction r with
 |nil=>rfl
 |cons h t b=>rw[any_cons,any_cons,b,h.1]
theorem KV.mM(r:KV kvs vs)(k:κ)(g:aE y u):
  KV (kvs.map λa=>if a.1=k then (a.1,y) else a) (vs.map λa=>if a.1=k then (a.1,u) else a):=by
 unfold KV at r ⊢
 induction r with
 |nil=>exact .nil
 |@cons p q i j h t f=>
  rw[map_cons,map_cons];refine .cons ?_ f;obtain⟨b,d⟩:=h;by_cases e:p.1=k
  .rw[if_pos e,if_pos (b.symm.trans e)];exact⟨b,g⟩
  .rw[if_neg e,if_neg (λz=>e (b.trans z))];exact⟨b,d⟩
theorem KV.put(r:KV kvs vs)(k:κ)(a:aE y u):KV (ff kvs k y) (stored vs k u):=by
 unfold ff stored;rw[r.any k];by_cases e:(vs.any λb=>decide (b.1=k))=true
 .rw[if_pos e,if_pos e];exact r.mM k a
 .rw[if_neg e,if_neg e];exact Paired.snoc r ⟨rfl,a⟩
theorem KV.length(r:KV kvs vs):kvs.length=vs.length:=Paired.length r
end
theorem mZ(r:aE (kV k) u):(eA P w).is k u=true:=by
 cases k with
 |inl i=>obtain⟨t,e⟩:=(show ∃t,u=Value.int i t from r);subst e;exact UM P w i t
 |inr x=>obtain⟨t,e⟩:=(show ∃t,u=Value.str x t from r);subst e;exact Rr P w x t
theorem DN:∀{ks:List aU}{us:aM},aI (ks.map kV) us->ItemsAre (eA P w) ks us
 |[],_,r=>by rw[map_nil] at r;cases r;exact .nil
 |k::ks,_,r=>by
  rw[map_cons] at r;cases r with
  |cons h t=>exact .cons (mZ h) (DN t)
abbrev KT(H:Hp):List (List aU×V)->List (List aU×af×ai)->Prop:=Paired λp q=>p.1=q.1/\H q.2.1=some (.aG (p.1.map kV))/\aE p.2 q.2.2
theorem KT.val{H:Hp}{kvs:List (List aU×V)}{xs:List (List aU×af×ai)}(r:KT H kvs xs)(k:List aU):cG (gN kvs k) ((atKey xs k).map (·.2)):=by
 induction r with
 |nil=>exact True.intro
 |@cons p q i a h t g=>
  obtain⟨d,_,f⟩:=h;by_cases e:p.1=k
  .have e':q.1=k:=d.symm.trans e;have b:atKey (q::a) k=some q.2:=by simp[atKey,find?_cons,e']
   rw[yV e,b];exact f
  .have e':¬ q.1=k:=λz=>e (d.trans z)
   have b:atKey (q::a) k=atKey a k:=by simp[atKey,find?_cons,e']
   rw[yB e,b];exact g
theorem KT.mM(r:KT H kvs xs)(k:List aU)(i:aE y u):
  KT H (kvs.map λb=>if b.1=k then (b.1,y) else b) (xs.map (putAt k u)):=by
 induction r with
 |nil=>exact .nil
 |@cons p q j l h t g=>
  rw[map_cons,map_cons];refine .cons ?_ g;obtain⟨a,d,f⟩:=h;unfold putAt;by_cases e:p.1=k
  .rw[if_pos e,if_pos (a.symm.trans e)];exact⟨a,d,i⟩
  .rw[if_neg e,if_neg (λz=>e (a.trans z))];exact⟨a,d,f⟩
theorem KT.put{H:Hp}(r:KT H kvs xs)(k:List aU)(d:H b=some (.aG (k.map kV)))(a:aE y u):
  KT H (ff kvs k y) (storedH xs k b u):=by
 have e:(kvs.any λf=>decide (f.1=k))=(atKey xs k).isSome:=by
  rw[Dy,(r.val k).cI,isSome_map]
 unfold ff storedH;rw[e];by_cases q:(atKey xs k).isSome=true
 .rw[if_pos q,if_pos q];exact r.mM k a
 .rw[if_neg q,if_neg q];exact Paired.snoc r ⟨rfl,d,a⟩
theorem KT.keeps{H a:Hp}(r:KT H kvs xs)(ht:∀b ys,H b=some (.aG ys)->a b=some (.aG ys)):KT a kvs xs:=
 Paired.mL r λ_ _ z=>⟨z.1,ht _ _ z.2.1,z.2.2⟩
section
variable{P:Program}{w:World}{H:Hp}{h:aT}{a:af}
theorem CO(ok:dk P w H h)(e:Rd H a u):a6 P w H h a u:=e.ok ok
theorem jy(ok:dk P w H h)(e:Rd H a (.dK kvs)):kvs.length<=sizeLine/\(a == sysModules)=false/\∃vs,KV kvs vs/\h.DictOf (eA P w) a vs:=
 show a6 P w H h a (.dK kvs) from CO ok e
theorem tO(ok:dk P w H h)(e:H a=some (.dK kvs)):kvs.length<=sizeLine/\(a == sysModules)=false/\∃vs,KV kvs vs/\h.DictOf (eA P w) a vs:=jy ok (.inl e)
theorem nZ(ok:dk P w H h)(e:H a=some (.aG (ks.map kV))):(tupleKind (eA P w)).is h ks a:=by
 obtain⟨_,b,r,o,d,f,n,g⟩:=(show a6 P w H h a (.aG (ks.map kV)) from ok a _ e);exact⟨o,b.toArray,n,d,f,g,by simpa using DN r⟩
theorem mR(ok:dk P w H h)(e:Rd H a (.dT kvs)):kvs.length<=sizeLine/\(a == sysModules)=false/\
  ∃xs,KT H kvs xs/\h.DictOfH (tupleKind (eA P w)) a xs:=by
 obtain⟨z,y,xs,r,o,g,f,i,j,n,s,u⟩:=(show a6 P w H h a (.dT kvs) from CO ok e);refine⟨z,y,xs,r,o,g,f,i,j,n,s,λx b=>?_,u⟩;have all:∀{l:List (List aU×V)}{m:List (List aU×af×ai)},KT H l m->∀x∈m,(tupleKind (eA P w)).is h x.1 x.2.1:=by
  intro l m q
  induction q with
  |nil=>intro x b;exact nomatch b
  |@cons p q B C d t A=>
   intro x b;rcases mem_cons.mp b with e |b
   .subst e;exact nZ ok (by rw[<- d.1];exact d.2.1)
   .exact A x b
 exact all r x b
theorem Rn(ok:dk P w H h)(e:H a=some (.dT kvs)):kvs.length<=sizeLine/\(a == sysModules)=false/\
  ∃xs,KT H kvs xs/\h.DictOfH (tupleKind (eA P w)) a xs:=mR ok (.inl e)
end
def ll(H:Hp)(a:af)(y:V)(r:Option V):Prop:=
 (∃d k,Rd H a (.dK d)/\y=kV k/\r=gN d k)\/∃d k b,Rd H a (.dT d)/\y=.ref b/\H b=some (.aG (k.map kV))/\r=gN d k
def ji(H:Hp)(a:af)(y v:V)(e:Hp):Prop:=
 (∃d k,H a=some (.dK d)/\y=kV k/\d.length<sizeLine/\e=aQ H a (.dK (ff d k v)))\/
 ∃d k b,H a=some (.dT d)/\y=.ref b/\H b=some (.aG (k.map kV))/\d.length<sizeLine/\e=aQ H a (.dT (ff d k v))
theorem ji.k{H:Hp}{a:af}{kvs:bT}{k:aU}{v:V}(e:H a=some (.dK kvs))(b:kvs.length<sizeLine):ji H a (kV k) v (aQ H a (.dK (ff kvs k v))):=.inl ⟨kvs,k,e,rfl,b,rfl⟩
section
variable{X:Cx}{aa:aV}{σ:St}{H:Hp}{s:ak}{a:af}{y v:V}{u r:ai}{o:Option V}{A:Around}{E:ai->ak->Prop}
theorem au.big(I:au X aa σ H s):sysModules<s.heap.objs.size:=by
 have h:mainGlobals<s.heap.objs.size:=(I.mod.glob.keeps I.bk).lt;exact Nat.lt_trans (by decide) h
theorem MD{Q:ai->ak->Prop}(C:A.units+1<cLine)(I:au X aa σ H s)(g:ll H a y (some v))(x:aE y u)(h:∀i s',au X aa σ H s'->aE v i->Q i s'):
  wpAny (model X.prog X.w) A (getItem (.ref a) u) Q E s:=by
 rcases g with⟨q,k,e,j,l⟩ |⟨q,k,b,e,j,eb,l⟩
 .subst j;obtain⟨z,hd,vs,d,dd⟩:=jy I.aN e;obtain⟨i,n,f⟩:=cG.some_of (v:=v) (o:=valueAt vs k) (by rw[l];exact d.val k);exact wpAny_getItem_of (mZ x) dd.mapOf n (h i _ (I.tok _) f)
 .subst j;cases (show u=Value.ref b from x);obtain⟨z,hd,D,d,dd⟩:=mR I.aN e;obtain⟨i,n,f⟩:=cG.some_of (v:=v) (o:=(atKey D k).map (·.2)) (by rw[l];exact d.val k);obtain⟨p,B,m⟩:=Option.map_eq_some_iff.mp n;refine wpAny_getItem_heap (tupleKind_room_in1 C) (nZ I.aN eb) dd B ?_;rw[m];exact h i _ (I.tok _) f
theorem LO{Q:ai->ak->Prop}(m:A.units+1<cLine)(I:au X aa σ H s)(g:ll H a y o)(j:aE y u)(h:∀s',au X aa σ H s'->Q (.bool o.isSome) s'):
  wpAny (model X.prog X.w) A (compareOp .In u (.ref a)) Q E s:=by
 rcases g with⟨i,k,e,f,l⟩ |⟨i,k,b,e,f,eb,l⟩
 .subst f;obtain⟨z,hd,vs,d,dd⟩:=jy I.aN e;refine wpAny_in_of (mZ j) hd dd.mapOf ?_;rw[<- (d.val k).cI,<- l];exact h _ (I.tok _)
 .subst f;cases (show u=Value.ref b from j);obtain⟨z,hd,n,d,dd⟩:=mR I.aN e;refine wpAny_in_heap (tupleKind_room_in1 m) (nZ I.aN eb) hd dd ?_;have q:=(d.val k).cI;rw[isSome_map] at q;rw[<- q,<- l];exact h _ (I.tok _)
theorem Uz{Q:ai->ak->Prop}(m:A.units+1<cLine)(I:au X aa σ H s)(g:ll H a y o)(j:aE y u)(h:∀s',au X aa σ H s'->Q (.bool (!o.isSome)) s'):
  wpAny (model X.prog X.w) A (compareOp .NotIn u (.ref a)) Q E s:=by
 rcases g with⟨i,k,e,f,l⟩ |⟨i,k,b,e,f,eb,l⟩
 .subst f;obtain⟨z,hd,vs,d,dd⟩:=jy I.aN e;refine wpAny_notIn_of (mZ j) hd dd.mapOf ?_;rw[<- (d.val k).cI,<- l];exact h _ (I.tok _)
 .subst f;cases (show u=Value.ref b from j);obtain⟨z,hd,n,d,dd⟩:=mR I.aN e;refine wpAny_notIn_heap (tupleKind_room_in1 m) (nZ I.aN eb) hd dd ?_;have q:=(d.val k).cI;rw[isSome_map] at q;rw[<- q,<- l];exact h _ (I.tok _)
theorem u1(I:au X aa σ H s)(g:qB (H a))(hs:Heap.SameBut a s.heap h')(he:∃q,h'.get? a=some q)(d:a6 X.prog X.w (aQ H a ob) h' a ob):
  au X aa σ (aQ H a ob) { s with heap:=h',toks:=t' }:=
 I.write (x:=a) (e:=a) g (.inl rfl) (λb q f z=>(hs.2 b f).trans z) he d
theorem Fy(z:kvs.length<=sizeLine)(hd:(a == sysModules)=false)(b:KV kvs vs)(dd:h'.DictOf (eA P w) a vs):
  a6 P w H' h' a (.dK kvs):=⟨z,hd,vs,b,dd⟩
theorem Km{Q:Unit->ak->Prop}(hu:A.units+1<cLine)(I:au X aa σ H s)(g:ji H a y v H')(J:aE y u)(G:aE v r)(h:∀s',au X aa σ H' s'->Q () s'):
  wpAny (model X.prog X.w) A (setItem (.ref a) u r) Q E s:=by
 rcases g with⟨d,k,e,n,l,m⟩ |⟨d,k,b,e,n,eb,l,m⟩
 .subst n m;obtain⟨z,hd,vs,f,dd⟩:=tO I.aN e;have B:vs.length<=sizeLine:=by rw[<- f.length];exact z
  have p:(ff d k v).length<=sizeLine:=by have:=wu d k v;omega
  refine wpAny_setItem_pairs (hsz:=B) (mZ J) dd λD i x=>h _ ?_
  have he:∃q,D.get? a=some q:=let ⟨q,_,_,j,_⟩:=i;⟨q,j⟩
  exact u1 I (by rw[e];exact True.intro) x he (Fy p hd (f.put k G) i)
 .subst n m;cases (show u=Value.ref b from J);obtain⟨z,hd,xs,f,dd⟩:=Rn I.aN e;have B:xs.length<=sizeLine:=by rw[<- Paired.length f];exact z
  have p:(ff d k v).length<=sizeLine:=by have:=wu d k v;omega
  refine wpAny_setItem_heap (hsz:=B) (tupleKind_room_in1 hu) (nZ I.aN eb) dd λD i x=>h _ ?_
  obtain⟨q,M,L,j,N,O,U,_,Y⟩:=i;refine u1 I (by rw[e];exact True.intro) x ⟨q,j⟩ ⟨p,hd,_,(f.put k eb G).keeps λc ys C=>?_,q,M,L,j,N,O,U,Y⟩;rw[ba (Oz C e (λz=>nomatch z))];exact C
end
section
variable{X:Cx}{aa:aV}{σ:St}{H:Hp}{s:ak}{a:af}{kvs:bT}{k:aU}{u:ai}{A:Around}{E:ai->ak->Prop}
theorem Mc{Q:ai->ak->Prop}(I:au X aa σ H s)(e:Rd H a (.dK kvs))(h:∀t s',au X aa σ H s'->Q (.int kvs.length t) s'):wpAny (model X.prog X.w) A (call (.builtin "len") [.ref a]) Q E s:=by
 obtain⟨z,hd,vs,b,dd⟩:=jy I.aN e;refine call_len_dict hd dd (by rw[<- b.length];rw[sizeLine_eq] at z;omega) ?_;rw[<- b.length];exact h _ _ (I.tok _)
end
theorem HS(I:au X aa j H s)(g:ll H a y o):s.TypeIs (.ref a) "dict":=by
 rcases g with⟨d,k,e,_,_⟩ |⟨d,k,b,e,_,_,_⟩
 .obtain⟨_,_,vs,_,dd⟩:=jy I.aN e;exact dd.typeIs
 .obtain⟨_,_,xs,_,dd⟩:=mR I.aN e;exact dd.typeIs
def A5(g ty h:TE):TS:=λD j H=>h j H λv d=>g j d λx e=>ty j e λy f=>∃a b,x=.ref a/\ji f a y v b/\D.nx j b
section
variable{X:Cx}{o i e value:Expr}{pos pos' tpos:Pos}{td ty tv:TE}
theorem PB(E:X.A.units+1<cLine)(C:PE X o td)(B:PE X i ty)(G:PE X value tv)(hs:swapsWith value (some (.Subscript o i pos')) pos.line X.env=pure false):
  PS X (.Assign [.Subscript o i pos'] value pos) (A5 td ty tv):=by
 intro aa s j H D I h;refine wpAny_Assign_Subscript (bh (G aa s j H _ I h) λr U b=>?_) hs;obtain⟨v,l,p,N,J⟩:=b;refine bh (C aa U j l _ p J) λu Y d=>?_
 obtain⟨x,m,q,O,L⟩:=d;refine bh (B aa Y j m _ q L) λiv s3 f=>?_
 obtain⟨y,H3,w,Q,a,n,ex,g,M⟩:=f;subst ex;obtain rfl:u=Value.ref a:=O;exact Km E w g Q N λs4 z=>⟨j,n,z,M⟩
end
theorem Bt(h:aT)(a:sysModules<h.objs.size):a6 P w H (h.push { cls:=.type "dict",data:=.dict #[] }) h.objs.size (.dK []):=
 ⟨zero_le _,beq_eq_false_iff_ne.mpr (Ne.symm (ne_of_lt a)),[],.nil,Heap.DictOf.new h⟩
def Bc:TE:=λ_ H Q=>∀p,H p=none->Q (.ref p) (aQ H p (.dK []))
section
variable{X:Cx}{pos:Pos}
theorem U3:PE X (.Dict [] [] pos) Bc:=λaa s j H Q I h=>
 wpAny_Dict_empty ⟨.ref s.heap.objs.size,_,I.laid (a:=s.heap.objs.size) (o:=.dK []) (t':=s.toks) (λ_ _ q=>Heap.get?_push_of_some _ q) (le_refl _) (Bt s.heap I.big),rfl,h _ (I.aN.fresh (le_refl _))⟩
end
def sU:List (TE×TE)->St->Hp->(List (V×V)->Hp->Prop)->Prop
 |[],_,H,Q=>Q [] H
 |(tk,tv)::r,j,H,Q=>tk j H λx a=>tv j a λy b=>sU r j b λe d=>Q ((x,y)::e) d
abbrev VV:List (V×V)->List (ai×ai)->Prop:=Paired λp q=>aE p.1 q.1/\aE p.2 q.2
def p9(X:Cx)(pos:Pos)(keys:List (Option Expr))(a:bH)(b:List (TE×TE)):Prop:=
 ∀(aa:aV)(s:ak)(j:St)(H:Hp)(Q:List (V×V)->Hp->Prop),au X aa j H s->sU b j H Q->
  wpAny (model X.prog X.w) X.A (evalPairs (pairTrees keys a X.env pos)) (λvs f=>∃e d,au X aa j d f/\VV e vs/\Q e d) X.xe s
theorem GP:p9 X pos [] [] []:=λaa s j H Q I h=>pairTrees_nil_walk ⟨[],H,I,.nil,h⟩
theorem Jy(f:PE X k tk)(i:PE X v tv)(g:p9 X pos ks vs trs):
  p9 X pos (some k::ks) (v::vs) ((tk,tv)::trs):=λaa s j H Q I h=>
 pairTrees_cons_walk (bh (f aa s j H _ I h) λu n ⟨x,H1,I1,rx,q1⟩=>bh (i aa n j H1 _ I1 q1) λw2 o ⟨y,H2,I2,ry,q2⟩=>
  bh (g aa o j H2 _ I2 q2) λq p b=>by obtain⟨l,d,e,a,m⟩:=b;exact⟨(x,y)::l,d,e,.cons ⟨rx,ry⟩ a,m⟩)
def lG(kvs a:bT):bT:=a.foldl (λb d=>ff b d.1 d.2) kvs
theorem KV.merge:∀{a:bT}{rs:List (aU×ai)}{kvs:bT}{vs:List (aU×ai)},KV a rs->KV kvs vs->KV (lG kvs a) (merged vs rs):=by
 intro a rs kvs vs r;unfold KV at r
 induction r generalizing kvs vs with
 |nil=>intro q;exact q
 |@cons p q d f h t b=>
  intro r0;have e:KV (ff kvs p.1 p.2) (stored vs q.1 q.2):=by
   have:=r0.put p.1 h.2;rw[<- h.1];exact this
  exact b e
theorem z7:∀(a kvs:bT),(lG kvs a).length<=kvs.length+a.length
 |[],kvs=>by show kvs.length <= kvs.length + 0;omega
 |p::r,kvs=>by
  have b:=z7 r (ff kvs p.1 p.2);have d:=wu kvs p.1 p.2;show (lG (ff kvs p.1 p.2) r).length<=_;rw[length_cons];omega
theorem Gv:∀{kvs:bT}{e:List (ai×ai)},VV (kvs.map λd=>(kV d.1,d.2)) e->∃rs,Carries (eA P w) e rs/\KV kvs rs
 |[],_,r=>by rw[map_nil] at r;cases r;exact⟨[],True.intro,.nil⟩
 |p::kvs,_,r=>by
  rw[map_cons] at r;cases r with
  |@cons a b g bs h t=>
   obtain⟨rs,c,q⟩:=Gv (P:=P) (w:=w) t;obtain⟨i,f⟩:=b;exact⟨(p.1,f)::rs,⟨mZ h.1,rfl,c⟩,.cons ⟨rfl,h.2⟩ q⟩
def FF(b:List (TE×TE)):TE:=λj H Q=>∀p,H p=none->sU b j (aQ H p (.dK [])) λf d=>d p=some (.dK [])/\∃a:bT,f=a.map (λe=>(kV e.1,e.2))/\a.length<=15/\Q (.ref p) (aQ d p (.dK (lG [] a)))
theorem QU(h:p9 X pos keys values trs)(d:keys.all (·.isSome)=true)(y:keys.length=values.length)(r:keys≠[])(g:keys.length<=15):PE X (.Dict keys values pos) (FF trs):=by
 intro aa s j H Q I q;have hn:=I.aN.fresh (le_refl s.heap.objs.size);have n:=I.laid (a:=s.heap.objs.size) (o:=.dK []) (h':=s.heap.push { cls:=.type "dict",data:=.dict #[] }) (t':=s.toks) (λ_ _ q=>Heap.get?_push_of_some _ q) (le_refl _) (Bt s.heap I.big);refine wpAny_Dict_walk (knd:=eA X.prog X.w) d y r g (bh (h aa _ j _ _ n (q _ hn)) λN M l=>?_);obtain⟨L,G,m,i,e,f,p,J,C⟩:=l;subst p;obtain⟨rs,c,D⟩:=Gv (P:=X.prog) (w:=X.w) i;obtain⟨z,hd,E,r0,dd⟩:=tO m.aN e;cases r0;refine⟨rs,c,dd,λh' b A=>⟨.ref s.heap.objs.size,_,?_,rfl,C⟩⟩;have B:(lG [] f).length<=sizeLine:=by
  have u:=z7 f [];rw[length_nil] at u;rw[sizeLine_eq];omega
 have x:∃q,h'.get? s.heap.objs.size=some q:=let ⟨q,_,_,hq,_⟩:=b;⟨q,hq⟩
 exact u1 m (by rw[e];exact True.intro) A x (Fy B hd (D.merge .nil) b)
structure M2(X:Cx)(o:Expr)(m:Str)(apos:Pos)(e f:Expr)(bq:Pos):Prop where
 base:attributeBase o m X.env (eval o X.env)=eval o X.env
 LM:((backTo bq (starEach [e,f] X.env)).all (λx=>!x.1)&&(backToKw bq (keywordEach [] X.env)).all (λx=>x.1.isSome)
  && decide (([e,f]:bH).length+([]:List Keyword).length+(if ([]:List Keyword).isEmpty then 0 else 1)<30))=true
 line:(apos.endLine == bq.line)=true
 trees:backTo bq (starEach [e,f] X.env)=[(false,eval e X.env),(false,eval f X.env)]
def F7(H:Hp)(a:af):Prop:=(∃b,Rd H a (.dK b))\/∃b,Rd H a (.dT b)
theorem tf(I:au X aa j H s)(d:F7 H a):
  s.TypeIs (.ref a) "dict"/\(∀b,Value.ref a=.ref b->∃ob,s.heap.get? b=some ob/\ob.dict=none)/\(a == sysModules)=false:=by
 rcases d with⟨h,e⟩ |⟨h,e⟩
 .obtain⟨_,hd,vs,_,dd⟩:=jy I.aN e;refine⟨dd.typeIs,λb q=>?_,hd⟩;cases q;obtain⟨ob,_,_,f,g,_⟩:=dd;exact⟨ob,f,g.2.1⟩
 .obtain⟨_,hd,xs,_,dd⟩:=mR I.aN e;refine⟨dd.typeIs,λb q=>?_,hd⟩;cases q;obtain⟨ob,_,_,f,g,_⟩:=dd;exact⟨ob,f,g.2.1⟩
section
variable{X:Cx}{aa:aV}{σ:St}{H:Hp}{s:ak}{a:af}{y d:V}{u r:ai}{o:Option V}{A:Around}{E:ai->ak->Prop}
theorem Us{Q:ai->ak->Prop}(p:A.units+1<cLine)(I:au X aa σ H s)(g:ll H a y o)(m:aE y u)(rd:aE d r)(h:∀n s',au X aa σ H s'->aE (o.getD d) n->Q n s'):
  wpAny (model X.prog X.w) A (call (.builtin "dict.get") [.ref a,u,r]) Q E s:=by
 rcases g with⟨j,k,e,i,l⟩ |⟨j,k,b,e,i,eb,l⟩
 .subst i;obtain⟨z,hd,vs,f,dd⟩:=jy I.aN e;refine call_meetsIn PySem.F.slot_dict_get dd.typeIs PySem.F.entry_dict_get (PySem.F.args_dict_get_3 _ _ _) (meets_dict_get_default (eA X.prog X.w) a (mZ m) hd r) ⟨_,dd.mapOf,h _ _ (I.tok _) ?_⟩;rw[l];exact (f.val k).getD rd
 .subst i;cases (show u=Value.ref b from m);obtain⟨z,hd,q,f,dd⟩:=mR I.aN e;refine call_meetsIn PySem.F.slot_dict_get dd.typeIs PySem.F.entry_dict_get (PySem.F.args_dict_get_3 _ _ _) (meetsH_dict_get_default (tupleKind (eA X.prog X.w)) a b hd r) ⟨tupleKind_room_in1 p,k,q,nZ I.aN eb,dd,h _ _ (I.tok _) ?_⟩;rw[l];exact (f.val k).getD rd
end
def BE(f ty g:TE):TE:=λj H Q=>f j H λx b=>∃a,x=.ref a/\F7 b a/\ty j b λy e=>g j e λz d=>∃o,ll d a y o/\Q (o.getD z) d
section
variable{X:Cx}{o e f:Expr}{apos bq:Pos}{td ty tx:TE}
theorem Wd(w:X.A.units+1<cLine)(r:PE X o td)(he:PE X e ty)(q:PE X f tx)(m:M2 X o "get" apos e f bq):PE X (.Call (.Attribute o "get" apos) [e,f] [] bq) (BE td ty tx):=by
 intro aa s j H Q I h;refine wpAny_Call_method m.base m.LM m.line PySem.F.plainAttrs_dict PySem.F.slot_dict_get PySem.F.type_dict_get (bh (r aa s j H _ I h) λu D i=>?_);obtain⟨x,n,l,C,a,ex,d,B⟩:=i;subst ex;obtain rfl:u=Value.ref a:=C;obtain⟨G,J,_⟩:=tf l d;refine⟨G,J,?_⟩;rw[m.trees];refine Calls.callWith_builtin rfl (Calls.evalArgs_plain (Calls.spliced_cons (bh (he aa D j n _ l B) λM E ⟨y,H2,I2,ry,q2⟩=>
  Calls.spliced_cons (bh (q aa E j H2 _ I2 q2) λL N ⟨z,H3,I3,rz,ov,g,q3⟩=>Calls.spliced_nil ?_))))
 exact Us w I3 g ry rz λU O p b=>⟨_,H3,p,b,q3⟩
end
end L2
namespace HT
open PySem PyProof.Rows
section
variable{prog:Program}{w:World}{A:Around}{E:ai->ak->Prop}{s:ak}
def dq(n d:Nat):bI->Nat
 |none=>d
 |some v=>if v < 0 then (v + (n:Int)).toNat else min v.toNat n
end
end HT
namespace L2
open PySem PySem.Spec PyProof.Rows
abbrev TO:=St->Hp->(bI->Hp->Prop)->Prop
def PO(X:Cx)(e:Option Expr)(t:TO):Prop:=
 ∀(aa:aV)(s:ak)(j:St)(H:Hp)(Q:bI->Hp->Prop),au X aa j H s->t j H Q->
  wpAny (model X.prog X.w) X.A (evalPart e X.env) (λu b=>∃o a,au X aa j a b/\IsPart u o/\Q o a) X.xe s
def FN:TO:=λ_ H Q=>Q none H
def Ee(t:TE):TO:=λj H Q=>t j H λx a=>∃i,x=.int i/\Q (some i) a
theorem K4:∀{us:aM},aI (ns.map V.int) us->IntsAre us ns:=by
 induction ns with
 |nil=>intro us r;rw[map_nil] at r;cases r;exact .nil
 |cons n ns a=>
  intro us r;rw[map_cons] at r;cases r with
  |cons r1 r2=>
   obtain⟨t,e⟩:=r1;subst e;exact .cons n t (a r2)
section
variable{X:Cx}{e:Expr}{te:TE}{lo hi:Option Expr}{tl th:TO}{pos p2:Pos}
theorem Vo:PO X none FN:=by
 intro aa s j H Q I h;rw[evalPart_none];exact wpAny_pure ⟨none,H,I,.none,h⟩
theorem Ly(h:PE X e te):PO X (some e) (Ee te):=by
 intro aa s j H Q I f;rw[evalPart_some];refine bh (h aa s j H _ I f) λu l a=>?_
 obtain⟨x,b,d,r1,g⟩:=a;obtain⟨i,rfl,q⟩:=g;obtain⟨t,rfl⟩:=r1;exact⟨some i,b,d,.int i t,q⟩
def lR(X:Cx)(r:V->bI->bI->Hp->VK->Prop):Prop:=
 ∀(aa:aV)(s:ak)(j:St)(H:Hp)(x:V)(v vl b:ai)(lo hi:bI)(a:af)(Q:VK),au X aa j H s->aE x v->s.heap.IsSliceOf a vl b .none->IsPart vl lo->IsPart b hi->r x lo hi H Q->
  ∃T id,typeLookup (.type T) "__getitem__"=pure (some (.builtin id))/\s.TypeIs v T/\wpAny (model X.prog X.w) X.A (getItem v (.ref a)) (EP X aa j Q) X.xe s
theorem lR.or{r f:V->bI->bI->Hp->VK->Prop}(h:lR X r)(h':lR X f):lR X (λx lo hi H Q=>r x lo hi H Q\/f x lo hi H Q):=by
 intro aa s j H x v vl l lo hi i Q I g a b d q;rcases q with q |q
 .exact h aa s j H x v vl l lo hi i Q I g a b d q
 .exact h' aa s j H x v vl l lo hi i Q I g a b d q
def Bn(r:V->bI->bI->Hp->VK->Prop)(te:TE)(tl th:TO):TE:=λj H Q=>te j H λx a=>tl j a λl b=>th j b λu d=>r x l u d Q
theorem Jc(E:lR X r)(he:PE X e te)(D:PO X lo tl)(J:PO X hi th):PE X (.Subscript e (.Slice lo hi none p2) pos) (Bn r te tl th):=by
 intro aa s j H Q I h;refine Subscript_ (bh (he aa s j H _ I h) λv Y d=>?_);obtain⟨x,m,o,r1,N⟩:=d;refine wpAny_Slice (bh (D aa Y j m _ o N) λvl s2 d=>?_);obtain⟨l,n,p,L,O⟩:=d;refine bh (J aa s2 j n _ p O) λf a g=>?_
 obtain⟨u,i,y,M,U⟩:=g;rw[evalPart_none];refine wpAny_pure ?_;have z:au X aa j i { a with heap:=a.heap.push { cls:=.type "slice",data:=.fields #[vl,f,.none] } }:=y.kept (t':=a.toks) λb ob q=>Heap.get?_push_of_some _ q
 obtain⟨T,id,B,G,C⟩:=E aa { a with heap:=a.heap.push { cls:=.type "slice",data:=.fields #[vl,f,.none] } } j i x v vl f l u a.heap.objs.size Q z r1 (Heap.IsSliceOf.new ..) L M U;show wpAny (model X.prog X.w) X.A (subscriptTail e (.Slice lo hi none p2) v (.ref a.heap.objs.size)) (EP X aa j Q) X.xe { a with heap:=a.heap.push { cls:=.type "slice",data:=.fields #[vl,f,.none] } };exact tail_any (ops:=[.ref a.heap.objs.size,v]) G B C (by with_unfolding_all rfl)
def rL(xs:aw)(lo hi:bI):aw:=(xs.drop (HT.dq xs.length 0 lo)).take (HT.dq xs.length xs.length hi - HT.dq xs.length 0 lo)
theorem T4(xs:aw)(lo hi:bI):(rL xs lo hi).length<=xs.length:=by
 unfold rL;rw[length_take,List.length_drop];omega
end
def gZ(n:Nat)(i:Int):Option Nat:=if 0<=i then (if i<n then some i.toNat else none) else if -(n:Int)<=i then some (i+n).toNat else none
def cQ{G:Type}(xs:List G)(i:Int):Option G:=(gZ xs.length i).bind λj=>xs[j]?
theorem Gq(h:gZ n i=some j):seqIndex? i n=some j/\j<n/\-(n:Int)<=i/\i<n:=by
 unfold gZ at h;by_cases b:0<=i
 .rw[if_pos b] at h;by_cases a:i<n
  .rw[if_pos a] at h;have e:i.toNat=j:=Option.some.inj h;exact⟨by rw[seqIndex_of b a,e],by omega,by omega,a⟩
  .rw[if_neg a] at h;cases h
 .rw[if_neg b] at h;by_cases a:-(n:Int)<=i
  .rw[if_pos a] at h;have e:(i+n).toNat=j:=Option.some.inj h;exact⟨by rw[seqIndex_neg (by omega) a,e],by omega,a,by omega⟩
  .rw[if_neg a] at h;cases h
theorem v3(h:cQ xs i=some v):∃j,seqIndex? i xs.length=some j/\xs[j]?=some v/\j<xs.length/\-(xs.length:Int)<=i/\i<xs.length:=by
 unfold cQ at h;cases e:gZ xs.length i with
 |none=>rw[e] at h;cases h
 |some j=>
  rw[e] at h;obtain⟨a,b,d,f⟩:=Gq e;exact⟨j,a,h,b,d,f⟩
def z6(b:Expr):Prop:=∀o i,subscripted b false o i=operate [o,i] (getItem o i)
def jl(X:Cx)(r:R2):Prop:=
 ∀(value a:Expr)(aa:aV)(s:ak)(j:St)(H:Hp)(x y:V)(v u:ai)(Q:VK),au X aa j H s->aE x v->aE y u->r x y H Q->
  subscripted a false v u=operate [v,u] (getItem v u)->wpAny (model X.prog X.w) X.A (subscriptTail value a v u) (EP X aa j Q) X.xe s
def Ja(X:Cx)(id:String)(r:V->aw->Hp->VK->Prop):Prop:=
 ∀(aa:aV)(s:ak)(j:St)(H:Hp)(x:V)(a:aw)(v:ai)(us:aM)(Q:VK),au X aa j H s->aE x v->aI a us->r x a H Q->
  wpAny (model X.prog X.w) X.A (call (.builtin id) (v::us)) (EP X aa j Q) X.xe s
section
variable{X:Cx}{a b:Expr}{ta tb:TE}{pos:Pos}
theorem jl.or{r f:R2}(h:jl X r)(h':jl X f):jl X (λx y H Q=>r x y H Q\/f x y H Q):=by
 intro value d aa s j H x y v u Q I g i q e;rcases q with q |q
 .exact h value d aa s j H x y v u Q I g i q e
 .exact h' value d aa s j H x y v u Q I g i q e
theorem NQ(i:jl X r)(f:PE X a ta)(g:PE X b tb)(hs:z6 b):PE X (.Subscript a b pos) (mW r ta tb):=by
 intro aa s j H Q I h;exact Subscript_ (wa f g I h λv u n x y d e l m q=>i a b aa n j d x y v u Q e l m q (hs _ _))
def AK(K:ao):R2:=λx y H Q=>∃p d i v,x=.ref p/\y=.int i/\bE K H p d/\cQ d i=some v/\Q v H
def zZ(K:ao):R2:=λx y H Q=>∃p d i v,x=.ref p/\y=.int i/\df K H p d/\cQ d i=some v/\Q v H
def Be:R2:=λx y H Q=>∃z i c,x=.str z/\y=.int i/\z.length<=sizeLine/\cQ z.cps.toList i=some c/\Q (.str ⟨#[c]⟩) H
theorem L9:jl X (AK X.K):=by
 intro value m aa s G H x y v u Q I M N h A;obtain⟨p,xs,i,z,rfl,rfl,L,E,q⟩:=h;cases M;obtain⟨t,rfl⟩:=N;obtain⟨f,r,g,Y⟩:=I.list L;obtain⟨j,e,B,U,C,D⟩:=v3 E;obtain⟨w,n,l⟩:=r.get B;have J:=r.length;have hn:=nH;have d:EP X aa G Q w s:=⟨z,H,I,l,q⟩;by_cases o:0<=i
 .have hj:i.toNat=j:=by
   rw[seqIndex_of o D] at e;exact Option.some.inj e
  exact item_listR g.isList o (by omega) (by rw[hj];simpa using n) d A
 .have hj:(i+(f.toArray.size:Int)).toNat=j:=by
   rw[seqIndex_neg (by omega) C] at e;rw[size_toArray,<- J];exact Option.some.inj e
  exact subscriptTail_builtinR (x:=w) g.isList.typeIs slot_list_getitem.lookup
   (wpAny_getItem_list_neg (Q:=λr O=>r=w/\EP X aa G Q r O) g.isList (by omega) (by rw[size_toArray]<;>omega) (by omega) (by rw[hj];simpa using n) ⟨rfl,d⟩) A
theorem Nx:jl X (zZ X.K):=by
 intro value f aa s G H x y v u Q I E J h C;obtain⟨p,Y,i,z,rfl,rfl,B,o,q⟩:=h;cases E;obtain⟨t,rfl⟩:=J;obtain⟨D,r,g,U⟩:=I.tuple B;obtain⟨j,m,n,M,N,O⟩:=v3 o;obtain⟨w,l,e⟩:=r.get n;have A:=r.length;have hn:=nH;have d:EP X aa G Q w s:=⟨z,H,I,e,q⟩;exact subscriptTail_builtinR (x:=w) g.typeIs slot_tuple_getitem.lookup
  (getItem_tuple (j:=j) (Q:=λr L=>r=w/\EP X aa G Q r L) g (by omega) (by omega) (by rw[size_toArray,<- A];exact m) (by simpa using l) ⟨rfl,d⟩) C
theorem Ry:jl X Be:=by
 intro value d aa s G H x y v u Q I w A h r;obtain⟨z,i,c,rfl,rfl,C,o,q⟩:=h;obtain⟨t,rfl⟩:=w;obtain⟨D,rfl⟩:=A;obtain⟨j,e,l,B,m,n⟩:=v3 o;have p:z.cps.toList.length=z.length:=by simp[Str.length]
 rw[p] at e m n;have hn:=nH;exact tail_any (typeIs_str s z t) slot_str_getitem.lookup (getItem_str (c:=c) (by
  have f:decide (i < -(2 ^ 63:Int))=false:=decide_eq_false (by omega);have g:decide (i ≥ 2 ^ 63)=false:=decide_eq_false (by omega);rw[f,g,Bool.or_false]) (by rw[e];simpa using l) ⟨.str ⟨#[c]⟩,H,I.tok _,⟨_,rfl⟩,q⟩) r
def FU(K:ao):R2:=λx y H Q=>AK K x y H Q\/zZ K x y H Q\/Be x y H Q
theorem Pp:jl X (FU X.K):=L9.or (Nx.or Ry)
theorem JG(bo:aM)(n j:Nat)(u:ai):Obj.mapSeq (·.setIfInBounds j u) { cls:=.type "list",data:=.seq bo.toArray n }={ cls:=.type "list",data:=.seq (bo.set j u).toArray n }:=by
 simp[Obj.mapSeq]
theorem au.ag{H:Hp}(I:au X aa j H s)(h:H p=some (.ag xs)):
  ∃(bo:aM)(n:Nat),aI xs bo/\s.heap.get? p=some { cls:=.type "list",data:=.seq bo.toArray n }/\xs.length<=sizeLine:=by
 obtain⟨z,bo,n,r,e⟩:=I.aN p _ h;exact⟨bo,n,r,e,z⟩
theorem au.ng{aa:aV}{j:St}{H:Hp}{s:ak}{p:af}{xs ys:aw}{bo its':aM}{n n':Nat}{f:Obj->Obj}(I:au X aa j H s)(h:H p=some (.ag xs))(i:s.heap.get? p=some { cls:=.type "list",data:=.seq bo.toArray n })(d:f { cls:=.type "list",data:=.seq bo.toArray n }={ cls:=.type "list",data:=.seq its'.toArray n' })(r:aI ys its')(hz:ys.length<=sizeLine)(t:Nat):
  au X aa j (aQ H p (.ag ys)) { s with heap:=s.heap.update p f,toks:=t }:=by
 have e:(s.heap.update p f).get? p=some { cls:=.type "list",data:=.seq its'.toArray n' }:=by
  rw[Heap.get?_update_self f i (by rw[d]<;>rfl),d]
 refine I.write (x:=p) (e:=p) (by rw[h];trivial) (.inl rfl) (λb u g q=>(Heap.get?_update_other _ _ (Ne.symm g)).trans q) ⟨_,e⟩ ?_;exact⟨hz,its',n',r,e⟩
def Em:V->V->V->Hp->(Hp->Prop)->Prop:=λo i v H Q=>∃p d k j,o=.ref p/\i=.int k/\H p=some (.ag d)/\gZ d.length k=some j/\Q (aQ H p (.ag (d.set j v)))
theorem Qm:E4 X Em:=by
 intro aa s G H o i v ov L u Q I C B D h;obtain⟨p,E,k,j,rfl,rfl,y,z,q⟩:=h;cases C;obtain⟨t,rfl⟩:=B;obtain⟨d,n,r,g,A⟩:=I.ag y;obtain⟨e,J,w,x⟩:=Gq z;have f:=r.length;have hn:=nH;have l:au X aa G (aQ H p (.ag (E.set j v))) { s with heap:=s.heap.update p (Obj.mapSeq (·.setIfInBounds j u)) }:=
  I.ng y g (JG d n j u) (r.set D j) (by rw[length_set];exact A) s.toks
 by_cases m:0<=k
 .have hk:k.toNat=j:=by
   rw[seqIndex_of m x] at e;exact Option.some.inj e
  exact W.ki_setAt g m (by omega) (by rw[size_toArray,<- f];exact x) (by rw[hk];exact⟨_,l,q⟩)
 .have hk:(k+(d.toArray.size:Int)).toNat=j:=by
   rw[seqIndex_neg (by omega) w] at e;rw[size_toArray,<- f];exact Option.some.inj e
  exact W.ki_setBack g (by omega) (by rw[size_toArray,<- f];exact w) (by omega) (by rw[hk];exact⟨_,l,q⟩)
theorem He(lo d:bI)(n:Nat):(sliceBounds lo d none n).1=((HT.dq n 0 lo:Nat):Int)/\(sliceBounds lo d none n).2.1=((HT.dq n n d:Nat):Int)/\(sliceBounds lo d none n).2.2=1:=by
 refine⟨?_,?_,rfl⟩
 .cases lo with
  |none=>simp[sliceBounds,HT.dq]
  |some i=>
   simp only[sliceBounds,HT.dq,Option.getD_none,show (1:Int) > 0 by decide,if_true];by_cases h:i<0
   .simp only[h,if_true]<;>omega
   .simp only[h,if_false]<;>omega
 .cases d with
  |none=>simp[sliceBounds,HT.dq]
  |some i=>
   simp only[sliceBounds,HT.dq,Option.getD_none,show (1:Int) > 0 by decide,if_true];by_cases h:i<0
   .simp only[h,if_true]<;>omega
   .simp only[h,if_false]<;>omega
theorem KG(bo:aM)(lo d:bI):slicePick bo.toArray lo d none=((bo.drop (HT.dq bo.length 0 lo)).take (HT.dq bo.length bo.length d - HT.dq bo.length 0 lo)).toArray:=by
 obtain⟨e,f,g⟩:=He lo d bo.toArray.size;unfold slicePick;rw[e,f,g];simp only[sliceRange_one,pick_run,size_toArray]<;>rfl
def Ej(K:ao):V->bI->bI->Hp->VK->Prop:=λx lo e H Q=>∃a d,x=.ref a/\bE K H a d/\∀p,H p=none->Q (.ref p) (aQ H p (.ag (rL d lo e)))
theorem Sg:lR X (Ej X.K):=by
 intro aa s j H x v vl A lo f z Q I w i p u h;obtain⟨a,d,rfl,l,q⟩:=h;cases w;obtain⟨n,r,g,m⟩:=I.list l;have e:=r.length;refine⟨"list",_,slot_list_getitem.lookup,g.isList.typeIs,?_⟩;refine wpAny_getItem_list_slice g.isList i p u .none (by simp) ?_ (by rw[size_toArray]<;>omega);rw[KG,<- e];refine⟨.ref s.heap.objs.size,_,I.laid (t':=s.toks) (o:=.ag (rL d lo f)) (λb y q=>Heap.get?_push_of_some _ q) (le_refl _) ?_,rfl,q _ (I.aN.fresh (le_refl _))⟩;exact⟨le_trans (T4 d lo f) m,_,0,(r.drop (HT.dq d.length 0 lo)).take (HT.dq d.length d.length f - HT.dq d.length 0 lo),Heap.get?_push_size _ rfl⟩
def kg:V->Bool
 |.aL=>true
 |.bl _=>true
 |.int _=>true
 |.str _=>true
 |_=>false
def iR:V->V->Bool
 |.aL,.aL=>true
 |.bl a,.bl b=>a == b
 |.bl a,.int b=>(if a then 1 else 0) == b
 |.int a,.bl b=>a == (if b then 1 else 0)
 |.int a,.int b=>a == b
 |.str a,.str b=>a == b
 |_,_=>false
theorem pz(g:aE y u)(d:aE x v)(h:kg y=true)(f:kg x=true):SeqAt.EqAt A s u v (iR y x):=by
 cases y with
 |aL=>
  cases g;cases x with
  |aL=>cases d;exact SeqAt.EqAt.same _
  |bl b=>cases d;exact SeqAt.EqAt.none_bool b
  |int b=>obtain⟨t,rfl⟩:=d;exact SeqAt.EqAt.none_int b t
  |str b=>obtain⟨t,rfl⟩:=d;exact SeqAt.EqAt.none_str b t
  |_=>exact absurd (show false=true from f) Bool.false_ne_true
 |bl a=>
  cases g;cases x with
  |aL=>cases d;exact SeqAt.EqAt.bool_none a
  |bl b=>cases d;exact SeqAt.EqAt.bool_bool a b
  |int b=>obtain⟨t,rfl⟩:=d;exact SeqAt.EqAt.bool_int a b t
  |str b=>obtain⟨t,rfl⟩:=d;exact SeqAt.EqAt.bool_str a b t
  |_=>exact absurd (show false=true from f) Bool.false_ne_true
 |int a=>
  obtain⟨e,rfl⟩:=g;cases x with
  |aL=>cases d;exact SeqAt.EqAt.int_none a e
  |bl b=>cases d;exact SeqAt.EqAt.int_bool a e b
  |int b=>obtain⟨t,rfl⟩:=d;exact SeqAt.EqAt.int_int a e b t
  |str b=>obtain⟨t,rfl⟩:=d;exact SeqAt.EqAt.int_str a e b t
  |_=>exact absurd (show false=true from f) Bool.false_ne_true
 |str a=>
  obtain⟨e,rfl⟩:=g;cases x with
  |aL=>cases d;exact SeqAt.EqAt.str_none a e
  |bl b=>cases d;exact SeqAt.EqAt.str_bool a e b
  |int b=>obtain⟨t,rfl⟩:=d;exact SeqAt.EqAt.str_int a e b t
  |str b=>obtain⟨t,rfl⟩:=d;exact SeqAt.EqAt.str_str a e b t
  |_=>exact absurd (show false=true from f) Bool.false_ne_true
 |_=>exact absurd (show false=true from h) Bool.false_ne_true
def hJ(x:V)(u:ai):Bool:=match u with
 |.none=>iR .aL x
 |.bool b=>iR (.bl b) x
 |.int i _=>iR (.int i) x
 |.str z _=>iR (.str z) x
 |_=>false
theorem AJ(r:aE y u)(f:kg y=true):hJ x u=iR y x:=by
 cases y with
 |aL=>cases r;rfl
 |bl b=>cases r;rfl
 |int i=>obtain⟨t,rfl⟩:=r;rfl
 |str z=>obtain⟨t,rfl⟩:=r;rfl
 |_=>exact absurd (show false=true from f) Bool.false_ne_true
theorem qs:∀{xs:aw}{us:aM},aI xs us->xs.all kg=true->us.any (hJ x)=xs.any λy=>iR y x
 |_,_,.nil,_=>rfl
 |y::xs,u::us,.cons r t,f=>by
  rw[all_cons,and_eq_true] at f;rw[any_cons,any_cons,AJ r f.1,qs t f.2]
theorem oY(g:aE x v)(e:kg x=true):∀{xs:aw}{us:aM},aI xs us->xs.all kg=true->∀u∈us,SeqAt.EqAt A s u v (hJ x u)
 |_,_,.nil,_=>λu d=>by cases d
 |y::xs,u::us,.cons r t,f=>λh d=>by
  rw[all_cons,and_eq_true] at f;rcases mem_cons.mp d with rfl |d
  .rw[AJ r f.1];exact pz r g f.1 e
  .exact oY g e t f.2 h d
def sM(x:V)(xs:aw):Bool:=xs.any λy=>iR y x
def qJ(K:ao)(neg:Bool):R2:=λx y H Q=>∃p d,y=.ref p/\(bE K H p d\/df K H p d)/\kg x=true/\d.all kg=true/\Q (.bl (if neg then !sM x d else sM x d)) H
theorem M7:b6 X (compareOp .In) (qJ X.K false):=by
 intro aa s j H x y v u Q I g i h;obtain⟨p,l,rfl,d,f,fs,q⟩:=h;cases i;rcases d with d |d
 .obtain⟨bo,r,pl,hz⟩:=I.list d;refine SeqAt.in_listAt (hJ x) pl.isList (λw e=>oY g f r fs w (by simpa using e)) ⟨.bl _,H,I,rfl,?_⟩;rw[show bo.toArray.any (hJ x)=bo.any (hJ x) by simp,qs r fs];exact q
 .obtain⟨bo,r,pl,hz⟩:=I.tuple d;refine SeqAt.in_tupleAt (hJ x) pl (λw e=>oY g f r fs w (by simpa using e)) ⟨.bl _,H,I,rfl,?_⟩;rw[show bo.toArray.any (hJ x)=bo.any (hJ x) by simp,qs r fs];exact q
theorem Oi:b6 X (compareOp .NotIn) (qJ X.K true):=by
 intro aa s j H x y v u Q I g i h;obtain⟨p,l,rfl,d,f,fs,q⟩:=h;cases i;rcases d with d |d
 .obtain⟨bo,r,pl,hz⟩:=I.list d;refine SeqAt.notIn_listAt (hJ x) pl.isList (λw e=>oY g f r fs w (by simpa using e)) ⟨.bl _,H,I,rfl,?_⟩;rw[show bo.toArray.any (hJ x)=bo.any (hJ x) by simp,qs r fs];exact q
 .obtain⟨bo,r,pl,hz⟩:=I.tuple d;refine SeqAt.notIn_tupleAt (hJ x) pl (λw e=>oY g f r fs w (by simpa using e)) ⟨.bl _,H,I,rfl,?_⟩;rw[show bo.toArray.any (hJ x)=bo.any (hJ x) by simp,qs r fs];exact q
theorem bK.or{r d:aw->Hp->VK->Prop}(h:bK X f r)(h':bK X f d):bK X f (λxs H Q=>r xs H Q\/d xs H Q):=by
 intro aa s j H xs us Q I rs q;rcases q with q |q
 .exact h aa s j H xs us Q I rs q
 .exact h' aa s j H xs us Q I rs q
theorem uZ:bK X (.type "list") (λxs H Q=>∃p ys,xs=[.ref p]/\(bE X.K H p ys\/df X.K H p ys)/\∀l,H l=none->Q (.ref l) (aQ H l (.ag ys))):=by
 intro aa s j H xs us Q I r h;obtain⟨p,ys,rfl,y,q⟩:=h;obtain⟨u,rfl,D⟩:=ja r;cases D;have m:∀(d:aM),aI ys d->ys.length<=sizeLine->∀(f:aT)(g:Nat),(∀b C,s.heap.get? b=some C->f.get? b=some C)->
   f.get? s.heap.objs.size=some { cls:=.type "list",dict:=none,data:=.seq d.toArray g,slots:=#[] }->EP X aa j Q (.ref s.heap.objs.size) { s with heap:=f }:=λd i z f g kp e=>
  ⟨.ref s.heap.objs.size,_,I.laid (t':=s.toks) kp (le_refl _) (show a6 X.prog X.w _ f _ (.ag ys) from ⟨z,d,g,i,e⟩),rfl,q _ (I.aN.fresh (le_refl _))⟩
 rcases y with y |y
 .obtain⟨d,i,pl,z⟩:=I.list y;have x:=i.length;obtain⟨o,B,A,n,hd⟩:=pl.isList;exact call_list_seq p (.inl rfl) B A hd (λf g kp e=>m d i z f g kp e) (by simp only[size_toArray]<;>omega)
 .obtain⟨d,i,pl,z⟩:=I.tuple y;have x:=i.length;obtain⟨o,B,A,n,hd⟩:=pl;exact call_list_seq p (.inr rfl) B A hd (λf g kp e=>m d i z f g kp e) (by simp only[size_toArray]<;>omega)
def wH(K:ao)(T:String)(x:V)(H:Hp):Prop:=match x with
 |.str _=>T = "str"
 |.int _=>T = "int"
 |.ref p=>(T = "list" /\ ∃e,bE K H p e) \/ (T = "tuple" /\ ∃o,K.lookup p=some o /\ o.cls=.type "tuple" /\ o.dict=none) \/
   (T="dict"/\((∃d,H p=some (.dK d))\/∃d,H p=some (.dT d)))\/(T="set"/\∃S n,H p=some (.set S n))
 |_=>False
theorem Vj(I:au X aa j H s)(r:aE x v)(ty:wH X.K T x H):
  s.TypeIs v T/\∀a,v=.ref a->∃ob,s.heap.get? a=some ob/\ob.dict=none:=by
 cases x with
 |str z=>
  obtain⟨t,rfl⟩:=r;cases (show T="str" from ty);exact⟨typeIs_str s z t,λ_ e=>nomatch e⟩
 |int i=>
  obtain⟨t,rfl⟩:=r;cases (show T="int" from ty);exact⟨typeIs_int s i t,λ_ e=>nomatch e⟩
 |ref p=>
  cases r;rcases ty with⟨rfl,m,l⟩ |⟨rfl,o,d,h,hd⟩ |⟨rfl,d⟩ |⟨rfl,S,n,d⟩
  .obtain⟨bo,_,pl,_⟩:=I.list l;refine⟨pl.isList.typeIs,λa e=>?_⟩;cases e;obtain⟨o,n,e,c,hd,_⟩:=pl;exact⟨o,e,hd⟩
  .refine⟨⟨o,I.cJ p o d,h⟩,λa e=>?_⟩;cases e;exact⟨o,I.cJ _ o d,hd⟩
  .have z:∃o,s.heap.get? p=some o/\o.ExactDict:=by
    rcases d with⟨g,d⟩ |⟨g,d⟩
    .obtain⟨_,_,_,_,o,_,_,e,ex,_⟩:=I.aN p _ d;exact⟨o,e,ex⟩
    .obtain⟨_,_,_,_,o,_,_,e,ex,_⟩:=I.aN p _ d;exact⟨o,e,ex⟩
   obtain⟨o,e,ex⟩:=z;refine⟨⟨o,e,ex.1⟩,λa f=>?_⟩;cases f;exact⟨o,e,ex.2.1⟩
  .obtain⟨o,_,_,_,e,ex,_⟩:=I.aN p _ d;refine⟨⟨o,e,ex.1⟩,λa f=>?_⟩;cases f;exact⟨o,e,ex.2.1⟩
 |_=>exact False.elim ty
def vj(K:ao)(T:String)(r:V->aw->Hp->VK->Prop)(f:TE)(t:TA):TE:=λj H Q=>f j H λx d=>wH K T x d/\t j d λg e=>r x g e Q
variable{o e:Expr}{es:bH}{to:TE}{t:TA}{name:Str}{apos bq:Pos}{T id:String}{r:V->aw->Hp->VK->Prop}
theorem Gj(D:PlainAttrs T)(slot:Slot T name id)(l:typeOf (.builtin id)=pure (.type "method_descriptor"))(hm:Ja X id r)(C:PE X o to)(B:PA X (e::es) t)(f:attributeBase o name X.env (eval o X.env)=eval o X.env:=by rfl)(i:((backTo bq (starEach (e::es) X.env)).all (λx=>!x.1)&&(backToKw bq (keywordEach [] X.env)).all (λx=>x.1.isSome)
   && decide ((e::es).length+([]:List Keyword).length+(if ([]:List Keyword).isEmpty then 0 else 1)<30))=true:=by rfl)(g:(apos.endLine == bq.line)=true:=by rfl)(hs:dH e es X.env:=by rfl)(d:fk bq es X.env:=by rfl):
  PE X (.Call (.Attribute o name apos) (e::es) [] bq) (vj X.K T r to t):=by
 intro aa s j H Q I h;refine wpAny_Call_method_late f i g rfl (bh (C aa s j H _ I h) λv J m=>?_);obtain⟨x,u,p,r1,ty,E⟩:=m;obtain⟨z,A⟩:=Vj p r1 ty;refine⟨T,id,D,slot,l,z,A,?_⟩;have q:=B bq aa J j u _ p E;rw[hs] at q ⊢;refine Calls.callWith_builtin (by show (false || (backTo bq (starEach es X.env)).any (·.1))=false;rw[d]<;>rfl) (Calls.evalArgs_plain ?_);exact bh q λus L n=>by obtain⟨vs,w,y,r2,G⟩:=n;exact hm aa L j w x vs v us Q y r1 r2 G
end
def Fx(X:Cx)(id:String)(r:V->aw->Hp->VK->Prop):Prop:=
 ∀(aa:aV)(s:ak)(j:St)(H:Hp)(x:V)(a:aw)(v:ai)(us:aM)(Q:VK),au X aa j H s->aE x v->aI a us->r x a H Q->
  wpAny (model X.prog X.w) X.A (call (.builtin id) (v::us)) (EP X aa j Q) X.xe s
theorem aI.one:∀{x:V}{us:aM},aI [x] us->∃u,us=[u]/\aE x u
 |_,_,.cons r .nil=>⟨_,rfl,r⟩
theorem aI.rep(h:aI xs us):∀k:Nat,aI (List.replicate k xs).flatten (List.replicate k us).flatten
 |0=>.nil
 |k + 1=>by
  rw[List.replicate_succ,List.replicate_succ,List.flatten_cons,List.flatten_cons];exact aI.append h (aI.rep h k)
section
variable{X:Cx}{aa:aV}{σ:St}{H:Hp}{s:ak}{l b:af}{xs ys zs:aw}
theorem au.vO{bo its':aM}{n:Nat}{f:dm->dm}{t':Nat}(I:au X aa σ H s)(a:H l=some (.ag xs))(e:s.heap.get? l=some { cls:=.type "list",data:=.seq bo.toArray n })(g:f bo.toArray=its'.toArray)(i:aI ys its')(hz:ys.length<=sizeLine):
  au X aa σ (aQ H l (.ag ys)) { s with heap:=s.heap.update l (Obj.mapSeq f),toks:=t' }:=by
 have q:=PySem.IsL.update e f;rw[g] at q;refine I.write (x:=l) (e:=l) (by rw[a];exact trivial) (.inl rfl) (λj u d h=>(Heap.get?_update_other s.heap (Obj.mapSeq f) (Ne.symm d)).trans h) ⟨_,q⟩ ?_;exact⟨hz,its',_,i,q⟩
theorem au.qg(I:au X aa σ H s)(a:aI ys bo)(hz:ys.length<=sizeLine):
  au X aa σ (aQ H s.heap.objs.size (.ag ys)) { s with heap:=s.heap.push { cls:=.type "list",data:=.seq bo.toArray },toks:=t' }:=
 I.laid (λ_ _ q=>Heap.get?_push_of_some _ q) (le_refl _) ⟨hz,bo,0,a,Heap.get?_push_size _ rfl⟩
theorem au.fresh(I:au X aa σ H s):H s.heap.objs.size=none:=I.aN.fresh (le_refl _)
theorem au.yY(I:au X aa σ H s)(a:H l=some (.ag xs)):xs.length<=sizeLine/\∃(bo:aM)(n:Nat),aI xs bo/\xs.length=bo.length/\s.heap.get? l=some { cls:=.type "list",data:=.seq bo.toArray n }:=by
 obtain⟨z,bo,n,r,e⟩:=I.aN l _ a;exact⟨z,bo,n,r,r.length,e⟩
end
section
variable{X:Cx}
def FJ:V->aw->Hp->VK->Prop:=λx vs H Q=>∃l a y,x=.ref l/\vs=[y]/\H l=some (.ag a)/\a.length<sizeLine/\Q .aL (aQ H l (.ag (a++[y])))
theorem Ka:Fx X "list.append" FJ:=by
 intro aa s j H x vs v us Q I g f h;obtain⟨l,o,y,rfl,rfl,b,m,q⟩:=h;cases g;obtain⟨u,rfl,d⟩:=f.one;obtain⟨z,a,n,r,i,e⟩:=I.yY b;refine call_meets F.slot_list_append ⟨_,e,rfl⟩ F.entry_list_append (F.args_list_append_2 _ _) (PySem.list_append l a.toArray n u (by rw[size_toArray];omega)) ⟨e,?_⟩;refine⟨.aL,_,I.vO (its':=a++[u]) b e (by simp) (r.append (.cons d .nil)) ?_,rfl,q⟩;rw[length_append,List.length_singleton];omega
end
end L2
namespace Att
open PySem PySem.W PySem.Calls PyProof.Rows
theorem Qg:∀(ns:aH)(vs:aM),WellAll P h vs (ns.map WData.int)->IntsAre vs ns:=by
 intro ns
 induction ns with
 |nil=>
  intro vs w;rw[map_nil] at w;cases w;exact .nil
 |cons n ns d=>
  intro vs w;rw[map_cons] at w;cases w with
  |cons a b=>
   cases a;exact .cons _ _ (d _ b)
theorem Mv{l:OpenLaw}{n:Nat}(hn:l.most=some n){P:Params}{h:aT}{args:List WData}{e:aM}(b:l.row.toRowW.claim.pre args=true)(o:WellAll P h e args):
  ∃a vs ns,e=[Value.ref a]/\args=[WData.list (ns.map WData.int)]/\h.get? a=some { cls:=.type "list",data:=.seq vs.toArray }/\IntsAre vs ns/\ns.length<=n:=by
 have m:WShape.hasAll [] args [.list .int]=true:=(pre_splitW b).1;have p:l.pre.holds [] { args:=args }=true:=(pre_splitW b).2;obtain⟨d,r,rfl,s,u⟩:=hasAllW_cons m;obtain rfl:=hasAllW_nil u;obtain⟨A,rfl,w⟩:=hasW_list s;obtain⟨ns,rfl⟩:=items_int w;have g:ns.length<=n:=by
  unfold OpenLaw.pre at p;have i:(WTm.not (.lt (.lit (.int (n:Int))) (.len (.arg 0)))).holds [] { args:=[.list (ns.map .int)] }=true:=by
   have i:=(holds_andW p).1;rw[hn] at i;exact i
  have j:=condW_of i (w_not (w_lt w_lit (w_len_list (w_arg rfl))));rw[length_map] at j;refine Nat.le_of_not_lt λq=>?_
  have y:(n:Int)<((ns.length:Nat):Int):=by omega
  first
   |(rw[decide_eq_true y] at j;exact absurd j (by decide))
   |(simp at j;omega)
 cases o with
 |cons z w2=>
  cases w2;cases z with
  |list x f=>exact⟨_,_,ns,rfl,rfl,x,Qg ns _ f,g⟩
theorem Oj(l:OpenLaw)(args:List WData):l.row.toRowW.claim.post args (.bool true) args=true:=
 postW_of (r:=l.row.toRowW) (X:=(true == true))
  (show WShape.has [] (.bool true) .bool=true by first |rfl |decide |simp[WShape.has,WShape.arms,WShape.armsAll])
  (show (WTm.eq .res (.lit (.bool true))).value [] { args:=args,res:=some (.bool true),after:=args }=some (.bool (true == true)) from w_eq_bool (w_res rfl) w_lit) rfl
theorem gy{l:OpenLaw}{n:Nat}{q:Program}{e:aj}{A:(bu)->aT->Prop}{B:World->aT->Prop}{d:DefRec}(hn:l.most=some n)(u:d.params.defaults=[])(call:∀(w:World)(s₀ b:ak)(mg z:bu)(h:af)(o:Obj)(pm p doc:ai)(a:af)(vs:aM)(ns:aH),
   Ground q e [] A w s₀ mg z b.heap->B w b.heap->
   b.heap.get? h=some o->o.data=.func (docDef d.name d.params d.body d.scope pm p doc)->b.heap.CodeRec p d.name->mg d.name=some (.ref h)->
   b.heap.get? a=some { cls:=.type "list",data:=.seq vs.toArray }->IntsAre vs ns->ns.length<=n->b.gens=#[]->
   codeAny (model l.prog w) callerA (.call (.ref h) ⟨[.ref a],[]⟩) (λr s'=>r=.ok (.ret (.bool true))/\OldK b.heap s'.heap/\s'.os=b.os/\AllBare s'.gens) b):
  WalkO q e A B l.row.toRowW d [] (λf vs=>PySem.call f vs):=by
 intro w s₀ b mg z G Y h o pm p doc H kV O hd s C x M args E as m D U y N;obtain rfl:H=.none:=Dflts.none C u;obtain rfl:kV=.none:=Dflts.noKw C;obtain⟨a,vs,ns,rfl,rfl,j,g,i⟩:=Mv hn m y;refine enter_call (codeAny_mono (call w s₀ b mg z h o pm p doc a vs ns G Y O (fd_plain hd) s x j g i M) λr s' Q=>?_);obtain⟨rfl,I,J,L⟩:=Q;exact⟨.inl ⟨.bool true,.bool true,[],rfl,λ_=>rfl,.bool true,Oj l _,λ_=>⟨List.Pairwise.nil,λ_ hm=>(nomatch hm)⟩⟩,I,J,L⟩
end Att
namespace L2
open PySem PySem.Spec PyProof.Rows
theorem E5:∀{vs:aM}{ns:aH},IntsAre vs ns->aI (ns.map V.int) vs
 |_,_,.nil=>.nil
 |_,_,.cons n t h=>.cons ⟨t,rfl⟩ (E5 h)
def vk(H:Hp):Prop:=∀b,H b=none\/∃o a,H b=some (.ay o (.ag a))
theorem Rg{P:Program}{w:World}{K:ao}{mg Q:bu}{CX:fB}{k:Nat}{L a:af}{fd:FuncData}{x:Str}{sp:Sp}{f:ak}{vs:aM}{ns:aH}(Y:K.In f.heap)(C:f.heap.Ns mainGlobals mg)(i:f.heap.Ns builtinsNs Q)(N:∀x:Str,x≠"__name__"->Q x=bootBuiltins x)(B:f.heap.NoLimit)(hg:f.gens=#[])(I:f.heap.get? a=some { cls:=.type "list",data:=.seq vs.toArray })(hi:IntsAre vs ns)(hl:ns.length<=sizeLine)(hr:bw k callerA)(F:∀base:Heap,K.In base->base.Ns mainGlobals mg->aK P w K mg base CX k L fd [x] sp)(l:∀(s:ak)(u:ai),BindsTo s fd ⟨[u],[]⟩ [(x,u)])(O:∀H:Hp,vk H->bE K H a (ns.map V.int)->sp [.ref a] H (λv _=>v=.bl true) λ_ _ _=>False)(M:∀H e s',CX [] H f (λ_ _ _=>False) e s'->False):
  codeAny (model P w) callerA (.call (.ref L) ⟨[.ref a],[]⟩) (λr s'=>r=.ok (.ret (.bool true))/\OldK f.heap s'.heap/\s'.os=f.os/\AllBare s'.gens) f:=by
 have rv:=E5 hi;have E:=hi.length;have core:∀H:Hp,vk H->bE K H a (ns.map V.int)->dk P w H f.heap->(∀b,H b≠none->b=a)->(H a≠none->K.lookup a=none)->
   codeAny (model P w) callerA (.call (.ref L) ⟨[.ref a],[]⟩) (λr s'=>r=.ok (.ret (.bool true))/\OldK f.heap s'.heap/\s'.os=f.os/\AllBare s'.gens) f:=by
  intro H hO hS aN hA hK;have g:∀{b:af}{o:Obj},f.heap.get? b=some o->H b=none->(kC f.heap H).get? b=some o:=λe n=>OQ e n
  have U:∀{b:af}{o:Obj}{y:Array DictEntry}{p:Nat},f.heap.get? b=some o->o.data=.dict y p->H b=none:=λ{b o y p} e d=>by
   cases q:H b with
   |none=>rfl
   |some u=>
    have J:b=a:=hA b (by rw[q];simp);subst J;rw[I] at e;cases e;have d':Data.seq vs.toArray _=Data.dict y p:=d;cases d'
  have j:∀{b:af}{m:bu},f.heap.Ns b m->(kC f.heap H).Ns b m:=λ{b m} ⟨o,y,p,e,d,r⟩=>⟨o,y,p,g e (U e d),d,r⟩
  have A:K.In (kC f.heap H):=λb o e=>g (Y b o e) (by
   cases q:H b with
   |none=>rfl
   |some u=>
    have J:b=a:=hA b (by rw[q];simp);subst J;rw[hK (by rw[q];simp)] at e;cases e)
  have hM:Mod K mg (kC f.heap H):=⟨A,j C,⟨Q,j i,N⟩,let ⟨mc,h1,h2⟩:=B;⟨mc,j h1,h2⟩⟩
  have e0:ij P w K mg (kC f.heap H) callerA [] f H:=⟨rfl,hM,λb o e=>LP e,Nat.le_of_eq (Rq _ _),trivial,λb i=>absurd (show b∈([]:cD) from i) (by simp),aN,.of_eq hg⟩
  refine codeAny_mono ((F _ A (j C)).run callerA [] f H ⟨[.ref a],[]⟩ [.ref a] [.ref a] _ _ hr e0 (l f (.ref a)) (.cons rfl .nil) (O H hO hS)) λr s' h=>?_
  cases r with
  |error e=>exact (M H e s' h).elim
  |ok fl=>
   cases fl with
   |next=>exact False.elim h
   |brk=>exact False.elim h
   |cont=>exact False.elim h
   |ret u=>
    obtain⟨v,H',os,bare,un,D,r',q⟩:=h;have q':v=.bl true:=q;subst q';obtain rfl:u=Value.bool true:=r';refine⟨rfl,OldK.of_keep λb o e=>?_,os,bare⟩;cases q:H b with
    |none=>exact un.keep b o e q (by intro z;exact absurd (show b∈([]:cD) from z) (by simp)) (by simp)
    |some u=>
     rcases hO b with z |⟨ob,xs,z⟩
     .rw[q] at z;cases z
     .have z2:=un.bp b ob _ z;obtain⟨e1,_⟩:=aN b _ z;obtain⟨e2,_⟩:=D b _ z2;rw[e] at e1;cases e1;exact e2
 cases hk:K.lookup a with
 |some o=>
  have e:=Y a o hk;rw[I] at e;cases e;refine core (λ_=>none) (λ_=>.inl rfl) (.inr ⟨_,vs.toArray,_,hk,rfl,rfl,rfl,by rw[size_toArray,E];exact hl,by simpa using rv⟩) (λb u z=>by have G:(none:Option HO)=some u:=z;cases G) (λb z=>absurd rfl z) λz=>absurd rfl z
 |none=>
  refine core (λb=>if b=a then some (.ay { cls:=.type "list",data:=.seq vs.toArray } (.ag (ns.map V.int))) else none) (λb=>?_) (.inl (.inr ⟨{ cls:=.type "list",data:=.seq vs.toArray },if_pos rfl⟩)) (λb u z=>?_) (λb z=>?_) λ_=>hk
  .by_cases i:b=a
   .exact .inr ⟨_,_,if_pos i⟩
   .exact .inl (if_neg i)
  .by_cases i:b=a
   .have G:=(if_pos i).symm.trans z;cases G;subst i;exact⟨I,by rw[length_map];exact hl,vs,_,rv,I⟩
   .have G:=(if_neg i).symm.trans z;cases G
  .by_cases i:b=a
   .exact i
   .exact absurd (if_neg i) z
theorem kS{l:W.OpenLaw}{n k:Nat}{q:Program}{m:aj}{L:(bu)->aT->Prop}{J:World->aT->Prop}{d:DefRec}{K:Params->ao}{CX:World->fB}{sp:World->Sp}{x:Str}(hn:l.most=some n)(D:n<=sizeLine)(B:d.params.defaults=[])(hr:bw k callerA)(Q:∀(w:World)(h:aT),J w h->(K w.params).In h)(F:∀(w:World)(mg:bu)(y:af)(h:aT),(K w.params).In h->h.Ns mainGlobals mg->mg d.name=some (.ref y)->
   ∃z:FuncData,(∀(s:ak)(u:ai),BindsTo s z ⟨[u],[]⟩ [(x,u)])/\
    ∀base:Heap,(K w.params).In base->base.Ns mainGlobals mg->aK l.prog w (K w.params) mg base (CX w) k y z [x] (sp w))(E:∀(w:World)(H:Hp)(a:af)(ns:aH),ns.length<=n->vk H->bE (K w.params) H a (ns.map V.int)->sp w [.ref a] H (λv _=>v=.bl true) λ_ _ _=>False)(A:∀(w:World)(H:Hp)(s:ak)(e:ai)(s':ak),CX w [] H s (λ_ _ _=>False) e s'->False):
  W.WalkO q m L J l.row.toRowW d [] (λf vs=>PySem.call f vs):=by
 refine Att.gy hn B λw s₀ r mg mb y o pm cd doc a vs ns G Y ho hd α C p j i hg=>?_
 have I:=Q w _ Y;obtain⟨z,U,M⟩:=F w mg y _ I G.T.g C;exact Rg I G.T.g G.T.b G.T.builtins G.T.nolimit hg p j (le_trans i D) hr M U (λH N O=>E w H a ns i N O) λH e s'=>A w H r e s'
def inClass(s:Stmt)(j:Nat):Stmt:=match s with
 |.ClassDef _ _ _ a _ _ _ _ _ _ _=>a.getD j (.Pass ⟨0,0,0,0⟩)
 |_=>.Pass ⟨0,0,0,0⟩
def nK(s:Stmt):Arguments:=match s with
 |.FunctionDef _ a _ _ _ _ _ _ _ _=>a
 |_=>{ posonlyargs:=[],args:=[],vararg:=none,kwonlyargs:=[],kw_defaults:=[],kwarg:=none,defaults:=[] }
def i9(s:Stmt):List Stmt:=match s with
 |.FunctionDef _ _ b _ _ _ _ _ _ _=>b
 |_=>[]
def bD(s:Stmt):Scope:=match s with
 |.FunctionDef _ _ _ _ _ _ sc _ _ _=>sc
 |_=>{ kind:=.function,names:=[],isGenerator:=false,isCoroutine:=false }
abbrev bJ:fB:=λ_ _ _ _ _ _=>False
abbrev E0:XK:=λ_ _ _=>False
theorem p0:l7 bJ X E0:=λ_ _ _ _ _ _ _ h=>h.elim
structure gM(K:ao)(x qual:Str)(st:Stmt)(f:af)(fd:FuncData):Prop where
 ex:∃(oc:ai)(od:c7)(kV doc pm:ai)(an:c7)(a7 ct:ai)(osl:Array (d0)),
  fd=W.fnOf x qual (nK st) (i9 st) (bD st) .none kV doc pm an a7 ct/\K.lookup f=some ⟨oc,od,.func fd,osl⟩/\W.codeIn K a7 qual=true
 kp:W.keepIn K (.ref f)=true
section
variable{P:Program}{w:World}{K:ao}{mg:bu}{base:aT}
theorem gM.ok{x a:Str}{st:Stmt}{f:af}{i:FuncData}{N g:aj}{k:Nat}{sp:Sp}(F:gM K x a st f i)(S:bS N g (bD st))(len:∀vs H Q E,sp vs H Q E->vs.length=g.length)(b:∀(a7:ai)(A:Around)(outer:cz)(s:ak)(H:Hp)(vs:aw)(Q:VK)(E:XK),bw k (A.deeper (envOfC a (bD st) s.heap.objs.size f a7))->sp vs H Q E->
   ∃t,fA (i2 bJ P w K mg base N a (bD st) f a7 A outer s H E).oa (i9 st) t/\t { nx:=λ_ j=>Q .aL j,rt:=Q } (start N vs) H):aK P w K mg base bJ (k+1) f i g sp:=by
 obtain⟨oc,od,kV,doc,pm,an,a7,ct,osl,rfl,m,d⟩:=F.ex;refine Bo m d S len λA outer s H vs Q E l e=>?_
 obtain⟨t,h,q⟩:=b a7 A outer s H vs Q E l e;exact⟨t,h.oa,q⟩
theorem gM.binds{x a:Str}{st:Stmt}{f:af}{d:FuncData}{b:aj}(F:gM K x a st f d)(h:∀(kV doc pm:ai)(an:c7)(a7 ct:ai)(us:aM),us.length=b.length->bindArgs (W.fnOf x a (nK st) (i9 st) (bD st) .none kV doc pm an a7 ct) ⟨us,[]⟩=pure (b.zip us)):Binds K d b []:=by
 obtain⟨oc,od,kV,doc,pm,an,a7,ct,osl,rfl,g,e⟩:=F.ex;exact .all (h kV doc pm an a7 ct)
theorem L1{x a:Str}{st:Stmt}{f:af}{oc:ai}{od an:c7}{osl:Array (d0)}{kV doc pm a7 ct:ai}(l:K.lookup f=some ⟨oc,od,.func (W.fnOf x a (nK st) (i9 st) (bD st) .none kV doc pm an a7 ct),osl⟩)(c:W.codeIn K a7 a=true)(k:W.keepIn K (.ref f)=true):gM K x a st f (W.fnOf x a (nK st) (i9 st) (bD st) .none kV doc pm an a7 ct):=⟨⟨oc,od,kV,doc,pm,an,a7,ct,osl,rfl,l,c⟩,k⟩
end
theorem zh(a:bw k A):A.units+1<cLine:=lt_of_le_of_lt (Nat.add_le_add_left (by decide:1<=64) _) a.units
section
variable{X:Cx}
theorem pv(i:Nat)(b:X.N[i]?=some x:=by rfl)(d:n4 X.env.scope x:=by first |exact Or.inl rfl |exact Or.inr (Or.inl rfl) |exact Or.inr (Or.inr rfl))(hd:du x:=by decide)(a:(x == ("__classdict__":Str))=false:=by decide):PE X (.Name x pos) (f7 i):=q0 b d hd a
end
def aC(H H':Hp):Prop:=∀b o,H b=some o->H' b=some o
theorem aC.refl(H:Hp):aC H H:=λ_ _ h=>h
theorem aC.trans(a:aC H H1)(b:aC H1 H2):aC H H2:=λc o h=>b c o (a c o h)
theorem aC.free{H a:Hp}(e:aC H a)(h:a l=Option.none):H l=Option.none:=by
 cases q:H l with
 |none=>rfl
 |some o=>
  rw[e l o q] at h;cases h
theorem aC.seq{K:ao}{H b:Hp}{a:af}{xs:aw}(e:aC H b)(h:bE K H a xs):bE K b a xs:=by
 rcases h with (h |⟨o,h⟩) |h
 .exact .inl (.inl (e _ _ h))
 .exact .inl (.inr ⟨o,e _ _ h⟩)
 .exact .inr h
section
variable{X:Cx}
theorem PU:bK X (.builtin "len") (λxs H Q=>∃a kvs,xs=[V.ref a]/\H a=some (.dK kvs)/\Q (.int kvs.length) H):=by
 intro aa s j H xs us Q I r h;obtain⟨a,kvs,rfl,d,q⟩:=h;obtain⟨u,rfl,e⟩:=ja r;cases e;exact Mc I (.inl d) λt f b=>⟨.int kvs.length,H,b,⟨t,rfl⟩,q⟩
end
end L2
set_option Elab.async false
set_option linter.all false
set_option maxRecDepth 100000
set_option maxHeartbeats 4000000
namespace L2
open PySem PySem.Spec PyProof.Rows
def iH(i j:Int):Prop:=∃n:Nat,n<=60000000/\i.natAbs<2 ^ n/\j.natAbs<2 ^ n
theorem DQ(h:x.natAbs<2 ^ n):Builtin.Int.intBits x<=n:=by
 unfold Builtin.Int.intBits;by_cases e:(x == 0)=true
 .rw[if_pos e];exact zero_le _
 .rw[if_neg e];have a:x.natAbs≠0:=by
   intro z;have:x=0:=by omega
   rw[this] at e;exact e rfl
  exact (Nat.log2_lt a).mpr h
theorem iH.ok(h:iH i j):IntMulOk i j:=by
 obtain⟨n,hn,a,b⟩:=h;have f:=DQ a;have g:=DQ b;intro z;simp only[and_eq_true,Builtin.Int.intTooBig,decide_eq_true_eq] at z;have e:(bitsLine:Nat)=134217728:=by decide
 have d:=z.2;rw[e] at d;omega
def j4(i j:Int):Prop:=kr i j\/iH i j
def dN(_ j:Int):Prop:=j≠0/\j.natAbs<2 ^ 8000
theorem dN.ok(h:dN i j):Builtin.divisionGoesByPylong i j=false:=by
 refine PyProof.noPylong_of_log2 ?_;have a:j.natAbs≠0:=by have:=h.1;omega
 have:=(Nat.log2_lt a).mpr h.2;omega
section
variable{X:Cx}
theorem O0:b6 X (binaryOp .Mult) (rI j4 λi j=>.int (i*j)):=rF λ_ _ _ _ _ _ _ a q=>mul_int q (a.elim kr.ok iH.ok)
theorem IY:b6 X (binaryOp .FloorDiv) (rI dN λi j=>.int (i.fdiv j)):=rF λ_ _ _ _ _ _ _ a q=>floordiv_int a.1 q (.inl a.ok)
end
section
variable{X:Cx}{aa:aV}{σ:St}{H:Hp}{s:ak}{a:af}{kvs:bT}
theorem au.freeze(I:au X aa σ H s)(e:H a=some (.dK kvs)):∃o,s.heap.get? a=some o/\au X aa σ (aQ H a (.ay o (.dK kvs))) s:=by
 have ok:a6 X.prog X.w H s.heap a (.dK kvs):=I.aN a _ e;obtain⟨z,y,vs,r,o,f,d,b,c⟩:=id ok;refine⟨o,b,?_⟩;exact I.write (h':=s.heap) (t':=s.toks) (x:=a) (e:=a) (by rw[e];exact True.intro) (.inl rfl) (λ_ _ _ q=>q) ⟨o,b⟩ ⟨b,z,y,vs,r,o,f,d,b,c⟩
theorem au.fD(I:au X aa σ H s)(e:H a=some (.ay o (.dK kvs)))(hn:∀o u,X.H₀ a≠some (.ay o u)):au X aa σ (aQ H a (.dK kvs)) s:=by
 have ne:∀b u,H b=some u->(∀o A,u≠.ay o A)->b≠a:=λb u h d z=>by
  subst z;rw[e] at h;exact d _ _ (Option.some.inj h).symm
 obtain⟨B,ok⟩:=(show a6 X.prog X.w H s.heap a (.ay o (.dK kvs)) from I.aN a _ e);refine⟨I.ok,I.os,I.bare,⟨λb f q n i g=>I.base.keep b f q n i g,λb f q n i g=>I.base.slot b f q n i g,λb f q n g=>?_,λb f q g=>I.base.there b f q g,λb j q=>?_,λb f u q=>?_,λb r q=>?_⟩,I.loc,I.cell,?_,λx c q=>?_,λp l=>?_,λb u q=>?_,I.len⟩
 .have z:=I.base.free b f q n g;rw[ba (by intro y;subst y;rw[e] at z;cases z)];exact z
 .have z:=I.base.e5 b j q;rw[ba (ne b _ z (λ_ _ y=>by cases y))];exact z
 .have z:=I.base.bp b f u q;rw[ba (by intro y;subst y;exact hn _ _ q)];exact z
 .obtain⟨m,z⟩:=I.base.e8 b r q;exact⟨m,by rw[ba (ne b _ z (λ_ _ y=>by cases y))];exact z⟩
 .rw[ba (by intro y;have z:=I.free;rw[y,e] at z;cases z)];exact I.free
 .rw[ba (by intro y;have z:=I.bW x c q;rw[y,e] at z;cases z)];exact I.bW x c q
 .obtain⟨p1,p2,p3,p4,p5⟩:=I.pin p l;refine⟨p1,?_,p3,p4,p5⟩;rw[ba (by intro y;rw[y,e] at p2;cases p2)];exact p2
 .by_cases i:b=a
  .subst i;rw[cq] at q;cases q;exact ok
  .rw[ba i] at q;exact (I.aN b u q).eI (λ_ _ _ z=>z) (λc z=>by rw[ba (ne c _ z (λ_ _ y=>by cases y))];exact z) λc j z=>by rw[ba (ne c _ z (λ_ _ y=>by cases y))];exact z
end
def pD(a:af)(ob:Obj)(kvs:bT):It:=
 ⟨λi H=>i<kvs.length/\H a=some (.ay ob (.dK kvs)),λi H x b=>∃p k v,kvs[i]?=some (k,v)/\H p=none/\x=.ref p/\b=aQ H p (.aG [kV k,v]),λi H=>kvs.length<=i/\H a=some (.ay ob (.dK kvs))⟩
theorem yy(h:(eA P w).is k u=true):aE (kV k) u:=by
 rcases jX (k:=k) (v:=u) h with⟨i,t,rfl,rfl⟩ |⟨x,t,rfl,rfl⟩
 .exact⟨t,rfl⟩
 .exact⟨t,rfl⟩
theorem KV.at(r:KV kvs vs):∀{i:Nat}{k:aU}{v:V},kvs[i]?=some (k,v)->∃u,vs[i]?=some (k,u)/\aE v u:=by
 unfold KV at r
 induction r with
 |nil=>intro i k v h;simp at h
 |@cons p q d f h t b=>
  intro i k v e;cases i with
  |zero=>
   simp at e;subst e;have a:k=q.1:=h.1;exact⟨q.2,by rw[a];rfl,h.2⟩
  |succ i=>simpa using b (i:=i) (k:=k) (v:=v) (by simpa using e)
theorem NV{P:Program}{w:World}{K:ao}{elts:bH}{x1:Nat}{pos:Pos}(a it:af)(ob:Obj)(kvs:bT)(ζ:a≠it):
  kd P w K (.Tuple elts x1 pos) (pD a ob kvs) [it] it (λi h=>∃g ep ok ov,ob.data=.dict g ep/\IsItemIter h it a i kvs.length ep ok ov) where
 mem:=by simp
 obj:=λi h st b m=>by
  have e:b=it:=by simpa using m
  subst e;obtain⟨g,ep,ok,ov,hd,e⟩:=st;exact⟨_,e,λv z=>by cases z⟩
 keep:=λi h h' st k=>by
  obtain⟨g,ep,ok,ov,hd,e⟩:=st;exact⟨g,ep,ok,ov,hd,k it (by simp) _ e⟩
 item:=by
  intro X hP hw hK hc i aa s j H E I hf st hg;subst hP hw hK;obtain⟨g,ep,ok,ov,hd,d⟩:=st;obtain⟨hi,hH⟩:=hg;obtain⟨B,z,y,vs,r,J,β,α,f,N,n,O,U,Y⟩:=(show a6 X.prog X.w H s.heap a (.ay ob (.dK kvs)) from I.aN a _ hH);have eo:J=ob:=by rw[B] at f;exact (Option.some.inj f).symm
  subst eo;rw[hd] at n;cases n;have hm:s.heap.DictAt (eA X.prog X.w) a vs ep:=⟨J,g,B,N,hd,O,U,Y⟩;obtain⟨⟨k,v⟩,x⟩:∃q,kvs[i]?=some q:=⟨kvs[i],by simp[hi]⟩;obtain⟨u,hu,ru⟩:=r.at x;have M:kvs.length=vs.length:=KV.length r;rw[M] at d;obtain⟨L,f1,f2,f3,f4,f5⟩:=hf it (by simp);refine wpAny_pyNext_items_item d hm hu λl h' p C hT η hk=>?_
  refine⟨.ref s.heap.objs.size,rfl,wpAny_letOwnedTupleGo_items C λh2 he hs=>?_⟩;have ε:it<s.heap.objs.size:=Heap.lt_size d;have I1:=I.laid (a:=s.heap.objs.size) (o:=.aG [kV k,v]) (h':=s.heap.push { cls:=.type "tuple",data:=.seq #[l,u] }) (t':=s.toks) (λb q D=>Heap.get?_push_of_some _ D) (le_refl _)
   ⟨by show 2<=sizeLine;decide,[l,u],.cons (yy p) (.cons ru .nil),⟨_,Heap.get?_push_size _ rfl,rfl,_,rfl⟩⟩
  have δ:H s.heap.objs.size=none:=I.aN.fresh (le_refl _);have G:it≠s.heap.objs.size:=ne_of_lt ε;refine⟨.ref s.heap.objs.size,aQ H s.heap.objs.size (.aG [kV k,v]),?_,rfl,⟨_,k,v,x,δ,rfl,rfl⟩,⟨g,ep,l,u,hd,by rw[M];exact he⟩,λb m=>?_⟩
  .have I2:au X aa j (aQ H s.heap.objs.size (.aG [kV k,v])) { s with heap:=h2,toks:=s.toks }:=au.turned (s:={ s with heap:=s.heap.push { cls:=.type "tuple",data:=.seq #[l,u] },toks:=s.toks }) I1 (h':=h2) (t':=s.toks) (it:=it) (λb q m D=>?_) (by rw[ba G];exact L) f1 f3 f4 f5
   .exact I2
   .refine hs.extBut b q m ?_;rcases Heap.get?_push_cases D with⟨γ,eq⟩ |D
    .subst γ;subst eq;exact hT
    .exact hk b q m D
  .have e:b=it:=by simpa using m
   subst e;rw[ba G];exact L
 done:=by
  intro X hP hw hK hc i aa s j H E I hf st hg;subst hP hw hK;obtain⟨g,ep,ok,ov,hd,d⟩:=st;obtain⟨hi,hH⟩:=hg;obtain⟨B,z,y,vs,r,J,β,α,f,N,n,O,U,Y⟩:=(show a6 X.prog X.w H s.heap a (.ay ob (.dK kvs)) from I.aN a _ hH);have eo:J=ob:=by rw[B] at f;exact (Option.some.inj f).symm
  subst eo;rw[hd] at n;cases n;have hm:s.heap.DictAt (eA X.prog X.w) a vs ep:=⟨J,g,B,N,hd,O,U,Y⟩;have M:kvs.length=vs.length:=KV.length r;rw[M] at d;obtain⟨L,f1,f2,f3,f4,f5⟩:=hf it (by simp);exact wpAny_pyNext_items_end (I.ok.hd hc) d hm (by simp;omega) λh' eb=>⟨rfl,I.turned (t':=s.toks) (λb o m e=>eb b o m e) L f1 f3 f4 f5⟩
 self:=λA i s Q E st h=>by
  obtain⟨g,ep,ok,ov,hd,d⟩:=st;exact W.kcp_self d h
section
variable{X:Cx}
def Fc(X:Cx)(f:TE):TI:=λj H R=>f j H λx d=>∃a b,x=.ref a/\d a=some (.dK b)/\∀e,(∀o u,X.H₀ a≠some (.ay o u))->R (pD a e b) (aQ d a (.ay e (.dK b)))
theorem Qw(ho:PE X o td)(l:attributeBase o "items" X.env (eval o X.env)=eval o X.env)(m:(apos.endLine == bq.line)=true):
  PI X (.Tuple elts x1 pos) (.Call (.Attribute o "items" apos) [] [] bq) (Fc X td):=by
 intro aa s j H R I h;refine wpAny_Call_method0_late l m (bh (ho aa s j H _ I h) λv i J=>?_);obtain⟨x,L,p,r1,a,g,ex,A,q⟩:=J;subst ex;obtain rfl:v=Value.ref a:=r1;obtain⟨N,t2,hd⟩:=tf p (.inl ⟨g,.inl A⟩);refine⟨"dict","dict.items",PySem.F.plainAttrs_dict,PySem.F.slot_dict_items,PySem.F.type_dict_items,N,t2,Calls.callWith_builtin rfl (PySem.evalArgs_none ?_)⟩;obtain⟨z,y,vs,r,dd⟩:=tO p.aN A;refine call_meetsIn PySem.F.slot_dict_items N PySem.F.entry_dict_items (PySem.F.args_dict_items_1 _) (meets_dict_items (eA X.prog X.w) a hd) ⟨⟨vs,dd⟩,?_⟩;have C:au X aa j L { i with heap:=i.heap.push { cls:=.type "dict_items",data:=.fields #[.ref a] } }:=p.kept (t':=i.toks) λb o e=>Heap.get?_push_of_some _ e
 have G:∀o u,X.H₀ a≠some (.ay o u):=λo u z=>by
  have:=p.base.bp a o u z;rw[A] at this;cases this
 obtain⟨D,E⟩:=dd.dictAt;have f:=E.push { cls:=.type "dict_items",data:=.fields #[.ref a] };refine wpAny_pyIter_items (v:=i.heap.objs.size) (d:=a) ⟨_,Heap.get?_push_size _ rfl,rfl,rfl⟩ f ?_;obtain⟨B,n,O⟩:=(C.kept (t':=i.toks) (h':=(i.heap.push { cls:=.type "dict_items",data:=.fields #[.ref a] }).push { cls:=.type "dict_itemiterator",data:=.fields #[.none,.bool false,.ref a,.int 0 0,.int vs.length 0,.int D 0,.none,.none] }) λb o e=>Heap.get?_push_of_some _ e).freeze A;have M:a<(i.heap.push { cls:=.type "dict_items",data:=.fields #[.ref a] }).objs.size:=f.lt_size;have hl:g.length=vs.length:=KV.length r;refine⟨_,[_],_,_,aQ L a (.ay B (.dK g)),rfl,O,NV a (i.heap.push { cls:=.type "dict_items",data:=.fields #[.ref a] }).objs.size B g (ne_of_lt M),?_,λb Y=>?_,q B G⟩
 .obtain⟨o2,es,ho2,c1,c2,_⟩:=f;have Q:B=o2:=by
   have U:=Heap.get?_push_of_some { cls:=.type "dict_itemiterator",data:=.fields #[.none,.bool false,.ref a,.int 0 0,.int vs.length 0,.int D 0,.none,.none] } ho2;rw[U] at n;exact (Option.some.inj n).symm
  subst Q;refine⟨es,D,.none,.none,c2,?_⟩;rw[hl];exact Heap.get?_push_size _ rfl
 .have e:b=(i.heap.push { cls:=.type "dict_items",data:=.fields #[.ref a] }).objs.size:=by simpa using Y
  subst e;refine C.fb (le_refl _) ?_;rw[ba (Nat.ne_of_gt M)];exact C.aN.fresh (le_refl _)
def nN(X:Cx)(R:Hp->Prop)(H:Hp):Prop:=∃a d b,H a=some (.ay d (.dK b))/\(∀o u,X.H₀ a≠some (.ay o u))/\R (aQ H a (.dK b))
def xJ(X:Cx)(D:g9):g9:={ nx:=λj=>nN X (D.nx j),rt:=λv=>nN X (D.rt v),bk:=λj=>nN X (D.bk j),ct:=λj=>nN X (D.ct j) }
def Bu(X:Cx)(a:TE)(g:TG)(tb:TS):TS:=λD j H=>yZ (Fc X a) g tb (xJ X D) j H
theorem GF(hp:PassesOwn (model X.prog X.w) X.A X.env X.xe)(z:X.calm=true)(C:PE X o td)(B:PG X (.Tuple elts x1 pos) g)(y:fA X body tb)(d:attributeBase o "items" X.env (eval o X.env)=eval o X.env:=by rfl)(i:(apos.endLine == bq.line)=true:=by rfl)(hs:∀x,foldedSetIterable (.Call (.Attribute o "items" apos) [] [] bq) X.env x=pure x:=by intro _;rfl):PS X (.For (.Tuple elts x1 pos) (.Call (.Attribute o "items" apos) [] [] bq) body [] fpos) (Bu X td g tb):=by
 intro aa s j H D I h;have base:=EV (pos:=fpos) hp z (Qw (elts:=elts) (x1:=x1) (pos:=pos) C d i) B y hs aa s j H (xJ X D) I h;refine bh base λf G q=>?_
 cases f with
 |next=>obtain⟨l,n,b,a,p,m,e,hn,r⟩:=q;exact⟨l,_,b.fD e hn,r⟩
 |brk=>obtain⟨l,n,b,a,p,m,e,hn,r⟩:=q;exact⟨l,_,b.fD e hn,r⟩
 |cont=>obtain⟨l,n,b,a,p,m,e,hn,r⟩:=q;exact⟨l,_,b.fD e hn,r⟩
 |ret u=>obtain⟨v,l,n,b,E,a,p,m,e,hn,r⟩:=q;exact⟨v,l,_,b.fD e hn,E,r⟩
end
theorem JK{a:af}{ob:Obj}{kvs:bT}{g:TG}{tb:TS}{D:g9}{j:St}{H:Hp}(Pv:Nat->St->Hp->Prop)(s:Pv 0 j H)(w:∀i j H,i<=kvs.length->Pv i j H->H a=some (.ay ob (.dK kvs)))(hs:∀i k v j H p,kvs[i]?=some (k,v)->Pv i j H->H p=none->g (.ref p) j (aQ H p (.aG [kV k,v])) λl f=>tb { D with nx:=Pv (i+1),ct:=Pv (i+1),bk:=D.nx } l f)(hd:∀j H,Pv kvs.length j H->D.nx j H):
  ∃W:Nat->Nat->St->Hp->Prop,(∃m,W 0 m j H)/\∀i m j H,W i m j H->
   ((pD a ob kvs).stop i H/\D.nx j H)\/((pD a ob kvs).go i H/\∃N:St->Hp->Prop,(∀h b,N h b->∃n,n<m/\W (i+1) n h b)/\∀x b,(pD a ob kvs).kK i H x b->g x j b λl f=>tb { D with nx:=N,ct:=N,bk:=D.nx } l f):=by
 refine⟨λi m j H=>m=kvs.length - i/\i<=kvs.length/\Pv i j H,⟨kvs.length,by simp,zero_le _,s⟩,?_⟩;rintro i m j H ⟨rfl,u,p⟩;have q:=w i j H u p;by_cases d:i<kvs.length
 .refine .inr ⟨⟨d,q⟩,Pv (i+1),λh b z=>⟨kvs.length - (i+1),by omega,rfl,d,z⟩,λx b y=>?_⟩;obtain⟨A,k,v,o,r,rfl,rfl⟩:=y;exact hs i k v j H A o p r
 .have e:i=kvs.length:=by omega
  subst e;exact .inl ⟨⟨le_refl _,q⟩,hd j H p⟩
section
variable{X:Cx}
theorem Il(N:X.calm=true):bK X (.type "list") (λxs H Q=>∃a kvs,xs=[.ref a]/\Rd H a (.dK kvs)/\∀p,H p=none->Q (.ref p) (aQ H p (.ag (kvs.map λl=>kV l.1)))):=by
 intro aa s i H xs us Q I r h;obtain⟨a,kvs,rfl,M,q⟩:=h;obtain⟨u,rfl,Y⟩:=ja r;cases Y;obtain⟨z,y,vs,m,dd⟩:=jy I.aN M;obtain⟨ep,B⟩:=dd.dictAt;have E:kvs.length=vs.length:=KV.length m;refine W.kdl_call (W.kdl_dict (knd:=eA X.prog X.w) (kvs:=vs) (ep:=ep) y) (I.ok.hd N) B (by rw[<- E];exact z) λh' tk b J O L d=>?_
 have C:H s.heap.objs.size=none:=I.aN.fresh (le_refl _);refine⟨.ref s.heap.objs.size,_,I.laid (a:=s.heap.objs.size) (o:=.ag (kvs.map λl=>kV l.1)) (h':=h') (t':=tk) O (le_refl _) ⟨by rw[length_map];exact z,b.toList,J,?_,by simpa using L⟩,rfl,q _ C⟩;have hn:b.toList.length=vs.length:=by rw[length_toList];exact d.1
 have gen:∀(kvs:bT)(us:aM),us.length=kvs.length->(∀(j:Nat) k v u,kvs[j]?=some (k,v)->us[j]?=some u->aE (kV k) u)->aI (kvs.map λl=>kV l.1) us:=by
  intro kvs
  induction kvs with
  |nil=>intro us e _;cases us with
   |nil=>exact .nil
   |cons _ _=>simp at e
  |cons p r U=>
   intro us e f;cases us with
   |nil=>simp at e
   |cons u us=>
    refine .cons (f 0 p.1 p.2 u rfl rfl) (U us (by simpa using e) λj k v w n A=>f (j+1) k v w (by simpa using n) (by simpa using A))
 refine gen kvs b.toList (by rw[hn,E]) λj k v u n A=>?_
 obtain⟨k',x,G,g⟩:=d.2 j u (by rw[<- getElem?_toList];exact A);obtain⟨u',D,_⟩:=m.at n;rw[D] at G;cases G;exact yy g
def sf:V->d0
 |.ty n=>some (.type n)
 |.ref a=>some (.ref a)
 |_=>none
theorem QQ:bK X (.builtin "isinstance") (λxs H Q=>∃x c t b u,xs=[x,c]/\dY X.K H x t/\sf c=some u/\W.kitOne X.K t u=some b/\Q (.bl b) H):=by
 intro aa s j H xs us Q I r h;obtain⟨x,c,t,b,u,rfl,ty,d,e,q⟩:=h;obtain⟨v,o,rfl,l,f⟩:=Ck r;have g:o=u:=by
  cases c with
  |ref a=>cases d;exact f
  |ty n=>cases d;exact f
  |aL=>cases d
  |bl n=>cases d
  |int i=>cases d
  |str i=>cases d
  |gc i=>cases d
  |kW i=>cases d
 subst g;exact Ir I l ty e λm=>⟨.bl b,H,I.tok m,rfl,q⟩
end
theorem nQ(A:Around):A.in1.units=A.units+1:=rfl
section
variable{σ:St}{H:Hp}{Q:VK}{D:g9}{K:ao}
theorem aC.aQ(h:H a=none):aC H (aQ H a o):=λb u e=>by rw[ba (iW e h)];exact e
theorem aC.aG(e:aC H H')(h:df K H a xs):df K H' a xs:=by
 rcases h with (h |⟨o,h⟩) |h
 .exact .inl (.inl (e _ _ h))
 .exact .inl (.inr ⟨o,e _ _ h⟩)
 .exact .inr h
theorem aC.rd(e:aC H H')(h:Rd H a u):Rd H' a u:=by
 rcases h with h |⟨o,h⟩
 .exact .inl (e _ _ h)
 .exact .inr ⟨o,e _ _ h⟩
end
section
variable{σ:St}{H:Hp}{Q:VK}{D:g9}{K:ao}{X:Cx}
theorem aC.my(e:aC H H')(n:H a=none):aC H (L2.aQ H' a o):=λb u q=>by rw[ba (iW q n)];exact e b u q
end
end L2
namespace Sf
def gd(a b:Int):Int:=(Int.gcd a b:Nat)
theorem GD(a:Int)(h:0<=a):gd a 0=a:=by
 unfold gd;rw[Int.gcd_zero_right];omega
theorem K8(d:0<=a)(f:0<b):gd b (a % b)=gd a b:=by
 unfold gd Int.gcd;have e:(a % b).natAbs=a.natAbs % b.natAbs:=by
  obtain⟨m,rfl⟩:=Int.eq_ofNat_of_zero_le d;obtain⟨n,rfl⟩:=Int.eq_ofNat_of_zero_le (le_of_lt f);simp only[natAbs_natCast];rw[<- Int.natCast_emod,natAbs_natCast]
 rw[e,Nat.gcd_comm b.natAbs,Nat.gcd_comm a.natAbs,Nat.gcd_rec b.natAbs a.natAbs]
theorem lu(h:b≠0):0<gd a b:=by
 unfold gd;have:=Int.gcd_pos_of_ne_zero_right a h;omega
theorem OA(a b:Int):gd (a.natAbs:Int) (b.natAbs:Int)=gd a b:=by
 unfold gd;simp[Int.gcd]
theorem E6(a:Int):(if a<0 then -a else a)=(a.natAbs:Int):=by split<;>omega
theorem IC(a b:Int):gd (if a<0 then -a else a) (if b<0 then -b else b)=gd a b:=by
 rw[E6,E6,OA]
def dv(t b:Int):Int:=if b<0 then -(gd t b) else gd t b
theorem Gu(h:b≠0):dv t b≠0:=by
 have:=lu (a:=t) h;unfold dv;split<;>omega
theorem uu(t b:Int):gd t b ∣ t:=Int.gcd_dvd_left ..
theorem xv(t b:Int):gd t b ∣ b:=Int.gcd_dvd_right ..
theorem T8(t b:Int):dv t b ∣ t:=by
 unfold dv;split
 .exact Int.neg_dvd.mpr (uu t b)
 .exact uu t b
theorem LI(t b:Int):dv t b ∣ b:=by
 unfold dv;split
 .exact Int.neg_dvd.mpr (xv t b)
 .exact xv t b
theorem BO{x d:Int}(h:d ∣ x):x.fdiv d*d=x:=by
 rw[Int.fdiv_mul_cancel h]
theorem AH{t b:Int}(h:b≠0):t.fdiv (dv t b)=(Rat.divInt t b).num:=by
 have hd:=Gu (t:=t) h;refine Int.eq_of_mul_eq_mul_right hd ?_;rw[BO (T8 t b),Rat.num_divInt];have e:b.gcd t=t.gcd b:=Int.gcd_comm ..;rw[e];have f:((t.gcd b:Nat):Int) ∣ t:=Int.gcd_dvd_left ..;have j:=lu (a:=t) h;unfold gd at j;unfold dv gd;rw[Int.mul_ediv_assoc _ f];obtain⟨k,i⟩:=f;generalize l:((t.gcd b:Nat):Int)=g at *;have d:t / g=k:=by rw[i];exact Int.mul_ediv_cancel_left k (by omega)
 rw[d];split
 .rename_i hb;rw[Int.sign_eq_neg_one_of_neg hb];grind
 .rename_i hb;rw[Int.sign_eq_one_of_pos (by omega)];grind
theorem By{t b:Int}(h:b≠0):b.fdiv (dv t b)=((Rat.divInt t b).den:Int):=by
 have hd:=Gu (t:=t) h;refine Int.eq_of_mul_eq_mul_right hd ?_;rw[BO (LI t b),Rat.den_divInt,if_neg h];have e:b.gcd t=t.gcd b:=Int.gcd_comm ..;rw[e];have i:(t.gcd b) ∣ b.natAbs:=by rw[<- Int.ofNat_dvd_left];exact Int.gcd_dvd_right ..
 have l:=lu (a:=t) h;unfold gd at l;unfold dv gd;obtain⟨k,f⟩:=i;have d:b.natAbs / t.gcd b=k:=by rw[f];exact Nat.mul_div_cancel_left k (by omega)
 rw[d];generalize t.gcd b=g at *;have j:(b.natAbs:Int)=(g:Int)*(k:Int):=by rw[f];exact natCast_mul ..
 split<;>grind
theorem den_pos(q:Rat):0<(q.den:Int):=by have:=q.den_nz;omega
end Sf
namespace Sf
def Sm(n:Nat)(q:Rat):Prop:=q.num.natAbs<2 ^ n/\q.den<2 ^ n
theorem AB(h:b≠0):(Rat.divInt t b).num.natAbs<=t.natAbs/\(Rat.divInt t b).den<=b.natAbs:=by
 obtain⟨m,hm,g,i⟩:=Rat.divInt_num_den (n:=t) (d:=b) h (n':=(Rat.divInt t b).num) (d':=(Rat.divInt t b).den) (z':=(Rat.divInt t b).den_nz) (c:=(Rat.divInt t b).reduced) rfl;have a:1<=m.natAbs:=by omega
 have f:=congrArg Int.natAbs g;have e:=congrArg Int.natAbs i;rw[natAbs_mul] at f e;rw[natAbs_natCast] at e;constructor
 .rw[f];exact Nat.le_mul_of_pos_right _ a
 .rw[e];exact Nat.le_mul_of_pos_right _ a
theorem vb(h:b≠0)(a:t.natAbs<2 ^ n)(d:b.natAbs<2 ^ n):Sm n (Rat.divInt t b):=
 ⟨lt_of_le_of_lt (AB h).1 a,lt_of_le_of_lt (AB h).2 d⟩
theorem Jp(a b:Rat):a+b=Rat.divInt (a.num*b.den+b.num*a.den) (a.den*b.den):=by
 rw[Rat.add_def',<- Rat.divInt_ofNat];rfl
theorem De(a b:Rat):a - b=Rat.divInt (a.num*b.den - b.num*a.den) (a.den*b.den):=by
 rw[Rat.sub_def',<- Rat.divInt_ofNat];rfl
theorem Dw(a b:Rat):a*b=Rat.divInt (a.num*b.num) (a.den*b.den):=by
 rw[Rat.mul_def',<- Rat.divInt_ofNat];rfl
theorem qh(a b:Rat):(a.den*b.den:Int)≠0:=by
 have d:=den_pos a;have e:=den_pos b;exact ne_of_gt (mul_pos d e)
theorem Lo(a:x<2 ^ n)(b:y<2 ^ m):x*y<2 ^ (n+m):=by
 rw[pow_add];exact Nat.mul_lt_mul'' a b
theorem oo{x y:Int}{n m:Nat}(a:x.natAbs<2 ^ n)(b:y.natAbs<2 ^ m):(x*y).natAbs<2 ^ (n+m):=by
 rw[natAbs_mul];exact Lo a b
theorem Wo{x y:Int}{n:Nat}(a:x.natAbs<2 ^ n)(b:y.natAbs<2 ^ n):(x+y).natAbs<2 ^ (n+1):=by
 rw[Nat.pow_succ];omega
theorem Fg{x y:Int}{n:Nat}(a:x.natAbs<2 ^ n)(b:y.natAbs<2 ^ n):(x - y).natAbs<2 ^ (n+1):=by
 rw[Nat.pow_succ];omega
theorem nT(h:Sm n q):(q.den:Int).natAbs<2 ^ n:=by rw[natAbs_natCast];exact h.2
theorem V0{x:Int}{n m:Nat}(h:x.natAbs<2 ^ n)(k:n<=m):x.natAbs<2 ^ m:=lt_of_lt_of_le h (Nat.pow_le_pow_right (by decide) k)
theorem N8{n m:Nat}{a b:Rat}(d:Sm n a)(e:Sm m b):Sm (n+m+1) (a - b):=by
 rw[De];refine vb (qh a b) ?_ ?_
 .refine Fg (oo d.1 (nT e)) ?_;rw[Nat.add_comm n m];exact oo e.1 (nT d)
 .exact V0 (oo (nT d) (nT e)) (by omega)
theorem bN(d:Sm n a)(e:Sm m b):Sm (n+m) (a*b):=by
 rw[Dw];exact vb (qh a b) (oo d.1 e.1) (oo (nT d) (nT e))
theorem SI(h:Sm n a):Sm n (-a):=⟨by rw[Rat.neg_num,natAbs_neg];exact h.1,h.2⟩
end Sf
namespace Sf
section
variable{κ:Type}[DecidableEq κ]
abbrev FL(κ:Type):=List (κ×Rat)
def gt(m:FL κ)(k:κ):Option Rat:=(m.find? λp=>decide (p.1=k)).map (·.2)
def nz(m:FL κ):FL κ:=m.filter λp=>decide (p.2≠0)
def sc(m:FL κ)(n:Rat):FL κ:=m.map λp=>(p.1,p.2*n)
def run(P:κ->Rat)(r:Rat)(m:FL κ):Rat:=m.foldl (λt p=>t+p.2*P p.1) r
end
end Sf
namespace Sf
section
variable{κ:Type}[DecidableEq κ]
theorem Dx{j:Type}{m:List j}{i:Nat}{p:j}(e:m[i]?=some p):m.take (i+1)=m.take i++[p]:=by
 rw[take_add_one,e];rfl
end
end Sf
namespace Vc
open PySem L2 Sf
def Le(F b:Hp):Prop:=∀a u,(∀o w,u≠.ay o w)->Rd F a u->Rd b a u
theorem Le.refl(F:Hp):Le F F:=λ_ _ _ h=>h
theorem Le.trans(a:Le F G)(b:Le G H):Le F H:=λx u n h=>b x u n (a x u n h)
theorem Le.of(e:aC F F'):Le F F':=λa u _ h=>e.rd h
theorem Le.aG(e:Le F F')(h:df K F a xs):df K F' a xs:=by
 rcases h with h |h
 .exact .inl (e _ _ (by intro o w z;cases z) h)
 .exact .inr h
theorem Le.ag(e:Le F F')(h:bE K F a xs):bE K F' a xs:=by
 rcases h with h |h
 .exact .inl (e _ _ (by intro o w z;cases z) h)
 .exact .inr h
theorem Le.aS(e:Le F F')(h:Rd F a (.dK kvs)):Rd F' a (.dK kvs):=e _ _ (by intro o w z;cases z) h
def Fz(S:af->Prop)(F:Hp):Prop:=∀a o u,F a=some (.ay o u)->S a
abbrev S0:af->Prop:=λ_=>False
def vx(F:Hp):af->Prop:=λa=>∃o u,F a=some (.ay o u)
structure Gr0(F H F' H':Hp):Prop where
 h:aC H H'
 f:aC F F'
 s:aC F' H'
 n:∀a u,F' a=some u->F a=none->H a=none
structure Gr(F H F' H':Hp):Prop extends Gr0 F H F' H' where
 z:Fz (vx F) F'
theorem Gr0.refl(s:aC F H):Gr0 F H F H:=⟨aC.refl _,aC.refl _,s,(λa u h e=>by rw[h] at e;cases e)⟩
theorem Fz.refl(F:Hp):Fz (vx F) F:=λ_ o u h=>⟨o,u,h⟩
theorem Gr.of(g:Gr0 F H F' H')(z:Fz (vx F) F'):Gr F H F' H':=⟨g,z⟩
theorem Gr.le(g:Gr F H F' H'):Le F F':=.of g.f
theorem Gr.fz(g:Gr F H F' H')(c:Fz S F):Fz S F':=λa o u h=>by
 obtain⟨b,d,e⟩:=g.z a o u h;exact c a b d e
theorem Gr0.trans(a:Gr0 F H F1 H1)(b:Gr0 F1 H1 F2 H2):Gr0 F H F2 H2:=
 ⟨a.h.trans b.h,a.f.trans b.f,b.s,(λx u h e=>match q:F1 x with
  |none=>a.h.free (b.n x u h q)
  |some w=>a.n x w q e)⟩
theorem Gr0.tr(a:Gr0 F H F1 H1)(b:Gr F1 H1 F2 H2):Gr0 F H F2 H2:=a.trans b.toGr0
theorem Gr.own{F H a b:Hp}(g:Gr F H a b)(d:F o=none)(e:H o=some u):a o=none:=by
 cases q:a o with
 |none=>rfl
 |some w=>have:=g.n o w q d;rw[e] at this;cases this
theorem al{F H:Hp}{R:V->Hp->Prop}(j:aC F H)(m:∀x u,o≠.ay x u)(h:∀(p:af)(g i:Hp),Gr F H g i->g p=some o->R (.ref p) i):∀p,H p=none->R (.ref p) (aQ H p o):=λp f=>by
 have l:F p=none:=j.free f;refine h p (aQ F p o) (aQ H p o) ⟨⟨aC.aQ f,aC.aQ l,?_,λa u e q=>?_⟩,λa x u e=>?_⟩ cq
 .intro b u e;by_cases d:b=p
  .subst d;rw[cq] at e ⊢;exact e
  .rw[ba d] at e ⊢;exact j b u e
 .by_cases d:a=p
  .subst d;exact f
  .rw[ba d,q] at e;cases e
 .by_cases d:a=p
  .subst d;rw[cq] at e;exact absurd (Option.some.inj e) (m x u)
  .rw[ba d] at e;exact⟨_,_,e⟩
theorem Uy{F H:Hp}{R:Hp->Prop}(j:aC F H)(i:∀x u,o≠.ay x u)(hp:H p=none)(h:∀b a:Hp,Gr F H b a->b p=some o->R a):R (aQ H p o):=by
 have:=al (R:=λv a=>∀q,v=.ref q->q=p->R a) j i (λq b a g e z f d=>by cases f;subst d;exact h b a g e) p hp;exact this p rfl rfl
theorem Bh{F H:Hp}(f:aC F H)(d:∀x u,o≠.ay x u)(hp:H p=none):∃a,Gr F H a (aQ H p o)/\a p=some o:=
 Uy (R:=λb=>∃a,Gr F H a b/\a p=some o) f d hp λa _ g e=>⟨a,g,e⟩
theorem ay{Fb Hb F H:Hp}(g:Gr0 Fb Hb F H)(l:Fz S F)(i:Hb p=none)(j:F p=none)(m:H p=some o)(r:∀x u,o≠.ay x u):∃d,Gr0 Fb Hb d H/\Fz S d/\aC F d/\d p=some o/\∀a,a≠p->d a=F a:=by
 refine⟨aQ F p o,⟨g.h,g.f.trans (aC.aQ j),?_,λa u e q=>?_⟩,λa x u e=>?_,aC.aQ j,cq,λ_ e=>ba e⟩
 .intro b u e;by_cases i:b=p
  .subst i;rw[cq] at e;cases e;exact m
  .rw[ba i] at e;exact g.s b u e
 .by_cases hb':a=p
  .subst hb';exact i
  .rw[ba hb'] at e;exact g.n a u e q
 .by_cases hb':a=p
  .subst hb';rw[cq] at e;exact absurd (Option.some.inj e) (r x u)
  .rw[ba hb'] at e;exact l a x u e
def fz(X:Hp)(a:af)(o:HO):Hp:=λb=>if b=a then (if X a=none then none else some o) else X b
theorem eM{X:Hp}(h:b≠a):fz X a o b=X b:=by unfold fz;rw[if_neg h]
theorem gH:fz X a o a=if X a=none then none else some o:=by unfold fz;rw[if_pos rfl]
theorem tD{X:Hp}(h:fz X a o a=some u):X a≠none/\some o=some u:=by
 rw[gH] at h;split at h
 .cases h
 .rename_i q;exact⟨q,h⟩
theorem Kf(z:HO)(d:Gr0 Fb Hb F H):Gr0 (fz Fb a z) (fz Hb a z) (fz F a z) (aQ H a z):=by
 refine⟨λb u e=>?_,λb u e=>?_,λb u e=>?_,λb u e q=>?_⟩
 .by_cases hb:b=a
  .subst hb;rw[cq];exact (tD e).2
  .rw[eM hb] at e;rw[ba hb];exact d.h b u e
 .by_cases hb:b=a
  .subst hb;rw[gH] at e ⊢;split at e
   .cases e
   .rename_i h;obtain⟨w,g⟩:=Option.ne_none_iff_exists'.mp h;rw[if_neg (by rw[d.f _ _ g];intro z;cases z)];exact e
  .rw[eM hb] at e ⊢;exact d.f b u e
 .by_cases hb:b=a
  .subst hb;rw[cq];exact (tD e).2
  .rw[eM hb] at e;rw[ba hb];exact d.s b u e
 .by_cases hb:b=a
  .subst hb;rw[gH] at e q ⊢;split at e
   .cases e
   .rename_i h;obtain⟨w,g⟩:=Option.ne_none_iff_exists'.mp h;split at q
    .rename_i hf;rw[if_pos (d.n _ _ g hf)]
    .cases q
  .rw[eM hb] at e q ⊢;exact d.n b u e q
theorem uB{F:Hp}(d:F a=none\/F a=some (.dK kvs)):Le F (fz F a (.ay ob (.dK kvs))):=λb u n h=>by
 by_cases e:b=a
 .subst e;rcases d with d |d
  .rcases h with h |⟨o,h⟩<;>(rw[d] at h;cases h)
  .rcases h with h |⟨o,h⟩
   .rw[d] at h;cases h;refine .inr ⟨ob,?_⟩;rw[gH,if_neg (by rw[d];intro z;cases z)]
   .rw[d] at h;cases h
 .rcases h with h |⟨o,h⟩
  .exact .inl (by rw[eM e];exact h)
  .exact .inr ⟨o,by rw[eM e];exact h⟩
theorem Ql{Fb Hb F H j m:Hp}{S:af->Prop}{R:Hp->Prop}(A:Gr0 Fb Hb F H)(D:H a=some (.dK kvs))(i:F a=none\/F a=some (.dK kvs))(r:Gr0 (fz Fb a (.ay ob (.dK kvs))) (fz Hb a (.ay ob (.dK kvs))) j m)(y:j a=fz F a (.ay ob (.dK kvs)) a)(B:Fz (λb=>b=a\/S b) j)(h:∀g l:Hp,Gr0 Fb Hb g l->Fz S g->Le j g->g a=F a->l a=some (.dK kvs)->(∀b,b≠a->g b=j b)->(∀b,b≠a->l b=m b)->R l):R (aQ m a (.dK kvs)):=by
 have nn:j  a=none\/j a=some (.ay ob (.dK kvs)):=by
  rw[y,gH];split
  .exact .inl rfl
  .exact .inr rfl
 refine h (fz j a (.dK kvs)) (aQ m a (.dK kvs)) ⟨λb u e=>?_,λb u e=>?_,λb u e=>?_,λb u e q=>?_⟩ (λb o u e=>?_) (λb u n e=>?_) ?_ cq (λb d=>eM d) (λb d=>ba d)
 .by_cases d:b=a
  .subst d;rw[cq];have:=A.h _ _ e;rw[D] at this;exact this
  .rw[ba d];exact r.h b u (by rw[eM d];exact e)
 .by_cases d:b=a
  .subst d;have p:=A.f _ _ e;rcases i with i |i
   .rw[i] at p;cases p
   .rw[i] at p;have C:j b=some (.ay ob (.dK kvs)):=by rw[y,gH,if_neg (by rw[i];intro z;cases z)]
    rw[gH,if_neg (by rw[C];intro z;cases z)];exact p
  .rw[eM d];exact r.f b u (by rw[eM d];exact e)
 .by_cases d:b=a
  .subst d;rw[cq];exact (tD e).2
  .rw[eM d] at e;rw[ba d];exact r.s b u e
 .by_cases d:b=a
  .subst d;rw[gH] at e;split at e
   .cases e
   .rename_i hn;rw[y,gH] at hn;split at hn
    .exact absurd rfl hn
    .rename_i hf;obtain⟨w,E⟩:=Option.ne_none_iff_exists'.mp hf;exact A.n _ _ E q
  .rw[eM d] at e;have:=r.n b u e (by rw[eM d];exact q);rw[eM d] at this;exact this
 .by_cases d:b=a
  .subst d;cases (tD e).2
  .rw[eM d] at e;rcases B b o u e with x |x
   .exact absurd x d
   .exact x
 .by_cases d:b=a
  .subst d;rcases nn with nn |nn
   .rcases e with e |⟨o,e⟩<;>(rw[nn] at e;cases e)
   .rcases e with e |⟨o,e⟩
    .rw[nn] at e;cases e;exact absurd rfl (n _ _)
    .rw[nn] at e;cases e;refine .inl ?_;rw[gH,if_neg (by rw[nn];intro z;cases z)]
  .rcases e with e |⟨o,e⟩
   .exact .inl (by rw[eM d];exact e)
   .exact .inr ⟨o,by rw[eM d];exact e⟩
 .rw[gH,y,gH];rcases i with i |i<;>rw[i]
  .rfl
  .rfl
theorem tw{F:Hp}(c:Fz S0 F)(h:Rd F a (.dK kvs)):F a=some (.dK kvs):=by
 rcases h with h |⟨o,h⟩
 .exact h
 .exact (c _ _ _ h).elim
abbrev Rep(j:Type):=Hp->V->j->Prop
def r2(K:ao){j i:Type}(A:Rep j)(B:Rep i):Rep (j×i):=λF v x=>∃a b d,v=.ref a/\df K F a [b,d]/\A F b x.1/\B F d x.2
def r3(K:ao){j i G:Type}(A:Rep j)(B:Rep i)(C:Rep G):Rep (j×i×G):=λF v x=>∃a b d e,v=.ref a/\df K F a [b,d,e]/\A F b x.1/\B F d x.2.1/\C F e x.2.2
def r5(K:ao){j i G h l:Type}(A:Rep j)(B:Rep i)(C:Rep G)(D:Rep h)(E:Rep l):Rep (j×i×G×h×l):=λF v x=>∃a b d e f g,v=.ref a/\df K F a [b,d,e,f,g]/\A F b x.1/\B F d x.2.1/\C F e x.2.2.1/\D F f x.2.2.2.1/\E F g x.2.2.2.2
section
variable{α:Type}
def b9(m:List (Str×α))(k:Str):Option α:=(m.find? λp=>decide (p.1=k)).map (·.2)
def qL(m:List (Str×α))(k:Str)(y:α):List (Str×α):=if (m.any λp=>decide (p.1=k))=true then m.map (λp=>if p.1=k then (p.1,y) else p) else m++[(k,y)]
theorem EU(e:p.1=k):b9 (p::r) k=some p.2:=by simp[b9,find?_cons,e]
end
def bl(n:Nat):Nat:=if n=0 then 0 else Nat.log2 n+1
theorem jP:n<2 ^ k↔bl n<=k:=by
 unfold bl;by_cases h:n=0
 .subst h;simp[Nat.two_pow_pos]
 .rw[if_neg h,<- Nat.log2_lt h];omega
theorem oH(n:Nat):n<2 ^ bl n:=jP.mpr (le_refl _)
def bi(x:Int):Nat:=bl x.natAbs
def bs(q:Rat):Nat:=max (bl q.num.natAbs) (bl q.den)
theorem Wb(h:bs q<=n):Sm n q:=⟨jP.mpr (by unfold bs at h;omega),jP.mpr (by unfold bs at h;omega)⟩
theorem sq(h:Sm n q):bs q<=n:=by
 have a:=jP.mp h.1;have b:=jP.mp h.2;unfold bs;omega
theorem oS(q:Rat):Sm (bs q) q:=Wb (le_refl _)
theorem q4(a b:Rat):bs (a - b)<=bs a+bs b+1:=sq (N8 (oS a) (oS b))
theorem vt(a b:Rat):bs (a*b)<=bs a+bs b:=sq (bN (oS a) (oS b))
theorem jJ(a:Rat):bs (-a)<=bs a:=sq (SI (oS a))
theorem kZ:bs 0=1:=by decide +kernel
theorem dh(h:x.natAbs<2 ^ k):bi x<=k:=jP.mp h
theorem jr(h:bi x<=k):x.natAbs<2 ^ k:=jP.mpr h
theorem de(x y:Int):bi (x*y)<=bi x+bi y:=jP.mp (oo (oH _) (oH _))
theorem D0(x y:Int):bi (x+y)<=max (bi x) (bi y)+1:=by
 have a:x.natAbs<2 ^ (max (bi x) (bi y)):=lt_of_lt_of_le (oH _) (Nat.pow_le_pow_right (by decide) (Nat.le_max_left _ _));have b:y.natAbs<2 ^ (max (bi x) (bi y)):=lt_of_lt_of_le (oH _) (Nat.pow_le_pow_right (by decide) (Nat.le_max_right _ _));exact jP.mp (Wo a b)
theorem y7(x y:Int):bi (x - y)<=max (bi x) (bi y)+1:=by
 have a:x.natAbs<2 ^ (max (bi x) (bi y)):=lt_of_lt_of_le (oH _) (Nat.pow_le_pow_right (by decide) (Nat.le_max_left _ _));have b:y.natAbs<2 ^ (max (bi x) (bi y)):=lt_of_lt_of_le (oH _) (Nat.pow_le_pow_right (by decide) (Nat.le_max_right _ _));exact jP.mp (Fg a b)
theorem iu(q:Rat):bi q.num<=bs q:=by unfold bi bs;omega
theorem fM(q:Rat):bi (q.den:Int)<=bs q:=by unfold bi bs;rw[natAbs_natCast];omega
theorem kD(h:b≠0)(a:bi t<=k)(d:bi b<=k):bs (Rat.divInt t b)<=k:=sq (vb h (jr a) (jr d))
theorem Ll(a:bi x<=60000000)(b:bi y<=60000000):j4 x y:=.inr ⟨60000000,le_refl _,jr a,jr b⟩
theorem vg(h0:y≠0)(h1:bi y<=8000):dN x y:=⟨h0,jr h1⟩
def kl(K:ao)(H:Hp)(x:V)(t:ai):Prop:=dY K H x t\/(t=.type "tuple"/\∃a d,x=.ref a/\df K H a d)\/(t=.type "list"/\∃a d,x=.ref a/\bE K H a d)\/(t=.type "dict"/\∃a b,x=.ref a/\Rd H a (.dK b))
section
variable{K:ao}{H:Hp}
theorem Sv(h:df K H a xs):kl K H (.ref a) (.type "tuple"):=.inr (.inl ⟨rfl,a,xs,rfl,h⟩)
theorem Vb(h:bE K H a xs):kl K H (.ref a) (.type "list"):=.inr (.inr (.inl ⟨rfl,a,xs,rfl,h⟩))
theorem KH(h:Rd H a (.dK kvs)):kl K H (.ref a) (.type "dict"):=.inr (.inr (.inr ⟨rfl,a,kvs,rfl,h⟩))
theorem Lg:kl K H (.int i) (.type "int"):=.inl (.int i)
theorem SR:kl K H (.str i) (.type "str"):=.inl (.str i)
theorem U8:kl K H (.bl i) (.type "bool"):=.inl (.bl i)
theorem KC:kl K H .aL (.type "NoneType"):=.inl .aL
end
section
open PySem.Spec PyProof.Rows
variable{X:Cx}
theorem II:bK X (.builtin "isinstance") (λxs H Q=>∃x c t b u,xs=[x,c]/\kl X.K H x t/\sf c=some u/\W.kitOne X.K t u=some b/\Q (.bl b) H):=by
 intro aa s j H xs us Q I r h;obtain⟨x,c,t,b,u,rfl,ty,d,e,q⟩:=h;rcases ty with ty |⟨rfl,a,D,rfl,l⟩ |⟨rfl,a,D,rfl,l⟩ |⟨rfl,a,A,rfl,l⟩
 .exact QQ aa s j H [x,c] us Q I r ⟨x,c,t,b,u,rfl,ty,d,e,q⟩
 all_goals
  obtain⟨v,C,rfl,B,m⟩:=Ck r;have y:C=u:=by
   cases c with
   |ref a=>cases d;exact m
   |ty n=>cases d;exact m
   |aL=>cases d
   |bl n=>cases d
   |int i=>cases d
   |str i=>cases d
   |gc i=>cases d
   |kW i=>cases d
  subst y;cases (show v=Value.ref a from B)
 .obtain⟨bo,_,p,_⟩:=I.tuple l;obtain⟨o,f,g,_⟩:=p;exact W.kia_one W.kitx_tuple I.cJ ⟨o,f,g⟩ e (λz=>nomatch z) λw=>⟨.bl b,H,I.tok w,rfl,q⟩
 .obtain⟨bo,_,p,_⟩:=I.list l;obtain⟨o,f,g,_⟩:=p.isList;exact W.kia_one W.kitx_list I.cJ ⟨o,f,g⟩ e (λz=>nomatch z) λw=>⟨.bl b,H,I.tok w,rfl,q⟩
 .obtain⟨_,_,vs,_,p⟩:=jy I.aN l;obtain⟨o,G,E,f,g,_⟩:=p;exact W.kia_one W.kitx_dict I.cJ ⟨o,f,g.1⟩ e (λz=>nomatch z) λw=>⟨.bl b,H,I.tok w,rfl,q⟩
end
def sgn(z:Str)(i:Int):Str:=⟨#[z.cps.toList.getD i.toNat 0]⟩
section
variable{X:Cx}{aa:aV}{σ:St}{F H:Hp}{s:ak}{Au:Around}
theorem Uc:∀{x y:V}{u:ai},aE x u->aE y u->x=y:=by
 intro x y u b a;cases x<;>cases y<;>simp only[aE] at b a<;>first
  |rfl
  |(subst b;simp at a;subst a;rfl)
  |(subst b;simp at a;done)
  |(obtain⟨t,rfl⟩:=b;obtain⟨d,e⟩:=a;simp at e;rw[e.1])
  |(obtain⟨t,rfl⟩:=b;simp at a;done)
  |(obtain⟨t,rfl⟩:=a;simp at b;done)
theorem xx:∀{xs ys:aw}{us:aM},aI xs us->aI ys us->xs=ys
 |[],[],_,_,_=>rfl
 |_::_,_::_,_,.cons h t,.cons h' t'=>by rw[Uc h h',xx t t']
 |[],_::_,_,h,h'=>by cases h;cases h'
 |_::_,[],_,h,h'=>by cases h';cases h
theorem Q2(I:au X aa σ H s)(h:df X.K H a xs)(i:df X.K H a ys):xs=ys:=by
 obtain⟨us,r1,⟨p,g,l,n,f⟩,_⟩:=I.tuple h;obtain⟨j,r2,⟨q,d,m,o,b⟩,_⟩:=I.tuple i;rw[g] at d;cases d;rw[f] at b;injection b with e _
 have:us=j:=by simpa using e
 subst this;exact xx r1 r2
theorem Kd(I:au X aa σ H s)(h:bE X.K H a xs)(i:bE X.K H a ys):xs=ys:=by
 obtain⟨us,r1,p1,_⟩:=I.list h;obtain⟨j,r2,p2,_⟩:=I.list i;obtain⟨p,g,l,n,f⟩:=p1.isList;obtain⟨q,d,m,o,b⟩:=p2.isList;rw[g] at d;cases d;rw[f] at b;injection b with e _
 have:us=j:=by simpa using e
 subst this;exact xx r1 r2
theorem zt(I:au X aa σ H s)(f:df X.K H a xs)(g:df X.K H b ys)(q:Au.units<cLine)(D:xs.length=ys.length)(e:Nat->Bool)(he:∀(j:Nat) x y u v,xs[j]?=some x->ys[j]?=some y->aE x u->aE y v->SeqAt.EqAt Au.in1 s u v (e j)):SeqAt.RcAt Au s (.ref a) (.ref b) ((List.range xs.length).all e):=by
 obtain⟨us,r1,B,_⟩:=I.tuple f;obtain⟨d,r2,C,_⟩:=I.tuple g;have E:=r1.length;have G:=r2.length;have z:=SeqAt.RcAt.tuples (A:=Au) (e:=e) B C q (λj f g=>?_)
 .have e0:((List.range (min us.toArray.size d.toArray.size)).all e&&us.toArray.size == d.toArray.size)=(List.range xs.length).all e:=by
   simp only[size_toArray];have h:min us.length d.length=xs.length:=by omega
   have l:(us.length == d.length)=true:=by simp;omega
   rw[h,l,Bool.and_true]
  rw[e0] at z;exact z
 .simp only[size_toArray] at f g;obtain⟨u,h,r⟩:=r1.get (i:=j) (x:=xs[j]'(by omega)) (by simp);obtain⟨v,l,w⟩:=r2.get (i:=j) (x:=ys[j]'(by omega)) (by simp);obtain⟨_,m⟩:=List.getElem?_eq_some_iff.mp h;obtain⟨_,n⟩:=List.getElem?_eq_some_iff.mp l;have o:us.toArray[j]'(by simpa using f)=u:=by simpa using m
  have p:d.toArray[j]'(by simpa using g)=v:=by simpa using n
  rw[o,p];exact he j _ _ u v (by simp) (by simp) r w
theorem D8(I:au X aa σ H s)(d:bE X.K H a xs)(f:bE X.K H b ys)(p:Au.units<cLine)(E:xs.length=ys.length)(e:Nat->Bool)(he:∀(j:Nat) x y u v,xs[j]?=some x->ys[j]?=some y->aE x u->aE y v->SeqAt.EqAt Au.in1 s u v (e j)):SeqAt.RcAt Au s (.ref a) (.ref b) ((List.range xs.length).all e):=by
 obtain⟨us,r1,B,_⟩:=I.list d;obtain⟨D,r2,C,_⟩:=I.list f;have q:=r1.length;have G:=r2.length;have z:=SeqAt.RcAt.lists (A:=Au) (e:=e) B.isList C.isList (by simp;omega) p (λj d f=>?_)
 .have e0:(List.range us.toArray.size).all e=(List.range xs.length).all e:=by
   simp only[size_toArray];rw[<- q]
  rw[e0] at z;exact z
 .simp only[size_toArray] at d f;obtain⟨u,g,r⟩:=r1.get (i:=j) (x:=xs[j]'(by omega)) (by simp);obtain⟨v,h,w⟩:=r2.get (i:=j) (x:=ys[j]'(by omega)) (by simp);obtain⟨_,l⟩:=List.getElem?_eq_some_iff.mp g;obtain⟨_,m⟩:=List.getElem?_eq_some_iff.mp h;have n:us.toArray[j]'(by simpa using d)=u:=by simpa using l
  have o:D.toArray[j]'(by simpa using f)=v:=by simpa using m
  rw[n,o];exact he j _ _ u v (by simp) (by simp) r w
end
theorem Oa(r1:aE (.int i) u)(r2:aE (.int j) v):SeqAt.EqAt Au s u v (decide (i=j)):=by
 have z:=pz (A:=Au) (s:=s) r1 r2 rfl rfl;have e:iR (.int i) (.int j)=decide (i=j):=by show (i == j)=_;rw[Bool.beq_eq_decide_eq]
 rw[e] at z;exact z
end Vc
namespace L2
open PySem PySem.Spec PyProof.Rows
def i1(env:Env)(cs:List (Str×af))(y:Str×NameKind):List (Str×af):=if (y.2 == .free)=true then (match env.cells.lookup y.1 with |some a=>(y.1,a)::cs |none=>cs) else cs
def jY(a:Scope)(env:Env):List (Str×af):=a.names.foldl (i1 env) []
def jj(a:Scope)(env:Env):Bool:=a.names.all λy=>!(y.2 == .free) || (env.cells.lookup y.1).isSome
theorem FV(h:jj scope env=true):closureFor scope env=pure (jY scope env):=by
 unfold closureFor jY;unfold jj at h;have gen:∀(l:List (Str×NameKind))(b:List (Str×af)),(l.all λy=>!(y.2 == .free) || (env.cells.lookup y.1).isSome)=true->
   (forIn l b λx r=>match x with |(name,kind)=>if (kind == NameKind.free)=true then (do let a <- cellOf env name;pure (ForInStep.yield ((name,a)::r))) else pure (ForInStep.yield r):Sem (List (Str×af)))=pure (l.foldl (i1 env) b):=by
  intro l
  induction l with
  |nil=>intro b _;rfl
  |cons y r i=>
   intro b f;rw[all_cons,and_eq_true] at f;obtain⟨n,k⟩:=y;rw[List.forIn_cons,List.foldl_cons];by_cases d:(k == NameKind.free)=true
   .have h1:=f.1;simp only[d,Bool.not_true,Bool.false_or] at h1;obtain⟨a,e⟩:=Option.isSome_iff_exists.mp h1;have g:i1 env b (n,k)=(n,a)::b:=by unfold i1;simp[d,e]
    have j:cellOf env n=pure a:=by unfold cellOf;rw[e]
    rw[g,<- i _ f.2];simp only[d,if_true,j,pure_bind]
   .have g:i1 env b (n,k)=b:=by unfold i1;simp[d]
    rw[g,<- i _ f.2];simp only[d,if_false,pure_bind,Bool.false_eq_true]
 have:=gen scope.names [] h;simp only[this,pure_bind]
theorem ml(h:(jY scope env).lookup x=some c):env.cells.lookup x=some c:=by
 unfold jY at h;have gen:∀(l:List (Str×NameKind))(b:List (Str×af)),(b.lookup x=some c->env.cells.lookup x=some c)->(l.foldl (i1 env) b).lookup x=some c->env.cells.lookup x=some c:=by
  intro l
  induction l with
  |nil=>intro b f g;exact f g
  |cons y r i=>
   intro b f g;rw[List.foldl_cons] at g;refine i _ (λz=>?_) g;unfold i1 at z;split at z
   .split at z
    .rename_i a e;rw[lookup_cons] at z;by_cases d:(x == y.1)=true
     .rw[d] at z;have:=eq_of_beq d;subst this;simp at z;rw[<- z];exact e
     .simp only[d] at z;exact f z
    .exact f z
   .exact f z
 exact gen scope.names [] (λz=>by cases z) h
theorem AY(g:jj scope env=true)(h:scope.names.lookup x=some .free):∃c,(jY scope env).lookup x=some c:=by
 unfold jY;unfold jj at g;have keep:∀(l:List (Str×NameKind))(b:List (Str×af)),(∃c,b.lookup x=some c)->∃c,(l.foldl (i1 env) b).lookup x=some c:=by
  intro l
  induction l with
  |nil=>intro b f;exact f
  |cons y r i=>
   intro b f;rw[List.foldl_cons];refine i _ ?_;unfold i1;split
   .split
    .rw[lookup_cons];by_cases d:(x == y.1)=true
     .rw[d];exact⟨_,rfl⟩
     .simp only[d];exact f
    .exact f
   .exact f
 have gen:∀(l:List (Str×NameKind))(b:List (Str×af)),(l.all λy=>!(y.2 == .free) || (env.cells.lookup y.1).isSome)=true->l.lookup x=some .free->∃c,(l.foldl (i1 env) b).lookup x=some c:=by
  intro l
  induction l with
  |nil=>intro b _ f;cases f
  |cons y r i=>
   intro b g f;rw[all_cons,and_eq_true] at g;obtain⟨n,k⟩:=y;rw[List.foldl_cons];rw[lookup_cons] at f;by_cases d:(x == n)=true
   .rw[d] at f;have:=eq_of_beq d;subst this;simp at f;subst f;refine keep r _ ?_;have j:(env.cells.lookup x).isSome=true:=g.1;obtain⟨a,e⟩:=Option.isSome_iff_exists.mp j;refine⟨a,?_⟩;unfold i1;rw[if_pos (show ((NameKind.free) == NameKind.free)=true from rfl)];dsimp only;rw[e];dsimp only;rw[lookup_cons,d]
   .simp only[d] at f;exact i _ g.2 f
 exact gen scope.names [] g h
theorem G4(b:∀y∈a.names,y.2≠.cell)(h:(relabel a env).names.lookup x=some .cell\/(relabel a env).names.lookup x=some .free):a.names.lookup x=some .free:=by
 unfold relabel at h;dsimp only at h;have gen:∀l:List (Str×NameKind),(∀y∈l,y.2≠.cell)->((l.map λ(n,k)=>if (k == NameKind.free&&env.scope.kind == .function&&env.kindOf n == some .cell) then (n,NameKind.cell) else (n,k)).lookup x=some .cell\/(l.map λ(n,k)=>if (k == NameKind.free&&env.scope.kind == .function&&env.kindOf n == some .cell) then (n,NameKind.cell) else (n,k)).lookup x=some .free)->l.lookup x=some .free:=by
  intro l
  induction l with
  |nil=>intro _ f;rcases f with f |f<;>cases f
  |cons y r m=>
   intro g f;obtain⟨n,k⟩:=y;have i:k≠.cell:=g (n,k) (List.mem_cons_self ..);rw[map_cons] at f;rw[lookup_cons];by_cases d:(x == n)=true
   .rw[d];dsimp only at f ⊢;by_cases e:(k == NameKind.free&&env.scope.kind == .function&&env.kindOf n == some .cell)=true
    .have:k=.free:=by
      simp only[and_eq_true] at e;exact eq_of_beq e.1.1
     rw[this]
    .rw[if_neg e,lookup_cons,d] at f;simp only[Option.some.injEq] at f;rcases f with f |f
     .exact absurd f i
     .rw[f]
   .simp only[d];refine m (λy j=>g y (mem_cons_of_mem _ j)) ?_;dsimp only at f;split at f<;>(rw[lookup_cons] at f;simp only[d] at f;exact f)
 exact gen a.names b h
inductive Wk:St->St->Prop
 |nil:Wk [] []
 |aL {a b:St} {x:Option V}:Wk a b -> Wk (none::a) (x::b)
 |tG {a b:St} {v:V}:Wk a b -> Wk (some v::a) (some v::b)
theorem Wk.length(h:Wk a b):b.length=a.length:=by
 induction h with
 |nil=>rfl
 |aL _ d=>simp[d]
 |tG _ d=>simp[d]
theorem Wk.get(h:Wk a b):∀{i:Nat}{v:V},a[i]?=some (some v)->b[i]?=some (some v):=by
 induction h with
 |nil=>intro i v e;simp at e
 |aL _ d=>
  intro i v e;cases i with
  |zero=>simp at e
  |succ i=>simpa using d (i:=i) (v:=v) (by simpa using e)
 |tG _ d=>
  intro i v e;cases i with
  |zero=>simpa using e
  |succ i=>simpa using d (i:=i) (v:=v) (by simpa using e)
theorem xN:∀a:St,Wk a a
 |[]=>.nil
 |none::a=>.aL (xN a)
 |some _::a=>.tG (xN a)
def eV(ix:bG)(j:St):St:=ix.map λo=>match o with |none=>none |some i=>(j[i]?).getD none
def bM(X:Cx)(sc:Scope):aj->bG->Prop
 |[],[]=>True
 |_::N,none::ix=>bM X sc N ix
 |x::N,some i::ix=>X.N[i]? = some x /\ X.env.kindOf x=some .cell /\ sc.names.lookup x=some .free /\ bM X sc N ix
 |_,_=>False
theorem bM.length:∀{N:aj}{ix:bG},bM X sc N ix->ix.length=N.length
 |[],[],_=>rfl
 |_::N,none::ix,h=>by rw[length_cons,length_cons,bM.length (X:=X) (sc:=sc) (N:=N) (ix:=ix) h]
 |_::N,some i::ix,h=>by rw[length_cons,length_cons,bM.length (X:=X) (sc:=sc) (N:=N) (ix:=ix) h.2.2.2]
 |[],_::_,h=>h.elim
 |_::_,[],h=>h.elim
theorem bM.get:∀{N:aj}{ix:bG}{j:Nat}{x:Str}{v:V},bM X sc N ix->N[j]?=some x->(eV ix G)[j]?=some (some v)->∃i:Nat,X.N[i]?=some x/\X.env.kindOf x=some .cell/\sc.names.lookup x=some .free/\G[i]?=some (some v)
 |_::N,none::ix,0,x,v,h,e1,e2=>by simp[eV] at e2
 |_::N,none::ix,j + 1,x,v,h,e1,e2=>bM.get (N:=N) (ix:=ix) (j:=j) h (by simpa using e1) (by simpa [eV] using e2)
 |y::N,some i::ix,0,x,v,h,e1,e2=>by
  simp at e1;subst e1;refine⟨i,h.1,h.2.1,h.2.2.1,?_⟩;simp[eV] at e2;cases q:G[i]? with
  |none=>rw[q] at e2;simp at e2
  |some o=>rw[q] at e2;simp at e2;rw[e2]
 |y::N,some i::ix,j + 1,x,v,h,e1,e2=>bM.get (N:=N) (ix:=ix) (j:=j) h.2.2.2 (by simpa using e1) (by simpa [eV] using e2)
 |[],[],_,_,_,_,e1,_=>by simp at e1
 |[],_::_,_,_,_,h,_,_=>h.elim
 |_::_,[],_,_,_,h,_,_=>h.elim
theorem Kk(h:scope.names.lookup x=some .free):(relabel scope env).names.lookup x=some .cell\/(relabel scope env).names.lookup x=some .free:=by
 unfold relabel;dsimp only;have gen:∀l:List (Str×NameKind),l.lookup x=some .free->((l.map λ(n,k)=>if (k == NameKind.free&&env.scope.kind == .function&&env.kindOf n == some .cell) then (n,NameKind.cell) else (n,k)).lookup x=some .cell\/(l.map λ(n,k)=>if (k == NameKind.free&&env.scope.kind == .function&&env.kindOf n == some .cell) then (n,NameKind.cell) else (n,k)).lookup x=some .free):=by
  intro l
  induction l with
  |nil=>intro f;cases f
  |cons y r b=>
   intro f;obtain⟨n,k⟩:=y;rw[lookup_cons] at f;rw[map_cons];by_cases a:(x == n)=true
   .rw[a] at f;simp at f;subst f;dsimp only;split
    .left;rw[lookup_cons,a]
    .right;rw[lookup_cons,a]
   .simp only[a] at f;dsimp only;split<;>(rw[lookup_cons];simp only[a];exact b f)
 exact gen scope.names h
def cL(X:Cx)(a:Scope)(N:aj)(C:af)(s:ak)(H:Hp)(fp:cD)(pl:aV):Cx where
 prog:=X.prog
 w:=X.w
 K:=X.K
 mg:=X.mg
 base:=X.base
 A:=X.A
 N:=N
 s₀:=s
 H₀:=H
 env:=compEnvC a (jY a X.env) C X.env
 outer:=X.stack
 stack:=X.stack
 ex:=fp
 fn:=λ_=>false
 calm:=X.calm
 pn:=X.pn++pl
 xe:=λ_ _=>False
def nB(Y:Cx)(a:bH)(t:TT):Prop:=
 ∀(aa:aV)(s:ak)(j:St)(H:Hp)(Q:Bool->Hp->Prop),au Y aa j H s->t j H Q->
  wpAny (model Y.prog Y.w) Y.A (forIn a true λc r=>if r=true then do let ok <- isTrue c Y.env (eval c Y.env);pure (ForInStep.yield ok) else pure (ForInStep.yield r)) (TP Y aa j Q) Y.xe s
def DK:TT:=λ_ H Q=>Q true H
theorem RN:nB Y [] DK:=λ_ _ _ H _ I h=>wpAny_tests_nil ⟨H,I,h⟩
theorem DZ(h:PT Y c t):nB Y [c] t:=λaa s j H Q I q=>wpAny_tests_one (h aa s j H Q I q)
theorem HX{R:Result->ak->Prop}(I:Nat->ak->Prop)(turn:∀n s,I n s->wpAny (model prog w) A (pyNext it) (λr b=>match r with
   |none=>R (.ok .next) b
   |some v=>wpAny (model prog w) A (letOwnedTupleGo target it v) (λ_ s₀=>wpAny (model prog w) A (assign target env v) (λ_ i=>
     wpAny (model prog w) A (forIn ifs true λc r=>if r=true then do let ok <- isTrue c env (eval c env);pure (ForInStep.yield ok) else pure (ForInStep.yield r)) (λok d=>
      if ok=true then wpAny (model prog w) A (eval elt env) (λx j=>
       wpAny (model prog w) A (call (.builtin "list.append") [acc,x]) (λ_ l=>∃m,m<n/\I m l) (notedBy (model prog w) A env λe s'=>R (.error e) s') j) (notedBy (model prog w) A env λe s'=>R (.error e) s') d
      else ∃m,m<n/\I m d) (notedBy (model prog w) A env λe s'=>R (.error e) s') i) (notedBy (model prog w) A env λe s'=>R (.error e) s') s₀) (notedBy (model prog w) A env λe s'=>R (.error e) s') b) (notedBy (model prog w) A env λe s'=>R (.error e) s') s)(n:Nat)(h:I n s):codeAny (model prog w) A (.compLoop (.ListComp elt [⟨target,iter,ifs,0⟩] scope pos) 0 it acc env) R s:=by
 refine codeAny_loop rfl I (λn s y=>?_) n h;show wpAny _ A ((compTurn (.ListComp elt [⟨target,iter,ifs,0⟩] scope pos) 0 it acc env).onRaise (λx=>do noteFrame x env;theTreesLotGoes x)) _ _ s;refine wpAny_noted ?_;rw[compTurn_list];refine wpAny_bind (wpAny_standAt (wpAny_bind (wpAny_mono (turn n s y) (λr b f=>?_) λ_ _ a=>a)));cases r with
 |none=>exact wpAny_pure f
 |some v=>
  refine wpAny_bind (wpAny_mono f (λ_ s₀ o=>?_) λ_ _ a=>a);refine wpAny_bind (wpAny_mono o (λ_ i p=>wpAny_bind (wpAny_mono p (λok d g=>?_) λ_ _ a=>a)) λ_ _ a=>a);cases ok with
  |false=>exact wpAny_pure ⟨rfl,g⟩
  |true=>
   exact wpAny_bind (wpAny_bind (wpAny_mono g (λx j q=>wpAny_bind (wpAny_mono q (λ_ l u=>wpAny_pure (wpAny_pure ⟨rfl,u⟩)) λ_ _ a=>a)) λ_ _ a=>a))
section
variable{X:Cx}{aa:aV}{σ:St}{H:Hp}{s:ak}{scope:Scope}{N:aj}{fp:cD}{C:af}
theorem R8(I:au X aa σ H s)(l:s.heap.objs.size<=C)(i:∀b∈fp,gn X aa H b)(j:∀b∈fp,∃o,s.heap.get? b=some o)(f:scope.kind=.function)(d:∀y∈scope.names,y.2≠.cell)(g:jj scope X.env=true):
  (cL X scope N C s H fp aa).Ok where
 mod:=I.ok.mod
 kind:=f
 glob:=I.ok.glob
 blt:=I.ok.blt
 above:=l
 inj:=λx y c m n=>I.ok.inj x y c (ml m) (ml n)
 has:=λx h=>AY g (G4 d h)
 lq:=λx c h=>by cases h
 hd:=I.ok.hd
 frames:=I.ok.frames
 mQ:=.inl rfl
 lZ:=λb a=>⟨λz=>by obtain⟨o,e⟩:=j b a;have:=Heap.lt_size e;subst z;exact absurd (lt_of_lt_of_le this l) (lt_irrefl _),λx c e=>(i b a).2.2.2.2.1 x c (ml e)⟩
 bs:=I.bs
 jf:=le_trans I.ok.jf I.sz
 gw:=λb o e a=>by
  rcases (i b a).2.2.2.1 with z |z
  .exact I.ok.gw b o e z
  .exact absurd (lt_of_lt_of_le (Heap.lt_size e) (le_trans I.ok.jf z)) (lt_irrefl _)
 gv:=λb a hm=>by
  rcases mem_cons.mp (I.eY b hm) with z |z
  .exact (i b a).2.1 z
  .exact (i b a).2.2.1 z
 dz:=I.stack
 jU:=I.fU
theorem N3(I:au X aa σ H s)(ok:(cL X scope N C s H fp aa).Ok)(w:s.heap.objs.size<=C)(k:∀b o,s.heap.get? b=some o->h'.get? b=some o)(hn:h'.Ns C m)(g:bM X scope N ix)(a:jj scope X.env=true):
  au (cL X scope N C s H fp aa) [] (eV ix σ) H { s with heap:=h',toks:=t' } where
 ok:=ok
 os:=rfl
 bare:=I.bare
 base:=Un.kept k
 loc:=⟨m,hn,λi x v A B Q=>by
  obtain⟨L,D,y,f,l⟩:=g.get A B;obtain⟨U,_,G⟩:=I.loc;obtain⟨u,r,look⟩:=G L x v D l (.inr (.inl y));rcases look with⟨z,_⟩ |⟨_,c,E,o,h,hd⟩
  .rw[y] at z;cases z
  .obtain⟨c',hc'⟩:=AY a f;have e:=ml hc';rw[E] at e;cases e;exact⟨u,r,.inr ⟨Kk f,c,hc',o,k _ _ h,hd⟩⟩⟩
 cell:=λx c e=>by
  obtain⟨v,o,h,hd⟩:=I.cell x c (ml e);exact⟨v,o,k _ _ h,hd⟩
 free:=I.aN.fresh w
 bW:=λx c e=>I.bW x c (ml e)
 pin:=λp J=>by
  have j:p∈X.pn++aa:=by simpa [cL] using J
  obtain⟨e,n,ne,M,d⟩:=I.pin p j;refine⟨k _ _ e,n,λz=>?_,λz=>?_,d⟩
  .have:=Heap.lt_size e;have O:p.1=C:=z;rw[O] at this;exact absurd (lt_of_lt_of_le this w) (lt_irrefl _)
  .rcases mem_cons.mp (I.eY p.1 z) with q |q
   .exact ne q
   .exact M q
 aN:=I.aN.kept k
 len:=by
  have:=g.length;simp[eV,cL,this]
theorem Ik{h:Hp}(I:au X aa σ H s)(J:au (cL X scope N C s H fp aa) pl σ' h s')(j:D=s.heap.objs.size)(f:∀b∈fp,gn X aa H b)(m:s'.heap.PlainList D bo.toArray)(p:aI acc bo)(hz:acc.length<=sizeLine)(hn:h D=none):au X aa σ (aQ h D (.ag acc)) s':=by
 have i:∀b o,s.heap.get? b=some o->b≠D:=λb o e z=>by rw[z,j] at e;exact absurd (Heap.lt_size e) (lt_irrefl _)
 have a:H D=none:=I.aN.fresh (by rw[j];exact le_refl _);refine I.eB (ch:=fp) J.os ⟨J.base.keep,J.base.slot,λb o e n r=>?_,J.base.there,λb l e=>?_,λb o u e=>?_,λb w e=>?_⟩ (λb u e=>?_) J.bare λb d=>⟨(f b d).2.2.2.1,(f b d).2.1,(f b d).2.2.2.2.1,(f b d).2.2.2.2.2⟩
 .rw[ba (i b o e)];exact J.base.free b o e n r
 .rw[ba (iW e a)];exact J.base.e5 b l e
 .rw[ba (iW e a)];exact J.base.bp b o u e
 .obtain⟨mo,e2⟩:=J.base.e8 b w e;exact⟨mo,by rw[ba (iW e a)];exact e2⟩
 .by_cases d:b=D
  .subst d;rw[cq] at e;cases e;obtain⟨n,g⟩:=m;exact⟨hz,bo,n,p,g⟩
  .rw[ba d] at e;exact (J.aN b u e).eI (λ_ _ _ q=>q) (λc q=>by rw[ba (iW q hn)];exact q) λc l q=>by rw[ba (iW q hn)];exact q
end
def oW(u:TI)(g:TG)(s:TT)(r:TE)(ix:bG):TE:=λj H Q=>u j H λJ n=>∃W:Nat->Nat->aw->Hp->Prop,(∃m,W 0 m [] n)/\∀i m a H,W i m a H->
 (J.stop i H/\a.length<=sizeLine/\∀p,H p=none->Q (.ref p) (aQ H p (.ag a)))\/
 (J.go i H/\∃N:aw->Hp->Prop,(∀d e,N d e->∃l,l<m/\W (i+1) l d e)/\∀x e,J.kK i H x e->g x (eV ix j) e λf o=>Wk (eV ix j) f/\s f o λb h=>if b=true then r f h λv q=>a.length<sizeLine/\N (a++[v]) q else N a h)
section
variable{X:Cx}{elt target iter:Expr}{ifs:bH}{scope:Scope}{pos:Pos}{N:aj}{ix:bG}{wi:TI}{g:TG}{ti:TT}{te:TE}
theorem DO{Q:VK}{RR:ai->af->Result->ak->Prop}{tn:Nat->aT->Prop}(hc:X.calm=true)(hg:∀C s H fp pl,PG (cL X scope N C s H fp pl) target g)(ht:∀C s H fp pl,nB (cL X scope N C s H fp pl) ifs ti)(he:∀C s H fp pl,PE (cL X scope N C s H fp pl) elt te)(ε:scope.kind=.function)(δ:∀y∈scope.names,y.2≠.cell)(π:jj scope X.env=true)(hpk:bM X scope N ix)(I2:au X aa j O a)(T:kd X.prog X.w X.K target J fp it tn)(st2:tn 0 a.heap)(f2:∀b∈fp,gn X aa O b)(h:∃W:Nat->Nat->aw->Hp->Prop,(∃m,W 0 m [] O)/\∀i m f H,W i m f H->
   (J.stop i H/\f.length<=sizeLine/\∀p,H p=none->Q (.ref p) (aQ H p (.ag f)))\/
   (J.go i H/\∃N:aw->Hp->Prop,(∀ξ M,N ξ M->∃m',m'<m/\W (i+1) m' ξ M)/\∀x M,J.kK i H x M->g x (eV ix j) M λj2 O=>Wk (eV ix j) j2/\ti j2 O λb H3=>if b=true then te j2 H3 λv H4=>f.length<sizeLine/\N (f++[v]) H4 else N f H3))(hR:∀(D C:af)(s':ak)(M:Hp)(m:bu),au X aa j M s'->s'.heap.Ns C m->M C=none->a.heap.objs.size<=C->Q (.ref D) M->RR (.ref D) C (.ok .next) s'):
  wpAny (model X.prog X.w) X.A (newList []) (λf U=>wpAny (model X.prog X.w) X.A (newFunctionEnv scope X.env.globals (jY scope X.env) [] X.env.qual none .none (some X.env)) (λο s₄=>
   codeAny (model X.prog X.w) X.A (.compStart (.ListComp elt [⟨target,iter,ifs,0⟩] scope pos) 0 (.ref it) f { ο with scope:=relabel scope X.env }) (RR f ο.locals) s₄) E U) E a:=by
 obtain⟨W,⟨m0,w0⟩,turn⟩:=h;refine wpAny_newObj_type (wpAny_newFunctionEnv δ (by intro y hy;simp at hy) (λβ L G=>?_) ε);dsimp only at L G ⊢;generalize τ:a.heap.push { cls:=.type "list",dict:=none,data:=.seq ([]:aM).toArray }=P2 at L G ⊢;have hC:P2.objs.size=a.heap.objs.size+1:=by rw[<- τ,Heap.size_push]
 have κ:a.heap.objs.size≠P2.objs.size:=by rw[hC];exact ne_of_lt (Nat.lt_succ_self _)
 have γ:a.heap.objs.size<=P2.objs.size:=by rw[hC];exact Nat.le_succ _
 have Y:∀b,b<a.heap.objs.size->b≠P2.objs.size/\b≠a.heap.objs.size:=λb l=>⟨by rw[hC];exact ne_of_lt (lt_succ_of_lt l),ne_of_lt l⟩
 have old:∀b o,a.heap.get? b=some o->β.get? b=some o:=λb o e=>G.extBut b o (Y b (Heap.lt_size e)).1 (Heap.get?_push_of_some _ (τ ▸ Heap.get?_push_of_some _ e))
 have hacc:β.PlainList a.heap.objs.size #[]:=⟨_,G.extBut _ _ κ (Heap.get?_push_of_some _ (τ ▸ Heap.get?_push_size _ rfl))⟩
 have hfo:∀b∈fp,∃o,a.heap.get? b=some o:=λb l=>let ⟨o,e,_⟩:=T.obj 0 _ st2 b l;⟨o,e⟩
 have υ:a.heap.objs.size ∉ fp:=λhm=>by obtain⟨o,e⟩:=hfo _ hm;exact absurd (Heap.lt_size e) (lt_irrefl _)
 have ok:=R8 (N:=N) (C:=P2.objs.size) I2 γ f2 hfo ε δ π;have st1:tn 0 β:=T.keep 0 _ _ st2 λb _ o e=>old b o e
 have J0:=N3 (t':=a.toks+([]:List (Str×ai)).length) (ix:=ix) I2 ok γ old L hpk π;have pnD:∀p∈X.pn++aa,p.1≠a.heap.objs.size:=λp hp=>(Y _ (Heap.lt_size (I2.pin p hp).1)).2
 have σ:∀x c,(jY scope X.env).lookup x=some c->c≠a.heap.objs.size:=λx c e=>by
  obtain⟨v,o,ho,_⟩:=I2.cell x c (ml e);exact (Y _ (Heap.lt_size ho)).2
 have θ:∀{pl:aV}{M:Hp},(∀b∈fp,M b=none)->(∀p∈pl,p.1=a.heap.objs.size)->∀b∈fp,gn (cL X scope N P2.objs.size a O fp aa) pl M b:=λ{pl M} hn hp b l=>by
  refine⟨hn b l,(ok.lZ b l).1,ok.gv b l,.inl l,(ok.lZ b l).2,λp hm=>?_⟩;rcases mem_append.mp hm with z |z
  .exact (f2 b l).2.2.2.2.2 p z
  .rw[hp p z];intro q;rw[q] at υ;exact υ l
 have ρ:∀U:Shared,U={ a with heap:=β,toks:=a.toks+([]:List (Str×ai)).length }->
   codeAny (model X.prog X.w) X.A (.compLoop (.ListComp elt [⟨target,iter,ifs,0⟩] scope pos) 0 (.ref it) (.ref a.heap.objs.size) (compEnvC scope (jY scope X.env) P2.objs.size X.env)) (RR (.ref a.heap.objs.size) P2.objs.size) U:=by
  rintro U rfl;refine HX (λn s'=>∃i f I j' M,au (cL X scope N P2.objs.size a O fp aa) [] j' M s'/\Wk (eV ix j) j'/\tn i s'.heap/\(∀b∈fp,M b=none)/\s'.heap.PlainList a.heap.objs.size (List.toArray I)/\aI f I/\M a.heap.objs.size=none/\W i n f M) ?_ m0
   ⟨0,[],[],_,O,J0,xN _,st1,λb l=>(f2 b l).1,hacc,.nil,I2.aN.fresh (le_refl _),w0⟩
  rintro n s3 ⟨i,f,I,j3,H3,I3,wk3,st3,ω,pl3,ν,χ,w3⟩;obtain⟨kk,g3⟩:=id pl3;have ψ:au (cL X scope N P2.objs.size a O fp aa) [(a.heap.objs.size,⟨.type "list",none,.seq (List.toArray I) kk,#[]⟩)] j3 H3 s3:=I3.eL λp hp=>by
   have e:=mem_singleton.mp hp;subst e;refine⟨g3,χ,κ,λz=>?_,λv q=>by cases q⟩;obtain⟨_,o,ho,_⟩:=(I2.stack).mem z;exact absurd (Heap.lt_size ho) (lt_irrefl _)
  have α:∀p∈[((a.heap.objs.size,⟨.type "list",none,.seq (List.toArray I) kk,#[]⟩):af×Obj)],p.1=a.heap.objs.size:=λp hp=>by
   rw[mem_singleton.mp hp]
  rcases turn i n f H3 w3 with⟨stop,hlen,fin⟩ |⟨go,NN,hNN,step⟩
  .refine wpAny_mono (T.done (cL X scope N P2.objs.size a O fp aa) rfl rfl rfl hc i _ s3 j3 H3 _ ψ (θ ω α) st3 stop) (λr s4 h4=>?_) λ_ _ z=>z
   obtain⟨hr,I4⟩:=h4;subst hr;have g4:=(I4.pin (a.heap.objs.size,_) (mem_append_right _ (mem_singleton.mpr rfl))).1;obtain⟨mm,hnm,_⟩:=I4.loc;have B:=Ik I2 I4 rfl f2 ⟨kk,g4⟩ ν hlen χ;refine hR _ _ s4 _ mm B hnm ?_ γ (fin _ χ);rw[ba (Ne.symm κ)];exact I4.free
  .refine wpAny_mono (T.item (cL X scope N P2.objs.size a O fp aa) rfl rfl rfl hc i _ s3 j3 H3 _ ψ (θ ω α) st3 go) (λr s4 h4=>?_) λ_ _ z=>z
   obtain⟨u,hr,h4⟩:=h4;subst hr;refine wpAny_mono h4 (λ_ s5 h5=>?_) λ_ _ z=>z
   obtain⟨x,H5,I5,r5,y5,μ,fr5⟩:=h5;have I5w:=I5.weak wk3.length.symm (λi v e=>wk3.get e);have I5':=I5w.pinned (fp:=fp) (θ fr5 α) (T.obj _ _ μ);refine wpAny_mono (hg P2.objs.size a O fp aa _ s5 _ H5 x u _ I5' r5 (step x H5 y5)) (λ_ s6 h6=>?_) λ_ _ z=>z.elim
   obtain⟨j6,H6,I6,wk6,q6⟩:=h6;refine wpAny_mono (ht P2.objs.size a O fp aa _ s6 j6 H6 _ I6 q6) (λok s7 h7=>?_) λ_ _ z=>z.elim
   obtain⟨H7,I7,q7⟩:=h7;have η:∀{j8:St}{H8:Hp}{s8:ak},au (cL X scope N P2.objs.size a O fp aa) ([((a.heap.objs.size,⟨.type "list",none,.seq (List.toArray I) kk,#[]⟩):af×Obj)]++pY fp s5.heap) j8 H8 s8->
     (∀b∈fp,∀o,s5.heap.get? b=some o->s8.heap.get? b=some o)/\(∀b∈fp,H8 b=none):=λ{j8 H8 s8} I8=>by
    refine⟨λb l o e=>(I8.pin (b,o) (mem_append_right _ (mem_append_right _ (rb l e)))).1,λb l=>?_⟩;obtain⟨o,e,d⟩:=T.obj _ _ μ b l;exact (I8.pin (b,o) (mem_append_right _ (mem_append_right _ (rb l e)))).2.1
   have ι:∀{j8:St}{H8:Hp}{s8:ak}{pl:aV},au (cL X scope N P2.objs.size a O fp aa) pl j8 H8 s8->au (cL X scope N P2.objs.size a O fp aa) [] j8 H8 s8:=λI8=>I8.eL λp hp=>by cases hp
   cases ok with
   |false=>
    simp only[Bool.false_eq_true,if_false] at q7 ⊢;obtain⟨m',hm,w7⟩:=hNN _ _ q7;have p7:=I7.pin (a.heap.objs.size,_) (mem_append_right _ (List.mem_append_left _ (mem_singleton.mpr rfl)));obtain⟨k1,k2⟩:=η I7;exact⟨m',hm,i+1,f,I,j6,H7,ι I7,wk6,T.keep _ _ _ μ k1,k2,⟨kk,p7.1⟩,ν,p7.2.1,w7⟩
   |true=>
    simp only[if_true] at q7 ⊢;refine wpAny_mono (he P2.objs.size a O fp aa _ s7 j6 H7 _ I7 q7) (λy s8 h8=>?_) λ_ _ z=>z.elim
    obtain⟨v,H8,I8,r8,hlt,q8⟩:=h8;obtain⟨m',hm,w8⟩:=hNN _ _ q8;have p8:=I8.pin (a.heap.objs.size,_) (mem_append_right _ (List.mem_append_left _ (mem_singleton.mpr rfl)));obtain⟨k1,k2⟩:=η I8;have hl:=ν.length;refine wpAny_list_append_plain (items:=List.toArray I) (hsz:=by rw[size_toArray,<- hl];exact Nat.le_of_lt hlt) ⟨kk,p8.1⟩ λh₅ φ ζ=>?_
    have I9:au (cL X scope N P2.objs.size a O fp aa) [] j6 H8 { s8 with heap:=h₅ }:=(ι I8).turned (t':=s8.toks) (it:=a.heap.objs.size) (λb o l e=>ζ.extBut b o l e) p8.2.1 κ (.inr (le_refl _)) σ (λp hp=>by
     have hp':p∈X.pn++aa:=by simpa [cL] using hp
     exact pnD p hp')
    refine⟨m',hm,i+1,f++[v],I++[y],j6,H8,I9,wk6,T.keep _ _ _ μ λb l o e=>ζ.extBut b o (λz=>υ (z ▸ l)) (k1 b l o e),k2,?_,ν.append (.cons r8 .nil),p8.2.1,w8⟩;have e:(I++[y]).toArray=I.toArray.push y:=by simp
    rw[e];exact φ
 exact codeAny_compStart_list (ρ _ rfl) (T.self X.A 0 _ _ _ st1 (ρ _ rfl))
theorem Dm(hc:X.calm=true)(hi:PI X target iter wi)(hg:∀C s H fp pl,PG (cL X scope N C s H fp pl) target g)(ht:∀C s H fp pl,nB (cL X scope N C s H fp pl) ifs ti)(he:∀C s H fp pl,PE (cL X scope N C s H fp pl) elt te)(z:bM X scope N ix)(a:scope.kind=.function:=by rfl)(l:∀y∈scope.names,y.2≠.cell:=by decide)(f:∀x∈scope.names,x.2=.local->scope.names.lookup x.1=some .local:=by decide)(i:jj scope X.env=true:=by rfl)(hs:∀x,foldedSetIterable iter X.env x=pure x:=by intro _;rfl):PE X (.ListComp elt [⟨target,iter,ifs,0⟩] scope pos) (oW wi g ti te ix):=by
 intro aa s j H Q I h;rw[eval_ListComp];refine wpAny_comprehension_free (use:=none) rfl hs (FV i) a f ?_;refine bh (hi aa s j H _ I h) λv s1 O=>bh O λα s2 U=>?_
 obtain⟨it,fp,tn,J,H2,e,n,T,G,M,h⟩:=U;subst e;refine DO (RR:=λr C=>compPost (model X.prog X.w) X.A X.xe none (EP X aa j Q) r C) hc hg ht he a l i z n T G M h ?_;intro D C s' L m B hn u d q;refine⟨m,hn,λh' E=>⟨.ref D,L,B.turned (t':=s'.toks) (it:=C) (λb o Y e=>E.extBut b o Y e) u (Nat.ne_of_gt (lt_of_lt_of_le n.lt d)) (.inr (le_trans n.sz d)) (λx c e=>?_) (λp hp=>?_),rfl,q⟩⟩
 .obtain⟨v,o,ho,_⟩:=n.cell x c e;exact ne_of_lt (lt_of_lt_of_le (Heap.lt_size ho) d)
 .exact ne_of_lt (lt_of_lt_of_le (Heap.lt_size (n.pin p hp).1) d)
theorem Jl(hN:X.N.Nodup)(β:X.N[i]?=some y)(hy:Loc X.env.scope y)(hc:X.calm=true)(hi:PI X target iter wi)(hg:∀C s H fp pl,PG (cL X scope N C s H fp pl) target g)(ht:∀C s H fp pl,nB (cL X scope N C s H fp pl) ifs ti)(he:∀C s H fp pl,PE (cL X scope N C s H fp pl) elt te)(M:bM X scope N ix)(α:swapsWith (.ListComp elt [⟨target,iter,ifs,0⟩] scope pos) (some (.Name y py)) spos.line X.env=pure true:=by with_unfolding_all rfl)(d:scope.kind=.function:=by rfl)(r:∀y∈scope.names,y.2≠.cell:=by decide)(l:∀x∈scope.names,x.2=.local->scope.names.lookup x.1=some .local:=by decide)(n:jj scope X.env=true:=by rfl)(hs:∀x,foldedSetIterable iter X.env x=pure x:=by intro _;rfl)(hf:ke X y:=by first |exact .inl rfl |exact .inr rfl |assumption):PS X (.Assign [.Name y py] (.ListComp elt [⟨target,iter,ifs,0⟩] scope pos) spos) (kI (oW wi g ti te ix) (jb i)):=by
 intro aa s j H D I h;rw[exec_Assign_Name_used _ _ _ _ α];refine wpAny_bind (wpAny_standAt (wpAny_bind ?_));show wpAny _ X.A (do let _ <- comprehension (.ListComp elt [⟨target,iter,ifs,0⟩] scope pos) scope X.env _ (newList []) false (eval iter X.env) (some (assign (.Name y py) X.env))) _ _ s;refine wpAny_bind (wpAny_mono (wpAny_comprehension_free (use:=some (assign (.Name y py) X.env)) (Q:=λ_ E=>SP X aa D .next E) rfl hs (FV n) d l ?_) (λ_ E hq=>wpAny_pure (wpAny_pure hq)) λ_ _ e=>e);refine bh (hi aa s j H _ I h) λv s1 h1=>bh h1 λδ s2 h2=>?_
 obtain⟨it,fp,tn,J,H2,e,u,T,γ,f2,h⟩:=h2;subst e;refine DO (Q:=λx H1=>jb i x j H1 D.nx) (RR:=λG C=>compPost (model X.prog X.w) X.A X.xe (some (assign (.Name y py) X.env)) (λ_ E=>SP X aa D .next E) G C) hc hg ht he d r n M u T γ f2 h ?_;intro Dd C E H' m B hn L f q;show wpAny _ X.A (assign (.Name y py) X.env (.ref Dd)) _ _ _;have cC:∀x c,X.env.cells.lookup x=some c->c≠C:=λx c e=>by
  obtain⟨v,o,ho,_⟩:=u.cell x c e;exact ne_of_lt (lt_of_lt_of_le (Heap.lt_size ho) f)
 have lC:X.env.locals≠C:=ne_of_lt (lt_of_lt_of_le u.lt f);refine wpAny_assign_Name (BN (v:=.ref Dd) B hN β hy rfl (λs4 I4 Y=>?_) hf);obtain⟨a,U,ha⟩:=Y;have nC:C≠a:=by
  rcases ha with z |z
  .rw[z];exact Ne.symm lC
  .exact Ne.symm (cC _ _ z)
 refine⟨m,hn.sameBut U nC,λh' O=>⟨_,H',I4.turned (t':=s4.toks) (it:=C) (λb o hb e=>O.extBut b o hb e) L (Ne.symm lC) (.inr (le_trans u.sz f)) cC (λp hp=>?_),q⟩⟩;exact ne_of_lt (lt_of_lt_of_le (Heap.lt_size (u.pin p hp).1) f)
end
section
variable{g:TG}{ti:TT}{te:TE}{ix:bG}{σ:St}{Q:VK}
def zx(J:It)(g:TG)(ti:TT)(te:TE)(ix:bG)(σ:St)(Q:VK)(l:Hp):Prop:=∃W:Nat->Nat->aw->Hp->Prop,(∃m,W 0 m [] l)/\∀i m a H,W i m a H->
 (J.stop i H/\a.length<=sizeLine/\∀p,H p=none->Q (.ref p) (aQ H p (.ag a)))\/
 (J.go i H/\∃N:aw->Hp->Prop,(∀d f,N d f->∃j,j<m/\W (i+1) j d f)/\∀x f,J.kK i H x f->g x (eV ix σ) f λe n=>Wk (eV ix σ) e/\ti e n λb h=>if b=true then te e h λv o=>a.length<sizeLine/\N (a++[v]) o else N a h)
theorem DT(Pv:Nat->aw->Hp->Prop)(u:Pv 0 [] H1)(j:∀i a H,i<n->Pv i a H->J.go i H)(l:∀a H,Pv n a H->J.stop n H)(hs:∀i x a H h,i<n->Pv i a H->J.kK i H x h->g x (eV ix σ) h λf r=>Wk (eV ix σ) f/\ti f r λb o=>if b=true then te f o λv s=>a.length<sizeLine/\Pv (i+1) (a++[v]) s else Pv (i+1) a o)(hd:∀a H,Pv n a H->a.length<=sizeLine/\∀p,H p=none->Q (.ref p) (aQ H p (.ag a))):zx J g ti te ix σ Q H1:=by
 refine⟨λi m a H=>m=n - i/\i<=n/\Pv i a H,⟨n,by simp,zero_le _,u⟩,?_⟩;rintro i m a H ⟨rfl,z,p⟩;by_cases d:i<n
 .exact .inr ⟨j i a H d p,Pv (i+1),λq h w=>⟨n - (i+1),by omega,rfl,d,w⟩,λx h y=>hs i x a H h d p y⟩
 .have e:i=n:=by omega
  subst e;exact .inl ⟨l a H p,hd a H p⟩
end
section
variable{X:Cx}
def C3:V->bI->bI->Hp->VK->Prop:=λx lo a H Q=>∃z,x=.str z/\z.length<=sizeLine/\Q (.str (Txt.slice z lo a)) H
theorem Tp:lR X C3:=by
 intro aa s G H x v vl y lo o w Q I r d p m h;obtain⟨z,rfl,e,q⟩:=h;obtain⟨t,rfl⟩:=(show ∃t,v=Value.str z t from r);refine⟨"str",_,F.slot_str_getitem.lookup,typeIs_str _ _ _,?_⟩;have a:∀(g:Tok)(k:Nat),EP X aa G Q (.str (Txt.slice z lo o) g) { s with toks:=k }:=λg k=>⟨.str _,H,I.tok k,⟨g,rfl⟩,q⟩
 cases p with
 |none=>
  cases m with
  |none=>exact wpAny_getItem_str_slice (l:=none) (u:=none) (st:=none) d rfl (post_val_or_str ⟨le_trans (Txt.slice_le z _ _) e,λb k=>a b k⟩)
  |int j f=>exact wpAny_getItem_str_slice (l:=none) (u:=some (j,f)) (st:=none) d rfl (post_val_or_str ⟨le_trans (Txt.slice_le z _ _) e,λb k=>a b k⟩)
 |int i n=>
  cases m with
  |none=>exact wpAny_getItem_str_slice (l:=some (i,n)) (u:=none) (st:=none) d rfl (post_val_or_str ⟨le_trans (Txt.slice_le z _ _) e,λb k=>a b k⟩)
  |int j f=>exact wpAny_getItem_str_slice (l:=some (i,n)) (u:=some (j,f)) (st:=none) d rfl (post_val_or_str ⟨le_trans (Txt.slice_le z _ _) e,λb k=>a b k⟩)
end
def ur(lo c:Int)(n:Nat):It:=⟨λi _=>i<n,λi H x a=>a=H/\x=.int (lo+i*c),λi _=>n<=i⟩
theorem Sj{P:Program}{w:World}{K:PySem.W.Frag}{M:Expr}(it:af)(lo c:Int)(n:Nat):kd P w K M (ur lo c n) [it] it (λi h=>IsRangeIter h it (lo+(i:Nat)*c) ((n:Int) - (i:Nat)) c) where
 mem:=by simp
 obj:=λi h st b a=>by
  have e:b=it:=by simpa using a
  subst e;exact⟨_,st,λv z=>by
   have N:Data.fields _=Data.cell v:=z;cases N⟩
 keep:=λi h f st k=>k it (by simp) _ st
 item:=by
  intro X x B u y i aa s j H E I g st A;subst x B u;obtain⟨l,m,G,p,q,r⟩:=g it (by simp);have W:=Walks.range (prog:=X.prog) (w:=X.w) (I.ok.hd y) it lo c n;refine W.item i s _ _ A st λv f C J d L=>?_
  obtain⟨t,rfl⟩:=J;have D:au X aa j H { s with heap:=f,toks:=C }:=I.turned (λb o a e=>L b o (by simpa using a) e) l m p q r;exact⟨_,rfl,sv (s:={ s with heap:=f,toks:=C }) (n:="range_iterator") d rfl rfl (by decide) ⟨.int (lo+i*c),H,D,⟨t,rfl⟩,⟨rfl,rfl⟩,d,λb a=>(g b a).1⟩⟩
 done:=by
  intro X x B u y i aa s j H E I g st A;subst x B u;obtain⟨l,m,G,p,q,r⟩:=g it (by simp);exact wpAny_pyNext_range_end (I.ok.hd y) st (by have:n<=i:=A;omega) λf eb=>⟨rfl,I.turned (t':=s.toks) (λb o a e=>eb b o a e) l m p q r⟩
 self:=λ_ _ _ _ _ st h=>wpAny_pyIter_rangeiter st h
def Cn(_:af)(_:aT):Prop:=True
section
variable{M:Model}{A:Around}{E:ai->ak->Prop}{s:ak}{base:aT}{env:Env}{outer:cz}{L e:af}
theorem IZ{a a0:ai}{Q:Unit->ak->Prop}(fr:A.frames=some (env::outer))(d:s.heap.FunFrames base (env::outer))(f:env.frame=some L)(t:s.heap.TracedW base e a a0)(i:base.StaysIn s.heap)(b:base.get? e=none)(c:Cn e s.heap)(h:∀k,Heap.LeftW base (env::outer) e a a0 s.heap k->Cn e k->Q () { s with heap:=k }):wpAny M A (leaving env (.ref e)) Q E s:=
 wpAny_leaving_nextW fr d f t i b λk g=>h k g trivial
theorem FQ{o:Obj}{vs:dm}{a0:ai}{Q:Unit->ak->Prop}(fr:A.frames=some (env::outer))(b:s.heap.FunFrames base (env::outer))(d:env.frame=some L)(he:s.heap.get? e=some o)(j:base.StaysIn s.heap)(a:base.get? e=none)(hd:o.data=.fields vs)(g:vs[1]?=some .none)(f:vs[0]?=some a0)(l:vs[2]?=some .none)(h:∀k,Heap.LeftW base (env::outer) e o.cls a0 s.heap k->Cn e k->Q () { s with heap:=k }):wpAny M A (leaving env (.ref e)) Q E s:=
 wpAny_leaving_firstW fr b d he j a hd g f λk i=>h k i trivial
end
def nX(d h:aT)(H:Hp)(x:af)(a:ai):Prop:=
 d.get? x=none/\H x=none/\∃f b vs T oT e,d.get? T=none/\H T=none/\h.get? x=some b/\b.cls=a/\vs[0]?=some f/\b.data=.fields vs/\vs[1]?=some (.ref T)/\T≠x/\h.get? T=some oT/\oT.data=.fields e/\e[3]?=some .none/\Cn x h
def fj(P:Program)(w:World):fB:=λouter H s E e b=>∃x a d,e=.ref x/\b.os=s.os/\AllBare b.gens/\Un (cB outer) [] H d s.heap b.heap/\dk P w d b.heap/\nX s.heap b.heap d x a/\E a none d
theorem a6.has(x:a6 P w H h a o):∃u,h.get? a=some u:=by
 cases o with
 |ag d=>obtain⟨_,_,_,_,e⟩:=x;exact⟨_,e⟩
 |aG d=>obtain⟨_,_,_,u,e,_⟩:=x;exact⟨_,e⟩
 |dK b=>obtain⟨_,_,_,_,u,_,_,e,_⟩:=x;exact⟨_,e⟩
 |dT b=>obtain⟨_,_,_,_,u,_,_,e,_⟩:=x;exact⟨_,e⟩
 |set S n=>obtain⟨u,_,_,_,e,_⟩:=x;exact⟨_,e⟩
 |ins C g fs=>obtain⟨_,_,_,e,_⟩:=x;exact⟨_,e⟩
 |own y=>exact x
 |xd fs=>obtain⟨_,⟨u,_,_,e,_⟩,_⟩:=x;exact⟨_,e⟩
 |je lo i=>obtain⟨_,_,_,e⟩:=x;exact⟨_,e⟩
 |ay j u=>obtain⟨e,_⟩:=x;exact⟨_,e⟩
 |k8 l=>exact⟨_,x⟩
 |met f y=>exact⟨_,x⟩
 |ext m=>exact x.2.1
theorem z8{P:Program}{w:World}{fs fr l bad:cD}{H a:Hp}{h i j:aT}(u:Un fs [] H a h i)(aN:dk P w a i)(M:∀b∈l,b∈bad\/b∈fr)(E:∀b∈bad,h.get? b=none/\a b=none)(m:∀b∈fr,(b∈fs\/h.get? b=none)/\a b=none/\∃o,i.get? b=some o/\∀vs,o.data≠.fields vs)(I:∀b∈fs,b∈fr)(k:(W.hideAll i l).StaysIn j)(sm:i.UpToSlots j):
  Un fs [] H a h j/\dk P w a j/\∀x s a0,j.TracedW (W.hideAll i l) x s a0->Cn x j->h.get? x=none->a x=none->nX h j a x s:=by
 have gt:∀b o,i.get? b=some o->b ∉ bad->b ∉ fr->j.get? b=some o:=λb o e Q U=>k b o (W.hideAll_get _ e λz=>(M b z).elim Q U)
 have N:∀b o,h.get? b=some o->b ∉ bad:=λb o e z=>by rw[(E b z).1] at e;cases e
 have slots:∀b o,b∈fr->i.get? b=some o->∃C,j.get? b=some { o with slots:=C }:=λb o g e=>by
  obtain⟨_,_,y,f,d⟩:=m b g;rw[e] at f;cases f;exact sm b o e d
 have tr:∀b u,a b=some u->b ∉ bad/\b ∉ fr:=λb u e=>⟨λz=>(by rw[(E b z).2] at e;cases e),λz=>(by rw[(m b z).2.1] at e;cases e)⟩
 refine⟨⟨λb o e n g p=>?_,λb o e n g p=>?_,λb o e n p=>u.free b o e n p,λb o e p=>?_,u.e5,u.bp,u.e8⟩,λb v e=>?_,λx s a0 O G p D=>?_⟩
 .refine gt b o (u.keep b o e n g p) (N b o e) λz=>?_
  rcases (m b z).1 with q |q
  .exact g q
  .rw[e] at q;cases q
 .obtain⟨C,e1⟩:=u.slot b o e n g p;obtain⟨J,A⟩:=slots b _ (I b g) e1;exact⟨J,A⟩
 .obtain⟨y,e1⟩:=u.there b o e p;by_cases g:b∈fr
  .obtain⟨C,A⟩:=slots b y g e1;exact⟨_,A⟩
  .exact⟨y,gt b y e1 (N b o e) g⟩
 .refine (aN b v e).eI (λc o B q=>?_) (λ_ q=>q) λ_ _ q=>q
  rcases B with rfl |B
  .exact gt c o q (tr c v e).1 (tr c v e).2
  .exact gt c o q (tr c _ B).1 (tr c _ B).2
 .obtain⟨oe,vs,T,oT,ts,t1,⟨t2,t3⟩,t4,t5,t6,t7,t8,t9,t10⟩:=O;have L:h.get? T=none/\a T=none:=by
   cases q:i.get? T with
   |none=>
    refine⟨?_,?_⟩
    .cases r:h.get? T with
     |none=>rfl
     |some o=>obtain⟨y,f⟩:=u.there T o r (by simp);rw[q] at f;cases f
    .cases r:a T with
     |none=>rfl
     |some v=>obtain⟨y,f⟩:=(aN T v r).has;rw[q] at f;cases f
   |some o=>
    by_cases hm:T∈l
    .rcases M T hm with z |z
     .exact E T z
     .obtain⟨C,A⟩:=slots T o z q;obtain⟨_,_,y,f,d⟩:=m T z;rw[q] at f;cases f;rw[t8] at A;cases A;exact absurd t9 (d ts)
    .have:=W.hideAll_get _ q hm;rw[t6] at this;cases this
  exact⟨p,D,a0,oe,vs,T,oT,ts,L.1,L.2,t1,t2,t3,t4,t5,t7,t8,t9,t10,G⟩
theorem nX.jF{H:Hp}(f:nX h0 h H x cls):∃T a0,h0.get? T=none/\H T=none/\∀l:cD,T∈l->h.TracedW (W.hideAll h l) x cls a0:=by
 obtain⟨_,_,a0,e,vs,T,oT,s,g,i,j,m,n,o,p,q,r,a,b,_⟩:=f;exact⟨T,a0,g,i,λl d=>⟨e,vs,T,oT,s,j,⟨m,n⟩,o,p,W.hideAll_none _ d,q,r,a,b⟩⟩
theorem nX.cn{H:Hp}(f:nX h0 h H x cls):Cn x h:=by
 obtain⟨_,_,d,e,vs,T,oT,r,g,i,j,l,m,n,o,p,q,a,b,c⟩:=f;exact c
section
variable{X:Cx}{aa:aV}{σ:St}{H:Hp}{s:ak}
theorem rA:∀env∈l,∀a,env.frame=some a->a∈cB l:=λenv b a d=>mem_filterMap.mpr ⟨env,b,d⟩
theorem au.Fi(I:au X aa σ H s):∀b∈cB X.stack,(b∈X.fs\/X.s₀.heap.get? b=none)/\H b=none/\∃o,s.heap.get? b=some o/\∀vs,o.data≠.fields vs:=λb a=>by
 refine⟨?_,I.fU b a,(I.stack.mem a).2⟩;rcases mem_cons.mp (I.eY b a) with e |e
 .exact .inr (by rw[e];exact Heap.get?_none_of_le I.ok.above)
 .exact .inl e
theorem wU{E:XK}{x:af}{a:ai}(hs:X.stack=X.env::X.outer)(n:X.env.frame=some X.env.locals)(i:X.ex=[])(I:au X aa σ H s){l bad:cD}{d:aT}(o:∀b∈l,b∈bad\/b∈cB X.stack)(g:∀b∈bad,X.s₀.heap.get? b=none/\H b=none)(k:(W.hideAll s.heap l).StaysIn d)(sm:s.heap.UpToSlots d){a0:ai}(ht:d.TracedW (W.hideAll s.heap l) x a a0)(h:Cn x d)(p:X.s₀.heap.get? x=none)(f:H x=none)(e:E a none H):fj X.prog X.w X.outer X.H₀ X.s₀ E (.ref x) { s with heap:=d }:=by
 have j:=I.base;rw[i] at j;obtain⟨u,ok,m⟩:=z8 j I.aN o g I.Fi (λb g=>by rw[hs];unfold cB;rw[List.filterMap_cons,n];exact mem_cons_of_mem _ g) k sm;exact⟨x,a,H,rfl,I.os,I.bare,u,ok,m x a a0 ht h p f,e⟩
def nE(X:Cx)(E:XK):Prop:=X.xe=λe d=>wpAny (model X.prog X.w) X.A (leaving X.env e) (λ_ a=>fj X.prog X.w X.outer X.H₀ X.s₀ E e a) (λb a=>fj X.prog X.w X.outer X.H₀ X.s₀ E b a) d
theorem JO{E:XK}(hs:X.stack=X.env::X.outer)(h:X.env.frame=some X.env.locals)(g:X.ex=[])(n:nE X E):l7 (fj X.prog X.w) X E:=by
 intro aa σ H s e r I D;obtain⟨x,y,u,rfl,os,bare,un,aN,d,A⟩:=D;have J:au X aa σ u r:=I.eB (ch:=[]) os un aN bare (λb z=>absurd z (by simp));have up:∀b,s.heap.get? b=none->X.s₀.heap.get? b=none:=λb z=>by
  cases q:X.s₀.heap.get? b with
  |none=>rfl
  |some o=>obtain⟨U,p⟩:=I.base.there b o q (by rw[g];simp);rw[z] at p;cases p
 obtain⟨T,O,i,C,m⟩:=d.jF;rw[n];have l:∀env∈X.env::X.outer,∀a,env.frame=some a->a∈x::T::cB X.stack:=λenv G a h=>.tail _ (.tail _ (by rw[hs];exact rA env G a h))
 refine IZ (base:=W.hideAll r.heap (x::T::cB X.stack)) (by rw[J.ok.frames,hs]) (W.funFrames_hide (hs ▸ J.stack) l) h (m _ (.tail _ (.head _))) (λb o q=>W.of_hideAll _ q)
  (W.hideAll_none _ (.head _)) d.cn λQ B j=>?_
 obtain⟨L,_,M,N⟩:=B;exact wU hs h g J (bad:=[x,T]) (λb f=>by
  rcases mem_cons.mp f with z |f
  .exact .inl (by rw[z];exact .head _)
  .rcases mem_cons.mp f with z |f
   .exact .inl (by rw[z];exact .tail _ (.head _))
   .exact .inr f) (λb f=>by
  rcases mem_cons.mp f with z |f
  .rw[z];exact⟨up _ d.1,d.2.1⟩
  .have z:b=T:=by simpa using f
   rw[z];exact⟨up _ i,C⟩) L N M j (up _ d.1) d.2.1 A
end
theorem Hy{K:ao}{h:aT}{C:af}{a:aM}{newId:String}(X:K.In h)(q:W.excIn K C a newId=true):
  ∃bm N nm f bs hd sn sub ab col dd k0 k1 k2 k3 k5 mN,h.get? C=some (excClassObj nm f C N bs bm hd sn sub ab col dd k0 k1 k2 k3 k5 newId)/\h.Ns N mN/\mN "__init__"=none/\OwnTail h a bm:=by
 unfold W.excIn at q;split at q
 case h_2=>cases q
 case h_1 ddc cdc slc hlook=>
  split at q
  case h_2=>cases q
  case h_1 Cc bmc k0 k1 k2 k3 nn k5 hmro hslots=>
   simp only[and_eq_true,beq_iff_eq,Bool.not_eq_true'] at q;obtain⟨⟨⟨⟨⟨i,j⟩,d⟩,l⟩,b⟩,e⟩:=q;obtain⟨nm,bs,m,ns,f,hd,sn,sub,ab,col,g⟩:=cdc;dsimp only at hmro d b e;obtain⟨n⟩:=slc;simp only at hslots;subst i j d hmro hslots;exact⟨_,_,_,_,_,_,_,_,_,_,_,_,_,_,_,_,_,X _ _ hlook,.of_isNs (W.isNs_of_in X b),W.nsMap_none_of_in X b e,W.tail_of_in X l⟩
def Bi(C:af)(E:XK)(b:TE):TS:=λ_ j H=>b j H λ_ a=>E (.ref C) none a
section
variable{X:Cx}
theorem Qa{E:XK}{x:Str}{np g pos:Pos}{f:Expr}{te:TE}{C:af}{B newId i:String}{n:aM}(hs:X.stack=X.env::X.outer)(L:X.env.frame=some X.env.locals)(A:X.ex=[])(α:nE X E)(m:X.calm=true)(hg:Gl X x)(hm:X.mg x=some (.ref C))(FB:ExcBaseFacts B newId i n)(hq:W.excIn X.K C n newId=true)(he:PE X f te)(Q:du x:=by decide)(G:dH f [] X.env:=by rfl)(hpl:fk g [] X.env:=by rfl):
  PS X (.Raise (some (.Call (.Name x np) [f] [] g)) none pos) (Bi C E te):=by
 intro aa s j H D I h;obtain⟨bm,N,nm,qn,bs,hd,sn,sub,ab,col,dd,k0,k1,k2,k3,k5,mN,hC,hN,Y,T⟩:=Hy I.ok.mod.ky hq;refine wpAny_Raise_call_subT (C:=C) (nm:=nm) (q:=qn) (N:=N) (bs:=bs) (bm:=bm) (hdct:=hd) (sn:=sn) (sub:=sub) (ab:=ab) (col:=col) (dd:=dd) (k0:=k0) (k1:=k1) (k2:=k2) (k3:=k3) (k5:=k5)
  FB (mN:=mN) (T.hasType FB.hasBase) (I.ok.hd m) (by rw[G];show (false || (backTo g (starEach [] X.env)).any (·.1))=false;rw[hpl];rfl) Y (lL I hg hm ⟨rfl,?_⟩ Q)
 rw[G];refine Calls.evalArgs_plain ?_;refine Calls.spliced_cons ?_;refine bh (he aa s j H _ I h) λu s1 β=>?_
 obtain⟨v,M,l,_,q1⟩:=β;refine Calls.spliced_nil ?_;refine⟨rfl,by show (1:Nat)<=sizeLine;decide,l.bk _ _ hC,hN.keeps l.bk,T.keeps l.bk,λh' e d=>?_⟩;obtain⟨t,ht,γ,δ⟩:=d.there;have J:au X aa j M { s1 with heap:=h' }:=l.eB (ch:=[]) rfl (Un.kept d.keeps) (l.aN.kept d.keeps) l.bare (λb z=>absurd z (by simp));have up:∀b,s1.heap.get? b=none->X.s₀.heap.get? b=none:=λb z=>by
  cases q:X.s₀.heap.get? b with
  |none=>rfl
  |some o=>obtain⟨o',p⟩:=l.base.there b o q (by rw[A];simp);rw[z] at p;cases p
 have w:M e=none:=by
  cases r:M e with
  |none=>rfl
  |some v=>obtain⟨o',p⟩:=(l.aN e v r).has;rw[d.new] at p;cases p
 rw[α];have U:∀env∈X.env::X.outer,∀a,env.frame=some a->a∈e::cB X.stack:=λenv he a L=>.tail _ (by rw[hs];exact rA env he a L)
 refine FQ (base:=W.hideAll h' (e::cB X.stack)) (a0:=.ref t) (by rw[J.ok.frames,hs]) (W.funFrames_hide (hs ▸ J.stack) U) L ht (λb o q=>W.of_hideAll _ q)
  (W.hideAll_none _ (.head _)) rfl rfl rfl rfl λh2 hL O=>?_
 obtain⟨l1,_,l3,l4⟩:=hL;exact wU hs L A J (bad:=[e]) (λb y=>by
  rcases mem_cons.mp y with z |y
  .exact .inl (by rw[z];exact .head _)
  .exact .inr y) (λb y=>by
  have z:b=e:=by simpa using y
  rw[z];exact⟨up _ d.new,w⟩) l1 l4 l3 O (up _ d.new) w q1
end
section
variable{P:Program}{w:World}{K:ao}{mg:bu}{base:aT}
theorem gM.yh{x a:Str}{st:Stmt}{f:af}{h:FuncData}{N g:aj}{k:Nat}{sp:Sp}(F:gM K x a st f h)(S:bS N g (bD st))(len:∀vs H Q E,sp vs H Q E->vs.length=g.length)(b:∀(a7:ai)(A:Around)(outer:cz)(s:ak)(H:Hp)(vs:aw)(Q:VK)(E:XK),bw k (A.deeper (envOfC a (bD st) s.heap.objs.size f a7))->sp vs H Q E->
   ∃t,fA (i2 (fj P w) P w K mg base N a (bD st) f a7 A outer s H E) (i9 st) t/\t { nx:=λ_ i=>Q .aL i,rt:=Q } (start N vs) H):aK P w K mg base (fj P w) (k+1) f h g sp:=by
 obtain⟨oc,od,kV,doc,pm,an,a7,ct,osl,rfl,l,d⟩:=F.ex;exact Bo l d S len λA outer s H vs Q E j e=>b a7 A outer s H vs Q E j e
end
section
variable{X:Cx}
def iZ(CX:fB)(X:Cx)(j:St)(E:XK):Prop:=∀(aa:aV)(H:Hp)(s:ak)(e:ai)(a:ak),au X aa j H s->CX X.stack H s E e a->X.xe e a
def Eo(sp:Sp)(a:aw)(R:St->XK)(t:TA):TE:=λj H Q=>t j H λvs b=>sp (vs++a) b Q (R j)
variable{CX:fB}{k:Nat}{f:af}{fd:FuncData}{ps:aj}{sp:Sp}{dvs:aw}{ds:aM}{x:Str}{p pos:Pos}{e:Expr}{es:bH}{t:TA}
theorem vr(F:aK X.prog X.w X.K X.mg X.base CX k f fd ps sp)(g:bw k X.A)(b:Binds X.K fd ps ds)(hd:aI dvs ds)(i:iZ CX X j E)(I:au X aa j H s)(r:aI vs us)(h:sp (vs++dvs) H Q E):wpAny (model X.prog X.w) X.A (call (.ref f) us) (EP X aa j Q) X.xe s:=by
 have r2:=r.append hd;have d:(us++ds).length=ps.length:=r2.length ▸ F.len _ _ _ _ h;refine wpAny_call (codeAny_mono (F.run X.A X.stack s H ⟨us,[]⟩ (us++ds) (vs++dvs) Q E g I.kX (b s us I.cJ d) r2 h) λr l a=>?_)
 match r,a with
 |.error e,a=>exact i aa H s e l I a
 |.ok (.ret u),a=>exact I.after a
 |.ok .next,a=>exact a.elim
 |.ok .brk,a=>exact a.elim
 |.ok .cont,a=>exact a.elim
theorem Qc{R:St->XK}(F:aK X.prog X.w X.K X.mg X.base CX k f fd ps sp)(n:bw k X.A)(l:Gl X x)(hm:X.mg x=some (.ref f))(m:W.keepIn X.K (.ref f)=true)(i:Binds X.K fd ps ds)(hd:aI dvs ds)(o:∀j,iZ CX X j (R j))(g:PA X (e::es) t)(a:du x:=by decide)(he:dH e es X.env:=by rfl)(hpl:fk pos es X.env:=by rfl):PE X (.Call (.Name x p) (e::es) [] pos) (Eo sp dvs R t):=by
 intro aa s j H Q I h;refine wpAny_Call_Name_kw (lL I l hm ?_ a);exact W.callWith_K (h₀:=X.base) I.ok.mod.ky m (bh (g pos aa s j H _ I h) λus y b=>by obtain⟨vs,u,d,r,q⟩:=b;exact⟨d.cJ,vr F n i hd (o j) d r q⟩) he hpl
abbrev Cx.cR(X:Cx)(pn:aV)(xe:ai->ak->Prop):Cx:={ X with pn:=pn,xe:=xe }
theorem Cx.Ok.cR(ok:X.Ok)(pn:aV)(xe:ai->ak->Prop):(X.cR pn xe).Ok:=
 ⟨ok.mod,ok.kind,ok.glob,ok.blt,ok.above,ok.inj,ok.has,ok.lq,ok.hd,ok.frames,ok.mQ,ok.lZ,ok.bs,ok.jf,ok.gw,ok.gv,ok.dz,ok.jU⟩
theorem au.qD(I:au X aa j H s)(xe:ai->ak->Prop):au (X.cR (X.pn++aa) xe) [] j H s:=
 ⟨I.ok.cR _ xe,I.os,I.bare,I.base,I.loc,I.cell,I.free,I.bW,by rw[append_nil];exact I.pin,I.aN,I.len⟩
theorem au.ir(ok:X.Ok)(I:au (X.cR (X.pn++aa) xe) more j H s):au X aa j H s:=
 ⟨ok,I.os,I.bare,I.base,I.loc,I.cell,I.free,I.bW,λp a=>I.pin p (List.mem_append_left _ a),I.aN,I.len⟩
abbrev Cx.bQ(X:Cx)(v:ai):Cx:={ X with A:=X.A.mark (some v),calm:=false,xe:=λ_ _=>False }
theorem au.bQ(I:au X aa j H s)(v:ai):au (X.bQ v) aa j H s:=
 ⟨⟨I.ok.mod,I.ok.kind,I.ok.glob,I.ok.blt,I.ok.above,I.ok.inj,I.ok.has,I.ok.lq,λz=>Bool.noConfusion z,I.ok.frames,I.ok.mQ,I.ok.lZ,I.ok.bs,I.ok.jf,I.ok.gw,I.ok.gv,I.ok.dz,I.ok.jU⟩,
  I.os,I.bare,I.base,I.loc,I.cell,I.free,I.bW,I.pin,I.aN,I.len⟩
theorem au.hU(ok:X.Ok)(I:au (X.bQ v) aa j H s):au X aa j H s:=
 ⟨ok,I.os,I.bare,I.base,I.loc,I.cell,I.free,I.bW,I.pin,I.aN,I.len⟩
theorem SP.imp(q:SP Y pins' D fl s)(h:∀j H,au Y pins' j H s->au X aa j H s):SP X aa D fl s:=by
 cases fl with
 |next=>obtain⟨b,a,I,q⟩:=q;exact⟨b,a,h _ _ I,q⟩
 |brk=>obtain⟨b,a,I,q⟩:=q;exact⟨b,a,h _ _ I,q⟩
 |cont=>obtain⟨b,a,I,q⟩:=q;exact⟨b,a,h _ _ I,q⟩
 |ret u=>obtain⟨v,b,a,I,r,q⟩:=q;exact⟨v,b,a,h _ _ I,r,q⟩
def Er(K:ao)(C:af)(b:TS)(D:g9):St->XK:=λj a _ H=>W.exmOne K a (.ref C)=some true/\b D j H
def FK(K:ao)(C:af)(tb:(St->XK)->TS)(a:TS):TS:=λD j H=>tb (Er K C a D) D j H
theorem K2{tb:(St->XK)->TS}(hs:X.stack=X.env::X.outer)(hf:X.env.frame=some X.env.locals)(hg:Gl X x)(hm:X.mg x=some (.ref C))(d:∀(pn:aV)(xe:ai->ak->Prop)(R:St->XK),(∀j,iZ (fj X.prog X.w) (X.cR pn xe) j (R j))->fA (X.cR pn xe) body (tb R))(hh:∀v:Value,fA (X.bQ v) (g::suite) th)(ε:du x:=by decide):
  PS X (.Try body [.ExceptHandler (some (.Name x np)) none (g::suite) hpos] [] [] pos) (FK X.K C tb th):=by
 intro aa s j H D I h;refine wpAny_Try_except ?_;have G:∀n,iZ (fj X.prog X.w) (X.cR (X.pn++aa) λe O=>wpAny (model X.prog X.w) X.A (noteFrame e X.env) (λ_ Q=>wpAny (model X.prog X.w) X.A (setFlight e none)
   (λ_ U=>wpAny (model X.prog X.w) X.A (handleBy e X.env [.ExceptHandler (some (.Name x np)) none (g::suite) hpos]) (SP X aa D) X.xe U) X.xe Q) X.xe O) n (Er X.K C th D n):=by
  intro n μ H1 s1 e r I1 hc;obtain⟨y,α,H2,rfl,os,bare,un,aN,l,E,ι⟩:=hc;have J1:au X aa n H1 s1:=au.ir I.ok I1;have J2:au X aa n H2 r:=J1.eB (ch:=[]) os un aN bare (λb z=>absurd z (by simp));obtain⟨T,a0,δ,hT,κ⟩:=l.jF;have ζ:∀env∈X.env::X.outer,∀a,env.frame=some a->a∈y::T::cB X.stack:=λenv he a hf=>.tail _ (.tail _ (by rw[hs];exact rA env he a hf))
  have β:Heap.FlyingW (W.hideAll r.heap (y::T::cB X.stack)) (X.env::X.outer) y α a0 r.heap:=
   ⟨λb o q=>W.of_hideAll _ q,W.hideAll_none _ (.head _),W.funFrames_hide (hs ▸ J2.stack) ζ,κ _ (.tail _ (.head _))⟩
  have after:∀B:Heap,(W.hideAll r.heap (y::T::cB X.stack)).StaysIn B->r.heap.UpToSlots B->au X aa n H2 { r with heap:=B }:=λB k sm=>by
   obtain⟨u,ok,_⟩:=z8 (fs:=cB X.stack) (fr:=cB X.stack) (bad:=[y,T]) un aN (λb d=>by
    rcases mem_cons.mp d with z |d
    .exact .inl (by rw[z];exact .head _)
    .rcases mem_cons.mp d with z |d
     .exact .inl (by rw[z];exact .tail _ (.head _))
     .exact .inr d) (λb d=>by
    rcases mem_cons.mp d with z |d
    .rw[z];exact⟨l.1,l.2.1⟩
    .have z:b=T:=by simpa using d
     rw[z];exact⟨δ,hT⟩) (λb d=>⟨.inl d,(J2.Fi b d).2⟩) (λ_ d=>d) k sm
   exact J1.eB (s':={ r with heap:=B }) (ch:=[]) os u ok bare (λb z=>absurd z (by simp))
  refine wpAny_looks_onW (by rw[I.ok.frames,hs]) hf β λh4 m L=>?_
  refine wpAny_landsW m λh5 i N=>?_
  have J5:=after h5 i.1 (L.trans N);refine wpAny_handleBy_cons (codeAny_handlers_test ?_) (by intro q;cases q);have M5:=J5.bQ (.ref y);refine lL (X:=X.bQ (.ref y)) M5 hg hm ?_ ε;obtain⟨ob,η,θ⟩:=i.there;subst θ;refine (W.exm_one (M:=model X.prog X.w) J5.cJ ((W.Looks.ld η).andThen .now) E).here ?_;refine codeAny_handlers_suite (lands_againW i λh6 γ ν=>?_);have J6:=(after h6 γ.1 ((L.trans N).trans ν)).bQ (.ref y);exact wpAny_mono (hh (.ref y) aa _ n H2 D J6 ι) (λfl s7 q=>q.imp λj H J=>au.hU I.ok J) λ_ _ z=>z.elim
 refine wpAny_mono (d _ _ _ G [] s j H D (I.qD _) h) (λfl s1 q=>?_) λ_ _ z=>z
 have Y:SP X aa D fl s1:=q.imp λj H J=>au.ir I.ok J
 cases fl with
 |next=>exact wpAny_execs_nil Y
 |brk=>exact Y
 |cont=>exact Y
 |ret u=>exact Y
end
end L2
namespace L2
open PySem PySem.Spec PyProof.Rows PySem.W Builtin Builtin.ObjectAttr Builtin.Getset_descriptor
def HV(x C:af)(h:aT):Prop:=∃o,h.get? x=some o/\o.cls=.ref C
def xD(x C:af):HO:=.ext λh=>HV x C h/\Cn x h
end L2
namespace L2
open PySem PySem.Spec PyProof.Rows
theorem RY:l7 (fj P w) X E0:=λ_ _ _ _ _ _ _ a=>by obtain⟨_,_,_,_,_,_,_,_,_,h⟩:=a;exact h.elim
end L2
namespace Vc
open PySem L2 Sf
theorem Le.exc(e:Le F F')(h:Rd F a (xD a B)):Rd F' a (xD a B):=e _ _ (by intro o w z;cases z) h
end Vc
namespace L2
open PySem PySem.Spec PyProof.Rows
def uj(K:ao)(a:af):It:=
 ⟨λi H=>∃b x,bE K H a b/\b[i]?=some x,λi H y d=>∃p x,y=.ref p/\H p=none/\(∀b,bE K H a b->b[i]?=some x)/\d=aQ H p (.aG [.int i,x]),λi H=>∃b,bE K H a b/\b.length<=i⟩
theorem au.iy{s:ak}(I:au X aa j H s)(k:∀c o,c≠a->c≠b->s.heap.get? c=some o->h'.get? c=some o)(A:gn X aa H a)(B:gn X aa H b)(E:∃o,h'.get? a=some o)(eb:∃o,h'.get? b=some o):au X aa j H { s with heap:=h',toks:=t' }:=by
 obtain⟨g,i,C,l,m,p⟩:=A;obtain⟨h,r,D,w,x,y⟩:=B;refine I.eB (s':={ s with heap:=h',toks:=t' }) (ch:=[a,b]) rfl ⟨λc o e _ _ f=>?_,λc o e _ _ f=>⟨o.slots,?_⟩,λ_ _ _ n _=>n,λc o e f=>⟨o,?_⟩,λ_ _ q=>q,λ_ _ _ q=>q,λ_ G q=>⟨#[],by rw[q];simp⟩⟩ (λc u e=>?_) I.bare (λc f=>?_)
 .exact k c o (λz=>f (by simp[z])) (λz=>f (by simp[z])) e
 .exact k c o (λz=>f (by simp[z])) (λz=>f (by simp[z])) e
 .exact k c o (λz=>f (by simp[z])) (λz=>f (by simp[z])) e
 .refine (I.aN c u e).eI (λd o hd q=>k d o ?_ ?_ q) (λ_ q=>q) λ_ _ q=>q
  .rintro rfl;rcases hd with z |z
   .rw[<- z,g] at e;cases e
   .rw[g] at z;cases z
  .rintro rfl;rcases hd with z |z
   .rw[<- z,h] at e;cases e
   .rw[h] at z;cases z
 .rcases mem_cons.mp f with z |f
  .rw[z];exact⟨l,i,m,p⟩
  .have z:c=b:=by simpa using f
   rw[z];exact⟨w,r,x,y⟩
theorem Hc{P:Program}{w:World}{K:ao}{elts:bH}{x1:Nat}{pos:Pos}(a it n:af)(y:n≠it):
  kd P w K (.Tuple elts x1 pos) (uj K a) [n,it] n (λi h=>(∃g,IsEnum h n it i g)/\h.IsListIter it a i) where
 mem:=by simp
 obj:=λi h st b l=>by
  obtain⟨⟨g,O⟩,o,Q,c,d⟩:=st;rcases mem_cons.mp l with z |l
  .rw[z];exact⟨_,O,λv z=>by cases z⟩
  .have z:b=it:=by simpa using l
   rw[z];exact⟨o,Q,λv z=>by rw[d] at z;cases z⟩
 keep:=λi h h' st k=>by
  obtain⟨⟨g,O⟩,Q⟩:=st;exact⟨⟨g,k n (by simp) _ O⟩,Q.at λo e=>k it (by simp) o e⟩
 item:=by
  intro X Y hw U hc i aa s j H E I M st hg;subst Y hw U;obtain⟨⟨g,A⟩,r⟩:=st;obtain⟨xs,x,m,hx⟩:=hg;obtain⟨δ,rv,p,hz⟩:=I.list m;obtain⟨u,hu,ru⟩:=rv.get hx;have fe:=M n (by simp);have fi:=M it (by simp);refine wpAny_pyNext_enum_item A r p.isList (x:=u) (by simpa using hu) y λh' G C hT ε hk=>?_
  refine⟨.ref s.heap.objs.size,rfl,wpAny_letOwnedTupleGo_enum G λh2 B hs=>?_⟩;have le:n<s.heap.objs.size:=Heap.lt_size A;have li:it<s.heap.objs.size:=let ⟨o,e,_⟩:=r;Heap.lt_size e;have β:H s.heap.objs.size=none:=I.aN.fresh (le_refl _);have J:n≠s.heap.objs.size:=ne_of_lt le;have L:it≠s.heap.objs.size:=ne_of_lt li;have I1:=I.laid (a:=s.heap.objs.size) (o:=.aG [.int i,x]) (h':=s.heap.push { cls:=.type "tuple",data:=.seq #[.int i s.toks,u] }) (t':=s.toks) (λb q m=>Heap.get?_push_of_some _ m) (le_refl _)
   ⟨by show 2<=sizeLine;decide,[.int i s.toks,u],.cons ⟨_,rfl⟩ (.cons ru .nil),⟨_,Heap.get?_push_size _ rfl,rfl,_,rfl⟩⟩
  have up:∀{b:af},b≠s.heap.objs.size->gn X aa H b->gn X aa (aQ H s.heap.objs.size (.aG [.int i,x])) b:=λl f=>⟨by rw[ba l];exact f.1,f.2⟩
  have γ:∀b q,b≠n->b≠it->(s.heap.push { cls:=.type "tuple",data:=.seq #[.int i s.toks,u] }).get? b=some q->h2.get? b=some q:=λb q h1 h3 m=>by
   refine hs.extBut b q h1 ?_;rcases Heap.get?_push_cases m with⟨α,eq⟩ |m
   .subst α;subst eq;exact hT
   .exact hk b q h1 h3 m
  obtain⟨N,ei,ci,di⟩:=C;have D:h2.IsListIter it a (i+1):=⟨N,hs.extBut it N (Ne.symm y) ei,ci,di⟩;refine⟨.ref s.heap.objs.size,aQ H s.heap.objs.size (.aG [.int i,x]),?_,rfl,⟨_,x,rfl,β,λys hy=>by rw[I.cZ hy m];exact hx,rfl⟩,⟨⟨_,B⟩,D⟩,λb l=>?_⟩
  .exact au.iy (s:={ s with heap:=s.heap.push { cls:=.type "tuple",data:=.seq #[.int i s.toks,u] },toks:=s.toks }) (t':=s.toks+1) I1 γ (up J fe) (up L fi) ⟨_,B⟩ ⟨N,hs.extBut it N (Ne.symm y) ei⟩
  .rcases mem_cons.mp l with z |l
   .rw[z,ba J];exact fe.1
   .have z:b=it:=by simpa using l
    rw[z,ba L];exact fi.1
 done:=by
  intro X Y hw U hc i aa s j H E I M st hg;subst Y hw U;obtain⟨⟨g,A⟩,r⟩:=st;obtain⟨xs,m,hx⟩:=hg;obtain⟨δ,rv,p,hz⟩:=I.list m;have hl:=rv.length;obtain⟨f0,f1,f2,f3,f4,f5⟩:=M it (by simp);exact wpAny_pyNext_enum_end (I.ok.hd hc) A r p.isList (by simp;omega) λh' eb=>⟨rfl,I.turned (t':=s.toks) (λb o l e=>eb b o l e) f0 f1 f3 f4 f5⟩
 self:=λ_ _ _ _ _ st h=>let ⟨⟨_,A⟩,_⟩:=st;wpAny_pyIter_enum A h
section
variable{X:Cx}
def Ar(K:ao)(d:TA):TI:=λj H R=>d j H λvs b=>∃a,vs=[.ref a]/\(∃e,bE K b a e)/\R (uj K a) b
theorem JJ{l:Expr}{w:TA}{elts:bH}{x1:Nat}{g p pos:Pos}(A:Gl X "enumerate")(hm:X.mg "enumerate"=none)(y:PA X [l] w)(hs:j7 l X.env:=by rfl):
  PI X (.Tuple elts x1 g) (.Call (.Name "enumerate" p) [l] [] pos) (Ar X.K w):=by
 intro aa s j H R I h;refine Call_ (i3 I A hm (u:=.type "enumerate") rfl (PyProof.Rows.callWith_type1 (bh (y pos aa s j H _ I h) λus d n=>?_) hs rfl));obtain⟨vs,x,f,r1,a,e,⟨N,C⟩,q⟩:=n;subst e;cases r1 with
 |cons r G=>
  cases G;cases r;obtain⟨E,M,p,L⟩:=f.list C;refine call_enumerate_list p.isList λJ o m D B=>wpAny_pyIter_enum o ?_
  have ne:d.heap.objs.size+1≠d.heap.objs.size:=by omega
  refine⟨d.heap.objs.size+1,[d.heap.objs.size+1,d.heap.objs.size],_,_,x,rfl,f.kept (t':=d.toks) B,Hc a _ _ ne,⟨⟨_,o⟩,m⟩,λb i=>?_,q⟩;rcases mem_cons.mp i with z |i
  .rw[z];exact f.fb (by omega) (f.aN.fresh (by omega))
  .have z:b=d.heap.objs.size:=by simpa using i
   rw[z];exact f.fb (le_refl _) (f.aN.fresh (le_refl _))
end
theorem Ao:∀{bs:List Bool}{us:aM},aI (bs.map V.bl) us->us=bs.map Value.bool
 |[],_,.nil=>rfl
 |b::r,_,.cons h t=>by
  have e:=Ao (bs:=r) t;subst e;cases h;rfl
theorem JC(bs:List Bool):(List.range bs.length).any (λi=>bs.getD i false)=bs.any id:=by
 rw[Bool.eq_iff_iff,any_eq_true,any_eq_true];constructor
 .rintro⟨i,a,h⟩;rw[mem_range] at a;refine⟨bs[i],getElem_mem a,?_⟩;rw[getD_eq_getElem?_getD,getElem?_eq_getElem a] at h;exact h
 .rintro⟨b,hb,h⟩;obtain⟨i,a,rfl⟩:=List.getElem_of_mem hb;refine⟨i,mem_range.mpr a,?_⟩;rw[getD_eq_getElem?_getD,getElem?_eq_getElem a];exact h
theorem Nn(bs:List Bool):TruthOf prog w A (λi v=>(bs.map Value.bool).toArray[i]?=some v) (λi=>bs.getD i false):=by
 intro i v s Q E a d;simp only[List.getElem?_toArray,getElem?_map] at a;cases q:bs[i]? with
 |none=>rw[q] at a;cases a
 |some b=>
  rw[q] at a;cases a;have d:Q (bs.getD i false) s:=d;rw[getD_eq_getElem?_getD,q] at d;exact wpAny_pure d
section
variable{X:Cx}
theorem Qq(f:X.calm=true):bK X (.builtin "any") (λxs H Q=>∃(a:af)(bs:List Bool),xs=[.ref a]/\bE X.K H a (bs.map V.bl)/\Q (.bl (bs.any id)) H):=by
 intro aa s j H xs us Q I r h;obtain⟨a,bs,rfl,i,q⟩:=h;obtain⟨u,rfl,n⟩:=ja r;cases n;obtain⟨l,w,p,y⟩:=I.list i;obtain rfl:=Ao w;have d:=p.isList;have m:a<s.heap.objs.size:=(let ⟨_,e,_⟩:=d;Heap.lt_size e);refine call_any_walk (wpAny_pyIter_list d ?_);refine⟨s.heap.objs.size,_,_,_,_,_,_,rfl,Walks.list (by exact I.ok.hd f) _ a (ne_of_lt m) _,⟨⟨_,Heap.get?_push_size _ rfl,rfl,rfl⟩,(let ⟨o,e,c⟩:=d;⟨o,Heap.get?_push_of_some _ e,c⟩)⟩,Nn bs,λx A g=>?_⟩;refine⟨.bl (bs.any id),H,I.kept λb o e=>g b o (λz=>absurd (Heap.lt_size e) (by rw[show b=s.heap.objs.size from by simpa using z];exact lt_irrefl _)) (Heap.get?_push_of_some _ e),?_,q⟩;rw[<- JC];show _=_;simp
end
def wA(b:aU×V->V)(a:af)(ob:Obj)(kvs:bT):It:=
 ⟨λi H=>i<kvs.length/\H a=some (.ay ob (.dK kvs)),λi H x e=>e=H/\∃d,kvs[i]?=some d/\x=b d,λi H=>kvs.length<=i/\H a=some (.ay ob (.dK kvs))⟩
abbrev tF:aU×V->V:=λkv=>kV kv.1
theorem zV{H:Hp}(I:au X aa j H s)(o:H a=some (.ay ob (.dK kvs)))(hd:ob.data=.dict es ep):
  ∃vs,KV kvs vs/\s.heap.DictAt (eA X.prog X.w) a vs ep/\kvs.length=vs.length:=by
 obtain⟨e,z,y,vs,r,p,n,m,b,f,d,g,h,i⟩:=(show a6 X.prog X.w H s.heap a (.ay ob (.dK kvs)) from I.aN a _ o);have l:ob=p:=Option.some.inj (e.symm.trans b);subst l;rw[hd] at d;cases d;exact⟨vs,r,⟨ob,es,e,f,hd,g,h,i⟩,KV.length r⟩
theorem Je{P:Program}{w:World}{K:ao}{tg:Expr}(a it:af)(ob:Obj)(kvs:bT):
  kd P w K tg (wA tF a ob kvs) [it] it (λi h=>∃l ep,ob.data=.dict l ep/\h.IsKeyIter it a i kvs.length ep) where
 mem:=by simp
 obj:=λi h st b m=>by
  obtain⟨l,ep,hd,o,e,c,d⟩:=st;rw[show b=it from by simpa using m];exact⟨o,e,λv z=>by rw[d] at z;cases z⟩
 keep:=λi h x st k=>by
  obtain⟨l,ep,hd,o,e,c,d⟩:=st;exact⟨l,ep,hd,o,k it (by simp) o e,c,d⟩
 item:=by
  intro X N Q M Y i aa s j H E I y st O;subst N Q M;obtain⟨l,ep,hd,f⟩:=st;obtain⟨hi,L⟩:=O;obtain⟨vs,r,hm,A⟩:=zV I L hd;obtain⟨⟨k,v⟩,p⟩:∃q,kvs[i]?=some q:=⟨kvs[i],by simp[hi]⟩;obtain⟨u,hu,ru⟩:=r.at p;rw[A] at f;obtain⟨B,C,f2,D,G,J⟩:=y it (by simp);refine wpAny_pyNext_dict_item f hm hu λU x n g sb=>?_
  have I1:au X aa j H { s with heap:=x }:=I.turned (t':=s.toks) (λb o m e=>(sb.2 b m).trans e) B C D G J;obtain⟨o,e,c,d⟩:=id g;refine⟨U,rfl,sv (s:={ s with heap:=x }) e c d (by decide) ⟨kV k,H,I1,yy n,⟨rfl,_,p,rfl⟩,⟨l,ep,hd,by rw[A];exact g⟩,λb m=>(y b m).1⟩⟩
 done:=by
  intro X N Q M Y i aa s j H E I y st O;subst N Q M;obtain⟨l,ep,hd,f⟩:=st;obtain⟨hi,L⟩:=O;obtain⟨vs,r,hm,A⟩:=zV I L hd;rw[A] at f;obtain⟨B,C,f2,D,G,J⟩:=y it (by simp);exact wpAny_pyNext_dict_end (I.ok.hd Y) f hm (by simp;omega) λx eb=>⟨rfl,I.turned (t':=s.toks) (λb o m e=>eb b o m e) B C D G J⟩
 self:=λ_ _ _ _ _ st h=>let ⟨_,_,_,f⟩:=st;wpAny_pyIter_keyiter f h
section
variable{X:Cx}
def wG(d:aU×V->V)(X:Cx)(g:TE):TI:=λj H R=>g j H λx e=>∃a b,x=.ref a/\e a=some (.dK b)/\∀f,(∀o u,X.H₀ a≠some (.ay o u))->R (wA d a f b) (aQ e a (.ay f (.dK b)))
theorem NW(J:PE X o td):PI X tg o (wG tF X td):=by
 intro aa s j H R I h;refine bh (J aa s j H _ I h) λv i w=>?_
 obtain⟨x,B,g,r1,a,d,ex,l,q⟩:=w;subst ex;obtain rfl:v=Value.ref a:=r1;obtain⟨M,N,hd⟩:=tf g (.inl ⟨d,.inl l⟩);obtain⟨z,y,vs,r,dd⟩:=tO g.aN l;have n:∀o u,X.H₀ a≠some (.ay o u):=λo u z=>by
  have:=g.base.bp a o u z;rw[l] at this;cases this
 obtain⟨A,f⟩:=dd.dictAt;refine wpAny_pyIter_dict hd f ?_;obtain⟨m,p,C⟩:=(g.kept (t':=i.toks) (h':=i.heap.push { cls:=.type "dict_keyiterator",data:=.fields #[.ref a,.int 0 0,.int vs.length 0,.int A 0] }) λb o e=>Heap.get?_push_of_some _ e).freeze l;have L:a<i.heap.objs.size:=f.lt_size;have G:d.length=vs.length:=KV.length r;refine⟨_,[_],_,_,aQ B a (.ay m (.dK d)),rfl,C,Je a i.heap.objs.size m d,?_,λb E=>?_,q m n⟩
 .obtain⟨o2,es,ho2,c1,c2,_⟩:=f;have D:m=o2:=Option.some.inj (p.symm.trans (Heap.get?_push_of_some _ ho2));subst D;exact⟨es,A,c2,by rw[G];exact⟨_,Heap.get?_push_size _ rfl,rfl,rfl⟩⟩
 .have e:b=i.heap.objs.size:=by simpa using E
  subst e;exact g.fb (le_refl _) (by rw[ba (Nat.ne_of_gt L)];exact g.aN.fresh (le_refl _))
def yn(X:Cx)(t:TE):TE:=λj H Q=>t j H λv=>nN X (Q v)
theorem TL(h:PE X e t):PE X e (yn X t):=by
 intro aa s j H Q I q;refine bh (h aa s j H _ I q) λu m b=>?_
 obtain⟨v,i,d,g,a,l,f,e,hn,r⟩:=b;exact⟨v,_,d.fD e hn,g,r⟩
end
section
variable{g:TG}{ti:TT}{te:TE}{ix:bG}{σ:St}{Q:VK}
theorem HG{h:aU×V->V}(Pv:Nat->aw->Hp->Prop)(r:Pv 0 [] H1)(m:∀i d H,i<=kvs.length->Pv i d H->H a=some (.ay ob (.dK kvs)))(hs:∀i k v d H,kvs[i]?=some (k,v)->Pv i d H->g (h (k,v)) (eV ix σ) H λf o=>Wk (eV ix σ) f/\ti f o λb l=>if b=true then te f l λv q=>d.length<sizeLine/\Pv (i+1) (d++[v]) q else Pv (i+1) d l)(hd:∀d H,Pv kvs.length d H->d.length<=sizeLine/\∀p,H p=none->Q (.ref p) (aQ H p (.ag d))):zx (wA h a ob kvs) g ti te ix σ Q H1:=by
 refine DT (n:=kvs.length) Pv r (λi d H j p=>⟨j,m i d H (Nat.le_of_lt j) p⟩) (λd H p=>⟨le_refl _,m _ d H (le_refl _) p⟩) (λi x d H s j p y=>?_) hd;obtain⟨rfl,⟨k,v⟩,e,rfl⟩:=y;exact hs i k v d _ e p
end
theorem au.iF{X:Cx}{aa:aV}{j:St}{H:Hp}{s:ak}{h':aT}{t':Nat}{ch:cD}(I:au X aa j H s)(k:∀c o,c ∉ ch->s.heap.get? c=some o->h'.get? c=some o)(g:∀b∈ch,gn X aa H b):au X aa j H { s with heap:=h',toks:=t' }:=by
 refine I.eB (s':={ s with heap:=h',toks:=t' }) (ch:=ch) rfl ⟨λc o e _ _ a=>k c o a e,λc o e _ _ a=>⟨o.slots,k c o a e⟩,λ_ _ _ n _=>n,λc o e a=>⟨o,k c o a e⟩,λ_ _ q=>q,λ_ _ _ q=>q,λ_ h q=>⟨#[],by rw[q];simp⟩⟩ (λc u e=>?_) I.bare (λc a=>?_)
 .refine (I.aN c u e).eI (λd o hd q=>k d o (λhm=>?_) q) (λ_ q=>q) λ_ _ q=>q
  have f:=(g d hm).1;rcases hd with z |z
  .rw[<- z,f] at e;cases e
  .rw[f] at z;cases z
 .obtain⟨a0,a1,a2,a3,a4,a5⟩:=g c a;exact⟨a3,a1,a4,a5⟩
def uK(K:ao)(a b:af):It:=
 ⟨λi H=>∃d e x y,bE K H a d/\bE K H b e/\d[i]?=some x/\e[i]?=some y,
  λi H v f=>∃p x y,v=.ref p/\H p=none/\(∀d,bE K H a d->d[i]?=some x)/\(∀e,bE K H b e->e[i]?=some y)/\f=aQ H p (.aG [x,y]),
  λi H=>∃d e,bE K H a d/\bE K H b e/\(d.length<=i\/e.length<=i)⟩
theorem QZ{P:Program}{w:World}{K:ao}{elts:bH}{x1:Nat}{pos:Pos}{a b z TI TO l m:af}(D:ZipApart z TI TO l m a b):
  kd P w K (.Tuple elts x1 pos) (uK K a b) [z,TI,TO,l,m] z (λi h=>IsZip h z TI TO .none/\IsPair h TI (.ref l) (.ref m)/\(∃c d,IsPair h TO c d)/\h.IsListIter l a i/\h.IsListIter m b i) where
 mem:=by simp
 obj:=λi h st c f=>by
  obtain⟨B,r,⟨u,v,C⟩,⟨o4,G,c4,d4⟩,⟨o5,J,c5,d5⟩⟩:=st;simp only[mem_cons,List.not_mem_nil,or_false] at f;rcases f with rfl |rfl |rfl |rfl |rfl
  .exact⟨_,B,λv z=>by cases z⟩
  .exact⟨_,r,λv z=>by cases z⟩
  .exact⟨_,C,λv z=>by cases z⟩
  .exact⟨o4,G,λv z=>by rw[d4] at z;cases z⟩
  .exact⟨o5,J,λv z=>by rw[d5] at z;cases z⟩
 keep:=λi h h' st k=>by
  obtain⟨B,r,⟨u,v,C⟩,G,J⟩:=st;exact⟨k z (by simp) _ B,k TI (by simp) _ r,⟨u,v,k TO (by simp) _ C⟩,G.at λo e=>k l (by simp) o e,J.at λo e=>k m (by simp) o e⟩
 item:=by
  intro X hP hw hK f i aa s j H E I O st hg;subst hP hw hK;obtain⟨B,r,⟨c,d,C⟩,G,J⟩:=st;obtain⟨xs,ys,x,y,n,A,hx,hy⟩:=hg;obtain⟨ι,rv,p,hz⟩:=I.list n;obtain⟨U,L,p',η⟩:=I.list A;obtain⟨u,hu,ru⟩:=rv.get hx;obtain⟨M,ε,κ⟩:=L.get hy;refine wpAny_pyNext_zip_item D B r C G J p.isList p'.isList (x:=u) (y:=M) (by simpa using hu) (by simpa using ε) λh' g1 g2 g3 g4 hT μ Y=>?_
  refine⟨.ref s.heap.objs.size,rfl,wpAny_letOwnedTupleGo_zip g1 λN θ Q=>?_⟩;have β:H s.heap.objs.size=none:=I.aN.fresh (le_refl _);have lt:∀{c o},s.heap.get? c=some o->c≠s.heap.objs.size:=λe=>ne_of_lt (Heap.lt_size e)
  have ne:∀c∈[z,TI,TO,l,m],c≠s.heap.objs.size:=λc f=>by
   simp only[mem_cons,List.not_mem_nil,or_false] at f;rcases f with rfl |rfl |rfl |rfl |rfl
   .exact lt B
   .exact lt r
   .exact lt C
   .obtain⟨o,e,_⟩:=G;exact lt e
   .obtain⟨o,e,_⟩:=J;exact lt e
  have I1:=I.laid (a:=s.heap.objs.size) (o:=.aG [x,y]) (h':=s.heap.push { cls:=.type "tuple",data:=.seq #[u,M] }) (t':=s.toks) (λb q n=>Heap.get?_push_of_some _ n) (le_refl _)
   ⟨by show 2<=sizeLine;decide,[u,M],.cons ru (.cons κ .nil),⟨_,Heap.get?_push_size _ rfl,rfl,_,rfl⟩⟩
  have γ:∀c q,c ∉ [z,TI,TO,l,m]->(s.heap.push { cls:=.type "tuple",data:=.seq #[u,M] }).get? c=some q->N.get? c=some q:=λc q f n=>by
   refine Q.extBut c q (λg=>f (by simp[g])) ?_;rcases Heap.get?_push_cases n with⟨α,eq⟩ |n
   .subst α;subst eq;exact hT
   .exact Y c q (λg=>f (by simp[g])) (λg=>f (by simp[g])) (λg=>f (by simp[g])) (λg=>f (by simp[g])) n
  have t2:IsPair N TI (.ref l) (.ref m):=Q.extBut TI _ D.TIz (Y TI _ D.TIz D.TITO D.TIi1 D.TIi2 r);have t3:IsPair N TO u M:=Q.extBut TO _ D.TOz g2;have t4:N.IsListIter l a (i+1):=g3.at λo e=>Q.extBut l o D.i1z e
  have t5:N.IsListIter m b (i+1):=g4.at λo e=>Q.extBut m o D.i2z e
  refine⟨.ref s.heap.objs.size,aQ H s.heap.objs.size (.aG [x,y]),?_,rfl,⟨_,x,y,rfl,β,λys hy=>by rw[I.cZ hy n];exact hx,λys ζ=>by rw[I.cZ ζ A];exact hy,rfl⟩,⟨θ,t2,⟨_,_,t3⟩,t4,t5⟩,λc f=>?_⟩
  .exact au.iF (s:={ s with heap:=s.heap.push { cls:=.type "tuple",data:=.seq #[u,M] },toks:=s.toks }) (t':=s.toks) I1 γ λc f=>⟨by rw[ba (ne c f)];exact (O c f).1,(O c f).2⟩
  .rw[ba (ne c f)];exact (O c f).1
 done:=by
  intro X hP hw hK f i aa s j H E I O st hg;subst hP hw hK;obtain⟨B,r,⟨c,d,C⟩,G,J⟩:=st;obtain⟨xs,ys,n,A,δ⟩:=hg;obtain⟨ι,rv,p,hz⟩:=I.list n;obtain⟨U,L,p',η⟩:=I.list A;have l1:=rv.length;have l2:=L.length;refine wpAny_pyNext_zip_end (I.ok.hd f) D B r C G J p.isList p'.isList (δ.imp (λh=>by simp;omega) λh=>by simp;omega) λh' Y=>⟨rfl,I.iF (t':=s.toks) (ch:=[z,TI,TO,l,m]) (λc o f e=>?_) O⟩
  exact Y c o (λg=>f (by simp[g])) (λg=>f (by simp[g])) (λg=>f (by simp[g])) (λg=>f (by simp[g])) e
 self:=λ_ _ _ _ _ st h=>wpAny_pyIter_zip st.1 h
section
variable{X:Cx}
def Ae(K:ao)(e:TA):TI:=λj H R=>e j H λvs d=>∃a b,vs=[.ref a,.ref b]/\(∃f,bE K d a f)/\(∃g,bE K d b g)/\R (uK K a b) d
theorem KN{l m:Expr}{E:TA}{elts:bH}{x1:Nat}{i p pos:Pos}(U:Gl X "zip")(hm:X.mg "zip"=none)(Q:PA X [l,m] E)(hs:nI l m X.env:=by rfl)(g:j7 m X.env:=by rfl):PI X (.Tuple elts x1 i) (.Call (.Name "zip" p) [l,m] [] pos) (Ae X.K E):=by
 intro aa s j H R I h;refine Call_ (i3 I U hm (u:=.type "zip") rfl (PyProof.Rows.callWith_type1 (bh (Q pos aa s j H _ I h) λus d w=>?_) (by rw[hs,g]) (by rw[g];rfl)));obtain⟨vs,J,f,r1,a,b,e,⟨xs,hq⟩,⟨ys,n⟩,q⟩:=w;subst e;cases r1 with
 |cons r o=>
  cases o with
  |cons r' o=>
   cases o;cases r;cases r';obtain⟨γ,rv,p,hz⟩:=f.list hq;obtain⟨C,δ,D,β⟩:=f.list n;have la:a<d.heap.objs.size:=let ⟨_,e,_⟩:=p.isList;Heap.lt_size e;have lb:b<d.heap.objs.size:=let ⟨_,e,_⟩:=D.isList;Heap.lt_size e;refine call_zip_2 p.isList D.isList λh' A L M N O α Y=>wpAny_pyIter_zip A ?_
   have G:ZipApart (d.heap.objs.size+4) (d.heap.objs.size+2) (d.heap.objs.size+3) d.heap.objs.size (d.heap.objs.size+1) a b:=by
    have lt:∀{x y:Nat},x<y->x≠y:=λh=>ne_of_lt h
    have gt:∀{x y:Nat},y<x->x≠y:=λh=>Nat.ne_of_gt h
    constructor<;>first |exact lt (by omega) |exact gt (by omega) |exact lt (lt_of_lt_of_le la (by omega)) |exact lt (lt_of_lt_of_le lb (by omega))
   refine⟨d.heap.objs.size+4,[d.heap.objs.size+4,d.heap.objs.size+2,d.heap.objs.size+3,d.heap.objs.size,d.heap.objs.size+1],_,_,J,rfl,f.kept (t':=d.toks) Y,QZ G,⟨A,L,⟨_,_,M⟩,N,O⟩,λc B=>?_,q⟩;have z:d.heap.objs.size<=c:=by
    simp only[mem_cons,List.not_mem_nil,or_false] at B;rcases B with rfl |rfl |rfl |rfl |rfl
    .exact Nat.le_add_right _ _
    .exact Nat.le_add_right _ _
    .exact Nat.le_add_right _ _
    .exact le_refl _
    .exact Nat.le_add_right _ _
   exact f.fb z (f.aN.fresh z)
end
end L2
namespace Vc
open PySem L2 Sf
section
variable{X:Cx}{aa:aV}{σ:St}{H:Hp}{s:ak}{Au:Around}
theorem Hq(I:au X aa σ H s)(d:bE X.K H a xs)(f:bE X.K H b ys)(p:Au.units<cLine)(E:xs.length=ys.length)(e:Nat->Bool)(he:∀(j:Nat) x y u v,xs[j]?=some x->ys[j]?=some y->aE x u->aE y v->SeqAt.EqAt Au.in1 s u v (e j)):SeqAt.RcNeAt Au s (.ref a) (.ref b) (!(List.range xs.length).all e):=by
 obtain⟨us,r1,B,_⟩:=I.list d;obtain⟨D,r2,C,_⟩:=I.list f;have q:=r1.length;have G:=r2.length;have z:=SeqAt.RcNeAt.lists (A:=Au) (e:=e) B.isList C.isList (by simp;omega) p (λj d f=>?_)
 .have e0:(List.range us.toArray.size).all e=(List.range xs.length).all e:=by
   simp only[size_toArray];rw[<- q]
  rw[e0] at z;exact z
 .simp only[size_toArray] at d f;obtain⟨u,g,r⟩:=r1.get (i:=j) (x:=xs[j]'(by omega)) (by simp);obtain⟨v,h,w⟩:=r2.get (i:=j) (x:=ys[j]'(by omega)) (by simp);obtain⟨_,l⟩:=List.getElem?_eq_some_iff.mp g;obtain⟨_,m⟩:=List.getElem?_eq_some_iff.mp h;have n:us.toArray[j]'(by simpa using d)=u:=by simpa using l
  have o:D.toArray[j]'(by simpa using f)=v:=by simpa using m
  rw[n,o];exact he j _ _ u v (by simp) (by simp) r w
end
theorem Kw{H:Hp}(h:H p=some (.ag xs)):wH K "list" (.ref p) H:=by
 exact .inl ⟨rfl,xs,bE.of h⟩
end Vc
namespace L2
open PySem PySem.Spec PyProof.Rows
def C0:R2:=λx y H Q=>∃z n,x=.str z/\y=.int n/\z.length<=100/\0<=n/\n<=1000/\Q (.str (Txt.mul z n)) H
theorem Nm:b6 X (binaryOp .Mult) C0:=by
 intro aa s j H x y v u Q I b d h;obtain⟨z,n,rfl,rfl,a,f,g,q⟩:=h;obtain⟨t,rfl⟩:=b;obtain⟨e,rfl⟩:=d;exact SB.mul (mulOk_of 100 1000 a (by omega) (by omega) (by decide) (by decide)) λe k=>⟨.str _,H,I.tok _,⟨_,rfl⟩,q⟩
section
variable{X:Cx}
theorem Ju{kvs:bT}{vs:List (aU×ai)}{us:aM}(r:KV kvs vs)(a:us.length=kvs.length)(h:∀(j:Nat) u,us[j]?=some u->∃k,vs[j]?=some (k,u)):aI (kvs.map (·.2)) us:=by
 induction kvs generalizing vs us with
 |nil=>cases us with
  |nil=>exact .nil
  |cons _ _=>simp at a
 |cons p t l=>
  cases us with
  |nil=>simp at a
  |cons u us=>
   unfold KV at r;cases r with
   |cons b g=>
    rename_i q n;obtain⟨k,e⟩:=h 0 u rfl;have f:q=(k,u):=by simpa using e
    refine .cons (by rw[f] at b;exact b.2) (l (vs:=n) g (by simpa using a) λj w i=>?_);obtain⟨m,d⟩:=h (j+1) w (by simpa using i);exact⟨m,by simpa using d⟩
end
end L2
namespace Vc
open PySem L2 Sf
theorem Mp{j:Type}{m:List (Str×j)}{x:Str}{y:j}(h:∀p∈m,p.1≠x):qL m x y=m++[(x,y)]:=by
 unfold qL;rw[if_neg];intro z;rw[any_eq_true] at z;obtain⟨p,a,e⟩:=z;exact h p a (by simpa using e)
def r4(K:ao){j i G g:Type}(A:Rep j)(B:Rep i)(C:Rep G)(D:Rep g):Rep (j×i×G×g):=λF v x=>∃a b d e f,v=.ref a/\df K F a [b,d,e,f]/\A F b x.1/\B F d x.2.1/\C F e x.2.2.1/\D F f x.2.2.2
end Vc
namespace L2
open PySem PySem.Spec PyProof.Rows
section
variable{X:Cx}
theorem UD:b6 X (compareOp .Gt) (λx y H Q=>∃i j,x=.str i/\y=.str j/\Q (.bl (decide (j.cps.toList<i.cps.toList))) H):=by
 intro aa s G H x y v u Q I a b h;obtain⟨i,j,rfl,rfl,q⟩:=h;obtain⟨t,rfl⟩:=a;obtain⟨d,rfl⟩:=b;exact PySem.P.gt_str (cK I q rfl)
end
section
variable{prog:Program}{w:World}{A:Around}{E:ai->ak->Prop}{s:ak}
theorem V1:typeLookup (.type "list_reverseiterator") "__len__"=pure none:=by rw[typeLookup_type,builtinLookup_eq_fast];kernel_rfl
theorem OF:typeLookup (.type "list_reverseiterator") "__length_hint__"=pure (some (.builtin "list_reverseiterator.__length_hint__")):=by rw[typeLookup_type,builtinLookup_eq_fast];kernel_rfl
theorem Pg{Q:Bool->ak->Prop}(a:s.TypeIs (.ref r) "list_reverseiterator")(h:Q false s):wpAny (model prog w) A (Builtin.List.listLengthHint (.ref r)) Q E s:=by
 unfold Builtin.List.listLengthHint;refine wpAny_bind (wpAny_specialOf a V1 ?_);show wpAny _ A (specialOf (Value.ref r) (Str.ofString "__length_hint__") >>= _) _ _ _;refine wpAny_bind (wpAny_specialOf a OF ?_);generalize xn:("list_reverseiterator.__length_hint__":String)=i0
 wp_delta
 rw[show splitId i0=some ("list_reverseiterator","__length_hint__") from by subst xn;decide +kernel];subst xn;refine wpAny_bind (wpAny_isInstance (T:="list_reverseiterator") (b:=true) a (by rw[isSubtype_type];kernel_rfl) ?_);refine wpAny_ite_split (λz=>absurd z (by decide)) (λ_=>?_);refine wpAny_ite_split (λ_=>?_) (λz=>absurd (by decide +kernel) z);refine wpAny_ite_split (λz=>absurd z (by decide +kernel)) (λ_=>?_);exact wpAny_pure h
theorem TM{St:Nat->aT->Prop}{R:Result->ak->Prop}(W:Walks prog w A.in1 I fp [I] n P St)(O:I∈fp)(J:∀i (s:ak),St i s.heap->s.TypeIs (.ref I) T)(n1:(Value.type T == Value.type "list")=false)(n2:(Value.type T == Value.type "tuple")=false)(hh:∀(s:ak)(Q:Bool->ak->Prop)(E:ai->ak->Prop),s.TypeIs (.ref I) T->Q false s->wpAny (model prog w) A.in1 (Builtin.List.listLengthHint (.ref I)) Q E s)(a:St 0 s.heap)(S:af)(j:S ∉ fp)(g:ai)(G:Nat)(x:s.heap.get? S=some { cls:=.type "list",data:=.seq #[] G })(U:∀h' q d c,(∀b o,b≠S->b≠I->s.heap.get? b=some o->h'.get? b=some o)->h'.get? S=some { cls:=.type "list",dict:=none,data:=.seq d c,slots:=#[] }->ItemsOf P d n->R (.ok (.ret g)) { s with heap:=h',toks:=q })(hn:n<=sizeLine):
  wpAny (model prog w) A.in1 (Builtin.List.listExtendWith (.ref S) (.ref I) g)
   (λu s'=>match u with |.done f=>R (.ok f) s' |.again D=>D.quiet=true/\codeAny (model prog w) A D R s') (λe s'=>R (.error e) s') s:=by
 have C:S≠I:=λz=>j (z ▸ O)
 have m:∀(h:aT)(r q:Nat),St 0 h->(∀b o,b≠S->s.heap.get? b=some o->h.get? b=some o)->h.get? S=some { cls:=.type "list",data:=.seq #[] r }->
   codeAny (model prog w) A (.builtin "list.extend.loop" ⟨[.ref S,.ref I,g],[]⟩) R { s with heap:=h,toks:=q }:=by
  intro h r q st hk y;refine codeAny_extend_loopS W.toS hn S j g n 0 _ #[] r rfl (zero_le _) st y (ItemsOf.nil _) λs' d c L B l=>?_
  rw[Moved.eq_with L];exact U s'.heap s'.toks d c (λb o H N e=>L.heap b o (λz=>by
   rcases mem_cons.mp z with z |z
   .exact H z
   .exact N (mem_singleton.mp z)) (hk b o H e)) B l
 unfold Builtin.List.listExtendWith;refine wpAny_bind (wpAny_typeOf (J 0 s a) ?_);simp only[show Builtin.List.listSameRef (.ref S) (.ref I)=false by simp[Builtin.List.listSameRef,C],n1,n2,Bool.or_false,Bool.false_eq_true,if_false];refine wpAny_bind (W.self 0 s _ _ a (wpAny_bind (wpAny_holding (hh s _ _ (J 0 s a) ?_))));refine wpAny_ite_split (λ_=>?_) (λ_=>wpAny_pure ⟨plainId_quiet PySem.F.plain_extend_loop _,m _ G _ a (λb o _ e=>e) x⟩);refine wpAny_bind (wpAny_rule (wpAny_bind ?_));show wpAny _ _ (updateSeq S (·.push .none) >>= λ_=>updateSeq S (·.pop)) _ _ s;refine wpAny_bind (wpAny_updateSeq x rfl ?_);have M:=Heap.get?_update_self (Obj.mapSeq (·.push Value.none)) x rfl;refine wpAny_updateSeq (hz:=by seq_fits) M rfl ?_;have q2:=Heap.get?_update_self (Obj.mapSeq (·.pop)) M rfl;have p:∀b o,b≠S->s.heap.get? b=some o->((s.heap.update S (Obj.mapSeq (·.push Value.none))).update S (Obj.mapSeq (·.pop))).get? b=some o:=λb o z e=>(Heap.get?_update_other _ _ z.symm).trans ((Heap.get?_update_other _ _ z.symm).trans e)
 exact wpAny_pure ⟨plainId_quiet PySem.F.plain_extend_loop _,m _ _ _ (W.frame 0 _ _ a λb Y o e=>p b o (λz=>j (z ▸ Y)) e) p q2⟩
theorem GR{St:Nat->aT->Prop}{Q:ai->ak->Prop}(W:Walks prog w A.in1.in1 I fp [I] n P St)(u:I∈fp)(p:∀b∈fp,b<s.heap.objs.size)(y:∀i (s:ak),St i s.heap->s.TypeIs (.ref I) T)(G:(Value.type T == Value.type "list")=false)(H:(Value.type T == Value.type "tuple")=false)(C:∀(s:ak)(Q:Bool->ak->Prop)(E:ai->ak->Prop),s.TypeIs (.ref I) T->Q false s->wpAny (model prog w) A.in1.in1 (Builtin.List.listLengthHint (.ref I)) Q E s)(q:St 0 s.heap)(hn:n<=sizeLine)(x:∀h' r a c,(∀b o,b≠I->s.heap.get? b=some o->h'.get? b=some o)->h'.get? s.heap.objs.size=some { cls:=.type "list",dict:=none,data:=.seq a c,slots:=#[] }->ItemsOf P a n->Q (.ref s.heap.objs.size) { s with heap:=h',toks:=r }):
  wpAny (model prog w) A (call (.type "list") [.ref I]) Q E s:=by
 refine callType_codes (Q₁:=λo d=>o=.ref s.heap.objs.size/\d={ s with heap:=s.heap.push { cls:=.type "list",data:=.seq #[] } }) PySem.F.called_list (PySem.F.typeCall_list_1 _) PySem.F.entry_list_init (code_list_new _ ⟨rfl,rfl⟩) λo d h=>?_
 obtain⟨rfl,rfl⟩:=h;have l:(s.heap.push { cls:=.type "list",data:=.seq #[] }).get? s.heap.objs.size=some { cls:=.type "list",data:=.seq #[] }:=Heap.get?_push_size _ rfl;have g:s.heap.objs.size ∉ fp:=λz=>lt_irrefl _ (p _ z)
 refine⟨⟨_,l,rfl⟩,PySem.F.args_list_init_2 _ _,?_⟩;show wpAny _ _ (do let old <- Builtin.List.listItems (.ref s.heap.objs.size);Builtin.List.listUpdate (.ref s.heap.objs.size) (λ_=>#[]);letGo old.toList.reverse;Builtin.List.listExtendWith (.ref s.heap.objs.size) (.ref I) .none) _ _ _;refine wpAny_bind ?_;unfold Builtin.List.listItems;refine wpAny_bind (wpAny_seqItems l rfl (wpAny_pure ?_));show wpAny _ _ (updateSeq s.heap.objs.size (λ_=>#[]) >>= λ_=>letGo (#[]:dm).toList.reverse >>= λ_=>Builtin.List.listExtendWith (.ref s.heap.objs.size) (.ref I) .none) _ _ _;refine wpAny_bind (wpAny_updateSeq l rfl ?_);have J:=Heap.get?_update_self (Obj.mapSeq (λ_=>(#[]:dm))) l rfl;have j:∀b o,b≠s.heap.objs.size->s.heap.get? b=some o->((s.heap.push { cls:=.type "list",data:=.seq #[] }).update s.heap.objs.size (Obj.mapSeq (λ_=>(#[]:dm)))).get? b=some o:=
  λb o z e=>(Heap.get?_update_other _ _ z.symm).trans (Heap.get?_push_of_some _ e)
 refine wpAny_bind (wpAny_letGo ?_);refine TM (A:=A.in1) W u y G H C (W.frame 0 _ _ q λb B o e=>j b o (λz=>g (z ▸ B)) e) _ g .none _ J (λh' r a c D m f=>?_) hn;exact⟨rfl,x h' r a c (λb o z e=>D b o (ne_of_lt (Heap.lt_size e)) z (j b o (ne_of_lt (Heap.lt_size e)) e)) m f⟩
end
theorem JR(h:aI xs us)(g:aI ys vs):aI (xs++ys) (us++vs):=by
 induction h with
 |nil=>exact g
 |cons a _ b=>exact .cons a b
theorem Qv(h:aI xs us):aI xs.reverse us.reverse:=by
 induction h with
 |nil=>exact .nil
 |cons a _ b=>rw[List.reverse_cons,List.reverse_cons];exact JR b (.cons a .nil)
section
variable{X:Cx}
def Gb(K:ao)(e:TA):TE:=λj H Q=>e j H λvs b=>∃a d,vs=[.ref a]/\bE K b a d/\∀p,b p=none->Q (.ref p) (aQ b p (.ag d.reverse))
theorem OZ(hc:X.calm=true)(hg:Gl X "list")(hm:X.mg "list"=none)(B:Gl X "reversed")(E:X.mg "reversed"=none)(ha:PA X [l] ta)(G:j7 l X.env:=by rfl)(hs:starEach [.Call (.Name "reversed" p2) [l] [] pos2] X.env=[(false,eval (.Call (.Name "reversed" p2) [l] [] pos2) X.env)]:=by rfl):
  PE X (.Call (.Name "list" p) [.Call (.Name "reversed" p2) [l] [] pos2] [] pos) (Gb X.K ta):=by
 intro aa s i H Q I h;refine wpAny_Call_Name_kw (i3 I hg hm (u:=.type "list") rfl ?_);refine PyProof.Rows.callWith_type1 ?_ hs rfl;rw[hs];show wpAny _ _ (spliced ((false,eval (.Call (.Name "reversed" p2) [l] [] pos2) X.env)::backTo pos [])) _ _ s;refine Calls.spliced_cons ?_;refine Call_ (i3 I B E (u:=.type "reversed") rfl (PyProof.Rows.callWith_type1 (bh (ha pos2 aa s i H _ I h) λus m L=>?_) G rfl));obtain⟨vs,O,x,r1,a,xs,e,hq,q⟩:=L;subst e;cases r1 with
 |cons r rr=>
  cases rr;cases r;obtain⟨d,N,J,hz⟩:=x.list hq;have hl:=N.length;refine call_reversed_list J.isList ?_;refine Calls.spliced_nil ?_;have M:a<m.heap.objs.size:=let ⟨o,ho,_⟩:=J.isList;Heap.lt_size ho;have W:=Walks.listRev (prog:=X.prog) (w:=X.w) (A:=X.A.in1.in1) (show X.A.in1.in1.handled=none from I.ok.hd hc) m.heap.objs.size a (ne_of_lt M) d.toArray;have I2:au X aa i O { m with heap:=m.heap.push (revObj a ((d.toArray.size:Int) - 1)) }:=x.kept (t':=m.toks) λb o e=>Heap.get?_push_of_some _ e
  have hI:(m.heap.push (revObj a ((d.toArray.size:Int) - 1))).IsRevIter m.heap.objs.size a ((d.toArray.size:Int) - 1 - ((0:Nat):Int)):=by
   refine⟨_,Heap.get?_push_size _ rfl,rfl,?_⟩;rw[show (d.toArray.size:Int) - 1 - ((0:Nat):Int)=(d.toArray.size:Int) - 1 by omega];rfl
  have f:=x.fb (le_refl _) (x.aN.fresh (le_refl m.heap.objs.size));refine GR (s:={ m with heap:=m.heap.push (revObj a ((d.toArray.size:Int) - 1)) }) W (by simp) (λb hb=>?_) (λ_ _ z=>z.2.1.typeIs) (by decide) (by decide) (λ_ _ _ t h=>Pg t h) ⟨zero_le _,hI,J.isList.at λo e=>Heap.get?_push_of_some _ e⟩ (by simp;omega) λh' tk n c hk hS g=>?_
  .show b<(m.heap.push _).objs.size;rw[Heap.size_push];rcases mem_cons.mp hb with z |z
   .rw[z];exact Nat.lt_succ_self _
   .rw[mem_singleton.mp z];exact lt_succ_of_lt M
  .have z1:(m.heap.push (revObj a ((d.toArray.size:Int) - 1))).objs.size=m.heap.objs.size+1:=Heap.size_push ..;have D:∀b o,m.heap.get? b=some o->h'.get? b=some o:=λb o e=>hk b o (ne_of_lt (Heap.lt_size e)) (Heap.get?_push_of_some _ e)
   have U:n.toList=d.reverse:=by
    refine ext_getElem? λj=>?_
    rcases Nat.lt_or_ge j n.size with C |C
    .obtain⟨v,hv⟩:∃v,n[j]?=some v:=⟨n[j],by simp[C]⟩;have Y:=g.2 j v hv;have y:=g.1;rw[getElem?_toList,hv,List.getElem?_reverse (by simp at y;omega),<- Y];simp
    .have y:=g.1;rw[getElem?_eq_none (by simpa using C),getElem?_eq_none (by simp at y ⊢;omega)]
   refine⟨.ref _,_,x.laid (a:=(m.heap.push (revObj a ((d.toArray.size:Int) - 1))).objs.size) (o:=.ag xs.reverse) (h':=h') (t':=tk) D (by rw[z1];omega) ⟨by rw[List.length_reverse];exact hz,d.reverse,c,Qv N,by rw[<- U,Array.toArray_toList];exact hS⟩,rfl,q _ (by rw[z1];exact x.aN.fresh (by omega))⟩
end
end L2
namespace Vc
open PySem L2
theorem Na{Fb Hb F H e f:Hp}{S:af->Prop}(i:Gr0 Fb Hb F H)(u:H a=some (.dK kvs))(s:F a=none\/F a=some (.dK kvs))(j:Gr0 (fz Fb a (.ay ob (.dK kvs))) (fz Hb a (.ay ob (.dK kvs))) e f)(w:e a=fz F a (.ay ob (.dK kvs)) a)(h:Fz (λb=>b=a\/S b) e):
  ∃d:Hp,Gr0 Fb Hb d (aQ f a (.dK kvs))/\Fz S d/\Le e d/\d a=F a/\(aQ f a (.dK kvs)) a=some (.dK kvs)/\(∀b,b≠a->d b=e b)/\∀b,b≠a->(aQ f a (.dK kvs)) b=f b:=
 Ql (R:=λU=>∃d:Hp,Gr0 Fb Hb d U/\Fz S d/\Le e d/\d a=F a/\U a=some (.dK kvs)/\(∀b,b≠a->d b=e b)/\∀b,b≠a->U b=f b) i u s j w h λg x l m n o p q r=>⟨g,l,m,n,o,p,q,r⟩
end Vc
namespace L2
open PySem PySem.Spec PyProof.Rows
section
variable{X:Cx}
def Cq(K:ao):R2:=λx y H Q=>∃l b a d,x=.ref l/\y=.ref b/\bE K H l a/\bE K H b d/\a.length+d.length<=sizeLine/\∀p,H p=none->Q (.ref p) (aQ H p (.ag (a++d)))
theorem UY:b6 X (binaryOp .Add) (Cq X.K):=by
 intro aa s j H x y v u Q I D E h;obtain⟨l,b,Y,zs,rfl,rfl,C,B,L,q⟩:=h;cases D;cases E;obtain⟨d,r,p1,z1⟩:=I.list C;obtain⟨a,r2,p2,z2⟩:=I.list B;have M:=r.length;have N:=r2.length;obtain⟨⟨G,z,O,i⟩,w,p,n,hd⟩:=p1.isList;obtain⟨⟨J,A,U,o⟩,g,e,m,f⟩:=p2.isList;simp only at p hd e f;subst p hd e f;refine concat_meets ⟨_,w,rfl⟩ ⟨_,g,rfl⟩ noFill_list_add seq_list_add PySem.F.slot_list_add PySem.F.entry_list_add (PySem.F.args_list_add_2 _ _) (list_addW l b d.toArray a.toArray n m z A i o (by simp;omega)) ⟨w,g,?_⟩;rw[show d.toArray++a.toArray=(d++a).toArray by simp];exact⟨.ref _,_,I.qg (t':=s.toks) (r.append r2) (by rw[length_append];omega),rfl,q _ I.fresh⟩
end
end L2
namespace Vc
open PySem L2
def xn(a b:af)(H:Hp):Hp:=λx=>if x=a\/x=b then none else H x
end Vc
namespace Vc
open PySem L2 Sf
def cN(l:cD)(H:Hp):Hp:=λx=>if x∈l then none else H x
theorem oh{H:Hp}(a:x ∉ l)(h:H x=some o):cN l H x=some o:=by unfold cN;rw[if_neg a];exact h
theorem OB(h:x∈l):cN l H x=none:=if_pos h
theorem Pw{H:Hp}(h:cN l H x=some o):x ∉ l/\H x=some o:=by
 unfold cN at h;by_cases z:x∈l
 .rw[if_pos z] at h;cases h
 .rw[if_neg z] at h;exact⟨z,h⟩
theorem u9(a:aC F H):Gr0 F (cN l H) F H:=⟨λ_ _ e=>(Pw e).2,aC.refl _,a,λx u h e=>by rw[h] at e;cases e⟩
theorem Ku{Hb:Hp}(h:Hb a=none):∀x∈[a],Hb x=none:=λx z=>by rw[mem_singleton.mp z];exact h
theorem jQ{Hb:Hp}(h:Hb a=none)(g:Hb b=none):∀x∈[a,b],Hb x=none:=λx z=>(mem_cons.mp z).elim (λe=>by rw[e];exact h) (Ku g x)
theorem FG{Hb:Hp}(h:Hb a=none)(g:Hb b=none)(f:Hb c=none):∀x∈[a,b,c],Hb x=none:=λx z=>(mem_cons.mp z).elim (λe=>by rw[e];exact h) (jQ g f x)
end Vc
namespace L2
open PySem PySem.Spec PyProof.Rows
theorem wL(aN:dk P w H h)(e:Rd H a (.ins C dx fs)):∃b,gz h a dx C b/\∀f,cG (fs.lookup f) (b f):=by
 have x:a6 P w H h a (.ins C dx fs):=by
  rcases e with e |⟨o,e⟩
  .exact aN a _ e
  .exact (aN a _ e).2
 obtain⟨d,z,ne,g,b,n,r,q⟩:=x;exact⟨b,⟨g,n,ne⟩,r⟩
def wh(K:ao)(e:TE)(f:Str):TE:=λj H Q=>e j H λx b=>∃a C d fs v,x=.ref a/\Rd b a (.ins C d fs)/\gg K C/\bf K C f/\fs.lookup f=some v/\Q v b
section
variable{X:Cx}{CX:fB}{k:Nat}{E:XK}{m f:Str}{pos apos:Pos}{o e:Expr}{ta:TE}{D:af->Nat->Prop}{sp:Nat->Sp}
theorem AF(he:PE X e ta)(w:attributeBase e f X.env (eval e X.env)=eval e X.env):PE X (.Attribute e f pos) (wh X.K ta f):=by
 intro aa s j H Q I h;refine R0 w (bh (he aa s j H _ I h) λu G d=>?_);obtain⟨x,i,b,A,a,C,B,fs,v,ex,p,c,n,l,q⟩:=d;subst ex;obtain rfl:u=Value.ref a:=A;obtain⟨z,O,r⟩:=wL b.aN p;obtain⟨u,y,g⟩:=cG.some_of (v:=v) (o:=z f) (by rw[<- l];exact r f);exact VO b.cJ O (c.get f) c.hd n y (Td g) ⟨v,i,b.tok _,g,q⟩
end
section
variable{X:Cx}{CX:fB}{k:Nat}{f C:af}{fd:FuncData}{ps:aj}{sp:Sp}{dvs:aw}{ds:aM}{x:Str}{p pos:Pos}{e:Expr}{es:bH}{t:TA}
def vS(C:af)(sp:Sp)(dvs:aw)(R:St->XK)(t:TA):TE:=λj H Q=>t j H λvs b=>∀x a,b x=none->b a=none->a≠x->
 sp (.ref x::(vs++dvs)) (aQ (aQ b a (.own x)) x (.ins C a [])) (λv d=>v=.aL/\Q (.ref x) d) (R j)
theorem Wu{H:Hp}{Q:VK}(M:Mk X.K C f)(F:aK X.prog X.w X.K X.mg X.base CX k f fd ps sp)(z:bw (k+1) X.A)(q:Binds X.K fd ps ds)(hd:aI dvs ds)(B:iZ CX X j E)(I:au X aa j H s)(r:aI vs us)(h:∀x d,H x=none->H d=none->d≠x->sp (.ref x::(vs++dvs)) (aQ (aQ H d (.own x)) x (.ins C d [])) (λv l=>v=.aL/\Q (.ref x) l) E):
  wpAny (model X.prog X.w) X.A (call (.ref C) us) (EP X aa j Q) X.xe s:=by
 have g:=h (s.heap.objs.size+1) s.heap.objs.size (I.aN.fresh (Nat.le_succ _)) (I.aN.fresh (le_refl _)) (ne_of_lt (Nat.lt_succ_self _));have b:=au.made (C:=C) I;have r2:aI (V.ref (s.heap.objs.size+1)::(vs++dvs)) (Value.ref (s.heap.objs.size+1)::(us++ds)):=.cons rfl (r.append hd);have y:(Value.ref (s.heap.objs.size+1)::us++ds).length=ps.length:=(r2.length.symm.trans (F.len _ _ _ _ g))
 refine wpAny_call (PL (f:=f) I.cJ M.makes M.init (beq_iff_eq.mp M.fn) (codeAny_mono (F.run _ X.stack _ _ ⟨Value.ref (s.heap.objs.size+1)::us,[]⟩ (Value.ref (s.heap.objs.size+1)::(us++ds)) _ _ E (z.make C us [])
  (b.kX.make C us []) (q _ (Value.ref (s.heap.objs.size+1)::us) b.cJ y) r2 g) λo J a=>?_))
 match o,a with
 |.error e,a=>exact B aa _ _ e J b a
 |.ok (.ret u),a=>
  obtain⟨v,i,m,G,n,D⟩:=b.after a;subst n;exact⟨G,⟨V.ref (s.heap.objs.size+1),i,m,rfl,D⟩⟩
 |.ok .next,a=>exact a.elim
 |.ok .brk,a=>exact a.elim
 |.ok .cont,a=>exact a.elim
theorem RJ{R:St->XK}(M:Mk X.K C f)(F:aK X.prog X.w X.K X.mg X.base CX k f fd ps sp)(m:bw (k+1) X.A)(l:Gl X x)(hm:X.mg x=some (.ref C))(i:Binds X.K fd ps ds)(hd:aI dvs ds)(n:∀j,iZ CX X j (R j))(g:PA X (e::es) t)(a:du x:=by decide)(he:dH e es X.env:=by rfl)(hpl:fk pos es X.env:=by rfl):
  PE X (.Call (.Name x p) (e::es) [] pos) (vS C sp dvs R t):=by
 intro aa s j H Q I h;refine wpAny_Call_Name_kw (lL I l hm ?_ a);exact W.callWith_K (h₀:=X.base) I.ok.mod.ky M.kp (bh (g pos aa s j H _ I h) λus u b=>by obtain⟨vs,o,d,r,q⟩:=b;exact⟨d.cJ,Wu M F m i hd (n j) d r q⟩) he hpl
end
def fv(P:Program)(w:World)(K:ao)(mg:bu)(base:aT)(CX:fB)(k:Nat)(m:Str)(C:af)(b:aj)(sp:Sp):Prop:=
 gg K C/\∃f a,Cd K C m f/\aK P w K mg base CX k f a b sp/\Binds K a b []
theorem fv.mono{P:Program}{w:World}{K:ao}{mg:bu}{base:aT}{CX:fB}{k a:Nat}{m:Str}{C:af}{b:aj}{sp:Sp}(h:fv P w K mg base CX k m C b sp)(le:k<=a):fv P w K mg base CX a m C b sp:=by
 obtain⟨c,f,d,hm,F,e⟩:=h;exact⟨c,f,d,hm,F.mono le,e⟩
end L2
namespace Vc
open PySem L2 Sf
section
variable{H:Hp}{Q:VK}{l:af}
theorem zy:cQ (ws++[v]) (-1)=some v:=by
 unfold cQ gZ;rw[if_neg (by decide:¬ (0:Int)<=-1),length_append,if_pos (by simp only[length_cons,length_nil];omega)];have e:((-1:Int)+((ws.length+[v].length:Nat):Int)).toNat=ws.length:=by simp only[length_cons,length_nil];omega
 rw[e];show (ws++[v])[ws.length]?=some v;rw[getElem?_append_right (le_refl _),Nat.sub_self];rfl
end
end Vc
namespace L2
open PySem PySem.Spec PyProof.Rows
def gu(K:ao)(x a:Str)(st:Stmt)(f:af):Prop:=∃b,gM K x a st f b
theorem kJ{K:ao}{x a:Str}{st:Stmt}{f:af}{oc:ai}{od an:c7}{osl:Array (d0)}{kV doc pm a7 ct:ai}(l:K.lookup f=some ⟨oc,od,.func (W.fnOf x a (nK st) (i9 st) (bD st) .none kV doc pm an a7 ct),osl⟩)(c:W.codeIn K a7 a=true)(k:W.keepIn K (.ref f)=true):gu K x a st f:=⟨_,L1 l c k⟩
theorem gu.kp{K:ao}{x a:Str}{st:Stmt}{f:af}(h:gu K x a st f):W.keepIn K (.ref f)=true:=h.choose_spec.kp
end L2
namespace Pu
open PySem L2 Vc Sf
inductive Fl where |f |o |l (k:Bool)
 deriving DecidableEq
inductive Tr where
 |int (n:Int) |bl (b:Bool) |str (s:Str) |aL |aA |ty (n:String) |cl (a:Addr) |exc (b:Addr)
 |aG (xs:List Tr) |ag (f:Fl) (xs:List Tr) |aS (f:Fl) (kvs:List (aU × Tr)) |ins (f:Fl) (c:Addr) (fs:List (Str × Tr))
abbrev av:=Tr->Prop
abbrev bA:=List (aU×Tr)
abbrev bx:=List (Str×Tr)
abbrev ah:=List Tr
abbrev aX:=ah->Prop
abbrev Cs:=List (af×HO)
mutual
/-- v stands for the tree: bo frozen parts in F,bo lent ones in B,bo own ones are the cells -/
def R(K:W.Frag)(F:Hp)(B:Bool->Hp):Tr->V->Cs->Prop
 |.int n,v,cs=>v=.int n /\ cs=[]
 |.bl b,v,cs=>v=.bl b /\ cs=[]
 |.str s,v,cs=>v=.str s /\ cs=[]
 |.aL,v,cs=>v=.aL /\ cs=[]
 |.aA,_,_=>False
 |.ty n,v,cs=>v=.ty n /\ cs=[]
 |.cl a,v,cs=>v=.ref a /\ cs=[]
 |.exc b,v,cs=>cs=[] /\ ∃a,v=.ref a /\ Rd F a (xD a b)
 |.aG xs,v,cs=>∃a vs,v=.ref a /\ df K F a vs /\ Rs K F B xs vs cs
 |.ag .f xs,v,cs=>cs=[] /\ ∃a vs,v=.ref a /\ bE K F a vs /\ Rs K F B xs vs []
 |.ag (.l k) xs,v,cs=>cs=[] /\ ∃a vs,v=.ref a /\ bE K (B k) a vs /\ Rs K F B xs vs []
 |.ag .o xs,v,cs=>∃a vs d,v=.ref a /\ cs=(a,.ag vs)::d /\ Rs K F B xs vs d
 |.aS .f xs,v,cs=>cs=[] /\ ∃a vs,v=.ref a /\ Rd F a (.dK vs) /\ Rk K F B xs vs [] /\ (xs.map (·.1)).Nodup
 |.aS (.l k) xs,v,cs=>cs=[] /\ ∃a vs,v=.ref a /\ Rd (B k) a (.dK vs) /\ Rk K F B xs vs [] /\ (xs.map (·.1)).Nodup
 |.aS .o xs,v,cs=>∃a vs d,v=.ref a /\ cs=(a,.dK vs)::d /\ Rk K F B xs vs d /\ (xs.map (·.1)).Nodup
 |.ins .f c xs,v,cs=>cs=[] /\ ∃a e vs,v=.ref a /\ Rd F a (.ins c e vs) /\ Rf K F B xs vs []
 |.ins (.l k) c xs,v,cs=>cs=[] /\ ∃a e vs,v=.ref a /\ Rd (B k) a (.ins c e vs) /\ Rf K F B xs vs []
 |.ins .o c xs,v,cs=>∃a e vs d,v=.ref a /\ cs=(a,.ins c e vs)::d /\ Rf K F B xs vs d
def Rs(K:W.Frag)(F:Hp)(B:Bool->Hp):List Tr->List V->Cs->Prop
 |[],vs,cs=>vs=[] /\ cs=[]
 |x::xs,vs,cs=>∃v r c d,vs=v::r /\ cs=c ++ d /\ R K F B x v c /\ Rs K F B xs r d
def Rk(K:W.Frag)(F:Hp)(B:Bool->Hp):List (aU×Tr)->List (aU×V)->Cs->Prop
 |[],vs,cs=>vs=[] /\ cs=[]
 |(k,x)::xs,vs,cs=>∃v r c d,vs=(k,v)::r /\ cs=c ++ d /\ R K F B x v c /\ Rk K F B xs r d
def Rf(K:W.Frag)(F:Hp)(B:Bool->Hp):List (Str×Tr)->List (Str×V)->Cs->Prop
 |[],vs,cs=>vs=[] /\ cs=[]
 |(k,x)::xs,vs,cs=>∃v r c d,vs=(k,v)::r /\ cs=c ++ d /\ R K F B x v c /\ Rf K F B xs r d
end
mutual
def aD:Tr->Tr
 |.aG a=>.aG (cP a)
 |.ag .o a=>.ag (.l true) (cP a)
 |.aS .o a=>.aS (.l true) (dJ a)
 |.ins .o c a=>.ins (.l true) c (bZ a)
 |t=>t
def cP:List Tr->List Tr
 |[]=>[] |x::xs=>aD x::cP xs
def dJ:List (aU×Tr)->List (aU×Tr)
 |[]=>[] |(k,x)::xs=>(k,aD x)::dJ xs
def bZ:List (Str×Tr)->List (Str×Tr)
 |[]=>[] |(k,x)::xs=>(k,aD x)::bZ xs
end
mutual
/-- no one changes it any more -/
def ay:Tr->Tr
 |.aG a=>.aG (bp a)
 |.ag .o a=>.ag .f (bp a)
 |.aS .o a=>.aS .f (ee a)
 |.ins .o c a=>.ins .f c (fx a)
 |t=>t
def bp:List Tr->List Tr
 |[]=>[] |x::xs=>ay x::bp xs
def ee:List (aU×Tr)->List (aU×Tr)
 |[]=>[] |(k,x)::xs=>(k,ay x)::ee xs
def fx:List (Str×Tr)->List (Str×Tr)
 |[]=>[] |(k,x)::xs=>(k,ay x)::fx xs
end
mutual
/-- nothing lent in it -/
def cE:Tr->Bool
 |.aG a=>cy a
 |.ag (.l _) _=>false
 |.aS (.l _) _=>false
 |.ins (.l _) _ _=>false
 |.ag _ a=>cy a
 |.aS _ a=>ig a
 |.ins _ _ a=>e9 a
 |_=>true
def cy:List Tr->Bool
 |[]=>true |x::xs=>cE x&&cy xs
def ig:List (aU×Tr)->Bool
 |[]=>true |(_,x)::xs=>cE x&&ig xs
def e9:List (Str×Tr)->Bool
 |[]=>true |(_,x)::xs=>cE x&&e9 xs
end
mutual
/-- nothing lent for now in it -/
def bL:Tr->Bool
 |.aG a=>cu a
 |.ag (.l true) _=>false
 |.aS (.l true) _=>false
 |.ins (.l true) _ _=>false
 |.ag _ a=>cu a
 |.aS _ a=>g0 a
 |.ins _ _ a=>fw a
 |_=>true
def cu:List Tr->Bool
 |[]=>true |x::xs=>bL x&&cu xs
def g0:List (aU×Tr)->Bool
 |[]=>true |(_,x)::xs=>bL x&&g0 xs
def fw:List (Str×Tr)->Bool
 |[]=>true |(_,x)::xs=>bL x&&fw xs
end
mutual
/-- as a callee has it: what is lent is lent to it -/
def dn:Tr->Tr
 |.aG a=>.aG (cp a)
 |.ag (.l _) a=>.ag (.l false) (cp a)
 |.aS (.l _) a=>.aS (.l false) (gX a)
 |.ins (.l _) c a=>.ins (.l false) c (iE a)
 |.ag .o a=>.ag .o (cp a)
 |.aS .o a=>.aS .o (gX a)
 |.ins .o c a=>.ins .o c (iE a)
 |.ag .f a=>.ag .f (cp a)
 |.aS .f a=>.aS .f (gX a)
 |.ins .f c a=>.ins .f c (iE a)
 |t=>t
def cp:List Tr->List Tr
 |[]=>[] |x::xs=>dn x::cp xs
def gX:List (aU×Tr)->List (aU×Tr)
 |[]=>[] |(k,x)::xs=>(k,dn x)::gX xs
def iE:List (Str×Tr)->List (Str×Tr)
 |[]=>[] |(k,x)::xs=>(k,dn x)::iE xs
end
mutual
theorem R.mo{B B':Bool->Hp}(e:Le F F')(b:∀k,Le (B k) (B' k)):∀(t:Tr){v:V}{cs:Cs},R K F B t v cs->R K F' B' t v cs
 |.int _,_,_,h=>h
 |.bl _,_,_,h=>h
 |.str _,_,_,h=>h
 |.aL,_,_,h=>h
 |.aA,_,_,h=>h
 |.ty _,_,_,h=>h
 |.cl _,_,_,h=>h
 |.exc _,_,_,y=>by obtain⟨z,a,d,g⟩:=y;exact⟨z,a,d,Le.exc e g⟩
 |.aG xs,_,_,y=>by obtain⟨a,vs,d,g,i⟩:=y;exact⟨a,vs,d,e.aG g,Rs.mo e b xs i⟩
 |.ag .f xs,_,_,y=>by obtain⟨z,a,vs,d,g,i⟩:=y;exact⟨z,a,vs,d,e.ag g,Rs.mo e b xs i⟩
 |.ag (.l k) xs,_,_,y=>by obtain⟨z,a,vs,d,g,i⟩:=y;exact⟨z,a,vs,d,(b k).ag g,Rs.mo e b xs i⟩
 |.ag .o xs,_,_,y=>by obtain⟨a,vs,j,d,g,i⟩:=y;exact⟨a,vs,j,d,g,Rs.mo e b xs i⟩
 |.aS .f xs,_,_,y=>by obtain⟨z,a,vs,d,g,i,n⟩:=y;exact⟨z,a,vs,d,e.aS g,Rk.mo e b xs i,n⟩
 |.aS (.l k) xs,_,_,y=>by obtain⟨z,a,vs,d,g,i,n⟩:=y;exact⟨z,a,vs,d,(b k).aS g,Rk.mo e b xs i,n⟩
 |.aS .o xs,_,_,y=>by obtain⟨a,vs,j,d,g,i,n⟩:=y;exact⟨a,vs,j,d,g,Rk.mo e b xs i,n⟩
 |.ins .f _ xs,_,_,y=>by obtain⟨z,a,m,vs,d,g,i⟩:=y;exact⟨z,a,m,vs,d,e _ _ (by intro _ _ z;cases z) g,Rf.mo e b xs i⟩
 |.ins (.l k) _ xs,_,_,y=>by obtain⟨z,a,m,vs,d,g,i⟩:=y;exact⟨z,a,m,vs,d,b k _ _ (by intro _ _ z;cases z) g,Rf.mo e b xs i⟩
 |.ins .o _ xs,_,_,y=>by obtain⟨a,m,vs,j,d,g,i⟩:=y;exact⟨a,m,vs,j,d,g,Rf.mo e b xs i⟩
theorem Rs.mo{B B':Bool->Hp}(e:Le F F')(b:∀k,Le (B k) (B' k)):∀(t:List Tr){v:List V}{cs:Cs},Rs K F B t v cs->Rs K F' B' t v cs
 |[],_,_,h=>h
 |x::xs,_,_,y=>by obtain⟨v,r,c,d,a,f,g,i⟩:=y;exact⟨v,r,c,d,a,f,R.mo e b x g,Rs.mo e b xs i⟩
theorem Rk.mo{B B':Bool->Hp}(e:Le F F')(b:∀k,Le (B k) (B' k)):∀(t:List (aU×Tr)){v:List (aU×V)}{cs:Cs},Rk K F B t v cs->Rk K F' B' t v cs
 |[],_,_,h=>h
 |(_,x)::xs,_,_,y=>by obtain⟨v,r,c,d,a,f,g,i⟩:=y;exact⟨v,r,c,d,a,f,R.mo e b x g,Rk.mo e b xs i⟩
theorem Rf.mo{B B':Bool->Hp}(e:Le F F')(b:∀k,Le (B k) (B' k)):∀(t:List (Str×Tr)){v:List (Str×V)}{cs:Cs},Rf K F B t v cs->Rf K F' B' t v cs
 |[],_,_,h=>h
 |(_,x)::xs,_,_,y=>by obtain⟨v,r,c,d,a,f,g,i⟩:=y;exact⟨v,r,c,d,a,f,R.mo e b x g,Rf.mo e b xs i⟩
end
section
mutual
theorem R.aD(b:∀k,Le (B k) (B' k)):∀(t:Tr){v:V}{cs:Cs},R K F B t v cs->(∀p∈cs,B' true p.1=some p.2)->R K F B' (aD t) v []
 |.int _,_,_,y,_=>by obtain⟨h,_⟩:=y;exact⟨h,rfl⟩
 |.bl _,_,_,y,_=>by obtain⟨h,_⟩:=y;exact⟨h,rfl⟩
 |.str _,_,_,y,_=>by obtain⟨h,_⟩:=y;exact⟨h,rfl⟩
 |.aL,_,_,y,_=>by obtain⟨h,_⟩:=y;exact⟨h,rfl⟩
 |.aA,_,_,h,_=>h.elim
 |.ty _,_,_,y,_=>by obtain⟨h,_⟩:=y;exact⟨h,rfl⟩
 |.cl _,_,_,y,_=>by obtain⟨h,_⟩:=y;exact⟨h,rfl⟩
 |.exc _,_,_,y,_=>by obtain⟨_,a,h,r⟩:=y;exact⟨rfl,a,h,r⟩
 |.aG xs,_,_,y,m=>by obtain⟨a,vs,e,d,g⟩:=y;exact⟨a,vs,e,d,Rs.aD b xs g m⟩
 |.ag .f xs,_,_,y,_=>by obtain⟨z,a,vs,e,d,g⟩:=y;exact⟨rfl,a,vs,e,d,Rs.mo (Le.refl F) b xs g⟩
 |.ag (.l k) xs,_,_,y,_=>by obtain⟨z,a,vs,e,d,g⟩:=y;exact⟨rfl,a,vs,e,(b k).ag d,Rs.mo (Le.refl F) b xs g⟩
 |.ag .o xs,_,_,y,m=>by obtain⟨a,vs,n,e,d,g⟩:=y;exact⟨rfl,a,vs,e,bE.of (m (a,.ag vs) (by rw[d];exact .head _)),Rs.aD b xs g λp q=>m p (by rw[d];exact .tail _ q)⟩
 |.aS .f xs,_,_,y,_=>by obtain⟨z,a,vs,e,d,g,j⟩:=y;exact⟨rfl,a,vs,e,d,Rk.mo (Le.refl F) b xs g,j⟩
 |.aS (.l k) xs,_,_,y,_=>by obtain⟨z,a,vs,e,d,g,j⟩:=y;exact⟨rfl,a,vs,e,(b k).aS d,Rk.mo (Le.refl F) b xs g,j⟩
 |.aS .o xs,_,_,y,m=>by obtain⟨a,vs,n,e,d,g,j⟩:=y;exact⟨rfl,a,vs,e,Rd.of (m (a,.dK vs) (by rw[d];exact .head _)),Rk.aD b xs g λp q=>m p (by rw[d];exact .tail _ q),by rw[eW];exact j⟩
 |.ins .f _ xs,_,_,y,_=>by obtain⟨z,a,i,vs,e,d,g⟩:=y;exact⟨rfl,a,i,vs,e,d,Rf.mo (Le.refl F) b xs g⟩
 |.ins (.l k) _ xs,_,_,y,_=>by obtain⟨z,a,i,vs,e,d,g⟩:=y;exact⟨rfl,a,i,vs,e,b k _ _ (by intro _ _ z;cases z) d,Rf.mo (Le.refl F) b xs g⟩
 |.ins .o _ xs,_,_,y,m=>by obtain⟨a,i,vs,n,e,d,g⟩:=y;exact⟨rfl,a,i,vs,e,Rd.of (m (a,.ins _ i vs) (by rw[d];exact .head _)),Rf.aD b xs g λp q=>m p (by rw[d];exact .tail _ q)⟩
theorem Rs.aD(b:∀k,Le (B k) (B' k)):∀(t:List Tr){v:List V}{cs:Cs},Rs K F B t v cs->(∀p∈cs,B' true p.1=some p.2)->Rs K F B' (cP t) v []
 |[],_,_,y,_=>by obtain⟨h,_⟩:=y;exact⟨h,rfl⟩
 |x::xs,_,_,y,m=>by obtain⟨v,r,c,d,e,a,f,g⟩:=y;exact⟨v,r,[],[],e,rfl,R.aD b x f λp q=>m p (by rw[a];exact mem_append.mpr (.inl q)),Rs.aD b xs g λp q=>m p (by rw[a];exact mem_append.mpr (.inr q))⟩
theorem Rk.aD(b:∀k,Le (B k) (B' k)):∀(t:List (aU×Tr)){v:List (aU×V)}{cs:Cs},Rk K F B t v cs->(∀p∈cs,B' true p.1=some p.2)->Rk K F B' (dJ t) v []
 |[],_,_,y,_=>by obtain⟨h,_⟩:=y;exact⟨h,rfl⟩
 |(_,x)::xs,_,_,y,m=>by obtain⟨v,r,c,d,e,a,f,g⟩:=y;exact⟨v,r,[],[],e,rfl,R.aD b x f λp q=>m p (by rw[a];exact mem_append.mpr (.inl q)),Rk.aD b xs g λp q=>m p (by rw[a];exact mem_append.mpr (.inr q))⟩
theorem Rf.aD(b:∀k,Le (B k) (B' k)):∀(t:List (Str×Tr)){v:List (Str×V)}{cs:Cs},Rf K F B t v cs->(∀p∈cs,B' true p.1=some p.2)->Rf K F B' (bZ t) v []
 |[],_,_,y,_=>by obtain⟨h,_⟩:=y;exact⟨h,rfl⟩
 |(_,x)::xs,_,_,y,m=>by obtain⟨v,r,c,d,e,a,f,g⟩:=y;exact⟨v,r,[],[],e,rfl,R.aD b x f λp q=>m p (by rw[a];exact mem_append.mpr (.inl q)),Rf.aD b xs g λp q=>m p (by rw[a];exact mem_append.mpr (.inr q))⟩
theorem eW:∀(xs:List (aU×Tr)),(dJ xs).map (·.1)=xs.map (·.1)
 |[]=>rfl
 |(_,_)::xs=>by show _::_=_::_;rw[eW xs]
end
theorem z4:∀(xs:bA),(ee xs).map (·.1)=xs.map (·.1)
 |[]=>rfl
 |(_,_)::xs=>by show _::_=_::_;rw[z4 xs]
mutual
/-- without lent parts B is not asked -/
theorem R.base:∀(t:Tr){v:V}{cs:Cs},cE t=true->R K F B t v cs->R K F B' t v cs
 |.int _,_,_,_,h=>h
 |.bl _,_,_,_,h=>h
 |.str _,_,_,_,h=>h
 |.aL,_,_,_,h=>h
 |.aA,_,_,_,h=>h
 |.ty _,_,_,_,h=>h
 |.cl _,_,_,_,h=>h
 |.exc _,_,_,_,h=>h
 |.aG xs,_,_,n,y=>by obtain⟨a,vs,b,d,e⟩:=y;exact⟨a,vs,b,d,Rs.base xs n e⟩
 |.ag .f xs,_,_,n,y=>by obtain⟨z,a,vs,b,d,e⟩:=y;exact⟨z,a,vs,b,d,Rs.base xs n e⟩
 |.ag (.l k) xs,_,_,n,_=>by cases n
 |.ag .o xs,_,_,n,y=>by obtain⟨a,vs,g,b,d,e⟩:=y;exact⟨a,vs,g,b,d,Rs.base xs n e⟩
 |.aS .f xs,_,_,n,y=>by obtain⟨z,a,vs,b,d,e,j⟩:=y;exact⟨z,a,vs,b,d,Rk.base xs n e,j⟩
 |.aS (.l k) xs,_,_,n,_=>by cases n
 |.aS .o xs,_,_,n,y=>by obtain⟨a,vs,g,b,d,e,j⟩:=y;exact⟨a,vs,g,b,d,Rk.base xs n e,j⟩
 |.ins .f _ xs,_,_,n,y=>by obtain⟨z,a,i,vs,b,d,e⟩:=y;exact⟨z,a,i,vs,b,d,Rf.base xs n e⟩
 |.ins (.l k) _ xs,_,_,n,_=>by cases n
 |.ins .o _ xs,_,_,n,y=>by obtain⟨a,i,vs,g,b,d,e⟩:=y;exact⟨a,i,vs,g,b,d,Rf.base xs n e⟩
theorem Rs.base:∀(t:List Tr){v:List V}{cs:Cs},cy t=true->Rs K F B t v cs->Rs K F B' t v cs
 |[],_,_,_,h=>h
 |x::xs,_,_,n,y=>by
  obtain⟨v,r,c,d,a,b,e,f⟩:=y;rw[cy,and_eq_true] at n;exact⟨v,r,c,d,a,b,R.base x n.1 e,Rs.base xs n.2 f⟩
theorem Rk.base:∀(t:List (aU×Tr)){v:List (aU×V)}{cs:Cs},ig t=true->Rk K F B t v cs->Rk K F B' t v cs
 |[],_,_,_,h=>h
 |(_,x)::xs,_,_,n,y=>by
  obtain⟨v,r,c,d,a,b,e,f⟩:=y;rw[ig,and_eq_true] at n;exact⟨v,r,c,d,a,b,R.base x n.1 e,Rk.base xs n.2 f⟩
theorem Rf.base:∀(t:List (Str×Tr)){v:List (Str×V)}{cs:Cs},e9 t=true->Rf K F B t v cs->Rf K F B' t v cs
 |[],_,_,_,h=>h
 |(_,x)::xs,_,_,n,y=>by
  obtain⟨v,r,c,d,a,b,e,f⟩:=y;rw[e9,and_eq_true] at n;exact⟨v,r,c,d,a,b,R.base x n.1 e,Rf.base xs n.2 f⟩
end
mutual
theorem R.ay(b:Le F F'):∀(t:Tr){v:V}{cs:Cs},R K F B t v cs->(∀p∈cs,F' p.1=some p.2)->R K F' B (ay t) v []
 |.int _,_,_,y,_=>by obtain⟨h,_⟩:=y;exact⟨h,rfl⟩
 |.bl _,_,_,y,_=>by obtain⟨h,_⟩:=y;exact⟨h,rfl⟩
 |.str _,_,_,y,_=>by obtain⟨h,_⟩:=y;exact⟨h,rfl⟩
 |.aL,_,_,y,_=>by obtain⟨h,_⟩:=y;exact⟨h,rfl⟩
 |.aA,_,_,h,_=>h.elim
 |.ty _,_,_,y,_=>by obtain⟨h,_⟩:=y;exact⟨h,rfl⟩
 |.cl _,_,_,y,_=>by obtain⟨h,_⟩:=y;exact⟨h,rfl⟩
 |.exc _,_,_,y,_=>by obtain⟨_,a,h,r⟩:=y;exact⟨rfl,a,h,Le.exc b r⟩
 |.aG xs,_,_,y,m=>by obtain⟨a,vs,e,d,g⟩:=y;exact⟨a,vs,e,b.aG d,Rs.ay b xs g m⟩
 |.ag .f xs,_,_,y,_=>by obtain⟨z,a,vs,e,d,g⟩:=y;exact⟨rfl,a,vs,e,b.ag d,Rs.mo b (λk=>Le.refl (B k)) xs g⟩
 |.ag (.l k) xs,_,_,y,_=>by obtain⟨z,a,vs,e,d,g⟩:=y;exact⟨rfl,a,vs,e,d,Rs.mo b (λk=>Le.refl (B k)) xs g⟩
 |.ag .o xs,_,_,y,m=>by obtain⟨a,vs,n,e,d,g⟩:=y;exact⟨rfl,a,vs,e,bE.of (m (a,.ag vs) (by rw[d];exact .head _)),Rs.ay b xs g λp q=>m p (by rw[d];exact .tail _ q)⟩
 |.aS .f xs,_,_,y,_=>by obtain⟨z,a,vs,e,d,g,j⟩:=y;exact⟨rfl,a,vs,e,b.aS d,Rk.mo b (λk=>Le.refl (B k)) xs g,j⟩
 |.aS (.l k) xs,_,_,y,_=>by obtain⟨z,a,vs,e,d,g,j⟩:=y;exact⟨rfl,a,vs,e,d,Rk.mo b (λk=>Le.refl (B k)) xs g,j⟩
 |.aS .o xs,_,_,y,m=>by obtain⟨a,vs,n,e,d,g,j⟩:=y;exact⟨rfl,a,vs,e,Rd.of (m (a,.dK vs) (by rw[d];exact .head _)),Rk.ay b xs g λp q=>m p (by rw[d];exact .tail _ q),by rw[z4];exact j⟩
 |.ins .f _ xs,_,_,y,_=>by obtain⟨z,a,i,vs,e,d,g⟩:=y;exact⟨rfl,a,i,vs,e,b _ _ (by intro _ _ z;cases z) d,Rf.mo b (λk=>Le.refl (B k)) xs g⟩
 |.ins (.l k) _ xs,_,_,y,_=>by obtain⟨z,a,i,vs,e,d,g⟩:=y;exact⟨rfl,a,i,vs,e,d,Rf.mo b (λk=>Le.refl (B k)) xs g⟩
 |.ins .o _ xs,_,_,y,m=>by obtain⟨a,i,vs,n,e,d,g⟩:=y;exact⟨rfl,a,i,vs,e,Rd.of (m (a,.ins _ i vs) (by rw[d];exact .head _)),Rf.ay b xs g λp q=>m p (by rw[d];exact .tail _ q)⟩
theorem Rs.ay(b:Le F F'):∀(t:List Tr){v:List V}{cs:Cs},Rs K F B t v cs->(∀p∈cs,F' p.1=some p.2)->Rs K F' B (bp t) v []
 |[],_,_,y,_=>by obtain⟨h,_⟩:=y;exact⟨h,rfl⟩
 |x::xs,_,_,y,m=>by obtain⟨v,r,c,d,e,a,f,g⟩:=y;exact⟨v,r,[],[],e,rfl,R.ay b x f λp q=>m p (by rw[a];exact mem_append.mpr (.inl q)),Rs.ay b xs g λp q=>m p (by rw[a];exact mem_append.mpr (.inr q))⟩
theorem Rk.ay(b:Le F F'):∀(t:List (aU×Tr)){v:List (aU×V)}{cs:Cs},Rk K F B t v cs->(∀p∈cs,F' p.1=some p.2)->Rk K F' B (ee t) v []
 |[],_,_,y,_=>by obtain⟨h,_⟩:=y;exact⟨h,rfl⟩
 |(_,x)::xs,_,_,y,m=>by obtain⟨v,r,c,d,e,a,f,g⟩:=y;exact⟨v,r,[],[],e,rfl,R.ay b x f λp q=>m p (by rw[a];exact mem_append.mpr (.inl q)),Rk.ay b xs g λp q=>m p (by rw[a];exact mem_append.mpr (.inr q))⟩
theorem Rf.ay(b:Le F F'):∀(t:List (Str×Tr)){v:List (Str×V)}{cs:Cs},Rf K F B t v cs->(∀p∈cs,F' p.1=some p.2)->Rf K F' B (fx t) v []
 |[],_,_,y,_=>by obtain⟨h,_⟩:=y;exact⟨h,rfl⟩
 |(_,x)::xs,_,_,y,m=>by obtain⟨v,r,c,d,e,a,f,g⟩:=y;exact⟨v,r,[],[],e,rfl,R.ay b x f λp q=>m p (by rw[a];exact mem_append.mpr (.inl q)),Rf.ay b xs g λp q=>m p (by rw[a];exact mem_append.mpr (.inr q))⟩
end
def Plain(cs:Cs):Prop:=∀p∈cs,∀x u,p.2≠HO.ay x u
theorem Plain.nil:Plain []:=λ_ h=>nomatch h
theorem Plain.cons{a:af}{o:HO}{cs:Cs}(h:∀x u,o≠HO.ay x u)(t:Plain cs):Plain ((a,o)::cs):=λp m=>by
 cases m with
 |head=>exact h
 |tail _ m=>exact t p m
theorem Plain.app(h:Plain c)(t:Plain d):Plain (c++d):=λp m=>(mem_append.mp m).elim (h p) (t p)
mutual
theorem R.plain:∀(t:Tr){v:V}{cs:Cs},R K F B t v cs->Plain cs
 |.int _,_,_,y=>by obtain⟨_,h⟩:=y;rw[h];exact .nil
 |.bl _,_,_,y=>by obtain⟨_,h⟩:=y;rw[h];exact .nil
 |.str _,_,_,y=>by obtain⟨_,h⟩:=y;rw[h];exact .nil
 |.aL,_,_,y=>by obtain⟨_,h⟩:=y;rw[h];exact .nil
 |.aA,_,_,h=>h.elim
 |.ty _,_,_,y=>by obtain⟨_,h⟩:=y;rw[h];exact .nil
 |.cl _,_,_,y=>by obtain⟨_,h⟩:=y;rw[h];exact .nil
 |.exc _,_,_,y=>by obtain⟨h,_⟩:=y;rw[h];exact .nil
 |.aG xs,_,_,y=>by obtain⟨a,vs,e,d,b⟩:=y;exact Rs.plain xs b
 |.ag .f xs,_,_,y=>by obtain⟨z,_⟩:=y;rw[z];exact .nil
 |.ag (.l k) xs,_,_,y=>by obtain⟨z,_⟩:=y;rw[z];exact .nil
 |.ag .o xs,_,_,y=>by obtain⟨a,vs,g,e,d,b⟩:=y;rw[d];exact .cons (by intro _ _ z;cases z) (Rs.plain xs b)
 |.aS .f xs,_,_,y=>by obtain⟨z,_⟩:=y;rw[z];exact .nil
 |.aS (.l k) xs,_,_,y=>by obtain⟨z,_⟩:=y;rw[z];exact .nil
 |.aS .o xs,_,_,y=>by obtain⟨a,vs,g,e,d,b,_⟩:=y;rw[d];exact .cons (by intro _ _ z;cases z) (Rk.plain xs b)
 |.ins .f _ xs,_,_,y=>by obtain⟨z,_⟩:=y;rw[z];exact .nil
 |.ins (.l k) _ xs,_,_,y=>by obtain⟨z,_⟩:=y;rw[z];exact .nil
 |.ins .o _ xs,_,_,y=>by obtain⟨a,i,vs,g,e,d,b⟩:=y;rw[d];exact .cons (by intro _ _ z;cases z) (Rf.plain xs b)
theorem Rs.plain:∀(t:List Tr){v:List V}{cs:Cs},Rs K F B t v cs->Plain cs
 |[],_,_,y=>by obtain⟨_,h⟩:=y;rw[h];exact .nil
 |x::xs,_,_,y=>by obtain⟨v,r,c,d,f,a,b,e⟩:=y;rw[a];exact (R.plain x b).app (Rs.plain xs e)
theorem Rk.plain:∀(t:List (aU×Tr)){v:List (aU×V)}{cs:Cs},Rk K F B t v cs->Plain cs
 |[],_,_,y=>by obtain⟨_,h⟩:=y;rw[h];exact .nil
 |(_,x)::xs,_,_,y=>by obtain⟨v,r,c,d,f,a,b,e⟩:=y;rw[a];exact (R.plain x b).app (Rk.plain xs e)
theorem Rf.plain:∀(t:List (Str×Tr)){v:List (Str×V)}{cs:Cs},Rf K F B t v cs->Plain cs
 |[],_,_,y=>by obtain⟨_,h⟩:=y;rw[h];exact .nil
 |(_,x)::xs,_,_,y=>by obtain⟨v,r,c,d,f,a,b,e⟩:=y;rw[a];exact (R.plain x b).app (Rf.plain xs e)
end
structure ar(F H:Hp)(cs:Cs):Prop where
 h:∀p∈cs,H p.1=some p.2
 f:∀p∈cs,F p.1=none
 nd:(cs.map (·.1)).Nodup
theorem ar.nil:ar F H []:=⟨λ_ h=>(nomatch h),λ_ h=>(nomatch h),List.nodup_nil⟩
theorem ar.gr(c:ar F H cs)(g:Gr F H F' H'):ar F' H' cs:=⟨λp m=>g.h _ _ (c.h p m),λp m=>g.own (c.f p m) (c.h p m),c.nd⟩
def cY(H:Hp)(cs:Cs):Prop:=∀p∈cs,H p.1=none
theorem cY.nil:cY H []:=λ_ h=>nomatch h
theorem cY.back(s:aC H H')(n:cY H' cs):cY H cs:=λp m=>s.free (n p m)
theorem ar.app(h:ar F H c)(t:ar F H d)(n:∀p∈c,∀q∈d,p.1≠q.1):ar F H (c++d):=
 ⟨λp m=>(mem_append.mp m).elim (h.h p) (t.h p),λp m=>(mem_append.mp m).elim (h.f p) (t.f p),by
  rw[map_append,nodup_append];refine⟨h.nd,t.nd,λa e b g=>?_⟩;obtain⟨p,i,rfl⟩:=mem_map.mp e;obtain⟨q,j,rfl⟩:=mem_map.mp g;exact n p i q j⟩
theorem ar.left(h:ar F H (c++d)):ar F H c:=⟨λp m=>h.h p (mem_append.mpr (.inl m)),λp m=>h.f p (mem_append.mpr (.inl m)),by have:=h.nd;rw[map_append,nodup_append] at this;exact this.1⟩
theorem ar.right(h:ar F H (c++d)):ar F H d:=⟨λp m=>h.h p (mem_append.mpr (.inr m)),λp m=>h.f p (mem_append.mpr (.inr m)),by have:=h.nd;rw[map_append,nodup_append] at this;exact this.2.1⟩
structure Out(K:ao)(F:Hp)(B:Bool->Hp)(H F' H':Hp)(t:Tr)(v:V)(cs:Cs):Prop where
 g:Gr F H F' H'
 r:R K F' B t v cs
 c:ar F' H' cs
 n:cY H cs
structure eH(K:ao)(F:Hp)(B:Bool->Hp)(H F' H':Hp)(t:ah)(v:aw)(cs:Cs):Prop where
 g:Gr F H F' H'
 r:Rs K F' B t v cs
 c:ar F' H' cs
 n:cY H cs
def dS(K:ao)(F:Hp)(B:Bool->Hp)(j:St)(G:ah):Prop:=∀(i:Nat)(t:Tr),G[i]?=some t->t=.aA\/∃v,j[i]?=some (some v)/\R K F B t v []
theorem dS.mo(e:dS K F B j G)(l:Le F F')(b:∀k,Le (B k) (B' k)):dS K F' B' j G:=λi t h=>(e i t h).imp id λ⟨v,h1,h2⟩=>⟨v,h1,h2.mo l b t⟩
abbrev aY:=ah->(av)->Prop
abbrev b8:=ah->(aX)->Prop
abbrev d6:=ah->(Bool->Prop)->Prop
structure Md where
 z:Bool
 E:St->XK
 q:ai->Prop
def Md.fV(k:Md):Md:=⟨k.z,k.E,λ_=>False⟩
def Md.walk(k:Md):Md:=⟨false,k.E,λ_=>False⟩
def Md.base(b:Bool):Md:=⟨b,λ_=>E0,λ_=>False⟩
structure gE(K:ao)(k:Md)(F:Hp)(B:Bool->Hp)(H:Hp)(j:St)(i:ah):Prop where
 s:aC F H
 b:∀k,aC (B k) H
 z:k.z=true->Fz S0 F
 e:dS K F B j i
 x:∀cls F' H',k.q cls->Gr F H F' H'->k.E j cls none H'
theorem _root_.Vc.Gr.aO(s:aC F H):Gr F H F H:=Gr.of (Gr0.refl s) (Fz.refl F)
theorem _root_.Vc.Gr.trans'(a:Gr F H F' H')(b:Gr F' H' F2 H2):Gr F H F2 H2:=Gr.of (a.toGr0.tr b) (b.fz a.z)
theorem gE.gr(c:gE K k F B H j i)(g:Gr F H a d):gE K k a B d j i:=⟨g.s,λk=>(c.b k).trans g.h,λh=>g.fz (c.z h),c.e.mo g.le (λk=>Le.refl (B k)),λf a d q l=>c.x f a d q (g.trans' l)⟩
def bC(K:ao)(k:Md)(f:TE)(pe:aY):Prop:=∀(F:Hp)(B:Bool->Hp)(H:Hp)(j:St)(i:ah)(Q:VK)(b:av),gE K k F B H j i->pe i b->(∀t v d a e,b t->Out K F B H d a t v e->Q v a)->f j H Q
def eJ(K:ao)(k:Md)(f:TA)(pe:b8):Prop:=∀(F:Hp)(B:Bool->Hp)(H:Hp)(j:St)(i:ah)(Q:aw->Hp->Prop)(b:aX),gE K k F B H j i->pe i b->(∀t v d a e,b t->eH K F B H d a t v e->Q v a)->f j H Q
def fS(K:ao)(k:Md)(f:TT)(pe:d6):Prop:=∀(F:Hp)(B:Bool->Hp)(H:Hp)(j:St)(i:ah)(Q:Bool->Hp->Prop)(d:Bool->Prop),gE K k F B H j i->pe i d->(∀b e a,d b->Gr F H e a->Q b a)->f j H Q
theorem Out.same(s:aC F H)(r:R K F B t v []):Out K F B H F H t v []:=⟨Gr.aO s,r,.nil,.nil⟩
def kz(i:Nat):aY:=λj Q=>match j[i]? with |some .aA=>False |some t=>Q t |none=>False
theorem ML(i:Nat):bC K k (f7 i) (kz i):=λF B H j G Q d c p q=>by
 unfold kz at p;cases h:G[i]? with
 |none=>rw[h] at p;exact p.elim
 |some t=>
  rcases c.e i t h with rfl |⟨v,a,b⟩
  .rw[h] at p;exact p.elim
  .refine⟨v,a,q t v F H [] ?_ (Out.same c.s b)⟩;rw[h] at p;cases t with
   |aA=>exact p.elim
   |_=>exact p
def pC(t:Tr):aY:=λ_ Q=>Q t
theorem oA(h:∀F B,R K F B t v []):bC K k (tC v) (pC t):=λF B H j i Q a c p q=>q t v F H [] p (Out.same c.s (h F B))
theorem UP:bC K k (tC (.int n)) (pC (.int n)):=oA λ_ _=>⟨rfl,rfl⟩
theorem Jo:bC K k (tC (.str n)) (pC (.str n)):=oA λ_ _=>⟨rfl,rfl⟩
theorem IF:bC K k (tC (.bl n)) (pC (.bl n)):=oA λ_ _=>⟨rfl,rfl⟩
theorem Sx:bC K k (tC .aL) (pC .aL):=oA λ_ _=>⟨rfl,rfl⟩
def p2(d:Tr->Tr->(av)->Prop)(a b:aY):aY:=λj Q=>a j λx=>b j λy=>d x y Q
def eK(K:ao)(k:Md)(r:R2)(i:Tr->Tr->(av)->Prop):Prop:=∀(F:Hp)(B:Bool->Hp)(H:Hp)(x y:V)(h ty:Tr)(a b:Cs)(Q:VK)(g:av),aC F H->(∀k,aC (B k) H)->(k.z=true->Fz S0 F)->R K F B h x a->R K F B ty y b->ar F H a->ar F H b->(∀p∈a,∀q∈b,p.1≠q.1)->i h ty g->
 (∀t v d e f,g t->Gr F H d e->R K d B t v f->ar d e f->(∀p∈f,H p.1=none\/p∈a\/p∈b)->Q v e)->r x y H Q
theorem rh(o:eK K k r pr)(M:bC K k ta pa)(N:bC K k tb pb):bC K k (mW r ta tb) (p2 pr pa pb):=λF B H j i Q E c p q=>by
 refine M F B H j i _ _ c p λx v f A I p1 d=>?_
 refine N f B A j i _ _ (c.gr d.g) p1 λy u l C J p2 a=>?_
 refine o l B C v u x y I J Q E a.g.s (λk=>((c.b k).trans d.g.h).trans a.g.h) (λh=>a.g.fz (d.g.fz (c.z h))) (d.r.mo a.g.le (λk=>Le.refl (B k)) x) a.r (d.c.gr a.g) a.c (λp O q U e=>by have:=d.c.h p O;rw[e,a.n q U] at this;cases this) p2 λt v' w D L Y g r' G n=>?_
 refine q t v' w D L Y ⟨(d.g.trans' a.g).trans' g,r',G,λp m=>?_⟩;rcases n p m with z |z |z
 .exact (d.g.h.trans a.g.h).free z
 .exact d.n p z
 .exact d.g.h.free (a.n p z)
def p1(b:Tr->(av)->Prop)(a:aY):aY:=λj Q=>a j λx=>b x Q
def Fj(K:ao)(k:Md)(r:V->Hp->VK->Prop)(h:Tr->(av)->Prop):Prop:=∀(F:Hp)(B:Bool->Hp)(H:Hp)(x:V)(g:Tr)(e:Cs)(Q:VK)(f:av),aC F H->(∀k,aC (B k) H)->(k.z=true->Fz S0 F)->R K F B g x e->ar F H e->h g f->
 (∀t v a b d,f t->Gr F H a b->R K a B t v d->ar a b d->(∀p∈d,H p.1=none\/p∈e)->Q v b)->r x H Q
theorem GW(o:Fj K k r pr)(C:bC K k ta pa):bC K k (Fe r ta) (p1 pr pa):=λF B H j i Q u c p q=>by
 refine C F B H j i _ _ c p λx v d f y p1 a=>?_
 refine o d B f v x y Q u a.g.s (λk=>(c.b k).trans a.g.h) (λh=>a.g.fz (c.z h)) a.r a.c p1 λt G e l A D g E w n=>?_
 refine q t G e l A D ⟨a.g.trans' g,E,w,λp m=>?_⟩;rcases n p m with z |z
 .exact a.g.h.free z
 .exact a.n p z
def qm:b8:=λ_ Q=>Q []
def qe(pe:aY)(a:b8):b8:=λj Q=>pe j λx=>a j λb=>Q (x::b)
theorem Gy:eJ K k iU qm:=λF B H j i Q a c p q=>q [] [] F H [] p ⟨Gr.aO c.s,⟨rfl,rfl⟩,.nil,.nil⟩
theorem Oh(h:bC K k te pe)(w:eJ K k ta pa):eJ K k (iS te ta) (qe pe pa):=λF B H j i Q C c p q=>by
 refine h F B H j i _ _ c p λx v l s d p1 a=>?_
 refine w l B s j i _ _ (c.gr a.g) p1 λA vs o u f p2 b=>?_
 refine q (x::A) (v::vs) o u (d++f) p2 ⟨a.g.trans' b.g,⟨v,vs,d,f,rfl,rfl,a.r.mo b.g.le (λk=>Le.refl (B k)) x,b.r⟩,(a.c.gr b.g).app b.c λp y q z e=>?_,λp m=>?_⟩
 .have:=a.c.h p y;rw[e,b.n q z] at this;cases this
 .rcases mem_append.mp m with m |m
  .exact a.n p m
  .exact a.g.h.free (b.n p m)
theorem Rs.length:∀{t:ah}{v:aw}{cs:Cs},Rs K F B t v cs->v.length=t.length
 |[],_,_,y=>by obtain⟨h,_⟩:=y;rw[h];rfl
 |x::xs,_,_,y=>by obtain⟨v,r,c,d,a,e,f,b⟩:=y;rw[a,length_cons,length_cons,Rs.length b]
theorem Rs.at:∀{t:ah}{v:aw}{cs:Cs}{i:Nat}{x:Tr},Rs K F B t v cs->t[i]?=some x->∃u c,v[i]?=some u/\R K F B x u c/\∀p∈c,p∈cs
 |x::xs,_,_,0,y,y0,h=>by
  obtain⟨v,r,c,d,a,b,f,g⟩:=y0;cases h;exact⟨v,c,by rw[a];rfl,f,λp m=>by rw[b];exact mem_append.mpr (.inl m)⟩
 |x::xs,_,_,i + 1,y,y0,h=>by
  obtain⟨v,r,c,d,a,b,f,g⟩:=y0;obtain⟨u,e,j,l,n⟩:=Rs.at (i:=i) g h;exact⟨u,e,by rw[a];exact j,l,λp m=>by rw[b];exact mem_append.mpr (.inr (n p m))⟩
theorem Rs.at':∀{t:ah}{v:aw}{cs:Cs}{i:Nat}{x:Tr},Rs K F B t v cs->ar F H cs->t[i]?=some x->∃u c,v[i]?=some u/\R K F B x u c/\ar F H c/\∀p∈c,p∈cs
 |x::xs,_,_,0,y,y0,hc,h=>by
  obtain⟨v,r,c,d,b,a,f,g⟩:=y0;cases h;rw[a] at hc;exact⟨v,c,by rw[b];rfl,f,hc.left,λp m=>by rw[a];exact mem_append.mpr (.inl m)⟩
 |x::xs,_,_,i + 1,y,y0,hc,h=>by
  obtain⟨v,r,c,d,b,a,f,g⟩:=y0;rw[a] at hc;obtain⟨u,e,j,l,n,o⟩:=Rs.at' (i:=i) g hc.right h;exact⟨u,e,by rw[b];exact j,l,n,λp m=>by rw[a];exact mem_append.mpr (.inr (o p m))⟩
theorem Rk.keys:∀{t:bA}{v:bT}{cs:Cs},Rk K F B t v cs->v.map (·.1)=t.map (·.1)
 |[],_,_,y=>by obtain⟨h,_⟩:=y;rw[h];rfl
 |(k,x)::xs,_,_,y=>by obtain⟨v,r,c,d,a,e,f,b⟩:=y;rw[a,map_cons,map_cons,Rk.keys b]
theorem Rk.length(h:Rk K F B t v cs):v.length=t.length:=by have:=congrArg List.length h.keys;simpa using this
def look(m:bA)(k:aU):Option Tr:=(m.find? λp=>decide (p.1=k)).map (·.2)
theorem Rk.look:∀{t:bA}{v:bT}{cs:Cs}(k:aU),Rk K F B t v cs->ar F H cs->(look t k=none/\gN v k=none)\/∃x u c,look t k=some x/\gN v k=some u/\R K F B x u c/\ar F H c/\∀p∈c,p∈cs
 |[],_,_,k,y,_=>by obtain⟨h,_⟩:=y;exact .inl ⟨rfl,by rw[h];rfl⟩
 |(k',x)::xs,_,_,k,y,hc=>by
  obtain⟨v,r,c,d,b,a,q,s⟩:=y;rw[a] at hc;by_cases e:k'=k
  .refine .inr ⟨x,v,c,?_,?_,q,hc.left,λp m=>by rw[a];exact mem_append.mpr (.inl m)⟩
   .unfold Pu.look;rw[List.find?_cons_of_pos (by simpa using e)];rfl
   .unfold gN;rw[b,List.find?_cons_of_pos (by simpa using e)];rfl
  .have e1:Pu.look ((k',x)::xs) k=Pu.look xs k:=by unfold Pu.look;rw[List.find?_cons_of_neg (by simpa using e)]
   have o:gN ((k',v)::r) k=gN r k:=by unfold gN;rw[List.find?_cons_of_neg (by simpa using e)]
   rw[b,e1,o];rcases Rk.look (t:=xs) (v:=r) (cs:=d) k s hc.right with z |⟨y,u,n,f,g,i,j,l⟩
   .exact .inl z
   .exact .inr ⟨y,u,n,f,g,i,j,λp m=>by rw[a];exact mem_append.mpr (.inr (l p m))⟩
theorem R.cv(s:aC F H)(b:∀k,aC (B k) H)(r:R K F B (.ag f xs) v cs)(c:ar F H cs):∃a vs e,v=.ref a/\bE K H a vs/\Rs K F B xs vs e/\ar F H e/\∀p∈e,p∈cs:=by
 cases f with
 |f=>obtain⟨z,a,vs,g,d,i⟩:=r;exact⟨a,vs,[],g,s.seq d,i,.nil,λ_ m=>nomatch m⟩
 |l k=>obtain⟨z,a,vs,g,d,i⟩:=r;exact⟨a,vs,[],g,(b k).seq d,i,.nil,λ_ m=>nomatch m⟩
 |o=>
  obtain⟨a,vs,e,g,d,i⟩:=r;rw[d] at c;exact⟨a,vs,e,g,bE.of (c.h _ (.head _)),i,ar.right (c:=[_]) c,λp m=>by rw[d];exact .tail _ m⟩
theorem R.dB(s:aC F H)(r:R K F B (.aG xs) v cs):∃a vs,v=.ref a/\df K H a vs/\Rs K F B xs vs cs:=by
 obtain⟨a,vs,b,d,e⟩:=r;exact⟨a,vs,b,s.aG d,e⟩
theorem R.iN(s:aC F H)(b:∀k,aC (B k) H)(r:R K F B (.aS f xs) v cs)(c:ar F H cs):∃a vs e,v=.ref a/\Rd H a (.dK vs)/\Rk K F B xs vs e/\ar F H e/\∀p∈e,p∈cs:=by
 cases f with
 |f=>obtain⟨z,a,vs,g,d,i,_⟩:=r;exact⟨a,vs,[],g,s.rd d,i,.nil,λ_ m=>nomatch m⟩
 |l k=>obtain⟨z,a,vs,g,d,i,_⟩:=r;exact⟨a,vs,[],g,(b k).rd d,i,.nil,λ_ m=>nomatch m⟩
 |o=>
  obtain⟨a,vs,e,g,d,i,_⟩:=r;rw[d] at c;exact⟨a,vs,e,g,Rd.of (c.h _ (.head _)),i,ar.right (c:=[_]) c,λp m=>by rw[d];exact .tail _ m⟩
theorem R.l0(s:aC F H)(b:∀k,aC (B k) H)(r:R K F B (.ins f C xs) v cs)(c:ar F H cs):∃a d vs g,v=.ref a/\Rd H a (.ins C d vs)/\Rf K F B xs vs g/\ar F H g/\∀p∈g,p∈cs:=by
 cases f with
 |f=>obtain⟨z,a,d,vs,i,e,j⟩:=r;exact⟨a,d,vs,[],i,s.rd e,j,.nil,λ_ m=>nomatch m⟩
 |l k=>obtain⟨z,a,d,vs,i,e,j⟩:=r;exact⟨a,d,vs,[],i,(b k).rd e,j,.nil,λ_ m=>nomatch m⟩
 |o=>
  obtain⟨a,d,vs,g,i,e,j⟩:=r;rw[e] at c;exact⟨a,d,vs,g,i,Rd.of (c.h _ (.head _)),j,ar.right (c:=[_]) c,λp m=>by rw[e];exact .tail _ m⟩
theorem oR(s:aC F H)(r:Rs K F B xs vs cs)(c:ar F H cs)(hp:H p=none):∃a,Gr F H a (aQ H p (.aG vs))/\R K a B (.aG xs) (.ref p) cs/\ar a (aQ H p (.aG vs)) cs:=by
 obtain⟨a,g,e⟩:=Bh (o:=.aG vs) s (by intro _ _ z;cases z) hp;exact⟨a,g,⟨p,vs,rfl,df.of e,r.mo g.le (λk=>Le.refl (B k)) xs⟩,c.gr g⟩
theorem Gr.gY(s:aC F H)(hp:H p=none):Gr F H F (aQ H p o):=⟨⟨aC.aQ hp,aC.refl F,s.my (s.free hp),λa u h e=>by rw[h] at e;cases e⟩,Fz.refl F⟩
theorem tW(s:aC F H)(c:ar F H cs)(hp:H p=none):ar F (aQ H p o) ((p,o)::cs):=
 ⟨λq m=>by
  cases m with
  |head=>exact cq
  |tail _ m=>show aQ H p o q.1=_;rw[ba (iW (c.h q m) hp)];exact c.h q m,
 λq m=>by
  cases m with
  |head=>exact s.free hp
  |tail _ m=>exact c.f q m,
 by
  rw[map_cons,nodup_cons];refine⟨λm=>?_,c.nd⟩;obtain⟨q,a,e⟩:=mem_map.mp m;have e:q.1=p:=e;have:=c.h q a;rw[e,hp] at this;cases this⟩
def yx(b:b8):aY:=λj Q=>b j λa=>a.length<=10000/\Q (.aG a)
def xY(b:b8):aY:=λj Q=>b j λa=>a.length<=10000/\Q (.ag .o a)
theorem lA(h:n<=1000000):n<=sizeLine:=le_trans h (by decide)
theorem Ph(h:eJ K k ta pa):bC K k (Af ta) (yx pa):=λF B H j i Q w c p q=>by
 refine h F B H j i _ _ c p λm vs o u e p1 b=>⟨by rw[b.r.length];exact lA (le_trans p1.1 (by decide)),λa l=>?_⟩
 obtain⟨d,g,r,f⟩:=oR b.g.s b.r b.c l;exact q (.aG m) (.ref a) d _ e p1.2 ⟨b.g.trans' g,r,f,b.n⟩
theorem VM(h:eJ K k ta pa):bC K k (BA ta) (xY pa):=λF B H j i Q w c p q=>by
 refine h F B H j i _ _ c p λl vs f u e p1 b=>⟨by rw[b.r.length];exact lA (le_trans p1.1 (by decide)),λa d=>?_⟩
 refine q (.ag .o l) (.ref a) f _ ((a,.ag vs)::e) p1.2 ⟨b.g.trans' (Gr.gY b.g.s d),⟨a,vs,e,rfl,rfl,b.r⟩,tW b.g.s b.c d,λp m=>?_⟩;cases m with
 |head=>exact b.g.h.free d
 |tail _ m=>exact b.n p m
end
end Pu
namespace Pu
open PySem PySem.Spec PyProof.Rows L2 Vc Sf
section
def Dj:R2:=λx y H Q=>∃a v,x=.ref a/\ll H a y (some v)/\Q v H
theorem RG(n:X.A.units+1<cLine):jl X Dj:=by
 intro value d aa s j H x y v u Q I o p h m;obtain⟨a,z,rfl,g,q⟩:=h;obtain rfl:v=Value.ref a:=o;have i:=HS I g;unfold subscriptTail;refine wpAny_bind ?_;rw[getitemInPython_of_ne i.not_modules];refine wpAny_bind (wpAny_specialOf i PySem.F.slot_dict_getitem.lookup ?_);have b:wpAny (model X.prog X.w) X.A (subscripted d false (.ref a) u) (λr e=>wpAny (model X.prog X.w) X.A (letTemporaryGo value (.ref a) r >>= λ_=>pure r) (EP X aa j Q) X.xe e) X.xe s:=by
  rw[m];exact wpAny_operating (MD n I g p λC B l f=>wpAny_bind (wpAny_letTemporaryGo (wpAny_pure ⟨z,H,l,f,q⟩)))
 first
  |exact wpAny_pure (wpAny_bind b)
  |exact wpAny_bind (wpAny_pure (wpAny_bind b))
  |exact wpAny_bind b
def pX(neg:Bool):R2:=λy x H Q=>∃a o,x=.ref a/\ll H a y o/\Q (.bl (if neg then !o.isSome else o.isSome)) H
theorem LZ(d:X.A.units+1<cLine):b6 X (compareOp .In) (pX false):=by
 intro aa s j H y x u v Q I f e h;obtain⟨a,o,rfl,g,q⟩:=h;obtain rfl:v=Value.ref a:=e;exact LO d I g f λi b=>⟨.bl o.isSome,H,b,rfl,q⟩
theorem KP(d:X.A.units+1<cLine):b6 X (compareOp .NotIn) (pX true):=by
 intro aa s j H y x u v Q I f e h;obtain⟨a,o,rfl,g,q⟩:=h;obtain rfl:v=Value.ref a:=e;exact Uz d I g f λi b=>⟨.bl (!o.isSome),H,b,rfl,q⟩
def Aw(K:ao):R2:=λx y H Q=>iJ (λi j=>.int (i+j)) x y H Q\/(λx y H Q=>(λx y H Q=>∃i j,x=.str i/\y=.str j/\i.length+j.length<=sizeLine/\Q (.str (i++j)) H) x y H Q\/Cq K x y H Q) x y H Q
theorem V6:b6 X (binaryOp .Add) (Aw X.K):=IK.or (Gz.or UY)
def Fq:R2:=λx y H Q=>rI j4 (λi j=>.int (i*j)) x y H Q\/C0 x y H Q
theorem UW:b6 X (binaryOp .Mult) Fq:=O0.or Nm
def Ak(K:ao):R2:=λx y H Q=>FU K x y H Q\/Dj x y H Q
theorem RB(a:X.A.units+1<cLine):jl X (Ak X.K):=Pp.or (RG a)
def D9:R2:=λx y H Q=>iJ (λi j=>.bl (decide (i<j))) x y H Q\/(λx y H Q=>∃i j,x=.str i/\y=.str j/\Q (.bl (decide (i.cps.toList<j.cps.toList))) H) x y H Q
theorem jo:b6 X (compareOp .Lt) D9:=MZ.or Im
def F3:R2:=λx y H Q=>iJ (λi j=>.bl (decide (j<i))) x y H Q\/(λx y H Q=>∃i j,x=.str i/\y=.str j/\Q (.bl (decide (j.cps.toList<i.cps.toList))) H) x y H Q
theorem n8:b6 X (compareOp .Gt) F3:=VT.or UD
end
section
variable{K:ao}{F F' H H':Hp}{B B':Bool->Hp}{k:Md}
def act(C:Int->Int->Prop)(g:Int->Int->Tr)(x y:Tr)(Q:av):Prop:=match x,y with
 |.int i,.int j=>C i j /\ Q (g i j)
 |_,_=>False
theorem uR{g:Int->Int->V}{t:Int->Int->Tr}(h:∀i j F B,R K F B (t i j) (g i j) []):eK K k (rI C g) (act C t):=λF B H x y r ty f l Q e s b z a d n o hd p q=>by
 unfold act at p;split at p
 .obtain⟨rfl,_⟩:=a;obtain⟨rfl,_⟩:=d;exact⟨_,_,rfl,rfl,p.1,q _ _ F H [] p.2 (Gr.aO s) (h _ _ F B) .nil λ_ m=>nomatch m⟩
 .exact p.elim
theorem zq{g:Int->Int->V}{t:Int->Int->Tr}(h:∀i j F B,R K F B (t i j) (g i j) []):eK K k (iJ g) (act (λ_ _=>True) t):=λF B H x y r ty f l Q e s b z a d n o hd p q=>by
 unfold act at p;split at p
 .obtain⟨rfl,_⟩:=a;obtain⟨rfl,_⟩:=d;exact⟨_,_,rfl,rfl,q _ _ F H [] p.2 (Gr.aO s) (h _ _ F B) .nil λ_ m=>nomatch m⟩
 .exact p.elim
def n5(x y:Tr)(Q:av):Prop:=match x,y with
 |.int i,.int j=>Q (.int (i + j))
 |.str i,.str j=>i.length + j.length <= 1000000 /\ Q (.str (i ++ j))
 |.ag _ xs,.ag _ ys=>xs.length + ys.length <= 1000000 /\ Q (.ag .o (xs ++ ys))
 |_,_=>False
theorem Rs.append:∀{xs ys:ah}{vs us:aw}{c d:Cs},Rs K F B xs vs c->Rs K F B ys us d->Rs K F B (xs++ys) (vs++us) (c++d)
 |[],_,_,_,_,_,y,h=>by obtain⟨a,b⟩:=y;rw[a,b];exact h
 |x::xs,_,_,_,_,_,y,h=>by obtain⟨v,r,c,d,a,b,e,f⟩:=y;rw[a,b];exact⟨v,r ++ _,c,d ++ _,rfl,by rw[append_assoc],e,Rs.append f h⟩
theorem ku(s:aC F H)(r:Rs K F B xs vs cs)(c:ar F H cs)(hp:H p=none):Gr F H F (aQ H p (.ag vs))/\R K F B (.ag .o xs) (.ref p) ((p,.ag vs)::cs)/\ar F (aQ H p (.ag vs)) ((p,.ag vs)::cs):=
 ⟨Gr.gY s hp,⟨p,vs,cs,rfl,rfl,r⟩,tW s c hp⟩
theorem MO:eK K k (Aw K) n5:=λF B H x y L ty G I Q D s b z d e n o hd p q=>by
 unfold n5 at p;split at p
 .obtain⟨rfl,_⟩:=d;obtain⟨rfl,_⟩:=e;exact .inl ⟨_,_,rfl,rfl,q _ _ F H [] p (Gr.aO s) ⟨rfl,rfl⟩ .nil λ_ m=>nomatch m⟩
 .obtain⟨rfl,_⟩:=d;obtain⟨rfl,_⟩:=e;exact .inr (.inl ⟨_,_,rfl,rfl,lA p.1,q _ _ F H [] p.2 (Gr.aO s) ⟨rfl,rfl⟩ .nil λ_ m=>nomatch m⟩)
 .obtain⟨a,vs,ds,rfl,h1,h2,h3,h4⟩:=d.cv s b n;obtain⟨E,us,J,rfl,i,f,j,g⟩:=e.cv s b o;refine .inr (.inr ⟨_,_,_,_,rfl,rfl,h1,i,lA (by rw[h2.length,f.length];exact p.1),λl h=>?_⟩);obtain⟨w,A,C⟩:=ku s (h2.append f) (h3.app j λp r q u=>hd p (h4 p r) q (g q u)) h;refine q _ _ F _ _ p.2 w A C λp m=>?_
  cases m with
  |head=>exact .inl h
  |tail _ m=>exact (mem_append.mp m).elim (λm=>.inr (.inl (h4 p m))) (λm=>.inr (.inr (g p m)))
 .exact p.elim
def qp(x y:Tr)(Q:av):Prop:=match x,y with
 |.int i,.int j=>j4 i j /\ Q (.int (i * j))
 |_,_=>False
theorem MX:eK K k Fq qp:=λF B H x y j ty f g Q e s b z a d h i hd p q=>by
 unfold qp at p;split at p
 .obtain⟨rfl,_⟩:=a;obtain⟨rfl,_⟩:=d;exact .inl ⟨_,_,rfl,rfl,p.1,q _ _ F H [] p.2 (Gr.aO s) ⟨rfl,rfl⟩ .nil λ_ m=>nomatch m⟩
 .exact p.elim
def pO:Tr->Option aU
 |.int n=>some (.inl n)
 |.str x=>some (.inr x)
 |_=>none
theorem uo(r:R K F B t v cs)(h:pO t=some y):v=kV y:=by
 cases t with
 |int n=>cases h;exact r.1
 |str n=>cases h;exact r.1
 |_=>cases h
def dw(x y:Tr)(Q:av):Prop:=match x,y with
 |.aG xs,.int i=>(match cQ xs i with |some t=>Q t |none=>False)
 |.ag _ xs,.int i=>(match cQ xs i with |some t=>Q t |none=>False)
 |.str x,.int i=>x.length <= 1000000 /\ (match cQ x.cps.toList i with |some c=>Q (.str ⟨#[c]⟩) |none=>False)
 |.aS _ m,y=>(match pO y with |some y=>(match look m y with |some t=>Q t |none=>False) |none=>False)
 |_,_=>False
theorem Rs.cQ(r:Rs K F B xs vs cs)(c:ar F H cs)(h:L2.cQ xs i=some t):∃u d,L2.cQ vs i=some u/\R K F B t u d/\ar F H d/\∀p∈d,p∈cs:=by
 unfold L2.cQ at h ⊢;rw[r.length];cases e:gZ xs.length i with
 |none=>rw[e] at h;cases h
 |some j=>rw[e] at h;exact r.at' c h
theorem Iu:eK K k (Ak K) dw:=λF B H x y Y ty N O Q M s b z h i A U hd p q=>by
 unfold dw at p;split at p
 .obtain⟨rfl,_⟩:=i;split at p
  .rename_i e;obtain⟨a,vs,rfl,f,g⟩:=h.dB s;obtain⟨u,d,j,l,n,o⟩:=g.cQ A e;exact .inl (.inr (.inl ⟨_,_,_,_,rfl,rfl,f,j,q _ _ F H d p (Gr.aO s) l n λp m=>.inr (.inl (o p m))⟩))
  .exact p.elim
 .obtain⟨rfl,_⟩:=i;split at p
  .rename_i e;obtain⟨a,vs,J,rfl,f,g,r,w⟩:=h.cv s b A;obtain⟨u,d,j,l,n,o⟩:=g.cQ r e;exact .inl (.inl ⟨_,_,_,_,rfl,rfl,f,j,q _ _ F H d p (Gr.aO s) l n λp m=>.inr (.inl (w p (o p m)))⟩)
  .exact p.elim
 .obtain⟨rfl,_⟩:=i;obtain⟨rfl,_⟩:=h;obtain⟨L,p⟩:=p;split at p
  .rename_i e;exact .inl (.inr (.inr ⟨_,_,_,rfl,rfl,lA L,e,q _ _ F H [] p (Gr.aO s) ⟨rfl,rfl⟩ .nil λ_ m=>nomatch m⟩))
  .exact p.elim
 .split at p
  .rename_i e;split at p
   .rename_i e';obtain⟨a,vs,J,rfl,f,g,r,w⟩:=h.iN s b A;obtain rfl:=uo i e;rcases g.look _ r with⟨z,_⟩ |⟨x,u,c,C,D,E,G,I⟩
    .rw[z] at e';cases e'
    .rw[C] at e';cases e';exact .inr ⟨a,u,rfl,.inl ⟨vs,_,f,rfl,D.symm⟩,q _ _ F H c p (Gr.aO s) E G λp m=>.inr (.inl (w p (I p m)))⟩
   .exact p.elim
  .exact p.elim
 .exact p.elim
def rg(x y:Tr)(Q:av):Prop:=match x,y with
 |.int i,.int j=>Q (.bl (decide (i < j)))
 |.str i,.str j=>Q (.bl (decide (i.cps.toList < j.cps.toList)))
 |_,_=>False
theorem jC:eK K k D9 rg:=λF B H x y j ty f g Q e s b z a d h i hd p q=>by
 unfold rg at p;split at p
 .obtain⟨rfl,_⟩:=a;obtain⟨rfl,_⟩:=d;exact .inl ⟨_,_,rfl,rfl,q _ _ F H [] p (Gr.aO s) ⟨rfl,rfl⟩ .nil λ_ m=>nomatch m⟩
 .obtain⟨rfl,_⟩:=a;obtain⟨rfl,_⟩:=d;exact .inr ⟨_,_,rfl,rfl,q _ _ F H [] p (Gr.aO s) ⟨rfl,rfl⟩ .nil λ_ m=>nomatch m⟩
 .exact p.elim
def rn(x y:Tr)(Q:av):Prop:=match x,y with
 |.int i,.int j=>Q (.bl (decide (j < i)))
 |.str i,.str j=>Q (.bl (decide (j.cps.toList < i.cps.toList)))
 |_,_=>False
theorem nJ:eK K k F3 rn:=λF B H x y j ty f g Q e s b z a d h i hd p q=>by
 unfold rn at p;split at p
 .obtain⟨rfl,_⟩:=a;obtain⟨rfl,_⟩:=d;exact .inl ⟨_,_,rfl,rfl,q _ _ F H [] p (Gr.aO s) ⟨rfl,rfl⟩ .nil λ_ m=>nomatch m⟩
 .obtain⟨rfl,_⟩:=a;obtain⟨rfl,_⟩:=d;exact .inr ⟨_,_,rfl,rfl,q _ _ F H [] p (Gr.aO s) ⟨rfl,rfl⟩ .nil λ_ m=>nomatch m⟩
 .exact p.elim
theorem Pf:eK K k (iJ λi j=>.bl (decide (j<=i))) (act (λ_ _=>True) λi j=>.bl (decide (j<=i))):=zq λ_ _ _ _=>⟨rfl,rfl⟩
theorem NZ:eK K k (iJ λi j=>.int (i - j)) (act (λ_ _=>True) λi j=>.int (i - j)):=zq λ_ _ _ _=>⟨rfl,rfl⟩
theorem IH:eK K k (rI dN λi j=>.int (i.fdiv j)) (act dN λi j=>.int (i.fdiv j)):=uR λ_ _ _ _=>⟨rfl,rfl⟩
theorem NI:eK K k (rI (λ_ j=>0<j) λi j=>.int (i % j)) (act (λ_ j=>0<j) λi j=>.int (i % j)):=uR λ_ _ _ _=>⟨rfl,rfl⟩
def sk(x:Tr)(Q:av):Prop:=match x with
 |.int i=>Q (.int (-i))
 |_=>False
theorem VN:Fj K k (L2.rU λi=>.int (-i)) sk:=λF B H x g e Q d s b z a f p q=>by
 unfold sk at p;split at p
 .obtain⟨rfl,_⟩:=a;exact⟨_,rfl,q _ _ F H [] p (Gr.aO s) ⟨rfl,rfl⟩ .nil λ_ m=>nomatch m⟩
 .exact p.elim
def u3:Tr->Option V
 |.int n=>some (.int n) |.bl b=>some (.bl b) |.str x=>some (.str x) |.aL=>some .aL |_=>none
theorem uG(r:R K F B t v cs)(h:u3 t=some u):v=u:=by
 cases t with
 |int n=>cases h;exact r.1
 |bl n=>cases h;exact r.1
 |str n=>cases h;exact r.1
 |aL=>cases h;exact r.1
 |_=>cases h
def qf(neg:Bool)(x y:Tr)(Q:av):Prop:=match u3 x,u3 y with
 |some u,some v=>xy u v=true /\ Q (.bl (if neg then !decide (u=v) else decide (u=v)))
 |_,_=>False
theorem Ni:eK K k xu (qf false):=λF B H x y j ty f g Q e s b z a d h i hd p q=>by
 unfold qf at p;split at p
 .rename_i e1 e2;obtain rfl:=uG a e1;obtain rfl:=uG d e2;exact⟨p.1,q _ _ F H [] p.2 (Gr.aO s) ⟨rfl,rfl⟩ .nil λ_ m=>nomatch m⟩
 .exact p.elim
theorem PV:eK K k o3 (qf true):=λF B H x y j ty f g Q e s b z a d h i hd p q=>by
 unfold qf at p;split at p
 .rename_i e1 e2;obtain rfl:=uG a e1;obtain rfl:=uG d e2;exact⟨p.1,q _ _ F H [] p.2 (Gr.aO s) ⟨rfl,rfl⟩ .nil λ_ m=>nomatch m⟩
 .exact p.elim
def jN(x:Tr)(Q:Bool->Prop):Prop:=match x with
 |.bl b=>Q b
 |_=>False
def pT(pe:aY):d6:=λj Q=>pe j λx=>jN x Q
theorem FP(h:bC K k te pe):fS K k (tB te) (pT pe):=λF B H j i Q e c p q=>by
 refine h F B H j i _ _ c p λt v b d f p1 a=>?_
 unfold jN at p1;split at p1
 .obtain⟨rfl,_⟩:=a.r;exact⟨_,rfl,q _ b d p1 a.g⟩
 .exact p1.elim
theorem Lm(h:bC K k te pe):fS K k (um te) (pT pe):=FP h
def xt(a b:d6):d6:=λj Q=>a j λc=>if c=true then b j Q else Q false
def xM(a b:d6):d6:=λj Q=>a j λc=>if c=true then Q true else b j Q
def yi(pa:d6):d6:=λj Q=>pa j λc=>Q (!c)
theorem L5(l:fS K k ta pa)(m:fS K k tb pb):fS K k (Ai ta tb) (xt pa pb):=λF B H j i Q n c p q=>by
 refine l F B H j i _ _ c p λb d e p1 a=>?_
 cases b with
 |true=>rw[if_pos rfl];exact m d B e j i _ _ (c.gr a) p1 λb f g p2 h=>q b f g p2 (a.trans' h)
 |false=>exact q false d e p1 a
theorem TH(l:fS K k ta pa)(m:fS K k tb pb):fS K k (B8 ta tb) (xM pa pb):=λF B H j i Q n c p q=>by
 refine l F B H j i _ _ c p λb d e p1 a=>?_
 cases b with
 |false=>exact m d B e j i _ _ (c.gr a) p1 λb f g p2 h=>q b f g p2 (a.trans' h)
 |true=>exact q true d e p1 a
theorem IS(f:fS K k ta pa):fS K k (BL ta) (yi pa):=λF B H j i Q g c p q=>f F B H j i _ _ c p λb a d p1 e=>q (!b) a d p1 e
def wV(a b:aY):aY:=λj Q=>a j λx=>jN x λc=>if c=true then b j Q else Q (.bl false)
def x8(a b:aY):aY:=λj Q=>a j λx=>jN x λc=>if c=true then Q (.bl true) else b j Q
theorem Out.bl(g:Gr F H F1 H1):Out K F B H F1 H1 (.bl b) (.bl b) []:=⟨g,⟨rfl,rfl⟩,.nil,.nil⟩
theorem Out.tr(g:Gr F H F1 H1)(o:Out K F1 B H1 F2 H2 t v cs):Out K F B H F2 H2 t v cs:=⟨g.trans' o.g,o.r,o.c,o.n.back g.h⟩
theorem R9(m:bC K k ta pa)(n:bC K k tb pb):bC K k (Ag ta tb) (wV pa pb):=λF B H j i Q s c p q=>by
 refine m F B H j i _ _ c p λt v d e u p1 a=>?_
 unfold jN at p1;split at p1
 .rename_i b;obtain⟨rfl,_⟩:=a.r;refine⟨b,rfl,?_⟩;cases b with
  |true=>exact n d B e j i _ _ (c.gr a.g) p1 λt v f h l p2 o=>q t v f h l p2 (.tr a.g o)
  |false=>exact q _ _ d e [] p1 (.bl a.g)
 .exact p1.elim
theorem HU(m:bC K k ta pa)(n:bC K k tb pb):bC K k (Gs ta tb) (x8 pa pb):=λF B H j i Q s c p q=>by
 refine m F B H j i _ _ c p λt v d e u p1 a=>?_
 unfold jN at p1;split at p1
 .rename_i b;obtain⟨rfl,_⟩:=a.r;refine⟨b,rfl,?_⟩;cases b with
  |false=>exact n d B e j i _ _ (c.gr a.g) p1 λt v f h l p2 o=>q t v f h l p2 (.tr a.g o)
  |true=>exact q _ _ d e [] p1 (.bl a.g)
 .exact p1.elim
def ym(d:d6)(a b:aY):aY:=λj Q=>d j λc=>if c=true then a j Q else b j Q
theorem GH(o:fS K k tc pc)(m:bC K k ta pa)(n:bC K k tb pb):bC K k (CP tc ta tb) (ym pc pa pb):=λF B H j i Q r c p q=>by
 refine o F B H j i _ _ c p λb h l p1 a=>?_
 cases b with
 |true=>rw[if_pos rfl] at p1 ⊢;exact m h B l j i _ _ (c.gr a) p1 λt v d e f p2 g=>q t v d e f p2 (.tr a g)
 |false=>rw[if_neg (by decide)] at p1 ⊢;exact n h B l j i _ _ (c.gr a) p1 λt v d e f p2 g=>q t v d e f p2 (.tr a g)
end
end Pu
namespace Pu
open PySem L2 Vc Sf
section
mutual
theorem R.low:∀(t:Tr){v:V}{cs:Cs},bL t=true->B false=B' false->R K F B t v cs->R K F B' t v cs
 |.int _,_,_,_,_,h=>h
 |.bl _,_,_,_,_,h=>h
 |.str _,_,_,_,_,h=>h
 |.aL,_,_,_,_,h=>h
 |.aA,_,_,_,_,h=>h
 |.ty _,_,_,_,_,h=>h
 |.cl _,_,_,_,_,h=>h
 |.exc _,_,_,_,_,h=>h
 |.aG xs,_,_,n,e,y=>by obtain⟨a,vs,b,d,g⟩:=y;exact⟨a,vs,b,d,Rs.low xs n e g⟩
 |.ag .f xs,_,_,n,e,y=>by obtain⟨z,a,vs,b,d,g⟩:=y;exact⟨z,a,vs,b,d,Rs.low xs n e g⟩
 |.ag (.l true) xs,_,_,n,_,_=>by cases n
 |.ag (.l false) xs,_,_,n,e,y=>by obtain⟨z,a,vs,b,d,g⟩:=y;exact⟨z,a,vs,b,by rw[<- e];exact d,Rs.low xs n e g⟩
 |.ag .o xs,_,_,n,e,y=>by obtain⟨a,vs,i,b,d,g⟩:=y;exact⟨a,vs,i,b,d,Rs.low xs n e g⟩
 |.aS .f xs,_,_,n,e,y=>by obtain⟨z,a,vs,b,d,g,m⟩:=y;exact⟨z,a,vs,b,d,Rk.low xs n e g,m⟩
 |.aS (.l true) xs,_,_,n,_,_=>by cases n
 |.aS (.l false) xs,_,_,n,e,y=>by obtain⟨z,a,vs,b,d,g,m⟩:=y;exact⟨z,a,vs,b,by rw[<- e];exact d,Rk.low xs n e g,m⟩
 |.aS .o xs,_,_,n,e,y=>by obtain⟨a,vs,i,b,d,g,m⟩:=y;exact⟨a,vs,i,b,d,Rk.low xs n e g,m⟩
 |.ins .f _ xs,_,_,n,e,y=>by obtain⟨z,a,j,vs,b,d,g⟩:=y;exact⟨z,a,j,vs,b,d,Rf.low xs n e g⟩
 |.ins (.l true) _ xs,_,_,n,_,_=>by cases n
 |.ins (.l false) _ xs,_,_,n,e,y=>by obtain⟨z,a,j,vs,b,d,g⟩:=y;exact⟨z,a,j,vs,b,by rw[<- e];exact d,Rf.low xs n e g⟩
 |.ins .o _ xs,_,_,n,e,y=>by obtain⟨a,j,vs,i,b,d,g⟩:=y;exact⟨a,j,vs,i,b,d,Rf.low xs n e g⟩
theorem Rs.low:∀(t:List Tr){v:List V}{cs:Cs},cu t=true->B false=B' false->Rs K F B t v cs->Rs K F B' t v cs
 |[],_,_,_,_,h=>h
 |x::xs,_,_,n,e,y=>by
  obtain⟨v,r,c,d,a,b,f,g⟩:=y;rw[cu,and_eq_true] at n;exact⟨v,r,c,d,a,b,R.low x n.1 e f,Rs.low xs n.2 e g⟩
theorem Rk.low:∀(t:List (aU×Tr)){v:List (aU×V)}{cs:Cs},g0 t=true->B false=B' false->Rk K F B t v cs->Rk K F B' t v cs
 |[],_,_,_,_,h=>h
 |(_,x)::xs,_,_,n,e,y=>by
  obtain⟨v,r,c,d,a,b,f,g⟩:=y;rw[g0,and_eq_true] at n;exact⟨v,r,c,d,a,b,R.low x n.1 e f,Rk.low xs n.2 e g⟩
theorem Rf.low:∀(t:List (Str×Tr)){v:List (Str×V)}{cs:Cs},fw t=true->B false=B' false->Rf K F B t v cs->Rf K F B' t v cs
 |[],_,_,_,_,h=>h
 |(_,x)::xs,_,_,n,e,y=>by
  obtain⟨v,r,c,d,a,b,f,g⟩:=y;rw[fw,and_eq_true] at n;exact⟨v,r,c,d,a,b,R.low x n.1 e f,Rf.low xs n.2 e g⟩
end
mutual
/-- what is lent is lent to the callee -/
theorem R.dn(b:∀k,Le (B k) G):∀(t:Tr){v:V}{cs:Cs},R K F B t v cs->R K F (λ_=>G) (dn t) v cs
 |.int _,_,_,h=>h
 |.bl _,_,_,h=>h
 |.str _,_,_,h=>h
 |.aL,_,_,h=>h
 |.aA,_,_,h=>h
 |.ty _,_,_,h=>h
 |.cl _,_,_,h=>h
 |.exc _,_,_,h=>h
 |.aG xs,_,_,y=>by obtain⟨a,vs,d,e,g⟩:=y;exact⟨a,vs,d,e,Rs.dn b xs g⟩
 |.ag .f xs,_,_,y=>by obtain⟨z,a,vs,d,e,g⟩:=y;exact⟨z,a,vs,d,e,Rs.dn b xs g⟩
 |.ag (.l k) xs,_,_,y=>by obtain⟨z,a,vs,d,e,g⟩:=y;exact⟨z,a,vs,d,(b k).ag e,Rs.dn b xs g⟩
 |.ag .o xs,_,_,y=>by obtain⟨a,vs,i,d,e,g⟩:=y;exact⟨a,vs,i,d,e,Rs.dn b xs g⟩
 |.aS .f xs,_,_,y=>by obtain⟨z,a,vs,d,e,g,m⟩:=y;exact⟨z,a,vs,d,e,Rk.dn b xs g,by rw[dO];exact m⟩
 |.aS (.l k) xs,_,_,y=>by obtain⟨z,a,vs,d,e,g,m⟩:=y;exact⟨z,a,vs,d,(b k).aS e,Rk.dn b xs g,by rw[dO];exact m⟩
 |.aS .o xs,_,_,y=>by obtain⟨a,vs,i,d,e,g,m⟩:=y;exact⟨a,vs,i,d,e,Rk.dn b xs g,by rw[dO];exact m⟩
 |.ins .f _ xs,_,_,y=>by obtain⟨z,a,j,vs,d,e,g⟩:=y;exact⟨z,a,j,vs,d,e,Rf.dn b xs g⟩
 |.ins (.l k) _ xs,_,_,y=>by obtain⟨z,a,j,vs,d,e,g⟩:=y;exact⟨z,a,j,vs,d,b k _ _ (by intro _ _ z;cases z) e,Rf.dn b xs g⟩
 |.ins .o _ xs,_,_,y=>by obtain⟨a,j,vs,i,d,e,g⟩:=y;exact⟨a,j,vs,i,d,e,Rf.dn b xs g⟩
theorem Rs.dn(b:∀k,Le (B k) G):∀(t:List Tr){v:List V}{cs:Cs},Rs K F B t v cs->Rs K F (λ_=>G) (cp t) v cs
 |[],_,_,h=>h
 |x::xs,_,_,y=>by obtain⟨v,r,c,d,a,e,f,g⟩:=y;exact⟨v,r,c,d,a,e,R.dn b x f,Rs.dn b xs g⟩
theorem Rk.dn(b:∀k,Le (B k) G):∀(t:List (aU×Tr)){v:List (aU×V)}{cs:Cs},Rk K F B t v cs->Rk K F (λ_=>G) (gX t) v cs
 |[],_,_,h=>h
 |(_,x)::xs,_,_,y=>by obtain⟨v,r,c,d,a,e,f,g⟩:=y;exact⟨v,r,c,d,a,e,R.dn b x f,Rk.dn b xs g⟩
theorem Rf.dn(b:∀k,Le (B k) G):∀(t:List (Str×Tr)){v:List (Str×V)}{cs:Cs},Rf K F B t v cs->Rf K F (λ_=>G) (iE t) v cs
 |[],_,_,h=>h
 |(_,x)::xs,_,_,y=>by obtain⟨v,r,c,d,a,e,f,g⟩:=y;exact⟨v,r,c,d,a,e,R.dn b x f,Rf.dn b xs g⟩
theorem dO:∀(xs:List (aU×Tr)),(gX xs).map (·.1)=xs.map (·.1)
 |[]=>rfl
 |(_,_)::xs=>by show _::_=_::_;rw[dO xs]
end
theorem lH:∀(xs:ah),(cp xs).length=xs.length
 |[]=>rfl
 |_::xs=>by show (cp xs).length + 1=_;rw[lH xs];rfl
end
structure bc(K:ao)(k:Md)(lo:Nat)(us:aw)(Fb Hb F H:Hp)(G:St)(J:ah)(cs:Nat->Cs):Prop where
 g:Gr Fb Hb F H
 z:k.z=true->Fz S0 F
 l:G.length=J.length
 e:∀(i:Nat)(t:Tr),J[i]?=some t->t=.aA\/∃v,G[i]?=some (some v)/\R K F (λ_=>Hb) t v (cs i)
 c:∀i,ar F H (cs i)
 n:∀i,cY Hb (cs i)
 d:∀i j,i≠j->∀p∈cs i,∀q∈cs j,p.1≠q.1
 p:∀i,i<lo->G[i]?=(us[i]?).map some
 x:∀cls G' F' H',k.q cls->Gr Fb Hb F' H'->k.E G' cls none H'
section
def Bq(Hb H:Hp):Bool->Hp:=λb=>if b then H else Hb
theorem bc.eD(W:bc K k lo us Fb Hb F H j G cs):gE K k F (Bq Hb H) H j (G.map aD) where
 s:=W.g.s
 b:=λb=>by
  cases b with
  |true=>exact aC.refl H
  |false=>exact W.g.h
 z:=W.z
 e:=λi t h=>by
  rw[getElem?_map] at h;cases q:G[i]? with
  |none=>rw[q] at h;cases h
  |some u=>
   rw[q] at h;cases h;rcases W.e i u q with rfl |⟨v,l,n⟩
   .exact .inl rfl
   .refine .inr ⟨v,l,n.aD (λb=>?_) u λp m=>(W.c i).h p m⟩;cases b with
    |true=>exact Le.of W.g.h
    |false=>exact Le.refl _
 x:=λa d f q g=>W.x a j d f q (W.g.trans' g)
theorem bc.gr(W:bc K k lo us Fb Hb F H j G cs)(g:Gr F H F' H'):bc K k lo us Fb Hb F' H' j G cs:=
 ⟨W.g.trans' g,λh=>g.fz (W.z h),W.l,λi t h=>(W.e i t h).imp id λ⟨v,h1,h2⟩=>⟨v,h1,h2.mo g.le (λ_=>Le.refl _) t⟩,λi=>(W.c i).gr g,W.n,W.d,W.p,W.x⟩
theorem bc.set{i:Nat}{t:Tr}{v:V}{c:Cs}(W:bc K k lo us Fb Hb F H G J cs)(y:lo<=i)(r:R K F (λ_=>Hb) t v c)(w:ar F H c)(n:cY Hb c)(d:∀j,j≠i->∀p∈cs j,∀q∈c,p.1≠q.1):
  bc K k lo us Fb Hb F H (G.set i (some v)) (J.set i t) (λj=>if j=i then c else cs j) where
 g:=W.g
 z:=W.z
 l:=by rw[length_set,length_set];exact W.l
 e:=λj u h=>by
  by_cases e:j=i
  .subst e;have s:j<J.length:=by have:=(List.getElem?_eq_some_iff.mp h).1;rw[length_set] at this;exact this
   rw[getElem?_set_self s] at h;cases h;exact .inr ⟨v,getElem?_set_self (by rw[W.l];exact s),by rw[if_pos rfl];exact r⟩
  .rw[getElem?_set_ne (λz=>e z.symm)] at h;rw[if_neg e];exact (W.e j u h).imp id λ⟨v,h1,h2⟩=>⟨v,by rw[getElem?_set_ne (λz=>e z.symm)];exact h1,h2⟩
 c:=λj=>by
  split
  .exact w
  .exact W.c j
 n:=λj=>by
  split
  .exact n
  .exact W.n j
 d:=λa b ne p o q f=>by
  by_cases m:a=i
  .rw[if_pos m] at o;rw[if_neg (λz=>ne (m.trans z.symm))] at f;exact (d b (λz=>ne (m.trans z.symm)) q f p o).symm
  .rw[if_neg m] at o;by_cases eb:b=i
   .rw[if_pos eb] at f;exact d a m p o q f
   .rw[if_neg eb] at f;exact W.d a b ne p o q f
 p:=λj h=>by rw[getElem?_set_ne (by omega)];exact W.p j h
 x:=W.x
theorem bc.out{i:Nat}{t:Tr}{v:V}{c:Cs}(W:bc K k lo us Fb Hb F H G J cs)(o:Out K F (Bq Hb H) H F' H' t v c)(a:lo<=i)(n:bL t=true):
  bc K k lo us Fb Hb F' H' (G.set i (some v)) (J.set i t) (λj=>if j=i then c else cs j):=
 (W.gr o.g).set a (o.r.low t n rfl) o.c (λp m=>W.g.h.free (o.n p m)) λj _ p b q d e=>by
  have:=(W.c j).h p b;rw[e,o.n q d] at this;cases this
end
structure Pd where
 nx:aX
 rt:Tr->aX
 bk:aX:=λ_=>False
 ct:aX:=λ_=>False
abbrev cg:=Pd->aX
structure Lk(K:ao)(k:Md)(lo:Nat)(us:aw)(Fb Hb:Hp)(D:g9)(D':Pd):Prop where
 nx:∀F H j G cs,bc K k lo us Fb Hb F H j G cs->D'.nx G->D.nx j H
 rt:∀F H j G cs v t c,bc K k lo us Fb Hb F H j G cs->R K F (λ_=>Hb) t v c->ar F H c->cY Hb c->(∀i,∀p∈cs i,∀q∈c,p.1≠q.1)->cE t=true->D'.rt t G->D.rt v H
 bk:∀F H j G cs,bc K k lo us Fb Hb F H j G cs->D'.bk G->D.bk j H
 ct:∀F H j G cs,bc K k lo us Fb Hb F H j G cs->D'.ct G->D.ct j H
def cS(K:ao)(k:Md)(lo:Nat)(g:TS)(f:cg):Prop:=∀(us:aw)(b d F H:Hp)(j:St)(i:ah)(e:Nat->Cs)(D:g9)(a:Pd),bc K k lo us b d F H j i e->f a i->Lk K k lo us b d D a->g D j H
section
def pG(p q:cg):cg:=λD j=>p { D with nx:=q D } j
def xP:cg:=λD j=>D.nx j
theorem UJ(h:cS K k lo t p)(h':cS K k lo u q):cS K k lo (si t u) (pG p q):=λus b d F H j i a D e W p L=>
 h us b d F H j i a _ _ W p ⟨λF H j i a W q=>h' us b d F H j i a D e W q L,L.rt,L.bk,L.ct⟩
theorem Pe:cS K k lo BS xP:=λus d e F H j i a D b W p L=>L.nx F H j i a W p
def vZ(i:Nat)(pe:aY):cg:=λD j=>pe (j.map aD) λt=>bL t=true/\D.nx (j.set i t)
theorem Tt(e:lo<=i)(h:bC K k te pe):cS K k lo (kI te (jb i)) (vZ i pe):=λus g d F H j G l D f W p L=>by
 refine h F (Bq d H) H j _ _ _ W.eD p λt v a b c q o=>?_
 exact L.nx a b _ _ _ (W.out o e q.1) q.2
def uY(pe:aY):cg:=λD j=>pe (j.map aD) λ_=>D.nx j
theorem LL(h:bC K k te pe):cS K k lo (pR te) (uY pe):=λus f d F H j i l D e W p L=>
 h F (Bq d H) H j _ _ _ W.eD p λt v a b c q o=>L.nx a b _ _ _ (W.gr o.g) q
def uX(pe:aY):cg:=λD j=>pe (j.map aD) λt=>cE t=true/\D.rt t j
theorem IJ(h:bC K k te pe):cS K k lo (vI te) (uX pe):=λus w d F H j G f D u W p L=>by
 refine h F (Bq d H) H j _ _ _ W.eD p λt v a b c q o=>?_
 refine L.rt a b j G f v t c (W.gr o.g) (o.r.base t q.1) o.c (λp m=>W.g.h.free (o.n p m)) (λi p l q s e=>?_) q.1 q.2;have:=(W.c i).h p l;rw[e,o.n q s] at this;cases this
def oJ(a:d6)(p q:cg):cg:=λD j=>a (j.map aD) λb=>if b=true then p D j else q D j
theorem SE(n:fS K k tc pc)(h:cS K k lo t p)(h':cS K k lo u q):cS K k lo (Ci tc t u) (oJ pc p q):=λus f a F H j i m D d W p L=>by
 refine n F (Bq a H) H j _ _ _ W.eD p λb e l q g=>?_
 cases b with
 |true=>exact h us f a e l j i m D d (W.gr g) q L
 |false=>exact h' us f a e l j i m D d (W.gr g) q L
def Gi(f:d6)(e:cg):cg:=λD j=>∃I:Nat->aX,(∃m,I m j)/\∀m j,I m j->f (j.map aD) λb=>if b=true then e { D with nx:=λd=>∃a,a<m/\I a d,ct:=λd=>∃a,a<m/\I a d,bk:=D.nx } j else D.nx j
theorem Pr(w:fS K k tc pc)(u:cS K k lo tb pb):cS K k lo (Cb tc tb) (Gi pc pb):=λus f e F H j G a D z W p L=>by
 obtain⟨I,⟨y,x⟩,step⟩:=p;refine⟨λm j H=>∃F G a,bc K k lo us f e F H j G a/\I m G,⟨y,F,G,a,W,x⟩,?_⟩;rintro m j H ⟨F,G,a,W,i⟩;refine w F (Bq e H) H j _ _ _ W.eD (step m G i) λb n r q g=>?_
 cases b with
 |false=>exact L.nx n r j G a (W.gr g) q
 |true=>
  refine⟨λs o=>∃d,d<m/\∃F G a,bc K k lo us f e F o s G a/\I d G,λs o h=>h,?_⟩;refine u us f e n r j G a _ _ (W.gr g) q ⟨?_,L.rt,?_,?_⟩
  .exact λF H j G a W ⟨d,l,i⟩=>⟨d,l,F,G,a,W,i⟩
  .exact L.nx
  .exact λF H j G a W ⟨d,l,i⟩=>⟨d,l,F,G,a,W,i⟩
end
abbrev bO:=ah->(Tr->aX)->Prop
abbrev fN:=ah->(Tr->aX)->(ai->Prop)->Prop
def ib(K:ao)(z:Bool)(lo n:Nat)(m:fN):Sp:=λvs H Q E=>vs.length=n/\∃(F b:Hp)(h:ah)(j:Nat->Cs)(f:Tr->aX)(q:ai->Prop),bc K ⟨z,λ_=>E,q⟩ lo vs F b F H (vs.map some) h j/\m h f q/\
 ∀d e l g a v t c,bc K ⟨z,λ_=>E,q⟩ lo vs F b d e l g a->R K d (λ_=>b) t v c->ar d e c->cY b c->(∀i,∀p∈a i,∀q∈c,p.1≠q.1)->cE t=true->f t g->Q v e
def bP(K:ao)(z:Bool)(lo n:Nat)(a:bO):Sp:=ib K z lo n λb Q _=>a b Q
theorem bc.md(W:bc K k lo us Fb Hb F H j i cs)(hz:k'.z=true->k.z=true)(x:∀a m f b,k'.q a->Gr Fb Hb f b->k'.E m a none b):bc K k' lo us Fb Hb F H j i cs:=⟨W.g,λh=>W.z (hz h),W.l,W.e,W.c,W.n,W.d,W.p,x⟩
section
theorem bc.start(N:aj)(b:lo<=vs.length)(W:bc K k lo us Fb Hb F H (vs.map some) j cs):bc K k lo us Fb Hb F H (start N vs) (j++List.replicate (N.length - j.length) .aA) cs where
 g:=W.g
 z:=W.z
 l:=by
  have:=W.l;rw[length_map] at this;show (vs.map some++List.replicate (N.length - vs.length) none).length=_;rw[length_append,length_append,length_replicate,length_replicate,length_map,this]
 e:=λi t h=>by
  have a:=W.l;rcases Nat.lt_or_ge i j.length with z |z
  .rw[getElem?_append_left z] at h;exact (W.e i t h).imp id λ⟨v,h1,h2⟩=>⟨v,by show (vs.map some++List.replicate (N.length - vs.length) none)[i]?=_;rw[getElem?_append_left (by rw[a];exact z)];exact h1,h2⟩
  .rw[getElem?_append_right z] at h;have m:=mem_of_getElem? h;exact .inl (List.mem_replicate.mp m).2
 c:=W.c
 n:=W.n
 d:=W.d
 p:=λi h=>by
  have e:=W.p i h;show (vs.map some++List.replicate (N.length - vs.length) none)[i]?=_;rw[getElem?_append_left (by rw[length_map];omega)];exact e
 x:=W.x
end
theorem Rs.split:∀{n:ah}{vs:aw}{c:Cs},Rs K F B n vs c->ar F H c->∃cs:Nat->Cs,(∀(i:Nat)(t:Tr),n[i]?=some t->∃v,vs[i]?=some v/\R K F B t v (cs i))/\(∀i,∀p∈cs i,p∈c)/\(∀i,ar F H (cs i))/\∀i j,i≠j->∀p∈cs i,∀q∈cs j,p.1≠q.1
 |[],_,_,_,_=>⟨λ_=>[],λi t h=>(by cases h),λ_ _ m=>(nomatch m),λ_=>.nil,λ_ _ _ _ m=>nomatch m⟩
 |x::xs,_,_,y,hc=>by
  obtain⟨v,r,c,d,g,l,D,E⟩:=y;rw[l] at hc;obtain⟨cs,o,e,s,w⟩:=Rs.split E hc.right;have f:∀p∈c,∀q∈d,p.1≠q.1:=λp a q b=>by
   have:=hc.nd;rw[map_append,nodup_append] at this;exact this.2.2 _ (mem_map.mpr ⟨p,a,rfl⟩) _ (mem_map.mpr ⟨q,b,rfl⟩)
  refine⟨λi=>match i with |0=>c |j+1=>cs j,λi t h=>?_,λi p m=>?_,λi=>?_,λi j ne p a q b=>?_⟩
  .cases i with
   |zero=>cases h;exact⟨v,by rw[g];rfl,D⟩
   |succ j=>obtain⟨u,A,C⟩:=o j t h;exact⟨u,by rw[g];exact A,C⟩
  .rw[l];cases i with
   |zero=>exact mem_append.mpr (.inl m)
   |succ j=>exact mem_append.mpr (.inr (e j p m))
  .cases i with
   |zero=>exact hc.left
   |succ j=>exact s j
  .cases i with
   |zero=>
    cases j with
    |zero=>exact absurd rfl ne
    |succ j=>exact f p a q (e j q b)
   |succ i=>
    cases j with
    |zero=>exact (f q b p (e i p a)).symm
    |succ j=>exact w i j (λz=>ne (by rw[z])) p a q b
section
theorem Q9{aZ:bO}(F:gM K x qual st f fd)(S:bS N ps (bD st))(hn:ps.length=n)(L:lo<=n)(e:∀(a7:ai)(A:Around)(outer:cz)(s:ak)(H:Hp)(E:XK),bw m (A.deeper (PyProof.Rows.envOfC qual (bD st) s.heap.objs.size f a7))->
   ∃u B,fA (i2 bJ P w K mg base N qual (bD st) f a7 A outer s H E).oa (i9 st) u/\cS K (Md.base z) lo u B/\∀xs b,xs.length=n->aZ xs b->B { nx:=λi=>b .aL i,rt:=b } (xs++List.replicate (N.length - n) .aA)):
  aK P w K mg base bJ (m+1) f fd ps (bP K z lo n aZ):=by
 refine F.ok S (λvs H Q E h=>h.1.trans hn.symm) (λa7 A outer s H vs Q E O h=>?_);obtain⟨hl,C,D,u,g,b,q,W,p,a⟩:=h;obtain⟨Y,B,G,I,M⟩:=e a7 A outer s H E O;have o:u.length=n:=by have:=W.l;rw[length_map] at this;omega
 refine⟨Y,G,I vs C D C H _ _ g _ { nx:=λi=>b .aL i,rt:=b } ((W.start N (by omega)).md id λ_ _ _ _ h=>h.elim) (by rw[o];exact M u b o p) ⟨?_,?_,λ_ _ _ _ _ _ (h:False)=>h.elim,λ_ _ _ _ _ _ (h:False)=>h.elim⟩⟩
 .exact λF H j i g y q=>a F H j i g .aL .aL [] (y.md id W.x) ⟨rfl,rfl⟩ .nil .nil (λ_ _ _ _ m=>nomatch m) rfl q
 .exact λF H j i g v t c y r J n d U q=>a F H j i g v t c (y.md id W.x) r J n d U q
theorem LC{aZ:fN}(F:gM K x qual st f fd)(S:bS N ps (bD st))(hn:ps.length=n)(L:lo<=n)(e:∀(a7:ai)(A:Around)(outer:cz)(s:ak)(H:Hp)(E:XK)(q:ai->Prop),bw m (A.deeper (PyProof.Rows.envOfC qual (bD st) s.heap.objs.size f a7))->
   ∃u B,fA (i2 (fj P w) P w K mg base N qual (bD st) f a7 A outer s H E) (i9 st) u/\cS K ⟨z,λ_=>E,q⟩ lo u B/\∀xs b,xs.length=n->aZ xs b q->B { nx:=λi=>b .aL i,rt:=b } (xs++List.replicate (N.length - n) .aA)):
  aK P w K mg base (fj P w) (m+1) f fd ps (ib K z lo n aZ):=by
 refine F.yh S (λvs H Q E h=>h.1.trans hn.symm) (λa7 A outer s H vs Q E O h=>?_);obtain⟨hl,C,D,u,g,b,q,W,p,a⟩:=h;obtain⟨Y,B,G,I,M⟩:=e a7 A outer s H E q O;have o:u.length=n:=by have:=W.l;rw[length_map] at this;omega
 refine⟨Y,G,I vs C D C H _ _ g _ { nx:=λi=>b .aL i,rt:=b } (W.start N (by omega)) (by rw[o];exact M u b o p) ⟨?_,?_,λ_ _ _ _ _ _ (h:False)=>h.elim,λ_ _ _ _ _ _ (h:False)=>h.elim⟩⟩
 .exact λF H j i g y q=>a F H j i g .aL .aL [] y ⟨rfl,rfl⟩ .nil .nil (λ_ _ _ _ m=>nomatch m) rfl q
 .exact λF H j i g v t c y r J n d U q=>a F H j i g v t c y r J n d U q
end
section
theorem yL{c:Cs}{p:af×HO}(m:p∈c):cN (c.map (·.1)) H p.1=none:=OB (mem_map.mpr ⟨p,m,rfl⟩)
theorem rP(n:cY H c)(h:H a=some o):a ∉ c.map (·.1):=λm=>by
 obtain⟨p,b,rfl⟩:=mem_map.mp m;rw[n p b] at h;cases h
theorem _root_.Vc.Gr.cN(g:Gr F H F1 H1)(n:cY H c)(g':Gr F1 (cN (c.map (·.1)) H1) F' H'):Gr F H F' H':=
 Gr.of ⟨λa u e=>g'.h a u (oh (rP n e) (g.h a u e)),g.f.trans g'.f,g'.s,λa u e z=>by
  cases q:F1 a with
  |some y=>exact g.n a y q z
  |none=>
   have h:=g'.n a u e q;by_cases m:a∈c.map (·.1)
   .obtain⟨p,mp,rfl⟩:=mem_map.mp m;exact n p mp
   .unfold Vc.cN at h;rw[if_neg m] at h;exact g.h.free h⟩ (g'.fz g.z)
def sJ(q:ai->Prop)(aZ:fN)(a:b8):aY:=λj Q=>a j λb=>aZ (cp b) (λt _=>Q t) q
def ux(aZ:bO)(a:b8):aY:=λj Q=>a j λb=>aZ (cp b) λt _=>Q t
theorem Co{n:Nat}{z:Bool}{aZ:fN}{L:TA}{I:b8}{R':St->XK}{q':ai->Prop}(hE:∀(F:Hp)(B:Bool->Hp)(H:Hp)(G:St)(J:ah),gE K k F B H G J->∀f y w,q' f->Gr F H y w->R' G f none w)(hk:z=true->k.z=true)(hn:∀xs Q q,aZ xs Q q->xs.length=n)(h:eJ K k L I):bC K k (Eo (ib K z 0 n aZ) [] R' L) (sJ q' aZ I):=λF B H G J Q Q' c p q=>by
 refine h F B H G J _ _ c p λl vs C D A p1 d=>?_
 rw[append_nil];obtain⟨cs,M,N,O,U⟩:=d.r.split d.c;have hl:vs.length=n:=by rw[d.r.length,<- hn _ _ _ p1,lH]
 have hb:∀k,aC (B k) (cN (A.map (·.1)) D):=λk a o e=>oh (rP d.n (c.b k a o e)) (d.g.h _ _ (c.b k a o e))
 refine⟨hl,C,cN (A.map (·.1)) D,cp l,cs,_,q',⟨⟨u9 d.g.s,Fz.refl C⟩,λh=>d.g.fz (c.z (hk h)),by rw[length_map,lH,d.r.length],?_,O,λi p m=>yL (N i p m),U,λi h=>absurd h (Nat.not_lt_zero i),λf _ y w h g=>hE F B H G J c f y w h (d.g.cN d.n g)⟩,p1,?_⟩
 .intro i t h;have hi:i<l.length:=by have:=(List.getElem?_eq_some_iff.mp h).1;rw[lH] at this;exact this
  have e:∀(l:ah)(i:Nat),(cp l)[i]?=l[i]?.map dn:=by
   intro l
   induction l with
   |nil=>intro i;rfl
   |cons x xs ih=>intro i;cases i with
    |zero=>rfl
    |succ j=>exact ih j
  rw[e] at h;cases z:l[i]? with
  |none=>rw[z] at h;cases h
  |some u=>
   rw[z] at h;cases h;obtain⟨v,Y,b2⟩:=M i u z;exact .inr ⟨v,by rw[getElem?_map,Y];rfl,b2.dn (λk=>Le.of (hb k)) u⟩
 .intro y w G' J' cs' v t c' W r hc nw dj nl qt;refine q t v y w c' qt ⟨d.g.cN d.n W.g,r.base t nl,hc,λp m=>?_⟩;have z:=nw p m;by_cases E:p.1∈A.map (·.1)
  .obtain⟨q,mq,e⟩:=mem_map.mp E;have e:q.1=p.1:=e;rw[<- e];exact d.n q mq
  .unfold cN at z;rw[if_neg E] at z;exact d.g.h.free z
theorem MJ{aZ:bO}(a:z=true->k.z=true)(hn:∀xs Q,aZ xs Q->xs.length=n)(h:eJ K k ta pa):bC K k (z9 (bP K z 0 n aZ) [] E ta) (ux aZ pa):=
 Co (R':=λ_=>E) (q':=λ_=>False) (aZ:=λxs Q _=>aZ xs Q) (λ_ _ _ _ _ _ _ _ _ h=>h.elim) a (λxs Q _=>hn xs Q) h
def ly(K:ao)(k:Md)(r:aw->Hp->VK->Prop)(i:ah->(av)->Prop):Prop:=∀(F:Hp)(B:Bool->Hp)(H:Hp)(h:aw)(g:ah)(e:Cs)(Q:VK)(f:av),aC F H->(∀k,aC (B k) H)->(k.z=true->Fz S0 F)->Rs K F B g h e->ar F H e->i g f->
 (∀t v a b d,f t->Gr F H a b->R K a B t v d->ar a b d->(∀p∈d,H p.1=none\/p∈e)->Q v b)->r h H Q
def pB(b:ah->(av)->Prop)(a:b8):aY:=λj Q=>a j λd=>b d Q
theorem Cw(o:ly K k r pr)(h:eJ K k ta pa):bC K k (kO r ta) (pB pr pa):=λF B H j i Q u c p q=>by
 refine h F B H j i _ _ c p λD vs d f x p1 a=>?_
 refine o d B f vs D x Q u a.g.s (λk=>(c.b k).trans a.g.h) (λh=>a.g.fz (c.z h)) a.r a.c p1 λt v e l y A g C w n=>?_
 refine q t v e l y A ⟨a.g.trans' g,C,w,λp m=>?_⟩;rcases n p m with z |z
 .exact a.g.h.free z
 .exact a.n p z
theorem Rs.one(r:Rs K F B [t] xs cs):∃v,xs=[v]/\R K F B t v cs:=by
 obtain⟨v,r,c,d,b,a,e,rfl,rfl⟩:=r;rw[append_nil] at a;exact⟨v,b,by rw[a];exact e⟩
def yK(a:ah)(Q:av):Prop:=match a with
 |[.int i]=>Q (.int (if i < 0 then -i else i))
 |_=>False
theorem tM:ly K k (λxs H Q=>∃i,xs=[.int i]/\Q (.int (if i<0 then -i else i)) H) yK:=λF B H xs f d Q a s b z r e p q=>by
 unfold yK at p;split at p
 .obtain⟨v,rfl,rfl,_⟩:=r.one;exact⟨_,rfl,q _ _ F H [] p (Gr.aO s) ⟨rfl,rfl⟩ .nil λ_ m=>nomatch m⟩
 .exact p.elim
end
structure QE(X:Cx)(k:Md)(e:Expr)(pe:aY):Prop where
 h:∃te,PE X e te/\bC X.K k te pe
structure QT(X:Cx)(k:Md)(e:Expr)(pe:d6):Prop where
 h:∃te,PT X e te/\fS X.K k te pe
structure QW(X:Cx)(k:Md)(e:Expr)(pe:d6):Prop where
 h:∃te,PW X e te/\fS X.K k te pe
structure QA(X:Cx)(k:Md)(es:bH)(pa:b8):Prop where
 h:∃ta,PA X es ta/\eJ X.K k ta pa
structure QS(X:Cx)(k:Md)(lo:Nat)(st:Stmt)(ps:cg):Prop where
 h:∃ts,PS X st ts/\cS X.K k lo ts ps
structure QB(X:Cx)(k:Md)(lo:Nat)(sts:List Stmt)(ps:cg):Prop where
 h:∃ts,fA X sts ts/\cS X.K k lo ts ps
section
theorem qv(i:Nat)(b:X.N[i]?=some x:=by rfl)(d:n4 X.env.scope x:=by first |exact Or.inl rfl |exact Or.inr (Or.inl rfl) |exact Or.inr (Or.inr rfl))(hd:du x:=by decide)(a:(x == ("__classdict__":Str))=false:=by decide):QE X k (.Name x pos) (kz i):=⟨_,q0 b d hd a,ML i⟩
theorem az{i j}:QE X k (.Constant (.int i) j pos) (pC (.int i)):=⟨_,FR,UP⟩
theorem iT{i j}:QE X k (.Constant (.str i) j pos) (pC (.str i)):=⟨_,D5,Jo⟩
theorem qz{i j}:QE X k (.Constant (.bool i) j pos) (pC (.bl i)):=⟨_,S9,IF⟩
theorem kH{j}:QE X k (.Constant .none j pos) (pC .aL):=⟨_,JE,Sx⟩
theorem CI(v:V)(a:Gl X x)(hm:X.mg x=some u)(r:aE v u)(ht:∀F B,R X.K F B t v [])(hd:du x:=by decide):QE X k (.Name x pos) (pC t):=⟨_,S2 a hm r hd,oA ht⟩
theorem mO(l:b6 X (binaryOp op) r)(hs:eK X.K k r pr)(i:QE X k a pa)(j:QE X k b pb):QE X k (.BinOp a op b pos) (p2 pr pa pb):=by
 obtain⟨m,f,g⟩:=i.h;obtain⟨tb,d,e⟩:=j.h;exact⟨_,Qo l f d,rh hs g e⟩
theorem eN(d:QE X k a pa)(e:QE X k b pb):QE X k (.BinOp a .Add b pos) (p2 n5 pa pb):=mO V6 MO d e
theorem kB(d:QE X k a pa)(e:QE X k b pb):QE X k (.BinOp a .Sub b pos) (p2 (act (λ_ _=>True) λi j=>.int (i - j)) pa pb):=mO Hh NZ d e
theorem cw(d:QE X k a pa)(e:QE X k b pb):QE X k (.BinOp a .Mult b pos) (p2 qp pa pb):=mO UW MX d e
theorem jO(d:QE X k a pa)(e:QE X k b pb):QE X k (.BinOp a .FloorDiv b pos) (p2 (act dN λi j=>.int (i.fdiv j)) pa pb):=mO IY IH d e
theorem gj(d:QE X k a pa)(e:QE X k b pb):QE X k (.BinOp a .Mod b pos) (p2 (act (λ_ j=>0<j) λi j=>.int (i % j)) pa pb):=mO Sw NI d e
theorem iG(e:QE X k a pa):QE X k (.UnaryOp .USub a pos) (p1 sk pa):=by
 obtain⟨f,b,d⟩:=e.h;exact⟨_,T7 M1 b,GW VN d⟩
theorem aW(i:QE X k a pa)(j:QE X k b pb)(hs:z6 b:=by exact λ_ _=>rfl)(l:X.A.units+1<cLine:=by assumption):QE X k (.Subscript a b pos) (p2 dw pa pb):=by
 obtain⟨m,f,g⟩:=i.h;obtain⟨tb,d,e⟩:=j.h;exact⟨_,NQ (RB l) f d hs,rh Iu g e⟩
theorem kL(l:b6 X (compareOp op) r)(hs:eK X.K k r pr)(i:QE X k a pa)(j:QE X k b pb)(hm:behindInMarks op b=false:=by with_unfolding_all rfl):QE X k (.Compare a [op] [b] pos) (p2 pr pa pb):=by
 obtain⟨m,f,g⟩:=i.h;obtain⟨tb,d,e⟩:=j.h;exact⟨_,RM l f d hm,rh hs g e⟩
theorem cc(l:b6 X (compareOp op) r)(hs:eK X.K k r pr)(i:QE X k a pa)(j:QE X k b pb)(hm:behindInMarks op b=false:=by with_unfolding_all rfl):QT X k (.Compare a [op] [b] pos) (pT (p2 pr pa pb)):=by
 obtain⟨m,f,g⟩:=i.h;obtain⟨tb,d,e⟩:=j.h;exact⟨_,BH l f d hm,Lm (rh hs g e)⟩
theorem lF(h:QE X k e pe)(he:∀whole,isTrue e X.env whole=(do let v <- whole;standAt e.pos;holding [v] (truthy v)):=by intro _;rfl):QT X k e (pT pe):=by
 obtain⟨d,a,b⟩:=h.h;exact⟨_,NS a he,FP b⟩
theorem L4(h:QT X k e pe):QT X k (.UnaryOp .Not e pos) (yi pe):=by
 obtain⟨d,a,b⟩:=h.h;exact⟨_,Wq a,IS b⟩
theorem QW.t(h:QW X k e pe):QT X k e pe:=by
 obtain⟨d,a,b⟩:=h.h;exact⟨_,a.pt,b⟩
theorem qV(h:QT X k e pe):QW X k (.BoolOp .And [e] pos) pe:=by
 obtain⟨d,a,b⟩:=h.h;exact⟨_,Jk a,b⟩
theorem nv(h:QT X k e pe):QW X k (.BoolOp .Or [e] pos) pe:=by
 obtain⟨d,a,b⟩:=h.h;exact⟨_,Sa a,b⟩
theorem qj(h:QT X k e pe)(h':QW X k (.BoolOp .And (f::r) pos) pf):QW X k (.BoolOp .And (e::f::r) pos) (xt pe pf):=by
 obtain⟨i,d,g⟩:=h.h;obtain⟨j,a,b⟩:=h'.h;exact⟨_,GU d a,L5 g b⟩
theorem k9(h:QT X k e pe)(h':QW X k (.BoolOp .Or (f::r) pos) pf):QW X k (.BoolOp .Or (e::f::r) pos) (xM pe pf):=by
 obtain⟨i,d,g⟩:=h.h;obtain⟨j,a,b⟩:=h'.h;exact⟨_,Mj d a,TH g b⟩
theorem yF{op}(h:QE X k e pe):QE X k (.BoolOp op [e] pos) pe:=by
 obtain⟨d,a,b⟩:=h.h;exact⟨_,NM a,b⟩
theorem Ca(h:QE X k e pe)(h':QE X k (.BoolOp .And (f::r) pos) pf):QE X k (.BoolOp .And (e::f::r) pos) (wV pe pf):=by
 obtain⟨i,d,g⟩:=h.h;obtain⟨j,a,b⟩:=h'.h;exact⟨_,KQ d a,R9 g b⟩
theorem JL(h:QE X k e pe)(h':QE X k (.BoolOp .Or (f::r) pos) pf):QE X k (.BoolOp .Or (e::f::r) pos) (x8 pe pf):=by
 obtain⟨i,d,g⟩:=h.h;obtain⟨j,a,b⟩:=h'.h;exact⟨_,KL d a,HU g b⟩
theorem sA{pt:d6}(n:QT X k c pt)(l:QE X k a pa)(m:QE X k b pb):QE X k (.IfExp c a b pos) (ym pt pa pb):=by
 obtain⟨p,i,j⟩:=n.h;obtain⟨o,f,g⟩:=l.h;obtain⟨tb,d,e⟩:=m.h;exact⟨_,U7 i f d,GH j g e⟩
theorem aF:QA X k [] qm:=⟨_,jT,Gy⟩
theorem aq(h:QE X k a pa)(h':QA X k es ps)(hs:dH a es X.env:=by rfl):QA X k (a::es) (qe pa ps):=by
 obtain⟨g,e,f⟩:=h.h;obtain⟨i,b,d⟩:=h'.h;exact⟨_,ju e b hs,Oh f d⟩
theorem fF{x1}(h:QA X k es ps):QE X k (.Tuple es x1 pos) (yx ps):=by
 obtain⟨d,a,b⟩:=h.h;exact⟨_,G3 a,Ph b⟩
theorem eC(h:QA X k es ps):QE X k (.List es pos) (xY ps):=by
 obtain⟨d,a,b⟩:=h.h;exact⟨_,HY a,VM b⟩
theorem fC{r:aw->Hp->VK->Prop}{d:ah->(av)->Prop}{id:String}{x:Str}{p:Pos}{e:Expr}{a:bH}{f:b8}(l:bK X (.builtin id) r)(n:ly X.K k r d)(hm:X.mg x=none)(j:QA X k (e::a) f)(m:Gl X x:=by rfl)(o:bootBuiltins x=some (.builtin id):=by rfl)(hn:x≠"__name__":=by decide)(b:du x:=by decide)(he:dH e a X.env:=by rfl)(hpl:fk pos a X.env:=by rfl):
  QE X k (.Call (.Name x p) (e::a) [] pos) (pB d f):=by
 obtain⟨q,g,i⟩:=j.h;exact⟨_,NK l m hm o g hn b he hpl,Cw n i⟩
theorem c9:QB X k lo [] xP:=⟨_,VZ,Pe⟩
theorem aP(h:QS X k lo st p)(h':QB X k lo r q):QB X k lo (st::r) (pG p q):=by
 obtain⟨f,d,e⟩:=h.h;obtain⟨g,a,b⟩:=h'.h;exact⟨_,vc d a,UJ e b⟩
theorem a8(h:QS X k lo st p):QB X k lo [st] p:=by
 obtain⟨d,a,b⟩:=h.h;exact⟨_,w1 a,b⟩
def Dq:cg:=λ_ _=>False
theorem sQ:QS X k lo st Dq:=⟨_,KO,λ_ _ _ _ _ _ _ _ _ _ _ h _=>h⟩
theorem QN(h:QE X k e pe)(hs:swapsWith e none pos.line X.env=pure false:=by rfl):QS X k lo (.Expr e pos) (uY pe):=by
 obtain⟨d,a,b⟩:=h.h;exact⟨_,tJ a hs,LL b⟩
theorem b5(h:QE X k e pe):QS X k lo (.Return (some e) pos) (uX pe):=by
 obtain⟨d,a,b⟩:=h.h;exact⟨_,Bv a,IJ b⟩
theorem da(j:QT X k e pe)(h:QB X k lo s1 p)(h':QB X k lo s2 q):QS X k lo (.If e s1 s2 pos) (oJ pe p q):=by
 obtain⟨m,g,i⟩:=j.h;obtain⟨l,d,f⟩:=h.h;obtain⟨tb,a,b⟩:=h'.h;exact⟨_,Ip g d a,SE i f b⟩
theorem xW(g:QT X k e pe)(h:QB X k lo s1 p)(hp:PassesOwn (model X.prog X.w) X.A X.env X.xe:=by first |exact PassesOwn.never |exact ed rfl):QS X k lo (.While e s1 [] pos) (Gi pe p):=by
 obtain⟨j,d,f⟩:=g.h;obtain⟨i,a,b⟩:=h.h;exact⟨_,OU hp d a,Pr f b⟩
theorem gJ(i:Nat)(h:QE X k e pe)(d:X.N.Nodup:=by assumption)(j:lo<=i:=by decide)(g:X.N[i]?=some x:=by rfl)(l:Loc X.env.scope x:=by first |exact Or.inl rfl |exact Or.inr rfl)(hs:swapsWith e (some (.Name x pos')) pos.line X.env=pure false:=by rfl)(f:ke X x:=by first |exact .inl rfl |exact .inr rfl |assumption):
  QS X k lo (.Assign [.Name x pos'] e pos) (vZ i pe):=by
 obtain⟨m,a,b⟩:=h.h;exact⟨_,q5 d g l a hs f,Tt j b⟩
end
section
theorem cj{aZ:bO}(F:gM K x qual st f fd)(S:bS N ps (bD st))(hn:ps.length=n)(e:lo<=n)(a:∀(a7:ai)(A:Around)(outer:cz)(s:ak)(H:Hp)(E:XK),bw m (A.deeper (PyProof.Rows.envOfC qual (bD st) s.heap.objs.size f a7))->(A.deeper (PyProof.Rows.envOfC qual (bD st) s.heap.objs.size f a7)).units+1<cLine->N.Nodup->
   ∃b,QB (i2 bJ P w K mg base N qual (bD st) f a7 A outer s H E).oa (Md.base z) lo (i9 st) b/\∀xs d,xs.length=n->aZ xs d->b { nx:=λj=>d .aL j,rt:=d } (xs++List.replicate (N.length - n) .aA)):
  aK P w K mg base bJ (m+1) f fd ps (bP K z lo n aZ):=Q9 F S hn e λa7 A outer s H E g=>by
 obtain⟨b,h,q⟩:=a a7 A outer s H E g (zh g) S.nd;obtain⟨o,i,l⟩:=h.h;exact⟨o,b,i,l,q⟩
theorem se{aZ:fN}(F:gM K x qual st f fd)(S:bS N ps (bD st))(hn:ps.length=n)(e:lo<=n)(a:∀(a7:ai)(A:Around)(outer:cz)(s:ak)(H:Hp)(E:XK)(q:ai->Prop),bw m (A.deeper (PyProof.Rows.envOfC qual (bD st) s.heap.objs.size f a7))->(A.deeper (PyProof.Rows.envOfC qual (bD st) s.heap.objs.size f a7)).units+1<cLine->N.Nodup->
   ∃b,QB (i2 (fj P w) P w K mg base N qual (bD st) f a7 A outer s H E) ⟨z,λ_=>E,q⟩ lo (i9 st) b/\∀xs d,xs.length=n->aZ xs d q->b { nx:=λj=>d .aL j,rt:=d } (xs++List.replicate (N.length - n) .aA)):
  aK P w K mg base (fj P w) (m+1) f fd ps (ib K z lo n aZ):=LC F S hn e λa7 A outer s H E q g=>by
 obtain⟨b,h,q⟩:=a a7 A outer s H E q g (zh g) S.nd;obtain⟨o,i,l⟩:=h.h;exact⟨o,b,i,l,q⟩
end
section
theorem lay:∀(c:Cs){F:Hp},Gr Fb Hb F H->ar F H c->cY Hb c->Plain c->∃i,Gr Fb Hb i H/\(∀S,Fz S F->Fz S i)/\aC F i/\(∀p∈c,i p.1=some p.2)/\∀a,a ∉ c.map (·.1)->i a=F a
 |[],F,g,_,_,_=>⟨F,g,λ_ h=>h,aC.refl F,λ_ m=>(nomatch m),λ_ _=>rfl⟩
 |(a,o)::c,F,g,hc,n,pl=>by
  obtain⟨s,A,E,D,q,l⟩:=Vc.ay g.toGr0 g.z (n _ (.head _)) (hc.f _ (.head _)) (hc.h _ (.head _)) (pl _ (.head _));have nd:=hc.nd;rw[map_cons,nodup_cons] at nd;have j:ar s H c:=⟨λp m=>hc.h p (.tail _ m),λp m=>by rw[l p.1 (λz=>nd.1 (mem_map.mpr ⟨p,m,z⟩))];exact hc.f p (.tail _ m),nd.2⟩;obtain⟨w,B,G,r,y,C⟩:=lay c ⟨A,E⟩ j (λp m=>n p (.tail _ m)) λp m=>pl p (.tail _ m)
  refine⟨w,B,λS h=>G S λb x u e=>?_,D.trans r,λp m=>?_,λb d=>?_⟩
  .by_cases d:b=a
   .subst d;rw[q] at e;exact absurd (Option.some.inj e) (pl _ (.head _) x u)
   .rw[l b d] at e;exact h b x u e
  .cases m with
   |head=>exact r _ _ q
   |tail _ m=>exact y p m
  .rw[map_cons,mem_cons] at d;rw[C b λz=>d (.inr z),l b λz=>d (.inl z)]
theorem bc.lay{c:Cs}(W:bc K k lo us Fb Hb F H G J cs)(u:ar F H c)(n:cY Hb c)(pl:Plain c)(d:∀j,∀p∈cs j,∀q∈c,p.1≠q.1):∃a,bc K k lo us Fb Hb a H G J cs/\aC F a/\∀p∈c,a p.1=some p.2:=by
 obtain⟨o,s,y,b,r,w⟩:=Pu.lay c W.g u n pl;refine⟨o,⟨s,λh=>y _ (W.z h),W.l,λi t h=>(W.e i t h).imp id λ⟨v,h1,h2⟩=>⟨v,h1,h2.mo (Le.of b) (λ_=>Le.refl _) t⟩,λi=>⟨(W.c i).h,λp m=>?_,(W.c i).nd⟩,W.n,W.d,W.p,W.x⟩,b,r⟩;rw[w p.1 λz=>?_]
 .exact (W.c i).f p m
 .obtain⟨q,mq,e⟩:=mem_map.mp z;exact d i p m q mq e.symm
theorem bc.fresh{t:Tr}{v:V}{c:Cs}{B:Bool->Hp}(W:bc K k lo us Fb Hb F H i G cs)(o:Out K F B H F' H' t v c):cY Hb c/\∀j,∀p∈cs j,∀q∈c,p.1≠q.1:=
 ⟨λp m=>W.g.h.free (o.n p m),λj p a q b e=>by
  have:=(W.c j).h p a;rw[e,o.n q b] at this;cases this⟩
theorem bc.outF{i:Nat}{t:Tr}{v:V}{c:Cs}(W:bc K k lo us Fb Hb F H j G cs)(o:Out K F (Bq Hb H) H F' H' t v c)(l:lo<=i)(n:bL t=true):
  ∃a b,bc K k lo us Fb Hb a H' (j.set i (some v)) (G.set i (ay t)) b:=by
 obtain⟨p,f⟩:=W.fresh o;obtain⟨d,e,q,h⟩:=(W.gr o.g).lay o.c p (o.r.plain t) f;exact⟨d,_,e.set l ((R.low (B':=λ_=>Hb) t n rfl o.r).ay (Le.of q) t h) .nil .nil λ_ _ _ _ _ m=>nomatch m⟩
theorem bc.held{t:Tr}{v:V}{c:Cs}(W:bc K k lo us Fb Hb F H j i cs)(o:Out K F (Bq Hb H) H F' H' t v c)(n:bL t=true):
  ∃a,bc K k lo us Fb Hb a H' j i cs/\R K a (λ_=>Hb) (ay t) v []:=by
 obtain⟨h,e⟩:=W.fresh o;obtain⟨b,d,l,f⟩:=(W.gr o.g).lay o.c h (o.r.plain t) e;exact⟨b,d,(R.low (B':=λ_=>Hb) t n rfl o.r).ay (Le.of l) t f⟩
def lW(i:Nat)(pe:aY):cg:=λD j=>pe (j.map aD) λt=>bL t=true/\D.nx (j.set i (ay t))
theorem zm(g:lo<=i)(h:bC K k te pe):cS K k lo (kI te (jb i)) (lW i pe):=λus n d F H j G r D l W p L=>by
 refine h F (Bq d H) H j _ _ _ W.eD p λt v m b c q o=>?_
 obtain⟨a,f,e⟩:=W.outF o g q.1;exact L.nx a b _ _ _ e q.2
abbrev eT:=Tr->ah->(aX)->Prop
def mY(K:ao)(k:Md)(lo:Nat)(l:TG)(pg:eT):Prop:=∀(us:aw)(d a F H:Hp)(j:St)(i:ah)(h:Nat->Cs)(x:V)(t:Tr)(Q:St->Hp->Prop)(e:aX),bc K k lo us d a F H j i h->R K F (λ_=>a) t x []->pg t i e->(∀g f b,bc K k lo us d a F H g f b->e f->Q g H)->l x j H Q
def pU(i:Nat):eT:=λt j Q=>Q (j.set i t)
theorem OE(a:lo<=i):mY K k lo (jb i) (pU i):=λus b d F H j G f x t Q e W r p q=>q _ _ _ (W.set a r .nil .nil λ_ _ _ _ _ m=>nomatch m) p
def pF(K:ao)(k:Md)(lo:Nat)(n:mS)(pg:ah->ah->(aX)->Prop):Prop:=∀(us:aw)(d a F H:Hp)(j:St)(i:ah)(m:Nat->Cs)(l:aw)(h:ah)(Q:St->Hp->Prop)(e:aX),bc K k lo us d a F H j i m->Rs K F (λ_=>a) h l []->pg h i e->(∀g f b,bc K k lo us d a F H g f b->e f->Q g H)->n l j H Q
def l8:ah->ah->(aX)->Prop:=λa j Q=>match a with |[]=>Q j |_=>False
def mw(pg:eT)(b:ah->ah->(aX)->Prop):ah->ah->(aX)->Prop:=λd j Q=>match d with |t::r=>pg t j λa=>b r a Q |[]=>False
theorem TY:pF K k lo xa l8:=λus b d F H j i a g f Q e W r p q=>by
 unfold l8 at p;split at p
 .exact⟨r.1,q j i a W p⟩
 .exact p.elim
theorem Jn(h:mY K k lo tg pg)(h':pF K k lo tr pr):pF K k lo (wj tg tr) (mw pg pr):=λus b f F H j i m x u Q g W r p q=>by
 unfold mw at p;split at p
 .obtain⟨v,w,c,d,h1,h2,h3,h4⟩:=r;have e:=append_eq_nil_iff.mp h2.symm;rw[e.1] at h3;rw[e.2] at h4;exact⟨v,w,h1,h us b f F H j i m v _ _ _ W h3 p λo n a l s=>h' us b f F H o n a w _ Q g l h4 s q⟩
 .exact p.elim
def lV(n:Nat)(b:ah->ah->(aX)->Prop):eT:=λt j Q=>match t with |.aG a=>a.length=n/\b a j Q |_=>False
theorem LU(h:pF K k lo tr pr):mY K k lo (vD K n tr) (lV n pr):=λus b d F H j i f x t Q e W r p q=>by
 unfold lV at p;split at p
 .obtain⟨a,vs,rfl,h1,h2⟩:=r.dB W.g.s;exact⟨a,vs,rfl,h1,h2.length.trans p.1,h us b d F H j i f vs _ Q e W h2 p.2 q⟩
 .exact p.elim
def vu(pe:aY)(pg:eT):cg:=λD j=>pe (j.map aD) λt=>bL t=true/\pg (ay t) j D.nx
theorem JB(h:bC K k te pe)(n:mY K k lo tg pg):cS K k lo (kI te tg) (vu pe pg):=λus f e F H j i m D w W p L=>by
 refine h F (Bq e H) H j _ _ _ W.eD p λt v x d c q o=>?_
 obtain⟨b,l,r2⟩:=W.held o q.1;exact n us f e b d j i m v _ _ _ l r2 q.2 λs r a g u=>L.nx b d s r a g u
def yW(i j:Nat)(d:b8):cg:=λD G=>d (G.map aD) λe=>match e with |[a,b]=>bL a=true/\bL b=true/\D.nx ((G.set i (ay a)).set j (ay b)) |_=>False
theorem Sh{i j:Nat}{l:TA}{d:b8}(z:lo<=i)(A:lo<=j)(h:eJ K k l d):cS K k lo (D7 i j l) (yW i j d):=λus O a F H G J x D M W p L=>by
 refine h F (Bq a H) H G _ _ _ W.eD p λQ vs N u c q o=>?_
 split at q
 .obtain⟨v,r,c1,d1,h1,h2,h3,v',r',c2,d2,g1,g2,g3,g4,g5⟩:=o.r;have E:cY a c:=λp m=>W.g.h.free (o.n p m)
  have y:∀j,∀p∈x j,∀q∈c,p.1≠q.1:=λj p B q C e=>by
   have:=(W.c j).h p B;rw[e,o.n q C] at this;cases this
  have I:Plain c:=Rs.plain _ o.r;obtain⟨s,w,f,b⟩:=(W.gr o.g).lay o.c E I y;refine⟨v,v',by rw[h1,g1,g4],L.nx s u _ _ _ ((w.set z ((R.low (B':=λ_=>a) _ q.1 rfl h3).ay (Le.of f) _ λp m=>b p (by rw[h2];exact mem_append.mpr (.inl m))) .nil .nil λ_ _ _ _ _ m=>nomatch m).set A ((R.low (B':=λ_=>a) _ q.2.1 rfl g3).ay (Le.of f) _ λp m=>b p (by rw[h2,g2];exact mem_append.mpr (.inr (mem_append.mpr (.inl m))))) .nil .nil λ_ _ _ _ _ m=>nomatch m) q.2.2⟩
 .exact q.elim
end
def Rb(J:It)(n:Nat)(h:Hp->Prop)(Y:Nat->Hp->V->Hp->Prop):Prop:=∀(g:TG)(tb:TS)(D:g9)(j:St)(H:Hp)(Pv:Nat->St->Hp->Prop),Pv 0 j H->(∀i j H,i<=n->Pv i j H->h H)->
 (∀i x j H a,i<n->Pv i j H->Y i H x a->g x j a λd b=>tb { D with nx:=Pv (i+1),ct:=Pv (i+1),bk:=D.nx } d b)->(∀j H,Pv n j H->D.nx j H)->
 ∃W:Nat->Nat->St->Hp->Prop,(∃m,W 0 m j H)/\∀i m j H,W i m j H->
  (J.stop i H/\D.nx j H)\/(J.go i H/\∃N:St->Hp->Prop,(∀e a,N e a->∃f,f<m/\W (i+1) f e a)/\∀x a,J.kK i H x a->g x j a λd b=>tb { D with nx:=N,ct:=N,bk:=D.nx } d b)
theorem yp{j:Type}{xs:List j}{i:Nat}{x:j}(h:xs[i]?=some x):i<xs.length:=(List.getElem?_eq_some_iff.mp h).1
structure fQ(J:It)(n:Nat)(Kp:Hp->Prop)(Y:Nat->Hp->V->Hp->Prop):Prop where
 go:∀i H,i<n->Kp H->J.go i H
 st:∀H,Kp H->J.stop n H
 yl:∀i H x H',i<n->Kp H->J.kK i H x H'->Y i H x H'
theorem fQ.runs(o:fQ J n Kp Y):Rb J n Kp Y:=λg tb D j H Pv h f l hd=>by
 refine⟨λi m j H=>m=n - i/\i<=n/\Pv i j H,⟨n,by simp,zero_le _,h⟩,?_⟩;rintro i m j H ⟨rfl,d,p⟩;by_cases a:i<n
 .exact .inr ⟨o.go i H a (f i j H d p),Pv (i+1),λr b q=>⟨n - (i+1),by omega,rfl,a,q⟩,λx b y=>l i x j H b a p (o.yl i H x b a (f i j H d p) y)⟩
 .have e:i=n:=by omega
  subst e;exact .inl ⟨o.st H (f i j H d p),hd j H p⟩
theorem ot{j:Type}{xs:List j}{i:Nat}(h:i<xs.length):∃x,xs[i]?=some x:=⟨_,getElem?_eq_getElem h⟩
theorem JH{K:ao}{a:af}{xs:aw}:fQ (rl K a) xs.length (λH=>bE K H a xs) (λi H x b=>xs[i]?=some x/\b=H):=
 ⟨λi H h q=>by obtain⟨x,e⟩:=ot h;exact⟨xs,x,q,e⟩,λH q=>⟨xs,q,le_refl _⟩,λi H x b h q y=>⟨y.2 xs q,y.1⟩⟩
theorem NL:fQ (mD l n) n (λ_=>True) (λi H x a=>x=.int (l+i)/\a=H):=⟨λi H h _=>h,λH _=>le_refl _,λi H x a h _ y=>⟨y.2,y.1⟩⟩
theorem P4:fQ (ur l c n) n (λ_=>True) (λi H x a=>x=.int (l+i*c)/\a=H):=⟨λi H h _=>h,λH _=>le_refl _,λi H x a h _ y=>⟨y.2,y.1⟩⟩
theorem QM{K:ao}{a:af}{xs:aw}:fQ (uj K a) xs.length (λH=>bE K H a xs) (λi H y b=>∃x p,xs[i]?=some x/\y=.ref p/\H p=none/\b=aQ H p (.aG [.int i,x])):=
 ⟨λi H h q=>by obtain⟨x,e⟩:=ot h;exact⟨xs,x,q,e⟩,λH q=>⟨xs,q,le_refl _⟩,λi H y b h q z=>by obtain⟨p,x,d,f,g,j⟩:=z;exact⟨x,p,g xs q,d,f,j⟩⟩
theorem Jf{K:ao}{a b:af}{xs ys:aw}:fQ (uK K a b) (min xs.length ys.length) (λH=>bE K H a xs/\bE K H b ys) (λi H z d=>∃x y p,xs[i]?=some x/\ys[i]?=some y/\z=.ref p/\H p=none/\d=aQ H p (.aG [x,y])):=
 ⟨λi H h q=>by obtain⟨x,e⟩:=ot (xs:=xs) (i:=i) (by omega);obtain⟨y,f⟩:=ot (xs:=ys) (i:=i) (by omega);exact⟨xs,ys,x,y,q.1,q.2,e,f⟩,λH q=>⟨xs,ys,q.1,q.2,by omega⟩,λi H z d h q y=>by obtain⟨p,x,y,g,j,l,m,n⟩:=y;exact⟨x,y,p,l xs q.1,m ys q.2,g,j,n⟩⟩
def Src(K:ao)(B:Bool->Hp)(F:Hp)(J:It)(g:ah):Prop:=∃(f:Hp->Prop)(Y:Nat->Hp->V->Hp->Prop),fQ J g.length f Y/\(∀b a,Le F b->aC b a->(∀k,aC (B k) a)->f a)/\
 ∀i t b a x e,g[i]?=some t->Le F b->aC b a->(∀k,aC (B k) a)->Y i a x e->∃d,Gr b a d e/\R K d B t x []
section
abbrev ip:=ah->(ah->Bool->Prop)->Prop
def kc(K:ao)(k:Md)(m:TI)(l:ip):Prop:=∀(F:Hp)(B:Bool->Hp)(H:Hp)(j:St)(i:ah)(g:It->Hp->Prop)(f:ah->Bool->Prop),gE K k F B H j i->l i f->
 (∀b h J a e,f b h->Gr F H a e->Src K B a J b->(h=true->∀d:Bool->Hp,d false=B false->Src K d a J b)->g J e)->m j H g
theorem _root_.Vc.Gr.base(g:Gr Fb Hb F1 H1)(g':Gr F1 Hb F H):Gr Fb Hb F H:=
 Gr.of ⟨g'.h,g.f.trans g'.f,g'.s,λa u e z=>by
  cases q:F1 a with
  |some w=>exact g.n a w q z
  |none=>exact g'.n a u e q⟩ (g'.fz g.z)
theorem bc.base(a:bc K k lo us Fb Hb F1 H1 j0 i0 cs0)(W:bc K k lo us F1 Hb F H j i cs):bc K k lo us Fb Hb F H j i cs:=⟨a.g.base W.g,W.z,W.l,W.e,W.c,W.n,W.d,W.p,a.x⟩
theorem bc.rebase(W:bc K k lo us Fb Hb F H j i cs):bc K k lo us F Hb F H j i cs:=⟨⟨⟨W.g.h,aC.refl F,W.g.s,λa u e z=>by rw[e] at z;cases z⟩,Fz.refl F⟩,W.z,W.l,W.e,W.c,W.n,W.d,W.p,λb o f m q g=>W.x b o f m q (W.g.base g)⟩
theorem Lk.rebase(b:bc K k lo us Fb Hb F1 H1 j0 i0 cs0)(L:Lk K k lo us Fb Hb D D'):Lk K k lo us F1 Hb D D':=
 ⟨λF H j i a W=>L.nx F H j i a (b.base W),λF H j i a v t c W=>L.rt F H j i a v t c (b.base W),λF H j i a W=>L.bk F H j i a (b.base W),λF H j i a W=>L.ct F H j i a (b.base W)⟩
def vN(f:ip)(pg:eT)(e:cg):cg:=λD j=>f (j.map aD) λa d=>d=true/\∃I:Nat->aX,I 0 j/\(∀i t j,a[i]?=some t->I i j->pg t j λb=>e { D with nx:=I (i+1),ct:=I (i+1),bk:=D.nx } b)/\∀j,I a.length j->D.nx j
theorem RQ(d:kc K k wi pi)(U:mY K k lo tg pg)(Q:cS K k lo tb pb):cS K k lo (yZ wi tg tb) (vN pi pg pb):=λus Fb b F H j G a D D' W p L=>by
 refine d F (Bq b H) H j _ _ _ W.eD p λB nl J e E q N _ u=>?_
 have z:=W.gr N;obtain⟨o,I,i0,step,n⟩:=q;obtain⟨Kp,Y,r,kp,yl⟩:=u o (λ_=>b) rfl;have run:=r.runs;have l:=L.rebase z;refine run tg tb D j E (λi j H=>∃F G a,bc K k lo us e b F H j G a/\I i G) ⟨e,G,a,z.rebase,i0⟩ ?_ ?_ ?_
 .rintro i j H d ⟨F,G,a,W,_⟩;exact kp F H (Le.of W.g.f) W.g.s λ_=>W.g.h
 .rintro i x j H H' d ⟨F,G,a,W,ii⟩ y;have A:B[i]?=some (B[i]'d):=getElem?_eq_getElem d;obtain⟨w,O,r2⟩:=yl i _ F H x H' A (Le.of W.g.f) W.g.s (λ_=>W.g.h) y;refine U us e b w H' j G a x _ _ _ (W.gr O) r2 (step i _ G A ii) λj' C m M p'=>?_
  exact Q us e b w H' j' C m _ _ M p' ⟨λF H j G a W q=>⟨F,G,a,W,q⟩,l.rt,l.nx,λF H j G a W q=>⟨F,G,a,W,q⟩⟩
 .rintro j H ⟨F,G,a,W,q⟩;exact l.nx F H j G a W (n G q)
theorem Hd(l:Le F F')(s:aC F' H')(h:bE K F a vs):bE K H' a vs:=s.seq (l.ag h)
theorem j5(r:R K F B (.ag f xs) v []):∃a vs,v=.ref a/\Rs K F B xs vs []/\∀g d,Le F g->aC g d->(∀k,aC (B k) d)->bE K d a vs:=by
 cases f with
 |f=>obtain⟨_,a,vs,h,e,i⟩:=r;exact⟨a,vs,h,i,λg d l s b=>Hd l s e⟩
 |l q=>obtain⟨_,a,vs,h,e,i⟩:=r;exact⟨a,vs,h,i,λg d l s b=>(b q).seq e⟩
 |o=>obtain⟨a,vs,j,h,e,i⟩:=r;cases e
theorem Rs.dc{xs:ah}{vs:aw}{i:Nat}{t:Tr}(r:Rs K F B xs vs [])(h:xs[i]?=some t):∃u,vs[i]?=some u/\R K F B t u []:=by
 obtain⟨u,c,b,a,d⟩:=r.at h;have e:c=[]:=List.eq_nil_iff_forall_not_mem.mpr λp m=>nomatch d p m
 rw[e] at a;exact⟨u,b,a⟩
theorem zJ{a:af}{f:Fl}{xs:ah}(r:R K F B (.ag f xs) (.ref a) []):Src K B F (rl K a) xs:=by
 obtain⟨w,vs,n,d,o⟩:=j5 r;cases n;refine⟨_,_,d.length ▸ JH (K:=K) (a:=a) (xs:=vs),o,λi t g q x h p l s b y=>?_⟩;obtain⟨e,rfl⟩:=y;obtain⟨u,j,m⟩:=d.dc p;rw[j] at e;cases e;exact⟨g,Gr.aO s,m.mo l (λ_=>Le.refl _) t⟩
theorem Ef{a:af}{f:Fl}{xs:ah}(r:R K F B (.ag f xs) (.ref a) []):Src K B F (uj K a) (xs.mapIdx λi x=>.aG [.int i,x]):=by
 obtain⟨G,vs,w,e,A⟩:=j5 r;cases w;refine⟨_,_,(by rw[List.length_mapIdx,<- e.length];exact QM (K:=K) (a:=a) (xs:=vs)),A,λi t D E x m d l s b y=>?_⟩;obtain⟨z,p,h,rfl,C,rfl⟩:=y;rw[List.getElem?_mapIdx] at d;cases q:xs[i]? with
 |none=>rw[q] at d;cases d
 |some u=>
  rw[q] at d;cases d;obtain⟨H,n,o⟩:=e.dc q;rw[n] at h;cases h;obtain⟨j,g,r2,_⟩:=oR (xs:=[.int i,u]) (cs:=[]) s ⟨.int i,[z],[],[],rfl,rfl,⟨rfl,rfl⟩,z,[],[],[],rfl,rfl,o.mo l (λ_=>Le.refl _) u,rfl,rfl⟩ .nil C;exact⟨j,g,r2⟩
theorem zv{a e:af}{f J:Fl}{xs ys:ah}(r:R K F B (.ag f xs) (.ref a) [])(Y:R K F B (.ag J ys) (.ref e) []):Src K B F (uK K a e) (xs.zipWith (λx y=>.aG [x,y]) ys):=by
 obtain⟨_,vs,Q,n,U⟩:=j5 r;obtain⟨_,us,N,m,O⟩:=j5 Y;cases Q;cases N;refine⟨(λH=>bE K H a vs/\bE K H e us),_,(by rw[List.length_zipWith,<- n.length,<- m.length];exact Jf (K:=K) (a:=a) (b:=e) (xs:=vs) (ys:=us)),λh j l s b=>⟨U h j l s b,O h j l s b⟩,λi t h j x E d l s b y=>?_⟩;obtain⟨z,C,p,w,A,rfl,y3,rfl⟩:=y;rw[List.getElem?_zipWith] at d;cases q:xs[i]? with
 |none=>rw[q] at d;cases d
 |some u=>
  cases q':ys[i]? with
  |none=>rw[q,q'] at d;cases d
  |some o=>
   rw[q,q'] at d;cases d;obtain⟨u',G,I⟩:=n.dc q;obtain⟨α,L,M⟩:=m.dc q';rw[G] at w;rw[L] at A;cases w;cases A;obtain⟨D,g,r2,_⟩:=oR (xs:=[u,o]) (cs:=[]) s ⟨z,[C],[],[],rfl,rfl,I.mo l (λ_=>Le.refl _) u,C,[],[],[],rfl,rfl,M.mo l (λ_=>Le.refl _) o,rfl,rfl⟩ .nil y3;exact⟨D,g,r2⟩
theorem zk{l c:Int}{n:Nat}:Src K B F (ur l c n) ((List.range n).map λ(i:Nat)=>.int (l+i*c)):=by
 refine⟨_,_,(by rw[length_map,length_range];exact P4 (l:=l) (c:=c) (n:=n)),λ_ _ _ _ _=>True.intro,λi t e g x f a h s b y=>?_⟩;obtain⟨rfl,rfl⟩:=y;rw[getElem?_map] at a;cases q:(List.range n)[i]? with
 |none=>rw[q] at a;cases a
 |some u=>
  rw[q] at a;cases a;have d:=yp q;rw[length_range] at d;rw[getElem?_range d] at q;cases q;exact⟨e,Gr.aO s,rfl,rfl⟩
theorem xk{l:Int}{n:Nat}:Src K B F (mD l n) ((List.range n).map λ(i:Nat)=>.int (l+i)):=by
 refine⟨_,_,(by rw[length_map,length_range];exact NL (l:=l) (n:=n)),λ_ _ _ _ _=>True.intro,λi t e g x f a h s b y=>?_⟩;obtain⟨rfl,rfl⟩:=y;rw[getElem?_map] at a;cases q:(List.range n)[i]? with
 |none=>rw[q] at a;cases a
 |some u=>
  rw[q] at a;cases a;have d:=yp q;rw[length_range] at d;rw[getElem?_range d] at q;cases q;exact⟨e,Gr.aO s,rfl,rfl⟩
theorem Out.held{t:Tr}{v:V}{c:Cs}(o:Out K F B H F' H' t v c):∃a,Gr F H a H'/\R K a B (ay t) v []:=by
 obtain⟨b,e,_,f,d,_⟩:=Pu.lay c o.g o.c o.n (o.r.plain t);exact⟨b,e,o.r.ay (Le.of f) t d⟩
theorem eH.held{t:ah}{v:aw}{c:Cs}(o:eH K F B H F' H' t v c):∃a,Gr F H a H'/\Rs K a B (bp t) v []:=by
 obtain⟨b,e,_,f,d,_⟩:=Pu.lay c o.g o.c o.n (o.r.plain t);exact⟨b,e,o.r.ay (Le.of f) t d⟩
def gL(t:Tr)(Q:aX):Prop:=match t with |.ag _ a=>Q a |_=>False
theorem oX{Q:aX}(h:gL t Q):∃f xs,t=.ag f xs/\Q xs:=by
 unfold gL at h;split at h
 .exact⟨_,_,rfl,h⟩
 .exact h.elim
def vp(pe:aY):ip:=λj Q=>pe j λt=>gL (ay t) λa=>Q a (bL (ay t))
theorem PQ(h:bC K k te pe):kc K k (Ec K te) (vp pe):=λF B H j i x w c p q=>by
 refine h F B H j i _ _ c p λt v u l y p1 o=>?_
 obtain⟨g,d,r2⟩:=o.held;obtain⟨f,z,e,p1⟩:=oX p1;rw[e] at r2 p1;obtain⟨a,vs,rfl,_,n⟩:=j5 r2;exact⟨a,rfl,⟨vs,n g l (Le.refl _) d.s λk=>(c.b k).trans d.h⟩,q _ _ _ g l p1 d (zJ r2) λhn r m=>zJ (R.low _ hn m.symm r2)⟩
def l5(a:ah)(Q:av):Prop:=match a with |[t]=>Q t |_=>False
theorem Aj{Q:av}(h:l5 ts Q):∃t,ts=[t]/\Q t:=by
 unfold l5 at h;split at h
 .exact⟨_,rfl,h⟩
 .exact h.elim
def wz(a:b8):ip:=λj Q=>a j λb=>l5 b λt=>gL (ay t) λd=>Q (d.mapIdx λi x=>.aG [.int i,x]) (bL (ay t))
theorem JQ(h:eJ K k ta pa):kc K k (Ar K ta) (wz pa):=λF B H j i A z c p q=>by
 refine h F B H j i _ _ c p λD vs y m C p1 o=>?_
 obtain⟨t,rfl,p1⟩:=Aj p1;obtain⟨v,rfl,r1⟩:=o.r.one;obtain⟨l,d,r2⟩:=Out.held ⟨o.g,r1,o.c,o.n⟩;obtain⟨f,E,e,p1⟩:=oX p1;rw[e] at r2 p1;obtain⟨a,vs,rfl,_,w⟩:=j5 r2;exact⟨a,rfl,⟨vs,w l m (Le.refl _) d.s λk=>(c.b k).trans d.h⟩,q _ _ _ l m p1 d (Ef r2) λhn x u=>Ef (R.low _ hn u.symm r2)⟩
def lS(a:ah)(Q:Tr->av):Prop:=match a with |[t,u]=>Q t u |_=>False
theorem Od{Q:Tr->av}(h:lS ts Q):∃t u,ts=[t,u]/\Q t u:=by
 unfold lS at h;split at h
 .exact⟨_,_,rfl,h⟩
 .exact h.elim
theorem Rs.two(r:Rs K F B [t,u] xs cs):∃v w c d,xs=[v,w]/\R K F B t v c/\R K F B u w d/\cs=c++d:=by
 obtain⟨v,r,c,d,g,h,i,j,m,b,l,e,a,f,rfl,rfl⟩:=r;rw[append_nil] at a;exact⟨v,j,c,b,by rw[g,e],i,f,by rw[h,a]⟩
def u6(a:b8):ip:=λj Q=>a j λb=>lS b λt u=>gL (ay t) λd=>gL (ay u) λe=>Q (d.zipWith (λx y=>.aG [x,y]) e) (bL (ay t)&&bL (ay u))
theorem Hx(h:eJ K k ta pa):kc K k (Ae K ta) (u6 pa):=λF B H j i I G c p q=>by
 refine h F B H j i _ _ c p λO vs E d J p1 o=>?_
 obtain⟨t,u,rfl,p1⟩:=Od p1;obtain⟨l,g,r2⟩:=o.held;obtain⟨v,w,L,M,rfl,r3,r4,e⟩:=Rs.two r2;have z:=append_eq_nil_iff.mp e.symm;rw[z.1] at r3;rw[z.2] at r4;obtain⟨f,Q,x,p1⟩:=oX p1;obtain⟨N,U,y,p1⟩:=oX p1;rw[x] at r3 p1;rw[y] at r4 p1;obtain⟨a,vs,rfl,_,C⟩:=j5 r3;obtain⟨r,us,rfl,_,A⟩:=j5 r4;have m:∀k,aC (B k) d:=λk=>(c.b k).trans g.h
 refine⟨a,r,rfl,⟨vs,C l d (Le.refl _) g.s m⟩,⟨us,A l d (Le.refl _) g.s m⟩,q _ _ _ l d p1 g (zv r3 r4) λhn D n=>?_⟩;rw[and_eq_true] at hn;exact zv (R.low _ hn.1 n.symm r3) (R.low _ hn.2 n.symm r4)
def uJ(a:ah)(Q:Int->Prop):Prop:=match a with |[.int i]=>Q i |_=>False
def x9(a:b8):ip:=λG Q=>a G λb=>uJ b λj=>-1000000<=j/\j<=1000000/\Q ((List.range j.toNat).map λ(i:Nat)=>.int i) true
theorem Qp(h:eJ K k ta pa):kc K k (C6 ta) (x9 pa):=λF B H G J m f c p q=>by
 refine h F B H G J _ _ c p λu vs a e s p1 o=>?_
 unfold uJ at p1;split at p1
 .rename_i j;obtain⟨v,rfl,rfl,_⟩:=o.r.one;have b:∀B,Src K B a (mD 0 j.toNat) ((List.range j.toNat).map λ(i:Nat)=>.int i):=λB=>by
   have:=xk (K:=K) (B:=B) (F:=a) (l:=0) (n:=Int.toNat j);simp only[Int.zero_add] at this;exact this
  exact⟨_,rfl,by omega,by omega,q _ _ _ a e p1.2.2 o.g (b B) λ_ d _=>b d⟩
 .exact p1.elim
def sO(a:ah)(Q:Int->Int->Prop):Prop:=match a with |[.int i,.int j]=>Q i j |_=>False
def ya(a:b8):ip:=λG Q=>a G λb=>sO b λi j=>(-1000000<=i/\i<=1000000/\-1000000<=j/\j<=1000000)/\Q ((List.range (j - i).toNat).map λ(n:Nat)=>.int (i+n)) true
theorem Jm(h:eJ K k ta pa):kc K k (Eh ta) (ya pa):=λF B H j i f e c p q=>by
 refine h F B H j i _ _ c p λm vs a b l p1 o=>?_
 unfold sO at p1;split at p1
 .obtain⟨v,w,d1,d2,rfl,⟨rfl,_⟩,⟨rfl,_⟩,_⟩:=o.r.two;exact⟨_,_,rfl,⟨by omega,by omega,by omega,by omega⟩,q _ _ _ a b p1.2 o.g xk λ_ d _=>xk⟩
 .exact p1.elim
end
section
theorem bc.mut{i:Nat}(W:bc K k lo us Fb Hb F H G J cs)(N:G[i]?=some (some v))(e:(a,o)∈cs i)(hd:ar F H ds')(hn:cY Hb ds')(E:∀p∈ds',p.1≠a)(C:∀j,j≠i->∀p∈ds',∀q∈cs j,p.1≠q.1)(B:c'.Perm ((a,o')::ds'))(O:R K F (λ_=>Hb) t' v c'):
  bc K k lo us Fb Hb F (aQ H a o') G (J.set i t') (λj=>if j=i then c' else cs j):=by
 have I:=W.n i _ e;have D:=(W.c i).f _ e;have b:∀j,j≠i->∀p∈cs j,p.1≠a:=λj C p m z=>W.d j i C p m _ e z
 refine⟨⟨⟨W.g.h.my I,W.g.f,W.g.s.my D,W.g.n⟩,W.g.z⟩,W.z,by rw[length_set];exact W.l,λj u h=>?_,λj=>?_,λj=>?_,λx y ne p w q r=>?_,W.p,W.x⟩
 .by_cases ej:j=i
  .subst ej;have M:j<J.length:=by have:=(List.getElem?_eq_some_iff.mp h).1;rw[length_set] at this;exact this
   rw[getElem?_set_self M] at h;cases h;exact .inr ⟨v,N,by rw[if_pos rfl];exact O⟩
  .rw[getElem?_set_ne (λz=>ej z.symm)] at h;rw[if_neg ej];exact W.e j u h
 .split
  .refine⟨λp m=>?_,λp m=>?_,?_⟩
   .rcases mem_cons.mp (B.mem_iff.mp m) with rfl |m
    .exact cq
    .rw[ba (E p m)];exact hd.h p m
   .rcases mem_cons.mp (B.mem_iff.mp m) with rfl |m
    .exact D
    .exact hd.f p m
   .refine ((B.map (·.1)).nodup_iff).mpr ?_;rw[map_cons,nodup_cons];refine⟨λm=>?_,hd.nd⟩;obtain⟨p,w,e⟩:=mem_map.mp m;exact E p w e
  .rename_i ej;exact⟨λp m=>by rw[ba (b j ej p m)];exact (W.c j).h p m,(W.c j).f,(W.c j).nd⟩
 .split
  .intro p m;rcases mem_cons.mp (B.mem_iff.mp m) with rfl |m
   .exact I
   .exact hn p m
  .exact W.n j
 .have key:∀p,p∈c'->∀y,y≠i->∀q∈cs y,p.1≠q.1:=λp m y L q r=>by
   rcases mem_cons.mp (B.mem_iff.mp m) with rfl |m
   .exact (b y L q r).symm
   .exact C y L p m q r
  by_cases ex:x=i
  .have A:y≠i:=λz=>ne (ex.trans z.symm)
   rw[if_pos ex] at w;rw[if_neg A] at r;exact key p w y A q r
  .rw[if_neg ex] at w;by_cases A:y=i
   .rw[if_pos A] at r;exact (key q r x ex p w).symm
   .rw[if_neg A] at r;exact W.d x y ne p w q r
def gf(f:Str)(u:Tr):bx->bx
 |[]=>[]
 |(g,x)::r=>if g=f then (g,u)::r else (g,x)::gf f u r
def cO(t:Tr):aj->Tr
 |[]=>t
 |f::r=>match cO t r with |.ins .o _ fs=>(fs.lookup f).getD .aA |_=>.aA
def hY(t:Tr):aj->Tr->Tr
 |[],u=>u
 |f::r,u=>hY t r (match cO t r with |.ins .o c fs=>.ins .o c (gf f u fs) |y=>y)
def mu(K:ao)(t:Tr):aj->Prop
 |[]=>True
 |f::r=>mu K t r /\ (match cO t r with |.ins .o c fs=>(gg K c /\ bf K c f) /\ (fs.lookup f).isSome=true |_=>False)
def tR(K:ao)(i:Nat):aj->TE
 |[]=>f7 i
 |f::r=>wh K (tR K i r) f
theorem Rf.at:∀{fs:bx}{vs:List (Str×V)}{n:Cs}{f:Str}{x:Tr},Rf K F B fs vs n->fs.lookup f=some x->∃w c pre a,vs.lookup f=some w/\R K F B x w c/\n=pre++c++a/\∀b,Le F b->∀u d,R K b B u w d->Rf K b B (gf f u fs) vs (pre++d++a)
 |(g,y)::fs,_,_,f,x,y0,h=>by
  obtain⟨v,r,c,d,j,o,p,q⟩:=y0;by_cases e:g=f
  .subst e;rw[List.lookup_cons_self] at h;cases h;refine⟨v,c,[],d,by rw[j,List.lookup_cons_self],p,by rw[o];rfl,λb l u i m=>?_⟩;unfold gf;rw[if_pos rfl];exact⟨v,r,i,d,j,rfl,m,q.mo l (λ_=>Le.refl _) fs⟩
  .have e':(f == g)=false:=by simpa using λz=>e z.symm
   rw[lookup_cons,e'] at h;obtain⟨w,E,pre,a,s,A,C,D⟩:=Rf.at (fs:=fs) q h;refine⟨w,E,c++pre,a,by rw[j,lookup_cons,e'];exact s,A,by rw[o,C];simp only[append_assoc],λb l u i m=>?_⟩;unfold gf;rw[if_neg e];exact⟨v,r,c,pre++i++a,j,by simp only[append_assoc],p.mo l (λ_=>Le.refl _) y,D b l u i m⟩
theorem place{B:Bool->Hp}(s:aC F H)(b:∀k,aC (B k) H)(M:j[i]?=some (some v))(r0:R K F B t v c0)(L:ar F H c0):∀(r:aj),mu K t r->∃w c rest,c0.Perm (c++rest)/\R K F B (cO t r) w c/\(∀g,Le F g->∀u d,R K g B u w d->∃p,R K g B (hY t r u) v p/\p.Perm (d++rest))/\∀Q:VK,Q w H->tR K i r j H Q
 |[],_=>⟨v,c0,[],by rw[append_nil],r0,λg l u d G=>⟨d,G,by rw[append_nil]⟩,λQ q=>⟨v,M,q⟩⟩
 |f::r,ok=>by
  obtain⟨w,c,rest,p1,r1,cl,rd⟩:=place s b M r0 L r ok.1;have A:=ok.2;split at A
  .rename_i C fs eg;obtain⟨⟨yh,D⟩,E⟩:=A;obtain⟨x,N⟩:=Option.isSome_iff_exists.mp E;rw[eg] at r1;obtain⟨a,m,vs,ds,I,J,h3⟩:=r1;obtain⟨z,n,pre,e,O,U,Y,a4⟩:=h3.at N;have hm:(a,HO.ins C m vs)∈c0:=p1.mem_iff.mpr (mem_append.mpr (.inl (by rw[J];exact .head _)));refine⟨z,n,(a,.ins C m vs)::(pre++e++rest),?_,?_,λg l u d G=>?_,λQ q=>?_⟩
   .refine p1.trans ?_;rw[J,Y];show List.Perm ((a,HO.ins C m vs)::((pre++n++e)++rest)) _;refine List.Perm.trans (List.Perm.cons _ ?_) (List.perm_middle.symm);rw[append_assoc pre n e,<- append_assoc,<- append_assoc,<- append_assoc];refine List.Perm.append_right _ ?_;refine List.Perm.append_right _ ?_;exact List.perm_append_comm
   .show R K F B (match cO t r with |.ins .o _ fs=>(fs.lookup f).getD .aA |_=>.aA) z n;rw[eg];show R K F B ((fs.lookup f).getD .aA) z n;rw[N];exact U
   .obtain⟨p,b1,b2⟩:=cl g l (.ins .o C (gf f u fs)) ((a,.ins C m vs)::(pre++d++e)) ⟨a,m,vs,_,I,rfl,a4 g l u d G⟩;refine⟨p,?_,b2.trans ?_⟩
    .show R K g B (hY t r (match cO t r with |.ins .o c fs=>.ins .o c (gf f u fs) |y=>y)) v p;rw[eg];exact b1
    .show List.Perm ((a,HO.ins C m vs)::((pre++d++e)++rest)) _;refine List.Perm.trans (List.Perm.cons _ ?_) (List.perm_middle.symm);rw[append_assoc pre d e,<- append_assoc,<- append_assoc,<- append_assoc];refine List.Perm.append_right _ ?_;refine List.Perm.append_right _ ?_;exact List.perm_append_comm
   .exact rd _ ⟨a,C,m,vs,z,I,Rd.of (L.h _ hm),yh,D,O,q⟩
  .exact A.elim
theorem bc.at(W:bc K k lo us Fb Hb F H G J cs)(ht:J[i]?=some t)(hn:t≠.aA)(r:aj)(ok:mu K t r):∃w c,R K F (λ_=>Hb) (cO t r) w c/\(∀p∈c,p∈cs i)/\ar F H c/\(∀Q:VK,Q w H->tR K i r G H Q)/\
  ∀b B,bc K k lo us Fb Hb b B G J cs->Le F b->∀(a:af)(o o':HO)(A ds' e:Cs)(u:Tr)(d:Cs),c=(a,o)::A->ds'.Sublist A->ar b B e->cY Hb e->(∀j,∀p∈cs j,∀q∈e,p.1≠q.1)->d.Perm ((a,o')::(ds'++e))->R K b (λ_=>Hb) u w d->∃I,bc K k lo us Fb Hb b (aQ B a o') G (J.set i (hY t r u)) I:=by
 rcases W.e i t ht with z |⟨v,Y,rv⟩
 .exact absurd z hn
 .obtain⟨w,c,rest,p1,r1,cl,rd⟩:=place W.g.s (λ_=>W.g.h) Y rv (W.c i) r ok;have sub:∀{F H:Hp},ar F H (cs i)->ar F H (c++rest):=λh=>⟨λp m=>h.h p (p1.mem_iff.mpr m),λp m=>h.f p (p1.mem_iff.mpr m),((p1.map (·.1)).nodup_iff).mp h.nd⟩
  refine⟨w,c,r1,λp m=>p1.mem_iff.mpr (mem_append.mpr (.inl m)),(sub (W.c i)).left,rd,λb B y l a o o' A ds' e u d L sl he M x pd ru=>?_⟩;obtain⟨c1,b1,b2⟩:=cl b l u d ru;have U:=sub (y.c i);rw[L] at U;have O:(a,o)∈cs i:=p1.mem_iff.mpr (mem_append.mpr (.inl (by rw[L];exact .head _)));have D:(a ∉ (A++rest).map (·.1))/\((A++rest).map (·.1)).Nodup:=nodup_cons.mp U.nd;have N:(ds'++rest).Sublist (A++rest):=sl.append_right rest;have C:∀p∈ds'++rest,p∈cs i:=λp m=>p1.mem_iff.mpr (by rw[L];exact .tail _ (N.subset m))
  have c3:ar b B (ds'++rest):=⟨λp m=>(y.c i).h p (C p m),λp m=>(y.c i).f p (C p m),List.Sublist.nodup (N.map _) D.2⟩
  refine⟨_,y.mut (o:=o) (o':=o') (ds':=(ds'++rest)++e) Y O (c3.app he λp mp q E=>x i p (C p mp) q E) ?_ ?_ ?_ (b2.trans ((pd.append_right rest).trans ?_)) b1⟩
  .exact λp m=>(mem_append.mp m).elim (λm=>y.n i p (C p m)) (M p)
  .intro p m z;rcases mem_append.mp m with m |m
   .exact D.1 (mem_map.mpr ⟨p,N.subset m,z⟩)
   .exact x i _ O p m z.symm
  .intro j hj p m q E;rcases mem_append.mp m with m |m
   .exact y.d i j (λz=>hj z.symm) p (C p m) q E
   .exact (x j q E p m).symm
  .show List.Perm ((a,o')::((ds'++e)++rest)) ((a,o')::((ds'++rest)++e));refine List.Perm.cons _ ?_;rw[append_assoc,append_assoc];exact List.Perm.append_left _ List.perm_append_comm
end
section
def gS(K:ao)(j:ah)(i:Nat)(r:aj)(Q:Tr->(Tr->ah)->Prop):Prop:=match j[i]? with
 |some .aA=>False
 |some t=>mu K t r /\ Q (cO t r) λu=>j.set i (hY t r u)
 |none=>False
theorem o7{Q:Tr->(Tr->ah)->Prop}(h:gS K j i r Q):∃t,j[i]?=some t/\t≠.aA/\mu K t r/\Q (cO t r) λu=>j.set i (hY t r u):=by
 unfold gS at h;split at h
 .exact h.elim
 .rename_i t ne e;exact⟨t,e,ne,h.1,h.2⟩
 .exact h.elim
theorem Rs.set:∀{xs:ah}{vs:aw}{e:Cs}(n:Nat){t:Tr}{v:V},Rs K F B xs vs e->R K F B t v []->∃ds',Rs K F B (xs.set n t) (vs.set n v) ds'/\ds'.Sublist e
 |[],_,e,n,_,_,y,_=>by obtain⟨a,b⟩:=y;exact⟨[],by rw[a];exact⟨rfl,rfl⟩,by rw[b];exact List.Sublist.refl _⟩
 |x::xs,_,_,0,_,_,y,rt=>by obtain⟨v,r,c,d,a,b,h,f⟩:=y;exact⟨d,by rw[a];exact⟨_,r,[],d,rfl,rfl,rt,f⟩,by rw[b];exact List.sublist_append_right c d⟩
 |x::xs,_,_,n + 1,_,_,y,rt=>by
  obtain⟨v,r,c,d,a,b,h,f⟩:=y;obtain⟨g,i,j⟩:=Rs.set (xs:=xs) n f rt;exact⟨c++g,by rw[a];exact⟨v,_,c,g,rfl,rfl,h,i⟩,by rw[b];exact j.append_left c⟩
theorem Rs.snoc(h:Rs K F B xs vs ds)(rt:R K F B t v e):Rs K F B (xs++[t]) (vs++[v]) (ds++e):=h.append ⟨v,[],e,[],rfl,by rw[append_nil],rt,rfl,rfl⟩
theorem bc.fa{t:Tr}{v:V}{c:Cs}(W:bc K k lo us Fb Hb F H j i cs)(o:Out K F (Bq Hb H) H F' H' t v c)(n:bL t=true):
  ∃a,bc K k lo us Fb Hb a H' j i cs/\R K a (λ_=>Hb) (ay t) v []/\Le F a:=by
 obtain⟨l,f⟩:=W.fresh o;obtain⟨d,e,b,h⟩:=(W.gr o.g).lay o.c l (o.r.plain t) f;exact⟨d,e,(R.low (B':=λ_=>Hb) t n rfl o.r).ay (Le.of b) t h,Le.trans o.g.le (Le.of b)⟩
theorem ri:cY Hb []:=λ_ m=>nomatch m
theorem uP{cs:Nat->Cs}:∀(j:Nat),∀p∈cs j,∀q∈([]:Cs),p.1≠q.1:=λ_ _ _ _ m=>nomatch m
def adc(u:Tr)(Q:aX):Prop:=match u with |.ag .o xs=>Q xs |_=>False
theorem zc{Q:aX}(h:adc u Q):∃xs,u=.ag .o xs/\Q xs:=by
 unfold adc at h;split at h
 .exact⟨_,rfl,h⟩
 .exact h.elim
def yD(K:ao)(i:Nat)(r:aj)(pe:aY):cg:=λD j=>gS K j i r λu s=>adc u λa=>pe (j.map aD) λt=>bL t=true/\a.length<1000000/\D.nx (s (.ag .o (a++[ay t])))
theorem VF(h:bC K k te pe):cS K k lo (pR (vj K "list" FJ (tR K i r) (iS te iU))) (yD K i r pe):=λus Q z F H j G Y D N W p L=>by
 obtain⟨t,C,E,I,p⟩:=o7 p;obtain⟨y,J,p⟩:=zc p;obtain⟨w,c,r1,sub,M,rd,cl⟩:=W.at C E r I;rw[J] at r1;obtain⟨a,vs,b,rfl,m,n⟩:=r1;have s:H a=some (.ag vs):=M.h (a,.ag vs) (by rw[m];exact .head _);refine rd _ ⟨Kw s,h F (Bq z H) H j _ _ _ W.eD p λu v O l U q o=>?_⟩;obtain⟨f,A,r2,x⟩:=W.fa o q.1;have e:l a=some (.ag vs):=o.g.h _ _ s;obtain⟨d,B⟩:=cl f l A x a (.ag vs) (.ag (vs++[v])) b b [] (.ag .o (y++[ay u])) ((a,.ag (vs++[v]))::(b++[])) m (List.Sublist.refl _) .nil ri uP (List.Perm.refl _) ⟨a,vs++[v],b++[],rfl,rfl,(n.mo x (λ_=>Le.refl _) y).snoc r2⟩;exact⟨a,vs,v,rfl,rfl,e,lt_of_lt_of_le (by rw[n.length];exact q.2.1) (by decide),L.nx f _ j _ d B q.2.2⟩
def pE(xs:ah)(y t:Tr)(Q:aX):Prop:=match y with |.int j=>(match gZ xs.length j with |some n=>Q (xs.set n t) |none=>False) |_=>False
def yC(K:ao)(i:Nat)(r:aj)(b pe:aY):cg:=λD j=>pe (j.map aD) λt=>bL t=true/\gS K j i r λu s=>adc u λd=>b (j.map aD) λy=>pE d y (ay t) λa=>D.nx (s (.ag .o a))
theorem Ms(h:bC K k te pe)(hj:bC K k tj pj):cS K k lo (kI te (CG (tR K i r) tj Em)) (yC K i r pj pe):=λus Fb x F H j G cs D D' W p L=>by
 refine h F (Bq x H) H j _ _ _ W.eD p λu v F1 f c1 q o=>?_
 obtain⟨C,l,r2,l2⟩:=W.fa o q.1;obtain⟨t,O,Q,U,p⟩:=o7 q.2;obtain⟨B,Y,p⟩:=zc p;obtain⟨w,c,r1,sub,hc,rd,cl⟩:=l.at O Q r U;rw[Y] at r1;obtain⟨a,vs,N,rfl,z,A⟩:=r1;have ha:f a=some (.ag vs):=hc.h (a,.ag vs) (by rw[z];exact .head _);refine rd _ (hj C (Bq x f) f j _ _ _ l.eD p λy vy s E c3 e d=>?_);unfold pE at e;split at e
 .obtain⟨rfl,_⟩:=d.r;split at e
  .rename_i n en;obtain⟨b,J,M⟩:=(A.mo d.g.le (λ_=>Le.refl _) B).set n (r2.mo d.g.le (λ_=>Le.refl _) _);obtain⟨m,I⟩:=cl s E (l.gr d.g) d.g.le a (.ag vs) (.ag (vs.set n v)) N b [] (.ag .o (B.set n (ay u))) ((a,.ag (vs.set n v))::(b++[])) z M .nil ri uP (List.Perm.refl _) ⟨a,_,b++[],rfl,rfl,by rw[append_nil];exact J⟩;exact⟨a,vs,_,n,rfl,rfl,d.g.h _ _ ha,by rw[A.length];exact en,L.nx s _ j _ m I e⟩
  .exact e.elim
 .exact e.elim
def iQ(m:bA)(y:aU)(t:Tr):bA:=
 if (m.any λa=>decide (a.1=y))=true then m.map (λa=>if a.1=y then (a.1,t) else a) else m++[(y,t)]
theorem Rk.any:∀{m:bA}{vs:bT}{b:Cs}{y:aU},Rk K F B m vs b->(vs.any λa=>decide (a.1=y))=m.any λa=>decide (a.1=y)
 |[],_,_,y,y0=>by obtain⟨h,_⟩:=y0;rw[h];rfl
 |(k,x)::m,_,_,y,y0=>by obtain⟨v,r,c,d,e,g,i,f⟩:=y0;rw[e,any_cons,any_cons,Rk.any f]
theorem Rk.rep:∀{m:bA}{vs:bT}{i:Cs}{y:aU}{t:Tr}{v:V},Rk K F B m vs i->R K F B t v []->∃ds',Rk K F B (m.map (λa=>if a.1=y then (a.1,t) else a)) (vs.map (λa=>if a.1=y then (a.1,v) else a)) ds'/\ds'.Sublist i
 |[],_,_,y,_,_,y0,_=>by obtain⟨h,n⟩:=y0;exact⟨[],by rw[h];exact⟨rfl,rfl⟩,by rw[n];exact List.Sublist.refl _⟩
 |(k,x)::m,_,_,y,t,w,y0,rt=>by
  obtain⟨v,r,c,d,j,l,o,p⟩:=y0;obtain⟨b,f,g⟩:=Rk.rep (y:=y) p rt;by_cases e:k=y
  .refine⟨b,?_,by rw[l];exact g.trans (List.sublist_append_right c d)⟩;rw[j,map_cons,map_cons];show Rk K F B ((if k=y then (k,t) else (k,x))::_) ((if k=y then (k,w) else (k,v))::_) _;rw[if_pos e,if_pos e];exact⟨w,_,[],b,rfl,rfl,rt,f⟩
  .refine⟨c++b,?_,by rw[l];exact g.append_left c⟩;rw[j,map_cons,map_cons];show Rk K F B ((if k=y then (k,t) else (k,x))::_) ((if k=y then (k,w) else (k,v))::_) _;rw[if_neg e,if_neg e];exact⟨v,_,c,b,rfl,rfl,o,f⟩
theorem Rk.append:∀{m n:bA}{vs us:bT}{c d:Cs},Rk K F B m vs c->Rk K F B n us d->Rk K F B (m++n) (vs++us) (c++d)
 |[],_,_,_,_,_,y,h=>by obtain⟨a,b⟩:=y;rw[a,b];exact h
 |(k,x)::m,_,_,_,_,_,y,h=>by obtain⟨v,r,c,d,a,b,e,f⟩:=y;rw[a,b];exact⟨v,r ++ _,c,d ++ _,rfl,by rw[append_assoc],e,Rk.append f h⟩
theorem Rk.put(h:Rk K F B m vs ds)(rt:R K F B t v []):∃ds',Rk K F B (iQ m y t) (ff vs y v) ds'/\ds'.Sublist ds:=by
 unfold iQ ff;rw[h.any];split
 .exact h.rep rt
 .exact⟨ds++[],h.append ⟨v,[],[],[],rfl,rfl,rt,rfl,rfl⟩,by rw[append_nil];exact List.Sublist.refl _⟩
theorem Vy(n:(m.map (·.1)).Nodup)(y:aU)(t:Tr):((iQ m y t).map (·.1)).Nodup:=by
 unfold iQ;split
 .have e:(m.map λd=>if d.1=y then (d.1,t) else d).map (·.1)=m.map (·.1):=by
   rw[map_map];refine map_congr_left λp _=>?_
   show (if p.1=y then (p.1,t) else p).1=p.1;split<;>rfl
  rw[e];exact n
 .rename_i h;rw[map_append,nodup_append];refine⟨n,nodup_cons.mpr ⟨λz=>(nomatch z),List.nodup_nil⟩,λa f b g e=>h ?_⟩;obtain⟨p,i,rfl⟩:=mem_map.mp f;rw[mem_singleton.mp g] at e;exact any_eq_true.mpr ⟨p,i,decide_eq_true e⟩
def pq(u:Tr)(Q:bA->Prop):Prop:=match u with |.aS .o xs=>Q xs |_=>False
theorem K3{Q:bA->Prop}(h:pq u Q):∃xs,u=.aS .o xs/\Q xs:=by
 unfold pq at h;split at h
 .exact⟨_,rfl,h⟩
 .exact h.elim
def jz(y:Tr)(Q:aU->Prop):Prop:=match pO y with |some y=>Q y |none=>False
def vz(K:ao)(i:Nat)(r:aj)(a pe:aY):cg:=λD j=>pe (j.map aD) λt=>bL t=true/\gS K j i r λu s=>pq u λm=>a (j.map aD) λy=>jz y λy=>m.length<1000000/\D.nx (s (.aS .o (iQ m y (ay t))))
theorem N6(h:bC K k te pe)(hj:bC K k tj pj):cS K k lo (A5 (tR K i r) tj te) (vz K i r pj pe):=λus Fb x F H j G cs D D' W p L=>by
 refine h F (Bq x H) H j _ _ _ W.eD p λu v F1 f c1 q o=>?_
 obtain⟨B,l,r2,l2⟩:=W.fa o q.1;obtain⟨t,N,O,Q,p⟩:=o7 q.2;obtain⟨m,U,p⟩:=K3 p;obtain⟨w,c,r1,sub,hc,rd,cl⟩:=l.at N O r Q;rw[U] at r1;obtain⟨a,vs,M,rfl,z,A,Y⟩:=r1;have ha:f a=some (.dK vs):=hc.h (a,.dK vs) (by rw[z];exact .head _);refine rd _ (hj B (Bq x f) f j _ _ _ l.eD p λy vy s C c3 e d=>?_);unfold jz at e;split at e
 .rename_i yk ey;obtain rfl:=uo d.r ey;obtain⟨b,I,J⟩:=(A.mo d.g.le (λ_=>Le.refl _) m).put (y:=yk) (r2.mo d.g.le (λ_=>Le.refl _) _);obtain⟨n,E⟩:=cl s C (l.gr d.g) d.g.le a (.dK vs) (.dK (ff vs yk v)) M b [] (.aS .o (iQ m yk (ay u))) ((a,.dK (ff vs yk v))::(b++[])) z J .nil ri uP (List.Perm.refl _) ⟨a,_,b++[],rfl,rfl,by rw[append_nil];exact I,Vy Y _ _⟩;exact⟨a,_,rfl,ji.k (d.g.h _ _ ha) (lt_of_lt_of_le (by rw[A.length];exact e.1) (by decide)),L.nx s _ j _ n E e.2⟩
 .exact e.elim
def wJ:aY:=λ_ Q=>Q (.aS .o [])
theorem SY:bC K k Bc wJ:=λF B H j i Q d c p q a b=>q _ _ F _ _ p ⟨Gr.gY c.s b,⟨a,[],[],rfl,rfl,⟨rfl,rfl⟩,List.nodup_nil⟩,tW c.s .nil b,λp m=>by
 cases m with
 |head=>exact b
 |tail _ m=>nomatch m⟩
def adr(f:Str)(u:Tr):bx->bx
 |[]=>[(f,u)]
 |(g,x)::r=>if g=f then (g,u)::r else (g,x)::adr f u r
theorem Rf.put:∀{fs:bx}{vs:List (Str×V)}{h:Cs}{f:Str}{t:Tr}{v:V}{e:Cs},Rf K F B fs vs h->R K F B t v e->∃ds' d,Rf K F B (adr f t fs) (fq f v vs) d/\ds'.Sublist h/\d.Perm (ds'++e)
 |[],_,_,f,t,v,e,y,rt=>by obtain⟨a,b⟩:=y;exact⟨[],e,by rw[a];exact⟨v,[],e,[],rfl,by rw[append_nil],rt,rfl,rfl⟩,by rw[b];exact List.Sublist.refl _,List.Perm.refl _⟩
 |(g,x)::fs,_,_,f,t,w,e,y,rt=>by
  obtain⟨v,r,c,d,a,b,j,i⟩:=y;by_cases z:g=f
  .refine⟨d,e++d,?_,by rw[b];exact List.sublist_append_right c d,List.perm_append_comm⟩;rw[a];show Rf K F B (if g=f then (g,t)::fs else _) (if g=f then (g,w)::r else _) _;rw[if_pos z,if_pos z];exact⟨w,r,e,d,rfl,rfl,rt,i⟩
  .obtain⟨d',d2,a1,a2,a3⟩:=Rf.put (f:=f) i rt;refine⟨c++d',c++d2,?_,by rw[b];exact a2.append_left c,by rw[append_assoc];exact a3.append_left c⟩;rw[a];show Rf K F B (if g=f then _ else (g,x)::adr f t fs) (if g=f then _ else (g,v)::fq f w r) _;rw[if_neg z,if_neg z];exact⟨v,_,c,d2,rfl,rfl,j,a1⟩
theorem Rf.length:∀{fs:bx}{vs:List (Str×V)}{a:Cs},Rf K F B fs vs a->vs.length=fs.length
 |[],_,_,y=>by obtain⟨h,_⟩:=y;rw[h];rfl
 |(k,x)::xs,_,_,y=>by obtain⟨v,r,c,d,b,f,g,e⟩:=y;rw[b,length_cons,length_cons,Rf.length e]
def mU(K:ao)(f:Str)(u:Tr)(Q:af->bx->Prop):Prop:=match u with |.ins .o c fs=>(gg K c/\bf K c f)/\fs.length<900/\Q c fs |_=>False
theorem DR{Q:af->bx->Prop}(h:mU K f u Q):∃c fs,u=.ins .o c fs/\(gg K c/\bf K c f)/\fs.length<900/\Q c fs:=by
 unfold mU at h;split at h
 .exact⟨_,_,rfl,h⟩
 .exact h.elim
def yR(K:ao)(i:Nat)(r:aj)(f:Str)(pe:aY):cg:=λD j=>pe (j.map aD) λt=>bL t=true/\gS K j i r λu s=>mU K f u λc fs=>D.nx (s (.ins .o c (adr f t fs)))
theorem US(h:bC K k te pe):cS K k lo (xr K (tR K i r) te f) (yR K i r f pe):=λus Fb s F H j G cs D D' W p L=>by
 refine h F (Bq s H) H j _ _ _ W.eD p λu v m n J q o=>?_
 have x:=W.gr o.g;obtain⟨n1,M⟩:=W.fresh o;obtain⟨t,O,Q,U,p⟩:=o7 q.2;obtain⟨C,fs,Y,ok,hl,p⟩:=DR p;obtain⟨w,c,r1,sub,hc,rd,cl⟩:=x.at O Q r U;rw[Y] at r1;obtain⟨a,b,vs,N,rfl,y,z⟩:=r1;have ha:n a=some (.ins C b vs):=hc.h (a,.ins C b vs) (by rw[y];exact .head _);obtain⟨l,d,B,E,I⟩:=z.put (f:=f) (R.low (B':=λ_=>s) u q.1 rfl o.r);obtain⟨e,A⟩:=cl m n x (Le.refl _) a (.ins C b vs) (.ins C b (fq f v vs)) N l J (.ins .o C (adr f u fs)) ((a,.ins C b (fq f v vs))::d) y E o.c n1 M (List.Perm.cons _ I) ⟨a,b,_,d,rfl,rfl,B⟩;exact rd _ ⟨a,C,b,vs,rfl,ha,ok.1,ok.2,lt_of_lt_of_le (by rw[z.length];exact hl) (by decide),L.nx m _ j _ e A p⟩
end
section
theorem T9{Hb:Hp}(h:Hb a=none\/Hb a=some (.dK vs)):Le (fz Hb a (.ay ob (.dK vs))) Hb:=λb u n r=>by
 by_cases e:b=a
 .subst e;rcases h with h |h
  .rcases r with r |⟨o,r⟩<;>(rw[gH,if_pos h] at r;cases r)
  .have z:fz Hb b (.ay ob (.dK vs)) b=some (.ay ob (.dK vs)):=by rw[gH,if_neg (by rw[h];intro z;cases z)]
   rcases r with r |⟨o,r⟩
   .rw[z] at r;cases r;exact absurd rfl (n _ _)
   .rw[z] at r;cases r;exact .inl h
 .rcases r with r |⟨o,r⟩
  .rw[eM e] at r;exact .inl r
  .rw[eM e] at r;exact .inr ⟨o,r⟩
theorem bc.walk(W:bc K k lo us F Hb F H j G cs)(b:F a=some (.dK vs)):bc K k.walk lo us (fz F a (.ay ob (.dK vs))) (fz Hb a (.ay ob (.dK vs))) (fz F a (.ay ob (.dK vs))) (aQ H a (.ay ob (.dK vs))) j G cs:=by
 have r:H a=some (.dK vs):=W.g.s _ _ b;have o:Hb a=none\/Hb a=some (.dK vs):=by
  cases q:Hb a with
  |none=>exact .inl rfl
  |some u=>have:=W.g.h _ _ q;rw[r] at this;exact .inr this.symm
 have ne:∀i,∀p∈cs i,p.1≠a:=λi p m e=>by have:=(W.c i).f p m;rw[e,b] at this;cases this
 refine⟨⟨Kf _ W.g.toGr0,Fz.refl _⟩,λh=>(by cases h),W.l,λi t h=>(W.e i t h).imp id λ⟨v,h1,h2⟩=>⟨v,h1,h2.mo (uB (.inr b)) (λ_=>uB o) t⟩,λi=>⟨λp m=>?_,λp m=>?_,(W.c i).nd⟩,λi p m=>?_,W.d,W.p,λ_ _ _ _ h=>h.elim⟩
 .rw[ba (ne i p m)];exact (W.c i).h p m
 .rw[eM (ne i p m)];exact (W.c i).f p m
 .rw[eM (ne i p m)];exact W.n i p m
theorem bc.fD(hz:k.z=true)(w:bc K k lo us F1 Hb F1 H1 j G cs)(B:F1 a=some (.dK vs))(W:bc K k.walk lo us (fz F1 a (.ay ob (.dK vs))) (fz Hb a (.ay ob (.dK vs))) F H j' G' y):
  H a=some (.ay ob (.dK vs))/\∃r,bc K k lo us F1 Hb r (aQ H a (.dK vs)) j' G' y/\Le F r/\(∀b,b≠a->r b=F b)/\(∀b,F b=none->b≠a):=by
 have J:H1 a=some (.dK vs):=w.g.s _ _ B;have U:Hb a=none\/Hb a=some (.dK vs):=by
  cases q:Hb a with
  |none=>exact .inl rfl
  |some u=>have:=w.g.h _ _ q;rw[J] at this;exact .inr this.symm
 have I:fz F1 a (.ay ob (.dK vs)) a=some (.ay ob (.dK vs)):=by rw[gH,if_neg (by rw[B];intro z;cases z)]
 have A:F a=some (.ay ob (.dK vs)):=W.g.f _ _ I;have C:H a=some (.ay ob (.dK vs)):=W.g.s _ _ A;have O:Fz (λb=>b=a\/S0 b) F:=λb o u e=>by
  obtain⟨Y,u',E⟩:=W.g.z b o u e;by_cases eb:b=a
  .exact .inl eb
  .rw[eM eb] at E;exact .inr (w.z hz b Y u' E)
 obtain⟨N,Q,M,L,e2,n2,D,c2⟩:=Na (Fb:=F1) (Hb:=Hb) (F:=F1) (H:=H1) (S:=S0) w.g.toGr0 J (.inr B) W.g.toGr0 (A.trans I.symm) O;have ne:∀i,∀p∈y i,p.1≠a:=λi p m e=>by have:=(W.c i).f p m;rw[e,A] at this;cases this
 refine⟨C,N,⟨⟨Q,λb o u e=>(M b o u e).elim⟩,λ_=>M,W.l,λi t h=>(W.e i t h).imp id λ⟨v,h1,h2⟩=>⟨v,h1,h2.mo L (λ_=>T9 U) t⟩,λi=>⟨λp m=>?_,λp m=>?_,(W.c i).nd⟩,λi p m=>?_,W.d,W.p,w.x⟩,L,D,λb e z=>?_⟩
 .rw[ba (ne i p m)];exact (W.c i).h p m
 .rw[D _ (ne i p m)];exact (W.c i).f p m
 .have:=W.n i p m;rw[eM (ne i p m)] at this;exact this
 .rw[z,A] at e;cases e
def lO:aU->Tr |.inl n=>.int n |.inr s=>.str s
inductive Wm where |it |ks |vs
def wit:Wm->aU×Tr->Tr
 |.it,p=>.aG [lO p.1,p.2]
 |.ks,p=>lO p.1
 |.vs,p=>p.2
def uy(t:Tr)(Q:bA->Prop):Prop:=match t with |.aS .f m=>Q m |_=>False
def xm(w:Wm)(pe:aY)(pg:eT)(b:cg):cg:=λD j=>pe (j.map aD) λt=>bL t=true/\uy (ay t) λm=>∃I:Nat->aX,I 0 j/\(∀i p j,m[i]?=some p->I i j->pg (wit w p) j λa=>b { D with nx:=I (i+1),ct:=I (i+1),bk:=D.nx } a)/\∀j,I m.length j->D.nx j
theorem Rk.dc:∀{m:bA}{vs:bT}{i:Nat}{y:aU}{v:V},Rk K F B m vs []->vs[i]?=some (y,v)->∃t,m[i]?=some (y,t)/\R K F B t v []
 |[],_,i,y,v,y0,e=>by obtain⟨h,_⟩:=y0;rw[h] at e;cases e
 |(y',x)::m,_,0,y,v,y0,e=>by
  obtain⟨u,r,c,d,a,b,f,g⟩:=y0;rw[a] at e;cases e;have z:=append_eq_nil_iff.mp b.symm;rw[z.1] at f;exact⟨x,rfl,f⟩
 |(y',x)::m,_,i + 1,y,v,y0,e=>by
  obtain⟨u,r,c,d,a,b,f,g⟩:=y0;rw[a] at e;have z:=append_eq_nil_iff.mp b.symm;rw[z.2] at g;exact Rk.dc (i:=i) g e
theorem Dn:R K F B (lO y) (kV y) []:=by
 cases y with
 |inl n=>exact⟨rfl,rfl⟩
 |inr n=>exact⟨rfl,rfl⟩
theorem JS(hz:k.z=true)(b:∀o u,X.H₀ a≠some (.ay o u))(g:bc K k lo us F1 Hb F1 H1 j i cs)(l:F1 a=some (.dK vs))(L:Lk K k lo us F1 Hb D D'):Lk K k.walk lo us (fz F1 a (.ay ob (.dK vs))) (fz Hb a (.ay ob (.dK vs))) (xJ X D) D':=by
 refine⟨λF H j i cs W q=>?_,λF H j i cs v t c W r e n d s q=>?_,λF H j i cs W q=>?_,λF H j i cs W q=>?_⟩
 .obtain⟨h1,F2,W2,_⟩:=g.fD hz l W;exact⟨a,ob,vs,h1,b,L.nx F2 _ j i cs W2 q⟩
 .obtain⟨h1,F2,W2,l2,b2,f2⟩:=g.fD hz l W;refine⟨a,ob,vs,h1,b,L.rt F2 _ j i cs v t c W2 ((r.mo l2 (λ_=>Le.refl _) t).base t s) ⟨λp m=>?_,λp m=>?_,e.nd⟩ (λp m=>?_) d s q⟩
  .rw[ba (f2 _ (e.f p m))];exact e.h p m
  .rw[b2 _ (f2 _ (e.f p m))];exact e.f p m
  .have:=n p m;rw[eM (f2 _ (e.f p m))] at this;exact this
 .obtain⟨h1,F2,W2,_⟩:=g.fD hz l W;exact⟨a,ob,vs,h1,b,L.bk F2 _ j i cs W2 q⟩
 .obtain⟨h1,F2,W2,_⟩:=g.fD hz l W;exact⟨a,ob,vs,h1,b,L.ct F2 _ j i cs W2 q⟩
theorem Eg(d:bc K k lo us F1 Hb F1 H1 j i cs)(b:F1 a=some (.dK vs))(r:Rk K F1 (λ_=>Hb) m vs [])(W:bc K k.walk lo us (fz F1 a (.ay ob (.dK vs))) (fz Hb a (.ay ob (.dK vs))) F H j' i' cs'):
  H a=some (.ay ob (.dK vs))/\Rk K F (λ_=>fz Hb a (.ay ob (.dK vs))) m vs []:=by
 have l:Hb a=none\/Hb a=some (.dK vs):=by
  cases q:Hb a with
  |none=>exact .inl rfl
  |some u=>have:=d.g.h _ _ q;rw[d.g.s _ _ b] at this;exact .inr this.symm
 have e:fz F1 a (.ay ob (.dK vs)) a=some (.ay ob (.dK vs)):=by rw[gH,if_neg (by rw[b];intro z;cases z)]
 exact⟨W.g.s _ _ (W.g.f _ _ e),r.mo (Le.trans (uB (.inr b)) (Le.of W.g.f)) (λ_=>uB l) m⟩
theorem Tq(hz:k.z=true)(h:bC K k te pe)(hg:mY K k.walk lo tg pg)(Y:cS K k.walk lo tb pb):cS K k lo (Bu X te tg tb) (xm .it pe pg pb):=λus Fb A F H j G cs D D' W p L=>by
 refine h F (Bq A H) H j _ _ _ W.eD p λt v F1 H1 c p1 o=>?_
 obtain⟨C,d,r2⟩:=W.held o p1.1;have p2:=p1.2;unfold uy at p2;split at p2
 .rename_i m em;rw[em] at r2;obtain⟨_,a,vs,rfl,U,r,h4⟩:=r2;have b:=tw (d.z hz) U;obtain⟨I,i0,step,n⟩:=p2;have f:=d.rebase;have J:=L.rebase d;refine⟨a,vs,rfl,d.g.s _ _ b,λob w=>?_⟩;have L2:=JS hz (X:=X) (ob:=ob) w f b J;refine JK (λi j H=>∃F G cs,bc K k.walk lo us (fz C a (.ay ob (.dK vs))) (fz A a (.ay ob (.dK vs))) F H j G cs/\I i G) ⟨_,G,cs,f.walk b,i0⟩ ?_ ?_ ?_
  .rintro i j H hi ⟨F,G,cs,W,_⟩;exact (Eg f b r W).1
  .rintro i y u j H p e ⟨F,G,cs,W,ii⟩ hp;obtain⟨_,rk⟩:=Eg f b r W;obtain⟨B,N,O⟩:=rk.dc e;obtain⟨x,Q,r4,_⟩:=oR (xs:=[lO y,B]) (cs:=[]) W.g.s ⟨kV y,[u],[],[],rfl,rfl,Dn,u,[],[],[],rfl,rfl,O,rfl,rfl⟩ .nil hp;refine hg us _ _ x _ j G cs _ _ _ _ (W.gr Q) r4 (step i (y,B) G N ii) λj' E l M p'=>?_
   exact Y us _ _ x _ j' E l _ _ M p' ⟨λF H j G cs W q=>⟨F,G,cs,W,q⟩,L2.rt,L2.nx,λF H j G cs W q=>⟨F,G,cs,W,q⟩⟩
  .rintro j H ⟨F,G,cs,W,q⟩;exact L2.nx F H j G cs W (n G (by rw[<- r.length];exact q))
 .exact p2.elim
end
section
def Fu(K:ao):aw->Hp->VK->Prop:=λb H Q=>(λb H Q=>∃x n,b=[x]/\EC K x H n/\Q (.int n) H) b H Q\/(λb H Q=>∃a d,b=[V.ref a]/\H a=some (.dK d)/\Q (.int d.length) H) b H Q
theorem hV:bK X (.builtin "len") (Fu X.K):=QX.or PU
def DH(K:ao):aw->Hp->VK->Prop:=λb H Q=>(λb H Q=>∃p e,b=[.ref p]/\(bE K H p e\/df K H p e)/\∀l,H l=none->Q (.ref l) (aQ H l (.ag e))) b H Q\/(λb H Q=>∃a d,b=[.ref a]/\Rd H a (.dK d)/\∀p,H p=none->Q (.ref p) (aQ H p (.ag (d.map λf=>kV f.1)))) b H Q
theorem kq(a:X.calm=true):bK X (.type "list") (DH X.K):=uZ.or (Il a)
def AR(K:ao):R2:=λx y H Q=>qJ K false x y H Q\/pX false x y H Q
theorem EK(a:X.A.units+1<cLine:=by assumption):b6 X (compareOp .In) (AR X.K):=M7.or (LZ a)
def AV(K:ao):R2:=λx y H Q=>qJ K true x y H Q\/pX true x y H Q
theorem wy(a:X.A.units+1<cLine:=by assumption):b6 X (compareOp .NotIn) (AV X.K):=Oi.or (KP a)
def Ct(K:ao):V->bI->bI->Hp->VK->Prop:=λx l h H Q=>Ej K x l h H Q\/C3 x l h H Q
theorem IL:lR X (Ct X.K):=Sg.or Tp
end
section
def ou(k:Bool)(a:ah)(Q:av):Prop:=match a with
 |[.str x]=>x.length <= 1000000 /\ Q (.int x.length)
 |[.ag _ xs]=>Q (.int xs.length)
 |[.aG xs]=>Q (.int xs.length)
 |[.aS .f m]=>k=true /\ Q (.int m.length)
 |[.aS .o m]=>Q (.int m.length)
 |_=>False
theorem hX:ly K k (Fu K) (ou k.z):=λF B H u o n Q l s b z r g p q=>by
 unfold ou at p;split at p
 .obtain⟨v,rfl,rfl,_⟩:=r.one;exact .inl ⟨_,_,rfl,⟨lA p.1,rfl⟩,q _ _ F H [] p.2 (Gr.aO s) ⟨rfl,rfl⟩ .nil λ_ m=>nomatch m⟩
 .obtain⟨v,rfl,r1⟩:=r.one;obtain⟨a,vs,i,rfl,e,d,_⟩:=r1.cv s b g;exact .inl ⟨_,_,rfl,.inl ⟨vs,e,rfl⟩,q (.int vs.length) _ F H [] (by rw[<- d.length] at p;exact p) (Gr.aO s) ⟨rfl,rfl⟩ .nil λ_ m=>nomatch m⟩
 .obtain⟨v,rfl,r1⟩:=r.one;obtain⟨a,vs,rfl,e,d⟩:=r1.dB s;exact .inl ⟨_,_,rfl,.inr ⟨vs,e,rfl⟩,q (.int vs.length) _ F H [] (by rw[<- d.length] at p;exact p) (Gr.aO s) ⟨rfl,rfl⟩ .nil λ_ m=>nomatch m⟩
 .obtain⟨v,rfl,r1⟩:=r.one;obtain⟨_,a,vs,rfl,d,f,j⟩:=r1;exact .inr ⟨a,vs,rfl,s _ _ (tw (z p.1) d),q (.int vs.length) _ F H [] (by rw[<- f.length] at p;exact p.2) (Gr.aO s) ⟨rfl,rfl⟩ .nil λ_ m=>nomatch m⟩
 .obtain⟨v,rfl,r1⟩:=r.one;obtain⟨a,vs,i,rfl,d,f,j⟩:=r1;exact .inr ⟨a,vs,rfl,g.h (a,.dK vs) (by rw[d];exact .head _),q (.int vs.length) _ F H [] (by rw[<- f.length] at p;exact p) (Gr.aO s) ⟨rfl,rfl⟩ .nil λ_ m=>nomatch m⟩
 .exact p.elim
theorem Rk.lJ:∀{m:bA}{vs:bT}{a:Cs},Rk K F B m vs a->Rs K F B (m.map λp=>lO p.1) (vs.map λf=>kV f.1) []
 |[],_,_,y=>by obtain⟨h,_⟩:=y;rw[h];exact⟨rfl,rfl⟩
 |(y,x)::m,_,_,y0=>by obtain⟨v,r,c,d,b,g,i,e⟩:=y0;rw[b];exact⟨kV y,_,[],[],rfl,rfl,Dn,Rk.lJ e⟩
theorem uH{xs:ah}{vs:aw}{cs cx:Cs}{p:af}{Q:VK}{d:av}(s:aC F H)(r:Rs K F B xs vs cs)(c:ar F H cs)(sub:∀p∈cs,p∈cx)(hp:H p=none)(h:d (.ag .o xs))(q:∀t v a b cs,d t->Gr F H a b->R K a B t v cs->ar a b cs->(∀p∈cs,H p.1=none\/p∈cx)->Q v b):Q (.ref p) (aQ H p (.ag vs)):=by
 obtain⟨e,f,g⟩:=ku s r c hp;refine q _ _ F _ _ h e f g λp m=>?_
 cases m with
 |head=>exact .inl hp
 |tail _ m=>exact .inr (sub p m)
def nO(a:ah)(Q:av):Prop:=match a with
 |[.ag _ xs]=>Q (.ag .o xs)
 |[.aG xs]=>Q (.ag .o xs)
 |[.aS _ m]=>Q (.ag .o (m.map λp=>lO p.1))
 |_=>False
theorem kM:ly K k (DH K) nO:=λF B H w u o Q n s b z r g p q=>by
 unfold nO at p;split at p
 .obtain⟨v,rfl,r1⟩:=r.one;obtain⟨a,vs,j,rfl,d,e,h,i⟩:=r1.cv s b g;exact .inl ⟨_,_,rfl,.inl d,λl f=>uH s e h i f p q⟩
 .obtain⟨v,rfl,r1⟩:=r.one;obtain⟨a,vs,rfl,d,e⟩:=r1.dB s;exact .inl ⟨_,_,rfl,.inr d,λl f=>uH s e g (λ_ m=>m) f p q⟩
 .obtain⟨v,rfl,r1⟩:=r.one;obtain⟨a,vs,j,rfl,d,e,h,i⟩:=r1.iN s b g;exact .inr ⟨_,_,rfl,d,λl f=>uH s e.lJ .nil (λ_ m=>nomatch m) f p q⟩
 .exact p.elim
def GY:Tr->Option String
 |.int _=>some "int" |.bl _=>some "bool" |.str _=>some "str" |.aL=>some "NoneType" |.aG _=>some "tuple" |.ag _ _=>some "list" |.aS _ _=>some "dict" |_=>none
def NU:Tr->d0
 |.ty n=>some (.type n) |.cl a=>some (.ref a) |_=>none
def wW(K:ao)(a:ah)(Q:av):Prop:=match a with
 |[x,c]=>(match GY x,NU c with |some t,some u=>∃b,W.kitOne K (.type t) u=some b /\ Q (.bl b) |_,_=>False)
 |_=>False
theorem Rp:ly K k (λxs H Q=>∃x c t b u,xs=[x,c]/\kl K H x t/\sf c=some u/\W.kitOne K t u=some b/\Q (.bl b) H) (wW K):=λF B H xs E C Q y s b z r g p q=>by
 unfold wW at p;split at p
 .rename_i x c;obtain⟨v,w,A,D,rfl,r1,r2,e⟩:=r.two;rw[e] at g;split at p
  .rename_i t u e1 e2;obtain⟨h,j,p⟩:=p;have o:sf w=some u:=by
    cases c with
    |ty n=>cases e2;rw[r2.1];rfl
    |cl a=>cases e2;rw[r2.1];rfl
    |_=>cases e2
   have l:kl K H v (.type t):=by
    cases x with
    |int n=>cases e1;rw[r1.1];exact Lg
    |bl n=>cases e1;rw[r1.1];exact U8
    |str n=>cases e1;rw[r1.1];exact SR
    |aL=>cases e1;rw[r1.1];exact KC
    |aG xs=>cases e1;obtain⟨a,vs,rfl,d,_⟩:=r1.dB s;exact Sv d
    |ag f xs=>cases e1;obtain⟨a,vs,i,rfl,d,_⟩:=r1.cv s b g.left;exact Vb d
    |aS f xs=>cases e1;obtain⟨a,vs,i,rfl,d,_⟩:=r1.iN s b g.left;exact KH d
    |_=>cases e1
   exact⟨v,w,_,h,u,rfl,l,o,j,q _ _ F H [] p (Gr.aO s) ⟨rfl,rfl⟩ .nil λ_ m=>nomatch m⟩
  .exact p.elim
 .exact p.elim
def mE:Tr->Bool
 |.int _=>true |.bl _=>true |.str _=>true |.aL=>true |_=>false
def oF:Tr->V
 |.int n=>.int n |.bl b=>.bl b |.str x=>.str x |_=>.aL
theorem v5(r:R K F B t v cs)(h:mE t=true):v=oF t/\kg v=true:=by
 cases t with
 |int n=>rw[r.1];exact⟨rfl,rfl⟩
 |bl n=>rw[r.1];exact⟨rfl,rfl⟩
 |str n=>rw[r.1];exact⟨rfl,rfl⟩
 |aL=>rw[r.1];exact⟨rfl,rfl⟩
 |_=>cases h
theorem xF:∀{a:ah}{vs:aw}{cs:Cs},Rs K F B a vs cs->a.all mE=true->vs=a.map oF/\vs.all kg=true
 |[],_,_,⟨h,_⟩,_=>by rw[h];exact⟨rfl,rfl⟩
 |x::xs,_,_,⟨v,r,c,d,h1,h2,h3,h4⟩,h=>by
  rw[all_cons,and_eq_true] at h;obtain⟨b,f⟩:=v5 h3 h.1;obtain⟨e,g⟩:=xF h4 h.2;rw[h1,e,b];exact⟨rfl,by rw[all_cons,<- e,g,<- b,f];rfl⟩
def nF(x:Tr)(xs:ah):Bool:=sM (oF x) (xs.map oF)
def mH(neg:Bool)(x y:Tr)(Q:av):Prop:=match y with
 |.ag _ a=>mE x=true /\ a.all mE=true /\ Q (.bl (if neg=true then !nF x a else nF x a))
 |.aG a=>mE x=true /\ a.all mE=true /\ Q (.bl (if neg=true then !nF x a else nF x a))
 |.aS _ m=>jz x λy=>Q (.bl (if neg=true then !(look m y).isSome else (look m y).isSome))
 |_=>False
theorem EH:eK K k (λx y H Q=>qJ K neg x y H Q\/pX neg x y H Q) (mH neg):=λF B H x y G ty C D Q A s b z j l E n hd p q=>by
 unfold mH at p;split at p
 .obtain⟨h1,h2,p⟩:=p;obtain⟨a,vs,o,rfl,d,g,_⟩:=l.cv s b n;obtain⟨e,f⟩:=v5 j h1;obtain⟨h,i⟩:=xF g h2;refine .inl ⟨a,vs,rfl,.inl d,f,i,q _ _ F H [] p (Gr.aO s) ⟨?_,rfl⟩ .nil λ_ m=>nomatch m⟩;rw[e,h];cases neg<;>rfl
 .obtain⟨h1,h2,p⟩:=p;obtain⟨a,vs,rfl,d,g⟩:=l.dB s;obtain⟨e,f⟩:=v5 j h1;obtain⟨h,i⟩:=xF g h2;refine .inl ⟨a,vs,rfl,.inr d,f,i,q _ _ F H [] p (Gr.aO s) ⟨?_,rfl⟩ .nil λ_ m=>nomatch m⟩;rw[e,h];cases neg<;>rfl
 .obtain⟨a,vs,o,rfl,d,g,g3,_⟩:=l.iN s b n;unfold jz at p;split at p
  .rename_i yk ey;obtain rfl:=uo j ey;rcases g.look yk g3 with⟨r,w⟩ |⟨x,u,c,e,f,_⟩
   .refine .inr ⟨a,none,rfl,.inl ⟨vs,yk,d,rfl,w.symm⟩,q _ _ F H [] p (Gr.aO s) ⟨?_,rfl⟩ .nil λ_ m=>nomatch m⟩;rw[r];cases neg<;>rfl
   .refine .inr ⟨a,some u,rfl,.inl ⟨vs,yk,d,rfl,f.symm⟩,q _ _ F H [] p (Gr.aO s) ⟨?_,rfl⟩ .nil λ_ m=>nomatch m⟩;rw[e];cases neg<;>rfl
  .exact p.elim
 .exact p.elim
theorem Aq:eK K k (AR K) (mH false):=EH
theorem yE:eK K k (AV K) (mH true):=EH
def gO(K:ao)(f:Str)(x:Tr)(Q:av):Prop:=match x with
 |.ins _ c fs=>(gg K c /\ bf K c f) /\ (match fs.lookup f with |some t=>Q t |none=>False)
 |_=>False
theorem Rf.look:∀{fs:bx}{vs:List (Str×V)}{a:Cs}{f:Str}{x:Tr},Rf K F B fs vs a->ar F H a->fs.lookup f=some x->∃u c,vs.lookup f=some u/\R K F B x u c/\ar F H c/\∀p∈c,p∈a:=λ{fs vs a f x} h d e=>by
 obtain⟨w,c,pre,g,i,j,b,_⟩:=h.at e;rw[b] at d;exact⟨w,c,i,j,d.left.right,λp m=>by rw[b];exact mem_append.mpr (.inl (mem_append.mpr (.inr m)))⟩
theorem LX(h:bC K k te pe):bC K k (wh K te f) (p1 (gO K f) pe):=λF B H j i Q J c p q=>by
 refine h F B H j i _ _ c p λx v l o L p1 e=>?_
 unfold gO at p1;split at p1
 .obtain⟨ok,p1⟩:=p1;split at p1
  .rename_i t et;obtain⟨a,C,vs,M,rfl,D,E,G,I⟩:=e.r.l0 e.g.s (λk=>(c.b k).trans e.g.h) e.c;obtain⟨u,d,w,y,z,A⟩:=E.look G et;exact⟨a,_,C,vs,u,rfl,D,ok.1,ok.2,w,q _ _ l o d p1 ⟨e.g,y,z,λp m=>e.n p (I p (A p m))⟩⟩
  .exact p1.elim
 .exact p1.elim
def uC(x y z:Tr)(Q:av):Prop:=match x with
 |.aS _ m=>jz y λy=>Q ((look m y).getD z)
 |_=>False
def p3(e:Tr->Tr->Tr->(av)->Prop)(a b d:aY):aY:=λj Q=>a j λx=>(match x with |.aS _ _=>True |_=>False)/\b j λy=>d j λz=>e x y z Q
theorem Vs(ha:bC K k ta pa)(hb:bC K k tb pb)(hc:bC K k tc pc):bC K k (BE ta tb tc) (p3 uC pa pb pc):=λF B H j i Q Q' c p q=>by
 refine ha F B H j i _ _ c p λx v J M c1 p1 l=>?_
 obtain⟨hx,p1⟩:=p1;cases x with
 |aS f m=>
  have bB:∀{G},aC H G->∀k,aC (B k) G:=λs k=>(c.b k).trans s
  obtain⟨a,vs,ds,rfl,I,h2,h3,h4⟩:=l.r.iN l.g.s (bB l.g.h) l.c;refine⟨a,rfl,.inl ⟨vs,I⟩,hb J B M j i _ _ (c.gr l.g) p1 λy u L N c2 p2 A=>?_⟩;refine hc L B N j i _ _ ((c.gr l.g).gr A.g) p2 λz w E D c3 p3 C=>?_
  have e:=A.g.trans' C.g;unfold uC jz at p3;dsimp only at p3;split at p3
  .rename_i yk ey;obtain rfl:=uo A.r ey;have o:Rd D a (.dK vs):=(e.h).rd I;rcases (h2.mo e.le (λk=>Le.refl _) m).look yk (h3.gr e) with⟨z1,z2⟩ |⟨x,u,d,O,U,Y,a4,a5⟩
   .rw[z1] at p3;exact⟨none,.inl ⟨vs,yk,o,rfl,z2.symm⟩,q _ _ E D c3 p3 ⟨l.g.trans' e,C.r,C.c,C.n.back (l.g.h.trans A.g.h)⟩⟩
   .rw[O] at p3;exact⟨some u,.inl ⟨vs,yk,o,rfl,U.symm⟩,q _ _ E D d p3 ⟨l.g.trans' e,Y,a4,λp m=>l.n p (h4 p (a5 p m))⟩⟩
  .exact p3.elim
 |_=>exact hx.elim
abbrev om:=ah->(bI->Prop)->Prop
def pM(K:ao)(k:Md)(f:TO)(pe:om):Prop:=∀(F:Hp)(B:Bool->Hp)(H:Hp)(j:St)(i:ah)(Q:bI->Hp->Prop)(d:bI->Prop),gE K k F B H j i->pe i d->(∀b e a,d b->Gr F H e a->Q b a)->f j H Q
def vm:om:=λ_ Q=>Q none
def va(pe:aY):om:=λj Q=>pe j λx=>match x with |.int i=>Q (some i) |_=>False
theorem Vx:pM K k FN vm:=λF B H j i Q a c p q=>q none F H p (Gr.aO c.s)
theorem Ig(h:bC K k te pe):pM K k (Ee te) (va pe):=λF B H j i Q e c p q=>by
 refine h F B H j i _ _ c p λx v b d f p1 a=>?_
 split at p1
 .obtain⟨rfl,_⟩:=a.r;exact⟨_,rfl,q _ b d p1 a.g⟩
 .exact p1.elim
def g6{j:Type}(xs:List j)(l h:bI):List j:=(xs.drop (HT.dq xs.length 0 l)).take (HT.dq xs.length xs.length h - HT.dq xs.length 0 l)
theorem Rs.drop:∀(n:Nat){xs:ah}{vs:aw}{a:Cs},Rs K F B xs vs a->ar F H a->∃d,Rs K F B (xs.drop n) (vs.drop n) d/\ar F H d/\∀p∈d,p∈a
 |0,_,_,a,h,hc=>⟨a,h,hc,λ_ m=>m⟩
 |n + 1,[],_,a,y,_=>by obtain⟨b,e⟩:=y;exact⟨[],by rw[b];exact⟨rfl,rfl⟩,.nil,λ_ m=>nomatch m⟩
 |n + 1,x::xs,_,_,y,hc=>by
  obtain⟨v,r,c,d,b,e,o,l⟩:=y;rw[e] at hc;obtain⟨j,f,g,i⟩:=Rs.drop n l hc.right;exact⟨j,by rw[b];exact f,g,λp m=>by rw[e];exact mem_append.mpr (.inr (i p m))⟩
theorem Rs.take:∀(n:Nat){xs:ah}{vs:aw}{a:Cs},Rs K F B xs vs a->ar F H a->∃d,Rs K F B (xs.take n) (vs.take n) d/\ar F H d/\∀p∈d,p∈a
 |0,_,_,a,h,hc=>⟨[],⟨rfl,rfl⟩,.nil,λ_ m=>nomatch m⟩
 |n + 1,[],_,a,y,_=>by obtain⟨b,e⟩:=y;exact⟨[],by rw[b];exact⟨rfl,rfl⟩,.nil,λ_ m=>nomatch m⟩
 |n + 1,x::xs,_,_,y,hc=>by
  obtain⟨v,r,c,d,b,e,l,o⟩:=y;rw[e] at hc;obtain⟨g,i,j,f⟩:=Rs.take n o hc.right;refine⟨c++g,by rw[b];exact⟨v,_,c,g,rfl,rfl,l,i⟩,hc.left.app j λp s q u=>?_,λp m=>by rw[e];exact (mem_append.mp m).elim (λm=>mem_append.mpr (.inl m)) λm=>mem_append.mpr (.inr (f p m))⟩;have:=hc.nd;rw[map_append,nodup_append] at this;exact this.2.2 _ (mem_map.mpr ⟨p,s,rfl⟩) _ (mem_map.mpr ⟨q,f q u,rfl⟩)
def rW(x:Tr)(l h:bI)(Q:av):Prop:=match x with
 |.ag _ a=>Q (.ag .o (g6 a l h))
 |.str x=>x.length <= 1000000 /\ Q (.str (Txt.slice x l h))
 |_=>False
def yJ(pe:aY)(pl a:om):aY:=λj Q=>pe j λx=>pl j λl=>a j λh=>rW x l h Q
theorem VG(h:bC K k te pe)(Y:pM K k tl pl)(U:pM K k th ph):bC K k (Bn (Ct K) te tl th) (yJ pe pl ph):=λF B H j i Q Q' c p q=>by
 refine h F B H j i _ _ c p λx v z C c1 p1 e=>?_
 refine Y z B C j i _ _ (c.gr e.g) p1 λl A D p2 y=>?_
 refine U A B D j i _ _ ((c.gr e.g).gr y) p2 λh w E p3 O=>?_
 have d:=y.trans' O;have o:=(c.gr e.g).gr d;have r3:=e.r.mo d.le (λk=>Le.refl (B k)) x;have u:=e.c.gr d;unfold rW at p3;split at p3
 .obtain⟨a,vs,ds,rfl,h1,h2,h3,h4⟩:=r3.cv o.s o.b u;refine .inl ⟨a,vs,rfl,h1,λl' f=>?_⟩;obtain⟨d1,G,I,J⟩:=h2.drop (HT.dq vs.length 0 l) h3;obtain⟨d2,L,M,N⟩:=G.take (HT.dq vs.length vs.length h - HT.dq vs.length 0 l) I;obtain⟨n1,n2,n3⟩:=ku o.s L M f;refine q _ _ w _ _ p3 ⟨(e.g.trans' d).trans' n1,?_,n3,λp m=>?_⟩
  .unfold g6;rw[<- h2.length];exact n2
  .cases m with
   |head=>exact (e.g.h.trans d.h).free f
   |tail _ m=>exact e.n p (h4 p (J p (N p m)))
 .obtain⟨rfl,_⟩:=r3;exact .inr ⟨_,rfl,lA p3.1,q _ _ w E [] p3.2 ⟨e.g.trans' d,⟨rfl,rfl⟩,.nil,.nil⟩⟩
 .exact p3.elim
end
section
def mz(ix:bG)(j:ah):ah:=ix.map λo=>match o with |none=>.aA |some i=>(j[i]?).getD .aA
theorem dS.pick(e:dS K F B G J):dS K F B (eV ix G) (mz ix J):=λj t h=>by
 unfold mz at h;rw[getElem?_map] at h;cases q:ix[j]? with
 |none=>rw[q] at h;cases h
 |some o=>
  rw[q] at h;cases o with
  |none=>cases h;exact .inl rfl
  |some i=>
   cases z:J[i]? with
   |none=>
    have h:some ((J[i]?).getD .aA)=some t:=h;rw[z] at h;cases h;exact .inl rfl
   |some u=>
    have h:some ((J[i]?).getD .aA)=some t:=h;rw[z] at h;cases h;refine (e i u z).imp id λa=>?_
    obtain⟨v,b,d⟩:=a;refine⟨v,?_,d⟩;unfold eV;rw[getElem?_map,q];show some ((G[i]?).getD none)=_;rw[b];rfl
theorem tE:∀{a b:St},a.length=b.length->(∀(i:Nat)(v:V),a[i]?=some (some v)->b[i]?=some (some v))->Wk a b
 |[],[],_,_=>.nil
 |[],_::_,h,_=>by cases h
 |_::_,[],h,_=>by cases h
 |none::a,y::b,h,g=>.aL (tE (Nat.succ.inj h) λi v e=>g (i + 1) v e)
 |some x::a,y::b,h,g=>by
  have e:=g 0 x rfl;cases e;exact .tG (tE (Nat.succ.inj h) λi v e=>g (i+1) v e)
def oV(K:ao)(e:List Nat)(f:TG)(pg:eT):Prop:=∀(F:Hp)(B:Bool->Hp)(H:Hp)(j:St)(G:ah)(x:V)(t:Tr)(Q:St->Hp->Prop)(d:aX),aC F H->dS K F B j G->j.length=G.length->R K F B t x []->pg t G d->(∀a b,dS K F B a b->a.length=b.length->a.length=j.length->(∀i,i ∉ e->a[i]?=j[i]?)->d b->Q a H)->f x j H Q
theorem dS.set(e:dS K F B G J)(d:G.length=J.length)(r:R K F B t x []):dS K F B (G.set i (some x)) (J.set i t):=λj u h=>by
 by_cases a:j=i
 .subst a;have b:j<J.length:=by have:=yp h;rw[length_set] at this;exact this
  rw[getElem?_set_self b] at h;cases h;exact .inr ⟨x,getElem?_set_self (by rw[d];exact b),r⟩
 .rw[getElem?_set_ne (λz=>a z.symm)] at h;exact (e j u h).imp id λ⟨v,h1,h2⟩=>⟨v,by rw[getElem?_set_ne (λz=>a z.symm)];exact h1,h2⟩
theorem K6:oV K [i] (jb i) (pU i):=λF B H G J x t Q d s e a r p q=>q _ _ (e.set a r) (by rw[length_set,length_set];exact a) (by rw[length_set]) (λj b=>getElem?_set_ne λz=>b (by rw[z];exact mem_singleton.mpr rfl)) p
def pL(K:ao)(g:List Nat)(h:mS)(pg:ah->ah->(aX)->Prop):Prop:=∀(F:Hp)(B:Bool->Hp)(H:Hp)(j:St)(G:ah)(f:aw)(e:ah)(Q:St->Hp->Prop)(d:aX),aC F H->dS K F B j G->j.length=G.length->Rs K F B e f []->pg e G d->(∀a b,dS K F B a b->a.length=b.length->a.length=j.length->(∀i,i ∉ g->a[i]?=j[i]?)->d b->Q a H)->h f j H Q
theorem Tz:pL K [] xa l8:=λF B H j i f d Q b s e a r p q=>by
 unfold l8 at p;split at p
 .exact⟨r.1,q j i e a rfl (λ_ _=>rfl) p⟩
 .exact p.elim
theorem HD(h:oV K js tg pg)(h':pL K ks tr pr):pL K (js++ks) (wj tg tr) (mw pg pr):=λF B H j G L J Q g s e n r p q=>by
 unfold mw at p;split at p
 .obtain⟨v,w,c,d,h1,h2,h3,h4⟩:=r;have z:=append_eq_nil_iff.mp h2.symm;rw[z.1] at h3;rw[z.2] at h4;refine⟨v,w,h1,h F B H j G v _ _ _ s e n h3 p λo b l x y D I=>h' F B H o b w _ Q g s l x h4 I λu f m A C E p2=>q u f m A (C.trans y) (λi a=>?_) p2⟩;rw[E i λz=>a (mem_append.mpr (.inr z)),D i λz=>a (mem_append.mpr (.inl z))]
 .exact p.elim
theorem QR(h:pL K js tr pr):oV K js (vD K n tr) (lV n pr):=λF B H j i x t Q b s e d r p q=>by
 unfold lV at p;split at p
 .obtain⟨a,vs,rfl,h1,h2⟩:=r.dB s;exact⟨a,vs,rfl,h1,h2.length.trans p.1,h F B H j i vs _ Q b s e d h2 p.2 q⟩
 .exact p.elim
def ql:d6:=λ_ Q=>Q true
theorem Uw:fS K k DK ql:=λF B H j i Q a c p q=>q true F H p (Gr.aO c.s)
def r6(f:ip)(pg:eT)(pt:d6)(pe:aY)(ix:bG):aY:=λj Q=>f j λe _=>∃I:Nat->aX,I 0 []/\
 (∀i t a,e[i]?=some t->I i a->pg t (mz ix j) λd=>pt d λb=>if b=true then pe d λx=>a.length<1000000/\I (i+1) (a++[x]) else I (i+1) a)/\∀a,I e.length a->a.length<=1000000/\Q (.ag .o a)
theorem Bg{wi:TI}{pi:ip}{js:List Nat}{tg:TG}{pg:eT}{ti:TT}{pt:d6}{te:TE}{pe:aY}{ix:bG}(hi:kc K k wi pi)(hg:oV K js tg pg)(ht:fS K k.fV ti pt)(he:bC K k.fV te pe)(hj:∀j∈js,ix[j]?=some none):bC K k (oW wi tg ti te ix) (r6 pi pg pt pe ix):=λF B H G O Q Q' c p q=>by
 refine hi F B H G O _ _ c p λts nl J F1 H1 p1 E δ _=>?_
 obtain⟨I,i0,step,α⟩:=p1;obtain⟨Kp,Y,C,kp,yl⟩:=δ;have c1:=c.gr E;refine DT (n:=ts.length) (λi w f=>∃o us d,Gr F1 H1 o f/\Rs K o B us w d/\ar o f d/\cY H1 d/\I i us) ⟨F1,[],[],Gr.aO E.s,⟨rfl,rfl⟩,.nil,.nil,i0⟩ ?_ ?_ ?_ ?_
 .rintro i w f hlt ⟨o,us,d,g2,_⟩;exact C.go i f hlt (kp o f g2.le g2.s (c1.gr g2).b)
 .rintro w f ⟨o,us,d,g2,_⟩;exact C.st f (kp o f g2.le g2.s (c1.gr g2).b)
 .rintro i x w f H3 hlt ⟨o,us,d,g2,r2,hc2,n2,ii⟩ y;have c2:=c1.gr g2;obtain⟨t,et⟩:=ot hlt;obtain⟨U,g3,r3⟩:=yl i t o f x H3 et g2.le g2.s c2.b (C.yl i f x H3 hlt (kp o f g2.le g2.s c2.b) y);have D:=c2.gr g3;have β:(eV ix G).length=(mz ix O).length:=by unfold eV mz;rw[length_map,length_map]
  refine hg U B H3 _ _ x t _ _ D.s D.e.pick β r3 (step i t us et ii) λG2 O2 e2 l2 γ n3 p2=>⟨tE γ.symm λj v M=>?_,?_⟩
  .by_cases hjs:j∈js
   .have z:=hj j hjs;unfold eV at M;rw[getElem?_map,z] at M;cases M
   .rw[n3 j hjs];exact M
  .have c3':gE K k.fV U B H3 G2 O2:=⟨D.s,D.b,D.z,e2,λ_ _ _ h=>h.elim⟩
   refine ht U B H3 G2 O2 _ _ c3' p2 λb F4 H4 N g4=>?_
   have l:=g3.trans' g4;cases b with
   |false=>
    rw[if_neg (by decide)] at N ⊢;exact⟨F4,us,d,g2.trans' l,r2.mo l.le (λk=>Le.refl (B k)) us,hc2.gr l,n2,N⟩
   |true=>
    rw[if_pos rfl] at N ⊢;refine he F4 B H4 G2 O2 _ _ (c3'.gr g4) N λu v F5 H5 c5 p5 L=>?_
    have A:=l.trans' L.g;refine⟨lt_of_lt_of_le (by rw[r2.length];exact p5.1) (by decide),F5,us++[u],d++c5,g2.trans' A,(r2.mo A.le (λk=>Le.refl (B k)) us).snoc L.r,(hc2.gr A).app L.c λp mp q mq e=>?_,λp m=>?_,p5.2⟩
    .have:=(hc2.gr l).h p mp;rw[e,L.n q mq] at this;cases this
    .rcases mem_append.mp m with m |m
     .exact n2 p m
     .exact (g2.h.trans l.h).free (L.n p m)
 .rintro w f ⟨o,us,d,g2,r2,hc2,n2,ii⟩;obtain⟨hl,hq⟩:=α us ii;refine⟨by rw[r2.length];exact lA hl,λa ha=>?_⟩;obtain⟨m1,m2,m3⟩:=ku g2.s r2 hc2 ha;refine q _ _ o _ _ hq ⟨(E.trans' g2).trans' m1,m2,m3,λp m=>?_⟩;cases m with
  |head=>exact (E.h.trans g2.h).free ha
  |tail _ m=>exact E.h.free (n2 p m)
end
mutual
def dy:Tr->Tr->Option Bool
 |.aG xs,.aG ys=>if xs.length=ys.length then dC xs ys else none
 |.ag _ xs,.ag _ ys=>if xs.length=ys.length then dC xs ys else some false
 |.int a,.int b=>some (decide (a=b))
 |.str a,.str b=>some (decide (a=b))
 |.bl a,.bl b=>some (decide (a=b))
 |.aL,.aL=>some true
 |_,_=>none
def dC:List Tr->List Tr->Option Bool
 |[],[]=>some true
 |x::xs,y::ys=>(dy x y).bind λa=>(dC xs ys).bind λb=>some (a&&b)
 |_,_=>none
end
mutual
def dep:Tr->Nat
 |.aG a=>gq a + 1
 |.ag _ a=>gq a + 1
 |_=>0
def gq:List Tr->Nat
 |[]=>0
 |x::xs=>max (dep x) (gq xs)
end
section
mutual
theorem yo(I:au X aa j H s)(i:aC F H)(sb:∀k,aC (B k) H):∀(t:Tr)(t':Tr)(v:V)(c d:Cs)(b:Bool),dy t t'=some b->R X.K F B t v c->R X.K F B t' v d->ar F H c->ar F H d->b=true
 |.aG y=>λt' v c d b e r g w h=>by
  cases t' with
  |aG A=>
   unfold dy at e;split at e
   .obtain⟨a,vs,rfl,u,n⟩:=r.dB i;obtain⟨l,x,p,q,m⟩:=g.dB i;cases p;have z:=Q2 I u q;subst z;exact fT I i sb y A vs c d b e n m w h
   .cases e
  |_=>cases e
 |.ag f y=>λt' v c d b e r g w h=>by
  cases t' with
  |ag G A=>
   unfold dy at e;obtain⟨a,vs,C,rfl,u,n,E,_⟩:=r.cv i sb w;obtain⟨l,x,o,p,q,m,D,_⟩:=g.cv i sb h;cases p;have z:=Kd I u q;subst z;split at e
   .exact fT I i sb y A vs C o b e n m E D
   .rename_i hl;exact absurd (n.length.symm.trans m.length) hl
  |_=>cases e
 |.int a=>λt' v c d b e r g _ _=>by
  cases t' with
  |int l=>cases e;have:=r.1.symm.trans g.1;cases this;exact decide_eq_true rfl
  |_=>cases e
 |.str a=>λt' v c d b e r g _ _=>by
  cases t' with
  |str l=>cases e;have:=r.1.symm.trans g.1;cases this;exact decide_eq_true rfl
  |_=>cases e
 |.bl a=>λt' v c d b e r g _ _=>by
  cases t' with
  |bl l=>cases e;have:=r.1.symm.trans g.1;cases this;exact decide_eq_true rfl
  |_=>cases e
 |.aL=>λt' v c d b e r g _ _=>by
  cases t' with
  |aL=>cases e;rfl
  |_=>cases e
 |.aA=>λt' v c d b e _ _ _ _=>by cases t' <;> cases e
 |.ty _=>λt' v c d b e _ _ _ _=>by cases t' <;> cases e
 |.cl _=>λt' v c d b e _ _ _ _=>by cases t' <;> cases e
 |.exc _=>λt' v c d b e _ _ _ _=>by cases t' <;> cases e
 |.aS _ _=>λt' v c d b e _ _ _ _=>by cases t' <;> cases e
 |.ins _ _ _=>λt' v c d b e _ _ _ _=>by cases t' <;> cases e
theorem fT(I:au X aa j H s)(m:aC F H)(sb:∀k,aC (B k) H):∀(n:List Tr)(d:List Tr)(vs:List V)(c g:Cs)(b:Bool),dC n d=some b->Rs X.K F B n vs c->Rs X.K F B d vs g->ar F H c->ar F H g->b=true
 |[]=>λd vs c g b e _ _ _ _=>by
  cases d with
  |nil=>cases e;rfl
  |cons _ _=>cases e
 |x::xs=>λd vs c g b e r l h f=>by
  cases d with
  |nil=>cases e
  |cons y o=>
   obtain⟨v,r,q,w,E,G,J,L⟩:=r;obtain⟨M,l,u,z,i,A,C,D⟩:=l;rw[E] at i;cases i;rw[G] at h;rw[A] at f;unfold dC at e;cases e1:dy x y with
   |none=>rw[e1] at e;cases e
   |some a=>
    cases e2:dC xs o with
    |none=>rw[e1,e2] at e;cases e
    |some p=>
     rw[e1,e2] at e;cases e;rw[yo I m sb x y v q u a e1 J C h.left f.left,fT I m sb xs o r w z p e2 L D h.right f.right];rfl
end
def gT(b a:ah)(j:Nat):Bool:=match b[j]?,a[j]? with |some x,some y=>(dy x y).getD false |_,_=>false
theorem m6:∀{f d:ah}{b:Bool},dC f d=some b->(List.range f.length).all (gT f d)=b/\∀(j:Nat)(x y:Tr),f[j]?=some x->d[j]?=some y->dy x y=some (gT f d j)
 |[],[],b,e=>by cases e;exact⟨rfl,λj x y h=>by cases h⟩
 |[],_::_,b,e=>by cases e
 |_::_,[],b,e=>by cases e
 |x::xs,y::ys,b,e=>by
  unfold dC at e;cases e1:dy x y with
  |none=>rw[e1] at e;cases e
  |some a=>
   cases e2:dC xs ys with
   |none=>rw[e1,e2] at e;cases e
   |some o=>
    rw[e1,e2] at e;cases e;obtain⟨l,m⟩:=m6 e2;refine⟨?_,λj u w g i=>?_⟩
    .rw[length_cons,List.range_succ_eq_map,all_cons,List.all_map];have n:gT (x::xs) (y::ys) 0=a:=by show (dy x y).getD false=a;rw[e1];rfl
     rw[n,<- l];rfl
    .cases j with
     |zero=>cases g;cases i;show dy x y=some ((dy x y).getD false);rw[e1];rfl
     |succ j=>exact m j u w g i
mutual
theorem Rt(I:au X aa i H s)(G:aC F H)(sb:∀k,aC (B k) H):∀(t:Tr)(t':Tr)(Au:Around)(v g:V)(c h:Cs)(b:Bool)(u l:Value),dy t t'=some b->R X.K F B t v c->R X.K F B t' g h->ar F H c->ar F H h->aE v u->aE g l->Au.units+dep t<cLine->SeqAt.EqAt Au s u l b
 |.aG C=>λt' Au v g c h b u l e r o M w m d hu=>by
  cases t' with
  |aG D=>
   have fn:=λ(z:v=g)=>yo I G sb (.aG C) (.aG D) g c h b e (z ▸ r) o M w
   unfold dy at e;split at e
   .rename_i hl;obtain⟨a,vs,rfl,Q,E⟩:=r.dB G;obtain⟨n,J,rfl,O,L⟩:=o.dB G;obtain rfl:u=Value.ref a:=m;obtain rfl:l=Value.ref n:=d;by_cases z:a=n
    .rw[fn (by rw[z]),z];exact SeqAt.EqAt.same _
    .unfold dep at hu;obtain⟨al,ix⟩:=m6 e;have N:=zt (Au:=Au) I Q O (by omega) (by rw[E.length,L.length];exact hl) (gT C D) (λj x y p q ex Y rx ry=>cM I G sb C D (gT C D) Au.in1 vs J c h j x y p q ix E L M w ex Y rx ry (by rw[nQ];omega));rw[E.length,al] at N;exact SeqAt.EqAt.of_refs z N
   .cases e
  |_=>cases e
 |.ag f C=>λt' Au v g c h b u l e r o M w m d hu=>by
  cases t' with
  |ag f' D=>
   have fn:=λ(z:v=g)=>yo I G sb (.ag f C) (.ag f' D) g c h b e (z ▸ r) o M w
   unfold dy at e;obtain⟨a,vs,ds,rfl,Q,E,h3,_⟩:=r.cv G sb M;obtain⟨n,J,U,rfl,O,L,g3,_⟩:=o.cv G sb w;obtain rfl:u=Value.ref a:=m;obtain rfl:l=Value.ref n:=d;unfold dep at hu;by_cases z:a=n
   .rw[fn (by rw[z]),z];exact SeqAt.EqAt.same _
   .split at e
    .rename_i hl;obtain⟨al,ix⟩:=m6 e;have N:=D8 (Au:=Au) I Q O (by omega) (by rw[E.length,L.length];exact hl) (gT C D) (λj x y p q ex Y rx ry=>cM I G sb C D (gT C D) Au.in1 vs J ds U j x y p q ix E L h3 g3 ex Y rx ry (by rw[nQ];omega));rw[E.length,al] at N;exact SeqAt.EqAt.of_refs z N
    .rename_i hl;cases e;obtain⟨us,r1,t1,_⟩:=I.list Q;obtain⟨zs,r2,t2,_⟩:=I.list O;have m1:=r1.length;have m2:=r2.length;have l1:=E.length;have l2:=L.length;exact SeqAt.EqAt.of_refs z (SeqAt.RcAt.lists_lengths t1.isList t2.isList (by simp;omega) (by omega))
  |_=>cases e
 |.int a=>λt' Au v g c h b u l e r o _ _ m d _=>by
  cases t' with
  |int n=>cases e;rw[r.1] at m;rw[o.1] at d;exact Oa m d
  |_=>cases e
 |.str a=>λt' Au v g c h b u l e r o _ _ m d _=>by
  cases t' with
  |str n=>
   cases e;rw[r.1] at m;rw[o.1] at d;have z:=pz (A:=Au) (s:=s) m d rfl rfl;have e:iR (.str a) (.str n)=decide (a=n):=by show (a == n)=_;rw[Bool.beq_eq_decide_eq]
   rw[e] at z;exact z
  |_=>cases e
 |.bl a=>λt' Au v g c h b u l e r o _ _ m d _=>by
  cases t' with
  |bl n=>
   cases e;rw[r.1] at m;rw[o.1] at d;have z:=pz (A:=Au) (s:=s) m d rfl rfl;have e:iR (.bl a) (.bl n)=decide (a=n):=by show (a == n)=_;rw[Bool.beq_eq_decide_eq]
   rw[e] at z;exact z
  |_=>cases e
 |.aL=>λt' Au v g c h b u l e r o _ _ m d _=>by
  cases t' with
  |aL=>cases e;rw[r.1] at m;rw[o.1] at d;exact pz (A:=Au) (s:=s) m d rfl rfl
  |_=>cases e
 |.aA=>λt' Au v g c h b u l e _ _ _ _ _ _ _=>by cases t' <;> cases e
 |.ty _=>λt' Au v g c h b u l e _ _ _ _ _ _ _=>by cases t' <;> cases e
 |.cl _=>λt' Au v g c h b u l e _ _ _ _ _ _ _=>by cases t' <;> cases e
 |.exc _=>λt' Au v g c h b u l e _ _ _ _ _ _ _=>by cases t' <;> cases e
 |.aS _ _=>λt' Au v g c h b u l e _ _ _ _ _ _ _=>by cases t' <;> cases e
 |.ins _ _ _=>λt' Au v g c h b u l e _ _ _ _ _ _ _=>by cases t' <;> cases e
theorem cM(I:au X aa G H s)(z:aC F H)(sb:∀k,aC (B k) H):∀(n:List Tr)(d:List Tr)(e:Nat->Bool)(Au:Around)(vs f:List V)(c o:Cs)(j:Nat)(x y:V)(u h:Value),(∀(j:Nat)(x y:Tr),n[j]?=some x->d[j]?=some y->dy x y=some (e j))->Rs X.K F B n vs c->Rs X.K F B d f o->ar F H c->ar F H o->vs[j]?=some x->f[j]?=some y->aE x u->aE y h->Au.units+gq n<cLine->SeqAt.EqAt Au s u h (e j)
 |[]=>λd e Au vs f c o j x y u h _ r _ _ _ ex _ _ _ _=>by rw[r.1] at ex;cases ex
 |t::n=>λd e Au vs f c o j x y u h ix r p q g ex l w m hu=>by
  cases d with
  |nil=>rw[p.1] at l;cases l
  |cons A d=>
   obtain⟨v,r,C,E,Q,U,Y,h4⟩:=r;obtain⟨v',p,D,J,L,M,N,O⟩:=p;rw[Q] at ex;rw[L] at l;rw[U] at q;rw[M] at g;unfold gq at hu;cases j with
   |zero=>
    cases ex;cases l;exact Rt I z sb t A Au _ _ C D (e 0) u h (ix 0 t A rfl rfl) Y N q.left g.left w m (by omega)
   |succ j=>exact cM I z sb n d (λi=>e (i+1)) Au r p E J j x y u h (λi a b ha hb=>ix (i+1) a b ha hb) h4 O q.right g.right ex l w m (by omega)
end
theorem Wv(I:au X aa G H s)(f:df X.K H a xs)(g:df X.K H b ys)(q:Au.units<cLine)(D:xs.length=ys.length)(e:Nat->Bool)(he:∀(j:Nat) x y u v,xs[j]?=some x->ys[j]?=some y->aE x u->aE y v->SeqAt.EqAt Au.in1 s u v (e j)):SeqAt.RcNeAt Au s (.ref a) (.ref b) (!(List.range xs.length).all e):=by
 obtain⟨us,r1,B,_⟩:=I.tuple f;obtain⟨d,r2,C,_⟩:=I.tuple g;have E:=r1.length;have J:=r2.length;have z:=SeqAt.RcNeAt.tuples (A:=Au) (e:=e) B C q (λj f g=>?_)
 .have e0:((List.range (min us.toArray.size d.toArray.size)).all e&&us.toArray.size == d.toArray.size)=(List.range xs.length).all e:=by
   simp only[size_toArray];have h:min us.length d.length=xs.length:=by omega
   have l:(us.length == d.length)=true:=by simp;omega
   rw[h,l,Bool.and_true]
  rw[e0] at z;exact z
 .simp only[size_toArray] at f g;obtain⟨u,h,r⟩:=r1.get (i:=j) (x:=xs[j]'(by omega)) (by simp);obtain⟨v,l,w⟩:=r2.get (i:=j) (x:=ys[j]'(by omega)) (by simp);obtain⟨_,m⟩:=List.getElem?_eq_some_iff.mp h;obtain⟨_,n⟩:=List.getElem?_eq_some_iff.mp l;have o:us.toArray[j]'(by simpa using f)=u:=by simpa using m
  have p:d.toArray[j]'(by simpa using g)=v:=by simpa using n
  rw[o,p];exact he j _ _ u v (by simp) (by simp) r w
def rR(K:ao)(neg:Bool):R2:=λx y H Q=>∃(F:Hp)(B:Bool->Hp)(t d:Tr)(c a:Cs)(b:Bool),aC F H/\(∀k,aC (B k) H)/\R K F B t x c/\R K F B d y a/\ar F H c/\ar F H a/\dy t d=some b/\dep t<=60/\1<=dep t/\Q (.bl (if neg=true then !b else b)) H
theorem Mr(hu:X.A.units+64<cLine):b6 X (compareOp .Eq) (rR X.K false):=by
 intro aa s i H x y v u Q I D E h;obtain⟨F,B,t,t',c,c',b,G,sb,r,r',Y,J,e,d,d1,q⟩:=h;have l:∀{p p':af},SeqAt.RcAt X.A s (.ref p) (.ref p') b->wpAny (model X.prog X.w) X.A (compareOp .Eq (.ref p) (.ref p')) (EP X aa i Q) X.xe s:=λm=>m X.prog X.w X.xe _ ⟨.bl b,H,I,rfl,q⟩
 cases t with
 |aG o=>
  cases t' with
  |aG z=>
   unfold dy at e;unfold dep at d;split at e
   .rename_i hl;obtain⟨a,vs,rfl,M,g⟩:=r.dB G;obtain⟨N,n,rfl,L,C⟩:=r'.dB G;obtain rfl:v=Value.ref a:=D;obtain rfl:u=Value.ref N:=E;obtain⟨al,ix⟩:=m6 e;have m:=zt (Au:=X.A) I M L (by omega) (by rw[g.length,C.length];exact hl) (gT o z) (λj x y p q ex U D E=>cM I G sb o z (gT o z) X.A.in1 vs n c c' j x y p q ix g C Y J ex U D E (by rw[nQ];omega));rw[g.length,al] at m;exact l m
   .cases e
  |_=>cases e
 |ag f o=>
  cases t' with
  |ag f' z=>
   unfold dy at e;unfold dep at d;obtain⟨a,vs,ds,rfl,M,g,h3,_⟩:=r.cv G sb Y;obtain⟨N,n,O,rfl,L,C,g3,_⟩:=r'.cv G sb J;obtain rfl:v=Value.ref a:=D;obtain rfl:u=Value.ref N:=E;split at e
   .rename_i hl;obtain⟨al,ix⟩:=m6 e;have m:=D8 (Au:=X.A) I M L (by omega) (by rw[g.length,C.length];exact hl) (gT o z) (λj x y p q ex U D E=>cM I G sb o z (gT o z) X.A.in1 vs n ds O j x y p q ix g C h3 g3 ex U D E (by rw[nQ];omega));rw[g.length,al] at m;exact l m
   .rename_i hl;cases e;obtain⟨us,r1,t1,_⟩:=I.list M;obtain⟨zs,r2,t2,_⟩:=I.list L;have m1:=r1.length;have m2:=r2.length;have l1:=g.length;have l2:=C.length;exact l (SeqAt.RcAt.lists_lengths t1.isList t2.isList (by simp;omega) (by omega))
  |_=>cases e
 |_=>exact absurd d1 (by unfold dep;decide)
theorem N5(hu:X.A.units+64<cLine):b6 X (compareOp .NotEq) (rR X.K true):=by
 intro aa s i H x y v u Q I D E h;obtain⟨F,B,t,t',c,c',b,G,sb,r,r',Y,J,e,d,d1,q⟩:=h;have l:∀{p p':af},SeqAt.RcNeAt X.A s (.ref p) (.ref p') (!b)->wpAny (model X.prog X.w) X.A (compareOp .NotEq (.ref p) (.ref p')) (EP X aa i Q) X.xe s:=λm=>m X.prog X.w X.xe _ ⟨.bl (!b),H,I,rfl,q⟩
 cases t with
 |aG o=>
  cases t' with
  |aG z=>
   unfold dy at e;unfold dep at d;split at e
   .rename_i hl;obtain⟨a,vs,rfl,M,g⟩:=r.dB G;obtain⟨N,n,rfl,L,C⟩:=r'.dB G;obtain rfl:v=Value.ref a:=D;obtain rfl:u=Value.ref N:=E;obtain⟨al,ix⟩:=m6 e;have m:=Wv (Au:=X.A) I M L (by omega) (by rw[g.length,C.length];exact hl) (gT o z) (λj x y p q ex U D E=>cM I G sb o z (gT o z) X.A.in1 vs n c c' j x y p q ix g C Y J ex U D E (by rw[nQ];omega));rw[g.length,al] at m;exact l m
   .cases e
  |_=>cases e
 |ag f o=>
  cases t' with
  |ag f' z=>
   unfold dy at e;unfold dep at d;obtain⟨a,vs,ds,rfl,M,g,h3,_⟩:=r.cv G sb Y;obtain⟨N,n,O,rfl,L,C,g3,_⟩:=r'.cv G sb J;obtain rfl:v=Value.ref a:=D;obtain rfl:u=Value.ref N:=E;split at e
   .rename_i hl;obtain⟨al,ix⟩:=m6 e;have m:=Hq (Au:=X.A) I M L (by omega) (by rw[g.length,C.length];exact hl) (gT o z) (λj x y p q ex U D E=>cM I G sb o z (gT o z) X.A.in1 vs n ds O j x y p q ix g C h3 g3 ex U D E (by rw[nQ];omega));rw[g.length,al] at m;exact l m
   .rename_i hl;cases e;obtain⟨us,r1,t1,_⟩:=I.list M;obtain⟨zs,r2,t2,_⟩:=I.list L;have m1:=r1.length;have m2:=r2.length;have l1:=g.length;have l2:=C.length;exact l (SeqAt.RcNeAt.lists_lengths (A:=X.A) t1.isList t2.isList (by simp;omega) (by omega))
  |_=>cases e
 |_=>exact absurd d1 (by unfold dep;decide)
def F9(K:ao):R2:=λx y H Q=>xu x y H Q\/rR K false x y H Q
theorem fZ(a:X.A.units+64<cLine:=by exact bw.units (by assumption)):b6 X (compareOp .Eq) (F9 X.K):=MR.or (Mr a)
def C8(K:ao):R2:=λx y H Q=>o3 x y H Q\/rR K true x y H Q
theorem i6(a:X.A.units+64<cLine:=by exact bw.units (by assumption)):b6 X (compareOp .NotEq) (C8 X.K):=AN.or (N5 a)
def iD(neg:Bool)(x y:Tr)(Q:av):Prop:=match x,y with
 |.int a,.int b=>Q (.bl (if neg=true then !decide (a=b) else decide (a=b)))
 |.str a,.str b=>Q (.bl (if neg=true then !decide (a=b) else decide (a=b)))
 |.bl a,.bl b=>Q (.bl (if neg=true then !decide (a=b) else decide (a=b)))
 |x,y=>qf neg x y Q \/ ∃b,dy x y=some b /\ dep x <= 60 /\ 1 <= dep x /\ Q (.bl (if neg=true then !b else b))
theorem fW:eK K k (F9 K) (iD false):=λF B H x y n ty g i Q o s b z a f j l hd p q=>by
 unfold iD at p;split at p
 .obtain⟨rfl,_⟩:=a;obtain⟨rfl,_⟩:=f;refine .inl ⟨rfl,q _ _ F H [] p (Gr.aO s) ⟨?_,rfl⟩ .nil λ_ m=>nomatch m⟩;exact congrArg V.bl (decide_eq_decide.mpr ⟨λh=>V.int.inj h,λh=>by rw[h]⟩)
 .obtain⟨rfl,_⟩:=a;obtain⟨rfl,_⟩:=f;refine .inl ⟨rfl,q _ _ F H [] p (Gr.aO s) ⟨?_,rfl⟩ .nil λ_ m=>nomatch m⟩;exact congrArg V.bl (decide_eq_decide.mpr ⟨λh=>V.str.inj h,λh=>by rw[h]⟩)
 .obtain⟨rfl,_⟩:=a;obtain⟨rfl,_⟩:=f;refine .inl ⟨rfl,q _ _ F H [] p (Gr.aO s) ⟨?_,rfl⟩ .nil λ_ m=>nomatch m⟩;exact congrArg V.bl (decide_eq_decide.mpr ⟨λh=>V.bl.inj h,λh=>by rw[h]⟩)
 .rcases p with p |p
  .exact .inl (Ni (k:=k) F B H x y n ty g i Q o s b z a f j l hd p q)
  .obtain⟨bb,e,d,d1,p⟩:=p;exact .inr ⟨F,B,n,ty,g,i,bb,s,b,a,f,j,l,e,d,d1,q _ _ F H [] p (Gr.aO s) ⟨rfl,rfl⟩ .nil λ_ m=>nomatch m⟩
theorem i5:eK K k (C8 K) (iD true):=λF B H x y n ty g i Q o s b z a f j l hd p q=>by
 unfold iD at p;split at p
 .obtain⟨rfl,_⟩:=a;obtain⟨rfl,_⟩:=f;refine .inl ⟨rfl,q _ _ F H [] p (Gr.aO s) ⟨?_,rfl⟩ .nil λ_ m=>nomatch m⟩;exact congrArg (λb=>V.bl (!b)) (decide_eq_decide.mpr ⟨λh=>V.int.inj h,λh=>by rw[h]⟩)
 .obtain⟨rfl,_⟩:=a;obtain⟨rfl,_⟩:=f;refine .inl ⟨rfl,q _ _ F H [] p (Gr.aO s) ⟨?_,rfl⟩ .nil λ_ m=>nomatch m⟩;exact congrArg (λb=>V.bl (!b)) (decide_eq_decide.mpr ⟨λh=>V.str.inj h,λh=>by rw[h]⟩)
 .obtain⟨rfl,_⟩:=a;obtain⟨rfl,_⟩:=f;refine .inl ⟨rfl,q _ _ F H [] p (Gr.aO s) ⟨?_,rfl⟩ .nil λ_ m=>nomatch m⟩;exact congrArg (λb=>V.bl (!b)) (decide_eq_decide.mpr ⟨λh=>V.bl.inj h,λh=>by rw[h]⟩)
 .rcases p with p |p
  .exact .inl (PV (k:=k) F B H x y n ty g i Q o s b z a f j l hd p q)
  .obtain⟨bb,e,d,d1,p⟩:=p;exact .inr ⟨F,B,n,ty,g,i,bb,s,b,a,f,j,l,e,d,d1,q _ _ F H [] p (Gr.aO s) ⟨rfl,rfl⟩ .nil λ_ m=>nomatch m⟩
end
def xc(K:ao)(k:Md)(pe:aY):TE:=λj H Q=>∃(F:Hp)(B:Bool->Hp)(i:ah)(b:av),gE K k F B H j i/\pe i b/\∀t v d a e,b t->Out K F B H d a t v e->Q v a
def x6(K:ao)(k:Md)(pe:d6):TT:=λj H Q=>∃(F:Hp)(B:Bool->Hp)(i:ah)(d:Bool->Prop),gE K k F B H j i/\pe i d/\∀b e a,d b->Gr F H e a->Q b a
section
theorem QE.of(h:QE X k e pe):PE X e (xc X.K k pe):=λaa s j H Q I ⟨F,B,i,Q',h1,h2,h3⟩=>by
 obtain⟨d,a,b⟩:=h.h;exact a aa s j H Q I (b F B H j i Q Q' h1 h2 h3)
theorem E3:bC K k (xc K k pe) pe:=λF B H j i Q a b d e=>⟨F,B,i,a,b,d,e⟩
theorem QT.of(h:QT X k e pe):PT X e (x6 X.K k pe):=λaa s j H Q I ⟨F,B,i,Q',h1,h2,h3⟩=>by
 obtain⟨d,a,b⟩:=h.h;exact a aa s j H Q I (b F B H j i Q Q' h1 h2 h3)
theorem AZ:fS K k (x6 K k pe) pe:=λF B H j i Q a b d e=>⟨F,B,i,a,b,d,e⟩
theorem vv(d:QE X k a pa)(e:QE X k b pb):QE X k (.BinOp a .Pow b pos) (p2 (act pH λi j=>.int (i ^ j.toNat)) pa pb):=mO Nd (uR λ_ _ _ _=>⟨rfl,rfl⟩) d e
theorem kx(g:bK X (.type T) r)(j:ly X.K k r pr)(hm:X.mg x=none)(f:QA X k (e::es) ps)(i:Gl X x:=by rfl)(l:bootBuiltins x=some (.type T):=by rfl)(hn:x≠"__name__":=by decide)(a:du x:=by decide)(he:dH e es X.env:=by rfl)(hpl:fk pos es X.env:=by rfl):
  QE X k (.Call (.Name x p) (e::es) [] pos) (pB pr ps):=by
 obtain⟨m,b,d⟩:=f.h;exact⟨_,l9 g i hm l b hn a he hpl,Cw j d⟩
theorem rp:QE X k (.Dict [] [] pos) wJ:=⟨_,U3,SY⟩
theorem GO(h:QE X k e pe)(d:attributeBase e f X.env (eval e X.env)=eval e X.env:=by rfl):QE X k (.Attribute e f pos) (p1 (gO X.K f) pe):=by
 obtain⟨g,a,b⟩:=h.h;exact⟨_,AF a d,LX b⟩
theorem uU(m:QE X k o po)(he:QE X k e pe)(l:QE X k f pf)(hm:M2 X o "get" apos e f bq:=by exact⟨rfl,rfl,rfl,rfl⟩)(n:X.A.units+1<cLine:=by assumption):QE X k (.Call (.Attribute o "get" apos) [e,f] [] bq) (p3 uC po pe pf):=by
 obtain⟨p,i,j⟩:=m.h;obtain⟨q,d,g⟩:=he.h;obtain⟨r,a,b⟩:=l.h;exact⟨_,Wd n i d a hm,Vs j g b⟩
structure QO(X:Cx)(k:Md)(e:Option Expr)(pe:om):Prop where
 h:∃te,PO X e te/\pM X.K k te pe
theorem sE:QO X k none vm:=⟨_,Vo,Vx⟩
theorem oG(h:QE X k e pe):QO X k (some e) (va pe):=by
 obtain⟨d,a,b⟩:=h.h;exact⟨_,Ly a,Ig b⟩
theorem qx{e:Expr}{pe:aY}{l h:Option Expr}{pl a:om}{p2:Pos}(he:QE X k e pe)(n:QO X k l pl)(m:QO X k h a):QE X k (.Subscript e (.Slice l h none p2) pos) (yJ pe pl a):=by
 obtain⟨o,i,j⟩:=he.h;obtain⟨p,f,g⟩:=n.h;obtain⟨q,b,d⟩:=m.h;exact⟨_,Jc IL i f b,VG j g d⟩
structure QG(X:Cx)(k:Md)(lo:Nat)(e:Expr)(pg:eT):Prop where
 h:∃tg,PG X e tg/\mY X.K k lo tg pg
structure tI(X:Cx)(k:Md)(lo:Nat)(es:bH)(pg:ah->ah->(aX)->Prop):Prop where
 h:∃tg,nS X es tg/\pF X.K k lo tg pg
theorem dI(i:Nat)(a:X.N.Nodup:=by assumption)(e:lo<=i:=by decide)(d:X.N[i]?=some x:=by rfl)(f:Loc X.env.scope x:=by first |exact Or.inl rfl |exact Or.inr rfl)(b:ke X x:=by first |exact .inl rfl |exact .inr rfl |assumption):QG X k lo (.Name x pos) (pU i):=⟨_,vV a d f b,OE e⟩
theorem jS:tI X k lo [] l8:=⟨_,BI,TY⟩
theorem fL(h:QG X k lo e pg)(h':tI X k lo es pr)(hs:(assignEach (e::es) X.env).map (·.2)=assign e X.env::(assignEach es X.env).map (·.2):=by rfl):tI X k lo (e::es) (mw pg pr):=by
 obtain⟨g,d,f⟩:=h.h;obtain⟨i,a,b⟩:=h'.h;exact⟨_,Cj d a hs,Jn f b⟩
theorem jZ(d:X.calm=true)(h:tI X k lo es pr)(hn:(assignEach es X.env).length=n:=by rfl)(e:(assignEach es X.env).findIdx? (·.1)=none:=by rfl):QG X k lo (.Tuple es kk pos) (lV n pr):=by
 obtain⟨f,a,b⟩:=h.h;exact⟨_,BQ d a hn e,LU b⟩
structure QI(X:Cx)(k:Md)(tg e:Expr)(pi:ip):Prop where
 h:∃ti,PI X tg e ti/\kc X.K k ti pi
section
theorem fu(h:QE X k l pl):QI X k tg l (vp pl):=by
 obtain⟨d,a,b⟩:=h.h;exact⟨_,Hl a,PQ b⟩
theorem rT(hm:X.mg "range"=none)(h:QA X k [l] ps)(d:Gl X "range":=by rfl)(hs:j7 l X.env:=by rfl):QI X k tg (.Call (.Name "range" p) [l] [] pos) (x9 ps):=by
 obtain⟨e,a,b⟩:=h.h;exact⟨_,QD d hm a hs,Qp b⟩
theorem U0(hm:X.mg "range"=none)(h:QA X k [l,m] ps)(e:Gl X "range":=by rfl)(hs:nI l m X.env:=by rfl)(a:j7 m X.env:=by rfl):QI X k tg (.Call (.Name "range" p) [l,m] [] pos) (ya ps):=by
 obtain⟨f,b,d⟩:=h.h;exact⟨_,LB e hm b hs a,Jm d⟩
theorem sj(hm:X.mg "enumerate"=none)(h:QA X k [l] ps)(d:Gl X "enumerate":=by rfl)(hs:j7 l X.env:=by rfl):QI X k (.Tuple es x1 tpos) (.Call (.Name "enumerate" p) [l] [] pos) (wz ps):=by
 obtain⟨e,a,b⟩:=h.h;exact⟨_,JJ d hm a hs,JQ b⟩
theorem oq(hm:X.mg "zip"=none)(h:QA X k [l,m] ps)(e:Gl X "zip":=by rfl)(hs:nI l m X.env:=by rfl)(a:j7 m X.env:=by rfl):QI X k (.Tuple es x1 tpos) (.Call (.Name "zip" p) [l,m] [] pos) (u6 ps):=by
 obtain⟨f,b,d⟩:=h.h;exact⟨_,KN e hm b hs a,Hx d⟩
end
theorem bF(i:Nat)(h:QE X k e pe)(d:X.N.Nodup:=by assumption)(j:lo<=i:=by decide)(g:X.N[i]?=some x:=by rfl)(l:Loc X.env.scope x:=by first |exact Or.inl rfl |exact Or.inr rfl)(hs:swapsWith e (some (.Name x pos')) pos.line X.env=pure false:=by rfl)(f:ke X x:=by first |exact .inl rfl |exact .inr rfl |assumption):
  QS X k lo (.Assign [.Name x pos'] e pos) (lW i pe):=by
 obtain⟨m,a,b⟩:=h.h;exact⟨_,q5 d g l a hs f,zm j b⟩
theorem Ov(h:QE X k e pe)(l:QG X k lo tg pg)(g:swapsWithSole [tg] e pos.line X.env=pure false:=by rfl)(i:swappedStores [tg] e X.env=pure none:=by rfl)(j:(assignEach [tg] X.env).map (·.2)=[assign tg X.env]:=by rfl):QS X k lo (.Assign [tg] e pos) (vu pe pg):=by
 obtain⟨m,a,b⟩:=h.h;obtain⟨n,d,f⟩:=l.h;exact⟨_,Ei a d g i j,JB b f⟩
theorem Te(i j:Nat){x y:Str}{n:b8}{l m pt d:Pos}{g k2:Nat}(h:QA X k [a,b] n)(r:X.calm=true:=by rfl)(q:X.N.Nodup:=by assumption)(w:lo<=i:=by decide)(f:lo<=j:=by decide)(s:X.N[i]?=some x:=by rfl)(u:X.N[j]?=some y:=by rfl)(e:i≠j:=by decide)(A:X.env.scope.names.lookup x=some .local:=by rfl)(B:X.env.scope.names.lookup y=some .local:=by rfl)(hs:swappedStores [.Tuple [.Name x l,.Name y m] g pt] (.Tuple [a,b] k2 d) X.env=pure (some [x,y]):=by rfl)(z:swapsWithSole [.Tuple [.Name x l,.Name y m] g pt] (.Tuple [a,b] k2 d) pos.line X.env=pure false:=by rfl):QS X k lo (.Assign [.Tuple [.Name x l,.Name y m] g pt] (.Tuple [a,b] k2 d) pos) (yW i j n):=by
 obtain⟨C,o,p⟩:=h.h;exact⟨_,Pb r q s u e A B o hs z,Sh w f p⟩
theorem gb(m:QI X k tg iter pi)(l:QG X k lo tg pg)(i:QB X k lo body pb)(hp:PassesOwn (model X.prog X.w) X.A X.env X.xe:=by first |exact PassesOwn.never |exact ed rfl)(j:X.calm=true:=by rfl)(hs:∀x,foldedSetIterable iter X.env x=pure x:=by intro _;rfl):QS X k lo (.For tg iter body [] pos) (vN pi pg pb):=by
 obtain⟨n,f,g⟩:=m.h;obtain⟨o,d,e⟩:=l.h;obtain⟨tb,a,b⟩:=i.h;exact⟨_,EV hp j f d a hs,RQ g e b⟩
theorem Ot(q:QE X k o po)(p:QG X k.walk lo (.Tuple elts x1 tpos) pg)(m:QB X k.walk lo body pb)(hz:k.z=true:=by rfl)(hp:PassesOwn (model X.prog X.w) X.A X.env X.xe:=by first |exact PassesOwn.never |exact ed rfl)(n:X.calm=true:=by rfl)(i:attributeBase o "items" X.env (eval o X.env)=eval o X.env:=by rfl)(j:(apos.endLine == bq.line)=true:=by rfl)(l:∀x,foldedSetIterable (.Call (.Attribute o "items" apos) [] [] bq) X.env x=pure x:=by intro _;rfl):
  QS X k lo (.For (.Tuple elts x1 tpos) (.Call (.Attribute o "items" apos) [] [] bq) body [] pos) (xm .it po pg pb):=by
 obtain⟨r,d,e⟩:=q.h;obtain⟨s,f,g⟩:=p.h;obtain⟨tb,a,b⟩:=m.h;exact⟨_,GF hp n d f a i j l,Tq hz e g b⟩
theorem cV(i:Nat)(b:X.N[i]?=some x:=by rfl)(d:n4 X.env.scope x:=by first |exact Or.inl rfl |exact Or.inr (Or.inl rfl) |exact Or.inr (Or.inr rfl))(hd:du x:=by decide)(a:(x == ("__classdict__":Str))=false:=by decide):PE X (.Name x pos) (tR X.K i []):=q0 b d hd a
theorem jW(hp:PE X o (tR X.K i r))(h:QE X k e pe)(f:attributeBase o "append" X.env (eval o X.env)=eval o X.env:=by rfl)(g:(((backTo bq (starEach [e] X.env)).all (!·.1)&&(backToKw bq (keywordEach [] X.env)).all (·.1.isSome))&&decide (([e].length+([]:List Keyword).length+if ([]:List Keyword).isEmpty=true then 0 else 1)<30))=true:=by rfl)(j:(apos.endLine == bq.line)=true:=by rfl)(a:dH e [] X.env:=by rfl)(hs:swapsWith (.Call (.Attribute o "append" apos) [e] [] bq) none spos.line X.env=pure false:=by rfl):
  QS X k lo (.Expr (.Call (.Attribute o "append" apos) [e] [] bq) spos) (yD X.K i r pe):=by
 obtain⟨l,b,d⟩:=h.h;exact⟨_,tJ (Gj PySem.F.plainAttrs_list slot_list_append type_list_append Ka hp (ju b jT a) f g j a rfl) hs,VF d⟩
theorem oE(hp:PE X o (tR X.K i r))(p:QE X k j pj)(h:QE X k e pe)(n:∀v,assign (.Subscript o j pos') X.env v=(do
   let ov <- holding [v] (eval o X.env)
   let iv <- holding [v,ov] (eval j X.env)
   standAt pos'
   holding [v,ov,iv] (setItem ov iv v)
   release [v,ov,iv] []):=by intro _;rfl)(g:swapsWithSole [.Subscript o j pos'] e pos.line X.env=pure false:=by rfl)(l:swappedStores [.Subscript o j pos'] e X.env=pure none:=by rfl)(m:(assignEach [.Subscript o j pos'] X.env).map (·.2)=[assign (.Subscript o j pos') X.env]:=by rfl):
  QS X k lo (.Assign [.Subscript o j pos'] e pos) (yC X.K i r pj pe):=by
 obtain⟨q,a,b⟩:=h.h;obtain⟨s,d,f⟩:=p.h;exact⟨_,Ei a (K7 hp d Qm n) g l m,Ms b f⟩
theorem tp(hp:PE X o (tR X.K i r))(g:QE X k j pj)(h:QE X k e pe)(l:X.A.units+1<cLine:=by assumption)(hs:swapsWith e (some (.Subscript o j pos')) pos.line X.env=pure false:=by rfl):QS X k lo (.Assign [.Subscript o j pos'] e pos) (vz X.K i r pj pe):=by
 obtain⟨m,a,b⟩:=h.h;obtain⟨n,d,f⟩:=g.h;exact⟨_,PB l hp d a hs,N6 b f⟩
theorem m7(hp:PE X o (tR X.K i r))(h:QE X k e pe)(hs:swapsWith e (some (.Attribute o f pos')) pos.line X.env=pure false:=by rfl):QS X k lo (.Assign [.Attribute o f pos'] e pos) (yR X.K i r f pe):=by
 obtain⟨d,a,b⟩:=h.h;exact⟨_,BJ hp a hs,US b⟩
structure qd(X:Cx)(scope:Scope)(N:aj)(js:List Nat)(e:Expr)(pg:eT):Prop where
 h:∃tg,(∀C s H fp pl,PG (cL X scope N C s H fp pl) e tg)/\oV X.K js tg pg
structure uz(X:Cx)(scope:Scope)(N:aj)(js:List Nat)(es:bH)(pg:ah->ah->(aX)->Prop):Prop where
 h:∃tg,(∀C s H fp pl,nS (cL X scope N C s H fp pl) es tg)/\pL X.K js tg pg
section
theorem eP(i:Nat)(b:N.Nodup:=by decide)(d:N[i]?=some x:=by rfl)(a:∀C s H fp pl,(cL X scope N C s H fp pl).env.scope.names.lookup x=some .local:=by intros;rfl):qd X scope N [i] (.Name x pos) (pU i):=⟨_,λC s H fp pl=>vV (X:=cL X scope N C s H fp pl) b d (.inl (a C s H fp pl)) (.inr (a C s H fp pl)),K6⟩
theorem y4:uz X scope N [] [] l8:=⟨_,λ_ _ _ _ _=>BI,Tz⟩
theorem nr(h:qd X scope N js e pg)(h':uz X scope N ks es pr)(hs:∀C s H fp pl,(assignEach (e::es) (cL X scope N C s H fp pl).env).map (·.2)=assign e (cL X scope N C s H fp pl).env::(assignEach es (cL X scope N C s H fp pl).env).map (·.2):=by intros;rfl):uz X scope N (js++ks) (e::es) (mw pg pr):=by
 obtain⟨g,d,f⟩:=h.h;obtain⟨i,a,b⟩:=h'.h;exact⟨_,λC s H fp pl=>Cj (d C s H fp pl) (a C s H fp pl) (hs C s H fp pl),HD f b⟩
theorem uS(d:X.calm=true)(h:uz X scope N js es pr)(hn:∀C s H fp pl,(assignEach es (cL X scope N C s H fp pl).env).length=n:=by intros;rfl)(e:∀C s H fp pl,(assignEach es (cL X scope N C s H fp pl).env).findIdx? (·.1)=none:=by intros;rfl):qd X scope N js (.Tuple es kk pos) (lV n pr):=by
 obtain⟨f,a,b⟩:=h.h;exact⟨_,λC s H fp pl=>BQ (X:=cL X scope N C s H fp pl) d (a C s H fp pl) (hn C s H fp pl) (e C s H fp pl),QR b⟩
structure sd(Y:Cx)(k:Md)(es:bH)(pt:d6):Prop where
 h:nB Y es (x6 Y.K k pt)
theorem Cf:sd X k [] ql:=⟨λaa s j H Q I a=>by obtain⟨F,B,i,b,d,e,f⟩:=a;exact RN aa s j H Q I (Uw (k:=k) F B H j i Q b d e f)⟩
theorem B1{e:Expr}{pt:d6}(h:QT X k e pt):sd X k [e] pt:=⟨DZ h.of⟩
variable{elt target iter:Expr}{ifs:bH}{ix:bG}{pi:ip}{pg:eT}{pt:d6}{pe:aY}{js:List Nat}
theorem iq(N:aj)(ix:bG)(q:QI X k target iter pi)(p:qd X a N js target pg)(he:∀C s H fp pl,QE (cL X a N C s H fp pl) k.fV elt pe)(ht:∀C s H fp pl,sd (cL X a N C s H fp pl) k.fV ifs pt:=by exact λ_ _ _ _ _=>Cf)(o:X.calm=true:=by rfl)(g:bM X a N ix:=by repeat first |exact True.intro |refine⟨rfl,rfl,rfl,?_⟩)(r:∀j∈js,ix[j]?=some none:=by decide)(e:a.kind=.function:=by rfl)(d:∀y∈a.names,y.2≠.cell:=by decide)(b:∀x∈a.names,x.2=.local->a.names.lookup x.1=some .local:=by decide)(f:jj a X.env=true:=by rfl)(hs:∀x,foldedSetIterable iter X.env x=pure x:=by intro _;rfl):
  QE X k (.ListComp elt [⟨target,iter,ifs,0⟩] a pos) (r6 pi pg pt pe ix):=by
 obtain⟨u,m,n⟩:=q.h;obtain⟨w,i,l⟩:=p.h;exact⟨_,Dm o m i (λC s H fp pl=>(ht C s H fp pl).h) (λC s H fp pl=>(he C s H fp pl).of) g e d b f hs,Bg n l AZ E3 r⟩
theorem ma(i:Nat)(N:aj)(ix:bG)(A:QI X k target iter pi)(z:qd X a N js target pg)(he:∀C s H fp pl,QE (cL X a N C s H fp pl) k.fV elt pe)(ht:∀C s H fp pl,sd (cL X a N C s H fp pl) k.fV ifs pt:=by exact λ_ _ _ _ _=>Cf)(r:X.N.Nodup:=by assumption)(D:lo<=i:=by decide)(m:X.N[i]?=some y:=by rfl)(E:Loc X.env.scope y:=by first |exact Or.inl rfl |exact Or.inr rfl)(u:X.calm=true:=by rfl)(g:bM X a N ix:=by repeat first |exact True.intro |refine⟨rfl,rfl,rfl,?_⟩)(B:∀j∈js,ix[j]?=some none:=by decide)(l:swapsWith (.ListComp elt [⟨target,iter,ifs,0⟩] a pos) (some (.Name y py)) spos.line X.env=pure true:=by with_unfolding_all rfl)(e:a.kind=.function:=by rfl)(d:∀y∈a.names,y.2≠.cell:=by decide)(b:∀x∈a.names,x.2=.local->a.names.lookup x.1=some .local:=by decide)(f:jj a X.env=true:=by rfl)(hs:∀x,foldedSetIterable iter X.env x=pure x:=by intro _;rfl)(w:ke X y:=by first |exact .inl rfl |exact .inr rfl |assumption):
  QS X k lo (.Assign [.Name y py] (.ListComp elt [⟨target,iter,ifs,0⟩] a pos) spos) (lW i (r6 pi pg pt pe ix)):=by
 obtain⟨G,p,q⟩:=A.h;obtain⟨I,n,o⟩:=z.h;exact⟨_,Jl r m E u p n (λC s H fp pl=>(ht C s H fp pl).h) (λC s H fp pl=>(he C s H fp pl).of) g l e d b f hs w,zm D (Bg q o AZ E3 B)⟩
end
end
section
theorem Lk.md(L:Lk K k lo us Fb Hb D D')(hz:k.z=true->k'.z=true)(x:∀b f e d,k.q b->Gr Fb Hb e d->k.E f b none d):Lk K k' lo us Fb Hb D D':=
 ⟨λF H j i a W=>L.nx F H j i a (W.md hz x),λF H j i a v t c W=>L.rt F H j i a v t c (W.md hz x),λF H j i a W=>L.bk F H j i a (W.md hz x),λF H j i a W=>L.ct F H j i a (W.md hz x)⟩
def wm(q:ai->Prop)(C:af)(pe:aY):cg:=λ_ j=>pe (j.map aD) λ_=>q (.ref C)
theorem IV(h:bC K ⟨z,λ_=>E,q⟩ te pe):cS K ⟨z,λ_=>E,q⟩ lo (Bi C E te) (wm q C pe):=λus f d F H j i l D e W p L=>
 h F (Bq d H) H j _ _ _ W.eD p λt v a b c q o=>W.x (.ref C) j a b q (W.g.trans' o.g)
def E1(K:ao)(k:Md)(lo:Nat)(f:cg):TS:=λD j H=>∃(us:aw)(b d F:Hp)(i:ah)(e:Nat->Cs)(a:Pd),bc K k lo us b d F H j i e/\f a i/\Lk K k lo us b d D a
theorem QB.of(h:QB X k lo sts ps):fA X sts (E1 X.K k lo ps):=λaa s j H D I ⟨us,Fb,Hb,F,i,cs,D',h1,h2,h3⟩=>by
 obtain⟨d,a,b⟩:=h.h;exact a aa s j H D I (b us Fb Hb F H j i cs D D' h1 h2 h3)
theorem Ru:cS K k lo (E1 K k lo ps) ps:=λus b d F H j i e D a f g h=>⟨us,b,d,F,i,e,a,f,g,h⟩
def v7(K:ao)(k:Md)(lo:Nat)(o:TE->TS)(n:aY->cg):Prop:=∀(us:aw)(d a F H:Hp)(j:St)(i:ah)(m:Nat->Cs)(D:g9)(b:Pd)(h:TE)(g:aY),bc K k lo us d a F H j i m->Lk K k lo us d a D b->(∀Q f,g (i.map aD) f->(∀t v l e c,f t->Out K F (Bq a H) H l e t v c->Q v e)->h j H Q)->n g b i->o h D j H
theorem Pq(g:lo<=i):v7 K k lo (λa=>kI a (jb i)) (lW i):=λus n r F H j G s D l a u W L h p=>h _ _ p λt v m d c q o=>by
 obtain⟨b,f,e⟩:=W.outF o g q.1;exact L.nx b d _ _ _ e q.2
def FH(K:ao)(z:Bool)(pe:(ai->Prop)->aY)(R':St->XK):TE:=λj H Q=>∃q,xc K ⟨z,R',q⟩ (pe q) j H Q
theorem MA{pe:(ai->Prop)->aY}(h:∀q,QE X ⟨z,R',q⟩ e (pe q)):PE X e (FH X.K z pe R'):=λaa s j H Q I ⟨q,h'⟩=>(h q).of aa s j H Q I h'
@[reducible] def Di(K:ao)(C:af)(a:ai):Prop:=W.exmOne K a (.ref C)=some true
def wt(K:ao)(C:af)(b:aY->cg)(pe:(ai->Prop)->aY)(d:cg):cg:=λD j=>b (pe λa=>Di K C a/\d D j) D j
theorem H9{n:TE->TS}(y:v7 K k lo n pS)(A:cS K k.fV lo th ph):cS K k lo (FK K C (λR'=>n (FH K k.z pe R')) th) (wt K C pS pe ph):=λus f a F H j i l D d W p L=>
 y us f a F H j i l D d _ _ W L (λQ u B q=>⟨_,F,Bq a H,_,u,⟨W.eD.s,W.eD.b,W.eD.z,W.eD.e,λw o r m g=>⟨m.1,A us f a o r j i l D d ((W.gr g).md id λ_ _ _ _ h=>h.elim) m.2 (L.md id W.x)⟩⟩,B,q⟩) p
end
section
theorem DG(h:l7 (fj X.prog X.w) X E):∀j,iZ (fj X.prog X.w) X j E:=λj aa H s e a I c=>h aa j H s e a I c
theorem R4(hs:X.stack=X.env::X.outer)(j:X.env.frame=some X.env.locals)(d:X.ex=[])(f:nE X E)(a:X.calm=true)(l:Gl X x)(hm:X.mg x=some (.ref C))(FB:ExcBaseFacts B newId initId bmB)(m:W.excIn X.K C bmB newId=true)(he:QE X ⟨z,λ_=>E,q⟩ e₀ pe)(b:du x:=by decide)(e:dH e₀ [] X.env:=by rfl)(hpl:fk bq [] X.env:=by rfl):
  QS X ⟨z,λ_=>E,q⟩ lo (.Raise (some (.Call (.Name x np) [e₀] [] bq)) none pos) (wm q C pe):=by
 obtain⟨n,g,i⟩:=he.h;exact⟨_,Qa hs j d f a l hm FB m g b e hpl,IV i⟩
section
theorem Hs(hs:X.stack=X.env::X.outer)(h:X.env.frame=some X.env.locals)(i:Gl X x)(hm:X.mg x=some (.ref C))(f:v7 X.K k lo tS pS)(g:∀pn xe d,PE (X.cR pn xe) e d->PS (X.cR pn xe) st (tS d))(he:∀(pn:aV)(xe:ai->ak->Prop)(R':St->XK),(∀j,iZ (fj X.prog X.w) (X.cR pn xe) j (R' j))->∀q,QE (X.cR pn xe) ⟨k.z,R',q⟩ e (pe q))(l:∀v:Value,QB (X.bQ v) k.fV lo (a::suite) ph)(b:du x:=by decide):
  QS X k lo (.Try [st] [.ExceptHandler (some (.Name x np)) none (a::suite) hpos] [] [] pos) (wt X.K C pS pe ph):=
 ⟨_,K2 hs h i hm (λpn xe R' m=>w1 (g pn xe _ (MA (he pn xe R' m)))) (λv=>(l v).of) b,H9 f Ru⟩
end
theorem Dl:b6 X (compareOp .Is) (λx y H Q=>((∃d,y=.bl d)\/y=.aL)/\Q (.bl (decide (x=y))) H):=by
 intro aa s j H x y v u Q I a b h;obtain⟨e,q⟩:=h;rcases e with⟨d,rfl⟩ |rfl
 .cases b;cases x with
  |bl c=>cases a;exact PyProof.Rows.is_bool (cK I q (by cases c<;>cases d<;>rfl))
  |_=>first
   |(cases a;exact wpAny_pure (cK I q rfl))
   |(obtain⟨t,rfl⟩:=a;exact wpAny_pure (cK I q rfl))
 .exact HK aa s j H x _ v u Q I a b ⟨rfl,q⟩
end
section
theorem DF:b6 X (compareOp .IsNot) (λx y H Q=>((∃d,y=.bl d)\/y=.aL)/\Q (.bl (!decide (x=y))) H):=by
 intro aa s j H x y v u Q I a b h;obtain⟨e,q⟩:=h;rcases e with⟨d,rfl⟩ |rfl
 .cases b;cases x with
  |bl c=>cases a;exact PyProof.Rows.isnot_bool (cK I q (by cases c<;>cases d<;>rfl))
  |_=>first
   |(cases a;exact wpAny_pure (cK I q rfl))
   |(obtain⟨t,rfl⟩:=a;exact wpAny_pure (cK I q rfl))
 .exact V9 aa s j H x _ v u Q I a b ⟨rfl,q⟩
end
section
def oz:Tr->Tr->Bool
 |.bl c,.bl d=>c == d
 |.aL,.aL=>true
 |_,_=>false
def lT(neg:Bool)(x y:Tr)(Q:av):Prop:=match y with
 |.bl d=>Q (.bl (neg ^^ oz x (.bl d)))
 |.aL=>Q (.bl (neg ^^ oz x .aL))
 |_=>False
theorem R.ref(r:R K F B t v c):(∃b,t=.bl b/\v=.bl b)\/(t=.aL/\v=.aL)\/(∀d,oz t (.bl d)=false/\oz t .aL=false/\v≠.bl d/\v≠.aL):=by
 cases t with
 |bl b=>exact .inl ⟨b,rfl,r.1⟩
 |aL=>exact .inr (.inl ⟨rfl,r.1⟩)
 |aA=>exact (show False from r).elim
 |int n=>exact .inr (.inr λd=>⟨rfl,rfl,(by rw[r.1];intro z;cases z),(by rw[r.1];intro z;cases z)⟩)
 |str n=>exact .inr (.inr λd=>⟨rfl,rfl,(by rw[r.1];intro z;cases z),(by rw[r.1];intro z;cases z)⟩)
 |ty n=>exact .inr (.inr λd=>⟨rfl,rfl,(by rw[r.1];intro z;cases z),(by rw[r.1];intro z;cases z)⟩)
 |cl n=>exact .inr (.inr λd=>⟨rfl,rfl,(by rw[r.1];intro z;cases z),(by rw[r.1];intro z;cases z)⟩)
 |exc n=>obtain⟨_,a,rfl,_⟩:=r;exact .inr (.inr λd=>⟨rfl,rfl,(by intro z;cases z),(by intro z;cases z)⟩)
 |aG e=>obtain⟨a,vs,rfl,_⟩:=r;exact .inr (.inr λd=>⟨rfl,rfl,(by intro z;cases z),(by intro z;cases z)⟩)
 |ag f e=>
  cases f with
  |o=>obtain⟨a,vs,g,rfl,_⟩:=r;exact .inr (.inr λd=>⟨rfl,rfl,(by intro z;cases z),(by intro z;cases z)⟩)
  |f=>obtain⟨_,a,vs,rfl,_⟩:=r;exact .inr (.inr λd=>⟨rfl,rfl,(by intro z;cases z),(by intro z;cases z)⟩)
  |l b=>obtain⟨_,a,vs,rfl,_⟩:=r;exact .inr (.inr λd=>⟨rfl,rfl,(by intro z;cases z),(by intro z;cases z)⟩)
 |aS f e=>
  cases f with
  |o=>obtain⟨a,vs,g,rfl,_⟩:=r;exact .inr (.inr λd=>⟨rfl,rfl,(by intro z;cases z),(by intro z;cases z)⟩)
  |f=>obtain⟨_,a,vs,rfl,_⟩:=r;exact .inr (.inr λd=>⟨rfl,rfl,(by intro z;cases z),(by intro z;cases z)⟩)
  |l b=>obtain⟨_,a,vs,rfl,_⟩:=r;exact .inr (.inr λd=>⟨rfl,rfl,(by intro z;cases z),(by intro z;cases z)⟩)
 |ins f c e=>
  cases f with
  |o=>obtain⟨a,h,vs,g,rfl,_⟩:=r;exact .inr (.inr λd=>⟨rfl,rfl,(by intro z;cases z),(by intro z;cases z)⟩)
  |f=>obtain⟨_,a,h,vs,rfl,_⟩:=r;exact .inr (.inr λd=>⟨rfl,rfl,(by intro z;cases z),(by intro z;cases z)⟩)
  |l b=>obtain⟨_,a,h,vs,rfl,_⟩:=r;exact .inr (.inr λd=>⟨rfl,rfl,(by intro z;cases z),(by intro z;cases z)⟩)
theorem Fo(r:R K F B t v c)(d:Bool):decide (v=.bl d)=oz t (.bl d):=by
 rcases r.ref with⟨b,rfl,rfl⟩ |⟨rfl,rfl⟩ |h
 .cases b<;>cases d<;>rfl
 .rfl
 .rw[(h d).1];exact decide_eq_false (h d).2.2.1
theorem B4(r:R K F B t v c):decide (v=.aL)=oz t .aL:=by
 rcases r.ref with⟨b,rfl,rfl⟩ |⟨rfl,rfl⟩ |h
 .rfl
 .rfl
 .rw[(h true).2.1];exact decide_eq_false (h true).2.2.2
theorem A9:eK K k (λx y H Q=>((∃d,y=.bl d)\/y=.aL)/\Q (.bl (decide (x=y))) H) (lT false):=λF B H x y l ty g h Q f s b z a e i j hd p q=>by
 unfold lT at p;split at p
 .obtain⟨rfl,_⟩:=e;refine⟨.inl ⟨_,rfl⟩,?_⟩;rw[Fo a];rw[Bool.false_xor] at p;exact q _ _ F H [] p (Gr.aO s) ⟨rfl,rfl⟩ .nil λ_ m=>nomatch m
 .obtain⟨rfl,_⟩:=e;refine⟨.inr rfl,?_⟩;rw[B4 a];rw[Bool.false_xor] at p;exact q _ _ F H [] p (Gr.aO s) ⟨rfl,rfl⟩ .nil λ_ m=>nomatch m
 .exact p.elim
theorem Cv:eK K k (λx y H Q=>((∃d,y=.bl d)\/y=.aL)/\Q (.bl (!decide (x=y))) H) (lT true):=λF B H x y l ty g h Q f s b z a e i j hd p q=>by
 unfold lT at p;split at p
 .obtain⟨rfl,_⟩:=e;refine⟨.inl ⟨_,rfl⟩,?_⟩;rw[Fo a];rw[Bool.true_xor] at p;exact q _ _ F H [] p (Gr.aO s) ⟨rfl,rfl⟩ .nil λ_ m=>nomatch m
 .obtain⟨rfl,_⟩:=e;refine⟨.inr rfl,?_⟩;rw[B4 a];rw[Bool.true_xor] at p;exact q _ _ F H [] p (Gr.aO s) ⟨rfl,rfl⟩ .nil λ_ m=>nomatch m
 .exact p.elim
theorem Rs.Gw:∀{bs:List Bool}{vs:aw}{c:Cs},Rs K F B (bs.map .bl) vs c->vs=bs.map V.bl
 |[],_,_,y=>by obtain⟨h,_⟩:=y;exact h
 |b::bs,_,_,y=>by obtain⟨v,r,c,d,a,g,e,f⟩:=y;rw[a,Rs.Gw f,e.1];rfl
def u5(all:Bool)(a:ah)(Q:av):Prop:=match a with
 |[.ag _ xs]=>∃bs:List Bool,xs=bs.map .bl /\ Q (.bl (if all=true then bs.all id else bs.any id))
 |_=>False
theorem Qf:ly K k (λxs H Q=>∃(a:af)(bs:List Bool),xs=[.ref a]/\bE K H a (bs.map V.bl)/\Q (.bl (bs.any id)) H) (u5 false):=λF B H xs j h Q g s b z r f p q=>by
 unfold u5 at p;split at p
 .obtain⟨v,rfl,r1⟩:=r.one;obtain⟨a,vs,i,rfl,d,e,_⟩:=r1.cv s b f;obtain⟨bs,rfl,p⟩:=p;rw[e.Gw] at d;exact⟨a,bs,rfl,d,q _ _ F H [] p (Gr.aO s) ⟨rfl,rfl⟩ .nil λ_ m=>nomatch m⟩
 .exact p.elim
theorem U6(a:ah)(b:Gl X x)(hm:X.mg x=some (.ref c))(ht:∃(o:Obj)(bo:dm)(n:Nat),X.K.lookup c=some o/\o.cls=.type "tuple"/\o.data=.seq bo n/\bo.size<=sizeLine/\aI vs bo.toList)(d:∀F B,Rs X.K F B a vs [])(hd:du x:=by decide):QE X k (.Name x pos) (pC (.aG a)):=
 CI (.ref c) b hm rfl (λF B=>⟨c,vs,rfl,.inr ht,d F B⟩) hd
theorem Bx:∀(a:aH),Rs K F B (a.map .int) (a.map V.int) []
 |[]=>⟨rfl,rfl⟩
 |i::a=>⟨.int i,a.map V.int,[],[],rfl,rfl,⟨rfl,rfl⟩,Bx a⟩
theorem iM(a:aH)(hm:X.mg x=some (.ref c))(ht:∃(o:Obj)(bo:dm)(n:Nat),X.K.lookup c=some o/\o.cls=.type "tuple"/\o.data=.seq bo n/\bo.size<=sizeLine/\aI (a.map V.int) bo.toList)(b:Gl X x:=by rfl)(hd:du x:=by decide):QE X k (.Name x pos) (pC (.aG (a.map .int))):=
 U6 _ b hm ht (λ_ _=>Bx a) hd
theorem m9(hm:X.mg x=some (.int i t))(a:Gl X x:=by rfl)(hd:du x:=by decide):QE X k (.Name x pos) (pC (.int i)):=CI (.int i) a hm ⟨_,rfl⟩ (λ_ _=>⟨rfl,rfl⟩) hd
def uM:List (aY×aY)->ah->(bA->Prop)->Prop
 |[],_,Q=>Q []
 |(pk,pv)::r,j,Q=>pk j λx=>jz x λy=>pv j λt=>uM r j λm=>Q ((y,t)::m)
def qi(K:ao)(k:Md)(e:List (TE×TE))(h:List (aY×aY)):Prop:=∀(F:Hp)(B:Bool->Hp)(H:Hp)(j:St)(i:ah)(Q:List (V×V)->Hp->Prop)(f:bA->Prop),gE K k F B H j i->uM h i f->
 (∀m vs a b d,f m->m.length=h.length->Gr F H a b->Rk K a B m vs d->ar a b d->cY H d->Q (vs.map λg=>(kV g.1,g.2)) b)->sU e j H Q
theorem MT:qi K k [] []:=λF B H j i Q a c p q=>q [] [] F H [] p rfl (Gr.aO c.s) ⟨rfl,rfl⟩ .nil .nil
theorem JX(r:R K F B t v c)(h:pO t=some y):v=kV y:=by
 unfold pO at h;split at h<;>cases h
 .exact r.1
 .exact r.1
theorem P6{D E:TE}{f:List (TE×TE)}{A pv:aY}{C:List (aY×aY)}(U:bC K k D A)(hv:bC K k E pv)(h:qi K k f C):qi K k ((D,E)::f) ((A,pv)::C):=λF B H j i Q Q' c p q=>by
 refine U F B H j i _ _ c p λx v G L c1 p1 d=>?_
 unfold jz at p1;split at p1
 .rename_i y hy;refine hv G B L j i _ _ (c.gr d.g) p1 λt u I M o p2 b=>?_
  refine h I B M j i _ _ ((c.gr d.g).gr b.g) p2 λm vs J N s p3 Y l r3 O w=>?_
  have e:=JX d.r hy;rw[e];have:=q ((y,t)::m) ((y,u)::vs) J N (o++s) p3 (by rw [length_cons,length_cons,Y]) ((d.g.trans' b.g).trans' l) ⟨u,vs,o,s,rfl,rfl,b.r.mo l.le (λk=>Le.refl (B k)) t,r3⟩ ((b.c.gr l).app O λp a q mq z=>by have:=b.c.h p a;rw [z,w q mq] at this;cases this) (λp a=>by
   rcases mem_append.mp a with a |a
   .exact d.g.h.free (b.n p a)
   .exact (d.g.trans' b.g).h.free (w p a))
  exact this
 .exact p1.elim
end
theorem HE{a:bT}{y:aU}{v:V}(h:y ∉ a.map (·.1)):ff a y v=a++[(y,v)]:=by
 unfold ff;rw[if_neg];rw[any_eq_true];rintro⟨p,m,e⟩;exact h (mem_map.mpr ⟨p,m,of_decide_eq_true e⟩)
theorem AA:∀(b a:bT),((a++b).map (·.1)).Nodup->lG a b=a++b
 |[],a,_=>by rw[append_nil];rfl
 |p::r,a,h=>by
  have e:ff a p.1 p.2=a++[p]:=HE λm=>by
   rw[map_append,nodup_append] at h;exact h.2.2 _ m _ (mem_map.mpr ⟨p,.head _,rfl⟩) rfl
  show lG (ff a p.1 p.2) r=_;rw[e,AA r (a++[p]) (by rw[append_assoc];exact h),append_assoc];rfl
section
theorem Rk.fst:∀{m:bA}{vs:bT}{c:Cs},Rk K F B m vs c->vs.map (·.1)=m.map (·.1)
 |[],_,_,y=>by obtain⟨h,_⟩:=y;rw[h];rfl
 |(y,x)::m,_,_,y0=>by obtain⟨v,r,c,d,a,e,f,b⟩:=y0;rw[a,map_cons,map_cons,Rk.fst b]
def xq(a:List (aY×aY)):aY:=λj Q=>uM a j λm=>(m.map (·.1)).Nodup/\Q (.aS .o m)
theorem IW(h:qi K k trs ps)(L:ps.length<=15):bC K k (FF trs) (xq ps):=λF B H j i Q N c p q d l=>by
 have J:Gr F H F (aQ H d (.dK [])):=Gr.gY c.s l;refine h F B _ j i _ _ (c.gr J) p λm vs w D E p1 O g r1 A r=>?_
 have G:D d=some (.dK []):=g.h _ _ cq;have I:lG [] vs=vs:=AA vs [] (by rw[nil_append,r1.fst];exact p1.1);have U:vs.length=m.length:=by have:=congrArg List.length r1.fst;rw[length_map,length_map] at this;exact this
 refine⟨G,vs,rfl,by omega,?_⟩;rw[I];have C:w d=none:=by
  cases z:w d with
  |none=>rfl
  |some u=>
   have y:=g.n d u z (c.s.free l);rw[cq] at y;cases y
 refine q (.aS .o m) (.ref d) w (aQ D d (.dK vs)) ((d,.dK vs)::E) p1.2 ⟨Gr.of ⟨λa o e=>?_,g.f,λa o e=>?_,λa u e z=>?_⟩ g.z,⟨d,vs,E,rfl,rfl,r1,p1.1⟩,⟨λx b=>?_,λx b=>?_,?_⟩,λx b=>?_⟩
 .have ne:a≠d:=λz=>by rw[z,l] at e;cases e
  rw[ba ne];exact g.h a o (by rw[ba ne];exact e)
 .have ne:a≠d:=λz=>by rw[z,C] at e;cases e
  rw[ba ne];exact g.s a o e
 .have y:=g.n a u e z;have ne:a≠d:=λz=>by rw[z,C] at e;cases e
  rw[ba ne] at y;exact y
 .cases b with
  |head=>exact cq
  |tail _ b=>
   have ne:x.1≠d:=λz=>by have:=r x b;rw[z,cq] at this;cases this
   rw[ba ne];exact A.h x b
 .cases b with
  |head=>exact C
  |tail _ b=>exact A.f x b
 .rw[map_cons,nodup_cons];refine⟨λM=>?_,A.nd⟩;obtain⟨x,b,e⟩:=mem_map.mp M;have:=r x b;have e:x.1=d:=e;rw[e,cq] at this;cases this
 .cases b with
  |head=>exact l
  |tail _ b=>
   have ne:x.1≠d:=λz=>by have:=r x b;rw[z,cq] at this;cases this
   have:=r x b;rw[ba ne] at this;exact this
end
section
structure QP(X:Cx)(k:Md)(pos:Pos)(keys:List (Option Expr))(values:bH)(ps:List (aY×aY)):Prop where
 h:∃trs,p9 X pos keys values trs/\qi X.K k trs ps
theorem Tg:QP X k pos [] [] []:=⟨_,GP,MT⟩
theorem O9(l:QE X k a pa)(m:QE X k b pb)(h:QP X k pos ks vs ps):QP X k pos (some a::ks) (b::vs) ((pa,pb)::ps):=by
 obtain⟨n,d,e⟩:=l.h;obtain⟨tb,f,g⟩:=m.h;obtain⟨o,i,j⟩:=h.h;exact⟨_,Jy d f i,P6 e g j⟩
theorem Nq(h:QP X k pos keys values ps)(a:keys.all (·.isSome)=true:=by rfl)(g:keys.length=values.length:=by rfl)(f:keys≠[]:=by intro z;cases z)(b:keys.length<=15:=by decide)(hp:ps.length<=15:=by decide):QE X k (.Dict keys values pos) (xq ps):=by
 obtain⟨i,d,e⟩:=h.h;exact⟨_,QU d a g f b,IW e hp⟩
theorem Wc(K:ao)(hm:X.mg x=none)(d:QA X k (e::es) ps)(b:X.K=K:=by rfl)(f:Gl X x:=by rfl)(g:bootBuiltins x=some (.builtin "isinstance"):=by rfl)(hn:x≠"__name__":=by decide)(a:du x:=by decide)(he:dH e es X.env:=by rfl)(hpl:fk pos es X.env:=by rfl):
  QE X k (.Call (.Name x p) (e::es) [] pos) (pB (wW K) ps):=by
 subst b;exact fC II Rp hm d f g hn a he hpl
theorem cA(K:ao)(h:QE X k e pe)(a:X.K=K:=by rfl)(b:attributeBase e f X.env (eval e X.env)=eval e X.env:=by rfl):QE X k (.Attribute e f pos) (p1 (gO K f) pe):=by
 subst a;exact GO h b
end
mutual
def Cl:Tr->Bool
 |.aG a=>fg a
 |.ag .f a=>fg a
 |.aS .f a=>kF a
 |.ins .f _ a=>tP a
 |.ag _ _=>false
 |.aS _ _=>false
 |.ins _ _ _=>false
 |_=>true
def fg:List Tr->Bool
 |[]=>true |x::xs=>Cl x&&fg xs
def kF:List (aU×Tr)->Bool
 |[]=>true |(_,x)::xs=>Cl x&&kF xs
def tP:List (Str×Tr)->Bool
 |[]=>true |(_,x)::xs=>Cl x&&tP xs
end
structure Nj(t:Tr):Prop where
 l:aD t=t
 f:ay t=t
 d:dn t=t
 o:cE t=true
 t:bL t=true
structure N7(t:ah):Prop where
 l:cP t=t
 f:bp t=t
 d:cp t=t
 o:cy t=true
 t:cu t=true
structure Mz(t:bA):Prop where
 l:dJ t=t
 f:ee t=t
 d:gX t=t
 o:ig t=true
 t:g0 t=true
structure aig(t:bx):Prop where
 l:bZ t=t
 f:fx t=t
 d:iE t=t
 o:e9 t=true
 t:fw t=true
mutual
theorem lP:∀(t:Tr),Cl t=true->Nj t
 |.int _,_=>⟨rfl,rfl,rfl,rfl,rfl⟩
 |.bl _,_=>⟨rfl,rfl,rfl,rfl,rfl⟩
 |.str _,_=>⟨rfl,rfl,rfl,rfl,rfl⟩
 |.aL,_=>⟨rfl,rfl,rfl,rfl,rfl⟩
 |.aA,_=>⟨rfl,rfl,rfl,rfl,rfl⟩
 |.ty _,_=>⟨rfl,rfl,rfl,rfl,rfl⟩
 |.cl _,_=>⟨rfl,rfl,rfl,rfl,rfl⟩
 |.exc _,_=>⟨rfl,rfl,rfl,rfl,rfl⟩
 |.aG xs,h=>have c:=gx xs h;⟨by show Tr.aG (cP xs)=_;rw[c.l],by show Tr.aG (bp xs)=_;rw[c.f],by show Tr.aG (cp xs)=_;rw[c.d],c.o,c.t⟩
 |.ag .f xs,h=>have c:=gx xs h;⟨rfl,rfl,by show Tr.ag .f (cp xs)=_;rw[c.d],c.o,c.t⟩
 |.aS .f xs,h=>have c:=cU xs h;⟨rfl,rfl,by show Tr.aS .f (gX xs)=_;rw[c.d],c.o,c.t⟩
 |.ins .f a xs,h=>have c:=qX xs h;⟨rfl,rfl,by show Tr.ins .f a (iE xs)=_;rw[c.d],c.o,c.t⟩
theorem gx:∀(t:List Tr),fg t=true->N7 t
 |[],_=>⟨rfl,rfl,rfl,rfl,rfl⟩
 |x::xs,h=>by
  have h:(Cl x&&fg xs)=true:=h;rw[and_eq_true] at h;have a:=lP x h.1;have b:=gx xs h.2;exact⟨by show aD x::cP xs=_;rw[a.l,b.l],by show ay x::bp xs=_;rw[a.f,b.f],by show dn x::cp xs=_;rw[a.d,b.d],by show (cE x&&cy xs)=_;rw[a.o,b.o];rfl,by show (bL x&&cu xs)=_;rw[a.t,b.t];rfl⟩
theorem cU:∀(t:List (aU×Tr)),kF t=true->Mz t
 |[],_=>⟨rfl,rfl,rfl,rfl,rfl⟩
 |(k,x)::xs,h=>by
  have h:(Cl x&&kF xs)=true:=h;rw[and_eq_true] at h;have a:=lP x h.1;have b:=cU xs h.2;exact⟨by show (k,aD x)::dJ xs=_;rw[a.l,b.l],by show (k,ay x)::ee xs=_;rw[a.f,b.f],by show (k,dn x)::gX xs=_;rw[a.d,b.d],by show (cE x&&ig xs)=_;rw[a.o,b.o];rfl,by show (bL x&&g0 xs)=_;rw[a.t,b.t];rfl⟩
theorem qX:∀(t:List (Str×Tr)),tP t=true->aig t
 |[],_=>⟨rfl,rfl,rfl,rfl,rfl⟩
 |(k,x)::xs,h=>by
  have h:(Cl x&&tP xs)=true:=h;rw[and_eq_true] at h;have a:=lP x h.1;have b:=qX xs h.2;exact⟨by show (k,aD x)::bZ xs=_;rw[a.l,b.l],by show (k,ay x)::fx xs=_;rw[a.f,b.f],by show (k,dn x)::iE xs=_;rw[a.d,b.d],by show (cE x&&e9 xs)=_;rw[a.o,b.o];rfl,by show (bL x&&fw xs)=_;rw[a.t,b.t];rfl⟩
end
class ae(α:Type) where
 t:α->Tr
 c:∀a,Cl (t a)=true
 h:∀a,t a≠.aA
theorem lQ[ae j]:∀xs:List j,fg (xs.map ae.t)=true
 |[]=>rfl
 |x::xs=>by show (Cl (ae.t x)&&fg (xs.map ae.t))=true;rw[ae.c x,lQ xs];rfl
theorem j9[ae j]:∀xs:List (aU×j),kF (xs.map λp=>(p.1,ae.t p.2))=true
 |[]=>rfl
 |x::xs=>by show (Cl (ae.t x.2)&&kF (xs.map λp=>(p.1,ae.t p.2)))=true;rw[ae.c x.2,j9 xs];rfl
instance:ae Int:=⟨.int,λ_=>rfl,λ_ z=>by cases z⟩
instance:ae Str:=⟨.str,λ_=>rfl,λ_ z=>by cases z⟩
instance:ae Bool:=⟨.bl,λ_=>rfl,λ_ z=>by cases z⟩
instance:ae Rat:=⟨λq=>.aG [.int q.num,.int (q.den:Int)],λ_=>rfl,λ_ z=>by cases z⟩
instance {j:Type} [ae j]:ae (List j):=⟨λxs=>.ag .f (xs.map ae.t),λxs=>lQ xs,λ_ z=>by cases z⟩
instance {j i:Type} [ae j] [ae i]:ae (j ⊕ i):=⟨λx=>match x with |.inl a=>ae.t a |.inr b=>ae.t b,λx=>by cases x<;>exact ae.c _,λx=>by cases x<;>exact ae.h _⟩
instance {j i:Type} [ae j] [ae i]:ae (j×i):=⟨λx=>.aG [ae.t x.1,ae.t x.2],λx=>by show (Cl _&&(Cl _&&true))=true;rw[ae.c,ae.c];rfl,λ_ z=>by cases z⟩
section
variable{α β:Type}[ae α][ae β](a:α)(xs:List α)
@[simp] theorem U9(n:Int):ae.t n=.int n:=rfl
@[simp] theorem JV(n:Str):ae.t n=.str n:=rfl
@[simp] theorem Ww(n:Bool):ae.t n=.bl n:=rfl
theorem xi(q:Rat):ae.t q=.aG [.int q.num,.int (q.den:Int)]:=rfl
theorem fO:ae.t xs=.ag .f (xs.map ae.t):=rfl
theorem kA:aD (ae.t a)=ae.t a:=(lP _ (ae.c a)).l
theorem gm:ay (ae.t a)=ae.t a:=(lP _ (ae.c a)).f
theorem jm:dn (ae.t a)=ae.t a:=(lP _ (ae.c a)).d
theorem iB:cE (ae.t a)=true:=(lP _ (ae.c a)).o
theorem gF:bL (ae.t a)=true:=(lP _ (ae.c a)).t
theorem CM:cP (xs.map ae.t)=xs.map ae.t:=(gx _ (lQ xs)).l
theorem nA:bp (xs.map ae.t)=xs.map ae.t:=(gx _ (lQ xs)).f
theorem qU:cp (xs.map ae.t)=xs.map ae.t:=(gx _ (lQ xs)).d
theorem nj:cy (xs.map ae.t)=true:=(gx _ (lQ xs)).o
theorem f6:cu (xs.map ae.t)=true:=(gx _ (lQ xs)).t
end
class inductive Fp:Fl->Prop where
 |f:Fp .f
 |l:Fp (.l false)
instance:Fp .f:=.f
instance:Fp (.l false):=.l
section
variable{f:Fl}[h:Fp f]
theorem Kg:aD (.ag f xs)=.ag f xs:=by cases h<;>rfl
theorem K9:ay (.ag f xs)=.ag f xs:=by cases h<;>rfl
theorem VU:dn (.ag f xs)=.ag f (cp xs):=by cases h<;>rfl
theorem Wi{j:Type}[ae j]{xs:List j}:bL (.ag f (xs.map ae.t))=true:=by cases h<;>first |exact f6 xs |rfl
theorem CZ:aD (.aS f xs)=.aS f xs:=by cases h<;>rfl
theorem Ug:ay (.aS f xs)=.aS f xs:=by cases h<;>rfl
theorem Vp:dn (.aS f xs)=.aS f (gX xs):=by cases h<;>rfl
end
theorem lz:ay (.ag .o xs)=.ag .f (bp xs):=rfl
section
def nh(pa:b8):b8:=λj Q=>pa j λts=>Q (bp ts)
theorem VA(h:eJ K k ta pa):eJ K k ta (nh pa):=λF B H j i Q g c p q=>by
 refine h F B H j i _ _ c p λm vs f b l p1 e=>?_
 obtain⟨a,d,r2⟩:=e.held;exact q _ vs a b [] p1 ⟨d,r2,.nil,.nil⟩
theorem QA.ay(h:QA X k es pa):QA X k es (nh pa):=by
 obtain⟨d,a,b⟩:=h.h;exact⟨d,a,VA b⟩
end
theorem Hz(x:j)(xs:List j):cQ (x::xs) 0=some x:=by unfold cQ gZ;simp
theorem Ho(x y:j)(xs:List j):cQ (x::y::xs) 1=some y:=by unfold cQ gZ;rw[if_pos (by omega),if_pos (by simp only[length_cons];omega)];rfl
def cW(n:Nat)(g:ah->(av)->Prop):bO:=λa Q=>a.length=n/\g a λt=>∀j,Q t j
def SW:bO:=cW 2 λd Q=>∃a b,d=[.int a,.int b]/\0<=a/\0<=b/\Q (.int (gd a b))
def M4:bO:=cW 2 λd Q=>∃a b,d=[.int a,.int b]/\b≠0/\bi b<=7990/\Q (ae.t (Rat.divInt a b))
theorem vP(f:b≠0)(h:bi b<=k):bi (gd a b)<=k:=by
 refine dh ?_;have d:=jr h;have e:(gd a b).natAbs<=b.natAbs:=le_of_dvd (by omega) (Int.natAbs_dvd_natAbs.mpr (xv a b));omega
theorem ud(d:b≠0)(h:bi b<=7990):dN x (gd a b):=⟨by have:=lu (a:=a) d;omega,jr (le_trans (vP d h) (show 7990<=8000 by omega))⟩
theorem EW(d:b≠0)(h:bi b<=7990):dN x (-gd a b):=⟨by have:=lu (a:=a) d;omega,by rw[natAbs_neg];exact jr (le_trans (vP d h) (show 7990<=8000 by omega))⟩
def vn(f:Rat->Rat->Rat):bO:=cW 2 λd Q=>∃a b:Rat,d=[ae.t a,ae.t b]/\bs a+bs b<=7990/\Q (ae.t (f a b))
theorem c8(a:bi x<=n)(b:bi y<=m)(h:n+m<=60000000):j4 x y:=Ll (by omega) (by omega)
theorem w5(a b:Rat)(h:bs a+bs b<=7990):bi ((a.den:Int)*b.den)<=7990:=le_trans (de _ _) (by have:=fM a;have:=fM b;omega)
theorem sP[ae j][ae i](a:List j)(ns:List i):(a.map ae.t).zipWith (λx y=>Tr.aG [x,y]) (ns.map ae.t)=(a.zip ns).map λp=>Tr.aG [ae.t p.1,ae.t p.2]:=by
 rw[List.zipWith_map,List.zip_eq_zipWith,List.map_zipWith]
theorem RL[ae j](a:List j):(a.map ae.t).mapIdx (λi x=>Tr.aG [.int i,x])=a.zipIdx.map λp=>Tr.aG [.int p.2,ae.t p.1]:=by
 apply ext_getElem?;intro i;rw[List.getElem?_mapIdx,getElem?_map,getElem?_map,List.getElem?_zipIdx];cases a[i]?<;>simp
theorem GZ(a b:Rat):(a.num*(b.den:Int)<b.num*(a.den:Int))↔a<b:=by
 rw[Rat.lt_iff]
def GN:bO:=cW 2 λd Q=>∃a b:Rat,d=[ae.t a,ae.t b]/\bs a+bs b<=60000000/\Q (.bl (decide (a<b)))
theorem JY(t:Tr)(a:ah)(Q:av):pC t a Q=(Q t):=rfl
theorem O5(d:Tr->Tr->(av)->Prop)(a b:aY)(j:ah)(Q:av):p2 d a b j Q=(a j λx=>b j λy=>d x y Q):=rfl
theorem Jb(b:Tr->(av)->Prop)(a:aY)(j:ah)(Q:av):Pu.p1 b a j Q=(a j λx=>b x Q):=rfl
theorem V5:qm j' Q=(Q []):=rfl
theorem Nf:qe pe pa j Q=(pe j λx=>pa j λxs=>Q (x::xs)):=rfl
theorem N1:yx pa j Q=(pa j λxs=>xs.length<=10000/\Q (.aG xs)):=rfl
theorem My:xY pa j Q=(pa j λxs=>xs.length<=10000/\Q (.ag .o xs)):=rfl
theorem Sy(pe:aY)(j:ah)(Q:Bool->Prop):pT pe j Q=(pe j λx=>jN x Q):=rfl
theorem L3(a b:d6)(j:ah)(Q:Bool->Prop):xt a b j Q=(a j λc=>if c=true then b j Q else Q false):=rfl
theorem VD(a b:d6)(j:ah)(Q:Bool->Prop):xM a b j Q=(a j λc=>if c=true then Q true else b j Q):=rfl
theorem QJ(a:d6)(j:ah)(Q:Bool->Prop):yi a j Q=(a j λc=>Q (!c)):=rfl
theorem GI:wV pa pb j Q=(pa j λx=>jN x λc=>if c=true then pb j Q else Q (.bl false)):=rfl
theorem Om:x8 pa pb j Q=(pa j λx=>jN x λc=>if c=true then Q (.bl true) else pb j Q):=rfl
theorem Kl:ym pc pa pb j Q=(pc j λc=>if c=true then pa j Q else pb j Q):=rfl
theorem KR:pG p q D j=(p { D with nx:=q D } j):=rfl
theorem Nw:xP D j=(D.nx j):=rfl
theorem HN(i:Nat)(pe:aY)(D:Pd)(j:ah):vZ i pe D j=(pe (j.map aD) λt=>bL t=true/\D.nx (j.set i t)):=rfl
theorem HQ:uY pe D j=(pe (j.map aD) λ_=>D.nx j):=rfl
theorem Ud:uX pe D j=(pe (j.map aD) λt=>cE t=true/\D.rt t j):=rfl
theorem NB:oJ pc p q D j=(pc (j.map aD) λb=>if b=true then p D j else q D j):=rfl
theorem TV:sJ q aZ pa j Q=(pa j λa=>aZ (cp a) (λt _=>Q t) q):=rfl
theorem Iy:ux aZ pa j Q=(pa j λa=>aZ (cp a) λt _=>Q t):=rfl
theorem Wn(b:ah->(av)->Prop)(a:b8)(j:ah)(Q:av):pB b a j Q=(a j λd=>b d Q):=rfl
theorem RK:Dq D' j'=(False):=rfl
theorem Tj(i:Nat)(pe:aY)(D:Pd)(j:ah):lW i pe D j=(pe (j.map aD) λt=>bL t=true/\D.nx (j.set i (ay t))):=rfl
theorem LK(i:Nat)(t:Tr)(j:ah)(Q:aX):pU i t j Q=(Q (j.set i t)):=rfl
theorem GS:l8 ts j Q=(match ts with |[]=>Q j |_=>False):=rfl
theorem P7(pg:eT)(a:ah->ah->(aX)->Prop)(b:ah)(j:ah)(Q:aX):mw pg a b j Q=(match b with |t::r=>pg t j λd=>a r d Q |[]=>False):=rfl
theorem Lu(n:Nat)(a:ah->ah->(aX)->Prop)(t:Tr)(j:ah)(Q:aX):lV n a t j Q=(match t with |.aG b=>b.length=n/\a b j Q |_=>False):=rfl
theorem Jz:vu pe pg D j=(pe (j.map aD) λt=>bL t=true/\pg (ay t) j D.nx):=rfl
theorem H0(i j:Nat)(d:b8)(D:Pd)(G:ah):yW i j d D G=(d (G.map aD) λe=>match e with |[a,b]=>bL a=true/\bL b=true/\D.nx ((G.set i (ay a)).set j (ay b)) |_=>False):=rfl
theorem Pc(pe:aY)(j:ah)(Q:ah->Bool->Prop):vp pe j Q=(pe j λt=>gL (ay t) λxs=>Q xs (bL (ay t))):=rfl
theorem NC(a:b8)(j:ah)(Q:ah->Bool->Prop):wz a j Q=(a j λb=>l5 b λt=>gL (ay t) λxs=>Q (xs.mapIdx λi x=>.aG [.int i,x]) (bL (ay t))):=rfl
theorem OI(a:b8)(j:ah)(Q:ah->Bool->Prop):u6 a j Q=(a j λb=>lS b λt u=>gL (ay t) λxs=>gL (ay u) λys=>Q (xs.zipWith (λx y=>.aG [x,y]) ys) (bL (ay t)&&bL (ay u))):=rfl
theorem Tn(a:b8)(G:ah)(Q:ah->Bool->Prop):x9 a G Q=(a G λb=>uJ b λj=>-1000000<=j/\j<=1000000/\Q ((List.range j.toNat).map λ(i:Nat)=>.int i) true):=rfl
theorem NA(a:b8)(G:ah)(Q:ah->Bool->Prop):ya a G Q=(a G λb=>sO b λi j=>(-1000000<=i/\i<=1000000/\-1000000<=j/\j<=1000000)/\Q ((List.range (j - i).toNat).map λ(n:Nat)=>.int (i+n)) true):=rfl
theorem L7(K:ao)(i:Nat)(r:aj)(pe:aY)(D:Pd)(j:ah):yD K i r pe D j=(gS K j i r λu s=>adc u λxs=>pe (j.map aD) λt=>bL t=true/\xs.length<1000000/\D.nx (s (.ag .o (xs++[ay t])))):=rfl
theorem Hi(K:ao)(i:Nat)(r:aj)(b pe:aY)(D:Pd)(j:ah):yC K i r b pe D j=(pe (j.map aD) λt=>bL t=true/\gS K j i r λu s=>adc u λxs=>b (j.map aD) λy=>pE xs y (ay t) λa=>D.nx (s (.ag .o a))):=rfl
theorem GJ(K:ao)(i:Nat)(r:aj)(a pe:aY)(D:Pd)(j:ah):vz K i r a pe D j=(pe (j.map aD) λt=>bL t=true/\gS K j i r λu s=>pq u λm=>a (j.map aD) λy=>jz y λy=>m.length<1000000/\D.nx (s (.aS .o (iQ m y (ay t))))):=rfl
theorem MI:wJ j' Q=(Q (.aS .o [])):=rfl
theorem RW(K:ao)(i:Nat)(r:aj)(f:Str)(pe:aY)(D:Pd)(j:ah):yR K i r f pe D j=(pe (j.map aD) λt=>bL t=true/\gS K j i r λu s=>mU K f u λc fs=>D.nx (s (.ins .o c (adr f t fs)))):=rfl
theorem TR(a:ah)(Q:bI->Prop):vm a Q=(Q none):=rfl
theorem NP(pe:aY)(j:ah)(Q:bI->Prop):va pe j Q=(pe j λx=>match x with |.int i=>Q (some i) |_=>False):=rfl
theorem PY:yJ pe pl ph j Q=(pe j λx=>pl j λl=>ph j λh=>rW x l h Q):=rfl
theorem Rw:wm q C pe D' j=(pe (j.map aD) λ_=>q (.ref C)):=rfl
theorem GL(K:ao)(C:af)(b:aY->cg)(pe:(ai->Prop)->aY)(d:cg)(D:Pd)(j:ah):wt K C b pe d D j=(b (pe λa=>Di K C a/\d D j) D j):=rfl
theorem RT(a:List (aY×aY))(j:ah)(Q:av):xq a j Q=(uM a j λm=>(m.map (·.1)).Nodup/\Q (.aS .o m)):=rfl
theorem IA:nh pa j Q=(pa j λts=>Q (bp ts)):=rfl
theorem ER(n:Int):aD (.int n)=(.int n):=rfl
theorem Jq:aD (.bl n)=(.bl n):=rfl
theorem Tw:aD (.str n)=(.str n):=rfl
theorem G9:aD .aL=.aL:=rfl
theorem P1:aD .aA=.aA:=rfl
theorem DS(n:Int):Pu.ay (.int n)=(.int n):=rfl
theorem Ld:Pu.ay (.bl n)=(.bl n):=rfl
theorem O6:Pu.ay (.str n)=(.str n):=rfl
theorem Sk:Pu.ay .aL=.aL:=rfl
theorem DW(n:Int):dn (.int n)=(.int n):=rfl
theorem MW:dn (.bl n)=(.bl n):=rfl
theorem Hk:dn (.str n)=(.str n):=rfl
theorem Ta:dn .aL=.aL:=rfl
theorem FI(n:Int):cE (.int n)=true:=rfl
theorem Ke:cE (.bl n)=true:=rfl
theorem RU:cE (.str n)=true:=rfl
theorem Rm:cE .aL=true:=rfl
theorem Ff(n:Int):bL (.int n)=true:=rfl
theorem Mu:bL (.bl n)=true:=rfl
theorem VP:bL (.str n)=true:=rfl
theorem UI:bL .aL=true:=rfl
theorem UG:aD (.aG xs)=.aG (cP xs):=rfl
theorem V3:Pu.ay (.aG xs)=.aG (bp xs):=rfl
theorem T5:dn (.aG xs)=.aG (cp xs):=rfl
theorem Mw:cE (.aG xs)=cy xs:=rfl
theorem Ih:bL (.aG xs)=cu xs:=rfl
theorem Js:aD (.ag .o xs)=.ag (.l true) (cP xs):=rfl
theorem PX:Pu.ay (.ag .o xs)=.ag .f (bp xs):=rfl
theorem PF:dn (.ag (.l true) xs)=.ag (.l false) (cp xs):=rfl
theorem Oq:Pu.ay (.ag (.l b) xs)=.ag (.l b) xs:=rfl
theorem Ut:cE (.ag .o xs)=cy xs:=rfl
theorem PC:bL (.ag .o xs)=cu xs:=rfl
theorem HH:cE (.ag .f xs)=cy xs:=rfl
theorem Si(xs:bA):aD (.aS .o xs)=.aS (.l true) (dJ xs):=rfl
theorem Uq(xs:bA):Pu.ay (.aS .o xs)=.aS .f (ee xs):=rfl
theorem Qd(xs:bA):cE (.aS .o xs)=ig xs:=rfl
theorem U4(xs:bA):bL (.aS .o xs)=g0 xs:=rfl
def Loop(a:ah)(pg:eT)(d:cg)(D:Pd)(j:ah):Prop:=∃I:Nat->aX,I 0 j/\(∀i t j,a[i]?=some t->I i j->pg t j λb=>d { D with nx:=I (i+1),ct:=I (i+1),bk:=D.nx } b)/\∀j,I a.length j->D.nx j
theorem Ia:vN pi pg pb D j=(pi (j.map aD) λb a=>a=true/\Loop b pg pb D j):=rfl
theorem Loop.map(ys:List O)(g:O->Tr){pg:eT}(J:Nat->aX)(d:J 0 G)(step:∀i y G,ys[i]?=some y->J i G->pg (g y) G λb=>pb { D with nx:=J (i+1),ct:=J (i+1),bk:=D.nx } b)(a:∀G,J ys.length G->D.nx G):Loop (ys.map g) pg pb D G:=by
 refine⟨J,d,λi t G h j=>?_,λG h=>a G (by rw[length_map] at h;exact h)⟩;rw[getElem?_map] at h;cases e:ys[i]? with
 |none=>rw[e] at h;cases h
 |some y=>rw[e] at h;cases h;exact step i y G e j
def pV(o:Option Tr)(Q:av):Prop:=match o with |some .aA=>False |some t=>Q t |none=>False
theorem HZ(i:Nat)(j:ah)(Q:av):kz i j Q=pV j[i]? Q:=rfl
theorem Mn[ae j](a:j)(Q:av):pV (some (ae.t a)) Q=Q (ae.t a):=by
 have h:=ae.h a;generalize ae.t a=t at h;cases t with
 |aA=>exact absurd rfl h
 |_=>rfl
theorem Q3:pV (some (.int n)) Q=Q (.int n):=rfl
theorem Vd:pV (some (.bl n)) Q=Q (.bl n):=rfl
theorem Pa:pV (some (.str n)) Q=Q (.str n):=rfl
theorem K5:pV (some .aL) Q=Q .aL:=rfl
theorem SH:pV (some (.aG xs)) Q=Q (.aG xs):=rfl
theorem GQ:pV (some (.ag f xs)) Q=Q (.ag f xs):=rfl
theorem Kc(f:Fl)(xs:bA)(Q:av):pV (some (.aS f xs)) Q=Q (.aS f xs):=rfl
theorem Mt(f:Fl)(c:af)(xs:bx)(Q:av):pV (some (.ins f c xs)) Q=Q (.ins f c xs):=rfl
theorem A6(q:Rat)(Q:av):dw (ae.t q) (.int 0) Q=Q (.int q.num):=rfl
theorem Gx(q:Rat)(Q:av):dw (ae.t q) (.int 1) Q=Q (.int (q.den:Int)):=rfl
theorem L0:Tr.aG [.int 0,.int 1]=ae.t (0:Rat):=rfl
theorem UK:Tr.aG [.int 1,.int 1]=ae.t (1:Rat):=rfl
def bg(e:ah)(pg:eT)(pt:d6)(pe:aY)(f:ah)(Q:av):Prop:=∃I:Nat->aX,I 0 []/\
 (∀i t a,e[i]?=some t->I i a->pg t f λd=>pt d λb=>if b=true then pe d λx=>a.length<1000000/\I (i+1) (a++[x]) else I (i+1) a)/\∀a,I e.length a->a.length<=1000000/\Q (.ag .o a)
theorem Jr(a:ip)(pg:eT)(pt:d6)(pe:aY)(ix:bG)(j:ah)(Q:av):r6 a pg pt pe ix j Q=(a j λb _=>bg b pg pt pe (mz ix j) Q):=rfl
theorem bg.jE(ys:List j)(g:j->Tr)(h:j->Tr){pg:eT}{pe:aY}{Q:av}(d:ys.length<=1000000)(step:∀y∈ys,∀R:av,R (h y)->pg (g y) j' λf=>pe f R)(q:Q (.ag .o (ys.map h))):bg (ys.map g) pg ql pe j' Q:=by
 refine⟨λi b=>b=(ys.take i).map h,rfl,λi t b e a=>?_,λb a=>?_⟩
 .rw[getElem?_map] at e;cases e':ys[i]? with
  |none=>rw[e'] at e;cases e
  |some y=>
   rw[e'] at e;cases e;have l:=(List.getElem?_eq_some_iff.mp e').1;refine step y (mem_of_getElem? e') _ ⟨?_,?_⟩
   .rw[a,length_map,length_take];omega
   .show b++[h y]=(ys.take (i+1)).map h;rw[a,take_add_one,e',map_append];rfl
 .rw[length_map,take_length] at a;rw[a,length_map];exact⟨d,q⟩
theorem bg.map[ae j](ys:List i)(g:i->Tr)(h:i->j){pg:eT}{pe:aY}{Q:av}(a:ys.length<=1000000)(step:∀y∈ys,∀R:av,R (ae.t (h y))->pg (g y) j' λb=>pe b R)(q:Q (.ag .o ((ys.map h).map ae.t))):bg (ys.map g) pg ql pe j' Q:=
 bg.jE ys g (λy=>ae.t (h y)) a step (by rw[map_map] at q;exact q)
def fo{j:Type}[ae j](f:Fl)(m:List (Str×j)):Tr:=.aS f (m.map λp=>(Sum.inr p.1,ae.t p.2))
theorem Se[ae j](m:List (Str×j)):(m.map λp=>((Sum.inr p.1:aU),ae.t p.2))=(m.map λp=>((Sum.inr p.1:aU),p.2)).map λp=>(p.1,ae.t p.2):=by rw[map_map];rfl
theorem ON[ae j](m:List (Str×j)):Cl (fo .f m)=true:=by
 show kF (m.map λp=>((Sum.inr p.1:aU),ae.t p.2))=true;rw[Se];exact j9 _
theorem vW[ae j](m:List (Str×j))(x:Str):look (m.map λp=>((Sum.inr p.1:aU),ae.t p.2)) (Sum.inr x)=(b9 m x).map ae.t:=by
 unfold look b9
 induction m with
 |nil=>rfl
 |cons p m a=>
  rw[map_cons,find?_cons,find?_cons];by_cases h:p.1=x
  .rw[decide_eq_true (by rw[h]),decide_eq_true h];rfl
  .rw[decide_eq_false (λz=>h (Sum.inr.inj z)),decide_eq_false h];exact a
theorem L8[ae j](f:Fl)(m:List (Str×j))(x:Str)(d:j)(Q:av):uC (fo f m) (.str x) (ae.t d) Q=Q (ae.t ((b9 m x).getD d)):=by
 show Q ((look (m.map λp=>((Sum.inr p.1:aU),ae.t p.2)) (Sum.inr x)).getD (ae.t d))=_;rw[vW];cases b9 m x<;>rfl
def Fd(x:Tr):Prop:=match x with |.aS _ _=>True |_=>False
theorem Vv(e:Tr->Tr->Tr->(av)->Prop)(a b d:aY)(j:ah)(Q:av):p3 e a b d j Q=(a j λx=>Fd x/\b j λy=>d j λz=>e x y z Q):=rfl
theorem RV[ae j](f:Fl)(m:List (Str×j)):Fd (fo f m)=True:=rfl
def oQ(o:Option Tr)(Q:av):Prop:=match o with |some t=>Q t |none=>False
theorem zg(t:Tr)(Q:av):oQ (some t) Q=Q t:=rfl
section
theorem KJ:dw (.aG xs) (.int i) Q=oQ (cQ xs i) Q:=rfl
theorem gG:dw (.ag f xs) (.int i) Q=oQ (cQ xs i) Q:=rfl
theorem Ny(C:Int->Int->Prop)(t:Int->Int->Tr):act C t (.int i) (.int j) Q=(C i j/\Q (t i j)):=rfl
theorem Tu:n5 (.int i) (.int j) Q=Q (.int (i+j)):=rfl
theorem yu:n5 (.ag f xs) (.ag g ys) Q=(xs.length+ys.length<=1000000/\Q (.ag .o (xs++ys))):=rfl
theorem Vg:qp (.int i) (.int j) Q=(j4 i j/\Q (.int (i*j))):=rfl
theorem w_lt:rg (.int i) (.int j) Q=Q (.bl (decide (i<j))):=rfl
theorem Vf:rn (.int i) (.int j) Q=Q (.bl (decide (j<i))):=rfl
theorem MF:sk (.int i) Q=Q (.int (-i)):=rfl
theorem Rz:yK [.int i] Q=Q (.int (if i<0 then -i else i)):=rfl
theorem FZ(R:Bool->Prop):jN (.bl b) R=R b:=rfl
theorem RP:iD false (.int i) (.int j) Q=Q (.bl (decide (i=j))):=rfl
theorem Lw:iD false (.str x) (.str y) Q=Q (.bl (decide (x=y))):=rfl
theorem JT:iD true (.int i) (.int j) Q=Q (.bl (!decide (i=j))):=rfl
theorem UB:iD true (.str x) (.str y) Q=Q (.bl (!decide (x=y))):=rfl
theorem UU(k:Bool):ou k [.ag f xs] Q=Q (.int xs.length):=rfl
theorem V8(k:Bool):ou k [.aG xs] Q=Q (.int xs.length):=rfl
theorem Wj:nO [.ag f xs] Q=Q (.ag .o xs):=rfl
theorem jn(R:aX):gL (.ag f xs) R=R xs:=rfl
theorem Q4(t:Tr):l5 [t] Q=Q t:=rfl
theorem TC(t u:Tr)(R:Tr->av):lS [t,u] R=R t u:=rfl
theorem Ic(R:Int->Prop):uJ [.int i] R=R i:=rfl
theorem Rj(R:Int->Int->Prop):sO [.int i,.int j] R=R i j:=rfl
end
abbrev bV:=List (Str×Rat)×Str×Rat×Int×Int
abbrev ax:=List bV
instance (priority:=high) rowEnc:ae bV:=⟨λr=>.aG [fo .f r.1,.str r.2.1,ae.t r.2.2.1,.int r.2.2.2.1,.int r.2.2.2.2],λr=>by show (Cl (fo .f r.1)&&_)=true;rw[ON];rfl,λ_ z=>by cases z⟩
theorem Ki(r:bV)(Q:av):dw (ae.t r) (.int 0) Q=Q (fo .f r.1):=rfl
theorem Ws(r:bV)(Q:av):dw (ae.t r) (.int 1) Q=Q (.str r.2.1):=rfl
theorem SO(r:bV)(Q:av):dw (ae.t r) (.int 2) Q=Q (ae.t r.2.2.1):=rfl
theorem Og(r:bV)(Q:av):dw (ae.t r) (.int 3) Q=Q (.int r.2.2.2.1):=rfl
theorem Jd(r:bV)(Q:av):dw (ae.t r) (.int 4) Q=Q (.int r.2.2.2.2):=rfl
section
def qS(o:Option Tr)(R:av):Prop:=match o with |some .aA=>False |some t=>R t |none=>False
theorem MU(j:ah)(i:Nat)(Q:Tr->(Tr->ah)->Prop):gS K j i [] Q=qS j[i]? λt=>Q t λu=>j.set i u:=by
 unfold gS qS;cases j[i]? with
 |none=>rfl
 |some t=>cases t <;> first |rfl |exact propext ⟨λh=>h.2,λh=>⟨trivial,h⟩⟩
theorem JM(f:Fl)(xs:ah)(R:av):qS (some (.ag f xs)) R=R (.ag f xs):=rfl
theorem Lq(f:Fl)(xs:bA)(R:av):qS (some (.aS f xs)) R=R (.aS f xs):=rfl
theorem Hw:adc (.ag .o xs) Q=Q xs:=rfl
theorem QC(xs:bA)(Q:bA->Prop):pq (.aS .o xs) Q=Q xs:=rfl
end
section
variable{α:Type}[ae α]
theorem Ew(xs:List α)(a:α):xs.map ae.t++[ae.t a]=(xs++[a]).map ae.t:=by rw[map_append];rfl
theorem Ii(xs:aH)(a:Int):xs.map ae.t++[Tr.int a]=(xs++[a]).map ae.t:=Ew xs a
theorem gB(xs:List α)(i:Int):cQ (xs.map ae.t) i=(cQ xs i).map ae.t:=by
 unfold cQ;rw[length_map];cases gZ xs.length i with
 |none=>rfl
 |some n=>exact getElem?_map ..
theorem su(xs:List j)(a:0<=i)(h:i.toNat<xs.length):cQ xs i=some (xs[i.toNat]'h):=by
 unfold cQ gZ;rw[if_pos a,if_pos (by omega)];exact getElem?_eq_getElem h
theorem dQ[ae j](o:Option j)(Q:av)(x:j)(h:o=some x)(q:Q (ae.t x)):oQ (o.map ae.t) Q:=by rw[h];exact q
theorem NH(xs:List α)(l h:bI):g6 (xs.map ae.t) l h=(g6 xs l h).map ae.t:=by
 unfold g6;rw[length_map,List.map_take,List.map_drop]
theorem yg(f:Fl)(xs:ah)(l h:bI)(Q:av):rW (.ag f xs) l h Q=Q (.ag .o (g6 xs l h)):=rfl
end
theorem zj{p:cg}(J:aX)(a:∀N:aX,(∀j,J j->N j)->p { D with nx:=N } j)(b:∀j,J j->D.nx j):p D j:=a D.nx b
section
theorem bc.aA{i:Nat}(W:bc K k lo us Fb Hb F H G J cs):bc K k lo us Fb Hb F H G (J.set i .aA) (λj=>if j=i then [] else cs j) where
 g:=W.g
 z:=W.z
 l:=by rw[length_set];exact W.l
 e:=λj u h=>by
  by_cases e:j=i
  .subst e;have r:j<J.length:=by have:=(List.getElem?_eq_some_iff.mp h).1;rw[length_set] at this;exact this
   rw[getElem?_set_self r] at h;cases h;exact .inl rfl
  .rw[getElem?_set_ne (λz=>e z.symm)] at h;rw[if_neg e];exact W.e j u h
 c:=λj=>by
  split
  .exact .nil
  .exact W.c j
 n:=λj=>by
  split
  .exact .nil
  .exact W.n j
 d:=λa b ne p f q m=>by
  by_cases o:a=i
  .rw[if_pos o] at f;cases f
  .rw[if_neg o] at f;by_cases eb:b=i
   .rw[if_pos eb] at m;cases m
   .rw[if_neg eb] at m;exact W.d a b ne p f q m
 p:=W.p
 x:=W.x
theorem bc.fz{i:Nat}(W:bc K k lo us Fb Hb F H G J cs)(ht:J[i]?=some t)(hn:t≠.aA):∃m,bc K k lo us Fb Hb m H G (J.set i (Pu.ay t)) (λj=>if j=i then [] else cs j):=by
 rcases W.e i t ht with rfl |⟨v,w,r⟩
 .exact absurd rfl hn
 obtain⟨o,a,s,e⟩:=(W.aA (i:=i)).lay (W.c i) (W.n i) (r.plain t) (λj p f q A=>by
  by_cases b:j=i
  .rw[if_pos b] at f;cases f
  .rw[if_neg b] at f;exact W.d j i b p f q A)
 refine⟨o,⟨a.g,a.z,by rw[length_set];exact W.l,λj u h=>?_,a.c,a.n,a.d,a.p,a.x⟩⟩;by_cases b:j=i
 .subst b;have y:j<J.length:=by have:=(List.getElem?_eq_some_iff.mp h).1;rw[length_set] at this;exact this
  rw[getElem?_set_self y] at h;cases h;exact .inr ⟨v,w,by rw[if_pos rfl];exact r.ay (Le.of s) t e⟩
 .exact a.e j u (by rw[getElem?_set_ne (λz=>b z.symm)] at h ⊢;exact h)
def tu(i:Nat)(p:cg):cg:=λD j=>pV j[i]? λt=>p D (j.set i (Pu.ay t))
theorem Ur(h:cS K k lo ts p):cS K k lo ts (tu i p):=λus d f F H j G l D a W q L=>by
 unfold tu pV at q;split at q
 .exact q.elim
 .rename_i t hn e;obtain⟨b,g⟩:=W.fz e (λz=>hn (by rw[z]));exact h us d f b H j _ _ D a g q L
 .exact q.elim
theorem uQ(i:Nat)(h:QB X k lo sts p):QB X k lo sts (tu i p):=by
 obtain⟨d,a,b⟩:=h.h;exact⟨d,a,Ur b⟩
theorem Ss(i:Nat)(p:cg)(D:Pd)(j:ah):tu i p D j=(pV j[i]? λt=>p D (j.set i (Pu.ay t))):=rfl
end
def Lh(w:Wm)(m:bA)(pg:eT)(b:cg)(D:Pd)(j:ah):Prop:=∃I:Nat->aX,I 0 j/\(∀i p j,m[i]?=some p->I i j->pg (wit w p) j λa=>b { D with nx:=I (i+1),ct:=I (i+1),bk:=D.nx } a)/\∀j,I m.length j->D.nx j
theorem Rx(w:Wm)(pe:aY)(pg:eT)(a:cg)(D:Pd)(j:ah):xm w pe pg a D j=(pe (j.map aD) λt=>bL t=true/\uy (Pu.ay t) λm=>Lh w m pg a D j):=rfl
section
variable{α:Type}[ae α](m:List (Str×α)){f:Fl}
theorem SS[h:Fp f]:aD (fo f m)=fo f m:=CZ
theorem Pt:pV (some (fo f m)) Q=Q (fo f m):=rfl
theorem FA(x:Str)(Q:av):dw (fo f m) (.str x) Q=oQ ((b9 m x).map ae.t) Q:=by
 show (match look (m.map λp=>((Sum.inr p.1:aU),ae.t p.2)) (Sum.inr x) with |some t=>Q t |none=>False)=_;rw[vW];cases b9 m x<;>rfl
theorem OR(x:Str)(Q:av):mH false (.str x) (fo f m) Q=Q (.bl (b9 m x).isSome):=by
 show Q (.bl (look (m.map λp=>((Sum.inr p.1:aU),ae.t p.2)) (Sum.inr x)).isSome)=_;rw[vW,isSome_map]
end
theorem bg.filter[ae j](ys:List G)(g:G->Tr)(p:G->Bool)(h:G->j){pg:eT}{pt:d6}{Q:av}(r:ys.length<=1000000)(step:∀y∈ys,∀(A:Prop)(R:av),(p y=true->R (ae.t (h y)))->(p y=false->A)->pg (g y) j' λm=>pt m λb=>if b=true then pe m R else A)(q:Q (.ag .o (((ys.filter p).map h).map ae.t))):bg (ys.map g) pg pt pe j' Q:=by
 refine⟨λi d=>d=(((ys.take i).filter p).map h).map ae.t,rfl,λi t d e a=>?_,λd a=>?_⟩
 .rw[getElem?_map] at e;cases e':ys[i]? with
  |none=>rw[e'] at e;cases e
  |some y=>
   rw[e'] at e;cases e;have l:=(List.getElem?_eq_some_iff.mp e').1;have n:ys.take (i+1)=ys.take i++[y]:=by rw[take_add_one,e'];rfl
   refine step y (mem_of_getElem? e') _ _ (λf=>⟨?_,?_⟩) (λf=>?_)
   .rw[a,length_map,length_map];have:=length_filter_le p (ys.take i);rw[length_take] at this;omega
   .show d++[ae.t (h y)]=(((ys.take (i+1)).filter p).map h).map ae.t;rw[n,List.filter_append,a,List.filter_cons_of_pos f,map_append,map_append];rfl
   .show d=(((ys.take (i+1)).filter p).map h).map ae.t;rw[n,List.filter_append,a,List.filter_cons_of_neg (by rw[f];decide),List.filter_nil,append_nil]
 .rw[length_map,take_length] at a;rw[a,length_map,length_map];exact⟨le_trans (length_filter_le p ys) r,q⟩
section
variable{α:Type}[ae α](m:List (Str×α))(f:Fl)
theorem HR(x:Str):((m.map λp=>((Sum.inr p.1:aU),ae.t p.2)).any λb=>decide (b.1=Sum.inr x))=m.any λp=>decide (p.1=x):=by
 induction m with
 |nil=>rfl
 |cons p m a=>
  rw[map_cons,any_cons,any_cons,a,decide_eq_decide.mpr (show (Sum.inr p.1:aU)=Sum.inr x↔p.1=x from ⟨λh=>Sum.inr.inj h,λh=>by rw[h]⟩)]
theorem Ks(x:Str)(a:α):iQ (m.map λp=>((Sum.inr p.1:aU),ae.t p.2)) (Sum.inr x) (ae.t a)=(qL m x a).map λp=>((Sum.inr p.1:aU),ae.t p.2):=by
 unfold iQ qL;rw[HR];split
 .rw[map_map,map_map];refine map_congr_left λp _=>?_
  show (if (Sum.inr p.1:aU)=Sum.inr x then _ else _)=_;by_cases h:p.1=x
  .rw[if_pos (by rw[h])];show _=((Sum.inr (if p.1=x then (p.1,a) else p).1:aU),ae.t (if p.1=x then (p.1,a) else p).2);rw[if_pos h]
  .rw[if_neg (λz=>h (Sum.inr.inj z))];show _=((Sum.inr (if p.1=x then (p.1,a) else p).1:aU),ae.t (if p.1=x then (p.1,a) else p).2);rw[if_neg h]
 .rw[map_append];rfl
theorem T6(x:Str)(Q:aU->Prop):jz (.str x) Q=Q (Sum.inr x):=rfl
theorem Rh(x:Int)(Q:aU->Prop):jz (.int x) Q=Q (Sum.inl x):=rfl
end
mutual
def Gp:Tr->Tr->Bool
 |.int a,.int b=>decide (a=b)
 |.str a,.str b=>decide (a=b)
 |.bl a,.bl b=>decide (a=b)
 |.aL,.aL=>true
 |.aG xs,.aG ys=>mJ xs ys
 |.ag _ xs,.ag _ ys=>mJ xs ys
 |_,_=>false
def mJ:List Tr->List Tr->Bool
 |[],[]=>true
 |x::xs,y::ys=>Gp x y&&mJ xs ys
 |_,_=>false
end
def EA:bA->bA->Bool
 |[],[]=>true
 |x::xs,y::ys=>decide (x.1=y.1)&&(Gp x.2 y.2&&EA xs ys)
 |_,_=>false
def FE:bA->Nat
 |[]=>0
 |x::xs=>max (dep x.2) (FE xs)
mutual
def Ro:Tr->Tr->Bool
 |.int a,.int b=>decide (a=b)
 |.str a,.str b=>decide (a=b)
 |.bl a,.bl b=>decide (a=b)
 |.aL,.aL=>true
 |.aG xs,.aG ys=>mV xs ys
 |.ag _ xs,.ag _ ys=>mV xs ys
 |.aS _ xs,.aS _ ys=>EA xs ys
 |_,_=>false
def mV:List Tr->List Tr->Bool
 |[],[]=>true
 |x::xs,y::ys=>Ro x y&&mV xs ys
 |_,_=>false
end
mutual
def NF:Tr->Nat
 |.aG a=>jk a + 1
 |.ag _ a=>jk a + 1
 |.aS _ a=>FE a + 1
 |_=>0
def jk:List Tr->Nat
 |[]=>0
 |x::xs=>max (NF x) (jk xs)
end
def ic(b a:Str):Bool:=!(Builtin.Str.occurrences b a 0 b.length 1).isEmpty
theorem Hf(hm:X.mg x=none)(a:Gl X x:=by rfl)(b:bootBuiltins x=some (.type n):=by rfl)(hn:x≠"__name__":=by decide)(hd:du x:=by decide):QE X k (.Name x pos) (pC (.ty n)):=⟨_,Vz (v:=.ty n) a hm b rfl hn hd,oA λ_ _=>⟨rfl,rfl⟩⟩
end Pu
namespace L2
open PySem PySem.Spec PyProof.Rows
abbrev pw(X:Cx)(o:Expr)(m:Str)(b:bH)(a pos:Pos)(pl:Sem Bool):Prop:=eval (.Call (.Attribute o m a) b [] pos) X.env=(do
   let ov <- eval o X.env
   standAt a.atName
   let (f,first) <- holding [ov] (getMethod ov m pl)
   callWith pos f first (backTo pos (starEach b X.env)) (backToKw pos (keywordEach [] X.env)))
def o9(D:af->Nat->Prop)(m:Str)(sp:Nat->Sp)(R:St->XK)(f:TE)(t:TA):TE:=λj H Q=>f j H λx b=>∃a C e fs g,x=.ref a/\Rd b a (.ins C e fs)/\D C g/\fs.lookup m=none/\t j b λvs d=>sp g (x::vs) d Q (R j)
section
theorem Ac(he:PE X o ta)(B:∀C g,D C g->fv X.prog X.w X.K X.mg X.base CX k m C ps (sp g))(J:bw k X.A)(L:∀j,iZ CX X j (R j))(E:PA X (e::es) t)(n:dH e es X.env:=by rfl)(hpl:fk pos es X.env:=by rfl)(ht:pw X o m (e::es) apos pos pl:=by rfl):
  PE X (.Call (.Attribute o m apos) (e::es) [] pos) (o9 D m sp R ta t):=by
 intro aa s j H Q I h;refine W.methodCall_KW (pl:=pl) (bh (he aa s j H _ I h) λu s1 b=>?_) ht;obtain⟨x,y,i,Y,a,C,dx,fs,g,ex,z,d,l,q⟩:=b;subst ex;obtain rfl:u=Value.ref a:=Y;obtain⟨c,f,fd,hm,F,G⟩:=B C g d;obtain⟨M,O,r⟩:=wL i.aN z;have hn:M m=none:=cG.none_of (by rw[<- l];exact r m);refine DB i.cJ O (c.get m) hm.at_ hm.fn hn ?_;refine W.callWith_K (first:=[.ref a]) (h₀:=X.base) I.ok.mod.ky hm.kp (bh (E pos aa s1 j y _ i q) λus s2 b=>?_) n hpl;obtain⟨vs,H2,p,U,N⟩:=b;refine⟨p.cJ,?_⟩;exact vr (us:=.ref a::us) (vs:=.ref a::vs) F J G .nil (L j) p (.cons rfl U) (by rw[append_nil];exact N)
theorem Pn(he:PE X o ta)(n:∀C g,D C g->fv X.prog X.w X.K X.mg X.base CX k m C ps (sp g))(y:bw k X.A)(z:∀j,iZ CX X j (R j))(ht:pw X o m [] apos pos pl:=by rfl):
  PE X (.Call (.Attribute o m apos) [] [] pos) (o9 D m sp R ta iU):=by
 intro aa s j H Q I h;refine W.methodCall_KW (pl:=pl) (bh (he aa s j H _ I h) λu M e=>?_) ht;obtain⟨x,G,b,E,a,C,J,fs,g,ex,i,d,l,q⟩:=e;subst ex;obtain rfl:u=Value.ref a:=E;obtain⟨c,f,L,hm,F,p⟩:=n C g d;obtain⟨B,O,r⟩:=wL b.aN i;have hn:B m=none:=cG.none_of (by rw[<- l];exact r m);refine DB b.cJ O (c.get m) hm.at_ hm.fn hn ?_;exact W.callWith_K0 (first:=[.ref a]) b.cJ hm.kp (vr (us:=[.ref a]) (vs:=[.ref a]) F y p .nil (z j) b (.cons rfl .nil) (by rw[append_nil];exact q))
theorem rQ(h:l7 CX X E):∀j,iZ CX X j E:=λj aa H s e a I c=>h aa j H s e a I c
end
end L2
namespace Pu
open PySem L2 Vc Sf
section
theorem CK:∀(a:ah)(i:Nat),(cp a)[i]?=a[i]?.map dn
 |[],_=>rfl
 |_::_,0=>rfl
 |_::xs,i + 1=>CK xs i
theorem vG{aZ:fN}{E:XK}{q':ai->Prop}{w:Tr->aX}{Q:VK}(hk:z=true->Fz S0 F)(hn:(cp ts).length=n)(A:∀k,aC (B k) H)(b:eH K F B H F1 H1 ts vs c1)(U:∀j f d,q' j->Gr F H f d->E j none d)(p1:aZ (cp ts) w q')(x:∀f d y g' l v t c,Gr F H f d->(∀c,cY (cN (c1.map (·.1)) H1) c->cY H c)->bc K ⟨z,λ_=>E,q'⟩ lo vs F1 (cN (c1.map (·.1)) H1) f d y g' l->R K f (λ_=>cN (c1.map (·.1)) H1) t v c->ar f d c->cY H c->(∀i,∀p∈l i,∀q∈c,p.1≠q.1)->cE t=true->w t g'->Q v d):ib K z lo n aZ vs H1 Q E:=by
 obtain⟨O,G,I,J,L⟩:=b.r.split b.c;have hl:vs.length=n:=by rw[b.r.length,<- hn,lH]
 have Y:∀k,aC (B k) (cN (c1.map (·.1)) H1):=λk a o e=>oh (rP b.n (A k a o e)) (b.g.h _ _ (A k a o e))
 have D:∀c,cY (cN (c1.map (·.1)) H1) c->cY H c:=λc n p m=>by
  have z:=n p m;by_cases C:p.1∈c1.map (·.1)
  .obtain⟨q,mq,e⟩:=mem_map.mp C;have e:q.1=p.1:=e;rw[<- e];exact b.n q mq
  .unfold cN at z;rw[if_neg C] at z;exact b.g.h.free z
 refine⟨hl,F1,cN (c1.map (·.1)) H1,cp ts,O,_,q',⟨⟨u9 b.g.s,Fz.refl F1⟩,λh=>b.g.fz (hk h),by rw[length_map,lH,b.r.length],?_,J,λi p m=>yL (I i p m),L,λi _=>by rw[getElem?_map],λj _ f d h g=>U j f d h (b.g.cN b.n g)⟩,p1,?_⟩
 .intro i t h;rw[CK] at h;cases z:ts[i]? with
  |none=>rw[z] at h;cases h
  |some u=>
   rw[z] at h;cases h;obtain⟨v,M,N⟩:=G i u z;exact .inr ⟨v,by rw[getElem?_map,M];rfl,N.dn (λk=>Le.of (Y k)) u⟩
 .intro f d y g' l v t c' W r hc n dj nl qt;exact x f d y g' l v t c' (b.g.cN b.n W.g) D W r hc (D _ n) dj nl qt
theorem Tb{aZ:fN}{E:XK}{q':ai->Prop}{e:av}{Q:VK}(j:z=true->Fz S0 F)(hn:(cp ts).length=n)(f:∀k,aC (B k) H)(m:eH K F B H F1 H1 ts vs c1)(h:∀d b a,q' d->Gr F H b a->E d none a)(p1:aZ (cp ts) (λt _=>e t) q')(q:∀t v b a cs,e t->Out K F B H b a t v cs->Q v a):ib K z 0 n aZ vs H1 Q E:=
 vG j hn f m h p1 λb a _ _ _ v t c g _ _ r i n _ l o=>q t v b a c o ⟨g,r.base t l,i,n⟩
theorem eH.cons{b f:Hp}{t:Tr}{v:V}{c:Cs}{i:ah}{vs:aw}{d:Cs}(o:Out K F B H F1 H1 t v c)(a:eH K F1 B H1 b f i vs d):eH K F B H b f (t::i) (v::vs) (c++d) where
 g:=o.g.trans' a.g
 r:=⟨v,vs,c,d,rfl,rfl,o.r.mo a.g.le (λ_=>Le.refl _) t,a.r⟩
 c:=(o.c.gr a.g).app a.c λp j q l e=>by
  have:=o.c.h p j;rw[e,a.n q l] at this;cases this
 n:=λp m=>(mem_append.mp m).elim (o.n p) λm=>o.g.h.free (a.n p m)
def hW(D:af->Nat->Prop)(m:Str)(x:Tr)(Q:Nat->Prop):Prop:=match x with |.ins _ c fs=>∃g,D c g/\fs.lookup m=none/\Q g |_=>False
theorem Gh{D:af->Nat->Prop}{Q:Nat->Prop}(h:hW D m x Q):∃f c fs g,x=.ins f c fs/\D c g/\fs.lookup m=none/\Q g:=by
 unfold hW at h;split at h
 .obtain⟨g,h⟩:=h;exact⟨_,_,_,g,rfl,h⟩
 .exact h.elim
def Jv(q:ai->Prop)(D:af->Nat->Prop)(m:Str)(aZ:Nat->fN)(po:aY)(a:b8):aY:=λj Q=>po j λx=>hW D m x λc=>a j λb=>aZ c (cp (x::b)) (λt _=>Q t) q
def uF(D:af->Nat->Prop)(m:Str)(aZ:Nat->bO)(po:aY)(a:b8):aY:=λj Q=>po j λx=>hW D m x λc=>a j λb=>aZ c (cp (x::b)) (λt _=>Q t)
theorem Rf.none_of:∀{fs:bx}{vs:List (Str×V)}{a:Cs}{f:Str},Rf K F B fs vs a->fs.lookup f=none->vs.lookup f=none
 |[],_,_,_,y,_=>by obtain⟨h,_⟩:=y;rw[h];rfl
 |(g,y)::fs,_,_,f,y0,h=>by
  obtain⟨v,r,c,d,b,j,l,i⟩:=y0;rw[b];rw[lookup_cons] at h ⊢;cases e:f == g with
  |true=>rw[e] at h;cases h
  |false=>rw[e] at h;exact Rf.none_of i h
theorem V4{aZ:Nat->fN}{R':St->XK}{q':ai->Prop}(I:∀(F:Hp)(B:Bool->Hp)(H:Hp)(j:St)(i:ah),gE K k F B H j i->∀d o l,q' d->Gr F H o l->R' j d none l)(L:z=true->k.z=true)(hn:∀C xs Q q,aZ C xs Q q->xs.length=n)(h:bC K k te po)(J:eJ K k ta pa):bC K k (o9 D m (λC=>ib K z 0 n (aZ C)) R' te ta) (Jv q' D m aZ po pa):=λF B H j i Q Q' c p q=>by
 refine h F B H j i _ _ c p λx v u w c1 p1 e=>?_
 obtain⟨f,C,fs,g,rfl,G,M,p1⟩:=Gh p1;obtain⟨a,y,vs,ds,rfl,A,E,_⟩:=e.r.l0 e.g.s (λk=>(c.b k).trans e.g.h) e.c;refine⟨a,C,y,vs,g,rfl,A,G,E.none_of M,J u B w j i _ _ (c.gr e.g) p1 λts us U Y c2 p2 O=>?_⟩;exact Tb (λh=>c.z (L h)) (hn _ _ _ _ p2) c.b (eH.cons e O) (λd o l N g=>I F B H j i c d o l N g) p2 q
theorem DI{aZ:Nat->bO}(b:z=true->k.z=true)(hn:∀C xs Q,aZ C xs Q->xs.length=n)(h:bC K k te po)(a:eJ K k ta pa):bC K k (o9 D m (λC=>bP K z 0 n (aZ C)) (λ_=>E) te ta) (uF D m aZ po pa):=
 V4 (R':=λ_=>E) (q':=λ_=>False) (aZ:=λC xs Q _=>aZ C xs Q) (λ_ _ _ _ _ _ _ _ _ h=>h.elim) b (λC xs Q _=>hn C xs Q) h a
def nU(o:Option Tr)(Q:av):Prop:=match o with |some (.ins f c fs)=>cE (.ins f c fs)=true/\Q (.ins f c fs) |_=>False
theorem Hr{Q:av}(h:nU o Q):∃f c fs,o=some (.ins f c fs)/\cE (.ins f c fs)=true/\Q (.ins f c fs):=by
 unfold nU at h;split at h
 .exact⟨_,_,_,rfl,h⟩
 .exact h.elim
def Qx(q:ai->Prop)(C:af)(aZ:fN)(b:b8):aY:=λj Q=>b j λd=>aZ (cp (.ins .o C []::d)) (λt a=>t=.aL/\nU a[0]? Q) q
def vL(C:af)(aZ:bO)(b:b8):aY:=λj Q=>b j λd=>aZ (cp (.ins .o C []::d)) λt a=>t=.aL/\nU a[0]? Q
theorem Kz(a:eH K F B H F1 H1 ts vs c1)(f:H1 x=none)(hd:H1 dx=none)(ne:dx≠x):∃b,eH K F B H b (aQ (aQ H1 dx (.own x)) x (.ins C dx [])) (.ins .o C []::ts) (.ref x::vs) ((x,.ins C dx [])::c1):=by
 obtain⟨b,e,_⟩:=Bh (o:=.own x) a.g.s (by intro _ _ z;cases z) hd;have d:aQ H1 dx (.own x) x=none:=by rw[ba (Ne.symm ne)];exact f
 have i:Gr b (aQ H1 dx (.own x)) b (aQ (aQ H1 dx (.own x)) x (.ins C dx [])):=Gr.gY e.s d;have g:=e.trans' i;refine⟨b,a.g.trans' g,⟨.ref x,vs,[(x,.ins C dx [])],c1,rfl,rfl,⟨x,dx,[],[],rfl,rfl,rfl,rfl⟩,a.r.mo g.le (λ_=>Le.refl _) ts⟩,tW e.s (a.c.gr e) d,λp m=>?_⟩;cases m with
 |head=>exact a.g.h.free f
 |tail _ m=>exact a.n p m
theorem JP{aZ:fN}{R':St->XK}{q':ai->Prop}(E:∀(F:Hp)(B:Bool->Hp)(H:Hp)(j:St)(i:ah),gE K k F B H j i->∀a l d,q' a->Gr F H l d->R' j a none d)(I:z=true->k.z=true)(hn:∀xs Q q,aZ xs Q q->xs.length=n)(G:eJ K k ta pa):bC K k (vS C (ib K z 1 n aZ) [] R' ta) (Qx q' C aZ pa):=λF B H j i Q Q' c p q=>by
 refine G F B H j i _ _ c p λts vs U H1 c1 p1 N x dx L hd ne=>?_
 rw[append_nil];obtain⟨Y,O⟩:=Kz (C:=C) N L hd ne;refine vG (λh=>c.z (I h)) (hn _ _ _ p1) c.b O (λa l d J g=>E F B H j i c a l d J g) p1 λl d j' i' m v t c' g M W r hc n dj nl o=>?_
 obtain⟨rfl,o⟩:=o;obtain⟨f,c,fs,s,w,y⟩:=Hr o;refine⟨r.1,?_⟩;rcases W.e 0 _ s with z |⟨u,A,D⟩
 .cases z
 .have:=W.p 0 Nat.zero_lt_one;rw[A] at this;cases this;exact q _ _ l d (m 0) y ⟨g,D.base _ w,W.c 0,M _ (W.n 0)⟩
theorem Mg{aZ:bO}(b:z=true->k.z=true)(hn:∀xs Q,aZ xs Q->xs.length=n)(a:eJ K k ta pa):bC K k (vS C (bP K z 1 n aZ) [] (λ_=>E) ta) (vL C aZ pa):=
 JP (R':=λ_=>E) (q':=λ_=>False) (aZ:=λxs Q _=>aZ xs Q) (λ_ _ _ _ _ _ _ _ _ h=>h.elim) b (λxs Q _=>hn xs Q) a
end
section
theorem eh{D:af->Nat->Prop}{aZ:Nat->bO}(l:∀C g,D C g->fv X.prog X.w X.K X.mg X.base bJ kj m C ps (bP X.K z 0 n (aZ g)))(s:QE X k o po)(p:QA X k (e::es) pa)(u:bw km X.A:=by assumption)(q:kj<=km:=by first |decide |omega)(r:z=true->k.z=true:=by first |exact id |exact λ_=>rfl)(hn:∀C xs Q,aZ C xs Q->xs.length=n:=by exact λ_ _ _ h=>h.1)(a:dH e es X.env:=by rfl)(hpl:fk pos es X.env:=by rfl)(ht:pw X o m (e::es) apos pos pl:=by rfl):QE X k (.Call (.Attribute o m apos) (e::es) [] pos) (uF D m aZ po (nh pa)):=by
 obtain⟨y,i,j⟩:=s.h;obtain⟨x,b,f⟩:=p.ay.h;exact⟨_,Ac (R:=λ_=>E0) i (λC g d=>(l C g d).mono q) u (rQ p0) b a hpl ht,DI r hn j f⟩
theorem CF{D:af->Nat->Prop}{aZ:Nat->bO}(e:∀C g,D C g->fv X.prog X.w X.K X.mg X.base bJ kj m C ps (bP X.K z 0 n (aZ g)))(j:QE X k o po)(l:bw km X.A:=by assumption)(f:kj<=km:=by first |decide |omega)(i:z=true->k.z=true:=by first |exact id |exact λ_=>rfl)(hn:∀C xs Q,aZ C xs Q->xs.length=n:=by exact λ_ _ _ h=>h.1)(ht:pw X o m [] apos pos pl:=by rfl):QE X k (.Call (.Attribute o m apos) [] [] pos) (uF D m aZ po qm):=by
 obtain⟨p,a,b⟩:=j.h;exact⟨_,Pn (R:=λ_=>E0) a (λC g d=>(e C g d).mono f) l (rQ p0) ht,DI i hn b Gy⟩
end
abbrev kN:=ah->(Tr->aX)->Prop
structure kR(K:PySem.W.Frag)(k:Md)(lo:Nat)(us:aw)(Fb Hb F F' H':Hp)(j:St)(G:ah)(cs:Nat->Cs)(t:Tr)(v:V)(e:Cs):Prop where
 l:Le F F'
 W:bc K k lo us Fb Hb F' H' j G cs
 r:R K F' (λ_=>Hb) t v e
 c:ar F' H' e
 n:cY Hb e
 d:∀i,∀p∈cs i,∀q∈e,p.1≠q.1
def nk(K:ao)(k:Md)(lo:Nat)(m:TE)(pl:kN):Prop:=∀(us:aw)(b e F H:Hp)(j:St)(i:ah)(l:Nat->Cs)(Q:VK)(f:Tr->aX),bc K k lo us b e F H j i l->pl i f->
 (∀t v h d g a c,kR K k lo us b e F h d j g a t v c->f t g->Q v d)->m j H Q
section
theorem kR.held{t:Tr}{v:V}{c:Cs}(o:kR K k lo us Fb Hb F F' H' j i cs t v c):∃a,Le F a/\bc K k lo us Fb Hb a H' j i cs/\R K a (λ_=>Hb) (ay t) v []:=by
 obtain⟨a,e,b,f⟩:=o.W.lay o.c o.n (o.r.plain t) o.d;exact⟨a,o.l.trans (Le.of b),e,o.r.ay (Le.of b) t f⟩
def yO(i:Nat)(pl:kN):cg:=λD j=>pl j λt a=>D.nx (a.set i (ay t))
theorem Nl(n:lo<=i)(h:nk K k lo te pl):cS K k lo (kI te (jb i)) (yO i pl):=λus b e F H j G g D q W p L=>by
 refine h us b e F H j G g _ _ W p λt v r d s l u o p1=>?_
 obtain⟨a,w,f,r2⟩:=o.held;exact L.nx a d _ _ _ (f.set n r2 .nil .nil λ_ _ _ _ _ m=>nomatch m) p1
def xG(pl:kN):cg:=λD j=>pl j λ_ j1=>D.nx j1
theorem Ln(h:nk K k lo te pl):cS K k lo (pR te) (xG pl):=λus b e F H j i f D l W p L=>
 h us b e F H j i f _ _ W p λt v a d n g m o p1=>L.nx a d _ _ _ o.W p1
def vX(pl:kN):cg:=λD j=>pl j λt a=>cE t=true/\D.rt t a
theorem Qt(h:nk K k lo te pl):cS K k lo (vI te) (vX pl):=λus e g F H j i m D s W p L=>
 h us e g F H j i m _ _ W p λt v b f q a l o p1=>L.rt b f j q a v t l o.W o.r o.c o.n o.d p1.1 p1.2
end
section
def HA(K:ao)(F Hb:Hp)(j:St)(G:ah):bG->ah->aw->Prop
 |[],ts,vs=>ts=[] /\ vs=[]
 |none::hs,ts,vs=>∃t v a b,ts=t::a /\ vs=v::b /\ R K F (λ_=>Hb) t v [] /\ HA K F Hb j G hs a b
 |some i::hs,ts,vs=>∃t v a b,ts=t::a /\ vs=v::b /\ G[i]? = some t /\ t ≠ .aA /\ j[i]? = some (some v) /\ HA K F Hb j G hs a b
def p6(K:ao)(k:Md)(lo:Nat)(hs:bG)(m:TA)(l:b8):Prop:=∀(us:aw)(d b F H:Hp)(j:St)(i:ah)(g:Nat->Cs)(Q:aw->Hp->Prop)(f:aX),bc K k lo us d b F H j i g->l i f->
 (∀h vs a e,Le F a->bc K k lo us d b a e j i g->HA K a b j i hs h vs->f h->Q vs e)->m j H Q
def wd:b8:=λ_ Q=>Q []
def wN(pe:aY)(a:b8):b8:=λj Q=>pe (j.map aD) λt=>bL t=true/\a j λb=>Q (Pu.ay t::b)
theorem O1:p6 K k lo [] iU wd:=λus a b F H j i e Q d W p q=>q [] [] F H (Le.refl F) W ⟨rfl,rfl⟩ p
theorem sH{Q:av}(h:pV o Q):∃t,o=some t/\t≠.aA/\Q t:=by
 unfold pV at h;split at h
 .exact h.elim
 .rename_i t hn;exact⟨t,rfl,λz=>hn (by rw[z]),h⟩
 .exact h.elim
theorem VB(he:bC K k te pe)(h:p6 K k lo hs ta ph):p6 K k lo (none::hs) (iS te ta) (wN pe ph):=λus m b F H j i w Q z W p q=>by
 refine he F (Bq b H) H j _ _ _ W.eD p λt v y n A e o=>?_
 obtain⟨g,s,r2,x⟩:=W.fa o e.1;exact h us m b g n j i w _ _ s e.2 λf vs l r d u a p3=>q (Pu.ay t::f) _ l r (x.trans d) u ⟨Pu.ay t,v,f,vs,rfl,rfl,r2.mo d (λ_=>Le.refl _) _,a⟩ p3
theorem HA.rs(W:bc K k lo us Fb Hb F H G J cs):∀{hs:bG}{C:ah}{vs:aw},(hs.filterMap id).Nodup->HA K F Hb G J hs C vs->∃c,Rs K F (λ_=>Hb) C vs c/\ar F H c/\cY Hb c/\(∀p∈c,∃i,some i∈hs/\p∈cs i)/\∀i,some i∈hs->∀p∈cs i,p∈c
 |[],_,_,_,y=>by obtain⟨f,g⟩:=y;exact⟨[],by rw[f,g];exact⟨rfl,rfl⟩,.nil,.nil,(λ_ m=>nomatch m),λ_ m=>nomatch m⟩
 |none::hs,_,_,nd,y=>by
  obtain⟨t,v,A,a,f,g,w,x⟩:=y;obtain⟨c,l,o,r,h,s⟩:=HA.rs W (hs:=hs) nd x;refine⟨c,by rw[f,g];exact⟨v,a,[],c,rfl,rfl,w,l⟩,o,r,λp m=>?_,λi m p b=>?_⟩
  .obtain⟨i,b1,b2⟩:=h p m;exact⟨i,.tail _ b1,b2⟩
  .cases m with
   |tail _ m=>exact s i m p b
 |some i::hs,_,_,nd,y=>by
  obtain⟨t,v,A,a,f,g,w,x,E,I⟩:=y;have nd:(i::hs.filterMap id).Nodup:=nd;rw[nodup_cons] at nd;obtain⟨c,l,o,r,h,s⟩:=HA.rs W (hs:=hs) nd.2 I;have M:some i ∉ hs:=λm=>nd.1 (mem_filterMap.mpr ⟨_,m,rfl⟩)
  have rt:R K F (λ_=>Hb) t v (cs i):=by
   rcases W.e i t w with z |⟨u,B,D⟩
   .exact absurd z x
   .rw[E] at B;cases B;exact D
  refine⟨cs i++c,by rw[f,g];exact⟨v,a,cs i,c,rfl,rfl,rt,l⟩,(W.c i).app o λp b q L=>?_,λp m=>(mem_append.mp m).elim (W.n i p) (r p),λp m=>?_,λj m p b=>?_⟩
  .obtain⟨j,b1,b2⟩:=h q L;exact W.d i j (λz=>M (by rw[z];exact b1)) p b q b2
  .rcases mem_append.mp m with m |m
   .exact⟨i,.head _,m⟩
   .obtain⟨j,b1,b2⟩:=h p m;exact⟨j,.tail _ b1,b2⟩
  .rcases mem_cons.mp m with e |m
   .cases e;exact mem_append.mpr (.inl b)
   .exact mem_append.mpr (.inr (s j m p b))
def fK:bG->ah->ah
 |[],j=>j
 |none::hs,j=>fK hs j
 |some i::hs,j=>(fK hs j).set i .aA
theorem xS:∀(hs:bG)(j:ah),(fK hs j).length=j.length
 |[],_=>rfl
 |none::hs,j=>xS hs j
 |some i::hs,j=>by show ((fK hs j).set i .aA).length=_;rw[length_set];exact xS hs j
theorem tZ:∀(hs:bG)(G:ah),some i ∉ hs->(fK hs G).set i t=fK hs (G.set i t)
 |[],_,_=>rfl
 |none::hs,G,h=>tZ hs G λm=>h (.tail _ m)
 |some j::hs,G,h=>by
  show ((fK hs G).set j .aA).set i t=(fK hs (G.set i t)).set j .aA;rw[List.set_comm _ _ (λz=>h (by rw[z];exact .head _)),tZ hs G λm=>h (.tail _ m)]
theorem vJ:∀(hs:bG)(G:ah),(fK hs G)[j]?=some t->t=.aA\/(some j ∉ hs/\G[j]?=some t)
 |[],_,h=>.inr ⟨(λm=>nomatch m),h⟩
 |none::hs,G,h=>(vJ hs G h).imp id λ⟨a,b⟩=>⟨λm=>by cases m with |tail _ m=>exact a m,b⟩
 |some i::hs,G,h=>by
  have h:((fK hs G).set i .aA)[j]?=some t:=h;by_cases e:i=j
  .subst e;have d:=(List.getElem?_eq_some_iff.mp h).1;rw[length_set] at d;rw[getElem?_set_self d] at h;cases h;exact .inl rfl
  .rw[getElem?_set_ne e] at h;exact (vJ hs G h).imp id λ⟨a,b⟩=>⟨λm=>by
    rcases mem_cons.mp m with z |m
    .cases z;exact e rfl
    .exact a m,b⟩
theorem bc.past{hs:bG}{c:Cs}(W:bc K k lo us Fb Hb F H G J cs)(n:cY Hb c)(A:∀p∈c,∃i,some i∈hs/\p∈cs i)(g:Gr F (cN (c.map (·.1)) H) F' H'):bc K k lo us Fb Hb F' H' G (fK hs J) (λj=>if some j∈hs then [] else cs j)/\∀j,some j ∉ hs->∀p∈cs j,(cN (c.map (·.1)) H) p.1=some p.2:=by
 have B:Gr Fb Hb F' H':=W.g.cN n g;have keep:∀j,some j ∉ hs->∀p∈cs j,(cN (c.map (·.1)) H) p.1=some p.2:=λj s p o=>by
  refine oh (λm=>?_) ((W.c j).h p o);obtain⟨q,r,e⟩:=mem_map.mp m;obtain⟨i,w,y⟩:=A q r;exact W.d j i (λz=>s (by rw[z];exact w)) p o q y e.symm
 refine⟨⟨B,λh=>g.fz (W.z h),by rw[xS];exact W.l,λj t h=>?_,λj=>?_,λj=>?_,λa b ne p o q r=>?_,W.p,W.x⟩,keep⟩
 .rcases vJ hs J h with z |⟨z,e⟩
  .exact .inl z
  .rw[if_neg z];exact (W.e j t e).imp id λ⟨v,h1,h2⟩=>⟨v,h1,h2.mo g.le (λ_=>Le.refl _) t⟩
 .split
  .exact .nil
  .rename_i s;refine⟨λp m=>g.h _ _ (keep j s p m),λp m=>?_,(W.c j).nd⟩;cases z:F' p.1 with
   |none=>rfl
   |some u=>
    have:=g.n p.1 u z ((W.c j).f p m);rw[keep j s p m] at this;cases this
 .split
  .exact .nil
  .exact W.n j
 .split at o
  .cases o
  .split at r
   .cases r
   .exact W.d a b ne p o q r
theorem bc.fill{i:Nat}{t:Tr}{v:V}{c:Cs}(W:bc K k lo us Fb Hb F H G J cs)(y:G[i]?=some (some v))(r:R K F (λ_=>Hb) t v c)(s:ar F H c)(n:cY Hb c)(d:∀j,j≠i->∀p∈cs j,∀q∈c,p.1≠q.1):
  bc K k lo us Fb Hb F H G (J.set i t) (λj=>if j=i then c else cs j) where
 g:=W.g
 z:=W.z
 l:=by rw[length_set];exact W.l
 e:=λj u h=>by
  by_cases e:j=i
  .subst e;have w:j<J.length:=by have:=(List.getElem?_eq_some_iff.mp h).1;rw[length_set] at this;exact this
   rw[getElem?_set_self w] at h;cases h;exact .inr ⟨v,y,by rw[if_pos rfl];exact r⟩
  .rw[getElem?_set_ne (λz=>e z.symm)] at h;rw[if_neg e];exact W.e j u h
 c:=λj=>by
  split
  .exact s
  .exact W.c j
 n:=λj=>by
  split
  .exact n
  .exact W.n j
 d:=λa b ne p o q f=>by
  by_cases m:a=i
  .rw[if_pos m] at o;rw[if_neg (λz=>ne (m.trans z.symm))] at f;exact (d b (λz=>ne (m.trans z.symm)) q f p o).symm
  .rw[if_neg m] at o;by_cases eb:b=i
   .rw[if_pos eb] at f;exact d a m p o q f
   .rw[if_neg eb] at f;exact W.d a b ne p o q f
 p:=W.p
 x:=W.x
def jx:bG->Nat->ah->ah->(aX)->Prop
 |[],_,_,G,Q=>Q G
 |none::hs,j,G',G,Q=>jx hs (j + 1) G' G Q
 |some i::hs,j,G',G,Q=>pV G'[j]? λt=>cE t=true /\ jx hs (j + 1) G' (G.set i t) Q
theorem wo{Q:Md}{r:Nat}{vs:aw}{y:Hp}{C:St}{A:ah}{a:Nat->Cs}{G:Prop}{B:aX}(f:bc K Q r vs F1 y F' H' C A a)(x:aC Hb y):∀(hs:bG)(j:Nat)(O:ah)(cx:Nat->Cs),(hs.filterMap id).Nodup->bc K k lo us Fb Hb F' H' J (fK hs O) cx->(∀n i,hs[n]?=some (some i)->∃v,J[i]?=some (some v)/\vs[j+n]?=some v)->j+hs.length<=r->
  (∀i m,(i<lo\/True)->j<=m->∀p∈cx i,∀q∈a m,p.1≠q.1)->jx hs j A O B->(∀s b,bc K k lo us Fb Hb F' H' J s b->(∀i,∀p∈b i,p∈cx i\/∃m,p∈a m)->B s->G)->G
 |[],j,O,cx,_,W,_,_,_,p,q=>q O cx W (λi p m=>.inl m) p
 |none::hs,j,O,cx,nd,W,hv,hl,d,p,q=>by
  refine wo f x hs (j+1) O cx nd W (λn i e=>?_) (by rw[length_cons] at hl;omega) (λi m z hm=>d i m z (by omega)) p q;obtain⟨v,l,o⟩:=hv (n+1) i e;exact⟨v,l,by rw[show j+1+n=j+(n+1) by omega];exact o⟩
 |some i::hs,j,O,cx,nd,W,hv,hl,d,p,q=>by
  have nd:(i::hs.filterMap id).Nodup:=nd;rw[nodup_cons] at nd;have U:some i ∉ hs:=λm=>nd.1 (mem_filterMap.mpr ⟨_,m,rfl⟩)
  obtain⟨t,H,I,L,p⟩:=sH p;obtain⟨v,l,o⟩:=hv 0 i rfl;rw[length_cons] at hl;have rt:R K F' (λ_=>Hb) t v (a j):=by
   rcases f.e j t H with z |⟨u,M,N⟩
   .exact absurd z I
   .have:=f.p j (by omega);rw[M,show vs[j]?=some v from o] at this;cases this;exact N.base t L
  have E:bc K k lo us Fb Hb F' H' J (fK hs (O.set i t)) (λm=>if m=i then a j else cx m):=by
   have:=W.fill (i:=i) l rt (f.c j) (λp m=>x.free (f.n j p m)) λm _ p h q w=>d m j (.inr trivial) (le_refl j) p h q w
   rw[show (fK (some i::hs) O).set i t=fK hs (O.set i t) by
    show ((fK hs O).set i .aA).set i t=_;rw[List.set_set];exact tZ hs O U] at this
   exact this
  refine wo f x hs (j+1) (O.set i t) _ nd.2 E (λn g e=>?_) (by omega) (λg m z hm p h q w=>?_) p λs b D sub=>q s b D λg p m=>?_
  .obtain⟨v,l,o⟩:=hv (n+1) g e;exact⟨v,l,by rw[show j+1+n=j+(n+1) by omega];exact o⟩
  .by_cases ei:g=i
   .rw[if_pos ei] at h;exact f.d j m (by omega) p h q w
   .rw[if_neg ei] at h;exact d g m z (by omega) p h q w
  .rcases sub g p m with z |z
   .by_cases ei:g=i
    .rw[if_pos ei] at z;exact .inr ⟨j,z⟩
    .rw[if_neg ei] at z;exact .inl z
   .exact .inr z
theorem HA.at_:∀{hs:bG}{q:ah}{vs:aw}{n i:Nat},HA K F Hb j G hs q vs->hs[n]?=some (some i)->∃v,j[i]?=some (some v)/\vs[n]?=some v
 |none::hs,_,_,n,i,y,e=>by
  obtain⟨t,v,f,g,l,d,m,h⟩:=y;cases n with
  |zero=>cases e
  |succ n=>obtain⟨u,a,b⟩:=HA.at_ (hs:=hs) h e;exact⟨u,a,by rw[d];exact b⟩
 |some x::hs,_,_,n,i,y,e=>by
  obtain⟨t,v,f,g,l,d,m,h,o,p⟩:=y;cases n with
  |zero=>cases e;exact⟨v,o,by rw[d];rfl⟩
  |succ n=>obtain⟨u,a,b⟩:=HA.at_ (hs:=hs) p e;exact⟨u,a,by rw[d];exact b⟩
theorem HA.len:∀{hs:bG}{f:ah}{vs:aw},HA K F Hb j G hs f vs->f.length=hs.length
 |[],_,_,y=>by obtain⟨a,_⟩:=y;rw[a];rfl
 |none::hs,_,_,y=>by obtain⟨t,v,b,d,a,g,h,e⟩:=y;rw[a,length_cons,length_cons,HA.len e]
 |some i::hs,_,_,y=>by obtain⟨t,v,b,d,a,g,h,e,m,l⟩:=y;rw[a,length_cons,length_cons,HA.len l]
end
structure QL(X:Cx)(k:Md)(lo:Nat)(e:Expr)(pl:kN):Prop where
 h:∃te,PE X e te/\nk X.K k lo te pl
structure QH(X:Cx)(k:Md)(lo:Nat)(es:bH)(hs:bG)(ph:b8):Prop where
 h:∃ta,PA X es ta/\p6 X.K k lo hs ta ph
section
theorem oN:QH X k lo [] [] wd:=⟨_,jT,O1⟩
theorem kQ(he:QE X k e pe)(h:QH X k lo es hs ph)(a:dH e es X.env:=by rfl):QH X k lo (e::es) (none::hs) (wN pe ph):=by
 obtain⟨i,f,g⟩:=he.h;obtain⟨j,b,d⟩:=h.h;exact⟨_,ju f b a,VB g d⟩
section
theorem yj(i:Nat)(h:QL X k lo e pl)(d:X.N.Nodup:=by assumption)(j:lo<=i:=by decide)(g:X.N[i]?=some x:=by rfl)(l:Loc X.env.scope x:=by first |exact Or.inl rfl |exact Or.inr rfl)(hs:swapsWith e (some (.Name x pos')) pos.line X.env=pure false:=by rfl)(f:ke X x:=by first |exact .inl rfl |exact .inr rfl |assumption):
  QS X k lo (.Assign [.Name x pos'] e pos) (yO i pl):=by
 obtain⟨m,a,b⟩:=h.h;exact⟨_,q5 d g l a hs f,Nl j b⟩
theorem xU(h:QL X k lo e pl)(hs:swapsWith e none pos.line X.env=pure false:=by rfl):QS X k lo (.Expr e pos) (xG pl):=by
 obtain⟨d,a,b⟩:=h.h;exact⟨_,tJ a hs,Ln b⟩
theorem kE(h:QL X k lo e pl):QS X k lo (.Return (some e) pos) (vX pl):=by
 obtain⟨d,a,b⟩:=h.h;exact⟨_,Bv a,Qt b⟩
end
end
end Pu
namespace L2
open PySem PySem.Spec PyProof.Rows
def FO(e:TE):TE:=λj H Q=>e j H λx d=>∃a b,x=.ref a/\Rd d a (.dK b)/\∀p,d p=none->Q (.ref p) (aQ d p (.ag (b.map (·.2))))
theorem Nb(Y:X.calm=true)(hg:Gl X "list")(hm:X.mg "list"=none)(ho:PE X o td)(g:attributeBase o "values" X.env (eval o X.env)=eval o X.env)(l:(apos.endLine == bq.line)=true)(hs:starEach [.Call (.Attribute o "values" apos) [] [] bq] X.env=[(false,eval (.Call (.Attribute o "values" apos) [] [] bq) X.env)]:=by rfl):
  PE X (.Call (.Name "list" p) [.Call (.Attribute o "values" apos) [] [] bq] [] pos) (FO td):=by
 intro aa s i H Q I h;refine wpAny_Call_Name_kw (i3 I hg hm (u:=.type "list") rfl ?_);refine PyProof.Rows.callWith_type1 ?_ hs rfl;rw[hs];show wpAny _ _ (spliced ((false,eval (.Call (.Attribute o "values" apos) [] [] bq) X.env)::backTo pos [])) _ _ s;refine Calls.spliced_cons ?_;refine wpAny_Call_method0_late g l (bh (ho aa s i H _ I h) λv m E=>?_);obtain⟨x,G,B,r1,a,kvs,ex,L,q⟩:=E;subst ex;obtain rfl:v=Value.ref a:=r1;obtain⟨N,t2,hd⟩:=tf B (.inl ⟨kvs,L⟩);refine⟨"dict","dict.values",PySem.F.plainAttrs_dict,PySem.F.slot_dict_values,PySem.F.type_dict_values,N,t2,Calls.callWith_builtin rfl (PySem.evalArgs_none ?_)⟩;obtain⟨z,y,vs,r,dd⟩:=jy B.aN L;refine call_meetsIn PySem.F.slot_dict_values N PySem.F.entry_dict_values (PySem.F.args_dict_values_1 _) (meets_dict_values (eA X.prog X.w) a hd) ⟨⟨vs,dd⟩,?_⟩;have J:au X aa i G { m with heap:=m.heap.push { cls:=.type "dict_values",data:=.fields #[.ref a] } }:=B.kept (t':=m.toks) λb o e=>Heap.get?_push_of_some _ e
 obtain⟨ep,C⟩:=dd.dictAt;have A:=C.push { cls:=.type "dict_values",data:=.fields #[.ref a] };have M:kvs.length=vs.length:=KV.length r;refine Calls.spliced_nil ?_;refine W.kdl_call (s:={ m with heap:=m.heap.push { cls:=.type "dict_values",data:=.fields #[.ref a] } }) (W.kdl_values (knd:=eA X.prog X.w) (kvs:=vs) (ep:=ep) (r:=m.heap.objs.size) (d:=a)) (I.ok.hd Y) ⟨⟨_,Heap.get?_push_size _ rfl,rfl,rfl⟩,A⟩ (by rw[<- M];exact z) λh' tk n O hk U f=>?_
 have D:G (m.heap.push { cls:=.type "dict_values",data:=.fields #[.ref a] }).objs.size=none:=J.aN.fresh (le_refl _);refine⟨.ref _,_,J.laid (o:=.ag (kvs.map (·.2))) (h':=h') (t':=tk) hk (le_refl _) ⟨by rw[length_map];exact z,n.toList,O,?_,by rw[Array.toArray_toList];exact U⟩,rfl,q _ D⟩;refine Ju r (by rw[length_toList,f.1,M]) λj u hu=>?_
 exact f.2 j u (by rw[<- getElem?_toList];exact hu)
end L2
namespace Pu
open PySem L2 Vc Sf
section
theorem Rk.snd:∀{m:bA}{vs:bT}{c:Cs},Rk K F B m vs c->Rs K F B (m.map (·.2)) (vs.map (·.2)) c
 |[],_,_,y=>by obtain⟨h,a⟩:=y;rw[h,a];exact⟨rfl,rfl⟩
 |(y,x)::m,_,_,y0=>by obtain⟨v,r,c,d,b,a,e,f⟩:=y0;rw[b,a];exact⟨v,_,c,d,rfl,rfl,e,Rk.snd f⟩
def rD(t:Tr)(Q:av):Prop:=match t with |.aS _ m=>Q (.ag .o (m.map (·.2))) |_=>False
theorem Ux(h:bC K k te pe):bC K k (FO te) (p1 rD pe):=λF B H j i Q z c p q=>by
 refine h F B H j i _ _ c p λx v f w A p1 d=>?_
 unfold rD at p1;split at p1
 .obtain⟨a,vs,ds,rfl,h1,h2,h3,h4⟩:=d.r.iN d.g.s (λk=>(c.b k).trans d.g.h) d.c;refine⟨a,vs,rfl,h1,λp e=>?_⟩;obtain⟨l,o,u⟩:=ku d.g.s h2.snd h3 e;refine q _ _ f _ _ p1 ⟨d.g.trans' l,o,u,λy m=>?_⟩;cases m with
  |head=>exact d.g.h.free e
  |tail _ m=>exact d.n y (h4 y m)
 .exact p1.elim
end
section
theorem Q7(f:X.calm=true)(g:Gl X "list")(hm:X.mg "list"=none)(h:QE X k o po)(d:attributeBase o "values" X.env (eval o X.env)=eval o X.env:=by rfl)(e:(apos.endLine == bq.line)=true:=by rfl)(hs:starEach [.Call (.Attribute o "values" apos) [] [] bq] X.env=[(false,eval (.Call (.Attribute o "values" apos) [] [] bq) X.env)]:=by rfl):
  QE X k (.Call (.Name "list" p) [.Call (.Attribute o "values" apos) [] [] bq] [] pos) (p1 rD po):=by
 obtain⟨i,a,b⟩:=h.h;exact⟨_,Nb f g hm a d e hs,Ux b⟩
end
theorem Vw:uF D m aZ po pa j Q=(po j λx=>hW D m x λc=>pa j λa=>aZ c (cp (x::a)) (λt _=>Q t)):=rfl
theorem ME:vL C aZ pa j Q=(pa j λb=>aZ (cp (.ins .o C []::b)) λt a=>t=.aL/\nU a[0]? Q):=rfl
theorem S5(i:Nat)(pl:kN)(D:Pd)(j:ah):yO i pl D j=(pl j λt a=>D.nx (a.set i (ay t))):=rfl
theorem OH:xG pl D j=(pl j λ_ j1=>D.nx j1):=rfl
theorem U2:vX pl D j=(pl j λt a=>cE t=true/\D.rt t a):=rfl
theorem PN:wd j' Q=(Q []):=rfl
theorem QY:wN pe ph j Q=(pe (j.map aD) λt=>bL t=true/\ph j λa=>Q (Pu.ay t::a)):=rfl
theorem OT(j:Nat)(a i:ah)(Q:aX):jx [] j a i Q=Q i:=rfl
theorem RA(hs:bG)(j:Nat)(a i:ah)(Q:aX):jx (none::hs) j a i Q=jx hs (j+1) a i Q:=rfl
theorem RF(c:af)(fs:bx):aD (.ins .o c fs)=.ins (.l true) c (bZ fs):=rfl
theorem Kb(c:af)(fs:bx):dn (.ins .o c fs)=.ins .o c (iE fs):=rfl
theorem wO(c:af)(fs:bx):cE (.ins .o c fs)=e9 fs:=rfl
theorem Bm(c:af)(fs:bx):bL (.ins .o c fs)=fw fs:=rfl
theorem MY(f:Fl)(m:bA)(Q:av):rD (.aS f m) Q=Q (.ag .o (m.map (·.2))):=rfl
theorem HI(K:ao)(f:Str)(c:af)(fs:bx)(Q:af->bx->Prop):mU K f (.ins .o c fs) Q=((gg K c/\bf K c f)/\fs.length<900/\Q c fs):=rfl
theorem mF(f:Str)(u:Tr):adr f u []=[(f,u)]:=rfl
theorem Io(f:Fl)(c:af)(xs:bx)(R:av):qS (some (.ins f c xs)) R=R (.ins f c xs):=rfl
section
def wF(i:Nat):kN:=λj Q=>pV j[i]? λt=>Q t (j.set i .aA)
theorem NO:nk K k lo (f7 i) (wF i):=λus o r F H G J b Q s W p q=>by
 obtain⟨t,f,g,p⟩:=sH p;rcases W.e i t f with z |⟨v,h,l⟩
 .exact absurd z g
 refine⟨v,h,q t v F H _ _ (b i) ⟨Le.refl _,W.aA (i:=i),l,W.c i,W.n i,λj p a q m=>?_⟩ p⟩;split at a
 .cases a
 .rename_i hj;exact W.d j i hj p a q m
theorem SX(i:Nat)(j:ah)(Q:Tr->aX):wF i j Q=(pV j[i]? λt=>Q t (j.set i .aA)):=rfl
end
section
theorem kT(i:Nat)(b:X.N[i]?=some x:=by rfl)(d:n4 X.env.scope x:=by first |exact Or.inl rfl |exact Or.inr (Or.inl rfl) |exact Or.inr (Or.inr rfl))(hd:du x:=by decide)(a:(x == ("__classdict__":Str))=false:=by decide):QL X k lo (.Name x pos) (wF i):=⟨_,q0 b d hd a,NO⟩
end
theorem ed(a:nE X E):PassesOwn (model X.prog X.w) X.A X.env X.xe:=by
 rw[show X.xe=_ from a]
 passes_own
abbrev Wy:=Pd->ah->ai->Prop
end Pu
namespace Pu
open PySem PySem.Spec PyProof.Rows
section
variable{p:aM->Prop}
theorem PD(h:p []):∀us:aM,us.length=0->p us:=λus e=>by
 cases us with
 |nil=>exact h
 |cons=>cases e
theorem uI{p:aM->Prop}{k:Nat}(h:∀a (us:aM),us.length=k->p (a::us)):∀us:aM,us.length=k+1->p us:=λus e=>by
 cases us with
 |nil=>cases e
 |cons a us=>exact h a us (Nat.succ.inj e)
theorem zW(h:∀a,p [a]):∀us:aM,us.length=[x1].length->p us:=uI λa=>PD (h a)
theorem ln2(h:∀a b,p [a,b]):∀us:aM,us.length=[x1,x2].length->p us:=uI λa=>zW (x1:=x2) (p:=λl=>p (a::l)) (h a)
theorem Cp(h:∀a b c,p [a,b,c]):∀us:aM,us.length=[x1,x2,x3].length->p us:=uI λa=>ln2 (x1:=x2) (x2:=x3) (p:=λl=>p (a::l)) (h a)
theorem TU(h:∀a b c d,p [a,b,c,d]):∀us:aM,us.length=[x1,x2,x3,x4].length->p us:=uI λa=>Cp (x1:=x2) (x2:=x3) (x3:=x4) (p:=λl=>p (a::l)) (h a)
end
end Pu
namespace Pu
open PySem L2 Vc Sf
theorem og(hp:PE X o (tR X.K i r))(a:attributeBase o f X.env (eval o X.env)=eval o X.env:=by rfl):PE X (.Attribute o f pos) (tR X.K i (f::r)):=AF hp a
section
theorem ar.perm(h:ar F H c)(p:c.Perm d):ar F H d:=⟨λx m=>h.h x (p.mem_iff.mpr m),λx m=>h.f x (p.mem_iff.mpr m),((p.map (·.1)).nodup_iff).mp h.nd⟩
theorem ar.qM(h:ar F H (c++d)):∀p∈c,∀q∈d,p.1≠q.1:=by
 have:=h.nd;rw[map_append,nodup_append] at this;exact λp a q b=>this.2.2 _ (mem_map.mpr ⟨p,a,rfl⟩) _ (mem_map.mpr ⟨q,b,rfl⟩)
theorem RS{hs:bG}{n:Nat}{z:Bool}{aZ:fN}{ts:ah}{vs:aw}{E:XK}{q':ai->Prop}{Q':Tr->aX}{Q:VK}{t:Tr}{r:aj}{v w:V}{c rest:Cs}(W:bc K k lo us Fb Hb F1 H1 G J cs)(l:Le F F1)(hv:G[i]?=some (some v))(pm:(cs i).Perm (c++rest))(η:R K F1 (λ_=>Hb) (cO t r) w c)(cl:∀A,Le F1 A->∀u d,R K A (λ_=>Hb) u w d->∃c1,R K A (λ_=>Hb) (hY t r u) v c1/\c1.Perm (d++rest))(a:HA K F1 Hb G J hs ts vs)(nd:((some i::hs).filterMap id).Nodup)(hk:z=true->k.z=true)(hn:(cp (cO t r::ts)).length=n)(hE:∀N A D,q' N->Gr Fb Hb A D->E N none D)(p1:aZ (cp (cO t r::ts)) (λx J'=>pV J'[0]? λu=>cE u=true/\jx hs 1 J' (J.set i (hY t r u)) λJ2=>Q' x J2) q')(q:∀t v A D J' U c,kR K k lo us Fb Hb F A D G J' U t v c->Q' t J'->Q v D):ib K z n n aZ (w::vs) H1 Q E:=by
 have O:(i::hs.filterMap id).Nodup:=nd;rw[nodup_cons] at O;have ni:some i ∉ hs:=λm=>O.1 (mem_filterMap.mpr ⟨_,m,rfl⟩)
 obtain⟨H,a1,a2,a3,a4,a5⟩:=a.rs W O.2;have Y:ar F1 H1 (c++rest):=(W.c i).perm pm;have sub:∀p∈c,p∈cs i:=λp m=>pm.mem_iff.mpr (mem_append.mpr (.inl m))
 have B:∀p∈rest,p∈cs i:=λp m=>pm.mem_iff.mpr (mem_append.mpr (.inr m))
 have β:∀p∈cs i,∀q∈H,p.1≠q.1:=λp b q y=>by
  obtain⟨j,b1,b2⟩:=a4 q y;exact W.d i j (λz=>ni (by rw[z];exact b1)) p b q b2
 have A2:ar F1 H1 (c++H):=Y.left.app a2 λp b q y=>β p (sub p b) q y
 have A3:cY Hb (c++H):=λp m=>(mem_append.mp m).elim (λm=>W.n i p (sub p m)) (a3 p)
 have A4:∀p∈c++H,∃j,some j∈(some i::hs)/\p∈cs j:=λp m=>by
  rcases mem_append.mp m with m |m
  .exact⟨i,.head _,sub p m⟩
  .obtain⟨j,b1,b2⟩:=a4 p m;exact⟨j,.tail _ b1,b2⟩
 have hb:aC Hb (cN ((c++H).map (·.1)) H1):=λx o e=>oh (rP A3 e) (W.g.h _ _ e)
 have o1:eH K F1 (λ_=>Hb) (cN ((c++H).map (·.1)) H1) F1 H1 (cO t r::ts) (w::vs) (c++H):=⟨⟨u9 W.g.s,Fz.refl F1⟩,⟨w,vs,c,H,rfl,rfl,η,a1⟩,A2,λp m=>yL m⟩
 refine vG (λh=>W.z (hk h)) hn (λ_=>hb) o1 (λN A D hq g=>hE N A D hq (W.g.cN A3 g)) p1 λA D G' J' U v' t' M g nw L r' ε nc dj nl qt=>?_
 obtain⟨W0,keep⟩:=W.past (hs:=some i::hs) A3 A4 g;have C:∀p∈rest,(cN ((c++H).map (·.1)) H1) p.1=some p.2:=λp b=>by
  refine oh (λm=>?_) ((W.c i).h p (B p b));obtain⟨q,y,e⟩:=mem_map.mp m;rcases mem_append.mp y with y |y
  .exact Y.qM q y p b e
  .exact β p (B p b) q y e.symm
 have I:∀(M:Cs),cY (cN ((c++H).map (·.1)) H1) M->∀p∈rest,∀q∈M,p.1≠q.1:=λM nc p b q y e=>by
  have:=C p b;rw[e,nc q y] at this;cases this
 have qM:∀(M:Cs),cY (cN ((c++H).map (·.1)) H1) M->∀j,∀p∈(if some j∈(some i::hs) then [] else cs j),∀q∈M,p.1≠q.1:=λM nc j p b q y e=>by
  split at b
  .cases b
  .rename_i hj;have:=keep j hj p b;rw[e,nc q y] at this;cases this
 obtain⟨u,x1,x2,x3,qt⟩:=sH qt;have α:0<n:=by rw[<- hn,lH];exact Nat.succ_pos _
 have ru:R K A (λ_=>Hb) u w (U 0):=by
  rcases L.e 0 u x1 with z |⟨u',g1,g2⟩
  .exact absurd z x2
  .have:=L.p 0 α;rw[g1] at this;cases this;exact g2.base u x3
 obtain⟨d1,y1,y2⟩:=cl A g.le u _ ru;have fr:∀p∈rest,A p.1=none:=λp m=>by
  cases z:A p.1 with
  |none=>rfl
  |some o=>
   have:=g.n p.1 o z ((W.c i).f p (B p m));rw[C p m] at this;cases this
 have cr:ar A D rest:=⟨λp m=>g.h _ _ (C p m),fr,Y.right.nd⟩
 have cd:ar A D d1:=((L.c 0).app cr λp b q y e=>I _ (L.n 0) q y p b e.symm).perm y2.symm;have ζ:cY Hb d1:=λp m=>by
  rcases mem_append.mp (y2.mem_iff.mp m) with m |m
  .exact hb.free (L.n 0 p m)
  .exact W.n i p (B p m)
 have W1:bc K k lo us Fb Hb A D G (fK hs (J.set i (hY t r u))) (λm=>if m=i then d1 else (if some m∈(some i::hs) then [] else cs m)):=by
  have:=W0.fill (i:=i) hv y1 cd ζ λm hm p b q y=>by
   rcases mem_append.mp (y2.mem_iff.mp y) with y |y
   .exact qM _ (L.n 0) m p b q y
   .split at b
    .cases b
    .exact W.d m i hm p b q (B q y)
  rw[show (fK (some i::hs) J).set i (hY t r u)=fK hs (J.set i (hY t r u)) by
   show ((fK hs J).set i .aA).set i _=_;rw[List.set_set];exact tZ hs J ni] at this
  exact this
 have θ:n=hs.length+1:=by rw[<- hn,lH,length_cons,a.len]
 refine wo L hb hs 1 (J.set i (hY t r u)) _ O.2 W1 (λm j e=>?_) (by omega) (λj m _ hm p b q y=>?_) qt λJ2 δ W2 γ q2=>?_
 .obtain⟨x,h1,h2⟩:=a.at_ e;exact⟨x,h1,by rw[show 1+m=m+1 by omega];exact h2⟩
 .by_cases ej:j=i
  .rw[if_pos ej] at b;rcases mem_append.mp (y2.mem_iff.mp b) with b |b
   .exact L.d 0 m (by omega) p b q y
   .exact I _ (L.n m) p b q y
  .rw[if_neg ej] at b;exact qM _ (L.n m) j p b q y
 .refine q t' v' A D J2 δ M ⟨l.trans g.le,W2,r'.base t' nl,ε,λp m=>hb.free (nc p m),λj p b q y=>?_⟩ q2;rcases γ j p b with z |⟨m,z⟩
  .by_cases ej:j=i
   .rw[if_pos ej] at z;rcases mem_append.mp (y2.mem_iff.mp z) with z |z
    .exact dj 0 p z q y
    .exact I _ nc p z q y
   .rw[if_neg ej] at z;exact qM _ nc j p z q y
  .exact dj m p z q y
def Sb(K:ao)(q:ai->Prop)(D:af->Nat->Prop)(m:Str)(i:Nat)(r:aj)(hs:bG)(aZ:Nat->fN)(d:b8):kN:=λj Q=>pV j[i]? λt=>mu K t r/\hW D m (cO t r) λc=>d j λe=>aZ c (cp (cO t r::e)) (λx a=>pV a[0]? λu=>cE u=true/\jx hs 1 a (j.set i (hY t r u)) λb=>Q x b) q
theorem Ue{aZ:Nat->fN}{R':St->XK}{q':ai->Prop}{r:aj}(hE:∀(us:aw)(Fb Hb F H:Hp)(j:St)(G:ah)(cs:Nat->Cs),bc K k lo us Fb Hb F H j G cs->∀b d u,q' b->Gr Fb Hb d u->R' j b none u)(nd:((some i::hs).filterMap id).Nodup)(hk:z=true->k.z=true)(hn:∀C xs Q q,aZ C xs Q q->xs.length=n)(h:p6 K k lo hs ta ph):nk K k lo (o9 D m (λC=>ib K z n n (aZ C)) R' (tR K i r) ta) (Sb K q' D m i r hs aZ ph):=λus Fb Hb F H j G cs Q Q' W p q=>by
 obtain⟨t,J,L,ok,p⟩:=sH p;obtain⟨f,C,fs,g,M,Y,hl,p⟩:=Gh p;rcases W.e i _ J with z |⟨v,A,U⟩
 .exact absurd z L
 obtain⟨w,c,rest,pm,l,cl,rd⟩:=place W.g.s (λ_=>W.g.h) A U (W.c i) r ok;have hc:ar F H c:=((W.c i).perm pm).left;have o:=l;rw[M] at o;obtain⟨a,I,vs,ds,rfl,N,O,_⟩:=o.l0 W.g.s (λ_=>W.g.h) hc;refine rd _ ⟨a,C,I,vs,g,rfl,N,Y,O.none_of hl,h us Fb Hb F H j G cs _ _ W p λts α B E x y ha p1=>?_⟩;exact RS y x A pm (l.mo x (λ_=>Le.refl _) _) (λd l'=>cl d (x.trans l')) ha nd hk (hn _ _ _ _ p1) (λb d u hq g=>hE us Fb Hb B E j G cs y b d u hq g) p1 q
end
section
def qQ(K:ao)(D:af->Nat->Prop)(m:Str)(i:Nat)(r:aj)(hs:bG)(aZ:Nat->bO)(d:b8):kN:=λj Q=>pV j[i]? λt=>mu K t r/\hW D m (cO t r) λc=>d j λe=>aZ c (cp (cO t r::e)) (λx a=>pV a[0]? λu=>cE u=true/\jx hs 1 a (j.set i (hY t r u)) λb=>Q x b)
theorem nG{D:af->Nat->Prop}{aZ:Nat->bO}(hp:PE X o (tR X.K i r))(j:∀C g,D C g->fv X.prog X.w X.K X.mg X.base bJ kj m C ps (bP X.K z n n (aZ g)))(l:QH X k lo (e::es) hs ph)(s:bw km X.A:=by assumption)(p:kj<=km:=by first |decide |omega)(q:z=true->k.z=true:=by first |exact id |exact λ_=>rfl)(hn:∀C xs Q,aZ C xs Q->xs.length=n:=by exact λ_ _ _ h=>h.1)(nd:((some i::hs).filterMap id).Nodup:=by decide)(a:dH e es X.env:=by rfl)(hpl:fk pos es X.env:=by rfl)(ht:pw X o m (e::es) apos pos pl:=by rfl):QL X k lo (.Call (.Attribute o m apos) (e::es) [] pos) (qQ X.K D m i r hs aZ ph):=by
 obtain⟨u,b,f⟩:=l.h;exact⟨_,Ac (R:=λ_=>E0) hp (λC g d=>(j C g d).mono p) s (rQ p0) b a hpl ht,Ue (q':=λ_=>False) (aZ:=λg xs Q _=>aZ g xs Q) (λ_ _ _ _ _ _ _ _ _ _ _ _ h=>h.elim) nd q (λC xs Q _=>hn C xs Q) f⟩
end
end Pu
namespace L2
open PySem PySem.Spec PyProof.Rows
section
def Dp:aw->Hp->VK->Prop:=λa H Q=>∃n:Nat,a=[.int n]/\n<=1000/\∀p,H p=none->Q (.ref p) (aQ H p (.je 0 n))
theorem Nt:bK X (.type "range") Dp:=by
 intro aa s j H f us Q I r h;obtain⟨n,rfl,hn,q⟩:=h;obtain⟨u,rfl,d⟩:=ja r;obtain⟨t,rfl⟩:=(show ∃t,u=Value.int n t from d);refine call_range_1 ⟨.ref s.heap.objs.size,_,I.laid (a:=s.heap.objs.size) (o:=.je 0 n) (t':=s.toks+1+1) (λb o e=>Heap.get?_push_of_some _ e) (le_refl _) ⟨_,_,_,Heap.get?_push_size _ rfl⟩,rfl,q _ (I.aN.fresh (le_refl _))⟩
def Ab:aw->Hp->VK->Prop:=λb H Q=>∃(a:af)(n:Nat),b=[.ref a]/\H a=some (.je 0 n)/\n<=1000/\∀p,H p=none->Q (.ref p) (aQ H p (.ag ((List.range n).map λi:Nat=>V.int (i:Int))))
theorem zr:∀(n:Nat)(m:Nat){bo:aM},bo.length=n->(∀(i:Nat)(v:ai),bo[i]?=some v->∃t,v=Value.int ((m+i:Nat):Int) t)->aI ((List.range' m n).map λi:Nat=>V.int (i:Int)) bo
 |0,m,[],_,_=>.nil
 |n + 1,m,x::bo,hl,h=>by
  obtain⟨t,e⟩:=h 0 x rfl;rw[List.range'_succ,map_cons];refine .cons ⟨t,e⟩ (zr n (m+1) (by simpa using hl) λi v a=>?_);obtain⟨t,e⟩:=h (i+1) v a;exact⟨t,by rw[e];congr 2;omega⟩
theorem Lr(p:X.calm=true):bK X (.type "list") Ab:=by
 intro aa s j H B us Q I r h;obtain⟨a,n,rfl,m,hn,q⟩:=h;obtain⟨u,rfl,y⟩:=ja r;cases y;obtain⟨t,u,v,e⟩:=I.aN a _ m;refine call_list_range (a:=0) (b:=n) (c:=1) (n:=n) (I.ok.hd p) e (small_one (by omega) (by omega) (by omega) (by omega)) (by rw[rangeSize_one];split<;>omega) (by omega) λA z d g w l f=>?_
 refine⟨.ref s.heap.objs.size,_,I.laid (a:=s.heap.objs.size) (o:=.ag ((List.range n).map λi:Nat=>V.int (i:Int))) (t':=z) w (le_refl _) ⟨by rw[length_map,length_range,sizeLine_eq];omega,d.toList,g,?_,by rw[Array.toArray_toList];exact l⟩,rfl,q _ (I.aN.fresh (le_refl _))⟩;have:=zr n 0 (bo:=d.toList) (by rw[length_toList];exact f.1) λi v x=>by
  obtain⟨t,e⟩:=f.2 i v (by rw[<- getElem?_toList];exact x);exact⟨t,by rw[e];congr 1;omega⟩
 rw[List.range_eq_range'];exact this
end
end L2
namespace Pu
open PySem L2 Vc Sf
section
def CW(t:Tr)(Q:av):Prop:=∃n:Nat,t=.int n/\n<=1000/\Q (.ag .o ((List.range n).map λi:Nat=>Tr.int (i:Int)))
theorem dZ:∀(ns:List Nat),Rs K F B (ns.map λi:Nat=>Tr.int (i:Int)) (ns.map λi:Nat=>V.int (i:Int)) []
 |[]=>⟨rfl,rfl⟩
 |n::ns=>⟨.int n,_,[],[],rfl,rfl,⟨rfl,rfl⟩,dZ ns⟩
theorem MV(h:bC K k te pe):bC K k (kO Ab (iS (kO Dp (iS te iU)) iU)) (p1 CW pe):=λF B H j i Q z c p q=>by
 refine h F B H j i _ _ c p λx v d f A p1 b=>?_
 obtain⟨n,rfl,hn,p1⟩:=p1;obtain⟨rfl,_⟩:=b.r;refine⟨n,rfl,hn,λp l=>⟨p,n,rfl,cq,hn,λp2 a=>?_⟩⟩;have e:Gr d f d (aQ f p (.je 0 n)):=Gr.gY b.g.s l;obtain⟨o,u,w⟩:=ku (K:=K) (B:=B) e.s (dZ (List.range n)) .nil a;refine q _ _ d _ _ p1 ⟨(b.g.trans' e).trans' o,u,w,λy m=>?_⟩;cases m with
 |head=>exact b.g.h.free (e.h.free a)
 |tail _ m=>cases m
theorem So{p p2 a:Pos}(l:X.calm=true)(m:Gl X "list")(hm:X.mg "list"=none)(b:Gl X "range")(d:X.mg "range"=none)(h:QE X k e pe)(f:dH e [] X.env:=by rfl)(g:starEach [Expr.Call (.Name "range" p2) [e] [] a] X.env=(false,eval (Expr.Call (.Name "range" p2) [e] [] a) X.env)::starEach [] X.env:=by rfl):
  QE X k (.Call (.Name "list" p) [.Call (.Name "range" p2) [e] [] a] [] pos) (p1 CW pe):=by
 obtain⟨n,i,j⟩:=h.h;exact⟨_,l9 (Lr l) m hm rfl (ju (l9 Nt b d rfl (ju i jT f) (he:=f)) jT g) (he:=g),MV j⟩
end
theorem ft{f:Str}{u:Tr}{r:bx}:List.lookup f ((f,u)::r)=some u:=by rw[lookup_cons,show (f == f)=true from beq_self_eq_true f]
theorem b4{f g:Str}{u:Tr}{r:bx}{v:Option Tr}(h:List.lookup f r=v)(e:(f == g)=false:=by decide +kernel):List.lookup f ((g,u)::r)=v:=by rw[lookup_cons,e];exact h
theorem yT{f:Str}:List.lookup f ([]:bx)=none:=rfl
theorem gP{K:ao}{f:Str}{g:Fl}{c:af}{fs:bx}{u:Tr}{Q:av}(a:gg K c/\bf K c f)(b:fs.lookup f=some u)(q:Q u):gO K f (.ins g c fs) Q:=⟨a,by rw[b];exact q⟩
theorem vA{D:af->Nat->Prop}{m:Str}{f:Fl}{c:af}{fs:bx}{n:Nat}{Q:Nat->Prop}(hd:D c n)(a:fs.lookup m=none)(q:Q n):hW D m (.ins f c fs) Q:=⟨n,hd,a,q⟩
theorem uh{K:ao}{j:ah}{i:Nat}{c:af}{fs:bx}{f:Str}{u:Tr}{Q:Tr->(Tr->ah)->Prop}(h:j[i]?=some (.ins .o c fs))(b:gg K c/\bf K c f)(a:fs.lookup f=some u)(q:Q u λv=>j.set i (.ins .o c (gf f v fs))):gS K j i [f] Q:=by
 unfold gS;rw[h];refine⟨⟨trivial,b,by rw[a];rfl⟩,?_⟩;show Q ((fs.lookup f).getD .aA) _;rw[a];exact q
theorem BK{K:ao}{D:af->Nat->Prop}{m:Str}{i:Nat}{f:Str}{hs:bG}{aZ:Nat->bO}{d:b8}{j:ah}{Q:Tr->aX}{c:af}{fs:bx}{u:Tr}(h:j[i]?=some (.ins .o c fs))(l:gg K c/\bf K c f)(a:fs.lookup f=some u)(q:hW D m u λg=>d j λp=>aZ g (cp (u::p)) (λx b=>pV b[0]? λv=>cE v=true/\jx hs 1 b (j.set i (.ins .o c (gf f v fs))) λn=>Q x n)):qQ K D m i [f] hs aZ d j Q:=by
 unfold qQ;rw[h];have e:cO (.ins .o c fs) [f]=u:=by show (fs.lookup f).getD .aA=u;rw[a];rfl
 refine⟨⟨trivial,l,by rw[a];rfl⟩,?_⟩;rw[e];exact q
section
def yP(K:ao)(i:Nat)(r:aj)(f:Str)(pe:aY):cg:=λD j=>pe (j.map aD) λt=>bL t=true/\gS K j i r λu s=>mU K f u λc fs=>D.nx (s (.ins .o c (adr f (ay t) fs)))
theorem SM(h:bC K k te pe):cS K k lo (xr K (tR K i r) te f) (yP K i r f pe):=λus Fb y F H j G cs D D' W p L=>by
 refine h F (Bq y H) H j _ _ _ W.eD p λu v F1 m c1 q o=>?_
 obtain⟨l,n,r2,l2⟩:=W.fa o q.1;obtain⟨t,J,M,N,p⟩:=o7 q.2;obtain⟨C,fs,O,ok,Y,p⟩:=DR p;obtain⟨w,c,r1,sub,U,rd,cl⟩:=n.at J M r N;rw[O] at r1;obtain⟨a,b,vs,I,rfl,s,x⟩:=r1;have Q:m a=some (.ins C b vs):=U.h (a,.ins C b vs) (by rw[s];exact .head _);obtain⟨g,d,A,B,E⟩:=x.put (f:=f) r2;obtain⟨e,z⟩:=cl l m n (Le.refl _) a (.ins C b vs) (.ins C b (fq f v vs)) I g [] (.ins .o C (adr f (ay u) fs)) ((a,.ins C b (fq f v vs))::d) s B .nil ri uP (List.Perm.cons _ E) ⟨a,b,_,d,rfl,rfl,A⟩;exact rd _ ⟨a,C,b,vs,rfl,Q,ok.1,ok.2,lt_of_lt_of_le (by rw[x.length];exact Y) (by decide),L.nx l _ j _ e z p⟩
theorem sx(hp:PE X o (tR X.K i r))(h:QE X k e pe)(hs:swapsWith e (some (.Attribute o f pos')) pos.line X.env=pure false:=by rfl):QS X k lo (.Assign [.Attribute o f pos'] e pos) (yP X.K i r f pe):=by
 obtain⟨d,a,b⟩:=h.h;exact⟨_,BJ hp a hs,SM b⟩
theorem MQ(K:ao)(i:Nat)(r:aj)(f:Str)(pe:aY)(D:Pd)(j:ah):yP K i r f pe D j=(pe (j.map aD) λt=>bL t=true/\gS K j i r λu s=>mU K f u λc fs=>D.nx (s (.ins .o c (adr f (ay t) fs)))):=rfl
end
end Pu
namespace L2
open PySem PySem.Spec PyProof.Rows
section
def Es(K:ao):R2:=λx y H Q=>∃(l:af)(a:aw)(n:Int),x=.ref l/\y=.int n/\bE K H l a/\0<=n/\n<=1000/\a.length<=100/\∀p,H p=none->Q (.ref p) (aQ H p (.ag (List.replicate n.toNat a).flatten))
theorem Nu:b6 X (binaryOp .Mult) (Es X.K):=by
 intro aa s j H x y v u Q I p w h;obtain⟨l,E,n,rfl,rfl,m,B,C,o,q⟩:=h;cases p;obtain⟨t,rfl⟩:=w;obtain⟨a,r,p1,G⟩:=I.list m;have i:=r.length;obtain⟨⟨A,f,D,d⟩,b,g,k,hd⟩:=p1.isList;simp only at g hd;subst g hd;have e:a.toArray.size*n.toNat<=100*1000:=by rw[size_toArray,<- i];exact mul_le_mul o (by omega)
 refine wpAny_binaryOp_repeat_ref (T:="list") (U:="int") (by decide) ⟨_,b,rfl⟩ (λz=>PySem.typeIs_int z n t) noFill_list_mul F.fills_int_mul F.slot_int_rmul repeat_list F.slot_int_index.lookup
  (call_meets F.slot_int_rmul (PySem.typeIs_int s n t) F.entry_int_rmul (F.args_int_rmul_2 _ _) (lm_int_rmul_list_any n t l a.toArray k f d)
   ⟨b,rfl,⟨_,b,rfl⟩,call_meets F.slot_list_mul ⟨_,b,rfl⟩ F.entry_list_mul (F.args_list_mul_2 _ _)
    (lm_list_mul_any l a.toArray k f d n t (by simp[Builtin.List.listFitsIndex];omega) (by omega) (by rw[size_toArray] at e;simp[Builtin.List.listTooLong,sizeLine];omega))
    ⟨b,?_⟩⟩)
 rw[listMul_foldl_if];refine⟨.ref _,_,I.qg (t':=s.toks) (r.rep n.toNat) ?_,rfl,q _ I.fresh⟩;rw[List.length_flatten,List.map_replicate,List.sum_replicate_nat,i,Nat.mul_comm];rw[size_toArray] at e;exact le_trans e (by decide)
end
end L2
namespace Pu
open PySem L2 Vc Sf
section
def sW(x y:Tr)(Q:av):Prop:=match x,y with
 |.ag _ [a],.int n=>Cl a=true /\ 0 <= n /\ n <= 1000 /\ Q (.ag .o (List.replicate n.toNat a))
 |_,_=>False
mutual
theorem R.oK:∀(t:Tr){v:V}{c:Cs},Cl t=true->R K F B t v c->c=[]
 |.int _,_,_,_,h=>h.2
 |.bl _,_,_,_,h=>h.2
 |.str _,_,_,_,h=>h.2
 |.aL,_,_,_,h=>h.2
 |.aA,_,_,_,h=>h.elim
 |.ty _,_,_,_,h=>h.2
 |.cl _,_,_,_,h=>h.2
 |.exc _,_,_,_,h=>h.1
 |.aG xs,_,_,n,y=>by obtain⟨a,vs,d,e,b⟩:=y;exact Rs.oK xs n b
 |.ag .f xs,_,_,_,h=>h.1
 |.ag .o xs,_,_,n,_=>nomatch n
 |.ag (.l _) xs,_,_,n,_=>nomatch n
 |.aS .f xs,_,_,_,h=>h.1
 |.aS .o xs,_,_,n,_=>nomatch n
 |.aS (.l _) xs,_,_,n,_=>nomatch n
 |.ins .f _ xs,_,_,_,h=>h.1
 |.ins .o _ xs,_,_,n,_=>nomatch n
 |.ins (.l _) _ xs,_,_,n,_=>nomatch n
theorem Rs.oK:∀(t:List Tr){v:List V}{c:Cs},fg t=true->Rs K F B t v c->c=[]
 |[],_,_,_,h=>h.2
 |x::xs,_,_,n,y=>by
  obtain⟨v,r,c,d,f,a,b,e⟩:=y;have n:(Cl x&&fg xs)=true:=n;rw[and_eq_true] at n;rw[a,R.oK x n.1 b,Rs.oK xs n.2 e];rfl
end
theorem Rs.rep(r:R K F B a v []):∀n:Nat,Rs K F B (List.replicate n a) (List.replicate n [v]).flatten []
 |0=>⟨rfl,rfl⟩
 |n + 1=>⟨v,(List.replicate n [v]).flatten,[],[],rfl,rfl,r,Rs.rep r n⟩
theorem Qu:eK K k (Es K) sW:=λF B H x y U ty cx J Q I s b z E G A O hd p q=>by
 unfold sW at p;split at p
 .rename_i a n;obtain⟨D,C,p1,p2⟩:=p;obtain⟨rfl,_⟩:=G;obtain⟨l,vs,L,rfl,o,u,M,N⟩:=E.cv s b A;obtain⟨v,r,c,d,rfl,rfl,e,⟨rfl,rfl⟩⟩:=u;rw[R.oK a D e] at e;exact⟨_,_,_,rfl,rfl,o,C,p1,(show 1<=100 by decide),λl w=>uH (cx:=cx) s (Rs.rep e n.toNat) .nil (λ_ m=>nomatch m) w p2 λt v f i j h g r c m=>q t v f i j h g r c λp z=>(m p z).imp id .inl⟩
 .exact p.elim
theorem wI(d:QE X k a pa)(e:QE X k b pb):QE X k (.BinOp a .Mult b pos) (p2 sW pa pb):=mO Nu Qu d e
theorem Hj:sW (.ag f [a]) (.int n) Q=(Cl a=true/\0<=n/\n<=1000/\Q (.ag .o (List.replicate n.toNat a))):=rfl
end
section
variable{K:ao}{mg:bu}{h:aT}{x qual:Str}{st:Stmt}{ps:aj}{f c:af}
set_option genInjectivity false in
set_option genSizeOf false in
structure dD(K:ao)(mg:bu)(x:Str)(st:Stmt)(ps:aj) where
 a:Addr
 d:FuncData
 F:gM K x x st a d
 b:Binds K d ps []
 m:mg x=some (.ref a)
set_option genInjectivity false in
set_option genSizeOf false in
structure eO(K:ao)(c:af)(x qual:Str)(st:Stmt)(ps:aj) where
 a:Addr
 d:FuncData
 F:gM K x qual st a d
 b:Binds K d ps []
 t:Cd K c x a
set_option genInjectivity false in
set_option genSizeOf false in
structure uq(K:ao)(c:af)(qual:Str)(st:Stmt)(ps:aj) where
 a:Addr
 d:FuncData
 F:gM K "__init__" qual st a d
 b:Binds K d ps []
 t:Mk K c a
abbrev jB(x qual:Str)(st:Stmt)(ps:aj):Prop:=∀(kV doc pm:ai)(an:c7)(a7 ct:ai)(us:aM),us.length=ps.length->bindArgs (W.fnOf x qual (nK st) (i9 st) (bD st) .none kV doc pm an a7 ct) ⟨us,[]⟩=pure (ps.zip us)
noncomputable def OP(X:K.In h)(G:h.Ns mainGlobals mg)(e:W.nsIn K mainGlobals x=some (some (.ref f)))(F:gu K x x st f)(a:jB x x st ps):dD K mg x st ps:=⟨f,F.choose,F.choose_spec,F.choose_spec.binds a,W.mg_of X G e⟩
noncomputable def JD(e:W.findIn K (.ref c) x=some (some (.ref f)))(F:gu K x qual st f)(i:W.isFn K (.ref f)=true)(a:jB x qual st ps):eO K c x qual st ps:=⟨f,F.choose,F.choose_spec,F.choose_spec.binds a,⟨e,i,F.kp⟩⟩
noncomputable def OS(e:W.findIn K (.ref c) "__init__"=some (some (.ref f)))(F:gu K "__init__" qual st f)(i:W.isFn K (.ref f)=true)(m:W.makesIn K c=true)(k:W.keepIn K (.ref c)=true)(a:jB "__init__" qual st ps):uq K c qual st ps:=⟨f,F.choose,F.choose_spec,F.choose_spec.binds a,⟨m,e,i,k⟩⟩
abbrev Az(K:ao)(c:af)(vs:aw):Prop:=∃(o:Obj)(a:dm)(n:Nat),K.lookup c=some o/\o.cls=.type "tuple"/\o.data=.seq a n/\a.size<=sizeLine/\aI vs a.toList
theorem xQ(e:W.findIn K (.ref c) x=some none):bf K c x:=e
end
end Pu
namespace L2
section
open PySem PySem.W PySem.Builtin PySem.Builtin.ObjectAttr
def fX:aM:=[.type "ValueError",.type "Exception",.type "BaseException",.type "object"]
def mX(K:Frag)(C F:af):Bool:=(clsIn K C).any λa=>a.mro == .ref C::.ref F::fX&&a.hasDict
section
variable{prog:Program}{w:World}{A:Around}{E:ai->ak->Prop}{s:ak}{K:Frag}{x C F:af}{R:Result->ak->Prop}
theorem EJ{n:Obj}{od:Option Obj}{a:Str}{d:Tok}{v:ai}(X:K.In s.heap)(I:InstAt s.heap x n C od)(hp:mX K C F=true)(ht:findIn K (.ref C) a=some none)(h:wpAny (model prog w) A.in1 (storeInOwnDict (.ref x) (.ref C) (.str a d) a v false)
   (λg s'=>match g with |.done f=>R (.ok f) s' |.again j=>j.quiet=true/\codeAny (model prog w) A j R s') (λe s'=>R (.error e) s') s):
  codeAny (model prog w) A (.call (.builtin "object.__setattr__") ⟨[.ref x,.str a d,v],[]⟩) R s:=by
 have b:=PySem.F.store_object;obtain⟨m,l,i⟩:=any_some hp;simp only[and_eq_true,beq_iff_eq] at i;have sub:Looks (model prog w) s.heap (isInstance (.ref x) (.type "object")) true:=I.type.andThen (looks_mroIn X (by unfold mroIn;rw[l,Option.bind_some,i.1,if_neg (by exact Bool.false_ne_true)];exact congrArg some (by unfold fX;simp only[List.contains_cons,List.contains_nil];rw[show (Value.type "object" == Value.type "object")=true from by decide];simp)));refine codeAny_call_builtin b.slot.plain b.entry (@check_slot (model prog w) _ _ s "object.__setattr__" "object" "__setattr__" (.ref x) [.str a d,v] [] _ b.kind b.split sub (b.args (.ref x) (.str a d) v) ?_);have hm:Looks (model prog w) s.heap (mroOf (.ref C)) m.mro:=(looks_clsIn X l).andThen .now;rw[osa_eq,refuse_eq];refine wpAny_bind (wpAny_bind (I.type.here (wpAny_bind (hm.here ?_))));rw[i.1,refuseLoop_ref,refuseLoop_ref,show refuseLoop (.ref x) "__setattr__" fX=pure () from PySem.F.store_ValueError.passes _];exact wpAny_pure (wpAny_bind (I.type.here (wpAny_bind ((looks_findIn X ht).here (wpAny_bind (wpAny_pure h))))))
theorem Wt{vs:dm}{a:Str}{v:ai}{Q:Unit->ak->Prop}(X:K.In s.heap)(j:s.heap.get? x=some ⟨.ref C,none,.fields vs,#[]⟩)(hp:mX K C F=true)(ht:findIn K (.ref C) a=some none)(hs:findIn K (.ref C) "__setattr__"=some (some (.builtin "object.__setattr__")))(h:∀h' d,s.heap.get? d=none->h'.get? x=some ⟨.ref C,some d,.fields vs,#[]⟩->(h'.Ns1 d λy=>if y=a then some v else none)->(∀b o,b≠x->s.heap.get? b=some o->h'.get? b=some o)->Q () { s with heap:=h',toks:=s.toks+2 }):
  wpAny (model prog w) A (setAttr (.ref x) a v) Q E s:=by
 have I:InstAt s.heap x ⟨.ref C,none,.fields vs,#[]⟩ C none:=⟨j,rfl,rfl,trivial⟩
 refine set_plain X I hs (EJ (s:={ s with toks:=s.toks+1 }) X I hp ht ?_);obtain⟨J,G,z⟩:=any_some hp;simp only[and_eq_true,beq_iff_eq] at z;have f:(s.heap.push { cls:=.type "dict",data:=.dict #[] }).get? x=some ⟨.ref C,none,.fields vs,#[]⟩:=Heap.get?_push_of_some _ j;have i:x≠s.heap.objs.size:=ne_of_lt (Heap.lt_size j);refine wpAny_bind (wpAny_pure (wpAny_bind (wpAny_bind (wpAny_loadPart j (wpAny_bind (Looks.here (s:={ s with toks:=s.toks+1 }) (looks_clsIn X G) ?_))))));rw[z.2];refine wpAny_bind (wpAny_alloc' ?_);refine wpAny_bind (wpAny_update' f ?_);refine wpAny_pure ?_;have p:((s.heap.push { cls:=.type "dict",data:=.dict #[] }).update x λo=>{ cls:=o.cls,dict:=some s.heap.objs.size,data:=o.data,slots:=o.slots }).get? s.heap.objs.size=some { cls:=.type "dict",data:=.dict #[] }:=
  (Heap.get?_update_ne _ _ _ _ i.symm).trans (Heap.get?_push_at rfl rfl)
 have q:((s.heap.push { cls:=.type "dict",data:=.dict #[] }).update x λo=>{ cls:=o.cls,dict:=some s.heap.objs.size,data:=o.data,slots:=o.slots }).Ns s.heap.objs.size (λ_=>none):=
  ⟨_,#[],_,p,rfl,λe H=>absurd H (by simp),λ_=>rfl⟩
 show wpAny _ _ (storeInDict s.heap.objs.size (.str a _) a v) _ _ _;unfold storeInDict newKeyGuard;refine wpAny_bind (wpAny_pure (wpAny_bind (wpAny_nsSet1 (Heap.Ns1.of_empty q) λh' g hs=>?_)));obtain⟨L,D,B,r,n,m⟩:=g.count (Within.cons a v Within.nil);refine wpAny_bind (wpAny_lookBehind r (by rw[n];exact pastItsLine_dict (le_trans m (by rw[length_cons,length_nil,sizeLine_eq];omega))) ?_);refine wpAny_pure (h h' _ (Heap.get?_none_of_le (le_refl _)) ?_ g λb M l u=>?_)
 .exact (hs.2 x i).trans (Heap.get?_update_self _ f rfl)
 .exact (hs.2 b (ne_of_lt (Heap.lt_size u))).trans ((Heap.get?_update_ne _ _ _ _ l).trans (Heap.get?_push_of_some _ u))
theorem UC{vs:dm}{a:Str}{v:ai}{d:af}{m:bu}{ns:aj}{Q:Unit->ak->Prop}(X:K.In s.heap)(j:s.heap.get? x=some ⟨.ref C,some d,.fields vs,#[]⟩)(hd:s.heap.Ns1 d m)(hp:mX K C F=true)(ht:findIn K (.ref C) a=some none)(hs:findIn K (.ref C) "__setattr__"=some (some (.builtin "object.__setattr__")))(q:Within m ns)(hz:ns.length<=1000)(h:∀h',(h'.Ns1 d λy=>if y=a then some v else m y)->Heap.SameBut d s.heap h'->Q () { s with heap:=h',toks:=s.toks+2 }):
  wpAny (model prog w) A (setAttr (.ref x) a v) Q E s:=by
 obtain⟨od,D,B,l,u,z⟩:=id hd;have I:InstAt s.heap x ⟨.ref C,some d,.fields vs,#[]⟩ C (some od):=⟨j,rfl,rfl,l⟩;refine set_plain X I hs (EJ (s:={ s with toks:=s.toks+1 }) X I hp ht ?_);obtain⟨r,p,i⟩:=any_some hp;simp only[and_eq_true,beq_iff_eq] at i;refine wpAny_bind (wpAny_pure (wpAny_bind (wpAny_bind (wpAny_loadPart j (wpAny_bind (Looks.here (s:={ s with toks:=s.toks+1 }) (looks_clsIn X p) ?_))))));rw[i.2];refine wpAny_pure ?_;show wpAny _ _ (storeInDict d (.str a _) a v) _ _ _;unfold storeInDict newKeyGuard;refine wpAny_bind (wpAny_pure (wpAny_bind (wpAny_nsSet1 (s:={ s with toks:=s.toks+1 }) hd λh' b hs=>?_)));obtain⟨G,o,n,g,f,e⟩:=b.count (Within.cons a v q);refine wpAny_bind (wpAny_lookBehind g (by rw[f];exact pastItsLine_dict (le_trans e (by rw[length_cons,sizeLine_eq];omega))) ?_);exact wpAny_pure (h h' b hs)
end
theorem Hv{K:Frag}{h:aT}{N:af}{m:bu}{n:Str}{v:ai}(X:K.In h)(G:h.Ns N m)(e:nsIn K N n=some (some v)):m n=some v:=by
 obtain⟨o,g,f,b,hd,_,a⟩:=G;unfold nsIn at e;split at e
 .rename_i c d es' n' sl q;have:=X _ _ q;rw[b] at this;cases this;cases hd;split at e
  .rename_i en he;cases e;rw[<- a];unfold nsFind findBy;rw[<- Array.find?_toList,he];rfl
  .split at e<;>cases e
 .cases e
def nW(K:Frag)(C a:af):Bool:=match K.lookup C with
 |some ⟨.type "type",_,.cls cd,sl⟩=>(match cd.mro,sl.toList with
  |.ref C'::bm,[_,_,_,_,some (.builtin n),_]=>C' == C&&n == "ValueError.__new__" && !cd.hasDel&&tailIn K fX bm&&nsOkIn K cd.ns&&nsIn K cd.ns "__init__" == some (some (.ref a))
  |_,_=>false)
 |_=>false
theorem zp{K:Frag}{h:aT}{C e:af}(X:K.In h)(q:nW K C e=true):
  ∃bm N nm f bs hd sn sub ab col dd k0 k1 k2 k3 k5 mN,h.get? C=some (excClassObj nm f C N bs bm hd sn sub ab col dd k0 k1 k2 k3 k5 "ValueError.__new__")/\h.Ns N mN/\mN "__init__"=some (.ref e)/\OwnTail h fX bm:=by
 unfold nW at q;split at q
 case h_2=>cases q
 case h_1 ddc cdc slc hlook=>
  split at q
  case h_2=>cases q
  case h_1 Cc bmc k0 k1 k2 k3 nn k5 hmro hslots=>
   simp only[and_eq_true,beq_iff_eq,Bool.not_eq_true'] at q;obtain⟨⟨⟨⟨⟨i,j⟩,b⟩,l⟩,a⟩,d⟩:=q;obtain⟨nm,bs,m,ns,f,hd,sn,sub,ab,col,g⟩:=cdc;dsimp only at hmro b a d;obtain⟨n⟩:=slc;simp only at hslots;subst i j b hmro hslots;exact⟨_,_,_,_,_,_,_,_,_,_,_,_,_,_,_,_,_,X _ _ hlook,.of_isNs (isNs_of_in X a),Hv X (.of_isNs (isNs_of_in X a)) d,tail_of_in X l⟩
section
variable{prog:Program}{w:World}{A:Around}{E:ai->ak->Prop}{h:aT}{g:Array GenState}{d:Drawn}{t:Nat}{os:OsState}
variable{nm q:Str}{C N:af}{bs bm:aM}{hdct:Bool}{sn:aj}{sub:aM}{ab:Bool}{col:Option Bool}{dd:c7}{k0 k1 k2 k3 k5:d0}
theorem LR(T:OwnTail h fX bm){mN:bu}{rest:aM}{p:af}{z:Obj}{Q:Fin->ak->Prop}(n:h.get? C=some (excClassObj nm q C N bs bm hdct sn sub ab col dd k0 k1 k2 k3 k5 "ValueError.__new__"))(hn:h.Ns N mN)(D:mN "__init__"=some (.ref p))(u:h.get? p=some z)(y:z.cls=.type "function")(f:rest.length<=1000)(G:∀h' e,Heap.MadeExcOf h h' e (.ref C) rest->h.objs.size<=e->
   wpAny (model prog w) A (call (.ref p) (.ref e::rest)) (λr s'=>r=.none/\Q (.done (.ret (.ref e))) s') E ⟨h',g,d,t,os⟩):
  wpAny (model prog w) A (Builtin.«type.__call__» ⟨.ref C::rest,[]⟩) Q E ⟨h,g,d,t,os⟩:=by
 have F:=PySem.F.excBase_ValueError;have f:rest.length<=sizeLine:=by rw[sizeLine_eq];omega
 repeat (first |with_reducible refine wpAny_loadPart_at n ?_ |with_reducible refine wpAny_madeBy_exc n ?_ |wp_step)
 refine codeAny_call_builtin_code (Code.quiet_builtin _ F.quiet) (wpAny_check_new_subT F T n ?_);refine codeAny_exc_new_subT F T n ?_ f;show wpAny _ _ _ _ _ _;have a:=Heap.get?_push_of_some { cls:=.ref C,data:=.fields #[.ref h.objs.size,.none,.none,.none,.bool false,.none] }
  (Heap.get?_push_of_some { cls:=.type "tuple",data:=.seq rest.toArray } n)
 have i:=Heap.get?_push_of_some { cls:=.ref C,data:=.fields #[.ref h.objs.size,.none,.none,.none,.bool false,.none] }
  (Heap.get?_push_of_some { cls:=.type "tuple",data:=.seq rest.toArray } u)
 have l:((h.push { cls:=.type "tuple",data:=.seq rest.toArray }).push { cls:=.ref C,data:=.fields #[.ref h.objs.size,.none,.none,.none,.bool false,.none] }).Ns N mN:=
  let ⟨o,es,ep,e,r⟩:=hn;⟨o,es,ep,Heap.get?_push_of_some _ (Heap.get?_push_of_some _ e),r⟩
 have j:((h.push { cls:=.type "tuple",data:=.seq rest.toArray }).push
   { cls:=.ref C,data:=.fields #[.ref h.objs.size,.none,.none,.none,.bool false,.none] }).get? (h.objs.size+1)=some
   { cls:=.ref C,data:=.fields #[.ref h.objs.size,.none,.none,.none,.bool false,.none] }:=by heap_get
 have s:(Value.ref C::bm).contains (.ref C)=true:=by simp
 have m:=T.keeps (h':=(h.push { cls:=.type "tuple",data:=.seq rest.toArray }).push { cls:=.ref C,data:=.fields #[.ref h.objs.size,.none,.none,.none,.bool false,.none] })
  λb o e=>Heap.get?_push_of_some _ (Heap.get?_push_of_some _ e)
 unfold isInstance
 repeat (first |with_reducible refine wpAny_loadPart_at j ?_ |(with_reducible refine wpAny_isSubtype_exc a ?_;rw[s]) |wp_step)
 show wpAny _ _ (typeLookup (.ref C) _) _ _ _;refine wpAny_typeLookup_tail a l m F.mroIs F.init.lookup ?_;rw[D];refine wpAny_holding (wpAny_bind ?_);unfold bindSpecial;refine wpAny_bind (wpAny_typeOf (T:="function") ⟨_,i,y⟩ ?_);rw[if_pos (by decide)];refine wpAny_pure (wpAny_bind (wpAny_mono (G _ (h.objs.size+1) ⟨λb o B=>Heap.get?_push_of_some _ (Heap.get?_push_of_some _ B),Heap.get?_none_of_le (Nat.le_succ _),h.objs.size,j,Heap.get?_none_of_le (le_refl _),?_⟩ (Nat.le_succ _)) (λr s' H=>?_) λ_ _ x=>x))
 .exact Heap.get?_push_of_some _ (Heap.get?_push_at rfl rfl)
 .obtain⟨rfl,hQ⟩:=H
  wp_walk
  exact hQ
theorem M9(T:OwnTail h fX bm){mN:bu}{rest:aM}{f:af}{l:Obj}{Q:ai->ak->Prop}(b:h.get? C=some (excClassObj nm q C N bs bm hdct sn sub ab col dd k0 k1 k2 k3 k5 "ValueError.__new__"))(hn:h.Ns N mN)(m:mN "__init__"=some (.ref f))(i:h.get? f=some l)(j:l.cls=.type "function")(a:rest.length<=1000)(o:∀h' e,Heap.MadeExcOf h h' e (.ref C) rest->h.objs.size<=e->
   wpAny (model prog w) (A.under (.builtin "type.__call__" ⟨.ref C::rest,[]⟩)) (call (.ref f) (.ref e::rest)) (λr s'=>r=.none/\Q (.ref e) s') E ⟨h',g,d,t,os⟩):
  wpAny (model prog w) A (call (.ref C) rest) Q E ⟨h,g,d,t,os⟩:=by
 have p:=tc_lookup;have s:=tc_bind (.ref C);have u:(⟨h,g,d,t,os⟩:ak).TypeIs (.ref C) "type":=⟨_,b,rfl⟩
 refine wpAny_call (codeAny_of_tree ?_);show wpAny _ _ (callAny (.ref C) _) _ _ _
 repeat (any_goals (first |assumption |with_reducible refine wpAny_loadPart_at b ?_ |wp_step))
 refine⟨rfl,?_⟩;refine codeAny_call_builtin_at (Code.quiet_builtin _ (by decide +kernel)) entry_typeCall (wpAny_check_type_call_sub b (LR T b hn m i j a λh' e hm n=>?_));exact o h' e hm n
theorem Pk(T:OwnTail h fX bm)(a:h.get? C=some (excClassObj nm q C N bs bm hdct sn sub ab col dd k0 k1 k2 k3 k5 "ValueError.__new__")){e:af}{od:c7}{l:af}{u:ai}{Q:ai->ak->Prop}(he:h.get? e=some ⟨.ref C,od,.fields #[.ref l,.none,.none,.none,.bool false,.none],#[]⟩)(j:∀h' t',h.get? t'=none->h'.get? e=some ⟨.ref C,od,.fields #[.ref t',.none,.none,.none,.bool false,.none],#[]⟩->(∀b o,b≠e->h.get? b=some o->h'.get? b=some o)->Q .none ⟨h',g,d,t,os⟩):
  wpAny (model prog w) A (call (.builtin "ValueError.__init__") [.ref e,u]) Q E ⟨h,g,d,t,os⟩:=by
 have F:=PySem.F.excBase_ValueError;refine wpAny_call (codeAny_call_builtin F.init.plain F.initEntry (wpAny_check_init_subU F T a he rfl ?_))
 wp_walk
 refine j _ h.objs.size (Heap.get?_none_of_le (le_refl _)) ?_ λb o f i=>?_
 .rw[Heap.get?_update_self _ (Heap.get?_push_of_some _ he) rfl];rfl
 .rw[Heap.get?_update_other _ _ (Ne.symm f)];exact Heap.get?_push_of_some _ i
end
end
end L2
namespace L2
open PySem PySem.Spec PyProof.Rows
section
variable{M:Model}{A:Around}{E:ai->ak->Prop}{env:Env}
variable{nm q:Str}{C N:af}{bs bm:aM}{hdct:Bool}{sn:aj}{sub:aM}{ab:Bool}{col:Option Bool}{dd:c7}{k0 k1 k2 k3 k5:d0}{newId:String}
theorem Tc{s:ak}{x:Sem Value}{Q:Flow->ak->Prop}(b:bm.contains (.type "BaseException")=true)(n:A.handled=none)(h:wpAny M A x (λv a=>∃e od t,v=.ref e/\a.heap.get? C=some (excClassObj nm q C N bs bm hdct sn sub ab col dd k0 k1 k2 k3 k5 newId)/\
   a.heap.get? e=some ⟨.ref C,od,.fields #[.ref t,.none,.none,.none,.bool false,.none],#[]⟩/\E (.ref e) a) E s):
  wpAny M A (raiseStmt env (some x) none) Q E s:=by
 have i:(Value.ref C::bm).contains (.type "BaseException")=true:=by rw[List.contains_cons,b,Bool.or_true]
 unfold raiseStmt;refine wpAny_bind (wpAny_mono h (λv a f=>?_) λ_ _ x=>x);obtain⟨e,od,t,rfl,j,m,l⟩:=f;obtain⟨o,g,d,p,os⟩:=a
 repeat (first |with_reducible refine wpAny_loadPart_at m ?_ |with_reducible refine wpAny_loadPart_at j ?_ |(with_reducible refine wpAny_isSubtype_exc j ?_;rw[i]) |wp_step)
 exact wpAny_raiseNew_none n l
end
def XO(C e:af)(od:c7):HO:=.ext λh=>∃t:Addr,h.get? e=some ⟨.ref C,od,.fields #[.ref t,.none,.none,.none,.bool false,.none],#[]⟩
def XD(d:af)(ns:aj):HO:=.ext λh=>∃m,h.Ns1 d m/\PySem.Within m ns
theorem xg{P:Program}{w:World}{H:Hp}{h:aT}{C e t:af}{od:c7}(x:h.get? e=some ⟨.ref C,od,.fields #[.ref t,.none,.none,.none,.bool false,.none],#[]⟩):a6 P w H h e (XO C e od):=⟨⟨t,x⟩,⟨_,x⟩,λ_ _ ⟨t,z⟩ k=>⟨t,k _ z⟩⟩
theorem AG{P:Program}{w:World}{H:Hp}{h:aT}{d:af}{ns:aj}{m:bu}(x:h.Ns1 d m)(y:PySem.Within m ns):a6 P w H h d (XD d ns):=⟨⟨m,x,y⟩,let ⟨o,_,_,e,_⟩:=x;⟨o,e⟩,λ_ _ ⟨m,z,y⟩ k=>⟨m,z.at k,y⟩⟩
theorem TK{H:Hp}{a:af}{o:HO}(h:H a=some o):aQ H a o=H:=by
 funext b;unfold aQ;split
 .subst_vars;exact h.symm
 .rfl
structure pN(K:ao)(C F fI:af):Prop where
 ex:nW K C fI=true
 ov:mX K C F=true
 sa:W.findIn K (.ref C) "__setattr__"=some (some (.builtin "object.__setattr__"))
 kp:W.keepIn K (.ref C)=true
 fn:W.isFn K (.ref fI)=true
 rd:W.readsIn K F (.type "type")=true
 sp:W.specialIn K (.ref F) "__getattribute__"=some (some (.builtin "type.__getattribute__"))
 fc:W.findCls K (.ref F) (.type "type") "__init__"=some (.val (.builtin "ValueError.__init__"))
section
variable{X:Cx}
theorem Ul{M:Model}{A:Around}{E:ai->ak->Prop}{s:ak}{env:Env}{pos:Pos}{id:String}{e:Expr}{rest:bH}{Q:ai->ak->Prop}(h:wpAny M A (spliced (backTo pos (starEach (e::rest) env))) (λvs b=>wpAny M A (call (.builtin id) vs) Q E b) E s)(he:dH e rest env)(a:fk pos rest env):wpAny M A (callWith pos (.builtin id) [] (backTo pos (starEach (e::rest) env)) []) Q E s:=by
 rw[he] at h ⊢;exact PySem.Calls.callWith_builtin (by show (false || (backTo pos (starEach rest env)).any (·.1))=false;rw[a];rfl) (PySem.Calls.evalArgs_plain h)
def DV(C:af)(t:TA):TE:=λj H Q=>t j H λvs a=>∃e od u,vs=[.ref e,u]/\a e=some (XO C e od)/\Q .aL a
theorem G8{C F Y:af}{x:Str}{E m pos:Pos}{l i:Expr}{t:TA}{pl:Sem Bool}(c:pN X.K C F Y)(hg:Gl X x)(hm:X.mg x=some (.ref F))(ha:PA X [l,i] t)(A:du x:=by decide)(D:dH l [i] X.env:=by rfl)(hpl:fk pos [i] X.env:=by rfl)(ht:eval (.Call (.Attribute (.Name x E) "__init__" m) [l,i] [] pos) X.env=(do
   let ov <- eval (.Name x E) X.env
   standAt m.atName
   let (f,first) <- holding [ov] (getMethod ov "__init__" pl)
   callWith pos f first (backTo pos (starEach [l,i] X.env)) (backToKw pos (keywordEach [] X.env))):=by rfl):
  PE X (.Call (.Attribute (.Name x E) "__init__" m) [l,i] [] pos) (DV C t):=by
 intro aa s j H Q I h;refine W.methodCall_KW (pl:=pl) (lL I hg hm ?_ A) ht;refine W.method_cls I.cJ c.sp (W.cls_value I.cJ c.rd c.fc rfl ?_);have M:=I.tok (s.toks+1);refine Ul (bh (ha pos aa _ j H _ M h) λus s1 G=>?_) D hpl;obtain⟨vs,L,y,r,e,od,u,U,B,q⟩:=G;subst U;obtain⟨w,n,rfl,rx,r1⟩:∃w n,us=w::n/\aE (.ref e) w/\aI [u] n:=by cases r with |cons a b=>exact⟨_,_,rfl,a,b⟩
 obtain⟨u2,rfl,ru⟩:=ja r1;obtain rfl:w=Value.ref e:=rx;obtain⟨bm,N,nm,qn,bs,hd,sn,sub,ab,O,dd,k0,k1,k2,k3,k5,mN,hC,_,_,T⟩:=zp y.cJ c.ex;obtain⟨⟨t0,ho⟩,_,_⟩:=y.aN e _ B;obtain⟨hp,g,d,tk,os⟩:=s1;refine Pk T hC ho λh' t' _ p hk=>?_
 have J:=y.write (x:=e) (e:=e) (o:=XO C e od) (h':=h') (t':=tk) (by rw[B];exact True.intro) (.inl rfl) (λb u hb z=>hk b u hb z) ⟨_,p⟩ (xg p);rw[TK B] at J;exact⟨.aL,L,J,rfl,q⟩
def xf(C:af)(g h:TE)(f:Str):TS:=λD j H=>h j H λ_ b=>g j b λx a=>∃e,x=.ref e/\
 ((a e=some (XO C e none)/\∀d,a d=none->d≠e->D.nx j (aQ (aQ a d (XD d [f])) e (XO C e (some d))))\/
  ∃d ns,a e=some (XO C e (some d))/\a d=some (XD d ns)/\ns.length<=900/\D.nx j (aQ a d (XD d (f::ns))))
theorem As{C F fI:af}{o value:Expr}{f:Str}{pos i:Pos}{ta tv:TE}(c:pN X.K C F fI)(nf:W.findIn X.K (.ref C) f=some none)(ha:PE X o ta)(hv:PE X value tv)(hs:swapsWith value (some (.Attribute o f i)) pos.line X.env=pure false):PS X (.Assign [.Attribute o f i] value pos) (xf C ta tv f):=by
 intro aa s j H D I h;refine plainObj_wpAny_Assign_Attribute (bh (hv aa s j H _ I h) λu s1 Q=>?_) hs;obtain⟨y,H1,I1,ry,q⟩:=Q;refine bh (ha aa s1 j H1 _ I1 q) λov s2 U=>?_
 obtain⟨x,l,a,rx,e,ex,J⟩:=U;subst ex;obtain rfl:ov=Value.ref e:=rx;rcases J with⟨r,J⟩ |⟨d,ns,r,hd,hz,J⟩
 .obtain⟨⟨t0,ho⟩,_,_⟩:=a.aN e _ r;refine Wt a.cJ ho c.ov nf c.sa λh' d cN G M L=>?_
  have N:d≠e:=λz=>by rw[z,ho] at cN;cases cN
  have A:l d=none:=by
   cases z:l d with
   |none=>rfl
   |some v=>obtain⟨o',Y⟩:=(a.aN d v z).has;rw[cN] at Y;cases Y
  have nd:∀b v,l b=some v->b≠d:=λb v z w=>by rw[w,A] at z;cases z
  have up:∀b v,l b=some v->b≠e->aQ (aQ l d (XD d [f])) e (XO C e (some d)) b=some v:=λb v z n=>by rw[ba n,ba (nd b v z)];exact z
  have ne:∀b v,l b=some v->v≠XO C e none->b≠e:=λb v z n w=>by rw[w,r] at z;cases z;exact n rfl
  have O:∀b,l b=none->b≠e:=λb z w=>by rw[w,r] at z;cases z
  refine⟨j,_,a.un (t':=s2.toks+2) ⟨λb o z n _ _=>L b o (O b n) z,λb o z n _ _=>⟨o.slots,L b o (O b n) z⟩,λb o z n _=>?_,λb o z _=>?_,λb xs z=>up b _ z (ne b _ z λw=>by cases w),λb o u z=>up b _ z (ne b _ z λw=>by cases w),
   λb ps z=>⟨#[],by rw[Array.append_empty];exact up b _ z (ne b _ z λw=>by cases w)⟩⟩ λb v z=>?_,J d A N⟩
  .rw[ba (O b n),ba (λw=>by rw[w,cN] at z;cases z)];exact n
  .by_cases g:b=e
   .exact⟨_,by rw[g];exact G⟩
   .exact⟨o,L b o g z⟩
  .by_cases g:b=e
   .subst g;rw[cq] at z;cases z;exact xg G
   .rw[ba g] at z;by_cases B:b=d
    .subst B;rw[cq] at z;cases z;exact AG M (PySem.Within.cons f u PySem.Within.nil)
    .rw[ba B] at z;refine (a.aN b v z).eI (λc o p q=>L c o (λw=>?_) q) (λc q=>up c _ q (ne c _ q λw=>by cases w)) λc xs q=>up c _ q (ne c _ q λw=>by cases w)
     rcases p with p |p
     .exact g (p.symm.trans w)
     .rw[w,r] at p;cases p
 .obtain⟨⟨t0,ho⟩,_,_⟩:=a.aN e _ r;obtain⟨⟨m,hm,hw⟩,_,_⟩:=a.aN d _ hd;refine UC a.cJ ho hm c.ov nf c.sa hw (by omega) λh' E sb=>?_
  have I3:=a.write (x:=d) (e:=d) (o:=XD d (f::ns)) (h':=h') (t':=s2.toks+2) (by rw[hd];exact True.intro) (.inl rfl) (λb u g z=>(sb.2 b g).trans z) (let ⟨o,_,_,e,_⟩:=E;⟨o,e⟩) (AG E (PySem.Within.cons f u hw));exact⟨j,_,I3,J⟩
def jd(e:af)(H d:Hp):Prop:=(∀a o,a≠e->H a=some o->d a=some o)/\(∀b y,d b=some (.own y)->H b=some (.own y))/\∀b f,d b=some (.aG f)->H b=some (.aG f)
theorem jd.refl{e:af}{H:Hp}:jd e H H:=⟨λ_ _ _ h=>h,λ_ _ h=>h,λ_ _ h=>h⟩
theorem jd.put{e a:af}{H d:Hp}{o:HO}(g:jd e H d)(h:a=e\/H a=none)(i:∀y,o≠.own y)(j:∀xs,o≠.aG xs):jd e H (aQ d a o):=by
 refine⟨λx v f z=>?_,λb y z=>?_,λb y z=>?_⟩
 .rw[ba λw=>?_]
  .exact g.1 x v f z
  .rcases h with h |h
   .exact f (w.trans h)
   .rw[w,h] at z;cases z
 .by_cases hb:b=a
  .rw[hb,cq] at z;cases z;exact absurd rfl (i y)
  .rw[ba hb] at z;exact g.2.1 b y z
 .by_cases hb:b=a
  .rw[hb,cq] at z;cases z;exact absurd rfl (j y)
  .rw[ba hb] at z;exact g.2.2 b y z
theorem jd.no{e a:af}{H b:Hp}(g:jd e H b)(h:b a=none):a=e\/H a=none:=by
 by_cases d:a=e
 .exact .inl d
 .refine .inr ?_;cases z:H a with
  |none=>rfl
  |some v=>rw[g.1 a v d z] at h;cases h
def jG(K:ao)(H:Hp)(a:af)(xs:aw):Prop:=bE K H a xs\/df K H a xs
theorem jG.on{K:ao}{C e a:af}{od:c7}{xs:aw}{H b:Hp}(q:jG K H a xs)(he:H e=some (XO C e od))(g:jd e H b):jG K b a xs:=by
 have k:∀u,u≠XO C e od->H a=some u->b a=some u:=λu n z=>g.1 a u (λw=>by rw[w,he] at z;cases z;exact n rfl) z
 rcases q with (r |r) |(r |r)
 .rcases r with r |⟨o,r⟩
  .exact .inl (.inl (.inl (k _ (λw=>by cases w) r)))
  .exact .inl (.inl (.inr ⟨o,k _ (λw=>by cases w) r⟩))
 .exact .inl (.inr r)
 .rcases r with r |⟨o,r⟩
  .exact .inr (.inl (.inl (k _ (λw=>by cases w) r)))
  .exact .inr (.inl (.inr ⟨o,k _ (λw=>by cases w) r⟩))
 .exact .inr (.inr r)
def yX(K:ao)(C:af):Sp:=λvs H Q _=>∃e a b f g,vs=[.ref e,.ref a,.ref b]/\H e=some (XO C e none)/\jG K H a f/\jG K H b g/\∀d od,jd e H d->d e=some (XO C e od)->Q .aL d
theorem Wl{K:ao}{C e a b:af}{xs ys:aw}{D:g9}{N:aj}{H:Hp}{z:V}{Q:VK}(he:H e=some (XO C e none))(n:jG K H a xs)(r:jG K H b ys)(q:∀i od,jd e H i->i e=some (XO C e od)->D.nx (start N [.ref e,.ref a,.ref b]) i):
  si (pR (DV C (iS (f7 0) (iS (tC z) iU)))) (si (xf C (f7 0) (kO (λxs H Q=>∃p ys,xs=[.ref p]/\(bE K H p ys\/df K H p ys)/\∀l,H l=none->Q (.ref l) (aQ H l (.ag ys))) (iS (f7 1) iU)) "numbers")
   (xf C (f7 0) (kO (λxs H Q=>∃p ys,xs=[.ref p]/\(bE K H p ys\/df K H p ys)/\∀l,H l=none->Q (.ref l) (aQ H l (.ag ys))) (iS (f7 2) iU)) "weights")) D (start N [.ref e,.ref a,.ref b]) H:=by
 refine⟨.ref e,rfl,e,none,z,rfl,he,⟨.ref a,rfl,a,xs,rfl,n,λl h=>⟨.ref e,rfl,e,rfl,.inl ⟨?_,λd hd f=>?_⟩⟩⟩⟩
 .rw[ba λw=>by rw[<- w,he] at h;cases h];exact he
 have s:l≠e:=λw=>by rw[w,he] at h;cases h
 have m:=(jd.refl (e:=e) (H:=H)).put (a:=l) (o:=.ag xs) (.inr h) (λ_ w=>by cases w) (λ_ w=>by cases w);have g:=m.no hd;have j:=(m.put (a:=d) (o:=XD d ["numbers"]) g (λ_ w=>by cases w) (λ_ w=>by cases w)).put (a:=e) (o:=XO C e (some d)) (.inl rfl) (λ_ w=>by cases w) (λ_ w=>by cases w);refine⟨.ref b,rfl,b,ys,rfl,r.on he j,λu jQ=>⟨.ref e,rfl,e,rfl,.inr ⟨d,["numbers"],?_,?_,by decide,q _ (some d) ((j.put (j.no jQ) (λ_ w=>by cases w) (λ_ w=>by cases w)).put g (λ_ w=>by cases w) (λ_ w=>by cases w)) ?_⟩⟩⟩
 .rw[ba (λw=>by rw[<- w,cq] at jQ;cases jQ),cq]
 .rw[ba (λw=>by rw[<- w,ba f,cq] at jQ;cases jQ),ba f,cq]
 .rw[ba f.symm,ba (λw=>by rw[<- w,cq] at jQ;cases jQ),cq]
def D3(K:ao)(C:af)(E:XK)(e:TA):TS:=λ_ j H=>e j H λvs d=>∃a b f g,vs=[.ref a,.ref b]/\jG K d a f/\jG K d b g/\E (.ref C) none d
theorem MC{E:XK}{x:Str}{np p pos:Pos}{l i:Expr}{t:TA}{C F fI:af}{fd:FuncData}{ps:aj}{k:Nat}(hs:X.stack=X.env::X.outer)(hf:X.env.frame=some X.env.locals)(Y:X.ex=[])(ν:nE X E)(O:X.calm=true)(hg:Gl X x)(hm:X.mg x=some (.ref C))(c:pN X.K C F fI)(G:aK X.prog X.w X.K X.mg X.base bJ k fI fd ps (yX X.K C))(hr:bw (k+1) X.A)(M:Binds X.K fd ps [])(ha:PA X [l,i] t)(ε:du x:=by decide)(μ:dH l [i] X.env:=by rfl)(hpl:fk p [i] X.env:=by rfl):
  PS X (.Raise (some (.Call (.Name x np) [l,i] [] p)) none pos) (D3 X.K C E t):=by
 intro aa s j H D I h;obtain⟨bm,N,nm,qn,bs,hd,sn,sub,ab,col,dd,k0,k1,k2,k3,k5,mN,hC,hN,ι,T⟩:=zp I.ok.mod.ky c.ex;rw[arm_exec_Raise];refine wpAny_bind (wpAny_standAt (Tc (C:=C) (nm:=nm) (q:=qn) (N:=N) (bs:=bs) (bm:=bm) (hdct:=hd) (sn:=sn) (sub:=sub) (ab:=ab) (col:=col) (dd:=dd) (k0:=k0) (k1:=k1) (k2:=k2) (k3:=k3) (k5:=k5) (newId:="ValueError.__new__") (T.hasType PySem.F.excBase_ValueError.hasBase) (I.ok.hd O) (wpAny_bind (wpAny_mono (wpAny_Call_Name_kw (lL I hg hm ?_ ε)) (λv ο γ=>wpAny_bind (wpAny_standAt (wpAny_pure γ))) λ_ _ x=>x))));refine W.callWith_K (h₀:=X.base) I.ok.mod.ky c.kp (bh (ha p aa s j H _ I h) λus s1 ξ=>?_) μ hpl;obtain⟨vs,m,y,r,a,b,L,ys,ev,sa,sb,q1⟩:=ξ;refine⟨y.cJ,?_⟩;subst ev;have β:us.length=2:=r.length.symm;obtain⟨hp,g,dr,tk,os⟩:=s1;have Q:∃oI,hp.get? fI=some oI/\oI.cls=.type "function":=by
  obtain⟨o,ho,z⟩:=Option.map_eq_some_iff.mp (beq_iff_eq.mp c.fn);exact⟨o,y.cJ _ _ ho,z⟩
 obtain⟨oI,Q,η⟩:=Q;refine M9 (T.keeps y.bk) (y.bk _ _ hC) (hN.keeps y.bk) ι Q η (by show us.length<=1000;omega) λh' e d α=>?_
 obtain⟨t,ht,π,ρ⟩:=d.there;have B:m e=none:=y.aN.fresh α;have J:au X aa j (aQ m e (XO C e none)) ⟨h',g,dr,tk,os⟩:=y.laid (t':=tk) d.keeps α (xg ht);have on:∀{a L},jG X.K m a L->jG X.K (aQ m e (XO C e none)) a L:=λ{a L} q=>by
  have k:∀u,m a=some u->aQ m e (XO C e none) a=some u:=λu z=>by rw[ba λw=>by rw[w,B] at z;cases z];exact z
  rcases q with (r |r) |(r |r)
  .rcases r with r |⟨o,r⟩
   .exact .inl (.inl (.inl (k _ r)))
   .exact .inl (.inl (.inr ⟨o,k _ r⟩))
  .exact .inl (.inr r)
  .rcases r with r |⟨o,r⟩
   .exact .inr (.inl (.inl (k _ r)))
   .exact .inr (.inl (.inr ⟨o,k _ r⟩))
  .exact .inr (.inr r)
 have FG:(Value.ref e::us++[]).length=ps.length:=by
  have z:=G.len [.ref e,.ref a,.ref b] (aQ m e (XO C e none)) (λ_ _=>True) (λ_ _ _=>False) ⟨e,a,b,L,ys,rfl,cq,on sa,on sb,λ_ _ _ _=>trivial⟩;rw[<- z];simp[β]
 refine wpAny_call (codeAny_mono (G.run _ X.stack _ (aQ m e (XO C e none)) ⟨.ref e::us,[]⟩ (.ref e::us++[]) [.ref e,.ref a,.ref b] (λv H'=>v=.aL/\jd e (aQ m e (XO C e none)) H'/\∃od,H' e=some (XO C e od)) (λ_ _ _=>False) (hr.make _ _ _) (J.kX.make C us []) (M _ (.ref e::us) J.cJ FG) (by rw[append_nil];exact .cons rfl r) ⟨e,a,b,L,ys,rfl,cq,on sa,on sb,λH' od g he=>⟨rfl,g,od,he⟩⟩) λr s' hq=>?_);cases r with
 |error x=>exact False.elim hq
 |ok fl=>
 cases fl with
 |next=>exact False.elim hq
 |brk=>exact False.elim hq
 |cont=>exact False.elim hq
 |ret u=>
 obtain⟨v,H',κ,bare,un,aN,rv,rfl,gd,od,ζ⟩:=hq;obtain rfl:u=Value.none:=rv;obtain⟨⟨t1,U⟩,_,_⟩:=aN e _ ζ;have ne:∀b o,hp.get? b=some o->b≠e:=λb o z w=>by rw[w,d.new] at z;cases z
 have nt:∀b v,m b=some v->b≠e:=λb v z w=>by rw[w,B] at z;cases z
 have I4:au X aa j m s':=y.eB (ch:=[]) (κ.trans rfl) ⟨λb o z n f x=>un.keep b o (d.keeps b o z) (by rw [ba (ne b o z)];exact n) f x,λb o z n f x=>un.slot b o (d.keeps b o z) (by rw [ba (ne b o z)];exact n) f x,λb o z n _=>n,
  λb o z x=>un.there b o (d.keeps b o z) x,λ_ _ z=>z,λ_ _ _ z=>z,λ_ ps z=>⟨#[],by rw[Array.append_empty];exact z⟩⟩ (λb v z=>?_) bare (λb z=>absurd z (by simp))
 .refine⟨rfl,e,od,t1,rfl,I4.bk _ _ hC,U,?_⟩;have up:∀b,hp.get? b=none->X.s₀.heap.get? b=none:=λb z=>by
   cases q:X.s₀.heap.get? b with
   |none=>rfl
   |some o=>obtain⟨o',e'⟩:=y.base.there b o q (by rw[Y];simp);rw[z] at e';cases e'
  rw[ν];have θ:∀env∈X.env::X.outer,∀a,env.frame=some a->a∈e::cB X.stack:=λenv he a hf=>.tail _ (by rw[hs];exact rA env he a hf)
  refine FQ (base:=W.hideAll s'.heap (e::cB X.stack)) (a0:=.ref t1) (by rw[I4.ok.frames,hs]) (W.funFrames_hide (hs ▸ I4.stack) θ) hf U (λb o q=>W.of_hideAll _ q)
   (W.hideAll_none _ (.head _)) rfl rfl rfl rfl λh2 hL δ=>?_
  obtain⟨l1,_,l3,l4⟩:=hL;exact wU hs hf Y I4 (bad:=[e]) (λb M=>by
   rcases mem_cons.mp M with z |M
   .exact .inl (by rw[z];exact .head _)
   .exact .inr M) (λb M=>by
   have z:b=e:=by simpa using M
   rw[z];exact⟨up _ d.new,B⟩) l1 l4 l3 δ (up _ d.new) B q1
 .have z':=gd.1 b v (nt b v z) (by rw[ba (nt b v z)];exact z);have ow:∀c u,aQ m e (XO C e none) c=some u->u≠XO C e none->m c=some u:=λc u w n=>by
   by_cases hc:c=e
   .rw[hc,cq] at w;cases w;exact absurd rfl n
   .rw[ba hc] at w;exact w
  exact (aN b v z').eI (λ_ _ _ q=>q) (λc q=>ow c _ (gd.2.1 c b q) λw=>by cases w) λc L q=>ow c _ (gd.2.2 c L q) λw=>by cases w
end
end L2
namespace Pu
open PySem L2 Vc Sf
section
variable{X:Cx}
def wc(a:ah)(Q:Prop):Prop:=match a with |[.ag _ _,.ag _ _]=>Q |_=>False
def vY(q:ai->Prop)(C:af)(a:b8):cg:=λ_ j=>a (j.map aD) λb=>wc b (q (.ref C))
theorem Qi{z:Bool}{q:ai->Prop}{E:XK}{K:PySem.W.Frag}{f:TA}{e:b8}{lo:Nat}{C:af}(h:eJ K ⟨z,λ_=>E,q⟩ f e):cS K ⟨z,λ_=>E,q⟩ lo (D3 K C E f) (vY q C e):=λus A n F H j i B D y W p L=>
 h F (Bq n H) H j _ _ _ W.eD p λG vs l m c p2 o=>by
  have d:=W.eD.gr o.g;unfold wc at p2;split at p2
  .obtain⟨v1,r1,c1,d1,rfl,rfl,h1,v2,r2,c2,d2,rfl,rfl,h2,rfl,rfl⟩:=o.r;obtain⟨a,u,_,rfl,sa,_⟩:=h1.cv d.s d.b (ar.left o.c);obtain⟨b,w,_,rfl,sb,_⟩:=h2.cv d.s d.b (ar.left (ar.right o.c));exact⟨a,b,u,w,rfl,.inl sa,.inl sb,W.x (.ref C) j l m p2 (W.g.trans' o.g)⟩
  .exact p2.elim
theorem GG{z:Bool}{q:ai->Prop}{E:XK}{x:Str}{H d pos:Pos}{b a:Expr}{n:b8}{lo:Nat}{C F l:af}{m:FuncData}{o:aj}{k:Nat}(hs:X.stack=X.env::X.outer)(y:X.env.frame=some X.env.locals)(g:X.ex=[])(j:nE X E)(e:X.calm=true)(B:Gl X x)(hm:X.mg x=some (.ref C))(c:pN X.K C F l)(G:aK X.prog X.w X.K X.mg X.base bJ k l m o (yX X.K C))(D:bw (k+1) X.A)(u:Binds X.K m o [])(s:QA X ⟨z,λ_=>E,q⟩ [b,a] n)(f:du x:=by decide)(i:dH b [a] X.env:=by rfl)(hpl:fk d [a] X.env:=by rfl):
  QS X ⟨z,λ_=>E,q⟩ lo (.Raise (some (.Call (.Name x H) [b,a] [] d)) none pos) (vY q C n):=by
 obtain⟨I,p,r⟩:=s.h;exact⟨_,MC hs y g j e B hm c G D u p f i hpl,Qi r⟩
end
end Pu
namespace L2
open PySem PySem.Spec PyProof.Rows
section
variable{X:Cx}{tg a b c:Expr}{ta:TA}{p pos:Pos}
def En(ta:TA):TI:=λj H R=>ta j H λvs d=>∃i:Int,vs=[.int i,.int (-1),.int (-1)]/\-1<=i/\i<1000000/\R (ur i (-1) (i+1).toNat) d
theorem OC(A:Gl X "range")(hm:X.mg "range"=none)(y:PA X [a,b,c] ta)(hs:starEach [a,b,c] X.env=[(false,eval a X.env),(false,eval b X.env),(false,eval c X.env)]:=by rfl)(d:nI b c X.env:=by rfl):
  PI X tg (.Call (.Name "range" p) [a,b,c] [] pos) (En ta):=by
 intro aa s j H R I h;refine Call_ (i3 I A hm boot_range (PyProof.Rows.callWith_type1 (bh (y pos aa s j H _ I h) λus g u=>?_) (by rw[hs,d]) (by rw[d];rfl)));obtain⟨vs,w,x,r1,B⟩:=u;obtain⟨i,e,D,E,q⟩:=B;subst e;cases r1 with
 |cons r f=>
 cases f with
 |cons C f=>
 cases f with
 |cons m f=>
 cases f;obtain⟨t,rfl⟩:=r;obtain⟨t',rfl⟩:=C;obtain⟨n,rfl⟩:=m;have sz:Builtin.Range.rangeSize i (-1) (-1)=i+1:=by
  unfold Builtin.Range.rangeSize;rw[if_neg (by decide),show (- -1:Int)=1 from rfl,Int.ediv_one];split<;>omega
 have sm:Builtin.Range.small i (-1) (-1)=true:=by
  unfold Builtin.Range.small;simp only[Builtin.Range.rangeFitsLong,and_eq_true,Bool.or_eq_true,decide_eq_true_eq,beq_iff_eq];exact⟨⟨⟨⟨by omega,by decide⟩,by decide⟩,by omega⟩,.inr (by decide)⟩
 refine call_range_3 (by decide) ?_ (.inl (PyProof.noPylong_small (by decide)));refine wpAny_pyIter_range (IsRange.new ..) sm ?_;have l:au X aa j w { g with heap:=g.heap.push { cls:=.type "range",data:=.fields #[.int i t,.int (-1) t',.int (-1) n] },toks:=g.toks }:=x.kept λb o e=>Heap.get?_push_of_some _ e
 refine⟨_,[_],_,_,w,rfl,l.kept (t':=g.toks) λb o e=>Heap.get?_push_of_some _ e,Sj _ i (-1) (i+1).toNat,?_,λb z=>?_,q⟩
 .show IsRangeIter _ _ (i+((0:Nat):Int)*(-1)) ((((i+1).toNat:Nat):Int) - ((0:Nat):Int)) (-1);rw[show i+((0:Nat):Int)*(-1)=i from by simp,show (((i+1).toNat:Nat):Int) - ((0:Nat):Int)=Builtin.Range.rangeSize i (-1) (-1) from by rw[sz];omega];exact Heap.get?_push_size _ rfl
 .have e:=mem_singleton.mp z;rw[e];exact l.fb (le_refl _) (l.aN.fresh (le_refl _))
def F6:aw->Hp->VK->Prop:=λd H Q=>∃(a:Int)(n:Nat),d=[.int a,.int (a+n)]/\0<=a/\a<=1000/\n<=1000/\∀p,H p=none->Q (.ref p) (aQ H p (.je a (a+n)))
theorem TB:bK X (.type "range") F6:=by
 intro aa s j H l us Q I r h;obtain⟨a,n,rfl,_,_,hn,q⟩:=h;cases r with
 |cons r1 d=>
 obtain⟨g,rfl,f⟩:=ja d;obtain⟨t,rfl⟩:=(show ∃t,_=Value.int a t from r1);obtain⟨i,rfl⟩:=(show ∃t,g=Value.int (a+n) t from f);exact call_range_2 ⟨.ref s.heap.objs.size,_,I.laid (a:=s.heap.objs.size) (o:=.je a (a+n)) (t':=s.toks+1) (λb o e=>Heap.get?_push_of_some _ e) (le_refl _) ⟨_,_,_,Heap.get?_push_size _ rfl⟩,rfl,q _ (I.aN.fresh (le_refl _))⟩
def Eb:aw->Hp->VK->Prop:=λd H Q=>∃(p:af)(a:Int)(n:Nat),d=[.ref p]/\H p=some (.je a (a+n))/\0<=a/\a<=1000/\n<=1000/\∀p,H p=none->Q (.ref p) (aQ H p (.ag ((List.range n).map λi:Nat=>V.int (a+i))))
theorem C9(a:Int):∀(n:Nat)(m:Nat){bo:aM},bo.length=n->(∀(i:Nat)(v:ai),bo[i]?=some v->∃t,v=Value.int (a+(m+i:Nat)) t)->aI ((List.range' m n).map λi:Nat=>V.int (a+i)) bo
 |0,m,[],_,_=>.nil
 |n + 1,m,x::bo,hl,h=>by
  obtain⟨t,e⟩:=h 0 x rfl;rw[List.range'_succ,map_cons];refine .cons ⟨t,e⟩ (C9 a n (m+1) (by simpa using hl) λi v d=>?_);obtain⟨t,e⟩:=h (i+1) v d;exact⟨t,by rw[e];congr 2;omega⟩
theorem Vh(w:X.calm=true):bK X (.type "list") Eb:=by
 intro aa s j H E us Q I r h;obtain⟨p,a,n,rfl,m,C,D,hn,q⟩:=h;obtain⟨u,rfl,z⟩:=ja r;cases z;obtain⟨t,u,v,e⟩:=I.aN p _ m;refine call_list_range (a:=a) (b:=a+n) (c:=1) (n:=n) (I.ok.hd w) e (small_one (by omega) (by omega) (by omega) (by omega)) (by rw[rangeSize_one];split<;>omega) (by omega) λB A d g x l f=>?_
 refine⟨.ref s.heap.objs.size,_,I.laid (a:=s.heap.objs.size) (o:=.ag ((List.range n).map λi:Nat=>V.int (a+i))) (t':=A) x (le_refl _) ⟨by rw[length_map,length_range,sizeLine_eq];omega,d.toList,g,?_,by rw[Array.toArray_toList];exact l⟩,rfl,q _ (I.aN.fresh (le_refl _))⟩;have:=C9 a n 0 (bo:=d.toList) (by rw[length_toList];exact f.1) λi v y=>by
  obtain⟨t,e⟩:=f.2 i v (by rw[<- getElem?_toList];exact y);exact⟨t,by rw[e];congr 1⟩
 rw[List.range_eq_range'];exact this
end
end L2
namespace Pu
open PySem L2 Vc Sf
section
def qR(a:ah)(Q:Int->Prop):Prop:=match a with |[.int i,.int j,.int k]=>j=-1/\k=-1/\-1<=i/\i<1000000/\Q i |_=>False
def vU(a:b8):ip:=λj Q=>a j λb=>qR b λi=>Q ((List.range (i+1).toNat).map λ(n:Nat)=>.int (i+n*(-1))) true
theorem IG(h:eJ K k ta pa):kc K k (En ta) (vU pa):=λF B H j i n m c p q=>by
 refine h F B H j i _ _ c p λu vs a b s p1 o=>?_
 unfold qR at p1;split at p1
 .obtain⟨v,r,c2,d,rfl,rfl,⟨rfl,_⟩,v',r',c',d',rfl,rfl,⟨rfl,_⟩,v2,r2,c3,d3,rfl,rfl,⟨rfl,_⟩,rfl,rfl⟩:=o.r;obtain⟨rfl,rfl,e,f,p1⟩:=p1;exact⟨_,rfl,e,f,q _ _ _ a b p1 o.g zk λ_ l _=>zk⟩
 .exact p1.elim
theorem Ng(e:Gl X "range")(hm:X.mg "range"=none)(h:QA X k [l,m,n] ps)(hs:starEach [l,m,n] X.env=[(false,eval l X.env),(false,eval m X.env),(false,eval n X.env)]:=by rfl)(a:nI m n X.env:=by rfl):QI X k tg (.Call (.Name "range" p) [l,m,n] [] pos) (vU ps):=by
 obtain⟨f,b,d⟩:=h.h;exact⟨_,OC e hm b hs a,IG d⟩
def rC(a:ah)(Q:av):Prop:=match a with |[.ag _ xs]=>fg xs=true/\Q (.ag .o xs.reverse) |_=>False
theorem BB:∀{xs:ah}{vs:aw}{x:Tr}{v:V},Rs K F B xs vs []->R K F B x v []->Rs K F B (xs++[x]) (vs++[v]) []
 |[],_,x,v,y,r=>by obtain⟨h,_⟩:=y;rw[h];exact⟨v,[],[],[],rfl,rfl,r,rfl,rfl⟩
 |y::xs,_,x,v,y0,r'=>by
  obtain⟨w,r,c,d,a,b,e,f⟩:=y0;obtain⟨rfl,rfl⟩:=append_eq_nil_iff.mp b.symm;rw[a];exact⟨w,_,[],[],rfl,rfl,e,BB f r'⟩
theorem Cm:∀{xs:ah}{vs:aw},Rs K F B xs vs []->Rs K F B xs.reverse vs.reverse []
 |[],_,y=>by obtain⟨h,_⟩:=y;rw[h];exact⟨rfl,rfl⟩
 |y::xs,_,y0=>by
  obtain⟨w,r,c,d,a,b,e,f⟩:=y0;obtain⟨rfl,rfl⟩:=append_eq_nil_iff.mp b.symm;rw[a,List.reverse_cons,List.reverse_cons];exact BB (Cm f) e
theorem IX(h:eJ K k ta pa):bC K k (Gb K ta) (λi Q=>pa i λl=>rC l Q):=λF B H j i Q C c p q=>by
 refine h F B H j i _ _ c p λl vs n A D p1 o=>?_
 unfold rC at p1;split at p1
 .obtain⟨v,rfl,r1⟩:=o.r.one;have d:=c.gr o.g;obtain⟨a,us,E,rfl,u,e,_⟩:=r1.cv d.s d.b o.c;obtain rfl:=Rs.oK _ p1.1 e;refine⟨a,us,rfl,u,λp f=>?_⟩;obtain⟨w,x,z⟩:=ku (K:=K) (B:=B) o.g.s (Cm e) .nil f;refine q _ _ n _ _ p1.2 ⟨o.g.trans' w,x,z,λy m=>?_⟩;cases m with
  |head=>exact o.g.h.free f
  |tail _ m=>cases m
 .exact p1.elim
theorem Tv{p p2 a:Pos}(m:X.calm=true)(n:Gl X "list")(hm:X.mg "list"=none)(b:Gl X "reversed")(d:X.mg "reversed"=none)(h:QA X k [l] ps)(g:j7 l X.env:=by rfl)(i:starEach [Expr.Call (.Name "reversed" p2) [l] [] a] X.env=[(false,eval (Expr.Call (.Name "reversed" p2) [l] [] a) X.env)]:=by rfl):
  QE X k (.Call (.Name "list" p) [.Call (.Name "reversed" p2) [l] [] a] [] pos) (λj Q=>ps j λo=>rC o Q):=by
 obtain⟨q,e,f⟩:=h.h;exact⟨_,OZ m n hm b d e g i,IX f⟩
def zY(t u:Tr)(Q:av):Prop:=∃(a:Int)(n:Nat),t=.int a/\u=.int (a+n)/\0<=a/\a<=1000/\n<=1000/\Q (.ag .o ((List.range n).map λi:Nat=>Tr.int (a+i)))
theorem Fm(a:Int):∀(ns:List Nat),Rs K F B (ns.map λi:Nat=>Tr.int (a+i)) (ns.map λi:Nat=>V.int (a+i)) []
 |[]=>⟨rfl,rfl⟩
 |n::ns=>⟨.int (a + n),_,[],[],rfl,rfl,⟨rfl,rfl⟩,Fm a ns⟩
theorem Uk(h:eJ K k ta pa):bC K k (kO Eb (iS (kO F6 ta) iU)) (λi Q=>pa i λz=>lS z λt u=>zY t u Q):=λF B H j i Q G c p q=>by
 refine h F B H j i _ _ c p λz vs e l I p1 d=>?_
 unfold lS at p1;split at p1
 .obtain⟨v,w,d1,d2,rfl,r1,r2,_⟩:=d.r.two;obtain⟨a,n,rfl,rfl,o,x,hn,p1⟩:=p1;obtain⟨rfl,_⟩:=r1;obtain⟨rfl,_⟩:=r2;refine⟨a,n,rfl,o,x,hn,λp A=>⟨p,a,n,rfl,cq,o,x,hn,λp2 b=>?_⟩⟩;have f:Gr e l e (aQ l p (.je a (a+n))):=Gr.gY d.g.s A;obtain⟨C,D,E⟩:=ku (K:=K) (B:=B) f.s (Fm a (List.range n)) .nil b;refine q _ _ e _ _ p1 ⟨(d.g.trans' f).trans' C,D,E,λy m=>?_⟩;cases m with
  |head=>exact d.g.h.free (f.h.free b)
  |tail _ m=>cases m
 .exact p1.elim
theorem MB{p p2 a:Pos}(o:X.calm=true)(q:Gl X "list")(hm:X.mg "list"=none)(b:Gl X "range")(d:X.mg "range"=none)(h:QA X k [l,m] ps)(i:dH l [m] X.env:=by rfl)(n:fk a [m] X.env:=by rfl)(e:starEach [Expr.Call (.Name "range" p2) [l,m] [] a] X.env=(false,eval (Expr.Call (.Name "range" p2) [l,m] [] a) X.env)::starEach [] X.env:=by rfl):
  QE X k (.Call (.Name "list" p) [.Call (.Name "range" p2) [l,m] [] a] [] pos) (λj Q=>ps j λr=>lS r λt u=>zY t u Q):=by
 obtain⟨s,f,g⟩:=h.h;exact⟨_,l9 (Vh o) q hm rfl (ju (l9 TB b d rfl f (he:=i) (hpl:=n)) jT e) (he:=e),Uk g⟩
def xw(i j:Nat):aY:=λG Q=>∃(m:bA)(ns:aH)(y:Int),G[i]?=some (.aS .f m)/\m.map (·.1)=ns.map (λn=>(Sum.inl n:aU))/\G[j]?=some (.int y)/\ns.length<=1000/\Q (.ag .o ((ns.filter λx=>!decide (x=y)).map Tr.int))
theorem EB:∀(ns:aH),Rs K F B (ns.map Tr.int) (ns.map V.int) []
 |[]=>⟨rfl,rfl⟩
 |n::ns=>⟨.int n,_,[],[],rfl,rfl,⟨rfl,rfl⟩,EB ns⟩
theorem LH(hz:k.z=true){i j:Nat}:bC K k (yn X (oW (wG tF X (f7 i)) (jb 0) (um (mW o3 (f7 0) (f7 1))) (f7 0) [none,some j])) (xw i j):=λF B H G J Q Q' c p q=>by
 obtain⟨m,ns,y,hi,hm,hj,hn,pQ⟩:=p;rcases c.e i _ hi with z |⟨v,h1,_,a,vs,rfl,h2,h3,h4⟩
 .cases z
 rcases c.e j _ hj with z |⟨v,g1,rfl,_⟩
 .cases z
 have hF:=tw (c.z hz) h2;have N:=c.s _ _ hF;have ek:∀{m:bA}{vs:bT},Rk K F B m vs []->vs.map (·.1)=m.map (·.1):=λ{m}=>by
  induction m with
  |nil=>intro vs h;rw[h.1];rfl
  |cons x m ih=>
   intro vs h;obtain⟨v,r,c,d,g,A,e3,e4⟩:=h;obtain⟨rfl,rfl⟩:=append_eq_nil_iff.mp A.symm;rw[g,map_cons,map_cons,ih e4]
 have O:vs.map (·.1)=ns.map (λn=>(Sum.inl n:aU)):=(ek h3).trans hm;have hl:vs.length=ns.length:=by have:=congrArg List.length O;simpa using this
 refine⟨.ref a,h1,a,vs,rfl,N,λM L=>?_⟩;refine HG (Q:=λv=>nN X (Q v)) (λn f E=>E=aQ H a (.ay M (.dK vs))/\f=((ns.take n).filter λx=>!decide (x=y)).map V.int) ⟨rfl,rfl⟩ (λ_ _ _ _ h=>by rw[h.1,cq]) ?_ ?_
 .rintro n kk v f E e ⟨rfl,rfl⟩;have g:(ns.map (λn=>(Sum.inl n:aU)))[n]?=some kk:=by rw[<- O,getElem?_map,e];rfl
  rw[getElem?_map] at g;cases A:ns[n]? with
  |none=>rw[A] at g;cases g
  |some x=>
   rw[A] at g;cases g;have Y:ns.take (n+1)=ns.take n++[x]:=by rw[take_add_one,A];rfl
   have U:(((ns.take n).filter λx=>!decide (x=y)).map V.int).length<=1000:=by
    rw[length_map];exact le_trans (length_filter_le _ _) (by rw[length_take];omega)
   refine⟨tE rfl λi v e=>?_,.int x,rfl,.int y,?_,rfl,_,rfl,?_⟩
   .match i,e with
    |1,e=>exact e
   .show ([none,some j].map λo=>match o with |none=>none |some i=>(G[i]?).getD none)[1]?=_;show some ((G[j]?).getD none)=_;rw[g1];rfl
   .have di:decide (V.int x=V.int y)=decide (x=y):=by by_cases z:x=y<;>simp[z]
    rw[di];by_cases z:x=y
    .subst z;rw[decide_eq_true rfl];refine⟨rfl,?_⟩;rw[Y,List.filter_append];simp
    .rw[decide_eq_false z];refine⟨.int x,rfl,by rw[sizeLine_eq];omega,rfl,?_⟩;rw[Y,List.filter_append,map_append];simp[z]
 .rintro f E ⟨rfl,rfl⟩;have C:ns.take vs.length=ns:=by rw[hl,take_length]
  rw[C];refine⟨?_,λp D=>?_⟩
  .rw[length_map,sizeLine_eq];have:=length_filter_le (λx=>!decide (x=y)) ns;omega
  have u:p≠a:=λw=>by rw[w,cq] at D;cases D
  rw[ba u] at D;refine⟨a,M,vs,by rw[ba (Ne.symm u),cq],L,?_⟩;have eq:aQ (aQ (aQ H a (.ay M (.dK vs))) p (.ag ((ns.filter λx=>!decide (x=y)).map V.int))) a (.dK vs)=aQ H p (.ag ((ns.filter λx=>!decide (x=y)).map V.int)):=by
   funext b;by_cases I:b=a
   .rw[I,cq,ba (Ne.symm u),N]
   .rw[ba I];by_cases l:b=p
    .rw[l,cq,cq]
    .rw[ba l,ba I,ba l]
  rw[eq];obtain⟨n1,n2,n3⟩:=ku (K:=K) (B:=B) c.s (EB (ns.filter λx=>!decide (x=y))) .nil D;refine q _ _ F _ _ pQ ⟨n1,n2,n3,λy m=>?_⟩;cases m with
  |head=>exact D
  |tail _ m=>cases m
theorem P8{e:Expr}{i j:Nat}(hz:k.z=true)(h:PE X e (yn X (oW (wG tF X (f7 i)) (jb 0) (um (mW o3 (f7 0) (f7 1))) (f7 0) [none,some j]))):QE X k e (xw i j):=⟨_,h,LH hz⟩
end
end Pu
namespace L2
section
open PySem
open AutoSeq1 (wpAny_loadPart')
section
variable{prog:Program}{w:World}{A:Around}{E:ai->ak->Prop}{s:ak}
theorem Lb(l:af)(items:dm)(n:Nat)(b:c7)(m:Array (d0))(o:Tok):
  Meets (Builtin.«enumerate.__new__» ⟨[.type "enumerate",.ref l],[("start",.int 1 o)]⟩) (λ_ R s=>s.heap.get? l=some { cls:=.type "list",dict:=b,data:=.seq items n,slots:=m }/\
   R (.ok (.ret (.ref (s.heap.push { cls:=.type "list_iterator",data:=.fields #[.ref l,.int 0 0] }).objs.size)))
    { s with heap:=(s.heap.push { cls:=.type "list_iterator",data:=.fields #[.ref l,.int 0 0] }).push { cls:=.type "enumerate",data:=.fields #[.none,.bool false,.ref s.heap.objs.size,rawInt 1,.none,.none] } }):=
 .of_wp λprog w A R s h=>by
  obtain⟨j,g,d,f,os⟩:=s;obtain⟨a,h⟩:=h;have i:=sub_enumerate;have e:Heap.IsList (Shared.heap ⟨j,g,d,f,os⟩) l items:=⟨_,a,rfl,n,rfl⟩
  wp_walk using wpAny_loadPart' a
  refine wpAny_stack_any λst=>wpAny_pure ?_
  split
  .rename_i c _ _ _ _ _;cases (c == Value.type "enumerate")
   .wp_walk using wpAny_loadPart' a,wpAny_pyIter_list e
    exact⟨_,rfl,h⟩
   .wp_walk using wpAny_loadPart' a,wpAny_pyIter_list e
    exact⟨_,rfl,h⟩
  .wp_walk using wpAny_loadPart' a,wpAny_pyIter_list e
   exact⟨_,rfl,h⟩
theorem Pl{self x:ai}{e:List (Str×ai)}:Meets (Builtin.«object.__init__» ⟨[self,x],e⟩) (λ_ R s=>s.TypeIs self "enumerate"/\R (.ok (.ret .none)) s):=by
 refine Meets.of_wp λprog w A R s d=>?_
 obtain⟨f,b⟩:=d;have g:=F.called_enumerate.init.lookup;have hm:=F.called_enumerate.made;have a:(some "enumerate.__new__" != some "object.__new__")=true:=by decide
 repeat (any_goals (first |assumption |wp_step))
 exact⟨_,rfl,b⟩
theorem Ve{l:af}{items:dm}{f:Tok}{Q:ai->ak->Prop}(D:s.heap.IsList l items)(h:∀h',IsEnum h' (s.heap.objs.size+1) s.heap.objs.size 1 .none->h'.IsListIter s.heap.objs.size l 0->(∀b o,s.heap.get? b=some o->h'.get? b=some o)->Q (.ref (s.heap.objs.size+1)) { s with heap:=h' }):
  wpAny (model prog w) A (call (.type "enumerate") [.ref l] [("start",.int 1 f)]) Q E s:=by
 obtain⟨⟨c,i,dt,L⟩,I,j,n,hd⟩:=D
 replace j:c=.type "list":=j
 replace hd:dt=.seq items n:=hd
 subst j hd;have d:=F.called_enumerate;obtain⟨c,O,z⟩:=d.mro;have p:=d.made;have B:=d.sub;refine wpAny_call (codeAny_of_tree ?_);show wpAny _ _ (callAny (.type "enumerate") _) _ _ _;refine wpAny_pure ⟨Code.quiet_builtin _ (by decide +kernel),codeAny_builtin F.entry_type_call ?_⟩;rw[Around.under_plain (weight_type_call_type _ _ _) (units_type_call_type _ _ _)];have M:=d.notType;have N:=d.canCreate;have H:checkTypeCall "enumerate" ⟨[.ref l],[("start",.int 1 f)]⟩=pure ():=by kernel_rfl
 have m:checkBuiltinCall "enumerate.__new__" ⟨[.type "enumerate",.ref l],[("start",.int 1 f)]⟩=pure ():=by kernel_rfl
 repeat (any_goals (first |assumption |wp_step))
 have C:(s.heap.push { cls:=.type "list_iterator",data:=.fields #[.ref l,.int 0 0] }).objs.size=s.heap.objs.size+1:=Heap.size_push ..;have y:IsEnum ((s.heap.push { cls:=.type "list_iterator",data:=.fields #[.ref l,.int 0 0] }).push { cls:=.type "enumerate",data:=.fields #[.none,.bool false,.ref s.heap.objs.size,rawInt 1,.none,.none] }) (s.heap.objs.size+1) s.heap.objs.size 1 .none:=by
  have:=Heap.get?_push_size (s.heap.push { cls:=.type "list_iterator",data:=.fields #[.ref l,.int 0 0] }) (o:={ cls:=.type "enumerate",data:=.fields #[.none,.bool false,.ref s.heap.objs.size,rawInt 1,.none,.none] }) rfl;rw[C] at this;exact this
 have u:codeAny (model prog w) A.in1 (.call (.builtin "enumerate.__new__") ⟨[.type "enumerate",.ref l],[("start",.int 1 f)]⟩) (λr a=>r=.ok (.ret (.ref (s.heap.objs.size+1)))/\a={ s with heap:=(s.heap.push { cls:=.type "list_iterator",data:=.fields #[.ref l,.int 0 0] }).push { cls:=.type "enumerate",data:=.fields #[.none,.bool false,.ref s.heap.objs.size,rawInt 1,.none,.none] } }) s:=
  codeAny_call_builtin d.plain F.entry_enumerate_new (wpAny_of_eq m (Lb l items n i L f prog w A.in1 (λr a=>r=.ok (.ret (.ref (s.heap.objs.size+1)))/\a={ s with heap:=(s.heap.push { cls:=.type "list_iterator",data:=.fields #[.ref l,.int 0 0] }).push { cls:=.type "enumerate",data:=.fields #[.none,.bool false,.ref s.heap.objs.size,rawInt 1,.none,.none] } }) s ⟨I,by rw[C],rfl⟩))
 refine codeAny_mono u λr a q=>?_
 obtain⟨rfl,rfl⟩:=q;have x:Shared.TypeIs { s with heap:=(s.heap.push { cls:=.type "list_iterator",data:=.fields #[.ref l,.int 0 0] }).push { cls:=.type "enumerate",data:=.fields #[.none,.bool false,.ref s.heap.objs.size,rawInt 1,.none,.none] } } (.ref (s.heap.objs.size+1)) "enumerate":=⟨_,y,rfl⟩;have J:=d.init.lookup;have G:=d.init.bind (.ref (s.heap.objs.size+1))
 repeat (any_goals (first |assumption |wp_step))
 have aN:argsOk "object.__init__" ⟨[.ref (s.heap.objs.size+1),.ref l],[("start",.int 1 f)]⟩:=by kernel_rfl
 have g:codeAny (model prog w) A.in1 (.call (.builtin "object.__init__") ⟨[.ref (s.heap.objs.size+1),.ref l],[("start",.int 1 f)]⟩) (λr a=>r=.ok (.ret .none)/\a={ s with heap:=(s.heap.push { cls:=.type "list_iterator",data:=.fields #[.ref l,.int 0 0] }).push { cls:=.type "enumerate",data:=.fields #[.none,.bool false,.ref s.heap.objs.size,rawInt 1,.none,.none] } }) { s with heap:=(s.heap.push { cls:=.type "list_iterator",data:=.fields #[.ref l,.int 0 0] }).push { cls:=.type "enumerate",data:=.fields #[.none,.bool false,.ref s.heap.objs.size,rawInt 1,.none,.none] } }:=
  codeAny_call_builtin d.init.plain F.entry_object_init (d.init.check _ _ _ _ _ _ _ _ x aN (Pl prog w A.in1 (λr a=>r=.ok (.ret .none)/\a={ s with heap:=(s.heap.push { cls:=.type "list_iterator",data:=.fields #[.ref l,.int 0 0] }).push { cls:=.type "enumerate",data:=.fields #[.none,.bool false,.ref s.heap.objs.size,rawInt 1,.none,.none] } }) _ ⟨x,rfl,rfl⟩))
 refine codeAny_mono g λr a q=>?_
 obtain⟨rfl,rfl⟩:=q
 repeat (any_goals (first |assumption |wp_step))
 refine h _ y ⟨_,Heap.get?_push_of_some _ (Heap.get?_push_size _ rfl),rfl,rfl⟩ λb o e=>Heap.get?_push_of_some _ (Heap.get?_push_of_some _ e)
end
end
end L2
namespace L2
open PySem PySem.Spec PyProof.Rows
theorem KY{prog:Program}{w:World}{A:Around}(d:A.handled=none)(it l:af)(a:l≠it)(items:dm):
  Draws prog w A it [it,l] (items.size+1) (λi v=>items[i - 1]?=some v) (λj h=>∃i:Nat,j=i+1/\h.IsListIter it l i/\h.IsList l items) where
 live:=λ_ _ ⟨_,_,st⟩=>let ⟨o,ho,_⟩:=st.1;⟨o,ho⟩
 frame:=λ_ _ _ ⟨i,e,st⟩ hk=>⟨i,e,st.1.at λo e=>hk it (by simp) o e,st.2.at λo e=>hk l (by simp) o e⟩
 item:=λj s Q E m ⟨i,e,st⟩ hQ=>by
  subst e;exact (Draws.list d it l a items).item i s Q E (by omega) st λx f g p b sb=>hQ x f g (by simpa using p) ⟨i+1,rfl,b⟩ sb
 done:=λs Q E ⟨i,e,st⟩ hE=>by
  obtain rfl:i=items.size:=by omega
  exact (Draws.list d it l a items).done s Q E st hE
def sV(K:ao)(a:af):It:=
 ⟨λi H=>∃b x,bE K H a b/\b[i]?=some x,λi H y d=>∃p x,y=.ref p/\H p=none/\(∀b,bE K H a b->b[i]?=some x)/\d=aQ H p (.aG [.int ((i+1:Nat):Int),x]),λi H=>∃b,bE K H a b/\b.length<=i⟩
theorem HP{P:Program}{w:World}{K:ao}{elts:bH}{x1:Nat}{pos:Pos}(a it n:af)(B:n≠it):
  kd P w K (.Tuple elts x1 pos) (sV K a) [n,it] n (λi h=>(∃g,IsEnum h n it ((i+1:Nat):Int) g)/\h.IsListIter it a i/\a≠it/\a≠n) where
 mem:=by simp
 obj:=λi h st b l=>by
  obtain⟨⟨g,e1⟩,⟨o,e2,c,d⟩,_⟩:=st;rcases mem_cons.mp l with z |l
  .rw[z];exact⟨_,e1,λv z=>by cases z⟩
  .have z:b=it:=by simpa using l
   rw[z];exact⟨o,e2,λv z=>by rw[d] at z;cases z⟩
 keep:=λi h h' st k=>by
  obtain⟨⟨g,e1⟩,e2,e3⟩:=st;exact⟨⟨g,k n (by simp) _ e1⟩,e2.at λo e=>k it (by simp) o e,e3⟩
 item:=by
  intro X hP hw hK hc i aa s j H E I hf st hg;subst hP hw hK;obtain⟨⟨g,G⟩,y,α,Y⟩:=st;obtain⟨xs,x,r,hx⟩:=hg;obtain⟨m,rv,p,hz⟩:=I.list r;obtain⟨u,hu,ru⟩:=rv.get hx;have fe:=hf n (by simp);have fi:=hf it (by simp);have η:i<m.toArray.size:=by have:=(List.getElem?_eq_some_iff.mp hu).1;simpa using this
  refine wpAny_pyNext_enum_itemD (KY (A:=X.A.in1) (I.ok.hd hc) it a α m.toArray) G ⟨i,rfl,y,p.isList⟩ (by omega) B (by simp[B,Ne.symm Y]) λJ h' C pu O U hT θ hk=>?_
  obtain⟨i',ei,M,_⟩:=U;obtain rfl:i'=i+1:=by omega
  have eu:J=u:=by
   have z:m.toArray[i]?=some J:=by simpa using pu
   rw[List.getElem?_toArray,hu] at z;cases z;rfl
  subst eu;refine⟨.ref s.heap.objs.size,rfl,wpAny_letOwnedTupleGo_enum O λh2 L hs=>?_⟩;have le:n<s.heap.objs.size:=Heap.lt_size G;have li:it<s.heap.objs.size:=let ⟨o,e,_⟩:=y;Heap.lt_size e;have ε:H s.heap.objs.size=none:=I.aN.fresh (le_refl _);have β:n≠s.heap.objs.size:=ne_of_lt le;have γ:it≠s.heap.objs.size:=ne_of_lt li;have I1:=I.laid (a:=s.heap.objs.size) (o:=.aG [.int ((i+1:Nat):Int),x]) (h':=s.heap.push { cls:=.type "tuple",data:=.seq #[.int ((i+1:Nat):Int) C,J] }) (t':=C) (λb q r=>Heap.get?_push_of_some _ r) (le_refl _)
   ⟨by show 2<=sizeLine;decide,[.int ((i+1:Nat):Int) C,J],.cons ⟨_,rfl⟩ (.cons ru .nil),⟨_,Heap.get?_push_size _ rfl,rfl,_,rfl⟩⟩
  have up:∀{b:af},b≠s.heap.objs.size->gn X aa H b->gn X aa (aQ H s.heap.objs.size (.aG [.int ((i+1:Nat):Int),x])) b:=λl f=>⟨by rw[ba l];exact f.1,f.2⟩
  have ζ:∀b q,b≠n->b≠it->(s.heap.push { cls:=.type "tuple",data:=.seq #[.int ((i+1:Nat):Int) C,J] }).get? b=some q->h2.get? b=some q:=λb q h1 h3 r=>by
   refine hs.extBut b q h1 ?_;rcases Heap.get?_push_cases r with⟨δ,eq⟩ |r
   .subst δ;subst eq;exact hT
   .exact hk b q h1 h3 r
  obtain⟨oi,ei,ci,di⟩:=M;have N:h2.IsListIter it a (i+1):=⟨oi,hs.extBut it oi (Ne.symm B) ei,ci,di⟩;refine⟨.ref s.heap.objs.size,aQ H s.heap.objs.size (.aG [.int ((i+1:Nat):Int),x]),?_,rfl,⟨_,x,rfl,ε,λys hy=>by rw[I.cZ hy r];exact hx,rfl⟩,⟨⟨_,L⟩,N,α,Y⟩,λb l=>?_⟩
  .exact au.iy (s:={ s with heap:=s.heap.push { cls:=.type "tuple",data:=.seq #[.int ((i+1:Nat):Int) C,J] },toks:=C }) (t':=C+1) I1 ζ (up β fe) (up γ fi) ⟨_,L⟩ ⟨oi,hs.extBut it oi (Ne.symm B) ei⟩
  .rcases mem_cons.mp l with z |l
   .rw[z,ba β];exact fe.1
   .have z:b=it:=by simpa using l
    rw[z,ba γ];exact fi.1
 done:=by
  intro X hP hw hK hc i aa s j H E I hf st hg;subst hP hw hK;obtain⟨⟨g,G⟩,y,_⟩:=st;obtain⟨xs,r,hx⟩:=hg;obtain⟨m,rv,p,hz⟩:=I.list r;have hl:=rv.length;obtain⟨f0,f1,f2,f3,f4,f5⟩:=hf it (by simp);have D:Draws X.prog X.w X.A.in1 it [it,a] 0 (λ_ _=>True) (λ_ h=>h.IsListIter it a i/\h.IsList a m.toArray):=⟨λ_ _ st=>let ⟨o,ho,_⟩:=st.1;⟨o,ho⟩,λ_ _ _ st hk=>⟨st.1.at λo e=>hk it (by simp) o e,st.2.at λo e=>hk a (by simp) o e⟩,λ_ _ _ _ h=>absurd h (Nat.not_lt_zero _),
   λs Q E st hE=>wpAny_nextOf_list_end (I.ok.hd hc) st.1 st.2 (by simp;omega) hE⟩
  exact wpAny_pyNext_enum_endD D G ⟨y,p.isList⟩ λh' eb=>⟨rfl,I.turned (t':=s.toks) (λb o l e=>eb b o l e) f0 f1 f3 f4 f5⟩
 self:=λ_ _ _ _ _ st h=>let ⟨⟨_,G⟩,_⟩:=st;wpAny_pyIter_enum G h
theorem G0{M:Model}{A:Around}{E:ai->ak->Prop}{s:ak}{pos:Pos}{T:String}{first:aM}{args:List (Bool×Sem Value)}{e:List (Option Str×Sem Value)}{Q:ai->ak->Prop}(b:(args.any (·.1) || e.any (·.1.isNone))=false)(h:wpAny M A (evalArgs (.type T) true args e) (λa d=>wpAny M A (call (.type T) (first++a.pos) a.kw) Q E d) E s):
  wpAny M A (callWith pos (.type T) first args e) Q E s:=by
 unfold callWith;refine wpAny_bind (wpAny_holding (wpAny_mono h (λa d f=>wpAny_bind (wpAny_standAt ?_)) λ_ _ x=>x));simp only[b];refine wpAny_bind (wpAny_pure ?_);exact wpAny_bind (wpAny_mono f (λr g i=>wpAny_bind (wpAny_holding (wpAny_point (wpAny_pure i)))) λ_ _ x=>x)
section
variable{X:Cx}
def C4(K:ao)(d:TA):TI:=λj H R=>d j H λvs b=>∃a,vs=[.ref a]/\(∃e,bE K b a e)/\R (sV K a) b
theorem JA{l:Expr}{J:TA}{elts:bH}{x1 y:Nat}{m p pos d kpos:Pos}(U:Gl X "enumerate")(hm:X.mg "enumerate"=none)(Q:PA X [l] J)(hs:dH l [] X.env:=by rfl)(hpl:((backTo pos (starEach [l] X.env)).any (·.1) || (backToKw pos (keywordEach [⟨some "start",.Constant (.int 1) y d,kpos⟩] X.env)).any (·.1.isNone))=false:=by rfl):
  PI X (.Tuple elts x1 m) (.Call (.Name "enumerate" p) [l] [⟨some "start",.Constant (.int 1) y d,kpos⟩] pos) (C4 X.K J):=by
 intro aa s G H R I h;refine wpAny_Call_Name_kw (i3 I U hm (u:=.type "enumerate") rfl ?_);refine G0 hpl (evalArgs_kw2 rfl (bh (Q pos aa s G H _ I h) λus s1 A=>?_) hs);obtain⟨vs,C,M,r1,a,e,⟨xs,hq⟩,q⟩:=A;refine bh (OK (nm:=some "start") (kpos:=kpos) (FR (X:=X) (i:=1) (j:=y) (pos:=d)) Sd pos aa s1 G C (λL n=>L=[.int 1]/\n=C) M ⟨rfl,rfl⟩) λks f B=>?_
 obtain⟨L,n,g,r2,O,N⟩:=B;subst e O N;obtain⟨k1,rfl,t,rfl⟩:=ja r2;cases r1 with
 |cons r rr=>
  cases rr;cases r;obtain⟨α,rv,p,hz⟩:=g.list hq;refine Ve p.isList λh' D x Y=>wpAny_pyIter_enum D ?_
  have ne:f.heap.objs.size+1≠f.heap.objs.size:=by omega
  have E:a<f.heap.objs.size:=let ⟨o,ho,_⟩:=p.isList;Heap.lt_size ho;refine⟨f.heap.objs.size+1,[f.heap.objs.size+1,f.heap.objs.size],_,_,n,rfl,g.kept (t':=f.toks) Y,HP a _ _ ne,⟨⟨_,D⟩,x,ne_of_lt E,ne_of_lt (lt_succ_of_lt E)⟩,λb w=>?_,q⟩;rcases mem_cons.mp w with z |w
  .rw[z];exact g.fb (by omega) (g.aN.fresh (by omega))
  .have z:b=f.heap.objs.size:=by simpa using w
   rw[z];exact g.fb (le_refl _) (g.aN.fresh (le_refl _))
end
end L2
namespace Pu
open PySem L2 Vc Sf
section
theorem Vi{K:ao}{a:af}{xs:aw}:fQ (sV K a) xs.length (λH=>bE K H a xs) (λi H y b=>∃x p,xs[i]?=some x/\y=.ref p/\H p=none/\b=aQ H p (.aG [.int ((i+1:Nat):Int),x])):=
 ⟨λi H h q=>by obtain⟨x,e⟩:=ot h;exact⟨xs,x,q,e⟩,λH q=>⟨xs,q,le_refl _⟩,λi H y b h q z=>by obtain⟨p,x,d,f,g,j⟩:=z;exact⟨x,p,g xs q,d,f,j⟩⟩
theorem Ax{a:af}{f:Fl}{xs:ah}(r:R K F B (.ag f xs) (.ref a) []):Src K B F (sV K a) (xs.mapIdx λi x=>.aG [.int ((i+1:Nat):Int),x]):=by
 obtain⟨G,vs,w,e,A⟩:=j5 r;cases w;refine⟨_,_,(by rw[List.length_mapIdx,<- e.length];exact Vi (K:=K) (a:=a) (xs:=vs)),A,λi t D E x m d l s b y=>?_⟩;obtain⟨z,p,h,rfl,C,rfl⟩:=y;rw[List.getElem?_mapIdx] at d;cases q:xs[i]? with
 |none=>rw[q] at d;cases d
 |some u=>
  rw[q] at d;cases d;obtain⟨H,n,o⟩:=e.dc q;rw[n] at h;cases h;obtain⟨j,g,r2,_⟩:=oR (xs:=[.int ((i+1:Nat):Int),u]) (cs:=[]) s ⟨.int ((i+1:Nat):Int),[z],[],[],rfl,rfl,⟨rfl,rfl⟩,z,[],[],[],rfl,rfl,o.mo l (λ_=>Le.refl _) u,rfl,rfl⟩ .nil C;exact⟨j,g,r2⟩
def u7(a:b8):ip:=λj Q=>a j λb=>l5 b λt=>gL (ay t) λd=>Q (d.mapIdx λi x=>.aG [.int ((i+1:Nat):Int),x]) (bL (ay t))
theorem TN(h:eJ K k ta pa):kc K k (C4 K ta) (u7 pa):=λF B H j i A z c p q=>by
 refine h F B H j i _ _ c p λD vs y m C p1 o=>?_
 obtain⟨t,rfl,p1⟩:=Aj p1;obtain⟨v,rfl,r1⟩:=o.r.one;obtain⟨l,d,r2⟩:=Out.held ⟨o.g,r1,o.c,o.n⟩;obtain⟨f,E,e,p1⟩:=oX p1;rw[e] at r2 p1;obtain⟨a,vs,rfl,_,w⟩:=j5 r2;exact⟨a,rfl,⟨vs,w l m (Le.refl _) d.s λk=>(c.b k).trans d.h⟩,q _ _ _ l m p1 d (Ax r2) λhn x u=>Ax (R.low _ hn u.symm r2)⟩
theorem VC{b:Nat}{a kpos:Pos}(f:Gl X "enumerate")(hm:X.mg "enumerate"=none)(h:QA X k [l] ps)(hs:dH l [] X.env:=by rfl)(hpl:((backTo pos (starEach [l] X.env)).any (·.1) || (backToKw pos (keywordEach [⟨some "start",.Constant (.int 1) b a,kpos⟩] X.env)).any (·.1.isNone))=false:=by rfl):QI X k (.Tuple es x1 tpos) (.Call (.Name "enumerate" p) [l] [⟨some "start",.Constant (.int 1) b a,kpos⟩] pos) (u7 ps):=by
 obtain⟨g,d,e⟩:=h.h;exact⟨_,JA f hm d hs hpl,TN e⟩
end
section
variable{K:ao}{qual:Str}{st:Stmt}{ps:aj}{f c E:af}
set_option genInjectivity false in
set_option genSizeOf false in
structure wZ(K:ao)(c E:af)(qual:Str)(st:Stmt)(ps:aj) where
 a:Addr
 d:FuncData
 F:gM K "__init__" qual st a d
 b:Binds K d ps []
 t:pN K c E a
noncomputable def M8(F:gu K "__init__" qual st f)(x1:nW K c f=true)(x2:mX K c E=true)(x3:W.findIn K (.ref c) "__setattr__"=some (some (.builtin "object.__setattr__")))(b:W.keepIn K (.ref c)=true)(d:W.isFn K (.ref f)=true)(e:W.readsIn K E (.type "type")=true)(g:W.specialIn K (.ref E) "__getattribute__"=some (some (.builtin "type.__getattribute__")))(h:W.findCls K (.ref E) (.type "type") "__init__"=some (.val (.builtin "ValueError.__init__")))(a:jB "__init__" qual st ps):wZ K c E qual st ps:=
 ⟨f,F.choose,F.choose_spec,F.choose_spec.binds a,⟨x1,x2,x3,b,d,e,g,h⟩⟩
end
theorem Vk:vY q C pa D' j=(pa (j.map aD) λa=>wc a (q (.ref C))):=rfl
theorem OO(a:b8)(j:ah)(Q:ah->Bool->Prop):vU a j Q=(a j λb=>qR b λi=>Q ((List.range (i+1).toNat).map λ(n:Nat)=>.int (i+n*(-1))) true):=rfl
theorem Ua(i j:Nat)(G:ah)(Q:av):xw i j G Q=(∃(m:bA)(ns:aH)(y:Int),G[i]?=some (.aS .f m)/\m.map (·.1)=ns.map (λn=>(Sum.inl n:aU))/\G[j]?=some (.int y)/\ns.length<=1000/\Q (.ag .o ((ns.filter λx=>!decide (x=y)).map Tr.int))):=rfl
theorem Iz(a:b8)(j:ah)(Q:ah->Bool->Prop):u7 a j Q=(a j λb=>l5 b λt=>gL (ay t) λxs=>Q (xs.mapIdx λi x=>.aG [.int ((i+1:Nat):Int),x]) (bL (ay t))):=rfl
theorem MG(i:Int)(Q:Int->Prop):qR [.int i,.int (-1),.int (-1)] Q=(-1<=i/\i<1000000/\Q i):=by
 unfold qR;simp
theorem Jw:rC [.ag f xs] Q=(fg xs=true/\Q (.ag .o xs.reverse)):=rfl
section
def q9(x:Tr)(Q:Bool->Prop):Prop:=match x with |.aS .f m=>Q (!m.isEmpty) |_=>False
def w6(pe:aY):d6:=λj Q=>pe j λx=>q9 x Q
theorem IP(hz:k.z=true)(h:bC K k te pe):fS K k (λj H Q=>te j H λx d=>∃b,yG K x d b/\Q b d) (w6 pe):=λF B H j i Q A c p q=>by
 refine h F B H j i _ _ c p λt v f l C p1 o=>?_
 unfold q9 at p1;split at p1
 .rename_i m;obtain⟨_,a,vs,rfl,u,w,D⟩:=o.r;have y:=tw ((c.gr o.g).z hz) u;refine⟨!vs.isEmpty,.inr (.inr ⟨vs,o.g.s _ _ y,rfl⟩),q _ f l ?_ o.g⟩;have e:=w.length;have n:vs.isEmpty=m.isEmpty:=by
   cases vs with
   |nil=>cases m with
    |nil=>rfl
    |cons _ _=>cases e
   |cons _ _=>cases m with
    |nil=>cases e
    |cons _ _=>rfl
  rw[n];exact p1
 .exact p1.elim
theorem Li(hz:k.z=true)(h:QE X k e pe)(he:∀whole,isTrue e X.env whole=(do let v <- whole;standAt e.pos;holding [v] (truthy v)):=by intro _;rfl):QT X k e (w6 pe):=by
 obtain⟨d,a,b⟩:=h.h;exact⟨_,OX a he,IP hz b⟩
theorem JN(pe:aY)(j:ah)(Q:Bool->Prop):w6 pe j Q=(pe j λx=>q9 x Q):=rfl
theorem NJ(m:bA)(Q:Bool->Prop):q9 (.aS .f m) Q=Q (!m.isEmpty):=rfl
theorem xK(f:Fl)(m:bA)(Q:av):nO [.aS f m] Q=Q (.ag .o (m.map λp=>lO p.1)):=by cases f<;>rfl
end
section
variable{K:ao}{qual:Str}{st:Stmt}{ps:aj}{f c E:af}
theorem Ko{a:ClassData}(h:W.clsIn K c=some a)(hm:a.mro=.ref c::.ref E::fX)(hd:a.hasDict=true):mX K c E=true:=by
 unfold mX;rw[h];show (a.mro == _&&a.hasDict)=true;rw[hm,hd,beq_self_eq_true];rfl
theorem SQ(h:W.excIn K E fX "ValueError.__new__"=true):W.tailIn K fX (.ref E::fX)=true:=by
 unfold W.excIn at h;split at h
 case h_2=>cases h
 case h_1 ddc cdc slc hlook=>
  split at h
  case h_2=>cases h
  case h_1 Cc bmc k0 k1 k2 k3 nn k5 hmro hslots=>
   simp only[and_eq_true,beq_iff_eq,Bool.not_eq_true'] at h;obtain⟨⟨⟨⟨⟨d,e⟩,g⟩,i⟩,a⟩,b⟩:=h;unfold W.tailIn;refine Bool.or_eq_true_iff.mpr (.inr ?_);dsimp only;rw[hlook];dsimp only;rw[a,b,beq_self_eq_true,Bool.true_and,Bool.true_and];unfold W.tailIn fX;exact Bool.or_eq_true_iff.mpr (.inl (beq_self_eq_true _))
theorem Lf{o j:Obj}{dd:c7}{g:ClassData}{l:Array (d0)}{k0 k1 k2 k3 k5:d0}{i:Array DictEntry}{n:Nat}(m:K.lookup c=some o)(u:o=⟨.type "type",dd,.cls g,l⟩)(hm:g.mro=.ref c::.ref E::fX)(hs:l.toList=[k0,k1,k2,k3,some (.builtin "ValueError.__new__"),k5])(h:g.hasDel=false)(p:W.excIn K E fX "ValueError.__new__"=true)(q:K.lookup g.ns=some j)(hd:j.data=.dict i n)(s:(i.toList.all λe=>match e.key with |.str _ _=>true |_=>false)=true)(r:W.nsIn K g.ns "__init__"=some (some (.ref f))):nW K c f=true:=by
 have aN:W.nsOkIn K g.ns=true:=by
  unfold W.nsOkIn;rw[q];obtain⟨a,b,d,e⟩:=j;dsimp only at hd;subst hd;show (i.all _)=true;rw[<- Array.all_toList];exact s
 unfold nW;simp only[m,u,hm,hs];rw[SQ p,aN,r,h,beq_self_eq_true,beq_self_eq_true,beq_self_eq_true];rfl
noncomputable def vf{d:ClassData}{o h:Obj}{dd:c7}{a:ClassData}{i:Array (d0)}{k0 k1 k2 k3 k5:d0}{g:Array DictEntry}{n:Nat}(e:W.findIn K (.ref c) "__init__"=some (some (.ref f)))(F:gu K "__init__" qual st f)(p:K.lookup c=some o)(x:o=⟨.type "type",dd,.cls a,i⟩)(hm:a.mro=.ref c::.ref E::fX)(hs:i.toList=[k0,k1,k2,k3,some (.builtin "ValueError.__new__"),k5])(b:a.hasDel=false)(q:W.excIn K E fX "ValueError.__new__"=true)(r:K.lookup a.ns=some h)(hd:h.data=.dict g n)(w:(g.toList.all λe=>match e.key with |.str _ _=>true |_=>false)=true)(u:W.nsIn K a.ns "__init__"=some (some (.ref f)))(j:W.clsIn K c=some d)(l:d.mro=.ref c::.ref E::fX)(m:d.hasDict=true)(x3:W.findIn K (.ref c) "__setattr__"=some (some (.builtin "object.__setattr__")))(y:W.keepIn K (.ref c)=true)(z:W.isFn K (.ref f)=true)(A:W.readsIn K E (.type "type")=true)(B:W.specialIn K (.ref E) "__getattribute__"=some (some (.builtin "type.__getattribute__")))(C:W.findCls K (.ref E) (.type "type") "__init__"=some (.val (.builtin "ValueError.__init__")))(s:jB "__init__" qual st ps):wZ K c E qual st ps:=
 M8 F (Lf p x hm hs b q r hd w u) (Ko j l m) x3 y z A B C s
end
end Pu
namespace L2
open PySem PySem.Spec PyProof.Rows
section
def CN(K:ao):V->aw->Hp->VK->Prop:=λx vs H Q=>∃(l:af)(ns:aH)(c:Int),x=.ref l/\vs=[.int c]/\bE K H l (ns.map V.int)/\c∈ns/\ns.length<=1000/\Q (.int (ns.idxOf c:Nat)) H
theorem Px:Fx X "list.index" (CN X.K):=by
 intro aa s i H x vs v us Q I C B h;obtain⟨l,ns,c,rfl,rfl,p,e,D,q⟩:=h;cases C;obtain⟨u,rfl,A⟩:=B.one;obtain⟨t,rfl⟩:=A;obtain⟨b,r,⟨⟨oc,od,z,osl⟩,n,m,o,hd,f⟩,E⟩:=I.list p;cases o;cases hd;cases f;have d:=K4 r;have a:=d.length;have g:ns.idxOf c<ns.length:=List.idxOf_lt_length_iff.mpr e;refine call_meets F.slot_list_index ⟨_,m,rfl⟩ F.entry_list_index (F.args_list_index_2 _ _) (SeqAt.list_indexAt l _ n none osl (.int c t) (isInt c) (ns.idxOf c) (by simpa [a] using g) (by omega) ?_ ?_) ⟨m,λy w=>(eq_isInt c t d y (by simpa using w)).at _ _,.int _,H,I.tok _,⟨_,rfl⟩,q⟩
 .show isInt c b[ns.idxOf c]=true;rw[isInt_at c d _ (by omega) g];simpa using List.getElem_idxOf g
 .intro j hjs hlt;show isInt c b[j]=false;rw[isInt_at c d j (by simpa using hjs) (by omega)];exact ne_of_lt_idxOf hlt _
end
end L2
namespace Pu
open PySem L2 Vc Sf
section
def wx(po pe:aY):aY:=λj Q=>po j λx=>∃(f:Fl)(ns:aH),x=.ag f (ns.map Tr.int)/\pe j λt=>∃c:Int,t=.int c/\c∈ns/\ns.length<=1000/\Q (.int (ns.idxOf c:Nat))
theorem DA:∀{ns:aH}{vs:aw}{c:Cs},Rs K F B (ns.map Tr.int) vs c->vs=ns.map V.int/\c=[]
 |[],_,_,h=>h
 |n::ns,_,_,y=>by
  obtain⟨v,r,c,d,g,i,j,l⟩:=y;obtain⟨a,b⟩:=DA l;obtain⟨e,f⟩:=(show v=V.int n/\c=[] from j);exact⟨by rw[g,a,e];rfl,by rw[i,f,b];rfl⟩
theorem G5(A:bC K k to po)(he:bC K k te pe):bC K k (vj K "list" (CN K) to (iS te iU)) (wx po pe):=λF B H j i Q D c p q=>by
 refine A F B H j i _ _ c p λx v m o E p1 d=>?_
 obtain⟨f,ns,rfl,p1⟩:=p1;obtain⟨a,vs,I,rfl,l,z,J,L⟩:=d.r.cv d.g.s (λk=>(c.b k).trans d.g.h) d.c;obtain⟨rfl,_⟩:=DA z;refine⟨.inl ⟨rfl,_,l⟩,he m B o j i _ _ (c.gr d.g) p1 λy u n w G p2 e=>?_⟩;obtain⟨b,rfl,p2,p3,C⟩:=p2;obtain⟨rfl,_⟩:=e.r;exact⟨a,ns,b,rfl,rfl,(l.imp (λh=>e.g.h.rd h) id),p2,p3,q _ _ n w [] C ⟨d.g.trans' e.g,⟨rfl,rfl⟩,.nil,.nil⟩⟩
theorem Jx(hp:QE X k o po)(h:QE X k e pe)(f:attributeBase o "index" X.env (eval o X.env)=eval o X.env:=by rfl)(g:(((backTo bq (starEach [e] X.env)).all (!·.1)&&(backToKw bq (keywordEach [] X.env)).all (·.1.isSome))&&decide (([e].length+([]:List Keyword).length+if ([]:List Keyword).isEmpty=true then 0 else 1)<30))=true:=by rfl)(i:(apos.endLine == bq.line)=true:=by rfl)(a:dH e [] X.env:=by rfl):
  QE X k (.Call (.Attribute o "index" apos) [e] [] bq) (wx po pe):=by
 obtain⟨n,j,l⟩:=hp.h;obtain⟨m,b,d⟩:=h.h;exact⟨_,Gj PySem.F.plainAttrs_list PySem.F.slot_list_index PySem.F.type_list_index Px j (ju b jT a) f g i a rfl,G5 l d⟩
theorem PJ:wx po pe j Q=(po j λx=>∃(f:Fl)(ns:aH),x=.ag f (ns.map Tr.int)/\pe j λt=>∃c:Int,t=.int c/\c∈ns/\ns.length<=1000/\Q (.int (ns.idxOf c:Nat))):=rfl
end
end Pu
namespace Pu
theorem KA(f:j->i)(a:j)(l:List j):List.map f (a::l)=f a::List.map f l:=rfl
theorem RI(f:j->i):List.map f []=[]:=rfl
open PySem L2 in
theorem ND(CX:fB)(P:Program)(w:World)(K:ao)(mg:bu)(base:aT)(N:aj)(b:Str)(a:Scope)(f:af)(d:ai)(A:Around)(outer:cz)(s:ak)(H:Hp)(E:XK):(i2 CX P w K mg base N b a f d A outer s H E).K=K:=rfl
end Pu
namespace Pu
open PySem L2 Vc Sf
section
variable{st:Stmt}{x:Str}{p pos:Pos}{e:Expr}{es:bH}{pn:aj}{ps:b8}{j m n:Nat}{z:Bool}{C:af}{qual:Str}
theorem qc{aZ:bO}(r:dD X.K X.mg x st pn)(G:aK X.prog X.w X.K X.mg X.base bJ j r.a r.d pn (bP X.K z 0 n aZ))(l:QA X k (e::es) ps)(u:bw m X.A:=by assumption)(q:j<=m:=by first |decide |omega)(s:z=true->k.z=true:=by first |exact id |exact λ_=>rfl)(hn:∀xs Q,aZ xs Q->xs.length=n:=by exact λ_ _ h=>h.1)(o:Gl X x:=by rfl)(f:du x:=by decide)(he:dH e es X.env:=by rfl)(hpl:fk pos es X.env:=by rfl):
  QE X k (.Call (.Name x p) (e::es) [] pos) (ux aZ (nh ps)):=by
 obtain⟨y,g,i⟩:=l.ay.h;exact⟨_,QV (E:=E0) (G.mono q) u o r.m r.F.kp r.b .nil p0 g f he hpl,MJ s hn i⟩
theorem s9{aZ:fN}(r:dD X.K X.mg x st pn)(G:aK X.prog X.w X.K X.mg X.base (fj X.prog X.w) j r.a r.d pn (ib X.K z 0 n aZ))(D:QA X k (e::es) ps)(U:∀i,iZ (fj X.prog X.w) X i (k.E i):=by first |assumption |exact DG (JO rfl rfl rfl rfl) |exact DG RY)(O:bw m X.A:=by assumption)(L:j<=m:=by first |decide |omega)(M:z=true->k.z=true:=by first |exact id |exact λ_=>rfl)(hn:∀xs Q q,aZ xs Q q->xs.length=n:=by exact λ_ _ _ h=>h.1)(I:Gl X x:=by rfl)(l:du x:=by decide)(he:dH e es X.env:=by rfl)(hpl:fk pos es X.env:=by rfl):
  QE X k (.Call (.Name x p) (e::es) [] pos) (sJ k.q aZ (nh ps)):=by
 obtain⟨Y,u,y⟩:=D.ay.h;exact⟨_,Qc (G.mono L) O I r.m r.F.kp r.b .nil U u l he hpl,Co (λF B H i J c f o s N g=>c.x f o s N g) M hn y⟩
theorem Br{aZ:bO}(r:uq X.K C qual st pn)(G:aK X.prog X.w X.K X.mg X.base bJ j r.a r.d pn (bP X.K z 1 n aZ))(hm:X.mg x=some (.ref C))(l:QA X k (e::es) ps)(u:bw (m+1) X.A:=by assumption)(q:j<=m:=by first |decide |omega)(s:z=true->k.z=true:=by first |exact id |exact λ_=>rfl)(hn:∀xs Q,aZ xs Q->xs.length=n:=by exact λ_ _ h=>h.1)(o:Gl X x:=by rfl)(f:du x:=by decide)(he:dH e es X.env:=by rfl)(hpl:fk pos es X.env:=by rfl):
  QE X k (.Call (.Name x p) (e::es) [] pos) (vL C aZ ps):=by
 obtain⟨y,g,i⟩:=l.h;exact⟨_,RJ (R:=λ_=>E0) r.t (G.mono q) u o hm r.b .nil (rQ p0) g f he hpl,Mg s hn i⟩
end
end Pu
namespace Lp
def sm:Nat->(Nat->Int)->Int
 |0,_=>0
 |n + 1,f=>sm n f + f n
theorem a9{f g:Nat->Int}:∀{n:Nat},(∀k,k<n->f k=g k)->sm n f=sm n g
 |0,_=>rfl
 |n + 1,h=>by rw[sm,sm,a9 λk a=>h k (by omega),h n (by omega)]
theorem o8(a b:Int)(f g:Nat->Int):∀n:Nat,sm n (λk=>a*f k+b*g k)=a*sm n f+b*sm n g
 |0=>by simp[sm]
 |n + 1=>by rw[sm,sm,sm,o8 a b f g n];grind
theorem bN(a:Int)(f:Nat->Int):∀n:Nat,sm n (λk=>a*f k)=a*sm n f
 |0=>by simp[sm]
 |n + 1=>by rw[sm,sm,bN a f n];grind
theorem jq{f:Nat->Int}:∀{n:Nat},(∀k,k<n->f k=0)->sm n f=0
 |0,_=>rfl
 |n + 1,h=>by rw[sm,jq λk a=>h k (by omega),h n (by omega)];rfl
theorem gQ{f:Nat->Int}{a:Nat}:∀{n:Nat},a<n->(∀k,k<n->k≠a->f k=0)->sm n f=f a
 |n + 1,ha,h=>by
  by_cases e:a=n
  .subst e;rw[sm,jq λk b=>h k (by omega) (by omega)];omega
  .rw[sm,gQ (a:=a) (by omega) λk b=>h k (by omega),h n (by omega) (by omega)];omega
theorem eU{f:Nat->Int}{a b:Nat}(d:a<b):∀{n:Nat},b<n->(∀k,k<n->k≠a->k≠b->f k=0)->sm n f=f a+f b
 |n + 1,hb,h=>by
  by_cases e:b=n
  .subst e;rw[sm,gQ (a:=a) d λk g i=>h k (by omega) i (by omega)]
  .rw[sm,eU d (by omega) λk g=>h k (by omega),h n (by omega) (by omega) (by omega)];omega
theorem qF(f:aJ)(n:Nat):∀m:Nat,sm m (λi=>sm n (f i))=sm n λk=>sm m λi=>f i k
 |0=>by rw[sm,jq];intro k _;rfl
 |m + 1=>by
  rw[sm,qF f n m];have:=o8 1 1 (λk=>sm m λi=>f i k) (f m) n;simp only[one_mul] at this;rw[<- this];rfl
def sg(n:Nat):Int:=if n % 2=0 then 1 else -1
theorem Vr(n:Nat):sg (n+1)=- sg n:=by unfold sg;split<;>split<;>omega
def skip(k j:Nat):Nat:=if j<k then j else j+1
def up{i:Type}(v:Nat->i)(s:Nat)(x:i):Nat->i:=λj=>if j=s then x else v j
def dt:Nat->(aJ)->Int
 |0,_=>1
 |m + 1,v=>sm (m + 1) λk=>sg (m + k) * v k m * dt m (λj=>v (skip k j))
theorem mh:∀{m:Nat}{v w:aJ},(∀j i,j<m->i<m->v j i=w j i)->dt m v=dt m w
 |0,_,_,_=>rfl
 |m + 1,v,w,h=>by
  rw[dt,dt];apply a9;intro k a;rw[h k m a (by omega),mh (m:=m) (v:=λj=>v (skip k j)) (w:=λj=>w (skip k j)) λj i d b=>h _ _ (by unfold skip;split<;>omega) (by omega)]
theorem u4{v:aJ}{s k:Nat}(x:Nat->Int)(h:k≠s):(λj=>up v s x (skip k j))=up (λj=>v (skip k j)) (if s<k then s else s - 1) x:=by
 funext j;unfold up skip;dsimp only;by_cases a:s<k
 .rw[if_pos a];by_cases b:j<k
  .rw[if_pos b]
  .rw[if_neg b,if_neg (by omega),if_neg (by omega)]
 .rw[if_neg a];by_cases b:j<k
  .rw[if_pos b,if_neg (by omega),if_neg (by omega)]
  .rw[if_neg b];by_cases c:j+1=s
   .rw[if_pos c,if_pos (by omega)]
   .rw[if_neg c,if_neg (by omega)]
theorem Qb{v:aJ}{s:Nat}(x:Nat->Int):(λj=>up v s x (skip s j))=λj=>v (skip s j):=by
 funext j;unfold up skip;rw[if_neg (by split<;>omega)]
theorem jg{v:aJ}{s:Nat}{x:Nat->Int}:up v s x s=x:=by simp[up]
theorem iz{v:aJ}{s k:Nat}{x:Nat->Int}(h:k≠s):up v s x k=v k:=by simp[up,h]
theorem mC(a b:Int)(x y:Nat->Int):∀{m:Nat}(v:aJ){s:Nat},s<m->dt m (up v s λi=>a*x i+b*y i)=a*dt m (up v s x)+b*dt m (up v s y)
 |m + 1,v,s,hs=>by
  simp only[dt];rw[<- o8];apply a9;intro k d;by_cases e:k=s
  .subst e;simp only[Qb,jg];grind
  .simp only[iz e];rw[u4 _ e,u4 _ e,u4 _ e,mC a b x y (m:=m) _ (by split<;>omega)];grind
theorem zB:∀{m:Nat}{v:aJ}{a:Nat},a+1<m->(∀i,i<m->v a i=v (a+1) i)->dt m v=0
 |m + 1,v,a,ha,h=>by
  rw[dt,eU (a:=a) (b:=a+1) (by omega) ha]
  .have e:dt m (λj=>v (skip a j))=dt m (λj=>v (skip (a+1) j)):=by
    apply mh;intro j i f d;unfold skip;by_cases c:j=a
    .subst c;rw[if_neg (by omega),if_pos (by omega)];exact (h i (by omega)).symm
    .by_cases b:j<a
     .rw[if_pos b,if_pos (by omega)]
     .rw[if_neg b,if_neg (by omega)]
   rw[e,h m (by omega),<- Nat.add_assoc,Vr];grind
  .intro k hk ka kb;rw[zB (m:=m) (v:=λj=>v (skip k j)) (a:=if k<a then a - 1 else a),mul_zero]
   .split<;>omega
   .intro i d;unfold skip;by_cases c:k<a
    .simp only[c,if_true];rw[if_neg (by omega),if_neg (by omega),show a - 1+1=a by omega];exact h i (by omega)
    .simp only[c,if_false];rw[if_pos (by omega),if_pos (by omega)];exact h i (by omega)
theorem lY{v:aJ}{s t:Nat}{x y:Nat->Int}(h:s≠t):up (up v s x) t y=up (up v t y) s x:=by
 funext j;unfold up;by_cases a:j=t<;>by_cases b:j=s<;>simp[a,b]<;>omega
theorem CY{m a b:Nat}(d:a≠b)(e:a<m)(f:b<m)(h:∀v:aJ,(∀i,i<m->v a i=v b i)->dt m v=0)(v:aJ)(x y:Nat->Int):dt m (up (up v a x) b y)=- dt m (up (up v a y) b x):=by
 have z:=λp=>h (up (up v a p) b p) λi _=>by rw[iz d,jg,jg]
 have l:=mC 1 1 x y (m:=m) (up v a λi=>1*x i+1*y i) f;rw[z,lY d,lY d,mC 1 1 x y (m:=m) _ e,mC 1 1 x y (m:=m) _ e,lY d.symm,lY d.symm,lY d.symm,lY d.symm,z,z] at l;omega
theorem uO{m:Nat}:∀(n:Nat){v:aJ}{a b:Nat},b=a+n+1->b<m->(∀i,i<m->v a i=v b i)->dt m v=0
 |0,v,a,b,e,hb,h=>by subst e;exact zB hb h
 |n + 1,v,a,b,e,hb,h=>by
  have s:=CY (m:=m) (a:=b - 1) (b:=b) (by omega) (by omega) hb (λw g=>uO 0 (by omega) hb g) v (v (b - 1)) (v b);have f:up (up v (b - 1) (v (b - 1))) b (v b)=v:=by
   funext j;unfold up;by_cases c:j=b
   .simp[c]
   .by_cases d:j=b - 1
    .rw[if_neg c,if_pos d,d]
    .rw[if_neg c,if_neg d]
  rw[f,uO n (v:=up (up v (b - 1) (v b)) b (v (b - 1))) (a:=a) (b:=b - 1) (by omega) (by omega)] at s
  .omega
  .intro i hi;rw[iz (by omega),iz (by omega),iz (by omega),jg];exact h i hi
theorem pA{m a b:Nat}{v:aJ}(e:a≠b)(d:a<m)(f:b<m)(h:∀i,i<m->v a i=v b i):dt m v=0:=by
 by_cases c:a<b
 .exact uO (b - a - 1) (by omega) f h
 .exact uO (a - b - 1) (a:=b) (b:=a) (by omega) d λi g=>(h i g).symm
theorem OD{m a b:Nat}(d:a≠b)(e:a<m)(f:b<m)(v:aJ)(x y:Nat->Int):dt m (up (up v a x) b y)=- dt m (up (up v a y) b x):=
 CY d e f (λ_ h=>pA d e f h) v x y
theorem wR{m s:Nat}(hs:s<m)(v:aJ)(c:Nat->Int)(u:aJ):∀n:Nat,dt m (up v s λi=>sm n λj=>c j*u j i)=sm n λj=>c j*dt m (up v s (u j))
 |0=>by
  have:=mC 0 0 (λ_=>0) (λ_=>0) (m:=m) v hs;simp only[zero_mul,Int.add_zero] at this;exact this
 |n + 1=>by
  have:=mC 1 (c n) (λi=>sm n λj=>c j*u j i) (u n) (m:=m) v hs;simp only[one_mul] at this;show dt m (up v s λi=>(sm n λj=>c j*u j i)+c n*u n i)=_;rw[this,wR hs v c u n];rfl
theorem wg:∀m:Nat,dt m (λj i=>if i=j then 1 else 0)=1
 |0=>rfl
 |m + 1=>by
  rw[dt,gQ (a:=m) (by omega)]
  .rw[if_pos rfl,mh (w:=λj i=>if i=j then 1 else 0),wg m]
   .have:sg (m+m)=1:=by unfold sg;rw[if_pos (by omega)]
    rw[this];rfl
   .intro j i hj hi;unfold skip;rw[if_pos hj]
  .intro k hk hn;rw[if_neg (by omega),mul_zero,zero_mul]
end Lp
namespace Lp
variable{m n:Nat}{A:aJ}{S:Nat->Nat}
def bs(A:aJ)(S:Nat->Nat):aJ:=λj i=>A i (S j)
def dd(m:Nat)(A:aJ)(S:Nat->Nat):Int:=dt m (bs A S)
def tt(m:Nat)(A:aJ)(S:Nat->Nat)(i k:Nat):Int:=dt m (up (bs A S) i λx=>A x k)
def Cr(m:Nat)(A:aJ)(S:Nat->Nat):Prop:=∀i k,i<m->dd m A S*A i k=sm m λj=>tt m A S j k*A i (S j)
theorem vM{v:aJ}{i:Nat}:up v i (v i)=v:=by funext j;unfold up;split<;>simp_all
theorem Me{v:aJ}{i:Nat}{x y:Nat->Int}:up (up v i x) i y=up v i y:=by funext j;unfold up;split<;>simp_all
theorem xV{r c:Nat}:bs A (up S r c)=up (bs A S) r λx=>A x c:=by funext j i;unfold bs up;split<;>rfl
theorem ES{i:Nat}:tt m A S i (S i)=dd m A S:=by
 unfold tt dd;rw[show (λx=>A x (S i))=bs A S i from rfl,vM]
theorem AD{i j:Nat}(a:i<m)(b:j<m)(h:i≠j):tt m A S i (S j)=0:=
 pA h a b λx _=>by rw[jg,iz (Ne.symm h)];rfl
theorem we(h:dd m A S≠0){i j:Nat}(a:i<m)(b:j<m)(e:S i=S j):i=j:=by
 apply Classical.byContradiction;intro q;exact h (pA q a b λx _=>by unfold bs;rw[e])
theorem dX{r c:Nat}:dd m A (up S r c)=tt m A S r c:=by unfold dd tt;rw[xV]
theorem bU{r c k:Nat}:tt m A (up S r c) r k=tt m A S r k:=by unfold tt;rw[xV,Me]
theorem dR(C:Cr m A S){r c i:Nat}(k:Nat)(f:i<m)(l:r<m)(h:i≠r):
  dd m A S*tt m A (up S r c) i k=tt m A S i k*tt m A S r c - tt m A S i c*tt m A S r k:=by
 have s:dd m A S*tt m A (up S r c) i k=dt m (up (up (bs A S) r λx=>A x c) i λx=>sm m λj=>tt m A S j k*bs A S j x):=by
  unfold tt;rw[xV];have:=mC (dd m A S) 0 (λx=>A x k) (λ_=>0) (m:=m) (up (bs A S) r λx=>A x c) f;simp only[zero_mul,Int.add_zero] at this;rw[<- this];apply mh;intro j x d u;by_cases q:j=i
  .subst q;rw[jg,jg];exact C x k u
  .rw[iz q,iz q]
 have z:∀j,j<m->j≠i->j≠r->tt m A S j k*dt m (up (up (bs A S) r λx=>A x c) i (bs A S j))=0:=λj d e g=>by
  rw[pA (a:=i) (b:=j) (Ne.symm e) f d λx _=>by rw[jg,iz e,iz g],mul_zero]
 have o:dt m (up (up (bs A S) r λx=>A x c) i (bs A S i))=tt m A S r c:=by
  rw[lY (Ne.symm h),vM];rfl
 have p:dt m (up (up (bs A S) r λx=>A x c) i (bs A S r))=- tt m A S i c:=by
  rw[OD (Ne.symm h) l f,vM];rfl
 rw[s,wR f];by_cases q:i<r
 .rw[eU q l λj d e g=>z j d e g,o,p];grind
 .rw[eU (a:=r) (b:=i) (by omega) f λj d g e=>z j d e g,o,p];grind
theorem Cr.turn(C:Cr m A S)(hd:dd m A S≠0){r c:Nat}(o:r<m):Cr m A (up S r c):=by
 intro i k l;rw[dX];have g:sm m (λj=>dd m A S*(tt m A (up S r c) j k*A i (up S r c j)) - tt m A S r c*(tt m A S j k*A i (S j))+tt m A S r k*(tt m A S j c*A i (S j)))=dd m A S*tt m A S r k*A i c:=by
  rw[gQ (a:=r) o]
  .rw[bU];simp only[up,if_true];grind
  .intro j hj q;have:=dR C (c:=c) k hj o q;rw[show up S r c j=S j by simp[up,q]];grind
 have e:∀(f g h:Nat->Int)(a b d:Int)(n:Nat),sm n (λj=>a*f j - b*g j+d*h j)=a*sm n f - b*sm n g+d*sm n h:=by
  intro f g h a b d n;induction n with
  |zero=>simp[sm]
  |succ n p=>rw[sm,sm,sm,sm,p];grind
 rw[e,<- C i k l,<- C i c l] at g;apply Int.eq_of_mul_eq_mul_left hd
 grind
theorem CL{j:Nat}(k:Nat)(b:j<m):tt m A S j k=sm m λi=>A i k*dt m (up (bs A S) j λx=>if x=i then 1 else 0):=by
 unfold tt;rw[<- wR b (bs A S) (λi=>A i k) (λi x=>if x=i then 1 else 0)];apply mh;intro a x e d;by_cases q:a=j
 .subst q;rw[jg,jg,gQ (a:=x) d]
  .simp
  .intro i hi h;rw[if_neg (Ne.symm h),mul_zero]
 .rw[iz q,iz q]
def me(m N:Nat)(A:aJ)(y:Nat->Int):Prop:=∀i,i<m->sm N (λk=>A i k*y k)=0
theorem me.tt{N:Nat}{y:Nat->Int}(h:me m N A y){j:Nat}(b:j<m):sm N (λk=>tt m A S j k*y k)=0:=by
 rw[a9 (g:=λk=>sm m λi=>dt m (up (bs A S) j λx=>if x=i then 1 else 0)*(A i k*y k))]
 .rw[<- qF λi k=>dt m (up (bs A S) j λx=>if x=i then 1 else 0)*(A i k*y k)];apply jq;intro i a;rw[bN,h i a,mul_zero]
 .intro k _;rw[CL k b,mul_comm,<- bN];apply a9;intro i _;grind
theorem Kv{N:Nat}{y:Nat->Int}(C:Cr m A S)(hd:dd m A S≠0)(h:∀j,j<m->sm N (λk=>Lp.tt m A S j k*y k)=0):me m N A y:=by
 intro i a;apply Int.eq_of_mul_eq_mul_left hd;rw[<- bN,mul_zero,a9 (g:=λk=>sm m λj=>A i (S j)*(Lp.tt m A S j k*y k))]
 .rw[<- qF λj k=>A i (S j)*(Lp.tt m A S j k*y k)];apply jq;intro j b;rw[bN,h j b,mul_zero]
 .intro k _;rw[<- Int.mul_assoc,C i k a,mul_comm,<- bN];apply a9;intro j _;grind
def zz(m:Nat)(A:aJ)(c:Nat->Int)(S:Nat->Nat)(k:Nat):Int:=dd m A S*c k - sm m λi=>c (S i)*tt m A S i k
theorem ea{c:Nat->Int}{i:Nat}(b:i<m):zz m A c S (S i)=0:=by
 unfold zz;rw[gQ (a:=i) b,ES]
 .grind
 .intro j hj q;rw[AD hj b q,mul_zero]
theorem uA{N:Nat}{c y:Nat->Int}(h:me m N A y):sm N (λk=>zz m A c S k*y k)=dd m A S*sm N λk=>c k*y k:=by
 rw[a9 (g:=λk=>dd m A S*(c k*y k)+(-1)*sm m λi=>c (S i)*(tt m A S i k*y k)),o8,<- qF λi k=>c (S i)*(tt m A S i k*y k)]
 .rw[jq (n:=m)]
  .grind
  .intro i hi;rw[bN,h.tt hi,mul_zero]
 .intro k _;unfold zz;have:sm m (λi=>c (S i)*tt m A S i k)*y k=sm m λi=>c (S i)*(tt m A S i k*y k):=by
   rw[mul_comm,<- bN];apply a9;intro i _;grind
  grind
theorem J9(C:Cr m A S)(hd:dd m A S≠0){c:Nat->Int}{r e:Nat}(k:Nat)(l:r<m):
  dd m A S*zz m A c (up S r e) k=zz m A c S k*tt m A S r e - zz m A c S e*tt m A S r k:=by
 unfold zz;rw[dX];have g:sm m (λi=>dd m A S*(c (up S r e i)*tt m A (up S r e) i k) - tt m A S r e*(c (S i)*tt m A S i k)+tt m A S r k*(c (S i)*tt m A S i e))=dd m A S*tt m A S r k*c e:=by
  rw[gQ (a:=r) l]
  .rw[bU];simp only[up,if_true];grind
  .intro j hj q;have:=dR C (c:=e) k hj l q;rw[show up S r e j=S j by simp[up,q]];grind
 have o:∀(f g h:Nat->Int)(a b d:Int)(n:Nat),sm n (λj=>a*f j - b*g j+d*h j)=a*sm n f - b*sm n g+d*sm n h:=by
  intro f g h a b d n;induction n with
  |zero=>simp[sm]
  |succ n p=>rw[sm,sm,sm,sm,p];grind
 rw[o] at g
 grind
end Lp
namespace Lp
variable{m n:Nat}{A:aJ}
theorem zS{d x y:Int}(hd:0<d)(h:d*x<=d*y):x<=y:=Int.le_of_mul_le_mul_left h hd
theorem tr{a b c x y z:Int}(f:0<x)(g:0<y)(hz:0<z)(d:a*y<=b*x)(e:b*z<=c*y):a*z<=c*x:=by
 have h:=Int.mul_le_mul_of_nonneg_right d (le_of_lt hz);have i:=Int.mul_le_mul_of_nonneg_right e (le_of_lt f);apply zS g;grind
theorem cF{f:Nat->Int}:∀{n:Nat},(∀k,k<n->0<=f k)->0<=sm n f
 |0,_=>Int.le_refl _
 |n + 1,h=>by
  have:=cF (n:=n) λk a=>h k (by omega)
  have:=h n (by omega);rw[sm];omega
structure Gd(m n:Nat)(A:aJ)(S:Nat->Nat):Prop where
 cr:Cr m A S
 pos:0<dd m A S
 lt:∀i,i<m->S i<n
 fe:∀i,i<m->0<=tt m A S i n
def Ent(m n:Nat)(A:aJ)(c:Nat->Int)(sh:Nat->Prop)(S:Nat->Nat)(e:Nat):Prop:=
 e<n/\zz m A c S e<0/\¬ sh e/\∀k,k<e->¬ sh k->0<=zz m A c S k
def Lv(m n:Nat)(A:aJ)(S:Nat->Nat)(r e:Nat):Prop:=
 r<m/\0<tt m A S r e/\∀i,i<m->0<tt m A S i e->tt m A S r n*tt m A S i e<tt m A S i n*tt m A S r e\/(tt m A S r n*tt m A S i e=tt m A S i n*tt m A S r e/\S r<=S i)
theorem Gd.turn{S:Nat->Nat}{r e:Nat}(G:Gd m n A S)(V:Lv m n A S r e)(he:e<n):Gd m n A (up S r e):=by
 refine⟨G.cr.turn (ne_of_gt G.pos) V.1,by rw[dX];exact V.2.1,λi d=>?_,λi d=>?_⟩
 .unfold up;split
  .exact he
  .exact G.lt i d
 .by_cases q:i=r
  .rw[q,bU];exact G.fe r V.1
  .have t:=dR G.cr (c:=e) n d V.1 q;apply zS G.pos;rw[t,mul_zero];by_cases p:0<tt m A S i e
   .have:=V.2.2 i d p;have:tt m A S r n*tt m A S i e<=tt m A S i n*tt m A S r e:=by omega
    rw[mul_comm (tt m A S i e)];omega
   .have a:=mul_nonneg (G.fe i d) (le_of_lt V.2.1);have b:=mul_nonneg (show 0<=- tt m A S i e by omega) (G.fe r V.1);rw[Int.neg_mul] at b;omega
def dr(m:Nat)(A:aJ)(S:Nat->Nat)(e k:Nat):Int:=(if k=e then dd m A S else 0)+(-1)*sm m λi=>if S i=k then tt m A S i e else 0
theorem xB{S:Nat->Nat}{e:Nat}(C:Cr m A S)(hd:dd m A S≠0)(lt:∀i,i<m->S i<n+1)(he:e<n+1):me m (n+1) A (dr m A S e):=by
 apply Kv C hd;intro j b;rw[a9 (g:=λk=>1*(tt m A S j k*if k=e then dd m A S else 0)+(-1)*sm m λi=>if S i=k then tt m A S j k*tt m A S i e else 0),o8]
 .rw[gQ (n:=n+1) (a:=e) he,if_pos rfl,<- qF λi k=>if S i=k then tt m A S j k*tt m A S i e else 0,gQ (n:=m) (a:=j) b,gQ (n:=n+1) (a:=S j) (lt j b),if_pos rfl,ES]
  .grind
  .intro k _ q;rw[if_neg (Ne.symm q)]
  .intro i hi q;apply jq;intro k _;split
   .rename_i h;rw[<- h,AD b hi (Ne.symm q),zero_mul]
   .rfl
  .intro k _ q;rw[if_neg q,mul_zero]
 .intro k _;unfold dr;have:sm m (λi=>if S i=k then tt m A S j k*tt m A S i e else 0)=tt m A S j k*sm m λi=>if S i=k then tt m A S i e else 0:=by
   rw[<- bN];apply a9;intro i _;split
   .rfl
   .rw[mul_zero]
  rw[this];grind
theorem oP{S:Nat->Nat}{e:Nat}(h:∀i,i<m->S i≠e):dr m A S e e=dd m A S:=by
 unfold dr;rw[if_pos rfl,jq λi a=>if_neg (h i a)];omega
theorem wq{S:Nat->Nat}{e i:Nat}(hd:dd m A S≠0)(b:i<m)(h:S i≠e):dr m A S e (S i)=- tt m A S i e:=by
 unfold dr;rw[if_neg h,gQ (a:=i) b,if_pos rfl]
 .omega
 .intro j hj q;rw[if_neg λx=>q (we hd hj b x)]
theorem oO{S:Nat->Nat}{e k:Nat}(h:∀i,i<m->S i≠k)(b:k≠e):dr m A S e k=0:=by
 unfold dr;rw[if_neg b,jq λi a=>if_neg (h i a)];rfl
theorem zT(e:Nat->Nat):∀{L:Nat},0<L->∃t,t<L/\∀u,u<L->e u<=e t
 |1,_=>⟨0,by omega,λu a=>by rw[show u=0 by omega];omega⟩
 |L + 2,_=>by
  obtain⟨t,b,h⟩:=zT e (L:=L+1) (by omega);by_cases q:e t<=e (L+1)
  .exact⟨L+1,by omega,λu a=>by
    by_cases x:u=L+1
    .subst x;omega
    .have:=h u (by omega);omega⟩
  .exact⟨t,by omega,λu a=>by
    by_cases x:u=L+1
    .subst x;omega
    .exact h u (by omega)⟩
theorem Mo{c:Nat->Int}{sh:Nat->Prop}{S:Nat->Nat->Nat}{r e:Nat->Nat}{L:Nat}(hL:0<L)(G:∀t,t<=L->Gd m n A (S t))(E:∀t,t<L->Ent m n A c sh (S t) (e t))(V:∀t,t<L->Lv m n A (S t) (r t) (e t))(U:∀t,t<L->S (t+1)=up (S t) (r t) (e t))(C:S L=S 0):False:=by
 have nz:=λt d=>ne_of_gt (G t d).pos
 have dU:∀t,t<L->dd m A (S (t+1))=tt m A (S t) (r t) (e t):=λt d=>by rw[U t d,dX]
 have zU:=λt (d:t<L)=>J9 (G t (by omega)).cr (nz t (by omega)) (c:=c) (e:=e t) n (V t d).1
 have st:∀t,t<L->zz m A c (S t) n*dd m A (S (t+1))<=zz m A c (S (t+1)) n*dd m A (S t)/\(0<tt m A (S t) (r t) n->zz m A c (S t) n*dd m A (S (t+1))<zz m A c (S (t+1)) n*dd m A (S t)):=λt d=>by
  have z:=zU t d;rw[<- U t d,<- dU t d] at z;have a:=(E t d).2.1;have f:=(G t (by omega)).fe _ (V t d).1;refine⟨?_,λp=>?_⟩
  .have:=mul_nonneg (show 0<=- zz m A c (S t) (e t) by omega) f
   grind
  .have:=mul_pos (show 0 < - zz m A c (S t) (e t) by omega) p
   grind
 have mono:∀u t,t<=u->u<=L->zz m A c (S t) n*dd m A (S u)<=zz m A c (S u) n*dd m A (S t):=by
  intro u;induction u with
  |zero=>intro t h _;rw[show t=0 by omega];omega
  |succ u I=>
   intro t h B;by_cases q:t=u+1
   .subst q;omega
   .exact tr (G t (by omega)).pos (G u (by omega)).pos (G (u+1) B).pos (I t (by omega) (by omega)) (st u (by omega)).1
 have D:∀t,t<L->tt m A (S t) (r t) n=0:=λt d=>by
  apply Classical.byContradiction;intro q;have f:=(G t (by omega)).fe _ (V t d).1;have s:=(st t d).2 (by omega);have a:=mono t 0 (by omega) (by omega);have b:=mono L (t+1) (by omega) (by omega);rw[C] at b;have:=tr (G (t+1) (by omega)).pos (G 0 (by omega)).pos (G t (by omega)).pos b a;omega
 have val:∀k t,t<=L->((sm m λi=>if S t i=k then tt m A (S t) i n else 0)=0↔(sm m λi=>if S 0 i=k then tt m A (S 0) i n else 0)=0):=by
  intro k t;induction t with
  |zero=>exact λ_=>Iff.rfl
  |succ t I=>
   intro d;rw[<- I (by omega)];have h:dd m A (S t)*(sm m λi=>if S (t+1) i=k then tt m A (S (t+1)) i n else 0)=dd m A (S (t+1))*(sm m λi=>if S t i=k then tt m A (S t) i n else 0):=by
    rw[<- bN,<- bN];apply a9;intro i g;by_cases q:i=r t
    .rw[U t (by omega),q,bU,D t (by omega),ite_self,ite_self,mul_zero,mul_zero]
    .have:=dR (G t (by omega)).cr (c:=e t) n g (V t (by omega)).1 q;rw[D t (by omega),<- U t (by omega),<- dU t (by omega)] at this;rw[show S (t+1) i=S t i by rw[U t (by omega)];simp[up,q]];split<;>grind
   constructor
   .intro x;rw[x,mul_zero] at h;exact (mul_eq_zero.mp h.symm).resolve_left (nz _ d)
   .intro x;rw[x,mul_zero] at h;exact (mul_eq_zero.mp h).resolve_left (nz _ (by omega))
 have H:∀t,t<L->∀i,i<m->S t i≠e t:=λt d i g q=>by
  have:=(E t d).2.1;rw[<- q,ea g] at this;omega
 have Y:∀t k,t<L->(∃i,i<m/\S (t+1) i=k)->k=e t\/∃i,i<m/\S t i=k:=λt k d ⟨i,g,q⟩=>by
  rw[U t d] at q;unfold up at q;split at q
  .exact .inl q.symm
  .exact .inr ⟨i,g,q⟩
 have out:∀t k,t<L->(∃i,i<m/\S t i=k)->k=S t (r t)\/∃i,i<m/\S (t+1) i=k:=λt k d ⟨i,g,q⟩=>by
  by_cases x:i=r t
  .subst x;exact .inl q.symm
  .refine .inr ⟨i,g,?_⟩;rw[U t d];simp[up,x,q]
 have back:∀k,(∀t,t<L->e t≠k)->∀s t,t<=s->s<=L->(∃i,i<m/\S s i=k)->∃i,i<m/\S t i=k:=by
  intro k M s;induction s with
  |zero=>intro t h _ b;rw[show t=0 by omega];exact b
  |succ s I=>
   intro t h l b;by_cases q:t=s+1
   .rw[q];exact b
   .rcases Y s k (by omega) b with x |x
    .exact absurd x.symm (M s (by omega))
    .exact I t (by omega) (by omega) x
 have Q:∀k,(∀t,t<L->S t (r t)≠k)->∀s t,t<=s->s<=L->(∃i,i<m/\S t i=k)->∃i,i<m/\S s i=k:=by
  intro k M s;induction s with
  |zero=>intro t h _ b;rw[show t=0 by omega] at b;exact b
  |succ s I=>
   intro t h l b;by_cases q:t=s+1
   .rw[<- q];exact b
   .rcases out s k (by omega) (I t (by omega) (by omega) b) with x |x
    .exact absurd x.symm (M s (by omega))
    .exact x
 obtain⟨t,d,big⟩:=zT e hL;have lv:∃s,s<L/\S s (r s)=e t:=by
  apply Classical.byContradiction;intro q;have f:=Q (e t) λs l x=>q ⟨s,l,x⟩
  have b1:∃i,i<m/\S (t+1) i=e t:=⟨r t,(V t d).1,by rw[U t d];simp[up]⟩
  have b2:=f L (t+1) (by omega) (by omega) b1;rw[C] at b2;obtain⟨i,g,x⟩:=f t 0 (by omega) (by omega) b2;exact H t d i g x
 obtain⟨s,l,hl⟩:=lv;have N:=G s (by omega);have o:=H s l;have K:=xB (e:=e s) N.cr (nz s (by omega)) (λi g=>lt_succ_of_lt (N.lt i g)) (lt_succ_of_lt (E s l).1);have k1:=uA (S:=S s) (c:=c) K;have k2:=uA (S:=S t) (c:=c) K;rw[gQ (a:=e s) (lt_succ_of_lt (E s l).1),oP o,mul_comm] at k1
 .have k3:=Int.eq_of_mul_eq_mul_left (nz s (by omega)) k1;have neg:=(E s l).2.1;rw[k3] at neg;have p:0<=sm (n+1) λk=>zz m A c (S t) k*dr m A (S s) (e s) k:=by
   apply cF;intro k M;have es:e s<e t:=by
    have:=big s l;have:=o (r s) (V s l).1;omega
   by_cases q:k=e s
   .subst q;rw[oP o];exact mul_nonneg ((E t d).2.2.2 _ es (E s l).2.2.1) (le_of_lt N.pos)
   .by_cases b:∃i,i<m/\S s i=k
    .obtain⟨i,g,x⟩:=b;subst x;rw[wq (nz s (by omega)) g q];by_cases O:∃u,u<L/\e u=S s i
     .obtain⟨u,B,x⟩:=O;by_cases y:S s i=e t
      .have:i=r s:=we (nz s (by omega)) g (V s l).1 (y.trans hl.symm);rw[y,this];have a:=(E t d).2.1;have b:=(V s l).2.1;have:=mul_pos (show 0 < - zz m A c (S t) (e t) by omega) b
       grind
      .have lt:S s i<e t:=by have:=big u B;omega
       have z:=(E t d).2.2.2 _ lt (x ▸ (E u B).2.2.1);by_cases p:0<tt m A (S s) i (e s)
       .have v0:tt m A (S s) i n=0:=by
         have w:(sm m λj=>if S u j=S s i then tt m A (S u) j n else 0)=0:=jq λj J=>if_neg λy=>H u B j J (y.trans x.symm)
         have w2:=(val (S s i) s (by omega)).mpr ((val (S s i) u (by omega)).mp w);rw[gQ (a:=i) g,if_pos rfl] at w2
         .exact w2
         .intro j J y;rw[if_neg λz=>y (we (nz s (by omega)) J g z)]
        have:=(V s l).2.2 i g p;rw[D s l,v0,hl] at this;omega
       .exact mul_nonneg z (by omega)
     .have b0:=back (S s i) (λu B x=>O ⟨u,B,x⟩) s 0 (by omega) (by omega) ⟨i,g,rfl⟩;rw[<- C] at b0;obtain⟨j,J,x⟩:=back (S s i) (λu B x=>O ⟨u,B,x⟩) L t (by omega) (by omega) b0;rw[<- x,ea J,zero_mul];omega
    .rw[oO (λi g x=>b ⟨i,g,x⟩) q,mul_zero];omega
  rw[k2] at p;have:=mul_pos (G t (by omega)).pos (show 0 < - sm (n+1) λk=>c k*dr m A (S s) (e s) k by omega)
  grind
 .intro k _ q;by_cases b:∃i,i<m/\S s i=k
  .obtain⟨i,g,x⟩:=b;rw[<- x,ea g,zero_mul]
  .rw[oO (λi g x=>b ⟨i,g,x⟩) q,mul_zero]
end Lp
namespace Lp
variable{m n:Nat}{A:aJ}
theorem vo:∀(K:Nat){L:Nat}{f:Nat->Nat},(∀t,t<L->f t<K)->(∀s t,s<t->t<L->f s≠f t)->L<=K
 |0,L,f,h,_=>by
  by_cases q:L=0
  .omega
  .have:=h 0 (by omega);omega
 |K + 1,L,f,h,d=>by
  by_cases q:∃t,t<L/\f t=K
  .obtain⟨t,g,e⟩:=q;have:=vo K (L:=L - 1) (f:=λs=>f (skip t s)) (λs i=>by
    have a:skip t s<L/\skip t s≠t:=by unfold skip;split<;>omega
    have b:=h _ a.1;have c:f (skip t s)≠f t:=by
     by_cases x:skip t s<t
     .exact d _ _ x g
     .exact (d _ _ (by omega) a.1).symm
    show f (skip t s)<K;omega) λs u l j=>d _ _ (by unfold skip;split<;>split<;>omega) (by unfold skip;split<;>omega)
   omega
  .have:=vo K (L:=L) (f:=f) (λt g=>by
    have a:=h t g;have b:f t≠K:=λe=>q ⟨t,g,e⟩
    omega) d
   omega
def code(n:Nat):Nat->(Nat->Nat)->Nat
 |0,_=>0
 |m + 1,S=>code n m S * n + S m
theorem D2{S:Nat->Nat}:∀{m:Nat},(∀i,i<m->S i<n)->code n m S<n ^ m
 |0,_=>by simp[code]
 |m + 1,h=>by
  have a:=D2 (m:=m) λi d=>h i (by omega)
  have b:=h m (by omega);have c:=Nat.mul_le_mul_right n (Nat.succ_le_of_lt a);rw[code,Nat.pow_succ];rw[succ_mul] at c;omega
theorem Ga{S R:Nat->Nat}:∀{m:Nat},(∀i,i<m->S i<n)->(∀i,i<m->R i<n)->code n m S=code n m R->∀i,i<m->S i=R i
 |m + 1,h,g,e,i,d=>by
  rw[code,code] at e;have a:=h m (by omega);have b:=g m (by omega);have f:S m=R m:=by
   have:=congrArg (· % n) e;simp only[Nat.add_comm _ (S m),Nat.add_comm _ (R m),Nat.add_mul_mod_self_right,Nat.mod_eq_of_lt a,Nat.mod_eq_of_lt b] at this;exact this
  by_cases q:i=m
  .subst q;exact f
  .refine Ga (m:=m) (λi d=>h i (by omega)) (λi d=>g i (by omega)) ?_ i (by omega);exact Nat.eq_of_mul_eq_mul_right (by omega) (show code n m S*n=code n m R*n by omega)
def Ex(m n:Nat)(A:aJ)(c:Nat->Int)(sh:Nat->Prop)(S a:Nat->Nat):Prop:=∃r e,Ent m n A c sh S e/\Lv m n A S r e/\a=up S r e
def Ch(m n:Nat)(A:aJ)(c:Nat->Int)(sh:Nat->Prop):Nat->(Nat->Nat)->Prop
 |0,_=>True
 |L + 1,S=>∃a,Ex m n A c sh S a /\ Ch m n A c sh L a
def jB(m n:Nat)(A:aJ)(c:Nat->Int)(sh:Nat->Prop)(S:Nat->Nat)(N:Nat):Prop:=∀L,Ch m n A c sh L S->L<=N
theorem jB.step{c:Nat->Int}{sh:Nat->Prop}{S a:Nat->Nat}{N:Nat}(B:jB m n A c sh S N)(s:Ex m n A c sh S a):0<N/\jB m n A c sh a (N - 1):=
 ⟨B 1 ⟨a,s,trivial⟩,λL h=>by have:=B (L+1) ⟨a,s,h⟩;omega⟩
theorem Ch.seq{c:Nat->Int}{sh:Nat->Prop}:∀{L:Nat}{S:Nat->Nat},Gd m n A S->Ch m n A c sh L S->∃(T:Nat->Nat->Nat)(r e:Nat->Nat),T 0=S/\(∀t,t<=L->Gd m n A (T t))/\(∀t,t<L->Ent m n A c sh (T t) (e t)/\Lv m n A (T t) (r t) (e t)/\T (t+1)=up (T t) (r t) (e t))
 |0,S,G,_=>⟨λ_=>S,λ_=>0,λ_=>0,rfl,λ_ _=>G,λt h=>absurd h (by omega)⟩
 |L + 1,S,G,⟨S',⟨r,e,h1,h2,h3⟩,h⟩=>by
  obtain⟨T,d,a,f,g,s⟩:=Ch.seq (h3 ▸ G.turn h2 h1.1:Gd m n A S') h;refine⟨λt=>match t with |0=>S |t+1=>T t,λt=>match t with |0=>r |t+1=>d t,λt=>match t with |0=>e |t+1=>a t,rfl,λt b=>?_,λt b=>?_⟩
  .cases t with
   |zero=>exact G
   |succ t=>exact g t (by omega)
  .cases t with
   |zero=>exact⟨h1,h2,f.trans h3⟩
   |succ t=>exact s t (by omega)
theorem VW{c:Nat->Int}{sh:Nat->Prop}{S:Nat->Nat}(G:Gd m n A S):jB m n A c sh S (n ^ m):=by
 intro L h;obtain⟨T,r,e,w,g,s⟩:=h.seq G;have out:∀t,t<=L->∀i,m<=i->T t i=S i:=by
  intro t;induction t with
  |zero=>intro _ i _;rw[w]
  |succ t p=>
   intro d i o;obtain⟨_,v,u⟩:=s t (by omega);have:=v.1;rw[u,<- p (by omega) i o];unfold up;rw[if_neg (by omega)]
 have:=vo (n ^ m) (L:=L+1) (f:=λt=>code n m (T t)) (λt d=>D2 (g t (by omega)).lt) λa b y z q=>by
  have j:=Ga (g a (by omega)).lt (g b (by omega)).lt q;have l:T (a+(b - a))=T (a+0):=by
   rw[show a+(b - a)=b by omega];funext i;by_cases x:i<m
   .exact (j i x).symm
   .rw[out b (by omega) i (by omega)];exact (out a (by omega) i (by omega)).symm
  exact Mo (L:=b - a) (S:=λt=>T (a+t)) (r:=λt=>r (a+t)) (e:=λt=>e (a+t)) (by omega) (λt d=>g _ (by omega)) (λt d=>(s _ (by omega)).1) (λt d=>(s _ (by omega)).2.1) (λt d=>(s (a+t) (by omega)).2.2) l
 omega
end Lp
namespace Lp
variable{m n:Nat}{A:aJ}{S:Nat->Nat}{c:Nat->Int}{sh:Nat->Prop}
structure eE(m n:Nat)(A:aJ)(sh:Nat->Prop)(q:Int)(y:Nat->Int):Prop where
 mK:me m (n+1) A y
 nn:∀k,k<n->0<=y k
 sz:∀k,k<n->sh k->y k=0
 rhs:y n=-q
theorem z5{f:Nat->Int}:∀{n:Nat},(∀k,k<n->0<=f k)->sm n f=0->∀k,k<n->f k=0
 |n + 1,h,e,k,d=>by
  rw[sm] at e;have a:=cF (n:=n) (f:=f) λk d=>h k (by omega)
  have b:=h n (by omega);by_cases q:k=n
  .subst q;omega
  .exact z5 (n:=n) (λk d=>h k (by omega)) (by omega) k (by omega)
theorem eE.cost{q:Int}{y:Nat->Int}(F:eE m n A sh q y)(a:c n=0):dd m A S*sm n (λk=>c k*y k)=sm n (λk=>zz m A c S k*y k) - q*zz m A c S n:=by
 have h:=uA (S:=S) (c:=c) F.mK;rw[sm,sm,F.rhs,a] at h;grind
theorem opt{q:Int}{y:Nat->Int}(b:c n=0)(hz:∀k,k<n->¬ sh k->0<=zz m A c S k)(F:eE m n A sh q y):
  -(q*zz m A c S n)<=dd m A S*sm n (λk=>c k*y k)/\(dd m A S*sm n (λk=>c k*y k)=-(q*zz m A c S n)↔eE m n A (λk=>sh k\/0<zz m A c S k) q y):=by
 have t:∀k,k<n->0<=zz m A c S k*y k:=λk a=>by
  by_cases s:sh k
  .rw[F.sz k a s,mul_zero];omega
  .exact mul_nonneg (hz k a s) (F.nn k a)
 have e:=F.cost (S:=S) b;have p:=cF t;refine⟨by omega,λh=>?_,λG=>?_⟩
 .have z:=z5 t (by omega);refine⟨F.mK,F.nn,λk a s=>?_,F.rhs⟩;rcases s with s |s
  .exact F.sz k a s
  .exact (mul_eq_zero.mp (z k a)).resolve_left (ne_of_gt s)
 .rw[e,jq λk a=>?_]
  .omega
  .by_cases s:sh k\/0<zz m A c S k
   .rw[G.sz k a s,mul_zero]
   .have:=hz k a λx=>s (.inl x)
    have d:¬ 0<zz m A c S k:=λx=>s (.inr x)
    rw[show zz m A c S k=0 by omega,zero_mul]
def kP(m n:Nat)(A:aJ)(S:Nat->Nat)(k:Nat):Int:=(-1)*dr m A S n k
theorem iI(G:Gd m n A S){i:Nat}(a:i<m):kP m n A S (S i)=tt m A S i n:=by
 unfold kP;rw[wq (ne_of_gt G.pos) a (ne_of_lt (G.lt i a))];omega
theorem d9{k:Nat}(a:k≠n)(h:∀i,i<m->S i≠k):kP m n A S k=0:=by
 unfold kP;rw[oO h a];rfl
theorem jA(G:Gd m n A S)(hs:∀i,i<m->¬ sh (S i)):eE m n A sh (dd m A S) (kP m n A S):=by
 have K:=xB (e:=n) G.cr (ne_of_gt G.pos) (λi a=>lt_succ_of_lt (G.lt i a)) (Nat.lt_succ_self n);refine⟨λi a=>?_,λk d=>?_,λk d s=>?_,?_⟩
 .rw[a9 (g:=λk=>(-1)*(A i k*dr m A S n k)) λk _=>by unfold kP;grind,bN,K i a];rfl
 .by_cases b:∃i,i<m/\S i=k
  .obtain⟨i,a,x⟩:=b;rw[<- x,iI G a];exact G.fe i a
  .rw[d9 (by omega) λi a x=>b ⟨i,a,x⟩];omega
 .exact d9 (by omega) λi a x=>hs i a (x ▸ s)
 .unfold kP;rw[oP λi a=>ne_of_lt (G.lt i a)];omega
theorem VE(G:Gd m n A S){e:Nat}(he:e<n)(hn:∀i,i<m->S i≠e)(ht:∀i,i<m->tt m A S i e<=0)(f:c n=0):
  (∀k,k<n->0<=dr m A S e k)/\me m (n+1) A (dr m A S e)/\dr m A S e n=0/\sm n (λk=>c k*dr m A S e k)=zz m A c S e:=by
 have K:=xB (e:=e) G.cr (ne_of_gt G.pos) (λi d=>lt_succ_of_lt (G.lt i d)) (lt_succ_of_lt he);have z:dr m A S e n=0:=oO (λi d=>ne_of_lt (G.lt i d)) (Nat.ne_of_gt he);refine⟨λk g=>?_,K,z,?_⟩
 .by_cases q:k=e
  .subst q;rw[oP hn];exact le_of_lt G.pos
  .by_cases b:∃i,i<m/\S i=k
   .obtain⟨i,d,x⟩:=b;rw[<- x,wq (ne_of_gt G.pos) d (hn i d)];have:=ht i d;omega
   .rw[oO (λi d x=>b ⟨i,d,x⟩) q];omega
 .have h:=uA (S:=S) (c:=c) K;rw[gQ (a:=e) (lt_succ_of_lt he),oP hn] at h
  .apply Int.eq_of_mul_eq_mul_left (ne_of_gt G.pos);rw[sm,z] at h;grind
  .intro k _ q;by_cases b:∃i,i<m/\S i=k
   .obtain⟨i,d,x⟩:=b;rw[<- x,ea d,zero_mul]
   .rw[oO (λi d x=>b ⟨i,d,x⟩) q,mul_zero]
def iY:Nat->Nat
 |0=>1
 |m + 1=>(m + 1) * iY m
theorem wX{f:Nat->Int}{B:Nat}:∀{n:Nat},(∀k,k<n->(f k).natAbs<=B)->(sm n f).natAbs<=n*B
 |0,_=>by simp[sm]
 |n + 1,h=>by
  have a:=wX (n:=n) λk d=>h k (by omega)
  have b:=h n (by omega);have c:=Int.natAbs_add_le (sm n f) (f n);rw[sm,succ_mul];omega
theorem yH{M:Nat}:∀{m:Nat}{v:aJ},(∀j i,j<m->i<m->(v j i).natAbs<=M)->(dt m v).natAbs<=iY m*M ^ m
 |0,v,_=>by simp[dt,iY]
 |m + 1,v,h=>by
  rw[dt,iY,Nat.pow_succ,Nat.mul_assoc];apply wX;intro k d;have a:=yH (m:=m) (v:=λj=>v (skip k j)) (M:=M) λj i f e=>h _ _ (by unfold skip;split<;>omega) (by omega)
  have b:=h k m d (by omega);have s:(sg (m+k)).natAbs=1:=by unfold sg;split<;>rfl
  rw[natAbs_mul,natAbs_mul,s,Nat.one_mul];have:=mul_le_mul b a;rw[Nat.mul_comm M] at this;rw[<- Nat.mul_assoc];exact this
end Lp
namespace Lp
variable{m n:Nat}{A:aJ}{S:Nat->Nat}
def Un(m:Nat)(A:aJ)(S:Nat->Nat):Prop:=∀i j,i<m->j<m->A i (S j)=if i=j then 1 else 0
theorem Un.dd(h:Un m A S):dd m A S=1:=by
 rw[<- wg m];exact mh λj i b a=>h i j a b
theorem Un.tt(h:Un m A S){i:Nat}(k:Nat)(f:i<m):tt m A S i k=A i k:=by
 rw[CL k f,gQ (a:=i) f]
 .rw[mh (w:=λj x=>if x=j then 1 else 0),wg,Int.mul_one];intro j x d g;by_cases e:j=i
  .subst e;rw[jg]
  .rw[iz e];exact h x j g d
 .intro j d e;rw[pA (a:=i) (b:=j) (Ne.symm e) f d,mul_zero];intro x g;rw[jg,iz e];exact (h x j g d).symm
theorem Un.gd(h:Un m A S)(lt:∀i,i<m->S i<n)(fe:∀i,i<m->0<=A i n):Gd m n A S:=by
 refine⟨λi k b=>?_,by rw[h.dd];decide,lt,λi b=>by rw[h.tt n b];exact fe i b⟩;rw[h.dd,gQ (a:=i) b]
 .rw[h.tt k b,h i i b b,if_pos rfl];grind
 .intro j hj e;rw[h i j b hj,if_neg (Ne.symm e),mul_zero]
theorem jh{M:Nat}(h:∀i k,i<m->k<=n->(A i k).natAbs<=M)(lt:∀i,i<m->S i<n){i k:Nat}(d:k<=n):(tt m A S i k).natAbs<=iY m*M ^ m:=by
 refine yH λj x b a=>?_
 unfold up bs;split
 .exact h x k a d
 .exact h x _ a (Nat.le_of_lt (lt j b))
theorem gU{M:Nat}(h:∀i k,i<m->k<=n->(A i k).natAbs<=M)(lt:∀i,i<m->S i<n):(dd m A S).natAbs<=iY m*M ^ m:=
 yH λj x a b=>h x _ b (Nat.le_of_lt (lt j a))
theorem l6{M C:Nat}{c:Nat->Int}(h:∀i k,i<m->k<=n->(A i k).natAbs<=M)(lt:∀i,i<m->S i<n)(e:∀k,(c k).natAbs<=C){k:Nat}(f:k<=n):(zz m A c S k).natAbs<=(m+1)*(C*(iY m*M ^ m)):=by
 unfold zz;have a:=gU h lt;have b:(sm m λi=>c (S i)*tt m A S i k).natAbs<=m*(C*(iY m*M ^ m)):=wX λi g=>by
  rw[natAbs_mul];exact mul_le_mul (e _) (jh h lt f)
 have d:(dd m A S*c k).natAbs<=C*(iY m*M ^ m):=by rw[natAbs_mul,Nat.mul_comm];exact mul_le_mul (e k) a
 have:=Int.natAbs_sub_le (dd m A S*c k) (sm m λi=>c (S i)*tt m A S i k);rw[succ_mul];omega
end Lp
namespace Sf
open PySem L2 Vc Pu
local macro_rules | `(tactic| walk_at "c") => `(tactic| exact ⟨rfl, rfl, rfl, by decide +kernel, rfl, by decide +kernel, by decide +kernel⟩)
local macro_rules | `(tactic| walk_at "k") => `(tactic| decide +kernel)
def inClass(s:Stmt)(j:Nat):Stmt:=match s with
 |.ClassDef _ _ _ a _ _ _ _ _ _ _=>a.getD j (.Pass ⟨0,0,0,0⟩)
 |_=>.Pass ⟨0,0,0,0⟩
def top(i:Nat):Stmt:=PySem.Challenge.pw_springframe_k41_one_unknown.main.body.getD i (.Pass ⟨0,0,0,0⟩)
abbrev EE:Stmt:=top 7
abbrev FY:Stmt:=top 8
abbrev zN:Stmt:=top 9
abbrev B3:Stmt:=top 10
abbrev Cg:Stmt:=top 11
abbrev Gk:Stmt:=top 12
abbrev zI:Stmt:=top 13
abbrev Av:Stmt:=top 19
abbrev B6:Stmt:=top 21
abbrev BF:Stmt:=top 22
abbrev EF:Stmt:=top 25
abbrev zL:Stmt:=top 27
abbrev AS:Stmt:=top 28
abbrev zw:Stmt:=top 29
abbrev Ep:Stmt:=top 32
abbrev Gn:Stmt:=top 33
abbrev Ed:Stmt:=top 34
abbrev Fh:Stmt:=top 35
abbrev Ad:Stmt:=top 37
abbrev Fv:Stmt:=top 38
abbrev B9:Stmt:=top 39
abbrev Gg:Stmt:=top 40
abbrev A7:Stmt:=top 41
abbrev Bw:Stmt:=top 42
abbrev DX:Stmt:=top 43
abbrev Fs:Stmt:=top 44
abbrev zM:Stmt:=top 45
abbrev Dz:Stmt:=top 46
abbrev AW:Stmt:=inClass (top 23) 0
abbrev zP:Stmt:=inClass (top 23) 1
abbrev Ds:Stmt:=inClass (top 23) 2
abbrev acl:Stmt:=inClass (top 23) 3
abbrev ET:Stmt:=inClass (top 23) 4
abbrev zd:Stmt:=inClass (top 23) 5
abbrev CA:Stmt:=inClass (top 23) 6
abbrev z3:Stmt:=inClass (top 23) 7
abbrev E7:Stmt:=inClass (top 23) 8
abbrev BZ:Stmt:=inClass (top 24) 0
abbrev CB:Stmt:=inClass (top 24) 1
abbrev E9:Stmt:=inClass (top 24) 2
abbrev D6:Stmt:=inClass (top 24) 3
abbrev DJ:Stmt:=inClass (top 24) 4
abbrev Ce:Stmt:=inClass (top 24) 5
abbrev Ey:Stmt:=inClass (top 24) 6
abbrev C2:Stmt:=inClass (top 24) 7
abbrev AI:Stmt:=inClass (top 24) 9
abbrev FW:Stmt:=inClass (top 24) 10
abbrev EX:Stmt:=inClass (top 24) 11
abbrev Am:Stmt:=inClass (top 24) 12
abbrev zF:Stmt:=inClass (top 24) 13
abbrev zD:Stmt:=inClass (top 24) 14
abbrev Dg:Stmt:=inClass (top 4) 0
theorem Qn:bS ["top","bottom","divisor"] ["top","bottom"] (bD EE):=by walk_at "c"
theorem SF:bS ["one","other","remainder"] ["one","other"] (bD FY):=by walk_at "c"
theorem IU:bS ["one","other"] ["one","other"] (bD zN):=by walk_at "c"
theorem HL:bS ["one","other"] ["one","other"] (bD B3):=by walk_at "c"
theorem LD:bS ["one","other"] ["one","other"] (bD Cg):=by walk_at "c"
theorem TJ:bS ["one","other"] ["one","other"] (bD Gk):=by walk_at "c"
theorem PM:bS ["one","other"] ["one","other"] (bD zI):=by walk_at "c"
theorem Nh:bS ["rows","unknowns"] ["rows","unknowns"] (bD Av):=by walk_at "c"
theorem Q1:bS ["fractions","bottom","fraction"] ["fractions"] (bD B6):=by walk_at "c"
theorem MN:bS ["fractions","bottom"] ["fractions","bottom"] (bD BF):=by walk_at "c"
theorem UN:bS ["rows","unknowns","sheet"] ["rows","unknowns"] (bD EF):=by walk_at "c"
theorem SG:bS ["rows","unknowns","numbers","sheet","missed","shown","number","price"] ["rows","unknowns","numbers"] (bD zL):=by walk_at "c"
theorem Hm:bS ["rows","unknowns","numbers","clash","number","fewer"] ["rows","unknowns","numbers"] (bD AS):=by walk_at "c"
theorem HB:bS ["rows","unknowns","numbers","sheet","clash"] ["rows","unknowns","numbers"] (bD zw):=by walk_at "c"
theorem Nc:bS ["unknowns"] ["unknowns"] (bD Ep):=by walk_at "c"
theorem Py:bS ["sheet","unknowns","ranks"] ["sheet","unknowns"] (bD Gn):=by walk_at "c"
theorem S6:bS ["rows","unknowns","sheet","costs"] ["rows","unknowns"] (bD Ed):=by walk_at "c"
theorem Mi:bS ["rows","unknowns","sheet","settled","papers","place","goal","prices_and_shares"] ["rows","unknowns"] (bD Fh):=by walk_at "c"
theorem Jh:bS ["_law_script","_law_k"] ["_law_script","_law_k"] (bD Ad):=by walk_at "c"
theorem GC:bS ["_law_cell","_law_k","_law_number"] ["_law_cell","_law_k"] (bD Fv):=by walk_at "c"
theorem Sq:bS ["_law_one","_law_other"] ["_law_one","_law_other"] (bD B9):=by walk_at "c"
theorem Qj:bS ["_law_top","_law_bottom","_law_both"] ["_law_top","_law_bottom"] (bD Gg):=by walk_at "c"
theorem To:bS ["_law_cell","_law_name","_law_great","_law_share","_law_number","_law_parts","_law_kind","_law_rank"] ["_law_cell","_law_name","_law_great"] (bD A7):=by walk_at "c"
theorem Va:bS ["_law_rows","_law_name","_law_found","_law_one","_law_share","_law_top","_law_bottom"] ["_law_rows","_law_name"] (bD Bw):=by walk_at "c"
theorem M0:bS ["_law_one","_law_name","_law_at","_law_share","_law_top","_law_bottom"] ["_law_one","_law_name","_law_at"] (bD DX):=by walk_at "c"
theorem Q5:bS ["_law_rows","_law_name","_law_at","_law_found","_law_rank","_law_come","_law_one","_law_top","_law_bottom"] ["_law_rows","_law_name","_law_at"] (bD Fs):=by walk_at "c"
theorem Uj:bS ["_law_goals_here","_law_others","_law_one","_law_other"] ["_law_goals_here","_law_others"] (bD zM):=by walk_at "c"
theorem AU:bS ["_law_script","_law_first","_law_name","_law_rows","_law_good","_law_found","_law_clash","_law_told"] ["_law_script"] (bD Dz):=by walk_at "c"
theorem OG:bS ["self","lines","solved"] ["self","lines","solved"] (bD AW):=by walk_at "c"
theorem M6:bS ["self","costs","left","line","column","cost"] ["self","costs"] (bD zP):=by walk_at "c"
theorem RD:bS ["self","costs","column","line"] ["self","costs"] (bD Ds):=by walk_at "c"
theorem Su:bS ["self","costs","left","column"] ["self","costs"] (bD acl):=by walk_at "c"
theorem HC:bS ["self","column","best","number","line"] ["self","column"] (bD ET):=by walk_at "c"
theorem LF:bS ["self","number","best","column","line","other","one_way","other_way"] ["self","number","best","column"] (bD zd):=by walk_at "c"
theorem T2:bS ["self","number","column","turned","middle","lines","line","entry"] ["self","number","column"] (bD CA):=by walk_at "c"
theorem Kt:bS ["self","costs","mark","left","column"] ["self","costs","mark"] (bD z3):=by walk_at "c"
theorem Hn:bS ["self","column"] ["self","column"] (bD E7):=by walk_at "c"
theorem I0:bS ["self","rows","unknowns","lines","solved","number","one","line","upright"] ["self","rows","unknowns"] (bD BZ):=by walk_at "c"
theorem Ob:bS ["self"] ["self"] (bD CB):=by walk_at "c"
theorem UL:bS ["self","number"] ["self","number"] (bD E9):=by walk_at "c"
theorem Pm:bS ["self","number"] ["self","number"] (bD D6):=by walk_at "c"
theorem Ti:bS ["self","number","one","fractions","scale","entries","line"] ["self","number","one"] (bD DJ):=by walk_at "c"
theorem Jj:bS ["self","rank","costs","number","one","cost"] ["self","rank"] (bD Ce):=by walk_at "c"
theorem Qk:bS ["self","parts","costs"] ["self","parts"] (bD Ey):=by walk_at "c"
theorem LJ:bS ["self","costs","scale","numbers","column","fall","left"] ["self","costs"] (bD C2):=by walk_at "c"
theorem Q0:bS ["self","place"] ["self","place"] (bD AI):=by walk_at "c"
theorem Lc:bS ["self","told","place","unknown"] ["self"] (bD FW):=by walk_at "c"
theorem Kh:bS ["self","place","left","shares","ahead","share"] ["self","place"] (bD EX):=by walk_at "c"
theorem GX:bS ["self","left","ahead","share","column","mark","needed"] ["self","left","ahead"] (bD Am):=by walk_at "c"
theorem Qr:bS ["self","left"] ["self","left"] (bD zF):=by walk_at "c"
theorem Ij:bS ["self","number","left","below","above","kind","scale"] ["self","number","left"] (bD zD):=by walk_at "c"
theorem S1:bS ["self","numbers","weights"] ["self","numbers","weights"] (bD Dg):=by walk_at "c"
set_option genInjectivity false in
set_option genSizeOf false in
structure Tx(w:World)(K:ao)(mg:bu) where
 {aaa:af}
 Of:mg "Table"=some (.ref aaa)
 iO:gg K aaa
 vK:bf K aaa "lines"
 wb:bf K aaa "solved"
 yc:bf K aaa "bottom"
 xj:bf K aaa "shut"
 {aah:af}
 KZ:mg "Sheet"=some (.ref aah)
 fm:gg K aah
 qT:bf K aah "rows"
 oy:bf K aah "unknowns"
 vq:bf K aah "scales"
 v8:bf K aah "settled"
 rJ:bf K aah "table"
 jw:dD K mg "part" EE ["top","bottom"]
 qw:dD K mg "greatest_divisor" FY ["one","other"]
 tq:dD K mg "plus" zN ["one","other"]
 ny:dD K mg "minus" B3 ["one","other"]
 mP:dD K mg "times" Cg ["one","other"]
 qW:dD K mg "over" Gk ["one","other"]
 tL:dD K mg "under" zI ["one","other"]
 rH:dD K mg "check_many" Av ["rows","unknowns"]
 pZ:dD K mg "common_bottom" B6 ["fractions"]
 pI:dD K mg "whole_numbers" BF ["fractions","bottom"]
 qy:dD K mg "settled_musts" EF ["rows","unknowns"]
 qY:dD K mg "shown_clash" zL ["rows","unknowns","numbers"]
 ro:dD K mg "least_clash" AS ["rows","unknowns","numbers"]
 rZ:dD K mg "fitted" zw ["rows","unknowns","numbers"]
 sr:dD K mg "goals_of" Ep ["unknowns"]
 rE:dD K mg "goal_costs" Gn ["sheet","unknowns"]
 ub:dD K mg "settled_sheet" Ed ["rows","unknowns"]
 uk:dD K mg "laid" Fh ["rows","unknowns"]
 tQ:dD K mg "_law_cell_at" Ad ["_law_script","_law_k"]
 iL:dD K mg "_law_mix" Fv ["_law_cell","_law_k"]
 r9:dD K mg "_law_divisor" B9 ["_law_one","_law_other"]
 lE:dD K mg "_law_lowest" Gg ["_law_top","_law_bottom"]
 rM:dD K mg "_law_row" A7 ["_law_cell","_law_name","_law_great"]
 rS:dD K mg "_law_turns" Bw ["_law_rows","_law_name"]
 ra:dD K mg "_law_off" DX ["_law_one","_law_name","_law_at"]
 oZ:dD K mg "_law_goals" Fs ["_law_rows","_law_name","_law_at"]
 uN:dD K mg "_law_ahead" zM ["_law_goals_here","_law_others"]
 lB:dD K mg "law" Dz ["_law_script"]
 rX:uq K aaa "Table.__init__" AW ["self","lines","solved"]
 pJ:eO K aaa "costs_left" "Table.costs_left" zP ["self","costs"]
 sL:eO K aaa "go_down" "Table.go_down" Ds ["self","costs"]
 qq:eO K aaa "falling" "Table.falling" acl ["self","costs"]
 sY:eO K aaa "first_stop" "Table.first_stop" ET ["self","column"]
 ue:eO K aaa "stops_ahead" "Table.stops_ahead" zd ["self","number","best","column"]
 sF:eO K aaa "turn" "Table.turn" CA ["self","number","column"]
 uf:eO K aaa "shut_rising" "Table.shut_rising" z3 ["self","costs","mark"]
 uL:eO K aaa "told" "Table.told" E7 ["self","column"]
 tK:uq K aah "Sheet.__init__" BZ ["self","rows","unknowns"]
 ua:eO K aah "columns" "Sheet.columns" CB ["self"]
 mB:eO K aah "below" "Sheet.below" E9 ["self","number"]
 mI:eO K aah "above" "Sheet.above" D6 ["self","number"]
 sC:eO K aah "line_of" "Sheet.line_of" DJ ["self","number","one"]
 qN:eO K aah "rank_costs" "Sheet.rank_costs" Ce ["self","rank"]
 tm:eO K aah "sum_costs" "Sheet.sum_costs" Ey ["self","parts"]
 qC:eO K aah "settle" "Sheet.settle" C2 ["self","costs"]
 oC:eO K aah "value" "Sheet.value" AI ["self","place"]
 rf:eO K aah "placing" "Sheet.placing" FW ["self"]
 sy:eO K aah "paper" "Sheet.paper" EX ["self","place"]
 uv:eO K aah "share_of" "Sheet.share_of" Am ["self","left","ahead"]
 qK:eO K aah "prices" "Sheet.prices" zF ["self","left"]
 rO:eO K aah "price" "Sheet.price" zD ["self","number","left"]
 {abe:af}
 i8:mg "NOUGHT"=some (.ref abe)
 i4:Az K abe (([0,1]:aH).map V.int)
 {abh:af}
 VH:mg "ONE"=some (.ref abh)
 NG:Az K abh (([1,1]:aH).map V.int)
 {abk:Tok}
 wC:mg "MUST"=some (.int (0) abk)
 {abm:Tok}
 BW:mg "MOST_RANK"=some (.int (4) abm)
 {abo:Tok}
 Wf:mg "MOST_ROWS"=some (.int (16) abo)
 {abq:Tok}
 Kj:mg "MOST_UNKNOWNS"=some (.int (8) abq)
 {abt:af}
 LQ:mg "FrameError"=some (.ref abt)
 {abv:af}
 Qs:mg "TooMany"=some (.ref abv)
 VI:W.excIn K abv [.type "ValueError",.type "Exception",.type "BaseException",.type "object"] "ValueError.__new__"=true
 {aby:af}
 AX:mg "Clash"=some (.ref aby)
 {abA:af}
 Wx:mg "NoPart"=some (.ref abA)
 k6:wZ K aby abt "Clash.__init__" Dg ["self","numbers","weights"]
 Sr:W.findIn K (.ref aby) "numbers"=some none
 U1:W.findIn K (.ref aby) "weights"=some none
 Pz:W.exmOne K (.ref aby) (.ref aby)=some true
 rG:mg "abs"=none
 g8:mg "len"=none
 lh:mg "range"=none
 Pj:mg "isinstance"=none
 Q8:mg "tuple"=none
 ia:mg "list"=none
 Ha:mg "any"=none
 pK:mg "enumerate"=none
 n6:mg "zip"=none
 La:mg "reversed"=none
section
variable{P:Program}{w:World}{K:ao}{mg:bu}{base:aT}
def Al:String:="ND PJ JN NJ Vk OO Ua Iz MG Jw MQ Hj Vw ME S5 OH U2 PN QY OT RA RF Kb MY HI mF Io SX bZ fx iE e9 fw JY O5 Jb V5 Nf N1 My Sy L3 VD QJ GI Om Kl KR Nw HN HQ Ud TV Iy Wn RK Tj LK GS P7 Lu Jz H0 Pc NC OI Tn NA L7 Hi GJ MI RW TR NP PY Rw GL RT IA ER Jq Tw G9 P1 DS Ld O6 Sk DW MW Hk Ta FI Ke RU Rm Ff Mu VP UI UG V3 T5 Mw Ih Js PX PF Oq Ut PC HH Si Uq Qd U4 Ia Vv Jr L8 RV Ki Ws SO Og Jd mz getD_some HZ Mn Q3 Vd Pa K5 SH GQ Kc Mt Ks T6 Rh Ss Rx SS Pt FA length_map MU JM Lq Hw QC Ew Ii gB NH yg zg KJ gG Ny Tu yu Vg w_lt Vf MF Rz FZ RP Lw JT UB UU V8 Wj jn Q4 TC Ic Rj Hz Ho KA RI List.getElem?_cons_succ List.getElem?_cons_zero List.set_cons_zero List.set_cons_succ cP bp cp cy cu Bool.and_self if_true if_false true_and and_true cons_append nil_append List.replicate Nat.reduceSub length_cons length_nil Nat.reduceAdd Nat.reduceLeDiff decide_true decide_false Bool.not_true Bool.not_false Bool.false_eq_true A6 Gx L0 UK U9 JV kA gm jm iB gF CM nA qU nj f6 Kg K9 VU Wi CZ Ug Vp sP RL Tr.int.injEq"
local macro_rules |`(tactic|walk_at"")=>do
 let a:=((Al++" NB").splitOn " ").toArray.map λx=>Lean.mkIdent x.toName
 `(tactic|simp only[$[$a:ident],*])
local macro_rules |`(tactic|walk_at "q")=>do
 let a:=(Al.splitOn " ").toArray.map λx=>Lean.mkIdent x.toName
 `(tactic|simp only[$[$a:ident],*])
def dE:Fl->Fl |.o=>.l true |.f=>.f |.l b=>.l b
def d8:Fl->Fl |.o=>.o |.f=>.f |.l _=>.l false
instance:ae (bI):=⟨λo=>match o with |none=>.aL |some n=>.int n,λo=>by cases o<;>rfl,λo z=>by cases o<;>cases z⟩
def mT(m:aR):bA:=m.map λp=>(p.1,ae.t p.2)
structure gp where
 ls:List (aH)
 so:aH
 bt:Int
 m:aR
structure gC where
 rs:ax
 us:aj
 sc:aH
 ss:br
 tb:gp
def fJ(f:Fl)(S:gp):bx:=[("lines",ae.t S.ls),("solved",.ag f (S.so.map ae.t)),("bottom",.int S.bt),("shut",.aS f (mT S.m))]
def bY(T:Tx w K mg)(f:Fl)(S:gp):Tr:=.ins f T.aaa (fJ f S)
def gA(T:Tx w K mg)(f:Fl)(S:gC):bx:=[("rows",ae.t S.rs),("unknowns",ae.t S.us),("scales",.ag f (S.sc.map ae.t)),("settled",.ag f (S.ss.map ae.t)),("table",bY T f S.tb)]
def b7(T:Tx w K mg)(f:Fl)(S:gC):Tr:=.ins f T.aah (gA T f S)
def jH(f:Fl)(rs:ax)(us:aj)(sc:aH):bx:=[("rows",ae.t rs),("unknowns",ae.t us),("scales",.ag f (sc.map ae.t)),("settled",.ag f [])]
def gI(T:Tx w K mg)(f:Fl)(rs:ax)(us:aj)(sc:aH):Tr:=.ins f T.aah (jH f rs us sc)
def sT(T:Tx w K mg)(C:af)(g:Nat):Prop:=C=T.aaa/\g=0
def xH(T:Tx w K mg)(C:af)(g:Nat):Prop:=C=T.aah/\g=0
theorem jL(T:Tx w K mg){x q:Str}{st:Stmt}{e:aj}{m lo n:Nat}{z:Bool}{g:bO}(r:eO K T.aaa x q st e)(G:aK P w K mg base bJ m r.a r.d e (bP K z lo n g)):∀C i,sT T C i->fv P w K mg base bJ m x C e (bP K z lo n g):=λC i h=>by
 obtain⟨rfl,rfl⟩:=h;exact⟨T.iO,_,_,r.t,G,r.b⟩
theorem eS(T:Tx w K mg){x q:Str}{st:Stmt}{e:aj}{m lo n:Nat}{z:Bool}{g:bO}(r:eO K T.aah x q st e)(G:aK P w K mg base bJ m r.a r.d e (bP K z lo n g)):∀C i,xH T C i->fv P w K mg base bJ m x C e (bP K z lo n g):=λC i h=>by
 obtain⟨rfl,rfl⟩:=h;exact⟨T.fm,_,_,r.t,G,r.b⟩
theorem xC[ae j](f:Fl)(xs:List j):aD (.ag f (xs.map ae.t))=.ag (dE f) (xs.map ae.t):=by
 cases f with
 |f=>rfl
 |o=>show Tr.ag _ (cP _)=_;rw[CM];rfl
 |l b=>rfl
theorem yv[ae j](f:Fl)(xs:List j):dn (.ag f (xs.map ae.t))=.ag (d8 f) (xs.map ae.t):=by
 cases f with
 |f=>show Tr.ag .f (cp _)=_;rw[qU];rfl
 |o=>show Tr.ag .o (cp _)=_;rw[qU];rfl
 |l b=>show Tr.ag (.l false) (cp _)=_;rw[qU];rfl
theorem HJ(f:Fl):aD (.ag f [])=.ag (dE f) []:=by cases f<;>rfl
theorem Nz(f:Fl):dn (.ag f [])=.ag (d8 f) []:=by cases f<;>rfl
theorem HM(f:Fl)(m:aR):aD (.aS f (mT m))=.aS (dE f) (mT m):=by
 cases f with
 |f=>rfl
 |o=>show Tr.aS _ (dJ _)=_;rw[show dJ (mT m)=mT m from (cU _ (j9 m)).l];rfl
 |l b=>rfl
theorem Th(f:Fl)(m:aR):dn (.aS f (mT m))=.aS (d8 f) (mT m):=by
 have e:gX (mT m)=mT m:=(cU _ (j9 m)).d;cases f with
 |f=>show Tr.aS .f (gX _)=_;rw[e];rfl
 |o=>show Tr.aS .o (gX _)=_;rw[e];rfl
 |l b=>show Tr.aS (.l false) (gX _)=_;rw[e];rfl
theorem uV(f:Fl)(c:af)(fs:bx)(h:f=.o\/bZ fs=fs):aD (.ins f c fs)=.ins (dE f) c (bZ fs):=by
 rcases h with rfl |h
 .rfl
 .cases f with
  |o=>rfl
  |f=>show Tr.ins .f c fs=_;rw[h];rfl
  |l b=>show Tr.ins (.l b) c fs=_;rw[h];rfl
theorem xA(f:Fl)(c:af)(fs:bx):dn (.ins f c fs)=.ins (d8 f) c (iE fs):=by cases f<;>rfl
theorem hB(T:Tx w K mg)(f:Fl)(S:gp):aD (bY T f S)=bY T (dE f) S:=by
 have e:bZ (fJ f S)=fJ (dE f) S:=by simp only[fJ,bZ,HM,xC,ER,kA]
 unfold bY;rw[uV _ _ _ ?_,e];cases f with
 |o=>exact .inl rfl
 |f=>exact .inr e
 |l b=>exact .inr e
theorem iC(T:Tx w K mg)(f:Fl)(S:gp):dn (bY T f S)=bY T (d8 f) S:=by
 unfold bY fJ;rw[xA];simp only[iE,Th,yv,DW,jm]
theorem eQ(T:Tx w K mg)(f:Fl)(S:gC):aD (b7 T f S)=b7 T (dE f) S:=by
 have e:bZ (gA T f S)=gA T (dE f) S:=by simp only[gA,bZ,xC,hB,kA]
 unfold b7;rw[uV _ _ _ ?_,e];cases f with
 |o=>exact .inl rfl
 |f=>exact .inr e
 |l b=>exact .inr e
theorem fE(T:Tx w K mg)(f:Fl)(S:gC):dn (b7 T f S)=b7 T (d8 f) S:=by
 unfold b7 gA;rw[xA];simp only[iE,yv,iC,jm]
theorem zX(T:Tx w K mg)(f:Fl)(rs:ax)(us:aj)(sc:aH):aD (gI T f rs us sc)=gI T (dE f) rs us sc:=by
 have e:bZ (jH f rs us sc)=jH (dE f) rs us sc:=by simp only[jH,bZ,xC,HJ,kA]
 unfold gI;rw[uV _ _ _ ?_,e];cases f with
 |o=>exact .inl rfl
 |f=>exact .inr e
 |l b=>exact .inr e
theorem xR(T:Tx w K mg)(f:Fl)(rs:ax)(us:aj)(sc:aH):dn (gI T f rs us sc)=gI T (d8 f) rs us sc:=by
 unfold gI jH;rw[xA];simp only[iE,yv,Nz,jm]
theorem gh(T:Tx w K mg)(f:Fl)(S:gp)(Q:av):pV (some (bY T f S)) Q=Q (bY T f S):=rfl
theorem dW(T:Tx w K mg)(f:Fl)(S:gC)(Q:av):pV (some (b7 T f S)) Q=Q (b7 T f S):=rfl
theorem wY(T:Tx w K mg)(f:Fl)(rs:ax)(us:aj)(sc:aH)(Q:av):pV (some (gI T f rs us sc)) Q=Q (gI T f rs us sc):=rfl
theorem Jt(m:aR):cE (.aS .o (mT m))=true:=(cU _ (j9 m)).o
theorem nu[ae j](xs:List j):cE (.ag .o (xs.map ae.t))=true:=nj xs
theorem Ou(m:aR):bL (.aS .o (mT m))=true:=(cU _ (j9 m)).t
theorem lx[ae j](xs:List j):bL (.ag .o (xs.map ae.t))=true:=f6 xs
theorem pP(T:Tx w K mg)(S:gp):cE (bY T .o S)=true:=by
 unfold bY fJ;rw[wO];simp only[e9,Jt,nu,iB,FI,Bool.and_self]
theorem zo(T:Tx w K mg)(S:gp):bL (bY T .o S)=true:=by
 unfold bY fJ;rw[Bm];simp only[fw,Ou,lx,gF,Ff,Bool.and_self]
theorem oB(T:Tx w K mg)(S:gC):cE (b7 T .o S)=true:=by
 unfold b7 gA;rw[wO];simp only[e9,nu,pP,iB,Bool.and_self]
theorem qH(T:Tx w K mg)(S:gC):bL (b7 T .o S)=true:=by
 unfold b7 gA;rw[Bm];simp only[fw,lx,zo,gF,Bool.and_self]
theorem Vq(T:Tx w K mg)(rs:ax)(us:aj)(sc:aH):cE (gI T .o rs us sc)=true:=by
 unfold gI jH;rw[wO];simp only[e9,nu,iB,show cE (.ag .o [])=true from rfl,Bool.and_self]
section
variable(T:Tx w K mg){f:Fl}{S:gC}{B:gp}{Q:av}{rs:ax}{us:aj}{sc:aH}
theorem mG(q:Q (.ag .f (B.ls.map ae.t))):gO K "lines" (bY T f B) Q:=gP ⟨T.iO,T.vK⟩ ft q
theorem qr(q:Q (.ag f (B.so.map ae.t))):gO K "solved" (bY T f B) Q:=gP ⟨T.iO,T.wb⟩ (b4 ft) q
theorem rm(q:Q (.int B.bt)):gO K "bottom" (bY T f B) Q:=gP ⟨T.iO,T.yc⟩ (b4 (b4 ft)) q
theorem yQ(q:Q (.aS f (mT B.m))):gO K "shut" (bY T f B) Q:=gP ⟨T.iO,T.xj⟩ (b4 (b4 (b4 ft))) q
theorem rK(q:Q (.ag .f (S.rs.map ae.t))):gO K "rows" (b7 T f S) Q:=gP ⟨T.fm,T.qT⟩ ft q
theorem ze(q:Q (.ag .f (S.us.map ae.t))):gO K "unknowns" (b7 T f S) Q:=gP ⟨T.fm,T.oy⟩ (b4 ft) q
theorem CJ(q:Q (.ag f (S.sc.map ae.t))):gO K "scales" (b7 T f S) Q:=gP ⟨T.fm,T.vq⟩ (b4 (b4 ft)) q
theorem n9(q:Q (.ag f (S.ss.map ae.t))):gO K "settled" (b7 T f S) Q:=gP ⟨T.fm,T.v8⟩ (b4 (b4 (b4 ft))) q
theorem yU(q:Q (bY T f S.tb)):gO K "table" (b7 T f S) Q:=gP ⟨T.fm,T.rJ⟩ (b4 (b4 (b4 (b4 ft)))) q
theorem G1(q:Q (.ag .f (rs.map ae.t))):gO K "rows" (gI T f rs us sc) Q:=gP ⟨T.fm,T.qT⟩ ft q
theorem UQ(q:Q (.ag .f (us.map ae.t))):gO K "unknowns" (gI T f rs us sc) Q:=gP ⟨T.fm,T.oy⟩ (b4 ft) q
theorem lI{n:Str}{R:Nat->Prop}(q:R 0)(a:(n == ("lines":Str))=false:=by walk_at "k")(b:(n == ("solved":Str))=false:=by walk_at "k")(d:(n == ("bottom":Str))=false:=by walk_at "k")(e:(n == ("shut":Str))=false:=by walk_at "k"):hW (sT T) n (bY T f B) R:=vA ⟨rfl,rfl⟩ (b4 (b4 (b4 (b4 yT e) d) b) a) q
theorem fG{n:Str}{R:Nat->Prop}(q:R 0)(a:(n == ("rows":Str))=false:=by walk_at "k")(b:(n == ("unknowns":Str))=false:=by walk_at "k")(d:(n == ("scales":Str))=false:=by walk_at "k")(e:(n == ("settled":Str))=false:=by walk_at "k")(g:(n == ("table":Str))=false:=by walk_at "k"):hW (xH T) n (b7 T f S) R:=vA ⟨rfl,rfl⟩ (b4 (b4 (b4 (b4 (b4 yT g) e) d) b) a) q
theorem pW{n:Str}{R:Nat->Prop}(q:R 0)(a:(n == ("rows":Str))=false:=by walk_at "k")(b:(n == ("unknowns":Str))=false:=by walk_at "k")(d:(n == ("scales":Str))=false:=by walk_at "k")(e:(n == ("settled":Str))=false:=by walk_at "k"):hW (xH T) n (gI T f rs us sc) R:=vA ⟨rfl,rfl⟩ (b4 (b4 (b4 (b4 yT e) d) b) a) q
end
theorem lN{f g:Str}{v u:Tr}{r:bx}(h:(g == f)=false:=by walk_at "k"):adr g u ((f,v)::r)=(f,v)::adr g u r:=by
 show (if f=g then _ else _)=_;rw[if_neg λz=>by rw[z,beq_self_eq_true] at h;cases h]
theorem qa{f:Str}{v u:Tr}{r:bx}:gf f u ((f,v)::r)=(f,u)::r:=by
 show (if f=f then _ else _)=_;rw[if_pos rfl]
theorem iX{f g:Str}{v u:Tr}{r:bx}(h:(g == f)=false:=by walk_at "k"):gf g u ((f,v)::r)=(f,v)::gf g u r:=by
 show (if f=g then _ else _)=_;rw[if_neg λz=>by rw[z,beq_self_eq_true] at h;cases h]
theorem RC(S:gp)(a:aR):gf "shut" (.aS .o (mT a)) (fJ .o S)=fJ .o { S with m:=a }:=by
 unfold fJ;rw[iX,iX,iX,qa]
theorem FC(T:Tx w K mg)(S:gC)(B:gp):gf "table" (bY T .o B) (gA T .o S)=gA T .o { S with tb:=B }:=by
 unfold gA;rw[iX,iX,iX,iX,qa]
theorem Po(T:Tx w K mg)(S:gC)(a:br):gf "settled" (.ag .o (a.map ae.t)) (gA T .o S)=gA T .o { S with ss:=a }:=by
 unfold gA;rw[iX,iX,iX,qa]
theorem K0(rs:ax)(us:aj)(sc a:aH):gf "scales" (.ag .o (a.map ae.t)) (jH .o rs us sc)=jH .o rs us a:=by
 unfold jH;rw[iX,iX,qa]
theorem zH(T:Tx w K mg)(S:gC):Tr.ins (.l true) T.aah (bZ (gA T .o S))=b7 T (.l true) S:=eQ T .o S
theorem f9{f:Fl}[h:Fp f]:dE f=f:=by cases h<;>rfl
theorem ik{f:Fl}[h:Fp f]:d8 f=f:=by cases h<;>rfl
theorem UR(m:aR)(y:aU)(k:bI):iQ (mT m) y (ae.t k)=mT (if (m.any λp=>decide (p.1=y))=true then m.map (λp=>if p.1=y then (p.1,k) else p) else m++[(y,k)]):=by
 unfold iQ;have e:((mT m).any λa=>decide (a.1=y))=m.any λp=>decide (p.1=y):=by unfold mT;rw[List.any_map];rfl
 rw[e];split
 .unfold mT;rw[map_map,map_map];refine map_congr_left λp _=>?_
  show (if p.1=y then (p.1,ae.t k) else (p.1,ae.t p.2))=((if p.1=y then (p.1,k) else p).1,ae.t (if p.1=y then (p.1,k) else p).2)
  split<;>rfl
 .unfold mT;rw[map_append];rfl
theorem Dr(T:Tx w K mg){z:Bool}:aK P w K mg base bJ 1 T.qw.a T.qw.d ["one","other"] (bP K z 0 2 SW):=by
 refine cj T.qw.F SF rfl (by decide) λa7 A outer s H E p r o=>?_
 refine⟨_,(aP (xW (cc i6 i5 (qv 1) az) (aP (bF 2 (gj (qv 0) (qv 1)))
  (aP (bF 0 (qv 1))
  (a8 (bF 1 (qv 2))))))
  (a8 (b5 (qv 0)))),?_⟩
 rintro u n _ ⟨_,a,b,rfl,h,i,q⟩;refine⟨λm j=>∃x y z,j=[.int x,.int y,z]/\0<=x/\0<=y/\gd x y=gd a b/\m=y.toNat,⟨_,a,b,.aA,rfl,h,i,rfl,rfl⟩,?_⟩;rintro m j ⟨x,y,z,rfl,g,l,e,rfl⟩;walk_at"";by_cases f:y=0
 .subst f;walk_at"";rw[<- e,GD x g] at q;exact q _
 .rw[if_pos (by simp[f])];refine⟨by omega,?_⟩;refine⟨(x % y).toNat,?_,_,_,_,rfl,l,emod_nonneg _ f,?_,rfl⟩
  .have:=emod_lt_of_pos x (show 0<y by omega);have:=emod_nonneg x f;omega
  .rw[K8 g (by omega)];exact e
theorem lg(T:Tx w K mg){z:Bool}:aK P w K mg base bJ 2 T.jw.a T.jw.d ["top","bottom"] (bP K z 0 2 M4):=by
 refine cj T.jw.F Qn rfl (by decide) λa7 A outer s H E l m i=>?_
 refine⟨_,(aP (da (cc fZ fW (qv 1) az) (a8 sQ) c9)
  (aP (bF 2 (qc T.qw (Dr T) (aq (fC rV tM T.rG (aq (qv 0) aF)) (aq (fC rV tM T.rG (aq (qv 1) aF)) aF))))
  (aP (da (cc jo jC (qv 1) az) (a8 (bF 2 (iG (qv 2)))) c9)
  (a8 (b5 (fF (aq (jO (qv 0) (qv 2)) (aq (jO (qv 1) (qv 2)) aF)))))))),?_⟩
 rintro n g _ ⟨_,a,b,rfl,e,f,q⟩;walk_at"";rw[if_neg (by simp[e])];refine⟨rfl,_,_,rfl,by split<;>omega,by split<;>omega,λj=>?_⟩;rw[IC];rw[xi,<- AH e,<- By e] at q;unfold dv at q;by_cases h:b<0
 .rw[if_pos h] at q;rw[if_pos (decide_eq_true h)];walk_at"";exact⟨EW e f,EW e f,q _⟩
 .rw[if_neg h] at q;rw[if_neg (by simp[h])];walk_at"";exact⟨ud e f,ud e f,q _⟩
theorem Vt(T:Tx w K mg){z:Bool}:aK P w K mg base bJ 3 T.tq.a T.tq.d ["one","other"] (bP K z 0 2 (vn (·+·))):=by
 refine cj T.tq.F IU rfl (by decide) λa7 A outer s H E h i g=>?_
 refine⟨_,(a8 (b5 (qc T.jw (lg T) (aq (eN (cw (aW (qv 0) az) (aW (qv 1) az)) (cw (aW (qv 1) az) (aW (qv 0) az))) (aq (cw (aW (qv 0) az) (aW (qv 1) az)) aF))))),?_⟩;rintro l f _ ⟨_,a,b,rfl,e,q⟩;walk_at"";refine⟨c8 (iu a) (fM b) (by omega),c8 (iu b) (fM a) (by omega),c8 (fM a) (fM b) (by omega),rfl,_,_,rfl,qh a b,w5 a b e,λj=>?_⟩;rw[<- Jp];exact⟨iB _,q _⟩
theorem v9(T:Tx w K mg){z:Bool}:aK P w K mg base bJ 3 T.ny.a T.ny.d ["one","other"] (bP K z 0 2 (vn (· - ·))):=by
 refine cj T.ny.F HL rfl (by decide) λa7 A outer s H E h i g=>?_
 refine⟨_,(a8 (b5 (qc T.jw (lg T) (aq (kB (cw (aW (qv 0) az) (aW (qv 1) az)) (cw (aW (qv 1) az) (aW (qv 0) az))) (aq (cw (aW (qv 0) az) (aW (qv 1) az)) aF))))),?_⟩;rintro l f _ ⟨_,a,b,rfl,e,q⟩;walk_at"";refine⟨c8 (iu a) (fM b) (by omega),c8 (iu b) (fM a) (by omega),c8 (fM a) (fM b) (by omega),rfl,_,_,rfl,qh a b,w5 a b e,λj=>?_⟩;rw[<- De];exact⟨iB _,q _⟩
theorem sR(T:Tx w K mg){z:Bool}:aK P w K mg base bJ 3 T.mP.a T.mP.d ["one","other"] (bP K z 0 2 (vn (·*·))):=by
 refine cj T.mP.F LD rfl (by decide) λa7 A outer s H E h i g=>?_
 refine⟨_,(a8 (b5 (qc T.jw (lg T) (aq (cw (aW (qv 0) az) (aW (qv 1) az)) (aq (cw (aW (qv 0) az) (aW (qv 1) az)) aF))))),?_⟩;rintro l f _ ⟨_,a,b,rfl,e,q⟩;walk_at"";refine⟨c8 (iu a) (iu b) (by omega),c8 (fM a) (fM b) (by omega),rfl,_,_,rfl,qh a b,w5 a b e,λj=>?_⟩;rw[<- Dw];exact⟨iB _,q _⟩
theorem Ky(T:Tx w K mg){z:Bool}:aK P w K mg base bJ 1 T.tL.a T.tL.d ["one","other"] (bP K z 0 2 GN):=by
 refine cj T.tL.F PM rfl (by decide) λa7 A outer s H E h i g=>?_
 refine⟨_,(a8 (b5 (kL jo jC (cw (aW (qv 0) az) (aW (qv 1) az)) (cw (aW (qv 1) az) (aW (qv 0) az))))),?_⟩;rintro j e _ ⟨_,a,b,rfl,f,q⟩;walk_at"";refine⟨c8 (iu a) (fM b) (by omega),c8 (iu b) (fM a) (by omega),?_⟩;rw[decide_eq_decide.mpr (GZ a b)];exact q _
theorem zA(a b:Rat):Rat.divInt (a.num*(b.den:Int)) ((a.den:Int)*b.num)=a / b:=by
 rw[<- Rat.divInt_mul_divInt,Rat.num_divInt_den,Rat.div_def,Rat.inv_def]
def UX:bO:=cW 2 λd Q=>∃a b:Rat,d=[ae.t a,ae.t b]/\b≠0/\bs a+bs b<=7990/\Q (ae.t (a / b))
theorem CS(T:Tx w K mg){z:Bool}:aK P w K mg base bJ 3 T.qW.a T.qW.d ["one","other"] (bP K z 0 2 UX):=by
 refine cj T.qW.F TJ rfl (by decide) λa7 A outer s H E i l h=>?_
 refine⟨_,(aP (da (cc fZ fW (aW (qv 1) az) az) (a8 sQ) c9)
  (a8 (b5 (qc T.jw (lg T) (aq (cw (aW (qv 0) az) (aW (qv 1) az)) (aq (cw (aW (qv 0) az) (aW (qv 1) az)) aF)))))),?_⟩
 rintro m f _ ⟨_,a,b,rfl,e,g,q⟩;have hn:b.num≠0:=λz=>e (Rat.num_eq_zero.mp z)
 walk_at"";rw[if_neg (by simp[hn])];refine⟨c8 (iu a) (fM b) (by omega),c8 (fM a) (iu b) (by omega),rfl,_,_,rfl,Int.mul_ne_zero (by have:=a.den_nz;omega) hn,le_trans (de _ _) (by have:=fM a;have:=iu b;omega),λj=>?_⟩;rw[zA];exact⟨iB _,q _⟩
def O8(T:Tx w K mg):fN:=λa Q q=>a.length=2/\∃(f g:Fl)(rs:ax)(us:aj)(_:Fp f)(_:Fp g),a=[.ag f (rs.map ae.t),.ag g (us.map ae.t)]/\(16<rs.length\/8<us.length->q (.ref T.abv))/\(rs.length<=16->us.length<=8->∀j,Q .aL j)
theorem JU(T:Tx w K mg){z:Bool}:aK P w K mg base (fj P w) 1 T.rH.a T.rH.d ["rows","unknowns"] (ib K z 0 2 (O8 T)):=by
 refine se T.rH.F Nh rfl (by decide) λa7 A outer s H E q n o m=>?_
 refine⟨_,(a8 (da (QW.t (k9 (cc n8 nJ (fC hV hX T.g8 (aq (qv 0) aF)) (m9 T.Wf)) (nv (cc n8 nJ (fC hV hX T.g8 (aq (qv 1) aF)) (m9 T.Kj))))) (a8 (R4 rfl rfl rfl rfl rfl rfl T.Qs PySem.F.excBase_ValueError T.VI iT)) c9)),?_⟩;rintro p i _ ⟨_,f,g,rs,us,_,_,rfl,b,e⟩;walk_at"";split
 .rename_i c;exact b (.inl (by have:=of_decide_eq_true c;omega))
 .rename_i c;have j:¬ (16:Int)<(rs.length:Int):=λh=>c (decide_eq_true h)
  split
  .rename_i c2;exact b (.inr (by have:=of_decide_eq_true c2;omega))
  .rename_i c2;have l:¬ (8:Int)<(us.length:Int):=λh=>c2 (decide_eq_true h)
   exact e (by omega) (by omega) _
def rj(m n:Nat)(A:aJ)(S:Nat->Nat):List (aH):=(List.range m).map λi=>(List.range (n+1)).map (Lp.tt m A S i)
def mf(m:Nat)(S:Nat->Nat):aH:=(List.range m).map λi=>(S i:Int)
def cm(m n:Nat)(A:aJ)(S:Nat->Nat)(mk:aR):gp:=⟨rj m n A S,mf m S,Lp.dd m A S,mk⟩
structure Sz(m n:Nat)(A:aJ):Prop where
 hm:m<=16
 hn:n<=60
 t:∀S i k,(∀i,i<m->S i<n)->k<=n->bi (Lp.tt m A S i k)<=3000
 d:∀S,(∀i,i<m->S i<n)->bi (Lp.dd m A S)<=3000
def cf(ns:aH):Nat->Int:=λk=>ns.getD k 0
def mr(ns:aH)(n:Nat):Prop:=ns.length=n/\∀c∈ns,bi c<=3000
theorem m8{n i j:Nat}(h:(List.range n)[i]?=some j):j<n/\i=j:=by
 obtain⟨a,b⟩:=List.getElem?_eq_some_iff.mp h;rw[List.getElem_range] at b;rw[length_range] at a;omega
theorem eF{xs:List j}{s:Nat}{x:j}(h:xs[s]?=some x):cQ xs (s:Int)=some x:=by
 obtain⟨a,e⟩:=List.getElem?_eq_some_iff.mp h;rw[su xs (by omega) (by simpa using a)];simp[e]
theorem fH[ae j](xs:List j):Pu.ay (.ag .o (xs.map ae.t))=ae.t xs:=by show Tr.ag .f (bp _)=_;rw[nA];rfl
theorem B7[ae j](h:i->List j):∀vs:List i,bp (vs.map λv=>.ag .o ((h v).map ae.t))=(vs.map h).map ae.t
 |[]=>rfl
 |v::vs=>by
  show Pu.ay (.ag .o ((h v).map ae.t))::bp (vs.map λv=>.ag .o ((h v).map ae.t))=ae.t (h v)::(vs.map h).map ae.t;rw[B7 h vs];show Tr.ag .f (bp _)::_=_;rw[nA];rfl
theorem Cz[ae j](h:i->List j):∀vs:List i,cu (vs.map λv=>.ag .o ((h v).map ae.t))=true
 |[]=>rfl
 |v::vs=>by
  show (bL (.ag .o ((h v).map ae.t))&&cu (vs.map λv=>.ag .o ((h v).map ae.t)))=true;rw[Cz h vs,lx];rfl
def IQ(T:Tx w K mg):bO:=λa Q=>a.length=3/\∃(f g:Fl)(ls:List (aH))(so:aH)(_:Fp f)(_:Fp g),a=[.ins .o T.aaa [],.ag f (ls.map ae.t),.ag g (so.map ae.t)]/\ls.length<=100/\∀j:ah,j[0]?=some (bY T .o ⟨ls,so,1,[]⟩)->Q .aL j
theorem Ma(T:Tx w K mg){z:Bool}:aK P w K mg base bJ 1 T.rX.a T.rX.d ["self","lines","solved"] (bP K z 1 3 (IQ T)):=by
 refine cj T.rX.F OG rfl (by decide) λa7 A outer s H E j n h=>?_
 refine⟨_,(aP (sx (cV 0) (iq ["line"] [none] (fu (qv 1)) (eP 0) (λ_ _ _ _ _=>(kx (kq rfl) kM T.ia (aq (qv 0) aF)))))
  (aP (m7 (cV 0) (kx (kq rfl) kM T.ia (aq (qv 2) aF)))
  (aP (m7 (cV 0) az)
  (a8 (m7 (cV 0) rp))))),?_⟩
 rintro p e _ ⟨_,f,g,ls,so,_,_,rfl,i,q⟩;walk_at"";refine bg.jE ls _ (λl=>.ag .o (l.map ae.t)) (by omega) (λl m R b=>?_) ?_
 .walk_at"";exact b
 rw[show Pu.ay (.ag .o (ls.map λl=>.ag .o (l.map ae.t)))=.ag .f (bp (ls.map λl=>.ag .o (l.map ae.t))) from rfl,B7 (λl=>l),List.map_id'];refine⟨Cz (λl=>l) ls,⟨T.iO,T.vK⟩,by decide,⟨T.iO,T.wb⟩,by decide,⟨T.iO,T.yc⟩,by (repeat first |rw[mF] |rw[lN]);exact (by decide:2<900),rfl,⟨T.iO,T.xj⟩,by (repeat first |rw[mF] |rw[lN]);exact (by decide:3<900),q _ ?_⟩
 (repeat first |rw[mF] |rw[lN])
 rfl
theorem Wg(ns:aH)(d:Int)(S:Nat->Nat)(t:aJ)(h:ns.length=n):ns.map (λc=>c*d)++[0]=(List.range (n+1)).map λk=>d*cf ns k - Lp.sm 0 λj=>cf ns (S j)*t j k:=by
 apply ext_getElem?;intro k;rw[getElem?_map,List.getElem?_append,length_map,h];by_cases q:k<n
 .rw[if_pos q,getElem?_map,getElem?_range (by omega),getElem?_eq_getElem (by omega)];simp only[map_some,cf,Lp.sm,Int.sub_zero,getD_eq_getElem?_getD,getElem?_eq_getElem (show k<ns.length by omega),getD_some,mul_comm]
 .rw[if_neg q];by_cases e:k=n
  .subst e;rw[getElem?_range (by omega)];simp[cf,Lp.sm,getD_eq_getElem?_getD,getElem?_eq_none (show ns.length<=k by omega)]
  .rw[getElem?_eq_none (show (List.range (n+1)).length<=k by rw[length_range];omega),getElem?_eq_none (by simp;omega)];rfl
theorem GK(n:Nat)(a:Nat->Int)(v:Int)(t:Nat->Int):List.zipWith (λx y=>x - v*y) ((List.range (n+1)).map a) ((List.range (n+1)).map t)=(List.range (n+1)).map λk=>a k - v*t k:=by
 rw[List.zipWith_map,List.zipWith_self]
theorem KU{ns:aH}{n:Nat}(h:mr ns n)(k:Nat):bi (cf ns k)<=3000:=by
 unfold cf;rw[getD_eq_getElem?_getD];by_cases q:k<ns.length
 .rw[getElem?_eq_getElem q];exact h.2 _ (getElem_mem q)
 .rw[getElem?_eq_none (by omega)];decide
theorem Iv{ns:aH}{n k:Nat}(h:ns.length=n)(a:k<n):ns[k]?=some (cf ns k):=by
 unfold cf;rw[getD_eq_getElem?_getD,getElem?_eq_getElem (by omega)];rfl
theorem LA(m n:Nat)(M:aJ)(S:Nat->Nat)(mk:aR):(cm m n M S mk).ls.zip (cm m n M S mk).so=(List.range m).map λi=>((List.range (n+1)).map (Lp.tt m M S i),(S i:Int)):=by
 show List.zip ((List.range m).map _) ((List.range m).map _)=_;rw[List.zip_eq_zipWith,List.zipWith_map,List.zipWith_self]
def y8(T:Tx w K mg):bO:=cW 2 λa Q=>∃(f g:Fl)(m n:Nat)(M:aJ)(S:Nat->Nat)(mk:aR)(ns:aH)(_:Fp f)(_:Fp g),a=[bY T f (cm m n M S mk),.ag g (ns.map ae.t)]/\Sz m n M/\(∀i,i<m->S i<n)/\mr ns n/\Q (ae.t ((List.range (n+1)).map (Lp.zz m M (cf ns) S)))
theorem Gf(T:Tx w K mg){z:Bool}:aK P w K mg base bJ 1 T.pJ.a T.pJ.d ["self","costs"] (bP K z 0 2 (y8 T)):=by
 refine cj T.pJ.F M6 rfl (by decide) λa7 A outer s H E U Y Q=>?_
 refine⟨_,(aP (bF 2 (eN (iq ["cost","self"] [none,some 0] (fu (qv 1)) (eP 0) (λ_ _ _ _ _=>(cw (qv 0) (cA K (qv 1))))) (eC (aq az aF))))
  (aP (gb (oq T.n6 (aq (cA K (qv 0)) (aq (cA K (qv 0)) aF))) (jZ (n:=2) rfl (fL (dI 3) (fL (dI 4) jS))) (aP (bF 5 (aW (qv 1) (qv 4)))
  (a8 (da (cc i6 i5 (qv 5) az) (a8 (ma 2 ["one","other","cost"] [none,none,some 5] (oq T.n6 (aq (qv 2) (aq (qv 3) aF))) (uS (n:=2) rfl (nr (eP 0) (nr (eP 1) y4))) (λ_ _ _ _ _=>(kB (qv 0) (cw (qv 2) (qv 1)))))) c9))))
  (a8 (b5 (qv 2))))),?_⟩
 rintro xs O _ ⟨_,f,g,m,n,M,S,mk,ns,_,_,rfl,h,x,B,q⟩;have hn:=h.hn;have hm:=h.hm;have C:=B.1;have hd:=h.d S x;walk_at"";simp only[hB,f9,gh];refine bg.map ns _ (λc=>c*Lp.dd m M S) (by omega) (λc J R r=>?_) ?_
 .walk_at"";simp only[gh];refine rm T ?_;walk_at"";exact⟨c8 (B.2 c J) hd (by omega),r⟩
 walk_at"";refine⟨by omega,mG T (qr T ?_)⟩;walk_at"";rw[Wg ns (Lp.dd m M S) S (Lp.tt m M S) C];rw[LA,map_map];refine Loop.map (List.range m) _ (λi G=>∃y z u,G=[bY T f (cm m n M S mk),.ag g (ns.map ae.t),ae.t ((List.range (n+1)).map λk=>Lp.dd m M S*cf ns k - Lp.sm i λj=>cf ns (S j)*Lp.tt m M S j k),y,z,u]) ⟨_,_,_,rfl⟩ ?_ ?_
 .rintro i j G hj ⟨y,z,u,rfl⟩;obtain⟨D,rfl⟩:=m8 hj;dsimp only[Function.comp];walk_at"";refine dQ _ _ _ (eF (Iv C (x i D))) ?_;walk_at"";by_cases o:cf ns (S i)=0
  .rw[if_neg (by simp[o])];simp only[Lp.sm,o,zero_mul,Int.add_zero];exact⟨_,_,_,rfl⟩
  .rw[if_pos (by simp[o]),fO,fO,jn,jn,sP];refine bg.map _ _ (λp=>p.1 - cf ns (S i)*p.2) (by rw[length_zip,length_map,length_range];omega) (λp N R r=>?_) ?_
   .walk_at"";obtain⟨k,I,e⟩:=mem_map.mp (of_mem_zip N).2;rw[mem_range] at I;exact⟨c8 (KU B _) (e ▸ h.t S i k x (by omega)) (by omega),r⟩
   .have e3:∀L l:aH,(L.zip l).map (λp=>p.1 - cf ns (S i)*p.2)=List.zipWith (λa b=>a - cf ns (S i)*b) L l:=λL l=>by rw[List.zip_eq_zipWith,List.map_zipWith]
    rw[e3,GK,fH];simp only[Lp.sm,<- Int.sub_sub];exact⟨lx _,_,_,_,rfl⟩
 .rintro G ⟨y,z,u,rfl⟩;walk_at"";rw[length_range];exact q _
def eX(mk:aR)(k:Nat):Prop:=(look (mT mk) (Sum.inl (k:Int))).isSome=true
theorem nP{f:Nat->Int}{n k:Nat}(h:k<n):((List.range n).map f)[k]?=some (f k):=by rw[getElem?_map,getElem?_range h];rfl
section
variable(T:Tx w K mg){f₀ f g:Fl}{m n:Nat}{M:aJ}{S:Nat->Nat}{mk:aR}{ns:aH}{Q:av}
theorem Aa[Fp f][Fp g](hz:Sz m n M)(a:∀i,i<m->S i<n)(b:mr ns n)(q:Q (ae.t ((List.range (n+1)).map (Lp.zz m M (cf ns) S)))):hW (sT T) "costs_left" (bY T f₀ (cm m n M S mk)) λ_=>y8 T [bY T f (cm m n M S mk),.ag g (ns.map ae.t)] λt _=>Q t:=lI T ⟨rfl,f,g,m,n,M,S,mk,ns,‹_›,‹_›,rfl,hz,a,b,λ_=>q⟩
end
def zu(T:Tx w K mg):bO:=cW 2 λa Q=>∃(f g:Fl)(m n:Nat)(M:aJ)(S:Nat->Nat)(mk:aR)(ns:aH)(_:Fp f)(_:Fp g),a=[bY T f (cm m n M S mk),.ag g (ns.map ae.t)]/\Sz m n M/\(∀i,i<m->S i<n)/\mr ns n/\(∀e:Nat,Lp.Ent m n M (cf ns) (eX mk) S e->Q (.int e))/\((∀k,k<n->¬ eX mk k->0<=Lp.zz m M (cf ns) S k)->Q .aL)
theorem Ba(T:Tx w K mg){z:Bool}:aK P w K mg base bJ 2 T.qq.a T.qq.d ["self","costs"] (bP K z 0 2 (zu T)):=by
 refine cj T.qq.F Su rfl (by decide) λa7 A outer s H E L N I=>?_
 refine⟨_,(aP (bF 2 (eh (jL T T.pJ (Gf T)) (qv 0) (aq (qv 1) aF)))
  (aP (gb (rT T.lh (aq (fC hV hX T.g8 (aq (qv 1) aF)) aF)) (dI 3) (a8 (da (QW.t (qj (cc jo jC (aW (qv 2) (qv 3)) az) (qV (cc wy yE (qv 3) (cA K (qv 0)))))) (a8 (b5 (qv 3))) c9)))
  (a8 (b5 kH)))),?_⟩
 rintro O D _ ⟨_,f,g,m,n,M,S,mk,ns,_,_,rfl,B,C,u,q⟩;have hn:=B.hn;have J:=u.1;walk_at"";simp only[hB,iC,f9,ik,gh];refine Aa T B C u ?_;walk_at"";refine⟨by omega,by omega,Loop.map _ _ (λi G=>(∃y,G=[bY T f (cm m n M S mk),.ag g (ns.map ae.t),ae.t ((List.range (n+1)).map (Lp.zz m M (cf ns) S)),y])/\∀k,k<i->¬ eX mk k->0<=Lp.zz m M (cf ns) S k) ⟨⟨_,rfl⟩,λk o=>absurd o (by omega)⟩ ?_ ?_⟩
 .rintro i j G hj ⟨⟨y,rfl⟩,o⟩;have p:j<ns.length/\i=j:=by have:=m8 hj;omega
  obtain⟨p,rfl⟩:=p;walk_at"";rw[fO,gG,gB];refine dQ _ _ _ (eF (nP (show i<n+1 by omega))) ?_;walk_at"";have r:(Lp.zz m M (cf ns) S i<0->eX mk i)->∀k,k<i+1->¬ eX mk k->0<=Lp.zz m M (cf ns) S k:=λh k b l=>by
   by_cases e:k=i
   .subst e;have:¬ Lp.zz m M (cf ns) S k<0:=λx=>l (h x)
    omega
   .exact o k (by omega) l
  by_cases h:Lp.zz m M (cf ns) S i<0
  .rw[if_pos (decide_eq_true h)];simp only[hB,f9,gh];refine yQ T (show if (!(look (mT mk) (Sum.inl (i:Int))).isSome)=true then _ else _ from ?_);by_cases l:eX mk i
   .rw[if_neg (by rw[show (look (mT mk) (Sum.inl (i:Int))).isSome=true from l];decide)];exact⟨⟨_,rfl⟩,r λ_=>l⟩
   .rw[if_pos (by rw[show (look (mT mk) (Sum.inl (i:Int))).isSome=false from eq_false_of_ne_true l];rfl)];exact q.1 i ⟨by omega,h,l,λk b=>o k b⟩ _
  .rw[if_neg (by simpa using h)];exact⟨⟨_,rfl⟩,r λx=>absurd x h⟩
 .rintro G ⟨⟨y,rfl⟩,o⟩;walk_at"";exact q.2 (λk b=>o k (by simpa using (show k<ns.length by omega))) _
theorem qP{m n i:Nat}{M:aJ}{S:Nat->Nat}{mk:aR}(h:i<m):(cm m n M S mk).ls[i]?=some ((List.range (n+1)).map (Lp.tt m M S i)):=by
 show ((List.range m).map _)[i]?=_;rw[getElem?_map,getElem?_range h];rfl
theorem wQ{m n i:Nat}{M:aJ}{S:Nat->Nat}{mk:aR}(h:i<m):(cm m n M S mk).so[i]?=some (S i:Int):=by
 show ((List.range m).map _)[i]?=_;rw[getElem?_map,getElem?_range h];rfl
theorem wK{n:Nat}(f:Nat->Int):cQ ((List.range (n+1)).map f) (-1)=some (f n):=by
 rw[List.range_succ,map_append];exact zy
def nL(m n:Nat)(M:aJ)(S:Nat->Nat)(c i b:Nat):Bool:=decide (Lp.tt m M S i n*Lp.tt m M S b c<Lp.tt m M S b n*Lp.tt m M S i c) || (decide (Lp.tt m M S i n*Lp.tt m M S b c=Lp.tt m M S b n*Lp.tt m M S i c)&&decide ((S i:Int)<(S b:Int)))
def O3(T:Tx w K mg):bO:=cW 4 λa Q=>∃(f:Fl)(m n:Nat)(M:aJ)(S:Nat->Nat)(mk:aR)(i b c:Nat)(_:Fp f),a=[bY T f (cm m n M S mk),.int i,.int b,.int c]/\Sz m n M/\(∀i,i<m->S i<n)/\i<m/\b<m/\c<n/\Q (.bl (nL m n M S c i b))
theorem MP(T:Tx w K mg){z:Bool}:aK P w K mg base bJ 1 T.ue.a T.ue.d ["self","number","best","column"] (bP K z 0 4 (O3 T)):=by
 refine cj T.ue.F LF rfl (by decide) λa7 A outer s H E G I C=>?_
 refine⟨_,(aP (bF 4 (aW (cA K (qv 0)) (qv 1)))
  (aP (bF 5 (aW (cA K (qv 0)) (qv 2)))
  (aP (bF 6 (cw (aW (qv 4) (iG az)) (aW (qv 5) (qv 3))))
  (aP (bF 7 (cw (aW (qv 5) (iG az)) (aW (qv 4) (qv 3))))
  (a8 (b5 (JL (kL jo jC (qv 6) (qv 7)) (yF (Ca (kL fZ fW (qv 6) (qv 7)) (yF (kL jo jC (aW (cA K (qv 0)) (qv 1)) (aW (cA K (qv 0)) (qv 2))))))))))))),?_⟩
 rintro J B _ ⟨_,f,m,n,M,S,mk,i,b,c,_,rfl,r,y,p,o,D,q⟩;have hn:=r.hn;walk_at"";simp only[hB,iC,f9,ik,gh];refine mG T ?_;rw[gG,gB];refine dQ _ _ _ (eF (qP p)) ⟨gF _,?_⟩;refine mG T ?_;rw[gG,gB];refine dQ _ _ _ (eF (qP o)) ⟨gF _,?_⟩;walk_at"";simp only[fO];walk_at"";have u:∀j,cQ ((List.range (n+1)).map (Lp.tt m M S j)) (-1)=some (Lp.tt m M S j n):=λj=>wK _
 have x:∀j,cQ ((List.range (n+1)).map (Lp.tt m M S j)) (c:Int)=some (Lp.tt m M S j c):=λj=>eF (nP (by omega))
 simp only[u,x,map_some];walk_at"";have l:=λj k (h:k<=n)=>r.t S j k y h
 refine⟨c8 (l i n (le_refl _)) (l b c (by omega)) (by omega),c8 (l b n (le_refl _)) (l i c (by omega)) (by omega),?_⟩;unfold nL at q;by_cases e:Lp.tt m M S i n*Lp.tt m M S b c<Lp.tt m M S b n*Lp.tt m M S i c
 .rw[if_pos (decide_eq_true e)];rw[decide_eq_true e,Bool.true_or] at q;exact q _
 .rw[if_neg (by simpa using e)];rw[decide_eq_false e,Bool.false_or] at q;by_cases g:Lp.tt m M S i n*Lp.tt m M S b c=Lp.tt m M S b n*Lp.tt m M S i c
  .rw[if_pos (decide_eq_true g)];rw[decide_eq_true g,Bool.true_and] at q;refine qr T ?_;rw[gG,gB];refine dQ _ _ _ (eF (wQ p)) (qr T ?_);rw[gG,gB];refine dQ _ _ _ (eF (wQ o)) ?_;exact⟨rfl,q _⟩
  .rw[if_neg (by simpa using g)];rw[decide_eq_false g,Bool.false_and] at q;exact q _
def iK(m n:Nat)(M:aJ)(S:Nat->Nat)(c b i:Nat):Prop:=Lp.tt m M S b n*Lp.tt m M S i c<Lp.tt m M S i n*Lp.tt m M S b c\/(Lp.tt m M S b n*Lp.tt m M S i c=Lp.tt m M S i n*Lp.tt m M S b c/\S b<=S i)
def kf(m n:Nat)(M:aJ)(S:Nat->Nat)(c i:Nat):Option Nat->Prop
 |none=>∀j,j < i -> Lp.tt m M S j c <= 0
 |some b=>b < i /\ 0 < Lp.tt m M S b c /\ ∀j,j < i -> 0 < Lp.tt m M S j c -> iK m n M S c b j
theorem iK.trans{m n:Nat}{M:aJ}{S:Nat->Nat}{c a b i:Nat}(d:0<Lp.tt m M S a c)(f:0<Lp.tt m M S b c)(j:0<Lp.tt m M S i c)(h:iK m n M S c a b)(g:iK m n M S c b i):iK m n M S c a i:=by
 unfold iK at *;generalize Lp.tt m M S a c=x at *;generalize Lp.tt m M S b c=y at *;generalize Lp.tt m M S i c=z at *;generalize Lp.tt m M S a n=u at *;generalize Lp.tt m M S b n=v at *;generalize Lp.tt m M S i n=w at *;have t:=Lp.tr (a:=u) (b:=v) (c:=w) d f j (by omega) (by omega);by_cases e:u*z=w*x
 .refine .inr ⟨e,?_⟩;have r1:=Lp.tr (a:=w) (b:=u) (c:=v) j d f (by omega) (by omega);have r2:=Lp.tr (a:=v) (b:=w) (c:=u) f j d (by omega) (by omega);omega
 .exact .inl (by omega)
theorem EG{m n:Nat}{M:aJ}{S:Nat->Nat}{c i b:Nat}:(nL m n M S c i b=true->iK m n M S c i b)/\(nL m n M S c i b=false->iK m n M S c b i):=by
 unfold nL iK;simp only[Bool.or_eq_true,and_eq_true,decide_eq_true_eq,Bool.or_eq_false_iff,Bool.and_eq_false_iff,decide_eq_false_iff_not];omega
theorem BR{Q:av}:lT false .aL .aL Q=Q (.bl true):=rfl
theorem Ez{Q:av}{i:Int}:lT false (.int i) .aL Q=Q (.bl false):=rfl
theorem C5{Q:av}:lT true .aL .aL Q=Q (.bl false):=rfl
theorem IB{Q:av}{i:Int}:lT true (.int i) .aL Q=Q (.bl true):=rfl
def oT:Option Nat->Tr
 |none=>.aL
 |some b=>.int b
theorem IE(m n:Nat)(M:aJ)(S:Nat->Nat)(mk:aR):(cm m n M S mk).ls.zipIdx=(List.range m).map λi=>((List.range (n+1)).map (Lp.tt m M S i),i):=by
 apply ext_getElem?;intro k;rw[List.getElem?_zipIdx,getElem?_map];by_cases h:k<m
 .rw[qP h,getElem?_range h];simp
 .rw[getElem?_eq_none (show (cm m n M S mk).ls.length<=k by show ((List.range m).map _).length<=k;rw[length_map,length_range];omega),getElem?_eq_none (by rw[length_range];omega)];rfl
theorem kf.skip{m n:Nat}{M:aJ}{S:Nat->Nat}{c i:Nat}{o:Option Nat}(h:kf m n M S c i o)(hn:¬ 0<Lp.tt m M S i c):kf m n M S c (i+1) o:=by
 cases o with
 |none=>
  intro j a;by_cases e:j=i
  .subst e;omega
  .exact h j (by omega)
 |some b=>
  refine⟨by have:=h.1;omega,h.2.1,λj a p=>?_⟩;by_cases e:j=i
  .subst e;exact absurd p hn
  .exact h.2.2 j (by omega) p
theorem kf.keep{m n:Nat}{M:aJ}{S:Nat->Nat}{c i b:Nat}(h:kf m n M S c i (some b))(g:iK m n M S c b i):kf m n M S c (i+1) (some b):=
 ⟨by have:=h.1;omega,h.2.1,λj a p=>by
  by_cases e:j=i
  .subst e;exact g
  .exact h.2.2 j (by omega) p⟩
theorem iK.refl{m n:Nat}{M:aJ}{S:Nat->Nat}{c i:Nat}:iK m n M S c i i:=.inr ⟨rfl,le_refl _⟩
theorem kf.take{m n:Nat}{M:aJ}{S:Nat->Nat}{c i:Nat}{o:Option Nat}(h:kf m n M S c i o)(hp:0<Lp.tt m M S i c)(g:∀b,o=some b->iK m n M S c i b):kf m n M S c (i+1) (some i):=
 ⟨Nat.lt_succ_self i,hp,λj a p=>by
  by_cases e:j=i
  .subst e;exact .refl
  .cases o with
   |none=>have:=h j (by omega);omega
   |some b=>exact (g b rfl).trans hp h.2.1 p (h.2.2 j (by omega) p)⟩
def J7(T:Tx w K mg):bO:=cW 2 λa Q=>∃(f:Fl)(m n:Nat)(M:aJ)(S:Nat->Nat)(mk:aR)(c:Nat)(_:Fp f),a=[bY T f (cm m n M S mk),.int c]/\Sz m n M/\(∀i,i<m->S i<n)/\c<n/\(∀r:Nat,Lp.Lv m n M S r c->Q (.int r))/\((∀i,i<m->Lp.tt m M S i c<=0)->Q .aL)
theorem Iw(T:Tx w K mg){z:Bool}:aK P w K mg base bJ 2 T.sY.a T.sY.d ["self","column"] (bP K z 0 2 (J7 T)):=by
 refine cj T.sY.F HC rfl (by decide) λa7 A outer s H E I J D=>?_
 refine⟨_,(aP (bF 2 kH)
  (aP (gb (sj T.pK (aq (cA K (qv 0)) aF)) (jZ (n:=2) rfl (fL (dI 3) (fL (dI 4) jS))) (a8 (da (QW.t (qj (cc n8 nJ (aW (qv 4) (qv 1)) az) (qV (QW.t (k9 (cc Dl A9 (qv 2) kH) (nv (lF (eh (jL T T.ue (MP T)) (qv 0) (aq (qv 3) (aq (qv 2) (aq (qv 1) aF))))))))))) (a8 (bF 2 (qv 3))) c9)))
  (a8 (b5 (qv 2))))),?_⟩
 rintro L B _ ⟨_,f,m,n,M,S,mk,c,_,rfl,l,u,x,q⟩;have hn:=l.hn;have hm:=l.hm;walk_at"";simp only[hB,iC,f9,ik,gh];refine mG T ?_;walk_at"";rw[IE,map_map];refine Loop.map (List.range m) _ (λi G=>∃(o:Option Nat)(y z:Tr),G=[bY T f (cm m n M S mk),.int c,oT o,y,z]/\kf m n M S c i o) ⟨none,_,_,rfl,λj h=>absurd h (by omega)⟩ ?_ ?_
 .rintro i j G h ⟨o,y,z,rfl,ho⟩;obtain⟨p,rfl⟩:=m8 h;dsimp only[Function.comp];walk_at"";simp only[fO];walk_at"";refine dQ _ _ _ (eF (nP (show c<n+1 by omega))) ?_;walk_at"";by_cases g:0<Lp.tt m M S i c
  .rw[if_pos (decide_eq_true g)];cases o with
   |none=>
    rw[show oT none=.aL from rfl];walk_at"";rw[BR];exact⟨some i,_,_,rfl,ho.take g λb e=>by cases e⟩
   |some b=>
    rw[show oT (some b)=.int b from rfl];walk_at"";rw[Ez];walk_at"";simp only[hB,iC,f9,ik,gh];refine lI T ⟨rfl,f,m,n,M,S,mk,i,b,c,‹_›,rfl,l,u,p,Nat.lt_trans ho.1 p,x,λ_=>?_⟩;walk_at"";cases e:nL m n M S c i b with
    |true=>exact⟨some i,_,_,rfl,ho.take g λC r=>by cases r;exact EG.1 e⟩
    |false=>exact⟨some b,_,_,rfl,ho.keep (EG.2 e)⟩
  .rw[if_neg (by simpa using g)];exact⟨o,_,_,rfl,ho.skip g⟩
 .rintro G ⟨o,y,z,rfl,ho⟩;rw[length_range] at ho;cases o with
  |none=>
   rw[show oT none=.aL from rfl];walk_at"";exact q.2 ho _
  |some b=>
   rw[show oT (some b)=.int b from rfl];walk_at"";exact q.1 b ⟨ho.1,ho.2.1,ho.2.2⟩ _
theorem mn{xs:ah}{k:Nat}{t:Tr}{Q:aX}(h:k<xs.length)(q:Q (xs.set k t)):pE xs (.int k) t Q:=by
 show (match gZ xs.length (k:Int) with |some n=>Q (xs.set n t) |none=>False);have e:gZ xs.length (k:Int)=some k:=by unfold gZ;rw[if_pos (by omega),if_pos (by simpa using h)];simp
 rw[e];exact q
theorem Rv{xs:ah}{k:Nat}{t:Tr}{Q:aX}(h:k<xs.length)(q:Q (xs.set k t)):adc (.ag .o xs) λxs=>pE xs (.int k) t Q:=mn h q
theorem yr(F:Nat->j)(i:Nat):(List.range (i+1)).map F=(List.range i).map F++[F i]:=by rw[List.range_succ,map_append];rfl
def nR(m n:Nat)(M:aJ)(S:Nat->Nat)(r c i k:Nat):Int:=(Lp.tt m M S i k*Lp.tt m M S r c - Lp.tt m M S i c*Lp.tt m M S r k).fdiv (Lp.dd m M S)
theorem QK{m n:Nat}{M:aJ}{S:Nat->Nat}{r c:Nat}(hz:Sz m n M)(G:Lp.Gd m n M S)(a:r<m)(b:c<n)(hp:0<Lp.tt m M S r c):((List.range m).map λj=>(List.range (n+1)).map (nR m n M S r c j)).set r ((List.range (n+1)).map (Lp.tt m M S r))=rj m n M (Lp.up S r c):=by
 apply ext_getElem?;intro i;unfold rj;rw[List.getElem?_set,getElem?_map,getElem?_map,length_map,length_range];by_cases e:r=i
 .subst e;rw[if_pos rfl,if_pos a,getElem?_range a,map_some];congr 1;exact map_congr_left λk _=>Lp.bU.symm
 .rw[if_neg e];by_cases h:i<m
  .rw[getElem?_range h,map_some,map_some];congr 1;refine map_congr_left λk _=>?_
   unfold nR;rw[<- Lp.dR G.cr k h a (Ne.symm e)];exact Int.mul_fdiv_cancel_left _ (ne_of_gt G.pos)
  .rw[getElem?_eq_none (by rw[length_range];omega)];rfl
theorem VX{m:Nat}{S:Nat->Nat}{r c:Nat}(a:r<m):(mf m S).set r (c:Int)=mf m (Lp.up S r c):=by
 apply ext_getElem?;intro i;unfold mf;rw[List.getElem?_set,getElem?_map,getElem?_map,length_map,length_range];by_cases e:r=i
 .subst e;rw[if_pos rfl,if_pos a,getElem?_range a];simp[Lp.up]
 .rw[if_neg e];by_cases h:i<m
  .rw[getElem?_range h];simp[Lp.up,Ne.symm e]
  .rw[getElem?_eq_none (by rw[length_range];omega)];rfl
theorem B2{f:Str}{v u:Tr}{r:bx}:adr f u ((f,v)::r)=(f,u)::r:=by
 show (if f=f then _ else _)=_;rw[if_pos rfl]
theorem Ls(B:gp)(ls:List (aH)):adr "lines" (.ag .f (ls.map ae.t)) (fJ .o B)=fJ .o { B with ls:=ls }:=by unfold fJ;rw[B2];rfl
theorem Ie(B:gp)(d:Int):adr "bottom" (.int d) (fJ .o B)=fJ .o { B with bt:=d }:=by unfold fJ;rw[lN,lN,B2]
theorem Uu(B:gp)(so:aH):gf "solved" (.ag .o (so.map ae.t)) (fJ .o B)=fJ .o { B with so:=so }:=by unfold fJ;rw[iX,qa]
def Ox(T:Tx w K mg):bO:=λa Q=>a.length=3/\∃(m n:Nat)(M:aJ)(S:Nat->Nat)(mk:aR)(r c:Nat),a=[bY T .o (cm m n M S mk),.int r,.int c]/\Sz m n M/\Lp.Gd m n M S/\r<m/\c<n/\0<Lp.tt m M S r c/\∀j:ah,j[0]?=some (bY T .o (cm m n M (Lp.up S r c) mk))->Q .aL j
theorem Ri(T:Tx w K mg){z:Bool}:aK P w K mg base bJ 1 T.sF.a T.sF.d ["self","number","column"] (bP K z 3 3 (Ox T)):=by
 refine cj T.sF.F T2 rfl (by decide) λa7 A outer s H E hr hu Y=>?_
 refine⟨_,(aP (bF 3 (aW (cA K (qv 0)) (qv 1)))
  (aP (da (cc jo jC (aW (qv 3) (qv 2)) az) (a8 (ma 3 ["entry"] [none] (fu (qv 3)) (eP 0) (λ_ _ _ _ _=>(iG (qv 0))))) c9)
  (aP (bF 4 (aW (qv 3) (qv 2)))
  (aP (gJ 5 (eC aF))
  (aP (gb (fu (cA K (qv 0))) (dI 6) (aP (bF 7 (aW (qv 6) (qv 2)))
  (a8 (jW (cV 5) (iq ["one","other","self","middle","entry"] [none,none,some 0,some 4,some 7] (oq T.n6 (aq (qv 6) (aq (qv 3) aF))) (uS (n:=2) rfl (nr (eP 0) (nr (eP 1) y4))) (λ_ _ _ _ _=>(jO (kB (cw (qv 0) (qv 3)) (cw (qv 4) (qv 1))) (cA K (qv 2)))))))))
  (aP (oE (cV 5) (qv 1) (qv 3))
  (uQ 5 (aP (sx (cV 0) (qv 5))
  (aP (m7 (cV 0) (qv 4))
  (a8 (oE (og (cV 0)) (qv 1) (qv 2)))))))))))),?_⟩
 rintro xs U _ ⟨_,m,n,M,S,mk,r,c,rfl,f,G,b,I,O,q⟩;have hn:=f.hn;have hm:=f.hm;walk_at"";simp only[hB,iC,dE,d8,gh];refine mG T ?_;rw[gG,gB];refine dQ _ _ _ (eF (qP b)) ⟨gF _,?_⟩;walk_at"";simp only[fO];walk_at"";have B:cQ ((List.range (n+1)).map (Lp.tt m M S r)) (c:Int)=some (Lp.tt m M S r c):=eF (nP (by omega));simp only[B,map_some];walk_at"";rw[if_neg (by simp;omega)];refine mG T ?_;walk_at"";rw[show (cm m n M S mk).ls=(List.range m).map λi=>(List.range (n+1)).map (Lp.tt m M S i) from rfl,map_map];refine Loop.map (List.range m) _ (λi J=>∃(y z:Tr),J=[bY T .o (cm m n M S mk),.int r,.int c,ae.t ((List.range (n+1)).map (Lp.tt m M S r)),.int (Lp.tt m M S r c),.ag .o (((List.range i).map λj=>(List.range (n+1)).map (nR m n M S r c j)).map ae.t),y,z]) ⟨_,_,rfl⟩ ?_ ?_
 .rintro i j J hj ⟨y,z,rfl⟩;obtain⟨hi,rfl⟩:=m8 hj;have C:cQ ((List.range (n+1)).map (Lp.tt m M S i)) (c:Int)=some (Lp.tt m M S i c):=eF (nP (by omega));dsimp only[Function.comp];walk_at"";simp only[fO];walk_at"";simp only[C,map_some];walk_at"";simp only[hB,dE];refine bg.map _ _ (λp=>(p.1*Lp.tt m M S r c - Lp.tt m M S i c*p.2).fdiv (Lp.dd m M S)) (by rw[length_zip,length_map,length_range];omega) (λp h R D=>?_) ?_
  .walk_at"";obtain⟨k,L,e⟩:=mem_map.mp (of_mem_zip h).1;obtain⟨Q,g,x⟩:=mem_map.mp (of_mem_zip h).2;rw[mem_range] at L g;have l:bi p.1<=3000:=by rw[<- e];exact f.t S i k G.lt (by omega)
   have u:bi p.2<=3000:=by rw[<- x];exact f.t S r Q G.lt (by omega)
   refine⟨c8 l (f.t S r c G.lt (by omega)) (by omega),c8 (f.t S i c G.lt (by omega)) u (by omega),?_⟩;simp only[gh];refine rm T ?_;walk_at"";exact⟨vg (ne_of_gt G.pos) (le_trans (f.d S G.lt) (by omega)),D⟩
  .have eR:((((List.range (n+1)).map (Lp.tt m M S i)).zip ((List.range (n+1)).map (Lp.tt m M S r))).map λp=>(p.1*Lp.tt m M S r c - Lp.tt m M S i c*p.2).fdiv (Lp.dd m M S))=(List.range (n+1)).map (nR m n M S r c i):=by rw[List.zip_map',map_map];rfl
   rw[eR,fH,yr _ i,map_append (l₂:=[_])];exact⟨lx _,by rw[length_range];omega,_,_,rfl⟩
 .rintro J ⟨y,z,rfl⟩;walk_at"";rw[length_range];refine mn (by rw[length_map,length_map,length_range];exact b) ?_;rw[<- map_set,QK f G b I O,nA];refine⟨f6 _,?_⟩;unfold bY;walk_at"";rw[Ls,Ie];refine⟨⟨T.iO,T.vK⟩,(by decide:4<900),⟨T.iO,T.yc⟩,(by decide:4<900),uh rfl ⟨T.iO,T.wb⟩ (b4 ft) ?_⟩;dsimp only[cm];have N:r<((mf m S).map ae.t).length:=by unfold mf;rw[length_map,length_map,length_range];exact b
  refine Rv N ?_;rw[show Tr.int (c:Int)=ae.t (c:Int) from rfl,<- map_set,VX b,Uu];refine q _ ?_;unfold bY cm;rw[Lp.dX];rfl
def jt(m:Nat)(mk:aR)(S:Nat->Nat):Prop:=∀i,i<m->¬ eX mk (S i)
def uc(m n:Nat)(M:aJ)(mk:aR)(c:Nat->Int)(S:Nat->Nat):Prop:=∀k,k<n->¬ eX mk k->0<=Lp.zz m M c S k
def Rc(T:Tx w K mg):bO:=λb Q=>b.length=2/\∃(g:Fl)(m n:Nat)(M:aJ)(S:Nat->Nat)(mk:aR)(ns:aH)(_:Fp g),b=[bY T .o (cm m n M S mk),.ag g (ns.map ae.t)]/\Sz m n M/\Lp.Gd m n M S/\jt m mk S/\mr ns n/\(∀a,Lp.Gd m n M a->jt m mk a->uc m n M mk (cf ns) a->∀j:ah,j[0]?=some (bY T .o (cm m n M a mk))->Q .aL j)/\(∀a (e:Nat),Lp.Gd m n M a->jt m mk a->Lp.Ent m n M (cf ns) (eX mk) a e->(∀i,i<m->Lp.tt m M a i e<=0)->∀j:ah,j[0]?=some (bY T .o (cm m n M a mk))->Q (.int e) j)
def BV(m n:Nat)(M:aJ)(mk:aR)(c:Nat->Int)(S:Nat->Nat):Option Nat->Prop
 |none=>uc m n M mk c S
 |some e=>Lp.Ent m n M c (eX mk) S e
theorem BD(o:Option Nat):bL (oT o)=true:=by cases o<;>rfl
theorem Bb(o:Option Nat):Pu.ay (oT o)=oT o:=by cases o<;>rfl
theorem jt.turn{m n:Nat}{M:aJ}{mk:aR}{c:Nat->Int}{S:Nat->Nat}{r e:Nat}(h:jt m mk S)(E:Lp.Ent m n M c (eX mk) S e):jt m mk (Lp.up S r e):=λi a=>by
 unfold Lp.up;split
 .exact E.2.2.1
 .exact h i a
theorem S8(T:Tx w K mg){z:Bool}:aK P w K mg base bJ 3 T.sL.a T.sL.d ["self","costs"] (bP K z 2 2 (Rc T)):=by
 refine cj T.sL.F RD rfl (by decide) λa7 A outer s H E hr hu x=>?_
 refine⟨_,(aP (bF 2 (eh (jL T T.qq (Ba T)) (qv 0) (aq (qv 1) aF)))
  (aP (xW (cc DF Cv (qv 2) kH) (aP (bF 3 (eh (jL T T.sY (Iw T)) (qv 0) (aq (qv 2) aF)))
  (aP (da (cc Dl A9 (qv 3) kH) (a8 (b5 (qv 2))) c9)
  (aP (xU (nG (cV 0) (jL T T.sF (Ri T)) (kQ (qv 3) (kQ (qv 2) oN))))
  (a8 (bF 2 (eh (jL T T.qq (Ba T)) (qv 0) (aq (qv 1) aF))))))))
  (a8 (b5 kH)))),?_⟩
 rintro xs Q' _ ⟨_,g,m,n,M,S,mk,ns,_,rfl,D,G,x,Q,Y,q2⟩;have p:∀(S:Nat->Nat)(q f:Fl) [Fp f] (R:av),Lp.Gd m n M S->(∀o,BV m n M mk (cf ns) S o->R (oT o))->hW (sT T) "falling" (bY T q (cm m n M S mk)) λ_=>zu T [bY T f (cm m n M S mk),.ag g (ns.map ae.t)] λt _=>R t:=λS q f _ R G h=>
  lI T ⟨rfl,f,g,m,n,M,S,mk,ns,‹_›,‹_›,rfl,D,G.lt,Q,λe B _=>h (some e) B,λB _=>h none B⟩
 walk_at"";simp only[hB,iC,dE,d8,gh];refine p S _ _ _ G λo i=>?_
 rw[BD,Bb];refine⟨rfl,?_⟩;refine⟨λN j=>∃(b:Nat->Nat)(o:Option Nat)(y:Tr),j=[bY T .o (cm m n M b mk),.ag g (ns.map ae.t),oT o,y]/\Lp.Gd m n M b/\jt m mk b/\Lp.jB m n M (cf ns) (eX mk) b N/\BV m n M mk (cf ns) b o,⟨_,S,o,_,rfl,G,x,Lp.VW G,i⟩,?_⟩;rintro N j ⟨b,o,y,rfl,G,x,O,i⟩;cases o with
 |none=>
  rw[show oT none=.aL from rfl];walk_at"";rw[C5];walk_at"";exact Y b G x i _ rfl
 |some e=>
  rw[show oT (some e)=.int e from rfl];walk_at"";rw[IB];walk_at"";simp only[hB,iC,dE,d8,gh];refine lI T ⟨rfl,.l false,m,n,M,b,mk,e,inferInstance,rfl,D,G.lt,i.1,λr u _=>?_,λu _=>?_⟩
  .walk_at"";rw[Ez];walk_at"";refine⟨trivial,lI T ?_⟩;walk_at"";simp only[show cO (bY T .o (cm m n M b mk)) []=bY T .o (cm m n M b mk) from rfl,iC,d8];refine⟨rfl,m,n,M,b,mk,r,e,rfl,D,G,u.1,i.1,u.2.1,λj' L=>?_⟩;dsimp only;rw[L,gh];refine⟨pP T _,?_⟩;simp only[hY,hB,iC,dE,d8,gh];have I:=G.turn u i.1;refine p (Lp.up b r e) _ _ _ I λU C=>?_
   rw[BD,Bb];obtain⟨b1,J⟩:=O.step ⟨r,e,i,u,rfl⟩;exact⟨rfl,N - 1,by omega,_,U,_,rfl,I,x.turn i,J,C⟩
  .walk_at"";rw[BR];walk_at"";exact q2 b e G x i u _ rfl
def jD(m n:Nat)(M:aJ)(mk:aR)(c:Nat->Int)(S:Nat->Nat)(k:Nat):Bool:=decide (0<Lp.zz m M c S k) && !(look (mT mk) (Sum.inl (k:Int))).isSome
def fh(m n:Nat)(M:aJ)(mk:aR)(c:Nat->Int)(S:Nat->Nat)(a:Int)(i:Nat):aR:=mk++((List.range i).filter (jD m n M mk c S)).map λ(k:Nat)=>((Sum.inl (k:Int):aU),some a)
theorem DL(mk:aR)(y:aU):(look (mT mk) y).isSome=mk.any λp=>decide (p.1=y):=by
 unfold look mT;rw[isSome_map,List.find?_map,isSome_map,List.isSome_find?];rfl
theorem oD{mk:aR}{k:Nat}:eX mk k↔∃p∈mk,p.1=Sum.inl (k:Int):=by
 unfold eX;rw[DL,any_eq_true];simp only[decide_eq_true_eq]
theorem n0{m n:Nat}{M:aJ}{mk:aR}{c:Nat->Int}{S:Nat->Nat}{a:Int}{i k:Nat}:eX (fh m n M mk c S a i) k↔eX mk k\/(k<i/\0<Lp.zz m M c S k):=by
 rw[oD,oD];unfold fh;constructor
 .rintro⟨p,b,e⟩;rcases mem_append.mp b with b |b
  .exact .inl ⟨p,b,e⟩
  .obtain⟨j,mj,rfl⟩:=mem_map.mp b;obtain⟨f,d⟩:=mem_filter.mp mj;unfold jD at d;simp only[and_eq_true,decide_eq_true_eq] at d;have:j=k:=Int.ofNat.inj (Sum.inl.inj e);subst this;exact .inr ⟨mem_range.mp f,d.1⟩
 .intro h;by_cases g:eX mk k
  .obtain⟨p,b,e⟩:=oD.mp g;exact⟨p,mem_append.mpr (.inl b),e⟩
  .rcases h with h |⟨f,d⟩
   .exact absurd (oD.mpr h) g
   .refine⟨_,mem_append.mpr (.inr (mem_map.mpr ⟨k,mem_filter.mpr ⟨mem_range.mpr f,?_⟩,rfl⟩)),rfl⟩;unfold jD;rw[decide_eq_true d,eq_false_of_ne_true g];rfl
theorem CV{m n:Nat}{M:aJ}{mk:aR}{c:Nat->Int}{S:Nat->Nat}{a:Int}{i:Nat}:(look (mT (fh m n M mk c S a i)) (Sum.inl (i:Int))).isSome=(look (mT mk) (Sum.inl (i:Int))).isSome:=by
 apply Bool.eq_iff_iff.mpr;show eX (fh m n M mk c S a i) i↔eX mk i;rw[n0];exact⟨λh=>h.elim id λh=>absurd h.1 (lt_irrefl _),.inl⟩
theorem El{m n:Nat}{M:aJ}{mk:aR}{c:Nat->Int}{S:Nat->Nat}{a:Int}{i:Nat}:fh m n M mk c S a (i+1)=if jD m n M mk c S i=true then fh m n M mk c S a i++[((Sum.inl (i:Int):aU),some a)] else fh m n M mk c S a i:=by
 unfold fh;rw[List.range_succ,List.filter_append,map_append,<- append_assoc];split
 .rename_i h;rw[List.filter_cons_of_pos h];rfl
 .rename_i h;rw[List.filter_cons_of_neg h];simp
theorem BG{m n:Nat}{M:aJ}{mk:aR}{c:Nat->Int}{S:Nat->Nat}{a:Int}{i:Nat}:(fh m n M mk c S a i).length<=mk.length+i:=by
 unfold fh;rw[length_append,length_map];have:=length_filter_le (jD m n M mk c S) (List.range i);rw[length_range] at this;omega
def Vl(T:Tx w K mg):bO:=λa Q=>a.length=3/\∃(g:Fl)(m n:Nat)(M:aJ)(S:Nat->Nat)(mk:aR)(ns:aH)(k:Int)(_:Fp g),a=[bY T .o (cm m n M S mk),.ag g (ns.map ae.t),.int k]/\Sz m n M/\(∀i,i<m->S i<n)/\mr ns n/\mk.length<=10000/\∀j:ah,j[0]?=some (bY T .o (cm m n M S (fh m n M mk (cf ns) S k n)))->Q (ae.t ((List.range (n+1)).map (Lp.zz m M (cf ns) S))) j
theorem OJ(T:Tx w K mg){z:Bool}:aK P w K mg base bJ 2 T.uf.a T.uf.d ["self","costs","mark"] (bP K z 3 3 (Vl T)):=by
 refine cj T.uf.F Kt rfl (by decide) λa7 A outer s H E L N J=>?_
 refine⟨_,(aP (bF 3 (eh (jL T T.pJ (Gf T)) (qv 0) (aq (qv 1) aF)))
  (aP (gb (rT T.lh (aq (fC hV hX T.g8 (aq (qv 1) aF)) aF)) (dI 4) (a8 (da (QW.t (qj (cc n8 nJ (aW (qv 3) (qv 4)) az) (qV (cc wy yE (qv 4) (cA K (qv 0)))))) (a8 (tp (og (cV 0)) (qv 4) (qv 2))) c9)))
  (a8 (b5 (qv 3))))),?_⟩
 rintro O I _ ⟨_,g,m,n,M,S,mk,ns,k,_,rfl,u,B,r,hm,q⟩;have hn:=u.hn;have C:=r.1;walk_at"";simp only[hB,iC,dE,d8,gh];refine Aa T u B r ?_;walk_at"";refine⟨by omega,by omega,Loop.map _ _ (λi G=>∃(y:Tr),G=[bY T .o (cm m n M S (fh m n M mk (cf ns) S k i)),.ag g (ns.map ae.t),.int k,ae.t ((List.range (n+1)).map (Lp.zz m M (cf ns) S)),y]) ⟨_,by unfold fh;rw[List.range_zero,List.filter_nil,map_nil,append_nil]⟩ ?_ ?_⟩
 .rintro i j G hj ⟨y,rfl⟩;have b:j<ns.length/\i=j:=by have:=m8 hj;omega
  obtain⟨b,rfl⟩:=b;walk_at"";rw[fO,gG,gB];refine dQ _ _ _ (eF (nP (show i<n+1 by omega))) ?_;walk_at"";have l:jD m n M mk (cf ns) S i=false->fh m n M mk (cf ns) S k (i+1)=fh m n M mk (cf ns) S k i:=λh=>by rw[El,h,if_neg (by decide)]
  by_cases h:0<Lp.zz m M (cf ns) S i
  .rw[if_pos (decide_eq_true h)];simp only[hB,dE,gh];refine yQ T (show if (!(look (mT (fh m n M mk (cf ns) S k i)) (Sum.inl (i:Int))).isSome)=true then _ else _ from ?_);rw[CV];by_cases f:(look (mT mk) (Sum.inl (i:Int))).isSome=true
   .rw[f,if_neg (by decide),l (by unfold jD;rw[f];simp)];exact⟨_,rfl⟩
   .rw[eq_false_of_ne_true f,if_pos (by decide)];have D:=BG (m:=m) (n:=n) (M:=M) (mk:=mk) (c:=cf ns) (S:=S) (a:=k) (i:=i);refine uh rfl ⟨T.iO,T.xj⟩ (b4 (b4 (b4 ft))) ⟨by show (mT (fh m n M mk (cf ns) S k i)).length<1000000;unfold mT;rw[length_map];omega,?_⟩;rw[show Tr.int k=ae.t (some k:bI) from rfl];have e:=UR (fh m n M mk (cf ns) S k i) (Sum.inl (i:Int)) (some k);rw[if_neg (by rw[<- DL,CV];exact f)] at e;have x:jD m n M mk (cf ns) S i=true:=by unfold jD;rw[decide_eq_true h,eq_false_of_ne_true f];rfl
    have p:=El (m:=m) (n:=n) (M:=M) (mk:=mk) (c:=cf ns) (S:=S) (a:=k) (i:=i);rw[if_pos x] at p;rw[p];dsimp only[cm];rw[e,RC];exact⟨_,rfl⟩
  .rw[if_neg (by simpa using h),l (by unfold jD;rw[decide_eq_false h];rfl)];exact⟨_,rfl⟩
 .rintro G ⟨y,rfl⟩;walk_at"";refine q _ ?_;rw[show (List.range ((ns.length:Int)).toNat).length=n by rw[length_range];simpa using C];rfl
theorem Hg(x:Int)(ns:aH):nF (.int x) (ns.map ae.t)=decide (x∈ns):=by
 induction ns with
 |nil=>rfl
 |cons n ns a=>
  unfold nF sM at a ⊢;rw[map_cons,map_cons,any_cons,a];by_cases h:x=n
  .simp[h,oF,iR]
  .simp[h,oF,iR,Ne.symm h]
theorem C7:∀ns:aH,(ns.map ae.t).all mE=true
 |[]=>rfl
 |n::ns=>by simp only[map_cons,all_cons,C7 ns,Bool.and_true];rfl
theorem RE{neg:Bool}{f:Fl}{x:Int}{ns:aH}{Q:av}(q:Q (.bl (if neg=true then !decide (x∈ns) else decide (x∈ns)))):mH neg (.int x) (.ag f (ns.map ae.t)) Q:=⟨rfl,C7 ns,by rw[Hg];exact q⟩
def gD(m n:Nat)(M:aJ)(S:Nat->Nat)(k:Nat):Rat:=Rat.divInt (Lp.kP m n M S k) (Lp.dd m M S)
def Uo(T:Tx w K mg):bO:=cW 2 λa Q=>∃(f:Fl)(m n:Nat)(M:aJ)(S:Nat->Nat)(mk:aR)(k:Nat)(_:Fp f),a=[bY T f (cm m n M S mk),.int k]/\Sz m n M/\Lp.Gd m n M S/\k<n/\Q (ae.t (gD m n M S k))
theorem Vn{m n k:Nat}{M:aJ}{S:Nat->Nat}{mk:aR}:(k:Int)∈(cm m n M S mk).so↔∃i,i<m/\S i=k:=by
 show (k:Int)∈(List.range m).map (λi=>(S i:Int))↔_;rw[mem_map];exact⟨λ⟨i,h,e⟩=>⟨i,mem_range.mp h,Int.ofNat.inj e⟩,λ⟨i,h,e⟩=>⟨i,mem_range.mpr h,by rw[e]⟩⟩
theorem QF(T:Tx w K mg){z:Bool}:aK P w K mg base bJ 3 T.uL.a T.uL.d ["self","column"] (bP K z 0 2 (Uo T)):=by
 refine cj T.uL.F Hn rfl (by decide) λa7 A outer s H E D I B=>?_
 refine⟨_,(aP (da (cc wy yE (qv 1) (cA K (qv 0))) (a8 (b5 (iM [0,1] T.i8 T.i4))) c9)
  (a8 (b5 (qc T.jw (lg T) (aq (aW (aW (cA K (qv 0)) (Jx (cA K (qv 0)) (qv 1))) (iG az)) (aq (cA K (qv 0)) aF)))))),?_⟩
 rintro L y _ ⟨_,f,m,n,M,S,mk,k,_,rfl,o,G,u,q⟩;walk_at"";simp only[hB,f9,gh];refine qr T (RE ?_);by_cases h:(k:Int)∈(cm m n M S mk).so
 .rw[decide_eq_true h];walk_at"";refine mG T (qr T ?_);have C:(cm m n M S mk).so.length=m:=by show ((List.range m).map _).length=m;rw[length_map,length_range]
  have hm:=o.hm;refine⟨f,(cm m n M S mk).so,rfl,_,rfl,h,by omega,?_⟩;have b:(cm m n M S mk).so.idxOf (k:Int)<m:=by have:=List.idxOf_lt_length_iff.mpr h;omega
  have g:(cm m n M S mk).so[(cm m n M S mk).so.idxOf (k:Int)]?=some (k:Int):=by
   have l:(cm m n M S mk).so.idxOf (k:Int)<(cm m n M S mk).so.length:=by omega
   rw[getElem?_eq_getElem l];exact congrArg some (by simpa using List.getElem_idxOf l)
  generalize (cm m n M S mk).so.idxOf (k:Int)=j at b g;rw[wQ b] at g;have p:S j=k:=Int.ofNat.inj (Option.some.inj g);rw[gG,gB];refine dQ _ _ _ (eF (qP b)) ?_;rw[fO,gG,gB,wK];refine dQ _ _ _ rfl (rm T ?_);refine⟨rfl,Lp.tt m M S j n,Lp.dd m M S,rfl,ne_of_gt G.pos,le_trans (o.d S G.lt) (by omega),λJ=>⟨iB _,?_⟩⟩;have e:gD m n M S k=Rat.divInt (Lp.tt m M S j n) (Lp.dd m M S):=by unfold gD;rw[<- p,Lp.iI G b]
  rw[<- e];exact q _
 .rw[decide_eq_false h];walk_at"";have e:gD m n M S k=0:=by unfold gD;rw[Lp.d9 (ne_of_lt u) λi r x=>h (Vn.mpr ⟨i,r,x⟩),Rat.zero_divInt]
  rw[e] at q;exact q _
def jI(b:Int)(c:Rat):Int:=b.fdiv (gd b (c.den:Int))*(c.den:Int)
def ck(cs:aB):Int:=cs.foldl jI 1
theorem HW{b:Int}(i:0<b)(c:Rat):jI b c=((Int.lcm b (c.den:Int):Nat):Int):=by
 have hd:(0:Int)<(c.den:Int):=natCast_pos.mpr c.den_pos;have d:=lu (a:=b) (b:=(c.den:Int)) (ne_of_gt hd);obtain⟨x,f⟩:=uu b (c.den:Int);have e:b.fdiv (gd b (c.den:Int))=x:=by
  have:=Int.mul_fdiv_cancel_left (a:=gd b (c.den:Int)) x (ne_of_gt d);rwa[<- f] at this
 unfold jI;rw[e];have h:=Int.gcd_mul_lcm b (c.den:Int);have g:gd b (c.den:Int)*((Int.lcm b (c.den:Int):Nat):Int)=b*(c.den:Int):=by
  unfold gd;rw[<- natCast_mul,h,natCast_mul,Int.natAbs_of_nonneg (le_of_lt i),Int.natAbs_of_nonneg (le_of_lt hd)]
 apply Int.eq_of_mul_eq_mul_left (ne_of_gt d);rw[g]
 conv=>rhs;lhs;rw[f]
 grind
theorem gR:∀(cs:aB)(b:Int),0<b->0<cs.foldl jI b/\b ∣ cs.foldl jI b/\(∀c∈cs,(c.den:Int) ∣ cs.foldl jI b)/\∀X:Nat,b ∣ (X:Int)->(∀c∈cs,(c.den:Int) ∣ (X:Int))->cs.foldl jI b ∣ (X:Int)
 |[],b,hb=>⟨hb,Int.dvd_refl _,λc m=>(nomatch m),λX h _=>h⟩
 |c::cs,b,hb=>by
  have hd:(0:Int)<(c.den:Int):=natCast_pos.mpr c.den_pos;have a:=HW hb c;have i:0<jI b c:=by rw[a];exact natCast_pos.mpr (Int.lcm_pos (ne_of_gt hb) (ne_of_gt hd))
  obtain⟨j,f,l,n⟩:=gR cs (jI b c) i;refine⟨j,dvd_trans (by rw[a];exact Int.dvd_lcm_left _ _) f,λd m=>?_,λX g e=>?_⟩
  .rcases mem_cons.mp m with rfl |m
   .exact dvd_trans (by rw[a];exact Int.dvd_lcm_right _ _) f
   .exact l d m
  .refine n X ?_ λd m=>e d (.tail _ m)
   rw[a];exact Int.natCast_dvd_natCast.mpr (Int.lcm_dvd g (e c (.head _)))
theorem kG{a:Int}{X:Nat}(h:a ∣ (X:Int))(d:0<X):bi a<=bi (X:Int):=by
 have b:a.natAbs<=X:=le_of_dvd d (Int.natAbs_dvd_natAbs.mpr h);refine dh (lt_of_le_of_lt b ?_);have:=jr (x:=(X:Int)) (le_refl _);rwa[natAbs_natCast] at this
def rq(cs:aB)(X:Nat):Prop:=0<X/\(∀c∈cs,(c.den:Int) ∣ (X:Int))/\bi (X:Int)<=3000
def SJ:bO:=cW 1 λb Q=>∃(f:Fl)(a:aB)(X:Nat)(_:Fp f),b=[.ag f (a.map ae.t)]/\rq a X/\Q (.int (ck a))
theorem Gm(T:Tx w K mg){z:Bool}:aK P w K mg base bJ 2 T.pZ.a T.pZ.d ["fractions"] (bP K z 0 1 SJ):=by
 refine cj T.pZ.F Q1 rfl (by decide) λa7 A outer s H E L M G=>?_
 refine⟨_,(aP (bF 1 az)
  (aP (gb (fu (qv 0)) (dI 2) (a8 (bF 1 (cw (jO (qv 1) (qc T.qw (Dr T) (aq (qv 1) (aq (aW (qv 2) az) aF)))) (aW (qv 2) az)))))
  (a8 (b5 (qv 1))))),?_⟩
 rintro N C _ ⟨_,f,b,X,_,rfl,⟨h,hd,I⟩,q⟩;walk_at"";refine Loop.map b ae.t (λi j=>∃y,j=[.ag f (b.map ae.t),.int (ck (b.take i)),y]) ⟨_,rfl⟩ ?_ ?_
 .rintro i c j hc ⟨y,rfl⟩;have m:=mem_of_getElem? hc;obtain⟨p1,_,_,B⟩:=gR (b.take i) 1 (by decide);have o:=B X (one_dvd _) λc m=>hd c (List.mem_of_mem_take m)
  have g:(0:Int)<(c.den:Int):=natCast_pos.mpr c.den_pos;have D:=kG o h;have p:=kG (hd c m) h;have e:ck (b.take (i+1))=jI (ck (b.take i)) c:=by
   unfold ck;rw[take_add_one,hc,List.foldl_append];rfl
  rw[e];show (_:Prop);walk_at"";refine⟨rfl,ck (b.take i),(c.den:Int),rfl,le_of_lt p1,le_of_lt g,λ_=>?_⟩;walk_at"";have J:=vP (a:=ck (b.take i)) (ne_of_gt g) p;refine⟨vg (ne_of_gt (lu (ne_of_gt g))) (by omega),c8 (n:=6001) (m:=3000) ?_ (by omega) (by omega),_,rfl⟩;obtain⟨x,l⟩:=uu (ck (b.take i)) (c.den:Int);have u:(ck (b.take i)).fdiv (gd (ck (b.take i)) (c.den:Int))=x:=by
   have:=Int.mul_fdiv_cancel_left (a:=gd (ck (b.take i)) (c.den:Int)) x (ne_of_gt (lu (ne_of_gt g)));rwa[<- l] at this
  rw[u];have r:x ∣ (X:Int):=dvd_trans (show x ∣ ck (b.take i) by rw[l];exact Int.dvd_mul_left _ _) o;have:=kG r h;omega
 .rintro j ⟨y,rfl⟩;walk_at"";rw[take_length];exact q _
def e7(b:Int)(c:Rat):Int:=c.num*b.fdiv (c.den:Int)
def VY:bO:=cW 2 λb Q=>∃(f:Fl)(a:aB)(X:Nat)(_:Fp f),b=[.ag f (a.map ae.t),.int (ck a)]/\rq a X/\a.length<=100/\(∀c∈a,bs c<=3000)/\Q (.ag .o ((a.map (e7 (ck a))).map ae.t))
theorem C1(T:Tx w K mg){z:Bool}:aK P w K mg base bJ 1 T.pI.a T.pI.d ["fractions","bottom"] (bP K z 0 2 VY):=by
 refine cj T.pI.F MN rfl (by decide) λa7 A outer s H E J L D=>?_
 refine⟨_,(a8 (b5 (iq ["fraction","bottom"] [none,some 1] (fu (qv 0)) (eP 0) (λ_ _ _ _ _=>(cw (aW (qv 0) az) (jO (qv 1) (aW (qv 0) az))))))),?_⟩;rintro M u _ ⟨_,f,b,X,_,rfl,⟨g,hd,G⟩,I,o,q⟩;walk_at"";refine bg.map b _ (e7 (ck b)) (by omega) (λc m R l=>?_) ⟨nu _,q _⟩;walk_at"";have e:(0:Int)<(c.den:Int):=natCast_pos.mpr c.den_pos;obtain⟨p1,_,p3,p⟩:=gR b 1 (by decide);have r:=p X (one_dvd _) hd;have y:=kG (hd c m) g;have C:=o c m;have B:=iu c;refine⟨vg (ne_of_gt e) (by omega),c8 (n:=3000) (m:=3000) (by omega) ?_ (by omega),l⟩;obtain⟨x,h⟩:=p3 c m;have j:(ck b).fdiv (c.den:Int)=x:=by
  have:=Int.mul_fdiv_cancel_left (a:=(c.den:Int)) x (ne_of_gt e);rwa[<- h] at this
 rw[j];have i:x ∣ (X:Int):=dvd_trans (show x ∣ b.foldl jI 1 by rw[h];exact Int.dvd_mul_left _ _) r;have:=kG i g;omega
theorem qI{i j:Int}(h:i.natAbs<1000)(h':j.natAbs<1000):j4 i j:=.inr ⟨10,by decide,by omega,by omega⟩
def ug(fs:bx)(rs:ax)(us:aj):Prop:=fs.lookup ("rows":Str)=some (Tr.ag .f (rs.map ae.t))/\fs.lookup ("unknowns":Str)=some (Tr.ag .f (us.map ae.t))
theorem ic(T:Tx w K mg)(f:Fl)(S:gC):ug (gA T f S) S.rs S.us:=⟨ft,b4 ft⟩
theorem ui(f:Fl)(rs:ax)(us:aj)(sc:aH):ug (jH f rs us sc) rs us:=⟨ft,b4 ft⟩
theorem vw{f:Fl}[h:Fp f](c:af)(fs:bx):aD (.ins f c fs)=.ins f c fs:=by cases h<;>rfl
theorem xX(f:Fl)(c:af)(fs:bx)(Q:av):pV (some (.ins f c fs)) Q=Q (.ins f c fs):=rfl
def T3(T:Tx w K mg):bO:=cW 1 λa Q=>∃(f:Fl)(fs:bx)(rs:ax)(us:aj)(_:Fp f),a=[.ins f T.aah fs]/\ug fs rs us/\rs.length<=100/\Q (.int ((us.length+2*rs.length:Nat):Int))
theorem Ol(T:Tx w K mg){z:Bool}:aK P w K mg base bJ 1 T.ua.a T.ua.d ["self"] (bP K z 0 1 (T3 T)):=by
 refine cj T.ua.F Ob rfl (by decide) λa7 A outer s H E i j e=>?_
 refine⟨_,(a8 (b5 (eN (fC hV hX T.g8 (aq (cA K (qv 0)) aF)) (cw az (fC hV hX T.g8 (aq (cA K (qv 0)) aF)))))),?_⟩;rintro l b _ ⟨_,f,fs,rs,us,_,rfl,h,g,q⟩;walk_at"";simp only[vw,xX];refine gP ⟨T.fm,T.oy⟩ h.2 ?_;walk_at"";refine gP ⟨T.fm,T.qT⟩ h.1 ?_;walk_at"";refine⟨qI (by decide) (by omega),?_⟩;rw[show (us.length:Int)+2*(rs.length:Int)=((us.length+2*rs.length:Nat):Int) by omega];exact q _
def DM(T:Tx w K mg)(d:Nat):bO:=cW 2 λa Q=>∃(f:Fl)(fs:bx)(rs:ax)(us:aj)(i:Nat)(_:Fp f),a=[.ins f T.aah fs,.int i]/\ug fs rs us/\i<=100/\Q (.int ((us.length+2*i+d:Nat):Int))
theorem sI(T:Tx w K mg){z:Bool}:aK P w K mg base bJ 1 T.mB.a T.mB.d ["self","number"] (bP K z 0 2 (DM T 0)):=by
 refine cj T.mB.F UL rfl (by decide) λa7 A outer s H E j l e=>?_
 refine⟨_,(a8 (b5 (eN (fC hV hX T.g8 (aq (cA K (qv 0)) aF)) (cw az (qv 1))))),?_⟩;rintro m b _ ⟨_,f,fs,rs,us,i,_,rfl,h,g,q⟩;walk_at"";simp only[vw,xX];refine gP ⟨T.fm,T.oy⟩ h.2 ?_;walk_at"";refine⟨qI (by decide) (by omega),?_⟩;rw[show (us.length:Int)+2*(i:Int)=((us.length+2*i+0:Nat):Int) by omega];exact q _
theorem sS(T:Tx w K mg){z:Bool}:aK P w K mg base bJ 1 T.mI.a T.mI.d ["self","number"] (bP K z 0 2 (DM T 1)):=by
 refine cj T.mI.F Pm rfl (by decide) λa7 A outer s H E j l e=>?_
 refine⟨_,(a8 (b5 (eN (eN (fC hV hX T.g8 (aq (cA K (qv 0)) aF)) (cw az (qv 1))) az))),?_⟩;rintro m b _ ⟨_,f,fs,rs,us,i,_,rfl,h,g,q⟩;walk_at"";simp only[vw,xX];refine gP ⟨T.fm,T.oy⟩ h.2 ?_;walk_at"";refine⟨qI (by decide) (by omega),?_⟩;rw[show (us.length:Int)+2*(i:Int)+1=((us.length+2*i+1:Nat):Int) by omega];exact q _
theorem KS{j:Type}(A:List j)(x:j):g6 (A++[x]) none (some (-1))=A:=by
 have a:HT.dq (A++[x]).length 0 none=0:=rfl;have b:HT.dq (A++[x]).length (A++[x]).length (some (-1))=A.length:=by unfold HT.dq;simp;omega
 unfold g6;rw[a,b];simp
theorem Wr{j:Type}(A:List j)(x:j):g6 (A++[x]) (some (-1)) none=[x]:=by
 have a:HT.dq (A++[x]).length 0 (some (-1))=A.length:=by unfold HT.dq;simp;omega
 have b:HT.dq (A++[x]).length (A++[x]).length none=A.length+1:=by unfold HT.dq;simp
 unfold g6;rw[a,b];simp
def iP(us:aj)(o:bV):aB:=us.map λu=>(b9 o.1 u).getD 0
def cB(us:aj)(o:bV):aB:=iP us o++[o.2.2.1]
def bz(us:aj)(o:bV):Int:=ck (cB us o)
def er(us:aj)(o:bV):aH:=(iP us o).map (e7 (bz us o))
def cH(us:aj)(o:bV):Int:=e7 (bz us o) o.2.2.1
def A0(U R i:Nat)(E:aH)(x:Int)(k:Nat):Int:=if k<U then E.getD k 0 else if k=U+2*i then 1 else if k=U+2*i+1 then -1 else if k=U+2*R then x else 0
def jK(us:aj)(R i:Nat)(o:bV):aH:=(List.range (us.length+2*R+1)).map (A0 us.length R i (er us o) (cH us o))
def xO(us:aj)(o:bV):Prop:=(∃X,rq (cB us o) X)/\∀c∈cB us o,bs c<=3000
theorem UZ{U R i:Nat}{E:aH}{x:Int}(f:E.length=U)(g:i<R):((E++List.replicate (2*R) 0++[x]).set (U+2*i+0) 1).set (U+2*i+1) (-1)=(List.range (U+2*R+1)).map (A0 U R i E x):=by
 apply ext_getElem?;intro k;rw[List.getElem?_set,List.getElem?_set,length_set,getElem?_map,length_append,length_append,length_replicate,f];by_cases h:k<U+2*R+1
 .rw[getElem?_range h,map_some];unfold A0;by_cases d:k<U
  .rw[if_neg (by omega),if_neg (by omega),getElem?_append_left (by rw[length_append,length_replicate];omega),getElem?_append_left (by omega),if_pos d,getD_eq_getElem?_getD,getElem?_eq_getElem (by omega)];rfl
  .rw[if_neg d];by_cases e:k=U+2*i
   .rw[if_neg (by omega),if_pos (by omega),if_pos (by simp;omega),if_pos e]
   .rw[if_neg e];by_cases a:k=U+2*i+1
    .rw[if_pos a.symm,if_pos (by simp;omega),if_pos a]
    .rw[if_neg (by omega),if_neg (by omega),if_neg a];by_cases b:k=U+2*R
     .rw[if_pos b,getElem?_append_right (by rw[length_append,length_replicate];omega),length_append,length_replicate,b,show U+2*R - (E.length+2*R)=0 by omega];rfl
     .rw[if_neg b,getElem?_append_left (by rw[length_append,length_replicate];omega),getElem?_append_right (by omega),List.getElem?_replicate,if_pos (by omega)]
 .rw[getElem?_eq_none (show (List.range (U+2*R+1)).length<=k by rw[length_range];omega),if_neg (by omega),if_neg (by omega),getElem?_eq_none (by rw[length_append,length_append,length_replicate,f];simp;omega)];rfl
def R3(T:Tx w K mg):bO:=λa Q=>a.length=3/\∃(rs:ax)(us:aj)(sc:aH)(i:Nat)(o:bV),a=[gI T .o rs us sc,.int i,ae.t o]/\xO us o/\rs.length<=16/\us.length<=10/\sc.length<=100/\i<rs.length/\∀j:ah,j[0]?=some (gI T .o rs us (sc++[bz us o]))->Q (.ag .o ((jK us rs.length i o).map ae.t)) j
theorem VQ(T:Tx w K mg){z:Bool}:aK P w K mg base bJ 3 T.sC.a T.sC.d ["self","number","one"] (bP K z 3 3 (R3 T)):=by
 refine cj T.sC.F Ti rfl (by decide) λa7 A outer s H E D I B=>?_
 refine⟨_,(aP (bF 3 (eN (iq ["unknown","one"] [none,some 2] (fu (cA K (qv 0))) (eP 0) (λ_ _ _ _ _=>(uU (aW (qv 1) az) (qv 0) (iM [0,1] T.i8 T.i4)))) (eC (aq (aW (qv 2) az) aF))))
  (aP (bF 4 (qc T.pZ (Gm T) (aq (qv 3) aF)))
  (aP (bF 5 (qc T.pI (C1 T) (aq (qv 3) (aq (qv 4) aF))))
  (aP (gJ 6 (eN (eN (qx (qv 5) sE (oG (iG az))) (wI (eC (aq az aF)) (cw az (fC hV hX T.g8 (aq (cA K (qv 0)) aF))))) (qx (qv 5) (oG (iG az)) sE)))
  (aP (oE (cV 6) (eh (eS T T.mB (sI T)) (qv 0) (aq (qv 1) aF)) az)
  (aP (oE (cV 6) (eh (eS T T.mI (sS T)) (qv 0) (aq (qv 1) aF)) (iG az))
  (aP (jW (og (cV 0)) (qv 4))
  (a8 (kE (kT 6)))))))))),?_⟩
 rintro L y _ ⟨_,rs,us,sc,i,o,rfl,r,e,g,G,p,q⟩;walk_at"";simp only[zX,xR,dE,d8,wY];refine UQ T ?_;walk_at"";refine bg.map us _ (λu=>(b9 o.1 u).getD 0) (by omega) (λx J R m=>?_) ?_
 .walk_at"";exact m
 obtain⟨⟨X,b⟩,n⟩:=r;have C:(cB us o).length=us.length+1:=by unfold cB iP;rw[length_append,length_map];rfl
 walk_at"";refine⟨by omega,rfl,.f,cB us o,X,inferInstance,rfl,b,λ_=>?_⟩;walk_at"";refine⟨rfl,.f,cB us o,X,inferInstance,rfl,b,by omega,n,λ_=>?_⟩;rw[show (cB us o).map (e7 (ck (cB us o)))=er us o++[cH us o] by unfold cB er cH bz;rw[map_append];rfl];walk_at"";rw[KS,Wr];refine G1 T ?_;walk_at"";have j:(er us o).length=us.length:=by unfold er iP;rw[length_map,length_map]
 have h:List.map ae.t (er us o)++List.replicate (2*(rs.length:Int)).toNat (Tr.int 0)++[Tr.int (cH us o)]=(er us o++List.replicate (2*rs.length) 0++[cH us o]).map ae.t:=by
  rw[map_append,map_append,List.map_replicate,show (2*(rs.length:Int)).toNat=2*rs.length by omega];rfl
 rw[h];refine⟨qI (by decide) (by omega),rfl,by omega,by omega,by rw[length_replicate];omega,by rw[length_append,length_map,length_replicate];omega,f6 _,pW T ⟨rfl,.l false,_,rs,us,i,inferInstance,rfl,ui _ _ _ _,by omega,λ_=>mn (by simp;omega) ?_⟩⟩;refine pW T ⟨rfl,.l false,_,rs,us,i,inferInstance,rfl,ui _ _ _ _,by omega,λ_=>mn (by simp;omega) ?_⟩;rw[show Tr.int 1=ae.t (1:Int) from rfl,show Tr.int (-1)=ae.t (-1:Int) from rfl,<- map_set,<- map_set,UZ j p];refine uh rfl ⟨T.fm,T.vq⟩ (b4 (b4 ft)) ?_;walk_at"";rw[K0];exact⟨by omega,q _ rfl⟩
theorem yA{D:af->Nat->Prop}{m:Str}{i:Nat}{hs:bG}{aZ:Nat->bO}{b:b8}{j:ah}{Q:Tr->aX}{t:Tr}(h:j[i]?=some t)(d:t≠.aA)(q:hW D m t λc=>b j λf=>aZ c (cp (t::f)) (λx a=>pV a[0]? λu=>cE u=true/\jx hs 1 a (j.set i u) λe=>Q x e)):qQ K D m i [] hs aZ b j Q:=by
 unfold qQ;rw[h];cases t with
 |aA=>exact absurd rfl d
 |_=>exact⟨trivial,q⟩
theorem qb{rs:List j}{i:Nat}{p:j×Nat}(h:rs.zipIdx[i]?=some p):rs[i]?=some p.1/\p.2=i:=by
 rw[List.getElem?_zipIdx] at h;cases e:rs[i]? with
 |none=>rw[e] at h;cases h
 |some o=>rw[e] at h;cases h;exact⟨rfl,by simp⟩
def qO(us:aj)(R i:Nat)(o:bV):aH:=if 0<=cH us o then jK us R i o else (jK us R i o).map λx=>-x
def kY(U i:Nat)(x:Int):Nat:=if 0<=x then U+2*i else U+2*i+1
def kU(us:aj)(R:Nat)(a:List (bV×Nat)):List (aH):=a.map λp=>qO us R p.2 p.1
def lj(us:aj)(a:List (bV×Nat)):aH:=a.map λp=>((kY us.length p.2 (cH us p.1):Nat):Int)
def EN(rs:ax)(us:aj):gp:=⟨kU us rs.length rs.zipIdx,lj us rs.zipIdx,1,[]⟩
def uw(rs:ax)(us:aj):gC:=⟨rs,us,rs.map (bz us),[],EN rs us⟩
structure oM(rs:ax)(us:aj):Prop where
 r:rs.length<=16
 u:us.length<=10
 o:∀o∈rs,xO us o
theorem J8(us:aj)(R i:Nat)(o:bV)(a:i<R):cQ (jK us R i o) (-1)=some (cH us o):=by
 unfold jK;rw[wK];unfold A0;rw[if_neg (by omega),if_neg (by omega),if_neg (by omega),if_pos rfl]
def EI(T:Tx w K mg):bO:=λa Q=>a.length=3/\∃(f g:Fl)(rs:ax)(us:aj)(_:Fp f)(_:Fp g),a=[.ins .o T.aah [],.ag f (rs.map ae.t),.ag g (us.map ae.t)]/\oM rs us/\∀j:ah,j[0]?=some (b7 T .o (uw rs us))->Q .aL j
theorem Vu(T:Tx w K mg){z:Bool}:aK P w K mg base bJ 4 T.tK.a T.tK.d ["self","rows","unknowns"] (bP K z 1 3 (EI T)):=by
 refine cj T.tK.F I0 rfl (by decide) λa7 A outer s H E N O M=>?_
 refine⟨_,(aP (sx (cV 0) (kx (kq rfl) kM T.ia (aq (qv 1) aF)))
  (aP (sx (cV 0) (kx (kq rfl) kM T.ia (aq (qv 2) aF)))
  (aP (m7 (cV 0) (eC aF))
  (aP (m7 (cV 0) (eC aF))
  (aP (gJ 3 (eC aF))
  (aP (gJ 4 (eC aF))
  (aP (gb (sj T.pK (aq (cA K (qv 0)) aF)) (jZ (n:=2) rfl (fL (dI 5) (fL (dI 6) jS))) (aP (yj 7 (nG (cV 0) (eS T T.sC (VQ T)) (kQ (qv 5) (kQ (qv 6) oN))))
  (aP (bF 8 (kL N0 Pf (aW (qv 7) (iG az)) az))
  (aP (jW (cV 3) (sA (lF (qv 8)) (qv 7) (iq ["entry"] [none] (fu (qv 7)) (eP 0) (λ_ _ _ _ _=>(iG (qv 0))))))
  (a8 (jW (cV 4) (sA (lF (qv 8)) (eh (eS T T.mB (sI T)) (qv 0) (aq (qv 5) aF)) (eh (eS T T.mI (sS T)) (qv 0) (aq (qv 5) aF)))))))))
  (a8 (m7 (cV 0) (Br T.rX (Ma T) T.Of (QA.ay (aq (qv 3) (aq (qv 4) aF))))))))))))),?_⟩
 rintro Y L _ ⟨_,f,g,rs,us,_,_,rfl,p,q⟩;walk_at"";refine⟨⟨T.fm,T.qT⟩,by decide,⟨T.fm,T.oy⟩,by decide,⟨T.fm,T.vq⟩,?_⟩
 (repeat first |rw[mF] |rw[lN])
 refine⟨(show 2<900 by decide),⟨T.fm,T.v8⟩,?_⟩
 (repeat first |rw[mF] |rw[lN])
 refine⟨(show 3<900 by decide),gP ⟨T.fm,T.qT⟩ ft ?_⟩;walk_at"";refine Loop.map rs.zipIdx _ (λi j=>∃a b c d,j=[gI T .o rs us ((rs.take i).map (bz us)),.ag f (rs.map ae.t),.ag g (us.map ae.t),.ag .o ((kU us rs.length (rs.zipIdx.take i)).map ae.t),.ag .o ((lj us (rs.zipIdx.take i)).map ae.t),a,b,c,d]) ⟨_,_,_,_,rfl⟩ ?_ ?_
 .rintro i ⟨o,i'⟩ j hi ⟨a,b,c,d,rfl⟩;obtain⟨C,D⟩:=qb hi;dsimp only at C D;subst D;have B:i'<rs.length:=(List.getElem?_eq_some_iff.mp C).1;have y:=p.r;have aN:=p.o o (mem_of_getElem? C);have J:rs.zipIdx.take (i'+1)=rs.zipIdx.take i'++[(o,i')]:=by rw[take_add_one,hi];rfl
  walk_at"";refine yA rfl (by intro z;cases z) (pW T ?_);walk_at"";simp only[xR,d8];refine⟨rfl,rs,us,_,i',o,rfl,aN,y,p.u,by rw[length_map,length_take];omega,B,λj e=>?_⟩;dsimp only;rw[e,wY];refine⟨Vq _ _ _ _,?_⟩;have rep:(rs.take (i'+1)).map (bz us)=(rs.take i').map (bz us)++[bz us o]:=by rw[take_add_one,C,map_append];rfl
  have G:kU us rs.length (rs.zipIdx.take i'++[(o,i')])=kU us rs.length (rs.zipIdx.take i')++[qO us rs.length i' o]:=by unfold kU;rw[map_append];rfl
  have I:lj us (rs.zipIdx.take i'++[(o,i')])=lj us (rs.zipIdx.take i')++[((kY us.length i' (cH us o):Nat):Int)]:=by unfold lj;rw[map_append];rfl
  have Q:(kU us rs.length (rs.zipIdx.take i')).length<=16:=by unfold kU;rw[length_map,length_take];omega
  have U:(lj us (rs.zipIdx.take i')).length<=16:=by unfold lj;rw[length_map,length_take];omega
  walk_at"";refine dQ _ _ (cH us o) (J8 _ _ _ _ B) ?_;rw[rep,J,G,I];walk_at"";simp only[zX,dE,wY,xR,d8];by_cases h:0<=cH us o
  .rw[if_pos (decide_eq_true h),if_pos (decide_eq_true h),show qO us rs.length i' o=jK us rs.length i' o from if_pos h,show kY us.length i' (cH us o)=us.length+2*i'+0 from if_pos h,map_append,map_append];exact⟨by omega,pW T ⟨rfl,.l false,_,rs,us,i',inferInstance,rfl,ui _ _ _ _,by omega,λ_=>⟨rfl,by omega,_,_,_,_,rfl⟩⟩⟩
  .rw[if_neg (by simpa using h)];refine bg.map (jK us rs.length i' o) _ (λx=>-x) (by unfold jK;simp;have:=p.u;omega) (λc m R p=>?_) ⟨lx _,by omega,?_⟩
   .walk_at"";exact p
   .rw[fH,if_neg (by simpa using h),show qO us rs.length i' o=(jK us rs.length i' o).map (λx=>-x) from if_neg h,show kY us.length i' (cH us o)=us.length+2*i'+1 from if_neg h,map_append,map_append];exact pW T ⟨rfl,.l false,_,rs,us,i',inferInstance,rfl,ui _ _ _ _,by omega,λ_=>⟨rfl,by omega,_,_,_,_,rfl⟩⟩
 .rintro j ⟨a,b,c,d,rfl⟩;rw[length_zipIdx,show rs.zipIdx.take rs.length=rs.zipIdx from by rw[<- length_zipIdx (l:=rs),take_length],take_length];walk_at"";refine⟨rfl,.l false,.l false,_,_,inferInstance,inferInstance,rfl,by unfold kU;rw[length_map,length_zipIdx];have:=p.r;omega,λj e=>⟨rfl,?_⟩⟩;rw[e];refine⟨pP T _,zo T _,?_⟩;refine⟨⟨T.fm,T.rJ⟩,show 4<900 by decide,q _ ?_⟩;unfold jH
  (repeat first |rw[mF] |rw[lN])
  rfl
def sgn(x:Int):Int:=if 0<=x then 1 else -1
def Mx(rs:ax)(us:aj)(i k:Nat):Int:=match rs[i]? with
 |some o=>sgn (cH us o) * A0 us.length rs.length i (er us o) (cH us o) k
 |none=>0
def S0(rs:ax)(us:aj)(i:Nat):Nat:=match rs[i]? with
 |some o=>kY us.length i (cH us o)
 |none=>0
def bj(rs:ax)(us:aj):Nat:=us.length+2*rs.length
def ef(rs:ax)(us:aj)(ss:br)(S:Nat->Nat)(mk:aR):gC:=⟨rs,us,rs.map (bz us),ss,cm rs.length (bj rs us) (Mx rs us) S mk⟩
section
variable{rs:ax}{us:aj}
theorem mi{i:Nat}{o:bV}(h:rs[i]?=some o)(k:Nat):Mx rs us i k=sgn (cH us o)*A0 us.length rs.length i (er us o) (cH us o) k:=by unfold Mx;rw[h]
theorem vd{i:Nat}{o:bV}(h:rs[i]?=some o):S0 rs us i=kY us.length i (cH us o):=by unfold S0;rw[h]
theorem lK{i:Nat}(h:i<rs.length):∃o,rs[i]?=some o:=⟨_,getElem?_eq_getElem h⟩
theorem P5{i:Nat}(h:i<rs.length):S0 rs us i<bj rs us:=by
 obtain⟨o,a⟩:=lK h;rw[vd a];unfold kY bj;split<;>omega
theorem yt:Lp.Un rs.length (Mx rs us) (S0 rs us):=by
 intro i j d f;obtain⟨o,b⟩:=lK d;obtain⟨p,a⟩:=lK f;rw[mi b,vd a];unfold kY A0;by_cases e:i=j
 .subst e;rw[b] at a;cases a;rw[if_pos rfl];unfold sgn;split
  .rw[if_neg (by omega),if_pos rfl];rfl
  .rw[if_neg (by omega),if_neg (by omega),if_pos rfl];rfl
 .rw[if_neg e];split
  .rw[if_neg (by omega),if_neg (by omega),if_neg (by omega),if_neg (by omega),mul_zero]
  .rw[if_neg (by omega),if_neg (by omega),if_neg (by omega),if_neg (by omega),mul_zero]
theorem R5{i:Nat}(h:i<rs.length):0<=Mx rs us i (bj rs us):=by
 obtain⟨o,a⟩:=lK h;rw[mi a];unfold A0 bj;rw[if_neg (by omega),if_neg (by omega),if_neg (by omega),if_pos rfl];unfold sgn;split<;>omega
theorem Bf:Lp.Gd rs.length (bj rs us) (Mx rs us) (S0 rs us):=yt.gd (λ_ h=>P5 h) λ_ h=>R5 h
theorem JW:uw rs us=ef rs us [] (S0 rs us) []:=by
 unfold uw ef EN cm;rw[yt.dd];congr 2
 .unfold kU rj;apply ext_getElem?;intro i;rw[getElem?_map,getElem?_map,List.getElem?_zipIdx];by_cases h:i<rs.length
  .obtain⟨o,ho⟩:=lK h;rw[ho,getElem?_range h];simp only[map_some,Nat.zero_add];congr 1;have e:(List.range (bj rs us+1)).map (Lp.tt rs.length (Mx rs us) (S0 rs us) i)=(List.range (bj rs us+1)).map (Mx rs us i):=map_congr_left λk _=>yt.tt k h
   rw[e];unfold qO jK;split
   .rename_i hx;refine map_congr_left λk _=>?_
    rw[mi ho,show sgn (cH us o)=1 from if_pos hx,one_mul]
   .rename_i hx;rw[map_map];refine map_congr_left λk _=>?_
    rw[mi ho,show sgn (cH us o)=-1 from if_neg hx];show - _=_;omega
  .rw[getElem?_eq_none (show rs.length<=i by omega),getElem?_eq_none (by rw[length_range];omega)];rfl
 .unfold lj mf;apply ext_getElem?;intro i;rw[getElem?_map,getElem?_map,List.getElem?_zipIdx];by_cases h:i<rs.length
  .obtain⟨o,ho⟩:=lK h;rw[ho,getElem?_range h];simp only[map_some,Nat.zero_add];rw[vd ho]
  .rw[getElem?_eq_none (show rs.length<=i by omega),getElem?_eq_none (by rw[length_range];omega)];rfl
end
theorem NT{j:Type}(A:List j)(x y:j)(B:List j)(k:Nat)(h:A.length=k):(A++x::B).set k y=A++y::B:=by
 subst h;rw[List.set_append_right _ _ (le_refl _),Nat.sub_self];rfl
def cb(us:aj)(k:Int)(o:bV):Rat:=if o.2.2.2.1=k then (if o.2.1="most" then 0 else Rat.divInt o.2.2.2.2 (bz us o)) else 0
def ca(us:aj)(k:Int)(o:bV):Rat:=if o.2.2.2.1=k then (if o.2.1="least" then 0 else Rat.divInt o.2.2.2.2 (bz us o)) else 0
def cT(us:aj)(rs:ax)(k:Int):aB:=List.replicate us.length 0++rs.flatMap λo=>[cb us k o,ca us k o]
theorem ye{j:Type}(f g:j->Rat)(xs:List j):(xs.flatMap λo=>[f o,g o]).length=2*xs.length:=by
 induction xs with
 |nil=>rfl
 |cons x xs a=>rw[flatMap_cons,length_append,a];simp;omega
theorem CT[ae j](A:List j)(x y:j)(B:List j)(k:Nat)(h:A.length=k):((A++x::B).map ae.t).set k (ae.t y)=(A++y::B).map ae.t:=by rw[<- map_set,NT _ _ _ _ _ h]
theorem EZ[ae j](A:List j)(x a y:j)(B:List j)(k:Nat)(h:A.length=k):((A++a::x::B).map ae.t).set (k+1) (ae.t y)=(A++a::y::B).map ae.t:=by
 have e:∀z:j,A++a::z::B=(A++[a])++z::B:=λz=>by rw[append_assoc];rfl
 rw[e,e,CT _ _ _ _ _ (by rw[length_append,h];rfl)]
def G7(T:Tx w K mg):bO:=cW 2 λa Q=>∃(f:Fl)(rs:ax)(us:aj)(ss:br)(S:Nat->Nat)(mk:aR)(k:Int)(_:Fp f),a=[b7 T f (ef rs us ss S mk),.int k]/\oM rs us/\(∀o∈rs,0<bz us o/\bi (bz us o)<=3000)/\Q (.ag .o ((cT us rs k).map ae.t))
theorem DU(T:Tx w K mg){z:Bool}:aK P w K mg base bJ 3 T.qN.a T.qN.d ["self","rank"] (bP K z 0 2 (G7 T)):=by
 refine cj T.qN.F Jj rfl (by decide) λa7 A outer s H E hr hu Y=>?_
 refine⟨_,(aP (gJ 2 (wI (eC (aq (iM [0,1] T.i8 T.i4) aF)) (CF (eS T T.ua (Ol T)) (qv 0))))
  (aP (gb (sj T.pK (aq (cA K (qv 0)) aF)) (jZ (n:=2) rfl (fL (dI 3) (fL (dI 4) jS))) (a8 (da (cc fZ fW (aW (qv 4) az) (qv 1)) (aP (bF 5 (qc T.jw (lg T) (aq (aW (qv 4) az) (aq (aW (cA K (qv 0)) (qv 3)) aF))))
  (aP (da (cc i6 i5 (aW (qv 4) az) iT) (a8 (oE (cV 2) (eh (eS T T.mB (sI T)) (qv 0) (aq (qv 3) aF)) (qv 5))) c9)
  (a8 (da (cc i6 i5 (aW (qv 4) az) iT) (a8 (oE (cV 2) (eh (eS T T.mI (sS T)) (qv 0) (aq (qv 3) aF)) (qv 5))) c9)))) c9)))
  (a8 (kE (kT 2))))),?_⟩
 rintro xs U _ ⟨_,f,rs,us,ss,S,mk,k,_,rfl,C,p,q⟩;have M:=C.r;have J:=C.u;walk_at"";simp only[eQ,fE,f9,ik,dW];refine fG T ⟨rfl,f,_,rs,us,‹_›,rfl,ic T f _,by omega,λ_=>?_⟩;walk_at"";have I:List.replicate ((us.length+2*rs.length:Nat):Int).toNat (ae.t (0:Rat))=(List.replicate us.length (0:Rat)++((rs.take 0).flatMap λo=>[cb us k o,ca us k o])++List.replicate (2*(rs.length - 0)) 0).map ae.t:=by
  rw[List.take_zero,List.flatMap_nil,append_nil,List.replicate_append_replicate,List.map_replicate,Int.toNat_natCast];rfl
 rw[I];refine⟨rfl,by omega,by omega,f6 _,rK T ?_⟩;show gL (Pu.ay (Tr.ag .f (rs.map ae.t))) _;walk_at"";refine Loop.map rs.zipIdx _ (λi j=>∃a b c,j=[b7 T f (ef rs us ss S mk),.int k,.ag .o ((List.replicate us.length (0:Rat)++((rs.take i).flatMap λo=>[cb us k o,ca us k o])++List.replicate (2*(rs.length - i)) 0).map ae.t),a,b,c]) ⟨_,_,_,rfl⟩ ?_ ?_
 .rintro i ⟨o,i'⟩ j hi ⟨a,b,c,rfl⟩;obtain⟨l,B⟩:=qb hi;dsimp only at l B;subst B;have N:i'<rs.length:=(List.getElem?_eq_some_iff.mp l).1;have Q:rs.take (i'+1)=rs.take i'++[o]:=by rw[take_add_one,l];rfl
  have g:(List.replicate us.length (0:Rat)++((rs.take i').flatMap λo=>[cb us k o,ca us k o])).length=us.length+2*i':=by rw[length_append,length_replicate,ye,length_take];omega
  have D:List.replicate (2*(rs.length - i')) (0:Rat)=0::0::List.replicate (2*(rs.length - (i'+1))) 0:=by
   rw[show 2*(rs.length - i')=2*(rs.length - (i'+1))+1+1 by omega];rfl
  have G:List.replicate us.length (0:Rat)++((rs.take (i'+1)).flatMap λo=>[cb us k o,ca us k o])++List.replicate (2*(rs.length - (i'+1))) 0=(List.replicate us.length (0:Rat)++((rs.take i').flatMap λo=>[cb us k o,ca us k o]))++cb us k o::ca us k o::List.replicate (2*(rs.length - (i'+1))) 0:=by
   rw[Q,List.flatMap_append,List.flatMap_singleton,<- append_assoc,append_assoc];rfl
  rw[D,G];generalize List.replicate us.length (0:Rat)++((rs.take i').flatMap λo=>[cb us k o,ca us k o])=L at g ⊢;generalize List.replicate (2*(rs.length - (i'+1))) (0:Rat)=Z;walk_at"";by_cases h:o.2.2.2.1=k
  .rw[if_pos (decide_eq_true h)];simp only[eQ,fE,f9,ik,dW];refine CJ T ?_;show dw (.ag f ((rs.map (bz us)).map ae.t)) (.int i') _;rw[gG,gB];refine dQ _ _ (bz us o) (eF (by rw[getElem?_map,l];rfl)) ?_;walk_at"";refine⟨rfl,o.2.2.2.2,bz us o,rfl,ne_of_gt (p o (mem_of_getElem? l)).1,by have:=(p o (mem_of_getElem? l)).2;omega,λ_=>?_⟩;walk_at"";unfold cb ca;rw[if_pos h,if_pos h];have O:(us.length+2*i'+0:Nat)<((L++(0:Rat)::0::Z).map ae.t).length:=by rw[length_map,length_append,g];simp
   have y:∀x:Rat,(us.length+2*i'+1:Nat)<((L++x::(0:Rat)::Z).map ae.t).length:=λx=>by rw[length_map,length_append,g];simp
   by_cases m:o.2.1="most"
   .have e:¬ o.2.1="least":=by rw[m];decide +kernel
    rw[if_pos m,if_neg e,if_neg (by simp[m]),if_pos (by simp[e])];refine fG T ⟨rfl,f,_,rs,us,i',‹_›,rfl,ic T f _,by omega,λ_=>mn (y 0) ?_⟩;rw[EZ _ _ _ _ _ _ g];exact⟨_,_,_,rfl⟩
   .rw[if_neg m,if_pos (by simp[m])];refine fG T ⟨rfl,f,_,rs,us,i',‹_›,rfl,ic T f _,by omega,λ_=>mn O ?_⟩;rw[CT _ _ _ _ _ (show L.length=us.length+2*i'+0 from g)];by_cases e:o.2.1="least"
    .rw[if_pos e,if_neg (by simp[e])];exact⟨_,_,_,rfl⟩
    .rw[if_neg e,if_pos (by simp[e])];refine fG T ⟨rfl,f,_,rs,us,i',‹_›,rfl,ic T f _,by omega,λ_=>mn (y _) ?_⟩;rw[EZ _ _ _ _ _ _ g];exact⟨_,_,_,rfl⟩
  .rw[if_neg (by simpa using h)];unfold cb ca;rw[if_neg h,if_neg h];exact⟨_,_,_,rfl⟩
 .rintro j ⟨a,b,c,rfl⟩;rw[length_zipIdx,take_length,Nat.sub_self,Nat.mul_zero,List.replicate_zero,append_nil];walk_at"";exact q _
def dF(us:aj)(R:Nat)(a:List (Str×Rat)):aB:=(us.map λx=>(b9 a x).getD 0)++List.replicate (2*R) 0
def Df(T:Tx w K mg):bO:=cW 2 λb Q=>∃(f g:Fl)(rs:ax)(us:aj)(ss:br)(S:Nat->Nat)(mk:aR)(a:List (Str×Rat))(_:Fp f)(_:Fp g),b=[b7 T f (ef rs us ss S mk),fo g a]/\oM rs us/\Q (.ag .o ((dF us rs.length a).map ae.t))
theorem GB(T:Tx w K mg){z:Bool}:aK P w K mg base bJ 2 T.tm.a T.tm.d ["self","parts"] (bP K z 0 2 (Df T)):=by
 refine cj T.tm.F Qk rfl (by decide) λa7 A outer s H E n o m=>?_
 refine⟨_,(aP (ma 2 ["unknown","parts"] [none,some 1] (fu (cA K (qv 0))) (eP 0) (λ_ _ _ _ _=>(uU (qv 1) (qv 0) (iM [0,1] T.i8 T.i4))))
  (a8 (b5 (eN (qv 2) (wI (eC (aq (iM [0,1] T.i8 T.i4) aF)) (cw az (fC hV hX T.g8 (aq (cA K (qv 0)) aF)))))))),?_⟩
 rintro y l _ ⟨_,f,g,rs,us,ss,S,mk,e,_,_,rfl,b,q⟩;have j:=b.r;have i:=b.u;walk_at"";simp only[eQ,fE,f9,ik,dW];refine ze T ?_;show gL (Tr.ag .f (us.map ae.t)) _;walk_at"";refine bg.map us _ (λx=>(b9 e x).getD 0) (by omega) (λx p R b=>?_) ?_
 .walk_at"";exact b
 .walk_at"";refine rK T ?_;show ou _ [Tr.ag .f (rs.map ae.t)] _;walk_at"";have h:List.map ae.t (us.map λx=>(b9 e x).getD 0)++List.replicate (2*(rs.length:Int)).toNat (ae.t (0:Rat))=(dF us rs.length e).map ae.t:=by
   unfold dF;rw[map_append,List.map_replicate,show (2*(rs.length:Int)).toNat=2*rs.length by omega]
  rw[h];exact⟨qI (by decide) (by omega),rfl,by omega,by omega,by rw[length_replicate];omega,nj _,q _⟩
def dA(cs:aB):aH:=cs.map (e7 (ck cs))
structure dP(rs:ax)(us:aj)(cs:aB):Prop where
 l:cs.length=bj rs us
 x:∃X,rq cs X
 b:∀c∈cs,bs c<=3000
 n:∀c∈dA cs,bi c<=3000
 p:∀c∈cs,0<=c
theorem dP.c{rs:ax}{us:aj}{cs:aB}(h:dP rs us cs):mr (dA cs) (bj rs us):=⟨by unfold dA;rw[length_map];exact h.l,h.n⟩
theorem dP.nn{rs:ax}{us:aj}{cs:aB}(h:dP rs us cs)(k:Nat):0<=cf (dA cs) k:=by
 unfold cf dA;rw[getD_eq_getElem?_getD,getElem?_map];cases e:cs[k]? with
 |none=>exact Int.le_refl _
 |some c=>
  have p:=h.p c (mem_of_getElem? e);have a:=(gR cs 1 (by decide)).1;show 0<=e7 (ck cs) c;unfold e7;exact mul_nonneg (Rat.num_nonneg.mpr p) (Int.fdiv_nonneg (le_of_lt a) (Int.natCast_nonneg _))
theorem UT{m n:Nat}{M:aJ}{S:Nat->Nat}{c:Nat->Int}{sh:Nat->Prop}{e:Nat}(G:Lp.Gd m n M S)(b:∀k,0<=c k)(a:c n=0)(E:Lp.Ent m n M c sh S e)(h:∀i,i<m->Lp.tt m M S i e<=0):False:=by
 have ne:∀i,i<m->S i≠e:=λi d q=>by have:=E.2.1;rw[<- q,Lp.ea d] at this;omega
 obtain⟨r1,_,_,r4⟩:=Lp.VE G E.1 ne h a;have:0<=Lp.sm n λk=>c k*Lp.dr m M S e k:=Lp.cF λk f=>mul_nonneg (b k) (r1 k f)
 have:=E.2.1;omega
theorem xo{ns:aH}{n:Nat}(h:ns.length=n):cf ns n=0:=by unfold cf;rw[getD_eq_getElem?_getD,getElem?_eq_none (by omega)];rfl
def ie(rs:ax)(us:aj)(cs:aB)(S:Nat->Nat):aB:=(List.range (bj rs us+1)).map λk=>Rat.divInt (Lp.zz rs.length (Mx rs us) (cf (dA cs)) S k) (ck cs*Lp.dd rs.length (Mx rs us) S)
theorem Vm[ae j](xs:List j)(x:j):xs.map ae.t++[ae.t x]=(xs++[x]).map ae.t:=by rw[map_append];rfl
def UO(T:Tx w K mg):bO:=λd Q=>d.length=2/\∃(g:Fl)(rs:ax)(us:aj)(ss:br)(S:Nat->Nat)(mk:aR)(b:aB)(_:Fp g),d=[b7 T .o (ef rs us ss S mk),.ag g (b.map ae.t)]/\Sz rs.length (bj rs us) (Mx rs us)/\Lp.Gd rs.length (bj rs us) (Mx rs us) S/\jt rs.length mk S/\dP rs us b/\mk.length<=10000/\ss.length<=1000/\∀a,Lp.Gd rs.length (bj rs us) (Mx rs us) a->jt rs.length mk a->uc rs.length (bj rs us) (Mx rs us) mk (cf (dA b)) a->∀j:ah,j[0]?=some (b7 T .o (ef rs us (ss++[ie rs us b a]) a (fh rs.length (bj rs us) (Mx rs us) mk (cf (dA b)) a ss.length (bj rs us))))->Q .aL j
theorem Bp(T:Tx w K mg){z:Bool}:aK P w K mg base bJ 4 T.qC.a T.qC.d ["self","costs"] (bP K z 2 2 (UO T)):=by
 refine cj T.qC.F LJ rfl (by decide) λa7 A outer s H E Y hu B=>?_
 refine⟨_,(aP (bF 2 (qc T.pZ (Gm T) (aq (qv 1) aF)))
  (aP (bF 3 (qc T.pI (C1 T) (aq (qv 1) (aq (qv 2) aF))))
  (aP (yj 4 (nG (og (cV 0)) (jL T T.sL (S8 T)) (kQ (qv 3) oN)))
  (aP (da (cc DF Cv (qv 4) kH) (aP sQ
  (a8 sQ)) c9)
  (aP (yj 6 (nG (og (cV 0)) (jL T T.uf (OJ T)) (kQ (qv 3) (kQ (fC hV hX T.g8 (aq (cA K (qv 0)) aF)) oN))))
  (aP (jW (og (cV 0)) (iq ["entry","scale","self"] [none,some 2,some 0] (fu (qv 6)) (eP 0) (λ_ _ _ _ _=>(qc T.jw (lg T) (aq (qv 0) (aq (cw (qv 1) (cA K (cA K (qv 2)))) aF))))))
  (a8 (b5 kH)))))))),?_⟩
 rintro xs C _ ⟨_,g,rs,us,ss,S,mk,h,_,rfl,y,G,B,j,hm,hs,q⟩;obtain⟨X,u⟩:=j.x;have hn:=y.hn;have U:=j.l;walk_at"";refine⟨rfl,g,h,X,‹_›,rfl,u,λ_=>?_⟩;walk_at"";refine⟨rfl,g,h,X,‹_›,rfl,u,by omega,j.b,λ_=>?_⟩;walk_at"";refine BK rfl ⟨T.fm,T.rJ⟩ (b4 (b4 (b4 (b4 ft)))) (lI T ?_);walk_at"";simp only[iC,d8];refine⟨rfl,.f,rs.length,bj rs us,Mx rs us,S,mk,dA h,inferInstance,rfl,y,G,B,j.c,λi p r I Q e=>?_,λi e p r D O=>(UT p j.nn (xo j.c.1) D O).elim⟩;dsimp only;rw[e,gh];refine⟨pP T _,?_⟩;rw[FC];walk_at"";rw[C5];walk_at"";refine BK rfl ⟨T.fm,T.rJ⟩ (b4 (b4 (b4 (b4 ft)))) (lI T ?_);walk_at"";rw[zH];refine n9 T ?_;show ou _ [Tr.ag _ (ss.map ae.t)] _;walk_at"";simp only[iC,d8];refine⟨rfl,.f,rs.length,bj rs us,Mx rs us,i,mk,dA h,_,inferInstance,rfl,y,p.lt,j.c,hm,λQ e=>?_⟩;dsimp only;rw[e,gh];refine⟨pP T _,?_⟩;rw[FC];refine uh rfl ⟨T.fm,T.v8⟩ (b4 (b4 (b4 ft))) ?_;walk_at"";rw[zH,fO,jn];have M:=(gR h 1 (by decide)).1;have N:=kG ((gR h 1 (by decide)).2.2.2 X (one_dvd _) u.2.1) u.1;have L:=u.2.2;have hd:=y.d i p.lt;refine bg.map _ _ (λn=>Rat.divInt n (ck h*Lp.dd rs.length (Mx rs us) i)) (by rw[length_map,length_range];omega) (λn hn R J=>?_) ⟨lx _,show ss.length<1000000 by omega,?_⟩
 .walk_at"";simp only[dW];refine yU T (rm T ?_);walk_at"";exact⟨c8 (n:=3000) (m:=3000) (by unfold ck;omega) hd (by omega),rfl,n,_,rfl,ne_of_gt (mul_pos M p.pos),le_trans (de (ck h) (Lp.dd rs.length (Mx rs us) i)) (by unfold ck;omega),λ_=>J⟩
 .rw[fH,map_map]
  change C Tr.aL (Tr.ins .o T.aah (gf "settled" (.ag .o (ss.map ae.t++[ae.t (ie rs us h i)])) (gA T .o (ef rs us ss i (fh rs.length (bj rs us) (Mx rs us) mk (cf (dA h)) i ss.length (bj rs us)))))::_)
  rw[Vm,Po];exact q i p r I _ rfl
def Iq(T:Tx w K mg):bO:=cW 2 λa Q=>∃(f:Fl)(S:gC)(i:Nat)(r:aB)(x:Rat)(_:Fp f),a=[b7 T f S,.int i]/\S.ss[i]?=some (r++[x])/\bs x<=7000/\Q (ae.t (0 - x))
theorem yM(T:Tx w K mg){z:Bool}:aK P w K mg base bJ 4 T.oC.a T.oC.d ["self","place"] (bP K z 0 2 (Iq T)):=by
 refine cj T.oC.F Q0 rfl (by decide) λa7 A outer s H E j l g=>?_
 refine⟨_,(a8 (b5 (qc T.ny (v9 T) (aq (iM [0,1] T.i8 T.i4) (aq (aW (aW (cA K (qv 0)) (qv 1)) (iG az)) aF))))),?_⟩;rintro n e _ ⟨_,f,S,i,r,x,_,rfl,b,m,q⟩;walk_at"";simp only[eQ,f9,dW];refine n9 T ?_;walk_at"";refine dQ _ _ (r++[x]) (eF b) ?_;rw[fO,gG,gB,zy];refine dQ _ _ x rfl ?_;rw[gm,jm];have h:bs (0:Rat)<=10:=by walk_at "k"
 exact⟨rfl,0,x,rfl,by omega,λ_=>⟨iB _,q _⟩⟩
def sN(rs:ax)(us:aj)(S:Nat->Nat)(p:Str×Nat):Str×Rat:=(p.1,gD rs.length (bj rs us) (Mx rs us) S p.2)
def sG(rs:ax)(us:aj)(S:Nat->Nat):List (Str×Rat):=us.zipIdx.map (sN rs us S)
def Mm(T:Tx w K mg):bO:=cW 1 λa Q=>∃(f:Fl)(rs:ax)(us:aj)(ss:br)(S:Nat->Nat)(mk:aR)(_:Fp f),a=[b7 T f (ef rs us ss S mk)]/\Sz rs.length (bj rs us) (Mx rs us)/\Lp.Gd rs.length (bj rs us) (Mx rs us) S/\us.Nodup/\us.length<=50/\Q (.aS .o ((sG rs us S).map λp=>((Sum.inr p.1:aU),ae.t p.2)))
theorem K1{us:aj}(h:us.Nodup){i:Nat}{u:Str}(e:us[i]?=some u):¬ u∈us.take i:=λm=>by
 obtain⟨j,f,b⟩:=List.mem_take_iff_getElem.mp m;obtain⟨d,a⟩:=List.getElem?_eq_some_iff.mp e;exact (List.pairwise_iff_getElem.mp h) j i (by omega) d (by omega) (b.trans a.symm)
theorem Ap[ae j](m:List (Str×j)):kF (m.map λp=>((Sum.inr p.1:aU),ae.t p.2))=true:=by
 have:=j9 (m.map λp=>((Sum.inr p.1:aU),p.2));rw[map_map] at this;exact this
theorem Mh(T:Tx w K mg){z:Bool}:aK P w K mg base bJ 4 T.rf.a T.rf.d ["self"] (bP K z 0 1 (Mm T)):=by
 refine cj T.rf.F Lc rfl (by decide) λa7 A outer s H E M N I=>?_
 refine⟨_,(aP (gJ 1 rp)
  (aP (gb (sj T.pK (aq (cA K (qv 0)) aF)) (jZ (n:=2) rfl (fL (dI 2) (fL (dI 3) jS))) (a8 (tp (cV 1) (qv 3) (eh (jL T T.uL (QF T)) (cA K (qv 0)) (aq (qv 2) aF)))))
  (a8 (kE (kT 1))))),?_⟩
 rintro O D _ ⟨_,f,rs,us,ss,S,mk,_,rfl,g,G,hn,L,q⟩;walk_at"";simp only[eQ,dW];refine⟨rfl,ze T ?_⟩;show gL (Pu.ay (Tr.ag .f (us.map ae.t))) _;walk_at"";refine Loop.map us.zipIdx _ (λi J=>∃y z,J=[b7 T f (ef rs us ss S mk),.aS .o (((us.zipIdx.take i).map (sN rs us S)).map λp=>((Sum.inr p.1:aU),ae.t p.2)),y,z]) ⟨_,_,rfl⟩ ?_ ?_
 .rintro i ⟨u,j⟩ J hj ⟨y,z,rfl⟩;obtain⟨e,h⟩:=qb hj;dsimp only at e h;subst h;have r:=(List.getElem?_eq_some_iff.mp e).1;walk_at"";simp only[eQ,dW];refine yU T ?_;simp only[iC,f9,ik];refine lI T ⟨rfl,_,_,_,_,_,_,j,inferInstance,rfl,g,G,by unfold bj;omega,λ_=>?_⟩;walk_at"";have m:qL ((us.zipIdx.take j).map (sN rs us S)) u (gD rs.length (bj rs us) (Mx rs us) S j)=(us.zipIdx.take (j+1)).map (sN rs us S):=by
   rw[Mp,take_add_one,hj,Option.toList_some,map_append]
   .rfl
   .intro z g;obtain⟨⟨x,k⟩,B,rfl⟩:=mem_map.mp g;rintro rfl;refine K1 hn e ?_;obtain⟨C,b,l⟩:=List.mem_take_iff_getElem.mp B;have:=qb (List.getElem?_eq_some_iff.mpr ⟨by omega,l⟩);exact List.mem_take_iff_getElem.mpr ⟨C,by rw[length_zipIdx] at b;exact b,(List.getElem?_eq_some_iff.mp this.1).2⟩
  rw[m];exact⟨by rw[length_take];omega,_,_,rfl⟩
 .rintro J ⟨y,z,rfl⟩;rw[take_length];walk_at"";exact⟨(cU _ (Ap _)).o,q _⟩
theorem tN{x:Int}(h:bi x<=100):bs (x:Rat)<=100:=by
 unfold bs;show max (bl x.natAbs) (bl 1)<=100;have:bl 1<=1:=by walk_at "k"
 unfold bi at h;omega
def Bd(lr:aB):Prop:=∀x∈lr,bs x<=3900
def qE(kind:Str)(sc:Int)(b a:Rat):Rat:=if kind="least" then a*(sc:Rat) else if kind="most" then b*((-sc:Int):Rat) else (a - b)*Rat.divInt sc 2
def tH(rs:ax)(us:aj)(a:aB)(i:Nat):Rat:=match rs[i]? with
 |some o=>qE o.2.1 (bz us o) (a.getD (us.length + 2 * i) 0) (a.getD (us.length + 2 * i + 1) 0)
 |none=>0
def nM(rs:ax)(us:aj)(a:aB):aB:=(List.range rs.length).map (tH rs us a)
def OW(T:Tx w K mg):bO:=cW 3 λb Q=>∃(f g:Fl)(rs:ax)(us:aj)(ss:br)(S:Nat->Nat)(mk:aR)(i:Nat)(a:aB)(o:bV)(_:Fp f)(_:Fp g),b=[b7 T f (ef rs us ss S mk),.int i,.ag g (a.map ae.t)]/\i<=100/\rs[i]?=some o/\a.length=us.length+2*rs.length+1/\Bd a/\bi (bz us o)<=100/\Q (ae.t (qE o.2.1 (bz us o) (a.getD (us.length+2*i) 0) (a.getD (us.length+2*i+1) 0)))
theorem Mb(T:Tx w K mg){z:Bool}:aK P w K mg base bJ 4 T.rO.a T.rO.d ["self","number","left"] (bP K z 0 3 (OW T)):=by
 refine cj T.rO.F Ij rfl (by decide) λa7 A outer s H E N O I=>?_
 refine⟨_,(aP (bF 3 (aW (qv 2) (eh (eS T T.mB (sI T)) (qv 0) (aq (qv 1) aF))))
  (aP (bF 4 (aW (qv 2) (eh (eS T T.mI (sS T)) (qv 0) (aq (qv 1) aF))))
  (aP (bF 5 (aW (aW (cA K (qv 0)) (qv 1)) az))
  (aP (bF 6 (aW (cA K (qv 0)) (qv 1)))
  (aP (da (cc fZ fW (qv 5) iT) (a8 (b5 (qc T.mP (sR T) (aq (qv 4) (aq (fF (aq (qv 6) (aq az aF))) aF))))) c9)
  (aP (da (cc fZ fW (qv 5) iT) (a8 (b5 (qc T.mP (sR T) (aq (qv 3) (aq (fF (aq (iG (qv 6)) (aq az aF))) aF))))) c9)
  (a8 (b5 (qc T.mP (sR T) (aq (qc T.ny (v9 T) (aq (qv 4) (aq (qv 3) aF))) (aq (qc T.jw (lg T) (aq (qv 6) (aq az aF))) aF))))))))))),?_⟩
 rintro Q G _ ⟨_,f,g,rs,us,ss,S,mk,i,n,o,_,_,rfl,L,l,M,p,m,q⟩;have y:=(List.getElem?_eq_some_iff.mp l).1;walk_at"";simp only[eQ,fE,f9,ik,dW];refine fG T ⟨rfl,f,_,rs,us,i,‹_›,rfl,ic T f _,by omega,λ_=>?_⟩;obtain⟨b,eb⟩:∃b,n[us.length+2*i+0]?=some b:=⟨_,getElem?_eq_getElem (by omega)⟩;obtain⟨a,j⟩:∃a,n[us.length+2*i+1]?=some a:=⟨_,getElem?_eq_getElem (by omega)⟩;rw[getD_eq_getElem?_getD,getD_eq_getElem?_getD,j,show n[us.length+2*i]?=some b from eb] at q;have r:=p b (mem_of_getElem? eb);have u:=p a (mem_of_getElem? j);walk_at"";refine dQ _ _ b (eF eb) ?_;walk_at""
 try simp only[eQ,fE,f9,ik,dW]
 refine fG T ⟨rfl,f,_,rs,us,i,‹_›,rfl,ic T f _,by omega,λ_=>?_⟩;walk_at"";refine dQ _ _ a (eF j) ?_;walk_at""
 try simp only[eQ,fE,f9,ik,dW]
 refine rK T ?_;walk_at"";refine dQ _ _ o (eF l) ?_;walk_at"";refine CJ T ?_;show dw (.ag f ((rs.map (bz us)).map ae.t)) (.int i) _;rw[gG,gB];refine dQ _ _ (bz us o) (eF (by rw[getElem?_map,l];rfl)) ?_;walk_at"";have C:=tN m;have D:=tN (x:=-bz us o) (by unfold bi;rw[natAbs_neg];exact m);unfold qE at q;by_cases e:o.2.1="least"
 .rw[if_pos (decide_eq_true e)];rw[if_pos e] at q;exact⟨rfl,a,(bz us o:Rat),rfl,by omega,λ_=>⟨iB _,q _⟩⟩
 .rw[if_neg (by simpa using e)];rw[if_neg e] at q;by_cases h:o.2.1="most"
  .rw[if_pos (decide_eq_true h)];rw[if_pos h] at q;exact⟨rfl,b,((-bz us o:Int):Rat),rfl,by omega,λ_=>⟨iB _,q _⟩⟩
  .rw[if_neg (by simpa using h)];rw[if_neg h] at q;have B:=q4 a b;have J:bs (Rat.divInt (bz us o) 2)<=100:=kD (by decide) m (by walk_at "k");refine⟨rfl,a,b,rfl,by omega,λ_=>⟨rfl,_,2,rfl,by decide,by walk_at "k",λ_=>?_⟩⟩;dsimp only;rw[gm,jm];exact⟨rfl,_,_,rfl,by omega,λ_=>⟨iB _,q _⟩⟩
def OY(T:Tx w K mg):bO:=cW 2 λb Q=>∃(f g:Fl)(rs:ax)(us:aj)(ss:br)(S:Nat->Nat)(mk:aR)(a:aB)(_:Fp f)(_:Fp g),b=[b7 T f (ef rs us ss S mk),.ag g (a.map ae.t)]/\rs.length<=100/\a.length=us.length+2*rs.length+1/\Bd a/\(∀o∈rs,bi (bz us o)<=100)/\Q (.ag .o ((nM rs us a).map ae.t))
theorem A1(T:Tx w K mg){z:Bool}:aK P w K mg base bJ 5 T.qK.a T.qK.d ["self","left"] (bP K z 0 2 (OY T)):=by
 refine cj T.qK.F Qr rfl (by decide) λa7 A outer s H E u x r=>?_
 refine⟨_,(a8 (b5 (iq ["number","left","self"] [none,some 1,some 0] (rT T.lh (aq (fC hV hX T.g8 (aq (cA K (qv 0)) aF)) aF)) (eP 0) (λ_ _ _ _ _=>(eh (eS T T.rO (Mb T)) (qv 2) (aq (qv 0) (aq (qv 1) aF))))))),?_⟩;rintro y p _ ⟨_,f,g,rs,us,ss,S,mk,h,_,_,rfl,j,n,l,o,q⟩;walk_at"";simp only[eQ,fE,f9,ik,dW];refine rK T ?_;walk_at""
 change -1000000<=(rs.length:Int)/\(rs.length:Int)<=1000000/\bg (List.map (λi:Nat=>Tr.int (i:Int)) (List.range ((rs.length:Int)).toNat)) _ _ _ _ _
 rw[Int.toNat_natCast];refine⟨by omega,by omega,bg.map (List.range rs.length) _ (tH rs us h) (by rw[length_range];omega) (λi m R e=>?_) ⟨nu _,q _⟩⟩;have b:=mem_range.mp m;walk_at""
 try simp only[eQ,fE,f9,ik,dW]
 refine fG T ⟨rfl,f,g,rs,us,ss,S,mk,i,h,rs[i],‹_›,‹_›,rfl,by omega,getElem?_eq_getElem b,n,l,o _ (getElem_mem b),λ_=>?_⟩;unfold tH at e;rw[getElem?_eq_getElem b] at e;exact e
theorem Uh{a b:Rat}(h:b≠0):bs (a / b)<=bs a+bs b:=by
 have hn:b.num≠0:=λz=>h (Rat.num_eq_zero.mp z)
 rw[<- zA];exact kD (Int.mul_ne_zero (by have:=a.den_nz;omega) hn) (le_trans (de _ _) (by have:=iu a;have:=fM b;omega)) (le_trans (de _ _) (by have:=fM a;have:=iu b;omega))
structure ox(C:Nat)(ss:br)(mk:aR):Prop where
 r:∀row∈ss,∀v∈row,bs v<=3000
 m:∀p∈mk,∃kn j:Nat,p.2=some (kn:Int)/\p.1=Sum.inl (j:Int)/\j<C/\∃row v,ss[kn]?=some row/\row[j]?=some v/\0<v
def qk(a:aB)(ss:br)(k:Nat)(j:Nat):Rat:=(0 - a.getD j 0) / (ss.getD k []).getD j 0
def iA(b:aB)(ss:br)(k:Nat)(s:Rat)(p:aU×bI):Rat:=match p with
 |(.inl j,some a)=>if a=(k:Int) then (if s < qk b ss k j.toNat then qk b ss k j.toNat else s) else s
 |_=>s
def shr(a:aB)(ss:br)(k:Nat)(mk:aR):Rat:=mk.foldl (iA a ss k) 0
def SK(T:Tx w K mg):bO:=cW 3 λb Q=>∃(g:Fl)(rs:ax)(us:aj)(ss:br)(S:Nat->Nat)(mk:aR)(a:aB)(k C:Nat)(_:Fp g),b=[b7 T .f (ef rs us ss S mk),.ag g (a.map ae.t),.int k]/\ox C ss mk/\a.length=C+1/\Bd a/\Q (ae.t (shr a ss k mk))
theorem LY(T:Tx w K mg):aK P w K mg base bJ 4 T.uv.a T.uv.d ["self","left","ahead"] (bP K true 0 3 (SK T)):=by
 refine cj T.uv.F GX rfl (by decide) λa7 A outer s H E hr hu hN=>?_
 refine⟨_,(aP (bF 3 (iM [0,1] T.i8 T.i4))
  (aP (Ot (cA K (cA K (qv 0))) (jZ (n:=2) rfl (fL (dI 4) (fL (dI 5) jS))) (a8 (da (cc fZ fW (qv 5) (qv 2)) (aP (bF 6 (qc T.qW (CS T) (aq (qc T.ny (v9 T) (aq (iM [0,1] T.i8 T.i4) (aq (aW (qv 1) (qv 4)) aF))) (aq (aW (aW (cA K (qv 0)) (qv 2)) (qv 4)) aF))))
  (a8 (bF 3 (sA (lF (qc T.tL (Ky T) (aq (qv 3) (aq (qv 6) aF)))) (qv 6) (qv 3))))) c9)))
  (a8 (b5 (qv 3))))),?_⟩
 rintro xs Q' _ ⟨_,g,rs,us,ss,S,m,h,k,C,_,rfl,O,hl,hb,q⟩;walk_at"";simp only[eQ,fE,dE,d8,dW];refine yU T (yQ T ?_);have U:Pu.ay (.aS .f (mT m))=.aS .f (mT m):=rfl
 change bL (Tr.aS .f (mT m))=true/\uy (Pu.ay (Tr.aS .f (mT m))) _
 rw[U];refine⟨(cU _ (j9 m)).t,⟨λi G=>∃a b c,G=[b7 T .f (ef rs us ss S m),.ag g (h.map ae.t),.int k,ae.t ((m.take i).foldl (iA h ss k) 0),a,b,c]/\bs ((m.take i).foldl (iA h ss k) 0)<=6910,⟨_,_,_,rfl,by rw[List.take_zero];show bs 0<=6910;rw[kZ];decide⟩,?_,?_⟩⟩
 .rintro i p G hp ⟨a,b,c,rfl,hsb⟩;unfold mT at hp;rw[getElem?_map] at hp;cases e:m[i]? with
  |none=>rw[e] at hp;cases hp
  |some L=>
  rw[e] at hp;cases hp;have tk:(m.take (i+1)).foldl (iA h ss k) 0=iA h ss k ((m.take i).foldl (iA h ss k) 0) L:=by rw[take_add_one,e,List.foldl_append];rfl
  obtain⟨kn,j,M,N,hj,o,v,y,B,Q⟩:=O.m L (mem_of_getElem? e);obtain⟨x,ex⟩:∃x,h[j]?=some x:=⟨_,getElem?_eq_getElem (by rw[hl];omega)⟩;have β:=hb x (mem_of_getElem? ex);have α:=O.r o (mem_of_getElem? y) v (mem_of_getElem? B);obtain⟨y1,y2⟩:=L;dsimp only at M N;subst M N;show lV _ _ (.aG [.int (j:Int),.int (kn:Int)]) _ _;walk_at"";simp only[tk];generalize (m.take i).foldl (iA h ss k) 0=sh at hsb ⊢;by_cases I:(kn:Int)=(k:Int)
  .rw[if_pos (decide_eq_true I)];have J:kn=k:=by omega
   subst J;have Y:qk h ss kn j=(0 - x) / v:=by
    unfold qk;rw[getD_eq_getElem?_getD,ex,getD_eq_getElem?_getD,getD_eq_getElem?_getD,y];simp[B]
   have D:iA h ss kn sh (Sum.inl (j:Int),some (kn:Int))=if sh<(0 - x) / v then (0 - x) / v else sh:=by
    unfold iA;dsimp only;rw[if_pos rfl,Int.toNat_natCast,Y]
   rw[D];refine dQ _ _ x (eF ex) ?_;walk_at"";refine⟨rfl,0,x,rfl,by rw[kZ];omega,λ_=>?_⟩;walk_at"";simp only[eQ,dE,dW];refine n9 T ?_;walk_at"";refine dQ _ _ o (eF y) ?_;rw[fO,gG,gB];refine dQ _ _ v (eF B) ?_;have hs:=q4 0 x;rw[kZ] at hs;have u:v≠0:=λz=>by rw[z] at Q;exact absurd Q (by decide)
   rw[gm,jm];refine⟨rfl,0 - x,v,rfl,u,by omega,λ_=>⟨gF _,?_⟩⟩;have hd:=Uh (a:=0 - x) (b:=v) u;walk_at"";refine⟨rfl,sh,(0 - x) / v,rfl,by omega,λ_=>?_⟩;walk_at"";by_cases l:sh<(0 - x) / v
   .rw[if_pos (decide_eq_true l),if_pos l];exact⟨_,_,_,rfl,by omega⟩
   .rw[if_neg (by simpa using l),if_neg l];exact⟨_,_,_,rfl,hsb⟩
  .rw[if_neg (by simpa using I)];have D:iA h ss k sh (Sum.inl (j:Int),some (kn:Int))=sh:=by unfold iA;dsimp only;rw[if_neg I]
   rw[D];exact⟨_,_,_,rfl,hsb⟩
 .rintro G ⟨a,b,c,rfl,_⟩;walk_at"";rw[show (m.take (mT m).length)=m by unfold mT;rw[length_map,take_length]];exact q _
theorem nD{neg:Bool}{a b:Rat}{Q:av}(q:Q (.bl (if neg=true then !decide (a=b) else decide (a=b)))):iD neg (ae.t a) (ae.t b) Q:=by
 refine .inr ⟨decide (a=b),?_,show (1:Nat)<=60 by decide,le_refl 1,q⟩;show (if 2=2 then (some (decide (a.num=b.num))).bind λx=>((some (decide ((a.den:Int)=b.den))).bind λy=>(some true).bind λz=>some (y&&z)).bind λy=>some (x&&y) else none)=_;rw[if_pos rfl];show some (decide (a.num=b.num)&&(decide ((a.den:Int)=b.den)&&true))=_;congr 1;by_cases h:a=b
 .subst h;simp
 .rw[decide_eq_false h];by_cases d:a.num=b.num
  .have h2:¬ (a.den:Int)=b.den:=λz=>h (Rat.ext d (by omega))
   rw[decide_eq_false h2,Bool.false_and,Bool.and_false]
  .rw[decide_eq_false d,Bool.false_and]
def rN(ss:br)(mk:aR)(st:aB×aB)(k:Nat):aB×aB:=(if shr st.1 ss k mk=0 then st.1 else List.zipWith (λa b=>a+shr st.1 ss k mk*b) st.1 (ss.getD k []),st.2++[shr st.1 ss k mk])
def pp(ss:br)(mk:aR)(i:Nat):Nat->aB×aB
 |0=>(ss.getD i [],[])
 |j + 1=>rN ss mk (pp ss mk i j) (i - 1 - j)
structure CC(C:Nat)(ss:br)(mk:aR)(i:Nat):Prop where
 l:∀j,j<=i->(pp ss mk i j).1.length=C+1/\Bd (pp ss mk i j).1
 s:∀j,j<i->∀b∈ss.getD (i - 1 - j) [],bs (shr (pp ss mk i j).1 ss (i - 1 - j) mk)+bs b<=7990/\bs (shr (pp ss mk i j).1 ss (i - 1 - j) mk*b)<=4000
def Uv(T:Tx w K mg):bO:=cW 2 λa Q=>∃(rs:ax)(us:aj)(ss:br)(S:Nat->Nat)(mk:aR)(i:Nat),a=[b7 T .f (ef rs us ss S mk),.int i]/\rs.length<=16/\us.length<=10/\i<ss.length/\ss.length<=1000/\ox (bj rs us) ss mk/\CC (bj rs us) ss mk i/\(∀o∈rs,bi (bz us o)<=100)/\Q (.aG [.ag .o ((nM rs us (pp ss mk i i).1).map ae.t),.ag .o ((pp ss mk i i).2.reverse.map ae.t)])
theorem vH{ss:br}{mk:aR}{i:Nat}:∀j,(pp ss mk i j).2.length=j
 |0=>rfl
 |j + 1=>by show (_ ++ [_]).length=_;rw[length_append,vH j];rfl
theorem Um(T:Tx w K mg):aK P w K mg base bJ 6 T.sy.a T.sy.d ["self","place"] (bP K true 0 2 (Uv T)):=by
 refine cj T.sy.F Kh rfl (by decide) λa7 A outer s H E hr hu hN=>?_
 refine⟨_,(aP (bF 2 (aW (cA K (qv 0)) (qv 1)))
  (aP (gJ 3 (eC aF))
  (aP (gb (Ng rfl T.lh (aq (kB (qv 1) az) (aq (iG az) (aq (iG az) aF)))) (dI 4) (aP (bF 5 (eh (eS T T.uv (LY T)) (qv 0) (aq (qv 2) (aq (qv 4) aF))))
  (aP (da (cc i6 i5 (qv 5) (iM [0,1] T.i8 T.i4)) (a8 (ma 2 ["one","other","share"] [none,none,some 5] (oq T.n6 (aq (qv 2) (aq (aW (cA K (qv 0)) (qv 4)) aF))) (uS (n:=2) rfl (nr (eP 0) (nr (eP 1) y4))) (λ_ _ _ _ _=>(qc T.tq (Vt T) (aq (qv 0) (aq (qc T.mP (sR T) (aq (qv 2) (aq (qv 1) aF))) aF)))))) c9)
  (a8 (jW (cV 3) (qv 5))))))
  (a8 (b5 (fF (aq (eh (eS T T.qK (A1 T)) (qv 0) (aq (qv 2) aF)) (aq (Tv rfl rfl T.ia rfl T.La (aq (qv 3) aF)) aF)))))))),?_⟩
 rintro xs Q' _ ⟨_,rs,us,ss,S,m,i,rfl,M,L,Q,h,O,r,z,q⟩;have x:ss[i]?=some (ss.getD i []):=by rw[getD_eq_getElem?_getD,getElem?_eq_getElem Q];rfl
 walk_at"";simp only[eQ,fE,dE,d8,dW];refine n9 T ?_;walk_at"";refine dQ _ _ _ (eF x) ?_;walk_at"";refine⟨by omega,by omega,Loop.map (List.range ((i:Int) - 1+1).toNat) (λn:Nat=>Tr.int ((i:Int) - 1+n*-1)) (λj G=>∃a b,G=[b7 T .f (ef rs us ss S m),.int i,ae.t (pp ss m i j).1,.ag .o ((pp ss m i j).2.map ae.t),a,b]) ⟨_,_,rfl⟩ ?_ ?_⟩
 .rintro j n G hj ⟨a,b,rfl⟩;obtain⟨hn,rfl⟩:=m8 hj;have u:j<i:=by omega
  have J:(i:Int) - 1+(j:Int)*-1=((i - 1 - j:Nat):Int):=by omega
  rw[J];have e:=r.l j (by omega);have y:=r.s j u;have I:(pp ss m i (j+1)).2=(pp ss m i j).2++[shr (pp ss m i j).1 ss (i - 1 - j) m]:=rfl;have D:(pp ss m i (j+1)).1=if shr (pp ss m i j).1 ss (i - 1 - j) m=0 then (pp ss m i j).1 else List.zipWith (λa b=>a+shr (pp ss m i j).1 ss (i - 1 - j) m*b) (pp ss m i j).1 (ss.getD (i - 1 - j) []):=rfl
  have B:=vH (ss:=ss) (mk:=m) (i:=i) j;walk_at""
  try simp only[eQ,fE,dE,d8,dW]
  refine fG T ⟨rfl,.f,rs,us,ss,S,m,(pp ss m i j).1,i - 1 - j,_,inferInstance,rfl,O,e.1,e.2,λ_=>?_⟩;walk_at"";simp only[I,D];generalize shr (pp ss m i j).1 ss (i - 1 - j) m=sh at y ⊢;refine nD ?_;walk_at"";by_cases g:sh=0
  .rw[if_neg (by simp[g]),if_pos g];exact⟨by omega,_,_,rfl⟩
  .rw[if_pos (by simp[g]),if_neg g];have U:ss[i - 1 - j]?=some (ss.getD (i - 1 - j) []):=by rw[getD_eq_getElem?_getD,getElem?_eq_getElem (by omega)];rfl
   refine n9 T ?_;rw[gG,gB];refine dQ _ _ _ (eF U) ?_;generalize ss.getD (i - 1 - j) []=row at y ⊢;generalize (pp ss m i j).1=lr at e ⊢;have hc:lr.length<=100:=by have:=e.1;unfold bj at this;omega
   rw[gm,fO,fO,jn,jn,sP];refine bg.map (lr.zip row) _ (λp=>p.1+sh*p.2) (by rw[length_zip];omega) (λp Y R N=>?_) ?_
   .obtain⟨m1,m2⟩:=of_mem_zip Y;have b1:=e.2 _ m1;obtain⟨C,b3⟩:=y _ m2;walk_at"";refine⟨rfl,sh,p.2,rfl,C,λ_=>?_⟩;dsimp only;rw[gm,jm];exact⟨rfl,p.1,sh*p.2,rfl,by omega,λ_=>N⟩
   .have e3:(lr.zip row).map (λp=>p.1+sh*p.2)=List.zipWith (λa b=>a+sh*b) lr row:=by rw[List.zip_eq_zipWith,List.map_zipWith]
    rw[e3,fH];exact⟨lx _,by omega,_,_,rfl⟩
 .rintro G ⟨a,b,rfl⟩;rw[length_range,show ((i:Int) - 1+1).toNat=i by omega];walk_at"";simp only[eQ,fE,dE,d8,dW];have e:=r.l i (le_refl _);refine fG T ⟨rfl,.f,.f,rs,us,ss,S,m,(pp ss m i i).1,inferInstance,inferInstance,rfl,by omega,e.1,e.2,z,λ_=>?_⟩;rw[<- List.map_reverse];exact⟨lQ _,by rw[nu,nj];rfl,q _⟩
structure iw(e s v:Nat)(us:aj)(o:bV):Prop where
 b:xO us o
 p:0<bz us o
 sb:bi (bz us o)<=s
 eb:∀x∈er us o,bi x<=e
 x:bi (cH us o)<=e
 w:0<=o.2.2.2.2/\bi o.2.2.2.2<=v
theorem yq{x:Int}{k:Nat}(h:bi x<=k):x.natAbs<=2 ^ k:=Nat.le_of_lt (jr h)
theorem u0:∀{m k:Nat},m<=k->Lp.iY m<=Lp.iY k
 |m,0,h=>by rw[show m=0 by omega];exact le_refl _
 |m,k + 1,h=>by
  by_cases e:m=k+1
  .rw[e];exact le_refl _
  .exact le_trans (u0 (show m<=k by omega)) (Nat.le_mul_of_pos_left _ (by omega))
section
variable{rs:ax}{us:aj}{e s v:Nat}
theorem tY(h:∀o∈rs,iw e s v us o){i k:Nat}(b:i<rs.length):(Mx rs us i k).natAbs<=2 ^ e:=by
 obtain⟨o,a⟩:=lK b;have z:=h o (mem_of_getElem? a);have one:1<=2 ^ e:=Nat.one_le_two_pow;rw[mi a,natAbs_mul,show (sgn (cH us o)).natAbs=1 by unfold sgn;split<;>rfl,Nat.one_mul];unfold A0;split
 .rw[getD_eq_getElem?_getD];cases q:(er us o)[k]? with
  |none=>exact zero_le _
  |some x=>exact yq (z.eb x (mem_of_getElem? q))
 .split
  .exact one
  .split
   .exact one
   .split
    .exact yq z.x
    .exact zero_le _
theorem vE{m:Nat}(hm:m<=10){x:Int}(h:x.natAbs<=Lp.iY m*(2 ^ e) ^ m):bi x<=22+e*m:=by
 refine dh (lt_of_le_of_lt h ?_);rw[<- Nat.pow_mul,pow_add];exact Nat.mul_lt_mul_of_pos_right (lt_of_le_of_lt (u0 hm) (by walk_at "k")) (Nat.two_pow_pos _)
theorem Qz(h:∀o∈rs,iw e s v us o)(hm:rs.length<=10)(hn:bj rs us<=60)(b:22+e*rs.length<=3000):Sz rs.length (bj rs us) (Mx rs us) where
 hm:=by omega
 hn:=hn
 t:=λS i k lt f=>le_trans (vE hm (Lp.jh (λi k a _=>tY h a) lt f)) b
 d:=λS lt=>le_trans (vE hm (Lp.gU (λi k a _=>tY h a) lt)) b
def sX(us:aj):ax->Nat
 |[]=>1
 |o::rs=>(bz us o).natAbs * sX us rs
theorem xI:∀{rs:ax},(∀o∈rs,iw e s v us o)->0<sX us rs
 |[],_=>Nat.one_pos
 |o::rs,h=>Nat.mul_pos (by have:=(h o (.head _)).p;omega) (xI λq m=>h q (.tail _ m))
theorem yS:∀{rs:ax}{o:bV},o∈rs->bz us o ∣ (sX us rs:Int)
 |p::rs,o,m=>by
  show _ ∣ (((bz us p).natAbs*sX us rs:Nat):Int);rw[natCast_mul];rcases mem_cons.mp m with rfl |m
  .exact dvd_trans (Int.dvd_natAbs_self) (Int.dvd_mul_right _ _)
  .exact dvd_trans (yS m) (Int.dvd_mul_left _ _)
theorem vR:∀{rs:ax},(∀o∈rs,iw e s v us o)->bi (sX us rs:Int)<=1+s*rs.length
 |[],_=>by show bi 1 <= _;exact le_trans (show bi 1 <= 1 by walk_at "k") (by omega)
 |o::rs,h=>by
  show bi (((bz us o).natAbs*sX us rs:Nat):Int)<=_;rw[natCast_mul];have a:=de ((bz us o).natAbs:Int) (sX us rs:Int);have b:=vR (rs:=rs) λq m=>h q (.tail _ m)
  have c:bi ((bz us o).natAbs:Int)<=s:=by unfold bi;rw[natAbs_natCast];exact (h o (.head _)).sb
  rw[length_cons,Nat.mul_succ];omega
theorem xZ(a:Int){b:Int}(d:0<b):((Rat.divInt a b).den:Int) ∣ b:=by
 rw[Rat.den_divInt,if_neg (ne_of_gt d)];exact dvd_trans (Int.natCast_dvd_natCast.mpr (Nat.div_dvd_of_dvd (Nat.gcd_dvd_left _ _))) (Int.natAbs_dvd_self)
theorem A8{cs:aB}{X:Nat}(p:cs.length=bj rs us)(i:0<X)(hd:∀c∈cs,(c.den:Int) ∣ (X:Int)){x y:Nat}(u:bi (X:Int)<=x)(j:∀c∈cs,bi c.num<=y)(hp:∀c∈cs,0<=c)(h:x+y<=3000):dP rs us cs/\∀k,bi (cf (dA cs) k)<=x+y:=by
 have f:∀c∈cs,bi (e7 (ck cs) c)<=x+y:=λc m=>by
  unfold e7;obtain⟨z,l⟩:=(gR cs 1 (by decide)).2.2.1 c m;have g:(0:Int)<(c.den:Int):=natCast_pos.mpr c.den_pos;have o:(ck cs).fdiv (c.den:Int)=z:=by
   have:=Int.mul_fdiv_cancel_left (a:=(c.den:Int)) z (ne_of_gt g);rwa[<- l] at this
  rw[o];have r:=(gR cs 1 (by decide)).2.2.2 X (one_dvd _) hd;have n:z ∣ (X:Int):=dvd_trans (by rw[l];exact Int.dvd_mul_left _ _) r;have:=kG n i;have:=de c.num z;have:=j c m;omega
 refine⟨⟨p,⟨X,i,hd,by omega⟩,λc m=>?_,λc m=>?_,hp⟩,λk=>?_⟩
 .have a:=kG (hd c m) i;have b:=j c m;unfold bs;unfold bi at a b;rw[natAbs_natCast] at a;have:bi (X:Int)=bl (X:Int).natAbs:=rfl;omega
 .unfold dA at m;obtain⟨d,md,rfl⟩:=mem_map.mp m;have:=f d md;omega
 .unfold cf dA;rw[getD_eq_getElem?_getD,getElem?_map];cases q:cs[k]? with
  |none=>exact zero_le _
  |some c=>exact f c (mem_of_getElem? q)
theorem MS(a:Int){b:Int}(g:0<b):bi (Rat.divInt a b).num<=bi a:=by
 have h:=Rat.num_divInt a b;by_cases f:a=0
 .subst f;rw[Rat.zero_divInt];exact zero_le _
 .have d:(Rat.divInt a b).num ∣ a:=by
   rw[h,Int.sign_eq_one_of_pos g,one_mul];exact Int.ediv_dvd_of_dvd (Int.gcd_dvd_right ..)
  have:=le_of_dvd (by omega) (Int.natAbs_dvd_natAbs.mpr d);exact dh (lt_of_le_of_lt this (jr (le_refl _)))
theorem oU{a b:Int}(d:0<=a)(f:0<b):0<=Rat.divInt a b:=Rat.divInt_nonneg d (le_of_lt f)
theorem uD{k:Int}{c:Rat}(m:c∈cT us rs k):c=0\/∃o∈rs,c=Rat.divInt o.2.2.2.2 (bz us o):=by
 unfold cT at m;rcases mem_append.mp m with m |m
 .exact .inl (List.eq_of_mem_replicate m)
 .obtain⟨o,ho,mo⟩:=List.mem_flatMap.mp m;simp only[mem_cons,List.not_mem_nil,or_false] at mo;rcases mo with rfl |rfl
  .unfold cb;split
   .split
    .exact .inl rfl
    .exact .inr ⟨o,ho,rfl⟩
   .exact .inl rfl
  .unfold ca;split
   .split
    .exact .inl rfl
    .exact .inr ⟨o,ho,rfl⟩
   .exact .inl rfl
theorem SU(h:∀o∈rs,iw e s v us o)(k:Int)(a:1+s*rs.length+v<=3000):dP rs us (cT us rs k)/\∀j,bi (cf (dA (cT us rs k)) j)<=1+s*rs.length+v:=by
 refine A8 (X:=sX us rs) (by unfold cT bj;rw[length_append,length_replicate,ye]) (xI h) (λc m=>?_) (vR h) (λc m=>?_) (λc m=>?_) a
 .rcases uD m with rfl |⟨o,ho,rfl⟩
  .exact one_dvd _
  .exact dvd_trans (xZ _ (h o ho).p) (yS ho)
 .rcases uD m with rfl |⟨o,ho,rfl⟩
  .exact zero_le _
  .exact le_trans (MS _ (h o ho).p) (h o ho).w.2
 .rcases uD m with rfl |⟨o,ho,rfl⟩
  .exact Rat.le_refl
  .exact oU (h o ho).w.1 (h o ho).p
theorem Lx{a:List (Str×Rat)}(hp:∀u,(b9 a u).getD 0=0\/(b9 a u).getD 0=1):dP rs us (dF us rs.length a)/\∀j,bi (cf (dA (dF us rs.length a)) j)<=2:=by
 have mem:∀c∈dF us rs.length a,c=0\/c=1:=λc m=>by
  unfold dF at m;rcases mem_append.mp m with m |m
  .obtain⟨u,_,rfl⟩:=mem_map.mp m;exact hp u
  .exact .inl (List.eq_of_mem_replicate m)
 refine A8 (X:=1) (x:=1) (y:=1) (by unfold dF bj;rw[length_append,length_map,length_replicate]) (by decide) (λc m=>?_) (by walk_at "k") (λc m=>?_) (λc m=>?_) (by decide)
 .rcases mem c m with rfl |rfl<;>exact one_dvd _
 .rcases mem c m with rfl |rfl<;>decide +kernel
 .rcases mem c m with rfl |rfl<;>decide
def CD(l d:Nat)(b:aB):Prop:=∃D:Int,0<D/\bi D<=d/\∀x∈b,∃a:Int,x=Rat.divInt a D/\bi a<=l
theorem CD.mono{l d g d':Nat}{f:aB}(h:CD l d f)(a:l<=g)(b:d<=d'):CD g d' f:=by
 obtain⟨D,i,n,j⟩:=h;exact⟨D,i,by omega,λx m=>by obtain⟨y,e,o⟩:=j x m;exact⟨y,e,by omega⟩⟩
theorem CD.bs{l d:Nat}{b:aB}(h:CD l d b)(hd:d<=l){x:Rat}(m:x∈b):Vc.bs x<=l:=by
 obtain⟨D,f,j,i⟩:=h;obtain⟨a,rfl,g⟩:=i x m;exact kD (ne_of_gt f) g (by omega)
theorem F0(h:∀o∈rs,iw e s v us o)(hm:rs.length<=10){cs:aB}{S:Nat->Nat}{C x:Nat}(lt:∀i,i<rs.length->S i<bj rs us)(G:0<Lp.dd rs.length (Mx rs us) S)(d:∀k,bi (cf (dA cs) k)<=C)(l:bi (ck cs)<=x)(j:x<=C+4):CD (C+26+e*rs.length) (C+26+e*rs.length) (ie rs us cs S):=by
 have hd:=vE hm (Lp.gU (A:=Mx rs us) (λi k a _=>tY h a) lt);refine⟨ck cs*Lp.dd rs.length (Mx rs us) S,mul_pos (gR cs 1 (by decide)).1 G,le_trans (de _ _) (by omega),λy b=>?_⟩;unfold ie at b;obtain⟨k,g,rfl⟩:=mem_map.mp b;rw[mem_range] at g;refine⟨_,rfl,?_⟩;have z:=Lp.l6 (A:=Mx rs us) (λi k a _=>tY h a) lt (C:=2 ^ C) (λk=>yq (d k)) (k:=k) (by omega);refine dh (lt_of_le_of_lt z ?_);rw[show C+26+e*rs.length=4+(C+(22+e*rs.length)) by omega,pow_add,pow_add 2 C];have f:Lp.iY rs.length*(2 ^ e) ^ rs.length<2 ^ (22+e*rs.length):=by
  rw[<- Nat.pow_mul,pow_add];exact Nat.mul_lt_mul_of_pos_right (lt_of_le_of_lt (u0 hm) (by walk_at "k")) (Nat.two_pow_pos _)
 exact Nat.mul_lt_mul_of_lt_of_le (show rs.length+1<2 ^ 4 by omega) (Nat.mul_le_mul_left _ (Nat.le_of_lt f)) (Nat.mul_pos (Nat.two_pow_pos _) (Nat.two_pow_pos _))
end
theorem V2(a D b E:Int):(0 - Rat.divInt a D) / Rat.divInt b E=Rat.divInt (-a*E) (D*b):=by
 rw[Rat.div_def,Rat.sub_eq_add_neg,Rat.zero_add,Rat.neg_divInt,Rat.inv_divInt,Rat.divInt_mul_divInt]
theorem Bs(a D b c:Int){E:Int}(d:E≠0):Rat.divInt (-a*E) (D*b)*Rat.divInt c E=Rat.divInt (-(a*c)) (D*b):=by
 rw[Rat.divInt_mul_divInt,show -a*E*c=(-(a*c))*E by grind,Rat.divInt_mul_right d]
theorem Lj(x:Int){D:Int}(a:Int){b:Int}(c:Int)(d:D≠0)(e:b≠0):Rat.divInt x D+Rat.divInt (-(a*c)) (D*b)=Rat.divInt (x*b - a*c) (D*b):=by
 have h:=Int.mul_ne_zero d e;rw[Rat.divInt_add_divInt _ _ d h];exact (Rat.divInt_eq_divInt_iff (Int.mul_ne_zero d h) h).mpr (by grind)
theorem Tf{b:aB}{ss:br}{k C:Nat}{mk:aR}(h:ox C ss mk):shr b ss k mk=0\/∃j a v,j<C/\ss[k]?=some a/\a[j]?=some v/\0<v/\shr b ss k mk=(0 - b.getD j 0) / v:=by
 unfold shr;have f:∀(l:aR)(s:Rat),(∀p∈l,p∈mk)->(s=0\/∃j a v,j<C/\ss[k]?=some a/\a[j]?=some v/\0<v/\s=(0 - b.getD j 0) / v)->(l.foldl (iA b ss k) s=0\/∃j a v,j<C/\ss[k]?=some a/\a[j]?=some v/\0<v/\l.foldl (iA b ss k) s=(0 - b.getD j 0) / v):=by
  intro l
  induction l with
  |nil=>intro s _ d;exact d
  |cons p l y=>
   intro s r d;refine y _ (λq m=>r q (.tail _ m)) ?_;obtain⟨kn,j,g,i,u,a,v,n,o,x⟩:=h.m p (r p (.head _));obtain⟨z,A⟩:=p;dsimp only at g i;subst g i;unfold iA;dsimp only;split
   .rename_i hk;have e:kn=k:=by omega
    subst e;split
    .refine .inr ⟨j,a,v,u,n,o,x,?_⟩;unfold qk;rw[Int.toNat_natCast,getD_eq_getElem?_getD (l:=ss),n,getD_some,getD_eq_getElem?_getD (l:=a),o];rfl
    .exact d
   .exact d
 exact f mk 0 (λ_ m=>m) (.inl rfl)
theorem EL{ss:br}{mk:aR}{st:aB×aB}{k C l d z:Nat}(h:ox C ss mk)(hk:k<ss.length)(A:st.1.length=C+1)(L:CD l d st.1)(hd:d<=l)(α:1<=l)(hr:(ss.getD k []).length=C+1)(cr:CD z z (ss.getD k [])):
  (rN ss mk st k).1.length=C+1/\CD (l+z+1) (d+z) (rN ss mk st k).1/\∀b∈ss.getD k [],bs (shr st.1 ss k mk)<=l+z/\bs (shr st.1 ss k mk*b)<=l+z+1:=by
 have g:ss[k]?=some (ss.getD k []):=by rw[getD_eq_getElem?_getD,getElem?_eq_getElem hk];rfl
 have up:CD (l+z+1) (d+z) st.1:=by
  obtain⟨D,O,h2,Q⟩:=L;exact⟨D,O,by omega,λx m=>by obtain⟨a,e,ha⟩:=Q x m;exact⟨a,e,by omega⟩⟩
 unfold rN;dsimp only;rcases Tf h with N |⟨j,ε,v,hj,M,e4,hv,n⟩
 .rw[if_pos N,N];refine⟨A,up,λb H=>⟨by rw[kZ];omega,by rw[Rat.zero_mul,kZ];omega⟩⟩
 .rw[g] at M;cases M;obtain⟨D,r,β,U⟩:=L;obtain⟨E,s,γ,G⟩:=cr;have B:∃x,st.1[j]?=some x:=⟨_,getElem?_eq_getElem (by omega)⟩;obtain⟨x,ex⟩:=B;obtain⟨a,rfl,ha⟩:=U x (mem_of_getElem? ex);obtain⟨b,rfl,hb⟩:=G v (mem_of_getElem? e4);have o:0<b:=by
   apply Classical.byContradiction;intro q;have:Rat.divInt b E<=0:=by
    have:=oU (a:=-b) (b:=E) (by omega) s;rw[<- Rat.neg_divInt] at this;have:=Rat.neg_le_neg this;rwa[Rat.neg_neg,Rat.neg_zero] at this
   exact absurd hv (Rat.not_lt.mpr this)
  rw[getD_eq_getElem?_getD,ex,getD_some,V2] at n;have nz:=Int.mul_ne_zero (ne_of_gt r) (ne_of_gt o);have sb:bs (shr st.1 ss k mk)<=l+z:=by
   rw[n];refine kD nz (le_trans (de _ _) ?_) (le_trans (de _ _) (by omega));have:bi (-a)=bi a:=by unfold bi;rw[natAbs_neg]
   omega
  have H:∀c∈ss.getD k [],bs (shr st.1 ss k mk*c)<=l+z+1:=λc i=>by
   obtain⟨f,rfl,u⟩:=G c i;rw[n,Bs _ _ _ _ (ne_of_gt s)];refine kD nz ?_ (le_trans (de _ _) (by omega));have e:bi (-(a*f))=bi (a*f):=by unfold bi;rw[natAbs_neg]
   rw[e];exact le_trans (de _ _) (by omega)
  split
  .exact⟨A,up,λc i=>⟨sb,H c i⟩⟩
  .refine⟨by rw[List.length_zipWith,A,hr];omega,⟨D*b,mul_pos r o,le_trans (de _ _) (by omega),λy Y=>?_⟩,λc i=>⟨sb,H c i⟩⟩;have ez:List.zipWith (λa b=>a+shr st.1 ss k mk*b) st.1 (ss.getD k [])=(st.1.zip (ss.getD k [])).map λp=>p.1+shr st.1 ss k mk*p.2:=by rw[List.zip_eq_zipWith,List.map_zipWith]
   rw[ez] at Y;obtain⟨⟨p,c⟩,I,rfl⟩:=mem_map.mp Y;obtain⟨m1,m2⟩:=of_mem_zip I;obtain⟨J,rfl,δ⟩:=U p m1;obtain⟨f,rfl,u⟩:=G c m2;refine⟨J*b - a*f,?_,?_⟩
   .rw[n,Bs _ _ _ _ (ne_of_gt s),Lj _ _ _ (ne_of_gt r) (ne_of_gt o)]
   .have O:=y7 (J*b) (a*f);have h2:=de J b;have Q:=de a f;omega
theorem LW{ss:br}{mk:aR}{C z i:Nat}(h:ox C ss mk)(s:∀o∈ss,o.length=C+1/\CD z z o)(q:i<ss.length)(B:i<=5)(hz:z<=645)(A:1<=z):CC C ss mk i:=by
 have at':∀k,k<ss.length->(ss.getD k []).length=C+1/\CD z z (ss.getD k []):=λk r=>by
  have e:ss[k]?=some (ss.getD k []):=by rw[getD_eq_getElem?_getD,getElem?_eq_getElem r];rfl
  exact s _ (mem_of_getElem? e)
 have l:∀j,j<=i->(pp ss mk i j).1.length=C+1/\CD (z+j*(z+1)) (z+j*z) (pp ss mk i j).1:=by
  intro j
  induction j with
  |zero=>intro _;obtain⟨a,b⟩:=at' i q;exact⟨a,by rw[Nat.zero_mul,Nat.zero_mul,Nat.add_zero];exact b⟩
  |succ j u=>
   intro n;obtain⟨a,b⟩:=u (by omega);obtain⟨c,d⟩:=at' (i - 1 - j) (by omega);obtain⟨p1,p2,_⟩:=EL (st:=pp ss mk i j) h (by omega) a b (by rw[Nat.mul_succ];omega) (by omega) c d;refine⟨p1,?_⟩;rw[show z+(j+1)*(z+1)=z+j*(z+1)+z+1 by rw[succ_mul];omega,show z+(j+1)*z=z+j*z+z by rw[succ_mul];omega];exact p2
 have g:∀j,j<=5->z+j*(z+1)<=3900:=λj n=>le_trans (Nat.add_le_add_left (Nat.mul_le_mul_right _ n) _) (by omega)
 refine⟨λj n=>⟨(l j n).1,λx m=>?_⟩,λj n b p=>?_⟩
 .exact le_trans ((l j n).2.bs (by rw[Nat.mul_succ];omega) m) (g j (by omega))
 .obtain⟨a,b'⟩:=l j (by omega);obtain⟨c,d⟩:=at' (i - 1 - j) (by omega);obtain⟨_,_,p3⟩:=EL (st:=pp ss mk i j) h (by omega) a b' (by rw[Nat.mul_succ];omega) (by omega) c d;obtain⟨D,E⟩:=p3 b p;have f:=g (j+1) (by omega);rw[succ_mul] at f;have y:=d.bs (le_refl _) p;omega
abbrev ew:=(Nat->Int)×Int×Int
def jc(n:Nat)(y:Nat->Int)(q:Int)(a:Prop):List ew->Prop
 |[]=>a
 |g::gs=>g.2.1 * q < g.2.2 * Lp.sm n (λk=>g.1 k * y k) \/ (g.2.2 * Lp.sm n (λk=>g.1 k * y k)=g.2.1 * q /\ jc n y q a gs)
theorem jc.imp{n:Nat}{y:Nat->Int}{q:Int}{f d:Prop}(h:f->d):∀{e:List ew},jc n y q f e->jc n y q d e
 |[],p=>h p
 |_::_,p=>Or.imp id (λ⟨a,b⟩=>⟨a,jc.imp h b⟩) p
theorem jc.snoc{n:Nat}{y:Nat->Int}{q:Int}{f:Prop}(g:ew):∀{d:List ew},jc n y q (g.2.1*q<g.2.2*Lp.sm n (λk=>g.1 k*y k)\/(g.2.2*Lp.sm n (λk=>g.1 k*y k)=g.2.1*q/\f)) d->jc n y q f (d++[g])
 |[],p=>p
 |_::_,p=>Or.imp id (λ⟨a,b⟩=>⟨a,jc.snoc g b⟩) p
structure gK(z:Nat)(rs:ax)(us:aj)(gs:List (aB×ew))(ss:br)(S:Nat->Nat)(mk:aR):Prop where
 g:Lp.Gd rs.length (bj rs us) (Mx rs us) S
 n:jt rs.length mk S
 m:ox (bj rs us) ss mk
 r:∀row∈ss,row.length=bj rs us+1/\CD z z row
 l:mk.length<=ss.length*bj rs us
 s:ss.length=gs.length
 c:∀p∈gs,p.2.1=cf (dA p.1)/\0<p.2.2.2
 v:∀(i:Nat)(p:aB×ew),gs[i]?=some p->∃row x,ss[i]?=some (row++[x])/\0 - x=Rat.divInt p.2.2.1 (p.2.2.2*ck p.1)
 x:∀(q:Int)(y:Nat->Int),0<=q->Lp.eE rs.length (bj rs us) (Mx rs us) (λ_=>False) q y->jc (bj rs us) y q (Lp.eE rs.length (bj rs us) (Mx rs us) (eX mk) q y) (gs.map (·.2))
 e:∀(q:Int)(y:Nat->Int),Lp.eE rs.length (bj rs us) (Mx rs us) (eX mk) q y->∀p∈gs,p.2.2.2*Lp.sm (bj rs us) (λk=>p.2.1 k*y k)=p.2.2.1*q
theorem U5{z:Nat}{rs:ax}{us:aj}:gK z rs us [] [] (S0 rs us) []:=by
 refine⟨Bf,λi a h=>?_,⟨λ_ m=>(nomatch m),λ_ m=>(nomatch m)⟩,λ_ m=>(nomatch m),zero_le _,rfl,λ_ m=>(nomatch m),λi p h=>?_,λq y _ F=>⟨F.mK,F.nn,λk _ s=>?_,F.rhs⟩,λ_ _ _ _ m=>(nomatch m)⟩
 .exact absurd (oD.mp h) (by simp)
 .cases h
 .exact absurd (oD.mp s) (by simp)
theorem IT(rs:ax)(us:aj)(cs:aB)(S:Nat->Nat):ie rs us cs S=(List.range (bj rs us)).map (λk=>Rat.divInt (Lp.zz rs.length (Mx rs us) (cf (dA cs)) S k) (ck cs*Lp.dd rs.length (Mx rs us) S))++[Rat.divInt (Lp.zz rs.length (Mx rs us) (cf (dA cs)) S (bj rs us)) (ck cs*Lp.dd rs.length (Mx rs us) S)]:=by
 unfold ie;rw[yr]
theorem gK.step{z:Nat}{rs:ax}{us:aj}{B:List (aB×ew)}{ss:br}{S d:Nat->Nat}{mk:aR}{cs:aB}(h:gK z rs us B ss S mk)(hz:z<=3000)(L:dP rs us cs)(G:Lp.Gd rs.length (bj rs us) (Mx rs us) d)(hN:jt rs.length mk d)(N:uc rs.length (bj rs us) (Mx rs us) mk (cf (dA cs)) d)(J:CD z z (ie rs us cs d)):
  gK z rs us (B++[(cs,cf (dA cs),- Lp.zz rs.length (Mx rs us) (cf (dA cs)) d (bj rs us),Lp.dd rs.length (Mx rs us) d)]) (ss++[ie rs us cs d]) d (fh rs.length (bj rs us) (Mx rs us) mk (cf (dA cs)) d ss.length (bj rs us)):=by
 have u:(ie rs us cs d).length=bj rs us+1:=by unfold ie;rw[length_map,length_range]
 have hb:=(gR cs 1 (by decide)).1;refine⟨G,λi D s=>?_,⟨λf m v I=>?_,λp m=>?_⟩,λf m=>?_,?_,by rw[length_append,length_append,h.s];rfl,λp m=>?_,λi p e=>?_,λq y hq F=>?_,λq y F p m=>?_⟩
 .rcases n0.mp s with s |⟨_,s⟩
  .exact hN i D s
  .rw[Lp.ea D] at s;omega
 .rcases mem_append.mp m with m |m
  .exact h.m.r f m v I
  .rw[mem_singleton.mp m] at I;exact le_trans (J.bs (le_refl _) I) hz
 .unfold fh at m;rcases mem_append.mp m with m |m
  .obtain⟨kn,j,e1,e2,H,f,v,e3,e4,hv⟩:=h.m.m p m;refine⟨kn,j,e1,e2,H,f,v,?_,e4,hv⟩;rw[getElem?_append_left (List.getElem?_eq_some_iff.mp e3).1];exact e3
  .obtain⟨j,mj,rfl⟩:=mem_map.mp m;obtain⟨Y,C⟩:=mem_filter.mp mj;have H:=mem_range.mp Y;unfold jD at C;simp only[and_eq_true,decide_eq_true_eq] at C;refine⟨ss.length,j,rfl,rfl,H,ie rs us cs d,Rat.divInt (Lp.zz rs.length (Mx rs us) (cf (dA cs)) d j) (ck cs*Lp.dd rs.length (Mx rs us) d),by rw[getElem?_append_right (le_refl _),Nat.sub_self];rfl,?_,?_⟩
   .unfold ie;rw[getElem?_map,getElem?_range (by omega)];rfl
   .have hd:=mul_pos hb G.pos;have U:=oU (le_of_lt C.1) hd;refine Rat.lt_of_le_of_ne U λe=>?_
    rw[<- Rat.zero_divInt 1] at e;have:=(Rat.divInt_eq_divInt_iff (by decide) (ne_of_gt hd)).mp e;omega
 .rcases mem_append.mp m with m |m
  .exact h.r f m
  .rw[mem_singleton.mp m];exact⟨u,J⟩
 .have a:=BG (m:=rs.length) (n:=bj rs us) (M:=Mx rs us) (mk:=mk) (c:=cf (dA cs)) (S:=d) (a:=(ss.length:Int)) (i:=bj rs us);have b:=h.l;rw[length_append,List.length_singleton,succ_mul];omega
 .rcases mem_append.mp m with m |m
  .exact h.c p m
  .rw[mem_singleton.mp m];exact⟨rfl,G.pos⟩
 .rw[List.getElem?_append] at e;split at e
  .obtain⟨f,x,e1,e2⟩:=h.v i p e;exact⟨f,x,by rw[getElem?_append_left (List.getElem?_eq_some_iff.mp e1).1];exact e1,e2⟩
  .rename_i D;have E:i - B.length=0:=by
    have:=(List.getElem?_eq_some_iff.mp e).1;simp at this;omega
   rw[E] at e;cases e;have Q:i=ss.length:=by rw[h.s];omega
   refine⟨_,_,by rw[Q,getElem?_append_right (le_refl _),Nat.sub_self,IT];rfl,?_⟩;rw[Rat.sub_eq_add_neg,Rat.zero_add,Rat.neg_divInt,mul_comm]
 .rw[map_append];refine jc.snoc _ ((h.x q y hq F).imp λO=>?_);obtain⟨o,A⟩:=Lp.opt (c:=cf (dA cs)) (S:=d) (xo L.c.1) (λk g s=>N k g s) O;dsimp only;have e:-(q*Lp.zz rs.length (Mx rs us) (cf (dA cs)) d (bj rs us))=- Lp.zz rs.length (Mx rs us) (cf (dA cs)) d (bj rs us)*q:=by grind
  rw[e] at o A;rcases Int.lt_or_eq_of_le o with o |o
  .exact .inl o
  .have F2:=A.mp o.symm;refine .inr ⟨o.symm,F2.mK,F2.nn,λk g s=>?_,F2.rhs⟩;rcases n0.mp s with s |⟨_,s⟩
   .exact F2.sz k g (.inl s)
   .exact F2.sz k g (.inr s)
 .have F1:Lp.eE rs.length (bj rs us) (Mx rs us) (eX mk) q y:=⟨F.mK,F.nn,λk g s=>F.sz k g (n0.mpr (.inl s)),F.rhs⟩
  rcases mem_append.mp m with m |m
  .exact h.e q y F1 p m
  .rw[mem_singleton.mp m];have A:=(Lp.opt (c:=cf (dA cs)) (S:=d) (xo L.c.1) (λk g s=>N k g s) F1).2.mpr ⟨F.mK,F.nn,λk g s=>?_,F.rhs⟩
   .dsimp only;rw[A]
    grind
   .rcases s with s |s
    .exact F.sz k g (n0.mpr (.inl s))
    .exact F.sz k g (n0.mpr (.inr ⟨g,s⟩))
structure vQ(z:Nat)(rs:ax)(us:aj):Prop where
 b:oM rs us
 y:Sz rs.length (bj rs us) (Mx rs us)
 s:∀o∈rs,0<bz us o/\bi (bz us o)<=100
 k:∀r:Int,dP rs us (cT us rs r)/\∀S,Lp.Gd rs.length (bj rs us) (Mx rs us) S->CD z z (ie rs us (cT us rs r) S)
 c:∀ps:List (Str×Rat),(∀u,(b9 ps u).getD 0=0\/(b9 ps u).getD 0=1)->dP rs us (dF us rs.length ps)/\∀S,Lp.Gd rs.length (bj rs us) (Mx rs us) S->CD z z (ie rs us (dF us rs.length ps) S)
 h:1<=z/\z<=645
theorem dP.cb{rs:ax}{us:aj}{cs:aB}(h:dP rs us cs){X:Nat}(a:0<X)(hd:∀c∈cs,(c.den:Int) ∣ (X:Int)):bi (ck cs)<=bi (X:Int):=kG ((gR cs 1 (by decide)).2.2.2 X (one_dvd _) hd) a
theorem xp{rs:ax}{us:aj}(h:∀o∈rs,iw 39 20 20 us o)(hm:rs.length<=10)(i:us.length<=8):vQ 637 rs us:=by
 have hn:bj rs us<=60:=by unfold bj;omega
 refine⟨⟨by omega,by omega,λo m=>(h o m).b⟩,Qz h hm hn (by omega),λo m=>⟨(h o m).p,le_trans (h o m).sb (by omega)⟩,λr=>?_,λg f=>?_,by decide⟩
 .obtain⟨a,b⟩:=SU h r (by omega);refine⟨a,λS G=>?_⟩;have c:bi (ck (cT us rs r))<=201:=le_trans (a.cb (xI h) λc m=>by
   rcases uD m with rfl |⟨o,d,rfl⟩
   .exact one_dvd _
   .exact dvd_trans (xZ _ (h o d).p) (yS d)) (le_trans (vR h) (by omega))
  have:=F0 (S:=S) h hm (C:=221) (x:=201) G.lt G.pos (λk=>le_trans (b k) (by omega)) c (by omega);exact this.mono (by omega) (by omega)
 .obtain⟨a,b⟩:=Lx (rs:=rs) (us:=us) f;refine⟨a,λS G=>?_⟩;have c:bi (ck (dF us rs.length g))<=1:=le_trans (a.cb (X:=1) (by decide) λc m=>by
   unfold dF at m;rcases mem_append.mp m with m |m
   .obtain⟨u,_,rfl⟩:=mem_map.mp m;rcases f u with e |e<;>rw[e]<;>exact one_dvd _
   .rw[List.eq_of_mem_replicate m];exact one_dvd _) (by walk_at "k")
  have:=F0 (S:=S) h hm (C:=221) (x:=1) G.lt G.pos (λk=>le_trans (b k) (by omega)) c (by omega);exact this.mono (by omega) (by omega)
theorem SN(T:Tx w K mg){f g:Fl}{rs:ax}{us:aj}[Fp f][Fp g](a:oM rs us){R:av}(q:R (b7 T .o (uw rs us))):EI T [.ins .o T.aah [],.ag f (rs.map ae.t),.ag g (us.map ae.t)] λt b=>t=.aL/\nU b[0]? R:=⟨rfl,f,g,rs,us,‹_›,‹_›,rfl,a,λj e=>⟨rfl,by rw[e];exact⟨oB T _,q⟩⟩⟩
def HF(T:Tx w K mg):bO:=cW 2 λa Q=>∃(f g:Fl)(rs:ax)(us:aj)(z:Nat)(_:Fp f)(_:Fp g),a=[.ag f (rs.map ae.t),.ag g (us.map ae.t)]/\vQ z rs us/\∀(p:aB×ew)(ss:br)(S:Nat->Nat)(mk:aR),p.1=cT us rs 0->gK z rs us [p] ss S mk->Q (b7 T .o (ef rs us ss S mk))
theorem B5(T:Tx w K mg){z:Bool}:aK P w K mg base bJ 6 T.qy.a T.qy.d ["rows","unknowns"] (bP K z 0 2 (HF T)):=by
 refine cj T.qy.F UN rfl (by decide) λa7 A outer s H E J L r=>?_
 refine⟨_,(aP (gJ 2 (Br T.tK (Vu T) T.KZ (QA.ay (aq (qv 0) (aq (qv 1) aF)))))
  (aP (xU (nG (cV 2) (eS T T.qC (Bp T)) (kQ (eh (eS T T.qN (DU T)) (qv 2) (aq (m9 T.wC) aF)) oN)))
  (a8 (kE (kT 2))))),?_⟩
 rintro M I _ ⟨_,f,g,rs,us,D,_,_,rfl,i,q⟩;obtain⟨p,B⟩:=i.k 0;have u:=U5 (z:=D) (rs:=rs) (us:=us);walk_at"";refine SN T i.b ⟨qH T _,yA rfl (by intro z;cases z) (fG T ?_)⟩;rw[JW];walk_at"";simp only[eQ,fE,dE,d8,dW];refine fG T ⟨rfl,.l false,rs,us,[],S0 rs us,[],_,inferInstance,rfl,i.b,λo m=>⟨(i.s o m).1,by have:=(i.s o m).2;omega⟩,λ_=>?_⟩;walk_at"";refine⟨rfl,.f,rs,us,[],S0 rs us,[],cT us rs 0,inferInstance,rfl,i.y,Bf,u.n,p,by simp,by simp,λx G r C j e=>?_⟩;dsimp only;rw[e,dW];refine⟨oB T _,?_⟩;rw[dW];exact⟨oB T _,q _ _ _ _ rfl (u.step (by have:=i.h.2;omega) p G r C (B x G)) _⟩
def lM:bV:=([],"",0,0,1)
def pick(rs:ax)(ks:aH):ax:=ks.map λk=>rs.getD k.toNat lM
def Val(rs:ax)(ks:aH):Prop:=∀k∈ks,0<=k/\k.toNat<rs.length
theorem uT{rs:ax}{ks:aH}(h:Val rs ks){k:Int}(m:k∈ks):cQ rs k=some (rs.getD k.toNat lM):=by
 obtain⟨a,b⟩:=h k m;rw[su rs a b,getD_eq_getElem?_getD,getElem?_eq_getElem b];rfl
theorem Fw{rs:ax}{us:aj}{ks:aH}(b:∀o∈rs,iw 39 20 20 us o)(d:us.length<=8)(a:ks.length<=10)(e:Val rs ks):vQ 637 (pick rs ks) us:=
 xp (λo m=>by
  obtain⟨k,mk,rfl⟩:=mem_map.mp m;rw[getD_eq_getElem?_getD,getElem?_eq_getElem (e k mk).2];exact b _ (getElem_mem _)) (by unfold pick;rw[length_map];exact a) d
theorem PZ{rs:ax}{us:aj}{a:aB}(h:∀y∈a,bs y<=637)(hs:∀o∈rs,bi (bz us o)<=100):∀x∈nM rs us a,bs x<=1500:=by
 intro x m;unfold nM at m;obtain⟨i,_,rfl⟩:=mem_map.mp m;have at':∀j,bs (a.getD j 0)<=637:=λj=>by
  rw[getD_eq_getElem?_getD];cases e:a[j]? with
  |none=>show bs 0<=637;rw[kZ];decide
  |some y=>exact h y (mem_of_getElem? e)
 unfold tH;cases e:rs[i]? with
 |none=>show bs 0 <= 1500;rw[kZ];decide
 |some o=>
  have so:=hs o (mem_of_getElem? e);have g:=at' (us.length+2*i);have l:=at' (us.length+2*i+1);have b:=tN so;have d:=tN (x:=-bz us o) (by unfold bi;rw[natAbs_neg];exact so);have f:bs (Rat.divInt (bz us o) 2)<=100:=kD (by decide) so (by walk_at "k");show bs (qE _ _ _ _)<=1500;unfold qE;split
  .have:=vt (a.getD (us.length+2*i+1) 0) (bz us o:Rat);omega
  .split
   .have:=vt (a.getD (us.length+2*i) 0) ((-bz us o:Int):Rat);omega
   .have:=vt (a.getD (us.length+2*i+1) 0 - a.getD (us.length+2*i) 0) (Rat.divInt (bz us o) 2);have:=q4 (a.getD (us.length+2*i+1) 0) (a.getD (us.length+2*i) 0);omega
def dK(d:List (Int×Rat)):bA:=d.map λp=>((Sum.inl p.1:aU),ae.t p.2)
theorem lp(d:List (Int×Rat)):kF (dK d)=true:=by
 have:=j9 (d.map λp=>((Sum.inl p.1:aU),p.2));rw[map_map] at this;exact this
def nq(d:List (Int×Rat))(y:Int)(k:Rat):List (Int×Rat):=if (d.any λp=>decide (p.1=y))=true then d.map (λp=>if p.1=y then (p.1,k) else p) else d++[(y,k)]
theorem Up(d:List (Int×Rat))(y:Int)(k:Rat):iQ (dK d) (Sum.inl y) (ae.t k)=dK (nq d y k):=by
 unfold iQ nq;have e:((dK d).any λa=>decide (a.1=(Sum.inl y:aU)))=d.any λp=>decide (p.1=y):=by
  unfold dK;rw[List.any_map];congr 1;funext p;exact decide_eq_decide.mpr ⟨λz=>Sum.inl.inj z,λz=>by show (Sum.inl p.1:aU)=_;rw[z]⟩
 rw[e];split
 .unfold dK;rw[map_map,map_map];refine map_congr_left λp _=>?_
  show (if (Sum.inl p.1:aU)=Sum.inl y then ((Sum.inl p.1:aU),ae.t k) else (Sum.inl p.1,ae.t p.2))=(Sum.inl (if p.1=y then (p.1,k) else p).1,ae.t (if p.1=y then (p.1,k) else p).2)
  by_cases h:p.1=y
  .rw[if_pos h,if_pos (by rw[h])]
  .rw[if_neg h,if_neg (λz=>h (Sum.inl.inj z))]
 .unfold dK;rw[map_append];rfl
theorem PR{d:List (Int×Rat)}{y:Int}{k:Rat}{ks:aH}(h:∀p∈d,p.1∈ks)(a:y∈ks):∀p∈nq d y k,p.1∈ks:=λp m=>by
 unfold nq at m;split at m
 .obtain⟨p',mp,rfl⟩:=mem_map.mp m;split
  .exact h p' mp
  .exact h p' mp
 .rcases mem_append.mp m with z |z
  .exact h p z
  .rw[mem_singleton.mp z];exact a
theorem UE(d:List (Int×Rat))(y:Int)(k:Rat):(nq d y k).length<=d.length+1:=by
 unfold nq;split
 .rw[length_map];omega
 .rw[length_append];exact le_refl _
theorem zE(d:List (Int×Rat)):Pu.ay (.aS .o (dK d))=.aS .f (dK d):=by show Tr.aS .f (ee _)=_;rw[show ee (dK d)=dK d from (cU _ (lp d)).f]
theorem Qh(T:Tx w K mg)(S:gp):Pu.ay (bY T .o S)=bY T .f S:=by
 unfold bY fJ;show Tr.ins .f _ (fx _)=_;simp only[fx,gm,DS,fH,show Pu.ay (.aS .o (mT S.m))=.aS .f (mT S.m) from by show Tr.aS .f (ee _)=_;rw[show ee (mT S.m)=mT S.m from (cU _ (j9 S.m)).f]];rfl
theorem Bk(T:Tx w K mg)(S:gC):Pu.ay (b7 T .o S)=b7 T .f S:=by
 unfold b7 gA;show Tr.ins .f _ (fx _)=_;simp only[fx,gm,Qh,fH];rfl
def Ui:bO:=cW 3 λa Q=>∃(f g h:Fl)(rs:ax)(us:aj)(ks:aH)(_:Fp f)(_:Fp g)(_:Fp h),a=[.ag f (rs.map ae.t),.ag g (us.map ae.t),.ag h (ks.map ae.t)]/\(∀o∈rs,iw 39 20 20 us o)/\us.length<=8/\ks.length<=10/\Val rs ks/\∀d:List (Int×Rat),(∀p∈d,p.1∈ks)->d.length<=ks.length->Q (.aS .o (dK d))
theorem DD(T:Tx w K mg){z:Bool}:aK P w K mg base bJ 7 T.qY.a T.qY.d ["rows","unknowns","numbers"] (bP K z 0 3 Ui):=by
 refine cj T.qY.F SG rfl (by decide) λa7 A outer s H E hr hu hN=>?_
 refine⟨_,(aP (bF 3 (qc T.qy (B5 T) (aq (iq ["number","rows"] [none,some 0] (fu (qv 2)) (eP 0) (λ_ _ _ _ _=>(aW (qv 1) (qv 0)))) (aq (qv 1) aF))))
  (aP (bF 4 (eh (eS T T.oC (yM T)) (qv 3) (aq az aF)))
  (aP (gJ 5 rp)
  (aP (da (cc fZ fW (qv 4) (iM [0,1] T.i8 T.i4)) (a8 (kE (kT 5))) c9)
  (aP (gb (oq T.n6 (aq (qv 2) (aq (eh (eS T T.qK (A1 T)) (qv 3) (aq (aW (cA K (qv 3)) az) aF)) aF))) (jZ (n:=2) rfl (fL (dI 6) (fL (dI 7) jS))) (a8 (da (cc i6 i5 (qv 7) (iM [0,1] T.i8 T.i4)) (a8 (tp (cV 5) (qv 6) (qc T.qW (CS T) (aq (qv 7) (aq (qv 4) aF))))) c9)))
  (a8 (kE (kT 5)))))))),?_⟩
 rintro xs Q' _ ⟨_,f,g,h,rs,us,ks,_,_,_,rfl,M,O,I,Y,q⟩;have C:=Fw M O I Y;walk_at"";refine bg.map ks _ (λk=>rs.getD k.toNat lM) (by omega) (λk mk R C=>?_) ?_
 .walk_at"";exact dQ _ _ _ (uT Y mk) C
 walk_at"";refine⟨rfl,.f,g,pick rs ks,us,637,inferInstance,‹_›,rfl,C,λp ss S mk hp U _=>?_⟩;obtain⟨e,l,B,_⟩:=U.v 0 p rfl;have u:=U.r _ (mem_of_getElem? B);have D:∀y∈e++[l],bs y<=637:=λy m=>u.2.bs (le_refl _) m
 have α:=D l (mem_append.mpr (.inr (.head _)));have Q:=C.b.r;rw[Bk];simp only[eQ,fE,dE,d8,dW];refine⟨qH T _,fG T ⟨rfl,.f,_,0,e,l,inferInstance,rfl,B,by omega,λ_=>?_⟩⟩;have J:=q4 0 l;rw[kZ] at J;walk_at"";refine⟨rfl,nD ?_⟩;walk_at"";by_cases N:0 - l=0
 .rw[if_pos (decide_eq_true N)];exact⟨rfl,q [] (λ_ m=>(nomatch m)) (zero_le _) _⟩
 .rw[if_neg (by simpa using N)];refine fG T (n9 T ?_);rw[gG,gB];refine dQ _ _ _ (eF (s:=0) B) ?_;rw[gm,jm];refine⟨rfl,.f,.f,pick rs ks,us,ss,S,mk,e++[l],inferInstance,inferInstance,rfl,by omega,u.1,λy m=>le_trans (D y m) (by omega),λo m=>(C.s o m).2,λ_=>?_⟩;have L:=PZ (rs:=pick rs ks) (us:=us) D λo m=>(C.s o m).2
  dsimp only;rw[fH,Bool.true_and,fO,jn,sP];refine⟨f6 _,Loop.map (ks.zip (nM (pick rs ks) us (e++[l]))) _ (λi j=>∃(d:List (Int×Rat))(a b:Tr),j=[.ag f (rs.map ae.t),.ag g (us.map ae.t),.ag h (ks.map ae.t),b7 T .f (ef (pick rs ks) us ss S mk),ae.t (0 - l),.aS .o (dK d),a,b]/\(∀p∈d,p.1∈ks)/\d.length<=i) ⟨[],_,_,rfl,λ_ m=>(nomatch m),le_refl _⟩ ?_ ?_⟩
  .rintro i ⟨k,x⟩ j hi ⟨d,a,b,rfl,hd,hdl⟩;have hm:=of_mem_zip (mem_of_getElem? hi);have G:=(List.getElem?_eq_some_iff.mp hi).1;rw[length_zip] at G;walk_at"";refine nD ?_;walk_at"";by_cases hx:x=0
   .rw[if_neg (by simp[hx])];exact⟨d,_,_,rfl,hd,by omega⟩
   .rw[if_pos (by simp[hx])];have:=L x hm.2
    skip
    refine⟨rfl,x,0 - l,rfl,N,by omega,λ_=>?_⟩;dsimp only;rw[gm,Up];exact⟨gF _,by unfold dK;rw[length_map];omega,_,_,_,rfl,PR hd hm.1,le_trans (UE _ _ _) (by omega)⟩
  .rintro j ⟨d,a,b,rfl,hd,hdl⟩;walk_at"";rw[length_zip] at hdl;exact⟨(cU _ (lp d)).o,q d hd (by omega) _⟩
def KD:bO:=cW 3 λa Q=>∃(f g h:Fl)(rs:ax)(us:aj)(ks:aH)(_:Fp f)(_:Fp g)(_:Fp h),a=[.ag f (rs.map ae.t),.ag g (us.map ae.t),.ag h (ks.map ae.t)]/\(∀o∈rs,iw 39 20 20 us o)/\us.length<=8/\ks.length<=10/\Val rs ks/\∀d:List (Int×Rat),Q (.aS .f (dK d))
theorem G6(T:Tx w K mg):aK P w K mg base bJ 8 T.ro.a T.ro.d ["rows","unknowns","numbers"] (bP K true 0 3 KD):=by
 refine cj T.ro.F Hm rfl (by decide) λa7 A outer s H E Y hu U=>?_
 refine⟨_,(aP (bF 3 (qc T.qY (DD T) (aq (qv 0) (aq (qv 1) (aq (qv 2) aF)))))
  (aP (gb (fu (kx (kq rfl) kM T.ia (aq (qv 3) aF))) (dI 4) (a8 (da (cc EK Aq (qv 4) (qv 3)) (aP (bF 5 (qc T.qY (DD T) (aq (qv 0) (aq (qv 1) (aq (P8 rfl (TL (Dm (N:=["other","number"]) (ix:=[none,some 4]) rfl (NW (pv 3)) (λ_ _ _ _ _=>vV (show (["other","number"]:aj).Nodup by decide) rfl (.inl rfl) (.inr rfl)) (λ_ _ _ _ _=>DZ (BH AN (pv 0) (pv 1) (NX _))) (λ_ _ _ _ _=>pv 0) ⟨rfl,rfl,rfl,True.intro⟩))) aF)))))
  (a8 (bF 3 (sA (Li rfl (qv 5)) (qv 5) (qv 3))))) c9)))
  (a8 (b5 (qv 3))))),?_⟩
 rintro xs Q _ ⟨_,f,g,h,rs,us,ks,_,_,_,rfl,y,z,I,L,q⟩;walk_at"";refine⟨rfl,f,g,h,rs,us,ks,‹_›,‹_›,‹_›,rfl,y,z,I,L,λd hd O _=>?_⟩;dsimp only;rw[zE];walk_at"";have r:∀d:List (Int×Rat),(dK d).map (λp=>lO p.1)=(d.map (·.1)).map ae.t:=λd=>by
  unfold dK;rw[map_map,map_map];rfl
 have G:∀d:List (Int×Rat),(dK d).map (·.1)=(d.map (·.1)).map λn=>(Sum.inl n:aU):=λd=>by
  unfold dK;rw[map_map,map_map];rfl
 refine⟨(cU _ (lp d)).t,?_⟩;rw[xK,r,fH,fO,jn];refine⟨f6 _,Loop.map (d.map (·.1)) _ (λ_ j=>∃(e:List (Int×Rat))(a b:Tr),j=[.ag f (rs.map ae.t),.ag g (us.map ae.t),.ag h (ks.map ae.t),.aS .f (dK e),a,b]/\(∀p∈e,p.1∈ks)/\e.length<=10) ⟨d,_,_,rfl,hd,by omega⟩ ?_ ?_⟩
 .rintro i k j hi ⟨e,a,b,rfl,hd',hl'⟩;walk_at"";show if ((look (dK e) (Sum.inl k)).isSome)=true then _ else _
  split
  .refine⟨dK e,e.map (·.1),k,rfl,G e,rfl,by rw[length_map];omega,?_⟩;have m:Val rs ((e.map (·.1)).filter λx=>!decide (x=k)):=λx J=>by
    obtain⟨p,B,rfl⟩:=mem_map.mp (mem_filter.mp J).1;exact L _ (hd' p B)
   have l:((e.map (·.1)).filter λx=>!decide (x=k)).length<=10:=le_trans (length_filter_le _ _) (by rw[length_map];exact hl');have u:∀x∈(e.map (·.1)).filter (λx=>!decide (x=k)),x∈ks:=λx J=>by
    obtain⟨p,B,rfl⟩:=mem_map.mp (mem_filter.mp J).1;exact hd' p B
   generalize (e.map (·.1)).filter (λx=>!decide (x=k))=fs at m l u ⊢;have M:cp (bp (fs.map Tr.int))=fs.map ae.t:=by rw[show fs.map Tr.int=fs.map ae.t from rfl,nA,qU]
   rw[M];refine⟨rfl,f,g,.f,rs,us,fs,‹_›,‹_›,inferInstance,rfl,y,z,l,m,λC D jQ _=>?_⟩;dsimp only;rw[zE];walk_at"";refine⟨(cU _ (lp C)).t,?_⟩;split
   .exact⟨(cU _ (lp C)).t,C,_,_,rfl,λp B=>u _ (D p B),by omega⟩
   .exact⟨(cU _ (lp e)).t,e,_,_,rfl,hd',hl'⟩
  .exact⟨e,_,_,rfl,hd',hl'⟩
 .rintro j ⟨e,a,b,rfl,hd',hl'⟩;walk_at"";exact⟨(cU _ (lp e)).o,q e _⟩
theorem Ht(T:Tx w K mg):aK P w K mg base bJ 1 T.k6.a T.k6.d ["self","numbers","weights"] (yX K T.aby):=by
 refine T.k6.F.ok S1 (λvs H Q E h=>?_) λa7 A outer s H vs Q E f h=>?_
 .obtain⟨_,_,_,_,_,rfl,_⟩:=h;rfl
 .obtain⟨e,a,b,xs,ys,rfl,he,ha,hb,q⟩:=h;exact⟨_,vc (tJ (G8 T.k6.t rfl T.LQ (ju (pv 0) (ju D5 jT)))) (vc (As T.k6.t T.Sr (pv 0) (l9 uZ rfl T.ia rfl (ju (pv 1) jT)) rfl) (w1 (As T.k6.t T.U1 (pv 0) (l9 uZ rfl T.ia rfl (ju (pv 2) jT)) rfl))),Wl (Q:=Q) he ha hb q⟩
def P0(T:Tx w K mg):fN:=λa Q q=>a.length=3/\∃(f g h:Fl)(rs:ax)(us:aj)(ks:aH)(_:Fp f)(_:Fp g)(_:Fp h),a=[.ag f (rs.map ae.t),.ag g (us.map ae.t),.ag h (ks.map ae.t)]/\(∀o∈rs,iw 39 20 20 us o)/\us.length<=8/\ks.length<=10/\Val rs ks/\
 (∀(p:aB×ew)(ss:br)(S:Nat->Nat)(mk:aR),p.1=cT us (pick rs ks) 0->gK 637 (pick rs ks) us [p] ss S mk->p.2.2.1≠0->q (.ref T.aby))/\
 (∀(p:aB×ew)(ss:br)(S:Nat->Nat)(mk:aR),p.1=cT us (pick rs ks) 0->gK 637 (pick rs ks) us [p] ss S mk->p.2.2.1=0->∀j,Q (b7 T .o (ef (pick rs ks) us ss S mk)) j)
theorem O4(T:Tx w K mg):aK P w K mg base (fj P w) 9 T.rZ.a T.rZ.d ["rows","unknowns","numbers"] (ib K true 0 3 (P0 T)):=by
 refine se T.rZ.F HB rfl (by decide) λa7 A outer s H E q Y hu hN=>?_
 refine⟨_,(aP (gJ 3 (qc T.qy (B5 T) (aq (iq ["number","rows"] [none,some 0] (fu (qv 2)) (eP 0) (λ_ _ _ _ _=>(aW (qv 1) (qv 0)))) (aq (qv 1) aF))))
  (aP (da (cc fZ fW (eh (eS T T.oC (yM T)) (qv 3) (aq az aF)) (iM [0,1] T.i8 T.i4)) (a8 (kE (kT 3))) c9)
  (aP (bF 4 (qc T.ro (G6 T) (aq (qv 0) (aq (qv 1) (aq (iq ["number","rows"] [none,some 0] (fu (qv 2)) (eP 0) (λ_ _ _ _ _=>(qv 0)) (ht:=λ_ _ _ _ _=>(B1 (cc fZ fW (aW (aW (qv 1) (qv 0)) az) (m9 T.wC))))) aF)))))
  (a8 (GG rfl rfl rfl rfl rfl rfl T.AX T.k6.t ((Ht T).mono (by omega)) Y T.k6.b (aq (kx (kq rfl) kM T.ia (aq (qv 4) aF)) (aq (Q7 rfl rfl T.ia (qv 4)) aF))))))),?_⟩
 rintro xs Q' _ ⟨_,f,g,h,rs,us,ks,_,_,_,rfl,D,G,y,L,q1,q2⟩;have M:=Fw D G y L;walk_at"";refine bg.map ks _ (λk=>rs.getD k.toNat lM) (by omega) (λk mk R M=>?_) ?_
 .walk_at"";exact dQ _ _ _ (uT L mk) M
 walk_at"";refine⟨rfl,.f,g,pick rs ks,us,637,inferInstance,‹_›,rfl,M,λp ss S mk N o _=>?_⟩;obtain⟨I,J,n,O⟩:=o.v 0 p rfl;have C:=o.r _ (mem_of_getElem? n);have α:=C.2.bs (le_refl _) (mem_append.mpr (.inr (.head _)):J∈I++[J]);have B:=mul_pos (o.c p (.head _)).2 (gR p.1 1 (by decide)).1;have i:0 - J=0↔p.2.2.1=0:=by
  rw[O];constructor
  .intro e;rw[<- Rat.zero_divInt 1] at e;have:=(Rat.divInt_eq_divInt_iff (ne_of_gt B) (by decide)).mp e;omega
  .intro e;rw[e,Rat.zero_divInt]
 try simp only[eQ,fE,dE,d8,dW]
 refine⟨qH T _,fG T ⟨rfl,.l false,_,0,I,J,inferInstance,rfl,n,by omega,λ_=>?_⟩⟩;walk_at"";refine nD ?_;walk_at"";by_cases ht:0 - J=0
 .rw[if_pos (decide_eq_true ht)];exact⟨oB T _,q2 p ss S mk N o (i.mp ht) _⟩
 .rw[if_neg (by simpa using ht)];have u:=q1 p ss S mk N o λz=>ht (i.mpr z)
  have m:Val rs (ks.filter λk=>decide ((rs.getD k.toNat lM).2.2.2.1=0)):=λx mx=>L x (mem_filter.mp mx).1
  have j:(ks.filter λk=>decide ((rs.getD k.toNat lM).2.2.2.1=0)).length<=10:=le_trans (length_filter_le _ _) y;refine bg.filter ks ae.t (λk=>decide ((rs.getD k.toNat lM).2.2.2.1=0)) id (by omega) (λk mk A R Q U=>?_) ?_
  .walk_at"";refine dQ _ _ _ (uT L mk) ?_;walk_at"";split
   .next z=>exact Q z
   .next z=>exact U (by simpa using z)
  .rw[List.map_id];generalize (ks.filter λk=>decide ((rs.getD k.toNat lM).2.2.2.1=0))=fs at m j;rw[fH,jm];refine⟨rfl,f,g,.f,rs,us,fs,‹_›,‹_›,inferInstance,rfl,D,G,j,m,λd _=>⟨(cU _ (lp d)).t,?_⟩⟩;walk_at"";rw[xK];exact u
def ko(us:aj):List (Int ⊕ Str):=([1,2,3,4]:aH).map Sum.inl++us.map Sum.inr
theorem Jg(us:aj):(([1,2,3,4]:aH).map ae.t++us.map ae.t)=(ko us).map ae.t:=by
 unfold ko;rw[map_append,map_map,map_map];rfl
def RZ:bO:=cW 1 λa Q=>∃(f:Fl)(us:aj)(_:Fp f),a=[.ag f (us.map ae.t)]/\us.length<=100/\Q (.ag .o ((ko us).map ae.t))
theorem Rl(T:Tx w K mg){z:Bool}:aK P w K mg base bJ 1 T.sr.a T.sr.d ["unknowns"] (bP K z 0 1 RZ):=by
 refine cj T.sr.F Nc rfl (by decide) λa7 A outer s H E h j g=>?_
 refine⟨_,(a8 (b5 (eN (MB rfl rfl T.ia rfl T.lh (aq az (aq (eN (m9 T.BW) az) aF))) (kx (kq rfl) kM T.ia (aq (qv 0) aF))))),?_⟩;rintro l e _ ⟨_,f,us,_,rfl,b,q⟩;walk_at"";refine⟨1,4,rfl,rfl,by decide,by decide,by decide,?_⟩;dsimp only;rw[show (List.range 4).map (λi:Nat=>Tr.int (1+i))=([1,2,3,4]:aH).map ae.t from rfl,yu,Jg];exact⟨by rw[length_map,length_map];show 4+us.length<=1000000;omega,nj _,q _⟩
def qo(rs:ax)(us vs:aj):br:=([0,1,2,3,4]:aH).map (cT us rs)++vs.map λu=>dF us rs.length [(u,1)]
theorem SD(u x:Str):(b9 [(u,(1:Rat))] x).getD 0=0\/(b9 [(u,(1:Rat))] x).getD 0=1:=by
 by_cases e:u=x
 .rw[EU (p:=(u,(1:Rat))) e];exact .inr rfl
 .left;simp[b9,e]
def gk(x:aB):Tr:=.ag .o (x.map ae.t)
theorem tT:∀B:br,bp (B.map gk)=B.map ae.t
 |[]=>rfl
 |x::B=>by show Pu.ay (.ag .o (x.map ae.t))::bp (B.map gk)=ae.t x::_;rw[fH,tT B]
theorem Bz:∀(A B:ah),bp (A++B)=bp A++bp B
 |[],_=>rfl
 |a::A,B=>by show Pu.ay a::bp (A ++ B)=_;rw[Bz A B];rfl
theorem Sl(A B:br):Pu.ay (.ag .o (A.map ae.t++B.map gk))=.ag .f ((A++B).map ae.t):=by
 show Tr.ag .f (bp _)=_;rw[Bz,nA,tT,map_append]
theorem lz(B:br):Pu.ay (.ag .o (B.map gk))=ae.t B:=by
 show Tr.ag .f (bp _)=_;rw[tT];rfl
theorem BC:∀B:br,cu (B.map gk)=true
 |[]=>rfl
 |x::B=>by show (cu (x.map ae.t)&&cu (B.map gk))=true;rw[f6,BC B];rfl
theorem EO:∀B:br,cy (B.map gk)=true
 |[]=>rfl
 |x::B=>by show (cy (x.map ae.t)&&cy (B.map gk))=true;rw[nj,EO B];rfl
theorem Ft:∀A B:ah,cy (A++B)=(cy A&&cy B)
 |[],_=>rfl
 |a::A,B=>by show (cE a&&cy (A ++ B))=(cE a&&cy A&&cy B);rw[Ft A B,Bool.and_assoc]
def TX(T:Tx w K mg):bO:=cW 2 λa Q=>∃(f g:Fl)(rs:ax)(us vs:aj)(ss:br)(S:Nat->Nat)(mk:aR)(_:Fp f)(_:Fp g),a=[b7 T f (ef rs us ss S mk),.ag g (vs.map ae.t)]/\oM rs us/\(∀o∈rs,0<bz us o/\bi (bz us o)<=3000)/\vs.length<=100/\Q (.ag .o ((([0,1,2,3,4]:aH).map (cT us rs)).map ae.t++(vs.map λu=>dF us rs.length [(u,1)]).map gk))
theorem NR(T:Tx w K mg){z:Bool}:aK P w K mg base bJ 4 T.rE.a T.rE.d ["sheet","unknowns"] (bP K z 0 2 (TX T)):=by
 refine cj T.rE.F Py rfl (by decide) λa7 A outer s H E p r o=>?_
 refine⟨_,(aP (ma 2 ["rank","sheet"] [none,some 0] (U0 T.lh (aq (m9 T.wC) (aq (eN (m9 T.BW) az) aF))) (eP 0) (λ_ _ _ _ _=>(eh (eS T T.qN (DU T)) (qv 1) (aq (qv 0) aF))))
  (a8 (b5 (eN (qv 2) (iq ["unknown","sheet"] [none,some 0] (fu (qv 1)) (eP 0) (λ_ _ _ _ _=>(eh (eS T T.tm (GB T)) (qv 1) (aq (Nq (O9 (qv 0) (iM [1,1] T.VH T.NG) Tg) (hp:=Nat.le_of_ble_eq_true rfl)) aF)))))))),?_⟩
 rintro y m _ ⟨_,f,g,rs,us,vs,ss,S,mk,_,_,rfl,e,b,l,q⟩;walk_at"";rw[eQ,f9];rw[show List.map (λn:Nat=>Tr.int (0+n)) (List.range (4+1 - 0:Int).toNat)=([0,1,2,3,4]:aH).map ae.t from rfl];refine⟨by decide,bg.jE _ _ (λk=>gk (cT us rs k)) (by decide) (λk _ R h=>?_) ⟨?_,?_⟩⟩
 .walk_at"";rw[dW];exact fG T ⟨rfl,f,rs,us,ss,S,mk,k,‹_›,by rw[fE,ik],e,b,λ_=>h⟩
 .exact BC (([0,1,2,3,4]:aH).map (cT us rs))
 rw[show List.map (λk=>gk (cT us rs k)) ([0,1,2,3,4]:aH)=(([0,1,2,3,4]:aH).map (cT us rs)).map gk from rfl,lz,kA];generalize i:([0,1,2,3,4]:aH).map (cT us rs)=A at q ⊢;have j:A.length=5:=by rw[<- i];rfl
 walk_at"";refine bg.jE vs _ (λu=>gk (dF us rs.length [(u,(1:Rat))])) (by omega) (λu _ R h=>?_) ?_
 .walk_at"";rw[dW];refine fG T ?_;show (List.map (λx=>x.fst) [((Sum.inr u:aU),ae.t (1:Rat))]).Nodup/\Df T [dn (b7 T f (ef rs us ss S mk)),Tr.aS .f (gX (ee [((Sum.inr u:aU),ae.t (1:Rat))]))] _;refine⟨by simp,rfl,f,.f,rs,us,ss,S,mk,[(u,1)],‹_›,inferInstance,by rw[fE,ik];rfl,e,λ_=>h⟩
 .rw[show List.map (λu=>gk (dF us rs.length [(u,(1:Rat))])) vs=(vs.map λu=>dF us rs.length [(u,1)]).map gk from by rw[map_map];rfl,show (ae.t A:Tr)=.ag .f (A.map ae.t) from rfl,yu];refine⟨by simp only[length_map,j];omega,?_,q _⟩;show cy _=true;rw[Ft,nj,EO];rfl
theorem Fn{j:Type}(x:j)(r:List j):g6 (x::r) (some 1) none=r:=by
 have a:HT.dq (x::r).length 0 (some 1)=1:=by
  unfold HT.dq;simp
 have b:HT.dq (x::r).length (x::r).length none=(x::r).length:=rfl;unfold g6;rw[a,b];simp
def k7(n:Nat):aH:=(List.range n).map λi:Nat=>(i:Int)
theorem zl(rs:ax):pick rs (k7 rs.length)=rs:=by
 unfold pick k7;rw[map_map];refine List.ext_getElem (by simp) λi b a=>?_
 simp only[List.getElem_map,List.getElem_range,Function.comp];rw[Int.toNat_natCast,getD_eq_getElem?_getD,getElem?_eq_getElem a];rfl
theorem J3(rs:ax):Val rs (k7 rs.length):=λk m=>by
 obtain⟨i,a,rfl⟩:=mem_map.mp m;exact⟨Int.natCast_nonneg _,by rw[Int.toNat_natCast];exact mem_range.mp a⟩
def SA(T:Tx w K mg):fN:=λb Q q=>b.length=2/\∃(f g:Fl)(rs:ax)(us:aj)(_:Fp f)(_:Fp g),b=[.ag f (rs.map ae.t),.ag g (us.map ae.t)]/\(∀o∈rs,iw 39 20 20 us o)/\rs.length<=10/\us.length<=8/\
 (∀(p:aB×ew)(ss:br)(S:Nat->Nat)(mk:aR),p.1=cT us rs 0->gK 637 rs us [p] ss S mk->p.2.2.1≠0->q (.ref T.aby))/\
 (∀(a:List (aB×ew))(ss:br)(S:Nat->Nat)(mk:aR),a.map (·.1)=qo rs us us->(∀p,a[0]?=some p->p.2.2.1=0)->gK 637 rs us a ss S mk->∀j,Q (b7 T .o (ef rs us ss S mk)) j)
theorem GA(T:Tx w K mg):aK P w K mg base (fj P w) 10 T.ub.a T.ub.d ["rows","unknowns"] (ib K true 0 2 (SA T)):=by
 refine se T.ub.F S6 rfl (by decide) λa7 A outer s H E q hr hu hN=>?_
 refine⟨_,(aP (QN (s9 T.rH (JU T) (aq (qv 0) (aq (qv 1) aF))))
  (aP (gJ 2 (s9 T.rZ (O4 T) (aq (qv 0) (aq (qv 1) (aq (So rfl rfl T.ia rfl T.lh (fC hV hX T.g8 (aq (qv 0) aF))) aF)))))
  (aP (gb (fu (qx (qc T.rE (NR T) (aq (qv 2) (aq (qv 1) aF))) (oG az) sE)) (dI 3) (a8 (xU (nG (cV 2) (eS T T.qC (Bp T)) (kQ (qv 3) oN)))))
  (a8 (kE (kT 2)))))),?_⟩
 rintro xs Q' _ ⟨_,f,g,rs,us,_,_,rfl,L,h1,h2,q3,Q⟩;walk_at"";refine⟨rfl,f,g,rs,us,‹_›,‹_›,rfl,λh=>absurd h (by omega),λ_ _ j=>?_⟩;refine⟨rs.length,rfl,by omega,?_⟩;dsimp only;rw[show (List.range rs.length).map (λi:Nat=>Tr.int (i:Int))=(k7 rs.length).map ae.t from by unfold k7;rw[map_map];rfl,fH,jm];have α:(k7 rs.length).length=rs.length:=by unfold k7;rw[length_map,length_range]
 have C:=xp L h1 h2;have O:∀o∈rs,0<bz us o/\bi (bz us o)<=3000:=λo m=>⟨(C.s o m).1,by have:=(C.s o m).2;omega⟩
 refine⟨rfl,f,g,.f,rs,us,k7 rs.length,‹_›,‹_›,inferInstance,rfl,L,by omega,by omega,J3 rs,λp ss S mk J r N=>?_,λp ss S mk J r D _=>⟨qH T _,?_⟩⟩
 .rw[zl] at J r;exact q3 p ss S mk J r N
 rw[zl] at J r ⊢;rw[eQ];simp only[dE,dW];rw[show Pu.ay (b7 T (Fl.l true) (ef rs us ss S mk))=b7 T (Fl.l true) (ef rs us ss S mk) from rfl,fE];refine⟨rfl,.l false,g,rs,us,us,ss,S,mk,inferInstance,‹_›,rfl,C.b,O,by omega,λ_=>?_⟩;dsimp only;have ok:∀B∈(([1,2,3,4]:aH).map (cT us rs)++us.map λu=>dF us rs.length [(u,1)]),dP rs us B/\∀S,Lp.Gd rs.length (bj rs us) (Mx rs us) S->CD 637 637 (ie rs us B S):=λB mc=>by
  rcases mem_append.mp mc with m |m
  .obtain⟨k,_,rfl⟩:=mem_map.mp m;exact C.k k
  .obtain⟨u,_,rfl⟩:=mem_map.mp m;exact C.c _ (SD u)
 have el:(([1,2,3,4]:aH).map (cT us rs)++us.map λu=>dF us rs.length [(u,1)]).length=us.length+4:=by rw[length_append,length_map,length_map];simp;omega
 have ec:g6 ((([0,1,2,3,4]:aH).map (cT us rs)).map ae.t++(us.map λu=>dF us rs.length [(u,1)]).map gk) (some 1) none=((([1,2,3,4]:aH).map (cT us rs)).map ae.t++(us.map λu=>dF us rs.length [(u,1)]).map gk):=Fn _ _;have eg:qo rs us us=cT us rs 0::(([1,2,3,4]:aH).map (cT us rs)++us.map λu=>dF us rs.length [(u,1)]):=rfl;rw[yg,ec,Sl];rw[eg] at Q;generalize (([1,2,3,4]:aH).map (cT us rs)++us.map λu=>dF us rs.length [(u,1)])=cl at ok el Q;have I:bj rs us<=40:=by unfold bj;omega
 rw[jn];refine⟨f6 _,Loop.map cl _ (λi j=>∃(x:List (aB×ew))(ss:br)(S:Nat->Nat)(mk:aR)(a:Tr),j=[.ag f (rs.map ae.t),.ag g (us.map ae.t),b7 T .o (ef rs us ss S mk),a]/\gK 637 rs us x ss S mk/\x.map (·.1)=cT us rs 0::cl.take i/\∀p,x[0]?=some p->p.2.2.1=0) ⟨[p],ss,S,mk,_,rfl,r,by rw[List.take_zero];exact congrArg (·::[]) J,λp' e=>by cases e;exact D⟩ ?_ ?_⟩
 .rintro i B j hi ⟨x,ss,S,mk,a,rfl,r,eG,D⟩;have γ:=(List.getElem?_eq_some_iff.mp hi).1;obtain⟨hC,hD⟩:=ok B (mem_of_getElem? hi);have β:x.length=i+1:=by have:=congrArg List.length eG;rw[length_map,length_cons,length_take] at this;omega
  have δ:=r.s;have M:mk.length<=10000:=le_trans r.l (le_trans (mul_le_mul (show ss.length<=20 by omega) I) (by decide));walk_at"";refine yA rfl (by intro z;cases z) (fG T ?_);walk_at"";rw[fE];refine⟨rfl,.f,rs,us,ss,S,mk,B,inferInstance,rfl,C.y,r.g,r.n,hC,M,by omega,λU G hN hO j2 e=>?_⟩;dsimp only;rw[e,dW];refine⟨oB T _,?_⟩;refine⟨_,_,U,_,_,rfl,r.step (by omega) hC G hN hO (hD U G),?_,λp' Y=>?_⟩
  .rw[map_append,eG,take_add_one,hi];rfl
  .rw[getElem?_append_left (by omega)] at Y;exact D p' Y
 .rintro j ⟨x,ss,S,mk,a,rfl,r,eG,D⟩;walk_at""
  try rw[dW]
  rw[take_length] at eG;exact⟨oB T _,Q x ss S mk eG D r _⟩
theorem J4{j:Type}[ae j](xs:List j):List.mapIdx (λi x=>Tr.aG [Tr.int ((i+1:Nat):Int),x]) (xs.map ae.t)=xs.zipIdx.map λp=>Tr.aG [Tr.int ((p.2+1:Nat):Int),ae.t p.1]:=by
 refine List.ext_getElem (by simp) λi a b=>?_
 simp
def dM(p:aB×ew):Rat:=Rat.divInt p.2.2.1 (p.2.2.2*ck p.1)
def kh(us:aj)(a:List (aB×ew)):List ((Int ⊕ Str)×Rat):=(ko us).zip (a.tail.map dM)
def T1(T:Tx w K mg):fN:=λd Q q=>d.length=2/\∃(f g:Fl)(rs:ax)(us:aj)(_:Fp f)(_:Fp g),d=[.ag f (rs.map ae.t),.ag g (us.map ae.t)]/\(∀o∈rs,iw 39 20 20 us o)/\us.Nodup/\rs.length<=10/\us.length<=1/\
 (∀(p:aB×ew)(ss:br)(S:Nat->Nat)(mk:aR),p.1=cT us rs 0->gK 637 rs us [p] ss S mk->p.2.2.1≠0->q (.ref T.aby))/\
 (∀(a:List (aB×ew))(ss:br)(S:Nat->Nat)(mk:aR),a.map (·.1)=qo rs us us->(∀p,a[0]?=some p->p.2.2.1=0)->gK 637 rs us a ss S mk->∀(b:List (aB×aB)) j,Q (.aG [.aS .o ((sG rs us S).map λp=>((Sum.inr p.1:aU),ae.t p.2)),ae.t (kh us a),ae.t b]) j)
theorem S7(T:Tx w K mg):aK P w K mg base (fj P w) 11 T.uk.a T.uk.d ["rows","unknowns"] (ib K true 0 2 (T1 T)):=by
 refine se T.uk.F Mi rfl (by decide) λa7 A outer s H E q hr hu hN=>?_
 refine⟨_,(aP (bF 2 (s9 T.ub (GA T) (aq (qv 0) (aq (qv 1) aF))))
  (aP (gJ 3 (eC aF))
  (aP (gJ 4 (eC aF))
  (aP (gb (VC rfl T.pK (aq (qc T.sr (Rl T) (aq (qv 1) aF)) aF)) (jZ (n:=2) rfl (fL (dI 5) (fL (dI 6) jS))) (aP (jW (cV 3) (fF (aq (qv 6) (aq (eh (eS T T.oC (yM T)) (qv 2) (aq (qv 5) aF)) aF))))
  (aP (bF 7 (eh (eS T T.sy (Um T)) (qv 2) (aq (qv 5) aF)))
  (a8 (jW (cV 4) (fF (aq (aW (qv 7) az) (aq (qx (aW (qv 7) az) (oG az) sE) aF))))))))
  (uQ 4 (uQ 3 (a8 (b5 (fF (aq (CF (eS T T.rf (Mh T)) (qv 2)) (aq (qv 3) (aq (qv 4) aF)))))))))))),?_⟩
 rintro xs Q' _ ⟨_,f,g,rs,us,_,_,rfl,J,U,h1,h2,q1,q2⟩;walk_at"";refine⟨rfl,f,g,rs,us,‹_›,‹_›,rfl,J,h1,by omega,q1,λl ss S mk Y h0 p _=>?_⟩;have hR:=xp J h1 (show us.length<=8 by omega);have α:l.length=us.length+5:=by
  have:=congrArg List.length Y;unfold qo at this;rw[length_map,length_append,length_map,length_map] at this;simp at this;omega
 have δ:=p.s;dsimp only;rw[Bk];refine⟨qH T _,rfl,g,us,‹_›,rfl,by omega,λ_=>?_⟩;dsimp only;rw[fH,fO,jn,J4];have β:(ko us).length=us.length+4:=by unfold ko;rw[length_append,length_map,length_map];simp;omega
 refine⟨f6 _,Loop.map _ _ (λi j=>∃(b:List (aB×aB))(x y z:Tr),j=[.ag f (rs.map ae.t),.ag g (us.map ae.t),b7 T .f (ef rs us ss S mk),.ag .o (((kh us l).take i).map ae.t),.ag .o (b.map ae.t),x,y,z]/\b.length=i) ⟨[],_,_,_,rfl,rfl⟩ ?_ ?_⟩
 .rintro i ⟨gl,h⟩ j hi ⟨b,x,y,z,rfl,eb⟩;obtain⟨Q,ei⟩:=qb hi;dsimp only at Q ei;subst ei;have γ:h<(ko us).length:=(List.getElem?_eq_some_iff.mp Q).1;have D:h+1<ss.length:=by omega
  obtain⟨pg,G⟩:∃pg,l[h+1]?=some pg:=⟨_,getElem?_eq_getElem (by omega)⟩;obtain⟨r,v,C,ev⟩:=p.v (h+1) pg G;have I:=p.r _ (mem_of_getElem? C);have hv:=I.2.bs (le_refl _) (mem_append.mpr (.inr (.head _)):v∈r++[v]);have N:(kh us l).take (h+1)=(kh us l).take h++[(gl,0 - v)]:=by
   rw[take_add_one];congr 1;unfold kh;rw[List.getElem?_zip_eq_some.mpr (show (ko us)[h]?=some (gl,dM pg).1/\(l.tail.map dM)[h]?=some (gl,dM pg).2 from ⟨Q,by rw[getElem?_map,List.getElem?_tail,G];rfl⟩)];show [(gl,dM pg)]=_;rw[ev];rfl
  have O:=LW p.m p.r D (show h+1<=5 by omega) (by decide) (by decide);walk_at"";simp only[eQ,dE,dW,fE,d8];refine fG T ⟨rfl,.f,_,h+1,r,v,inferInstance,rfl,C,by omega,λ_=>?_⟩;dsimp only;rw[gF];refine⟨rfl,by rw[length_take];omega,fG T ⟨rfl,rs,us,ss,S,mk,h+1,rfl,by omega,by omega,D,by omega,p.m,O,λo m=>(hR.s o m).2,λ_=>?_⟩⟩;dsimp only;have ep:∀(A B:aB),Pu.ay (Tr.aG [.ag .o (A.map ae.t),.ag .o (B.map ae.t)])=.aG [ae.t A,ae.t B]:=λA B=>by
   show Tr.aG [Pu.ay _,Pu.ay _]=_;rw[fH,fH]
  have el:∀(A B:aB),aD (Tr.aG [ae.t A,ae.t B])=.aG [ae.t A,ae.t B]:=λA B=>kA (A,B)
  generalize nM rs us (pp ss mk (h+1) (h+1)).1=qA;obtain⟨L,u,M⟩:∃L u,(pp ss mk (h+1) (h+1)).2.reverse=L::u:=by
   cases e:(pp ss mk (h+1) (h+1)).2.reverse with
   |nil=>have:=congrArg List.length e;rw[List.length_reverse,vH] at this;cases this
   |cons L u=>exact⟨L,u,rfl⟩
  rw[M];rw[ep,el];refine⟨by show (cu (_:ah)&&(cu (_:ah)&&true))=true;rw[f6,f6];rfl,?_⟩;walk_at"";rw[fO,yg,map_cons,Fn,fH];rw[N,map_append,show List.map ae.t b++[Tr.aG [ae.t qA,ae.t u]]=(b++[(qA,u)]).map ae.t from by rw[map_append];rfl];exact⟨by show (true&&(cu _&&true))=true;rw[f6];rfl,by omega,b++[(qA,u)],_,_,_,rfl,by rw[length_append,eb];rfl⟩
 .rintro j ⟨b,x,y,z,rfl,eb⟩;walk_at"";simp only[eQ,dE,dW,fE,d8];rw[length_zipIdx,show (kh us l).take (ko us).length=kh us l from List.take_of_length_le (by unfold kh;rw[length_zip];omega)];exact fG T ⟨rfl,.f,rs,us,ss,S,mk,inferInstance,rfl,hR.y,p.g,U,by omega,λ_=>⟨by rw[show (cE (Tr.aS .o _))=true from (cU _ (Ap _)).o];rfl,q2 l ss S mk Y h0 p b _⟩⟩
theorem w9{j:Int}(h:j.natAbs<2 ^ 100):j.natAbs<2 ^ 8000:=lt_of_lt_of_le h (Nat.pow_le_pow_right (by decide) (by omega))
def NY:bO:=cW 2 λb Q=>∃(f:Fl)(a:aH)(k:Int),Fp f/\b=[.ag f (a.map ae.t),.int k]/\0<=k/\∀c:Int,Q (.int c)
theorem TQ(T:Tx w K mg){z:Bool}:aK P w K mg base bJ 1 T.tQ.a T.tQ.d ["_law_script","_law_k"] (bP K z 0 2 NY):=by
 refine cj T.tQ.F Jh rfl (by decide) λa7 A outer s H E i j h=>?_
 refine⟨_,(aP (da (cc jo jC (qv 1) (fC hV hX T.g8 (aq (qv 0) aF))) (a8 (b5 (aW (qv 0) (qv 1)))) c9)
  (a8 (b5 az))),?_⟩
 rintro l g _ ⟨_,f,b,k,_,rfl,e,q⟩;walk_at"";split
 .rename_i c;exact dQ _ _ _ (su b e (by have:=of_decide_eq_true c;omega)) ⟨iB _,q _ _⟩
 .exact q _ _
theorem xT{i j:Int}(h:-(2 ^ 64)<i/\i<2 ^ 64):j4 i j:=.inl (.inl h)
theorem E8{i j:Int}(h:-(2 ^ 64)<j/\j<2 ^ 64):j4 i j:=.inl (.inr h)
def PH:bO:=cW 2 λa Q=>∃(c k:Int),a=[.int c,.int k]/\∀r:Int,Q (.int r)
theorem jR(T:Tx w K mg){z:Bool}:aK P w K mg base bJ 1 T.iL.a T.iL.d ["_law_cell","_law_k"] (bP K z 0 2 PH):=by
 refine cj T.iL.F GC rfl (by decide) λa7 A outer s H E j l i=>?_
 refine⟨_,(aP (bF 2 (gj (cw (gj (eN (eN (qv 0) (cw az (qv 1))) az) az) az) az))
  (aP (bF 2 (gj (cw (qv 2) (eN (jO (qv 2) az) az)) az))
  (a8 (b5 (gj (cw (qv 2) (eN (jO (qv 2) az) az)) az))))),?_⟩
 rintro m h _ ⟨_,c,k,rfl,q⟩;walk_at"";have b:=emod_nonneg ((c+7919*k+1) % 2147483647*48271) (show (2147483647:Int)≠0 by decide);have e:=emod_lt_of_pos ((c+7919*k+1) % 2147483647*48271) (show (0:Int)<2147483647 by decide);generalize (c+7919*k+1) % 2147483647*48271 % 2147483647=u at b e;have f:=emod_nonneg (u*(u.fdiv 1009+69621)) (show (2147483647:Int)≠0 by decide);have g:=emod_lt_of_pos (u*(u.fdiv 1009+69621)) (show (0:Int)<2147483647 by decide);generalize u*(u.fdiv 1009+69621) % 2147483647=v at f g;exact⟨xT (by decide),by decide,E8 (by decide),by decide,⟨by decide,w9 (by decide)⟩,xT (by omega),by decide,⟨by decide,w9 (by decide)⟩,xT (by omega),by decide,q _ _⟩
def OM:bO:=cW 2 λd Q=>∃a b:Int,d=[.int a,.int b]/\0<=b/\Q (.int (gd a b))
theorem RH(T:Tx w K mg){z:Bool}:aK P w K mg base bJ 1 T.r9.a T.r9.d ["_law_one","_law_other"] (bP K z 0 2 OM):=by
 refine cj T.r9.F Sq rfl (by decide) λa7 A outer s H E n o l=>?_
 refine⟨_,(aP (xW (cc i6 i5 (qv 1) az) (a8 (Te 0 1 (aq (qv 1) (aq (gj (qv 0) (qv 1)) aF)))))
  (a8 (b5 (fC rV tM T.rG (aq (qv 0) aF))))),?_⟩
 rintro r i _ ⟨_,a,b,rfl,h,q⟩;refine⟨λm j=>∃x y,j=[.int x,.int y]/\0<=y/\gd x y=gd a b/\m=y.toNat,⟨_,a,b,rfl,h,rfl,rfl⟩,?_⟩;rintro m j ⟨x,y,rfl,p,e,rfl⟩;walk_at"";by_cases f:y=0
 .subst f;rw[if_neg (by decide)];rw[<- e] at q;have g:gd x 0=if x<0 then -x else x:=by
   unfold gd;rw[Int.gcd_zero_right];split<;>omega
  rw[g] at q;exact q _
 .rw[if_pos (by simp[f])];refine⟨by omega,(x % y).toNat,?_,_,_,rfl,emod_nonneg _ f,?_,rfl⟩
  .have:=emod_lt_of_pos x (show 0<y by omega);have:=emod_nonneg x f;omega
  .rw[<- e];unfold gd;have:=Int.emod_add_mul_ediv x y;rw[Int.gcd_comm x y,show x % y=x+y*(-(x / y)) by rw[Int.mul_neg];omega,Int.gcd_add_mul_left_right]
def Nr:bO:=cW 2 λd Q=>∃a b:Int,d=[.int a,.int b]/\0<b/\bi b<=7990/\Q (ae.t (Rat.divInt a b))
theorem qu(T:Tx w K mg){z:Bool}:aK P w K mg base bJ 2 T.lE.a T.lE.d ["_law_top","_law_bottom"] (bP K z 0 2 Nr):=by
 refine cj T.lE.F Qj rfl (by decide) λa7 A outer s H E l m i=>?_
 refine⟨_,(aP (bF 2 (qc T.r9 (RH T) (aq (qv 0) (aq (qv 1) aF))))
  (a8 (b5 (fF (aq (jO (qv 0) (qv 2)) (aq (jO (qv 1) (qv 2)) aF)))))),?_⟩
 rintro n h _ ⟨_,a,b,rfl,g,f,q⟩;have e:=ne_of_gt g;walk_at"";refine⟨rfl,a,b,rfl,le_of_lt g,λj=>?_⟩;rw[xi,<- AH e,<- By e] at q;unfold dv at q;rw[if_neg (by omega)] at q;walk_at"";exact⟨ud e f,ud e f,q _⟩
structure R1(u:Str)(o:bV):Prop where
 p:o.1=[]\/∃s:Rat,o.1=[(u,s)]/\s≠0/\s.num.natAbs<=5/\s.den<=3
 k:o.2.1="least"\/o.2.1="most"\/o.2.1="just"
 n:o.2.2.1.num.natAbs<=10 ^ 11/\o.2.2.1.den<=10 ^ 5
 r:0<=o.2.2.2.1/\o.2.2.2.1<=4
 w:1<=o.2.2.2.2/\o.2.2.2.2<=10 ^ 6
theorem yf(a:Int){b:Int}(f:0<b):(Rat.divInt a b).num.natAbs<=a.natAbs:=by
 by_cases e:a=0
 .subst e;rw[Rat.zero_divInt];exact zero_le _
 .have d:(Rat.divInt a b).num ∣ a:=by
   rw[Rat.num_divInt a b,Int.sign_eq_one_of_pos f,one_mul];exact Int.ediv_dvd_of_dvd (Int.gcd_dvd_right ..)
  exact le_of_dvd (by omega) (Int.natAbs_dvd_natAbs.mpr d)
theorem yI(a:Int){b:Int}(d:0<b):((Rat.divInt a b).den:Int)<=b:=Int.le_of_dvd d (xZ a d)
def Mq:bO:=cW 3 λa Q=>∃(c:Int)(u:Str)(gr:Bool),a=[.int c,.str u,.bl gr]/\∀o:bV,R1 u o->Q (ae.t o)
theorem RX:pH 10 11:=⟨by decide,by decide,by decide⟩
theorem TF:pH 10 6:=⟨by decide,by decide,by decide⟩
theorem Mf:pH 10 5:=⟨by decide,by decide,by decide⟩
theorem wk{xs:ah}{r:Int}{Q:av}(a:0<=r)(b:r<xs.length)(q:∀x,x∈xs->Q x):oQ (cQ xs r) Q:=by
 rw[su xs a (by omega)];exact q _ (getElem_mem _)
theorem ID{r:Int}{Q:av}(b:0<=r)(d:r<3)(q:∀k:Str,(k="least"\/k="most"\/k="just")->Q (.str k)):oQ (cQ [.str (Str.ofString "least"),.str (Str.ofString "most"),.str (Str.ofString "just")] r) Q:=by
 refine wk b d λx a=>?_
 rcases mem_cons.mp a with rfl |a
 .exact q _ (.inl rfl)
 rcases mem_cons.mp a with rfl |a
 .exact q _ (.inr (.inl rfl))
 rcases mem_cons.mp a with rfl |a
 .exact q _ (.inr (.inr rfl))
 cases a
theorem Du{ns:aH}{r:Int}{Q:av}(a:0<=r)(b:r<ns.length)(q:∀n,n∈ns->Q (.int n)):oQ (cQ (ns.map Tr.int) r) Q:=by
 refine wk a (by rw[length_map];exact b) λx d=>?_
 obtain⟨n,hn,rfl⟩:=mem_map.mp d;exact q n hn
theorem N9(T:Tx w K mg){z:Bool}:aK P w K mg base bJ 3 T.rM.a T.rM.d ["_law_cell","_law_name","_law_great"] (bP K z 0 3 Mq):=by
 refine cj T.rM.F To rfl (by decide) λa7 A outer s H E hr hu g=>?_
 refine⟨_,(aP (bF 3 (qc T.lE (qu T) (aq (kB (gj (qc T.iL (jR T) (aq (qv 0) (aq az aF))) az) az) (aq (eN az (gj (qc T.iL (jR T) (aq (qv 0) (aq az aF))) az)) aF))))
  (aP (bF 4 (qc T.lE (qu T) (aq (kB (gj (qc T.iL (jR T) (aq (qv 0) (aq az aF))) az) az) (aq (eN az (gj (qc T.iL (jR T) (aq (qv 0) (aq az aF))) az)) aF))))
  (aP (da (lF (qv 2)) (a8 (bF 4 (qc T.lE (qu T) (aq (gj (cw (qc T.iL (jR T) (aq (qv 0) (aq az aF))) az) (vv az az)) (aq (eN az (gj (qc T.iL (jR T) (aq (qv 0) (aq az aF))) (vv az az))) aF))))) c9)
  (aP (gJ 5 rp)
  (aP (da (cc i6 i5 (aW (qv 3) az) az) (a8 (tp (cV 5) (qv 1) (qv 3))) c9)
  (aP (bF 6 (aW (eC (aq iT (aq iT (aq iT aF)))) (gj (qc T.iL (jR T) (aq (qv 0) (aq az aF))) az)))
  (aP (bF 7 (aW (eC (aq az (aq az (aq az (aq az (aq az (aq az (aq az (aq az aF))))))))) (gj (qc T.iL (jR T) (aq (qv 0) (aq az aF))) az)))
  (uQ 5 (a8 (b5 (fF (aq (qv 5) (aq (qv 6) (aq (qv 4) (aq (qv 7) (aq (eN az (gj (qc T.iL (jR T) (aq (qv 0) (aq az aF))) (aW (eC (aq az (aq az (aq (vv az az) aF)))) (gj (qc T.iL (jR T) (aq (qv 0) (aq az aF))) az)))) aF)))))))))))))))),?_⟩
 rintro xs Q' _ ⟨_,c,u,gr,rfl,q⟩;walk_at "q";refine⟨rfl,c,_,rfl,λr1 _=>?_⟩;walk_at "q";refine⟨by decide,rfl,c,_,rfl,λr2 _=>?_⟩;walk_at "q";have h9:=emod_nonneg r1 (show (9:Int)≠0 by decide);have O:=emod_lt_of_pos r1 (show (0:Int)<9 by decide);have h3:=emod_nonneg r2 (show (3:Int)≠0 by decide);have M:=emod_lt_of_pos r2 (show (0:Int)<3 by decide);refine⟨by decide,rfl,_,_,rfl,by omega,le_trans (dh (k:=8) (by omega)) (by decide),λ_=>?_⟩;walk_at "q";refine⟨rfl,c,_,rfl,λr3 _=>?_⟩;walk_at "q";refine⟨by decide,rfl,c,_,rfl,λr4 _=>?_⟩;walk_at "q";have g7:=emod_nonneg r3 (show (37:Int)≠0 by decide);have L:=emod_lt_of_pos r3 (show (0:Int)<37 by decide);have g3:=emod_nonneg r4 (show (3:Int)≠0 by decide);have J:=emod_lt_of_pos r4 (show (0:Int)<3 by decide);refine⟨by decide,rfl,_,_,rfl,by omega,le_trans (dh (k:=8) (by omega)) (by decide),λ_=>⟨gF _,?_⟩⟩;rw[gm];have s1:=yf (r1 % 9 - 3) (show 0<1+r2 % 3 by omega);have s2:=yI (r1 % 9 - 3) (show 0<1+r2 % 3 by omega);generalize Rat.divInt (r1 % 9 - 3) (1+r2 % 3)=sh at s1 s2;have G:=yf (r3 % 37 - 6) (show 0<1+r4 % 3 by omega);have I:=yI (r3 % 37 - 6) (show 0<1+r4 % 3 by omega);generalize Rat.divInt (r3 % 37 - 6) (1+r4 % 3)=b at G I;refine zj (λj=>∃b:Rat,j=[.int c,.str u,.bl gr,ae.t sh,ae.t b,.aA,.aA,.aA]/\b.num.natAbs<=10 ^ 11/\b.den<=10 ^ 5) (λN g=>?_) ?_
 .walk_at"";cases gr with
  |false=>
   rw[if_neg (by decide)];exact g _ ⟨b,rfl,by omega,by omega⟩
  |true=>
   rw[if_pos rfl];refine⟨rfl,c,_,rfl,λr5 _=>?_⟩;walk_at"";refine⟨E8 (by decide),RX,by decide,rfl,c,_,rfl,λr _=>?_⟩;walk_at"";have k1:=emod_nonneg (r5*467) (show ((10:Int) ^ Int.toNat 11)≠0 by decide);have U:=emod_lt_of_pos (r5*467) (show (0:Int)<10 ^ Int.toNat 11 by decide);have k2:=emod_nonneg r (show ((10:Int) ^ Int.toNat 5)≠0 by decide);have Y:=emod_lt_of_pos r (show (0:Int)<10 ^ Int.toNat 5 by decide);rw[show ((10:Int) ^ Int.toNat 11)=100000000000 from by decide] at *;rw[show ((10:Int) ^ Int.toNat 5)=100000 from by decide] at *;refine⟨Mf,by decide,rfl,_,_,rfl,by omega,le_trans (dh (k:=20) (by omega)) (by decide),λ_=>?_⟩;have m1:=yf (r5*467 % 100000000000) (show 0<1+r % 100000 by omega);have m2:=yI (r5*467 % 100000000000) (show 0<1+r % 100000 by omega);dsimp only;rw[gm];exact⟨gF _,g _ ⟨_,rfl,by omega,by omega⟩⟩
 .clear G I b;rintro j ⟨b,rfl,n1,n2⟩;walk_at "q";refine⟨rfl,zj (λj=>∃f:List (Str×Rat),j=[.int c,.str u,.bl gr,ae.t sh,ae.t b,.aS .o (f.map λp=>((Sum.inr p.1:aU),ae.t p.2)),.aA,.aA]/\(f=[]\/∃s:Rat,f=[(u,s)]/\s≠0/\s.num.natAbs<=5/\s.den<=3)) (λN g=>?_) ?_⟩
  .walk_at"";rw[xi];by_cases D:sh.num=0
   .rw[if_neg (by rw[D];decide)];exact g _ ⟨[],rfl,.inl rfl⟩
   .rw[if_pos (by rw[decide_eq_false D];rfl)];exact⟨by decide,g _ ⟨[(u,sh)],rfl,.inr ⟨sh,rfl,λe=>D (by rw[e];rfl),by omega,by omega⟩⟩⟩
  .rintro j ⟨f,rfl,hps⟩;walk_at "q";refine⟨rfl,c,_,rfl,λr7 _=>?_⟩;walk_at "q";refine⟨by decide,ID (emod_nonneg _ (by decide)) (emod_lt_of_pos _ (by decide)) λk Q=>?_⟩;walk_at "q";refine⟨rfl,c,_,rfl,λr8 _=>?_⟩;walk_at "q";refine⟨by decide,Du (ns:=[0,0,1,2,2,3,4,4]) (emod_nonneg _ (by decide)) (emod_lt_of_pos _ (by decide)) λx B=>?_⟩;walk_at "q";refine⟨rfl,c,_,rfl,λm _=>⟨TF,?_⟩⟩;refine⟨rfl,c,_,rfl,λα _=>?_⟩;walk_at "q";refine⟨by decide,Du (ns:=[1,9,10 ^ Int.toNat 6]) (emod_nonneg _ (by decide)) (emod_lt_of_pos _ (by decide)) λh C=>?_⟩;have i:0<h/\h<=10 ^ 6:=by
    rcases mem_cons.mp C with rfl |l
    .decide
    rcases mem_cons.mp l with rfl |l
    .decide
    rcases mem_cons.mp l with rfl |l
    .decide
    cases l
   have y:0<=x/\x<=4:=by
    have A:∀n:Int,n∈[(0:Int),0,1,2,2,3,4,4]->0<=n/\n<=4:=by decide
    exact A x B
   have y0:=emod_nonneg m (show h≠0 by omega);have y1:=emod_lt_of_pos m i.1;walk_at "q";have yw:1<=1+m % h/\1+m % h<=10 ^ 6:=by omega
   have e:ee (f.map λp=>((Sum.inr p.1:aU),ae.t p.2))=f.map λp=>((Sum.inr p.1:aU),ae.t p.2):=by
    rcases hps with rfl |⟨s,rfl,_⟩<;>rfl
   rw[e];refine⟨i.1,?_,q (f,k,b,x,1+m % h) ⟨hps,Q,⟨n1,n2⟩,y,yw⟩ _⟩;rcases hps with rfl |⟨s,rfl,_⟩<;>rfl
theorem Dt{b:Int}{c:Rat}{k x:Nat}(g:0<b)(h:b ∣ ((c.den*k:Nat):Int))(hd:(c.den:Int) ∣ b)(d:0<k)(e:c.num.natAbs<=x):(e7 b c).natAbs<=x*k:=by
 have a:(0:Int)<(c.den:Int):=natCast_pos.mpr c.den_pos;obtain⟨y,rfl⟩:=hd;unfold e7;rw[Int.mul_fdiv_cancel_left y (ne_of_gt a),natAbs_mul];have f:y ∣ (k:Int):=by
  rw[natCast_mul] at h;exact Int.dvd_of_mul_dvd_mul_left (ne_of_gt a) h
 have:y.natAbs<=k:=le_of_dvd d (by have:=Int.natAbs_dvd_natAbs.mpr f;rwa[natAbs_natCast] at this);exact mul_le_mul e this
theorem rB{u:Str}{o:bV}(h:R1 u o):((b9 o.1 u).getD 0).num.natAbs<=5/\((b9 o.1 u).getD 0).den<=3:=by
 rcases h.p with e |⟨s,e,_,a,b⟩
 .rw[e];exact⟨show (0:Rat).num.natAbs<=5 by decide,show (0:Rat).den<=3 by decide⟩
 .rw[e,show b9 [(u,s)] u=some s by unfold b9;simp];exact⟨a,b⟩
theorem Ra{u:Str}{o:bV}(h:R1 u o):iw 39 20 20 [u] o:=by
 obtain⟨p1,p2⟩:=rB h;obtain⟨y,z⟩:=h.n;have e:cB [u] o=[(b9 o.1 u).getD 0,o.2.2.1]:=rfl;generalize s:(b9 o.1 u).getD 0=p at *;generalize hn:o.2.2.1=n at *;have dp:0<p.den:=p.den_pos;have dn:0<n.den:=n.den_pos;have q:0<p.den*n.den:=Nat.mul_pos dp dn;have g:p.den*n.den<=3*10 ^ 5:=mul_le_mul p2 z;have dv:∀c∈cB [u] o,(c.den:Int) ∣ ((p.den*n.den:Nat):Int):=by
  rw[e];intro c m;rcases mem_cons.mp m with rfl |m
  .rw[natCast_mul];exact Int.dvd_mul_right _ _
  .rw[mem_singleton.mp m,natCast_mul];exact Int.dvd_mul_left _ _
 obtain⟨f,_,i,A⟩:=gR (cB [u] o) 1 (by decide);have d:=A _ (one_dvd _) dv
 change 0<bz [u] o at f
 change ∀c∈cB [u] o,_ ∣ bz [u] o at i
 change bz [u] o ∣ _ at d
 have C:(bz [u] o).natAbs<=3*10 ^ 5:=le_trans (le_of_dvd q (by have:=Int.natAbs_dvd_natAbs.mpr d;rwa[natAbs_natCast] at this)) g;have B:bi ((p.den*n.den:Nat):Int)<=20:=dh (by rw[natAbs_natCast];omega);have j:∀c:Rat,c.num.natAbs<=10 ^ 11->c.den<=10 ^ 5->bs c<=3000:=λc a b=>by
  have r:bi c.num<=40:=dh (by omega);have l:bi (c.den:Int)<=40:=dh (by rw[natAbs_natCast];omega);unfold bs;exact max_le.mpr ⟨le_trans r (by decide),le_trans (by unfold bi at l;rwa[natAbs_natCast] at l) (by decide)⟩
 refine⟨⟨⟨_,q,dv,by omega⟩,λc m=>?_⟩,f,dh (by omega),λx m=>?_,?_,⟨by have:=h.w;omega,dh (by have:=h.w;omega)⟩⟩
 .rw[e] at m;rcases mem_cons.mp m with rfl |m
  .exact j _ (by omega) (by omega)
  .rw[mem_singleton.mp m];exact j _ (by omega) (by omega)
 .have:x=e7 (bz [u] o) p:=by
   have:=mem_singleton.mp (show x∈[e7 (bz [u] o) ((b9 o.1 u).getD 0)] from m);rwa[s] at this
  rw[this];have k:=Dt (k:=n.den) (x:=5) f d (i p (by rw[e];exact .head _)) dn p1;have:5*n.den<=5*10 ^ 5:=by omega
  exact dh (by omega)
 .unfold cH;rw[hn];rw[Nat.mul_comm] at d;have k:=Dt (k:=p.den) (x:=10 ^ 11) f d (i n (by rw[e];exact .tail _ (.head _))) dp y;have:10 ^ 11*p.den<=10 ^ 11*3:=by omega
  exact dh (by omega)
def bX(u:Str)(o:bV):Rat:=(b9 o.1 u).getD 0
def ofT(u:Str)(o:bV)(x:Rat):Int:=(bX u o).num*x.num*(o.2.2.1.den:Int) - o.2.2.1.num*((bX u o).den:Int)*(x.den:Int)
def i7(u:Str)(o:bV)(x:Rat):Int:=if (o.2.1="least"/\0<ofT u o x)\/(o.2.1="most"/\ofT u o x<0) then 0 else ((ofT u o x).natAbs:Int)
def fR(u:Str)(o:bV)(x:Rat):Int:=((bX u o).den:Int)*(x.den:Int)*(o.2.2.1.den:Int)
def LN:bO:=cW 3 λa Q=>∃(o:bV)(u:Str)(x:Rat),a=[ae.t o,.str u,ae.t x]/\R1 u o/\bs x<=1000/\Q (.aG [.int (i7 u o x),.int (fR u o x)])
def Ev(a:aY)(j:ah)(t:Tr):Prop:=∀Q:av,Q t->a j Q
theorem Ev.mul{a b:aY}(d:Ev a G (.int i))(e:Ev b G (.int j))(h:j4 i j):Ev (p2 qp a b) G (.int (i*j)):=λ_ q=>d _ (e _ ⟨h,q⟩)
theorem Ev.sub{a b:aY}(d:Ev a G (.int i))(e:Ev b G (.int j)):Ev (p2 (act (λ_ _=>True) λi j=>Tr.int (i - j)) a b) G (.int (i - j)):=λ_ q=>d _ (e _ ⟨True.intro,q⟩)
theorem Ev.ix{a b:aY}{t:Tr}{i:Int}(d:Ev a j t)(e:Ev b j (.int i))(h:∀Q:av,Q u->dw t (.int i) Q):Ev (p2 dw a b) j u:=λ_ q=>d _ (e _ (h _ q))
theorem Ev.c(t:Tr):Ev (pC t) j t:=λ_ q=>q
theorem Ev.v(h:j[i]?=some t)(n:t≠.aA):Ev (kz i) j t:=λQ q=>by show pV j[i]? Q;rw[h];cases t<;>first |exact q |exact absurd rfl n
theorem jV{j:Type}[ae j](a:j):ae.t a≠.aA:=ae.h a
theorem Ev.asg{pe:aY}{t:Tr}(l:j.map aD=j)(h:Ev pe j t)(n:bL t=true)(q:D.nx (j.set i (Pu.ay t))):lW i pe D j:=by
 show pe (j.map aD) _;rw[l];exact h _ ⟨n,q⟩
theorem Ev.r0{a:aY}{p:Rat}(b:Ev a j (ae.t p)):Ev (p2 dw a (pC (.int 0))) j (.int p.num):=b.ix (.c _) λQ q=>by rw[A6];exact q
theorem Ev.r1{a:aY}{p:Rat}(b:Ev a j (ae.t p)):Ev (p2 dw a (pC (.int 1))) j (.int (p.den:Int)):=b.ix (.c _) λQ q=>by rw[Gx];exact q
theorem Ev.w2{a:aY}{o:bV}(b:Ev a j (ae.t o)):Ev (p2 dw a (pC (.int 2))) j (ae.t o.2.2.1):=b.ix (.c _) λQ q=>q
theorem eZ{A B:cg}(J:aX)(a:∀N:aX,(∀j,J j->N j)->A { D with nx:=N } j)(b:∀j,J j->B D j):pG A B D j:=a (B D) b
theorem VL(T:Tx w K mg){z:Bool}:aK P w K mg base bJ 1 T.ra.a T.ra.d ["_law_one","_law_name","_law_at"] (bP K z 0 3 LN):=by
 refine cj T.ra.F M0 rfl (by decide) λa7 A outer s H E U Y e=>?_
 refine⟨_,(aP (bF 3 (uU (aW (qv 0) az) (qv 1) (fF (aq az (aq az aF)))))
  (aP (bF 4 (kB (cw (cw (aW (qv 3) az) (aW (qv 2) az)) (aW (aW (qv 0) az) az)) (cw (cw (aW (aW (qv 0) az) az) (aW (qv 3) az)) (aW (qv 2) az))))
  (aP (bF 5 (cw (cw (aW (qv 3) az) (aW (qv 2) az)) (aW (aW (qv 0) az) az)))
  (aP (da (QW.t (k9 (QW.t (qj (cc fZ fW (aW (qv 0) az) iT) (qV (cc n8 nJ (qv 4) az)))) (nv (QW.t (qj (cc fZ fW (aW (qv 0) az) iT) (qV (cc jo jC (qv 4) az))))))) (a8 (bF 4 az)) c9)
  (a8 (b5 (fF (aq (fC rV tM T.rG (aq (qv 4) aF)) (aq (qv 5) aF))))))))),?_⟩
 rintro xs Q _ ⟨_,o,u,x,rfl,h,I,q⟩;have B:=rB h;obtain⟨n1,n2⟩:=h.n;have G:bi o.2.2.1.num<=40:=dh (by omega);have y:bi (o.2.2.1.den:Int)<=40:=dh (by rw[natAbs_natCast];omega);obtain⟨O,x2⟩:=max_le.mp (show max (bi x.num) (bl x.den)<=1000 from I);have i:bi (x.den:Int)<=1000:=by unfold bi;rwa[natAbs_natCast]
 have pn:bi ((b9 o.1 u).getD 0).num<=40:=dh (by omega);have r:bi (((b9 o.1 u).getD 0).den:Int)<=40:=dh (by rw[natAbs_natCast];omega);unfold i7 at q;have m:ofT u o x=((b9 o.1 u).getD 0).num*x.num*(o.2.2.1.den:Int) - o.2.2.1.num*(((b9 o.1 u).getD 0).den:Int)*(x.den:Int):=rfl;have l:fR u o x=(((b9 o.1 u).getD 0).den:Int)*(x.den:Int)*(o.2.2.1.den:Int):=rfl;generalize ofT u o x=t at q m;generalize fR u o x=b at q l;refine eZ (λj=>j=[ae.t o,.str u,ae.t x,ae.t ((b9 o.1 u).getD 0),.aA,.aA]) (λN e=>?_) ?_
 .walk_at"";exact e _ rfl
 generalize (b9 o.1 u).getD 0=p at m l pn r ⊢;rintro _ rfl;have J:=de p.num x.num;have L:=de o.2.2.1.num (p.den:Int);have M:=de (p.den:Int) (x.den:Int);refine eZ (λj=>j=[ae.t o,.str u,ae.t x,ae.t p,.int t,.aA]) (λN e=>?_) ?_
 .exact Ev.asg (by simp only[map_cons,map_nil,kA];rfl) (.sub (.mul (.mul (.r0 (.v rfl (jV _))) (.r0 (.v rfl (jV _))) (c8 pn O (by decide))) (.r1 (.w2 (.v rfl (jV _)))) (c8 (n:=1040) (by omega) y (by decide))) (.mul (.mul (.r0 (.w2 (.v rfl (jV _)))) (.r1 (.v rfl (jV _))) (c8 G r (by decide))) (.r1 (.v rfl (jV _))) (c8 (n:=80) (by omega) i (by decide)))) rfl (e _ (by rw[m];rfl))
 rintro _ rfl;refine eZ (λj=>j=[ae.t o,.str u,ae.t x,ae.t p,.int t,.int b]) (λN e=>?_) ?_
 .exact Ev.asg (by simp only[map_cons,map_nil,kA];rfl) (.mul (.mul (.r1 (.v rfl (jV _))) (.r1 (.v rfl (jV _))) (c8 r i (by decide))) (.r1 (.w2 (.v rfl (jV _)))) (c8 (n:=1040) (by omega) y (by decide))) rfl (e _ (by rw[l];rfl))
 rintro _ rfl;walk_at"";have C:(if (0:Int)<0 then -0 else (0:Int))=0:=rfl;have D:(if t<0 then -t else t)=(t.natAbs:Int):=by split<;>omega
 rw[C,D];clear C D m l J L M;simp only[decide_eq_true_eq];by_cases f:o.2.1=Str.ofString "least"/\0<t
 .rw[if_pos (.inl f)] at q;rw[if_pos f.1,if_pos f.2];exact q _
 by_cases g:o.2.1=Str.ofString "most"/\t<0
 .rw[if_pos (.inr g)] at q
  repeat' split
  all_goals first |exact q _ |exact absurd g.1 (by assumption) |exact absurd g.2 (by assumption)
 rw[if_neg (λh=>h.elim f g)] at q
 repeat' split
 all_goals first |exact q _ |exact absurd ⟨by assumption,by assumption⟩ f |exact absurd ⟨by assumption,by assumption⟩ g
def lU:List (Rat×Rat)->Bool
 |p::ps=>if p.1=p.2 then lU ps else decide (p.1.num * (p.2.den:Int) < p.2.num * (p.1.den:Int))
 |[]=>false
theorem O7(x y:Rat)(Q:av)(q:Q (.bl (!decide (x=y)))):iD true (ae.t x) (ae.t y) Q:=by
 refine .inr ⟨decide (x=y),?_,show (1:Nat)<=60 by decide,show 1<=1 by decide,q⟩;show dy (.aG [.int x.num,.int (x.den:Int)]) (.aG [.int y.num,.int (y.den:Int)])=_;have e:x=y↔x.num=y.num/\(x.den:Int)=(y.den:Int):=⟨λh=>by rw[h];exact⟨rfl,rfl⟩,λh=>Rat.ext h.1 (Int.ofNat.inj h.2)⟩;by_cases a:x.num=y.num<;>by_cases b:(x.den:Int)=(y.den:Int)<;>simp[dy,dC,e,a,b]
def LG:bO:=cW 2 λd Q=>∃(f g:Fl)(a b:aB)(_:Fp f)(_:Fp g),d=[.ag f (a.map ae.t),.ag g (b.map ae.t)]/\(∀p∈a.zip b,bs p.1<=100000/\bs p.2<=100000)/\Q (.bl (lU (a.zip b)))
theorem Ib(T:Tx w K mg){z:Bool}:aK P w K mg base bJ 1 T.uN.a T.uN.d ["_law_goals_here","_law_others"] (bP K z 0 2 LG):=by
 refine cj T.uN.F Uj rfl (by decide) λa7 A outer s H E L M J=>?_
 refine⟨_,(aP (gb (oq T.n6 (aq (qv 0) (aq (qv 1) aF))) (jZ (n:=2) rfl (fL (dI 2) (fL (dI 3) jS))) (a8 (da (cc i6 i5 (qv 2) (qv 3)) (a8 (b5 (kL jo jC (cw (aW (qv 2) az) (aW (qv 3) az)) (cw (aW (qv 3) az) (aW (qv 2) az))))) c9)))
  (a8 (b5 qz))),?_⟩
 rintro O I _ ⟨_,f,g,h,l,_,_,rfl,u,q⟩;walk_at"";refine Loop.map (h.zip l) _ (λi j=>(∃a b,j=[.ag f (h.map ae.t),.ag g (l.map ae.t),a,b])/\lU (h.zip l)=lU ((h.zip l).drop i)) ⟨⟨_,_,rfl⟩,rfl⟩ ?_ ?_
 .rintro i p j hp ⟨⟨a,b,rfl⟩,e⟩;obtain⟨r,rfl⟩:=List.getElem?_eq_some_iff.mp hp;obtain⟨m,o⟩:=u _ (getElem_mem r);rw[List.drop_eq_getElem_cons r] at e;generalize (h.zip l)[i]=p at *;obtain⟨x,y⟩:=p;dsimp only at m o;walk_at"";refine O7 x y _ ?_;walk_at"";obtain⟨B,N⟩:=max_le.mp (show max (bi x.num) (bl x.den)<=100000 from m);obtain⟨D,Q⟩:=max_le.mp (show max (bi y.num) (bl y.den)<=100000 from o);have C:bi (x.den:Int)<=100000:=by unfold bi;rwa[natAbs_natCast]
  have G:bi (y.den:Int)<=100000:=by unfold bi;rwa[natAbs_natCast]
  rw[show lU ((x,y)::(h.zip l).drop (i+1))=if x=y then lU ((h.zip l).drop (i+1)) else decide (x.num*(y.den:Int)<y.num*(x.den:Int)) from rfl] at e;by_cases d:x=y
  .rw[if_pos d] at e;rw[decide_eq_true d,if_neg (by decide)];exact⟨⟨_,_,rfl⟩,e⟩
  .rw[if_neg d] at e;rw[decide_eq_false d,if_pos (by decide)];rw[e] at q;exact⟨c8 B G (by omega),c8 D C (by omega),q _⟩
 .rintro j ⟨⟨a,b,rfl⟩,e⟩;walk_at"";rw[e,List.drop_length] at q;exact q _
def dot:aB->(Nat->Rat)->Rat
 |[],_=>0
 |c::cs,y=>c * y 0 + dot cs λk=>y (k + 1)
theorem vB:∀{cs:aB}{y z:Nat->Rat},(∀k,k<cs.length->y k=z k)->dot cs y=dot cs z
 |[],_,_,_=>rfl
 |c::cs,y,z,h=>by
  rw[dot,dot,h 0 (Nat.zero_lt_succ _),vB λk a=>h (k+1) (Nat.succ_lt_succ a)]
theorem EM(a:Rat):∀(cs:aB)(y:Nat->Rat),dot cs (λk=>a*y k)=a*dot cs y
 |[],_=>by rw[dot,dot];grind
 |c::cs,y=>by rw[dot,dot,EM a cs];grind
theorem yz:∀(A B:aB)(y:Nat->Rat),dot (A++B) y=dot A y+dot B λk=>y (A.length+k)
 |[],B,y=>by
  rw[dot,nil_append];have:(λk=>y (([]:aB).length+k))=y:=by funext k;rw[length_nil,Nat.zero_add]
  rw[this];grind
 |c::A,B,y=>by
  rw[cons_append,dot,dot,yz A B];have:(λk=>y (A.length+k+1))=λk=>y ((c::A).length+k):=by funext k;rw[length_cons];congr 1;omega
  rw[this];grind
theorem tU:∀(n:Nat)(y:Nat->Rat),dot (List.replicate n 0) y=0
 |0,_=>rfl
 |n + 1,y=>by rw[List.replicate_succ,dot,tU n];grind
theorem Ge(f:Nat->Int):∀n,Lp.sm (n+1) f=f 0+Lp.sm n λk=>f (k+1)
 |0=>by rw[Lp.sm,Lp.sm,Lp.sm];omega
 |n + 1=>by rw[Lp.sm,Ge f n,Lp.sm];omega
theorem DY(a:Nat)(f:Nat->Int):∀b,Lp.sm (a+b) f=Lp.sm a f+Lp.sm b λk=>f (a+k)
 |0=>by rw[Nat.add_zero,Lp.sm];omega
 |b + 1=>by rw[<- Nat.add_assoc,Lp.sm,DY a f b,Lp.sm];omega
theorem wB{b:Int}{c:Rat}(h:(c.den:Int) ∣ b):((e7 b c:Int):Rat)=b*c:=by
 obtain⟨k,rfl⟩:=h;have hd:(c.den:Int)≠0:=by have:=c.den_pos;omega
 unfold e7;rw[Int.mul_fdiv_cancel_left k hd,Rat.intCast_mul,Rat.intCast_mul];have e:c*(c.den:Int)=c.num:=by
  have:=Rat.num_divInt_den c;rw[Rat.divInt_eq_div] at this;have d:((c.den:Int):Rat)≠0:=λe=>hd (Rat.intCast_eq_zero_iff.mp e)
  have m:=Rat.div_mul_cancel (a:=(c.num:Rat)) d;rw[this] at m;exact m
 rw[<- e]
 grind
theorem yd{b:Int}:∀{cs:aB}(y:Nat->Int),(∀c∈cs,(c.den:Int) ∣ b)->((Lp.sm cs.length (λk=>(cs.map (e7 b)).getD k 0*y k):Int):Rat)=b*dot cs λk=>(y k:Rat)
 |[],y,_=>by rw[dot,length_nil,Lp.sm];show (0:Rat)=_;grind
 |c::cs,y,h=>by
  rw[length_cons,Ge,Rat.intCast_add,Rat.intCast_mul,dot];have a:=yd (cs:=cs) (λk=>y (k+1)) λc m=>h c (.tail _ m)
  rw[show (λk=>((c::cs).map (e7 b)).getD (k+1) 0*y (k+1))=λk=>(cs.map (e7 b)).getD k 0*y (k+1) from rfl,a,show ((c::cs).map (e7 b)).getD 0 0=e7 b c from rfl,wB (h c (.head _))]
  grind
def gi(us:aj)(o:bV)(x:Nat->Rat):Rat:=dot (iP us o) x - o.2.2.1
def fY(k:Str)(d:Rat):Rat:=if k="least" then (if d<0 then -d else 0) else if k="most" then (if 0<d then d else 0) else if d<0 then -d else d
def dg(us:aj)(k:Int)(x:Nat->Rat):ax->Rat
 |[]=>0
 |o::rs=>(if o.2.2.2.1=k then (o.2.2.2.2:Rat) * fY o.2.1 (gi us o x) else 0) + dg us k x rs
def cst(us:aj)(k:Int):ax->(Nat->Rat)->Rat
 |[],_=>0
 |o::rs,y=>cb us k o * y 0 + ca us k o * y 1 + cst us k rs λj=>y (j + 2)
theorem CU(us:aj)(k:Int):∀(rs:ax)(y:Nat->Rat),dot (rs.flatMap λo=>[cb us k o,ca us k o]) y=cst us k rs y
 |[],_=>rfl
 |o::rs,y=>by
  rw[flatMap_cons,cst,<- CU us k rs,cons_append,cons_append,nil_append,dot,dot]
  grind
theorem CQ(us:aj)(rs:ax)(k:Int)(y:Nat->Rat):dot (cT us rs k) y=cst us k rs λj=>y (us.length+j):=by
 unfold cT;rw[yz,tU,CU,length_replicate];grind
theorem KW{us:aj}{k:Int}{o:bV}{q d a b:Rat}(hs:0<bz us o)(s:0<=o.2.2.2.2)(m:0<=a)(n:0<=b)(e:b - a=- ((bz us o:Rat)*(d*q)))(x:0<=q):q*(if o.2.2.2.1=k then (o.2.2.2.2:Rat)*fY o.2.1 d else 0)<=cb us k o*b+ca us k o*a:=by
 unfold cb ca;by_cases f:o.2.2.2.1=k
 .rw[if_pos f,if_pos f,if_pos f];have i:(0:Rat)<(bz us o:Rat):=Rat.intCast_pos.mpr hs;have p:Rat.divInt o.2.2.2.2 (bz us o)*(bz us o:Rat)=(o.2.2.2.2:Rat):=by
   rw[Rat.divInt_eq_div];exact Rat.div_mul_cancel (Rat.ne_of_gt i)
  have j:0<=Rat.divInt o.2.2.2.2 (bz us o):=oU s hs;generalize Rat.divInt o.2.2.2.2 (bz us o)=r at *;have y:=Rat.mul_nonneg j m;have A:=Rat.mul_nonneg j n;have z:r*b - r*a=- (q*((o.2.2.2.2:Rat)*d)):=by
   have u:r*(b - a)=r*(- ((bz us o:Rat)*(d*q))):=by rw[e]
   rw[<- p];grind
  generalize (o.2.2.2.2:Rat)=W at *;have w0:q*(W*(-d))=- (q*(W*d)):=by grind
  have l:q*(W*0)=0:=by grind
  unfold fY;generalize q*(W*d)=Z at *;by_cases h:o.2.1="least"
  .have g:¬ o.2.1="most":=by rw[h];decide
   rw[if_pos h,if_pos h,if_neg g];split
   .rw[w0];grind
   .rw[l];grind
  .rw[if_neg h,if_neg h];by_cases g:o.2.1="most"
   .rw[if_pos g,if_pos g];split
    .grind
    .rw[l];grind
   .rw[if_neg g,if_neg g];split
    .rw[w0];grind
    .grind
 .rw[if_neg f,if_neg f,if_neg f];grind
theorem Nv{us:aj}{k:Int}{o:bV}{q d a b:Rat}(hs:0<bz us o)(m:a=0\/b=0)(A:0<=a)(B:0<=b)(e:b - a=- ((bz us o:Rat)*(d*q)))(C:0<q):q*(if o.2.2.2.1=k then (o.2.2.2.2:Rat)*fY o.2.1 d else 0)=cb us k o*b+ca us k o*a:=by
 unfold cb ca;by_cases f:o.2.2.2.1=k
 .rw[if_pos f,if_pos f,if_pos f];have i:(0:Rat)<(bz us o:Rat):=Rat.intCast_pos.mpr hs;have D:Rat.divInt o.2.2.2.2 (bz us o)*(bz us o:Rat)=(o.2.2.2.2:Rat):=by
   rw[Rat.divInt_eq_div];exact Rat.div_mul_cancel (Rat.ne_of_gt i)
  have j:0<(bz us o:Rat)*q:=Rat.mul_pos i C;have s:b - a=- ((bz us o:Rat)*q*d):=by rw[e];grind
  generalize Rat.divInt o.2.2.2.2 (bz us o)=r at *;have z:r*b - r*a=- (q*((o.2.2.2.2:Rat)*d)):=by
   have s:r*(b - a)=r*(- ((bz us o:Rat)*(d*q))):=by rw[e]
   rw[<- D];grind
  have x:d<0->a=0:=λhd=>by
   have:=Rat.mul_pos j (show 0 < -d by grind);rcases m with h |h
   .exact h
   .grind
  have y:0<d->b=0:=λhd=>by
   have:=Rat.mul_pos j hd;rcases m with h |h
   .grind
   .exact h
  have p:d=0->a=0/\b=0:=λhd=>by
   rw[hd] at s;rcases m with h |h<;>grind
  generalize (o.2.2.2.2:Rat)=W at *;have w0:q*(W*(-d))=- (q*(W*d)):=by grind
  have u:q*(W*0)=0:=by grind
  have r0:r*0=0:=Rat.mul_zero r;have n:d<0\/d=0\/0<d:=by grind
  have c:(d<0/\r*a=0)\/(d=0/\r*a=0/\r*b=0)\/(0<d/\r*b=0):=by
   rcases n with t |t |t
   .exact .inl ⟨t,by rw[x t,r0]⟩
   .exact .inr (.inl ⟨t,by rw[(p t).1,r0],by rw[(p t).2,r0]⟩)
   .exact .inr (.inr ⟨t,by rw[y t,r0]⟩)
  unfold fY;generalize q*(W*d)=Z at *;by_cases l:o.2.1="least"
  .have g:¬ o.2.1="most":=by rw[l];decide
   rw[if_pos l,if_pos l,if_neg g];split
   .rw[w0];grind
   .rw[u];grind
  .rw[if_neg l,if_neg l];by_cases g:o.2.1="most"
   .rw[if_pos g,if_pos g];split
    .grind
    .rw[u];grind
   .rw[if_neg g,if_neg g];split
    .rw[w0];grind
    .grind
 .rw[if_neg f,if_neg f,if_neg f];grind
theorem za{us:aj}{k:Int}{x:Nat->Rat}{q:Rat}(a:0<=q):∀(rs:ax)(y:Nat->Rat),(∀o∈rs,0<bz us o/\0<=o.2.2.2.2)->(∀j,j<2*rs.length->0<=y j)->(∀i o,rs[i]?=some o->y (2*i) - y (2*i+1)=- ((bz us o:Rat)*(gi us o x*q)))->q*dg us k x rs<=cst us k rs y
 |[],_,_,_,_=>by rw[dg,cst];grind
 |o::rs,y,h,nn,e=>by
  rw[dg,cst,Rat.mul_add];have d:=KW (k:=k) (h o (.head _)).1 (h o (.head _)).2 (nn 1 (by rw[length_cons];omega)) (nn 0 (by rw[length_cons];omega)) (e 0 o rfl) a;have f:=za (k:=k) a rs (λj=>y (j+2)) (λo m=>h o (.tail _ m)) (λj g=>nn (j+2) (by rw[length_cons];omega)) λi o b=>e (i+1) o b
  grind
theorem FD{us:aj}{k:Int}{x:Nat->Rat}{q:Rat}(a:0<q):∀(rs:ax)(y:Nat->Rat),(∀o∈rs,0<bz us o)->(∀j,j<2*rs.length->0<=y j)->(∀i o,rs[i]?=some o->(y (2*i+1)=0\/y (2*i)=0)/\y (2*i) - y (2*i+1)=- ((bz us o:Rat)*(gi us o x*q)))->q*dg us k x rs=cst us k rs y
 |[],_,_,_,_=>by rw[dg,cst];grind
 |o::rs,y,h,nn,e=>by
  rw[dg,cst,Rat.mul_add];have b:=Nv (k:=k) (h o (.head _)) (e 0 o rfl).1 (nn 1 (by rw[length_cons];omega)) (nn 0 (by rw[length_cons];omega)) (e 0 o rfl).2 a;have d:=FD (k:=k) a rs (λj=>y (j+2)) (λo m=>h o (.tail _ m)) (λj g=>nn (j+2) (by rw[length_cons];omega)) λi o f=>e (i+1) o f
  rw[b,d]
theorem Cy{us:aj}{o:bV}{R i:Nat}{y:Nat->Int}(q:i<R):Lp.sm (us.length+2*R+1) (λk=>A0 us.length R i (er us o) (cH us o) k*y k)=Lp.sm us.length (λk=>(er us o).getD k 0*y k)+(y (us.length+2*i) - y (us.length+2*i+1))+cH us o*y (us.length+2*R):=by
 rw[Lp.sm,DY];have j:Lp.sm us.length (λk=>A0 us.length R i (er us o) (cH us o) k*y k)=Lp.sm us.length (λk=>(er us o).getD k 0*y k):=Lp.a9 λk d=>by unfold A0;rw[if_pos d]
 have l:=Lp.eU (f:=λk=>A0 us.length R i (er us o) (cH us o) (us.length+k)*y (us.length+k)) (a:=2*i) (b:=2*i+1) (by omega) (n:=2*R) (by omega) λk d m p=>by
  unfold A0;rw[if_neg (by omega),if_neg (by omega),if_neg (by omega),if_neg (by omega),zero_mul]
 rw[j,l];have e:A0 us.length R i (er us o) (cH us o) (us.length+2*i)=1:=by unfold A0;rw[if_neg (by omega),if_pos rfl]
 have g:A0 us.length R i (er us o) (cH us o) (us.length+(2*i+1))=-1:=by unfold A0;rw[if_neg (by omega),if_neg (by omega),if_pos (by omega)]
 have h:A0 us.length R i (er us o) (cH us o) (us.length+2*R)=cH us o:=by unfold A0;rw[if_neg (by omega),if_neg (by omega),if_neg (by omega),if_pos rfl]
 rw[e,g,h,one_mul,<- Nat.add_assoc];omega
theorem tX(us:aj)(o:bV):0<bz us o/\(∀c∈iP us o,(c.den:Int) ∣ bz us o)/\(o.2.2.1.den:Int) ∣ bz us o:=by
 have h:=gR (cB us o) 1 (by decide);exact⟨h.1,λc m=>h.2.2.1 c (mem_append.mpr (.inl m)),h.2.2.1 _ (mem_append.mpr (.inr (.head _)))⟩
theorem Qy(us:aj)(o:bV)(y:Nat->Int):((Lp.sm us.length (λk=>(er us o).getD k 0*y k):Int):Rat)=bz us o*dot (iP us o) λk=>(y k:Rat):=by
 have:=yd (b:=bz us o) (cs:=iP us o) y (tX us o).2.1;rwa[show (iP us o).length=us.length from length_map _] at this
theorem Ea{rs:ax}{us:aj}{sh:Nat->Prop}{q:Int}{y:Nat->Int}(F:Lp.eE rs.length (bj rs us) (Mx rs us) sh q y){x:Nat->Rat}(j:∀k,k<us.length->x k*q=y k){i:Nat}{o:bV}(a:rs[i]?=some o):((y (us.length+2*i):Int):Rat) - ((y (us.length+(2*i+1)):Int):Rat)=- ((bz us o:Rat)*(gi us o x*q)):=by
 have b:=(List.getElem?_eq_some_iff.mp a).1;have k:=F.mK i b;rw[Lp.a9 (g:=λk=>sgn (cH us o)*(A0 us.length rs.length i (er us o) (cH us o) k*y k)) λk _=>by rw[mi a,Int.mul_assoc],Lp.bN] at k;have h:sgn (cH us o)≠0:=by unfold sgn;split<;>decide
 have e:=(mul_eq_zero.mp k).resolve_left h;rw[show bj rs us+1=us.length+2*rs.length+1 from rfl,Cy b,show us.length+2*rs.length=bj rs us from rfl,F.rhs] at e;have c:((_:Int):Rat)=((0:Int):Rat):=congrArg (λz:Int=>(z:Rat)) e;rw[Rat.intCast_add,Rat.intCast_add,Qy,Rat.intCast_sub,Rat.intCast_mul,Rat.intCast_neg,show cH us o=e7 (bz us o) o.2.2.1 from rfl,wB (tX us o).2.2] at c;have d:dot (iP us o) (λk=>(y k:Rat))=q*dot (iP us o) x:=by
  rw[<- EM];refine vB λk f=>?_
  rw[<- j k (by rwa[show (iP us o).length=us.length from length_map _] at f)];exact Rat.mul_comm _ _
 rw[d,Rat.intCast_zero] at c;unfold gi;rw[<- Nat.add_assoc]
 grind
def jM(us:aj)(q:Int)(t:Nat->Int)(o:bV):Int:=cH us o*q - Lp.sm us.length λk=>(er us o).getD k 0*t k
def gW(rs:ax)(us:aj)(q:Int)(t:Nat->Int)(k:Nat):Int:=
 if k<us.length then t k else if k=bj rs us then -q else match rs[(k - us.length) / 2]? with
 |some o=>if (k - us.length) % 2=0 then max (jM us q t o) 0 else max (- jM us q t o) 0
 |none=>0
theorem rY{rs:ax}{us:aj}{q:Int}{t:Nat->Int}{i:Nat}{o:bV}(a:rs[i]?=some o):gW rs us q t (us.length+2*i)=max (jM us q t o) 0/\gW rs us q t (us.length+2*i+1)=max (- jM us q t o) 0:=by
 have b:=(List.getElem?_eq_some_iff.mp a).1;unfold gW bj;rw[if_neg (by omega),if_neg (by omega),if_neg (by omega),if_neg (by omega),show (us.length+2*i - us.length) / 2=i by omega,show (us.length+2*i+1 - us.length) / 2=i by omega,a];dsimp only;rw[if_pos (by omega),if_neg (by omega)];exact⟨rfl,rfl⟩
theorem zC{rs:ax}{us:aj}{q:Int}{t:Nat->Int}(ht:∀k,k<us.length->0<=t k):Lp.eE rs.length (bj rs us) (Mx rs us) (λ_=>False) q (gW rs us q t):=by
 have a:gW rs us q t (bj rs us)=-q:=by unfold gW;rw[if_neg (by unfold bj;omega),if_pos rfl]
 refine⟨λi b=>?_,λk d=>?_,λ_ _ h=>h.elim,a⟩
 .obtain⟨o,ho⟩:=lK b;rw[Lp.a9 (g:=λk=>sgn (cH us o)*(A0 us.length rs.length i (er us o) (cH us o) k*gW rs us q t k)) λk _=>by rw[mi ho,Int.mul_assoc],Lp.bN,show bj rs us+1=us.length+2*rs.length+1 from rfl,Cy b,show us.length+2*rs.length=bj rs us from rfl,a,(rY ho).1,(rY ho).2];rw[Lp.a9 (g:=λk=>(er us o).getD k 0*t k) λk d=>by rw[show gW rs us q t k=t k by unfold gW;rw[if_pos d]]];have:Lp.sm us.length (λk=>(er us o).getD k 0*t k)+(max (jM us q t o) 0 - max (- jM us q t o) 0)+cH us o*-q=0:=by
   have e:jM us q t o=cH us o*q - Lp.sm us.length λk=>(er us o).getD k 0*t k:=rfl
   rw[Int.mul_neg];omega
  rw[this,mul_zero]
 .unfold gW;split
  .exact ht k (by assumption)
  .rw[if_neg (by omega)];split
   .split<;>omega
   .exact Int.le_refl _
def ki(rs:ax)(us:aj):Int ⊕ (Str×Nat)->aB
 |.inl k=>cT us rs k
 |.inr p=>dF us rs.length [(p.1,1)]
def n7(rs:ax)(us:aj)(x:Nat->Rat):Int ⊕ (Str×Nat)->Rat
 |.inl k=>dg us k x rs
 |.inr p=>x p.2
def nV(us:aj):Int ⊕ (Str×Nat)->Prop
 |.inl _=>True
 |.inr p=>us[p.2]? = some p.1
theorem DP{u:Str}:∀{us:aj}{j:Nat}(y:Nat->Rat),us.Nodup->us[j]?=some u->dot (us.map λx=>(b9 [(u,(1:Rat))] x).getD 0) y=y j
 |v::us,j,y,nd,h=>by
  obtain⟨a,i⟩:=nodup_cons.mp nd;rw[map_cons,dot]
  match j,h with
  |0,h=>
   have d:v=u:=Option.some.inj h;subst d;have z:us.map (λx=>(b9 [(v,(1:Rat))] x).getD 0)=List.replicate us.length 0:=List.eq_replicate_iff.mpr ⟨length_map _,λb m=>by
    obtain⟨x,g,rfl⟩:=mem_map.mp m;have:¬ v=x:=λe=>a (e ▸ g)
    simp[b9,this]⟩
   rw[z,tU,EU rfl];show (1:Rat)*_+0=_
   grind
  |j+1,h=>
   have f:u∈us:=mem_of_getElem? h;have:¬ u=v:=λe=>a (e ▸ f)
   rw[DP (u:=u) (us:=us) (j:=j) _ i h,show (b9 [(u,(1:Rat))] v).getD 0=0 by simp[b9,this]]
   grind
theorem y9{us:aj}{u:Str}{j R:Nat}(y:Nat->Rat)(nd:us.Nodup)(h:us[j]?=some u):dot (dF us R [(u,1)]) y=y j:=by
 unfold dF;rw[yz,tU,DP y nd h];grind
theorem VJ{rs:ax}{us:aj}{sh:Nat->Prop}{q:Int}{y:Nat->Int}(F:Lp.eE rs.length (bj rs us) (Mx rs us) sh q y)(e:0<q){x:Nat->Rat}(a:∀k,k<us.length->x k*q=y k)(f:∀o∈rs,0<=o.2.2.2.2)(nd:us.Nodup){d:Int ⊕ (Str×Nat)}(hd:nV us d):q*n7 rs us x d<=dot (ki rs us d) λk=>(y k:Rat):=by
 match d,hd with
 |.inl k,_=>
  show q*dg us k x rs<=dot (cT us rs k) _;rw[CQ];refine za (Rat.le_of_lt (Rat.intCast_pos.mpr e)) rs _ (λo m=>⟨(tX us o).1,f o m⟩) (λj g=>Rat.intCast_nonneg.mpr (F.nn _ (by unfold bj;omega))) λi o b=>Ea F a b
 |.inr p,h=>
  show q*x p.2<=dot (dF us rs.length [(p.1,1)]) _;rw[y9 _ nd h,<- a _ (List.getElem?_eq_some_iff.mp h).1]
  grind
theorem Lz{rs:ax}{us:aj}{q:Int}{t:Nat->Int}(ht:∀k,k<us.length->0<=t k)(f:0<q){x:Nat->Rat}(g:∀k,k<us.length->x k*q=t k)(nd:us.Nodup){d:Int ⊕ (Str×Nat)}(hd:nV us d):q*n7 rs us x d=dot (ki rs us d) λk=>(gW rs us q t k:Rat):=by
 have F:=zC (rs:=rs) (q:=q) ht;have a:∀k,k<us.length->x k*q=gW rs us q t k:=λk e=>by rw[g k e];unfold gW;rw[if_pos e]
 match d,hd with
 |.inl k,_=>
  show q*dg us k x rs=dot (cT us rs k) _;rw[CQ];refine FD (Rat.intCast_pos.mpr f) rs _ (λo m=>(tX us o).1) (λj l=>Rat.intCast_nonneg.mpr (F.nn _ (by unfold bj;omega))) λi o b=>⟨?_,Ea F a b⟩
  show ((gW rs us q t (us.length+2*i+1):Int):Rat)=0\/((gW rs us q t (us.length+2*i):Int):Rat)=0;rw[(rY b).1,(rY b).2];by_cases h:0<=jM us q t o
  .left;rw[show max (- jM us q t o) 0=0 by omega];rfl
  .right;rw[show max (jM us q t o) 0=0 by omega];rfl
 |.inr p,h=>
  show q*x p.2=dot (dF us rs.length [(p.1,1)]) _;rw[y9 _ nd h,<- a _ (List.getElem?_eq_some_iff.mp h).1]
  grind
def jv:aB->aB->Prop
 |v::vs,g::gs=>v < g \/ (v=g /\ jv vs gs)
 |_,_=>True
theorem x5{p:aB×ew}(h:0<p.2.2.2):dM p*((p.2.2.2:Rat)*(ck p.1:Rat))=(p.2.2.1:Rat)/\0<(p.2.2.2:Rat)*(ck p.1:Rat):=by
 have b:=(gR p.1 1 (by decide)).1;have a:=Rat.mul_pos (Rat.intCast_pos.mpr h) (Rat.intCast_pos.mpr b);refine⟨?_,a⟩;unfold dM;rw[Rat.divInt_eq_div,Rat.intCast_mul];exact Rat.div_mul_cancel (Rat.ne_of_gt a)
theorem E2{a b c:Rat}(d:0<c)(h:a*c<b*c):a<b:=by
 have:=Rat.mul_lt_mul_right d (a:=a) (b:=b);exact this.mp h
theorem Eu{n:Nat}{y:Nat->Int}{q:Int}{f:Prop}(r:0<q):∀(d:List (aB×ew))(G:aB),(∀p∈d,0<p.2.2.2)->(∀(i:Nat)(p:aB×ew)(g:Rat),d[i]?=some p->G[i]?=some g->((Lp.sm n (λk=>p.2.1 k*y k):Int):Rat)=ck p.1*(q*g))->jc n y q f (d.map (·.2))->jv (d.map dM) G
 |[],_,_,_,_=>by rw[map_nil];unfold jv;trivial
 |p::d,[],_,_,_=>by unfold jv;trivial
 |p::d,g::G,hp,e,h=>by
  have o:=e 0 p g rfl rfl;obtain⟨s,B⟩:=x5 (hp p (.head _));have j:(0:Rat)<q:=Rat.intCast_pos.mpr r;have u:=Rat.mul_pos B j;rw[map_cons];show dM p<g\/(dM p=g/\jv (d.map dM) G);rcases h with h |⟨h,A⟩
  .left;have h:=Rat.intCast_lt_intCast.mpr h;rw[Rat.intCast_mul,Rat.intCast_mul,o,<- s] at h;refine E2 u ?_
   grind
  .right;refine⟨?_,Eu r d G (λp m=>hp p (.tail _ m)) (λi p g a b=>e (i+1) p g a b) A⟩;have h:((_:Int):Rat)=((_:Int):Rat):=congrArg (λz:Int=>(z:Rat)) h;rw[Rat.intCast_mul,Rat.intCast_mul,o,<- s] at h;have C:dM p*((p.2.2.2:Rat)*(ck p.1:Rat)*q)=g*((p.2.2.2:Rat)*(ck p.1:Rat)*q):=by grind
   have x:(dM p - g)*((p.2.2.2:Rat)*(ck p.1:Rat)*q)=0:=by grind
   rcases Rat.mul_eq_zero.mp x with l |l
   .grind
   .exact absurd l (Rat.ne_of_gt u)
theorem FT:∀(V G:aB),V.length=G.length->jv V G->(∀(i:Nat)(v g:Rat),V[i]?=some v->G[i]?=some g->g<=v)->V=G
 |[],[],_,_,_=>rfl
 |v::V,g::G,hl,h,le=>by
  have e:=le 0 v g rfl rfl;rcases h with h |⟨h,d⟩
  .exact absurd h (by grind)
  .rw[h,FT V G (Nat.succ.inj hl) d λi v g a b=>le (i+1) v g a b]
theorem Cu:∀(n:Nat)(x:Nat->Rat),∃(q:Int)(t:Nat->Int),0<q/\∀k,k<n->x k*q=t k
 |0,_=>⟨1,λ_=>0,by decide,λk a=>absurd a (Nat.not_lt_zero k)⟩
 |n + 1,x=>by
  obtain⟨q,t,b,h⟩:=Cu n x;have hd:(0:Int)<((x n).den:Int):=natCast_pos.mpr (x n).den_pos;refine⟨(x n).den*q,λk=>if k=n then (x n).num*q else (x n).den*t k,mul_pos hd b,λk a=>?_⟩;show x k*_=(((if k=n then (x n).num*q else (x n).den*t k):Int):Rat);by_cases e:k=n
  .rw[if_pos e,e];have w:=wB (c:=x n) (Int.dvd_refl ((x n).den:Int));unfold e7 at w;rw[Int.fdiv_self (ne_of_gt hd),Int.mul_one] at w;rw[Rat.intCast_mul,Rat.intCast_mul,w]
   grind
  .rw[if_neg e,Rat.intCast_mul,Rat.intCast_mul,<- h k (by omega)]
   grind
theorem zQ{rs:ax}{us:aj}(d:Int ⊕ (Str×Nat)):(ki rs us d).length=bj rs us:=by
 unfold bj
 match d with
 |.inl k=>
  show (cT us rs k).length=_;unfold cT;rw[length_append,length_replicate,ye]
 |.inr p=>
  show (dF us rs.length [(p.1,1)]).length=_;unfold dF;rw[length_append,length_replicate,length_map]
theorem Bl{rs:ax}{us:aj}{cs:aB}(h:cs.length=bj rs us)(y:Nat->Int):((Lp.sm (bj rs us) (λk=>cf (dA cs) k*y k):Int):Rat)=ck cs*dot cs λk=>(y k:Rat):=by
 rw[<- h];exact yd (b:=ck cs) (cs:=cs) y (gR cs 1 (by decide)).2.2.1
theorem Dh{rs:ax}{us:aj}{a:List (aB×ew)}{D:List (Int ⊕ (Str×Nat))}(b:a.map (·.1)=D.map (ki rs us)){i:Nat}{p:aB×ew}(hp:a[i]?=some p):∃d,D[i]?=some d/\p.1=ki rs us d:=by
 have this:(a.map (·.1))[i]?=(D.map (ki rs us))[i]?:=by rw[b]
 rw[getElem?_map,getElem?_map,hp,map_some] at this;cases e:D[i]? with
 |none=>rw[e] at this;cases this
 |some d=>rw[e] at this;exact⟨d,rfl,Option.some.inj this⟩
theorem wD{z:Nat}{rs:ax}{us:aj}{a:List (aB×ew)}{ss:br}{S:Nat->Nat}{mk:aR}{D:List (Int ⊕ (Str×Nat))}(h:gK z rs us a ss S mk)(u:a.map (·.1)=D.map (ki rs us))(hd:∀d∈D,nV us d)(nd:us.Nodup){x:Nat->Rat}(y:∀k,k<us.length->0<=x k):jv (a.map dM) (D.map (n7 rs us x)):=by
 obtain⟨q,t,b,r⟩:=Cu us.length x;have e:(0:Rat)<q:=Rat.intCast_pos.mpr b;have s:∀k,k<us.length->0<=t k:=λk n=>by
  have:=Rat.mul_nonneg (y k n) (Rat.le_of_lt e);rw[r k n] at this;exact Rat.intCast_nonneg.mp this
 refine Eu b a _ (λp m=>(h.c p m).2) (λi p g o l=>?_) (h.x q _ (le_of_lt b) (zC s));obtain⟨d,f,j⟩:=Dh u o;rw[getElem?_map,f,map_some] at l;cases l;rw[(h.c p (mem_of_getElem? o)).1,Bl (by rw[j];exact zQ d),j,Lz s b r nd (hd d (mem_of_getElem? f))]
theorem VS{rs:ax}{us:aj}{S:Nat->Nat}(G:Lp.Gd rs.length (bj rs us) (Mx rs us) S)(k:Nat):gD rs.length (bj rs us) (Mx rs us) S k*(Lp.dd rs.length (Mx rs us) S:Int)=(Lp.kP rs.length (bj rs us) (Mx rs us) S k:Int):=by
 unfold gD;rw[Rat.divInt_eq_div];exact Rat.div_mul_cancel (Rat.ne_of_gt (Rat.intCast_pos.mpr G.pos))
theorem best{z:Nat}{rs:ax}{us:aj}{f:List (aB×ew)}{ss:br}{S:Nat->Nat}{mk:aR}{D:List (Int ⊕ (Str×Nat))}(h:gK z rs us f ss S mk)(j:f.map (·.1)=D.map (ki rs us))(hd:∀d∈D,nV us d)(nd:us.Nodup)(G:∀o∈rs,0<=o.2.2.2.2):(∀k,k<us.length->0<=gD rs.length (bj rs us) (Mx rs us) S k)/\f.map dM=D.map (n7 rs us (gD rs.length (bj rs us) (Mx rs us) S)):=by
 have F:=Lp.jA (sh:=eX mk) h.g h.n;have m:=h.g.pos;have q:(0:Rat)<(Lp.dd rs.length (Mx rs us) S:Int):=Rat.intCast_pos.mpr m;have y:∀k,k<us.length->0<=gD rs.length (bj rs us) (Mx rs us) S k:=λk J=>by
  unfold gD;exact oU (F.nn k (by unfold bj;omega)) m
 refine⟨y,FT _ _ (by rw[length_map,length_map];have:=congrArg List.length j;rwa[length_map,length_map] at this) (wD h j hd nd y) λi v g b x=>?_⟩;rw[getElem?_map] at b;cases hp:f[i]? with
 |none=>rw[hp] at b;cases b
 |some p=>
  rw[hp] at b;cases b;obtain⟨d,s,u⟩:=Dh j hp;rw[getElem?_map,s,map_some] at x;cases x;have r:=mem_of_getElem? hp;have B:((_:Int):Rat)=((_:Int):Rat):=congrArg (λz:Int=>(z:Rat)) (h.e _ _ F p r);obtain⟨H,I⟩:=x5 (h.c p r).2;rw[Rat.intCast_mul,Rat.intCast_mul,(h.c p r).1,Bl (by rw[u];exact zQ d),<- H] at B;have a:=VJ F m (λk _=>VS h.g k) G nd (hd d (mem_of_getElem? s));rw[<- u] at a;generalize dot p.1 _=A at *;have C:(A - dM p*(Lp.dd rs.length (Mx rs us) S:Int))*((p.2.2.2:Rat)*(ck p.1:Rat))=0:=by grind
  have E:A=dM p*(Lp.dd rs.length (Mx rs us) S:Int):=by
   rcases Rat.mul_eq_zero.mp C with c |c
   .grind
   .exact absurd c (Rat.ne_of_gt I)
  rw[E] at a;refine Rat.not_lt.mp λl=>?_
  have:=(Rat.mul_lt_mul_right q).mpr l
  grind
def fP(u:Str)(o:bV):Rat:=Rat.divInt (o.2.2.1.num*((bX u o).den:Int)) ((o.2.2.1.den:Int)*(bX u o).num)
def d7(u:Str)(o:bV):aB:=if o.1=[] then [] else if 0<fP u o then [fP u o] else []
def bR(u:Str)(rs:ax)(k:Int)(x:Rat):Rat:=dg [u] k (λ_=>x) rs
theorem Et(u:Str)(o:bV)(x:Rat):gi [u] o (λ_=>x)=bX u o*x - o.2.2.1:=by
 unfold gi;show (bX u o*x+0) - _=_
 grind
def cX(u:Str)(rs:ax)(x:Rat):aB:=[bR u rs 0 x,bR u rs 1 x,bR u rs 2 x,bR u rs 3 x,bR u rs 4 x,x]
theorem lD(x:Rat):x*((x.den:Int):Rat)=(x.num:Rat):=by
 have hd:(0:Int)<(x.den:Int):=natCast_pos.mpr x.den_pos;have:=Rat.num_divInt_den x;rw[Rat.divInt_eq_div] at this;have m:=Rat.div_mul_cancel (a:=(x.num:Rat)) (b:=((x.den:Int):Rat)) (Rat.ne_of_gt (Rat.intCast_pos.mpr hd));rw[this] at m;exact m
theorem tV(u:Str)(o:bV)(x:Rat):(ofT u o x:Rat)=(bX u o*x - o.2.2.1)*(fR u o x:Rat)/\0<fR u o x:=by
 have a:(0:Int)<((bX u o).den:Int):=natCast_pos.mpr (bX u o).den_pos;have b:(0:Int)<(x.den:Int):=natCast_pos.mpr x.den_pos;have d:(0:Int)<(o.2.2.1.den:Int):=natCast_pos.mpr o.2.2.1.den_pos;refine⟨?_,mul_pos (mul_pos a b) d⟩;unfold ofT fR;rw[Rat.intCast_sub,Rat.intCast_mul,Rat.intCast_mul,Rat.intCast_mul,Rat.intCast_mul,Rat.intCast_mul,Rat.intCast_mul,<- lD (bX u o),<- lD x,<- lD o.2.2.1]
 grind
theorem M3{u:Str}{o:bV}(m:o.2.1="least"\/o.2.1="most"\/o.2.1="just")(x:Rat):(i7 u o x:Rat)=fY o.2.1 (gi [u] o λ_=>x)*(fR u o x:Rat):=by
 obtain⟨e,l⟩:=tV u o x;have a:(0:Rat)<(fR u o x:Rat):=Rat.intCast_pos.mpr l;rw[Et];generalize bX u o*x - o.2.2.1=d at *;generalize (fR u o x:Rat)=B at *;have j:0<ofT u o x↔0<d:=by
  rw[<- Rat.intCast_pos,e];constructor
  .intro h;refine Rat.not_le.mp λg=>?_
   have:=Rat.mul_nonneg (show 0<=-d by grind) (Rat.le_of_lt a)
   grind
  .intro h;exact Rat.mul_pos h a
 have b:ofT u o x<0↔d<0:=by
  rw[<- Rat.intCast_neg_iff,e];constructor
  .intro h;refine Rat.not_le.mp λg=>?_
   have:=Rat.mul_nonneg g (Rat.le_of_lt a)
   grind
  .intro h;have:=Rat.mul_pos (show 0 < -d by grind) a
   grind
 unfold i7 fY;have f:(((ofT u o x).natAbs:Int):Rat)=if d<0 then - (d*B) else d*B:=by
  rw[<- e];split
  .next h=>rw[show ((ofT u o x).natAbs:Int)=- ofT u o x by have:=b.mpr h;omega];rfl
  .next h=>
   have hn:¬ ofT u o x<0:=λz=>h (b.mp z)
   rw[show ((ofT u o x).natAbs:Int)=ofT u o x by omega]
 rcases m with k |k |k
 .rw[if_pos k];by_cases h:0<ofT u o x
  .rw[if_pos (.inl ⟨k,h⟩),if_neg (by have:=j.mp h;grind)];grind
  .rw[if_neg (λz=>z.elim (λz=>h z.2) λz=>absurd z.1 (by rw[k];decide)),f];have hd:¬ 0<d:=λz=>h (j.mpr z)
   split
   .grind
   .rw[show d=0 by grind,Rat.zero_mul]
 .have k1:¬ o.2.1="least":=by rw[k];decide
  by_cases h:ofT u o x<0
  .rw[if_pos (.inr ⟨k,h⟩),if_neg k1,if_pos k,if_neg (by have:=b.mp h;grind)];grind
  .rw[if_neg (λz=>z.elim (λz=>k1 z.1) λz=>h z.2),f,if_neg k1,if_pos k];have hd:¬ d<0:=λz=>h (b.mpr z)
   rw[if_neg hd];split
   .rfl
   .rw[show d=0 by grind]
 .have k1:¬ o.2.1="least":=by rw[k];decide
  have i:¬ o.2.1="most":=by rw[k];decide
  rw[if_neg (λz=>z.elim (λz=>k1 z.1) λz=>i z.1),f,if_neg k1,if_neg i];split<;>grind
theorem D4{u:Str}{o:bV}(d:o.2.1="least"\/o.2.1="most"\/o.2.1="just")(x c:Rat):Rat.divInt (c.num*fR u o x+i7 u o x*o.2.2.2.2*(c.den:Int)) ((c.den:Int)*fR u o x)=c+(o.2.2.2.2:Rat)*fY o.2.1 (gi [u] o λ_=>x):=by
 have a:=(tV u o x).2;have b:(0:Int)<(c.den:Int):=natCast_pos.mpr c.den_pos;have e:=Rat.mul_pos (Rat.intCast_pos.mpr b) (Rat.intCast_pos.mpr a);rw[Rat.divInt_eq_div,Rat.intCast_add,Rat.intCast_mul,Rat.intCast_mul,Rat.intCast_mul,Rat.intCast_mul,M3 d,<- lD c];generalize ((c.den:Int):Rat)=C at *;generalize (fR u o x:Rat)=B at *;generalize fY o.2.1 _=m at *;rw[show c*C*B+m*B*(o.2.2.2.2:Rat)*C=(c+(o.2.2.2.2:Rat)*m)*(C*B) by grind,Rat.div_def,Rat.mul_assoc,Rat.mul_inv_cancel _ (Rat.ne_of_gt e),Rat.mul_one]
theorem zR(k:Str)(d:Rat):0<=fY k d:=by
 unfold fY
 repeat' split
 all_goals grind
theorem vF{us:aj}{k:Int}{x:Nat->Rat}:∀{rs:ax},(∀o∈rs,0<=o.2.2.2.2)->0<=dg us k x rs
 |[],_=>Rat.le_refl
 |o::rs,h=>by
  have b:=vF (us:=us) (k:=k) (x:=x) λo m=>h o (.tail _ m)
  have a:(0:Rat)<=(o.2.2.2.2:Rat):=Rat.intCast_nonneg.mpr (h o (.head _));have hm:0<=fY o.2.1 (gi us o x):=zR _ _;have:=Rat.mul_nonneg a hm;rw[dg];split<;>grind
theorem vT{us:aj}{k:Int}{x:Nat->Rat}:∀{rs:ax},(∀o∈rs,0<o.2.2.2.2)->(dg us k x rs=0↔∀o∈rs,o.2.2.2.1=k->fY o.2.1 (gi us o x)=0)
 |[],_=>⟨λ_ _ m=>(nomatch m),λ_=>rfl⟩
 |o::rs,h=>by
  have d:=vT (us:=us) (k:=k) (x:=x) λo m=>h o (.tail _ m)
  have nn:=vF (us:=us) (k:=k) (x:=x) (rs:=rs) λo m=>le_of_lt (h o (.tail _ m))
  have b:(0:Rat)<(o.2.2.2.2:Rat):=Rat.intCast_pos.mpr (h o (.head _));have hm:0<=fY o.2.1 (gi us o x):=zR _ _;have f:=Rat.mul_nonneg (Rat.le_of_lt b) hm;rw[dg];constructor
  .intro e o' m hk;rcases mem_cons.mp m with rfl |m
   .rw[if_pos hk] at e;have:(o'.2.2.2.2:Rat)*fY o'.2.1 (gi us o' x)=0:=by grind
    exact (Rat.mul_eq_zero.mp this).resolve_left (Rat.ne_of_gt b)
   .refine d.mp ?_ o' m hk;split at e<;>grind
  .intro a;rw[d.mpr λo m=>a o (.tail _ m)];split
   .next hk=>rw[a o (.head _) hk];grind
   .grind
theorem DC(P:Rat->Prop)[DecidablePred P]:∀(xs:aB),(∃x∈xs,P x)->∃x∈xs,P x/\∀y∈xs,P y->y<=x
 |[],⟨_,m,_⟩=>(nomatch m)
 |a::xs,h=>by
  by_cases e:∃x∈xs,P x
  .obtain⟨x,f,px,mxx⟩:=DC P xs e;by_cases c:P a/\x<a
   .refine⟨a,.head _,c.1,λy b d=>?_⟩;rcases mem_cons.mp b with rfl |b
    .exact Rat.le_refl
    .have:=mxx y b d;grind
   .refine⟨x,.tail _ f,px,λy b d=>?_⟩;rcases mem_cons.mp b with rfl |b
    .exact Rat.not_lt.mp λz=>c ⟨d,z⟩
    .exact mxx y b d
  .obtain⟨x,f,px⟩:=h;rcases mem_cons.mp f with rfl |f
   .refine⟨x,.head _,px,λy b d=>?_⟩;rcases mem_cons.mp b with rfl |b
    .exact Rat.le_refl
    .exact absurd ⟨y,b,d⟩ e
   .exact absurd ⟨x,f,px⟩ e
theorem Ub{u:Str}{o:bV}(h:bX u o≠0):bX u o*fP u o=o.2.2.1:=by
 unfold fP;have hn:((bX u o).num:Rat)≠0:=λe=>h (Rat.num_eq_zero.mp (Rat.intCast_eq_zero_iff.mp e))
 have hd:((o.2.2.1.den:Int):Rat)≠0:=Rat.ne_of_gt (Rat.intCast_pos.mpr (natCast_pos.mpr o.2.2.1.den_pos));have f:(((bX u o).den:Int):Rat)≠0:=Rat.ne_of_gt (Rat.intCast_pos.mpr (natCast_pos.mpr (bX u o).den_pos));have b:=lD (bX u o);have d:=lD o.2.2.1;rw[Rat.divInt_eq_div,Rat.intCast_mul,Rat.intCast_mul];have g:((o.2.2.1.den:Int):Rat)*((bX u o).num:Rat)≠0:=λe=>(Rat.mul_eq_zero.mp e).elim hd hn
 have m:=Rat.div_mul_cancel (a:=((o.2.2.1.num:Rat)*(((bX u o).den:Int):Rat))) g;generalize (o.2.2.1.num:Rat)*(((bX u o).den:Int):Rat) / (((o.2.2.1.den:Int):Rat)*((bX u o).num:Rat))=X at *;rw[<- b,<- d] at m;have:(bX u o*X - o.2.2.1)*(((o.2.2.1.den:Int):Rat)*(((bX u o).den:Int):Rat))=0:=by grind
 rcases Rat.mul_eq_zero.mp this with c |c
 .grind
 .exact ((Rat.mul_eq_zero.mp c).elim hd f).elim
theorem AM{s c x n r:Rat}(f:s*r=n)(b:s*c - n<0)(d:0<s*x - n)(e:c<x):c<r/\r<x:=by
 have a:0<s:=by
  refine Rat.not_le.mp λh=>?_
  have:=Rat.mul_nonneg (show 0<=-s by grind) (show 0<=x - c by grind)
  grind
 constructor
 .refine Rat.not_le.mp λh=>?_
  have:=Rat.mul_nonneg (Rat.le_of_lt a) (show 0<=c - r by grind)
  grind
 .refine Rat.not_le.mp λh=>?_
  have:=Rat.mul_nonneg (Rat.le_of_lt a) (show 0<=r - x by grind)
  grind
theorem S4{u:Str}{rs:ax}(j:∀o∈rs,R1 u o){x:Rat}(A:0<=x)(C:bR u rs 0 x=0):∃c∈(0:Rat)::rs.flatMap (d7 u),0<=c/\bR u rs 0 c=0:=by
 have l:∀o∈rs,0<o.2.2.2.2:=λo m=>by have:=(j o m).w;omega
 obtain⟨c,J,D,f⟩:=DC (λy=>y<=x) ((0:Rat)::rs.flatMap (d7 u)) ⟨0,.head _,A⟩;have B:0<=c:=f 0 (.head _) A;refine⟨c,J,B,(vT l).mpr λo m E=>?_⟩;have a:=(vT l).mp C o m E;rw[Et] at a ⊢;by_cases g:bX u o=0
 .rw[g] at a ⊢;rw[show (0:Rat)*c=0*x by grind];exact a
 have H:=Ub g;have b:¬ (c<fP u o/\fP u o<=x):=λ⟨p1,p2⟩=>by
  have G:o.1≠[]:=λe=>g (by unfold bX;rw[e];rfl)
  have L:fP u o∈d7 u o:=by unfold d7;rw[if_neg G,if_pos (by grind)];exact .head _
  have:=f _ (.tail _ (List.mem_flatMap.mpr ⟨o,m,L⟩)) p2
  grind
 by_cases ex:c=x
 .rw[ex];exact a
 have d:c<x:=by grind
 generalize fP u o=r at *;generalize bX u o=s at *;generalize o.2.2.1=n at *;have h:0<=s*x - n->0<=s*c - n:=λp=>by
  refine Rat.not_lt.mp λq=>?_
  by_cases z:s*x - n=0
  .have:s*(x - r)=0:=by grind
   rcases Rat.mul_eq_zero.mp this with e |e
   .exact g e
   .exact b ⟨by grind,by grind⟩
  .have:=AM H q (by grind) d;exact b ⟨this.1,by grind⟩
 have i:s*x - n<=0->s*c - n<=0:=λp=>by
  refine Rat.not_lt.mp λq=>?_
  by_cases z:s*x - n=0
  .have:s*(x - r)=0:=by grind
   rcases Rat.mul_eq_zero.mp this with e |e
   .exact g e
   .exact b ⟨by grind,by grind⟩
  .have:=AM (s:=-s) (n:=-n) (r:=r) (by grind) (c:=c) (x:=x) (by grind) (by grind) d;exact b ⟨this.1,by grind⟩
 unfold fY at a ⊢;rcases (j o m).k with k |k |k
 .rw[if_pos k] at a ⊢;have:0<=s*x - n:=by split at a<;>grind
  have:=h this;rw[if_neg (by grind)]
 .have k1:¬ o.2.1="least":=by rw[k];decide
  rw[if_neg k1,if_pos k] at a ⊢;have:s*x - n<=0:=by split at a<;>grind
  have:=i this;rw[if_neg (by grind)]
 .have k1:¬ o.2.1="least":=by rw[k];decide
  have I:¬ o.2.1="most":=by rw[k];decide
  rw[if_neg k1,if_neg I] at a ⊢;have e:s*x - n=0:=by split at a<;>grind
  have M:=h (by grind);have N:=i (by grind);rw[if_neg (by grind)]
  grind
theorem Dc:∀(G V:aB),jv V G->lU (G.zip V)=false
 |[],_,_=>by rw[List.zip_nil_left];rfl
 |_::_,[],_=>rfl
 |g::G,v::V,h=>by
  rw[List.zip_cons_cons];show (if g=v then lU (G.zip V) else decide (g.num*(v.den:Int)<v.num*(g.den:Int)))=false;rcases h with h |⟨h,d⟩
  .rw[if_neg (by grind)];refine decide_eq_false λz=>?_
   have a:(0:Int)<(g.den:Int):=natCast_pos.mpr g.den_pos;have b:(0:Int)<(v.den:Int):=natCast_pos.mpr v.den_pos;have f:=Rat.intCast_lt_intCast.mpr z;rw[Rat.intCast_mul,Rat.intCast_mul,<- lD g,<- lD v] at f;have e:=Rat.mul_pos (Rat.intCast_pos.mpr a) (Rat.intCast_pos.mpr b);have:g<v:=E2 e (by grind)
   grind
  .rw[if_pos h.symm];exact Dc G V d
theorem Ev.vl{j:ah}(h:j[i]?=some t)(l:aD t=t)(n:t≠.aA):Ev (kz i) (j.map aD) t:=Ev.v (by rw[getElem?_map,h];exact congrArg some l) n
theorem Ev.ve{G:Type}[ae G]{a:G}{j:ah}(h:j[i]?=some (ae.t a)):Ev (kz i) (j.map aD) (ae.t a):=Ev.vl h (kA a) (jV a)
theorem Ev.vi{n:Int}{j:ah}(h:j[i]?=some (.int n)):Ev (kz i) (j.map aD) (.int n):=Ev.ve (a:=n) h
theorem Ev.iV{j:ah}{pe:aY}{t:Tr}(h:Ev pe (j.map aD) t)(n:bL t=true)(q:D.nx (j.set i (Pu.ay t))):lW i pe D j:=h _ ⟨n,q⟩
theorem sD{j:ah}{a:aY}{b:Bool}{p q:cg}(h:Ev a (j.map aD) (.bl b))(k1:b=true->p D j)(k2:b=false->q D j):oJ (pT a) p q D j:=by
 refine h _ ?_;show if b=true then _ else _
 cases b
 .exact k2 rfl
 .exact k1 rfl
theorem Ev.lt{a b:aY}(d:Ev a G (.int i))(e:Ev b G (.int j)):Ev (p2 rg a b) G (.bl (decide (i<j))):=λ_ q=>d _ (e _ q)
theorem Ev.gt{a b:aY}(d:Ev a G (.int i))(e:Ev b G (.int j)):Ev (p2 rn a b) G (.bl (decide (j<i))):=λ_ q=>d _ (e _ q)
theorem Ev.w0{a:aY}{o:bV}(b:Ev a j (ae.t o)):Ev (p2 dw a (pC (.int 0))) j (fo .f o.1):=b.ix (.c _) λQ q=>q
theorem Ev.V7{a b:aY}{t s:Tr}(d:Ev a j t)(e:Ev b j s)(h:∀Q:av,Q u->dw t s Q):Ev (p2 dw a b) j u:=λ_ q=>d _ (e _ (h _ q))
theorem Ev.JI{a b:aY}{m:List (Str×Rat)}{x:Str}{f:Fl}(d:Ev a j (.str x))(e:Ev b j (fo f m)):Ev (p2 (mH false) a b) j (.bl (b9 m x).isSome):=λQ q=>d _ (e _ (by rw[OR];exact q))
theorem Ev.vs{x:Str}{j:ah}(h:j[i]?=some (.str x)):Ev (kz i) (j.map aD) (.str x):=Ev.ve (a:=x) h
def Hu:bO:=cW 2 λa Q=>∃(f:Fl)(rs:ax)(u:Str)(_:Fp f),a=[.ag f (rs.map ae.t),.str u]/\rs.length<=10/\(∀o∈rs,R1 u o)/\Q (.ag .o ((0::rs.flatMap (d7 u)).map ae.t))
theorem IM{u:Str}{o:bV}:fP u o=Rat.divInt (0 - o.2.2.1.num*((bX u o).den:Int)) (0 - (o.2.2.1.den:Int)*(bX u o).num):=by
 unfold fP;rw[Int.zero_sub,Int.zero_sub,Rat.neg_divInt_neg]
theorem BX{a b:Int}(d:0<b):0<Rat.divInt a b↔0<a:=by
 rw[Rat.divInt_eq_div,Rat.lt_div_iff (Rat.intCast_pos.mpr d),Rat.zero_mul,Rat.intCast_pos]
theorem Nk(T:Tx w K mg){z:Bool}:aK P w K mg base bJ 3 T.rS.a T.rS.d ["_law_rows","_law_name"] (bP K z 0 2 Hu):=by
 refine cj T.rS.F Va rfl (by decide) λa7 A outer s H E hr hu g=>?_
 refine⟨_,(aP (gJ 2 (eC (aq (fF (aq az (aq az aF))) aF)))
  (aP (gb (fu (qv 0)) (dI 3) (a8 (da (cc EK Aq (qv 1) (aW (qv 3) az)) (aP (bF 4 (aW (aW (qv 3) az) (qv 1)))
  (aP (bF 5 (cw (aW (aW (qv 3) az) az) (aW (qv 4) az)))
  (aP (bF 6 (cw (aW (aW (qv 3) az) az) (aW (qv 4) az)))
  (aP (da (cc jo jC (qv 6) az) (aP (bF 5 (kB az (qv 5)))
  (a8 (bF 6 (kB az (qv 6))))) c9)
  (a8 (da (cc n8 nJ (qv 5) az) (a8 (jW (cV 2) (qc T.lE (qu T) (aq (qv 5) (aq (qv 6) aF))))) c9)))))) c9)))
  (a8 (kE (kT 2))))),?_⟩
 rintro xs Q' _ ⟨_,f,rs,u,_,rfl,hl,h1,q⟩;walk_at"";refine Loop.map rs _ (λi j=>∃a b c d:Tr,j=[.ag f (rs.map ae.t),.str u,.ag .o (((0:Rat)::(rs.take i).flatMap (d7 u)).map ae.t),a,b,c,d]) ⟨_,_,_,_,rfl⟩ ?_ ?_
 .rintro i o j hi ⟨a,b,c,d,rfl⟩;have r1:=h1 o (mem_of_getElem? hi);have ek:((0:Rat)::(rs.take (i+1)).flatMap (d7 u))=(0::(rs.take i).flatMap (d7 u))++d7 u o:=by
   rw[Dx hi,List.flatMap_append,flatMap_cons,List.flatMap_nil,append_nil,cons_append]
  have M:((0:Rat)::(rs.take i).flatMap (d7 u)).length<1000000:=by
   have:∀l:ax,(l.flatMap (d7 u)).length<=l.length:=λl=>by
    induction l with
    |nil=>exact le_refl _
    |cons x l ih=>
     rw[flatMap_cons,length_append,length_cons];have:(d7 u x).length<=1:=by
      unfold d7
      repeat' split
      all_goals simp
     omega
   have:=this (rs.take i);rw[length_take] at this;rw[length_cons];omega
  rw[ek];generalize ((0:Rat)::(rs.take i).flatMap (d7 u))=fs at M;show oJ _ _ _ _ _;refine sD (Ev.JI (.vs rfl) (.w0 (.ve (a:=o) rfl))) (λD=>?_) λD=>?_
  .rcases r1.p with hp |⟨s,hp,s0,s1,s2⟩
   .rw[hp] at D;cases D
   have L:b9 o.1 u=some s:=by rw[hp];unfold b9;simp
   have O:bX u o=s:=by unfold bX;rw[L];rfl
   obtain⟨n1,n2⟩:=r1.n;have Y:bi o.2.2.1.num<=40:=dh (by omega);have U:bi (o.2.2.1.den:Int)<=40:=dh (by rw[natAbs_natCast];omega);have pn:bi s.num<=40:=dh (by omega);have pd:bi (s.den:Int)<=40:=dh (by rw[natAbs_natCast];omega);have G:s.num≠0:=λe=>s0 (Rat.num_eq_zero.mp e)
   have dn:(0:Int)<(o.2.2.1.den:Int):=natCast_pos.mpr o.2.2.1.den_pos;have r:fP u o=Rat.divInt (o.2.2.1.num*(s.den:Int)) ((o.2.2.1.den:Int)*s.num):=by unfold fP;rw[O]
   have C:fP u o=Rat.divInt (0 - o.2.2.1.num*(s.den:Int)) (0 - (o.2.2.1.den:Int)*s.num):=by rw[IM,O]
   have J:d7 u o=if 0<fP u o then [fP u o] else []:=by unfold d7;rw[if_neg (by rw[hp];exact List.cons_ne_nil _ _)]
   have B:bi ((o.2.2.1.den:Int)*s.num)<=80:=le_trans (de _ _) (by omega);have nz:(o.2.2.1.den:Int)*s.num≠0:=λe=>(mul_eq_zero.mp e).elim (ne_of_gt dn) G
   refine eZ (λj=>j=[.ag f (rs.map ae.t),.str u,.ag .o (fs.map ae.t),ae.t o,ae.t s,c,d]) (λN g=>?_) ?_
   .refine Ev.iV (t:=ae.t s) ((Ev.w0 (Ev.ve (a:=o) rfl)).V7 (.vs rfl) λQ q=>?_) (gF _) (g _ (by rw[gm];rfl));rw[FA,L];exact q
   rintro _ rfl;refine eZ (λj=>j=[.ag f (rs.map ae.t),.str u,.ag .o (fs.map ae.t),ae.t o,ae.t s,.int (o.2.2.1.num*(s.den:Int)),d]) (λN g=>?_) ?_
   .exact Ev.iV (.mul (.r0 (.w2 (.ve rfl))) (.r1 (.ve rfl)) (c8 Y pd (by decide))) rfl (g _ rfl)
   rintro _ rfl;refine eZ (λj=>j=[.ag f (rs.map ae.t),.str u,.ag .o (fs.map ae.t),ae.t o,ae.t s,.int (o.2.2.1.num*(s.den:Int)),.int ((o.2.2.1.den:Int)*s.num)]) (λN g=>?_) ?_
   .exact Ev.iV (.mul (.r1 (.w2 (.ve rfl))) (.r0 (.ve rfl)) (c8 U pn (by decide))) rfl (g _ rfl)
   generalize o.2.2.1.num*(s.den:Int)=t at *;generalize (o.2.2.1.den:Int)*s.num=b at *;rintro _ rfl;refine eZ (λj=>∃I y:Int,j=[.ag f (rs.map ae.t),.str u,.ag .o (fs.map ae.t),ae.t o,ae.t s,.int I,.int y]/\0<y/\bi y<=80/\fP u o=Rat.divInt I y) (λN g=>?_) ?_
   .refine sD (Ev.lt (.vi rfl) (.c _)) (λh=>?_) λh=>?_
    .have h:=of_decide_eq_true h;refine eZ (λj=>j=[.ag f (rs.map ae.t),.str u,.ag .o (fs.map ae.t),ae.t o,ae.t s,.int (0 - t),.int b]) (λN g=>?_) ?_
     .exact Ev.iV (.sub (.c _) (.vi rfl)) rfl (g _ rfl)
     rintro _ rfl;refine Ev.iV (.sub (.c _) (.vi rfl)) rfl (g _ ⟨0 - t,0 - b,rfl,by omega,?_,C⟩);unfold bi at B ⊢;rw[Int.zero_sub,natAbs_neg];exact B
    .have h:=of_decide_eq_false h;exact g _ ⟨t,b,rfl,by omega,B,r⟩
   clear r C B nz;rintro _ ⟨I,y,rfl,h,B,r⟩;refine sD (Ev.gt (.vi rfl) (.c _)) (λm=>?_) λm=>?_
   .have m:=of_decide_eq_true m;rw[J,if_pos (by rw[r];exact (BX h).mpr m),r];walk_at"";refine⟨rfl,_,_,rfl,h,by omega,λ_=>?_⟩;refine⟨gF _,M,?_⟩;rw[gm,map_append];exact⟨_,_,_,_,rfl⟩
   .have m:=of_decide_eq_false m;rw[J,if_neg (by rw[r,BX h];exact m),append_nil];exact⟨_,_,_,_,rfl⟩
  .rcases r1.p with hp |⟨s,hp,s0,s1,s2⟩
   .rw[show d7 u o=[] from if_pos hp,append_nil];exact⟨_,_,_,_,rfl⟩
   .rw[show b9 o.1 u=some s by rw[hp];unfold b9;simp] at D;cases D
 .rintro j ⟨a,b,c,d,rfl⟩;walk_at"";rw[take_length];exact q _
theorem Ev.We{a b:aY}(d:Ev a G (.int i))(e:Ev b G (.int j)):Ev (p2 (iD false) a b) G (.bl (decide (i=j))):=λ_ q=>d _ (e _ q)
theorem Ev.add{a b:aY}(d:Ev a G (.int i))(e:Ev b G (.int j)):Ev (p2 n5 a b) G (.int (i+j)):=λ_ q=>d _ (e _ q)
theorem Ev.w3{a:aY}{o:bV}(b:Ev a j (ae.t o)):Ev (p2 dw a (pC (.int 3))) j (.int o.2.2.2.1):=b.ix (.c _) λQ q=>q
theorem Ev.w4{a:aY}{o:bV}(b:Ev a j (ae.t o)):Ev (p2 dw a (pC (.int 4))) j (.int o.2.2.2.2):=b.ix (.c _) λQ q=>q
theorem Ev.call2{a b:aY}{aZ:bO}{j:ah}{Q:av}{s t:Tr}(d:Ev a j s)(e:Ev b j t)(q:aZ (cp (bp [s,t])) λt _=>Q t):ux aZ (nh (qe a (qe b qm))) j Q:=d _ (e _ q)
theorem z0(us:aj)(k:Int)(x:Nat->Rat):∀A B:ax,dg us k x (A++B)=dg us k x A+dg us k x B
 |[],B=>by rw[nil_append,dg,Rat.zero_add]
 |o::A,B=>by rw[cons_append,dg,dg,z0 us k x A B,Rat.add_assoc]
theorem zi{u:Str}{o:bV}{x:Rat}(h:R1 u o)(a:bs x<=640):bi (i7 u o x)<=721/\bi (fR u o x)<=720:=by
 have B:=rB h;obtain⟨q,r⟩:=h.n;have e:bi o.2.2.1.num<=40:=dh (by omega);have d:bi (o.2.2.1.den:Int)<=40:=dh (by rw[natAbs_natCast];omega);obtain⟨y,z⟩:=max_le.mp (show max (bi x.num) (bl x.den)<=640 from a);have b:bi (x.den:Int)<=640:=by unfold bi;rwa[natAbs_natCast]
 have pn:bi (bX u o).num<=40:=by unfold bX;exact dh (by omega)
 have s:bi ((bX u o).den:Int)<=40:=by unfold bX;exact dh (by rw[natAbs_natCast];omega)
 have f:=de (bX u o).num x.num;have g:=de ((bX u o).num*x.num) (o.2.2.1.den:Int);have i:=de o.2.2.1.num ((bX u o).den:Int);have j:=de (o.2.2.1.num*((bX u o).den:Int)) (x.den:Int);have l:=de ((bX u o).den:Int) (x.den:Int);have m:=de (((bX u o).den:Int)*(x.den:Int)) (o.2.2.1.den:Int);have p:=y7 ((bX u o).num*x.num*(o.2.2.1.den:Int)) (o.2.2.1.num*((bX u o).den:Int)*(x.den:Int));refine⟨?_,by unfold fR;omega⟩;have t:bi (ofT u o x)<=721:=by unfold ofT;omega
 unfold i7;split
 .exact le_trans (dh (k:=1) (by decide)) (by decide)
 .unfold bi at t ⊢;rwa[natAbs_natCast]
def TZ:bO:=cW 3 λa Q=>∃(f:Fl)(rs:ax)(u:Str)(x:Rat)(_:Fp f),a=[.ag f (rs.map ae.t),.str u,ae.t x]/\rs.length<=10/\(∀o∈rs,R1 u o)/\bs x<=640/\Q (.ag .o ((cX u rs x).map ae.t))
theorem AL(T:Tx w K mg){z:Bool}:aK P w K mg base bJ 3 T.oZ.a T.oZ.d ["_law_rows","_law_name","_law_at"] (bP K z 0 3 TZ):=by
 refine cj T.oZ.F Q5 rfl (by decide) λa7 A outer s H E hr hu l=>?_
 refine⟨_,(aP (gJ 3 (eC aF))
  (aP (gb (rT T.lh (aq az aF)) (dI 4) (aP (bF 5 (fF (aq az (aq az aF))))
  (aP (gb (fu (qv 0)) (dI 6) (a8 (da (cc fZ fW (aW (qv 6) az) (qv 4)) (aP (Ov (qc T.ra (VL T) (aq (qv 6) (aq (qv 1) (aq (qv 2) aF)))) (jZ (n:=2) rfl (fL (dI 7) (fL (dI 8) jS))))
  (a8 (bF 5 (qc T.lE (qu T) (aq (eN (cw (aW (qv 5) az) (qv 8)) (cw (cw (qv 7) (aW (qv 6) az)) (aW (qv 5) az))) (aq (cw (aW (qv 5) az) (qv 8)) aF)))))) c9)))
  (a8 (jW (cV 3) (qv 5))))))
  (a8 (b5 (eN (qv 3) (eC (aq (qv 2) aF))))))),?_⟩
 rintro xs U _ ⟨_,f,rs,u,x,_,rfl,hl,L,O,q⟩;walk_at"";refine⟨by decide,by decide,Loop.map (List.range 5) _ (λi G=>∃a b c d e:Tr,G=[.ag f (rs.map ae.t),.str u,ae.t x,.ag .o (((List.range i).map λj:Nat=>bR u rs (j:Int) x).map ae.t),a,b,c,d,e]) ⟨_,_,_,_,_,rfl⟩ ?_ ?_⟩
 .rintro i j G hi ⟨a,b,c,d,e,rfl⟩;obtain⟨hj,rfl⟩:=m8 hi;rw[yr];have y:((List.range i).map λj:Nat=>bR u rs (j:Int) x).length<1000000:=by rw[length_map,length_range];omega
  generalize ((List.range i).map λj:Nat=>bR u rs (j:Int) x)=fs at y;show pG _ _ _ _;refine eZ (λG=>G=[.ag f (rs.map ae.t),.str u,ae.t x,.ag .o (fs.map ae.t),.int (i:Int),ae.t (0:Rat),c,d,e]) (λN l=>?_) ?_
  .walk_at"";exact l _ rfl
  rintro _ rfl;generalize (i:Int)=k;refine eZ (λG=>∃c d e:Tr,G=[.ag f (rs.map ae.t),.str u,ae.t x,.ag .o (fs.map ae.t),.int k,ae.t (bR u rs k x),c,d,e]) (λN l=>?_) ?_
  .walk_at"";refine Loop.map rs _ (λi G=>∃c d e:Tr,G=[.ag f (rs.map ae.t),.str u,ae.t x,.ag .o (fs.map ae.t),.int k,ae.t (dg [u] k (λ_=>x) (rs.take i)),c,d,e]/\bs (dg [u] k (λ_=>x) (rs.take i))<=760*i+1) ⟨_,_,_,rfl,show bs (0:Rat)<=1 by decide⟩ ?_ ?_
   .rintro i o G hi ⟨c,d,e,rfl,hb⟩;have il:=(List.getElem?_eq_some_iff.mp hi).1;have r1:=L o (mem_of_getElem? hi);rw[Dx hi,z0];generalize dg [u] k (λ_=>x) (rs.take i)=g at hb;have I:dg [u] k (λ_=>x) [o]=if o.2.2.2.1=k then (o.2.2.2.2:Rat)*fY o.2.1 (gi [u] o λ_=>x) else 0:=by rw[dg,dg,Rat.add_zero]
    rw[I];show oJ _ _ _ _ _;refine sD (Ev.We (.w3 (.ve rfl)) (.vi rfl)) (λh=>?_) λh=>?_
    .rw[if_pos (of_decide_eq_true h)];obtain⟨C,Y⟩:=zi r1 O;have r:=D4 (u:=u) r1.k x g;have M:=(tV u o x).2;refine eZ (λG=>G=[.ag f (rs.map ae.t),.str u,ae.t x,.ag .o (fs.map ae.t),.int k,ae.t g,ae.t o,.int (i7 u o x),.int (fR u o x)]) (λN l=>?_) ?_
     .walk_at"";exact⟨rfl,_,_,_,rfl,r1,by omega,λ_=>⟨rfl,rfl,l _ rfl⟩⟩
     generalize i7 u o x=a at *;generalize fR u o x=b at *;rintro _ rfl;obtain⟨g1,g2⟩:=max_le.mp (show max (bi g.num) (bl g.den)<=760*i+1 from hb);have J:bi (g.den:Int)<=760*i+1:=by unfold bi;rwa[natAbs_natCast]
     have D:bi o.2.2.2.2<=20:=dh (by have:=r1.w;omega);have m1:=de g.num b;have m2:=de a o.2.2.2.2;have m3:=de (a*o.2.2.2.2) (g.den:Int);have m4:=D0 (g.num*b) (a*o.2.2.2.2*(g.den:Int));have m5:=de (g.den:Int) b;have B:(0:Int)<(g.den:Int)*b:=mul_pos (natCast_pos.mpr g.den_pos) M;have p:=kD (t:=g.num*b+a*o.2.2.2.2*(g.den:Int)) (b:=(g.den:Int)*b) (k:=760*(i+1)+1) (ne_of_gt B) (by omega) (by omega);refine Ev.iV (t:=ae.t (g+(o.2.2.2.2:Rat)*fY o.2.1 (gi [u] o λ_=>x))) (λQ q=>?_) (gF _) ⟨_,_,_,by rw[gm];rfl,by rw[<- r];exact p⟩;refine Ev.call2 (.add (.mul (.r0 (.ve (a:=g) rfl)) (.vi rfl) (c8 (n:=7600) (m:=800) (by omega) (by omega) (by decide))) (.mul (.mul (.vi rfl) (.w4 (.ve (a:=o) rfl)) (c8 C D (by decide))) (.r1 (.ve (a:=g) rfl)) (c8 (n:=800) (m:=7600) (by omega) (by omega) (by decide)))) (.mul (.r1 (.ve (a:=g) rfl)) (.vi rfl) (c8 (n:=7600) (m:=800) (by omega) (by omega) (by decide))) ⟨rfl,_,_,rfl,B,by omega,λ_=>?_⟩;rw[r];exact q
    .rw[if_neg (of_decide_eq_false h),Rat.add_zero];exact⟨_,_,_,rfl,by omega⟩
   .rintro G ⟨c,d,e,rfl,_⟩;rw[take_length];exact l _ ⟨_,_,_,rfl⟩
  rintro _ ⟨c,d,e,rfl⟩;walk_at"";exact⟨y,_,_,_,_,_,rfl⟩
 .rintro G ⟨a,b,c,d,e,rfl⟩;walk_at"";exact⟨by decide,q _⟩
theorem BP{us:aj}{k:Int}{x y:Nat->Rat}(h:∀j,j<us.length->x j=y j):∀rs:ax,dg us k x rs=dg us k y rs
 |[]=>rfl
 |o::rs=>by
  have:gi us o x=gi us o y:=by
   unfold gi;rw[vB λj a=>h j (by rwa[show (iP us o).length=us.length from length_map _] at a)]
  rw[dg,dg,BP h rs,this]
def D1(u:Str):List (Int ⊕ (Str×Nat)):=[.inl 0,.inl 1,.inl 2,.inl 3,.inl 4,.inr (u,0)]
theorem zb(u:Str):∀d∈D1 u,nV [u] d:=by
 intro d m;unfold D1 at m;rcases mem_cons.mp m with rfl |m
 .exact True.intro
 rcases mem_cons.mp m with rfl |m
 .exact True.intro
 rcases mem_cons.mp m with rfl |m
 .exact True.intro
 rcases mem_cons.mp m with rfl |m
 .exact True.intro
 rcases mem_cons.mp m with rfl |m
 .exact True.intro
 rw[mem_singleton.mp m];exact rfl
theorem AO(u:Str)(rs:ax)(x:Nat->Rat):(D1 u).map (n7 rs [u] x)=cX u rs (x 0):=by
 have e:∀k:Int,n7 rs [u] x (.inl k)=bR u rs k (x 0):=λk=>BP (λj a=>by rw[show j=0 from Nat.lt_one_iff.mp a]) rs
 unfold D1 cX;rw[map_cons,map_cons,map_cons,map_cons,map_cons,map_cons,map_nil,e,e,e,e,e];rfl
theorem uW{u:Str}{rs:ax}(a:∀o∈rs,R1 u o):∀o∈rs,0<=o.2.2.2.2:=λo m=>by have:=(a o m).w;omega
theorem qG(u:Str):[u].Nodup:=nodup_cons.mpr ⟨λm=>(nomatch m),List.nodup_nil⟩
theorem jJ(x:Rat):bs (0 - x)=bs x:=by
 rw[Rat.sub_eq_add_neg,Rat.zero_add];unfold bs;rw[Rat.neg_num,Rat.neg_den,natAbs_neg]
theorem SV{u:Str}{rs:ax}{p:aB×ew}{ss:br}{S:Nat->Nat}{mk:aR}(a:gK 637 rs [u] [p] ss S mk)(e:p.1=cT [u] rs 0)(f:p.2.2.1≠0)(h:∀o∈rs,R1 u o){y:Rat}(i:0<=y):bR u rs 0 y≠0:=by
 have g:[p].map (·.1)=[Sum.inl (0:Int)].map (ki rs [u]):=congrArg (·::[]) e;have hd:∀d∈[(Sum.inl (0:Int):Int ⊕ (Str×Nat))],nV [u] d:=λd m=>by rw[mem_singleton.mp m];exact True.intro
 obtain⟨_,b⟩:=best a g hd (qG u) (uW h);have l:=wD a g hd (qG u) (x:=λ_=>y) λ_ _=>i
 have b:dM p=dg [u] 0 _ rs:=(List.cons.inj b).1;have n:=vF (us:=[u]) (k:=0) (x:=gD rs.length (bj rs [u]) (Mx rs [u]) S) (uW h);rw[<- b] at n;have v:=x5 (a.c p (.head _)).2;have j:dM p≠0:=λz=>by
  rw[z,Rat.zero_mul] at v;exact f (Rat.intCast_eq_zero_iff.mp v.1.symm)
 intro z;have l:dM p<bR u rs 0 y\/(dM p=bR u rs 0 y/\_):=l;rw[z] at l;rcases l with l |⟨l,_⟩
 .grind
 .exact j l
theorem JF{u:Str}{rs:ax}{a:List (aB×ew)}{ss:br}{S:Nat->Nat}{mk:aR}(f:gK 637 rs [u] a ss S mk)(n:a.map (·.1)=qo rs [u] [u])(z:∀p,a[0]?=some p->p.2.2.1=0)(A:∀o∈rs,R1 u o):∃x:Rat,0<=x/\bs x<=640/\bR u rs 0 x=0/\(∀y,0<=y->jv (cX u rs x) (cX u rs y))/\sG rs [u] S=[(u,x)]/\kh [u] a=[(.inl 1,bR u rs 1 x),(.inl 2,bR u rs 2 x),(.inl 3,bR u rs 3 x),(.inl 4,bR u rs 4 x),(.inr u,x)]:=by
 have d:a.map (·.1)=(D1 u).map (ki rs [u]):=n;obtain⟨g,b⟩:=best f d (zb u) (qG u) (uW A);have l:∀y:Rat,0<=y->jv (a.map dM) (cX u rs y):=λy B=>by
  have:=wD f d (zb u) (qG u) (x:=λ_=>y) λ_ _=>B
  rwa[AO] at this
 rw[AO] at b;have q:sG rs [u] S=[(u,gD rs.length (bj rs [u]) (Mx rs [u]) S 0)]:=rfl;have g:=g 0 Nat.one_pos;rw[b] at l;have s:a.tail.map dM=(a.map dM).tail:=by cases a<;>rfl
 unfold kh;rw[s,b,q];generalize gD rs.length (bj rs [u]) (Mx rs [u]) S 0=x at *;refine⟨x,g,?_,?_,l,rfl,rfl⟩
 .obtain⟨p,hp,ev⟩:∃p,a[5]?=some p/\dM p=x:=by
   have this:(a.map dM)[5]?=(cX u rs x)[5]?:=by rw[b]
   rw[getElem?_map] at this;cases e:a[5]? with
   |none=>rw[e] at this;cases this
   |some p=>rw[e] at this;exact⟨p,rfl,Option.some.inj this⟩
  obtain⟨h,v,i,j⟩:=f.v 5 p hp;have C:=(f.r _ (mem_of_getElem? i)).2.bs (le_refl _) (mem_append.mpr (.inr (.head _)):v∈h++[v]);have m:0 - v=x:=j.trans ev;rw[<- m,jJ];omega
 .obtain⟨p,hp,ev⟩:∃p,a[0]?=some p/\dM p=bR u rs 0 x:=by
   have this:(a.map dM)[0]?=(cX u rs x)[0]?:=by rw[b]
   rw[getElem?_map] at this;cases e:a[0]? with
   |none=>rw[e] at this;cases this
   |some p=>rw[e] at this;exact⟨p,rfl,Option.some.inj this⟩
  rw[<- ev];unfold dM;rw[z p hp,Rat.zero_divInt]
theorem R7{u:Str}{rs:ax}(b:∀o∈rs,R1 u o){c:Rat}(m:c∈(0:Rat)::rs.flatMap (d7 u)):0<=c/\bs c<=640:=by
 rcases mem_cons.mp m with rfl |m
 .exact⟨Rat.le_refl,show bs (0:Rat)<=640 by decide⟩
 obtain⟨o,mo,a⟩:=List.mem_flatMap.mp m;have r1:=b o mo;unfold d7 at a;split at a
 .cases a
 split at a
 .next hp ht=>
  rw[mem_singleton.mp a];refine⟨Rat.le_of_lt ht,?_⟩;have B:=rB r1;obtain⟨j,l⟩:=r1.n;have d:(bX u o).num≠0:=λe=>by
   have z:fP u o=0:=by unfold fP;rw[e,mul_zero,Rat.divInt_zero]
   rw[z] at ht;exact absurd ht (by decide)
  have g:bi o.2.2.1.num<=40:=dh (by omega);have f:bi (o.2.2.1.den:Int)<=40:=dh (by rw[natAbs_natCast];omega);have pn:bi (bX u o).num<=40:=by unfold bX;exact dh (by omega)
  have p:bi ((bX u o).den:Int)<=40:=by unfold bX;exact dh (by rw[natAbs_natCast];omega)
  have h:=de o.2.2.1.num ((bX u o).den:Int);have i:=de (o.2.2.1.den:Int) (bX u o).num;unfold fP;exact kD (λe=>(mul_eq_zero.mp e).elim (λe=>by have:=o.2.2.1.den_pos;omega) d) (by omega) (by omega)
 .cases a
theorem bg.rows{u:Str}(ys:List j)(g:j->Tr){pg:eT}{pe:aY}{b:ah}{Q:av}(p:ys.length<=1000)(step:∀y∈ys,∀R:av,(∀o,R1 u o->R (ae.t o))->pg (g y) b λf=>pe f R)(q:∀rs:ax,rs.length=ys.length->(∀o∈rs,R1 u o)->Q (.ag .o (rs.map ae.t))):bg (ys.map g) pg ql pe b Q:=by
 refine⟨λi a=>∃rs:ax,a=rs.map ae.t/\rs.length=i/\∀o∈rs,R1 u o,⟨[],rfl,rfl,λ_ m=>(nomatch m)⟩,λi t a e h=>?_,λa h=>?_⟩
 .obtain⟨rs,rfl,e1,e2⟩:=h;rw[getElem?_map] at e;cases e':ys[i]? with
  |none=>rw[e'] at e;cases e
  |some y=>
   rw[e'] at e;cases e;have l:=(List.getElem?_eq_some_iff.mp e').1;refine step y (mem_of_getElem? e') _ λo d=>⟨by rw[length_map];omega,rs++[o],by rw[map_append];rfl,by rw[length_append,e1];rfl,λx n=>?_⟩
   rcases mem_append.mp n with z |z
   .exact e2 x z
   .rw[mem_singleton.mp z];exact d
 .obtain⟨rs,rfl,e1,e2⟩:=h;rw[length_map] at e1 ⊢;exact⟨by omega,q rs e1 e2⟩
def xE(K:ao):Sp:=λvs H Q _=>∃(a:af)(ns:aH),vs=[.ref a]/\bE K H a (ns.map V.int)/\ns.length<=63/\∀b,Q (.bl true) b
def FX:bO:=cW 1 λa Q=>∃ns:aH,a=[.ag (.l false) (ns.map ae.t)]/\ns.length<=63/\Q (.bl true)
theorem dZ{K:ao}{F:Hp}{B:Bool->Hp}:∀ns:aH,Rs K F B (ns.map ae.t) (ns.map V.int) []
 |[]=>⟨rfl,rfl⟩
 |n::ns=>⟨_,_,[],[],rfl,rfl,⟨rfl,rfl⟩,dZ ns⟩
theorem GV{K:ao}(vs:aw)(H:Hp)(Q:VK)(E:XK)(h:xE K vs H Q E):bP K true 0 1 FX vs H Q E:=by
 obtain⟨a,ns,rfl,b,d,k⟩:=h;refine⟨rfl,λ_=>none,H,[.ag (.l false) (ns.map ae.t)],λ_=>[],λt _=>t=.bl true,λ_=>False,⟨?_,(λ_ _ _ _ z=>by cases z),rfl,?_,(λ_=>.nil),(λ_ _ m=>nomatch m),(λ_ _ _ _ m=>nomatch m),(λi h=>absurd h (Nat.not_lt_zero i)),λ_ _ _ _ z=>z.elim⟩,⟨rfl,ns,rfl,d,λ_=>rfl⟩,?_⟩
 .exact Gr.aO (λ_ _ z=>by cases z)
 .intro i t e;cases i with
  |zero=>cases e;exact .inr ⟨.ref a,rfl,rfl,a,_,rfl,b,dZ ns⟩
  |succ i=>cases e
 .intro F' H' j' g' cs' v t c _ r _ _ _ _ e;subst e;rw[r.1];exact k _
theorem MM(u:Str)(rs:ax)(cs:aB):Pu.ay (.ag .o (cs.map λc=>Tr.ag .o ((cX u rs c).map ae.t)))=.ag .f ((cs.map (cX u rs)).map ae.t):=by
 have:=tT (cs.map (cX u rs));rw[map_map] at this;exact congrArg (Tr.ag .f) this
theorem DE(u:Str)(rs:ax):∀cs:aB,cu (cs.map λc=>Tr.ag .o ((cX u rs c).map ae.t))=true
 |[]=>rfl
 |c::cs=>by
  rw[map_cons];show (cu _&&cu _)=true;rw[f6,DE u rs cs];rfl
theorem Wa(u:Str)(l:ax):(l.flatMap (d7 u)).length<=l.length:=by
 induction l with
 |nil=>exact le_refl _
 |cons x l a=>
  rw[flatMap_cons,length_append,length_cons];have:(d7 u x).length<=1:=by
   unfold d7
   repeat' split
   all_goals simp
  omega
theorem Ml(u:Str)(rs:ax)(c:Rat){Q:av}(q:Q (ae.t (bR u rs 0 c))):dw (ae.t (cX u rs c)) (.int 0) Q:=q
theorem R6(u:Str)(rs:ax)(c:Rat){Q:av}(q:Q (ae.t c)):dw (ae.t (cX u rs c)) (.int 5) Q:=q
def k4(g:aB):Bool:=decide (g.getD 0 0=0)
theorem MK(xs:aB):gq (xs.map ae.t)<=1:=by
 induction xs with
 |nil=>exact zero_le _
 |cons x xs a=>exact max_le.mpr ⟨show (1:Nat) <= 1 by decide,a⟩
theorem Qe(G:br):gq (G.map ae.t)<=2:=by
 induction G with
 |nil=>exact zero_le _
 |cons x b a=>exact max_le.mpr ⟨Nat.succ_le_succ (MK x),a⟩
theorem vC(f g:Fl)(xs:ah)(hd:gq xs<=59){Q:av}(q:Q (.bl xs.isEmpty)):iD false (.ag f xs) (.ag g []) Q:=by
 refine .inr ⟨xs.isEmpty,?_,Nat.succ_le_succ hd,Nat.succ_le_succ (zero_le _),q⟩;cases xs<;>rfl
theorem Bj{u:Str}{x:Rat}(b:bs x<=640)(k:Int):∀{rs:ax},(∀o∈rs,R1 u o)->bs (bR u rs k x)<=760*rs.length+1
 |[],_=>show bs (0:Rat) <= 1 by decide
 |o::rs,h=>by
  have a:=Bj b k (rs:=rs) λo m=>h o (.tail _ m)
  unfold bR at a ⊢;rw[dg,length_cons];generalize dg [u] k (λ_=>x) rs=g at a;have r1:=h o (.head _);split
  .obtain⟨b1,b2⟩:=zi r1 b;have e:=(tV u o x).2;rw[Rat.add_comm,<- D4 r1.k x g];obtain⟨i,j⟩:=max_le.mp (show max (bi g.num) (bl g.den)<=760*rs.length+1 from a);have d:bi (g.den:Int)<=760*rs.length+1:=by unfold bi;rwa[natAbs_natCast]
   have f:bi o.2.2.2.2<=20:=dh (by have:=r1.w;omega);have l:=de g.num (fR u o x);have n:=de (i7 u o x) o.2.2.2.2;have p:=de (i7 u o x*o.2.2.2.2) (g.den:Int);have q:=D0 (g.num*fR u o x) (i7 u o x*o.2.2.2.2*(g.den:Int));have r:=de (g.den:Int) (fR u o x);exact kD (ne_of_gt (mul_pos (natCast_pos.mpr g.den_pos) e)) (by omega) (by omega)
  .rw[Rat.zero_add];omega
theorem B0{u:Str}{rs:ax}{x:Rat}(a:∀o∈rs,R1 u o)(d:rs.length<=10)(b:bs x<=640):∀y∈cX u rs x,bs y<=100000:=by
 have g:∀k,bs (bR u rs k x)<=100000:=λk=>by have:=Bj b k a;omega
 intro y m;unfold cX at m;rcases mem_cons.mp m with rfl |m
 .exact g _
 rcases mem_cons.mp m with rfl |m
 .exact g _
 rcases mem_cons.mp m with rfl |m
 .exact g _
 rcases mem_cons.mp m with rfl |m
 .exact g _
 rcases mem_cons.mp m with rfl |m
 .exact g _
 rw[mem_singleton.mp m];omega
theorem Ow{x:Rat}:dy (ae.t x) (ae.t x)=some true:=by
 show (if 2=2 then (some (decide (x.num=x.num))).bind λa=>((some (decide ((x.den:Int)=x.den))).bind λb=>(some true).bind λc=>some (b&&c)).bind λb=>some (a&&b) else none)=_;rw[if_pos rfl,decide_eq_true rfl,decide_eq_true rfl];rfl
theorem o6{a:Tr}{x:Rat}(h:dy a a=some true):dy (.aG [a,ae.t x]) (.aG [a,ae.t x])=some true:=by
 show (if 2=2 then (dy a a).bind λa=>((dy (ae.t x) (ae.t x)).bind λb=>(some true).bind λc=>some (b&&c)).bind λb=>some (a&&b) else none)=_;rw[if_pos rfl,h,Ow];rfl
theorem oj{a:Tr}{d:ah}(h:dy a a=some true)(h':dC d d=some true):dC (a::d) (a::d)=some true:=by
 show ((dy a a).bind λa=>(dC d d).bind λb=>some (a&&b))=_;rw[h,h'];rfl
theorem Dk{f g:Fl}{a:ah}(h:dC a a=some true):dy (.ag f a) (.ag g a)=some true:=by
 show (if a.length=a.length then dC a a else some false)=_;rw[if_pos rfl,h]
theorem eq_str(u:Str):dy (.str u) (.str u)=some true:=by
 show some (decide (u=u))=_;rw[decide_eq_true rfl]
theorem Wh(n:Nat){Q:av}(q:Q (.bl false)):u5 false [.ag .o ((List.replicate n false).map ae.t)] Q:=by
 refine⟨List.replicate n false,rfl,?_⟩;have:(List.replicate n false).any id=false:=by
  induction n with
  |zero=>rfl
  |succ n a=>rw[List.replicate_succ,any_cons,a];rfl
 rw[if_neg (by decide),this];exact q
theorem Np{u:Str}{a b c d e:Rat}{Q:av}(q:Q (.bl true)):iD false (ae.t ([(.inl 1,a),(.inl 2,b),(.inl 3,c),(.inl 4,d),(.inr u,e)]:List ((Int ⊕ Str)×Rat))) (.ag .o [.aG [.int 1,ae.t a],.aG [.int 2,ae.t b],.aG [.int 3,ae.t c],.aG [.int 4,ae.t d],.aG [.str u,ae.t e]]) Q:=.inr ⟨true,Dk (oj (o6 rfl) (oj (o6 rfl) (oj (o6 rfl) (oj (o6 rfl) (oj (o6 (eq_str u)) rfl))))),show (3:Nat)<=60 by decide,show (1:Nat)<=3 by decide,q⟩
theorem Oe(u:Str)(rs:ax)(c:Rat)(Q:Tr->Tr->Tr->Tr->av)(q:Q (ae.t (bR u rs 1 c)) (ae.t (bR u rs 2 c)) (ae.t (bR u rs 3 c)) (ae.t (bR u rs 4 c)) (ae.t c)):dw (ae.t (cX u rs c)) (.int 1) λa=>dw (ae.t (cX u rs c)) (.int 2) λb=>dw (ae.t (cX u rs c)) (.int 3) λd=>dw (ae.t (cX u rs c)) (.int 4) λe=>dw (ae.t (cX u rs c)) (.int 5) λf=>Q a b d e f:=q
theorem S3(T:Tx w K mg):aK P w K mg base bJ 60 T.lB.a T.lB.d ["_law_script"] (bP K true 0 1 FX):=by
 refine cj T.lB.F AU rfl (by decide) λa7 A outer s H E hr hu r=>?_
 refine⟨_,(aP (bF 1 (qc T.tQ (TQ T) (aq (qv 0) (aq az aF))))
  (aP (bF 2 (aW (eC (aq iT (aq iT (aq iT aF)))) (gj (qv 1) az)))
  (aP (bF 3 (iq ["_law_cell","_law_name","_law_first"] [none,some 2,some 1] (fu (qx (qv 0) (oG az) (oG az))) (eP 0) (λ_ _ _ _ _=>(qc T.rM (N9 T) (aq (qv 0) (aq (qv 1) (aq (kL fZ fW (gj (jO (qv 2) az) az) az) aF)))))))
  (aP (ma 4 ["_law_at","_law_rows","_law_name"] [none,some 3,some 2] (fu (qc T.rS (Nk T) (aq (qv 3) (aq (qv 2) aF)))) (eP 0) (λ_ _ _ _ _=>(qc T.oZ (AL T) (aq (qv 1) (aq (qv 2) (aq (qv 0) aF))))))
  (aP (ma 4 ["_law_goals_here"] [none] (fu (qv 4)) (eP 0) (λ_ _ _ _ _=>(qv 0)) (ht:=λ_ _ _ _ _=>(B1 (cc fZ fW (aW (qv 0) az) (fF (aq az (aq az aF)))))))
  (aP (bF 5 kH)
  (aP (bF 6 qz)
  (aP (Hs (pe:=λq=>sJ q _ _) rfl rfl rfl T.AX (Pq (i:=5) (by decide)) (λpn xe te h=>q5 (i:=5) AU.nd rfl (Or.inl rfl) h) (λpn xe R hx q=>(s9 T.uk (S7 T) (aq (kx (kq rfl) kM T.ia (aq (qv 3) aF)) (aq (eC (aq (qv 2) aF)) aF)))) (λv=>(a8 (bF 6 qz))))
  (aP (da (QW.t (k9 (cc fZ fW (qv 4) (eC aF)) (nv (lF (qv 6))))) (a8 (b5 (Ca (kL fZ fW (qv 4) (eC aF)) (yF (qv 6))))) c9)
  (aP (da (QW.t (k9 (L4 (lF (Wc K T.Pj (aq (qv 5) (aq (Hf T.Q8) aF))))) (k9 (cc i6 i5 (fC hV hX T.g8 (aq (qv 5) aF)) az) (nv (cc i6 i5 (kx (kq rfl) kM T.ia (aq (aW (qv 5) az) aF)) (eC (aq (qv 2) aF))))))) (a8 (b5 qz)) c9)
  (aP (bF 7 (qc T.oZ (AL T) (aq (qv 3) (aq (qv 2) (aq (aW (aW (qv 5) az) (qv 2)) aF)))))
  (aP (da (QW.t (k9 (cc i6 i5 (aW (qv 7) az) (fF (aq az (aq az aF)))) (k9 (cc jo jC (aW (aW (qv 7) az) az) az) (nv (lF (fC (Qq rfl) Qf T.Ha (aq (iq ["_law_goals_here","_law_told"] [none,some 7] (fu (qv 4)) (eP 0) (λ_ _ _ _ _=>(qc T.uN (Ib T) (aq (qv 0) (aq (qv 1) aF))))) aF))))))) (a8 (b5 qz)) c9)
  (a8 (b5 (kL fZ fW (aW (qv 5) az) (eC (aq (fF (aq az (aq (aW (qv 7) az) aF))) (aq (fF (aq az (aq (aW (qv 7) az) aF))) (aq (fF (aq az (aq (aW (qv 7) az) aF))) (aq (fF (aq az (aq (aW (qv 7) az) aF))) (aq (fF (aq (qv 2) (aq (aW (qv 7) az) aF))) aF))))))))))))))))))))),?_⟩
 rintro xs Q' _ ⟨_,n,rfl,ν,q⟩;refine eZ (λj=>∃c:Int,j=[.ag (.l false) (n.map ae.t),.int c,.aA,.aA,.aA,.aA,.aA,.aA]) (λN r=>?_) ?_
 .walk_at"";exact⟨rfl,_,n,0,inferInstance,rfl,by decide,λc j=>⟨rfl,r _ ⟨c,rfl⟩⟩⟩
 rintro _ ⟨c,rfl⟩;have m3:=emod_nonneg c (show (3:Int)≠0 by decide);have δ:=emod_lt_of_pos c (show (0:Int)<3 by decide);refine eZ (λj=>∃u:Str,j=[.ag (.l false) (n.map ae.t),.int c,.str u,.aA,.aA,.aA,.aA,.aA]) (λN r=>?_) ?_
 .walk_at"";refine⟨by decide,wk m3 δ λx M=>?_⟩;obtain⟨u,rfl⟩:∃u,x=.str u:=by
   rcases mem_cons.mp M with rfl |M
   .exact⟨_,rfl⟩
   rcases mem_cons.mp M with rfl |M
   .exact⟨_,rfl⟩
   rw[mem_singleton.mp M];exact⟨_,rfl⟩
  exact⟨rfl,r _ ⟨u,rfl⟩⟩
 rintro _ ⟨u,rfl⟩;have κ:(g6 n (some 1) (some 11)).length<=10:=by
  unfold g6;rw[length_take];unfold HT.dq;dsimp only;simp only[show ¬ ((11:Int)<0) from by decide,show ¬ ((1:Int)<0) from by decide,if_false];omega
 refine eZ (λj=>∃rs:ax,j=[.ag (.l false) (n.map ae.t),.int c,.str u,.ag .f (rs.map ae.t),.aA,.aA,.aA,.aA]/\rs.length<=10/\∀o∈rs,R1 u o) (λN r=>?_) ?_
 .walk_at"";refine bg.rows (u:=u) _ _ (by omega) (λx M R hq=>?_) λrs J ok=>?_
  .walk_at"";exact⟨⟨by decide,w9 (by decide)⟩,by decide,rfl,_,_,_,rfl,λo ho _=>hq o ho⟩
  rw[fH];exact⟨f6 _,r _ ⟨rs,rfl,by omega,ok⟩⟩
 rintro _ ⟨rs,rfl,J,B⟩;have C:∀y,y∈(0:Rat)::rs.flatMap (d7 u)->0<=y/\bs y<=640:=λy m=>R7 B m
 have Y:∀x:Rat,0<=x->bR u rs 0 x=0->∃c∈(0:Rat)::rs.flatMap (d7 u),0<=c/\bR u rs 0 c=0:=λx=>S4 B
 have D:((0:Rat)::rs.flatMap (d7 u)).length<=1000:=by
  rw[length_cons];have:=Wa u rs;omega
 refine eZ (λj=>j=[.ag (.l false) (n.map ae.t),.int c,.str u,.ag .f (rs.map ae.t),.ag .f ((((0:Rat)::rs.flatMap (d7 u)).map (cX u rs)).map ae.t),.aA,.aA,.aA]) (λN r=>?_) ?_
 .walk_at"";refine⟨rfl,.f,rs,u,inferInstance,rfl,J,B,λ_=>?_⟩;generalize (0:Rat)::rs.flatMap (d7 u)=cs at *;rw[fH,fO,jn];refine bg.jE cs _ (λc=>Tr.ag .o ((cX u rs c).map ae.t)) (by omega) (λy I R hR=>?_) ⟨DE u rs cs,r _ (by rw[MM])⟩;walk_at"";exact⟨rfl,.f,rs,u,y,inferInstance,rfl,J,B,(C y I).2,λ_=>hR⟩
 generalize (0:Rat)::rs.flatMap (d7 u)=cs at *;rintro _ rfl;refine eZ (λj=>j=[.ag (.l false) (n.map ae.t),.int c,.str u,.ag .f (rs.map ae.t),.ag .f (((cs.map (cX u rs)).filter k4).map ae.t),.aA,.aA,.aA]) (λN r=>?_) ?_
 .walk_at"";refine bg.filter (cs.map (cX u rs)) ae.t k4 id (by rw[length_map];omega) (λy I A R k1 k2=>?_) ?_
  .obtain⟨c,mc,rfl⟩:=mem_map.mp I;walk_at"";refine Ml u rs c (nD ?_);have e:k4 (cX u rs c)=decide (bR u rs 0 c=0):=rfl;rw[e] at k1 k2;by_cases z:bR u rs 0 c=0
   .rw[decide_eq_true z];exact k1 (decide_eq_true z)
   .rw[decide_eq_false z];exact k2 (decide_eq_false z)
  .rw[List.map_id,fH];exact⟨f6 _,r _ rfl⟩
 rintro _ rfl;have U:∀g,g∈(cs.map (cX u rs)).filter k4->∃y,g=cX u rs y/\0<=y/\bR u rs 0 y=0/\bs y<=640:=λg m=>by
  obtain⟨m1,m2⟩:=mem_filter.mp m;obtain⟨y,I,rfl⟩:=mem_map.mp m1;exact⟨y,rfl,(C y I).1,of_decide_eq_true m2,(C y I).2⟩
 have β:(∃x:Rat,0<=x/\bR u rs 0 x=0)->(cs.map (cX u rs)).filter k4≠[]:=λ⟨x,O,Q⟩ e=>by
  obtain⟨y,I,y0,y1⟩:=Y x O Q;have:cX u rs y∈(cs.map (cX u rs)).filter k4:=mem_filter.mpr ⟨mem_map.mpr ⟨y,I,rfl⟩,decide_eq_true y1⟩;rw[e] at this;cases this
 have μ:((cs.map (cX u rs)).filter k4).length<=1000:=le_trans (length_filter_le _ _) (by rw[length_map];exact D);generalize (cs.map (cX u rs)).filter k4=G at *;clear C Y D;refine eZ (λj=>j=[.ag (.l false) (n.map ae.t),.int c,.str u,.ag .f (rs.map ae.t),.ag .f (G.map ae.t),.aL,.aA,.aA]) (λN r=>?_) ?_
 .walk_at"";exact r _ rfl
 rintro _ rfl;refine eZ (λj=>j=[.ag (.l false) (n.map ae.t),.int c,.str u,.ag .f (rs.map ae.t),.ag .f (G.map ae.t),.aL,.bl false,.aA]) (λN r=>?_) ?_
 .walk_at"";exact r _ rfl
 rintro _ rfl;refine eZ (λj=>(j=[.ag (.l false) (n.map ae.t),.int c,.str u,.ag .f (rs.map ae.t),.ag .f (G.map ae.t),.aL,.bl true,.aA]/\G=[])\/∃(x:Rat)(b:List (aB×aB)),j=[.ag (.l false) (n.map ae.t),.int c,.str u,.ag .f (rs.map ae.t),.ag .f (G.map ae.t),.aG [fo .f [(u,x)],ae.t ([(.inl 1,bR u rs 1 x),(.inl 2,bR u rs 2 x),(.inl 3,bR u rs 3 x),(.inl 4,bR u rs 4 x),(.inr u,x)]:List ((Int ⊕ Str)×Rat)),ae.t b],.bl false,.aA]/\0<=x/\bs x<=640/\bR u rs 0 x=0/\∀y,0<=y->jv (cX u rs x) (cX u rs y)) (λN r=>?_) ?_
 .walk_at"";refine⟨rfl,.f,.f,rs,[u],inferInstance,inferInstance,rfl,λo m=>Ra (B o m),qG u,J,le_refl 1,λp ss S mk e hZ γ=>?_,λgs ss S mk eg h0 hZ b _=>?_⟩
  .refine⟨T.Pz,r _ (.inl ⟨rfl,?_⟩)⟩;cases e':G with
   |nil=>rfl
   |cons g G'=>
    obtain⟨y,_,y0,y1,_⟩:=U g (by rw[e'];exact .head _);exact absurd y1 (SV hZ e γ B y0)
  .obtain⟨x,O,xb,Q,xl,ep,est⟩:=JF hZ eg h0 B;rw[ep,est];refine⟨?_,r _ (.inr ⟨x,b,?_,O,xb,Q,xl⟩)⟩
   .show (true&&(bL (ae.t ([(.inl 1,bR u rs 1 x),(.inl 2,bR u rs 2 x),(.inl 3,bR u rs 3 x),(.inl 4,bR u rs 4 x),(.inr u,x)]:List ((Int ⊕ Str)×Rat)))&&(bL (ae.t b)&&true)))=true;rw[gF,gF];rfl
   .show _=_;rw[show Pu.ay (Tr.aG [Tr.aS Fl.o (List.map (λp:Str×Rat=>((Sum.inr p.1:aU),ae.t p.2)) [(u,x)]),ae.t ([(.inl 1,bR u rs 1 x),(.inl 2,bR u rs 2 x),(.inl 3,bR u rs 3 x),(.inl 4,bR u rs 4 x),(.inr u,x)]:List ((Int ⊕ Str)×Rat)),ae.t b])=.aG [fo .f [(u,x)],Pu.ay (ae.t ([(.inl 1,bR u rs 1 x),(.inl 2,bR u rs 2 x),(.inl 3,bR u rs 3 x),(.inl 4,bR u rs 4 x),(.inr u,x)]:List ((Int ⊕ Str)×Rat))),Pu.ay (ae.t b)] from rfl,gm,gm]
 rintro _ (⟨rfl,rfl⟩ |⟨x,b,rfl,O,xb,Q,xl⟩)
 .walk_at"";refine vC _ _ _ (by decide) ?_;refine vC _ _ _ (by decide) ?_;exact q _
 have hG:=β ⟨x,O,Q⟩;have α:(G.map (ae.t:aB->Tr)).isEmpty=false:=by cases G with
  |nil=>exact absurd rfl hG
  |cons=>rfl
 have dG:=Qe G;refine eZ (λj=>j=[.ag (.l false) (n.map ae.t),.int c,.str u,.ag .f (rs.map ae.t),.ag .f (G.map ae.t),.aG [fo .f [(u,x)],ae.t ([(.inl 1,bR u rs 1 x),(.inl 2,bR u rs 2 x),(.inl 3,bR u rs 3 x),(.inl 4,bR u rs 4 x),(.inr u,x)]:List ((Int ⊕ Str)×Rat)),ae.t b],.bl false,.aA]) (λN r=>?_) ?_
 .walk_at"";refine vC _ _ _ (by omega) ?_;rw[α];walk_at"";exact r _ rfl
 rintro _ rfl;generalize hL:([(.inl 1,bR u rs 1 x),(.inl 2,bR u rs 2 x),(.inl 3,bR u rs 3 x),(.inl 4,bR u rs 4 x),(.inr u,x)]:List ((Int ⊕ Str)×Rat))=L;refine eZ (λj=>j=[.ag (.l false) (n.map ae.t),.int c,.str u,.ag .f (rs.map ae.t),.ag .f (G.map ae.t),.aG [fo .f [(u,x)],ae.t L,ae.t b],.bl false,.aA]) (λN r=>?_) ?_
 .walk_at"";refine⟨true,rfl,?_⟩;dsimp only;rw[FZ,if_neg (by decide),if_neg (by decide),show nO [fo Fl.f [(u,x)]]=nO [.aS .f [((Sum.inr u:aU),ae.t x)]] from rfl,xK];refine .inr ⟨true,Dk (oj (eq_str u) rfl),show (1:Nat)<=60 by decide,show (1:Nat)<=1 by decide,?_⟩;exact r _ rfl
 rintro _ rfl;refine eZ (λj=>j=[.ag (.l false) (n.map ae.t),.int c,.str u,.ag .f (rs.map ae.t),.ag .f (G.map ae.t),.aG [fo .f [(u,x)],ae.t L,ae.t b],.bl false,ae.t (cX u rs x)]) (λN r=>?_) ?_
 .walk_at"";rw[show b9 [(u,x)] u=some x by unfold b9;simp];rw[map_some,zg];walk_at"";exact⟨rfl,.f,rs,u,x,inferInstance,rfl,J,B,xb,λ_=>⟨f6 _,r _ (by rw[fH])⟩⟩
 rintro _ rfl;refine eZ (λj=>j=[.ag (.l false) (n.map ae.t),.int c,.str u,.ag .f (rs.map ae.t),.ag .f (G.map ae.t),.aG [fo .f [(u,x)],ae.t L,ae.t b],.bl false,ae.t (cX u rs x)]) (λN r=>?_) ?_
 .walk_at"";refine nD ?_;walk_at"";rw[Q,if_neg (by decide)];refine R6 u rs x ?_;walk_at"";rw[if_neg (by rw[decide_eq_false (show ¬ x.num<0 by have:=Rat.num_nonneg.mpr O;omega)];decide)];refine bg.map G _ (λ_=>false) (by omega) (λg mg R hR=>?_) ?_
  .obtain⟨y,rfl,y0,_,yb⟩:=U g mg;walk_at"";refine⟨rfl,.f,.f,_,_,inferInstance,inferInstance,rfl,λp m=>?_,?_⟩
   .have hz:=of_mem_zip (a:=p.1) (b:=p.2) m;exact⟨B0 B J yb _ hz.1,B0 B J xb _ hz.2⟩
   .rw[Dc _ _ (xl y y0)];exact λ_=>hR
  .rw[List.map_const'];refine Wh _ ?_;exact r _ rfl
 rintro _ rfl;walk_at"";refine Oe u rs x (λε ζ η θ ι=>iD false (ae.t L) (Tr.ag Fl.o [Tr.aG [Tr.int 1,ε],Tr.aG [Tr.int 2,ζ],Tr.aG [Tr.int 3,η],Tr.aG [Tr.int 4,θ],Tr.aG [Tr.str u,ι]]) _) ?_;rw[<- hL];exact Np ⟨rfl,q _⟩
theorem LV(T:Tx w K mg):aK P w K mg base bJ 60 T.lB.a T.lB.d ["_law_script"] (xE K):=(S3 T).imp GV
end
theorem walk{l:W.OpenLaw}{q:Program}{b:aj}{u:(bu)->aT->Prop}{p:World->aT->Prop}{d:DefRec}{K:Params->ao}(hn:l.most=some 63)(i:d.params.defaults=[])(o:d.name="law")(A:∀(w:World)(h:aT),p w h->(K w.params).In h)(F:∀(w:World)(mg:bu)(h:aT),(K w.params).In h->h.Ns mainGlobals mg->Nonempty (Tx w (K w.params) mg)):
  W.WalkO q b u p l.row.toRowW d [] (λf vs=>PySem.call f vs):=by
 refine L2.kS (n:=63) (k:=60) (x:="_law_script") (CX:=λ_=>bJ) (sp:=λw=>xE (K w.params)) hn (by decide) i ⟨rfl,by decide,by decide⟩ A ?_ (λ_ _ a ns C _ y=>⟨a,ns,rfl,y,C,λ_=>rfl⟩) λ_ _ _ _ _ z=>z
 intro w mg D h r G g;obtain⟨T⟩:=F w mg h r G;rw[o] at g;have e:=g.symm.trans T.lB.m;cases e;refine⟨T.lB.d,λs v=>?_,λbase _ _=>LV T⟩;obtain⟨oc,od,kV,doc,pm,an,a7,ct,osl,j,E,B⟩:=T.lB.F.ex;rw[j];exact .of_eq rfl
end Sf
structure PySem.W.Fast:Prop where(tw3719990449625212781 tw5112213165621471597 tw12516340806590408973 tw7336783735687328980 tw15692201978583470824 tw16046271251017142906 tw2762921817575609046 tw3799217939545352664 tw1880805894778040474 tw8207976086993189221 tw10024037854000090243 tw18077513979475859362 tw12596101783290304786 tw15804914464297518634 tw13726476936265482622 tw5310464203273946496 tw17370943699740692674 tw5779479992891344718 tw10042662676539929999 tw13293474450049763463 tw17493127140329055348 tw2103266407554866769 tw15804022800382164149 tw6750089048552557721 tw6322606236895352406 tw15460033654529409969 tw5680091454036356890 tw12424536373783896641 tw4280023891040404348 tw12880415895220432930 tw18107131003653113452 tw4059621262553488885 tw2512277972281977056 tw15207539509634139736 tw8347790624311997738 tw7111574852718885411 tw11260833378675705106 tw7215425679393923251 tw937826350873363436 tw7580142787053662443 tw7671456180026084349 tw43477135755890914 tw16827542620086514205 tw17141483989087398878 tw14205821889046128728 tw14676248030717359682 tw16339022479418248996 tw17656665428406842464 tw14079525643617956265 tw4096953693041413625 tw1841668453164915570 tw12055834804512139792 tw9644200303019530763 tw1072762993801323147 tw15089008155829953768 tw10664410040330235624 tw573714080910855342 tw17303676752783731746 tw17950305851622882646 tw7237363834418882394 tw12041706617968441673 tw3558926314592502758 tw5931127395169660457 tw4220602817692079009 tw7887807032022203277 tw17399827049437089778 tw8515858997421440830 tw5847178374697514103 tw8452605606613744789 tw131075740122621197 tw13760767850593459216 tw5366743784549800400 tw13726747883352865101 tw3528223869077569547 tw15400151661710950064 tw7134568232257412932 tw3507078270330052573 tw17974872201648515915 tw15747662206409973139 tw5421778117013214719 tw15323099016187017097 tw10765622015602137999 tw7372864848747162072 tw5444636674036695360 tw14462013772269303788 tw2255419164755080654 tw1947432716731789256 tw6801240480583996876 tw6141437240387432076 tw8009410501536826842 tw6899425086934421432 tw1887648847446750900 tw5340527348688266966 tw1687933951895524188 tw10381206370187272289 tw13622941644772092022 tw70079055054365939 tw166816963350318942 tw5972244040784154283 tw2281174090865423084 tw17033717705339821641 tw6133689501249267536 tw2530396999333376691 tw11767547749037599406 tw1834693782977110002 tw7692689067262512390 tw17407561575096587067 tw9557067101178763091 tw2383541511859626808 tw6302081431612057798 tw8953893253967029971 tw14078404800562484105 tw4972330952032089923 tw8705048027940571306 tw1737271919972062920 tw16166877387916022774 tw15043196645799567942 tw1996121993490058917 tw11524155992319626680 tw3136376500206540635 tw6238475756833560495 tw7810420104182700529 tw15325915717484975831 tw14763406697230739039 tw10549779323992330900 tw770071764224593411 tw12446671842177212360 tw12904425902570539180 tw13426641513780100891 tw14682806880089351982 tw5207837017941601746 tw11271430185835994648 tw1220449988951718153 tw1706245149604870571 tw17749822027793043116 tw12696990632427107114 tw17858385100953628460 tw15482662269040244332 tw2554437964601999823 tw181257438645463544 tw17515641529142258771 tw15715087857423853036 tw7500198180924423800 tw7262453886696577121 tw16128188014913324172 tw7266633903897882149 tw15168871404070707056 tw11005976489552887888 tw4375218636608935309 tw16094019570871075921 tw2949503030048640007 tw13485609435950629501 tw7009700034206271429 tw15240649510399102502 tw14731454119194041831 tw354116552314711518 tw17798674047407491629 tw3146703971204544846 tw3059450153828579394 tw11140495285962011246 tw16691227125609259279 tw12087740243818246855 tw3915768120185106152 tw8112934016725259956 tw15379044371879871805 tw8107409134367610959 tw2517899007395400482 tw4477529643936583536 tw1527226661359862081 tw9838871500332732165 tw15467540928921504989 tw7268428712923018478 tw1168545329190441139 tw5020452840900278492 tw17195098335301493415 tw14133358626997632101 tw6628833387588884377 tw12081949092702098374 tw18374471584153525795 tw15599905582120257901 tw15334342808984776708 tw17556269969455220212 tw7693279807701325448 tw8841517229381113433 tw1430789421276517142 tw3287510824429476828 tw2460005088134992321 tw18147927402447880367 tw16668980138286835089 tw9141533766878199512 tw13511308242813441888 tw17256596535001425708 tw8239591301278431237 tw15036885954486514718 tw1709666045889647488 tw7765796291666699249 tw16551875939892494455 tw8803080126101807009 tw11364652423791573709 tw4521593447941477491 tw10797806525838408924 tw14770332627794546896 tw11183459351164633136 tw16915556669916248489 tw742856840618011176 tw2143409252039590497 tw14801850952836142938 tw3626073839997824602 tw87613175364501223 tw3831523188927738528 tw254777525880156383 tw16663735257877981019 tw12905165695698412825 tw11638113015826035727 tw8930648022771363711 tw15381499617275432621 tw10734973939320933386 tw17543032962308152745 tw3868863000347397587 tw10430952293857883898 tw1477691418860772315 tw13451486889663222287 tw81445853654984049 tw14676778304696340936 tw5004271178911175444 tw13757964263037418469 tw13151779701370183462 tw16777330477273036998 tw12977981450388451053 tw13290700017724184010 tw17938124638877380056 tw5163540428809572395 tw4972024284386604640 tw1573707565174900444 tw16134793740136847444 tw11727327314334369065 tw7503541844354238685 tw1956611579964613077 tw16688356039002389311 tw14721378409595183499 tw800059463474328997 tw6881511044127655227 tw4862071225149144926 tw14541385729309087323 tw13098211559246052333 tw389579078429131291 tw16541432180756900208 tw16019728054501105565 tw8033210836684543368 tw6070666551001890063 tw6643567868412194048 tw379660932556998700 tw16811899339819443115 tw15058235134357442833 tw10363570181511151912 tw4049284941082221952 tw10012984720970266088 tw9816321896937383861 tw16297205003736196178 tw12659317594179199059 tw8070938498934126445 tw2426688310030671232 tw15250060312684616440 tw14690656737517111886 tw3885219336008770591 tw3844428461130302698 tw6486179241095731835 tw15415306977300508906 tw2053851272356711475 tw2793910224318427898 tw179119948962895040 tw4446547562706074061 tw1857157901068796446 tw1795438630997702986 tw16092836877059037945 tw2452814609838238739 tw4157313644873979980 tw2608081064408575849 tw14095206409727006596 tw2765370305141609981 tw10244209368770306973 tw8411333969072587576 tw16277972645561527198 tw11086723159871365520 tw8173358661271525062 tw17701871546174849518 tw12179223062805176373 tw5449224152065090493 tw15607898963247044787 tw9005547533560989694 tw15572872411302639819 tw5885918014732012293 tw5065649215940387833 tw50274363405452946 tw9685364722882234537 tw722825552781164919 tw9742409469522188207 tw6956013146653280032 tw2637115691787744664 tw16595525932937009502 tw5691138616883127574 tw17805538438714633348 tw14108226447322585211 tw13460993128740345663 tw11875869875625971928 tw1857801944090052095 tw707255284468023649 tw12360391888388954474 tw6279321137959380909 tw18017616873875823696 tw17831816781258508295 tw9755916729013595573 tw7824961931309740507 tw3366387659600436547 tw16945304634927537984 tw1138260077175542736 tw6520786577326525293 tw7964904651863414438 tw4006882661889577783 tw15011718657452080743 tw15005178014876572422 tw14445735813212661845 tw15200763047063252643 tw9465694585128343355 tw8079498186965307656 tw5046142487883168514 tw1674662429075655207 tw15666386211530548961 tw14901840478036440481 tw11846419583738100931 tw9941303973873745735 tw8905695221019549187 tw8687480148610145277 tw5836368378075226759 tw425548513656956385 tw16476134438509066733 tw409482896316198949 tw1179837745292285610 tw10054451057899432334 tw2584490014655764918 tw16859016260345964385 tw16757067279043648160 tw9800426469433081409 tw4855443123721745873 tw2787061358754923067 tw11493110041125494923 tw11248714161729804303 tw10299380367746101848 tw9962607132453227055 tw9878743987488716256 tw9707353226604975106 tw965892292701165691 tw927132930022494555 tw9201435133372859865 tw9177041157152350975 tw900237373657978022 tw8753657456504825529 tw8732596577451126142 tw8708258961160023769 tw8479030327550981373 tw8451275480009834183 tw8298799083047256752 tw8248391655242446468 tw823776422539486167 tw8205646181851626253 tw792135950993020671 tw7813985391913218006 tw7646109787351329165 tw7562300123240697142 tw7550150180967132045 tw74527400600676245 tw7372692013413599772 tw7289884072669554729 tw7230672146564198550 tw7129208450371383498 tw680244351657235998 tw6715994711521052537 tw6676973293136348973 tw6596895011890617433 tw6548564188519296244 tw6519748590349874659 tw6496913684217407375 tw6318542043659721661 tw6283286978524818708 tw6048566872459713891 tw5402705182931736871:True)
open PySem PySem.W PyProof.Rows
local macro_rules |`(tactic|walk_at "b")=>`(tactic|first |exact λ_ _ _ _ _ _=>Pu.zW λ_=>rfl |exact λ_ _ _ _ _ _=>Pu.ln2 λ_ _=>rfl |exact λ_ _ _ _ _ _=>Pu.Cp λ_ _ _=>rfl |exact λ_ _ _ _ _ _=>Pu.TU λ_ _ _ _=>rfl)
set_option maxRecDepth 100000 in
set_option maxHeartbeats 0 in
theorem PySem.Challenge.cw_springframe_k41_one_unknown_holds : PySem.Challenge.rw_springframe_k41_one_unknown.Holds := by
 w_on;o_law;k_head;(case hw=>w_witness2)
 k_fill
 refine Sf.walk (l:=PySem.Challenge.rw_springframe_k41_one_unknown) rfl rfl rfl (λw h Y=>PySem.W.kIn_of Y) ?F
 case F=>
  intro w mg h KX G;refine⟨?_⟩;apply Sf.Tx.mk
  all_goals first |exact Pu.OP KX G (by k_is) (L2.kJ (by k_is) (by k_is) (by k_is)) (by walk_at "b") |exact Pu.JD (by k_is) (L2.kJ (by k_is) (by k_is) (by k_is)) (by k_is) (by walk_at "b") |exact Pu.OS (by k_is) (L2.kJ (by k_is) (by k_is) (by k_is)) (by k_is) (by k_is) (by k_is) (by walk_at "b") |exact mg_of KX G (by k_is) |exact mg_none_of KX G (by k_is) |exact Pu.xQ (by k_is) |exact L2.gg.mk (by k_is) (by k_is) (by k_is) (by k_is) |exact Pu.vf (by k_is) (L2.kJ (by k_is) (by k_is) (by k_is)) (by k_is) (by rfl) (by rfl) (by rfl) (by rfl) (by k_exc) (by k_is) (by rfl) (by rfl) (by k_is) (by k_is) (by rfl) (by rfl) (by k_is) (by k_is) (by k_is) (by k_is) (by k_is) (by k_is) (by walk_at "b") |exact⟨_,_,_,by k_is,rfl,rfl,Nat.le_of_ble_eq_true rfl,by repeat first |exact .nil |refine .cons ⟨_,rfl⟩ ?_⟩ |k_is |kit_is |k_exc |kts_exm
#print axioms PySem.Challenge.cw_springframe_k41_one_unknown_holds
