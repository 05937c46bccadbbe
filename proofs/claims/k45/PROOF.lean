import PyProof.Rows.All
import Wide.All
import OpenK.AllK
import Wide.FinOn
import Lean
import PyProof.EqAt
import PyProof.EqKinds
import PyProof.TupleCall
import PySem.Challenge.RW_springframe_k45_too_many
set_option Elab.async false
set_option linter.all false
set_option maxRecDepth 100000
open List (length_map mem_append mem_map mem_cons map_cons length_cons map_append size_toArray length_append mem_of_getElem? map_map getElem?_map append_assoc length_set append_nil length_replicate getElem?_eq_getElem mem_singleton getD_eq_getElem?_getD getElem?_set_ne lookup_cons nodup_cons length_range mem_append_right getElem?_set_self length_take any_cons length_zipIdx find?_cons getElem?_append_right all_cons mem_range of_mem_zip mem_cons_of_mem getElem?_of_mem cons_append nodup_append map_replicate mem_filter length_nil take_length take_add_one append_eq_nil_iff getElem?_append_left length_filter_le any_eq_true mem_filterMap length_zip not_mem_nil)
open Nat (le_refl ne_of_lt le_trans lt_of_lt_of_le zero_le lt_irrefl sub_self)
open Bool (and_eq_true false_eq_true)
open Int (emod_nonneg toNat_natCast emod_lt_of_pos zero_mul)
open Array (length_toList getElem?_toList)
open Option (isSome_iff_exists)
local macro_rules|`(tactic|omega)=>`(tactic|first|decide|lia)
namespace L2
open PySem PySem.Spec PyProof.Rows
abbrev Key:=Sum Int Str
def aeG:Key->Value->Bool
 |.inl k,v=>Value.isInt k v
 |.inr x,v=>Value.isStrOf x v
def ajl(w:World):Key->Int
 |.inl k=>hashInt k
 |.inr x=>hashStr w x
theorem a'J:∀{k:Key}{v:Value},aeG k v=true->(∃i t,k=Sum.inl i/\v=Value.int i t)\/(∃x t,k=Sum.inr x/\v=Value.str x t)
 |.inl i,v,h=>by
  obtain⟨t,e⟩:=Value.isInt_shape (k:=i) (v:=v) h;exact .inl ⟨i,t,rfl,e⟩
 |.inr x,v,h=>by
  obtain⟨t,e⟩:=Value.isStrOf_shape (x:=x) (v:=v) h;exact .inr ⟨x,t,rfl,e⟩
theorem l'K(i:Int)(t:Tok):aeG (.inl i) (.int i t)=true:=by simp[aeG,Value.isInt]
theorem l'L(x:Str)(t:Tok):aeG (.inr x) (.str x t)=true:=by simp[aeG,Value.isStrOf]
theorem t'T(a b:Int):decide ((Sum.inl a:Key)=Sum.inl b)=(a == b):=by
 by_cases e:a=b
 .subst e;simp
 .have h:¬ (Sum.inl a:Key)=Sum.inl b:=λq=>e (Sum.inl.inj q)
  rw[decide_eq_false h];exact (beq_eq_false_iff_ne.mpr e).symm
theorem t'U(a b:Str):decide ((Sum.inr a:Key)=Sum.inr b)=decide (a=b):=by
 by_cases e:a=b
 .subst e;simp
 .have h:¬ (Sum.inr a:Key)=Sum.inr b:=λq=>e (Sum.inr.inj q)
  rw[decide_eq_false h,decide_eq_false e]
theorem t'V(a:Int)(b:Str):decide ((Sum.inl a:Key)=Sum.inr b)=false:=decide_eq_false (λq=>nomatch q)
theorem t'W(a:Str)(b:Int):decide ((Sum.inr a:Key)=Sum.inl b)=false:=decide_eq_false (λq=>nomatch q)
def acn(prog:Program)(w:World):PySem.KeyKind prog w Key where
 is:=aeG
 hash:=ajl w
 inj:=λv a b f d=>by
  rcases a'J f with⟨i,t,rfl,rfl⟩ |⟨x,t,rfl,rfl⟩
  .rcases a'J d with⟨j,u,rfl,e⟩ |⟨y,u,rfl,e⟩
   .injection e with e1 _;rw[e1]
   .exact nomatch e
  .rcases a'J d with⟨j,u,rfl,e⟩ |⟨y,u,rfl,e⟩
   .exact nomatch e
   .injection e with e1 _;rw[e1]
 byValue:=λk v h=>by
  rcases a'J h with⟨i,t,rfl,rfl⟩ |⟨x,t,rfl,rfl⟩<;>rfl
 pyHash:=λc h=>by
  rcases a'J c with⟨i,t,rfl,rfl⟩ |⟨x,t,rfl,rfl⟩
  .exact wpAny_pyHash_int h
  .exact wpAny_pyHash_str h
 eqBool:=λg c h=>by
  rcases a'J g with⟨i,t,rfl,rfl⟩ |⟨x,t,rfl,rfl⟩
  .rcases a'J c with⟨j,u,rfl,rfl⟩ |⟨y,u,rfl,rfl⟩
   .rw[t'T] at h;exact wpAny_eqBool_int h
   .rw[t'V] at h;exact SeqAt.EqAt.int_str i t y u _ _ _ _ h
  .rcases a'J c with⟨j,u,rfl,rfl⟩ |⟨y,u,rfl,rfl⟩
   .rw[t'W] at h;exact SeqAt.EqAt.str_int x t j u _ _ _ _ h
   .rw[t'U] at h;exact wpAny_eqBool_str h
 «strs»:=λk x t v h=>by
  rcases a'J h with⟨i,u,rfl,e⟩ |⟨y,u,rfl,e⟩
  .exact nomatch e
  .injection e with e1 _
   subst e1;cases v<;>rfl
theorem i'U(prog:Program)(w:World)(i:Int)(t:Tok):(acn prog w).is (.inl i) (.int i t)=true:=l'K i t
theorem i'V(prog:Program)(w:World)(x:Str)(t:Tok):(acn prog w).is (.inr x) (.str x t)=true:=l'L x t
inductive V where
 |non |bl (b:Bool) |int (i:Int) |str (x:Str) |byt (b:Array UInt8) |flt (b:UInt64) |ref (a:Addr) |ty (n:String)
 deriving DecidableEq
def RelV:V->Value->Prop
 |.non,u=>u=Value.none
 |.bl b,u=>u=Value.bool b
 |.int i,u=>∃t,u=Value.int i t
 |.str x,u=>∃t,u=Value.str x t
 |.byt b,u=>∃t,u=Value.bytes b t
 |.flt b,u=>∃t,u=Value.float b t
 |.ref a,u=>u=Value.ref a
 |.ty n,u=>u=Value.type n
abbrev Vals:List V->List Value->Prop:=Paired RelV
theorem Vals.length(r:Vals xs us):xs.length=us.length:=Paired.length r
theorem Vals.get:∀{xs:List V}{us:List Value}{i:Nat}{x:V},Vals xs us->xs[i]?=some x->∃u,us[i]?=some u/\RelV x u
 |_,_,_,_,.nil,e=>by simp at e
 |_,_,0,_,.cons r _,e=>by simp at e;subst e;exact⟨_,rfl,r⟩
 |_,_,i + 1,x,.cons _ t,e=>by
  obtain⟨u,b,a⟩:=Vals.get (i:=i) (x:=x) t (by simpa using e);exact⟨u,by simpa using b,a⟩
theorem Vals.set(r:RelV x u):∀{xs:List V}{us:List Value}(i:Nat),Vals xs us->Vals (xs.set i x) (us.set i u)
 |_,_,_,.nil=>.nil
 |_,_,0,.cons _ t=>.cons r t
 |_,_,i + 1,.cons q t=>.cons q (Vals.set r i t)
theorem Vals.append:∀{xs ys:List V}{us a:List Value},Vals xs us->Vals ys a->Vals (xs++ys) (us++a)
 |_,_,_,_,.nil,s=>s
 |_,_,_,_,.cons r t,s=>.cons r (Vals.append t s)
theorem Vals.take:∀{xs:List V}{us:List Value}(n:Nat),Vals xs us->Vals (xs.take n) (us.take n)
 |_,_,0,_=>.nil
 |_,_,_ + 1,.nil=>.nil
 |_,_,n + 1,.cons r t=>.cons r (Vals.take n t)
theorem Vals.drop:∀{xs:List V}{us:List Value}(n:Nat),Vals xs us->Vals (xs.drop n) (us.drop n)
 |_,_,0,r=>r
 |_,_,_ + 1,.nil=>.nil
 |_,_,n + 1,.cons _ t=>Vals.drop n t
def RelO:Option V->Option Value->Prop
 |some v,some u=>RelV v u
 |none,none=>True
 |_,_=>False
def KV{j:Type}:List (j×V)->List (j×Value)->Prop:=Paired λ(p:j×V)(q:j×Value)=>p.1=q.1/\RelV p.2 q.2
def kV:Key->V
 |.inl i=>.int i
 |.inr x=>.str x
inductive HO where
 /-- a list -/
 |lst (xs:List V)
 /-- a tuple (never changes) -/
 |tup (xs:List V)
 /-- a dict whose keys are ints and texts;one whose keys are tuples of ints and texts (the empty one is both) -/
 |dK (kvs:List (Key × V)) |dT (kvs:List (List Key × V))
 /-- a set of ints: its members,its size -/
 |set (S:Int -> Bool) (n:Nat)
 /-- an instance of the class at C,its dict at dx,its attributes -/
 |ins (C dx:Addr) (fs:List (Str × V))
 /-- the dict of the instance at x -/
 |own (x:Addr)
 /-- the dict of an exception -/
 |xd (fs:List (Str × V))
 /-- a bound method,f of x -/
 |met (f x:Addr)
 /-- a range object lo,lo + 1,.. below hi -/
 |rng (lo hi:Int)
 /-- a thing that is known to the object (the script;a dict while a loop walks it): read,never written while it is so -/
 |frz (o:Obj) (u:HO)
 /-- a code object's table -/
 |tbl (ps:Array Value)
 /-- any other thing,by what is true of its one object (a def of one's own: SetO a S n:=HO.ext λh=>..) -/
 |ext (φ:Heap -> Prop)
abbrev Hp:=Addr->Option HO
def upd(H:Hp)(a:Addr)(o:HO):Hp:=λb=>if b=a then some o else H b
theorem a'g:upd H a o a=some o:=by unfold upd;rw[if_pos rfl]
theorem a'e{H:Hp}(h:b≠a):upd H a o b=H b:=by unfold upd;rw[if_neg h]
theorem w'g{H:Hp}(h:H a=some o)(h':H b=some u)(d:o≠u):a≠b:=by
 intro e;subst e;rw[h] at h';exact d (Option.some.inj h')
theorem a'x{H:Hp}(h:H a=some o)(h':H b=none):a≠b:=by
 intro e;subst e;rw[h] at h';cases h'
section
variable(P:Program)(w:World)
def ObjOk(H:Hp)(h:Heap)(a:Addr):HO->Prop
 |.lst d=>d.length <= sizeLine /\ ∃(b:List Value)(n:Nat),Vals d b /\ h.get? a=some { cls:=.type "list",data:=.seq b.toArray n }
 |.tup d=>d.length <= sizeLine /\ ∃b:List Value,Vals d b /\ IsTup h a b.toArray
 |.dK c=>c.length <= sizeLine /\ (a == sysModules)=false /\ ∃vs,KV c vs /\ h.DictOf (acn P w) a vs
 |.dT c=>c.length <= sizeLine /\ (a == sysModules)=false /\ ∃d:List (List Key × Addr × Value),
   Paired (λ(p:List Key×V)(q:List Key×Addr×Value)=>p.1=q.1/\H q.2.1=some (.tup (p.1.map kV))/\RelV p.2 q.2.2) c d/\
   ∃o r s,h.get? a=some o/\o.ExactDict/\o.data=.dict r s/\r.toList=d.map (entryOfKey (tupleKind (acn P w)))/\(d.map (·.1)).Nodup
 |.set S n=>h.SetOf (intKind P w) a S n
 |.ins C g fs=>H g=some (.own a) /\ fs.length <= 1000 /\ g ≠ a /\ h.get? a=some (W.instObj C g) /\
   ∃e,h.Ns1 g e/\(∀f,RelO (fs.lookup f) (e f))/\PySem.Within e (fs.map (·.1))
 |.own _=>∃o,h.get? a=some o
 |.xd fs=>∃e,h.Ns1 a e /\ ∀f,RelO (fs.lookup f) (e f)
 |.rng lo y=>∃t u v,h.get? a=some { cls:=.type "range",data:=.fields #[.int lo t,.int y u,.int 1 v] }
 |.frz o u=>h.get? a=some o /\ ObjOk H h a u
 |.tbl z=>h.get? a=some { cls:=.none,data:=.fields z }
 |.met f x=>h.get? a=some (W.methodObj (.ref f) (.ref x))
 |.ext j=>j h /\ (∃o,h.get? a=some o) /\ ∀l m:Heap,j l -> (∀o,l.get? a=some o -> m.get? a=some o) -> j m
def HOk(H:Hp)(h:Heap):Prop:=∀a o,H a=some o->ObjOk P w H h a o
end
section
variable{P:Program}{w:World}{H H':Hp}{h h':Heap}{a:Addr}{o:HO}
theorem ObjOk.lt(x:ObjOk P w H h a o):a<h.objs.size:=by
 cases o with
 |lst c=>obtain⟨_,_,_,_,e⟩:=x;exact Heap.lt_size e
 |tup c=>obtain⟨_,_,_,p⟩:=x;exact p.lt
 |dK b=>obtain⟨_,_,_,_,o,_,_,e,_⟩:=x;exact Heap.lt_size e
 |dT b=>obtain⟨_,_,_,_,o,_,_,e,_⟩:=x;exact Heap.lt_size e
 |set S n=>obtain⟨o,_,_,_,e,_⟩:=x;exact Heap.lt_size e
 |ins C d fs=>obtain⟨_,_,_,e,_⟩:=x;exact Heap.lt_size e
 |own y=>obtain⟨_,e⟩:=x;exact Heap.lt_size e
 |xd fs=>obtain⟨_,⟨_,_,_,e,_⟩,_⟩:=x;exact Heap.lt_size e
 |rng lo g=>obtain⟨_,_,_,e⟩:=x;exact Heap.lt_size e
 |frz l u=>obtain⟨e,_⟩:=x;exact Heap.lt_size e
 |tbl j=>exact Heap.lt_size (show h.get? a=some _ from x)
 |met f y=>exact Heap.lt_size (show h.get? a=some _ from x)
 |ext m=>obtain⟨_,⟨_,e⟩,_⟩:=x;exact Heap.lt_size e
theorem Paired.mapP{F G:j->y->Prop}:∀{c:List j}{d:List y},Paired F c d->(∀a b,F a b->G a b)->Paired G c d
 |_,_,.nil,_=>.nil
 |_,_,.cons r t,f=>.cons (f _ _ r) (Paired.mapP t f)
theorem ObjOk.stay(x:ObjOk P w H h a o)(k:∀b u,(b=a\/H b=some (.own a))->h.get? b=some u->h'.get? b=some u)(I:∀b,H b=some (.own a)->H' b=some (.own a))(D:∀b xs,H b=some (.tup xs)->H' b=some (.tup xs)):ObjOk P w H' h' a o:=by
 induction o with
 |lst xs=>obtain⟨z,m,n,r,e⟩:=x;exact⟨z,m,n,r,k _ _ (.inl rfl) e⟩
 |tup xs=>obtain⟨z,m,r,g,e,c⟩:=x;exact⟨z,m,r,g,k _ _ (.inl rfl) e,c⟩
 |dK A=>obtain⟨z,y,vs,r,g,j,l,e,c⟩:=x;exact⟨z,y,vs,r,g,j,l,k _ _ (.inl rfl) e,c⟩
 |dT A=>
  obtain⟨z,y,xs,r,g,j,l,e,c⟩:=x;exact⟨z,y,xs,Paired.mapP r λp q z=>⟨z.1,D _ _ z.2.1,z.2.2⟩,g,j,l,k _ _ (.inl rfl) e,c⟩
 |set S n=>obtain⟨g,j,l,t,e,c⟩:=x;exact⟨g,j,l,t,k _ _ (.inl rfl) e,c⟩
 |ins C J fs=>
  obtain⟨d,z,ne,e,s,⟨od,j,l,G,c⟩,r⟩:=x;exact⟨I _ d,z,ne,k _ _ (.inl rfl) e,s,⟨od,j,l,k _ _ (.inr d) G,c⟩,r⟩
 |own y=>obtain⟨g,e⟩:=x;exact⟨g,k _ _ (.inl rfl) e⟩
 |xd fs=>obtain⟨s,⟨od,j,l,e,c⟩,r⟩:=x;exact⟨s,⟨od,j,l,k _ _ (.inl rfl) e,c⟩,r⟩
 |rng lo M=>obtain⟨t,u,v,e⟩:=x;exact⟨t,u,v,k _ _ (.inl rfl) e⟩
 |frz g u E=>obtain⟨e,q⟩:=x;exact⟨k _ _ (.inl rfl) e,E q⟩
 |tbl B=>
  have e:h.get? a=some { cls:=.none,data:=.fields B }:=x;show h'.get? a=some { cls:=.none,data:=.fields B };exact k a _ (.inl rfl) e
 |met f y=>
  have e:h.get? a=some (W.methodObj (.ref f) (.ref y)):=x;show h'.get? a=some (W.methodObj (.ref f) (.ref y));exact k a _ (.inl rfl) e
 |ext L=>obtain⟨p,⟨o,e⟩,st⟩:=x;exact⟨st _ _ p λo q=>k _ _ (.inl rfl) q,⟨o,k _ _ (.inl rfl) e⟩,st⟩
theorem HOk.lt(x:HOk P w H h)(e:H a=some o):a<h.objs.size:=(x a o e).lt
theorem HOk.fresh(x:HOk P w H h)(e:h.objs.size<=a):H a=none:=by
 cases q:H a with
 |none=>rfl
 |some u=>exact absurd (lt_of_lt_of_le (x.lt q) e) (lt_irrefl _)
theorem HOk.kept(x:HOk P w H h)(k:∀b u,h.get? b=some u->h'.get? b=some u):HOk P w H h':=λa o e=>
 (x a o e).stay (λb u _ q=>k b u q) (λ_ q=>q) λ_ _ q=>q
theorem HOk.laid(x:HOk P w H h)(k:∀b u,h.get? b=some u->h'.get? b=some u)(hp:h.objs.size<=a)(d:ObjOk P w (upd H a o) h' a o):HOk P w (upd H a o) h':=λb u e=>by
 have f:=x.fresh hp;by_cases g:b=a
 .subst g;rw[a'g] at e;cases e;exact d
 .rw[a'e g] at e;exact (x b u e).stay (λc v _ q=>k c v q) (λc q=>by rw[a'e (a'x q f)];exact q) λc j q=>by rw[a'e (a'x q f)];exact q
end
def Rd(H:Hp)(a:Addr)(u:HO):Prop:=H a=some u\/∃o,H a=some (.frz o u)
theorem Rd.of{H:Hp}(h:H a=some u):Rd H a u:=.inl h
theorem Rd.ok(r:Rd H a u)(x:HOk P w H h):ObjOk P w H h a u:=by
 rcases r with r |⟨o,r⟩
 .exact x a u r
 .obtain⟨_,q⟩:=x a _ r;exact q
def Mut:Option HO->Prop
 |some (.lst _)=>True
 |some (.dK _)=>True
 |some (.dT _)=>True
 |some (.set _ _)=>True
 |some (.ins _ _ _)=>True
 |some (.ext _)=>True
 |_=>False
section
variable{P:Program}{w:World}{H:Hp}{h h':Heap}{x e:Addr}{o':HO}
theorem HOk.write(ok:HOk P w H h)(j:Mut (H x))(he:e=x\/H e=some (.own x))(k:∀b u,b≠e->h.get? b=some u->h'.get? b=some u)(o:∃u,h'.get? e=some u)(n:ObjOk P w (upd H x o') h' x o'):HOk P w (upd H x o') h':=λb u q=>by
 have d:∀c y,H c=some (.own y)->c≠x:=λc y r z=>by subst z;rw[r] at j;exact j
 have f:∀c g,H c=some (.tup g)->c≠x:=λc g r z=>by subst z;rw[r] at j;exact j
 by_cases l:b=x
 .subst l;rw[a'g] at q;cases q;exact n
 .rw[a'e l] at q;by_cases a:b=e
  .have q':H b=some (.own x):=by
    rcases he with z |z
    .exact absurd (a.trans z) l
    .rw[a];exact z
   rw[q] at q';cases q';obtain⟨v,p⟩:=o;exact⟨v,by rw[a];exact p⟩
  .refine (ok b u q).stay (λc v m r=>k c v ?_ r) (λc r=>by rw[a'e (d c b r)];exact r) λc g r=>by rw[a'e (f c g r)];exact r
   rcases m with rfl |m
   .exact a
   .rintro rfl;rcases he with z |z
    .exact d c b m z
    .rw[m] at z;cases z;exact l rfl
end
structure Un(fs ex:List Addr)(H H':Hp)(h h':Heap):Prop where
 keep:∀b o,h.get? b=some o->H b=none->b ∉ fs->b ∉ ex->h'.get? b=some o
 slot:∀b o,h.get? b=some o->H b=none->b∈fs->b ∉ ex->∃sl,h'.get? b=some { o with slots:=sl }
 free:∀b o,h.get? b=some o->H b=none->b ∉ ex->H' b=none
 there:∀b o,h.get? b=some o->b ∉ ex->∃o',h'.get? b=some o'
 tups:∀b xs,H b=some (.tup xs)->H' b=some (.tup xs)
 frzs:∀b o u,H b=some (.frz o u)->H' b=some (.frz o u)
 tbls:∀b ps,H b=some (.tbl ps)->∃more,H' b=some (.tbl (ps++more))
section
variable{fs fs' ex ex':List Addr}{H H1 H2:Hp}{h h1 h2 h':Heap}{a x e:Addr}{o:HO}
theorem Un.any(u:Un fs ex H H1 h h1){ob:Obj}(q:h.get? b=some ob)(n:H b=none)(c:b ∉ ex):∃f,h1.get? b=some { ob with slots:=f }:=by
 by_cases d:b∈fs
 .exact u.slot b ob q n d c
 .exact⟨ob.slots,u.keep b ob q n d c⟩
theorem Un.kept(k:∀b u,h.get? b=some u->h'.get? b=some u):Un fs ex H H h h':=
 ⟨λb c q _ _ _=>k b c q,λb c q _ _ _=>⟨c.slots,k b c q⟩,λ_ _ _ n _=>n,λb c q _=>⟨c,k b c q⟩,λ_ _ q=>q,λ_ _ _ q=>q,λ_ d q=>⟨#[],by rw[q];simp⟩⟩
theorem Un.refl:Un fs ex H H h h:=Un.kept λ_ _ q=>q
theorem Un.laid(k:∀b u,h.get? b=some u->h'.get? b=some u)(hp:h.objs.size<=a)(c:H a=none):Un fs ex H (upd H a o) h h' where
 keep:=λb u q _ _ _=>k b u q
 slot:=λb u q _ _ _=>⟨u.slots,k b u q⟩
 free:=λb u q n _=>by rw[a'e (ne_of_lt (lt_of_lt_of_le (Heap.lt_size q) hp))];exact n
 there:=λb u q _=>⟨u,k b u q⟩
 tups:=λb d q=>by rw[a'e (a'x q c)];exact q
 frzs:=λb u d q=>by rw[a'e (a'x q c)];exact q
 tbls:=λb f q=>⟨#[],by rw[a'e (a'x q c),q];simp⟩
theorem Un.write(d:Mut (H x))(he:e=x\/H e=some (.own x))(k:∀b u,b≠e->h.get? b=some u->h'.get? b=some u)(g:∃u,h'.get? e=some u):Un fs ex H (upd H x o) h h':=by
 have j:∀b,H b=none->b≠x:=λb n z=>by subst z;rw[n] at d;exact d
 have l:∀b,H b=none->b≠e:=λb n z=>by
  subst z;rcases he with r |r
  .exact j b n r
  .rw[n] at r;cases r
 have f:∀b u,H b=some u->¬ Mut (some u)->b≠x:=λb u q nm z=>by subst z;rw[q] at d;exact nm d
 refine⟨λb u q n _ _=>k b u (l b n) q,λb u q n _ _=>⟨u.slots,k b u (l b n) q⟩,λb u q n _=>by rw[a'e (j b n)];exact n,λb u q _=>?_,
  λb m q=>by rw[a'e (f b _ q λz=>z)];exact q,λb u m q=>by rw[a'e (f b _ q λz=>z)];exact q,λb p q=>⟨#[],by rw[a'e (f b _ q λz=>z),q];simp⟩⟩
 by_cases c:b=e
 .subst c;exact g
 .exact⟨u,k b u c q⟩
end
def trk(h:Heap)(H:Hp):List Addr:=(List.range h.objs.size).filter λa=>(H a).isSome
def afo(h:Heap)(H:Hp):Heap:=W.hideAll h (trk h H)
theorem l'M(h:Heap)(H:Hp):(afo h H).objs.size=h.objs.size:=W.hideAll_size _ _
theorem o'x{H:Hp}(e:h.get? b=some o)(n:H b=none):(afo h H).get? b=some o:=
 W.hideAll_get _ e λa=>by
  have q:(H b).isSome=true:=(mem_filter.mp a).2;rw[n] at q;simp at q
theorem r'I{H:Hp}(e:(afo h H).get? b=some o):h.get? b=some o/\H b=none:=by
 have a:h.get? b=some o:=W.of_hideAll (trk h H) e;refine⟨a,?_⟩;cases q:H b with
 |none=>rfl
 |some x=>
  have c:b∈trk h H:=mem_filter.mpr ⟨mem_range.mpr (Heap.lt_size a),by simp[q]⟩;have z:(afo h H).get? b=none:=W.hideAll_none (trk h H) c;rw[z] at e;cases e
def af9(g h:Heap)(L:Addr):List (Addr×Obj):=(List.range h.objs.size).filterMap λa=>if a=L\/(g.get? a).isSome=true then none else (h.get? a).map λo=>(a,o)
def rest(g h:Heap)(L d:Addr):List (Addr×Obj):=(af9 g h L).filter λp=>decide (p.1≠d)
structure Mod(K:W.Frag)(mg:Str->Option Value)(base:Heap):Prop where
 kin:K.In base
 glob:base.Ns mainGlobals mg
 blt:∃mb,base.Ns builtinsNs mb/\∀x:Str,x≠"__name__"->mb x=bootBuiltins x
 nolimit:base.NoLimit
structure Cx where
 prog:Program
 w:World
 K:W.Frag
 mg:Str->Option Value
 base:Heap
 A:Around
 N:List Str
 s₀:Shared
 H₀:Hp
 env:Env
 outer:List Env
 stack:List Env
 ex:List Addr
 fn:Str->Bool
 calm:Bool
 pn:List (Addr×Obj)
 xe:Value->Shared->Prop
def frs(l:List Env):List Addr:=l.filterMap (·.frame)
abbrev Cx.fs(X:Cx):List Addr:=frs X.outer
def Vis(sc:Scope)(x:Str):Prop:=sc.names.lookup x=some .local\/sc.names.lookup x=some .cell\/sc.names.lookup x=some .free
def Loc(sc:Scope)(x:Str):Prop:=sc.names.lookup x=some .local\/sc.names.lookup x=some .cell
def aiM(env:Env)(h:Heap)(m:Str->Option Value)(x:Str)(u:Value):Prop:=
 (env.kindOf x=some .local/\m x=some u)\/((env.kindOf x=some .cell\/env.kindOf x=some .free)/\∃c,env.cells.lookup x=some c/\h.IsCell c (some u))
structure Cx.Ok(X:Cx):Prop where
 mod:Mod X.K X.mg X.base
 kind:X.env.scope.kind=.function
 glob:X.env.globals=mainGlobals
 blt:X.env.builtins=builtinsNs
 above:X.s₀.heap.objs.size<=X.env.locals
 inj:∀x y c,X.env.cells.lookup x=some c->X.env.cells.lookup y=some c->x=y
 has:∀x,(X.env.kindOf x=some .cell\/X.env.kindOf x=some .free)->∃c,X.env.cells.lookup x=some c
 cab:∀x c,X.fn x=true->X.env.cells.lookup x=some c->X.s₀.heap.objs.size<=c
 hd:X.calm=true->X.A.handled=none
 frames:X.A.frames=some X.stack
 stk:X.stack=X.outer\/(X.stack=X.env::X.outer/\X.env.frame=some X.env.locals)
 exf:∀b∈X.ex,b≠X.env.locals/\∀x c,X.env.cells.lookup x=some c->c≠b
 bs:∀b o,X.base.get? b=some o->X.s₀.heap.get? b=some o/\X.H₀ b=none
 bsz:X.base.objs.size<=X.s₀.heap.objs.size
 noex:∀b o,X.base.get? b=some o->b ∉ X.ex
 exfs:∀b∈X.ex,b ∉ X.fs
 funs:X.s₀.heap.FunFrames X.base X.outer
 frf:∀b∈X.fs,X.H₀ b=none
structure Inv(X:Cx)(pins:List (Addr×Obj))(j:List (Option V))(H:Hp)(s:Shared):Prop where
 ok:X.Ok
 os:s.os=X.s₀.os
 bare:AllBare s.gens
 base:Un X.fs X.ex X.H₀ H X.s₀.heap s.heap
 loc:∃m,s.heap.Ns X.env.locals m/\∀(i:Nat)(x:Str)(v:V),X.N[i]?=some x->j[i]?=some (some v)->Vis X.env.scope x->∃u,RelV v u/\aiM X.env s.heap m x u
 cell:∀x c,X.env.cells.lookup x=some c->∃v,s.heap.IsCell c v
 free:H X.env.locals=none
 freeC:∀x c,X.env.cells.lookup x=some c->H c=none
 pin:∀p∈X.pn++pins,s.heap.get? p.1=some p.2/\H p.1=none/\p.1≠X.env.locals/\p.1 ∉ X.fs/\∀v,p.2.data≠.cell v
 hok:HOk X.prog X.w H s.heap
 len:j.length=X.N.length
section
variable{X:Cx}{pins:List (Addr×Obj)}{σ:List (Option V)}{H H':Hp}{s:Shared}{h':Heap}
theorem Cx.Ok.nofr(ok:X.Ok)(e:X.base.get? b=some o):b ∉ X.fs:=λa=>by
 have:=(ok.funs.mem a).1;rw[e] at this;cases this
theorem Inv.bs(I:Inv X pins σ H s):∀b o,X.base.get? b=some o->s.heap.get? b=some o/\H b=none:=λb o e=>
 ⟨I.base.keep b o (I.ok.bs b o e).1 (I.ok.bs b o e).2 (I.ok.nofr e) (I.ok.noex b o e),I.base.free b o (I.ok.bs b o e).1 (I.ok.bs b o e).2 (I.ok.noex b o e)⟩
theorem Inv.bk(I:Inv X pins σ H s):∀b o,X.base.get? b=some o->s.heap.get? b=some o:=λb o e=>(I.bs b o e).1
theorem Inv.mod(I:Inv X pins σ H s):Mod X.K X.mg X.base:=I.ok.mod
theorem Inv.kIn(I:Inv X pins σ H s):X.K.In s.heap:=I.ok.mod.kin.keeps I.bk
theorem Inv.lt(I:Inv X pins σ H s):X.env.locals<s.heap.objs.size:=let ⟨_,hn,_⟩:=I.loc;hn.lt
theorem Inv.sz(I:Inv X pins σ H s):X.s₀.heap.objs.size<=s.heap.objs.size:=le_trans I.ok.above (Nat.le_of_lt I.lt)
theorem Inv.nofs(I:Inv X pins σ H s)(h:s.heap.objs.size<=a):a ∉ X.fs:=λb=>by
 obtain⟨_,o,c,_⟩:=I.ok.funs.mem b;exact absurd (lt_of_lt_of_le (Heap.lt_size c) (le_trans I.sz h)) (lt_irrefl _)
theorem Inv.cne(I:Inv X pins σ H s):∀x c,X.env.cells.lookup x=some c->c≠X.env.locals:=λx c e z=>by
 obtain⟨v,o,d,hd⟩:=I.cell x c e;obtain⟨m,⟨f,g,h,a,b,_⟩,_⟩:=I.loc;rw[z,a] at d;cases d;rw[b] at hd;cases hd
theorem Inv.funs(I:Inv X pins σ H s):s.heap.FunFrames X.base X.outer:=by
 have all:∀(l:List Env),(∀b∈frs l,b∈X.fs)->X.s₀.heap.FunFrames X.base l->s.heap.FunFrames X.base l:=by
  intro l
  induction l with
  |nil=>intro _ _;trivial
  |cons env r j=>
   intro f m;obtain⟨g,⟨L,o,d,n,p,hd⟩,h⟩:=m;have c:L∈X.fs:=f L (by unfold frs;rw[List.filterMap_cons,d];exact List.mem_cons_self);obtain⟨q,e⟩:=I.base.slot L o p (I.ok.frf L c) c λz=>I.ok.exfs L z c
   exact⟨g,⟨L,_,d,n,e,hd⟩,j (λb a=>f b (by unfold frs;rw[List.filterMap_cons,d];exact mem_cons_of_mem _ a)) h⟩
 exact all X.outer (λ_ a=>a) I.ok.funs
theorem Inv.stack(I:Inv X pins σ H s):s.heap.FunFrames X.base X.stack:=by
 rcases I.ok.stk with e |⟨e,b⟩
 .rw[e];exact I.funs
 .rw[e];obtain⟨m,a,_⟩:=I.loc;refine .cons (by rw[I.ok.kind];decide) b a ?_ I.funs;exact Heap.get?_none_of_le (le_trans I.ok.bsz I.ok.above)
theorem Inv.stkSub(I:Inv X pins σ H s):∀b∈frs X.stack,b∈X.env.locals::X.fs:=λb a=>by
 rcases I.ok.stk with e |⟨e,c⟩
 .rw[e] at a;exact mem_cons_of_mem _ a
 .rw[e] at a;unfold frs at a;rw[List.filterMap_cons,c] at a;exact a
theorem Inv.stkFree(I:Inv X pins σ H s):∀b∈frs X.stack,H b=none:=λb a=>by
 rcases mem_cons.mp (I.stkSub b a) with e |a
 .rw[e];exact I.free
 .obtain⟨_,o,ho,_⟩:=I.ok.funs.mem a;exact I.base.free b o ho (I.ok.frf b a) λz=>I.ok.exfs b z a
theorem Inv.step{g':Array GenState}{t':Nat}{d':Drawn}{ch:List Addr}(I:Inv X pins σ H s)(h:∀b∈ch,(b∈X.ex\/X.s₀.heap.objs.size<=b)/\b≠X.env.locals/\(∀x c,X.env.cells.lookup x=some c->c≠b)/\∀p∈X.pn++pins,p.1≠b)(keep:∀b o,b≠X.env.locals->b ∉ X.fs->b ∉ ch->s.heap.get? b=some o->H b=none->h'.get? b=some o)(slot:∀b o,b≠X.env.locals->b∈X.fs->b ∉ ch->s.heap.get? b=some o->H b=none->∃J,h'.get? b=some { o with slots:=J })(free:∀b o,b ∉ ch->s.heap.get? b=some o->H b=none->H' b=none)(there:∀b o,b ∉ ch->s.heap.get? b=some o->∃o',h'.get? b=some o')(tups:∀b xs,H b=some (.tup xs)->H' b=some (.tup xs))(frzs:∀b o u,H b=some (.frz o u)->H' b=some (.frz o u))(tbls:∀b E,H b=some (.tbl E)->∃C,H' b=some (.tbl (E++C)))(ns:∀m,s.heap.Ns X.env.locals m->h'.Ns X.env.locals m)(hok:HOk X.prog X.w H' h')(N:AllBare g'):
  Inv X pins σ H' { s with heap:=h',gens:=g',drawn:=d',toks:=t' }:=by
 have D:∀b o,X.s₀.heap.get? b=some o->b≠X.env.locals:=λb o e=>ne_of_lt (lt_of_lt_of_le (Heap.lt_size e) I.ok.above)
 have y:∀b o,X.s₀.heap.get? b=some o->b ∉ X.ex->b ∉ ch:=λb o e a A=>by
  rcases (h b A).1 with z |z
  .exact a z
  .exact absurd (lt_of_lt_of_le (Heap.lt_size e) z) (lt_irrefl _)
 have g:∀x c,X.env.cells.lookup x=some c->∀v,s.heap.IsCell c v->h'.IsCell c v:=λx c e v ⟨o,ho,hd⟩=>by
  have f:c ∉ ch:=λz=>(h c z).2.2.1 x c e rfl
  by_cases M:c∈X.fs
  .obtain⟨J,q⟩:=slot c o (I.cne x c e) M f ho (I.freeC x c e);exact⟨_,q,hd⟩
  .exact⟨o,keep c o (I.cne x c e) M f ho (I.freeC x c e),hd⟩
 refine⟨I.ok,I.os,N,⟨λb o e n A a=>?_,λb o e n A a=>?_,λb o e n a=>?_,λb o e a=>?_,λb xs e=>tups b xs (I.base.tups b xs e),λb o xs e=>frzs b o xs (I.base.frzs b o xs e),λb E e=>?_⟩,?_,λx c e=>?_,?_,λx c e=>?_,λp L=>?_,hok,I.len⟩
 .exact keep b o (D b o e) A (y b o e a) (I.base.keep b o e n A a) (I.base.free b o e n a)
 .obtain⟨J,j⟩:=I.base.slot b o e n A a;obtain⟨G,B⟩:=slot b _ (D b o e) A (y b o e a) j (I.base.free b o e n a);exact⟨G,B⟩
 .obtain⟨o',j⟩:=I.base.there b o e a;exact free b o' (y b o e a) j (I.base.free b o e n a)
 .obtain⟨o',j⟩:=I.base.there b o e a;exact there b o' (y b o e a) j
 .obtain⟨m1,j⟩:=I.base.tbls b E e;obtain⟨Q,B⟩:=tbls b _ j;exact⟨m1++Q,by rw[B,Array.append_assoc]⟩
 .obtain⟨m,hn,hl⟩:=I.loc;refine⟨m,ns m hn,λi x v j B O=>?_⟩;obtain⟨u,r,l⟩:=hl i x v j B O;refine⟨u,r,?_⟩;rcases l with l |⟨k,c,e,z⟩
  .exact .inl l
  .exact .inr ⟨k,c,e,g x c e _ z⟩
 .obtain⟨v,z⟩:=I.cell x c e;exact⟨v,g x c e v z⟩
 .obtain⟨m,⟨o,_,_,ho,_⟩,_⟩:=I.loc;exact free _ o (λz=>(h _ z).2.1 rfl) ho I.free
 .obtain⟨v,o,ho,hd⟩:=I.cell x c e;exact free c o (λz=>(h c z).2.2.1 x c e rfl) ho (I.freeC x c e)
 .obtain⟨e,n,ne,nf,d⟩:=I.pin p L;have f:p.1 ∉ ch:=λz=>(h p.1 z).2.2.2 p L rfl
  exact⟨keep p.1 p.2 ne nf f e n,free p.1 p.2 f e n,ne,nf,d⟩
theorem Inv.un{t':Nat}(I:Inv X pins σ H s)(u:Un X.fs [] H H' s.heap h')(hok:HOk X.prog X.w H' h'):Inv X pins σ H' { s with heap:=h',toks:=t' }:=by
 obtain⟨m,⟨o,y,q,g,r⟩,_⟩:=id I.loc;obtain⟨x,l⟩:=u.any g I.free (by simp);exact I.step (g':=s.gens) (d':=s.drawn) (ch:=[]) (λ_ z=>nomatch z) (λb o _ d _ e n=>u.keep b o e n d (by simp)) (λb o _ d _ e n=>u.slot b o e n d (by simp)) (λb o _ e n=>u.free b o e n (by simp)) (λb o _ e=>u.there b o e (by simp)) u.tups u.frzs u.tbls (λp h=>by
  obtain⟨v,c,f,a,j⟩:=h;rw[g] at a;cases a;exact⟨_,c,f,l,j⟩) hok I.bare
theorem Inv.call{g':Array GenState}{t':Nat}{d':Drawn}{ch:List Addr}(I:Inv X pins σ H s)(u:Un (frs X.stack) ch H H' s.heap h')(hok:HOk X.prog X.w H' h')(v:AllBare g')(f:∀b∈ch,(b∈X.ex\/X.s₀.heap.objs.size<=b)/\b≠X.env.locals/\(∀x c,X.env.cells.lookup x=some c->c≠b)/\∀p∈X.pn++pins,p.1≠b):
  Inv X pins σ H' { s with heap:=h',gens:=g',drawn:=d',toks:=t' }:=by
 obtain⟨m,⟨o,G,C,l,r⟩,_⟩:=id I.loc;obtain⟨E,j⟩:=u.any l I.free λz=>(f _ z).2.1 rfl
 exact I.step (ch:=ch) f (λb o j A a e n=>u.keep b o e n (λz=>(mem_cons.mp (I.stkSub b z)).elim j A) a) (λb o _ _ a e n=>u.any e n a) (λb o a e n=>u.free b o e n a) (λb o a e=>u.there b o e a) u.tups u.frzs u.tbls (λB q=>by
  obtain⟨D,g,h,d,y⟩:=q;rw[l] at d;cases d;exact⟨_,g,h,j,y⟩) hok v
theorem Inv.turned{t':Nat}{it:Addr}(I:Inv X pins σ H s)(k:∀b o,b≠it->s.heap.get? b=some o->h'.get? b=some o)(j:H it=none)(f:it≠X.env.locals)(g:it∈X.ex\/X.s₀.heap.objs.size<=it)(y:∀x c,X.env.cells.lookup x=some c->c≠it)(l:∀p∈X.pn++pins,p.1≠it):Inv X pins σ H { s with heap:=h',toks:=t' }:=by
 have d:∀b u,H b=some u->b≠it:=λb u e z=>by rw[z,j] at e;cases e
 refine I.step (g':=s.gens) (d':=s.drawn) (ch:=[it]) (λb w=>?_) (λb o _ _ a e _=>k b o (λz=>a (by simp[z])) e) (λb o _ _ a e _=>⟨o.slots,k b o (λz=>a (by simp[z])) e⟩) (λ_ _ _ _ n=>n)
  (λb o a e=>⟨o,k b o (λz=>a (by simp[z])) e⟩) (λ_ _ e=>e) (λ_ _ _ e=>e) (λb A e=>⟨#[],by rw[e];simp⟩) (λm h=>?_) (λb u e=>?_) I.bare
 .have e:b=it:=by simpa using w
  subst e;exact⟨g,f,y,l⟩
 .obtain⟨o,es,ep,ho,r⟩:=h;exact⟨o,es,ep,k _ o (Ne.symm f) ho,r⟩
 .refine (I.hok b u e).stay (λc v a q=>k c v ?_ q) (λ_ q=>q) λ_ _ q=>q
  rcases a with z |z
  .rw[z];exact d b u e
  .exact d c _ z
theorem Inv.tok(I:Inv X pins σ H s)(t:Nat):Inv X pins σ H { s with toks:=t }:=I.un (h':=s.heap) (t':=t) Un.refl I.hok
theorem Inv.kept(I:Inv X pins σ H s)(k:∀b u,s.heap.get? b=some u->h'.get? b=some u):Inv X pins σ H { s with heap:=h',toks:=t' }:=I.un (Un.kept k) (I.hok.kept k)
theorem Inv.laid(I:Inv X pins σ H s)(k:∀b u,s.heap.get? b=some u->h'.get? b=some u)(hp:s.heap.objs.size<=a)(c:ObjOk X.prog X.w (upd H a o) h' a o):
  Inv X pins σ (upd H a o) { s with heap:=h',toks:=t' }:=I.un (Un.laid k hp (I.hok.fresh hp)) (I.hok.laid k hp c)
theorem Inv.write(I:Inv X pins σ H s)(d:Mut (H x))(he:e=x\/H e=some (.own x))(k:∀b u,b≠e->s.heap.get? b=some u->h'.get? b=some u)(a:∃u,h'.get? e=some u)(c:ObjOk X.prog X.w (upd H x o) h' x o):Inv X pins σ (upd H x o) { s with heap:=h',toks:=t' }:=I.un (Un.write d he k a) (I.hok.write d he k a c)
theorem Inv.weak(I:Inv X pins σ H s)(b:σ'.length=σ.length)(w:∀(i:Nat) v,σ'[i]?=some (some v)->σ[i]?=some (some v)):Inv X pins σ' H s:=
 ⟨I.ok,I.os,I.bare,I.base,let ⟨m,hn,hl'⟩:=I.loc;⟨m,hn,λi x v c a d=>hl' i x v c (w i v a) d⟩,I.cell,I.free,I.freeC,I.pin,I.hok,b.trans I.len⟩
theorem Inv.pins_of(I:Inv X pins σ H s)(h:∀p∈a,s.heap.get? p.1=some p.2/\H p.1=none/\p.1≠X.env.locals/\p.1 ∉ X.fs/\∀v,p.2.data≠.cell v):Inv X a σ H s:=
 ⟨I.ok,I.os,I.bare,I.base,I.loc,I.cell,I.free,I.freeC,λp b=>(mem_append.mp b).elim (λz=>I.pin p (List.mem_append_left _ z)) (h p),I.hok,I.len⟩
theorem e'x{N:List Str}(e:N.Nodup){i j:Nat}{x:Str}(a:N[i]?=some x)(b:N[j]?=some x):i=j:=by
 obtain⟨g,d⟩:=List.getElem?_eq_some_iff.mp a;obtain⟨f,c⟩:=List.getElem?_eq_some_iff.mp b;exact (List.getElem_inj e).mp (d.trans c.symm)
theorem g'r{M:Model}{A:Around}{E:Value->Shared->Prop}{i:Nat}{x:Str}{v:V}{u:Value}{Q:Unit->Shared->Prop}(I:Inv X pins σ H s)(hN:X.N.Nodup)(hi:X.N[i]?=some x)(C:Loc X.env.scope x)(r:RelV v u)(h:∀s',Inv X pins (σ.set i (some v)) H s'->(∃a,Heap.SameBut a s.heap s'.heap/\(a=X.env.locals\/X.env.cells.lookup x=some a))->Q () s')(hf:X.fn x=true\/X.env.scope.names.lookup x=some .local:=by first |exact .inl rfl |exact .inr rfl |assumption):wpAny M A (storeName X.env x u) Q E s:=by
 obtain⟨m,hn,hl⟩:=id I.loc;have U:(X.env.scope.kind == .class || (X.env.scope.kind == .module&&X.env.locals != X.env.globals))=false:=by rw[I.ok.kind];rfl
 have J:i<σ.length:=by rw[I.len];exact (List.getElem?_eq_some_iff.mp hi).1
 have cne:=I.cne;have g:∀{a:Addr}{h':Heap},(∃o,s.heap.get? a=some o/\H a=none)->Heap.SameBut a s.heap h'->HOk X.prog X.w H h':=λ{a h'} ha f b ob e=>by
  obtain⟨_,_,D⟩:=ha;refine (I.hok b ob e).stay (λc w' B q=>(f.2 c ?_).trans q) (λ_ q=>q) λ_ _ q=>q
  rintro rfl;rcases B with rfl |B
  .rw[D] at e;cases e
  .rw[D] at B;cases B
 rcases C with L |L
 .refine wpAny_storeName_local L hn (λh' γ f=>?_) U;obtain⟨oL,_,_,δ,_⟩:=id hn;refine h _ ⟨I.ok,I.os,I.bare,⟨λb o e n O C=>?_,λb o e n O C=>?_,I.base.free,λb o e C=>?_,I.base.tups,I.base.frzs,I.base.tbls⟩,⟨_,γ,λj y v' l G e3=>?_⟩,λy c e=>?_,I.free,I.freeC,λp hp=>?_,g ⟨oL,δ,I.free⟩ f,by simpa using I.len⟩ ⟨_,f,.inl rfl⟩
  .exact (f.2 b (ne_of_lt (lt_of_lt_of_le (Heap.lt_size e) I.ok.above))).trans (I.base.keep b o e n O C)
  .obtain⟨sl,l⟩:=I.base.slot b o e n O C;exact⟨sl,(f.2 b (ne_of_lt (lt_of_lt_of_le (Heap.lt_size e) I.ok.above))).trans l⟩
  .obtain⟨o',l⟩:=I.base.there b o e C;exact⟨o',(f.2 b (ne_of_lt (lt_of_lt_of_le (Heap.lt_size e) I.ok.above))).trans l⟩
  .by_cases hj:j=i
   .subst hj;rw[hi] at l;cases l;rw[getElem?_set_self J] at G;cases G;exact⟨u,r,.inl ⟨L,by simp⟩⟩
   .rw[getElem?_set_ne (Ne.symm hj)] at G;obtain⟨u',r',q⟩:=hl j y v' l G e3;refine⟨u',r',?_⟩;rcases q with⟨k,e⟩ |⟨k,c,e,z⟩
    .refine .inl ⟨k,?_⟩;have:y≠x:=λe=>hj (e'x hN l (e ▸ hi))
     simp[this,e]
    .exact .inr ⟨k,c,e,z.sameBut f (cne y c e)⟩
  .obtain⟨w',z⟩:=I.cell y c e;exact⟨w',z.sameBut f (cne y c e)⟩
  .obtain⟨e,n,ne,nf,d⟩:=I.pin p hp;exact⟨(f.2 p.1 ne).trans e,n,ne,nf,d⟩
 .have hfn:X.fn x=true:=by
   rcases hf with z |z
   .exact z
   .rw[z] at L;cases L
  obtain⟨c,B⟩:=I.ok.has x (.inl L);obtain⟨w',z⟩:=I.cell x c B;refine wpAny_storeName_cell I.ok.kind L B z (λh' α f=>?_);obtain⟨oc,Y,β⟩:=id z;refine h { s with heap:=h' } ⟨I.ok,I.os,I.bare,⟨λb o e n O C=>?_,λb o e n O C=>?_,I.base.free,λb o e C=>?_,I.base.tups,I.base.frzs,I.base.tbls⟩,⟨m,hn.sameBut f (Ne.symm (cne x c B)),λj y v' l G e3=>?_⟩,λy c' e=>?_,I.free,I.freeC,λp hp=>?_,g ⟨oc,Y,I.freeC x c B⟩ f,by simpa using I.len⟩ ⟨c,f,.inr B⟩
  .exact (f.2 b (ne_of_lt (lt_of_lt_of_le (Heap.lt_size e) (I.ok.cab x c hfn B)))).trans (I.base.keep b o e n O C)
  .obtain⟨sl,l⟩:=I.base.slot b o e n O C;exact⟨sl,(f.2 b (ne_of_lt (lt_of_lt_of_le (Heap.lt_size e) (I.ok.cab x c hfn B)))).trans l⟩
  .obtain⟨o',l⟩:=I.base.there b o e C;exact⟨o',(f.2 b (ne_of_lt (lt_of_lt_of_le (Heap.lt_size e) (I.ok.cab x c hfn B)))).trans l⟩
  .by_cases hj:j=i
   .subst hj;rw[hi] at l;cases l;rw[getElem?_set_self J] at G;cases G;exact⟨u,r,.inr ⟨.inl L,c,B,α⟩⟩
   .rw[getElem?_set_ne (Ne.symm hj)] at G;obtain⟨u',r',q⟩:=hl j y v' l G e3;refine⟨u',r',?_⟩;rcases q with q |⟨k,c',e,z'⟩
    .exact .inl q
    .refine .inr ⟨k,c',e,z'.sameBut f ?_⟩;rintro rfl;exact hj (e'x hN l (I.ok.inj _ _ _ e B ▸ hi))
  .by_cases hcc:c'=c
   .subst hcc;exact⟨_,α⟩
   .obtain⟨w2,z2⟩:=I.cell y c' e;exact⟨w2,z2.sameBut f hcc⟩
  .obtain⟨e,n,ne,nf,d⟩:=I.pin p hp;refine⟨(f.2 p.1 ?_).trans e,n,ne,nf,d⟩;intro q;rw[q,Y] at e;have q':oc=p.2:=Option.some.inj e;exact d w' (by rw[<- q'];exact β)
theorem d'f{Q:Unit->Shared->Prop}(I:Inv X pins σ H s)(c:X.N.Nodup)(a:X.N[i]?=some x)(b:Loc X.env.scope x)(r:RelV v u)(h:∀s',Inv X pins (σ.set i (some v)) H s'->Q () s')(d:X.fn x=true\/X.env.scope.names.lookup x=some .local:=by first |exact .inl rfl |exact .inr rfl |assumption):wpAny M A (storeName X.env x u) Q E s:=
 g'r I c a b r (λs' e _=>h s' e) d
theorem Inv.call'(I:Inv X pins σ H s)(g:s'.os=s.os)(u:Un (frs X.stack) ch H H' s.heap s'.heap)(hok:HOk X.prog X.w H' s'.heap)(d:AllBare s'.gens)(a:∀b∈ch,(b∈X.ex\/X.s₀.heap.objs.size<=b)/\b≠X.env.locals/\(∀x c,X.env.cells.lookup x=some c->c≠b)/\∀p∈X.pn++pins,p.1≠b):Inv X pins σ H' s':=by
 obtain⟨h',g',d',t',f⟩:=s';have e:f=s.os:=g;subst e;exact I.call (g':=g') (t':=t') (d':=d') u hok d a
end
abbrev XK:=Value->Option Addr->Hp->Prop
abbrev St:=List (Option V)
abbrev VK:=V->Hp->Prop
abbrev TE:=St->Hp->VK->Prop
abbrev TT:=St->Hp->(Bool->Hp->Prop)->Prop
abbrev TA:=St->Hp->(List V->Hp->Prop)->Prop
structure Ends where
 nx:St->Hp->Prop
 rt:VK
 bk:St->Hp->Prop:=λ_ _=>False
 ct:St->Hp->Prop:=λ_ _=>False
abbrev TS:=Ends->St->Hp->Prop
def EP(X:Cx)(pins:List (Addr×Obj))(j:St)(Q:VK)(u:Value)(s':Shared):Prop:=∃v a,Inv X pins j a s'/\RelV v u/\Q v a
def TP(X:Cx)(pins:List (Addr×Obj))(j:St)(Q:Bool->Hp->Prop)(b:Bool)(s':Shared):Prop:=∃a,Inv X pins j a s'/\Q b a
def AP(X:Cx)(pins:List (Addr×Obj))(j:St)(Q:List V->Hp->Prop)(us:List Value)(s':Shared):Prop:=∃vs a,Inv X pins j a s'/\Vals vs us/\Q vs a
def SP(X:Cx)(pins:List (Addr×Obj))(D:Ends)(f:Flow)(s':Shared):Prop:=
 match f with
 |.next=>∃b a,Inv X pins b a s' /\ D.nx b a
 |.brk=>∃b a,Inv X pins b a s' /\ D.bk b a
 |.cont=>∃b a,Inv X pins b a s' /\ D.ct b a
 |.ret u=>∃v b a,Inv X pins b a s' /\ RelV v u /\ D.rt v a
def PE(X:Cx)(e:Expr)(t:TE):Prop:=
 ∀(pins:List (Addr×Obj))(s:Shared)(j:St)(H:Hp)(Q:VK),Inv X pins j H s->t j H Q->wpAny (model X.prog X.w) X.A (eval e X.env) (EP X pins j Q) X.xe s
def PT(X:Cx)(e:Expr)(t:TT):Prop:=
 ∀(pins:List (Addr×Obj))(s:Shared)(j:St)(H:Hp)(Q:Bool->Hp->Prop),Inv X pins j H s->t j H Q->wpAny (model X.prog X.w) X.A (isTrue e X.env (eval e X.env)) (TP X pins j Q) X.xe s
def PW(X:Cx)(e:Expr)(t:TT):Prop:=
 ∀(whole:Sem Value)(pins:List (Addr×Obj))(s:Shared)(j:St)(H:Hp)(Q:Bool->Hp->Prop),Inv X pins j H s->t j H Q->wpAny (model X.prog X.w) X.A (isTrue e X.env whole) (TP X pins j Q) X.xe s
theorem PW.pt(h:PW X e t):PT X e t:=h _
def PA(X:Cx)(a:List Expr)(t:TA):Prop:=
 ∀(pos:Pos)(pins:List (Addr×Obj))(s:Shared)(j:St)(H:Hp)(Q:List V->Hp->Prop),Inv X pins j H s->t j H Q->wpAny (model X.prog X.w) X.A (spliced (backTo pos (starEach a X.env))) (AP X pins j Q) X.xe s
def PS(X:Cx)(st:Stmt)(t:TS):Prop:=
 ∀(pins:List (Addr×Obj))(s:Shared)(j:St)(H:Hp)(D:Ends),Inv X pins j H s->t D j H->wpAny (model X.prog X.w) X.A (exec st X.env) (SP X pins D) X.xe s
def PSs(X:Cx)(st:List Stmt)(t:TS):Prop:=
 ∀(pins:List (Addr×Obj))(s:Shared)(j:St)(H:Hp)(D:Ends),Inv X pins j H s->t D j H->wpAny (model X.prog X.w) X.A (execs st X.env) (SP X pins D) X.xe s
theorem thn{Q b:j->Shared->Prop}(h:wpAny M A t Q E s)(c:∀a s,Q a s->b a s):wpAny M A t b E s:=wpAny_mono h c λ_ _ x=>x
section
variable{X:Cx}
def adZ(i:Nat):TE:=λj H Q=>∃v,j[i]?=some (some v)/\Q v H
def tC(v:V):TE:=λ_ H Q=>Q v H
theorem e'W(n:X.N[i]?=some x)(p:Vis X.env.scope x)(hd:(x == ("__debug__":Str))=false:=by decide)(f:(x == ("__classdict__":Str))=false:=by decide):PE X (.Name x pos) (adZ i):=by
 intro pins s j H Q I h;obtain⟨v,e,h⟩:=h;obtain⟨m,q,w⟩:=I.loc;obtain⟨u,r,l⟩:=w i x v n e p;have d:EP X pins j Q u s:=⟨v,H,I,r,h⟩;rcases l with⟨b,o⟩ |⟨b,c,g,a⟩
 .exact wpAny_Name (wpAny_loadName_local I.ok.kind b q o d) hd
 .rcases b with b |b
  .exact wpAny_Name (wpAny_loadName_cell I.ok.kind b g a d) hd
  .exact wpAny_Name (wpAny_loadName_free I.ok.kind b g a d f) hd
theorem l'N{i j pos}:PE X (.Constant (.int i) j pos) (tC (.int i)):=λ_ _ _ H _ I h=>wpAny_Constant_int ⟨.int i,H,I.tok _,⟨_,rfl⟩,h⟩
theorem w'h{b j pos}:PE X (.Constant (.bool b) j pos) (tC (.bl b)):=λ_ _ _ H _ I h=>Constant_bool ⟨.bl b,H,I,rfl,h⟩
theorem l'O{j pos}:PE X (.Constant .none j pos) (tC .non):=λ_ _ _ H _ I h=>Constant_none ⟨.non,H,I,rfl,h⟩
theorem l'P{x j pos}:PE X (.Constant (.str x) j pos) (tC (.str x)):=λ_ _ _ H _ I h=>Calls.Constant_str ⟨.str x,H,I.tok _,⟨_,rfl⟩,h⟩
def Gl(X:Cx)(x:Str):Prop:=X.env.kindOf x=some .globalImplicit
theorem b'r{Q:Value->Shared->Prop}(I:Inv X pins j H s)(b:Gl X x)(a:X.mg x=some u)(h:Q u s)(hd:(x == ("__debug__":Str))=false:=by decide):wpAny (model X.prog X.w) X.A (eval (.Name x pos) X.env) Q E s:=
 Calls.Name_function_global I.ok.kind b (Calls.loadGlobal_global (by rw[I.ok.glob];exact I.mod.glob.keeps I.bk) a h) hd
theorem b'o{Q:Value->Shared->Prop}(I:Inv X pins j H s)(c:Gl X x)(e:X.mg x=none)(f:bootBuiltins x=some u)(h:Q u s)(a:x≠"__name__":=by decide)(hd:(x == ("__debug__":Str))=false:=by decide):wpAny (model X.prog X.w) X.A (eval (.Name x pos) X.env) Q E s:=by
 obtain⟨g,d,b⟩:=I.mod.blt;exact Calls.Name_function_global I.ok.kind c (Calls.loadGlobal_builtin (by rw[I.ok.glob];exact I.mod.glob.keeps I.bk) e (by rw[I.ok.blt];exact d.keeps I.bk) ((b x a).trans f) h) hd
theorem r'J(a:Gl X x)(b:X.mg x=some u)(r:RelV v u)(hd:(x == ("__debug__":Str))=false:=by decide):PE X (.Name x pos) (tC v):=
 λ_ _ _ H _ I h=>b'r I a b ⟨v,H,I,r,h⟩ hd
theorem r'K(b:Gl X x)(c:X.mg x=none)(d:bootBuiltins x=some u)(r:RelV v u)(a:x≠"__name__":=by decide)(hd:(x == ("__debug__":Str))=false:=by decide):PE X (.Name x pos) (tC v):=
 λ_ _ _ H _ I h=>b'o I b c d ⟨v,H,I,r,h⟩ a hd
variable{a b:Expr}{ta tb:TE}{pos:Pos}
def tB(t:TE):TT:=λj H Q=>t j H λx H1=>∃c,x=.bl c/\Q c H1
theorem t'X(h:PE X e t)(he:∀whole,isTrue e X.env whole=(do let v <- whole;standAt e.pos;holding [v] (truthy v)):=by intro _;rfl):PT X e (tB t):=by
 intro pins s j H Q I c;refine isTrue_plain (thn (h pins s j H _ I c) λv f ⟨x,H1,I1,r1,q1⟩=>?_) (he _);obtain⟨d,rfl,q⟩:=q1;cases r1;exact wpAny_truthy_bool ⟨H1,I1,q⟩
variable{tA tB':TT}{rest:List Expr}
def aiN(t u:TT):TT:=λj H Q=>t j H λc d=>if c=true then u j d Q else Q false d
def tOr(t u:TT):TT:=λj H Q=>t j H λc d=>if c=true then Q true d else u j d Q
def aiO(t:TT):TT:=λj H Q=>t j H λc H1=>Q (!c) H1
theorem r'L(d:PT X a tA):PW X (.BoolOp .And [a] pos) tA:=by
 intro f pins s j H Q I h;refine isTrue_and (thn (d pins s j H Q I h) λc g e=>?_);cases c with
 |true=>exact isTrue_and_nil e
 |false=>exact e
theorem t'Y(d:PT X a tA):PW X (.BoolOp .Or [a] pos) tA:=by
 intro f pins s j H Q I h;refine isTrue_or (thn (d pins s j H Q I h) λc g e=>?_);cases c with
 |false=>exact isTrue_or_nil e
 |true=>exact e
theorem t'Z(f:PT X a tA)(l:PW X (.BoolOp .And (b::rest) pos) tB'):PW X (.BoolOp .And (a::b::rest) pos) (aiN tA tB'):=by
 intro e pins s j H Q I h;refine isTrue_and (thn (f pins s j H _ I h) λc g ⟨d,I1,q1⟩=>?_);cases c with
 |true=>exact l e pins g j d Q I1 q1
 |false=>exact⟨d,I1,q1⟩
theorem w'i(f:PT X a tA)(l:PW X (.BoolOp .Or (b::rest) pos) tB'):PW X (.BoolOp .Or (a::b::rest) pos) (tOr tA tB'):=by
 intro e pins s j H Q I h;refine isTrue_or (thn (f pins s j H _ I h) λc g ⟨d,I1,q1⟩=>?_);cases c with
 |true=>exact⟨d,I1,q1⟩
 |false=>exact l e pins g j d Q I1 q1
theorem u'a(e:PT X a tA):PT X (.UnaryOp .Not a pos) (aiO tA):=by
 intro pins s j H Q I h;exact isTrue_not (e pins s j H (λc d=>Q (!c) d) I h)
def agS(ta tb:TE):TE:=λj H Q=>ta j H λx d=>∃c,x=.bl c/\if c=true then tb j d Q else Q (.bl false) d
def aiP(ta tb:TE):TE:=λj H Q=>ta j H λx d=>∃c,x=.bl c/\if c=true then Q (.bl true) d else tb j d Q
def agT(ta:TE):TE:=λj H Q=>ta j H λx d=>∃c,x=.bl c/\Q (.bl (!c)) d
theorem u'b{op}(h:PE X a t):PE X (.BoolOp op [a] pos) t:=λpins s j H Q I c=>BoolOp_one (h pins s j H Q I c)
theorem u'c(e:PE X a ta)(g:PE X (.BoolOp .And (b::rest) pos) tb):PE X (.BoolOp .And (a::b::rest) pos) (agS ta tb):=by
 intro pins s j H Q I h;refine BoolOp_and (thn (e pins s j H _ I h) λv f ⟨x,H1,I1,r1,d⟩=>?_);obtain⟨c,rfl,d⟩:=d;cases r1;refine wpAny_truthy_bool ?_;cases c with
 |true=>exact g pins f j H1 Q I1 d
 |false=>exact⟨.bl false,H1,I1,rfl,d⟩
theorem w'j(e:PE X a ta)(g:PE X (.BoolOp .Or (b::rest) pos) tb):PE X (.BoolOp .Or (a::b::rest) pos) (aiP ta tb):=by
 intro pins s j H Q I h;refine BoolOp_or (thn (e pins s j H _ I h) λv f ⟨x,H1,I1,r1,d⟩=>?_);obtain⟨c,rfl,d⟩:=d;cases r1;refine wpAny_truthy_bool ?_;cases c with
 |false=>exact g pins f j H1 Q I1 d
 |true=>exact⟨.bl true,H1,I1,rfl,d⟩
theorem u'd(e:PE X a ta):PE X (.UnaryOp .Not a pos) (agT ta):=by
 intro pins s j H Q I h;refine UnaryOp_ (thn (e pins s j H _ I h) λv f ⟨x,H1,I1,r1,d⟩=>?_);obtain⟨c,rfl,d⟩:=d;cases r1;exact not_of (wpAny_truthy_bool ⟨.bl (!c),H1,I1,rfl,d⟩)
def tIf(t:TT)(ta tb:TE):TE:=λj H Q=>t j H λc d=>if c=true then ta j d Q else tb j d Q
theorem o'y(l:PT X c tA)(g:PE X a ta)(m:PE X b tb):PE X (.IfExp c a b pos) (tIf tA ta tb):=by
 intro pins s j H Q I h;refine wpAny_IfExp (thn (l pins s j H _ I h) λd f ⟨e,I1,q1⟩=>?_);cases d with
 |true=>exact g pins f j e Q I1 q1
 |false=>exact m pins f j e Q I1 q1
end
def SqL(K:W.Frag)(H:Hp)(a:Addr)(xs:List V):Prop:=
 Rd H a (.lst xs)\/
  ∃(o:Obj)(b:Array Value)(n:Nat),K.lookup a=some o/\o.cls=.type "list"/\o.dict=none/\o.data=.seq b n/\b.size<=sizeLine/\Vals xs b.toList
def SqT(K:W.Frag)(H:Hp)(a:Addr)(xs:List V):Prop:=
 Rd H a (.tup xs)\/
  ∃(o:Obj)(b:Array Value)(n:Nat),K.lookup a=some o/\o.cls=.type "tuple"/\o.data=.seq b n/\b.size<=sizeLine/\Vals xs b.toList
def ajm:Value->Option V
 |.none=>some .non
 |.bool b=>some (.bl b)
 |.int i _=>some (.int i)
 |.str x _=>some (.str x)
 |.bytes b _=>some (.byt b)
 |.float b _=>some (.flt b)
 |.ref a=>some (.ref a)
 |.type n=>some (.ty n)
 |_=>none
theorem RelV.abs(r:RelV x u):ajm u=some x:=by
 cases x with
 |non=>cases r;rfl
 |bl _=>cases r;rfl
 |int _=>obtain⟨t,rfl⟩:=r;rfl
 |str _=>obtain⟨t,rfl⟩:=r;rfl
 |byt _=>obtain⟨t,rfl⟩:=r;rfl
 |flt _=>obtain⟨t,rfl⟩:=r;rfl
 |ref _=>cases r;rfl
 |ty _=>cases r;rfl
theorem RelV.inj(r:RelV x u)(q:RelV y u):x=y:=Option.some.inj (r.abs.symm.trans q.abs)
theorem Vals.inj:∀{xs ys:List V}{us:List Value},Vals xs us->Vals ys us->xs=ys
 |_,_,_,.nil,.nil=>rfl
 |_,_,_,.cons r t,.cons r' t'=>by rw[r.inj r',Vals.inj t t']
section
variable{X:Cx}{pins:List (Addr×Obj)}{σ:St}{H:Hp}{s:Shared}{a:Addr}{xs ys:List V}
theorem SqL.of{K:W.Frag}(h:H a=some (.lst xs)):SqL K H a xs:=.inl (.inl h)
theorem SqT.of{K:W.Frag}(h:H a=some (.tup xs)):SqT K H a xs:=.inl (.inl h)
theorem Inv.list(I:Inv X pins σ H s)(h:SqL X.K H a xs):∃its:List Value,Vals xs its/\PlainL s.heap a its.toArray/\xs.length<=sizeLine:=by
 rcases h with h |⟨o,its,n,d,c,hd,b,f,r⟩
 .obtain⟨z,its,n,r,e⟩:=h.ok I.hok;exact⟨its,r,⟨_,n,e,rfl,rfl,rfl⟩,z⟩
 .refine⟨its.toList,r,⟨o,n,I.kIn a o d,c,hd,by simpa using b⟩,?_⟩;have e:=r.length;simp only[length_toList] at e;omega
theorem Inv.tuple(I:Inv X pins σ H s)(h:SqT X.K H a xs):∃its:List Value,Vals xs its/\IsTup s.heap a its.toArray/\xs.length<=sizeLine:=by
 rcases h with h |⟨o,its,n,d,c,b,f,r⟩
 .obtain⟨z,its,r,p⟩:=h.ok I.hok;exact⟨its,r,p,z⟩
 .refine⟨its.toList,r,⟨o,I.kIn a o d,c,n,by simpa using b⟩,?_⟩;have e:=r.length;simp only[length_toList] at e;omega
theorem Inv.list_inj(I:Inv X pins σ H s)(h:SqL X.K H a xs)(h':SqL X.K H a ys):xs=ys:=by
 obtain⟨c,r,⟨o,n,e,_,_,d⟩,_⟩:=I.list h;obtain⟨b,j,⟨l,m,f,_,_,g⟩,_⟩:=I.list h';rw[e] at f;cases f;rw[d] at g;injection g with d1 _
 have:c=b:=by simpa using congrArg Array.toList d1
 subst this;exact r.inj j
end
abbrev Cx.wish(X:Cx)(E:Value->Shared->Prop):Cx:={ X with xe:=E }
abbrev Cx.nox(X:Cx):Cx:=X.wish λ_ _=>False
theorem Cx.Ok.wish{X:Cx}(ok:X.Ok)(E:Value->Shared->Prop):(X.wish E).Ok:=
 ⟨ok.mod,ok.kind,ok.glob,ok.blt,ok.above,ok.inj,ok.has,ok.cab,ok.hd,ok.frames,ok.stk,ok.exf,ok.bs,ok.bsz,ok.noex,ok.exfs,ok.funs,ok.frf⟩
theorem Cx.Ok.unwish{X:Cx}{E:Value->Shared->Prop}(ok:(X.wish E).Ok):X.Ok:=
 ⟨ok.mod,ok.kind,ok.glob,ok.blt,ok.above,ok.inj,ok.has,ok.cab,ok.hd,ok.frames,ok.stk,ok.exf,ok.bs,ok.bsz,ok.noex,ok.exfs,ok.funs,ok.frf⟩
section
variable{X:Cx}{pins:List (Addr×Obj)}{σ:St}{H:Hp}{s:Shared}{E:Value->Shared->Prop}
theorem Inv.wish(I:Inv X pins σ H s)(E:Value->Shared->Prop):Inv (X.wish E) pins σ H s:=⟨I.ok.wish E,I.os,I.bare,I.base,I.loc,I.cell,I.free,I.freeC,I.pin,I.hok,I.len⟩
theorem Inv.unwish(I:Inv (X.wish E) pins σ H s):Inv X pins σ H s:=⟨I.ok.unwish,I.os,I.bare,I.base,I.loc,I.cell,I.free,I.freeC,I.pin,I.hok,I.len⟩
theorem SP.unwish(h:SP (X.wish E) pins D f s'):SP X pins D f s':=by
 cases f with
 |next=>obtain⟨a,b,I,q⟩:=h;exact⟨a,b,I.unwish,q⟩
 |brk=>obtain⟨a,b,I,q⟩:=h;exact⟨a,b,I.unwish,q⟩
 |cont=>obtain⟨a,b,I,q⟩:=h;exact⟨a,b,I.unwish,q⟩
 |ret u=>obtain⟨v,a,b,I,r,q⟩:=h;exact⟨v,a,b,I.unwish,r,q⟩
theorem PSs.nox{st:List Stmt}{t:TS}(h:PSs X.nox st t):PSs X st t:=λpins s σ H D I a=>
 wpAny_mono (h pins s σ H D (I.wish _) a) (λ_ _ q=>q.unwish) λ_ _ z=>False.elim z
end
section
variable{X:Cx}{st:Stmt}{rest:List Stmt}{t u:TS}{e:Expr}{te:TE}{pos:Pos}
def agU:TS:=λD j H=>D.nx j H
def aeN(t u:TS):TS:=λD j H=>t { D with nx:=u D } j H
theorem r'M:PSs X [] agU:=λ_ _ j H _ I h=>wpAny_execs_nil ⟨j,H,I,h⟩
theorem b'R(b:PS X st t)(c:PSs X rest u):PSs X (st::rest) (aeN t u):=by
 intro pins s j H D I h;refine wpAny_execs_cons (thn (b pins s j H { D with nx:=u D } I h) λf a q=>?_);cases f with
 |next=>
  obtain⟨l,d,g,q⟩:=q;exact c pins a l d D g q
 |ret v=>exact q
 |brk=>exact q
 |cont=>exact q
theorem e'b(a:PS X st t):PSs X [st] t:=by
 intro pins s j H D I h;refine wpAny_execs_cons (thn (a pins s j H D I h) λf b q=>?_);cases f with
 |next=>exact wpAny_execs_nil q
 |ret v=>exact q
 |brk=>exact q
 |cont=>exact q
theorem Inv.quiet(I:Inv X pins j H s):interactive X.env=false:=by simp[interactive,I.ok.kind]
def aeH(te:TE):TS:=λD j H=>te j H λ_ H1=>D.nx j H1
theorem c'o(he:PE X e te)(hs:swapsWith e none pos.line X.env=pure false:=by rfl):PS X (.Expr e pos) (aeH te):=by
 intro pins s j H D I h;exact wpAny_Expr_any (thn (he pins s j H _ I h) λv a ⟨x,H1,I1,r1,q1⟩=>⟨j,H1,I1,q1⟩) I.quiet hs
def ah4(te:TE):TS:=λD j H=>te j H D.rt
theorem l'Q(he:PE X e te):PS X (.Return (some e) pos) (ah4 te):=by
 intro pins s j H D I h;exact wpAny_Return_some (thn (he pins s j H _ I h) λv a ⟨x,H1,I1,r1,q1⟩=>⟨x,j,H1,I1,r1,q1⟩)
def aiQ(c:TT)(t u:TS):TS:=λD j H=>c j H λb a=>if b=true then t D j a else u D j a
theorem w'k(m:PT X c tc)(l:PSs X a t)(n:PSs X b u):PS X (.If c a b pos) (aiQ tc t u):=by
 intro pins s j H D I h;refine wpAny_If (thn (m pins s j H _ I h) λd g ⟨f,I1,q1⟩=>?_);cases d with
 |true=>exact l pins g j f D I1 q1
 |false=>exact n pins g j f D I1 q1
def agV:TS:=λ_ _ _=>False
theorem o'z:PS X st agV:=λ_ _ _ _ _ _ h=>h.elim
end
abbrev TG:=V->St->Hp->(St->Hp->Prop)->Prop
abbrev TGs:=List V->St->Hp->(St->Hp->Prop)->Prop
def PG(X:Cx)(a:Expr)(t:TG):Prop:=
 ∀(pins:List (Addr×Obj))(s:Shared)(j:St)(H:Hp)(v:V)(u:Value)(Q:St->Hp->Prop),Inv X pins j H s->RelV v u->t v j H Q->
  wpAny (model X.prog X.w) X.A (assign a X.env u) (λ_ d=>∃c b,Inv X pins c b d/\Q c b) X.xe s
def PGs(X:Cx)(c:List Expr)(t:TGs):Prop:=
 ∀(pins:List (Addr×Obj))(s:Shared)(j:St)(H:Hp)(vs:List V)(us:List Value)(Q:St->Hp->Prop),Inv X pins j H s->Vals vs us->t vs j H Q->
  wpAny (model X.prog X.w) X.A (assignInOrder ((assignEach c X.env).map (·.2)) us) (λ_ d=>∃b a,Inv X pins b a d/\Q b a) X.xe s
abbrev aiR:=V->V->V->Hp->(Hp->Prop)->Prop
def aiS(X:Cx)(t:aiR):Prop:=
 ∀(pins:List (Addr×Obj))(s:Shared)(j:St)(H:Hp)(o i v:V)(ov b u:Value)(Q:Hp->Prop),Inv X pins j H s->RelV o ov->RelV i b->RelV v u->t o i v H Q->
  wpAny (model X.prog X.w) X.A (setItem ov b u) (λ_ c=>∃a,Inv X pins j a c/\Q a) X.xe s
section
variable{X:Cx}{pos:Pos}
def adH(i:Nat):TG:=λv j H Q=>Q (j.set i (some v)) H
theorem f'E(c:X.N.Nodup)(a:X.N[i]?=some x)(b:Loc X.env.scope x)(d:X.fn x=true\/X.env.scope.names.lookup x=some .local:=by first |exact .inl rfl |exact .inr rfl |assumption):PG X (.Name x pos) (adH i):=by
 intro pins s j H v u Q I r h;exact wpAny_assign_Name (d'f I c a b r (λf e=>⟨_,H,e,h⟩) d)
def ah5:TGs:=λvs j H Q=>vs=[]/\Q j H
def aga(t:TG)(u:TGs):TGs:=λvs j H Q=>∃v r,vs=v::r/\t v j H λb a=>u r b a Q
theorem j'l:PGs X [] ah5:=by
 intro pins s j H vs us Q I r h;obtain⟨e,h⟩:=h;subst e;cases r;exact assignInOrder_nil ⟨j,H,I,h⟩
theorem h'n(b:PG X e t)(g:PGs X es u)(hs:(assignEach (e::es) X.env).map (·.2)=assign e X.env::(assignEach es X.env).map (·.2):=by rfl):PGs X (e::es) (aga t u):=by
 intro pins s j H vs us Q I r h;obtain⟨v,l,a,h⟩:=h;subst a;cases r with
 |cons r c=>
  rw[hs];refine assignInOrder_cons (thn (b pins s j H _ _ _ I r h) λ_ f ⟨d,H1,I1,q1⟩=>?_);exact g pins f d H1 _ _ Q I1 c q1
def ah6(K:W.Frag)(n:Nat)(t:TGs):TG:=λv j H Q=>∃a b,v=.ref a/\SqT K H a b/\b.length=n/\t b j H Q
theorem l'R(z:X.calm=true)(h:PGs X es t)(y:(assignEach es X.env).length=n:=by rfl)(d:(assignEach es X.env).findIdx? (·.1)=none:=by rfl):PG X (.Tuple es k pos) (ah6 X.K n t):=by
 intro pins s j H v u Q I r c;obtain⟨a,q,l,B,x,c⟩:=c;subst l;cases r;obtain⟨w,f,p,C⟩:=I.tuple B;refine assign_Tuple_tuple (I.ok.hd z) p (by simp[y,<- x,f.length]) d λm g=>?_
 have A:Inv X pins j H { s with heap:=m }:=I.kept (t':=s.toks) λb o e=>g b o (ne_of_lt (Heap.lt_size e)) e
 exact h pins _ j H q _ Q A (by simpa using f) c
def aiT(b d:TE)(t:aiR):TG:=λv j H Q=>b j H λo a=>d j a λi e=>t o i v e λc=>Q j c
theorem u'e(g:PE X o to)(c:PE X i ti)(hs:aiS X t)(b:∀v,assign (.Subscript o i pos) X.env v=(do
   let ov <- holding [v] (eval o X.env)
   let a <- holding [v,ov] (eval i X.env)
   standAt pos
   holding [v,ov,a] (setItem ov a v)
   release [v,ov,a] []):=by intro _;rfl):PG X (.Subscript o i pos) (aiT to ti t):=by
 intro pins s j H v u Q I r h;rw[b];refine wpAny_bind (wpAny_holding (thn (g pins s j H _ I h) λov d ⟨x,H1,I1,r1,q1⟩=>?_));refine wpAny_bind (wpAny_holding (thn (c pins d j H1 _ I1 q1) λa f ⟨y,H2,I2,r2,q2⟩=>?_));refine wpAny_bind (wpAny_standAt (wpAny_bind (wpAny_holding (thn (hs pins f j H2 x y v ov a u _ I2 r1 r2 r q2) λ_ l ⟨e,I3,q3⟩=>?_))));exact wpAny_release ⟨j,e,I3,q3⟩
def afL(b:TE)(g:TG):TS:=λD j H=>b j H λx a=>g x j a D.nx
theorem u'f(he:PE X e te)(d:PG X tg g)(hs:swapsWithSole [tg] e pos.line X.env=pure false:=by rfl)(c:swappedStores [tg] e X.env=pure none:=by rfl)(b:(assignEach [tg] X.env).map (·.2)=[assign tg X.env]:=by rfl):PS X (.Assign [tg] e pos) (afL te g):=by
 intro pins s j H D I h;refine wpAny_Assign_stores (thn (he pins s j H _ I h) λv a ⟨x,H1,I1,r1,q1⟩=>?_) hs c;rw[b];exact thn (d pins a j H1 x v _ I1 r1 q1) λ_ f q=>q
theorem e'X(c:X.N.Nodup)(a:X.N[i]?=some x)(d:Loc X.env.scope x)(he:PE X e te)(hs:swapsWith e (some (.Name x pos')) pos.line X.env=pure false:=by rfl)(f:X.fn x=true\/X.env.scope.names.lookup x=some .local:=by first |exact .inl rfl |exact .inr rfl |assumption):
  PS X (.Assign [.Name x pos'] e pos) (afL te (adH i)):=by
 intro pins s j H D I h;refine wpAny_Assign_Name (thn (he pins s j H _ I h) λv g ⟨y,H1,I1,r1,q1⟩=>?_) hs;exact d'f I1 c a d r1 (λl b=>⟨_,H1,b,q1⟩) f
end
section
variable{X:Cx}{pos:Pos}
def afM(c:TT)(tb:TS):TS:=λD j H=>∃W:Nat->St->Hp->Prop,(∃m,W m j H)/\∀m j H,W m j H->
 c j H λb a=>if b=true then ∃N:St->Hp->Prop,(∀f e,N f e->∃d,d<m/\W d f e)/\tb { D with nx:=N,ct:=N,bk:=D.nx } j a else D.nx j a
theorem o'A(hp:PassesOwn (model X.prog X.w) X.A X.env X.xe)(O:PT X c tc)(Q:PSs X body tb):PS X (.While c body [] pos) (afM tc tb):=by
 intro pins s j H D I h;obtain⟨W,⟨E,J⟩,a⟩:=h;refine wpAny_While (codeAny_whileLoop (λn U=>∃C y,Inv X pins C y U/\W n C y) ?_ E ⟨j,H,I,J⟩);rintro n M ⟨l,z,G,L⟩;refine wpAny_passesOwn hp (thn (O pins M l z _ G (a n l z L)) λb Y ⟨B,I2,g⟩=>?_);cases b with
 |true=>
  obtain⟨N,x,g⟩:=g;rw[if_pos rfl];refine wpAny_passesOwn hp (thn (Q pins Y l B _ I2 g) λf s3 m=>?_);cases f with
  |next=>
   obtain⟨d,e,p,u⟩:=m;obtain⟨o,q,r⟩:=x d e u;exact⟨o,q,d,e,p,r⟩
  |cont=>
   obtain⟨d,e,p,u⟩:=m;obtain⟨o,q,r⟩:=x d e u;exact⟨o,q,d,e,p,r⟩
  |brk=>exact m
  |ret v=>exact m
 |false=>
  rw[if_neg Bool.false_ne_true];exact wpAny_execs_nil ⟨l,B,I2,g⟩
end
structure It where
 go:Nat->Hp->Prop
 yld:Nat->Hp->V->Hp->Prop
 stop:Nat->Hp->Prop
def ad3(X:Cx)(pins:List (Addr×Obj))(H:Hp)(b:Addr):Prop:=
 H b=none/\b≠X.env.locals/\b ∉ X.fs/\(b∈X.ex\/X.s₀.heap.objs.size<=b)/\(∀x c,X.env.cells.lookup x=some c->c≠b)/\∀p∈X.pn++pins,p.1≠b
theorem Inv.fpOk{H d:Hp}(I:Inv X pins j H s)(a:s.heap.objs.size<=b)(f:d b=none):ad3 X pins d b:=by
 refine⟨f,Nat.ne_of_gt (lt_of_lt_of_le I.lt a),I.nofs a,.inr (le_trans I.sz a),λx c e z=>?_,λp g z=>?_⟩
 .obtain⟨v,q⟩:=I.cell x c e;exact absurd (lt_of_lt_of_le q.lt (by rw[z];exact a)) (lt_irrefl _)
 .exact absurd (lt_of_lt_of_le (Heap.lt_size (I.pin p g).1) (by rw[z];exact a)) (lt_irrefl _)
structure afk(P:Program)(w:World)(K:W.Frag)(tg:Expr)(J:It)(fp:List Addr)(it:Addr)(tn:Nat->Heap->Prop):Prop where
 mem:it∈fp
 obj:∀i h,tn i h->∀b∈fp,∃o,h.get? b=some o/\∀v,o.data≠.cell v
 keep:∀i h h',tn i h->(∀b∈fp,∀o,h.get? b=some o->h'.get? b=some o)->tn i h'
 item:∀(X:Cx),X.prog=P->X.w=w->X.K=K->X.calm=true->∀(i:Nat)(pins:List (Addr×Obj))(s:Shared)(j:St)(H:Hp)(E:Value->Shared->Prop),Inv X pins j H s->(∀b∈fp,ad3 X pins H b)->tn i s.heap->J.go i H->
  wpAny (model P w) X.A (pyNext (.ref it)) (λr s1=>∃u,r=some u/\
   wpAny (model P w) X.A (letOwnedTupleGo tg (.ref it) u) (λ_ s2=>∃x H',Inv X pins j H' s2/\RelV x u/\J.yld i H x H'/\tn (i+1) s2.heap/\∀b∈fp,H' b=none) E s1) E s
 done:∀(X:Cx),X.prog=P->X.w=w->X.K=K->X.calm=true->∀(i:Nat)(pins:List (Addr×Obj))(s:Shared)(j:St)(H:Hp)(E:Value->Shared->Prop),Inv X pins j H s->(∀b∈fp,ad3 X pins H b)->tn i s.heap->J.stop i H->
  wpAny (model P w) X.A (pyNext (.ref it)) (λr s1=>r=none/\Inv X pins j H s1) E s
 self:∀(A:Around)(i:Nat)(s:Shared)(Q:Value->Shared->Prop)(E:Value->Shared->Prop),tn i s.heap->Q (.ref it) s->wpAny (model P w) A (pyIter (.ref it)) Q E s
abbrev TI:=St->Hp->(It->Hp->Prop)->Prop
def PIE(X:Cx)(pins:List (Addr×Obj))(j:St)(g:Expr)(R:It->Hp->Prop)(a:Value)(e:Shared):Prop:=
 ∃(it:Addr)(f:List Addr)(d:Nat->Heap->Prop)(J:It)(c:Hp),a=.ref it/\Inv X pins j c e/\afk X.prog X.w X.K g J f it d/\d 0 e.heap/\(∀b∈f,ad3 X pins c b)/\R J c
def PI(X:Cx)(c a:Expr)(b:TI):Prop:=
 ∀(pins:List (Addr×Obj))(s:Shared)(j:St)(H:Hp)(R:It->Hp->Prop),Inv X pins j H s->b j H R->
  wpAny (model X.prog X.w) X.A (eval a X.env) (λv d=>wpAny (model X.prog X.w) X.A (pyIter v) (PIE X pins j c R) X.xe d) X.xe s
theorem g'Z{Q:Unit->Shared->Prop}(c:s.heap.get? it=some o)(d:o.cls=.type n)(hd:o.data=.fields vs)(b:["enumerate","zip","dict_itemiterator","dict_reverseitemiterator","odict_iterator","itertools.zip_longest","itertools.pairwise"].contains n=false)(a:Q () s):wpAny M A (letOwnedTupleGo tg (.ref it) u) Q E s:=by
 unfold letOwnedTupleGo;cases tg<;>first
  |exact wpAny_pure a
  |(cases u<;>first
    |exact wpAny_pure a
    | (refine wpAny_bind (wpAny_load c ?_)
       rw[d,hd];show wpAny M A (if (["enumerate","zip","dict_itemiterator","dict_reverseitemiterator","odict_iterator","itertools.zip_longest","itertools.pairwise"].contains n&&vs[0]? == some (rawInt _))=true then _ else _) Q E s;rw[if_neg (by intro h;rw[b,Bool.false_and] at h;cases h)];exact wpAny_pure a))
def Itl(K:W.Frag)(a:Addr):It:=
 ⟨λi H=>∃b x,SqL K H a b/\b[i]?=some x,λi H x c=>c=H/\∀b,SqL K H a b->b[i]?=some x,λi H=>∃b,SqL K H a b/\b.length<=i⟩
def Itr(lo:Int)(n:Nat):It:=⟨λi _=>i<n,λi H x a=>a=H/\x=.int (lo+i),λi _=>n<=i⟩
theorem l'S{P:Program}{w:World}{K:W.Frag}{Y:Expr}(a it:Addr):afk P w K Y (Itl K a) [it] it (λi h=>h.IsListIter it a i) where
 mem:=by simp
 obj:=λi h st b f=>by
  have e:b=it:=by simpa using f
  subst e;obtain⟨o,e,c,d⟩:=st;exact⟨o,e,λv z=>by rw[d] at z;cases z⟩
 keep:=λi h l st k=>st.at λo e=>k it (by simp) o e
 item:=by
  intro X q G J O i pins s j H E I n st L;subst q G J;obtain⟨U,x,m,r⟩:=L;obtain⟨M,y,p,hz⟩:=I.list m;obtain⟨u,hu,ru⟩:=y.get r;obtain⟨A,D,f2,N,B,C⟩:=n it (by simp);refine wpAny_pyNext_list_item st p.isList (x:=u) (by simpa using hu) λl g sb=>?_
  have I1:Inv X pins j H { s with heap:=l }:=I.turned (t':=s.toks) (λb o f e=>(sb.2 b f).trans e) A D N B C;obtain⟨o,e,c,d⟩:=id g;exact⟨u,rfl,g'Z (s:={ s with heap:=l }) e c d (by decide) ⟨x,H,I1,ru,⟨rfl,λys hy=>by rw[I.list_inj hy m];exact r⟩,g,λb f=>(n b f).1⟩⟩
 done:=by
  intro X q G J O i pins s j H E I n st L;subst q G J;obtain⟨U,m,r⟩:=L;obtain⟨M,y,p,hz⟩:=I.list m;obtain⟨A,D,f2,N,B,C⟩:=n it (by simp);have hl:=y.length;exact wpAny_pyNext_list_end (I.ok.hd O) st p.isList (by simp;omega) λl Q=>⟨rfl,I.turned (t':=s.toks) (λb o f e=>Q b o f e) A D N B C⟩
 self:=λ_ _ _ _ _ st h=>wpAny_pyIter_listiter st h
theorem k'W{P:Program}{w:World}{K:PySem.W.Frag}{J:Expr}(it:Addr)(lo:Int)(n:Nat):afk P w K J (Itr lo n) [it] it (λi h=>IsRangeIter h it (lo+(i:Nat)*1) ((n:Int) - (i:Nat)) 1) where
 mem:=by simp
 obj:=λi h st b a=>by
  have e:b=it:=by simpa using a
  subst e;exact⟨_,st,λv z=>by
   have D:Data.fields _=Data.cell v:=z;cases D⟩
 keep:=λi h d st k=>k it (by simp) _ st
 item:=by
  intro X g r u y i pins s j H E I f st x;subst g r u;obtain⟨l,q,M,A,m,p⟩:=f it (by simp);have W:=Walks.range (prog:=X.prog) (w:=X.w) (I.ok.hd y) it lo 1 n;refine W.item i s _ _ x st λv d B G c N=>?_
  obtain⟨t,rfl⟩:=G;have L:Inv X pins j H { s with heap:=d,toks:=B }:=I.turned (λb o a e=>N b o (by simpa using a) e) l q A m p;refine⟨_,rfl,g'Z (s:={ s with heap:=d,toks:=B }) (n:="range_iterator") c rfl rfl (by decide) ⟨.int (lo+i),H,L,⟨t,?_⟩,⟨rfl,rfl⟩,c,λb a=>(f b a).1⟩⟩;rw[Int.mul_one]
 done:=by
  intro X g r u y i pins s j H E I f st x;subst g r u;obtain⟨l,q,M,A,m,p⟩:=f it (by simp);exact wpAny_pyNext_range_end (I.ok.hd y) st (by have:n<=i:=x;omega) λd C=>⟨rfl,I.turned (t':=s.toks) (λb o a e=>C b o a e) l q A m p⟩
 self:=λ_ _ _ _ _ st h=>wpAny_pyIter_rangeiter st h
section
variable{X:Cx}{tg:Expr}
def agW(K:W.Frag)(d:TE):TI:=λj H R=>d j H λx b=>∃a,x=.ref a/\(∃c,SqL K b a c)/\R (Itl K a) b
theorem r'N{l:Expr}{d:TE}(g:PE X l d):PI X tg l (agW X.K d):=by
 intro pins s j H R I h;refine thn (g pins s j H _ I h) λv c ⟨x,H1,I1,r1,q1⟩=>?_
 obtain⟨a,e,⟨w,n⟩,q⟩:=q1;subst e;cases r1;obtain⟨f,u,p,r⟩:=I1.list n;refine wpAny_pyIter_list p.isList ?_;refine⟨c.heap.objs.size,[c.heap.objs.size],_,_,H1,rfl,I1.kept (t':=c.toks) λb o e=>Heap.get?_push_of_some _ e,l'S a _,⟨_,Heap.get?_push_size _ rfl,rfl,rfl⟩,λb m=>?_,q⟩;have e:b=c.heap.objs.size:=by simpa using m
 subst e;exact I1.fpOk (le_refl _) (I1.hok.fresh (le_refl _))
theorem h'o{pins:List (Addr×Obj)}{j:St}{H:Hp}{s:Shared}{R:It->Hp->Prop}{E:Value->Shared->Prop}{lo a:Int}{t u v:Tok}{c:Nat}(I:Inv X pins j H s)(f:-(2 ^ 62)<=lo)(m:lo<2 ^ 62)(n:-(2 ^ 62)<=a)(g:a<2 ^ 62)(q:R (Itr lo (a - lo).toNat) H):wpAny (model X.prog X.w) X.A (pyIter (.ref s.heap.objs.size)) (PIE X pins j tg R) E { s with heap:=s.heap.push { cls:=.type "range",data:=.fields #[.int lo t,.int a u,.int 1 v] },toks:=c }:=by
 refine wpAny_pyIter_range (IsRange.new ..) (small_one f m n g) ?_;have d:Inv X pins j H { s with heap:=s.heap.push { cls:=.type "range",data:=.fields #[.int lo t,.int a u,.int 1 v] },toks:=c }:=I.kept λb o e=>Heap.get?_push_of_some _ e
 refine⟨(s.heap.push { cls:=.type "range",data:=.fields #[.int lo t,.int a u,.int 1 v] }).objs.size,[(s.heap.push { cls:=.type "range",data:=.fields #[.int lo t,.int a u,.int 1 v] }).objs.size],_,_,H,rfl,
  d.kept (t':=c) λb o e=>Heap.get?_push_of_some _ e,k'W _ lo (a - lo).toNat,?_,λb l=>?_,q⟩
 .have e1:lo+((0:Nat):Int)*1=lo:=by simp
  have h:(((a - lo).toNat:Nat):Int) - ((0:Nat):Int)=Builtin.Range.rangeSize lo a 1:=by rw[rangeSize_one];split<;>omega
  show IsRangeIter _ _ (lo+((0:Nat):Int)*1) ((((a - lo).toNat:Nat):Int) - ((0:Nat):Int)) 1;rw[e1,h];exact Heap.get?_push_size _ rfl
 .have e:b=(s.heap.push { cls:=.type "range",data:=.fields #[.int lo t,.int a u,.int 1 v] }).objs.size:=by simpa using l
  subst e;exact d.fpOk (le_refl _) (d.hok.fresh (le_refl _))
def agX(b:TA):TI:=λy H R=>b y H λvs a=>∃j:Int,vs=[.int j]/\-(2 ^ 62)<=j/\j<2 ^ 62/\R (Itr 0 j.toNat) a
def agY(b:TA):TI:=λy H R=>b y H λvs a=>∃i j:Int,vs=[.int i,.int j]/\(-(2 ^ 62)<=i/\i<2 ^ 62/\-(2 ^ 62)<=j/\j<2 ^ 62)/\R (Itr i (j - i).toNat) a
theorem l'T{a:Expr}{c:TA}{p pos:Pos}(l:Gl X "range")(m:X.mg "range"=none)(d:PA X [a] c)(hs:starEach [a] X.env=[(false,eval a X.env)]:=by rfl):PI X tg (.Call (.Name "range" p) [a] [] pos) (agX c):=by
 intro pins s y H R I h;refine Call_ (b'o I l m boot_range (PyProof.Rows.callWith_type1 (thn (d pos pins s y H _ I h) λus n ⟨vs,H1,I1,r1,b⟩=>?_) hs rfl));obtain⟨j,e,b,g,q⟩:=b;subst e;cases r1 with
 |cons r f=>
  cases f;obtain⟨t,rfl⟩:=r;exact call_range_1 (h'o I1 (by omega) (by omega) b g (by simpa using q))
theorem l'U(n:Gl X "range")(o:X.mg "range"=none)(g:PA X [a,b] ta)(hs:starEach [a,b] X.env=[(false,eval a X.env),(false,eval b X.env)]:=by rfl)(c:starEach [b] X.env=[(false,eval b X.env)]:=by rfl):
  PI X tg (.Call (.Name "range" p) [a,b] [] pos) (agY ta):=by
 intro pins s y H R I h;refine Call_ (b'o I n o boot_range (PyProof.Rows.callWith_type1 (thn (g pos pins s y H _ I h) λus x ⟨vs,H1,I1,r1,f⟩=>?_) (by rw[hs,c]) (by rw[c];rfl)));obtain⟨i,j,e,⟨f,m,v,l⟩,q⟩:=f;subst e;cases r1 with
 |cons r d=>
  cases d with
  |cons u d=>
   cases d;obtain⟨t,rfl⟩:=r;obtain⟨w,rfl⟩:=u;exact call_range_2 (h'o I1 f m v l q)
def ah7(f:TI)(g:TG)(tb:TS):TS:=λD j H=>f j H λJ d=>∃W:Nat->Nat->St->Hp->Prop,(∃m,W 0 m j d)/\∀i m j H,W i m j H->
 (J.stop i H/\D.nx j H)\/(J.go i H/\∃N:St->Hp->Prop,(∀c a,N c a->∃b,b<m/\W (i+1) b c a)/\∀x a,J.yld i H x a->g x j a λe h=>tb { D with nx:=N,ct:=N,bk:=D.nx } e h)
def ad4(fp:List Addr)(h:Heap):List (Addr×Obj):=fp.filterMap λb=>(h.get? b).map λo=>(b,o)
theorem c'i(a:b∈fp)(e:h.get? b=some o):(b,o)∈ad4 fp h:=mem_filterMap.mpr ⟨b,a,by rw[e];rfl⟩
theorem l'V(hp:p∈ad4 fp h):p.1∈fp/\h.get? p.1=some p.2:=by
 obtain⟨b,a,e⟩:=mem_filterMap.mp hp;cases q:h.get? b with
 |none=>rw[q] at e;cases e
 |some o=>
  rw[q] at e;have c:(b,o)=p:=Option.some.inj e;subst c;exact⟨a,q⟩
theorem Inv.pinned(I:Inv X pins j H s)(h:∀b∈fp,ad3 X pins H b)(f:∀b∈fp,∃o,s.heap.get? b=some o/\∀v,o.data≠.cell v):Inv X (pins++ad4 fp s.heap) j H s:=
 I.pins_of λp l=>(mem_append.mp l).elim (λz=>I.pin p (mem_append_right _ z)) λz=>by
  obtain⟨a,e⟩:=l'V z;obtain⟨g,m,n,_⟩:=h p.1 a;obtain⟨o,c,d⟩:=f p.1 a;rw[e] at c;cases c;exact⟨e,g,m,n,d⟩
theorem Inv.unpinned(I:Inv X (pins++pl) j H s):Inv X pins j H s:=I.pins_of λp a=>I.pin p (mem_append_right _ (List.mem_append_left _ a))
theorem l'W(hp:PassesOwn (model X.prog X.w) X.A X.env X.xe)(hc:X.calm=true)(hi:PI X tg iter wi)(hg:PG X tg g)(q:PSs X body tb)(hs:∀x,foldedSetIterable iter X.env x=pure x:=by intro _;rfl):PS X (.For tg iter body [] pos) (ah7 wi g tb):=by
 intro pins s j H D I h;refine wpAny_For (thn (hi pins s j H _ I h) λv s1 h1=>thn h1 λβ s2 h2=>?_) hs;obtain⟨it,G,tn,J,H2,e,I2,T,α,f2,W,⟨m0,w0⟩,B⟩:=h2;subst e;have c:∀{y:Hp},(∀b∈G,y b=none)->∀b∈G,ad3 X pins y b:=λhn b q=>⟨hn b q,(f2 b q).2⟩
 refine codeAny_forLoop_any (λn s'=>∃i O y,Inv X pins O y s'/\tn i s'.heap/\(∀b∈G,y b=none)/\W i n O y) ?_ m0 ⟨0,j,H2,I2,α,λb q=>(f2 b q).1,w0⟩;rintro n s3 ⟨i,M,Q,I3,L,E,w3⟩;rcases B i n M Q w3 with⟨stop,qn⟩ |⟨go,N,hN,step⟩
 .refine wpAny_passesOwn hp (thn (T.done X rfl rfl rfl hc i pins s3 M Q X.xe I3 (c E) L stop) λr s4 ⟨Y,I4⟩=>?_);subst Y;exact wpAny_execs_nil ⟨M,Q,I4,qn⟩
 .refine wpAny_passesOwn hp (thn (T.item X rfl rfl rfl hc i pins s3 M Q X.xe I3 (c E) L go) λr s4 ⟨u,Y,h4⟩=>?_);subst Y;refine wpAny_passesOwn hp (thn h4 λ_ s5 ⟨x,H5,I5,r5,y5,st5,fr5⟩=>?_);have U:=I5.pinned (c fr5) (T.obj _ _ st5);refine wpAny_passesOwn hp (thn (hg _ s5 M H5 x u _ U r5 (step x H5 y5)) λ_ s6 ⟨j6,H6,I6,q6⟩=>?_);refine wpAny_passesOwn hp (thn (q _ s6 j6 H6 _ I6 q6) λf s7 z=>?_);have again:∀{a:St}{l:Hp},Inv X (pins++ad4 G s5.heap) a l s7->N a l->∃m,m<n/\∃i O y,Inv X pins O y s7/\tn i s7.heap/\(∀b∈G,y b=none)/\W i m O y:=λ{a l} p C=>by
   obtain⟨m',hm,w7⟩:=hN a l C;refine⟨m',hm,i+1,a,l,p.unpinned,T.keep _ _ _ st5 λb q o e=>(p.pin (b,o) (mem_append_right _ (mem_append_right _ (c'i q e)))).1,λb q=>?_,w7⟩;obtain⟨o,e,d⟩:=T.obj _ _ st5 b q;exact (p.pin (b,o) (mem_append_right _ (mem_append_right _ (c'i q e)))).2.1
  cases f with
  |next=>obtain⟨a,l,p,C⟩:=z;exact again p C
  |cont=>obtain⟨a,l,p,C⟩:=z;exact again p C
  |brk=>obtain⟨a,l,p,z⟩:=z;exact⟨a,l,p.unpinned,z⟩
  |ret v=>obtain⟨x7,a,l,p,r7,z⟩:=z;exact⟨x7,a,l,p.unpinned,r7,z⟩
end
abbrev R2:=V->V->Hp->VK->Prop
def OpR(X:Cx)(f:Value->Value->Sem Value)(r:R2):Prop:=
 ∀(pins:List (Addr×Obj))(s:Shared)(j:St)(H:Hp)(x y:V)(v u:Value)(Q:VK),Inv X pins j H s->RelV x v->RelV y u->r x y H Q->
  wpAny (model X.prog X.w) X.A (f v u) (EP X pins j Q) X.xe s
def UnR(X:Cx)(f:Value->Sem Value)(r:V->Hp->VK->Prop):Prop:=
 ∀(pins:List (Addr×Obj))(s:Shared)(j:St)(H:Hp)(x:V)(v:Value)(Q:VK),Inv X pins j H s->RelV x v->r x H Q->
  wpAny (model X.prog X.w) X.A (f v) (EP X pins j Q) X.xe s
def CallR(X:Cx)(f:Value)(r:List V->Hp->VK->Prop):Prop:=
 ∀(pins:List (Addr×Obj))(s:Shared)(j:St)(H:Hp)(a:List V)(us:List Value)(Q:VK),Inv X pins j H s->Vals a us->r a H Q->
  wpAny (model X.prog X.w) X.A (call f us) (EP X pins j Q) X.xe s
def ajn(X:Cx)(r:V->Hp->(Bool->Hp->Prop)->Prop):Prop:=
 ∀(pins:List (Addr×Obj))(s:Shared)(j:St)(H:Hp)(x:V)(v:Value)(Q:Bool->Hp->Prop),Inv X pins j H s->RelV x v->r x H Q->
  wpAny (model X.prog X.w) X.A (truthy v) (TP X pins j Q) X.xe s
def tOp(r:R2)(b tb:TE):TE:=λj H Q=>b j H λx a=>tb j a λy c=>r x y c Q
def tUn(r:V->Hp->VK->Prop)(b:TE):TE:=λj H Q=>b j H λx a=>r x a Q
def rI(C:Int->Int->Prop)(g:Int->Int->V):R2:=λx y H Q=>∃i j,x=.int i/\y=.int j/\C i j/\Q (g i j) H
def rI0(g:Int->Int->V):R2:=λx y H Q=>∃i j,x=.int i/\y=.int j/\Q (g i j) H
def rU(g:Int->V):V->Hp->VK->Prop:=λx H Q=>∃i,x=.int i/\Q (g i) H
section
variable{X:Cx}{a b c:Expr}{ta tb tc:TE}{pos:Pos}
theorem o'B(n:PE X a ta)(p:PE X b tb){R:V->V->Hp->Prop}(I:Inv X pins j H s)(h:ta j H λx m=>tb j m λy d=>R x y d){f:Value->Value->Sem Value}(q:∀v u l x y d,Inv X pins j d l->RelV x v->RelV y u->R x y d->wpAny (model X.prog X.w) X.A (f v u) Q X.xe l):
  wpAny (model X.prog X.w) X.A (eval a X.env) (λv e=>wpAny (model X.prog X.w) X.A (eval b X.env) (λu g=>wpAny (model X.prog X.w) X.A (f v u) Q X.xe g) X.xe e) X.xe s:=by
 refine thn (n pins s j H _ I h) λv o ⟨x,m,I1,r1,q1⟩=>?_
 refine thn (p pins o j m _ I1 q1) λu l ⟨y,d,I2,r2,q2⟩=>?_
 exact q v u l x y d I2 r1 r2 q2
theorem w'l(f:OpR X (binaryOp op) r)(e:PE X a ta)(l:PE X b tb):PE X (.BinOp a op b pos) (tOp r ta tb):=by
 intro pins s j H Q I h;exact wpAny_BinOp (o'B e l I h λv u n x y o d m g q=>f pins n j o x y v u Q d m g q)
theorem w'm(f:UnR X (unaryOp op) r)(d:PE X a ta):PE X (.UnaryOp op a pos) (tUn r ta):=by
 intro pins s j H Q I h;exact UnaryOp_ (thn (d pins s j H _ I h) λv e ⟨x,H1,I1,r1,q1⟩=>f pins e j H1 x v Q I1 r1 q1)
theorem opI{f:Value->Value->Sem Value}{C:Int->Int->Prop}{g:Int->Int->Int}(rule:∀(i j:Int)(t u:Tok)(s:Shared)(Q:Value->Shared->Prop)(E:Value->Shared->Prop),C i j->Q (.int (g i j) s.toks) { s with toks:=s.toks+1 }->wpAny (model X.prog X.w) X.A (f (.int i t) (.int j u)) Q E s):
  OpR X f (rI C λi j=>.int (g i j)):=by
 intro pins s G H x y v u Q I m e h;obtain⟨i,j,rfl,rfl,l,q⟩:=h;obtain⟨t,rfl⟩:=m;obtain⟨d,rfl⟩:=e;exact rule i j t d s _ _ l ⟨.int (g i j),H,I.tok _,⟨_,rfl⟩,q⟩
theorem u'g{f:Value->Value->Sem Value}{g:Int->Int->Int}(rule:∀(i j:Int)(t u:Tok)(s:Shared)(Q:Value->Shared->Prop)(E:Value->Shared->Prop),Q (.int (g i j) s.toks) { s with toks:=s.toks+1 }->wpAny (model X.prog X.w) X.A (f (.int i t) (.int j u)) Q E s):
  OpR X f (rI0 λi j=>.int (g i j)):=by
 intro pins s G H x y v u Q I l e h;obtain⟨i,j,rfl,rfl,q⟩:=h;obtain⟨t,rfl⟩:=l;obtain⟨d,rfl⟩:=e;exact rule i j t d s _ _ ⟨.int (g i j),H,I.tok _,⟨_,rfl⟩,q⟩
theorem k'X{f:Value->Value->Sem Value}{g:Int->Int->Bool}(rule:∀(i j:Int)(t u:Tok)(s:Shared)(Q:Value->Shared->Prop)(E:Value->Shared->Prop),Q (.bool (g i j)) s->wpAny (model X.prog X.w) X.A (f (.int i t) (.int j u)) Q E s):
  OpR X f (rI0 λi j=>.bl (g i j)):=by
 intro pins s G H x y v u Q I l e h;obtain⟨i,j,rfl,rfl,q⟩:=h;obtain⟨t,rfl⟩:=l;obtain⟨d,rfl⟩:=e;exact rule i j t d s _ _ ⟨.bl (g i j),H,I,rfl,q⟩
def CMul(i j:Int):Prop:=(-(2 ^ 64)<i/\i<2 ^ 64)\/(-(2 ^ 64)<j/\j<2 ^ 64)
theorem CMul.ok(h:CMul i j):IntMulOk i j:=by
 rcases h with⟨e,d⟩ |⟨e,d⟩
 .exact .of_left (intBits_le_64 e d)
 .exact .of_right (intBits_le_64 e d)
theorem agZ:OpR X (binaryOp .Add) (rI0 λi j=>.int (i+j)):=u'g λ_ _ _ _ _ _ _ q=>add_int q
theorem u'h:OpR X (binaryOp .Sub) (rI0 λi j=>.int (i - j)):=u'g λ_ _ _ _ _ _ _ q=>sub_int q
theorem u'i:OpR X (binaryOp .Mod) (rI (λ_ j=>0<j) λi j=>.int (i % j)):=opI λi j _ _ _ _ _ d q=>by
 have e:(0:Int)<j:=d;exact mod_int' (by omega) (by rw[Int.fmod_eq_emod_of_nonneg i (by omega)];exact q)
theorem unI{f:Value->Sem Value}{g:Int->Int}(rule:∀(i:Int)(t:Tok)(s:Shared)(Q:Value->Shared->Prop)(E:Value->Shared->Prop),Q (.int (g i) s.toks) { s with toks:=s.toks+1 }->wpAny (model X.prog X.w) X.A (f (.int i t)) Q E s):
  UnR X f (rU λi=>.int (g i)):=by
 intro pins s j H x v Q I d h;obtain⟨i,rfl,q⟩:=h;obtain⟨t,rfl⟩:=d;exact rule i t s _ _ ⟨.int (g i),H,I.tok _,⟨_,rfl⟩,q⟩
theorem u'j:UnR X (unaryOp .USub) (rU λi=>.int (-i)):=unI λ_ _ _ _ _ q=>neg_int q
end
def ah8:V->V->Bool
 |.non,.non=>true |.non,.int _=>true |.int _,.non=>true |.non,.bl _=>true |.bl _,.non=>true |.non,.str _=>true |.str _,.non=>true
 |.int _,.int _=>true |.bl _,.bl _=>true |.str _,.str _=>true |.byt _,.byt _=>true
 |.int _,.str _=>true |.str _,.int _=>true |.bl _,.str _=>true |.str _,.bl _=>true
 |_,_=>false
def rEq:R2:=λx y H Q=>ah8 x y=true/\Q (.bl (decide (x=y))) H
def rNe:R2:=λx y H Q=>ah8 x y=true/\Q (.bl (!decide (x=y))) H
theorem j'm:decide (V.int i=V.int j)=(i == j):=by
 rw[Bool.eq_iff_iff];simp
theorem l'X:decide (V.bl i=V.bl j)=(i == j):=by
 rw[Bool.eq_iff_iff];simp
theorem j'n:decide (V.str i=V.str j)=(i == j):=by
 rw[Bool.eq_iff_iff];simp
theorem j'o:decide (V.byt i=V.byt j)=(i.toList == j.toList):=by
 rw[Bool.eq_iff_iff];cases i;cases j;simp
section
variable{X:Cx}{a b c:Expr}{ta tb tc:TE}{pos:Pos}
theorem a'n{Q:VK}(I:Inv X pins j H s)(q:Q (.bl k) H)(e:k=k'):EP X pins j Q (.bool k') s:=by
 subst e;exact⟨.bl k,H,I,rfl,q⟩
theorem ah9:OpR X (compareOp .Eq) rEq:=by
 intro pins s G H x y v u Q I g d h;obtain⟨f,q⟩:=h;cases x with
 |non=>
  cases g;cases y with
  |non=>cases d;exact PySem.EqNone.eq_none_none (a'n I q (by simp))
  |bl j=>cases d;exact PySem.EqNone.eq_none_bool (a'n I q (by simp))
  |int j=>obtain⟨e,rfl⟩:=d;exact PySem.EqNone.eq_none_int (a'n I q (by simp))
  |str j=>obtain⟨e,rfl⟩:=d;exact PySem.EqNone.eq_none_str (a'n I q (by simp))
  |_=>exact absurd (show false=true from f) Bool.false_ne_true
 |bl i=>
  cases g;cases y with
  |non=>cases d;exact PySem.EqNone.eq_bool_none (a'n I q (by simp))
  |bl j=>cases d;exact eq_bool (a'n I q l'X)
  |str j=>obtain⟨e,rfl⟩:=d;exact PySem.EqMixed.eq_bool_str (a'n I q (by simp))
  |_=>exact absurd (show false=true from f) Bool.false_ne_true
 |int i=>
  obtain⟨t,rfl⟩:=g;cases y with
  |non=>cases d;exact PySem.EqNone.eq_int_none (a'n I q (by simp))
  |int j=>obtain⟨e,rfl⟩:=d;exact eq_int (a'n I q j'm)
  |str j=>obtain⟨e,rfl⟩:=d;exact PySem.EqMixed.eq_int_str (a'n I q (by simp))
  |_=>exact absurd (show false=true from f) Bool.false_ne_true
 |str i=>
  obtain⟨t,rfl⟩:=g;cases y with
  |non=>cases d;exact PySem.EqNone.eq_str_none (a'n I q (by simp))
  |bl j=>cases d;exact PySem.EqMixed.eq_str_bool (a'n I q (by simp))
  |int j=>obtain⟨e,rfl⟩:=d;exact PySem.EqMixed.eq_str_int (a'n I q (by simp))
  |str j=>obtain⟨e,rfl⟩:=d;exact eq_str (a'n I q j'n)
  |_=>exact absurd (show false=true from f) Bool.false_ne_true
 |byt i=>
  obtain⟨t,rfl⟩:=g;cases y with
  |byt j=>obtain⟨e,rfl⟩:=d;exact W.eq_bytes (a'n I q j'o)
  |_=>exact absurd (show false=true from f) Bool.false_ne_true
 |_=>cases y <;> exact absurd (show false=true from f) Bool.false_ne_true
theorem ag0:OpR X (compareOp .NotEq) rNe:=by
 intro pins s G H x y v u Q I g d h;obtain⟨f,q⟩:=h;cases x with
 |non=>
  cases g;cases y with
  |non=>cases d;exact PySem.EqNone.ne_none_none (a'n I q (by simp))
  |bl j=>cases d;exact PySem.EqNone.ne_none_bool (a'n I q (by simp))
  |int j=>obtain⟨e,rfl⟩:=d;exact PySem.EqNone.ne_none_int (a'n I q (by simp))
  |str j=>obtain⟨e,rfl⟩:=d;exact PySem.EqNone.ne_none_str (a'n I q (by simp))
  |_=>exact absurd (show false=true from f) Bool.false_ne_true
 |bl i=>
  cases g;cases y with
  |non=>cases d;exact PySem.EqNone.ne_bool_none (a'n I q (by simp))
  |bl j=>cases d;exact ne_bool (a'n I q (congrArg not l'X))
  |str j=>obtain⟨e,rfl⟩:=d;exact PySem.EqMixed.ne_bool_str (a'n I q (by simp))
  |_=>exact absurd (show false=true from f) Bool.false_ne_true
 |int i=>
  obtain⟨t,rfl⟩:=g;cases y with
  |non=>cases d;exact PySem.EqNone.ne_int_none (a'n I q (by simp))
  |int j=>obtain⟨e,rfl⟩:=d;exact ne_int (a'n I q (congrArg not j'm))
  |str j=>obtain⟨e,rfl⟩:=d;exact PySem.EqMixed.ne_int_str (a'n I q (by simp))
  |_=>exact absurd (show false=true from f) Bool.false_ne_true
 |str i=>
  obtain⟨t,rfl⟩:=g;cases y with
  |non=>cases d;exact PySem.EqNone.ne_str_none (a'n I q (by simp))
  |bl j=>cases d;exact PySem.EqMixed.ne_str_bool (a'n I q (by simp))
  |int j=>obtain⟨e,rfl⟩:=d;exact PySem.EqMixed.ne_str_int (a'n I q (by simp))
  |str j=>obtain⟨e,rfl⟩:=d;exact ne_str (a'n I q (congrArg not j'n))
  |_=>exact absurd (show false=true from f) Bool.false_ne_true
 |byt i=>
  obtain⟨t,rfl⟩:=g;cases y with
  |byt j=>obtain⟨e,rfl⟩:=d;exact W.ne_bytes (a'n I q (congrArg not j'o))
  |_=>exact absurd (show false=true from f) Bool.false_ne_true
 |_=>cases y <;> exact absurd (show false=true from f) Bool.false_ne_true
theorem aia:OpR X (compareOp .Lt) (rI0 λi j=>.bl (decide (i<j))):=k'X λ_ _ _ _ _ _ _ q=>lt_int q
theorem w'n:OpR X (compareOp .LtE) (rI0 λi j=>.bl (decide (i<=j))):=k'X λ_ _ _ _ _ _ _ q=>le_int q
theorem aib:OpR X (compareOp .Gt) (rI0 λi j=>.bl (decide (j<i))):=k'X λ_ _ _ _ _ _ _ q=>gt_int q
theorem w'o:OpR X (compareOp .GtE) (rI0 λi j=>.bl (decide (j<=i))):=k'X λ_ _ _ _ _ _ _ q=>ge_int q
theorem l'Y:OpR X (compareOp .Lt) (λx y H Q=>∃i j,x=.str i/\y=.str j/\Q (.bl (decide (i.cps.toList<j.cps.toList))) H):=by
 intro pins s G H x y v u Q I e d h;obtain⟨i,j,rfl,rfl,q⟩:=h;obtain⟨t,rfl⟩:=e;obtain⟨f,rfl⟩:=d;exact lt_str (a'n I q rfl)
theorem r'O:OpR X (compareOp .IsNot) (λx y H Q=>y=.non/\Q (.bl (!decide (x=.non))) H):=by
 intro pins s j H x y v u Q I d e h;obtain⟨rfl,q⟩:=h;cases e;refine isnot_none_gen (a'n I q ?_);cases x<;>first
  |(cases d;rfl)
  |(obtain⟨t,rfl⟩:=d;rfl)
theorem OpR.or{r g:R2}(h:OpR X f r)(h':OpR X f g):OpR X f (λx y H Q=>r x y H Q\/g x y H Q):=by
 intro pins s j H x y v u Q I e d q;rcases q with q |q
 .exact h pins s j H x y v u Q I e d q
 .exact h' pins s j H x y v u Q I e d q
theorem u'k(b:Expr)(h:op≠.In:=by decide)(f:op≠.NotIn:=by decide):behindInMarks op b=false:=by
 have e:(op == CmpOp.In)=false:=by cases op<;>first |rfl |exact absurd rfl h
 have d:(op == CmpOp.NotIn)=false:=by cases op<;>first |rfl |exact absurd rfl f
 cases b<;>simp[behindInMarks,e,d]
theorem r'P(f:OpR X (compareOp op) r)(e:PE X a ta)(m:PE X b tb)(g:behindInMarks op b=false):PE X (.Compare a [op] [b] pos) (tOp r ta tb):=by
 intro pins s j H Q I h;exact wpAny_Compare1 (o'B e m I h λv u o x y p d n l q=>f pins o j p x y v u Q d n l q) g
def afp(t:TE):TT:=λj H Q=>t j H λx H'=>∃k,x=.bl k/\Q k H'
theorem j'p(n:OpR X (compareOp op) r)(d:PE X a ta)(l:PE X b tb)(f:behindInMarks op b=false):PT X (.Compare a [op] [b] pos) (afp (tOp r ta tb)):=by
 intro pins s j H Q I h;refine wpAny_isTrue_Compare1 (thn (d pins s j H _ I h) λv g ⟨x,H1,I1,r1,q1⟩=>thn (l pins g j H1 _ I1 q1) λu m ⟨y,H2,I2,r2,q2⟩=>
  thn (n pins m j H2 x y v u _ I2 r1 r2 q2) λc o ⟨z,H3,I3,r3,k,e,q3⟩=>?_) f
 subst e;cases r3;exact wpAny_truthy_bool ⟨H3,I3,q3⟩
def aic(K:W.Frag)(x:V)(H:Hp)(k:Bool):Prop:=
 match x with
 |.non=>k=false
 |.bl b=>k=b
 |.int i=>k=(i != 0)
 |.str y=>y.length <= sizeLine /\ k=((y.length:Int) != 0)
 |.byt y=>y.size <= sizeLine /\ k=((y.size:Int) != 0)
 |.ref p=>(∃e,SqL K H p e /\ k = !e.isEmpty) \/ (∃e,SqT K H p e /\ k = !e.isEmpty) \/ ∃d,H p=some (.dK d) /\ k = !d.isEmpty
 |_=>False
theorem k'Y(r:KV kvs vs):(!vs.isEmpty)=!kvs.isEmpty:=by
 cases r<;>rfl
theorem e'Y(r:Vals xs its):(!its.toArray.isEmpty)=!xs.isEmpty:=by
 cases r<;>simp
theorem c'Q:(sizeLine:Nat)<2 ^ 63:=by rw[sizeLine_eq];decide
theorem u'l:ajn X (λx H Q=>∃k,aic X.K x H k/\Q k H):=by
 intro pins s j H x v Q I n h;obtain⟨k,e,q⟩:=h;have D:=c'Q;have E:sizeLine=16777216:=sizeLine_eq;cases x with
 |non=>
  cases n;have d:k=false:=e;subst d;exact truthy_none ⟨H,I,q⟩
 |bl b=>
  cases n;have d:k=b:=e;subst d;exact wpAny_truthy_bool ⟨H,I,q⟩
 |int i=>
  obtain⟨t,rfl⟩:=n;have d:k=(i != 0):=e;subst d;exact PySem.P.truthy_int ⟨H,I,q⟩
 |str y=>
  obtain⟨t,rfl⟩:=n;obtain⟨C,d⟩:y.length<=sizeLine/\k=((y.length:Int) != 0):=e;subst d;exact PySem.P.truthy_str (by omega) ⟨H,I.tok _,q⟩
 |byt y=>
  obtain⟨t,rfl⟩:=n;obtain⟨C,d⟩:y.size<=sizeLine/\k=((y.size:Int) != 0):=e;subst d;exact W.truthy_bytes (by omega) ⟨H,I.tok _,q⟩
 |ref p=>
  cases n;have d:(∃l,SqL X.K H p l/\k=!l.isEmpty)\/(∃l,SqT X.K H p l/\k=!l.isEmpty)\/∃f,H p=some (.dK f)/\k=!f.isEmpty:=e;rcases d with⟨l,o,d⟩ |⟨l,o,d⟩ |⟨f,o,d⟩
  .subst d;obtain⟨z,r,u,A⟩:=I.list o;have g:=r.length;exact wpAny_truthy_list u.isList (by simp only[size_toArray];omega) ⟨H,I.tok _,by rw[e'Y r];exact q⟩
  .subst d;obtain⟨z,r,u,A⟩:=I.tuple o;have g:=r.length;exact truthy_tuple u (by simp only[size_toArray];omega) ⟨H,I.tok _,by rw[e'Y r];exact q⟩
  .subst d;obtain⟨A,B,vs,r,m⟩:f.length<=sizeLine/\(p == sysModules)=false/\∃vs,KV f vs/\s.heap.DictOf (acn X.prog X.w) p vs:=I.hok p _ o;have g:f.length=vs.length:=Paired.length r;exact wpAny_truthy_dict B m (by omega) ⟨H,I.tok _,by rw[k'Y r];exact q⟩
 |_=>exact (show False from e).elim
theorem o'C(e:PE X a ta)(he:∀whole,isTrue a X.env whole=(do let v <- whole;standAt a.pos;holding [v] (truthy v))):
  PT X a (λj H Q=>ta j H λx d=>∃k,aic X.K x d k/\Q k d):=by
 intro pins s j H Q I h;exact isTrue_plain (thn (e pins s j H _ I h) λv f ⟨x,H1,I1,r1,q1⟩=>u'l pins f j H1 x v Q I1 r1 q1) (he _)
theorem aeI:OpR X (binaryOp .Add) (λx y H Q=>∃i j,x=.str i/\y=.str j/\i.length+j.length<=sizeLine/\Q (.str (i++j)) H):=by
 intro pins s G H x y v u Q I g f h;obtain⟨i,j,rfl,rfl,d,q⟩:=h;obtain⟨t,rfl⟩:=g;obtain⟨e,rfl⟩:=f;exact add_str (λe l=>⟨.str (i++j),H,I.tok _,⟨_,rfl⟩,q⟩) d
theorem b'w(r:Vals [x] us):∃u,us=[u]/\RelV x u:=by
 cases r with
 |cons d r2=>cases r2;exact⟨_,rfl,d⟩
theorem q'p(r:Vals [x,y] us):∃u d,us=[u,d]/\RelV x u/\RelV y d:=by
 cases r with
 |cons e r2=>
  cases r2 with
  |cons r3 r4=>cases r4;exact⟨_,_,rfl,e,r3⟩
theorem h'p:CallR X (.builtin "abs") (λxs H Q=>∃i,xs=[.int i]/\Q (.int (if i<0 then -i else i)) H):=by
 intro pins s j H xs us Q I r h;obtain⟨i,rfl,q⟩:=h;obtain⟨u,rfl,t,rfl⟩:=b'w r;exact call_abs_int λu d=>⟨.int (if i<0 then -i else i),H,I.tok _,⟨_,rfl⟩,q⟩
def aiU(K:W.Frag)(x:V)(H:Hp)(n:Nat):Prop:=
 match x with
 |.str y=>y.length <= sizeLine /\ n=y.length
 |.byt y=>y.size <= sizeLine /\ n=y.size
 |.ref p=>(∃d,SqL K H p d /\ n=d.length) \/ ∃d,SqT K H p d /\ n=d.length
 |_=>False
theorem afq:CallR X (.builtin "len") (λxs H Q=>∃x n,xs=[x]/\aiU X.K x H n/\Q (.int n) H):=by
 intro pins s j H xs us Q I r h;obtain⟨x,n,rfl,e,q⟩:=h;obtain⟨u,rfl,o⟩:=b'w r;have A:=c'Q;have B:sizeLine=16777216:=sizeLine_eq;cases x with
 |str y=>
  obtain⟨t,rfl⟩:=o;obtain⟨z,f⟩:y.length<=sizeLine/\n=y.length:=e;subst f;exact len_str (by omega) ⟨.int _,H,I.tok _,⟨_,rfl⟩,q⟩
 |byt y=>
  obtain⟨t,rfl⟩:=o;obtain⟨z,f⟩:y.size<=sizeLine/\n=y.size:=e;subst f;exact W.len_bytes (by omega) ⟨.int _,H,I.tok _,⟨_,rfl⟩,q⟩
 |ref p=>
  cases o;have f:(∃xs,SqL X.K H p xs/\n=xs.length)\/∃xs,SqT X.K H p xs/\n=xs.length:=e;rcases f with⟨xs,g,f⟩ |⟨xs,g,f⟩
  .subst f;obtain⟨l,m,v,w⟩:=I.list g;have d:=m.length;exact Calls.call_len_list v.isList (by simp only[size_toArray];omega) ⟨.int xs.length,H,I.tok _,⟨_,by simp only[size_toArray];rw[d]⟩,q⟩
  .subst f;obtain⟨l,m,v,w⟩:=I.tuple g;have d:=m.length;exact len_tuple v (by simp only[size_toArray];omega) ⟨.int xs.length,H,I.tok _,⟨_,by simp only[size_toArray];rw[d]⟩,q⟩
 |_=>exact (show False from e).elim
end
structure ObjM(h:Heap)(x dx C:Addr)(mA:Str->Option Value):Prop where
 obj:h.get? x=some (W.instObj C dx)
 ns:h.Ns1 dx mA
 ne:dx≠x
theorem l'Z{h:Heap}{d:Addr}{f:Str->Option Value}(n:h.Ns1 d f):∃od,h.get? d=some od/\∀b,W.lookIn b od=some (f b):=by
 obtain⟨o,g,s,r,hd,l,_,j⟩:=n;refine⟨o,r,λb=>?_⟩;have e:=j b;unfold nsFind findBy at e;rw[<- Array.find?_toList] at e;unfold W.lookIn;rw[hd];dsimp only;split
 .rename_i y q;rw[q] at e;exact congrArg some e
 .rename_i q;rw[q] at e;have a:g.toList.any (·.refKey)=false:=by
   rw[List.any_eq_false];intro y m;obtain⟨z,t,c⟩:=l y (Array.mem_toList_iff.mp m);simp[DictEntry.refKey,c]
  have p:¬ g.toList.any (·.refKey)=true:=by rw[a];exact Bool.false_ne_true
  rw[if_neg p];exact congrArg some e
theorem ObjM.look{b:Str->Option Value}(I:ObjM h x dx C b):∃od,W.InstAt h x (W.instObj C dx) C (some od)/\∀a,W.lookIn a od=some (b a):=
 let ⟨od,ho,hl⟩:=l'Z I.ns
 ⟨od,⟨I.obj,rfl,rfl,ho⟩,hl⟩
section
variable{prog:Program}{w:World}{A:Around}{E:Value->Shared->Prop}{s:Shared}{K:W.Frag}{x dx C f:Addr}{mA:Str->Option Value}{name:Str}{v:Value}
theorem r'Q{Q:Value->Shared->Prop}(X:K.In s.heap)(I:ObjM s.heap x dx C mA)(e:W.plainGet K C name=true)(d:W.hasDictIn K C=true)(c:W.findIn K (.ref C) name=some none)(g:mA name=some v)(a:W.handedIn v=true)(h:Q v { s with toks:=s.toks+1 }):
  wpAny (model prog w) A (getAttr (.ref x) name expr) Q E s:=by
 obtain⟨od,J,b⟩:=I.look;exact W.get_value X J (W.plainGet_of e).1 (W.findObj_own d c rfl (by rw[b,g])) a h
theorem h'q{Q:Value×List Value->Shared->Prop}(X:K.In s.heap)(I:ObjM s.heap x dx C mA)(a:W.plainGet K C name=true)(c:W.findIn K (.ref C) name=some (some (.ref f)))(d:W.isFn K (.ref f)=true)(e:mA name=none)(h:Q (.ref f,[.ref x]) s):
  wpAny (model prog w) A (getMethod (.ref x) name pl) Q E s:=by
 obtain⟨od,J,b⟩:=I.look;exact W.method_fn X J (W.plainGet_of a).1 (W.plainGet_of a).2 c (beq_iff_eq.mp d) (by show (W.lookIn name od).map (·.isSome)=some false;rw[b,e];rfl) h
theorem r'R{Q:Unit->Shared->Prop}(X:K.In s.heap)(I:ObjM s.heap x dx C mA)(hs:W.findIn K (.ref C) "__setattr__"=some (some (.builtin "object.__setattr__")))(hp:W.plainOver K C=true)(p:W.takerIn K C name=some none)(u:W.hasDictIn K C=true)(o:PySem.Within mA ns)(hsz:ns.length<=sizeLine)(h:∀h',ObjM h' x dx C (λy=>if y=name then some v else mA y)->Heap.SameBut dx s.heap h'->Q () { s with heap:=h',toks:=s.toks+2 }):
  wpAny (model prog w) A (setAttr (.ref x) name v) Q E s:=by
 obtain⟨od,J,D⟩:=I.look;refine W.set_plain X J hs (W.osa_open (s:={ s with toks:=s.toks+1 }) (r:=none) X J hp p λb=>?_);obtain⟨B,q,j⟩:=W.any_some u;have m:s.heap.get? x=some ⟨.ref C,some dx,.plain,#[]⟩:=I.obj;refine wpAny_bind (wpAny_pure (wpAny_bind (wpAny_bind (wpAny_loadPart m (wpAny_bind (W.Looks.here (s:={ s with toks:=s.toks+1 }) (W.looks_clsIn X q) ?_))))));rw[j];refine wpAny_pure (a:=some dx) (wpAny_bind (wpAny_pure (wpAny_bind ?_)));refine wpAny_nsSet1 (s:={ s with toks:=s.toks+1 }) I.ns λh' c d=>?_
 obtain⟨G,n,z,g,l,e⟩:=c.count (PySem.Within.cons name v o);refine wpAny_bind (wpAny_lookBehind g (by rw[l];exact pastItsLine_dict (le_trans e (by rw[length_cons];omega))) ?_);exact wpAny_pure (h _ ⟨(d.2 _ (Ne.symm I.ne)).trans I.obj,c,I.ne⟩ d)
theorem o'D(X:K.In s.heap)(c:W.makesIn K C=true)(a:W.findIn K (.ref C) "__init__"=some (some (.ref f)))(b:W.typeIn K (.ref f)=some (.type "function"))(h:codeAny (model prog w) (A.under (.builtin "type.__call__" ⟨.ref C::vs,kw⟩)) (.call (.ref f) ⟨.ref (s.heap.objs.size+1)::vs,kw⟩) (W.InitBack (s.heap.objs.size+1) R)
   { s with heap:=(s.heap.push W.emptyDict).push (W.instObj C s.heap.objs.size) }):
  codeAny (model prog w) A (.call (.ref C) ⟨vs,kw⟩) R s:=by
 obtain⟨e,g,d,t,os⟩:=s;exact W.make_core (W.makes_of X c) (W.looks_findIn X a) (λself=>W.bind_fn X self b) (.inl rfl) h
end
def adI(f:Str)(v:V):List (Str×V)->List (Str×V)
 |[]=>[(f,v)]
 |(g,x)::r=>if g=f then (g,v)::r else (g,x)::adI f v r
theorem e't(f g:Str)(v:V):∀fs:List (Str×V),(adI f v fs).lookup g=if g=f then some v else fs.lookup g
 |[]=>by
  show List.lookup g [(f,v)]=_;by_cases h:g=f
  .have hb:(g == f)=true:=beq_iff_eq.mpr h;simp only[List.lookup,hb,if_pos h]
  .have hb:(g == f)=false:=beq_eq_false_iff_ne.mpr h;simp only[List.lookup,hb,if_neg h]
 |(k,x)::r=>by
  have b:=e't f g v r;rw[show adI f v ((k,x)::r)=(if k=f then (k,v)::r else (k,x)::adI f v r) from rfl];by_cases a:k=f
  .rw[if_pos a];by_cases h:g=k
   .have hb:(g == k)=true:=beq_iff_eq.mpr h;simp only[List.lookup,hb,if_pos (h.trans a)]
   .have hb:(g == k)=false:=beq_eq_false_iff_ne.mpr h;simp only[List.lookup,hb,if_neg (λe:g=f=>h (e.trans a.symm))]
  .rw[if_neg a];by_cases h:g=k
   .have hb:(g == k)=true:=beq_iff_eq.mpr h;simp only[List.lookup,hb,if_neg (λe:g=f=>a (h.symm.trans e))]
   .have hb:(g == k)=false:=beq_eq_false_iff_ne.mpr h;simp only[List.lookup,hb];exact b
theorem d'z(f:Str)(v:V):∀fs:List (Str×V),f∈(adI f v fs).map (·.1)/\∀g,g∈fs.map (·.1)->g∈(adI f v fs).map (·.1)
 |[]=>⟨by simp[adI],λg h=>by simp at h⟩
 |(k,x)::r=>by
  obtain⟨b,c⟩:=d'z f v r;rw[show adI f v ((k,x)::r)=(if k=f then (k,v)::r else (k,x)::adI f v r) from rfl];by_cases a:k=f
  .rw[if_pos a];subst a;exact⟨by simp,λg h=>by simpa using h⟩
  .rw[if_neg a];refine⟨?_,λg h=>?_⟩
   .rw[map_cons];exact mem_cons_of_mem _ b
   .rw[map_cons] at h ⊢;rcases mem_cons.mp h with e |e
    .exact mem_cons.mpr (.inl e)
    .exact mem_cons_of_mem _ (c g e)
theorem e'u(f:Str)(v:V):∀fs:List (Str×V),(adI f v fs).length<=fs.length+1
 |[]=>by simp[adI]
 |(k,x)::r=>by
  have b:=e'u f v r;rw[show adI f v ((k,x)::r)=(if k=f then (k,v)::r else (k,x)::adI f v r) from rfl];by_cases a:k=f
  .rw[if_pos a,length_cons,length_cons];omega
  .rw[if_neg a,length_cons,length_cons];omega
theorem RelO.some_of(r:RelO (some v) o):∃u,o=some u/\RelV v u:=by
 cases o with
 |none=>exact (show False from r).elim
 |some u=>exact⟨u,rfl,r⟩
theorem RelO.none_of(r:RelO none o):o=none:=by
 cases o with
 |none=>rfl
 |some u=>exact (show False from r).elim
theorem m'a(r:RelV v u):W.handedIn u=true:=by
 cases v with
 |non=>cases (show u=Value.none from r);rfl
 |bl b=>cases (show u=Value.bool b from r);rfl
 |int i=>obtain⟨t,e⟩:=(show ∃t,u=Value.int i t from r);cases e;rfl
 |str x=>obtain⟨t,e⟩:=(show ∃t,u=Value.str x t from r);cases e;rfl
 |byt b=>obtain⟨t,e⟩:=(show ∃t,u=Value.bytes b t from r);cases e;rfl
 |flt b=>obtain⟨t,e⟩:=(show ∃t,u=Value.float b t from r);cases e;rfl
 |ref a=>cases (show u=Value.ref a from r);rfl
 |ty n=>cases (show u=Value.type n from r);rfl
section
variable{P:Program}{w:World}{H H':Hp}{h h':Heap}{a C dx:Addr}{fs fs':List (Str×V)}
theorem r'S(hok:HOk P w H h)(e:H a=some (.ins C dx fs)):∃b,ObjM h a dx C b/\(∀f,RelO (fs.lookup f) (b f))/\PySem.Within b (fs.map (·.1))/\fs.length<=1000/\H dx=some (.own a):=by
 obtain⟨d,z,ne,c,b,n,r,q⟩:=(show ObjOk P w H h a (.ins C dx fs) from hok a _ e);exact⟨b,⟨c,n,ne⟩,r,q,z,d⟩
end
structure Cls(K:W.Frag)(C:Addr):Prop where
 pg:W.plainGet K C Str.empty=true
 hd:W.hasDictIn K C=true
 po:W.plainOver K C=true
 sa:W.findIn K (.ref C) "__setattr__"=some (some (.builtin "object.__setattr__"))
theorem Cls.get{K:W.Frag}{C:Addr}(c:Cls K C)(f:Str):W.plainGet K C f=true:=c.pg
def NoAttr(K:W.Frag)(C:Addr)(f:Str):Prop:=W.findIn K (.ref C) f=some none
theorem NoAttr.taker{K:W.Frag}{C:Addr}{f:Str}(n:NoAttr K C f):W.takerIn K C f=some none:=by
 unfold W.takerIn;rw[show W.findIn K (.ref C) f=some none from n];rfl
structure aiV(K:W.Frag)(C:Addr)(m:Str)(f:Addr):Prop where
 at_:W.findIn K (.ref C) m=some (some (.ref f))
 fn:W.isFn K (.ref f)=true
 kp:W.keepIn K (.ref f)=true
section
variable{X:Cx}{pins:List (Addr×Obj)}{σ:St}{H:Hp}{s:Shared}{a C dx:Addr}{fs:List (Str×V)}{f:Str}{v:V}{A:Around}{E:Value->Shared->Prop}
theorem k'Z{Q:Unit->Shared->Prop}(I:Inv X pins σ H s)(e:H a=some (.ins C dx fs))(c:Cls X.K C)(n:NoAttr X.K C f)(L:fs.length<1000)(G:RelV y u)(h:∀s',Inv X pins σ (upd H a (.ins C dx (adI f y fs))) s'->Q () s'):wpAny (model X.prog X.w) A (setAttr (.ref a) f u) Q E s:=by
 obtain⟨l,O,r,j,_,m⟩:=r'S I.hok e;have p:(fs.map (·.1)).length<=sizeLine:=by rw[length_map,sizeLine_eq];omega
 refine r'R I.kIn O c.sa c.po n.taker c.hd j p λB d sb=>h _ ?_
 have hd:∃o,B.get? dx=some o:=let ⟨o,_,_,e',_⟩:=d.ns;⟨o,e'⟩
 refine I.write (x:=a) (e:=dx) (by rw[e];exact True.intro) (.inr m) (λb q J z=>(sb.2 b J).trans z) hd ?_;refine⟨by rw[a'e O.ne];exact m,?_,O.ne,d.obj,_,d.ns,λg=>?_,λg D=>?_⟩
 .have:=e'u f y fs;omega
 .show RelO ((adI f y fs).lookup g) (if g=f then some u else l g);rw[e't];by_cases q:g=f
  .rw[if_pos q,if_pos q];exact G
  .rw[if_neg q,if_neg q];exact r g
 .by_cases q:g=f
  .rw[q];exact (d'z f y fs).1
  .refine (d'z f y fs).2 g (j g λz=>D ?_);show (if g=f then some u else l g)=none;rw[if_neg q];exact z
theorem Inv.made(I:Inv X pins σ H s):Inv X pins σ (upd (upd H s.heap.objs.size (.own (s.heap.objs.size+1))) (s.heap.objs.size+1) (.ins C s.heap.objs.size []))
  { s with heap:=(s.heap.push W.emptyDict).push (W.instObj C s.heap.objs.size) }:=by
 have c:(s.heap.push W.emptyDict).get? s.heap.objs.size=some W.emptyDict:=Heap.get?_push_size s.heap rfl;have d:((s.heap.push W.emptyDict).push (W.instObj C s.heap.objs.size)).get? (s.heap.objs.size+1)=some (W.instObj C s.heap.objs.size):=by
  have:=Heap.get?_push_size (s.heap.push W.emptyDict) (o:=W.instObj C s.heap.objs.size) rfl;rwa[Heap.size_push] at this
 have j:(s.heap.push W.emptyDict).Ns s.heap.objs.size (λ_=>none):=⟨W.emptyDict,#[],_,c,rfl,(λe g=>absurd g (by simp)),λ_=>rfl⟩
 have l:=I.laid (a:=s.heap.objs.size) (o:=.own (s.heap.objs.size+1)) (h':=s.heap.push W.emptyDict) (t':=s.toks) (λb u q=>Heap.get?_push_of_some _ q) (le_refl _) ⟨_,c⟩;refine l.laid (a:=s.heap.objs.size+1) (o:=.ins C s.heap.objs.size []) (t':=s.toks) (λb u q=>Heap.get?_push_of_some _ q) (Nat.le_of_eq (Heap.size_push _ _)) ?_;have ne:s.heap.objs.size≠s.heap.objs.size+1:=ne_of_lt (Nat.lt_succ_self _);refine⟨by rw[a'e ne,a'g],zero_le _,ne,d,λ_=>none,(Heap.Ns1.of_empty j).at λo q=>Heap.get?_push_of_some _ q,λ_=>True.intro,λy h=>absurd rfl h⟩
theorem r'T(c:attributeBase e f env (eval e env)=eval e env)(h:wpAny (model prog w) A (eval e env) (λo b=>wpAny (model prog w) A (getAttr o f true) Q E b) E s):wpAny (model prog w) A (eval (.Attribute e f pos) env) Q E s:=
 Attribute_any_ h (by rw[arm_eval_Attribute,c])
end
def afr(K:W.Frag)(g e:TE)(f:Str):TS:=λD j H=>e j H λy d=>g j d λx c=>∃a C b fs,x=.ref a/\c a=some (.ins C b fs)/\Cls K C/\NoAttr K C f/\fs.length<1000/\
 D.nx j (upd c a (.ins C b (adI f y fs)))
section
variable{X:Cx}{o e value:Expr}{f:Str}{pos pos' tpos:Pos}{ta tv:TE}
theorem e'Z(d:PE X o ta)(g:PE X value tv)(hs:swapsWith value (some (.Attribute o f pos')) pos.line X.env=pure false):PS X (.Assign [.Attribute o f pos'] value pos) (afr X.K ta tv f):=by
 intro pins s j H D I h;refine plainObj_wpAny_Assign_Attribute (thn (g pins s j H _ I h) λu m ⟨y,H1,I1,ry,q⟩=>thn (d pins m j H1 _ I1 q) λov r ⟨x,H2,I2,rx,a,C,dx,fs,ex,ea,c,n,l,q2⟩=>?_) hs;subst ex;obtain rfl:ov=Value.ref a:=rx;exact k'Z I2 ea c n l ry λp b=>⟨j,_,b,q2⟩
end
structure Room(k:Nat)(A:Around):Prop where
 hd:A.handled=none
 dp:A.depth+3*k+5<recursionLimit
 un:A.units+16*k+200<cLine
theorem Room.mono(r:Room k A)(h:j<=k):Room j A:=⟨r.hd,by have:=r.dp;omega,by have:=r.un;omega⟩
theorem Room.deeper(r:Room (k+1) A)(env:Env):Room k (A.deeper env):=
 ⟨r.hd,by have:=r.dp;show A.depth+1+3*k+5<_;omega,by have:=r.un;show A.units+3+16*k+200<_;omega⟩
theorem l'a{A:Around}{C:Addr}{us:List Value}{a:List (Str×Value)}:(A.under (.builtin "type.__call__" ⟨.ref C::us,a⟩)).depth=A.depth+1:=by
 first |rfl |simp[Around.under,Code.weight,Code.isCreation,Code.isGuard,Code.isCaller,Code.frames,Code.isFrame,guardIds]
theorem l'b{A:Around}{C:Addr}{us:List Value}{a:List (Str×Value)}:(A.under (.builtin "type.__call__" ⟨.ref C::us,a⟩)).units=A.units+1:=by
 first |rfl |simp[Around.under,Code.cUnits,Code.frames,Code.isFrame]
theorem Room.make(r:Room (k+1) A)(C:Addr)(us:List Value)(a:List (Str×Value)):Room k (A.under (.builtin "type.__call__" ⟨.ref C::us,a⟩)):=
 ⟨r.hd,by have:=r.dp;rw[l'a];omega,by have:=r.un;rw[l'b];omega⟩
theorem Room.depth(r:Room k A):A.depth<recursionLimit:=by have:=r.dp;omega
theorem Room.units(r:Room k A):A.units+64<cLine:=by have:=r.un;omega
def aeM:TA:=λ_ H Q=>Q [] H
def adJ(b:TE)(tr:TA):TA:=λj H Q=>b j H λx a=>tr j a λc d=>Q (x::c) d
section
variable{X:Cx}{e:Expr}{es:List Expr}{te:TE}{t:TA}{pos:Pos}
theorem b'J:PA X [] aeM:=λ_ _ _ _ H Q I h=>Calls.spliced_nil ⟨[],H,I,.nil,h⟩
theorem b's(a:PE X e te)(c:PA X es t)(hs:starEach (e::es) X.env=(false,eval e X.env)::starEach es X.env:=by rfl):PA X (e::es) (adJ te t):=by
 intro pos pins s j H Q I h;rw[hs];show wpAny _ _ (spliced ((false,eval e X.env)::backTo pos (starEach es X.env))) _ _ s;refine Calls.spliced_cons (thn (a pins s j H _ I h) λu d ⟨x,H1,I1,r1,q1⟩=>?_);exact thn (c pos pins d j H1 _ I1 q1) λus f ⟨b,H2,I2,r2,q2⟩=>⟨x::b,H2,I2,.cons r1 r2,q2⟩
def aiW(t:TA):TE:=λj H Q=>t j H λb a=>b.length<=sizeLine/\∀p,a p=none->Q (.ref p) (upd a p (.tup b))
def aiX(t:TA):TE:=λj H Q=>t j H λb a=>b.length<=sizeLine/\∀p,a p=none->Q (.ref p) (upd a p (.lst b))
theorem u'm{x1}(h:PA X es t):PE X (.Tuple es x1 pos) (aiW t):=by
 intro pins s j H Q I f;refine wpAny_Tuple_spliced (thn (h pos pins s j H _ I f) λus a ⟨d,H1,I1,r,z,q⟩=>⟨by rw[<- r.length];exact z,?_⟩);have c:H1 a.heap.objs.size=none:=I1.hok.fresh (le_refl _);refine⟨.ref a.heap.objs.size,upd H1 a.heap.objs.size (.tup d),I1.laid (t':=a.toks) (λb u e=>Heap.get?_push_of_some _ e) (le_refl _) ?_,rfl,q _ c⟩;exact⟨z,us,r,⟨_,Heap.get?_push_size _ rfl,rfl,_,rfl⟩⟩
theorem u'n(h:PA X es t):PE X (.List es pos) (aiX t):=by
 intro pins s j H Q I f;refine wpAny_List_spliced (thn (h pos pins s j H _ I f) λus a ⟨d,H1,I1,r,z,q⟩=>⟨by rw[<- r.length];exact z,?_⟩);have c:H1 a.heap.objs.size=none:=I1.hok.fresh (le_refl _);refine⟨.ref a.heap.objs.size,upd H1 a.heap.objs.size (.lst d),I1.laid (t':=a.toks) (λb u e=>Heap.get?_push_of_some _ e) (le_refl _) ?_,rfl,q _ c⟩;exact⟨z,us,0,r,Heap.get?_push_size _ rfl⟩
end
abbrev Sp:=List V->Hp->VK->XK->Prop
abbrev CXT:=List Env->Hp->Shared->XK->Value->Shared->Prop
structure Env0(P:Program)(w:World)(K:W.Frag)(mg:Str->Option Value)(base:Heap)(A:Around)(outer:List Env)(s:Shared)(H:Hp):Prop where
 frames:A.frames=some outer
 mod:Mod K mg base
 bs:∀b o,base.get? b=some o->s.heap.get? b=some o/\H b=none
 bsz:base.objs.size<=s.heap.objs.size
 funs:s.heap.FunFrames base outer
 frf:∀b∈frs outer,H b=none
 hok:HOk P w H s.heap
 bare:AllBare s.gens
def CE(outer:List Env)(P:Program)(w:World)(H:Hp)(s:Shared)(Q:VK)(u:Value)(s':Shared):Prop:=
 ∃v a,s'.os=s.os/\AllBare s'.gens/\Un (frs outer) [] H a s.heap s'.heap/\HOk P w a s'.heap/\RelV v u/\Q v a
def CR(CX:CXT)(outer:List Env)(P:Program)(w:World)(H:Hp)(s:Shared)(Q:VK)(E:XK)(r:Result)(s':Shared):Prop:=
 match r with
 |.ok (.ret u)=>CE outer P w H s Q u s'
 |.ok _=>False
 |.error e=>CX outer H s E e s'
structure FnOk(P:Program)(w:World)(K:W.Frag)(mg:Str->Option Value)(base:Heap)(CX:CXT)(k:Nat)(f:Addr)(fd:FuncData)(ps:List Str)(sp:Sp):Prop where
 len:∀vs H Q E,sp vs H Q E->vs.length=ps.length
 run:∀(A:Around)(outer:List Env)(s:Shared)(H:Hp)(args:Args)(us:List Value)(vs:List V)(Q:VK)(E:XK),Room k A->Env0 P w K mg base A outer s H->BindsTo s fd args (ps.zip us)->Vals vs us->sp vs H Q E->
  codeAny (model P w) A (.call (.ref f) args) (CR CX outer P w H s Q E) s
theorem FnOk.mono{P:Program}{w:World}{K:W.Frag}{mg:Str->Option Value}{base:Heap}{CX:CXT}{j k:Nat}{f:Addr}{a:FuncData}{b:List Str}{sp:Sp}(F:FnOk P w K mg base CX j f a b sp)(h:j<=k):
  FnOk P w K mg base CX k f a b sp:=⟨F.len,λA outer s H args us vs Q E c=>F.run A outer s H args us vs Q E (c.mono h)⟩
theorem FnOk.imp{P:Program}{w:World}{K:W.Frag}{mg:Str->Option Value}{base:Heap}{CX:CXT}{k:Nat}{f:Addr}{b:FuncData}{c:List Str}{sp a:Sp}(F:FnOk P w K mg base CX k f b c sp)(h:∀vs H Q E,a vs H Q E->sp vs H Q E):FnOk P w K mg base CX k f b c a:=
 ⟨λvs H Q E q=>F.len vs H Q E (h _ _ _ _ q),λA outer s H args us vs Q E g d l e j=>F.run A outer s H args us vs Q E g d l e (h _ _ _ _ j)⟩
theorem Env0.make{P:Program}{w:World}{K:W.Frag}{mg:Str->Option Value}{base:Heap}{A:Around}{outer:List Env}{s:Shared}{H:Hp}(e:Env0 P w K mg base A outer s H)(C:Addr)(us:List Value)(a:List (Str×Value)):
  Env0 P w K mg base (A.under (.builtin "type.__call__" ⟨.ref C::us,a⟩)) outer s H:=⟨by first |exact e.frames |(simpa [Around.under,Code.envs,Code.isFrame,pushEnvs] using e.frames),e.mod,e.bs,e.bsz,e.funs,e.frf,e.hok,e.bare⟩
section
variable{X:Cx}{pins:List (Addr×Obj)}{σ:St}{H:Hp}{s s':Shared}
theorem Inv.env0(I:Inv X pins σ H s):Env0 X.prog X.w X.K X.mg X.base X.A X.stack s H:=
 ⟨I.ok.frames,I.ok.mod,I.bs,le_trans I.ok.bsz I.sz,I.stack,I.stkFree,I.hok,I.bare⟩
theorem Inv.after(I:Inv X pins σ H s)(h:CE X.stack X.prog X.w H s Q u s'):EP X pins σ Q u s':=by
 obtain⟨v,c,os,bare,un,hok,r,q⟩:=h;obtain⟨e,g,d,t,a⟩:=s';obtain rfl:a=s.os:=os;exact⟨v,c,I.call (h':=e) (g':=g) (d':=d) (t':=t) (ch:=[]) un hok bare (λb z=>absurd z (by simp)),r,q⟩
end
def ag1(sp:Sp)(a:List V)(E:XK)(t:TA):TE:=λj H Q=>t j H λvs b=>sp (vs++a) b Q E
def Binds(K:W.Frag)(c:FuncData)(a:List Str)(b:List Value):Prop:=
 ∀(s:Shared)(us:List Value),K.In s.heap->(us++b).length=a.length->BindsTo s c ⟨us,[]⟩ (a.zip (us++b))
theorem Binds.all{K:W.Frag}{c:FuncData}{a:List Str}(h:∀us:List Value,us.length=a.length->bindArgs c ⟨us,[]⟩=pure (a.zip us)):Binds K c a []:=λs us _ b=>by
 rw[append_nil] at b ⊢;exact .of_eq (h us b)
def adT(CX:CXT)(X:Cx)(E:XK):Prop:=∀(pins:List (Addr×Obj))(j:St)(H:Hp)(s:Shared)(e:Value)(a:Shared),Inv X pins j H s->CX X.stack H s E e a->X.xe e a
section
variable{X:Cx}{CX:CXT}{k:Nat}{f C:Addr}{fd:FuncData}{ps:List Str}{sp:Sp}{dvs:List V}{ds:List Value}{E:XK}{x m:Str}{p pos apos:Pos}{e o:Expr}{es:List Expr}{ta:TE}{t:TA}
theorem u'o(F:FnOk X.prog X.w X.K X.mg X.base CX k f fd ps sp)(n:Room k X.A)(d:Binds X.K fd ps ds)(hd:Vals dvs ds)(c:adT CX X E)(I:Inv X pins j H s)(r:Vals vs us)(h:sp (vs++dvs) H Q E):wpAny (model X.prog X.w) X.A (call (.ref f) us) (EP X pins j Q) X.xe s:=by
 have r2:Vals (vs++dvs) (us++ds):=r.append hd;have b:(us++ds).length=ps.length:=by rw[<- r2.length];exact F.len _ _ _ _ h
 refine wpAny_call (codeAny_mono (F.run X.A X.stack s H ⟨us,[]⟩ (us++ds) (vs++dvs) Q E n I.env0 (d s us I.kIn b) r2 h) λr g a=>?_);cases r with
 |error e=>exact c pins j H s e g I a
 |ok l=>
  cases l with
  |ret u=>exact I.after a
  |next=>exact False.elim a
  |brk=>exact False.elim a
  |cont=>exact False.elim a
theorem r'U(F:FnOk X.prog X.w X.K X.mg X.base CX k f fd ps sp)(n:Room k X.A)(l:Gl X x)(g:X.mg x=some (.ref f))(d:W.keepIn X.K (.ref f)=true)(u:Binds X.K fd ps ds)(hd:Vals dvs ds)(b:adT CX X E)(c:PA X (e::es) t)(a:(x == ("__debug__":Str))=false:=by decide)(he:starEach (e::es) X.env=(false,eval e X.env)::starEach es X.env:=by rfl)(hpl:(backTo pos (starEach es X.env)).any (·.1)=false:=by rfl):
  PE X (.Call (.Name x p) (e::es) [] pos) (ag1 sp dvs E t):=by
 intro pins s j H Q I h;refine wpAny_Call_Name_kw (b'r I l g ?_ a);refine W.callWith_K (h₀:=X.base) I.ok.mod.kin d (thn (c pos pins s j H _ I h) λus v ⟨vs,H1,I1,r,q⟩=>⟨I1.kIn,?_⟩) he hpl;exact u'o F n u hd b I1 r q
structure Mk(K:W.Frag)(C f:Addr):Prop where
 makes:W.makesIn K C=true
 init:W.findIn K (.ref C) "__init__"=some (some (.ref f))
 fn:W.isFn K (.ref f)=true
 kp:W.keepIn K (.ref C)=true
end
def PK(X:Cx)(a:List Keyword)(t:TA):Prop:=
 ∀(pos:Pos)(pins:List (Addr×Obj))(s:Shared)(j:St)(H:Hp)(Q:List V->Hp->Prop),Inv X pins j H s->t j H Q->wpAny (model X.prog X.w) X.A (evalAll ((backToKw pos (keywordEach a X.env)).map (·.2))) (AP X pins j Q) X.xe s
section
variable{X:Cx}{CX:CXT}{k:Nat}{f C:Addr}{fd:FuncData}{ps ks:List Str}{sp:Sp}{E:XK}{x m:Str}{p pos apos kpos:Pos}{e o:Expr}{es:List Expr}{kws:List Keyword}{te ta:TE}{t tk:TA}{nm:Option Str}
theorem u'p:PK X [] aeM:=λ_ _ _ _ H Q I h=>wpAny_evalAll_nil ⟨[],H,I,.nil,h⟩
theorem r'V(a:PE X e te)(d:PK X kws t):PK X (⟨nm,e,kpos⟩::kws) (adJ te t):=by
 intro pos pins s j H Q I h;show wpAny _ _ (evalAll ((do let v <- eval e X.env;standAt pos;pure v)::(backToKw pos (keywordEach kws X.env)).map (·.2))) _ _ s;refine wpAny_evalAll_cons (wpAny_bind (thn (a pins s j H _ I h) λu b ⟨x,H1,I1,r1,q1⟩=>wpAny_bind (wpAny_standAt (wpAny_pure ?_))));exact thn (d pos pins b j H1 _ I1 q1) λus g ⟨c,H2,I2,r2,q2⟩=>⟨x::c,H2,I2,.cons r1 r2,q2⟩
variable{g:List Value->List Value->List Value}{gV:List V->List V->List V}
end
structure aci(N P:List Str)(sc:Scope):Prop where
 kind:sc.kind=.function
 co:sc.isCoroutine=false
 gen:sc.isGenerator=false
 nd:N.Nodup
 pre:N.take P.length=P
 par:∀x∈P,sc.names.lookup x=some .local\/sc.names.lookup x=some .cell
 nofree:∀y∈sc.names,y.2≠.free
theorem g's{kindOf:Str->Option NameKind}{x:Str}:∀{binds:List (Str×Value)}{m:Str->Option Value},(∀v,(x,v) ∉ binds)->bindL kindOf binds m x=m x
 |[],_,_=>rfl
 |(n,v)::r,m,h=>by
  unfold bindL;rw[g's λw a=>h w (mem_cons_of_mem _ a)];split
  .have:x≠n:=by rintro rfl;exact h v List.mem_cons_self
   simp[this]
  .rfl
theorem g't{kindOf:Str->Option NameKind}{x:Str}:∀{binds:List (Str×Value)}{m:Str->Option Value},(∀v,(x,v) ∉ binds)->bindC kindOf binds m x=m x
 |[],_,_=>rfl
 |(n,v)::r,m,h=>by
  unfold bindC;rw[g't λw a=>h w (mem_cons_of_mem _ a)];split
  .rfl
  .have:x≠n:=by rintro rfl;exact h v List.mem_cons_self
   simp[this]
theorem g'u{kindOf:Str->Option NameKind}{v:Value}:∀{P:List Str}{vs:List Value}{i:Nat}{m:Str->Option Value},P.Nodup->P[i]?=some x->vs[i]?=some v->kindOf x=some .local->
  bindL kindOf (P.zip vs) m x=some v
 |[],_,_,_,_,h,_,_=>by simp at h
 |_::_,[],_,_,_,_,h,_=>by simp at h
 |p::P,w::vs,0,m,nd,h1,h2,hk=>by
  simp at h1 h2;subst h1;subst h2;show bindL kindOf ((p,w)::P.zip vs) m p=_;unfold bindL;rw[g's λv a=>(nodup_cons.mp nd).1 (of_mem_zip a).1,if_pos hk];simp
 |p::P,w::vs,i + 1,m,nd,h1,h2,hk=>by
  show bindL kindOf ((p,w)::P.zip vs) m x=_;unfold bindL;exact g'u (i:=i) (nodup_cons.mp nd).2 (by simpa using h1) (by simpa using h2) hk
theorem g'v{kindOf:Str->Option NameKind}{v:Value}:∀{P:List Str}{vs:List Value}{i:Nat}{m:Str->Option Value},P.Nodup->P[i]?=some x->vs[i]?=some v->kindOf x≠some .local->
  bindC kindOf (P.zip vs) m x=some v
 |[],_,_,_,_,h,_,_=>by simp at h
 |_::_,[],_,_,_,_,h,_=>by simp at h
 |p::P,w::vs,0,m,nd,h1,h2,hk=>by
  simp at h1 h2;subst h1;subst h2;show bindC kindOf ((p,w)::P.zip vs) m p=_;unfold bindC;rw[g't λv a=>(nodup_cons.mp nd).1 (of_mem_zip a).1,if_neg hk];simp
 |p::P,w::vs,i + 1,m,nd,h1,h2,hk=>by
  show bindC kindOf ((p,w)::P.zip vs) m x=_;unfold bindC;exact g'v (i:=i) (nodup_cons.mp nd).2 (by simpa using h1) (by simpa using h2) hk
def start(N:List Str)(vs:List V):St:=vs.map some++List.replicate (N.length - vs.length) none
def aeO(CX:CXT)(P:Program)(w:World)(K:W.Frag)(mg:Str->Option Value)(base:Heap)(N:List Str)(b:Str)(a:Scope)(f:Addr)(d:Value)(A:Around)(outer:List Env)(s:Shared)(H:Hp)(E:XK):Cx where
 prog:=P
 w:=w
 K:=K
 mg:=mg
 base:=base
 A:=A.deeper (envOfC b a s.heap.objs.size f d)
 N:=N
 s₀:=s
 H₀:=H
 env:=envOfC b a s.heap.objs.size f d
 outer:=outer
 stack:=envOfC b a s.heap.objs.size f d::outer
 ex:=[]
 calm:=true
 fn:=λ_=>true
 pn:=[]
 xe:=λe h=>wpAny (model P w) (A.deeper (envOfC b a s.heap.objs.size f d)) (leaving (envOfC b a s.heap.objs.size f d) e) (λ_ c=>CX outer H s E e c) (λg c=>CX outer H s E g c) h
theorem h'r{sc:Scope}{n:Nat}{x:Str}(h:sc.names.lookup x=some .cell):∃c,(cellsFrom n sc.names []).lookup x=some c:=by
 have q:=W.cellsFrom_some sc.names n [] (.inl h);exact isSome_iff_exists.mp q
theorem m'b{CX:CXT}{P:Program}{w:World}{K:W.Frag}{mg:Str->Option Value}{base:Heap}{N o:List Str}{g:Str}{d:Scope}{f:Addr}{I:Value}{A:Around}{outer:List Env}{s M:Shared}{H:Hp}{E:XK}{us:List Value}{vs:List V}(S:aci N o d)(hd:A.handled=none)(l:Env0 P w K mg base A outer s H)(hl:vs.length=o.length)(r:Vals vs us)(x:InCallC s s.heap.objs.size (bindL (envOfC g d s.heap.objs.size f I).kindOf (o.zip us) λ_=>none) (cellsFrom (s.heap.objs.size+1) d.names []) (bindC (envOfC g d s.heap.objs.size f I).kindOf (o.zip us) λ_=>none) M):
  Inv (aeO CX P w K mg base N g d f I A outer s H E) [] (start N vs) H M:=by
 have Y:o.length<=N.length:=by have:=congrArg List.length S.pre;rw[length_take] at this;omega
 obtain⟨G,tk,rfl,L⟩:=x.done;have B:∀b:Addr,b ∉ (aeO CX P w K mg base N g d f I A outer s H E).ex:=λb z=>absurd (show b∈([]:List Addr) from z) (by simp)
 refine⟨⟨l.mod,S.kind,rfl,rfl,le_refl _,λy z c G j=>?_,λy m=>?_,λy c _ h=>?_,λ_=>hd,Around.frames_deeper l.frames,.inr ⟨rfl,rfl⟩,λb z=>absurd z (B b),l.bs,l.bsz,λb _ _=>B b,λb z=>absurd z (B b),l.funs,l.frf⟩,
  rfl,l.bare,Un.kept L,⟨_,x.toInCall.ns,λi y v G j h3=>?_⟩,λy c h=>⟨_,x.cell y c h⟩,l.hok.fresh (le_refl _),λy c h=>?_,λp C=>absurd (show p∈([]:List (Addr×Obj)) from C) (by simp),l.hok.kept L,?_⟩
 .exact name_of_addr x.apart (PySem.mem_of_lookup G) (PySem.mem_of_lookup j)
 .have m:d.names.lookup y=some .cell\/d.names.lookup y=some .free:=m;rcases m with m |m
  .exact h'r m
  .exact absurd rfl (S.nofree _ (PySem.mem_of_lookup m))
 .exact Nat.le_of_lt (x.above y c (PySem.mem_of_lookup h))
 .have J:i<vs.length:=by
   unfold start at j;by_cases J:i<vs.length
   .exact J
   .rw[getElem?_append_right (by simpa using J)] at j;rw[List.getElem?_replicate] at j;split at j<;>cases j
  have Q:vs[i]?=some v:=by
   unfold start at j;rw[getElem?_append_left (by simpa using J),getElem?_map] at j;cases e:vs[i]? with
   |none=>rw[e] at j;cases j
   |some a=>rw[e] at j;cases j;rfl
  obtain⟨u,O,U⟩:=r.get Q;have C:o[i]?=some y:=by
   rw[<- S.pre,List.getElem?_take_of_lt (by omega)];exact G
  have D:o.Nodup:=by rw[<- S.pre];exact S.nd.sublist (List.take_sublist _ _)
  refine⟨u,U,?_⟩;rcases S.par y (mem_of_getElem? C) with k |k
  .exact .inl ⟨k,g'u D C O k⟩
  .obtain⟨c,e⟩:=h'r (n:=s.heap.objs.size+1) k;refine .inr ⟨.inl k,c,e,?_⟩;have q:=x.cell y c e;rw[g'v D C O (by show d.names.lookup y≠_;rw[k];decide)] at q;exact q
 .exact l.hok.fresh (Nat.le_of_lt (x.above y c (PySem.mem_of_lookup h)))
 .unfold start;show _=N.length;rw[length_append,length_map,length_replicate];omega
theorem q'q{CX:CXT}{P:Program}{w:World}{K:W.Frag}{mg:Str->Option Value}{base:Heap}{k:Nat}{f:Addr}{j c:Str}{d:Arguments}{g:List Stmt}{a:Scope}{dV kV doc pm cdv ct oc:Value}{an od:Option Addr}{osl:Array (Option Value)}{N D:List Str}{sp:Sp}(lk:K.lookup f=some ⟨oc,od,.func (W.fnOf j c d g a dV kV doc pm an cdv ct),osl⟩)(M:W.codeIn K cdv c=true)(S:aci N D a)(len:∀vs H Q E,sp vs H Q E->vs.length=D.length)(m:∀(A:Around)(outer:List Env)(s:Shared)(H:Hp)(vs:List V)(Q:VK)(E:XK),Room k (A.deeper (envOfC c a s.heap.objs.size f cdv))->sp vs H Q E->
   ∃t,PSs (aeO CX P w K mg base N c a f cdv A outer s H E) g t/\t { nx:=λ_ h=>Q .non h,rt:=Q } (start N vs) H):
  FnOk P w K mg base CX (k+1) f (W.fnOf j c d g a dV kV doc pm an cdv ct) D sp:=by
 refine⟨len,λA outer s H args us vs Q E U B hb r z=>?_⟩;have hl:=len _ _ _ _ z;have KX:K.In s.heap:=B.mod.kin.keeps λb o e=>(B.bs b o e).1
 have O:s.heap.NoLimit:=B.mod.nolimit.keeps λb o e=>(B.bs b o e).1
 have l:∀y∈D.zip us,a.names.lookup y.1=some .local\/(a.names.lookup y.1=some .cell/\((cellsFrom (s.heap.objs.size+1) a.names []).lookup y.1).isSome=true):=λ⟨n,v⟩ hy=>by
  rcases S.par n (of_mem_zip hy).1 with q |q
  .exact .inl q
  .exact .inr ⟨q,W.cellsFrom_some _ _ _ (.inl q)⟩
 refine codeAny_call_function U.depth (KX _ _ lk) rfl S.co S.gen rfl (W.codeRec_of KX M) (hb _ _ _ _ ?_);refine wpAny_newFunctionEnv_cells S.kind l λenv he s1 x=>?_
 subst he;refine⟨O.keeps x.toInCall.keep,codeAny_func ?_⟩;obtain⟨t,ht,hq⟩:=m A outer s H vs Q E (U.deeper _) z;have I:Inv (aeO CX P w K mg base N c a f cdv A outer s H E) [] (start N vs) H s1:=m'b S U.hd B hl r x;refine wpAny_mono (ht [] s1 (start N vs) H _ I hq) (λfl Y p=>?_) λe Y p=>p
 have C:∀{G:St}{h:Hp}{v:V}{u:Value},Inv (aeO CX P w K mg base N c a f cdv A outer s H E) [] G h Y->RelV v u->Q v h->CE outer P w H s Q u Y:=
  λ{G h v u} J L q=>⟨v,h,J.os,J.bare,J.base,J.hok,L,q⟩
 cases fl with
 |ret u=>
  obtain⟨v,G,h,J,L,q⟩:=p;exact C J L q
 |next=>
  obtain⟨G,h,J,q⟩:=p;exact C (v:=V.non) (u:=Value.none) J rfl q
 |brk=>
  obtain⟨_,_,_,q⟩:=p;exact False.elim q
 |cont=>
  obtain⟨_,_,_,q⟩:=p;exact False.elim q
section
variable{X:Cx}{x:Str}{p pos:Pos}{e:Expr}{es:List Expr}{t:TA}{id T:String}{r:List V->Hp->VK->Prop}
def tCB(r:List V->Hp->VK->Prop)(t:TA):TE:=λj H Q=>t j H λvs a=>r vs a Q
theorem o'E(m:CallR X (.builtin id) r)(d:Gl X x)(c:X.mg x=none)(f:bootBuiltins x=some (.builtin id))(b:PA X (e::es) t)(g:x≠"__name__":=by decide)(a:(x == ("__debug__":Str))=false:=by decide)(he:starEach (e::es) X.env=(false,eval e X.env)::starEach es X.env:=by rfl)(hpl:(backTo pos (starEach es X.env)).any (·.1)=false:=by rfl):PE X (.Call (.Name x p) (e::es) [] pos) (tCB r t):=by
 intro pins s j H Q I h;refine wpAny_Call_Name_kw (b'o I d c f ?_ g a);exact PyProof.Rows.callWith_builtin1 (thn (b pos pins s j H _ I h) λus l ⟨vs,H1,I1,r1,q1⟩=>m pins l j H1 vs us Q I1 r1 q1) he hpl
theorem b'u(m:CallR X (.type T) r)(d:Gl X x)(c:X.mg x=none)(f:bootBuiltins x=some (.type T))(b:PA X (e::es) t)(g:x≠"__name__":=by decide)(a:(x == ("__debug__":Str))=false:=by decide)(he:starEach (e::es) X.env=(false,eval e X.env)::starEach es X.env:=by rfl)(hpl:(backTo pos (starEach es X.env)).any (·.1)=false:=by rfl):PE X (.Call (.Name x p) (e::es) [] pos) (tCB r t):=by
 intro pins s j H Q I h;refine wpAny_Call_Name_kw (b'o I d c f ?_ g a);exact PyProof.Rows.callWith_type1 (thn (b pos pins s j H _ I h) λus l ⟨vs,H1,I1,r1,q1⟩=>m pins l j H1 vs us Q I1 r1 q1) he hpl
end
section
variable{κ:Type}[DecidableEq κ]
def adS(kvs:List (κ×V))(k:κ):Option V:=(kvs.find? λa=>decide (a.1=k)).map (·.2)
def adK(kvs:List (κ×V))(k:κ)(v:V):List (κ×V):=
 if (kvs.any λa=>decide (a.1=k))=true then kvs.map (λa=>if a.1=k then (a.1,v) else a) else kvs++[(k,v)]
theorem e'y{p:κ×V}{r:List (κ×V)}{k:κ}(e:p.1=k):adS (p::r) k=some p.2:=by simp[adS,find?_cons,e]
theorem e'z{p:κ×V}{r:List (κ×V)}{k:κ}(e:¬ p.1=k):adS (p::r) k=adS r k:=by simp[adS,find?_cons,e]
theorem h's(k:κ):∀kvs:List (κ×V),(kvs.any λa=>decide (a.1=k))=(adS kvs k).isSome
 |[]=>rfl
 |p::r=>by
  rw[any_cons];by_cases e:p.1=k
  .simp only[e'y e,decide_eq_true e,Bool.true_or,Option.isSome_some]
  .rw[e'z e,decide_eq_false e,Bool.false_or];exact h's k r
theorem c'M(kvs:List (κ×V))(k:κ)(v:V):(adK kvs k v).length<=kvs.length+1:=by
 unfold adK;split
 .rw[length_map];omega
 .rw[length_append,length_cons,length_nil];omega
theorem RelO.isSome_eq(r:RelO o u):o.isSome=u.isSome:=by
 cases o with
 |none=>cases u with
  |none=>rfl
  |some _=>exact (show False from r).elim
 |some _=>cases u with
  |none=>exact (show False from r).elim
  |some _=>rfl
theorem RelO.getD(r:RelO o u)(rd:RelV d d'):RelV (o.getD d) (u.getD d'):=by
 cases o with
 |none=>cases u with
  |none=>exact rd
  |some _=>exact (show False from r).elim
 |some _=>cases u with
  |none=>exact (show False from r).elim
  |some _=>exact r
theorem KV.val{kvs:List (κ×V)}{vs:List (κ×Value)}(r:KV kvs vs)(k:κ):RelO (adS kvs k) (valueAt vs k):=by
 unfold KV at r
 induction r with
 |nil=>exact True.intro
 |@cons p q g a h t f=>
  obtain⟨c,d⟩:=h;by_cases e:p.1=k
  .have e':q.1=k:=c.symm.trans e;have b:valueAt (q::a) k=some q.2:=by simp[valueAt,find?_cons,e']
   rw[e'y e,b];exact d
  .have e':¬ q.1=k:=λz=>e (c.trans z)
   have b:valueAt (q::a) k=valueAt a k:=by simp[valueAt,find?_cons,e']
   rw[e'z e,b];exact f
theorem KV.any(r:KV kvs vs)(k:κ):(kvs.any λa=>decide (a.1=k))=vs.any λa=>decide (a.1=k):=by
 unfold KV at r
 induction r with
 |nil=>rfl
 |cons h t b=>rw[any_cons,any_cons,b,h.1]
theorem KV.repl(r:KV kvs vs)(k:κ)(c:RelV y u):
  KV (kvs.map λa=>if a.1=k then (a.1,y) else a) (vs.map λa=>if a.1=k then (a.1,u) else a):=by
 unfold KV at r ⊢
 induction r with
 |nil=>exact .nil
 |@cons p q g j h t f=>
  rw[map_cons,map_cons];refine .cons ?_ f;obtain⟨b,d⟩:=h;by_cases e:p.1=k
  .rw[if_pos e,if_pos (b.symm.trans e)];exact⟨b,c⟩
  .rw[if_neg e,if_neg (λz=>e (b.trans z))];exact⟨b,d⟩
theorem KV.put(r:KV kvs vs)(k:κ)(a:RelV y u):KV (adK kvs k y) (stored vs k u):=by
 unfold adK stored;rw[r.any k];by_cases e:(vs.any λb=>decide (b.1=k))=true
 .rw[if_pos e,if_pos e];exact r.repl k a
 .rw[if_neg e,if_neg e];exact Paired.snoc r ⟨rfl,a⟩
theorem KV.length(r:KV kvs vs):kvs.length=vs.length:=Paired.length r
end
theorem d'g(r:RelV (kV k) u):(acn P w).is k u=true:=by
 cases k with
 |inl i=>obtain⟨t,e⟩:=(show ∃t,u=Value.int i t from r);subst e;exact i'U P w i t
 |inr x=>obtain⟨t,e⟩:=(show ∃t,u=Value.str x t from r);subst e;exact i'V P w x t
theorem g'w:∀{ks:List Key}{us:List Value},Vals (ks.map kV) us->ItemsAre (acn P w) ks us
 |[],_,r=>by rw[List.map_nil] at r;cases r;exact .nil
 |k::ks,_,r=>by
  rw[map_cons] at r;cases r with
  |cons h t=>exact .cons (d'g h) (g'w t)
abbrev KT(H:Hp):List (List Key×V)->List (List Key×Addr×Value)->Prop:=Paired λp q=>p.1=q.1/\H q.2.1=some (.tup (p.1.map kV))/\RelV p.2 q.2.2
theorem KT.val{H:Hp}{kvs:List (List Key×V)}{xs:List (List Key×Addr×Value)}(r:KT H kvs xs)(k:List Key):RelO (adS kvs k) ((atKey xs k).map (·.2)):=by
 induction r with
 |nil=>exact True.intro
 |@cons p q g a h t d=>
  obtain⟨c,_,f⟩:=h;by_cases e:p.1=k
  .have e':q.1=k:=c.symm.trans e;have b:atKey (q::a) k=some q.2:=by simp[atKey,find?_cons,e']
   rw[e'y e,b];exact f
  .have e':¬ q.1=k:=λz=>e (c.trans z)
   have b:atKey (q::a) k=atKey a k:=by simp[atKey,find?_cons,e']
   rw[e'z e,b];exact d
theorem KT.repl(r:KT H kvs xs)(k:List Key)(d:RelV y u):
  KT H (kvs.map λb=>if b.1=k then (b.1,y) else b) (xs.map (putAt k u)):=by
 induction r with
 |nil=>exact .nil
 |@cons p q j l h t g=>
  rw[map_cons,map_cons];refine .cons ?_ g;obtain⟨a,c,f⟩:=h;unfold putAt;by_cases e:p.1=k
  .rw[if_pos e,if_pos (a.symm.trans e)];exact⟨a,c,d⟩
  .rw[if_neg e,if_neg (λz=>e (a.trans z))];exact⟨a,c,f⟩
theorem KT.put{H:Hp}(r:KT H kvs xs)(k:List Key)(d:H b=some (.tup (k.map kV)))(a:RelV y u):
  KT H (adK kvs k y) (storedH xs k b u):=by
 have e:(kvs.any λc=>decide (c.1=k))=(atKey xs k).isSome:=by
  rw[h's,(r.val k).isSome_eq,Option.isSome_map]
 unfold adK storedH;rw[e];by_cases q:(atKey xs k).isSome=true
 .rw[if_pos q,if_pos q];exact r.repl k a
 .rw[if_neg q,if_neg q];exact Paired.snoc r ⟨rfl,d,a⟩
theorem KT.keeps{H a:Hp}(r:KT H kvs xs)(c:∀b ys,H b=some (.tup ys)->a b=some (.tup ys)):KT a kvs xs:=
 Paired.mapP r λ_ _ z=>⟨z.1,c _ _ z.2.1,z.2.2⟩
section
variable{P:Program}{w:World}{H:Hp}{h:Heap}{a:Addr}
theorem q'r(ok:HOk P w H h)(e:Rd H a u):ObjOk P w H h a u:=e.ok ok
theorem b'x(ok:HOk P w H h)(e:Rd H a (.dK kvs)):kvs.length<=sizeLine/\(a == sysModules)=false/\∃vs,KV kvs vs/\h.DictOf (acn P w) a vs:=
 show ObjOk P w H h a (.dK kvs) from q'r ok e
theorem h'a(ok:HOk P w H h)(e:H a=some (.dK kvs)):kvs.length<=sizeLine/\(a == sysModules)=false/\∃vs,KV kvs vs/\h.DictOf (acn P w) a vs:=b'x ok (.inl e)
theorem c'R(ok:HOk P w H h)(e:H a=some (.tup (ks.map kV))):(tupleKind (acn P w)).is h ks a:=by
 obtain⟨_,b,r,o,f,d,n,c⟩:=(show ObjOk P w H h a (.tup (ks.map kV)) from ok a _ e);exact⟨o,b.toArray,n,f,d,c,by simpa using g'w r⟩
theorem d'h(ok:HOk P w H h)(e:Rd H a (.dT kvs)):kvs.length<=sizeLine/\(a == sysModules)=false/\
  ∃xs,KT H kvs xs/\h.DictOfH (tupleKind (acn P w)) a xs:=by
 obtain⟨z,y,xs,r,o,v,j,d,u,s,f,g⟩:=(show ObjOk P w H h a (.dT kvs) from q'r ok e);refine⟨z,y,xs,r,o,v,j,d,u,s,f,λx b=>?_,g⟩;have all:∀{l:List (List Key×V)}{m:List (List Key×Addr×Value)},KT H l m->∀x∈m,(tupleKind (acn P w)).is h x.1 x.2.1:=by
  intro l m q
  induction q with
  |nil=>intro x b;exact nomatch b
  |@cons p q B A c t n=>
   intro x b;rcases mem_cons.mp b with e |b
   .subst e;exact c'R ok (by rw[<- c.1];exact c.2.1)
   .exact n x b
 exact all r x b
theorem w'p(ok:HOk P w H h)(e:H a=some (.dT kvs)):kvs.length<=sizeLine/\(a == sysModules)=false/\
  ∃xs,KT H kvs xs/\h.DictOfH (tupleKind (acn P w)) a xs:=d'h ok (.inl e)
end
def afN(H:Hp)(a:Addr)(y:V)(r:Option V):Prop:=
 (∃c k,Rd H a (.dK c)/\y=kV k/\r=adS c k)\/∃c k b,Rd H a (.dT c)/\y=.ref b/\H b=some (.tup (k.map kV))/\r=adS c k
def DPut(H:Hp)(a:Addr)(y v:V)(d:Hp):Prop:=
 (∃c k,H a=some (.dK c)/\y=kV k/\c.length<sizeLine/\d=upd H a (.dK (adK c k v)))\/
 ∃c k b,H a=some (.dT c)/\y=.ref b/\H b=some (.tup (k.map kV))/\c.length<sizeLine/\d=upd H a (.dT (adK c k v))
theorem DPut.k{H:Hp}{a:Addr}{kvs:List (Key×V)}{k:Key}{v:V}(e:H a=some (.dK kvs))(b:kvs.length<sizeLine):DPut H a (kV k) v (upd H a (.dK (adK kvs k v))):=.inl ⟨kvs,k,e,rfl,b,rfl⟩
section
variable{X:Cx}{pins:List (Addr×Obj)}{σ:St}{H:Hp}{s:Shared}{a:Addr}{y v:V}{u r:Value}{o:Option V}{A:Around}{E:Value->Shared->Prop}
theorem Inv.big(I:Inv X pins σ H s):sysModules<s.heap.objs.size:=by
 have h:mainGlobals<s.heap.objs.size:=(I.mod.glob.keeps I.bk).lt;exact Nat.lt_trans (by decide) h
theorem m'c{Q:Value->Shared->Prop}(J:A.units+1<cLine)(I:Inv X pins σ H s)(g:afN H a y (some v))(B:RelV y u)(h:∀f s',Inv X pins σ H s'->RelV v f->Q f s'):
  wpAny (model X.prog X.w) A (getItem (.ref a) u) Q E s:=by
 rcases g with⟨x,k,e,n,l⟩ |⟨x,k,b,e,n,C,l⟩
 .subst n;obtain⟨z,hd,vs,c,m⟩:=b'x I.hok e;obtain⟨f,j,d⟩:=RelO.some_of (v:=v) (o:=valueAt vs k) (by rw[l];exact c.val k);exact wpAny_getItem_of (d'g B) m.mapOf j (h f _ (I.tok _) d)
 .subst n;cases (show u=Value.ref b from B);obtain⟨z,hd,D,c,m⟩:=d'h I.hok e;obtain⟨f,j,d⟩:=RelO.some_of (v:=v) (o:=(atKey D k).map (·.2)) (by rw[l];exact c.val k);obtain⟨p,G,q⟩:=Option.map_eq_some_iff.mp j;refine wpAny_getItem_heap (tupleKind_room_in1 J) (c'R I.hok C) m G ?_;rw[q];exact h f _ (I.tok _) d
theorem w'S{Q:Value->Shared->Prop}(p:A.units+1<cLine)(I:Inv X pins σ H s)(g:afN H a y o)(m:RelV y u)(h:∀s',Inv X pins σ H s'->Q (.bool o.isSome) s'):
  wpAny (model X.prog X.w) A (compareOp .In u (.ref a)) Q E s:=by
 rcases g with⟨j,k,e,f,l⟩ |⟨j,k,b,e,f,n,l⟩
 .subst f;obtain⟨z,hd,vs,c,d⟩:=b'x I.hok e;refine wpAny_in_of (d'g m) hd d.mapOf ?_;rw[<- (c.val k).isSome_eq,<- l];exact h _ (I.tok _)
 .subst f;cases (show u=Value.ref b from m);obtain⟨z,hd,x,c,d⟩:=d'h I.hok e;refine wpAny_in_heap (tupleKind_room_in1 p) (c'R I.hok n) hd d ?_;have q:=(c.val k).isSome_eq;rw[Option.isSome_map] at q;rw[<- q,<- l];exact h _ (I.tok _)
theorem r'W{Q:Value->Shared->Prop}(p:A.units+1<cLine)(I:Inv X pins σ H s)(g:afN H a y o)(m:RelV y u)(h:∀s',Inv X pins σ H s'->Q (.bool (!o.isSome)) s'):
  wpAny (model X.prog X.w) A (compareOp .NotIn u (.ref a)) Q E s:=by
 rcases g with⟨j,k,e,f,l⟩ |⟨j,k,b,e,f,n,l⟩
 .subst f;obtain⟨z,hd,vs,c,d⟩:=b'x I.hok e;refine wpAny_notIn_of (d'g m) hd d.mapOf ?_;rw[<- (c.val k).isSome_eq,<- l];exact h _ (I.tok _)
 .subst f;cases (show u=Value.ref b from m);obtain⟨z,hd,x,c,d⟩:=d'h I.hok e;refine wpAny_notIn_heap (tupleKind_room_in1 p) (c'R I.hok n) hd d ?_;have q:=(c.val k).isSome_eq;rw[Option.isSome_map] at q;rw[<- q,<- l];exact h _ (I.tok _)
theorem f'F(I:Inv X pins σ H s)(f:Mut (H a))(hs:Heap.SameBut a s.heap h')(he:∃q,h'.get? a=some q)(c:ObjOk X.prog X.w (upd H a ob) h' a ob):
  Inv X pins σ (upd H a ob) { s with heap:=h',toks:=t' }:=
 I.write (x:=a) (e:=a) f (.inl rfl) (λb q d z=>(hs.2 b d).trans z) he c
theorem h't(z:kvs.length<=sizeLine)(hd:(a == sysModules)=false)(b:KV kvs vs)(dd:h'.DictOf (acn P w) a vs):
  ObjOk P w H' h' a (.dK kvs):=⟨z,hd,vs,b,dd⟩
theorem m'd{Q:Unit->Shared->Prop}(hu:A.units+1<cLine)(I:Inv X pins σ H s)(g:DPut H a y v H')(M:RelV y u)(J:RelV v r)(h:∀s',Inv X pins σ H' s'->Q () s'):
  wpAny (model X.prog X.w) A (setItem (.ref a) u r) Q E s:=by
 rcases g with⟨d,k,e,n,l,B⟩ |⟨d,k,b,e,n,G,l,B⟩
 .subst n B;obtain⟨z,hd,vs,f,D⟩:=h'a I.hok e;have C:vs.length<=sizeLine:=by rw[<- f.length];exact z
  have p:(adK d k v).length<=sizeLine:=by have:=c'M d k v;omega
  refine wpAny_setItem_pairs (hsz:=C) (d'g M) D λL j x=>h _ ?_
  have O:∃q,L.get? a=some q:=let ⟨q,_,_,m,_⟩:=j;⟨q,m⟩
  exact f'F I (by rw[e];exact True.intro) x O (h't p hd (f.put k J) j)
 .subst n B;cases (show u=Value.ref b from M);obtain⟨z,hd,U,f,D⟩:=w'p I.hok e;have C:U.length<=sizeLine:=by rw[<- Paired.length f];exact z
  have p:(adK d k v).length<=sizeLine:=by have:=c'M d k v;omega
  refine wpAny_setItem_heap (hsz:=C) (tupleKind_room_in1 hu) (c'R I.hok G) D λL j x=>h _ ?_
  obtain⟨q,Y,ep,m,h2,h3,h4,_,h5⟩:=j;refine f'F I (by rw[e];exact True.intro) x ⟨q,m⟩ ⟨p,hd,_,(f.put k G J).keeps λc ys N=>?_,q,Y,ep,m,h2,h3,h4,h5⟩;rw[a'e (w'g N e (λz=>nomatch z))];exact N
end
section
variable{X:Cx}{pins:List (Addr×Obj)}{σ:St}{H:Hp}{s:Shared}{a:Addr}{kvs:List (Key×V)}{k:Key}{u:Value}{A:Around}{E:Value->Shared->Prop}
theorem w'q{Q:Value->Shared->Prop}(I:Inv X pins σ H s)(e:Rd H a (.dK kvs))(h:∀t s',Inv X pins σ H s'->Q (.int kvs.length t) s'):wpAny (model X.prog X.w) A (call (.builtin "len") [.ref a]) Q E s:=by
 obtain⟨z,hd,vs,b,c⟩:=b'x I.hok e;refine call_len_dict hd c (by rw[<- b.length];rw[sizeLine_eq] at z;omega) ?_;rw[<- b.length];exact h _ _ (I.tok _)
end
theorem i'W(I:Inv X pins j H s)(g:afN H a y o):s.TypeIs (.ref a) "dict":=by
 rcases g with⟨c,k,e,_,_⟩ |⟨c,k,b,e,_,_,_⟩
 .obtain⟨_,_,vs,_,dd⟩:=b'x I.hok e;exact dd.typeIs
 .obtain⟨_,_,xs,_,dd⟩:=d'h I.hok e;exact dd.typeIs
def aen(d ty e:TE):TS:=λD j H=>e j H λv c=>d j c λx g=>ty j g λy f=>∃a b,x=.ref a/\DPut f a y v b/\D.nx j b
section
variable{X:Cx}{o i e value:Expr}{pos pos' tpos:Pos}{td ty tv:TE}
theorem j'q(m:X.A.units+1<cLine)(n:PE X o td)(c:PE X i ty)(b:PE X value tv)(hs:swapsWith value (some (.Subscript o i pos')) pos.line X.env=pure false):
  PS X (.Assign [.Subscript o i pos'] value pos) (aen td ty tv):=by
 intro pins s j H D I h;refine wpAny_Assign_Subscript (thn (b pins s j H _ I h) λr d ⟨v,H1,I1,rv,q1⟩=>thn (n pins d j H1 _ I1 q1) λu f ⟨x,H2,I2,rx,q2⟩=>thn (c pins f j H2 _ I2 q2) λw p ⟨y,H3,I3,ry,a,H4,ex,g,q3⟩=>?_) hs;subst ex;obtain rfl:u=Value.ref a:=rx;exact m'd m I3 g ry rv λq l=>⟨j,H4,l,q3⟩
end
theorem h'u(h:Heap)(a:sysModules<h.objs.size):ObjOk P w H (h.push { cls:=.type "dict",data:=.dict #[] }) h.objs.size (.dK []):=
 ⟨zero_le _,beq_eq_false_iff_ne.mpr (Ne.symm (ne_of_lt a)),[],.nil,Heap.DictOf.new h⟩
def afO:TE:=λ_ H Q=>∀p,H p=none->Q (.ref p) (upd H p (.dK []))
section
variable{X:Cx}{pos:Pos}
theorem o'F:PE X (.Dict [] [] pos) afO:=λpins s j H Q I h=>
 wpAny_Dict_empty ⟨.ref s.heap.objs.size,_,I.laid (a:=s.heap.objs.size) (o:=.dK []) (t':=s.toks) (λ_ _ q=>Heap.get?_push_of_some _ q) (le_refl _) (h'u s.heap I.big),rfl,h _ (I.hok.fresh (le_refl _))⟩
end
def aev:List (TE×TE)->St->Hp->(List (V×V)->Hp->Prop)->Prop
 |[],_,H,Q=>Q [] H
 |(tk,tv)::r,j,H,Q=>tk j H λx a=>tv j a λy c=>aev r j c λb d=>Q ((x,y)::b) d
abbrev VV:List (V×V)->List (Value×Value)->Prop:=Paired λp q=>RelV p.1 q.1/\RelV p.2 q.2
def PPs(X:Cx)(pos:Pos)(keys:List (Option Expr))(a:List Expr)(b:List (TE×TE)):Prop:=
 ∀(pins:List (Addr×Obj))(s:Shared)(j:St)(H:Hp)(Q:List (V×V)->Hp->Prop),Inv X pins j H s->aev b j H Q->
  wpAny (model X.prog X.w) X.A (evalPairs (pairTrees keys a X.env pos)) (λvs e=>∃d c,Inv X pins j c e/\VV d vs/\Q d c) X.xe s
theorem r'X:PPs X pos [] [] []:=λpins s j H Q I h=>pairTrees_nil_walk ⟨[],H,I,.nil,h⟩
theorem o'G(a:PE X k tk)(b:PE X v tv)(c:PPs X pos ks vs trs):
  PPs X pos (some k::ks) (v::vs) ((tk,tv)::trs):=λpins s j H Q I h=>
 pairTrees_cons_walk (thn (a pins s j H _ I h) λu e ⟨x,H1,I1,rx,q1⟩=>thn (b pins e j H1 _ I1 q1) λm f ⟨y,H2,I2,ry,q2⟩=>
  thn (c pins f j H2 _ I2 q2) λl g ⟨d,H3,I3,rel,q3⟩=>⟨(x,y)::d,H3,I3,.cons ⟨rx,ry⟩ rel,q3⟩)
def adA(kvs a:List (Key×V)):List (Key×V):=a.foldl (λb c=>adK b c.1 c.2) kvs
theorem KV.merge:∀{a:List (Key×V)}{rs:List (Key×Value)}{kvs:List (Key×V)}{vs:List (Key×Value)},KV a rs->KV kvs vs->KV (adA kvs a) (merged vs rs):=by
 intro a rs kvs vs r;unfold KV at r
 induction r generalizing kvs vs with
 |nil=>intro q;exact q
 |@cons p q f d h t b=>
  intro c;have e:KV (adK kvs p.1 p.2) (stored vs q.1 q.2):=by
   have:=c.put p.1 h.2;rw[<- h.1];exact this
  exact b e
theorem d't:∀(a kvs:List (Key×V)),(adA kvs a).length<=kvs.length+a.length
 |[],kvs=>by show kvs.length <= kvs.length + 0;omega
 |p::r,kvs=>by
  have c:=d't r (adK kvs p.1 p.2);have b:=c'M kvs p.1 p.2;show (adA (adK kvs p.1 p.2) r).length<=_;rw[length_cons];omega
theorem f'a:∀{kvs:List (Key×V)}{e:List (Value×Value)},VV (kvs.map λd=>(kV d.1,d.2)) e->∃rs,Carries (acn P w) e rs/\KV kvs rs
 |[],_,r=>by rw[List.map_nil] at r;cases r;exact⟨[],True.intro,.nil⟩
 |p::kvs,_,r=>by
  rw[map_cons] at r;cases r with
  |@cons a b as bs h t=>
   obtain⟨rs,c,q⟩:=f'a (P:=P) (w:=w) t;obtain⟨g,f⟩:=b;exact⟨(p.1,f)::rs,⟨d'g h.1,rfl,c⟩,.cons ⟨rfl,h.2⟩ q⟩
def ag2(b:List (TE×TE)):TE:=λj H Q=>∀p,H p=none->aev b j (upd H p (.dK [])) λe d=>d p=some (.dK [])/\∃a:List (Key×V),e=a.map (λc=>(kV c.1,c.2))/\a.length<=15/\Q (.ref p) (upd d p (.dK (adA [] a)))
theorem r'Y(h:PPs X pos keys values trs)(b:keys.all (·.isSome)=true)(p:keys.length=values.length)(y:keys≠[])(f:keys.length<=15):PE X (.Dict keys values pos) (ag2 trs):=by
 intro pins s j H Q I q;have n:=I.hok.fresh (le_refl s.heap.objs.size);have x:=I.laid (a:=s.heap.objs.size) (o:=.dK []) (h':=s.heap.push { cls:=.type "dict",data:=.dict #[] }) (t':=s.toks) (λ_ _ q=>Heap.get?_push_of_some _ q) (le_refl _) (h'u s.heap I.big);refine wpAny_Dict_walk (knd:=acn X.prog X.w) b p y f (thn (h pins _ j _ _ x (q _ n)) λC E ⟨D,H2,I2,rel,e,kvs,ep,lk,q2⟩=>?_);subst ep;obtain⟨rs,c,v⟩:=f'a (P:=X.prog) (w:=X.w) rel;obtain⟨z,hd,m,u,B⟩:=h'a I2.hok e;cases u;refine⟨rs,c,B,λh' d r=>⟨.ref s.heap.objs.size,_,?_,rfl,q2⟩⟩;have A:(adA [] kvs).length<=sizeLine:=by
  have g:=d't kvs [];rw[length_nil] at g;rw[sizeLine_eq];omega
 have l:∃q,h'.get? s.heap.objs.size=some q:=let ⟨q,_,_,hq,_⟩:=d;⟨q,hq⟩
 exact f'F I2 (by rw[e];exact True.intro) r l (h't A hd (v.merge .nil) d)
structure M2(X:Cx)(o:Expr)(m:Str)(apos:Pos)(e f:Expr)(cpos:Pos):Prop where
 base:attributeBase o m X.env (eval o X.env)=eval o X.env
 few:((backTo cpos (starEach [e,f] X.env)).all (λx=>!x.1)&&(backToKw cpos (keywordEach [] X.env)).all (λx=>x.1.isSome)
  && decide (([e,f]:List Expr).length+([]:List Keyword).length+(if ([]:List Keyword).isEmpty then 0 else 1)<30))=true
 line:(apos.endLine == cpos.line)=true
 trees:backTo cpos (starEach [e,f] X.env)=[(false,eval e X.env),(false,eval f X.env)]
def IsD(H:Hp)(a:Addr):Prop:=(∃b,Rd H a (.dK b))\/∃b,Rd H a (.dT b)
theorem f'b(I:Inv X pins j H s)(d:IsD H a):
  s.TypeIs (.ref a) "dict"/\(∀b,Value.ref a=.ref b->∃ob,s.heap.get? b=some ob/\ob.dict=none)/\(a == sysModules)=false:=by
 rcases d with⟨g,e⟩ |⟨g,e⟩
 .obtain⟨_,hd,vs,_,dd⟩:=b'x I.hok e;refine⟨dd.typeIs,λb q=>?_,hd⟩;cases q;obtain⟨ob,_,_,c,f,_⟩:=dd;exact⟨ob,c,f.2.1⟩
 .obtain⟨_,hd,xs,_,dd⟩:=d'h I.hok e;refine⟨dd.typeIs,λb q=>?_,hd⟩;cases q;obtain⟨ob,_,_,c,f,_⟩:=dd;exact⟨ob,c,f.2.1⟩
section
variable{X:Cx}{pins:List (Addr×Obj)}{σ:St}{H:Hp}{s:Shared}{a:Addr}{y d:V}{u r:Value}{o:Option V}{A:Around}{E:Value->Shared->Prop}
theorem u'q{Q:Value->Shared->Prop}(x:A.units+1<cLine)(I:Inv X pins σ H s)(g:afN H a y o)(p:RelV y u)(rd:RelV d r)(h:∀n s',Inv X pins σ H s'->RelV (o.getD d) n->Q n s'):
  wpAny (model X.prog X.w) A (call (.builtin "dict.get") [.ref a,u,r]) Q E s:=by
 rcases g with⟨m,k,e,j,l⟩ |⟨m,k,b,e,j,q,l⟩
 .subst j;obtain⟨z,hd,vs,c,f⟩:=b'x I.hok e;refine call_meetsIn PySem.F.slot_dict_get f.typeIs PySem.F.entry_dict_get (PySem.F.args_dict_get_3 _ _ _) (meets_dict_get_default (acn X.prog X.w) a (d'g p) hd r) ⟨_,f.mapOf,h _ _ (I.tok _) ?_⟩;rw[l];exact (c.val k).getD rd
 .subst j;cases (show u=Value.ref b from p);obtain⟨z,hd,v,c,f⟩:=d'h I.hok e;refine call_meetsIn PySem.F.slot_dict_get f.typeIs PySem.F.entry_dict_get (PySem.F.args_dict_get_3 _ _ _) (meetsH_dict_get_default (tupleKind (acn X.prog X.w)) a b hd r) ⟨tupleKind_room_in1 x,k,v,c'R I.hok q,f,h _ _ (I.tok _) ?_⟩;rw[l];exact (c.val k).getD rd
end
def afP(d ty e:TE):TE:=λj H Q=>d j H λx b=>∃a,x=.ref a/\IsD b a/\ty j b λy f=>e j f λz c=>∃o,afN c a y o/\Q (o.getD z) c
section
variable{X:Cx}{o e f:Expr}{apos cpos:Pos}{td ty tx:TE}
theorem o'H(w:X.A.units+1<cLine)(l:PE X o td)(he:PE X e ty)(n:PE X f tx)(m:M2 X o "get" apos e f cpos):PE X (.Call (.Attribute o "get" apos) [e,f] [] cpos) (afP td ty tx):=by
 intro pins s j H Q I h;refine wpAny_Call_method m.base m.few m.line PySem.F.plainAttrs_dict PySem.F.slot_dict_get PySem.F.type_dict_get (thn (l pins s j H _ I h) λu p ⟨x,H1,I1,rx,a,ex,d,q1⟩=>?_);subst ex;obtain rfl:u=Value.ref a:=rx;obtain⟨c,q,_⟩:=f'b I1 d;refine⟨c,q,?_⟩;rw[m.trees];refine Calls.callWith_builtin rfl (Calls.evalArgs_plain (Calls.spliced_cons (thn (he pins p j H1 _ I1 q1) λG r ⟨y,H2,I2,ry,q2⟩=>
  Calls.spliced_cons (thn (n pins r j H2 _ I2 q2) λE B ⟨z,H3,I3,rz,ov,g,q3⟩=>Calls.spliced_nil ?_))))
 exact u'q w I3 g ry rz λC D v b=>⟨_,H3,v,b,q3⟩
end
section
variable{X:Cx}{pins:List (Addr×Obj)}{σ:St}{H:Hp}{s:Shared}{a:Addr}{kvs:List (Key×V)}{A:Around}{E:Value->Shared->Prop}
theorem o'I{Q:Value->Shared->Prop}(I:Inv X pins σ H s)(e:Rd H a (.dK kvs))(h:∀p s',H p=none->Inv X pins σ (upd H p (.dK kvs)) s'->Q (.ref p) s'):wpAny (model X.prog X.w) A (call (.type "dict") [.ref a]) Q E s:=by
 obtain⟨z,hd,vs,c,j⟩:=b'x I.hok e;refine kt_call_dict hd j (by rw[<- c.length];exact z) λl d g=>?_
 refine h _ _ (I.hok.fresh (le_refl _)) (I.laid (a:=s.heap.objs.size) (o:=.dK kvs) (t':=s.toks) (λb q f=>?_) (le_refl _) (h't z (beq_eq_false_iff_ne.mpr (Ne.symm (ne_of_lt I.big))) c d));exact (g.2 b (ne_of_lt (Heap.lt_size f))).trans (Heap.get?_push_of_some _ f)
end
end L2
namespace HT
open PySem PyProof.Rows
section
variable{prog:Program}{w:World}{A:Around}{E:Value->Shared->Prop}{s:Shared}
def sIx(n d:Nat):Option Int->Nat
 |none=>d
 |some v=>if v < 0 then (v + (n:Int)).toNat else min v.toNat n
end
end HT
namespace L2
open PySem PySem.Spec PyProof.Rows
abbrev TO:=St->Hp->(Option Int->Hp->Prop)->Prop
def PO(X:Cx)(e:Option Expr)(t:TO):Prop:=
 ∀(pins:List (Addr×Obj))(s:Shared)(j:St)(H:Hp)(Q:Option Int->Hp->Prop),Inv X pins j H s->t j H Q->
  wpAny (model X.prog X.w) X.A (evalPart e X.env) (λu b=>∃o a,Inv X pins j a b/\IsPart u o/\Q o a) X.xe s
def aeP:TO:=λ_ H Q=>Q none H
def ag3(t:TE):TO:=λj H Q=>t j H λx a=>∃i,x=.int i/\Q (some i) a
section
variable{X:Cx}{e:Expr}{te:TE}{lo hi:Option Expr}{tl th:TO}{pos p2:Pos}
theorem r'Z:PO X none aeP:=by
 intro pins s j H Q I h;rw[evalPart_none];exact wpAny_pure ⟨none,H,I,.none,h⟩
theorem s'a(h:PE X e te):PO X (some e) (ag3 te):=by
 intro pins s j H Q I a;rw[evalPart_some];refine thn (h pins s j H _ I a) λu b ⟨x,H1,I1,r1,q1⟩=>?_
 obtain⟨i,rfl,q⟩:=q1;obtain⟨t,rfl⟩:=r1;exact⟨some i,H1,I1,.int i t,q⟩
def SlR(X:Cx)(r:V->Option Int->Option Int->Hp->VK->Prop):Prop:=
 ∀(pins:List (Addr×Obj))(s:Shared)(j:St)(H:Hp)(x:V)(v b a:Value)(lo hi:Option Int)(c:Addr)(Q:VK),Inv X pins j H s->RelV x v->s.heap.IsSliceOf c b a .none->IsPart b lo->IsPart a hi->r x lo hi H Q->
  ∃T id,typeLookup (.type T) "__getitem__"=pure (some (.builtin id))/\s.TypeIs v T/\wpAny (model X.prog X.w) X.A (getItem v (.ref c)) (EP X pins j Q) X.xe s
theorem SlR.or{r c:V->Option Int->Option Int->Hp->VK->Prop}(h:SlR X r)(h':SlR X c):SlR X (λx lo hi H Q=>r x lo hi H Q\/c x lo hi H Q):=by
 intro pins s j H x v b a lo hi f Q I l d m g q;rcases q with q |q
 .exact h pins s j H x v b a lo hi f Q I l d m g q
 .exact h' pins s j H x v b a lo hi f Q I l d m g q
def tSl(r:V->Option Int->Option Int->Hp->VK->Prop)(te:TE)(tl th:TO):TE:=λj H Q=>te j H λx a=>tl j a λl c=>th j c λu b=>r x l u b Q
theorem o'J(n:SlR X r)(he:PE X e te)(o:PO X lo tl)(B:PO X hi th):PE X (.Subscript e (.Slice lo hi none p2) pos) (tSl r te tl th):=by
 intro pins s j H Q I h;refine Subscript_ (thn (he pins s j H _ I h) λv p ⟨x,H1,I1,r1,q1⟩=>?_);refine wpAny_Slice (thn (o pins p j H1 _ I1 q1) λd y ⟨l,H2,I2,pl,q2⟩=>thn (B pins y j H2 _ I2 q2) λc a ⟨u,H3,I3,pu,q3⟩=>?_);rw[evalPart_none];refine wpAny_pure ?_;have z:Inv X pins j H3 { a with heap:=a.heap.push { cls:=.type "slice",data:=.fields #[d,c,.none] } }:=I3.kept (t':=a.toks) λb C q=>Heap.get?_push_of_some _ q
 obtain⟨T,id,f,g,m⟩:=n pins { a with heap:=a.heap.push { cls:=.type "slice",data:=.fields #[d,c,.none] } } j H3 x v d c l u a.heap.objs.size Q z r1 (Heap.IsSliceOf.new ..) pl pu q3;show wpAny (model X.prog X.w) X.A (subscriptTail e (.Slice lo hi none p2) v (.ref a.heap.objs.size)) (EP X pins j Q) X.xe { a with heap:=a.heap.push { cls:=.type "slice",data:=.fields #[d,c,.none] } };exact tail_any (ops:=[.ref a.heap.objs.size,v]) g f m (by with_unfolding_all rfl)
def ahQ(xs:List V)(lo hi:Option Int):List V:=(xs.drop (HT.sIx xs.length 0 lo)).take (HT.sIx xs.length xs.length hi - HT.sIx xs.length 0 lo)
theorem i'X(xs:List V)(lo hi:Option Int):(ahQ xs lo hi).length<=xs.length:=by
 unfold ahQ;rw[length_take,List.length_drop];omega
end
def ixN(n:Nat)(i:Int):Option Nat:=if 0<=i then (if i<n then some i.toNat else none) else if -(n:Int)<=i then some (i+n).toNat else none
def atI{y:Type}(xs:List y)(i:Int):Option y:=(ixN xs.length i).bind λj=>xs[j]?
theorem j'r(h:ixN n i=some j):seqIndex? i n=some j/\j<n/\-(n:Int)<=i/\i<n:=by
 unfold ixN at h;by_cases b:0<=i
 .rw[if_pos b] at h;by_cases a:i<n
  .rw[if_pos a] at h;have e:i.toNat=j:=Option.some.inj h;exact⟨by rw[seqIndex_of b a,e],by omega,by omega,a⟩
  .rw[if_neg a] at h;cases h
 .rw[if_neg b] at h;by_cases a:-(n:Int)<=i
  .rw[if_pos a] at h;have e:(i+n).toNat=j:=Option.some.inj h;exact⟨by rw[seqIndex_neg (by omega) a,e],by omega,a,by omega⟩
  .rw[if_neg a] at h;cases h
theorem f'G(h:atI xs i=some v):∃j,seqIndex? i xs.length=some j/\xs[j]?=some v/\j<xs.length/\-(xs.length:Int)<=i/\i<xs.length:=by
 unfold atI at h;cases e:ixN xs.length i with
 |none=>rw[e] at h;cases h
 |some j=>
  rw[e] at h;obtain⟨d,c,b,a⟩:=j'r e;exact⟨j,d,h,c,b,a⟩
def aeQ(b:Expr):Prop:=∀o i,subscripted b false o i=operate [o,i] (getItem o i)
def IxR(X:Cx)(r:R2):Prop:=
 ∀(value a:Expr)(pins:List (Addr×Obj))(s:Shared)(j:St)(H:Hp)(x y:V)(v u:Value)(Q:VK),Inv X pins j H s->RelV x v->RelV y u->r x y H Q->
  subscripted a false v u=operate [v,u] (getItem v u)->wpAny (model X.prog X.w) X.A (subscriptTail value a v u) (EP X pins j Q) X.xe s
def MtR(X:Cx)(id:String)(r:V->List V->Hp->VK->Prop):Prop:=
 ∀(pins:List (Addr×Obj))(s:Shared)(j:St)(H:Hp)(x:V)(a:List V)(v:Value)(us:List Value)(Q:VK),Inv X pins j H s->RelV x v->Vals a us->r x a H Q->
  wpAny (model X.prog X.w) X.A (call (.builtin id) (v::us)) (EP X pins j Q) X.xe s
section
variable{X:Cx}{a b:Expr}{ta tb:TE}{pos:Pos}
theorem IxR.or{r d:R2}(h:IxR X r)(h':IxR X d):IxR X (λx y H Q=>r x y H Q\/d x y H Q):=by
 intro value c pins s j H x y v u Q I g f q e;rcases q with q |q
 .exact h value c pins s j H x y v u Q I g f q e
 .exact h' value c pins s j H x y v u Q I g f q e
theorem w'r(e:IxR X r)(d:PE X a ta)(g:PE X b tb)(hs:aeQ b):PE X (.Subscript a b pos) (tOp r ta tb):=by
 intro pins s j H Q I h;exact Subscript_ (o'B d g I h λv u m x y n c l f q=>e a b pins m j n x y v u Q c l f q (hs _ _))
def aiY(K:W.Frag):R2:=λx y H Q=>∃p c i v,x=.ref p/\y=.int i/\SqL K H p c/\atI c i=some v/\Q v H
def aiZ(K:W.Frag):R2:=λx y H Q=>∃p c i v,x=.ref p/\y=.int i/\SqT K H p c/\atI c i=some v/\Q v H
def ai0:R2:=λx y H Q=>∃z i c,x=.str z/\y=.int i/\z.length<=sizeLine/\atI z.cps.toList i=some c/\Q (.str ⟨#[c]⟩) H
theorem agb:IxR X (aiY X.K):=by
 intro value f pins s G H x y v u Q I N C h n;obtain⟨p,O,i,z,rfl,rfl,D,A,q⟩:=h;cases N;obtain⟨t,rfl⟩:=C;obtain⟨g,r,e,Y⟩:=I.list D;obtain⟨j,d,L,h3,E,J⟩:=f'G A;obtain⟨w,m,l⟩:=r.get L;have B:=r.length;have U:=c'Q;have c:EP X pins G Q w s:=⟨z,H,I,l,q⟩;by_cases o:0<=i
 .have hj:i.toNat=j:=by
   rw[seqIndex_of o J] at d;exact Option.some.inj d
  exact item_listR e.isList o (by omega) (by rw[hj];simpa using m) c n
 .have hj:(i+(g.toArray.size:Int)).toNat=j:=by
   rw[seqIndex_neg (by omega) E] at d;rw[size_toArray,<- B];exact Option.some.inj d
  exact subscriptTail_builtinR (x:=w) e.isList.typeIs slot_list_getitem.lookup
   (wpAny_getItem_list_neg (Q:=λr M=>r=w/\EP X pins G Q r M) e.isList (by omega) (by rw[size_toArray]<;>omega) (by omega) (by rw[hj];simpa using m) ⟨rfl,c⟩) n
theorem ag4:IxR X (aiZ X.K):=by
 intro value c pins s G H x y v u Q I J A h o;obtain⟨p,L,i,z,rfl,rfl,B,m,q⟩:=h;cases J;obtain⟨t,rfl⟩:=A;obtain⟨C,r,f,N⟩:=I.tuple B;obtain⟨j,l,D,Y,O,U⟩:=f'G m;obtain⟨w,g,e⟩:=r.get D;have n:=r.length;have M:=c'Q;have d:EP X pins G Q w s:=⟨z,H,I,e,q⟩;exact subscriptTail_builtinR (x:=w) f.typeIs slot_tuple_getitem.lookup
  (getItem_tuple (j:=j) (Q:=λr E=>r=w/\EP X pins G Q r E) f (by omega) (by omega) (by rw[size_toArray,<- n];exact l) (by simpa using g) ⟨rfl,d⟩) o
theorem u'r:IxR X ai0:=by
 intro value d pins s G H x y v u Q I A r h p;obtain⟨z,i,c,rfl,rfl,B,g,q⟩:=h;obtain⟨t,rfl⟩:=A;obtain⟨C,rfl⟩:=r;obtain⟨j,e,w,E,l,m⟩:=f'G g;have o:z.cps.toList.length=z.length:=by simp[Str.length]
 rw[o] at e l m;have D:=c'Q;exact tail_any (typeIs_str s z t) slot_str_getitem.lookup (getItem_str (c:=c) (by
  have f:decide (i < -(2 ^ 63:Int))=false:=decide_eq_false (by omega);have n:decide (i ≥ 2 ^ 63)=false:=decide_eq_false (by omega);rw[f,n,Bool.or_false]) (by rw[e];simpa using w) ⟨.str ⟨#[c]⟩,H,I.tok _,⟨_,rfl⟩,q⟩) p
def rIx(K:W.Frag):R2:=λx y H Q=>aiY K x y H Q\/aiZ K x y H Q\/ai0 x y H Q
theorem ag5:IxR X (rIx X.K):=agb.or (ag4.or u'r)
theorem l'c(its:List Value)(n j:Nat)(u:Value):Obj.mapSeq (·.setIfInBounds j u) { cls:=.type "list",data:=.seq its.toArray n }={ cls:=.type "list",data:=.seq (its.set j u).toArray n }:=by
 simp[Obj.mapSeq]
theorem Inv.lst{H:Hp}(I:Inv X pins j H s)(h:H p=some (.lst xs)):
  ∃(its:List Value)(n:Nat),Vals xs its/\s.heap.get? p=some { cls:=.type "list",data:=.seq its.toArray n }/\xs.length<=sizeLine:=by
 obtain⟨z,its,n,r,e⟩:=I.hok p _ h;exact⟨its,n,r,e,z⟩
theorem Inv.lstUpd{pins:List (Addr×Obj)}{j:St}{H:Hp}{s:Shared}{p:Addr}{xs ys:List V}{its its':List Value}{n n':Nat}{f:Obj->Obj}(I:Inv X pins j H s)(h:H p=some (.lst xs))(g:s.heap.get? p=some { cls:=.type "list",data:=.seq its.toArray n })(c:f { cls:=.type "list",data:=.seq its.toArray n }={ cls:=.type "list",data:=.seq its'.toArray n' })(r:Vals ys its')(hz:ys.length<=sizeLine)(t:Nat):
  Inv X pins j (upd H p (.lst ys)) { s with heap:=s.heap.update p f,toks:=t }:=by
 have e:(s.heap.update p f).get? p=some { cls:=.type "list",data:=.seq its'.toArray n' }:=by
  rw[Heap.get?_update_self f g (by rw[c]<;>rfl),c]
 refine I.write (x:=p) (e:=p) (by rw[h];trivial) (.inl rfl) (λb u d q=>(Heap.get?_update_other _ _ (Ne.symm d)).trans q) ⟨_,e⟩ ?_;exact⟨hz,its',n',r,e⟩
def ag6:V->V->V->Hp->(Hp->Prop)->Prop:=λo i v H Q=>∃p c k j,o=.ref p/\i=.int k/\H p=some (.lst c)/\ixN c.length k=some j/\Q (upd H p (.lst (c.set j v)))
theorem o'K:aiS X ag6:=by
 intro pins s y H o i v ov J u Q I D E z h;obtain⟨p,A,k,j,rfl,rfl,m,B,q⟩:=h;cases D;obtain⟨t,rfl⟩:=E;obtain⟨c,n,r,f,C⟩:=I.lst m;obtain⟨d,L,x,w⟩:=j'r B;have e:=r.length;have G:=c'Q;have g:Inv X pins y (upd H p (.lst (A.set j v))) { s with heap:=s.heap.update p (Obj.mapSeq (·.setIfInBounds j u)) }:=
  I.lstUpd m f (l'c c n j u) (r.set z j) (by rw[length_set];exact C) s.toks
 by_cases l:0<=k
 .have hk:k.toNat=j:=by
   rw[seqIndex_of l w] at d;exact Option.some.inj d
  exact W.ki_setAt f l (by omega) (by rw[size_toArray,<- e];exact w) (by rw[hk];exact⟨_,g,q⟩)
 .have hk:(k+(c.toArray.size:Int)).toNat=j:=by
   rw[seqIndex_neg (by omega) x] at d;rw[size_toArray,<- e];exact Option.some.inj d
  exact W.ki_setBack f (by omega) (by rw[size_toArray,<- e];exact x) (by omega) (by rw[hk];exact⟨_,g,q⟩)
theorem h'v(lo c:Option Int)(n:Nat):(sliceBounds lo c none n).1=((HT.sIx n 0 lo:Nat):Int)/\(sliceBounds lo c none n).2.1=((HT.sIx n n c:Nat):Int)/\(sliceBounds lo c none n).2.2=1:=by
 refine⟨?_,?_,rfl⟩
 .cases lo with
  |none=>simp[sliceBounds,HT.sIx]
  |some i=>
   simp only[sliceBounds,HT.sIx,Option.getD_none,show (1:Int) > 0 by decide,if_true];by_cases h:i<0
   .simp only[h,if_true]<;>omega
   .simp only[h,if_false]<;>omega
 .cases c with
  |none=>simp[sliceBounds,HT.sIx]
  |some i=>
   simp only[sliceBounds,HT.sIx,Option.getD_none,show (1:Int) > 0 by decide,if_true];by_cases h:i<0
   .simp only[h,if_true]<;>omega
   .simp only[h,if_false]<;>omega
theorem g'R(its:List Value)(lo c:Option Int):slicePick its.toArray lo c none=((its.drop (HT.sIx its.length 0 lo)).take (HT.sIx its.length its.length c - HT.sIx its.length 0 lo)).toArray:=by
 obtain⟨e,f,d⟩:=h'v lo c its.toArray.size;unfold slicePick;rw[e,f,d];simp only[sliceRange_one,pick_run,size_toArray]<;>rfl
def ai1(K:W.Frag):V->Option Int->Option Int->Hp->VK->Prop:=λx lo d H Q=>∃a c,x=.ref a/\SqL K H a c/\∀p,H p=none->Q (.ref p) (upd H p (.lst (ahQ c lo d)))
theorem agc:SlR X (ai1 X.K):=by
 intro pins s j H x v z y lo e A Q I u n w p h;obtain⟨a,c,rfl,l,q⟩:=h;cases u;obtain⟨m,r,f,g⟩:=I.list l;have d:=r.length;refine⟨"list",_,slot_list_getitem.lookup,f.isList.typeIs,?_⟩;refine wpAny_getItem_list_slice f.isList n w p .none (by simp) ?_ (by rw[size_toArray]<;>omega);rw[g'R,<- d];refine⟨.ref s.heap.objs.size,_,I.laid (t':=s.toks) (o:=.lst (ahQ c lo e)) (λb B q=>Heap.get?_push_of_some _ q) (le_refl _) ?_,rfl,q _ (I.hok.fresh (le_refl _))⟩;exact⟨le_trans (i'X c lo e) g,_,0,(r.drop (HT.sIx c.length 0 lo)).take (HT.sIx c.length c.length e - HT.sIx c.length 0 lo),Heap.get?_push_size _ rfl⟩
def adf:V->Bool
 |.non=>true
 |.bl _=>true
 |.int _=>true
 |.str _=>true
 |_=>false
def eqV:V->V->Bool
 |.non,.non=>true
 |.bl a,.bl b=>a == b
 |.bl a,.int b=>(if a then 1 else 0) == b
 |.int a,.bl b=>a == (if b then 1 else 0)
 |.int a,.int b=>a == b
 |.str a,.str b=>a == b
 |_,_=>false
theorem b'K(f:RelV y u)(c:RelV x v)(g:adf y=true)(e:adf x=true):SeqAt.EqAt A s u v (eqV y x):=by
 cases y with
 |non=>
  cases f;cases x with
  |non=>cases c;exact SeqAt.EqAt.same _
  |bl b=>cases c;exact SeqAt.EqAt.none_bool b
  |int b=>obtain⟨t,rfl⟩:=c;exact SeqAt.EqAt.none_int b t
  |str b=>obtain⟨t,rfl⟩:=c;exact SeqAt.EqAt.none_str b t
  |_=>exact absurd (show false=true from e) Bool.false_ne_true
 |bl a=>
  cases f;cases x with
  |non=>cases c;exact SeqAt.EqAt.bool_none a
  |bl b=>cases c;exact SeqAt.EqAt.bool_bool a b
  |int b=>obtain⟨t,rfl⟩:=c;exact SeqAt.EqAt.bool_int a b t
  |str b=>obtain⟨t,rfl⟩:=c;exact SeqAt.EqAt.bool_str a b t
  |_=>exact absurd (show false=true from e) Bool.false_ne_true
 |int a=>
  obtain⟨d,rfl⟩:=f;cases x with
  |non=>cases c;exact SeqAt.EqAt.int_none a d
  |bl b=>cases c;exact SeqAt.EqAt.int_bool a d b
  |int b=>obtain⟨t,rfl⟩:=c;exact SeqAt.EqAt.int_int a d b t
  |str b=>obtain⟨t,rfl⟩:=c;exact SeqAt.EqAt.int_str a d b t
  |_=>exact absurd (show false=true from e) Bool.false_ne_true
 |str a=>
  obtain⟨d,rfl⟩:=f;cases x with
  |non=>cases c;exact SeqAt.EqAt.str_none a d
  |bl b=>cases c;exact SeqAt.EqAt.str_bool a d b
  |int b=>obtain⟨t,rfl⟩:=c;exact SeqAt.EqAt.str_int a d b t
  |str b=>obtain⟨t,rfl⟩:=c;exact SeqAt.EqAt.str_str a d b t
  |_=>exact absurd (show false=true from e) Bool.false_ne_true
 |_=>exact absurd (show false=true from g) Bool.false_ne_true
def eqU(x:V)(u:Value):Bool:=match u with
 |.none=>eqV .non x
 |.bool b=>eqV (.bl b) x
 |.int i _=>eqV (.int i) x
 |.str z _=>eqV (.str z) x
 |_=>false
theorem m'e(r:RelV y u)(f:adf y=true):eqU x u=eqV y x:=by
 cases y with
 |non=>cases r;rfl
 |bl b=>cases r;rfl
 |int i=>obtain⟨t,rfl⟩:=r;rfl
 |str z=>obtain⟨t,rfl⟩:=r;rfl
 |_=>exact absurd (show false=true from f) Bool.false_ne_true
theorem c'S:∀{xs:List V}{us:List Value},Vals xs us->xs.all adf=true->us.any (eqU x)=xs.any λy=>eqV y x
 |_,_,.nil,_=>rfl
 |y::xs,u::us,.cons r t,f=>by
  rw[all_cons,and_eq_true] at f;rw[any_cons,any_cons,m'e r f.1,c'S t f.2]
theorem c'v(e:RelV x v)(d:adf x=true):∀{xs:List V}{us:List Value},Vals xs us->xs.all adf=true->∀u∈us,SeqAt.EqAt A s u v (eqU x u)
 |_,_,.nil,_=>λu c=>by cases c
 |y::xs,u::us,.cons r t,f=>λg c=>by
  rw[all_cons,and_eq_true] at f;rcases mem_cons.mp c with rfl |c
  .rw[m'e r f.1];exact b'K r e f.1 d
  .exact c'v e d t f.2 g c
def inV(x:V)(xs:List V):Bool:=xs.any λy=>eqV y x
def rIn(K:W.Frag)(neg:Bool):R2:=λx y H Q=>∃p c,y=.ref p/\(SqL K H p c\/SqT K H p c)/\adf x=true/\c.all adf=true/\Q (.bl (if neg then !inV x c else inV x c)) H
theorem aeR:OpR X (compareOp .In) (rIn X.K false):=by
 intro pins s j H x y v u Q I f g h;obtain⟨p,l,rfl,c,e,fs,q⟩:=h;cases g;rcases c with c |c
 .obtain⟨its,r,pl,hz⟩:=I.list c;refine SeqAt.in_listAt (eqU x) pl.isList (λw d=>c'v f e r fs w (by simpa using d)) ⟨.bl _,H,I,rfl,?_⟩;rw[show its.toArray.any (eqU x)=its.any (eqU x) by simp,c'S r fs];exact q
 .obtain⟨its,r,pl,hz⟩:=I.tuple c;refine SeqAt.in_tupleAt (eqU x) pl (λw d=>c'v f e r fs w (by simpa using d)) ⟨.bl _,H,I,rfl,?_⟩;rw[show its.toArray.any (eqU x)=its.any (eqU x) by simp,c'S r fs];exact q
theorem ad5:OpR X (compareOp .NotIn) (rIn X.K true):=by
 intro pins s j H x y v u Q I f g h;obtain⟨p,l,rfl,c,e,fs,q⟩:=h;cases g;rcases c with c |c
 .obtain⟨its,r,pl,hz⟩:=I.list c;refine SeqAt.notIn_listAt (eqU x) pl.isList (λw d=>c'v f e r fs w (by simpa using d)) ⟨.bl _,H,I,rfl,?_⟩;rw[show its.toArray.any (eqU x)=its.any (eqU x) by simp,c'S r fs];exact q
 .obtain⟨its,r,pl,hz⟩:=I.tuple c;refine SeqAt.notIn_tupleAt (eqU x) pl (λw d=>c'v f e r fs w (by simpa using d)) ⟨.bl _,H,I,rfl,?_⟩;rw[show its.toArray.any (eqU x)=its.any (eqU x) by simp,c'S r fs];exact q
theorem CallR.or{r c:List V->Hp->VK->Prop}(h:CallR X f r)(h':CallR X f c):CallR X f (λxs H Q=>r xs H Q\/c xs H Q):=by
 intro pins s j H xs us Q I rs q;rcases q with q |q
 .exact h pins s j H xs us Q I rs q
 .exact h' pins s j H xs us Q I rs q
theorem ac2:CallR X (.type "list") (λxs H Q=>∃p ys,xs=[.ref p]/\(SqL X.K H p ys\/SqT X.K H p ys)/\∀l,H l=none->Q (.ref l) (upd H l (.lst ys))):=by
 intro pins s j H xs us Q I r h;obtain⟨p,ys,rfl,v,q⟩:=h;obtain⟨u,rfl,C⟩:=b'w r;cases C;have y:∀(c:List Value),Vals ys c->ys.length<=sizeLine->∀(d:Heap)(g:Nat),(∀b B,s.heap.get? b=some B->d.get? b=some B)->
   d.get? s.heap.objs.size=some { cls:=.type "list",dict:=none,data:=.seq c.toArray g,slots:=#[] }->EP X pins j Q (.ref s.heap.objs.size) { s with heap:=d }:=λc f x d g kp e=>
  ⟨.ref s.heap.objs.size,_,I.laid (t':=s.toks) kp (le_refl _) (show ObjOk X.prog X.w _ d _ (.lst ys) from ⟨x,c,g,f,e⟩),rfl,q _ (I.hok.fresh (le_refl _))⟩
 rcases v with v |v
 .obtain⟨c,f,pl,x⟩:=I.list v;have m:=f.length;obtain⟨o,A,z,n,hd⟩:=pl.isList;exact call_list_seq p (.inl rfl) A z hd (λd g kp e=>y c f x d g kp e) (by simp only[size_toArray]<;>omega)
 .obtain⟨c,f,pl,x⟩:=I.tuple v;have m:=f.length;obtain⟨o,A,z,n,hd⟩:=pl;exact call_list_seq p (.inr rfl) A z hd (λd g kp e=>y c f x d g kp e) (by simp only[size_toArray]<;>omega)
def tyV(K:W.Frag)(T:String)(x:V)(H:Hp):Prop:=match x with
 |.str _=>T = "str"
 |.int _=>T = "int"
 |.ref p=>(T = "list" /\ ∃d,SqL K H p d) \/ (T = "tuple" /\ ∃o,K.lookup p=some o /\ o.cls=.type "tuple" /\ o.dict=none) \/
   (T="dict"/\((∃c,H p=some (.dK c))\/∃c,H p=some (.dT c)))\/(T="set"/\∃S n,H p=some (.set S n))
 |_=>False
theorem u's(I:Inv X pins j H s)(r:RelV x v)(ty:tyV X.K T x H):
  s.TypeIs v T/\∀a,v=.ref a->∃ob,s.heap.get? a=some ob/\ob.dict=none:=by
 cases x with
 |str z=>
  obtain⟨t,rfl⟩:=r;cases (show T="str" from ty);exact⟨typeIs_str s z t,λ_ e=>nomatch e⟩
 |int i=>
  obtain⟨t,rfl⟩:=r;cases (show T="int" from ty);exact⟨typeIs_int s i t,λ_ e=>nomatch e⟩
 |ref p=>
  cases r;rcases ty with⟨rfl,m,l⟩ |⟨rfl,o,d,h,hd⟩ |⟨rfl,d⟩ |⟨rfl,S,n,d⟩
  .obtain⟨its,_,pl,_⟩:=I.list l;refine⟨pl.isList.typeIs,λa e=>?_⟩;cases e;obtain⟨o,n,e,c,hd,_⟩:=pl;exact⟨o,e,hd⟩
  .refine⟨⟨o,I.kIn p o d,h⟩,λa e=>?_⟩;cases e;exact⟨o,I.kIn _ o d,hd⟩
  .have z:∃o,s.heap.get? p=some o/\o.ExactDict:=by
    rcases d with⟨g,d⟩ |⟨g,d⟩
    .obtain⟨_,_,_,_,o,_,_,e,ex,_⟩:=I.hok p _ d;exact⟨o,e,ex⟩
    .obtain⟨_,_,_,_,o,_,_,e,ex,_⟩:=I.hok p _ d;exact⟨o,e,ex⟩
   obtain⟨o,e,ex⟩:=z;refine⟨⟨o,e,ex.1⟩,λa f=>?_⟩;cases f;exact⟨o,e,ex.2.1⟩
  .obtain⟨o,_,_,_,e,ex,_⟩:=I.hok p _ d;refine⟨⟨o,e,ex.1⟩,λa f=>?_⟩;cases f;exact⟨o,e,ex.2.1⟩
 |_=>exact False.elim ty
def tBM(K:W.Frag)(T:String)(r:V->List V->Hp->VK->Prop)(d:TE)(t:TA):TE:=λj H Q=>d j H λx c=>tyV K T x c/\t j c λe f=>r x e f Q
variable{o e:Expr}{es:List Expr}{to:TE}{t:TA}{name:Str}{apos cpos:Pos}{T id:String}{r:V->List V->Hp->VK->Prop}
theorem w's(n:PlainAttrs T)(slot:Slot T name id)(l:typeOf (.builtin id)=pure (.type "method_descriptor"))(u:MtR X id r)(A:PE X o to)(p:PA X (e::es) t)(f:attributeBase o name X.env (eval o X.env)=eval o X.env:=by rfl)(g:((backTo cpos (starEach (e::es) X.env)).all (λx=>!x.1)&&(backToKw cpos (keywordEach [] X.env)).all (λx=>x.1.isSome)
   && decide ((e::es).length+([]:List Keyword).length+(if ([]:List Keyword).isEmpty then 0 else 1)<30))=true:=by rfl)(d:(apos.endLine == cpos.line)=true:=by rfl)(hs:starEach (e::es) X.env=(false,eval e X.env)::starEach es X.env:=by rfl)(c:(backTo cpos (starEach es X.env)).any (·.1)=false:=by rfl):
  PE X (.Call (.Attribute o name apos) (e::es) [] cpos) (tBM X.K T r to t):=by
 intro pins s j H Q I h;refine wpAny_Call_method_late f g d rfl (thn (A pins s j H _ I h) λv w ⟨x,H1,I1,r1,ty,q1⟩=>?_);obtain⟨q,y⟩:=u's I1 r1 ty;refine⟨T,id,n,slot,l,q,y,?_⟩;have m:=p cpos pins w j H1 _ I1 q1;rw[hs] at m ⊢;refine Calls.callWith_builtin (by show (false || (backTo cpos (starEach es X.env)).any (·.1))=false;rw[c]<;>rfl) (Calls.evalArgs_plain ?_);exact thn m λus z ⟨vs,H2,I2,r2,q2⟩=>u pins z j H2 x vs v us Q I2 r1 r2 q2
end
def MtM(X:Cx)(id:String)(r:V->List V->Hp->VK->Prop):Prop:=
 ∀(pins:List (Addr×Obj))(s:Shared)(j:St)(H:Hp)(x:V)(a:List V)(v:Value)(us:List Value)(Q:VK),Inv X pins j H s->RelV x v->Vals a us->r x a H Q->
  wpAny (model X.prog X.w) X.A (call (.builtin id) (v::us)) (EP X pins j Q) X.xe s
theorem Vals.one:∀{x:V}{us:List Value},Vals [x] us->∃u,us=[u]/\RelV x u
 |_,_,.cons r .nil=>⟨_,rfl,r⟩
theorem Vals.rep(h:Vals xs us):∀k:Nat,Vals (List.replicate k xs).flatten (List.replicate k us).flatten
 |0=>.nil
 |k + 1=>by
  rw[List.replicate_succ,List.replicate_succ,List.flatten_cons,List.flatten_cons];exact Vals.append h (Vals.rep h k)
section
variable{X:Cx}{pins:List (Addr×Obj)}{σ:St}{H:Hp}{s:Shared}{l b:Addr}{xs ys zs:List V}
theorem Inv.lset{its its':List Value}{n:Nat}{f:Array Value->Array Value}{t':Nat}(I:Inv X pins σ H s)(d:H l=some (.lst xs))(e:s.heap.get? l=some { cls:=.type "list",data:=.seq its.toArray n })(c:f its.toArray=its'.toArray)(h:Vals ys its')(hz:ys.length<=sizeLine):
  Inv X pins σ (upd H l (.lst ys)) { s with heap:=s.heap.update l (Obj.mapSeq f),toks:=t' }:=by
 have q:=PySem.IsL.update e f;rw[c] at q;refine I.write (x:=l) (e:=l) (by rw[d];exact trivial) (.inl rfl) (λj u a g=>(Heap.get?_update_other s.heap (Obj.mapSeq f) (Ne.symm a)).trans g) ⟨_,q⟩ ?_;exact⟨hz,its',_,h,q⟩
theorem Inv.lnew(I:Inv X pins σ H s)(a:Vals ys its)(hz:ys.length<=sizeLine):
  Inv X pins σ (upd H s.heap.objs.size (.lst ys)) { s with heap:=s.heap.push { cls:=.type "list",data:=.seq its.toArray },toks:=t' }:=
 I.laid (λ_ _ q=>Heap.get?_push_of_some _ q) (le_refl _) ⟨hz,its,0,a,Heap.get?_push_size _ rfl⟩
theorem Inv.fresh(I:Inv X pins σ H s):H s.heap.objs.size=none:=I.hok.fresh (le_refl _)
theorem Inv.lstM(I:Inv X pins σ H s)(a:H l=some (.lst xs)):xs.length<=sizeLine/\∃(its:List Value)(n:Nat),Vals xs its/\xs.length=its.length/\s.heap.get? l=some { cls:=.type "list",data:=.seq its.toArray n }:=by
 obtain⟨z,its,n,r,e⟩:=I.hok l _ a;exact⟨z,its,n,r,r.length,e⟩
end
section
variable{X:Cx}
def aeS:V->List V->Hp->VK->Prop:=λx vs H Q=>∃l a y,x=.ref l/\vs=[y]/\H l=some (.lst a)/\a.length<sizeLine/\Q .non (upd H l (.lst (a++[y])))
theorem m'f:MtM X "list.append" aeS:=by
 intro pins s j H x vs v us Q I f c h;obtain⟨l,m,y,rfl,rfl,b,g,q⟩:=h;cases f;obtain⟨u,rfl,d⟩:=c.one;obtain⟨z,a,n,r,o,e⟩:=I.lstM b;refine call_meets F.slot_list_append ⟨_,e,rfl⟩ F.entry_list_append (F.args_list_append_2 _ _) (PySem.list_append l a.toArray n u (by rw[size_toArray];omega)) ⟨e,?_⟩;refine⟨.non,_,I.lset (its':=a++[u]) b e (by simp) (r.append (.cons d .nil)) ?_,rfl,q⟩;rw[length_append,List.length_singleton];omega
end
end L2
namespace Att
open PySem PySem.W PySem.Calls PyProof.Rows
theorem f'c:∀(ns:List Int)(vs:List Value),WellAll P h vs (ns.map WData.int)->IntsAre vs ns:=by
 intro ns
 induction ns with
 |nil=>
  intro vs w;rw[List.map_nil] at w;cases w;exact .nil
 |cons n ns c=>
  intro vs w;rw[map_cons] at w;cases w with
  |cons a b=>
   cases a;exact .cons _ _ (c _ b)
theorem m'g{l:OpenLaw}{n:Nat}(v:l.most=some n){P:Params}{h:Heap}{args:List WData}{b:List Value}(c:l.row.toRowW.claim.pre args=true)(m:WellAll P h b args):
  ∃a vs ns,b=[Value.ref a]/\args=[WData.list (ns.map WData.int)]/\h.get? a=some { cls:=.type "list",data:=.seq vs.toArray }/\IntsAre vs ns/\ns.length<=n:=by
 have o:WShape.hasAll [] args [.list .int]=true:=(pre_splitW c).1;have p:l.pre.holds [] { args:=args }=true:=(pre_splitW c).2;obtain⟨d,r,rfl,u,x⟩:=hasAllW_cons o;obtain rfl:=hasAllW_nil x;obtain⟨B,rfl,w⟩:=hasW_list u;obtain⟨ns,rfl⟩:=items_int w;have e:ns.length<=n:=by
  unfold OpenLaw.pre at p;have g:(WTm.not (.lt (.lit (.int (n:Int))) (.len (.arg 0)))).holds [] { args:=[.list (ns.map .int)] }=true:=by
   have g:=(holds_andW p).1;rw[v] at g;exact g
  have j:=condW_of g (w_not (w_lt w_lit (w_len_list (w_arg rfl))));rw[length_map] at j;refine Nat.le_of_not_lt λq=>?_
  have A:(n:Int)<((ns.length:Nat):Int):=by omega
  first
   |(rw[decide_eq_true A] at j;exact absurd j (by decide))
   |(simp at j;omega)
 cases m with
 |cons s y=>
  cases y;cases s with
  |list z f=>exact⟨_,_,ns,rfl,rfl,z,f'c ns _ f,e⟩
theorem m'h(l:OpenLaw)(args:List WData):l.row.toRowW.claim.post args (.bool true) args=true:=
 postW_of (r:=l.row.toRowW) (X:=(true == true))
  (show WShape.has [] (.bool true) .bool=true by first |rfl |decide |simp[WShape.has,WShape.arms,WShape.armsAll])
  (show (WTm.eq .res (.lit (.bool true))).value [] { args:=args,res:=some (.bool true),after:=args }=some (.bool (true == true)) from w_eq_bool (w_res rfl) w_lit) rfl
theorem attach_call{l:OpenLaw}{n:Nat}{q:Program}{c:List Str}{B:(Str->Option Value)->Heap->Prop}{z:World->Heap->Prop}{d:DefRec}(I:l.most=some n)(u:d.params.defaults=[])(call:∀(w:World)(s₀ b:Shared)(mg v:Str->Option Value)(g:Addr)(o:Obj)(pm p doc:Value)(a:Addr)(vs:List Value)(ns:List Int),
   Ground q c [] B w s₀ mg v b.heap->z w b.heap->
   b.heap.get? g=some o->o.data=.func (docDef d.name d.params d.body d.scope pm p doc)->b.heap.CodeRec p d.name->mg d.name=some (.ref g)->
   b.heap.get? a=some { cls:=.type "list",data:=.seq vs.toArray }->IntsAre vs ns->ns.length<=n->b.gens=#[]->
   codeAny (model l.prog w) callerA (.call (.ref g) ⟨[.ref a],[]⟩) (λr s'=>r=.ok (.ret (.bool true))/\OldK b.heap s'.heap/\s'.os=b.os/\AllBare s'.gens) b):
  WalkO q c B z l.row.toRowW d [] (λf vs=>PySem.call f vs):=by
 intro w s₀ b mg v G Y g o pm p doc O kV ho hd s D y N args C as m A E x J;obtain rfl:O=.none:=Dflts.none D u;obtain rfl:kV=.none:=Dflts.noKw D;obtain⟨a,vs,ns,rfl,rfl,j,e,h⟩:=m'g I m x;refine enter_call (codeAny_mono (call w s₀ b mg v g o pm p doc a vs ns G Y ho (fd_plain hd) s y j e h N) λr s' L=>?_);obtain⟨rfl,U,Q,M⟩:=L;exact⟨.inl ⟨.bool true,.bool true,[],rfl,λ_=>rfl,.bool true,m'h l _,λ_=>⟨List.Pairwise.nil,λ_ H=>(nomatch H)⟩⟩,U,Q,M⟩
end Att
namespace L2
open PySem PySem.Spec PyProof.Rows
theorem g'x:∀{vs:List Value}{ns:List Int},IntsAre vs ns->Vals (ns.map V.int) vs
 |_,_,.nil=>.nil
 |_,_,.cons n t h=>.cons ⟨t,rfl⟩ (g'x h)
def aid(H:Hp):Prop:=∀b,H b=none\/∃o a,H b=some (.frz o (.lst a))
theorem o'L{P:Program}{w:World}{K:W.Frag}{mg N:Str->Option Value}{CX:CXT}{k:Nat}{J a:Addr}{Y:FuncData}{x:Str}{sp:Sp}{c:Shared}{vs:List Value}{ns:List Int}(KX:K.In c.heap)(C:c.heap.Ns mainGlobals mg)(g:c.heap.Ns builtinsNs N)(Q:∀x:Str,x≠"__name__"->N x=bootBuiltins x)(y:c.heap.NoLimit)(hg:c.gens=#[])(I:c.heap.get? a=some { cls:=.type "list",data:=.seq vs.toArray })(hi:IntsAre vs ns)(hl:ns.length<=sizeLine)(hr:Room k callerA)(F:∀base:Heap,K.In base->base.Ns mainGlobals mg->FnOk P w K mg base CX k J Y [x] sp)(l:∀(s:Shared)(u:Value),BindsTo s Y ⟨[u],[]⟩ [(x,u)])(L:∀H:Hp,aid H->SqL K H a (ns.map V.int)->sp [.ref a] H (λv _=>v=.bl true) λ_ _ _=>False)(O:∀H e s',CX [] H c (λ_ _ _=>False) e s'->False):
  codeAny (model P w) callerA (.call (.ref J) ⟨[.ref a],[]⟩) (λr s'=>r=.ok (.ret (.bool true))/\OldK c.heap s'.heap/\s'.os=c.os/\AllBare s'.gens) c:=by
 have rv:=g'x hi;have B:=hi.length;have core:∀H:Hp,aid H->SqL K H a (ns.map V.int)->HOk P w H c.heap->(∀b,H b≠none->b=a)->(H a≠none->K.lookup a=none)->
   codeAny (model P w) callerA (.call (.ref J) ⟨[.ref a],[]⟩) (λr s'=>r=.ok (.ret (.bool true))/\OldK c.heap s'.heap/\s'.os=c.os/\AllBare s'.gens) c:=by
  intro H hO hS hok hA hK;have f:∀{b:Addr}{o:Obj},c.heap.get? b=some o->H b=none->(afo c.heap H).get? b=some o:=λe n=>o'x e n
  have U:∀{b:Addr}{o:Obj}{A:Array DictEntry}{G:Nat},c.heap.get? b=some o->o.data=.dict A G->H b=none:=λ{b o A G} e d=>by
   cases q:H b with
   |none=>rfl
   |some u=>
    have M:b=a:=hA b (by rw[q];simp);subst M;rw[I] at e;cases e;have d':Data.seq vs.toArray _=Data.dict A G:=d;cases d'
  have j:∀{b:Addr}{m:Str->Option Value},c.heap.Ns b m->(afo c.heap H).Ns b m:=λ{b m} ⟨o,A,G,e,d,r⟩=>⟨o,A,G,f e (U e d),d,r⟩
  have E:K.In (afo c.heap H):=λb o e=>f (KX b o e) (by
   cases q:H b with
   |none=>rfl
   |some u=>
    have M:b=a:=hA b (by rw[q];simp);subst M;rw[hK (by rw[q];simp)] at e;cases e)
  have hM:Mod K mg (afo c.heap H):=⟨E,j C,⟨N,j g,Q⟩,let ⟨mc,h1,h2⟩:=y;⟨mc,j h1,h2⟩⟩
  have e0:Env0 P w K mg (afo c.heap H) callerA [] c H:=⟨rfl,hM,λb o e=>r'I e,Nat.le_of_eq (l'M _ _),trivial,λb g=>absurd (show b∈([]:List Addr) from g) (by simp),hok,.of_eq hg⟩
  refine codeAny_mono ((F _ E (j C)).run callerA [] c H ⟨[.ref a],[]⟩ [.ref a] [.ref a] _ _ hr e0 (l c (.ref a)) (.cons rfl .nil) (L H hO hS)) λr s' h=>?_
  cases r with
  |error e=>exact (O H e s' h).elim
  |ok fl=>
   cases fl with
   |next=>exact False.elim h
   |brk=>exact False.elim h
   |cont=>exact False.elim h
   |ret u=>
    obtain⟨v,H',os,bare,un,D,r',q⟩:=h;have q':v=.bl true:=q;subst q';obtain rfl:u=Value.bool true:=r';refine⟨rfl,OldK.of_keep λb o e=>?_,os,bare⟩;cases q:H b with
    |none=>exact un.keep b o e q (by intro z;exact absurd (show b∈([]:List Addr) from z) (by simp)) (by simp)
    |some u=>
     rcases hO b with z |⟨ob,xs,z⟩
     .rw[q] at z;cases z
     .have z2:=un.frzs b ob _ z;obtain⟨e1,_⟩:=hok b _ z;obtain⟨e2,_⟩:=D b _ z2;rw[e] at e1;cases e1;exact e2
 cases hk:K.lookup a with
 |some o=>
  have e:=KX a o hk;rw[I] at e;cases e;refine core (λ_=>none) (λ_=>.inl rfl) (.inr ⟨_,vs.toArray,_,hk,rfl,rfl,rfl,by rw[size_toArray,B];exact hl,by simpa using rv⟩) (λb u z=>by have p:(none:Option HO)=some u:=z;cases p) (λb z=>absurd rfl z) λz=>absurd rfl z
 |none=>
  refine core (λb=>if b=a then some (.frz { cls:=.type "list",data:=.seq vs.toArray } (.lst (ns.map V.int))) else none) (λb=>?_) (.inl (.inr ⟨{ cls:=.type "list",data:=.seq vs.toArray },if_pos rfl⟩)) (λb u z=>?_) (λb z=>?_) λ_=>hk
  .by_cases g:b=a
   .exact .inr ⟨_,_,if_pos g⟩
   .exact .inl (if_neg g)
  .by_cases g:b=a
   .have p:=(if_pos g).symm.trans z;cases p;subst g;exact⟨I,by rw[length_map];exact hl,vs,_,rv,I⟩
   .have p:=(if_neg g).symm.trans z;cases p
  .by_cases g:b=a
   .exact g
   .exact absurd (if_neg g) z
theorem walk_of{l:W.OpenLaw}{n k:Nat}{q:Program}{j:List Str}{U:(Str->Option Value)->Heap->Prop}{I:World->Heap->Prop}{d:DefRec}{K:Params->W.Frag}{CX:World->CXT}{sp:World->Sp}{x:Str}(N:l.most=some n)(B:n<=sizeLine)(C:d.params.defaults=[])(hr:Room k callerA)(hY:∀(w:World)(h:Heap),I w h->(K w.params).In h)(F:∀(w:World)(mg:Str->Option Value)(y:Addr)(h:Heap),(K w.params).In h->h.Ns mainGlobals mg->mg d.name=some (.ref y)->
   ∃z:FuncData,(∀(s:Shared)(u:Value),BindsTo s z ⟨[u],[]⟩ [(x,u)])/\
    ∀base:Heap,(K w.params).In base->base.Ns mainGlobals mg->FnOk l.prog w (K w.params) mg base (CX w) k y z [x] (sp w))(A:∀(w:World)(H:Hp)(a:Addr)(ns:List Int),ns.length<=n->aid H->SqL (K w.params) H a (ns.map V.int)->sp w [.ref a] H (λv _=>v=.bl true) λ_ _ _=>False)(E:∀(w:World)(H:Hp)(s:Shared)(e:Value)(s':Shared),CX w [] H s (λ_ _ _=>False) e s'->False):
  W.WalkO q j U I l.row.toRowW d [] (λf vs=>PySem.call f vs):=by
 refine Att.attach_call N C λw s₀ p mg mb y o pm cd doc a vs ns G Y ho hd M D r m c Q=>?_
 have J:=hY w _ Y;obtain⟨z,hb,O⟩:=F w mg y _ J G.T.g D;exact o'L J G.T.g G.T.b G.T.builtins G.T.nolimit Q r m (le_trans c B) hr O hb (λH hO L=>A w H a ns c hO L) λH e s'=>E w H p e s'
def inClass(s:Stmt)(j:Nat):Stmt:=match s with
 |.ClassDef _ _ _ a _ _ _ _ _ _ _=>a.getD j (.Pass ⟨0,0,0,0⟩)
 |_=>.Pass ⟨0,0,0,0⟩
def adw(s:Stmt):Arguments:=match s with
 |.FunctionDef _ a _ _ _ _ _ _ _ _=>a
 |_=>{ posonlyargs:=[],args:=[],vararg:=none,kwonlyargs:=[],kw_defaults:=[],kwarg:=none,defaults:=[] }
def acA(s:Stmt):List Stmt:=match s with
 |.FunctionDef _ _ b _ _ _ _ _ _ _=>b
 |_=>[]
def ach(s:Stmt):Scope:=match s with
 |.FunctionDef _ _ _ _ _ _ sc _ _ _=>sc
 |_=>{ kind:=.function,names:=[],isGenerator:=false,isCoroutine:=false }
abbrev CX0:CXT:=λ_ _ _ _ _ _=>False
abbrev E0:XK:=λ_ _ _=>False
theorem f'd:adT CX0 X E0:=λ_ _ _ _ _ _ _ h=>h.elim
structure Fun(K:W.Frag)(x qual:Str)(st:Stmt)(f:Addr)(fd:FuncData):Prop where
 ex:∃(oc:Value)(od:Option Addr)(kV doc pm:Value)(an:Option Addr)(cdv ct:Value)(osl:Array (Option Value)),
  fd=W.fnOf x qual (adw st) (acA st) (ach st) .none kV doc pm an cdv ct/\K.lookup f=some ⟨oc,od,.func fd,osl⟩/\W.codeIn K cdv qual=true
 kp:W.keepIn K (.ref f)=true
section
variable{P:Program}{w:World}{K:W.Frag}{mg:Str->Option Value}{base:Heap}
theorem Fun.ok{x a:Str}{st:Stmt}{f:Addr}{g:FuncData}{N e:List Str}{k:Nat}{sp:Sp}(F:Fun K x a st f g)(S:aci N e (ach st))(len:∀vs H Q E,sp vs H Q E->vs.length=e.length)(b:∀(cdv:Value)(A:Around)(outer:List Env)(s:Shared)(H:Hp)(vs:List V)(Q:VK)(E:XK),Room k (A.deeper (envOfC a (ach st) s.heap.objs.size f cdv))->sp vs H Q E->
   ∃t,PSs (aeO CX0 P w K mg base N a (ach st) f cdv A outer s H E).nox (acA st) t/\t { nx:=λ_ j=>Q .non j,rt:=Q } (start N vs) H):FnOk P w K mg base CX0 (k+1) f g e sp:=by
 obtain⟨oc,od,kV,doc,pm,an,cdv,ct,osl,rfl,l,d⟩:=F.ex;refine q'q l d S len λA outer s H vs Q E m c=>?_
 obtain⟨t,h,q⟩:=b cdv A outer s H vs Q E m c;exact⟨t,h.nox,q⟩
theorem Fun.binds{x a:Str}{st:Stmt}{f:Addr}{c:FuncData}{b:List Str}(F:Fun K x a st f c)(h:∀(kV doc pm:Value)(an:Option Addr)(cdv ct:Value)(us:List Value),us.length=b.length->bindArgs (W.fnOf x a (adw st) (acA st) (ach st) .none kV doc pm an cdv ct) ⟨us,[]⟩=pure (b.zip us)):Binds K c b []:=by
 obtain⟨oc,od,kV,doc,pm,an,cdv,ct,osl,rfl,e,d⟩:=F.ex;exact .all (h kV doc pm an cdv ct)
theorem u't{x a:Str}{st:Stmt}{f:Addr}{oc:Value}{od an:Option Addr}{osl:Array (Option Value)}{kV doc pm cdv ct:Value}(l:K.lookup f=some ⟨oc,od,.func (W.fnOf x a (adw st) (acA st) (ach st) .none kV doc pm an cdv ct),osl⟩)(c:W.codeIn K cdv a=true)(k:W.keepIn K (.ref f)=true):Fun K x a st f (W.fnOf x a (adw st) (acA st) (ach st) .none kV doc pm an cdv ct):=⟨⟨oc,od,kV,doc,pm,an,cdv,ct,osl,rfl,l,c⟩,k⟩
end
theorem a'l(a:Room k A):A.units+1<cLine:=Nat.lt_of_le_of_lt (Nat.add_le_add_left (by decide:1<=64) _) a.units
section
variable{X:Cx}
theorem pv(i:Nat)(b:X.N[i]?=some x:=by rfl)(c:Vis X.env.scope x:=by first |exact Or.inl rfl |exact Or.inr (Or.inl rfl) |exact Or.inr (Or.inr rfl))(hd:(x == ("__debug__":Str))=false:=by decide)(a:(x == ("__classdict__":Str))=false:=by decide):PE X (.Name x pos) (adZ i):=e'W b c hd a
end
def Same(H H':Hp):Prop:=∀b o,H b=some o->H' b=some o
theorem Same.refl(H:Hp):Same H H:=λ_ _ h=>h
theorem Same.trans(a:Same H H1)(b:Same H1 H2):Same H H2:=λc o h=>b c o (a c o h)
theorem Same.free{H a:Hp}(e:Same H a)(h:a l=Option.none):H l=Option.none:=by
 cases q:H l with
 |none=>rfl
 |some o=>
  rw[e l o q] at h;cases h
theorem Same.seq{K:W.Frag}{H b:Hp}{a:Addr}{xs:List V}(e:Same H b)(h:SqL K H a xs):SqL K b a xs:=by
 rcases h with (h |⟨o,h⟩) |h
 .exact .inl (.inl (e _ _ h))
 .exact .inl (.inr ⟨o,e _ _ h⟩)
 .exact .inr h
section
variable{X:Cx}
theorem m'i:CallR X (.builtin "len") (λxs H Q=>∃a kvs,xs=[V.ref a]/\H a=some (.dK kvs)/\Q (.int kvs.length) H):=by
 intro pins s j H xs us Q I r h;obtain⟨a,kvs,rfl,b,q⟩:=h;obtain⟨u,rfl,d⟩:=b'w r;cases d;exact w'q I (.inl b) λt e c=>⟨.int kvs.length,H,c,⟨t,rfl⟩,q⟩
end
end L2
set_option Elab.async false
set_option linter.all false
set_option maxRecDepth 100000
set_option maxHeartbeats 4000000
namespace L2
open PySem PySem.Spec PyProof.Rows
def CMulB(i j:Int):Prop:=∃n:Nat,n<=60000000/\i.natAbs<2 ^ n/\j.natAbs<2 ^ n
theorem j's(h:x.natAbs<2 ^ n):Builtin.Int.intBits x<=n:=by
 unfold Builtin.Int.intBits;by_cases e:(x == 0)=true
 .rw[if_pos e];exact zero_le _
 .rw[if_neg e];have a:x.natAbs≠0:=by
   intro z;have:x=0:=by omega
   rw[this] at e;exact e rfl
  exact (Nat.log2_lt a).mpr h
theorem CMulB.ok(h:CMulB i j):IntMulOk i j:=by
 obtain⟨n,d,b,a⟩:=h;have f:=j's b;have g:=j's a;intro z;simp only[and_eq_true,Builtin.Int.intTooBig,decide_eq_true_eq] at z;have e:(bitsLine:Nat)=134217728:=by decide
 have c:=z.2;rw[e] at c;omega
def adX(i j:Int):Prop:=CMul i j\/CMulB i j
def CDivB(_ j:Int):Prop:=j≠0/\j.natAbs<2 ^ 8000
theorem CDivB.ok(h:CDivB i j):Builtin.divisionGoesByPylong i j=false:=by
 refine PyProof.noPylong_of_log2 ?_;have a:j.natAbs≠0:=by have:=h.1;omega
 have:=(Nat.log2_lt a).mpr h.2;omega
section
variable{X:Cx}
theorem agd:OpR X (binaryOp .Mult) (rI adX λi j=>.int (i*j)):=opI λ_ _ _ _ _ _ _ a q=>mul_int q (a.elim CMul.ok CMulB.ok)
theorem o'M:OpR X (binaryOp .FloorDiv) (rI CDivB λi j=>.int (i.fdiv j)):=opI λ_ _ _ _ _ _ _ a q=>floordiv_int a.1 q (.inl a.ok)
end
section
variable{X:Cx}{pins:List (Addr×Obj)}{σ:St}{H:Hp}{s:Shared}{a:Addr}{kvs:List (Key×V)}
theorem Inv.freeze(I:Inv X pins σ H s)(e:H a=some (.dK kvs)):∃o,s.heap.get? a=some o/\Inv X pins σ (upd H a (.frz o (.dK kvs))) s:=by
 have ok:ObjOk X.prog X.w H s.heap a (.dK kvs):=I.hok a _ e;obtain⟨z,y,vs,r,o,d,f,b,c⟩:=id ok;refine⟨o,b,?_⟩;exact I.write (h':=s.heap) (t':=s.toks) (x:=a) (e:=a) (by rw[e];exact True.intro) (.inl rfl) (λ_ _ _ q=>q) ⟨o,b⟩ ⟨b,z,y,vs,r,o,d,f,b,c⟩
theorem Inv.thaw(I:Inv X pins σ H s)(e:H a=some (.frz o (.dK kvs)))(v:∀o u,X.H₀ a≠some (.frz o u)):Inv X pins σ (upd H a (.dK kvs)) s:=by
 have ne:∀b u,H b=some u->(∀o r,u≠.frz o r)->b≠a:=λb u h d z=>by
  subst z;rw[e] at h;exact d _ _ (Option.some.inj h).symm
 obtain⟨C,ok⟩:=(show ObjOk X.prog X.w H s.heap a (.frz o (.dK kvs)) from I.hok a _ e);refine⟨I.ok,I.os,I.bare,⟨λb f q n j g=>I.base.keep b f q n j g,λb f q n j g=>I.base.slot b f q n j g,λb f q n g=>?_,λb f q g=>I.base.there b f q g,λb l q=>?_,λb f u q=>?_,λb A q=>?_⟩,I.loc,I.cell,?_,λx c q=>?_,λp B=>?_,λb u q=>?_,I.len⟩
 .have z:=I.base.free b f q n g;rw[a'e (by intro y;subst y;rw[e] at z;cases z)];exact z
 .have z:=I.base.tups b l q;rw[a'e (ne b _ z (λ_ _ y=>by cases y))];exact z
 .have z:=I.base.frzs b f u q;rw[a'e (by intro y;subst y;exact v _ _ q)];exact z
 .obtain⟨m,z⟩:=I.base.tbls b A q;exact⟨m,by rw[a'e (ne b _ z (λ_ _ y=>by cases y))];exact z⟩
 .rw[a'e (by intro y;have z:=I.free;rw[y,e] at z;cases z)];exact I.free
 .rw[a'e (by intro y;have z:=I.freeC x c q;rw[y,e] at z;cases z)];exact I.freeC x c q
 .obtain⟨p1,p2,p3,p4,p5⟩:=I.pin p B;refine⟨p1,?_,p3,p4,p5⟩;rw[a'e (by intro y;rw[y,e] at p2;cases p2)];exact p2
 .by_cases j:b=a
  .subst j;rw[a'g] at q;cases q;exact ok
  .rw[a'e j] at q;exact (I.hok b u q).stay (λ_ _ _ z=>z) (λc z=>by rw[a'e (ne c _ z (λ_ _ y=>by cases y))];exact z) λc l z=>by rw[a'e (ne c _ z (λ_ _ y=>by cases y))];exact z
end
def Itd(a:Addr)(ob:Obj)(kvs:List (Key×V)):It:=
 ⟨λi H=>i<kvs.length/\H a=some (.frz ob (.dK kvs)),λi H x b=>∃p k v,kvs[i]?=some (k,v)/\H p=none/\x=.ref p/\b=upd H p (.tup [kV k,v]),λi H=>kvs.length<=i/\H a=some (.frz ob (.dK kvs))⟩
theorem e'A(h:(acn P w).is k u=true):RelV (kV k) u:=by
 rcases a'J (k:=k) (v:=u) h with⟨i,t,rfl,rfl⟩ |⟨x,t,rfl,rfl⟩
 .exact⟨t,rfl⟩
 .exact⟨t,rfl⟩
theorem KV.at(r:KV kvs vs):∀{i:Nat}{k:Key}{v:V},kvs[i]?=some (k,v)->∃u,vs[i]?=some (k,u)/\RelV v u:=by
 unfold KV at r
 induction r with
 |nil=>intro i k v h;simp at h
 |@cons p q c d h t b=>
  intro i k v e;cases i with
  |zero=>
   simp at e;subst e;have a:k=q.1:=h.1;exact⟨q.2,by rw[a];rfl,h.2⟩
  |succ i=>simpa using b (i:=i) (k:=k) (v:=v) (by simpa using e)
theorem l'd{P:Program}{w:World}{K:W.Frag}{elts:List Expr}{x1:Nat}{pos:Pos}(a it:Addr)(ob:Obj)(kvs:List (Key×V))(δ:a≠it):
  afk P w K (.Tuple elts x1 pos) (Itd a ob kvs) [it] it (λi h=>∃f ep ok ov,ob.data=.dict f ep/\IsItemIter h it a i kvs.length ep ok ov) where
 mem:=by simp
 obj:=λi h st b l=>by
  have e:b=it:=by simpa using l
  subst e;obtain⟨f,ep,ok,ov,hd,e⟩:=st;exact⟨_,e,λv z=>by cases z⟩
 keep:=λi h h' st k=>by
  obtain⟨f,ep,ok,ov,hd,e⟩:=st;exact⟨f,ep,ok,ov,hd,k it (by simp) _ e⟩
 item:=by
  intro X M Y hK hc i pins s j H E I hf st hg;subst M Y hK;obtain⟨f,ep,ok,ov,hd,c⟩:=st;obtain⟨hi,hH⟩:=hg;obtain⟨G,z,y,vs,r,p,O,γ,d,c1,x,c3,c4,c5⟩:=(show ObjOk X.prog X.w H s.heap a (.frz ob (.dK kvs)) from I.hok a _ hH);have eo:p=ob:=by rw[G] at d;exact (Option.some.inj d).symm
  subst eo;rw[hd] at x;cases x;have N:s.heap.DictAt (acn X.prog X.w) a vs ep:=⟨p,f,G,c1,hd,c3,c4,c5⟩;obtain⟨⟨k,v⟩,m⟩:∃q,kvs[i]?=some q:=⟨kvs[i],by simp[hi]⟩;obtain⟨u,hu,ru⟩:=r.at m;have L:kvs.length=vs.length:=KV.length r;rw[L] at c;obtain⟨J,f1,f2,f3,f4,f5⟩:=hf it (by simp);refine wpAny_pyNext_items_item c N hu λg h' C D hT ε hk=>?_
  refine⟨.ref s.heap.objs.size,rfl,wpAny_letOwnedTupleGo_items D λh2 he hs=>?_⟩;have α:it<s.heap.objs.size:=Heap.lt_size c;have I1:=I.laid (a:=s.heap.objs.size) (o:=.tup [kV k,v]) (h':=s.heap.push { cls:=.type "tuple",data:=.seq #[g,u] }) (t':=s.toks) (λb q n=>Heap.get?_push_of_some _ n) (le_refl _)
   ⟨by show 2<=sizeLine;decide,[g,u],.cons (e'A C) (.cons ru .nil),⟨_,Heap.get?_push_size _ rfl,rfl,_,rfl⟩⟩
  have U:H s.heap.objs.size=none:=I.hok.fresh (le_refl _);have B:it≠s.heap.objs.size:=ne_of_lt α;refine⟨.ref s.heap.objs.size,upd H s.heap.objs.size (.tup [kV k,v]),?_,rfl,⟨_,k,v,m,U,rfl,rfl⟩,⟨f,ep,g,u,hd,by rw[L];exact he⟩,λb l=>?_⟩
  .have I2:Inv X pins j (upd H s.heap.objs.size (.tup [kV k,v])) { s with heap:=h2,toks:=s.toks }:=Inv.turned (s:={ s with heap:=s.heap.push { cls:=.type "tuple",data:=.seq #[g,u] },toks:=s.toks }) I1 (h':=h2) (t':=s.toks) (it:=it) (λb q l n=>?_) (by rw[a'e B];exact J) f1 f3 f4 f5
   .exact I2
   .refine hs.extBut b q l ?_;rcases Heap.get?_push_cases n with⟨β,eq⟩ |n
    .subst β;subst eq;exact hT
    .exact hk b q l n
  .have e:b=it:=by simpa using l
   subst e;rw[a'e B];exact J
 done:=by
  intro X M Y hK hc i pins s j H E I hf st hg;subst M Y hK;obtain⟨f,ep,ok,ov,hd,c⟩:=st;obtain⟨hi,hH⟩:=hg;obtain⟨G,z,y,vs,r,p,O,γ,d,c1,x,c3,c4,c5⟩:=(show ObjOk X.prog X.w H s.heap a (.frz ob (.dK kvs)) from I.hok a _ hH);have eo:p=ob:=by rw[G] at d;exact (Option.some.inj d).symm
  subst eo;rw[hd] at x;cases x;have N:s.heap.DictAt (acn X.prog X.w) a vs ep:=⟨p,f,G,c1,hd,c3,c4,c5⟩;have L:kvs.length=vs.length:=KV.length r;rw[L] at c;obtain⟨J,f1,f2,f3,f4,f5⟩:=hf it (by simp);exact wpAny_pyNext_items_end (I.ok.hd hc) c N (by simp;omega) λh' eb=>⟨rfl,I.turned (t':=s.toks) (λb o l e=>eb b o l e) J f1 f3 f4 f5⟩
 self:=λA i s Q E st h=>by
  obtain⟨f,ep,ok,ov,hd,c⟩:=st;exact W.kcp_self c h
section
variable{X:Cx}
def afQ(X:Cx)(e:TE):TI:=λj H R=>e j H λx c=>∃a b,x=.ref a/\c a=some (.dK b)/\∀d,(∀o u,X.H₀ a≠some (.frz o u))->R (Itd a d b) (upd c a (.frz d (.dK b)))
theorem o'N(U:PE X o td)(l:attributeBase o "items" X.env (eval o X.env)=eval o X.env)(g:(apos.endLine == cpos.line)=true):
  PI X (.Tuple elts x1 pos) (.Call (.Attribute o "items" apos) [] [] cpos) (afQ X td):=by
 intro pins s j H R I h;refine wpAny_Call_method0_late l g (thn (U pins s j H _ I h) λv f ⟨x,H1,I1,r1,a,kvs,ex,hH,q⟩=>?_);subst ex;obtain rfl:v=Value.ref a:=r1;obtain⟨D,M,hd⟩:=f'b I1 (.inl ⟨kvs,.inl hH⟩);refine⟨"dict","dict.items",PySem.F.plainAttrs_dict,PySem.F.slot_dict_items,PySem.F.type_dict_items,D,M,Calls.callWith_builtin rfl (PySem.evalArgs_none ?_)⟩;obtain⟨z,y,vs,r,G⟩:=h'a I1.hok hH;refine call_meetsIn PySem.F.slot_dict_items D PySem.F.entry_dict_items (PySem.F.args_dict_items_1 _) (meets_dict_items (acn X.prog X.w) a hd) ⟨⟨vs,G⟩,?_⟩;have A:Inv X pins j H1 { f with heap:=f.heap.push { cls:=.type "dict_items",data:=.fields #[.ref a] } }:=I1.kept (t':=f.toks) λb o e=>Heap.get?_push_of_some _ e
 have C:∀o u,X.H₀ a≠some (.frz o u):=λo u z=>by
  have:=I1.base.frzs a o u z;rw[hH] at this;cases this
 obtain⟨B,p⟩:=G.dictAt;have c:=p.push { cls:=.type "dict_items",data:=.fields #[.ref a] };refine wpAny_pyIter_items (v:=f.heap.objs.size) (d:=a) ⟨_,Heap.get?_push_size _ rfl,rfl,rfl⟩ c ?_;obtain⟨n,m,J⟩:=(A.kept (t':=f.toks) (h':=(f.heap.push { cls:=.type "dict_items",data:=.fields #[.ref a] }).push { cls:=.type "dict_itemiterator",data:=.fields #[.none,.bool false,.ref a,.int 0 0,.int vs.length 0,.int B 0,.none,.none] }) λb o e=>Heap.get?_push_of_some _ e).freeze hH;have E:a<(f.heap.push { cls:=.type "dict_items",data:=.fields #[.ref a] }).objs.size:=c.lt_size;have L:kvs.length=vs.length:=KV.length r;refine⟨_,[_],_,_,upd H1 a (.frz n (.dK kvs)),rfl,J,l'd a (f.heap.push { cls:=.type "dict_items",data:=.fields #[.ref a] }).objs.size n kvs (ne_of_lt E),?_,λb N=>?_,q n C⟩
 .obtain⟨o2,es,ho2,c1,c2,_⟩:=c;have O:n=o2:=by
   have Q:=Heap.get?_push_of_some { cls:=.type "dict_itemiterator",data:=.fields #[.none,.bool false,.ref a,.int 0 0,.int vs.length 0,.int B 0,.none,.none] } ho2;rw[Q] at m;exact (Option.some.inj m).symm
  subst O;refine⟨es,B,.none,.none,c2,?_⟩;rw[L];exact Heap.get?_push_size _ rfl
 .have e:b=(f.heap.push { cls:=.type "dict_items",data:=.fields #[.ref a] }).objs.size:=by simpa using N
  subst e;refine A.fpOk (le_refl _) ?_;rw[a'e (Nat.ne_of_gt E)];exact A.hok.fresh (le_refl _)
def agM(X:Cx)(R:Hp->Prop)(H:Hp):Prop:=∃a c b,H a=some (.frz c (.dK b))/\(∀o u,X.H₀ a≠some (.frz o u))/\R (upd H a (.dK b))
def age(X:Cx)(D:Ends):Ends:={ nx:=λj=>agM X (D.nx j),rt:=λv=>agM X (D.rt v),bk:=λj=>agM X (D.bk j),ct:=λj=>agM X (D.ct j) }
def ag7(X:Cx)(a:TE)(g:TG)(tb:TS):TS:=λD j H=>ah7 (afQ X a) g tb (age X D) j H
theorem s'b(hp:PassesOwn (model X.prog X.w) X.A X.env X.xe)(C:X.calm=true)(G:PE X o td)(B:PG X (.Tuple elts x1 pos) g)(E:PSs X body tb)(d:attributeBase o "items" X.env (eval o X.env)=eval o X.env:=by rfl)(l:(apos.endLine == cpos.line)=true:=by rfl)(hs:∀x,foldedSetIterable (.Call (.Attribute o "items" apos) [] [] cpos) X.env x=pure x:=by intro _;rfl):PS X (.For (.Tuple elts x1 pos) (.Call (.Attribute o "items" apos) [] [] cpos) body [] fpos) (ag7 X td g tb):=by
 intro pins s j H D I h;have base:=l'W (pos:=fpos) hp C (o'N (elts:=elts) (x1:=x1) (pos:=pos) G d l) B E hs pins s j H (age X D) I h;refine thn base λf J q=>?_
 cases f with
 |next=>obtain⟨n,p,b,a,y,m,e,c,r⟩:=q;exact⟨n,_,b.thaw e c,r⟩
 |brk=>obtain⟨n,p,b,a,y,m,e,c,r⟩:=q;exact⟨n,_,b.thaw e c,r⟩
 |cont=>obtain⟨n,p,b,a,y,m,e,c,r⟩:=q;exact⟨n,_,b.thaw e c,r⟩
 |ret u=>obtain⟨v,n,p,b,z,a,y,m,e,c,r⟩:=q;exact⟨v,n,_,b.thaw e c,z,r⟩
end
theorem m'j{a:Addr}{ob:Obj}{kvs:List (Key×V)}{g:TG}{tb:TS}{D:Ends}{j:St}{H:Hp}(Pv:Nat->St->Hp->Prop)(z:Pv 0 j H)(o:∀i j H,i<=kvs.length->Pv i j H->H a=some (.frz ob (.dK kvs)))(hs:∀i k v j H p,kvs[i]?=some (k,v)->Pv i j H->H p=none->g (.ref p) j (upd H p (.tup [kV k,v])) λd f=>tb { D with nx:=Pv (i+1),ct:=Pv (i+1),bk:=D.nx } d f)(hd:∀j H,Pv kvs.length j H->D.nx j H):
  ∃W:Nat->Nat->St->Hp->Prop,(∃m,W 0 m j H)/\∀i m j H,W i m j H->
   ((Itd a ob kvs).stop i H/\D.nx j H)\/((Itd a ob kvs).go i H/\∃N:St->Hp->Prop,(∀h b,N h b->∃l,l<m/\W (i+1) l h b)/\∀x b,(Itd a ob kvs).yld i H x b->g x j b λd f=>tb { D with nx:=N,ct:=N,bk:=D.nx } d f):=by
 refine⟨λi m j H=>m=kvs.length - i/\i<=kvs.length/\Pv i j H,⟨kvs.length,by simp,zero_le _,z⟩,?_⟩;rintro i m j H ⟨rfl,u,p⟩;have q:=o i j H u p;by_cases c:i<kvs.length
 .refine .inr ⟨⟨c,q⟩,Pv (i+1),λh b n=>⟨kvs.length - (i+1),by omega,rfl,c,n⟩,λx b y=>?_⟩;obtain⟨s,k,v,r,w,rfl,rfl⟩:=y;exact hs i k v j H s r p w
 .have e:i=kvs.length:=by omega
  subst e;exact .inl ⟨⟨le_refl _,q⟩,hd j H p⟩
section
variable{X:Cx}
theorem f'e:CallR X (.type "dict") (λxs H Q=>∃a kvs,xs=[.ref a]/\Rd H a (.dK kvs)/\∀p,H p=none->Q (.ref p) (upd H p (.dK kvs))):=by
 intro pins s j H xs us Q I r h;obtain⟨a,kvs,rfl,b,q⟩:=h;obtain⟨u,rfl,e⟩:=b'w r;cases e;exact o'I I b λp f d c=>⟨.ref p,_,c,rfl,q p d⟩
theorem l'e(hc:X.calm=true):CallR X (.type "list") (λxs H Q=>∃a kvs,xs=[.ref a]/\Rd H a (.dK kvs)/\∀p,H p=none->Q (.ref p) (upd H p (.lst (kvs.map λd=>kV d.1)))):=by
 intro pins s G H xs us Q I r h;obtain⟨a,kvs,rfl,L,q⟩:=h;obtain⟨u,rfl,ru⟩:=b'w r;cases ru;obtain⟨z,y,vs,l,Y⟩:=b'x I.hok L;obtain⟨ep,n⟩:=Y.dictAt;have E:kvs.length=vs.length:=KV.length l;refine W.kdl_call (W.kdl_dict (knd:=acn X.prog X.w) (kvs:=vs) (ep:=ep) y) (I.ok.hd hc) n (by rw[<- E];exact z) λh' U b O hk J c=>?_
 have A:H s.heap.objs.size=none:=I.hok.fresh (le_refl _);refine⟨.ref s.heap.objs.size,_,I.laid (a:=s.heap.objs.size) (o:=.lst (kvs.map λd=>kV d.1)) (h':=h') (t':=U) hk (le_refl _) ⟨by rw[length_map];exact z,b.toList,O,?_,by simpa using J⟩,rfl,q _ A⟩;have M:b.toList.length=vs.length:=by rw[length_toList];exact c.1
 have gen:∀(kvs:List (Key×V))(us:List Value),us.length=kvs.length->(∀(j:Nat) k v u,kvs[j]?=some (k,v)->us[j]?=some u->RelV (kV k) u)->Vals (kvs.map λd=>kV d.1) us:=by
  intro kvs
  induction kvs with
  |nil=>intro us e _;cases us with
   |nil=>exact .nil
   |cons _ _=>simp at e
  |cons p r N=>
   intro us e f;cases us with
   |nil=>simp at e
   |cons u us=>
    refine .cons (f 0 p.1 p.2 u rfl rfl) (N us (by simpa using e) λj k v w m B=>f (j+1) k v w (by simpa using m) (by simpa using B))
 refine gen kvs b.toList (by rw[M,E]) λj k v u m B=>?_
 obtain⟨k',x,D,g⟩:=c.2 j u (by rw[<- getElem?_toList];exact B);obtain⟨u',C,_⟩:=l.at m;rw[C] at D;cases D;exact e'A g
def aie:V->Option Value
 |.ty n=>some (.type n)
 |.ref a=>some (.ref a)
 |_=>none
end
def All2(R:V->V->Prop):List V->List V->Prop
 |[],[]=>True
 |x::xs,y::ys=>R x y /\ All2 R xs ys
 |_,_=>False
theorem All2.length:∀{xs ys:List V},All2 R xs ys->xs.length=ys.length
 |[],[],_=>rfl
 |_::xs,_::ys,h=>by rw[length_cons,length_cons,All2.length h.2]
 |[],_::_,h=>h.elim
 |_::_,[],h=>h.elim
theorem All2.get{R:V->V->Prop}:∀{xs ys:List V}{j:Nat}{x y:V},All2 R xs ys->xs[j]?=some x->ys[j]?=some y->R x y
 |x::xs,y::ys,0,_,_,h,e1,e2=>by simp at e1 e2;subst e1 e2;exact h.1
 |_::xs,_::ys,j + 1,x,y,h,e1,e2=>All2.get (xs:=xs) (ys:=ys) (j:=j) h.2 (by simpa using e1) (by simpa using e2)
 |[],[],_,_,_,_,e1,_=>by simp at e1
 |[],_::_,_,_,_,h,_,_=>h.elim
 |_::_,[],_,_,_,h,_,_=>h.elim
def EqT(K:W.Frag)(H:Hp):Nat->V->V->Prop
 |0,x,y=>adf x=true /\ x=y
 |n + 1,x,y=>(adf x=true /\ x=y) \/ ∃p q a b,x=.ref p /\ y=.ref q /\ ((SqT K H p a /\ SqT K H q b) \/ (SqL K H p a /\ SqL K H q b)) /\ All2 (EqT K H n) a b
theorem d'i(h:adf x=true):eqV x x=true:=by
 cases x<;>first |rfl |(simp[eqV];done) |(simp[adf] at h)
theorem a'Y(A:Around):A.in1.units=A.units+1:=rfl
section
variable{X:Cx}{pins:List (Addr×Obj)}{σ:St}{H:Hp}{s:Shared}
theorem u'u(I:Inv X pins σ H s)(D:(SqT X.K H p xs/\SqT X.K H q ys)\/(SqL X.K H p xs/\SqL X.K H q ys))(o:A.units<cLine)(G:xs.length=ys.length)(he:∀(j:Nat) x y u v,xs[j]?=some x->ys[j]?=some y->RelV x u->RelV y v->SeqAt.EqAt A.in1 s u v true):SeqAt.RcAt A s (.ref p) (.ref q) true:=by
 have g:∀(b a:List Value),Vals xs b->Vals ys a->∀j (d:j<b.toArray.size) (f:j<a.toArray.size),SeqAt.EqAt A.in1 s b.toArray[j] a.toArray[j] true:=by
  intro b a c r2 j d f;have n:=c.length;have r:=r2.length;simp only[size_toArray] at d f;obtain⟨u,h,E⟩:=c.get (i:=j) (x:=xs[j]'(by omega)) (by simp);obtain⟨v,l,w⟩:=r2.get (i:=j) (x:=ys[j]'(by omega)) (by simp);have C:b.toArray[j]'(by simpa using d)=u:=by
   have:=List.getElem?_eq_some_iff.mp h;obtain⟨_,z⟩:=this;simpa using z
  have B:a.toArray[j]'(by simpa using f)=v:=by
   have:=List.getElem?_eq_some_iff.mp l;obtain⟨_,z⟩:=this;simpa using z
  rw[C,B];exact he j _ _ u v (by simp) (by simp) E w
 rcases D with⟨d,f⟩ |⟨d,f⟩
 .obtain⟨b,c,t1,_⟩:=I.tuple d;obtain⟨a,r2,m,_⟩:=I.tuple f;have n:=c.length;have r:=r2.length;have z:=SeqAt.RcAt.tuples (A:=A) (e:=λ_=>true) t1 m o (g b a c r2);have e:((List.range (min b.toArray.size a.toArray.size)).all (λ_=>true)&&b.toArray.size == a.toArray.size)=true:=by
   simp only[size_toArray];simp;omega
  rw[e] at z;exact z
 .obtain⟨b,c,t1,_⟩:=I.list d;obtain⟨a,r2,m,_⟩:=I.list f;have n:=c.length;have r:=r2.length;have z:=SeqAt.RcAt.lists (A:=A) (e:=λ_=>true) t1.isList m.isList (by simp;omega) o (g b a c r2);have e:(List.range b.toArray.size).all (λ_=>true)=true:=by simp
  rw[e] at z;exact z
theorem m'k(I:Inv X pins σ H s):∀(n:Nat){A:Around}{x y:V}{u v:Value},EqT X.K H n x y->RelV x u->RelV y v->A.units+n<cLine->SeqAt.EqAt A s u v true
 |0,A,x,y,u,v,⟨f,e⟩,ru,rv,_=>by
  subst e;have z:=b'K (A:=A) (s:=s) ru rv f f;rw[d'i f] at z;exact z
 |n + 1,A,x,y,u,v,.inl ⟨f,e⟩,ru,rv,_=>by
  subst e;have z:=b'K (A:=A) (s:=s) ru rv f f;rw[d'i f] at z;exact z
 |n + 1,A,x,y,u,v,.inr ⟨p,q,xs,ys,hx,hy,hk,al⟩,ru,rv,hu=>by
  subst hx hy;cases ru;cases rv;by_cases e:p=q
  .subst e;exact SeqAt.EqAt.same _
  .refine SeqAt.EqAt.of_refs e (u'u I hk (by omega) al.length λj x y u v c b a r2=>?_);exact m'k I n (A:=A.in1) (al.get c b) a r2 (by rw[a'Y];omega)
end
section
variable{X:Cx}
theorem l'f{kvs:List (Key×V)}{vs:List (Key×Value)}{k:Key}{y:V}(r:KV kvs vs)(e:adS kvs k=some y):∃u,valueAt vs k=some u/\RelV y u:=
 RelO.some_of (v:=y) (o:=valueAt vs k) (by rw[<- e];exact r.val k)
def ag8(K:W.Frag)(H:Hp)(n:Nat)(a b:List (Key×V)):Prop:=a.length=b.length/\∀k v,(k,v)∈a->∃y,adS b k=some y/\EqT K H n v y
theorem w't{pins:List (Addr×Obj)}{j:St}{H:Hp}{s:Shared}{A:Around}{n:Nat}{d:List (Key×V)}{e:List (Key×Value)}(I:Inv X pins j H s)(D:A.units+n<cLine)(o:KV d e):
  ∀{a:List (Key×V)}{b:List (Key×Value)},KV a b->(∀k v,(k,v)∈a->∃y,adS d k=some y/\EqT X.K H n v y)->W.KeqHits A s e b true:=by
 intro a b c;unfold KV at c
 induction c with
 |nil=>intro _;exact .nil
 |@cons p q E l h t w=>
  intro f;obtain⟨y,g,x⟩:=f p.1 p.2 (List.mem_cons_self ..);obtain⟨u,B,C⟩:=l'f o g;have z:=W.KeqHits.hit (A:=A) (s:=s) (k:=q.1) (v:=q.2) (y:=u) (r:=l) (by rw[<- h.1];exact B) (m'k I n (A:=A) x h.2 C D) (w λk v m=>f k v (mem_cons_of_mem _ m));simpa using z
end
section
variable{σ:St}{H:Hp}{Q:VK}{D:Ends}{K:W.Frag}
theorem Same.upd(h:H a=none):Same H (upd H a o):=λb u e=>by rw[a'e (a'x e h)];exact e
theorem Same.tup(e:Same H H')(h:SqT K H a xs):SqT K H' a xs:=by
 rcases h with (h |⟨o,h⟩) |h
 .exact .inl (.inl (e _ _ h))
 .exact .inl (.inr ⟨o,e _ _ h⟩)
 .exact .inr h
theorem Same.rd(e:Same H H')(h:Rd H a u):Rd H' a u:=by
 rcases h with h |⟨o,h⟩
 .exact .inl (e _ _ h)
 .exact .inr ⟨o,e _ _ h⟩
end
section
variable{σ:St}{H:Hp}{Q:VK}{D:Ends}{K:W.Frag}{X:Cx}
theorem Same.updN(e:Same H H')(n:H a=none):Same H (L2.upd H' a o):=λb u q=>by rw[a'e (a'x q n)];exact e b u q
end
def EqW(P:Program)(w:World)(A:Around)(s:Shared)(u v:Value):Prop:=∀(E:Value->Shared->Prop)(Q:Bool->Shared->Prop),Q true s->wpAny (model P w) A (eqBool u v) Q E s
def RcW(P:Program)(w:World)(A:Around)(s:Shared)(u v:Value):Prop:=∀(E:Value->Shared->Prop)(Q:Value->Shared->Prop),Q (.bool true) s->wpAny (model P w) A (richCompare .Eq u v) Q E s
section
variable{P:Program}{w:World}{A:Around}{s:Shared}
theorem EqW.of_at(h:SeqAt.EqAt A s u v true):EqW P w A s u v:=λE Q q=>h P w E Q q
theorem EqW.of_refs(h:RcW P w A s (.ref a) (.ref b)):EqW P w A s (.ref a) (.ref b):=λE Q q=>by
 by_cases e:a=b
 .subst e;exact SeqAt.EqAt.same _ P w E Q q
 .unfold eqBool;refine wpAny_holding (wpAny_ite_split (λz=>absurd (Value.ref.inj (eq_of_beq z)) e) λ_=>?_);exact wpAny_bind (h E _ (wpAny_truthy_bool q))
section
open PySem.AutoSeq1 (wpAny_loadPart')
theorem w'T(a b:Addr)(xs ys:Array Value)(n m:Nat)(H C:Option Addr)(sa sb:Array (Option Value))(hz:xs.size=ys.size):
  MeetsIn P w (Builtin.«tuple.__eq__» ⟨[.ref a,.ref b],[]⟩) (λA R s=>s.heap.get? a=some ⟨.type "tuple",H,.seq xs n,sa⟩/\s.heap.get? b=some ⟨.type "tuple",C,.seq ys m,sb⟩/\
   (∀j (I:j<xs.size) (L:j<ys.size),EqW P w A.in1 s xs[j] ys[j])/\R (.ok (.ret (.bool true))) s):=by
 refine .of_wp λA R s h=>?_
 obtain⟨B,g,d,v,os⟩:=s;obtain⟨o,G,q,D⟩:=h;have sub:=AutoSeq1.sub_tuple_tuple;have len:(xs.toList.zip ys.toList).length=xs.size:=by simp;omega
 wp_walk using wpAny_loadPart' o,wpAny_loadPart' G,wpAny_forIn_list _ (λr c l=>c.1=none/\l=⟨B,g,d,v,os⟩/\∃i,r=(xs.toList.zip ys.toList).drop i) _
 case turn=>
  rintro⟨x,y⟩ r c l ⟨f,rfl,i,e⟩;by_cases lt:i<(xs.toList.zip ys.toList).length
  .rw[List.drop_eq_getElem_cons lt] at e;injection e with e1 e2
   have E:i<xs.size:=by omega
   have p:i<ys.size:=by omega
   obtain⟨ex,u⟩:x=xs[i]/\y=ys[i]:=by
    have z:=Prod.mk.inj (e1.trans List.getElem_zip);exact⟨by simpa using z.1,by simpa using z.2⟩
   subst ex u;refine wpAny_bind (q i E p _ _ ?_)
   wp_walk
   exact⟨rfl,rfl,i+1,e2⟩
  .rw[List.drop_of_length_le (by omega)] at e;cases e
 case fin=>
  rintro⟨J,M⟩ l ⟨f,rfl,_⟩;simp only at f;subst f
  wp_walk
  refine⟨_,rfl,?_⟩;simpa [Builtin.Tuple.tupleCompareSizes,hz] using D
 case h=>exact⟨rfl,rfl,0,rfl⟩
end
theorem RcW.tuples(o:IsTup s.heap a xs)(p:IsTup s.heap b ys)(hz:xs.size=ys.size)(u:A.units<cLine)(he:∀j (v:j<xs.size) (y:j<ys.size),EqW P w A.in1 s xs[j] ys[j]):RcW P w A s (.ref a) (.ref b):=λE Q q=>by
 obtain⟨⟨ca,r,B,sa⟩,c,d,n,h⟩:=id o;obtain⟨⟨cb,l,x,sb⟩,f,e,m,g⟩:=id p;simp only at d h e g;subst d h e g;refine wpAny_richCompare_same_room (op:=.Eq) (T:="tuple") ⟨_,c,rfl⟩ ⟨_,f,rfl⟩ PySem.F.slot_tuple_eq ?_ u;exact call_meetsIn PySem.F.slot_tuple_eq ⟨_,c,rfl⟩ PySem.F.entry_tuple_eq (PySem.F.args_tuple_eq_2 _ _) (w'T a b xs ys n m r l sa sb hz) ⟨c,f,he,⟨(λz=>nomatch z),q⟩⟩
section
open PySem.AutoSeq1 (wpAny_loadPart')
open PySem.MeetsSeq PySem.MeetsSeq2 PySem.MeetsSeq3 PySem.SeqRoads2 PySem.SeqAt
theorem h'w(a b:Addr)(xs ys:Array Value)(n m:Nat)(v q:Option Addr)(sa sb:Array (Option Value))(hz:xs.size=ys.size):∀(k i:Nat),xs.size - i=k->
  MeetsIn P w (Builtin.«list.__eq__.loop» ⟨[.ref a,.ref b,rawInt i,rawInt 2],[]⟩) (λA R s=>s.heap.get? a=some ⟨.type "list",v,.seq xs n,sa⟩/\s.heap.get? b=some ⟨.type "list",q,.seq ys m,sb⟩/\
   (∀j (B:j<xs.size) (C:j<ys.size),EqW P w A.in1 s xs[j] ys[j])/\R (.ok (.ret (.bool true))) s)
 |0,i,hk=>λA R s h=>by
  obtain⟨z,g,d,y,os⟩:=s;obtain⟨c,e,f,l⟩:=h
  wp_walk using wpAny_loadPart' c,wpAny_loadPart' e
  have o:xs[((i:Nat):Int).toNat]?=none:=by simp;omega
  have p:ys[((i:Nat):Int).toNat]?=none:=by simp;omega
  rw[o,p]
  wp_walk using wpAny_loadPart' c,wpAny_loadPart' e
  show R (.ok (.ret (.bool (xs.size == ys.size)))) _;rw[hz,beq_self_eq_true];exact l
 |k + 1,i,hk=>λA R s h=>by
  obtain⟨z,g,d,y,os⟩:=s;obtain⟨c,e,f,l⟩:=h
  wp_walk using wpAny_loadPart' c,wpAny_loadPart' e
  have u:i<xs.size:=by omega
  have r:i<ys.size:=by omega
  have o:xs[((i:Nat):Int).toNat]?=some xs[i]:=by simp[u]
  have p:ys[((i:Nat):Int).toNat]?=some ys[i]:=by simp[r]
  rw[o,p];refine wpAny_bind (f i u r _ _ ?_)
  wp_walk
  have x:((i:Int)+1)=((i+1:Nat):Int):=Int.natCast_succ i;rw[x];refine⟨plainId_quiet plain_eq_loop _,codeAny_builtin entry_eq_loop ?_⟩;rw[Around.under_plainId plain_eq_loop _];exact h'w a b xs ys n m v q sa sb hz k (i+1) (by omega) A R _ ⟨c,e,f,l⟩
theorem w'U(a b:Addr)(xs ys:Array Value)(n m:Nat)(l c:Option Addr)(sa sb:Array (Option Value))(hz:xs.size=ys.size):
  MeetsIn P w (Builtin.«list.__eq__» ⟨[.ref a,.ref b],[]⟩) (λA R s=>s.heap.get? a=some ⟨.type "list",l,.seq xs n,sa⟩/\s.heap.get? b=some ⟨.type "list",c,.seq ys m,sb⟩/\
   (∀j (q:j<xs.size) (r:j<ys.size),EqW P w A.in1 s xs[j] ys[j])/\R (.ok (.ret (.bool true))) s):=λA R s h=>by
 obtain⟨v,g,d,u,os⟩:=s;obtain⟨e,f,o,p⟩:=h;have sub:=AutoSeq1.sub_list_list;have same:¬ (xs.size != ys.size)=true:=by simp[hz]
 wp_walk using wpAny_loadPart' e,wpAny_loadPart' f
 refine⟨plainId_quiet plain_eq_loop _,codeAny_builtin entry_eq_loop ?_⟩;rw[Around.under_plainId plain_eq_loop _];exact h'w a b xs ys n m l c sa sb hz _ 0 rfl A R _ ⟨e,f,o,p⟩
end
theorem RcW.lists(o:s.heap.IsList a xs)(p:s.heap.IsList b ys)(hz:xs.size=ys.size)(u:A.units<cLine)(he:∀j (v:j<xs.size) (y:j<ys.size),EqW P w A.in1 s xs[j] ys[j]):RcW P w A s (.ref a) (.ref b):=λE Q q=>by
 obtain⟨⟨ca,r,B,sa⟩,c,d,n,h⟩:=id o;obtain⟨⟨cb,l,x,sb⟩,f,e,m,g⟩:=id p;simp only at d h e g;subst d h e g;refine wpAny_richCompare_same_room (op:=.Eq) (T:="list") ⟨_,c,rfl⟩ ⟨_,f,rfl⟩ PySem.F.slot_list_eq ?_ u;exact call_meetsIn PySem.F.slot_list_eq ⟨_,c,rfl⟩ PySem.F.entry_list_eq (PySem.F.args_list_eq_2 _ _) (w'U a b xs ys n m r l sa sb hz) ⟨c,f,he,⟨(λz=>nomatch z),q⟩⟩
end
def EqN(K:W.Frag)(H:Hp):Nat->V->V->Prop
 |0,x,y=>adf x=true /\ x=y
 |n + 1,x,y=>(adf x=true /\ x=y) \/ ∃p q,x=.ref p /\ y=.ref q /\ ((∃a b,((SqT K H p a /\ SqT K H q b) \/ (SqL K H p a /\ SqL K H q b)) /\ All2 (EqN K H n) a b) \/
   ∃c d,Rd H p (.dK c)/\Rd H q (.dK d)/\ag8 K H n c d)
section
variable{X:Cx}{pins:List (Addr×Obj)}{σ:St}{H:Hp}{s:Shared}
theorem s'c(I:Inv X pins σ H s)(z:(SqT X.K H p xs/\SqT X.K H q ys)\/(SqL X.K H p xs/\SqL X.K H q ys))(g:A.units<cLine)(E:xs.length=ys.length)(he:∀(j:Nat) x y u v,xs[j]?=some x->ys[j]?=some y->RelV x u->RelV y v->EqW X.prog X.w A.in1 s u v):RcW X.prog X.w A s (.ref p) (.ref q):=by
 have d:∀(us vs:List Value),Vals xs us->Vals ys vs->∀j (b:j<us.toArray.size) (c:j<vs.toArray.size),EqW X.prog X.w A.in1 s us.toArray[j] vs.toArray[j]:=by
  intro us vs a r2 j b c;have f:=a.length;have h:=r2.length;simp only[size_toArray] at b c;obtain⟨u,l,C⟩:=a.get (i:=j) (x:=xs[j]'(by omega)) (by simp);obtain⟨v,B,m⟩:=r2.get (i:=j) (x:=ys[j]'(by omega)) (by simp);obtain⟨_,o⟩:=List.getElem?_eq_some_iff.mp l;obtain⟨_,D⟩:=List.getElem?_eq_some_iff.mp B;have r:us.toArray[j]'(by simpa using b)=u:=by simpa using o
  have n:vs.toArray[j]'(by simpa using c)=v:=by simpa using D
  rw[r,n];exact he j _ _ u v (by simp) (by simp) C m
 rcases z with⟨b,c⟩ |⟨b,c⟩
 .obtain⟨us,a,t1,_⟩:=I.tuple b;obtain⟨vs,r2,e,_⟩:=I.tuple c;have f:=a.length;have h:=r2.length;exact RcW.tuples t1 e (by simp;omega) g (d us vs a r2)
 .obtain⟨us,a,t1,_⟩:=I.list b;obtain⟨vs,r2,e,_⟩:=I.list c;have f:=a.length;have h:=r2.length;exact RcW.lists t1.isList e.isList (by simp;omega) g (d us vs a r2)
theorem o'O(I:Inv X pins σ H s)(d:Rd H p (.dK ka))(m:Rd H q (.dK kb))(x:A.units+n+1<cLine)(h:ag8 X.K H n ka kb):RcW X.prog X.w A s (.ref p) (.ref q):=λE Q o=>by
 obtain⟨v,al⟩:=h;obtain⟨y,j,c,a,g⟩:=b'x I.hok d;obtain⟨z,f,b,r2,l⟩:=b'x I.hok m;have u:ka.length=c.length:=KV.length a;have B:kb.length=b.length:=KV.length r2;refine W.keq_eq (r:=true) j f g l (by omega) (λ_=>w't I (by rw[a'Y];omega) r2 a al) ?_;have e:(c.length == b.length&&true)=true:=by simp;omega
 rw[e];exact o
theorem m'l(I:Inv X pins σ H s):∀(n:Nat){A:Around}{x y:V}{u v:Value},EqN X.K H n x y->RelV x u->RelV y v->A.units+n+1<cLine->EqW X.prog X.w A s u v
 |0,A,x,y,u,v,⟨f,e⟩,ru,rv,_=>by
  subst e;have z:=b'K (A:=A) (s:=s) ru rv f f;rw[d'i f] at z;exact .of_at z
 |n + 1,A,x,y,u,v,.inl ⟨f,e⟩,ru,rv,_=>by
  subst e;have z:=b'K (A:=A) (s:=s) ru rv f f;rw[d'i f] at z;exact .of_at z
 |n + 1,A,x,y,u,v,.inr ⟨p,q,hx,hy,.inl ⟨xs,ys,hk,al⟩⟩,ru,rv,hu=>by
  subst hx hy;cases ru;cases rv;refine .of_refs (s'c I hk (by omega) al.length λj x y u v b a c r2=>?_);exact m'l I n (A:=A.in1) (al.get b a) c r2 (by rw[a'Y];omega)
 |n + 1,A,x,y,u,v,.inr ⟨p,q,hx,hy,.inr ⟨ka,kb,b,a,h⟩⟩,ru,rv,hu=>by
  subst hx hy;cases ru;cases rv;exact .of_refs (o'O I b a (by omega) h)
end
section
variable{X:Cx}
def ai2(K:W.Frag):R2:=λx y H Q=>∃n p q a b,n<=40/\x=.ref p/\y=.ref q/\((SqT K H p a/\SqT K H q b)\/(SqL K H p a/\SqL K H q b))/\All2 (EqN K H n) a b/\Q (.bl true) H
end
end L2
namespace Sf
def gd(a b:Int):Int:=(Int.gcd a b:Nat)
theorem s'd(a:Int)(h:0<=a):gd a 0=a:=by
 unfold gd;rw[Int.gcd_zero_right];omega
theorem u'v(c:0<=a)(d:0<b):gd b (a % b)=gd a b:=by
 unfold gd Int.gcd;have e:(a % b).natAbs=a.natAbs % b.natAbs:=by
  obtain⟨m,rfl⟩:=Int.eq_ofNat_of_zero_le c;obtain⟨n,rfl⟩:=Int.eq_ofNat_of_zero_le (Int.le_of_lt d);simp only[Int.natAbs_natCast];rw[<- Int.natCast_emod,Int.natAbs_natCast]
 rw[e,Nat.gcd_comm b.natAbs,Nat.gcd_comm a.natAbs,Nat.gcd_rec b.natAbs a.natAbs]
theorem d'A(h:b≠0):0<gd a b:=by
 unfold gd;have:=Int.gcd_pos_of_ne_zero_right a h;omega
theorem u'w(a b:Int):gd (a.natAbs:Int) (b.natAbs:Int)=gd a b:=by
 unfold gd;simp[Int.gcd]
theorem m'm(a:Int):(if a<0 then -a else a)=(a.natAbs:Int):=by split<;>omega
theorem s'e(a b:Int):gd (if a<0 then -a else a) (if b<0 then -b else b)=gd a b:=by
 rw[m'm,m'm,u'w]
def dv(t b:Int):Int:=if b<0 then -(gd t b) else gd t b
theorem q's(h:b≠0):dv t b≠0:=by
 have:=d'A (a:=t) h;unfold dv;split<;>omega
theorem h'x(t b:Int):gd t b ∣ t:=Int.gcd_dvd_left ..
theorem e'B(t b:Int):gd t b ∣ b:=Int.gcd_dvd_right ..
theorem o'P(t b:Int):dv t b ∣ t:=by
 unfold dv;split
 .exact Int.neg_dvd.mpr (h'x t b)
 .exact h'x t b
theorem o'Q(t b:Int):dv t b ∣ b:=by
 unfold dv;split
 .exact Int.neg_dvd.mpr (e'B t b)
 .exact e'B t b
theorem q't{x d:Int}(h:d ∣ x):x.fdiv d*d=x:=by
 rw[Int.fdiv_mul_cancel h]
theorem o'R{t b:Int}(h:b≠0):t.fdiv (dv t b)=(Rat.divInt t b).num:=by
 have hd:=q's (t:=t) h;refine Int.eq_of_mul_eq_mul_right hd ?_;rw[q't (o'P t b),Rat.num_divInt];have e:b.gcd t=t.gcd b:=Int.gcd_comm ..;rw[e];have d:((t.gcd b:Nat):Int) ∣ t:=Int.gcd_dvd_left ..;have j:=d'A (a:=t) h;unfold gd at j;unfold dv gd;rw[Int.mul_ediv_assoc _ d];obtain⟨k,f⟩:=d;generalize l:((t.gcd b:Nat):Int)=g at *;have c:t / g=k:=by rw[f];exact Int.mul_ediv_cancel_left k (by omega)
 rw[c];split
 .rename_i hb;rw[Int.sign_eq_neg_one_of_neg hb];grind
 .rename_i hb;rw[Int.sign_eq_one_of_pos (by omega)];grind
theorem o'S{t b:Int}(h:b≠0):b.fdiv (dv t b)=((Rat.divInt t b).den:Int):=by
 have hd:=q's (t:=t) h;refine Int.eq_of_mul_eq_mul_right hd ?_;rw[q't (o'Q t b),Rat.den_divInt,if_neg h];have e:b.gcd t=t.gcd b:=Int.gcd_comm ..;rw[e];have l:(t.gcd b) ∣ b.natAbs:=by rw[<- Int.ofNat_dvd_left];exact Int.gcd_dvd_right ..
 have j:=d'A (a:=t) h;unfold gd at j;unfold dv gd;obtain⟨k,d⟩:=l;have c:b.natAbs / t.gcd b=k:=by rw[d];exact Nat.mul_div_cancel_left k (by omega)
 rw[c];generalize t.gcd b=g at *;have f:(b.natAbs:Int)=(g:Int)*(k:Int):=by rw[d];exact Int.natCast_mul ..
 split<;>grind
theorem j't(q:Rat):0<(q.den:Int):=by have:=q.den_nz;omega
end Sf
namespace Sf
def Sm(n:Nat)(q:Rat):Prop:=q.num.natAbs<2 ^ n/\q.den<2 ^ n
theorem g'y(h:b≠0):(Rat.divInt t b).num.natAbs<=t.natAbs/\(Rat.divInt t b).den<=b.natAbs:=by
 obtain⟨m,l,j,g⟩:=Rat.divInt_num_den (n:=t) (d:=b) h (n':=(Rat.divInt t b).num) (d':=(Rat.divInt t b).den) (z':=(Rat.divInt t b).den_nz) (c:=(Rat.divInt t b).reduced) rfl;have a:1<=m.natAbs:=by omega
 have f:=congrArg Int.natAbs j;have e:=congrArg Int.natAbs g;rw[Int.natAbs_mul] at f e;rw[Int.natAbs_natCast] at e;constructor
 .rw[f];exact Nat.le_mul_of_pos_right _ a
 .rw[e];exact Nat.le_mul_of_pos_right _ a
theorem d'B(h:b≠0)(c:t.natAbs<2 ^ n)(a:b.natAbs<2 ^ n):Sm n (Rat.divInt t b):=
 ⟨Nat.lt_of_le_of_lt (g'y h).1 c,Nat.lt_of_le_of_lt (g'y h).2 a⟩
theorem l'g(a b:Rat):a+b=Rat.divInt (a.num*b.den+b.num*a.den) (a.den*b.den):=by
 rw[Rat.add_def',<- Rat.divInt_ofNat];rfl
theorem f'f(a b:Rat):a - b=Rat.divInt (a.num*b.den - b.num*a.den) (a.den*b.den):=by
 rw[Rat.sub_def',<- Rat.divInt_ofNat];rfl
theorem f'g(a b:Rat):a*b=Rat.divInt (a.num*b.num) (a.den*b.den):=by
 rw[Rat.mul_def',<- Rat.divInt_ofNat];rfl
theorem c'T(a b:Rat):(a.den*b.den:Int)≠0:=by
 have d:=j't a;have c:=j't b;exact Int.ne_of_gt (Int.mul_pos d c)
theorem u'x(b:x<2 ^ n)(a:y<2 ^ m):x*y<2 ^ (n+m):=by
 rw[Nat.pow_add];exact Nat.mul_lt_mul'' b a
theorem b'y{x y:Int}{n m:Nat}(b:x.natAbs<2 ^ n)(a:y.natAbs<2 ^ m):(x*y).natAbs<2 ^ (n+m):=by
 rw[Int.natAbs_mul];exact u'x b a
theorem l'h{x y:Int}{n:Nat}(b:x.natAbs<2 ^ n)(a:y.natAbs<2 ^ n):(x - y).natAbs<2 ^ (n+1):=by
 rw[Nat.pow_succ];omega
theorem c'p(h:Sm n q):(q.den:Int).natAbs<2 ^ n:=by rw[Int.natAbs_natCast];exact h.2
theorem up2{x:Int}{n m:Nat}(h:x.natAbs<2 ^ n)(k:n<=m):x.natAbs<2 ^ m:=lt_of_lt_of_le h (Nat.pow_le_pow_right (by decide) k)
theorem u'y{n m:Nat}{a b:Rat}(d:Sm n a)(c:Sm m b):Sm (n+m+1) (a - b):=by
 rw[f'f];refine d'B (c'T a b) ?_ ?_
 .refine l'h (b'y d.1 (c'p c)) ?_;rw[Nat.add_comm n m];exact b'y c.1 (c'p d)
 .exact up2 (b'y (c'p d) (c'p c)) (by omega)
theorem u'z(d:Sm n a)(c:Sm m b):Sm (n+m) (a*b):=by
 rw[f'g];exact d'B (c'T a b) (b'y d.1 c.1) (b'y (c'p d) (c'p c))
end Sf
namespace Sf
section
variable{κ:Type}[DecidableEq κ]
abbrev FL(κ:Type):=List (κ×Rat)
def gt(m:FL κ)(k:κ):Option Rat:=(m.find? λp=>decide (p.1=k)).map (·.2)
def dr(m:FL κ)(k:κ):FL κ:=m.filter λp=>decide (p.1≠k)
def sc(m:FL κ)(n:Rat):FL κ:=m.map λp=>(p.1,p.2*n)
def run(P:κ->Rat)(r:Rat)(m:FL κ):Rat:=m.foldl (λt p=>t+p.2*P p.1) r
end
end Sf
namespace Vc
open PySem L2 Sf
def Le(F b:Hp):Prop:=∀a u,(∀o w,u≠.frz o w)->Rd F a u->Rd b a u
theorem Le.refl(F:Hp):Le F F:=λ_ _ _ h=>h
theorem Le.trans(a:Le F G)(b:Le G H):Le F H:=λx u n h=>b x u n (a x u n h)
theorem Le.of(e:Same F F'):Le F F':=λa u _ h=>e.rd h
theorem Le.tup(e:Le F F')(h:SqT K F a xs):SqT K F' a xs:=by
 rcases h with h |h
 .exact .inl (e _ _ (by intro o w z;cases z) h)
 .exact .inr h
theorem Le.lst(e:Le F F')(h:SqL K F a xs):SqL K F' a xs:=by
 rcases h with h |h
 .exact .inl (e _ _ (by intro o w z;cases z) h)
 .exact .inr h
theorem Le.dic(e:Le F F')(h:Rd F a (.dK kvs)):Rd F' a (.dK kvs):=e _ _ (by intro o w z;cases z) h
def Fz(S:Addr->Prop)(F:Hp):Prop:=∀a o u,F a=some (.frz o u)->S a
abbrev S0:Addr->Prop:=λ_=>False
def aif(F:Hp):Addr->Prop:=λa=>∃o u,F a=some (.frz o u)
structure Gr0(F H F' H':Hp):Prop where
 h:Same H H'
 f:Same F F'
 s:Same F' H'
 n:∀a u,F' a=some u->F a=none->H a=none
structure Gr(F H F' H':Hp):Prop extends Gr0 F H F' H' where
 z:Fz (aif F) F'
theorem Gr0.refl(s:Same F H):Gr0 F H F H:=⟨Same.refl _,Same.refl _,s,(λa u h e=>by rw[h] at e;cases e)⟩
theorem Fz.refl(F:Hp):Fz (aif F) F:=λ_ o u h=>⟨o,u,h⟩
theorem Gr.of(g:Gr0 F H F' H')(z:Fz (aif F) F'):Gr F H F' H':=⟨g,z⟩
theorem Gr.le(g:Gr F H F' H'):Le F F':=.of g.f
theorem Gr.fz(g:Gr F H F' H')(c:Fz S F):Fz S F':=λa o u h=>by
 obtain⟨b,d,e⟩:=g.z a o u h;exact c a b d e
theorem Gr0.trans(a:Gr0 F H F1 H1)(b:Gr0 F1 H1 F2 H2):Gr0 F H F2 H2:=
 ⟨a.h.trans b.h,a.f.trans b.f,b.s,(λx u h e=>match q:F1 x with
  |none=>a.h.free (b.n x u h q)
  |some w=>a.n x w q e)⟩
theorem Gr0.tr(a:Gr0 F H F1 H1)(b:Gr F1 H1 F2 H2):Gr0 F H F2 H2:=a.trans b.toGr0
theorem Gr.own{F H a b:Hp}(g:Gr F H a b)(c:F o=none)(d:H o=some u):a o=none:=by
 cases q:a o with
 |none=>rfl
 |some w=>have:=g.n o w q c;rw[d] at this;cases this
theorem al{F H:Hp}{R:V->Hp->Prop}(j:Same F H)(l:∀x u,o≠.frz x u)(h:∀(p:Addr)(g f:Hp),Gr F H g f->g p=some o->R (.ref p) f):∀p,H p=none->R (.ref p) (upd H p o):=λp d=>by
 have m:F p=none:=j.free d;refine h p (upd F p o) (upd H p o) ⟨⟨Same.upd d,Same.upd m,?_,λa u e q=>?_⟩,λa x u e=>?_⟩ a'g
 .intro b u e;by_cases c:b=p
  .subst c;rw[a'g] at e ⊢;exact e
  .rw[a'e c] at e ⊢;exact j b u e
 .by_cases c:a=p
  .subst c;exact d
  .rw[a'e c,q] at e;cases e
 .by_cases c:a=p
  .subst c;rw[a'g] at e;exact absurd (Option.some.inj e) (l x u)
  .rw[a'e c] at e;exact⟨_,_,e⟩
theorem al1{F H:Hp}{R:Hp->Prop}(d:Same F H)(f:∀x u,o≠.frz x u)(hp:H p=none)(h:∀b a:Hp,Gr F H b a->b p=some o->R a):R (upd H p o):=by
 have:=al (R:=λv a=>∀q,v=.ref q->q=p->R a) d f (λq b a g e z c j=>by cases c;subst j;exact h b a g e) p hp;exact this p rfl rfl
theorem al2{F H:Hp}(b:Same F H)(d:∀x u,o≠.frz x u)(hp:H p=none):∃a,Gr F H a (upd H p o)/\a p=some o:=
 al1 (R:=λc=>∃a,Gr F H a c/\a p=some o) b d hp λa _ g e=>⟨a,g,e⟩
theorem frz{Fb Hb F H:Hp}(g:Gr0 Fb Hb F H)(l:Fz S F)(d:Hb p=none)(j:F p=none)(m:H p=some o)(r:∀x u,o≠.frz x u):∃c,Gr0 Fb Hb c H/\Fz S c/\Same F c/\c p=some o/\∀a,a≠p->c a=F a:=by
 refine⟨upd F p o,⟨g.h,g.f.trans (Same.upd j),?_,λa u e q=>?_⟩,λa x u e=>?_,Same.upd j,a'g,λ_ e=>a'e e⟩
 .intro b u e;by_cases d:b=p
  .subst d;rw[a'g] at e;cases e;exact m
  .rw[a'e d] at e;exact g.s b u e
 .by_cases hb':a=p
  .subst hb';exact d
  .rw[a'e hb'] at e;exact g.n a u e q
 .by_cases hb':a=p
  .subst hb';rw[a'g] at e;exact absurd (Option.some.inj e) (r x u)
  .rw[a'e hb'] at e;exact l a x u e
def fz(X:Hp)(a:Addr)(o:HO):Hp:=λb=>if b=a then (if X a=none then none else some o) else X b
theorem a'F{X:Hp}(h:b≠a):fz X a o b=X b:=by unfold fz;rw[if_neg h]
theorem b'h:fz X a o a=if X a=none then none else some o:=by unfold fz;rw[if_pos rfl]
theorem e'c{X:Hp}(h:fz X a o a=some u):X a≠none/\some o=some u:=by
 rw[b'h] at h;split at h
 .cases h
 .rename_i q;exact⟨q,h⟩
theorem w'u(z:HO)(c:Gr0 Fb Hb F H):Gr0 (fz Fb a z) (fz Hb a z) (fz F a z) (upd H a z):=by
 refine⟨λb u e=>?_,λb u e=>?_,λb u e=>?_,λb u e q=>?_⟩
 .by_cases hb:b=a
  .subst hb;rw[a'g];exact (e'c e).2
  .rw[a'F hb] at e;rw[a'e hb];exact c.h b u e
 .by_cases hb:b=a
  .subst hb;rw[b'h] at e ⊢;split at e
   .cases e
   .rename_i h;obtain⟨w,d⟩:=Option.ne_none_iff_exists'.mp h;rw[if_neg (by rw[c.f _ _ d];intro z;cases z)];exact e
  .rw[a'F hb] at e ⊢;exact c.f b u e
 .by_cases hb:b=a
  .subst hb;rw[a'g];exact (e'c e).2
  .rw[a'F hb] at e;rw[a'e hb];exact c.s b u e
 .by_cases hb:b=a
  .subst hb;rw[b'h] at e q ⊢;split at e
   .cases e
   .rename_i h;obtain⟨w,d⟩:=Option.ne_none_iff_exists'.mp h;split at q
    .rename_i hf;rw[if_pos (c.n _ _ d hf)]
    .cases q
  .rw[a'F hb] at e q ⊢;exact c.n b u e q
theorem h'b{F:Hp}(c:F a=none\/F a=some (.dK kvs)):Le F (fz F a (.frz ob (.dK kvs))):=λb u n h=>by
 by_cases d:b=a
 .subst d;rcases c with c |c
  .rcases h with h |⟨o,h⟩<;>(rw[c] at h;cases h)
  .rcases h with h |⟨o,h⟩
   .rw[c] at h;cases h;refine .inr ⟨ob,?_⟩;rw[b'h,if_neg (by rw[c];intro z;cases z)]
   .rw[c] at h;cases h
 .rcases h with h |⟨o,h⟩
  .exact .inl (by rw[a'F d];exact h)
  .exact .inr ⟨o,by rw[a'F d];exact h⟩
theorem thw{Fb Hb F H j v:Hp}{S:Addr->Prop}{R:Hp->Prop}(A:Gr0 Fb Hb F H)(E:H a=some (.dK kvs))(g:F a=none\/F a=some (.dK kvs))(y:Gr0 (fz Fb a (.frz ob (.dK kvs))) (fz Hb a (.frz ob (.dK kvs))) j v)(r:j a=fz F a (.frz ob (.dK kvs)) a)(D:Fz (λb=>b=a\/S b) j)(h:∀d l:Hp,Gr0 Fb Hb d l->Fz S d->Le j d->d a=F a->l a=some (.dK kvs)->(∀b,b≠a->d b=j b)->(∀b,b≠a->l b=v b)->R l):R (upd v a (.dK kvs)):=by
 have m:j  a=none\/j a=some (.frz ob (.dK kvs)):=by
  rw[r,b'h];split
  .exact .inl rfl
  .exact .inr rfl
 refine h (fz j a (.dK kvs)) (upd v a (.dK kvs)) ⟨λb u e=>?_,λb u e=>?_,λb u e=>?_,λb u e q=>?_⟩ (λb o u e=>?_) (λb u n e=>?_) ?_ a'g (λb c=>a'F c) (λb c=>a'e c)
 .by_cases c:b=a
  .subst c;rw[a'g];have:=A.h _ _ e;rw[E] at this;exact this
  .rw[a'e c];exact y.h b u (by rw[a'F c];exact e)
 .by_cases c:b=a
  .subst c;have p:=A.f _ _ e;rcases g with g |g
   .rw[g] at p;cases p
   .rw[g] at p;have C:j b=some (.frz ob (.dK kvs)):=by rw[r,b'h,if_neg (by rw[g];intro z;cases z)]
    rw[b'h,if_neg (by rw[C];intro z;cases z)];exact p
  .rw[a'F c];exact y.f b u (by rw[a'F c];exact e)
 .by_cases c:b=a
  .subst c;rw[a'g];exact (e'c e).2
  .rw[a'F c] at e;rw[a'e c];exact y.s b u e
 .by_cases c:b=a
  .subst c;rw[b'h] at e;split at e
   .cases e
   .rename_i hn;rw[r,b'h] at hn;split at hn
    .exact absurd rfl hn
    .rename_i hf;obtain⟨w,B⟩:=Option.ne_none_iff_exists'.mp hf;exact A.n _ _ B q
  .rw[a'F c] at e;have:=y.n b u e (by rw[a'F c];exact q);rw[a'F c] at this;exact this
 .by_cases c:b=a
  .subst c;cases (e'c e).2
  .rw[a'F c] at e;rcases D b o u e with x |x
   .exact absurd x c
   .exact x
 .by_cases c:b=a
  .subst c;rcases m with m |m
   .rcases e with e |⟨o,e⟩<;>(rw[m] at e;cases e)
   .rcases e with e |⟨o,e⟩
    .rw[m] at e;cases e;exact absurd rfl (n _ _)
    .rw[m] at e;cases e;refine .inl ?_;rw[b'h,if_neg (by rw[m];intro z;cases z)]
  .rcases e with e |⟨o,e⟩
   .exact .inl (by rw[a'F c];exact e)
   .exact .inr ⟨o,by rw[a'F c];exact e⟩
 .rw[b'h,r,b'h];rcases g with g |g<;>rw[g]
  .rfl
  .rfl
theorem e'd{F:Hp}(c:Fz S0 F)(h:Rd F a (.dK kvs)):F a=some (.dK kvs):=by
 rcases h with h |⟨o,h⟩
 .exact h
 .exact (c _ _ _ h).elim
abbrev Rep(j:Type):=Hp->V->j->Prop
def r2(K:W.Frag){j y:Type}(A:Rep j)(B:Rep y):Rep (j×y):=λF v x=>∃a c b,v=.ref a/\SqT K F a [c,b]/\A F c x.1/\B F b x.2
def r3(K:W.Frag){j y G:Type}(A:Rep j)(B:Rep y)(C:Rep G):Rep (j×y×G):=λF v x=>∃a d c b,v=.ref a/\SqT K F a [d,c,b]/\A F d x.1/\B F c x.2.1/\C F b x.2.2
def r5(K:W.Frag){j y G f g:Type}(A:Rep j)(B:Rep y)(C:Rep G)(D:Rep f)(E:Rep g):Rep (j×y×G×f×g):=λF v x=>∃a h e d c b,v=.ref a/\SqT K F a [h,e,d,c,b]/\A F h x.1/\B F e x.2.1/\C F d x.2.2.1/\D F c x.2.2.2.1/\E F b x.2.2.2.2
section
variable{α:Type}
def gtd(m:List (Str×α))(k:Str):Option α:=(m.find? λp=>decide (p.1=k)).map (·.2)
def ptd(m:List (Str×α))(k:Str)(y:α):List (Str×α):=if (m.any λp=>decide (p.1=k))=true then m.map (λp=>if p.1=k then (p.1,y) else p) else m++[(k,y)]
theorem s'f(e:p.1=k):gtd (p::r) k=some p.2:=by simp[gtd,find?_cons,e]
end
def bl(n:Nat):Nat:=if n=0 then 0 else Nat.log2 n+1
theorem ad6:n<2 ^ k↔bl n<=k:=by
 unfold bl;by_cases h:n=0
 .subst h;simp[Nat.two_pow_pos]
 .rw[if_neg h,<- Nat.log2_lt h];omega
theorem j'u(n:Nat):n<2 ^ bl n:=ad6.mpr (le_refl _)
def bi(x:Int):Nat:=bl x.natAbs
def bs(q:Rat):Nat:=max (bl q.num.natAbs) (bl q.den)
theorem w'v(h:bs q<=n):Sm n q:=⟨ad6.mpr (by unfold bs at h;omega),ad6.mpr (by unfold bs at h;omega)⟩
theorem l'i(h:Sm n q):bs q<=n:=by
 have b:=ad6.mp h.1;have a:=ad6.mp h.2;unfold bs;omega
theorem h'c(q:Rat):Sm (bs q) q:=w'v (le_refl _)
theorem h'y(a b:Rat):bs (a - b)<=bs a+bs b+1:=l'i (u'y (h'c a) (h'c b))
theorem h'z(a b:Rat):bs (a*b)<=bs a+bs b:=l'i (u'z (h'c a) (h'c b))
theorem b'z:bs 0=1:=by decide +kernel
theorem m'n:bs 1=1:=by decide +kernel
theorem f'h(h:x.natAbs<2 ^ k):bi x<=k:=ad6.mp h
theorem d'j(h:bi x<=k):x.natAbs<2 ^ k:=ad6.mpr h
theorem f'i(x y:Int):bi (x*y)<=bi x+bi y:=ad6.mp (b'y (j'u _) (j'u _))
theorem b'l(q:Rat):bi q.num<=bs q:=by unfold bi bs;omega
theorem a'K(q:Rat):bi (q.den:Int)<=bs q:=by unfold bi bs;rw[Int.natAbs_natCast];omega
theorem b'Y(h:b≠0)(c:bi t<=k)(a:bi b<=k):bs (Rat.divInt t b)<=k:=l'i (d'B h (d'j c) (d'j a))
theorem w'w(b:bi x<=60000000)(a:bi y<=60000000):adX x y:=.inr ⟨60000000,le_refl _,d'j b,d'j a⟩
section
variable{X:Cx}{pins:List (Addr×Obj)}{σ:St}{F H:Hp}{s:Shared}{Au:Around}
theorem s'g:∀{x y:V}{u:Value},RelV x u->RelV y u->x=y:=by
 intro x y u b a;cases x<;>cases y<;>simp only[RelV] at b a<;>first
  |rfl
  |(subst b;simp at a;subst a;rfl)
  |(subst b;simp at a;done)
  |(obtain⟨t,rfl⟩:=b;obtain⟨c,e⟩:=a;simp at e;rw[e.1])
  |(obtain⟨t,rfl⟩:=b;simp at a;done)
  |(obtain⟨t,rfl⟩:=a;simp at b;done)
theorem e'C:∀{xs ys:List V}{us:List Value},Vals xs us->Vals ys us->xs=ys
 |[],[],_,_,_=>rfl
 |_::_,_::_,_,.cons h t,.cons h' t'=>by rw[s'g h h',e'C t t']
 |[],_::_,_,h,h'=>by cases h;cases h'
 |_::_,[],_,h,h'=>by cases h';cases h
theorem s'h(I:Inv X pins σ H s)(g:SqT X.K H a xs)(f:SqT X.K H a ys):xs=ys:=by
 obtain⟨us,d,⟨o,h,q,n,j⟩,_⟩:=I.tuple g;obtain⟨l,r2,⟨p,c,r,m,b⟩,_⟩:=I.tuple f;rw[h] at c;cases c;rw[j] at b;injection b with e _
 have:us=l:=by simpa using e
 subst this;exact e'C d r2
theorem s'i(I:Inv X pins σ H s)(f:SqL X.K H a xs)(l:SqL X.K H a ys):xs=ys:=by
 obtain⟨us,d,p1,_⟩:=I.list f;obtain⟨j,r2,p2,_⟩:=I.list l;obtain⟨n,g,o,m,h⟩:=p1.isList;obtain⟨q,b,r,p,c⟩:=p2.isList;rw[g] at b;cases b;rw[h] at c;injection c with e _
 have:us=j:=by simpa using e
 subst this;exact e'C d r2
theorem j'v(I:Inv X pins σ H s)(d:SqT X.K H a xs)(f:SqT X.K H b ys)(r:Au.units<cLine)(E:xs.length=ys.length)(e:Nat->Bool)(he:∀(j:Nat) x y u v,xs[j]?=some x->ys[j]?=some y->RelV x u->RelV y v->SeqAt.EqAt Au.in1 s u v (e j)):SeqAt.RcAt Au s (.ref a) (.ref b) ((List.range xs.length).all e):=by
 obtain⟨us,l,m,_⟩:=I.tuple d;obtain⟨c,r2,w,_⟩:=I.tuple f;have D:=l.length;have G:=r2.length;have z:=SeqAt.RcAt.tuples (A:=Au) (e:=e) m w r (λj d f=>?_)
 .have e0:((List.range (min us.toArray.size c.toArray.size)).all e&&us.toArray.size == c.toArray.size)=(List.range xs.length).all e:=by
   simp only[size_toArray];have g:min us.length c.length=xs.length:=by omega
   have h:(us.length == c.length)=true:=by simp;omega
   rw[g,h,Bool.and_true]
  rw[e0] at z;exact z
 .simp only[size_toArray] at d f;obtain⟨u,g,B⟩:=l.get (i:=j) (x:=xs[j]'(by omega)) (by simp);obtain⟨v,h,n⟩:=r2.get (i:=j) (x:=ys[j]'(by omega)) (by simp);obtain⟨_,p⟩:=List.getElem?_eq_some_iff.mp g;obtain⟨_,C⟩:=List.getElem?_eq_some_iff.mp h;have q:us.toArray[j]'(by simpa using d)=u:=by simpa using p
  have o:c.toArray[j]'(by simpa using f)=v:=by simpa using C
  rw[q,o];exact he j _ _ u v (by simp) (by simp) B n
theorem j'w(I:Inv X pins σ H s)(c:SqL X.K H a xs)(d:SqL X.K H b ys)(w:Au.units<cLine)(E:xs.length=ys.length)(e:Nat->Bool)(he:∀(j:Nat) x y u v,xs[j]?=some x->ys[j]?=some y->RelV x u->RelV y v->SeqAt.EqAt Au.in1 s u v (e j)):SeqAt.RcAt Au s (.ref a) (.ref b) ((List.range xs.length).all e):=by
 obtain⟨us,f,h,_⟩:=I.list c;obtain⟨q,r2,B,_⟩:=I.list d;have g:=f.length;have G:=r2.length;have z:=SeqAt.RcAt.lists (A:=Au) (e:=e) h.isList B.isList (by simp;omega) w (λj c d=>?_)
 .have e0:(List.range us.toArray.size).all e=(List.range xs.length).all e:=by
   simp only[size_toArray];rw[<- g]
  rw[e0] at z;exact z
 .simp only[size_toArray] at c d;obtain⟨u,l,C⟩:=f.get (i:=j) (x:=xs[j]'(by omega)) (by simp);obtain⟨v,r,m⟩:=r2.get (i:=j) (x:=ys[j]'(by omega)) (by simp);obtain⟨_,o⟩:=List.getElem?_eq_some_iff.mp l;obtain⟨_,D⟩:=List.getElem?_eq_some_iff.mp r;have p:us.toArray[j]'(by simpa using c)=u:=by simpa using o
  have n:q.toArray[j]'(by simpa using d)=v:=by simpa using D
  rw[p,n];exact he j _ _ u v (by simp) (by simp) C m
end
theorem o'T(a:RelV (.int i) u)(r2:RelV (.int j) v):SeqAt.EqAt Au s u v (decide (i=j)):=by
 have z:=b'K (A:=Au) (s:=s) a r2 rfl rfl;have e:eqV (.int i) (.int j)=decide (i=j):=by show (i == j)=_;rw[Bool.beq_eq_decide_eq]
 rw[e] at z;exact z
theorem h'A:∀{n:Nat}{x y:V},EqT K H n x y->EqT K H (n+1) x y
 |0,_,_,h=>.inl h
 |n + 1,_,_,.inl h=>.inl h
 |n + 1,_,_,.inr ⟨p,q,b,a,h1,h2,h3,h4⟩=>.inr ⟨p,q,b,a,h1,h2,h3,by
  have gen:∀{b a:List V},All2 (EqT K H n) b a->All2 (EqT K H (n+1)) b a:=by
   intro b
   induction b with
   |nil=>intro a h;cases a with
    |nil=>exact True.intro
    |cons _ _=>exact h.elim
   |cons x b c=>intro a h;cases a with
    |nil=>exact h.elim
    |cons y a=>exact⟨h'A h.1,c h.2⟩
  exact gen h4⟩
theorem h'B(h:EqT K H n x y)(k:n<=m):EqT K H m x y:=by
 induction k with
 |refl=>exact h
 |step _ a=>exact h'A a
theorem s'j(h:ag8 K H n ka kb):ag8 K H (n+1) ka kb:=⟨h.1,λk v m=>by obtain⟨y,b,a⟩:=h.2 k v m;exact⟨y,b,h'A a⟩⟩
theorem m'o:∀{n:Nat}{x y:V},EqN K H n x y->EqN K H (n+1) x y
 |0,_,_,h=>.inl h
 |n + 1,_,_,.inl h=>.inl h
 |n + 1,_,_,.inr ⟨p,q,h1,h2,.inr ⟨ka,kb,g1,g2,g3⟩⟩=>.inr ⟨p,q,h1,h2,.inr ⟨ka,kb,g1,g2,s'j g3⟩⟩
 |n + 1,_,_,.inr ⟨p,q,h1,h2,.inl ⟨b,a,h3,h4⟩⟩=>.inr ⟨p,q,h1,h2,.inl ⟨b,a,h3,by
  have gen:∀{b a:List V},All2 (EqN K H n) b a->All2 (EqN K H (n+1)) b a:=by
   intro b
   induction b with
   |nil=>intro a h;cases a with
    |nil=>exact True.intro
    |cons _ _=>exact h.elim
   |cons x b c=>intro a h;cases a with
    |nil=>exact h.elim
    |cons y a=>exact⟨m'o h.1,c h.2⟩
  exact gen h4⟩⟩
theorem o'U(h:EqN K H n x y)(k:n<=m):EqN K H m x y:=by
 induction k with
 |refl=>exact h
 |step _ a=>exact m'o a
end Vc
namespace L2
open PySem PySem.Spec PyProof.Rows
def acV(env:Env)(cs:List (Str×Addr))(y:Str×NameKind):List (Str×Addr):=if (y.2 == .free)=true then (match env.cells.lookup y.1 with |some a=>(y.1,a)::cs |none=>cs) else cs
def afl(a:Scope)(env:Env):List (Str×Addr):=a.names.foldl (acV env) []
def adN(a:Scope)(env:Env):Bool:=a.names.all λy=>!(y.2 == .free) || (env.cells.lookup y.1).isSome
theorem c'G(h:adN scope env=true):closureFor scope env=pure (afl scope env):=by
 unfold closureFor afl;unfold adN at h;have gen:∀(l:List (Str×NameKind))(b:List (Str×Addr)),(l.all λy=>!(y.2 == .free) || (env.cells.lookup y.1).isSome)=true->
   (forIn l b λx r=>match x with |(name,kind)=>if (kind == NameKind.free)=true then (do let a <- cellOf env name;pure (ForInStep.yield ((name,a)::r))) else pure (ForInStep.yield r):Sem (List (Str×Addr)))=pure (l.foldl (acV env) b):=by
  intro l
  induction l with
  |nil=>intro b _;rfl
  |cons y r g=>
   intro b d;rw[all_cons,and_eq_true] at d;obtain⟨n,k⟩:=y;rw[List.forIn_cons,List.foldl_cons];by_cases c:(k == NameKind.free)=true
   .have h1:=d.1;simp only[c,Bool.not_true,Bool.false_or] at h1;obtain⟨a,e⟩:=isSome_iff_exists.mp h1;have f:acV env b (n,k)=(n,a)::b:=by unfold acV;simp[c,e]
    have j:cellOf env n=pure a:=by unfold cellOf;rw[e]
    rw[f,<- g _ d.2];simp only[c,if_true,j,pure_bind]
   .have f:acV env b (n,k)=b:=by unfold acV;simp[c]
    rw[f,<- g _ d.2];simp only[c,if_false,pure_bind,false_eq_true]
 have:=gen scope.names [] h;simp only[this,pure_bind]
theorem b'C(h:(afl scope env).lookup x=some c):env.cells.lookup x=some c:=by
 unfold afl at h;have gen:∀(l:List (Str×NameKind))(b:List (Str×Addr)),(b.lookup x=some c->env.cells.lookup x=some c)->(l.foldl (acV env) b).lookup x=some c->env.cells.lookup x=some c:=by
  intro l
  induction l with
  |nil=>intro b f g;exact f g
  |cons y r j=>
   intro b f g;rw[List.foldl_cons] at g;refine j _ (λz=>?_) g;unfold acV at z;split at z
   .split at z
    .rename_i a e;rw[lookup_cons] at z;by_cases d:(x == y.1)=true
     .rw[d] at z;have:=eq_of_beq d;subst this;simp at z;rw[<- z];exact e
     .simp only[d] at z;exact f z
    .exact f z
   .exact f z
 exact gen scope.names [] (λz=>by cases z) h
theorem h'C(g:adN scope env=true)(h:scope.names.lookup x=some .free):∃c,(afl scope env).lookup x=some c:=by
 unfold afl;unfold adN at g;have keep:∀(l:List (Str×NameKind))(b:List (Str×Addr)),(∃c,b.lookup x=some c)->∃c,(l.foldl (acV env) b).lookup x=some c:=by
  intro l
  induction l with
  |nil=>intro b f;exact f
  |cons y r j=>
   intro b f;rw[List.foldl_cons];refine j _ ?_;unfold acV;split
   .split
    .rw[lookup_cons];by_cases d:(x == y.1)=true
     .rw[d];exact⟨_,rfl⟩
     .simp only[d];exact f
    .exact f
   .exact f
 have gen:∀(l:List (Str×NameKind))(b:List (Str×Addr)),(l.all λy=>!(y.2 == .free) || (env.cells.lookup y.1).isSome)=true->l.lookup x=some .free->∃c,(l.foldl (acV env) b).lookup x=some c:=by
  intro l
  induction l with
  |nil=>intro b _ f;cases f
  |cons y r j=>
   intro b g f;rw[all_cons,and_eq_true] at g;obtain⟨n,k⟩:=y;rw[List.foldl_cons];rw[lookup_cons] at f;by_cases d:(x == n)=true
   .rw[d] at f;have:=eq_of_beq d;subst this;simp at f;subst f;refine keep r _ ?_;have m:(env.cells.lookup x).isSome=true:=g.1;obtain⟨a,e⟩:=isSome_iff_exists.mp m;refine⟨a,?_⟩;unfold acV;rw[if_pos (show ((NameKind.free) == NameKind.free)=true from rfl)];dsimp only;rw[e];dsimp only;rw[lookup_cons,d]
   .simp only[d] at f;exact j _ g.2 f
 exact gen scope.names [] g h
theorem i'Y(b:∀y∈a.names,y.2≠.cell)(h:(relabel a env).names.lookup x=some .cell\/(relabel a env).names.lookup x=some .free):a.names.lookup x=some .free:=by
 unfold relabel at h;dsimp only at h;have gen:∀l:List (Str×NameKind),(∀y∈l,y.2≠.cell)->((l.map λ(n,k)=>if (k == NameKind.free&&env.scope.kind == .function&&env.kindOf n == some .cell) then (n,NameKind.cell) else (n,k)).lookup x=some .cell\/(l.map λ(n,k)=>if (k == NameKind.free&&env.scope.kind == .function&&env.kindOf n == some .cell) then (n,NameKind.cell) else (n,k)).lookup x=some .free)->l.lookup x=some .free:=by
  intro l
  induction l with
  |nil=>intro _ f;rcases f with f |f<;>cases f
  |cons y r j=>
   intro e f;obtain⟨n,k⟩:=y;have g:k≠.cell:=e (n,k) (List.mem_cons_self ..);rw[map_cons] at f;rw[lookup_cons];by_cases c:(x == n)=true
   .rw[c];dsimp only at f ⊢;by_cases d:(k == NameKind.free&&env.scope.kind == .function&&env.kindOf n == some .cell)=true
    .have:k=.free:=by
      simp only[and_eq_true] at d;exact eq_of_beq d.1.1
     rw[this]
    .rw[if_neg d,lookup_cons,c] at f;simp only[Option.some.injEq] at f;rcases f with f |f
     .exact absurd f g
     .rw[f]
   .simp only[c];refine j (λy m=>e y (mem_cons_of_mem _ m)) ?_;dsimp only at f;split at f<;>(rw[lookup_cons] at f;simp only[c] at f;exact f)
 exact gen a.names b h
inductive Wk:St->St->Prop
 |nil:Wk [] []
 |non {a b:St} {x:Option V}:Wk a b -> Wk (none::a) (x::b)
 |som {a b:St} {v:V}:Wk a b -> Wk (some v::a) (some v::b)
theorem Wk.length(h:Wk a b):b.length=a.length:=by
 induction h with
 |nil=>rfl
 |non _ c=>simp[c]
 |som _ c=>simp[c]
theorem Wk.get(h:Wk a b):∀{i:Nat}{v:V},a[i]?=some (some v)->b[i]?=some (some v):=by
 induction h with
 |nil=>intro i v e;simp at e
 |non _ c=>
  intro i v e;cases i with
  |zero=>simp at e
  |succ i=>simpa using c (i:=i) (v:=v) (by simpa using e)
 |som _ c=>
  intro i v e;cases i with
  |zero=>simpa using e
  |succ i=>simpa using c (i:=i) (v:=v) (by simpa using e)
theorem f'H:∀a:St,Wk a a
 |[]=>.nil
 |none::a=>.non (f'H a)
 |some _::a=>.som (f'H a)
def acG(ix:List (Option Nat))(j:St):St:=ix.map λo=>match o with |none=>none |some i=>(j[i]?).getD none
def PickOk(X:Cx)(sc:Scope):List Str->List (Option Nat)->Prop
 |[],[]=>True
 |_::N,none::ix=>PickOk X sc N ix
 |x::N,some i::ix=>X.N[i]? = some x /\ X.env.kindOf x=some .cell /\ sc.names.lookup x=some .free /\ PickOk X sc N ix
 |_,_=>False
theorem PickOk.length:∀{N:List Str}{ix:List (Option Nat)},PickOk X sc N ix->ix.length=N.length
 |[],[],_=>rfl
 |_::N,none::ix,h=>by rw[length_cons,length_cons,PickOk.length (X:=X) (sc:=sc) (N:=N) (ix:=ix) h]
 |_::N,some i::ix,h=>by rw[length_cons,length_cons,PickOk.length (X:=X) (sc:=sc) (N:=N) (ix:=ix) h.2.2.2]
 |[],_::_,h=>h.elim
 |_::_,[],h=>h.elim
theorem PickOk.get:∀{N:List Str}{ix:List (Option Nat)}{j:Nat}{x:Str}{v:V},PickOk X sc N ix->N[j]?=some x->(acG ix G)[j]?=some (some v)->∃i:Nat,X.N[i]?=some x/\X.env.kindOf x=some .cell/\sc.names.lookup x=some .free/\G[i]?=some (some v)
 |_::N,none::ix,0,x,v,h,e1,e2=>by simp[acG] at e2
 |_::N,none::ix,j + 1,x,v,h,e1,e2=>PickOk.get (N:=N) (ix:=ix) (j:=j) h (by simpa using e1) (by simpa [acG] using e2)
 |y::N,some i::ix,0,x,v,h,e1,e2=>by
  simp at e1;subst e1;refine⟨i,h.1,h.2.1,h.2.2.1,?_⟩;simp[acG] at e2;cases q:G[i]? with
  |none=>rw[q] at e2;simp at e2
  |some o=>rw[q] at e2;simp at e2;rw[e2]
 |y::N,some i::ix,j + 1,x,v,h,e1,e2=>PickOk.get (N:=N) (ix:=ix) (j:=j) h.2.2.2 (by simpa using e1) (by simpa [acG] using e2)
 |[],[],_,_,_,_,e1,_=>by simp at e1
 |[],_::_,_,_,_,h,_,_=>h.elim
 |_::_,[],_,_,_,h,_,_=>h.elim
theorem h'D(h:scope.names.lookup x=some .free):(relabel scope env).names.lookup x=some .cell\/(relabel scope env).names.lookup x=some .free:=by
 unfold relabel;dsimp only;have gen:∀l:List (Str×NameKind),l.lookup x=some .free->((l.map λ(n,k)=>if (k == NameKind.free&&env.scope.kind == .function&&env.kindOf n == some .cell) then (n,NameKind.cell) else (n,k)).lookup x=some .cell\/(l.map λ(n,k)=>if (k == NameKind.free&&env.scope.kind == .function&&env.kindOf n == some .cell) then (n,NameKind.cell) else (n,k)).lookup x=some .free):=by
  intro l
  induction l with
  |nil=>intro f;cases f
  |cons y r b=>
   intro f;obtain⟨n,k⟩:=y;rw[lookup_cons] at f;rw[map_cons];by_cases a:(x == n)=true
   .rw[a] at f;simp at f;subst f;dsimp only;split
    .left;rw[lookup_cons,a]
    .right;rw[lookup_cons,a]
   .simp only[a] at f;dsimp only;split<;>(rw[lookup_cons];simp only[a];exact b f)
 exact gen scope.names h
def acj(X:Cx)(a:Scope)(N:List Str)(C:Addr)(s:Shared)(H:Hp)(fp:List Addr)(pl:List (Addr×Obj)):Cx where
 prog:=X.prog
 w:=X.w
 K:=X.K
 mg:=X.mg
 base:=X.base
 A:=X.A
 N:=N
 s₀:=s
 H₀:=H
 env:=compEnvC a (afl a X.env) C X.env
 outer:=X.stack
 stack:=X.stack
 ex:=fp
 fn:=λ_=>false
 calm:=X.calm
 pn:=X.pn++pl
 xe:=λ_ _=>False
def PTs(Y:Cx)(a:List Expr)(t:TT):Prop:=
 ∀(pins:List (Addr×Obj))(s:Shared)(j:St)(H:Hp)(Q:Bool->Hp->Prop),Inv Y pins j H s->t j H Q->
  wpAny (model Y.prog Y.w) Y.A (forIn a true λc r=>if r=true then do let ok <- isTrue c Y.env (eval c Y.env);pure (ForInStep.yield ok) else pure (ForInStep.yield r)) (TP Y pins j Q) Y.xe s
def ai3:TT:=λ_ H Q=>Q true H
theorem s'k:PTs Y [] ai3:=λ_ _ _ H _ I h=>wpAny_tests_nil ⟨H,I,h⟩
theorem j'x(h:PT Y c t):PTs Y [c] t:=λpins s j H Q I q=>wpAny_tests_one (h pins s j H Q I q)
theorem h'E{R:Result->Shared->Prop}(I:Nat->Shared->Prop)(p:∀n s,I n s->wpAny (model prog w) A (pyNext it) (λr d=>match r with
   |none=>R (.ok .next) d
   |some v=>wpAny (model prog w) A (letOwnedTupleGo target it v) (λ_ s₀=>wpAny (model prog w) A (assign target env v) (λ_ g=>
     wpAny (model prog w) A (forIn ifs true λc r=>if r=true then do let ok <- isTrue c env (eval c env);pure (ForInStep.yield ok) else pure (ForInStep.yield r)) (λok b=>
      if ok=true then wpAny (model prog w) A (eval elt env) (λx j=>
       wpAny (model prog w) A (call (.builtin "list.append") [acc,x]) (λ_ f=>∃m,m<n/\I m f) (notedBy (model prog w) A env λe s'=>R (.error e) s') j) (notedBy (model prog w) A env λe s'=>R (.error e) s') b
      else ∃m,m<n/\I m b) (notedBy (model prog w) A env λe s'=>R (.error e) s') g) (notedBy (model prog w) A env λe s'=>R (.error e) s') s₀) (notedBy (model prog w) A env λe s'=>R (.error e) s') d) (notedBy (model prog w) A env λe s'=>R (.error e) s') s)(n:Nat)(h:I n s):codeAny (model prog w) A (.compLoop (.ListComp elt [⟨target,iter,ifs,0⟩] scope pos) 0 it acc env) R s:=by
 refine codeAny_loop rfl I (λn s B=>?_) n h;show wpAny _ A ((compTurn (.ListComp elt [⟨target,iter,ifs,0⟩] scope pos) 0 it acc env).onRaise (λx=>do noteFrame x env;theTreesLotGoes x)) _ _ s;refine wpAny_noted ?_;rw[compTurn_list];refine wpAny_bind (wpAny_standAt (wpAny_bind (wpAny_mono (p n s B) (λr d o=>?_) λ_ _ a=>a)));cases r with
 |none=>exact wpAny_pure o
 |some v=>
  refine wpAny_bind (wpAny_mono o (λ_ s₀ y=>?_) λ_ _ a=>a);refine wpAny_bind (wpAny_mono y (λ_ g u=>wpAny_bind (wpAny_mono u (λok b l=>?_) λ_ _ a=>a)) λ_ _ a=>a);cases ok with
  |false=>exact wpAny_pure ⟨rfl,l⟩
  |true=>
   exact wpAny_bind (wpAny_bind (wpAny_mono l (λx j z=>wpAny_bind (wpAny_mono z (λ_ f q=>wpAny_pure (wpAny_pure ⟨rfl,q⟩)) λ_ _ a=>a)) λ_ _ a=>a))
section
variable{X:Cx}{pins:List (Addr×Obj)}{σ:St}{H:Hp}{s:Shared}{scope:Scope}{N:List Str}{fp:List Addr}{C:Addr}
theorem s'l(I:Inv X pins σ H s)(m:s.heap.objs.size<=C)(j:∀b∈fp,ad3 X pins H b)(l:∀b∈fp,∃o,s.heap.get? b=some o)(a:scope.kind=.function)(f:∀y∈scope.names,y.2≠.cell)(g:adN scope X.env=true):
  (acj X scope N C s H fp pins).Ok where
 mod:=I.ok.mod
 kind:=a
 glob:=I.ok.glob
 blt:=I.ok.blt
 above:=m
 inj:=λx y c n q=>I.ok.inj x y c (b'C n) (b'C q)
 has:=λx h=>h'C g (i'Y f h)
 cab:=λx c h=>by cases h
 hd:=I.ok.hd
 frames:=I.ok.frames
 stk:=.inl rfl
 exf:=λb d=>⟨λz=>by obtain⟨o,e⟩:=l b d;have:=Heap.lt_size e;subst z;exact absurd (lt_of_lt_of_le this m) (lt_irrefl _),λx c e=>(j b d).2.2.2.2.1 x c (b'C e)⟩
 bs:=I.bs
 bsz:=le_trans I.ok.bsz I.sz
 noex:=λb o e d=>by
  rcases (j b d).2.2.2.1 with z |z
  .exact I.ok.noex b o e z
  .exact absurd (lt_of_lt_of_le (Heap.lt_size e) (le_trans I.ok.bsz z)) (lt_irrefl _)
 exfs:=λb d p=>by
  rcases mem_cons.mp (I.stkSub b p) with z |z
  .exact (j b d).2.1 z
  .exact (j b d).2.2.1 z
 funs:=I.stack
 frf:=I.stkFree
theorem o'V(I:Inv X pins σ H s)(ok:(acj X scope N C s H fp pins).Ok)(y:s.heap.objs.size<=C)(k:∀b o,s.heap.get? b=some o->h'.get? b=some o)(G:h'.Ns C m)(f:PickOk X scope N ix)(a:adN scope X.env=true):
  Inv (acj X scope N C s H fp pins) [] (acG ix σ) H { s with heap:=h',toks:=t' } where
 ok:=ok
 os:=rfl
 bare:=I.bare
 base:=Un.kept k
 loc:=⟨m,G,λi x v M D Y=>by
  obtain⟨L,A,w,g,j⟩:=f.get M D;obtain⟨U,_,E⟩:=I.loc;obtain⟨u,r,look⟩:=E L x v A j (.inr (.inl w));rcases look with⟨z,_⟩ |⟨_,c,O,o,l,hd⟩
  .rw[w] at z;cases z
  .obtain⟨c',hc'⟩:=h'C a g;have e:=b'C hc';rw[O] at e;cases e;exact⟨u,r,.inr ⟨h'D g,c,hc',o,k _ _ l,hd⟩⟩⟩
 cell:=λx c e=>by
  obtain⟨v,o,l,hd⟩:=I.cell x c (b'C e);exact⟨v,o,k _ _ l,hd⟩
 free:=I.hok.fresh y
 freeC:=λx c e=>I.freeC x c (b'C e)
 pin:=λp J=>by
  have h:p∈X.pn++pins:=by simpa [acj] using J
  obtain⟨e,n,ne,Q,d⟩:=I.pin p h;refine⟨k _ _ e,n,λz=>?_,λz=>?_,d⟩
  .have:=Heap.lt_size e;have B:p.1=C:=z;rw[B] at this;exact absurd (lt_of_lt_of_le this y) (lt_irrefl _)
  .rcases mem_cons.mp (I.stkSub p.1 z) with q |q
   .exact ne q
   .exact Q q
 hok:=I.hok.kept k
 len:=by
  have:=f.length;simp[acG,acj,this]
theorem m'p{j:Hp}(I:Inv X pins σ H s)(J:Inv (acj X scope N C s H fp pins) pl σ' j s')(p:D=s.heap.objs.size)(f:∀b∈fp,ad3 X pins H b)(w:s'.heap.PlainList D its.toArray)(v:Vals acc its)(hz:acc.length<=sizeLine)(m:j D=none):Inv X pins σ (upd j D (.lst acc)) s':=by
 have h:∀b o,s.heap.get? b=some o->b≠D:=λb o e z=>by rw[z,p] at e;exact absurd (Heap.lt_size e) (lt_irrefl _)
 have a:H D=none:=I.hok.fresh (by rw[p];exact le_refl _);refine I.call' (ch:=fp) J.os ⟨J.base.keep,J.base.slot,λb o e n r=>?_,J.base.there,λb l e=>?_,λb o u e=>?_,λb x e=>?_⟩ (λb u e=>?_) J.bare λb d=>⟨(f b d).2.2.2.1,(f b d).2.1,(f b d).2.2.2.2.1,(f b d).2.2.2.2.2⟩
 .rw[a'e (h b o e)];exact J.base.free b o e n r
 .rw[a'e (a'x e a)];exact J.base.tups b l e
 .rw[a'e (a'x e a)];exact J.base.frzs b o u e
 .obtain⟨mo,e2⟩:=J.base.tbls b x e;exact⟨mo,by rw[a'e (a'x e a)];exact e2⟩
 .by_cases d:b=D
  .subst d;rw[a'g] at e;cases e;obtain⟨n,g⟩:=w;exact⟨hz,its,n,v,g⟩
  .rw[a'e d] at e;exact (J.hok b u e).stay (λ_ _ _ q=>q) (λc q=>by rw[a'e (a'x q m)];exact q) λc l q=>by rw[a'e (a'x q m)];exact q
end
def aeT(o:TI)(g:TG)(r:TT)(l:TE)(ix:List (Option Nat)):TE:=λj H Q=>o j H λJ n=>∃W:Nat->Nat->List V->Hp->Prop,(∃m,W 0 m [] n)/\∀i m a H,W i m a H->
 (J.stop i H/\a.length<=sizeLine/\∀p,H p=none->Q (.ref p) (upd H p (.lst a)))\/
 (J.go i H/\∃N:List V->Hp->Prop,(∀c d,N c d->∃f,f<m/\W (i+1) f c d)/\∀x d,J.yld i H x d->g x (acG ix j) d λe s=>Wk (acG ix j) e/\r e s λb h=>if b=true then l e h λv q=>a.length<sizeLine/\N (a++[v]) q else N a h)
section
variable{X:Cx}{elt target iter:Expr}{ifs:List Expr}{scope:Scope}{pos:Pos}{N:List Str}{ix:List (Option Nat)}{wi:TI}{g:TG}{ti:TT}{te:TE}
theorem h'F{Q:VK}{RR:Value->Addr->Result->Shared->Prop}{tn:Nat->Heap->Prop}(hc:X.calm=true)(hg:∀C s H fp pl,PG (acj X scope N C s H fp pl) target g)(ht:∀C s H fp pl,PTs (acj X scope N C s H fp pl) ifs ti)(he:∀C s H fp pl,PE (acj X scope N C s H fp pl) elt te)(γ:scope.kind=.function)(δ:∀y∈scope.names,y.2≠.cell)(ξ:adN scope X.env=true)(hpk:PickOk X scope N ix)(I2:Inv X pins j U a)(T:afk X.prog X.w X.K target J fp it tn)(st2:tn 0 a.heap)(f2:∀b∈fp,ad3 X pins U b)(h:∃W:Nat->Nat->List V->Hp->Prop,(∃m,W 0 m [] U)/\∀i m f H,W i m f H->
   (J.stop i H/\f.length<=sizeLine/\∀p,H p=none->Q (.ref p) (upd H p (.lst f)))\/
   (J.go i H/\∃N:List V->Hp->Prop,(∀π M,N π M->∃m',m'<m/\W (i+1) m' π M)/\∀x M,J.yld i H x M->g x (acG ix j) M λj2 U=>Wk (acG ix j) j2/\ti j2 U λb H3=>if b=true then te j2 H3 λv H4=>f.length<sizeLine/\N (f++[v]) H4 else N f H3))(hR:∀(D C:Addr)(s':Shared)(M:Hp)(m:Str->Option Value),Inv X pins j M s'->s'.heap.Ns C m->M C=none->a.heap.objs.size<=C->Q (.ref D) M->RR (.ref D) C (.ok .next) s'):
  wpAny (model X.prog X.w) X.A (newList []) (λf O=>wpAny (model X.prog X.w) X.A (newFunctionEnv scope X.env.globals (afl scope X.env) [] X.env.qual none .none (some X.env)) (λο s₄=>
   codeAny (model X.prog X.w) X.A (.compStart (.ListComp elt [⟨target,iter,ifs,0⟩] scope pos) 0 (.ref it) f { ο with scope:=relabel scope X.env }) (RR f ο.locals) s₄) E O) E a:=by
 obtain⟨W,⟨m0,w0⟩,turn⟩:=h;refine wpAny_newObj_type (wpAny_newFunctionEnv δ (by intro y hy;simp at hy) (λβ L l=>?_) γ);dsimp only at L l ⊢;generalize σ:a.heap.push { cls:=.type "list",dict:=none,data:=.seq ([]:List Value).toArray }=P2 at L l ⊢;have hC:P2.objs.size=a.heap.objs.size+1:=by rw[<- σ,Heap.size_push]
 have ν:a.heap.objs.size≠P2.objs.size:=by rw[hC];exact ne_of_lt (Nat.lt_succ_self _)
 have ε:a.heap.objs.size<=P2.objs.size:=by rw[hC];exact Nat.le_succ _
 have α:∀b,b<a.heap.objs.size->b≠P2.objs.size/\b≠a.heap.objs.size:=λb G=>⟨by rw[hC];exact ne_of_lt (Nat.lt_succ_of_lt G),ne_of_lt G⟩
 have old:∀b o,a.heap.get? b=some o->β.get? b=some o:=λb o e=>l.extBut b o (α b (Heap.lt_size e)).1 (Heap.get?_push_of_some _ (σ ▸ Heap.get?_push_of_some _ e))
 have hacc:β.PlainList a.heap.objs.size #[]:=⟨_,l.extBut _ _ ν (Heap.get?_push_of_some _ (σ ▸ Heap.get?_push_size _ rfl))⟩
 have hfo:∀b∈fp,∃o,a.heap.get? b=some o:=λb G=>let ⟨o,e,_⟩:=T.obj 0 _ st2 b G;⟨o,e⟩
 have υ:a.heap.objs.size ∉ fp:=λhm=>by obtain⟨o,e⟩:=hfo _ hm;exact absurd (Heap.lt_size e) (lt_irrefl _)
 have ok:=s'l (N:=N) (C:=P2.objs.size) I2 ε f2 hfo γ δ ξ;have st1:tn 0 β:=T.keep 0 _ _ st2 λb _ o e=>old b o e
 have J0:=o'V (t':=a.toks+([]:List (Str×Value)).length) (ix:=ix) I2 ok ε old L hpk ξ;have pnD:∀p∈X.pn++pins,p.1≠a.heap.objs.size:=λp hp=>(α _ (Heap.lt_size (I2.pin p hp).1)).2
 have χ:∀x c,(afl scope X.env).lookup x=some c->c≠a.heap.objs.size:=λx c e=>by
  obtain⟨v,o,ho,_⟩:=I2.cell x c (b'C e);exact (α _ (Heap.lt_size ho)).2
 have ζ:∀{pl:List (Addr×Obj)}{M:Hp},(∀b∈fp,M b=none)->(∀p∈pl,p.1=a.heap.objs.size)->∀b∈fp,ad3 (acj X scope N P2.objs.size a U fp pins) pl M b:=λ{pl M} hn hp b G=>by
  refine⟨hn b G,(ok.exf b G).1,ok.exfs b G,.inl G,(ok.exf b G).2,λp hm=>?_⟩;rcases mem_append.mp hm with z |z
  .exact (f2 b G).2.2.2.2.2 p z
  .rw[hp p z];intro q;rw[q] at υ;exact υ G
 have ρ:∀O:Shared,O={ a with heap:=β,toks:=a.toks+([]:List (Str×Value)).length }->
   codeAny (model X.prog X.w) X.A (.compLoop (.ListComp elt [⟨target,iter,ifs,0⟩] scope pos) 0 (.ref it) (.ref a.heap.objs.size) (compEnvC scope (afl scope X.env) P2.objs.size X.env)) (RR (.ref a.heap.objs.size) P2.objs.size) O:=by
  rintro O rfl;refine h'E (λn s'=>∃i f I j' M,Inv (acj X scope N P2.objs.size a U fp pins) [] j' M s'/\Wk (acG ix j) j'/\tn i s'.heap/\(∀b∈fp,M b=none)/\s'.heap.PlainList a.heap.objs.size (List.toArray I)/\Vals f I/\M a.heap.objs.size=none/\W i n f M) ?_ m0
   ⟨0,[],[],_,U,J0,f'H _,st1,λb G=>(f2 b G).1,hacc,.nil,I2.hok.fresh (le_refl _),w0⟩
  rintro n s3 ⟨i,f,I,j3,H3,I3,ψ,st3,fr3,pl3,κ,τ,w3⟩;obtain⟨kk,g3⟩:=id pl3;have I3':Inv (acj X scope N P2.objs.size a U fp pins) [(a.heap.objs.size,⟨.type "list",none,.seq (List.toArray I) kk,#[]⟩)] j3 H3 s3:=I3.pins_of λp hp=>by
   have e:=mem_singleton.mp hp;subst e;refine⟨g3,τ,ν,λz=>?_,λv q=>by cases q⟩;obtain⟨_,o,ho,_⟩:=(I2.stack).mem z;exact absurd (Heap.lt_size ho) (lt_irrefl _)
  have Y:∀p∈[((a.heap.objs.size,⟨.type "list",none,.seq (List.toArray I) kk,#[]⟩):Addr×Obj)],p.1=a.heap.objs.size:=λp hp=>by
   rw[mem_singleton.mp hp]
  rcases turn i n f H3 w3 with⟨stop,hlen,fin⟩ |⟨go,NN,hNN,step⟩
  .refine wpAny_mono (T.done (acj X scope N P2.objs.size a U fp pins) rfl rfl rfl hc i _ s3 j3 H3 _ I3' (ζ fr3 Y) st3 stop) (λr s4 h4=>?_) λ_ _ z=>z
   obtain⟨hr,I4⟩:=h4;subst hr;have g4:=(I4.pin (a.heap.objs.size,_) (mem_append_right _ (mem_singleton.mpr rfl))).1;obtain⟨mm,hnm,_⟩:=I4.loc;have B:=m'p I2 I4 rfl f2 ⟨kk,g4⟩ κ hlen τ;refine hR _ _ s4 _ mm B hnm ?_ ε (fin _ τ);rw[a'e (Ne.symm ν)];exact I4.free
  .refine wpAny_mono (T.item (acj X scope N P2.objs.size a U fp pins) rfl rfl rfl hc i _ s3 j3 H3 _ I3' (ζ fr3 Y) st3 go) (λr s4 h4=>?_) λ_ _ z=>z
   obtain⟨u,hr,h4⟩:=h4;subst hr;refine wpAny_mono h4 (λ_ s5 h5=>?_) λ_ _ z=>z
   obtain⟨x,H5,I5,r5,y5,μ,fr5⟩:=h5;have I5w:=I5.weak ψ.length.symm (λi v e=>ψ.get e);have I5':=I5w.pinned (fp:=fp) (ζ fr5 Y) (T.obj _ _ μ);refine wpAny_mono (hg P2.objs.size a U fp pins _ s5 _ H5 x u _ I5' r5 (step x H5 y5)) (λ_ s6 h6=>?_) λ_ _ z=>z.elim
   obtain⟨j6,H6,I6,ω,q6⟩:=h6;refine wpAny_mono (ht P2.objs.size a U fp pins _ s6 j6 H6 _ I6 q6) (λok s7 h7=>?_) λ_ _ z=>z.elim
   obtain⟨H7,I7,q7⟩:=h7;have θ:∀{j8:St}{H8:Hp}{s8:Shared},Inv (acj X scope N P2.objs.size a U fp pins) ([((a.heap.objs.size,⟨.type "list",none,.seq (List.toArray I) kk,#[]⟩):Addr×Obj)]++ad4 fp s5.heap) j8 H8 s8->
     (∀b∈fp,∀o,s5.heap.get? b=some o->s8.heap.get? b=some o)/\(∀b∈fp,H8 b=none):=λ{j8 H8 s8} I8=>by
    refine⟨λb G o e=>(I8.pin (b,o) (mem_append_right _ (mem_append_right _ (c'i G e)))).1,λb G=>?_⟩;obtain⟨o,e,d⟩:=T.obj _ _ μ b G;exact (I8.pin (b,o) (mem_append_right _ (mem_append_right _ (c'i G e)))).2.1
   have η:∀{j8:St}{H8:Hp}{s8:Shared}{pl:List (Addr×Obj)},Inv (acj X scope N P2.objs.size a U fp pins) pl j8 H8 s8->Inv (acj X scope N P2.objs.size a U fp pins) [] j8 H8 s8:=λI8=>I8.pins_of λp hp=>by cases hp
   cases ok with
   |false=>
    simp only[false_eq_true,if_false] at q7 ⊢;obtain⟨m',hm,w7⟩:=hNN _ _ q7;have p7:=I7.pin (a.heap.objs.size,_) (mem_append_right _ (List.mem_append_left _ (mem_singleton.mpr rfl)));obtain⟨k1,k2⟩:=θ I7;exact⟨m',hm,i+1,f,I,j6,H7,η I7,ω,T.keep _ _ _ μ k1,k2,⟨kk,p7.1⟩,κ,p7.2.1,w7⟩
   |true=>
    simp only[if_true] at q7 ⊢;refine wpAny_mono (he P2.objs.size a U fp pins _ s7 j6 H7 _ I7 q7) (λy s8 h8=>?_) λ_ _ z=>z.elim
    obtain⟨v,H8,I8,r8,hlt,q8⟩:=h8;obtain⟨m',hm,w8⟩:=hNN _ _ q8;have p8:=I8.pin (a.heap.objs.size,_) (mem_append_right _ (List.mem_append_left _ (mem_singleton.mpr rfl)));obtain⟨k1,k2⟩:=θ I8;have hl:=κ.length;refine wpAny_list_append_plain (items:=List.toArray I) (hsz:=by rw[size_toArray,<- hl];exact Nat.le_of_lt hlt) ⟨kk,p8.1⟩ λh₅ φ ι=>?_
    have I9:Inv (acj X scope N P2.objs.size a U fp pins) [] j6 H8 { s8 with heap:=h₅ }:=(η I8).turned (t':=s8.toks) (it:=a.heap.objs.size) (λb o G e=>ι.extBut b o G e) p8.2.1 ν (.inr (le_refl _)) χ (λp hp=>by
     have hp':p∈X.pn++pins:=by simpa [acj] using hp
     exact pnD p hp')
    refine⟨m',hm,i+1,f++[v],I++[y],j6,H8,I9,ω,T.keep _ _ _ μ λb G o e=>ι.extBut b o (λz=>υ (z ▸ G)) (k1 b G o e),k2,?_,κ.append (.cons r8 .nil),p8.2.1,w8⟩;have e:(I++[y]).toArray=I.toArray.push y:=by simp
    rw[e];exact φ
 exact codeAny_compStart_list (ρ _ rfl) (T.self X.A 0 _ _ _ st1 (ρ _ rfl))
theorem j'y(hc:X.calm=true)(hi:PI X target iter wi)(hg:∀C s H fp pl,PG (acj X scope N C s H fp pl) target g)(Y:∀C s H fp pl,PTs (acj X scope N C s H fp pl) ifs ti)(he:∀C s H fp pl,PE (acj X scope N C s H fp pl) elt te)(E:PickOk X scope N ix)(a:scope.kind=.function:=by rfl)(n:∀y∈scope.names,y.2≠.cell:=by decide)(d:∀x∈scope.names,x.2=.local->scope.names.lookup x.1=some .local:=by decide)(l:adN scope X.env=true:=by rfl)(hs:∀x,foldedSetIterable iter X.env x=pure x:=by intro _;rfl):PE X (.ListComp elt [⟨target,iter,ifs,0⟩] scope pos) (aeT wi g ti te ix):=by
 intro pins s j H Q I h;rw[eval_ListComp];refine wpAny_comprehension_free (use:=none) rfl hs (c'G l) a d ?_;refine thn (hi pins s j H _ I h) λv s1 O=>thn O λM s2 h2=>?_
 obtain⟨it,fp,tn,J,H2,e,r,T,u,f2,h⟩:=h2;subst e;refine h'F (RR:=λG C=>compPost (model X.prog X.w) X.A X.xe none (EP X pins j Q) G C) hc hg Y he a n l E r T u f2 h ?_;intro D C s' U m B hn L f q;refine⟨m,hn,λh' z=>⟨.ref D,U,B.turned (t':=s'.toks) (it:=C) (λb o hb e=>z.extBut b o hb e) L (Nat.ne_of_gt (lt_of_lt_of_le r.lt f)) (.inr (le_trans r.sz f)) (λx c e=>?_) (λp hp=>?_),rfl,q⟩⟩
 .obtain⟨v,o,ho,_⟩:=r.cell x c e;exact ne_of_lt (lt_of_lt_of_le (Heap.lt_size ho) f)
 .exact ne_of_lt (lt_of_lt_of_le (Heap.lt_size (r.pin p hp).1) f)
theorem s'm(hN:X.N.Nodup)(U:X.N[i]?=some y)(hy:Loc X.env.scope y)(hc:X.calm=true)(hi:PI X target iter wi)(hg:∀C s H fp pl,PG (acj X scope N C s H fp pl) target g)(ht:∀C s H fp pl,PTs (acj X scope N C s H fp pl) ifs ti)(he:∀C s H fp pl,PE (acj X scope N C s H fp pl) elt te)(O:PickOk X scope N ix)(L:swapsWith (.ListComp elt [⟨target,iter,ifs,0⟩] scope pos) (some (.Name y py)) spos.line X.env=pure true:=by with_unfolding_all rfl)(d:scope.kind=.function:=by rfl)(r:∀y∈scope.names,y.2≠.cell:=by decide)(f:∀x∈scope.names,x.2=.local->scope.names.lookup x.1=some .local:=by decide)(n:adN scope X.env=true:=by rfl)(hs:∀x,foldedSetIterable iter X.env x=pure x:=by intro _;rfl)(hf:X.fn y=true\/X.env.scope.names.lookup y=some .local:=by first |exact .inl rfl |exact .inr rfl |assumption):PS X (.Assign [.Name y py] (.ListComp elt [⟨target,iter,ifs,0⟩] scope pos) spos) (afL (aeT wi g ti te ix) (adH i)):=by
 intro pins s j H D I h;rw[exec_Assign_Name_used _ _ _ _ L];refine wpAny_bind (wpAny_standAt (wpAny_bind ?_));show wpAny _ X.A (do let _ <- comprehension (.ListComp elt [⟨target,iter,ifs,0⟩] scope pos) scope X.env _ (newList []) false (eval iter X.env) (some (assign (.Name y py) X.env))) _ _ s;refine wpAny_bind (wpAny_mono (wpAny_comprehension_free (use:=some (assign (.Name y py) X.env)) (Q:=λ_ u=>SP X pins D .next u) rfl hs (c'G n) d f ?_) (λ_ u hq=>wpAny_pure (wpAny_pure hq)) λ_ _ e=>e);refine thn (hi pins s j H _ I h) λv s1 h1=>thn h1 λδ s2 h2=>?_
 obtain⟨it,fp,tn,J,H2,e,E,T,Y,f2,h⟩:=h2;subst e;refine h'F (Q:=λx H1=>adH i x j H1 D.nx) (RR:=λβ C=>compPost (model X.prog X.w) X.A X.xe (some (assign (.Name y py) X.env)) (λ_ u=>SP X pins D .next u) β C) hc hg ht he d r n O E T Y f2 h ?_;intro Dd C u H' m B hn γ l q;show wpAny _ X.A (assign (.Name y py) X.env (.ref Dd)) _ _ _;have cC:∀x c,X.env.cells.lookup x=some c->c≠C:=λx c e=>by
  obtain⟨v,o,ho,_⟩:=E.cell x c e;exact ne_of_lt (lt_of_lt_of_le (Heap.lt_size ho) l)
 have lC:X.env.locals≠C:=ne_of_lt (lt_of_lt_of_le E.lt l);refine wpAny_assign_Name (g'r (v:=.ref Dd) B hN U hy rfl (λs4 I4 α=>?_) hf);obtain⟨a,G,ha⟩:=α;have nC:C≠a:=by
  rcases ha with z |z
  .rw[z];exact Ne.symm lC
  .exact Ne.symm (cC _ _ z)
 refine⟨m,hn.sameBut G nC,λh' M=>⟨_,H',I4.turned (t':=s4.toks) (it:=C) (λb o hb e=>M.extBut b o hb e) γ (Ne.symm lC) (.inr (le_trans E.sz l)) cC (λp hp=>?_),q⟩⟩;exact ne_of_lt (lt_of_lt_of_le (Heap.lt_size (E.pin p hp).1) l)
end
section
variable{g:TG}{ti:TT}{te:TE}{ix:List (Option Nat)}{σ:St}{Q:VK}
def ag9(J:It)(g:TG)(ti:TT)(te:TE)(ix:List (Option Nat))(σ:St)(Q:VK)(j:Hp):Prop:=∃W:Nat->Nat->List V->Hp->Prop,(∃m,W 0 m [] j)/\∀i m a H,W i m a H->
 (J.stop i H/\a.length<=sizeLine/\∀p,H p=none->Q (.ref p) (upd H p (.lst a)))\/
 (J.go i H/\∃N:List V->Hp->Prop,(∀c e,N c e->∃f,f<m/\W (i+1) f c e)/\∀x e,J.yld i H x e->g x (acG ix σ) e λd n=>Wk (acG ix σ) d/\ti d n λb h=>if b=true then te d h λv l=>a.length<sizeLine/\N (a++[v]) l else N a h)
theorem q'u(Pv:Nat->List V->Hp->Prop)(s:Pv 0 [] H1)(h:∀i a H,i<n->Pv i a H->J.go i H)(j:∀a H,Pv n a H->J.stop n H)(hs:∀i x a H f,i<n->Pv i a H->J.yld i H x f->g x (acG ix σ) f λc u=>Wk (acG ix σ) c/\ti c u λb o=>if b=true then te c o λv r=>a.length<sizeLine/\Pv (i+1) (a++[v]) r else Pv (i+1) a o)(hd:∀a H,Pv n a H->a.length<=sizeLine/\∀p,H p=none->Q (.ref p) (upd H p (.lst a))):ag9 J g ti te ix σ Q H1:=by
 refine⟨λi m a H=>m=n - i/\i<=n/\Pv i a H,⟨n,by simp,zero_le _,s⟩,?_⟩;rintro i m a H ⟨rfl,w,p⟩;by_cases d:i<n
 .exact .inr ⟨h i a H d p,Pv (i+1),λl f q=>⟨n - (i+1),by omega,rfl,d,q⟩,λx f y=>hs i x a H f d p y⟩
 .have e:i=n:=by omega
  subst e;exact .inl ⟨j a H p,hd a H p⟩
end
section
variable{X:Cx}
def ai4:V->Option Int->Option Int->Hp->VK->Prop:=λx lo a H Q=>∃z,x=.str z/\z.length<=sizeLine/\Q (.str (Txt.slice z lo a)) H
theorem u'A:SlR X ai4:=by
 intro pins s y H x v w r lo n A Q I o d p g h;obtain⟨z,rfl,c,q⟩:=h;obtain⟨t,rfl⟩:=(show ∃t,v=Value.str z t from o);refine⟨"str",_,F.slot_str_getitem.lookup,typeIs_str _ _ _,?_⟩;have a:∀(f:Tok)(k:Nat),EP X pins y Q (.str (Txt.slice z lo n) f) { s with toks:=k }:=λf k=>⟨.str _,H,I.tok k,⟨f,rfl⟩,q⟩
 cases p with
 |none=>
  cases g with
  |none=>exact wpAny_getItem_str_slice (l:=none) (u:=none) (st:=none) d rfl (post_val_or_str ⟨le_trans (Txt.slice_le z _ _) c,λb k=>a b k⟩)
  |int j e=>exact wpAny_getItem_str_slice (l:=none) (u:=some (j,e)) (st:=none) d rfl (post_val_or_str ⟨le_trans (Txt.slice_le z _ _) c,λb k=>a b k⟩)
 |int i m=>
  cases g with
  |none=>exact wpAny_getItem_str_slice (l:=some (i,m)) (u:=none) (st:=none) d rfl (post_val_or_str ⟨le_trans (Txt.slice_le z _ _) c,λb k=>a b k⟩)
  |int j e=>exact wpAny_getItem_str_slice (l:=some (i,m)) (u:=some (j,e)) (st:=none) d rfl (post_val_or_str ⟨le_trans (Txt.slice_le z _ _) c,λb k=>a b k⟩)
end
def Its(lo c:Int)(n:Nat):It:=⟨λi _=>i<n,λi H x a=>a=H/\x=.int (lo+i*c),λi _=>n<=i⟩
theorem i'Z{P:Program}{w:World}{K:PySem.W.Frag}{L:Expr}(it:Addr)(lo c:Int)(n:Nat):afk P w K L (Its lo c n) [it] it (λi h=>IsRangeIter h it (lo+(i:Nat)*c) ((n:Int) - (i:Nat)) c) where
 mem:=by simp
 obj:=λi h st b a=>by
  have e:b=it:=by simpa using a
  subst e;exact⟨_,st,λv z=>by
   have G:Data.fields _=Data.cell v:=z;cases G⟩
 keep:=λi h f st k=>k it (by simp) _ st
 item:=by
  intro X l u x A i pins s j H E I g st y;subst l u x;obtain⟨m,r,N,B,p,q⟩:=g it (by simp);have W:=Walks.range (prog:=X.prog) (w:=X.w) (I.ok.hd A) it lo c n;refine W.item i s _ _ y st λv f C J d O=>?_
  obtain⟨t,rfl⟩:=J;have M:Inv X pins j H { s with heap:=f,toks:=C }:=I.turned (λb o a e=>O b o (by simpa using a) e) m r B p q;exact⟨_,rfl,g'Z (s:={ s with heap:=f,toks:=C }) (n:="range_iterator") d rfl rfl (by decide) ⟨.int (lo+i*c),H,M,⟨t,rfl⟩,⟨rfl,rfl⟩,d,λb a=>(g b a).1⟩⟩
 done:=by
  intro X l u x A i pins s j H E I g st y;subst l u x;obtain⟨m,r,N,B,p,q⟩:=g it (by simp);exact wpAny_pyNext_range_end (I.ok.hd A) st (by have:n<=i:=y;omega) λf D=>⟨rfl,I.turned (t':=s.toks) (λb o a e=>D b o a e) m r B p q⟩
 self:=λ_ _ _ _ _ st h=>wpAny_pyIter_rangeiter st h
def Cn(_:Addr)(_:Heap):Prop:=True
theorem Cn.keeps{e:Addr}{h h':Heap}(c:Cn e h)(k:∀o,h.get? e=some o->h'.get? e=some o):Cn e h':=trivial
section
variable{M:Model}{A:Around}{E:Value->Shared->Prop}{s:Shared}{base:Heap}{env:Env}{outer:List Env}{L e:Addr}
theorem l'j{a a0:Value}{Q:Unit->Shared->Prop}(fr:A.frames=some (env::outer))(b:s.heap.FunFrames base (env::outer))(d:env.frame=some L)(t:s.heap.TracedW base e a a0)(f:base.StaysIn s.heap)(en:base.get? e=none)(c:Cn e s.heap)(h:∀k,Heap.NotedW base (env::outer) e a a0 (rawInt L) s.heap k->Cn e k->Q () { s with heap:=k }):wpAny M A (noteFrame (.ref e) env) Q E s:=
 wpAny_noteFrame_onW fr b d t f en λk g=>h k g trivial
theorem j'z{l:List Env}{a a0 n:Value}{Q:Unit->Shared->Prop}(p:base.StaysIn s.heap)(d:s.heap.FunFrames base l)(t:s.heap.TracedAtW base e a a0 n)(c:Cn e s.heap)(h:∀k,base.StaysIn k->k.FunFrames base l->k.TracedW base e a a0->(∀b o,s.heap.get? b=some o->(∀vs,o.data≠.fields vs)->k.get? b=some o)->Cn e k->Q () { s with heap:=k }):wpAny M A (setFlight (.ref e) none) Q E s:=
 wpAny_setFlight_noneW p d t λk j g f m=>h k j g f m trivial
theorem g'S{a a0:Value}{Q:Unit->Shared->Prop}(fr:A.frames=some (env::outer))(b:s.heap.FunFrames base (env::outer))(d:env.frame=some L)(t:s.heap.TracedW base e a a0)(f:base.StaysIn s.heap)(en:base.get? e=none)(c:Cn e s.heap)(h:∀k,Heap.LeftW base (env::outer) e a a0 s.heap k->Cn e k->Q () { s with heap:=k }):wpAny M A (leaving env (.ref e)) Q E s:=
 wpAny_leaving_nextW fr b d t f en λk g=>h k g trivial
theorem c'U{o:Obj}{vs:Array Value}{a0:Value}{Q:Unit->Shared->Prop}(fr:A.frames=some (env::outer))(d:s.heap.FunFrames base (env::outer))(f:env.frame=some L)(he:s.heap.get? e=some o)(c:base.StaysIn s.heap)(en:base.get? e=none)(hd:o.data=.fields vs)(a:vs[1]?=some .none)(g:vs[0]?=some a0)(j:vs[2]?=some .none)(h:∀k,Heap.LeftW base (env::outer) e o.cls a0 s.heap k->Cn e k->Q () { s with heap:=k }):wpAny M A (leaving env (.ref e)) Q E s:=
 wpAny_leaving_firstW fr d f he c en hd a g λk b=>h k b trivial
theorem g'z{a a0:Value}{Q:Unit->Shared->Prop}(fr:A.frames=some (env::outer))(d:env.frame=some L)(f:Heap.FlyingW base (env::outer) e a a0 s.heap)(c:Cn e s.heap)(h:∀k,Heap.HeldW base (env::outer) e a a0 L k->s.heap.UpToSlots k->Cn e k->Q () { s with heap:=k }):wpAny M A (noteFrame (.ref e) env) Q E s:=
 l'j fr f.2.2.1 d f.2.2.2 f.1 f.2.1 c λk b q=>h k ⟨b.1,f.2.1,b.2.1,b.2.2.1⟩ b.2.2.2 q
theorem m'q{l:List Env}{a a0:Value}{Q:Unit->Shared->Prop}(f:Heap.HeldW base l e a a0 L s.heap)(c:Cn e s.heap)(h:∀k,Heap.FlyingW base l e a a0 k->s.heap.UpToSlots k->Cn e k->Q () { s with heap:=k }):wpAny M A (setFlight (.ref e) none) Q E s:=
 j'z f.1 f.2.2.1 f.2.2.2 c λk m j g p q=>h k ⟨m,f.2.1,j,g⟩ (λb o n d=>⟨o.slots,p b o n d⟩) q
theorem m'r{l:List Env}{a a0:Value}{Q:Unit->Shared->Prop}(f:Heap.FlyingW base l e a a0 s.heap)(c:Cn e s.heap)(h:∀k,Heap.FlyingW base l e a a0 k->s.heap.UpToSlots k->Cn e k->Q () { s with heap:=k }):wpAny M A (setFlight (.ref e) none) Q E s:=
 j'z f.1 f.2.2.1 f.2.2.2.at c λk m j g p q=>h k ⟨m,f.2.1,j,g⟩ (λb o n d=>⟨o.slots,p b o n d⟩) q
end
def Fly(e h:Heap)(H:Hp)(x:Addr)(b:Value):Prop:=
 e.get? x=none/\H x=none/\∃f a vs T d c,e.get? T=none/\H T=none/\h.get? x=some a/\a.cls=b/\vs[0]?=some f/\a.data=.fields vs/\vs[1]?=some (.ref T)/\T≠x/\h.get? T=some d/\d.data=.fields c/\c[3]?=some .none/\Cn x h
def CX1(P:Program)(w:World):CXT:=λouter H s E e a=>∃x b c,e=.ref x/\a.os=s.os/\AllBare a.gens/\Un (frs outer) [] H c s.heap a.heap/\HOk P w c a.heap/\Fly s.heap a.heap c x b/\E b none c
theorem ObjOk.has(x:ObjOk P w H h a o):∃u,h.get? a=some u:=by
 cases o with
 |lst c=>obtain⟨_,_,_,_,e⟩:=x;exact⟨_,e⟩
 |tup c=>obtain⟨_,_,_,u,e,_⟩:=x;exact⟨_,e⟩
 |dK b=>obtain⟨_,_,_,_,u,_,_,e,_⟩:=x;exact⟨_,e⟩
 |dT b=>obtain⟨_,_,_,_,u,_,_,e,_⟩:=x;exact⟨_,e⟩
 |set S n=>obtain⟨u,_,_,_,e,_⟩:=x;exact⟨_,e⟩
 |ins C m fs=>obtain⟨_,_,_,e,_⟩:=x;exact⟨_,e⟩
 |own y=>exact x
 |xd fs=>obtain⟨_,⟨u,_,_,e,_⟩,_⟩:=x;exact⟨_,e⟩
 |rng lo d=>obtain⟨_,_,_,e⟩:=x;exact⟨_,e⟩
 |frz l u=>obtain⟨e,_⟩:=x;exact⟨_,e⟩
 |tbl g=>exact⟨_,x⟩
 |met f y=>exact⟨_,x⟩
 |ext j=>exact x.2.1
theorem h'G{P:Program}{w:World}{fs fr l bad:List Addr}{H a:Hp}{h m s:Heap}(u:Un fs [] H a h m)(hok:HOk P w a m)(N:∀b∈l,b∈bad\/b∈fr)(L:∀b∈bad,h.get? b=none/\a b=none)(p:∀b∈fr,(b∈fs\/h.get? b=none)/\a b=none/\∃o,m.get? b=some o/\∀vs,o.data≠.fields vs)(I:∀b∈fs,b∈fr)(k:(W.hideAll m l).StaysIn s)(sm:m.UpToSlots s):
  Un fs [] H a h s/\HOk P w a s/\∀x y a0,s.TracedW (W.hideAll m l) x y a0->Cn x s->h.get? x=none->a x=none->Fly h s a x y:=by
 have gt:∀b o,m.get? b=some o->b ∉ bad->b ∉ fr->s.get? b=some o:=λb o e U n2=>k b o (W.hideAll_get _ e λz=>(N b z).elim U n2)
 have O:∀b o,h.get? b=some o->b ∉ bad:=λb o e z=>by rw[(L b z).1] at e;cases e
 have slots:∀b o,b∈fr->m.get? b=some o->∃C,s.get? b=some { o with slots:=C }:=λb o g e=>by
  obtain⟨_,_,A,f,d⟩:=p b g;rw[e] at f;cases f;exact sm b o e d
 have tr:∀b u,a b=some u->b ∉ bad/\b ∉ fr:=λb u e=>⟨λz=>(by rw[(L b z).2] at e;cases e),λz=>(by rw[(p b z).2.1] at e;cases e)⟩
 refine⟨⟨λb o e n g j=>?_,λb o e n g j=>?_,λb o e n j=>u.free b o e n j,λb o e j=>?_,u.tups,u.frzs,u.tbls⟩,λb v e=>?_,λx y a0 Y J j E=>?_⟩
 .refine gt b o (u.keep b o e n g j) (O b o e) λz=>?_
  rcases (p b z).1 with q |q
  .exact g q
  .rw[e] at q;cases q
 .obtain⟨C,e1⟩:=u.slot b o e n g j;obtain⟨G,B⟩:=slots b _ (I b g) e1;exact⟨G,B⟩
 .obtain⟨A,e1⟩:=u.there b o e j;by_cases g:b∈fr
  .obtain⟨C,B⟩:=slots b A g e1;exact⟨_,B⟩
  .exact⟨A,gt b A e1 (O b o e) g⟩
 .refine (hok b v e).stay (λc o D q=>?_) (λ_ q=>q) λ_ _ q=>q
  rcases D with rfl |D
  .exact gt c o q (tr c v e).1 (tr c v e).2
  .exact gt c o q (tr c _ D).1 (tr c _ D).2
 .obtain⟨oe,vs,T,oT,ts,t1,⟨t2,t3⟩,t4,t5,t6,t7,t8,t9,t10⟩:=Y;have Q:h.get? T=none/\a T=none:=by
   cases q:m.get? T with
   |none=>
    refine⟨?_,?_⟩
    .cases r:h.get? T with
     |none=>rfl
     |some o=>obtain⟨A,f⟩:=u.there T o r (by simp);rw[q] at f;cases f
    .cases r:a T with
     |none=>rfl
     |some v=>obtain⟨A,f⟩:=(hok T v r).has;rw[q] at f;cases f
   |some o=>
    by_cases M:T∈l
    .rcases N T M with z |z
     .exact L T z
     .obtain⟨C,B⟩:=slots T o z q;obtain⟨_,_,A,f,d⟩:=p T z;rw[q] at f;cases f;rw[t8] at B;cases B;exact absurd t9 (d ts)
    .have:=W.hideAll_get _ q M;rw[t6] at this;cases this
  exact⟨j,E,a0,oe,vs,T,oT,ts,Q.1,Q.2,t1,t2,t3,t4,t5,t7,t8,t9,t10,J⟩
theorem Fly.traced{H:Hp}(f:Fly h0 h H x cls):∃T a0,h0.get? T=none/\H T=none/\∀l:List Addr,T∈l->h.TracedW (W.hideAll h l) x cls a0:=by
 obtain⟨_,_,a0,d,vs,T,r,e,g,s,u,j,o,p,q,c,m,a,b,_⟩:=f;exact⟨T,a0,g,s,λl n=>⟨d,vs,T,r,e,u,⟨j,o⟩,p,q,W.hideAll_none _ n,c,m,a,b⟩⟩
theorem Fly.cn{H:Hp}(f:Fly h0 h H x cls):Cn x h:=by
 obtain⟨_,_,d,g,vs,T,r,j,l,s,u,m,o,p,q,e,n,a,b,c⟩:=f;exact c
section
variable{X:Cx}{pins:List (Addr×Obj)}{σ:St}{H:Hp}{s:Shared}
theorem c'V:∀env∈l,∀a,env.frame=some a->a∈frs l:=λenv c a b=>mem_filterMap.mpr ⟨env,c,b⟩
theorem Inv.frm(I:Inv X pins σ H s):∀b∈frs X.stack,(b∈X.fs\/X.s₀.heap.get? b=none)/\H b=none/\∃o,s.heap.get? b=some o/\∀vs,o.data≠.fields vs:=λb a=>by
 refine⟨?_,I.stkFree b a,(I.stack.mem a).2⟩;rcases mem_cons.mp (I.stkSub b a) with e |e
 .exact .inr (by rw[e];exact Heap.get?_none_of_le I.ok.above)
 .exact .inl e
theorem h'H{E:XK}{x:Addr}{a:Value}(hs:X.stack=X.env::X.outer)(q:X.env.frame=some X.env.locals)(f:X.ex=[])(I:Inv X pins σ H s){l bad:List Addr}{c:Heap}(o:∀b∈l,b∈bad\/b∈frs X.stack)(g:∀b∈bad,X.s₀.heap.get? b=none/\H b=none)(k:(W.hideAll s.heap l).StaysIn c)(sm:s.heap.UpToSlots c){a0:Value}(n:c.TracedW (W.hideAll s.heap l) x a a0)(h:Cn x c)(m:X.s₀.heap.get? x=none)(d:H x=none)(e:E a none H):CX1 X.prog X.w X.outer X.H₀ X.s₀ E (.ref x) { s with heap:=c }:=by
 have j:=I.base;rw[f] at j;obtain⟨u,ok,p⟩:=h'G j I.hok o g I.frm (λb g=>by rw[hs];unfold frs;rw[List.filterMap_cons,q];exact mem_cons_of_mem _ g) k sm;exact⟨x,a,H,rfl,I.os,I.bare,u,ok,p x a a0 n h m d,e⟩
def Xe1(X:Cx)(E:XK):Prop:=X.xe=λe c=>wpAny (model X.prog X.w) X.A (leaving X.env e) (λ_ a=>CX1 X.prog X.w X.outer X.H₀ X.s₀ E e a) (λb a=>CX1 X.prog X.w X.outer X.H₀ X.s₀ E b a) c
theorem b'A{E:XK}(hs:X.stack=X.env::X.outer)(g:X.env.frame=some X.env.locals)(f:X.ex=[])(n:Xe1 X E):adT (CX1 X.prog X.w) X E:=by
 intro pins σ H s e u I M;obtain⟨x,A,B,rfl,os,bare,un,hok,c,C⟩:=M;have J:Inv X pins σ B u:=I.call' (ch:=[]) os un hok bare (λb z=>absurd z (by simp));have m:∀b,s.heap.get? b=none->X.s₀.heap.get? b=none:=λb z=>by
  cases q:X.s₀.heap.get? b with
  |none=>rfl
  |some o=>obtain⟨U,r⟩:=I.base.there b o q (by rw[f];simp);rw[z] at r;cases r
 obtain⟨T,O,h,G,j⟩:=c.traced;rw[n];have l:∀env∈X.env::X.outer,∀a,env.frame=some a->a∈x::T::frs X.stack:=λenv y a g=>.tail _ (.tail _ (by rw[hs];exact c'V env y a g))
 refine g'S (base:=W.hideAll u.heap (x::T::frs X.stack)) (by rw[J.ok.frames,hs]) (W.funFrames_hide (hs ▸ J.stack) l) g (j _ (.tail _ (.head _))) (λb o q=>W.of_hideAll _ q)
  (W.hideAll_none _ (.head _)) c.cn λQ N p=>?_
 obtain⟨D,_,L,v⟩:=N;exact h'H hs g f J (bad:=[x,T]) (λb d=>by
  rcases mem_cons.mp d with z |d
  .exact .inl (by rw[z];exact .head _)
  .rcases mem_cons.mp d with z |d
   .exact .inl (by rw[z];exact .tail _ (.head _))
   .exact .inr d) (λb d=>by
  rcases mem_cons.mp d with z |d
  .rw[z];exact⟨m _ c.1,c.2.1⟩
  .have z:b=T:=by simpa using d
   rw[z];exact⟨m _ h,G⟩) D v L p (m _ c.1) c.2.1 C
end
theorem s'n{K:W.Frag}{h:Heap}{C:Addr}{a:List Value}{newId:String}(X:K.In h)(q:W.excIn K C a newId=true):
  ∃bm N nm c bs hd sn sub ab col dd k0 k1 k2 k3 k5 mN,h.get? C=some (excClassObj nm c C N bs bm hd sn sub ab col dd k0 k1 k2 k3 k5 newId)/\h.Ns N mN/\mN "__init__"=none/\OwnTail h a bm:=by
 unfold W.excIn at q;split at q
 case h_2=>cases q
 case h_1 ddc cdc slc hlook=>
  split at q
  case h_2=>cases q
  case h_1 Cc bmc k0 k1 k2 k3 nn k5 hmro hslots=>
   simp only[and_eq_true,beq_iff_eq,Bool.not_eq_true'] at q;obtain⟨⟨⟨⟨⟨g,l⟩,e⟩,m⟩,b⟩,d⟩:=q;obtain⟨nm,bs,j,ns,c,hd,sn,sub,ab,col,f⟩:=cdc;dsimp only at hmro e b d;obtain⟨n⟩:=slc;simp only at hslots;subst g l e hmro hslots;exact⟨_,_,_,_,_,_,_,_,_,_,_,_,_,_,_,_,_,X _ _ hlook,.of_isNs (W.isNs_of_in X b),W.nsMap_none_of_in X b d,W.tail_of_in X m⟩
def afR(C:Addr)(E:XK)(a:TE):TS:=λ_ j H=>a j H λ_ b=>E (.ref C) none b
section
variable{X:Cx}
theorem o'W{E:XK}{x:Str}{np f pos:Pos}{d:Expr}{Y:TE}{C:Addr}{B newId g:String}{m:List Value}(hs:X.stack=X.env::X.outer)(G:X.env.frame=some X.env.locals)(p:X.ex=[])(O:Xe1 X E)(l:X.calm=true)(hg:Gl X x)(hm:X.mg x=some (.ref C))(FB:ExcBaseFacts B newId g m)(hq:W.excIn X.K C m newId=true)(he:PE X d Y)(M:(x == ("__debug__":Str))=false:=by decide)(A:starEach [d] X.env=(false,eval d X.env)::starEach [] X.env:=by rfl)(hpl:(backTo f (starEach [] X.env)).any (·.1)=false:=by rfl):
  PS X (.Raise (some (.Call (.Name x np) [d] [] f)) none pos) (afR C E Y):=by
 intro pins s j H D I h;obtain⟨bm,N,nm,qn,bs,hd,sn,sub,ab,col,dd,k0,k1,k2,k3,k5,mN,hC,hN,U,T⟩:=s'n I.ok.mod.kin hq;refine wpAny_Raise_call_subT (C:=C) (nm:=nm) (q:=qn) (N:=N) (bs:=bs) (bm:=bm) (hdct:=hd) (sn:=sn) (sub:=sub) (ab:=ab) (col:=col) (dd:=dd) (k0:=k0) (k1:=k1) (k2:=k2) (k3:=k3) (k5:=k5)
  FB (mN:=mN) (T.hasType FB.hasBase) (I.ok.hd l) (by rw[A];show (false || (backTo f (starEach [] X.env)).any (·.1))=false;rw[hpl];rfl) U (b'r I hg hm ⟨rfl,?_⟩ M)
 rw[A];refine Calls.evalArgs_plain ?_;refine Calls.spliced_cons ?_;refine thn (he pins s j H _ I h) λu s1 ⟨v,H1,I1,_,q1⟩=>?_
 refine Calls.spliced_nil ?_;refine⟨rfl,by show (1:Nat)<=sizeLine;decide,I1.bk _ _ hC,hN.keeps I1.bk,T.keeps I1.bk,λh' e c=>?_⟩;obtain⟨t,ht,α,β⟩:=c.there;have J:Inv X pins j H1 { s1 with heap:=h' }:=I1.call' (ch:=[]) rfl (Un.kept c.keeps) (I1.hok.kept c.keeps) I1.bare (λb z=>absurd z (by simp));have up:∀b,s1.heap.get? b=none->X.s₀.heap.get? b=none:=λb z=>by
  cases q:X.s₀.heap.get? b with
  |none=>rfl
  |some o=>obtain⟨o',n⟩:=I1.base.there b o q (by rw[p];simp);rw[z] at n;cases n
 have w:H1 e=none:=by
  cases r:H1 e with
  |none=>rfl
  |some v=>obtain⟨o',n⟩:=(I1.hok e v r).has;rw[c.new] at n;cases n
 rw[O];have L:∀env∈X.env::X.outer,∀a,env.frame=some a->a∈e::frs X.stack:=λenv he a G=>.tail _ (by rw[hs];exact c'V env he a G)
 refine c'U (base:=W.hideAll h' (e::frs X.stack)) (a0:=.ref t) (by rw[J.ok.frames,hs]) (W.funFrames_hide (hs ▸ J.stack) L) G ht (λb o q=>W.of_hideAll _ q)
  (W.hideAll_none _ (.head _)) rfl rfl rfl rfl λh2 hL Q=>?_
 obtain⟨l1,_,l3,l4⟩:=hL;exact h'H hs G p J (bad:=[e]) (λb y=>by
  rcases mem_cons.mp y with z |y
  .exact .inl (by rw[z];exact .head _)
  .exact .inr y) (λb y=>by
  have z:b=e:=by simpa using y
  rw[z];exact⟨up _ c.new,w⟩) l1 l4 l3 Q (up _ c.new) w q1
end
section
variable{P:Program}{w:World}{K:W.Frag}{mg:Str->Option Value}{base:Heap}
theorem Fun.ok1{x a:Str}{st:Stmt}{f:Addr}{g:FuncData}{N e:List Str}{k:Nat}{sp:Sp}(F:Fun K x a st f g)(S:aci N e (ach st))(len:∀vs H Q E,sp vs H Q E->vs.length=e.length)(b:∀(cdv:Value)(A:Around)(outer:List Env)(s:Shared)(H:Hp)(vs:List V)(Q:VK)(E:XK),Room k (A.deeper (envOfC a (ach st) s.heap.objs.size f cdv))->sp vs H Q E->
   ∃t,PSs (aeO (CX1 P w) P w K mg base N a (ach st) f cdv A outer s H E) (acA st) t/\t { nx:=λ_ h=>Q .non h,rt:=Q } (start N vs) H):FnOk P w K mg base (CX1 P w) (k+1) f g e sp:=by
 obtain⟨oc,od,kV,doc,pm,an,cdv,ct,osl,rfl,j,d⟩:=F.ex;exact q'q j d S len λA outer s H vs Q E l c=>b cdv A outer s H vs Q E l c
end
section
variable{X:Cx}
def acF(CX:CXT)(X:Cx)(j:St)(E:XK):Prop:=∀(pins:List (Addr×Obj))(H:Hp)(s:Shared)(e:Value)(a:Shared),Inv X pins j H s->CX X.stack H s E e a->X.xe e a
def afS(sp:Sp)(a:List V)(R:St->XK)(t:TA):TE:=λj H Q=>t j H λvs b=>sp (vs++a) b Q (R j)
variable{CX:CXT}{k:Nat}{f:Addr}{fd:FuncData}{ps:List Str}{sp:Sp}{dvs:List V}{ds:List Value}{x:Str}{p pos:Pos}{e:Expr}{es:List Expr}{t:TA}
theorem f'I(F:FnOk X.prog X.w X.K X.mg X.base CX k f fd ps sp)(l:Room k X.A)(d:Binds X.K fd ps ds)(hd:Vals dvs ds)(c:acF CX X j E)(I:Inv X pins j H s)(r:Vals vs us)(h:sp (vs++dvs) H Q E):wpAny (model X.prog X.w) X.A (call (.ref f) us) (EP X pins j Q) X.xe s:=by
 have r2:=r.append hd;have b:(us++ds).length=ps.length:=r2.length ▸ F.len _ _ _ _ h;refine wpAny_call (codeAny_mono (F.run X.A X.stack s H ⟨us,[]⟩ (us++ds) (vs++dvs) Q E l I.env0 (d s us I.kIn b) r2 h) λr g a=>?_)
 match r,a with
 |.error e,a=>exact c pins H s e g I a
 |.ok (.ret u),a=>exact I.after a
 |.ok .next,a=>exact a.elim
 |.ok .brk,a=>exact a.elim
 |.ok .cont,a=>exact a.elim
theorem o'X{R:St->XK}(F:FnOk X.prog X.w X.K X.mg X.base CX k f fd ps sp)(m:Room k X.A)(l:Gl X x)(g:X.mg x=some (.ref f))(d:W.keepIn X.K (.ref f)=true)(n:Binds X.K fd ps ds)(hd:Vals dvs ds)(b:∀j,acF CX X j (R j))(c:PA X (e::es) t)(a:(x == ("__debug__":Str))=false:=by decide)(he:starEach (e::es) X.env=(false,eval e X.env)::starEach es X.env:=by rfl)(hpl:(backTo pos (starEach es X.env)).any (·.1)=false:=by rfl):PE X (.Call (.Name x p) (e::es) [] pos) (afS sp dvs R t):=by
 intro pins s j H Q I h;refine wpAny_Call_Name_kw (b'r I l g ?_ a);exact W.callWith_K (h₀:=X.base) I.ok.mod.kin d (thn (c pos pins s j H _ I h) λus o ⟨vs,H1,I1,r,q⟩=>⟨I1.kIn,f'I F m n hd (b j) I1 r q⟩) he hpl
abbrev Cx.kept2(X:Cx)(pn:List (Addr×Obj))(xe:Value->Shared->Prop):Cx:={ X with pn:=pn,xe:=xe }
theorem Cx.Ok.kept2(ok:X.Ok)(pn:List (Addr×Obj))(xe:Value->Shared->Prop):(X.kept2 pn xe).Ok:=
 ⟨ok.mod,ok.kind,ok.glob,ok.blt,ok.above,ok.inj,ok.has,ok.cab,ok.hd,ok.frames,ok.stk,ok.exf,ok.bs,ok.bsz,ok.noex,ok.exfs,ok.funs,ok.frf⟩
theorem Inv.keep2(I:Inv X pins j H s)(xe:Value->Shared->Prop):Inv (X.kept2 (X.pn++pins) xe) [] j H s:=
 ⟨I.ok.kept2 _ xe,I.os,I.bare,I.base,I.loc,I.cell,I.free,I.freeC,by rw[append_nil];exact I.pin,I.hok,I.len⟩
theorem Inv.unkeep2(ok:X.Ok)(I:Inv (X.kept2 (X.pn++pins) xe) more j H s):Inv X pins j H s:=
 ⟨ok,I.os,I.bare,I.base,I.loc,I.cell,I.free,I.freeC,λp a=>I.pin p (List.mem_append_left _ a),I.hok,I.len⟩
abbrev Cx.inHandler(X:Cx)(v:Value):Cx:={ X with A:=X.A.mark (some v),calm:=false,xe:=λ_ _=>False }
theorem Inv.inHandler(I:Inv X pins j H s)(v:Value):Inv (X.inHandler v) pins j H s:=
 ⟨⟨I.ok.mod,I.ok.kind,I.ok.glob,I.ok.blt,I.ok.above,I.ok.inj,I.ok.has,I.ok.cab,λz=>Bool.noConfusion z,I.ok.frames,I.ok.stk,I.ok.exf,I.ok.bs,I.ok.bsz,I.ok.noex,I.ok.exfs,I.ok.funs,I.ok.frf⟩,
  I.os,I.bare,I.base,I.loc,I.cell,I.free,I.freeC,I.pin,I.hok,I.len⟩
theorem Inv.outHandler(ok:X.Ok)(I:Inv (X.inHandler v) pins j H s):Inv X pins j H s:=
 ⟨ok,I.os,I.bare,I.base,I.loc,I.cell,I.free,I.freeC,I.pin,I.hok,I.len⟩
theorem SP.imp(q:SP Y pins' D fl s)(h:∀j H,Inv Y pins' j H s->Inv X pins j H s):SP X pins D fl s:=by
 cases fl with
 |next=>obtain⟨b,a,I,q⟩:=q;exact⟨b,a,h _ _ I,q⟩
 |brk=>obtain⟨b,a,I,q⟩:=q;exact⟨b,a,h _ _ I,q⟩
 |cont=>obtain⟨b,a,I,q⟩:=q;exact⟨b,a,h _ _ I,q⟩
 |ret u=>obtain⟨v,b,a,I,r,q⟩:=q;exact⟨v,b,a,h _ _ I,r,q⟩
end
end L2
namespace L2
open PySem PySem.Spec PyProof.Rows PySem.W Builtin Builtin.ObjectAttr Builtin.Getset_descriptor
structure ExcK(K:Frag)(C:Addr):Prop where
 fg:findIn K (.ref C) "__getattribute__"=some (some (.builtin "BaseException.__getattribute__"))
 fn:findIn K (.ref C) "__getattr__"=some none
 fc:findIn K (.ref C) "__class__"=some (some (.builtin "object.__class__"))
 mo:mroIn K C (.type "object")=some true
 sb:subIn K (.ref C) (.type "BaseException")=some true
def ExAt(x C:Addr)(h:Heap):Prop:=∃o,h.get? x=some o/\o.cls=.ref C
theorem ExAt.ty(p:ExAt x C h):Looks M h (typeOf (.ref x)) (.ref C):=by
 obtain⟨o,b,a⟩:=p;rw[<- a];exact (Looks.ld b).andThen .now
section
variable{prog:Program}{w:World}{A:Around}{E:Value->Shared->Prop}{K:Frag}{h:Heap}{g:Array GenState}{d:Drawn}{t:Nat}{os:OsState}{x C:Addr}
theorem m's{Q:Unit->Shared->Prop}(Z:ExcK K C)(X:K.In h)(I:ExAt x C h)(j:Q () ⟨h,g,d,t,os⟩):
  wpAny M A (checkBuiltinCall "BaseException.__getattribute__" ⟨[.ref x,nameV],[]⟩) Q E ⟨h,g,d,t,os⟩:=by
 have e:builtinKind "BaseException.__getattribute__"=some .slot:=by decide +kernel
 have a:splitId "BaseException.__getattribute__"=some ("BaseException","__getattribute__"):=by decide +kernel
 have f:=F.args_bexc_ga (.ref x) nameV;have b:=I.ty (M:=M);have c:=looks_subIn (M:=M) X Z.sb;simp only[checkBuiltinCall,e,a];refine wpAny_bind ?_;unfold isInstance;refine wpAny_bind (b.at (c.at ?_))
 repeat (any_goals (first |assumption |wp_step))
theorem s'o{R:Result->Shared->Prop}(Z:ExcK K C)(X:K.In h)(I:ExAt x C h)(e:R (.ok (.ret (.ref C))) ⟨h,g,d,t,os⟩):
  codeAny (model prog w) A (.call (.builtin "getset_descriptor.__get__") ⟨[.builtin "object.__class__",.ref x,tp],[]⟩) R ⟨h,g,d,t,os⟩:=by
 have b:(⟨h,g,d,t,os⟩:Shared).TypeIs (.builtin "object.__class__") "getset_descriptor":=F.typeOf_object_class;have a:=I.ty (M:=model prog w);have c:=looks_mroIn (M:=model prog w) X Z.mo;refine codeAny_call_builtin (KF.slot_gs).plain (KF.entry_gs) ((KF.slot_gs).check _ _ _ _ _ _ _ _ (KF.type_class) ((KF.args_gs) _ _ _) ?_)
 (unfold Builtin.«getset_descriptor.__get__» descrGet;rw[dga_obj];refine wpAny_bind (wpAny_pure ?_);unfold descrGetter descrCheckInstance descrNameAndClass isInstance;simp only[KF.owner_class])
 repeat (any_goals (first |assumption |with_reducible refine Looks.at a ?_ |with_reducible refine Looks.at c ?_ |wp_step))
 (refine⟨Code.quiet_builtin _ (by decide +kernel),codeAny_builtin KF.entry_class ?_⟩;unfold Builtin.«object.__class__» shownTypeOf)
 repeat (any_goals (first |assumption |with_reducible refine Looks.at a ?_ |wp_step))
theorem m't{Q:Fin->Shared->Prop}(Z:ExcK K C)(X:K.In h)(I:ExAt x C h)(j:Q (.done (.ret (.ref C))) ⟨h,g,d,t,os⟩):
  wpAny (model prog w) A (Builtin.«object.__getattribute__» ⟨[.ref x,.str "__class__" tk],[]⟩) Q E ⟨h,g,d,t,os⟩:=by
 have c:(⟨h,g,d,t,os⟩:Shared).TypeIs (.builtin "object.__class__") "getset_descriptor":=F.typeOf_object_class;have e:=F.typeOf_object_class;have f:=F.slot_gs_get.lookup;have l:=F.slot_gs_set.lookup;have a:=I.ty (M:=model prog w);have b:=looks_findIn (M:=model prog w) X Z.fc
 repeat (any_goals (first |assumption |with_reducible refine Looks.at a ?_ |with_reducible refine Looks.at b ?_ |wp_step))
 refine s'o Z X I ?_
 repeat (any_goals (first |assumption |wp_step))
theorem u'B{Q:Value->Shared->Prop}(Z:ExcK K C)(X:K.In h)(I:ExAt x C h)(j:Q (.ref C) ⟨h,g,d,t,os⟩):
  wpAny (model prog w) A (getAttrBy (.ref x) (.str "__class__" tk) false) Q E ⟨h,g,d,t,os⟩:=by
 have f:=F.excAttr_ValueError.ga.bind (.ref x);have b:=I.ty (M:=model prog w);have c:=looks_findIn (M:=model prog w) X Z.fg;have L2:=looks_findIn (M:=model prog w) X Z.fn;have a:(Value.builtin "BaseException.__getattribute__" == Value.builtin "object.__getattribute__")=false:=by decide +kernel
 have e:(onTheHeap (Value.ref C)&&Value.builtin "BaseException.__getattribute__" == Value.builtin "object.__getattribute__")=false:=by rw[a];rfl
 repeat (any_goals (first |assumption |with_reducible refine Looks.at b ?_ |with_reducible refine Looks.at c ?_ |with_reducible refine Looks.at L2 ?_ |wp_step))
 refine codeAny_call_builtin F.excAttr_ValueError.ga.plain F.entry_bexc_ga (m's Z X I (m't Z X I ?_))
 repeat (any_goals (first |assumption |wp_step))
theorem m'u{Q:Option Value->Shared->Prop}(Z:ExcK K C)(X:K.In h)(I:ExAt x C h)(a:Q (some (.ref C)) ⟨h,g,d,t+1,os⟩):wpAny (model prog w) A (getAttr? (.ref x) "__class__") Q E ⟨h,g,d,t,os⟩:=by
 unfold getAttr? getAttrBy?
 repeat (any_goals (first |assumption |with_reducible apply u'B Z X I |wp_step))
theorem h'I(Z:ExcK K C):KitX K (.ref x) (.ref C) (ExAt x C) where
 ty:=λ_ _ _ I=>I.ty
 it:=λ_ _ X _=>by
  have e:=Z.fn;unfold findIn at e;dsimp only at e;split at e
  .rename_i ho;intro o l p y k q;unfold isType loadHead;exact wpAny_bind (wpAny_loadPart (k _ _ (X _ _ ho)) (wpAny_pure q))
  .cases e
 ne:=λh f b c n r X a=>by
  have e:=Z.fn;unfold findIn at e;dsimp only at e;split at e
  .rename_i ho;refine Bool.eq_false_iff.mpr λq=>?_
   have e:C=f:=Value.ref.inj (beq_iff_eq.mp q);subst e;have z:=(X _ _ ho).symm.trans a;cases z
  .cases e
 ca:=λ{_ _ _ _ _ s} X I k=>by
  obtain⟨v,j,b,u,m⟩:=s;exact m'u Z X I k
end
def exO(x C:Addr):HO:=.ext λh=>ExAt x C h/\Cn x h
theorem m'v(p:ExAt x C h)(cn:Cn x h):ObjOk P w H h x (exO x C):=by
 refine⟨⟨p,cn⟩,?_,λb a q k=>?_⟩
 .obtain⟨o,e,_⟩:=p;exact⟨o,e⟩
 .obtain⟨⟨o,e,c⟩,n⟩:=q;exact⟨⟨o,k o e,c⟩,n.keeps k⟩
section
variable{X:Cx}
theorem o'Y:CallR X (.builtin "isinstance") (λxs H Q=>∃x D c b u,xs=[.ref x,c]/\Rd H x (exO x D)/\ExcK X.K D/\aie c=some u/\kitOne X.K (.ref D) u=some b/\Q (.bl b) H):=by
 intro pins s j H xs us Q I r h;obtain⟨x,D,c,b,u,rfl,f,Z,d,e,q⟩:=h;obtain⟨v,p,rfl,w,g⟩:=q'p r;have l:p=u:=by
  cases c with
  |ref a=>cases d;exact g
  |ty n=>cases d;exact g
  |non=>cases d
  |bl n=>cases d
  |int i=>cases d
  |str i=>cases d
  |byt i=>cases d
  |flt i=>cases d
 subst l;cases (show v=Value.ref x from w);have f:ExAt x D s.heap:=by
  rcases f with f |⟨o,f⟩
  .exact (I.hok x _ f).1.1
  .exact (I.hok x _ f).2.1.1
 exact kia_one (h'I Z) I.kIn f e (λz=>nomatch z) λm=>⟨.bl b,H,I.tok m,rfl,q⟩
end
end L2
namespace L2
open PySem PySem.Spec PyProof.Rows
section
variable{X:Cx}
theorem Inv.gone{s:Shared}{n:Str}(I:Inv X pins G H s)(w:X.N.Nodup)(A:X.N[i]?=some n)(L:s.heap.Ns X.env.locals m)(B:∀(j:Nat)(x:Str)(v:V),X.N[j]?=some x->G[j]?=some (some v)->Vis X.env.scope x->∃u,RelV v u/\aiM X.env s.heap m x u)(C:h'.Ns X.env.locals (λx=>if x=n then v else m x))(hs:Heap.SameBut X.env.locals s.heap h'):Inv X pins (G.set i none) H { s with heap:=h',toks:=tk }:=by
 have apart:∀b o,X.s₀.heap.get? b=some o->b≠X.env.locals:=λb o e=>ne_of_lt (lt_of_lt_of_le (Heap.lt_size e) I.ok.above)
 refine⟨I.ok,I.os,I.bare,⟨λb o e q f d=>(hs.2 b (apart b o e)).trans (I.base.keep b o e q f d),λb o e q f d=>?_,I.base.free,λb o e d=>?_,I.base.tups,I.base.frzs,I.base.tbls⟩,
  ⟨_,C,λj y h g a E=>?_⟩,λy c e=>?_,I.free,I.freeC,λp J=>?_,λb u e=>?_,by rw[length_set];exact I.len⟩
 .obtain⟨sl,z⟩:=I.base.slot b o e q f d;exact⟨sl,(hs.2 b (apart b o e)).trans z⟩
 .obtain⟨o',z⟩:=I.base.there b o e d;exact⟨o',(hs.2 b (apart b o e)).trans z⟩
 .have hj:i≠j:=λz=>by
   subst z;rw[List.getElem?_set] at a;split at a
   .split at a<;>cases a
   .rename_i q;exact q rfl
  rw[getElem?_set_ne hj] at a;obtain⟨u,r,q⟩:=B j y h g a E;refine⟨u,r,q.imp (λq=>⟨q.1,?_⟩) λ⟨k,c,e,z⟩=>⟨k,c,e,z.sameBut hs (I.cne y c e)⟩⟩;have l:y≠n:=λz=>hj (e'x w A (z ▸ g))
  show (if y=n then v else m y)=_;rw[if_neg l];exact q.2
 .obtain⟨u,z⟩:=I.cell y c e;exact⟨u,z.sameBut hs (I.cne y c e)⟩
 .obtain⟨e,q,ne,r⟩:=I.pin p J;exact⟨(hs.2 p.1 ne).trans e,q,ne,r⟩
 .refine (I.hok b u e).stay (λc o D q=>(hs.2 c ?_).trans q) (λ_ q=>q) λ_ _ q=>q
  rintro rfl;rcases D with z |z
  .rw[<- z,I.free] at e;cases e
  .rw[I.free] at z;cases z
def Ends.less(D:Ends)(i:Nat):Ends:={ nx:=λj H=>D.nx (j.set i none) H,rt:=D.rt,bk:=λj H=>D.bk (j.set i none) H,ct:=λj H=>D.ct (j.set i none) H }
def aeU(K:W.Frag)(C:Addr)(i:Nat)(th:Addr->TS)(D:Ends):St->XK:=λj a _ H=>W.exmOne K a (.ref C)=some true/\∃B,a=.ref B/\∀y,H y=none->th y (D.less i) (j.set i (some (.ref y))) (upd H y (exO y B))
def aig(K:W.Frag)(C:Addr)(i:Nat)(th:TS)(D:Ends):St->XK:=aeU K C i (λ_=>th) D
def afT(K:W.Frag)(C:Addr)(i:Nat)(tb:(St->XK)->TS)(th:TS):TS:=λD j H=>tb (aig K C i th D) D j H
def agf(K:W.Frag)(C:Addr)(i:Nat)(tb:(St->XK)->TS)(th:Addr->TS):TS:=λD j H=>tb (aeU K C i th D) D j H
theorem m'w{tb:(St->XK)->TS}(hs:X.stack=X.env::X.outer)(hf:X.env.frame=some X.env.locals)(hg:Gl X x)(hm:X.mg x=some (.ref C))(hN:X.N.Nodup)(hi:X.N[i]?=some n)(hn:X.env.scope.names.lookup n=some .local)(d:∀(pn:List (Addr×Obj))(xe:Value->Shared->Prop)(R:St->XK),(∀j,acF (CX1 X.prog X.w) (X.kept2 pn xe) j (R j))->PSs (X.kept2 pn xe) body (tb R)){th:Addr->TS}(hh:∀y:Addr,PSs (X.inHandler (.ref y)) (E::suite) (th y))(τ:(x == ("__debug__":Str))=false:=by decide):
  PS X (.Try body [.ExceptHandler (some (.Name x np)) (some n) (E::suite) hpos] [] [] pos) (agf X.K C i tb th):=by
 intro pins s j H D I h;refine wpAny_Try_except ?_;have κ:∀Y,acF (CX1 X.prog X.w) (X.kept2 (X.pn++pins) λe ε=>wpAny (model X.prog X.w) X.A (noteFrame e X.env) (λ_ ζ=>wpAny (model X.prog X.w) X.A (setFlight e none)
   (λ_ μ=>wpAny (model X.prog X.w) X.A (handleBy e X.env [.ExceptHandler (some (.Name x np)) (some n) (E::suite) hpos]) (SP X pins D) X.xe μ) X.xe ζ) X.xe ε) Y (aeU X.K C i th D Y):=by
  intro Y pins' H1 s1 e p I1 hc;obtain⟨y,cls,r,rfl,os,bare,un,hok,f,α,B,rfl,φ⟩:=hc;have J1:Inv X pins Y H1 s1:=Inv.unkeep2 I.ok I1;have J2:Inv X pins Y r p:=J1.call' (ch:=[]) os un hok bare (λb z=>absurd z (by simp));obtain⟨T,a0,ω,hT,ξ⟩:=f.traced;have hin:∀env∈X.env::X.outer,∀a,env.frame=some a->a∈y::T::frs X.stack:=λenv he a hf=>.tail _ (.tail _ (by rw[hs];exact c'V env he a hf))
  have fl0:Heap.FlyingW (W.hideAll p.heap (y::T::frs X.stack)) (X.env::X.outer) y (.ref B) a0 p.heap:=
   ⟨λb o q=>W.of_hideAll _ q,W.hideAll_none _ (.head _),W.funFrames_hide (hs ▸ J2.stack) hin,ξ _ (.tail _ (.head _))⟩
  have on:∀h2:Heap,(W.hideAll p.heap (y::T::frs X.stack)).StaysIn h2->p.heap.UpToSlots h2->Un (frs X.stack) [] H1 r s1.heap h2/\HOk X.prog X.w r h2:=λh2 k sm=>by
   obtain⟨u,ok,_⟩:=h'G (fs:=frs X.stack) (fr:=frs X.stack) (bad:=[y,T]) un hok (λb d=>by
    rcases mem_cons.mp d with z |d
    .exact .inl (by rw[z];exact .head _)
    .rcases mem_cons.mp d with z |d
     .exact .inl (by rw[z];exact .tail _ (.head _))
     .exact .inr d) (λb d=>by
    rcases mem_cons.mp d with z |d
    .rw[z];exact⟨f.1,f.2.1⟩
    .have z:b=T:=by simpa using d
     rw[z];exact⟨ω,hT⟩) (λb d=>⟨.inl d,(J2.frm b d).2⟩) (λ_ d=>d) k sm
   exact⟨u,ok⟩
  refine g'z (by rw[I.ok.frames,hs]) hf fl0 f.cn λh4 G η υ=>?_
  refine m'q G υ λh5 U β ο=>?_
  have o5:=on h5 U.1 (η.trans β);have J5:Inv X pins Y r { p with heap:=h5 }:=J1.call' (s':={ p with heap:=h5 }) (ch:=[]) os o5.1 o5.2 bare (λb z=>absurd z (by simp));refine wpAny_handleBy_cons (codeAny_handlers_test ?_) (by intro q;cases q);refine b'r (X:=X.inHandler (.ref y)) (J5.inHandler (.ref y)) hg hm ?_ τ;obtain⟨ob,hob,hoc⟩:=U.there;refine (W.exm_one (M:=model X.prog X.w) J5.kIn (show W.Looks _ h5 (typeOf (.ref y)) (.ref B) from ExAt.ty ⟨ob,hob,hoc⟩) α).here ?_;refine codeAny_handlers_suite_as (m'r U ο λh6 γ sm6 ψ=>?_);have g:=on h6 γ.1 ((η.trans β).trans sm6);obtain⟨π,ι,δ⟩:=γ.there;have ne:∀b o,r b=some o->b≠y:=λb o q z=>by rw[z,f.2.1] at q;cases q
  have ρ:Un (frs X.stack) [] H1 (upd r y (exO y B)) s1.heap h6:=
   ⟨g.1.keep,g.1.slot,λb o e q hx=>by rw[a'e (λz=>by rw[z,f.1] at e;cases e)];exact g.1.free b o e q hx,g.1.there,λb xs q=>by rw[a'e (ne b _ (g.1.tups b xs q))];exact g.1.tups b xs q,
    λb o u q=>by rw[a'e (ne b _ (g.1.frzs b o u q))];exact g.1.frzs b o u q,λb ps q=>by
     obtain⟨ν,z⟩:=g.1.tbls b ps q;exact⟨ν,by rw[a'e (ne b _ z)];exact z⟩⟩
  have σ:HOk X.prog X.w (upd r y (exO y B)) h6:=λb o q=>by
   by_cases z:b=y
   .subst z;rw[a'g] at q;cases q;exact m'v ⟨π,ι,δ⟩ ψ
   .rw[a'e z] at q;exact (g.2 b o q).stay (λ_ _ _ e=>e) (λc e=>by rw[a'e (ne c _ e)];exact e) λc xs e=>by rw[a'e (ne c _ e)];exact e
  have J6:Inv X pins Y (upd r y (exO y B)) { p with heap:=h6 }:=J1.call' (s':={ p with heap:=h6 }) (ch:=[]) os ρ σ bare (λb z=>absurd z (by simp));refine d'f (X:=X.inHandler (.ref y)) (v:=.ref y) (J6.inHandler (.ref y)) hN hi (.inl hn) rfl (λs7 J7=>?_) (.inr hn);refine wpAny_mono (hh y pins s7 _ _ _ J7 (φ y f.2.1)) (λfl s8 q=>?_) λ_ _ z=>z.elim
  have go:∀{O:St}{Q:Hp}{R:Unit->Shared->Prop},Inv (X.inHandler (.ref y)) pins O Q s8->(∀s9,Inv X pins (O.set i none) Q s9->R () s9)->wpAny (model X.prog X.w) X.A (do bindName X.env n .none;unbindBehindTheSuite X.env n hpos) R X.xe s8:=by
   intro O Q R l hR;have J:=Inv.outHandler I.ok l;obtain⟨m,θ,hl8⟩:=J.loc;exact wpAny_nameGoes_keeps hn θ (by rw[I.ok.kind];rfl) λh9 v hn9 χ=>hR _ (J.gone hN hi θ hl8 hn9 χ)
  match fl,q with
  |.next,⟨O,Q,l,q⟩=>exact go l λs9 L=>⟨_,_,L,q⟩
  |.brk,⟨O,Q,l,q⟩=>exact go l λs9 L=>⟨_,_,L,q⟩
  |.cont,⟨O,Q,l,q⟩=>exact go l λs9 L=>⟨_,_,L,q⟩
  |.ret u,⟨v,O,Q,l,rv,q⟩=>exact go l λs9 L=>⟨v,_,_,L,rv,q⟩
 refine wpAny_mono (d _ _ _ κ [] s j H D (I.keep2 _) h) (λfl s1 q=>?_) λ_ _ z=>z
 have q':SP X pins D fl s1:=q.imp λj H J=>Inv.unkeep2 I.ok J
 cases fl with
 |next=>exact wpAny_execs_nil q'
 |brk=>exact q'
 |cont=>exact q'
 |ret u=>exact q'
theorem o'Z{tb:(St->XK)->TS}(hs:X.stack=X.env::X.outer)(m:X.env.frame=some X.env.locals)(e:Gl X x)(d:X.mg x=some (.ref C))(c:X.N.Nodup)(f:X.N[i]?=some n)(g:X.env.scope.names.lookup n=some .local)(h:∀(pn:List (Addr×Obj))(xe:Value->Shared->Prop)(R:St->XK),(∀j,acF (CX1 X.prog X.w) (X.kept2 pn xe) j (R j))->PSs (X.kept2 pn xe) body (tb R))(l:∀v:Value,PSs (X.inHandler v) (a::suite) th)(b:(x == ("__debug__":Str))=false:=by decide):
  PS X (.Try body [.ExceptHandler (some (.Name x np)) (some n) (a::suite) hpos] [] [] pos) (afT X.K C i tb th):=m'w hs m e d c f g h (λy=>l (.ref y)) b
end
end L2
namespace Vc
open PySem L2 Sf
theorem Le.exc(e:Le F F')(h:Rd F a (exO a B)):Rd F' a (exO a B):=e _ _ (by intro o w z;cases z) h
end Vc
namespace L2
open PySem PySem.Spec PyProof.Rows
def Ite(K:W.Frag)(a:Addr):It:=
 ⟨λi H=>∃b x,SqL K H a b/\b[i]?=some x,λi H y c=>∃p x,y=.ref p/\H p=none/\(∀b,SqL K H a b->b[i]?=some x)/\c=upd H p (.tup [.int i,x]),λi H=>∃b,SqL K H a b/\b.length<=i⟩
theorem Inv.turned2{s:Shared}(I:Inv X pins j H s)(k:∀c o,c≠a->c≠b->s.heap.get? c=some o->h'.get? c=some o)(l:ad3 X pins H a)(A:ad3 X pins H b)(J:∃o,h'.get? a=some o)(C:∃o,h'.get? b=some o):Inv X pins j H { s with heap:=h',toks:=t' }:=by
 obtain⟨g,m,G,y,p,v⟩:=l;obtain⟨h,B,D,r,w,x⟩:=A;refine I.call' (s':={ s with heap:=h',toks:=t' }) (ch:=[a,b]) rfl ⟨λc o e _ _ f=>?_,λc o e _ _ f=>⟨o.slots,?_⟩,λ_ _ _ n _=>n,λc o e f=>⟨o,?_⟩,λ_ _ q=>q,λ_ _ _ q=>q,λ_ E q=>⟨#[],by rw[q];simp⟩⟩ (λc u e=>?_) I.bare (λc f=>?_)
 .exact k c o (λz=>f (by simp[z])) (λz=>f (by simp[z])) e
 .exact k c o (λz=>f (by simp[z])) (λz=>f (by simp[z])) e
 .exact k c o (λz=>f (by simp[z])) (λz=>f (by simp[z])) e
 .refine (I.hok c u e).stay (λd o hd q=>k d o ?_ ?_ q) (λ_ q=>q) λ_ _ q=>q
  .rintro rfl;rcases hd with z |z
   .rw[<- z,g] at e;cases e
   .rw[g] at z;cases z
  .rintro rfl;rcases hd with z |z
   .rw[<- z,h] at e;cases e
   .rw[h] at z;cases z
 .rcases mem_cons.mp f with z |f
  .rw[z];exact⟨y,m,p,v⟩
  .have z:c=b:=by simpa using f
   rw[z];exact⟨r,B,w,x⟩
theorem m'x{P:Program}{w:World}{K:W.Frag}{elts:List Expr}{x1:Nat}{pos:Pos}(a it en:Addr)(r:en≠it):
  afk P w K (.Tuple elts x1 pos) (Ite K a) [en,it] en (λi h=>(∃g,IsEnum h en it i g)/\h.IsListIter it a i) where
 mem:=by simp
 obj:=λi h st b l=>by
  obtain⟨⟨g,U⟩,o,e2,c,d⟩:=st;rcases mem_cons.mp l with z |l
  .rw[z];exact⟨_,U,λv z=>by cases z⟩
  .have z:b=it:=by simpa using l
   rw[z];exact⟨o,e2,λv z=>by rw[d] at z;cases z⟩
 keep:=λi h h' st k=>by
  obtain⟨⟨g,U⟩,e2⟩:=st;exact⟨⟨g,k en (by simp) _ U⟩,e2.at λo e=>k it (by simp) o e⟩
 item:=by
  intro X N Y hK hc i pins s j H E I L st hg;subst N Y hK;obtain⟨⟨g,y⟩,n⟩:=st;obtain⟨xs,x,m,hx⟩:=hg;obtain⟨γ,rv,p,hz⟩:=I.list m;obtain⟨u,hu,ru⟩:=rv.get hx;have fe:=L en (by simp);have fi:=L it (by simp);refine wpAny_pyNext_enum_item y n p.isList (x:=u) (by simpa using hu) r λh' J A hT δ hk=>?_
  refine⟨.ref s.heap.objs.size,rfl,wpAny_letOwnedTupleGo_enum J λh2 B O=>?_⟩;have le:en<s.heap.objs.size:=Heap.lt_size y;have li:it<s.heap.objs.size:=let ⟨o,e,_⟩:=n;Heap.lt_size e;have Q:H s.heap.objs.size=none:=I.hok.fresh (le_refl _);have C:en≠s.heap.objs.size:=ne_of_lt le;have D:it≠s.heap.objs.size:=ne_of_lt li;have I1:=I.laid (a:=s.heap.objs.size) (o:=.tup [.int i,x]) (h':=s.heap.push { cls:=.type "tuple",data:=.seq #[.int i s.toks,u] }) (t':=s.toks) (λb q m=>Heap.get?_push_of_some _ m) (le_refl _)
   ⟨by show 2<=sizeLine;decide,[.int i s.toks,u],.cons ⟨_,rfl⟩ (.cons ru .nil),⟨_,Heap.get?_push_size _ rfl,rfl,_,rfl⟩⟩
  have up:∀{b:Addr},b≠s.heap.objs.size->ad3 X pins H b->ad3 X pins (upd H s.heap.objs.size (.tup [.int i,x])) b:=λl f=>⟨by rw[a'e l];exact f.1,f.2⟩
  have β:∀b q,b≠en->b≠it->(s.heap.push { cls:=.type "tuple",data:=.seq #[.int i s.toks,u] }).get? b=some q->h2.get? b=some q:=λb q h1 h3 m=>by
   refine O.extBut b q h1 ?_;rcases Heap.get?_push_cases m with⟨α,eq⟩ |m
   .subst α;subst eq;exact hT
   .exact hk b q h1 h3 m
  obtain⟨M,ei,ci,di⟩:=A;have G:h2.IsListIter it a (i+1):=⟨M,O.extBut it M (Ne.symm r) ei,ci,di⟩;refine⟨.ref s.heap.objs.size,upd H s.heap.objs.size (.tup [.int i,x]),?_,rfl,⟨_,x,rfl,Q,λys hy=>by rw[I.list_inj hy m];exact hx,rfl⟩,⟨⟨_,B⟩,G⟩,λb l=>?_⟩
  .exact Inv.turned2 (s:={ s with heap:=s.heap.push { cls:=.type "tuple",data:=.seq #[.int i s.toks,u] },toks:=s.toks }) (t':=s.toks+1) I1 β (up C fe) (up D fi) ⟨_,B⟩ ⟨M,O.extBut it M (Ne.symm r) ei⟩
  .rcases mem_cons.mp l with z |l
   .rw[z,a'e C];exact fe.1
   .have z:b=it:=by simpa using l
    rw[z,a'e D];exact fi.1
 done:=by
  intro X N Y hK hc i pins s j H E I L st hg;subst N Y hK;obtain⟨⟨g,y⟩,n⟩:=st;obtain⟨xs,m,hx⟩:=hg;obtain⟨γ,rv,p,hz⟩:=I.list m;have hl:=rv.length;obtain⟨f0,f1,f2,f3,f4,f5⟩:=L it (by simp);exact wpAny_pyNext_enum_end (I.ok.hd hc) y n p.isList (by simp;omega) λh' eb=>⟨rfl,I.turned (t':=s.toks) (λb o l e=>eb b o l e) f0 f1 f3 f4 f5⟩
 self:=λ_ _ _ _ _ st h=>let ⟨⟨_,y⟩,_⟩:=st;wpAny_pyIter_enum y h
section
variable{X:Cx}
def aha(K:W.Frag)(c:TA):TI:=λj H R=>c j H λvs b=>∃a,vs=[.ref a]/\(∃d,SqL K b a d)/\R (Ite K a) b
theorem s'p{l:Expr}{n:TA}{elts:List Expr}{x1:Nat}{d p pos:Pos}(y:Gl X "enumerate")(B:X.mg "enumerate"=none)(o:PA X [l] n)(hs:starEach [l] X.env=[(false,eval l X.env)]:=by rfl):
  PI X (.Tuple elts x1 d) (.Call (.Name "enumerate" p) [l] [] pos) (aha X.K n):=by
 intro pins s j H R I h;refine Call_ (b'o I y B (u:=.type "enumerate") rfl (PyProof.Rows.callWith_type1 (thn (o pos pins s j H _ I h) λus c ⟨vs,H1,I1,r1,a,e,⟨xs,hq⟩,q⟩=>?_) hs rfl));subst e;cases r1 with
 |cons r v=>
  cases v;cases r;obtain⟨x,D,p,C⟩:=I1.list hq;refine call_enumerate_list p.isList λE m f A w=>wpAny_pyIter_enum m ?_
  have ne:c.heap.objs.size+1≠c.heap.objs.size:=by omega
  refine⟨c.heap.objs.size+1,[c.heap.objs.size+1,c.heap.objs.size],_,_,H1,rfl,I1.kept (t':=c.toks) w,m'x a _ _ ne,⟨⟨_,m⟩,f⟩,λb g=>?_,q⟩;rcases mem_cons.mp g with z |g
  .rw[z];exact I1.fpOk (by omega) (I1.hok.fresh (by omega))
  .have z:b=c.heap.objs.size:=by simpa using g
   rw[z];exact I1.fpOk (le_refl _) (I1.hok.fresh (le_refl _))
end
theorem f'j:∀{bs:List Bool}{us:List Value},Vals (bs.map V.bl) us->us=bs.map Value.bool
 |[],_,.nil=>rfl
 |b::r,_,.cons h t=>by
  have e:=f'j (bs:=r) t;subst e;cases h;rfl
theorem m'y(bs:List Bool):(List.range bs.length).any (λi=>bs.getD i false)=bs.any id:=by
 rw[Bool.eq_iff_iff,any_eq_true,any_eq_true];constructor
 .rintro⟨i,a,h⟩;rw[mem_range] at a;refine⟨bs[i],List.getElem_mem a,?_⟩;rw[getD_eq_getElem?_getD,getElem?_eq_getElem a] at h;exact h
 .rintro⟨b,hb,h⟩;obtain⟨i,a,rfl⟩:=List.getElem_of_mem hb;refine⟨i,mem_range.mpr a,?_⟩;rw[getD_eq_getElem?_getD,getElem?_eq_getElem a];exact h
theorem j'a(bs:List Bool):TruthOf prog w A (λi v=>(bs.map Value.bool).toArray[i]?=some v) (λi=>bs.getD i false):=by
 intro i v s Q E a c;simp only[List.getElem?_toArray,getElem?_map] at a;cases q:bs[i]? with
 |none=>rw[q] at a;cases a
 |some b=>
  rw[q] at a;cases a;have c:Q (bs.getD i false) s:=c;rw[getD_eq_getElem?_getD,q] at c;exact wpAny_pure c
section
variable{X:Cx}
theorem m'z(n:X.calm=true):CallR X (.builtin "any") (λxs H Q=>∃(a:Addr)(bs:List Bool),xs=[.ref a]/\SqL X.K H a (bs.map V.bl)/\Q (.bl (bs.any id)) H):=by
 intro pins s j H xs us Q I r h;obtain⟨a,bs,rfl,w,q⟩:=h;obtain⟨u,rfl,v⟩:=b'w r;cases v;obtain⟨m,f,p,x⟩:=I.list w;obtain rfl:=f'j f;have d:=p.isList;have g:a<s.heap.objs.size:=(let ⟨_,e,_⟩:=d;Heap.lt_size e);refine call_any_walk (wpAny_pyIter_list d ?_);refine⟨s.heap.objs.size,_,_,_,_,_,_,rfl,Walks.list (by exact I.ok.hd n) _ a (ne_of_lt g) _,⟨⟨_,Heap.get?_push_size _ rfl,rfl,rfl⟩,(let ⟨o,e,c⟩:=d;⟨o,Heap.get?_push_of_some _ e,c⟩)⟩,j'a bs,λy A l=>?_⟩;refine⟨.bl (bs.any id),H,I.kept λb o e=>l b o (λz=>absurd (Heap.lt_size e) (by rw[show b=s.heap.objs.size from by simpa using z];exact lt_irrefl _)) (Heap.get?_push_of_some _ e),?_,q⟩;rw[<- m'y];show _=_;simp
end
def Itk(b:Key×V->V)(a:Addr)(ob:Obj)(kvs:List (Key×V)):It:=
 ⟨λi H=>i<kvs.length/\H a=some (.frz ob (.dK kvs)),λi H x d=>d=H/\∃c,kvs[i]?=some c/\x=b c,λi H=>kvs.length<=i/\H a=some (.frz ob (.dK kvs))⟩
abbrev ahR:Key×V->V:=λkv=>kV kv.1
theorem m'A{H:Hp}(I:Inv X pins j H s)(n:H a=some (.frz ob (.dK kvs)))(hd:ob.data=.dict es ep):
  ∃vs,KV kvs vs/\s.heap.DictAt (acn X.prog X.w) a vs ep/\kvs.length=vs.length:=by
 obtain⟨d,z,y,vs,r,l,h,p,b,e,c,g,m,f⟩:=(show ObjOk X.prog X.w H s.heap a (.frz ob (.dK kvs)) from I.hok a _ n);have o:ob=l:=Option.some.inj (d.symm.trans b);subst o;rw[hd] at c;cases c;exact⟨vs,r,⟨ob,es,d,e,hd,g,m,f⟩,KV.length r⟩
theorem m'B{P:Program}{w:World}{K:W.Frag}{tg:Expr}(a it:Addr)(ob:Obj)(kvs:List (Key×V)):
  afk P w K tg (Itk ahR a ob kvs) [it] it (λi h=>∃l ep,ob.data=.dict l ep/\h.IsKeyIter it a i kvs.length ep) where
 mem:=by simp
 obj:=λi h st b m=>by
  obtain⟨l,ep,hd,o,e,c,d⟩:=st;rw[show b=it from by simpa using m];exact⟨o,e,λv z=>by rw[d] at z;cases z⟩
 keep:=λi h x st k=>by
  obtain⟨l,ep,hd,o,e,c,d⟩:=st;exact⟨l,ep,hd,o,k it (by simp) o e,c,d⟩
 item:=by
  intro X B M N hc i pins s j H E I A st O;subst B M N;obtain⟨l,ep,hd,f⟩:=st;obtain⟨hi,Q⟩:=O;obtain⟨vs,r,G,y⟩:=m'A I Q hd;obtain⟨⟨k,v⟩,n⟩:∃q,kvs[i]?=some q:=⟨kvs[i],by simp[hi]⟩;obtain⟨u,hu,ru⟩:=r.at n;rw[y] at f;obtain⟨C,L,f2,U,D,J⟩:=A it (by simp);refine wpAny_pyNext_dict_item f G hu λY x p g sb=>?_
  have I1:Inv X pins j H { s with heap:=x }:=I.turned (t':=s.toks) (λb o m e=>(sb.2 b m).trans e) C L U D J;obtain⟨o,e,c,d⟩:=id g;refine⟨Y,rfl,g'Z (s:={ s with heap:=x }) e c d (by decide) ⟨kV k,H,I1,e'A p,⟨rfl,_,n,rfl⟩,⟨l,ep,hd,by rw[y];exact g⟩,λb m=>(A b m).1⟩⟩
 done:=by
  intro X B M N hc i pins s j H E I A st O;subst B M N;obtain⟨l,ep,hd,f⟩:=st;obtain⟨hi,Q⟩:=O;obtain⟨vs,r,G,y⟩:=m'A I Q hd;rw[y] at f;obtain⟨C,L,f2,U,D,J⟩:=A it (by simp);exact wpAny_pyNext_dict_end (I.ok.hd hc) f G (by simp;omega) λx eb=>⟨rfl,I.turned (t':=s.toks) (λb o m e=>eb b o m e) C L U D J⟩
 self:=λ_ _ _ _ _ st h=>let ⟨_,_,_,f⟩:=st;wpAny_pyIter_keyiter f h
section
variable{X:Cx}
def iDk(c:Key×V->V)(X:Cx)(f:TE):TI:=λj H R=>f j H λx d=>∃a b,x=.ref a/\d a=some (.dK b)/\∀e,(∀o u,X.H₀ a≠some (.frz o u))->R (Itk c a e b) (upd d a (.frz e (.dK b)))
theorem s'q(D:PE X o td):PI X tg o (iDk ahR X td):=by
 intro pins s j H R I h;refine thn (D pins s j H _ I h) λv d ⟨x,H1,I1,r1,a,kvs,ex,hH,q⟩=>?_
 subst ex;obtain rfl:v=Value.ref a:=r1;obtain⟨G,E,hd⟩:=f'b I1 (.inl ⟨kvs,.inl hH⟩);obtain⟨z,y,vs,r,A⟩:=h'a I1.hok hH;have l:∀o u,X.H₀ a≠some (.frz o u):=λo u z=>by
  have:=I1.base.frzs a o u z;rw[hH] at this;cases this
 obtain⟨m,c⟩:=A.dictAt;refine wpAny_pyIter_dict hd c ?_;obtain⟨f,g,n⟩:=(I1.kept (t':=d.toks) (h':=d.heap.push { cls:=.type "dict_keyiterator",data:=.fields #[.ref a,.int 0 0,.int vs.length 0,.int m 0] }) λb o e=>Heap.get?_push_of_some _ e).freeze hH;have w:a<d.heap.objs.size:=c.lt_size;have p:kvs.length=vs.length:=KV.length r;refine⟨_,[_],_,_,upd H1 a (.frz f (.dK kvs)),rfl,n,m'B a d.heap.objs.size f kvs,?_,λb B=>?_,q f l⟩
 .obtain⟨o2,es,ho2,c1,c2,_⟩:=c;have C:f=o2:=Option.some.inj (g.symm.trans (Heap.get?_push_of_some _ ho2));subst C;exact⟨es,m,c2,by rw[p];exact⟨_,Heap.get?_push_size _ rfl,rfl,rfl⟩⟩
 .have e:b=d.heap.objs.size:=by simpa using B
  subst e;exact I1.fpOk (le_refl _) (by rw[a'e (Nat.ne_of_gt w)];exact I1.hok.fresh (le_refl _))
def aeV(X:Cx)(t:TE):TE:=λj H Q=>t j H λv=>agM X (Q v)
theorem s'r(h:PE X e t):PE X e (aeV X t):=by
 intro pins s j H Q I q;refine thn (h pins s j H _ I q) λu b ⟨v,H',I',rv,a,ob,kvs,e,hn,r⟩=>?_
 exact⟨v,_,I'.thaw e hn,rv,r⟩
end
section
variable{g:TG}{ti:TT}{te:TE}{ix:List (Option Nat)}{σ:St}{Q:VK}
theorem s's{f:Key×V->V}(Pv:Nat->List V->Hp->Prop)(o:Pv 0 [] H1)(j:∀i c H,i<=kvs.length->Pv i c H->H a=some (.frz ob (.dK kvs)))(hs:∀i k v c H,kvs[i]?=some (k,v)->Pv i c H->g (f (k,v)) (acG ix σ) H λd q=>Wk (acG ix σ) d/\ti d q λb l=>if b=true then te d l λv m=>c.length<sizeLine/\Pv (i+1) (c++[v]) m else Pv (i+1) c l)(hd:∀c H,Pv kvs.length c H->c.length<=sizeLine/\∀p,H p=none->Q (.ref p) (upd H p (.lst c))):ag9 (Itk f a ob kvs) g ti te ix σ Q H1:=by
 refine q'u (n:=kvs.length) Pv o (λi c H h p=>⟨h,j i c H (Nat.le_of_lt h) p⟩) (λc H p=>⟨le_refl _,j _ c H (le_refl _) p⟩) (λi x c H r h p y=>?_) hd;obtain⟨rfl,⟨k,v⟩,e,rfl⟩:=y;exact hs i k v c _ e p
end
theorem Inv.turnedL{X:Cx}{pins:List (Addr×Obj)}{j:St}{H:Hp}{s:Shared}{h':Heap}{t':Nat}{ch:List Addr}(I:Inv X pins j H s)(k:∀c o,c ∉ ch->s.heap.get? c=some o->h'.get? c=some o)(g:∀b∈ch,ad3 X pins H b):Inv X pins j H { s with heap:=h',toks:=t' }:=by
 refine I.call' (s':={ s with heap:=h',toks:=t' }) (ch:=ch) rfl ⟨λc o e _ _ a=>k c o a e,λc o e _ _ a=>⟨o.slots,k c o a e⟩,λ_ _ _ n _=>n,λc o e a=>⟨o,k c o a e⟩,λ_ _ q=>q,λ_ _ _ q=>q,λ_ l q=>⟨#[],by rw[q];simp⟩⟩ (λc u e=>?_) I.bare (λc a=>?_)
 .refine (I.hok c u e).stay (λd o hd q=>k d o (λh=>?_) q) (λ_ q=>q) λ_ _ q=>q
  have f:=(g d h).1;rcases hd with z |z
  .rw[<- z,f] at e;cases e
  .rw[f] at z;cases z
 .obtain⟨a0,a1,a2,a3,a4,a5⟩:=g c a;exact⟨a3,a1,a4,a5⟩
def Itz(K:W.Frag)(a b:Addr):It:=
 ⟨λi H=>∃c d x y,SqL K H a c/\SqL K H b d/\c[i]?=some x/\d[i]?=some y,
  λi H v e=>∃p x y,v=.ref p/\H p=none/\(∀c,SqL K H a c->c[i]?=some x)/\(∀d,SqL K H b d->d[i]?=some y)/\e=upd H p (.tup [x,y]),
  λi H=>∃c d,SqL K H a c/\SqL K H b d/\(c.length<=i\/d.length<=i)⟩
theorem p'a{P:Program}{w:World}{K:W.Frag}{elts:List Expr}{x1:Nat}{pos:Pos}{a b z TI TO m l:Addr}(D:ZipApart z TI TO m l a b):
  afk P w K (.Tuple elts x1 pos) (Itz K a b) [z,TI,TO,m,l] z (λi h=>IsZip h z TI TO .none/\IsPair h TI (.ref m) (.ref l)/\(∃c d,IsPair h TO c d)/\h.IsListIter m a i/\h.IsListIter l b i) where
 mem:=by simp
 obj:=λi h st c f=>by
  obtain⟨B,A,⟨u,v,C⟩,⟨o4,J,c4,d4⟩,⟨o5,G,c5,d5⟩⟩:=st;simp only[mem_cons,not_mem_nil,or_false] at f;rcases f with rfl |rfl |rfl |rfl |rfl
  .exact⟨_,B,λv z=>by cases z⟩
  .exact⟨_,A,λv z=>by cases z⟩
  .exact⟨_,C,λv z=>by cases z⟩
  .exact⟨o4,J,λv z=>by rw[d4] at z;cases z⟩
  .exact⟨o5,G,λv z=>by rw[d5] at z;cases z⟩
 keep:=λi h h' st k=>by
  obtain⟨B,A,⟨u,v,C⟩,J,G⟩:=st;exact⟨k z (by simp) _ B,k TI (by simp) _ A,⟨u,v,k TO (by simp) _ C⟩,J.at λo e=>k m (by simp) o e,G.at λo e=>k l (by simp) o e⟩
 item:=by
  intro X hP hw hK f i pins s j H E I O st hg;subst hP hw hK;obtain⟨B,A,⟨c,d,C⟩,J,G⟩:=st;obtain⟨xs,ys,x,y,n,r,hx,Y⟩:=hg;obtain⟨θ,rv,p,hz⟩:=I.list n;obtain⟨Q,L,p',η⟩:=I.list r;obtain⟨u,hu,ru⟩:=rv.get hx;obtain⟨M,κ,α⟩:=L.get Y;refine wpAny_pyNext_zip_item D B A C J G p.isList p'.isList (x:=u) (y:=M) (by simpa using hu) (by simpa using κ) λh' g1 g2 g3 g4 hT μ hk=>?_
  refine⟨.ref s.heap.objs.size,rfl,wpAny_letOwnedTupleGo_zip g1 λU δ N=>?_⟩;have γ:H s.heap.objs.size=none:=I.hok.fresh (le_refl _);have lt:∀{c o},s.heap.get? c=some o->c≠s.heap.objs.size:=λe=>ne_of_lt (Heap.lt_size e)
  have ne:∀c∈[z,TI,TO,m,l],c≠s.heap.objs.size:=λc f=>by
   simp only[mem_cons,not_mem_nil,or_false] at f;rcases f with rfl |rfl |rfl |rfl |rfl
   .exact lt B
   .exact lt A
   .exact lt C
   .obtain⟨o,e,_⟩:=J;exact lt e
   .obtain⟨o,e,_⟩:=G;exact lt e
  have I1:=I.laid (a:=s.heap.objs.size) (o:=.tup [x,y]) (h':=s.heap.push { cls:=.type "tuple",data:=.seq #[u,M] }) (t':=s.toks) (λb q n=>Heap.get?_push_of_some _ n) (le_refl _)
   ⟨by show 2<=sizeLine;decide,[u,M],.cons ru (.cons α .nil),⟨_,Heap.get?_push_size _ rfl,rfl,_,rfl⟩⟩
  have ε:∀c q,c ∉ [z,TI,TO,m,l]->(s.heap.push { cls:=.type "tuple",data:=.seq #[u,M] }).get? c=some q->U.get? c=some q:=λc q f n=>by
   refine N.extBut c q (λg=>f (by simp[g])) ?_;rcases Heap.get?_push_cases n with⟨ζ,eq⟩ |n
   .subst ζ;subst eq;exact hT
   .exact hk c q (λg=>f (by simp[g])) (λg=>f (by simp[g])) (λg=>f (by simp[g])) (λg=>f (by simp[g])) n
  have t2:IsPair U TI (.ref m) (.ref l):=N.extBut TI _ D.TIz (hk TI _ D.TIz D.TITO D.TIi1 D.TIi2 A);have t3:IsPair U TO u M:=N.extBut TO _ D.TOz g2;have t4:U.IsListIter m a (i+1):=g3.at λo e=>N.extBut m o D.i1z e
  have t5:U.IsListIter l b (i+1):=g4.at λo e=>N.extBut l o D.i2z e
  refine⟨.ref s.heap.objs.size,upd H s.heap.objs.size (.tup [x,y]),?_,rfl,⟨_,x,y,rfl,γ,λys Y=>by rw[I.list_inj Y n];exact hx,λys ι=>by rw[I.list_inj ι r];exact Y,rfl⟩,⟨δ,t2,⟨_,_,t3⟩,t4,t5⟩,λc f=>?_⟩
  .exact Inv.turnedL (s:={ s with heap:=s.heap.push { cls:=.type "tuple",data:=.seq #[u,M] },toks:=s.toks }) (t':=s.toks) I1 ε λc f=>⟨by rw[a'e (ne c f)];exact (O c f).1,(O c f).2⟩
  .rw[a'e (ne c f)];exact (O c f).1
 done:=by
  intro X hP hw hK f i pins s j H E I O st hg;subst hP hw hK;obtain⟨B,A,⟨c,d,C⟩,J,G⟩:=st;obtain⟨xs,ys,n,r,β⟩:=hg;obtain⟨θ,rv,p,hz⟩:=I.list n;obtain⟨Q,L,p',η⟩:=I.list r;have l1:=rv.length;have l2:=L.length;refine wpAny_pyNext_zip_end (I.ok.hd f) D B A C J G p.isList p'.isList (β.imp (λh=>by simp;omega) λh=>by simp;omega) λh' hk=>⟨rfl,I.turnedL (t':=s.toks) (ch:=[z,TI,TO,m,l]) (λc o f e=>?_) O⟩
  exact hk c o (λg=>f (by simp[g])) (λg=>f (by simp[g])) (λg=>f (by simp[g])) (λg=>f (by simp[g])) e
 self:=λ_ _ _ _ _ st h=>wpAny_pyIter_zip st.1 h
section
variable{X:Cx}
def ai5(K:W.Frag)(d:TA):TI:=λj H R=>d j H λvs c=>∃a b,vs=[.ref a,.ref b]/\(∃f,SqL K c a f)/\(∃e,SqL K c b e)/\R (Itz K a b) c
theorem u'C{l m:Expr}{o:TA}{elts:List Expr}{x1:Nat}{g p pos:Pos}(Y:Gl X "zip")(J:X.mg "zip"=none)(D:PA X [l,m] o)(hs:starEach [l,m] X.env=[(false,eval l X.env),(false,eval m X.env)]:=by rfl)(f:starEach [m] X.env=[(false,eval m X.env)]:=by rfl):PI X (.Tuple elts x1 g) (.Call (.Name "zip" p) [l,m] [] pos) (ai5 X.K o):=by
 intro pins s j H R I h;refine Call_ (b'o I Y J (u:=.type "zip") rfl (PyProof.Rows.callWith_type1 (thn (D pos pins s j H _ I h) λus d ⟨vs,H1,I1,r1,a,b,e,⟨xs,hq⟩,⟨ys,hq'⟩,q⟩=>?_) (by rw[hs,f]) (by rw[f];rfl)));subst e;cases r1 with
 |cons r n=>
  cases n with
  |cons M n=>
   cases n;cases r;cases M;obtain⟨α,rv,p,hz⟩:=I1.list hq;obtain⟨w,N,A,O⟩:=I1.list hq';have Q:a<d.heap.objs.size:=let ⟨_,e,_⟩:=p.isList;Heap.lt_size e;have C:b<d.heap.objs.size:=let ⟨_,e,_⟩:=A.isList;Heap.lt_size e;refine call_zip_2 p.isList A.isList λh' v G g3 L g5 β U=>wpAny_pyIter_zip v ?_
   have E:ZipApart (d.heap.objs.size+4) (d.heap.objs.size+2) (d.heap.objs.size+3) d.heap.objs.size (d.heap.objs.size+1) a b:=by
    have lt:∀{x y:Nat},x<y->x≠y:=λh=>ne_of_lt h
    have gt:∀{x y:Nat},y<x->x≠y:=λh=>Nat.ne_of_gt h
    constructor<;>first |exact lt (by omega) |exact gt (by omega) |exact lt (lt_of_lt_of_le Q (by omega)) |exact lt (lt_of_lt_of_le C (by omega))
   refine⟨d.heap.objs.size+4,[d.heap.objs.size+4,d.heap.objs.size+2,d.heap.objs.size+3,d.heap.objs.size,d.heap.objs.size+1],_,_,H1,rfl,I1.kept (t':=d.toks) U,p'a E,⟨v,G,⟨_,_,g3⟩,L,g5⟩,λc B=>?_,q⟩;have z:d.heap.objs.size<=c:=by
    simp only[mem_cons,not_mem_nil,or_false] at B;rcases B with rfl |rfl |rfl |rfl |rfl
    .exact Nat.le_add_right _ _
    .exact Nat.le_add_right _ _
    .exact Nat.le_add_right _ _
    .exact le_refl _
    .exact Nat.le_add_right _ _
   exact I1.fpOk z (I1.hok.fresh z)
end
end L2
namespace Vc
open PySem L2 Sf
section
variable{X:Cx}{pins:List (Addr×Obj)}{σ:St}{H:Hp}{s:Shared}{Au:Around}
theorem s't(I:Inv X pins σ H s)(c:SqL X.K H a xs)(d:SqL X.K H b ys)(w:Au.units<cLine)(E:xs.length=ys.length)(e:Nat->Bool)(he:∀(j:Nat) x y u v,xs[j]?=some x->ys[j]?=some y->RelV x u->RelV y v->SeqAt.EqAt Au.in1 s u v (e j)):SeqAt.RcNeAt Au s (.ref a) (.ref b) (!(List.range xs.length).all e):=by
 obtain⟨us,f,h,_⟩:=I.list c;obtain⟨q,r2,B,_⟩:=I.list d;have g:=f.length;have G:=r2.length;have z:=SeqAt.RcNeAt.lists (A:=Au) (e:=e) h.isList B.isList (by simp;omega) w (λj c d=>?_)
 .have e0:(List.range us.toArray.size).all e=(List.range xs.length).all e:=by
   simp only[size_toArray];rw[<- g]
  rw[e0] at z;exact z
 .simp only[size_toArray] at c d;obtain⟨u,l,C⟩:=f.get (i:=j) (x:=xs[j]'(by omega)) (by simp);obtain⟨v,r,m⟩:=r2.get (i:=j) (x:=ys[j]'(by omega)) (by simp);obtain⟨_,o⟩:=List.getElem?_eq_some_iff.mp l;obtain⟨_,D⟩:=List.getElem?_eq_some_iff.mp r;have p:us.toArray[j]'(by simpa using c)=u:=by simpa using o
  have n:q.toArray[j]'(by simpa using d)=v:=by simpa using D
  rw[p,n];exact he j _ _ u v (by simp) (by simp) C m
end
theorem s'u{H:Hp}(h:H p=some (.lst xs)):tyV K "list" (.ref p) H:=by
 exact .inl ⟨rfl,xs,SqL.of h⟩
end Vc
namespace L2
open PySem PySem.Spec PyProof.Rows
def ahb:R2:=λx y H Q=>∃z n,x=.str z/\y=.int n/\z.length<=100/\0<=n/\n<=1000/\Q (.str (Txt.mul z n)) H
theorem l'k:OpR X (binaryOp .Mult) ahb:=by
 intro pins s j H x y v u Q I d c h;obtain⟨z,n,rfl,rfl,a,f,e,q⟩:=h;obtain⟨t,rfl⟩:=d;obtain⟨b,rfl⟩:=c;exact SB.mul (mulOk_of 100 1000 a (by omega) (by omega) (by decide) (by decide)) λb k=>⟨.str _,H,I.tok _,⟨_,rfl⟩,q⟩
section
variable{X:Cx}
theorem m'C{kvs:List (Key×V)}{vs:List (Key×Value)}{us:List Value}(r:KV kvs vs)(a:us.length=kvs.length)(h:∀(j:Nat) u,us[j]?=some u->∃k,vs[j]?=some (k,u)):Vals (kvs.map (·.2)) us:=by
 induction kvs generalizing vs us with
 |nil=>cases us with
  |nil=>exact .nil
  |cons _ _=>simp at a
 |cons p t g=>
  cases us with
  |nil=>simp at a
  |cons u us=>
   unfold KV at r;cases r with
   |cons b n=>
    rename_i q c;obtain⟨k,e⟩:=h 0 u rfl;have l:q=(k,u):=by simpa using e
    refine .cons (by rw[l] at b;exact b.2) (g (vs:=c) n (by simpa using a) λj w d=>?_);obtain⟨m,f⟩:=h (j+1) w (by simpa using d);exact⟨m,by simpa using f⟩
end
end L2
namespace Vc
open PySem L2 Sf
theorem s'v{j:Type}{m:List (Str×j)}{x:Str}{y:j}(h:∀p∈m,p.1≠x):ptd m x y=m++[(x,y)]:=by
 unfold ptd;rw[if_neg];intro z;rw[any_eq_true] at z;obtain⟨p,a,e⟩:=z;exact h p a (by simpa using e)
def r4(K:W.Frag){j y G c:Type}(A:Rep j)(B:Rep y)(C:Rep G)(D:Rep c):Rep (j×y×G×c):=λF v x=>∃a e f d b,v=.ref a/\SqT K F a [e,f,d,b]/\A F e x.1/\B F f x.2.1/\C F d x.2.2.1/\D F b x.2.2.2
end Vc
namespace L2
open PySem PySem.Spec PyProof.Rows
def RnW(P:Program)(w:World)(A:Around)(s:Shared)(u v:Value):Prop:=∀(E:Value->Shared->Prop)(Q:Value->Shared->Prop),Q (.bool false) s->wpAny (model P w) A (richCompare .NotEq u v) Q E s
section
variable{P:Program}{w:World}{A:Around}{s:Shared}
section
open PySem.AutoSeq1 (wpAny_loadPart')
theorem w'x(a b:Addr)(xs ys:Array Value)(n m:Nat)(H C:Option Addr)(sa sb:Array (Option Value))(hz:xs.size=ys.size):
  MeetsIn P w (Builtin.«tuple.__ne__» ⟨[.ref a,.ref b],[]⟩) (λA R s=>s.heap.get? a=some ⟨.type "tuple",H,.seq xs n,sa⟩/\s.heap.get? b=some ⟨.type "tuple",C,.seq ys m,sb⟩/\
   (∀j (I:j<xs.size) (L:j<ys.size),EqW P w A.in1 s xs[j] ys[j])/\R (.ok (.ret (.bool false))) s):=by
 refine .of_wp λA R s h=>?_
 obtain⟨B,g,d,v,os⟩:=s;obtain⟨o,G,q,D⟩:=h;have sub:=AutoSeq1.sub_tuple_tuple;have len:(xs.toList.zip ys.toList).length=xs.size:=by simp;omega
 wp_walk using wpAny_loadPart' o,wpAny_loadPart' G,wpAny_forIn_list _ (λr c l=>c.1=none/\l=⟨B,g,d,v,os⟩/\∃i,r=(xs.toList.zip ys.toList).drop i) _
 case turn=>
  rintro⟨x,y⟩ r c l ⟨f,rfl,i,e⟩;by_cases lt:i<(xs.toList.zip ys.toList).length
  .rw[List.drop_eq_getElem_cons lt] at e;injection e with e1 e2
   have E:i<xs.size:=by omega
   have p:i<ys.size:=by omega
   obtain⟨ex,u⟩:x=xs[i]/\y=ys[i]:=by
    have z:=Prod.mk.inj (e1.trans List.getElem_zip);exact⟨by simpa using z.1,by simpa using z.2⟩
   subst ex u;refine wpAny_bind (q i E p _ _ ?_)
   wp_walk
   exact⟨rfl,rfl,i+1,e2⟩
  .rw[List.drop_of_length_le (by omega)] at e;cases e
 case fin=>
  rintro⟨J,M⟩ l ⟨f,rfl,_⟩;simp only at f;subst f
  wp_walk
  refine⟨_,rfl,?_⟩;simpa [Builtin.Tuple.tupleCompareSizes,hz] using D
 case h=>exact⟨rfl,rfl,0,rfl⟩
end
theorem RnW.tuples(o:IsTup s.heap a xs)(p:IsTup s.heap b ys)(hz:xs.size=ys.size)(u:A.units<cLine)(he:∀j (v:j<xs.size) (y:j<ys.size),EqW P w A.in1 s xs[j] ys[j]):RnW P w A s (.ref a) (.ref b):=λE Q q=>by
 obtain⟨⟨ca,r,B,sa⟩,c,d,n,h⟩:=id o;obtain⟨⟨cb,l,x,sb⟩,f,e,m,g⟩:=id p;simp only at d h e g;subst d h e g;refine wpAny_richCompare_same_room (op:=.NotEq) (T:="tuple") ⟨_,c,rfl⟩ ⟨_,f,rfl⟩ PySem.F.slot_tuple_ne ?_ u;exact call_meetsIn PySem.F.slot_tuple_ne ⟨_,c,rfl⟩ PySem.F.entry_tuple_ne (PySem.F.args_tuple_ne_2 _ _) (w'x a b xs ys n m r l sa sb hz) ⟨c,f,he,⟨(λz=>nomatch z),q⟩⟩
section
open PySem.AutoSeq1 (wpAny_loadPart')
open PySem.MeetsSeq PySem.MeetsSeq2 PySem.MeetsSeq3 PySem.SeqRoads2 PySem.SeqAt
theorem g'A(a b:Addr)(xs ys:Array Value)(n m:Nat)(v q:Option Addr)(sa sb:Array (Option Value))(hz:xs.size=ys.size):∀(k i:Nat),xs.size - i=k->
  MeetsIn P w (Builtin.«list.__eq__.loop» ⟨[.ref a,.ref b,rawInt i,rawInt 3],[]⟩) (λA R s=>s.heap.get? a=some ⟨.type "list",v,.seq xs n,sa⟩/\s.heap.get? b=some ⟨.type "list",q,.seq ys m,sb⟩/\
   (∀j (B:j<xs.size) (C:j<ys.size),EqW P w A.in1 s xs[j] ys[j])/\R (.ok (.ret (.bool false))) s)
 |0,i,hk=>λA R s h=>by
  obtain⟨z,g,d,y,os⟩:=s;obtain⟨c,e,f,l⟩:=h
  wp_walk using wpAny_loadPart' c,wpAny_loadPart' e
  have o:xs[((i:Nat):Int).toNat]?=none:=by simp;omega
  have p:ys[((i:Nat):Int).toNat]?=none:=by simp;omega
  rw[o,p]
  wp_walk using wpAny_loadPart' c,wpAny_loadPart' e
  show R (.ok (.ret (.bool (xs.size != ys.size)))) _;rw[hz,bne_self_eq_false];exact l
 |k + 1,i,hk=>λA R s h=>by
  obtain⟨z,g,d,y,os⟩:=s;obtain⟨c,e,f,l⟩:=h
  wp_walk using wpAny_loadPart' c,wpAny_loadPart' e
  have u:i<xs.size:=by omega
  have r:i<ys.size:=by omega
  have o:xs[((i:Nat):Int).toNat]?=some xs[i]:=by simp[u]
  have p:ys[((i:Nat):Int).toNat]?=some ys[i]:=by simp[r]
  rw[o,p];refine wpAny_bind (f i u r _ _ ?_)
  wp_walk
  have x:((i:Int)+1)=((i+1:Nat):Int):=Int.natCast_succ i;rw[x];refine⟨plainId_quiet plain_eq_loop _,codeAny_builtin entry_eq_loop ?_⟩;rw[Around.under_plainId plain_eq_loop _];exact g'A a b xs ys n m v q sa sb hz k (i+1) (by omega) A R _ ⟨c,e,f,l⟩
theorem w'y(a b:Addr)(xs ys:Array Value)(n m:Nat)(l c:Option Addr)(sa sb:Array (Option Value))(hz:xs.size=ys.size):
  MeetsIn P w (Builtin.«list.__ne__» ⟨[.ref a,.ref b],[]⟩) (λA R s=>s.heap.get? a=some ⟨.type "list",l,.seq xs n,sa⟩/\s.heap.get? b=some ⟨.type "list",c,.seq ys m,sb⟩/\
   (∀j (q:j<xs.size) (r:j<ys.size),EqW P w A.in1 s xs[j] ys[j])/\R (.ok (.ret (.bool false))) s):=λA R s h=>by
 obtain⟨v,g,d,u,os⟩:=s;obtain⟨e,f,o,p⟩:=h;have sub:=AutoSeq1.sub_list_list;have same:¬ (xs.size != ys.size)=true:=by simp[hz]
 wp_walk using wpAny_loadPart' e,wpAny_loadPart' f
 refine⟨plainId_quiet plain_eq_loop _,codeAny_builtin entry_eq_loop ?_⟩;rw[Around.under_plainId plain_eq_loop _];exact g'A a b xs ys n m l c sa sb hz _ 0 rfl A R _ ⟨e,f,o,p⟩
end
theorem RnW.lists(o:s.heap.IsList a xs)(p:s.heap.IsList b ys)(hz:xs.size=ys.size)(u:A.units<cLine)(he:∀j (v:j<xs.size) (y:j<ys.size),EqW P w A.in1 s xs[j] ys[j]):RnW P w A s (.ref a) (.ref b):=λE Q q=>by
 obtain⟨⟨ca,r,B,sa⟩,c,d,n,h⟩:=id o;obtain⟨⟨cb,l,x,sb⟩,f,e,m,g⟩:=id p;simp only at d h e g;subst d h e g;refine wpAny_richCompare_same_room (op:=.NotEq) (T:="list") ⟨_,c,rfl⟩ ⟨_,f,rfl⟩ PySem.F.slot_list_ne ?_ u;exact call_meetsIn PySem.F.slot_list_ne ⟨_,c,rfl⟩ PySem.F.entry_list_ne (PySem.F.args_list_ne_2 _ _) (w'y a b xs ys n m r l sa sb hz) ⟨c,f,he,⟨(λz=>nomatch z),q⟩⟩
end
section
variable{X:Cx}{pins:List (Addr×Obj)}{σ:St}{H:Hp}{s:Shared}
theorem s'w(I:Inv X pins σ H s)(z:(SqT X.K H p xs/\SqT X.K H q ys)\/(SqL X.K H p xs/\SqL X.K H q ys))(g:A.units<cLine)(E:xs.length=ys.length)(he:∀(j:Nat) x y u v,xs[j]?=some x->ys[j]?=some y->RelV x u->RelV y v->EqW X.prog X.w A.in1 s u v):RnW X.prog X.w A s (.ref p) (.ref q):=by
 have d:∀(us vs:List Value),Vals xs us->Vals ys vs->∀j (b:j<us.toArray.size) (c:j<vs.toArray.size),EqW X.prog X.w A.in1 s us.toArray[j] vs.toArray[j]:=by
  intro us vs a r2 j b c;have f:=a.length;have h:=r2.length;simp only[size_toArray] at b c;obtain⟨u,l,C⟩:=a.get (i:=j) (x:=xs[j]'(by omega)) (by simp);obtain⟨v,B,m⟩:=r2.get (i:=j) (x:=ys[j]'(by omega)) (by simp);obtain⟨_,o⟩:=List.getElem?_eq_some_iff.mp l;obtain⟨_,D⟩:=List.getElem?_eq_some_iff.mp B;have r:us.toArray[j]'(by simpa using b)=u:=by simpa using o
  have n:vs.toArray[j]'(by simpa using c)=v:=by simpa using D
  rw[r,n];exact he j _ _ u v (by simp) (by simp) C m
 rcases z with⟨b,c⟩ |⟨b,c⟩
 .obtain⟨us,a,t1,_⟩:=I.tuple b;obtain⟨vs,r2,e,_⟩:=I.tuple c;have f:=a.length;have h:=r2.length;exact RnW.tuples t1 e (by simp;omega) g (d us vs a r2)
 .obtain⟨us,a,t1,_⟩:=I.list b;obtain⟨vs,r2,e,_⟩:=I.list c;have f:=a.length;have h:=r2.length;exact RnW.lists t1.isList e.isList (by simp;omega) g (d us vs a r2)
end
section
variable{X:Cx}
def ai6(K:W.Frag):R2:=λx y H Q=>ai2 K x y H λ_ _=>Q (.bl false) H
theorem u'D(r:X.A.units+64<cLine):OpR X (compareOp .NotEq) (ai6 X.K):=by
 intro pins s G H x y v u Q I f d h;obtain⟨n,p,q,l,m,o,rfl,rfl,c,al,g⟩:=h;cases f;cases d;refine s'w I c (by omega) al.length (λj x y u v b e a r2=>?_) X.xe _ ⟨.bl false,H,I,rfl,g⟩;exact m'l I n (A:=X.A.in1) (al.get b e) a r2 (by rw[a'Y];omega)
end
section
variable{X:Cx}
theorem m'D:OpR X (compareOp .Gt) (λx y H Q=>∃i j,x=.str i/\y=.str j/\Q (.bl (decide (j.cps.toList<i.cps.toList))) H):=by
 intro pins s G H x y v u Q I b a h;obtain⟨i,j,rfl,rfl,q⟩:=h;obtain⟨t,rfl⟩:=b;obtain⟨c,rfl⟩:=a;exact PySem.P.gt_str (a'n I q rfl)
end
section
variable{prog:Program}{w:World}{A:Around}{E:Value->Shared->Prop}{s:Shared}
theorem m'E:typeLookup (.type "list_reverseiterator") "__len__"=pure none:=by rw[typeLookup_type,builtinLookup_eq_fast];kernel_rfl
theorem p'b:typeLookup (.type "list_reverseiterator") "__length_hint__"=pure (some (.builtin "list_reverseiterator.__length_hint__")):=by rw[typeLookup_type,builtinLookup_eq_fast];kernel_rfl
theorem p'c{Q:Bool->Shared->Prop}(a:s.TypeIs (.ref r) "list_reverseiterator")(h:Q false s):wpAny (model prog w) A (Builtin.List.listLengthHint (.ref r)) Q E s:=by
 unfold Builtin.List.listLengthHint;refine wpAny_bind (wpAny_specialOf a m'E ?_);show wpAny _ A (specialOf (Value.ref r) (Str.ofString "__length_hint__") >>= _) _ _ _;refine wpAny_bind (wpAny_specialOf a p'b ?_);generalize hid:("list_reverseiterator.__length_hint__":String)=i0
 wp_delta
 rw[show splitId i0=some ("list_reverseiterator","__length_hint__") from by subst hid;decide +kernel];subst hid;refine wpAny_bind (wpAny_isInstance (T:="list_reverseiterator") (b:=true) a (by rw[isSubtype_type];kernel_rfl) ?_);refine wpAny_ite_split (λz=>absurd z (by decide)) (λ_=>?_);refine wpAny_ite_split (λ_=>?_) (λz=>absurd (by decide +kernel) z);refine wpAny_ite_split (λz=>absurd z (by decide +kernel)) (λ_=>?_);exact wpAny_pure h
theorem m'F{St:Nat->Heap->Prop}{R:Result->Shared->Prop}(W:Walks prog w A.in1 I fp [I] n P St)(N:I∈fp)(J:∀i (s:Shared),St i s.heap->s.TypeIs (.ref I) T)(M:(Value.type T == Value.type "list")=false)(U:(Value.type T == Value.type "tuple")=false)(hh:∀(s:Shared)(Q:Bool->Shared->Prop)(E:Value->Shared->Prop),s.TypeIs (.ref I) T->Q false s->wpAny (model prog w) A.in1 (Builtin.List.listLengthHint (.ref I)) Q E s)(a:St 0 s.heap)(S:Addr)(l:S ∉ fp)(d:Value)(G:Nat)(r:s.heap.get? S=some { cls:=.type "list",data:=.seq #[] G })(hR:∀h' q g c,(∀b o,b≠S->b≠I->s.heap.get? b=some o->h'.get? b=some o)->h'.get? S=some { cls:=.type "list",dict:=none,data:=.seq g c,slots:=#[] }->ItemsOf P g n->R (.ok (.ret d)) { s with heap:=h',toks:=q })(Y:n<=sizeLine):
  wpAny (model prog w) A.in1 (Builtin.List.listExtendWith (.ref S) (.ref I) d)
   (λB s'=>match B with |.done f=>R (.ok f) s' |.again D=>D.quiet=true/\codeAny (model prog w) A D R s') (λe s'=>R (.error e) s') s:=by
 have u:S≠I:=λz=>l (z ▸ N)
 have m:∀(h:Heap)(x q:Nat),St 0 h->(∀b o,b≠S->s.heap.get? b=some o->h.get? b=some o)->h.get? S=some { cls:=.type "list",data:=.seq #[] x }->
   codeAny (model prog w) A (.builtin "list.extend.loop" ⟨[.ref S,.ref I,d],[]⟩) R { s with heap:=h,toks:=q }:=by
  intro h x q st hk y;refine codeAny_extend_loopS W.toS Y S l d n 0 _ #[] x rfl (zero_le _) st y (ItemsOf.nil _) λs' g c H v j=>?_
  rw[Moved.eq_with H];exact hR s'.heap s'.toks g c (λb o C h2 e=>H.heap b o (λz=>by
   rcases mem_cons.mp z with z |z
   .exact C z
   .exact h2 (mem_singleton.mp z)) (hk b o C e)) v j
 unfold Builtin.List.listExtendWith;refine wpAny_bind (wpAny_typeOf (J 0 s a) ?_);simp only[show Builtin.List.listSameRef (.ref S) (.ref I)=false by simp[Builtin.List.listSameRef,u],M,U,Bool.or_false,false_eq_true,if_false];refine wpAny_bind (W.self 0 s _ _ a (wpAny_bind (wpAny_holding (hh s _ _ (J 0 s a) ?_))));refine wpAny_ite_split (λ_=>?_) (λ_=>wpAny_pure ⟨plainId_quiet PySem.F.plain_extend_loop _,m _ G _ a (λb o _ e=>e) r⟩);refine wpAny_bind (wpAny_rule (wpAny_bind ?_));show wpAny _ _ (updateSeq S (·.push .none) >>= λ_=>updateSeq S (·.pop)) _ _ s;refine wpAny_bind (wpAny_updateSeq r rfl ?_);have L:=Heap.get?_update_self (Obj.mapSeq (·.push Value.none)) r rfl;refine wpAny_updateSeq (hz:=by seq_fits) L rfl ?_;have O:=Heap.get?_update_self (Obj.mapSeq (·.pop)) L rfl;have p:∀b o,b≠S->s.heap.get? b=some o->((s.heap.update S (Obj.mapSeq (·.push Value.none))).update S (Obj.mapSeq (·.pop))).get? b=some o:=λb o z e=>(Heap.get?_update_other _ _ z.symm).trans ((Heap.get?_update_other _ _ z.symm).trans e)
 exact wpAny_pure ⟨plainId_quiet PySem.F.plain_extend_loop _,m _ _ _ (W.frame 0 _ _ a λb hb o e=>p b o (λz=>l (z ▸ hb)) e) p O⟩
theorem s'x{St:Nat->Heap->Prop}{Q:Value->Shared->Prop}(W:Walks prog w A.in1.in1 I fp [I] n P St)(v:I∈fp)(p:∀b∈fp,b<s.heap.objs.size)(x:∀i (s:Shared),St i s.heap->s.TypeIs (.ref I) T)(u:(Value.type T == Value.type "list")=false)(D:(Value.type T == Value.type "tuple")=false)(J:∀(s:Shared)(Q:Bool->Shared->Prop)(E:Value->Shared->Prop),s.TypeIs (.ref I) T->Q false s->wpAny (model prog w) A.in1.in1 (Builtin.List.listLengthHint (.ref I)) Q E s)(r:St 0 s.heap)(G:n<=sizeLine)(y:∀h' q a c,(∀b o,b≠I->s.heap.get? b=some o->h'.get? b=some o)->h'.get? s.heap.objs.size=some { cls:=.type "list",dict:=none,data:=.seq a c,slots:=#[] }->ItemsOf P a n->Q (.ref s.heap.objs.size) { s with heap:=h',toks:=q }):
  wpAny (model prog w) A (call (.type "list") [.ref I]) Q E s:=by
 refine callType_codes (Q₁:=λo d=>o=.ref s.heap.objs.size/\d={ s with heap:=s.heap.push { cls:=.type "list",data:=.seq #[] } }) PySem.F.called_list (PySem.F.typeCall_list_1 _) PySem.F.entry_list_init (code_list_new _ ⟨rfl,rfl⟩) λo d j=>?_
 obtain⟨rfl,rfl⟩:=j;have l:(s.heap.push { cls:=.type "list",data:=.seq #[] }).get? s.heap.objs.size=some { cls:=.type "list",data:=.seq #[] }:=Heap.get?_push_size _ rfl;have g:s.heap.objs.size ∉ fp:=λz=>lt_irrefl _ (p _ z)
 refine⟨⟨_,l,rfl⟩,PySem.F.args_list_init_2 _ _,?_⟩;show wpAny _ _ (do let old <- Builtin.List.listItems (.ref s.heap.objs.size);Builtin.List.listUpdate (.ref s.heap.objs.size) (λ_=>#[]);letGo old.toList.reverse;Builtin.List.listExtendWith (.ref s.heap.objs.size) (.ref I) .none) _ _ _;refine wpAny_bind ?_;unfold Builtin.List.listItems;refine wpAny_bind (wpAny_seqItems l rfl (wpAny_pure ?_));show wpAny _ _ (updateSeq s.heap.objs.size (λ_=>#[]) >>= λ_=>letGo (#[]:Array Value).toList.reverse >>= λ_=>Builtin.List.listExtendWith (.ref s.heap.objs.size) (.ref I) .none) _ _ _;refine wpAny_bind (wpAny_updateSeq l rfl ?_);have C:=Heap.get?_update_self (Obj.mapSeq (λ_=>(#[]:Array Value))) l rfl;have h:∀b o,b≠s.heap.objs.size->s.heap.get? b=some o->((s.heap.push { cls:=.type "list",data:=.seq #[] }).update s.heap.objs.size (Obj.mapSeq (λ_=>(#[]:Array Value)))).get? b=some o:=
  λb o z e=>(Heap.get?_update_other _ _ z.symm).trans (Heap.get?_push_of_some _ e)
 refine wpAny_bind (wpAny_letGo ?_);refine m'F (A:=A.in1) W v x u D J (W.frame 0 _ _ r λb H o e=>h b o (λz=>g (z ▸ H)) e) _ g .none _ C (λh' q a c B m f=>?_) G;exact⟨rfl,y h' q a c (λb o z e=>B b o (ne_of_lt (Heap.lt_size e)) z (h b o (ne_of_lt (Heap.lt_size e)) e)) m f⟩
end
theorem p'd(h:Vals xs us)(g:Vals ys vs):Vals (xs++ys) (us++vs):=by
 induction h with
 |nil=>exact g
 |cons a _ b=>exact .cons a b
theorem p'e(h:Vals xs us):Vals xs.reverse us.reverse:=by
 induction h with
 |nil=>exact .nil
 |cons a _ b=>rw[List.reverse_cons,List.reverse_cons];exact p'd b (.cons a .nil)
section
variable{X:Cx}
def tLR(K:W.Frag)(d:TA):TE:=λj H Q=>d j H λvs b=>∃a c,vs=[.ref a]/\SqL K b a c/\∀p,b p=none->Q (.ref p) (upd b p (.lst c.reverse))
theorem l'l(hc:X.calm=true)(hg:Gl X "list")(Y:X.mg "list"=none)(G:Gl X "reversed")(B:X.mg "reversed"=none)(O:PA X [l] ta)(J:starEach [l] X.env=[(false,eval l X.env)]:=by rfl)(hs:starEach [.Call (.Name "reversed" p2) [l] [] pos2] X.env=[(false,eval (.Call (.Name "reversed" p2) [l] [] pos2) X.env)]:=by rfl):
  PE X (.Call (.Name "list" p) [.Call (.Name "reversed" p2) [l] [] pos2] [] pos) (tLR X.K ta):=by
 intro pins s y H Q I h;refine wpAny_Call_Name_kw (b'o I hg Y (u:=.type "list") rfl ?_);refine PyProof.Rows.callWith_type1 ?_ hs rfl;rw[hs];show wpAny _ _ (spliced ((false,eval (.Call (.Name "reversed" p2) [l] [] pos2) X.env)::backTo pos [])) _ _ s;refine Calls.spliced_cons ?_;refine Call_ (b'o I G B (u:=.type "reversed") rfl (PyProof.Rows.callWith_type1 (thn (O pos2 pins s y H _ I h) λus g ⟨vs,H1,I1,r1,a,xs,e,hq,q⟩=>?_) J rfl));subst e;cases r1 with
 |cons r rr=>
  cases rr;cases r;obtain⟨d,L,D,hz⟩:=I1.list hq;have hl:=L.length;refine call_reversed_list D.isList ?_;refine Calls.spliced_nil ?_;have M:a<g.heap.objs.size:=let ⟨o,ho,_⟩:=D.isList;Heap.lt_size ho;have W:=Walks.listRev (prog:=X.prog) (w:=X.w) (A:=X.A.in1.in1) (show X.A.in1.in1.handled=none from I.ok.hd hc) g.heap.objs.size a (ne_of_lt M) d.toArray;have I2:Inv X pins y H1 { g with heap:=g.heap.push (revObj a ((d.toArray.size:Int) - 1)) }:=I1.kept (t':=g.toks) λb o e=>Heap.get?_push_of_some _ e
  have U:(g.heap.push (revObj a ((d.toArray.size:Int) - 1))).IsRevIter g.heap.objs.size a ((d.toArray.size:Int) - 1 - ((0:Nat):Int)):=by
   refine⟨_,Heap.get?_push_size _ rfl,rfl,?_⟩;rw[show (d.toArray.size:Int) - 1 - ((0:Nat):Int)=(d.toArray.size:Int) - 1 by omega];rfl
  have f:=I1.fpOk (le_refl _) (I1.hok.fresh (le_refl g.heap.objs.size));refine s'x (s:={ g with heap:=g.heap.push (revObj a ((d.toArray.size:Int) - 1)) }) W (by simp) (λb hb=>?_) (λ_ _ z=>z.2.1.typeIs) (by decide) (by decide) (λ_ _ _ t h=>p'c t h) ⟨zero_le _,U,D.isList.at λo e=>Heap.get?_push_of_some _ e⟩ (by simp;omega) λh' tk n c hk N m=>?_
  .show b<(g.heap.push _).objs.size;rw[Heap.size_push];rcases mem_cons.mp hb with z |z
   .rw[z];exact Nat.lt_succ_self _
   .rw[mem_singleton.mp z];exact Nat.lt_succ_of_lt M
  .have z1:(g.heap.push (revObj a ((d.toArray.size:Int) - 1))).objs.size=g.heap.objs.size+1:=Heap.size_push ..;have E:∀b o,g.heap.get? b=some o->h'.get? b=some o:=λb o e=>hk b o (ne_of_lt (Heap.lt_size e)) (Heap.get?_push_of_some _ e)
   have ea:n.toList=d.reverse:=by
    refine List.ext_getElem? λj=>?_
    rcases Nat.lt_or_ge j n.size with C |C
    .obtain⟨v,hv⟩:∃v,n[j]?=some v:=⟨n[j],by simp[C]⟩;have h2:=m.2 j v hv;have x:=m.1;rw[getElem?_toList,hv,List.getElem?_reverse (by simp at x;omega),<- h2];simp
    .have x:=m.1;rw[List.getElem?_eq_none (by simpa using C),List.getElem?_eq_none (by simp at x ⊢;omega)]
   refine⟨.ref _,_,I1.laid (a:=(g.heap.push (revObj a ((d.toArray.size:Int) - 1))).objs.size) (o:=.lst xs.reverse) (h':=h') (t':=tk) E (by rw[z1];omega) ⟨by rw[List.length_reverse];exact hz,d.reverse,c,p'e L,by rw[<- ea,Array.toArray_toList];exact N⟩,rfl,q _ (by rw[z1];exact I1.hok.fresh (by omega))⟩
end
end L2
namespace Vc
open PySem L2
theorem w'V{Fb Hb F H d e:Hp}{S:Addr->Prop}(n:Gr0 Fb Hb F H)(u:H a=some (.dK kvs))(v:F a=none\/F a=some (.dK kvs))(o:Gr0 (fz Fb a (.frz ob (.dK kvs))) (fz Hb a (.frz ob (.dK kvs))) d e)(f:d a=fz F a (.frz ob (.dK kvs)) a)(r:Fz (λb=>b=a\/S b) d):
  ∃c:Hp,Gr0 Fb Hb c (upd e a (.dK kvs))/\Fz S c/\Le d c/\c a=F a/\(upd e a (.dK kvs)) a=some (.dK kvs)/\(∀b,b≠a->c b=d b)/\∀b,b≠a->(upd e a (.dK kvs)) b=e b:=
 thw (R:=λU=>∃c:Hp,Gr0 Fb Hb c U/\Fz S c/\Le d c/\c a=F a/\U a=some (.dK kvs)/\(∀b,b≠a->c b=d b)/\∀b,b≠a->U b=e b) n u v o f r λj w g q p h l s m=>⟨j,g,q,p,h,l,s,m⟩
end Vc
namespace L2
open PySem PySem.Spec PyProof.Rows
section
variable{X:Cx}
def ahc(K:W.Frag):R2:=λx y H Q=>∃l b a c,x=.ref l/\y=.ref b/\SqL K H l a/\SqL K H b c/\a.length+c.length<=sizeLine/\∀p,H p=none->Q (.ref p) (upd H p (.lst (a++c)))
theorem s'y:OpR X (binaryOp .Add) (ahc X.K):=by
 intro pins s j H x y v u Q I E B h;obtain⟨l,b,J,zs,rfl,rfl,D,z,U,q⟩:=h;cases E;cases B;obtain⟨c,r,p1,M⟩:=I.list D;obtain⟨a,r2,p2,O⟩:=I.list z;have G:=r.length;have L:=r2.length;obtain⟨⟨c1,A,Y,g⟩,w,p,n,hd⟩:=p1.isList;obtain⟨⟨c2,C,N,o⟩,e,f,m,d⟩:=p2.isList;simp only at p hd f d;subst p hd f d;refine concat_meets ⟨_,w,rfl⟩ ⟨_,e,rfl⟩ noFill_list_add seq_list_add PySem.F.slot_list_add PySem.F.entry_list_add (PySem.F.args_list_add_2 _ _) (list_addW l b c.toArray a.toArray n m A C g o (by simp;omega)) ⟨w,e,?_⟩;rw[show c.toArray++a.toArray=(c++a).toArray by simp];exact⟨.ref _,_,I.lnew (t':=s.toks) (r.append r2) (by rw[length_append];omega),rfl,q _ I.fresh⟩
def ahd(K:W.Frag):List V->Hp->VK->Prop:=λc H Q=>∃(x D t:Addr)(a:List Addr)(b:Bool),c=[.ref x,.ref t]/\Rd H x (exO x D)/\ExcK K D/\SqT K H t (a.map V.ref)/\W.kitAny K (.ref D) (a.map Value.ref)=some b/\Q (.bl b) H
theorem m'G:CallR X (.builtin "isinstance") (ahd X.K):=by
 intro pins s j H J us Q I r h;obtain⟨x,D,t,g,b,rfl,d,Z,m,e,q⟩:=h;obtain⟨v,E,rfl,G,l⟩:=q'p r;cases (show v=Value.ref x from G);cases (show E=Value.ref t from l);have d:ExAt x D s.heap:=by
  rcases d with d |⟨o,d⟩
  .exact (I.hok x _ d).1.1
  .exact (I.hok x _ d).2.1.1
 obtain⟨us,p,pt,f⟩:=I.tuple m;have w:us=g.map Value.ref:=by
  clear e m q pt f
  induction g generalizing us with
  |nil=>cases p;rfl
  |cons c g A=>cases p with
   |cons a b=>rw[map_cons,A _ b];exact congrArg (·::_) a
 subst w;obtain⟨⟨N,L,M,y⟩,C,u,n,hd⟩:=pt;simp only at u hd;subst u hd;exact W.kia_tup (h'I Z) I.kIn d C e (λz=>nomatch z) λB=>⟨.bl b,H,I.tok B,rfl,q⟩
end
end L2
namespace Vc
open PySem L2
def hid(a b:Addr)(H:Hp):Hp:=λx=>if x=a\/x=b then none else H x
end Vc
namespace Vc
open PySem L2 Sf
def hdn(l:List Addr)(H:Hp):Hp:=λx=>if x∈l then none else H x
theorem c'W{H:Hp}(a:x ∉ l)(h:H x=some o):hdn l H x=some o:=by unfold hdn;rw[if_neg a];exact h
theorem u'E(h:x∈l):hdn l H x=none:=if_pos h
theorem p'f{H:Hp}(h:hdn l H x=some o):x ∉ l/\H x=some o:=by
 unfold hdn at h;by_cases z:x∈l
 .rw[if_pos z] at h;cases h
 .rw[if_neg z] at h;exact⟨z,h⟩
theorem h'J(a:Same F H):Gr0 F (hdn l H) F H:=⟨λ_ _ e=>(p'f e).2,Same.refl _,a,λx u h e=>by rw[h] at e;cases e⟩
theorem hl1{Hb:Hp}(h:Hb a=none):∀x∈[a],Hb x=none:=λx z=>by rw[mem_singleton.mp z];exact h
theorem hl2{Hb:Hp}(h:Hb a=none)(g:Hb b=none):∀x∈[a,b],Hb x=none:=λx z=>(mem_cons.mp z).elim (λe=>by rw[e];exact h) (hl1 g x)
theorem hl3{Hb:Hp}(h:Hb a=none)(g:Hb b=none)(f:Hb c=none):∀x∈[a,b,c],Hb x=none:=λx z=>(mem_cons.mp z).elim (λe=>by rw[e];exact h) (hl2 g f x)
end Vc
namespace L2
open PySem PySem.Spec PyProof.Rows
theorem h'K(hok:HOk P w H h)(e:Rd H a (.ins C dx fs)):∃b,ObjM h a dx C b/\∀f,RelO (fs.lookup f) (b f):=by
 have x:ObjOk P w H h a (.ins C dx fs):=by
  rcases e with e |⟨o,e⟩
  .exact hok a _ e
  .exact (hok a _ e).2
 obtain⟨d,z,ne,c,b,n,r,q⟩:=x;exact⟨b,⟨c,n,ne⟩,r⟩
def agg(K:W.Frag)(c:TE)(f:Str):TE:=λj H Q=>c j H λx b=>∃a C d fs v,x=.ref a/\Rd b a (.ins C d fs)/\Cls K C/\NoAttr K C f/\fs.lookup f=some v/\Q v b
section
variable{X:Cx}{CX:CXT}{k:Nat}{E:XK}{m f:Str}{pos apos:Pos}{o e:Expr}{ta:TE}{D:Addr->Nat->Prop}{sp:Nat->Sp}
theorem j'A(he:PE X e ta)(d:attributeBase e f X.env (eval e X.env)=eval e X.env):PE X (.Attribute e f pos) (agg X.K ta f):=by
 intro pins s j H Q I h;refine r'T d (thn (he pins s j H _ I h) λu w ⟨x,H1,I1,rx,a,C,dx,fs,v,ex,ea,c,n,l,q⟩=>?_);subst ex;obtain rfl:u=Value.ref a:=rx;obtain⟨g,O,r⟩:=h'K I1.hok ea;obtain⟨u,p,b⟩:=RelO.some_of (v:=v) (o:=g f) (by rw[<- l];exact r f);exact r'Q I1.kIn O (c.get f) c.hd n p (m'a b) ⟨v,H1,I1.tok _,b,q⟩
end
section
variable{X:Cx}{CX:CXT}{k:Nat}{f C:Addr}{fd:FuncData}{ps:List Str}{sp:Sp}{dvs:List V}{ds:List Value}{x:Str}{p pos:Pos}{e:Expr}{es:List Expr}{t:TA}
def aeW(C:Addr)(sp:Sp)(dvs:List V)(R:St->XK)(t:TA):TE:=λj H Q=>t j H λvs b=>∀x a,b x=none->b a=none->a≠x->
 sp (.ref x::(vs++dvs)) (upd (upd b a (.own x)) x (.ins C a [])) (λv c=>v=.non/\Q (.ref x) c) (R j)
theorem m'H{H:Hp}{Q:VK}(M:Mk X.K C f)(F:FnOk X.prog X.w X.K X.mg X.base CX k f fd ps sp)(q:Room (k+1) X.A)(B:Binds X.K fd ps ds)(hd:Vals dvs ds)(l:acF CX X j E)(I:Inv X pins j H s)(r:Vals vs us)(h:∀x c,H x=none->H c=none->c≠x->sp (.ref x::(vs++dvs)) (upd (upd H c (.own x)) x (.ins C c [])) (λv J=>v=.non/\Q (.ref x) J) E):
  wpAny (model X.prog X.w) X.A (call (.ref C) us) (EP X pins j Q) X.xe s:=by
 have d:=h (s.heap.objs.size+1) s.heap.objs.size (I.hok.fresh (Nat.le_succ _)) (I.hok.fresh (le_refl _)) (ne_of_lt (Nat.lt_succ_self _));have b:=Inv.made (C:=C) I;have r2:Vals (V.ref (s.heap.objs.size+1)::(vs++dvs)) (Value.ref (s.heap.objs.size+1)::(us++ds)):=.cons rfl (r.append hd);have y:(Value.ref (s.heap.objs.size+1)::us++ds).length=ps.length:=(r2.length.symm.trans (F.len _ _ _ _ d))
 refine wpAny_call (o'D (f:=f) I.kIn M.makes M.init (beq_iff_eq.mp M.fn) (codeAny_mono (F.run _ X.stack _ _ ⟨Value.ref (s.heap.objs.size+1)::us,[]⟩ (Value.ref (s.heap.objs.size+1)::(us++ds)) _ _ E (q.make C us [])
  (b.env0.make C us []) (B _ (Value.ref (s.heap.objs.size+1)::us) b.kIn y) r2 d) λG D a=>?_))
 match G,a with
 |.error e,a=>exact l pins _ _ e D b a
 |.ok (.ret u),a=>
  obtain⟨v,o,g,m,n,z⟩:=b.after a;subst n;exact⟨m,⟨V.ref (s.heap.objs.size+1),o,g,rfl,z⟩⟩
 |.ok .next,a=>exact a.elim
 |.ok .brk,a=>exact a.elim
 |.ok .cont,a=>exact a.elim
theorem p'g{R:St->XK}(M:Mk X.K C f)(F:FnOk X.prog X.w X.K X.mg X.base CX k f fd ps sp)(l:Room (k+1) X.A)(g:Gl X x)(d:X.mg x=some (.ref C))(m:Binds X.K fd ps ds)(hd:Vals dvs ds)(b:∀j,acF CX X j (R j))(c:PA X (e::es) t)(a:(x == ("__debug__":Str))=false:=by decide)(he:starEach (e::es) X.env=(false,eval e X.env)::starEach es X.env:=by rfl)(hpl:(backTo pos (starEach es X.env)).any (·.1)=false:=by rfl):
  PE X (.Call (.Name x p) (e::es) [] pos) (aeW C sp dvs R t):=by
 intro pins s j H Q I h;refine wpAny_Call_Name_kw (b'r I g d ?_ a);exact W.callWith_K (h₀:=X.base) I.ok.mod.kin M.kp (thn (c pos pins s j H _ I h) λus n ⟨vs,H1,I1,r,q⟩=>⟨I1.kIn,m'H M F l m hd (b j) I1 r q⟩) he hpl
end
def MOkA(P:Program)(w:World)(K:W.Frag)(mg:Str->Option Value)(base:Heap)(CX:CXT)(k:Nat)(m:Str)(C:Addr)(a:List Str)(sp:Sp):Prop:=
 Cls K C/\∃f b,aiV K C m f/\FnOk P w K mg base CX k f b a sp/\Binds K b a []
theorem MOkA.mono{P:Program}{w:World}{K:W.Frag}{mg:Str->Option Value}{base:Heap}{CX:CXT}{k b:Nat}{m:Str}{C:Addr}{a:List Str}{sp:Sp}(h:MOkA P w K mg base CX k m C a sp)(le:k<=b):MOkA P w K mg base CX b m C a sp:=by
 obtain⟨c,f,d,e,F,g⟩:=h;exact⟨c,f,d,e,F.mono le,g⟩
end L2
namespace Vc
open PySem L2 Sf
section
variable{H:Hp}{Q:VK}{l:Addr}
theorem j'B:atI (ws++[v]) (-1)=some v:=by
 unfold atI ixN;rw[if_neg (by decide:¬ (0:Int)<=-1),length_append,if_pos (by simp only[length_cons,length_nil];omega)];have e:((-1:Int)+((ws.length+[v].length:Nat):Int)).toNat=ws.length:=by simp only[length_cons,length_nil];omega
 rw[e];show (ws++[v])[ws.length]?=some v;rw[getElem?_append_right (le_refl _),sub_self];rfl
end
end Vc
namespace L2
open PySem PySem.Spec PyProof.Rows
def FnIn(K:W.Frag)(x a:Str)(st:Stmt)(f:Addr):Prop:=∃b,Fun K x a st f b
theorem fnin{K:W.Frag}{x a:Str}{st:Stmt}{f:Addr}{oc:Value}{od an:Option Addr}{osl:Array (Option Value)}{kV doc pm cdv ct:Value}(l:K.lookup f=some ⟨oc,od,.func (W.fnOf x a (adw st) (acA st) (ach st) .none kV doc pm an cdv ct),osl⟩)(c:W.codeIn K cdv a=true)(k:W.keepIn K (.ref f)=true):FnIn K x a st f:=⟨_,u't l c k⟩
theorem FnIn.kp{K:W.Frag}{x a:Str}{st:Stmt}{f:Addr}(h:FnIn K x a st f):W.keepIn K (.ref f)=true:=h.choose_spec.kp
end L2
namespace Pu
open PySem L2 Vc Sf
inductive Fl where |f |o |l (k:Bool)
 deriving DecidableEq
inductive Tr where
 |int (n:Int) |bl (b:Bool) |str (s:Str) |non |hole |ty (n:String) |cl (a:Addr) |exc (b:Addr)
 |tup (xs:List Tr) |lst (f:Fl) (xs:List Tr) |dic (f:Fl) (kvs:List (Key × Tr)) |ins (f:Fl) (c:Addr) (fs:List (Str × Tr))
abbrev Cs:=List (Addr×HO)
mutual
/-- v stands for the tree: its frozen parts in F,its lent ones in B,its own ones are the cells -/
def R(K:W.Frag)(F:Hp)(B:Bool->Hp):Tr->V->Cs->Prop
 |.int n,v,cs=>v=.int n /\ cs=[]
 |.bl b,v,cs=>v=.bl b /\ cs=[]
 |.str s,v,cs=>v=.str s /\ cs=[]
 |.non,v,cs=>v=.non /\ cs=[]
 |.hole,_,_=>False
 |.ty n,v,cs=>v=.ty n /\ cs=[]
 |.cl a,v,cs=>v=.ref a /\ cs=[]
 |.exc b,v,cs=>cs=[] /\ ∃a,v=.ref a /\ Rd F a (exO a b)
 |.tup xs,v,cs=>∃a vs,v=.ref a /\ SqT K F a vs /\ Rs K F B xs vs cs
 |.lst .f xs,v,cs=>cs=[] /\ ∃a vs,v=.ref a /\ SqL K F a vs /\ Rs K F B xs vs []
 |.lst (.l k) xs,v,cs=>cs=[] /\ ∃a vs,v=.ref a /\ SqL K (B k) a vs /\ Rs K F B xs vs []
 |.lst .o xs,v,cs=>∃a vs d,v=.ref a /\ cs=(a,.lst vs)::d /\ Rs K F B xs vs d
 |.dic .f xs,v,cs=>cs=[] /\ ∃a vs,v=.ref a /\ Rd F a (.dK vs) /\ Rk K F B xs vs [] /\ (xs.map (·.1)).Nodup
 |.dic (.l k) xs,v,cs=>cs=[] /\ ∃a vs,v=.ref a /\ Rd (B k) a (.dK vs) /\ Rk K F B xs vs [] /\ (xs.map (·.1)).Nodup
 |.dic .o xs,v,cs=>∃a vs d,v=.ref a /\ cs=(a,.dK vs)::d /\ Rk K F B xs vs d /\ (xs.map (·.1)).Nodup
 |.ins .f c xs,v,cs=>cs=[] /\ ∃a e vs,v=.ref a /\ Rd F a (.ins c e vs) /\ Rf K F B xs vs []
 |.ins (.l k) c xs,v,cs=>cs=[] /\ ∃a e vs,v=.ref a /\ Rd (B k) a (.ins c e vs) /\ Rf K F B xs vs []
 |.ins .o c xs,v,cs=>∃a e vs d,v=.ref a /\ cs=(a,.ins c e vs)::d /\ Rf K F B xs vs d
def Rs(K:W.Frag)(F:Hp)(B:Bool->Hp):List Tr->List V->Cs->Prop
 |[],vs,cs=>vs=[] /\ cs=[]
 |x::xs,vs,cs=>∃v r c d,vs=v::r /\ cs=c ++ d /\ R K F B x v c /\ Rs K F B xs r d
def Rk(K:W.Frag)(F:Hp)(B:Bool->Hp):List (Key×Tr)->List (Key×V)->Cs->Prop
 |[],vs,cs=>vs=[] /\ cs=[]
 |(k,x)::xs,vs,cs=>∃v r c d,vs=(k,v)::r /\ cs=c ++ d /\ R K F B x v c /\ Rk K F B xs r d
def Rf(K:W.Frag)(F:Hp)(B:Bool->Hp):List (Str×Tr)->List (Str×V)->Cs->Prop
 |[],vs,cs=>vs=[] /\ cs=[]
 |(k,x)::xs,vs,cs=>∃v r c d,vs=(k,v)::r /\ cs=c ++ d /\ R K F B x v c /\ Rf K F B xs r d
end
mutual
def lend:Tr->Tr
 |.tup a=>.tup (lends a)
 |.lst .o a=>.lst (.l true) (lends a)
 |.dic .o a=>.dic (.l true) (lendk a)
 |.ins .o c a=>.ins (.l true) c (lendf a)
 |t=>t
def lends:List Tr->List Tr
 |[]=>[] |x::xs=>lend x::lends xs
def lendk:List (Key×Tr)->List (Key×Tr)
 |[]=>[] |(k,x)::xs=>(k,lend x)::lendk xs
def lendf:List (Str×Tr)->List (Str×Tr)
 |[]=>[] |(k,x)::xs=>(k,lend x)::lendf xs
end
mutual
/-- no one changes it any more -/
def frz:Tr->Tr
 |.tup a=>.tup (frzs a)
 |.lst .o a=>.lst .f (frzs a)
 |.dic .o a=>.dic .f (frzk a)
 |.ins .o c a=>.ins .f c (frzf a)
 |t=>t
def frzs:List Tr->List Tr
 |[]=>[] |x::xs=>frz x::frzs xs
def frzk:List (Key×Tr)->List (Key×Tr)
 |[]=>[] |(k,x)::xs=>(k,frz x)::frzk xs
def frzf:List (Str×Tr)->List (Str×Tr)
 |[]=>[] |(k,x)::xs=>(k,frz x)::frzf xs
end
mutual
/-- nothing lent in it -/
def nol:Tr->Bool
 |.tup a=>nols a
 |.lst (.l _) _=>false
 |.dic (.l _) _=>false
 |.ins (.l _) _ _=>false
 |.lst _ a=>nols a
 |.dic _ a=>nolk a
 |.ins _ _ a=>nolf a
 |_=>true
def nols:List Tr->Bool
 |[]=>true |x::xs=>nol x&&nols xs
def nolk:List (Key×Tr)->Bool
 |[]=>true |(_,x)::xs=>nol x&&nolk xs
def nolf:List (Str×Tr)->Bool
 |[]=>true |(_,x)::xs=>nol x&&nolf xs
end
mutual
/-- nothing lent for now in it -/
def nlt:Tr->Bool
 |.tup a=>nlts a
 |.lst (.l true) _=>false
 |.dic (.l true) _=>false
 |.ins (.l true) _ _=>false
 |.lst _ a=>nlts a
 |.dic _ a=>nltk a
 |.ins _ _ a=>nltf a
 |_=>true
def nlts:List Tr->Bool
 |[]=>true |x::xs=>nlt x&&nlts xs
def nltk:List (Key×Tr)->Bool
 |[]=>true |(_,x)::xs=>nlt x&&nltk xs
def nltf:List (Str×Tr)->Bool
 |[]=>true |(_,x)::xs=>nlt x&&nltf xs
end
mutual
/-- as a callee has it: what is lent is lent to it -/
def dn:Tr->Tr
 |.tup a=>.tup (dns a)
 |.lst (.l _) a=>.lst (.l false) (dns a)
 |.dic (.l _) a=>.dic (.l false) (dnk a)
 |.ins (.l _) c a=>.ins (.l false) c (dnf a)
 |.lst .o a=>.lst .o (dns a)
 |.dic .o a=>.dic .o (dnk a)
 |.ins .o c a=>.ins .o c (dnf a)
 |.lst .f a=>.lst .f (dns a)
 |.dic .f a=>.dic .f (dnk a)
 |.ins .f c a=>.ins .f c (dnf a)
 |t=>t
def dns:List Tr->List Tr
 |[]=>[] |x::xs=>dn x::dns xs
def dnk:List (Key×Tr)->List (Key×Tr)
 |[]=>[] |(k,x)::xs=>(k,dn x)::dnk xs
def dnf:List (Str×Tr)->List (Str×Tr)
 |[]=>[] |(k,x)::xs=>(k,dn x)::dnf xs
end
mutual
theorem R.mo{B B':Bool->Hp}(e:Le F F')(b:∀k,Le (B k) (B' k)):∀(t:Tr){v:V}{cs:Cs},R K F B t v cs->R K F' B' t v cs
 |.int _,_,_,h=>h
 |.bl _,_,_,h=>h
 |.str _,_,_,h=>h
 |.non,_,_,h=>h
 |.hole,_,_,h=>h
 |.ty _,_,_,h=>h
 |.cl _,_,_,h=>h
 |.exc _,_,_,y=>by obtain⟨z,a,c,d⟩:=y;exact⟨z,a,c,Le.exc e d⟩
 |.tup xs,_,_,y=>by obtain⟨a,vs,c,d,g⟩:=y;exact⟨a,vs,c,e.tup d,Rs.mo e b xs g⟩
 |.lst .f xs,_,_,y=>by obtain⟨z,a,vs,c,d,g⟩:=y;exact⟨z,a,vs,c,e.lst d,Rs.mo e b xs g⟩
 |.lst (.l k) xs,_,_,y=>by obtain⟨z,a,vs,c,d,g⟩:=y;exact⟨z,a,vs,c,(b k).lst d,Rs.mo e b xs g⟩
 |.lst .o xs,_,_,y=>by obtain⟨a,vs,n,c,d,g⟩:=y;exact⟨a,vs,n,c,d,Rs.mo e b xs g⟩
 |.dic .f xs,_,_,y=>by obtain⟨z,a,vs,c,d,g,j⟩:=y;exact⟨z,a,vs,c,e.dic d,Rk.mo e b xs g,j⟩
 |.dic (.l k) xs,_,_,y=>by obtain⟨z,a,vs,c,d,g,j⟩:=y;exact⟨z,a,vs,c,(b k).dic d,Rk.mo e b xs g,j⟩
 |.dic .o xs,_,_,y=>by obtain⟨a,vs,n,c,d,g,j⟩:=y;exact⟨a,vs,n,c,d,Rk.mo e b xs g,j⟩
 |.ins .f _ xs,_,_,y=>by obtain⟨z,a,m,vs,c,d,g⟩:=y;exact⟨z,a,m,vs,c,e _ _ (by intro _ _ z;cases z) d,Rf.mo e b xs g⟩
 |.ins (.l k) _ xs,_,_,y=>by obtain⟨z,a,m,vs,c,d,g⟩:=y;exact⟨z,a,m,vs,c,b k _ _ (by intro _ _ z;cases z) d,Rf.mo e b xs g⟩
 |.ins .o _ xs,_,_,y=>by obtain⟨a,m,vs,n,c,d,g⟩:=y;exact⟨a,m,vs,n,c,d,Rf.mo e b xs g⟩
theorem Rs.mo{B B':Bool->Hp}(e:Le F F')(b:∀k,Le (B k) (B' k)):∀(t:List Tr){v:List V}{cs:Cs},Rs K F B t v cs->Rs K F' B' t v cs
 |[],_,_,h=>h
 |x::xs,_,_,y=>by obtain⟨v,r,c,d,g,f,a,j⟩:=y;exact⟨v,r,c,d,g,f,R.mo e b x a,Rs.mo e b xs j⟩
theorem Rk.mo{B B':Bool->Hp}(e:Le F F')(b:∀k,Le (B k) (B' k)):∀(t:List (Key×Tr)){v:List (Key×V)}{cs:Cs},Rk K F B t v cs->Rk K F' B' t v cs
 |[],_,_,h=>h
 |(_,x)::xs,_,_,y=>by obtain⟨v,r,c,d,a,j,g,f⟩:=y;exact⟨v,r,c,d,a,j,R.mo e b x g,Rk.mo e b xs f⟩
theorem Rf.mo{B B':Bool->Hp}(e:Le F F')(b:∀k,Le (B k) (B' k)):∀(t:List (Str×Tr)){v:List (Str×V)}{cs:Cs},Rf K F B t v cs->Rf K F' B' t v cs
 |[],_,_,h=>h
 |(_,x)::xs,_,_,y=>by obtain⟨v,r,c,d,a,j,g,f⟩:=y;exact⟨v,r,c,d,a,j,R.mo e b x g,Rf.mo e b xs f⟩
end
section
mutual
theorem R.lend(b:∀k,Le (B k) (B' k)):∀(t:Tr){v:V}{cs:Cs},R K F B t v cs->(∀p∈cs,B' true p.1=some p.2)->R K F B' (lend t) v []
 |.int _,_,_,y,_=>by obtain⟨h,_⟩:=y;exact⟨h,rfl⟩
 |.bl _,_,_,y,_=>by obtain⟨h,_⟩:=y;exact⟨h,rfl⟩
 |.str _,_,_,y,_=>by obtain⟨h,_⟩:=y;exact⟨h,rfl⟩
 |.non,_,_,y,_=>by obtain⟨h,_⟩:=y;exact⟨h,rfl⟩
 |.hole,_,_,h,_=>h.elim
 |.ty _,_,_,y,_=>by obtain⟨h,_⟩:=y;exact⟨h,rfl⟩
 |.cl _,_,_,y,_=>by obtain⟨h,_⟩:=y;exact⟨h,rfl⟩
 |.exc _,_,_,y,_=>by obtain⟨_,a,h,r⟩:=y;exact⟨rfl,a,h,r⟩
 |.tup xs,_,_,y,m=>by obtain⟨a,vs,d,c,e⟩:=y;exact⟨a,vs,d,c,Rs.lend b xs e m⟩
 |.lst .f xs,_,_,y,_=>by obtain⟨z,a,vs,d,c,e⟩:=y;exact⟨rfl,a,vs,d,c,Rs.mo (Le.refl F) b xs e⟩
 |.lst (.l k) xs,_,_,y,_=>by obtain⟨z,a,vs,d,c,e⟩:=y;exact⟨rfl,a,vs,d,(b k).lst c,Rs.mo (Le.refl F) b xs e⟩
 |.lst .o xs,_,_,y,m=>by obtain⟨a,vs,n,d,c,e⟩:=y;exact⟨rfl,a,vs,d,SqL.of (m (a,.lst vs) (by rw[c];exact .head _)),Rs.lend b xs e λp q=>m p (by rw[c];exact .tail _ q)⟩
 |.dic .f xs,_,_,y,_=>by obtain⟨z,a,vs,d,c,e,j⟩:=y;exact⟨rfl,a,vs,d,c,Rk.mo (Le.refl F) b xs e,j⟩
 |.dic (.l k) xs,_,_,y,_=>by obtain⟨z,a,vs,d,c,e,j⟩:=y;exact⟨rfl,a,vs,d,(b k).dic c,Rk.mo (Le.refl F) b xs e,j⟩
 |.dic .o xs,_,_,y,m=>by obtain⟨a,vs,n,d,c,e,j⟩:=y;exact⟨rfl,a,vs,d,Rd.of (m (a,.dK vs) (by rw[c];exact .head _)),Rk.lend b xs e λp q=>m p (by rw[c];exact .tail _ q),by rw[lendk_keys];exact j⟩
 |.ins .f _ xs,_,_,y,_=>by obtain⟨z,a,g,vs,d,c,e⟩:=y;exact⟨rfl,a,g,vs,d,c,Rf.mo (Le.refl F) b xs e⟩
 |.ins (.l k) _ xs,_,_,y,_=>by obtain⟨z,a,g,vs,d,c,e⟩:=y;exact⟨rfl,a,g,vs,d,b k _ _ (by intro _ _ z;cases z) c,Rf.mo (Le.refl F) b xs e⟩
 |.ins .o _ xs,_,_,y,m=>by obtain⟨a,g,vs,n,d,c,e⟩:=y;exact⟨rfl,a,g,vs,d,Rd.of (m (a,.ins _ g vs) (by rw[c];exact .head _)),Rf.lend b xs e λp q=>m p (by rw[c];exact .tail _ q)⟩
theorem Rs.lend(b:∀k,Le (B k) (B' k)):∀(t:List Tr){v:List V}{cs:Cs},Rs K F B t v cs->(∀p∈cs,B' true p.1=some p.2)->Rs K F B' (lends t) v []
 |[],_,_,y,_=>by obtain⟨h,_⟩:=y;exact⟨h,rfl⟩
 |x::xs,_,_,y,m=>by obtain⟨v,r,c,d,e,a,g,f⟩:=y;exact⟨v,r,[],[],e,rfl,R.lend b x g λp q=>m p (by rw[a];exact mem_append.mpr (.inl q)),Rs.lend b xs f λp q=>m p (by rw[a];exact mem_append.mpr (.inr q))⟩
theorem Rk.lend(b:∀k,Le (B k) (B' k)):∀(t:List (Key×Tr)){v:List (Key×V)}{cs:Cs},Rk K F B t v cs->(∀p∈cs,B' true p.1=some p.2)->Rk K F B' (lendk t) v []
 |[],_,_,y,_=>by obtain⟨h,_⟩:=y;exact⟨h,rfl⟩
 |(_,x)::xs,_,_,y,m=>by obtain⟨v,r,c,d,e,a,g,f⟩:=y;exact⟨v,r,[],[],e,rfl,R.lend b x g λp q=>m p (by rw[a];exact mem_append.mpr (.inl q)),Rk.lend b xs f λp q=>m p (by rw[a];exact mem_append.mpr (.inr q))⟩
theorem Rf.lend(b:∀k,Le (B k) (B' k)):∀(t:List (Str×Tr)){v:List (Str×V)}{cs:Cs},Rf K F B t v cs->(∀p∈cs,B' true p.1=some p.2)->Rf K F B' (lendf t) v []
 |[],_,_,y,_=>by obtain⟨h,_⟩:=y;exact⟨h,rfl⟩
 |(_,x)::xs,_,_,y,m=>by obtain⟨v,r,c,d,e,a,g,f⟩:=y;exact⟨v,r,[],[],e,rfl,R.lend b x g λp q=>m p (by rw[a];exact mem_append.mpr (.inl q)),Rf.lend b xs f λp q=>m p (by rw[a];exact mem_append.mpr (.inr q))⟩
theorem lendk_keys:∀(xs:List (Key×Tr)),(lendk xs).map (·.1)=xs.map (·.1)
 |[]=>rfl
 |(_,_)::xs=>by show _::_=_::_;rw[lendk_keys xs]
end
theorem g'B:∀(xs:List (Key×Tr)),(frzk xs).map (·.1)=xs.map (·.1)
 |[]=>rfl
 |(_,_)::xs=>by show _::_=_::_;rw[g'B xs]
mutual
/-- without lent parts B is not asked -/
theorem R.base:∀(t:Tr){v:V}{cs:Cs},nol t=true->R K F B t v cs->R K F B' t v cs
 |.int _,_,_,_,h=>h
 |.bl _,_,_,_,h=>h
 |.str _,_,_,_,h=>h
 |.non,_,_,_,h=>h
 |.hole,_,_,_,h=>h
 |.ty _,_,_,_,h=>h
 |.cl _,_,_,_,h=>h
 |.exc _,_,_,_,h=>h
 |.tup xs,_,_,n,y=>by obtain⟨a,vs,d,c,b⟩:=y;exact⟨a,vs,d,c,Rs.base xs n b⟩
 |.lst .f xs,_,_,n,y=>by obtain⟨z,a,vs,d,c,b⟩:=y;exact⟨z,a,vs,d,c,Rs.base xs n b⟩
 |.lst (.l k) xs,_,_,n,_=>by cases n
 |.lst .o xs,_,_,n,y=>by obtain⟨a,vs,e,d,c,b⟩:=y;exact⟨a,vs,e,d,c,Rs.base xs n b⟩
 |.dic .f xs,_,_,n,y=>by obtain⟨z,a,vs,d,c,b,g⟩:=y;exact⟨z,a,vs,d,c,Rk.base xs n b,g⟩
 |.dic (.l k) xs,_,_,n,_=>by cases n
 |.dic .o xs,_,_,n,y=>by obtain⟨a,vs,e,d,c,b,g⟩:=y;exact⟨a,vs,e,d,c,Rk.base xs n b,g⟩
 |.ins .f _ xs,_,_,n,y=>by obtain⟨z,a,j,vs,d,c,b⟩:=y;exact⟨z,a,j,vs,d,c,Rf.base xs n b⟩
 |.ins (.l k) _ xs,_,_,n,_=>by cases n
 |.ins .o _ xs,_,_,n,y=>by obtain⟨a,j,vs,e,d,c,b⟩:=y;exact⟨a,j,vs,e,d,c,Rf.base xs n b⟩
theorem Rs.base:∀(t:List Tr){v:List V}{cs:Cs},nols t=true->Rs K F B t v cs->Rs K F B' t v cs
 |[],_,_,_,h=>h
 |x::xs,_,_,n,y=>by
  obtain⟨v,r,c,d,e,b,a,f⟩:=y;rw[nols,and_eq_true] at n;exact⟨v,r,c,d,e,b,R.base x n.1 a,Rs.base xs n.2 f⟩
theorem Rk.base:∀(t:List (Key×Tr)){v:List (Key×V)}{cs:Cs},nolk t=true->Rk K F B t v cs->Rk K F B' t v cs
 |[],_,_,_,h=>h
 |(_,x)::xs,_,_,n,y=>by
  obtain⟨v,r,c,d,e,b,a,f⟩:=y;rw[nolk,and_eq_true] at n;exact⟨v,r,c,d,e,b,R.base x n.1 a,Rk.base xs n.2 f⟩
theorem Rf.base:∀(t:List (Str×Tr)){v:List (Str×V)}{cs:Cs},nolf t=true->Rf K F B t v cs->Rf K F B' t v cs
 |[],_,_,_,h=>h
 |(_,x)::xs,_,_,n,y=>by
  obtain⟨v,r,c,d,e,b,a,f⟩:=y;rw[nolf,and_eq_true] at n;exact⟨v,r,c,d,e,b,R.base x n.1 a,Rf.base xs n.2 f⟩
end
mutual
theorem R.frz(b:Le F F'):∀(t:Tr){v:V}{cs:Cs},R K F B t v cs->(∀p∈cs,F' p.1=some p.2)->R K F' B (frz t) v []
 |.int _,_,_,y,_=>by obtain⟨h,_⟩:=y;exact⟨h,rfl⟩
 |.bl _,_,_,y,_=>by obtain⟨h,_⟩:=y;exact⟨h,rfl⟩
 |.str _,_,_,y,_=>by obtain⟨h,_⟩:=y;exact⟨h,rfl⟩
 |.non,_,_,y,_=>by obtain⟨h,_⟩:=y;exact⟨h,rfl⟩
 |.hole,_,_,h,_=>h.elim
 |.ty _,_,_,y,_=>by obtain⟨h,_⟩:=y;exact⟨h,rfl⟩
 |.cl _,_,_,y,_=>by obtain⟨h,_⟩:=y;exact⟨h,rfl⟩
 |.exc _,_,_,y,_=>by obtain⟨_,a,h,r⟩:=y;exact⟨rfl,a,h,Le.exc b r⟩
 |.tup xs,_,_,y,m=>by obtain⟨a,vs,d,c,e⟩:=y;exact⟨a,vs,d,b.tup c,Rs.frz b xs e m⟩
 |.lst .f xs,_,_,y,_=>by obtain⟨z,a,vs,d,c,e⟩:=y;exact⟨rfl,a,vs,d,b.lst c,Rs.mo b (λk=>Le.refl (B k)) xs e⟩
 |.lst (.l k) xs,_,_,y,_=>by obtain⟨z,a,vs,d,c,e⟩:=y;exact⟨rfl,a,vs,d,c,Rs.mo b (λk=>Le.refl (B k)) xs e⟩
 |.lst .o xs,_,_,y,m=>by obtain⟨a,vs,n,d,c,e⟩:=y;exact⟨rfl,a,vs,d,SqL.of (m (a,.lst vs) (by rw[c];exact .head _)),Rs.frz b xs e λp q=>m p (by rw[c];exact .tail _ q)⟩
 |.dic .f xs,_,_,y,_=>by obtain⟨z,a,vs,d,c,e,j⟩:=y;exact⟨rfl,a,vs,d,b.dic c,Rk.mo b (λk=>Le.refl (B k)) xs e,j⟩
 |.dic (.l k) xs,_,_,y,_=>by obtain⟨z,a,vs,d,c,e,j⟩:=y;exact⟨rfl,a,vs,d,c,Rk.mo b (λk=>Le.refl (B k)) xs e,j⟩
 |.dic .o xs,_,_,y,m=>by obtain⟨a,vs,n,d,c,e,j⟩:=y;exact⟨rfl,a,vs,d,Rd.of (m (a,.dK vs) (by rw[c];exact .head _)),Rk.frz b xs e λp q=>m p (by rw[c];exact .tail _ q),by rw[g'B];exact j⟩
 |.ins .f _ xs,_,_,y,_=>by obtain⟨z,a,g,vs,d,c,e⟩:=y;exact⟨rfl,a,g,vs,d,b _ _ (by intro _ _ z;cases z) c,Rf.mo b (λk=>Le.refl (B k)) xs e⟩
 |.ins (.l k) _ xs,_,_,y,_=>by obtain⟨z,a,g,vs,d,c,e⟩:=y;exact⟨rfl,a,g,vs,d,c,Rf.mo b (λk=>Le.refl (B k)) xs e⟩
 |.ins .o _ xs,_,_,y,m=>by obtain⟨a,g,vs,n,d,c,e⟩:=y;exact⟨rfl,a,g,vs,d,Rd.of (m (a,.ins _ g vs) (by rw[c];exact .head _)),Rf.frz b xs e λp q=>m p (by rw[c];exact .tail _ q)⟩
theorem Rs.frz(b:Le F F'):∀(t:List Tr){v:List V}{cs:Cs},Rs K F B t v cs->(∀p∈cs,F' p.1=some p.2)->Rs K F' B (frzs t) v []
 |[],_,_,y,_=>by obtain⟨h,_⟩:=y;exact⟨h,rfl⟩
 |x::xs,_,_,y,m=>by obtain⟨v,r,c,d,f,a,e,g⟩:=y;exact⟨v,r,[],[],f,rfl,R.frz b x e λp q=>m p (by rw[a];exact mem_append.mpr (.inl q)),Rs.frz b xs g λp q=>m p (by rw[a];exact mem_append.mpr (.inr q))⟩
theorem Rk.frz(b:Le F F'):∀(t:List (Key×Tr)){v:List (Key×V)}{cs:Cs},Rk K F B t v cs->(∀p∈cs,F' p.1=some p.2)->Rk K F' B (frzk t) v []
 |[],_,_,y,_=>by obtain⟨h,_⟩:=y;exact⟨h,rfl⟩
 |(_,x)::xs,_,_,y,m=>by obtain⟨v,r,c,d,e,a,g,f⟩:=y;exact⟨v,r,[],[],e,rfl,R.frz b x g λp q=>m p (by rw[a];exact mem_append.mpr (.inl q)),Rk.frz b xs f λp q=>m p (by rw[a];exact mem_append.mpr (.inr q))⟩
theorem Rf.frz(b:Le F F'):∀(t:List (Str×Tr)){v:List (Str×V)}{cs:Cs},Rf K F B t v cs->(∀p∈cs,F' p.1=some p.2)->Rf K F' B (frzf t) v []
 |[],_,_,y,_=>by obtain⟨h,_⟩:=y;exact⟨h,rfl⟩
 |(_,x)::xs,_,_,y,m=>by obtain⟨v,r,c,d,e,a,g,f⟩:=y;exact⟨v,r,[],[],e,rfl,R.frz b x g λp q=>m p (by rw[a];exact mem_append.mpr (.inl q)),Rf.frz b xs f λp q=>m p (by rw[a];exact mem_append.mpr (.inr q))⟩
end
def Plain(cs:Cs):Prop:=∀p∈cs,∀x u,p.2≠HO.frz x u
theorem Plain.nil:Plain []:=λ_ h=>nomatch h
theorem Plain.cons{a:Addr}{o:HO}{cs:Cs}(h:∀x u,o≠HO.frz x u)(t:Plain cs):Plain ((a,o)::cs):=λp m=>by
 cases m with
 |head=>exact h
 |tail _ m=>exact t p m
theorem Plain.app(h:Plain c)(t:Plain d):Plain (c++d):=λp m=>(mem_append.mp m).elim (h p) (t p)
mutual
theorem R.plain:∀(t:Tr){v:V}{cs:Cs},R K F B t v cs->Plain cs
 |.int _,_,_,y=>by obtain⟨_,h⟩:=y;rw[h];exact .nil
 |.bl _,_,_,y=>by obtain⟨_,h⟩:=y;rw[h];exact .nil
 |.str _,_,_,y=>by obtain⟨_,h⟩:=y;rw[h];exact .nil
 |.non,_,_,y=>by obtain⟨_,h⟩:=y;rw[h];exact .nil
 |.hole,_,_,h=>h.elim
 |.ty _,_,_,y=>by obtain⟨_,h⟩:=y;rw[h];exact .nil
 |.cl _,_,_,y=>by obtain⟨_,h⟩:=y;rw[h];exact .nil
 |.exc _,_,_,y=>by obtain⟨h,_⟩:=y;rw[h];exact .nil
 |.tup xs,_,_,y=>by obtain⟨a,vs,d,c,b⟩:=y;exact Rs.plain xs b
 |.lst .f xs,_,_,y=>by obtain⟨z,_⟩:=y;rw[z];exact .nil
 |.lst (.l k) xs,_,_,y=>by obtain⟨z,_⟩:=y;rw[z];exact .nil
 |.lst .o xs,_,_,y=>by obtain⟨a,vs,e,d,c,b⟩:=y;rw[c];exact .cons (by intro _ _ z;cases z) (Rs.plain xs b)
 |.dic .f xs,_,_,y=>by obtain⟨z,_⟩:=y;rw[z];exact .nil
 |.dic (.l k) xs,_,_,y=>by obtain⟨z,_⟩:=y;rw[z];exact .nil
 |.dic .o xs,_,_,y=>by obtain⟨a,vs,e,d,c,b,_⟩:=y;rw[c];exact .cons (by intro _ _ z;cases z) (Rk.plain xs b)
 |.ins .f _ xs,_,_,y=>by obtain⟨z,_⟩:=y;rw[z];exact .nil
 |.ins (.l k) _ xs,_,_,y=>by obtain⟨z,_⟩:=y;rw[z];exact .nil
 |.ins .o _ xs,_,_,y=>by obtain⟨a,g,vs,e,d,c,b⟩:=y;rw[c];exact .cons (by intro _ _ z;cases z) (Rf.plain xs b)
theorem Rs.plain:∀(t:List Tr){v:List V}{cs:Cs},Rs K F B t v cs->Plain cs
 |[],_,_,y=>by obtain⟨_,h⟩:=y;rw[h];exact .nil
 |x::xs,_,_,y=>by obtain⟨v,r,c,d,f,b,a,e⟩:=y;rw[b];exact (R.plain x a).app (Rs.plain xs e)
theorem Rk.plain:∀(t:List (Key×Tr)){v:List (Key×V)}{cs:Cs},Rk K F B t v cs->Plain cs
 |[],_,_,y=>by obtain⟨_,h⟩:=y;rw[h];exact .nil
 |(_,x)::xs,_,_,y=>by obtain⟨v,r,c,d,f,b,a,e⟩:=y;rw[b];exact (R.plain x a).app (Rk.plain xs e)
theorem Rf.plain:∀(t:List (Str×Tr)){v:List (Str×V)}{cs:Cs},Rf K F B t v cs->Plain cs
 |[],_,_,y=>by obtain⟨_,h⟩:=y;rw[h];exact .nil
 |(_,x)::xs,_,_,y=>by obtain⟨v,r,c,d,f,b,a,e⟩:=y;rw[b];exact (R.plain x a).app (Rf.plain xs e)
end
structure Cells(F H:Hp)(cs:Cs):Prop where
 h:∀p∈cs,H p.1=some p.2
 f:∀p∈cs,F p.1=none
 nd:(cs.map (·.1)).Nodup
theorem Cells.nil:Cells F H []:=⟨λ_ h=>(nomatch h),λ_ h=>(nomatch h),List.nodup_nil⟩
theorem Cells.gr(c:Cells F H cs)(g:Gr F H F' H'):Cells F' H' cs:=⟨λp m=>g.h _ _ (c.h p m),λp m=>g.own (c.f p m) (c.h p m),c.nd⟩
def New(H:Hp)(cs:Cs):Prop:=∀p∈cs,H p.1=none
theorem New.nil:New H []:=λ_ h=>nomatch h
theorem New.back(s:Same H H')(n:New H' cs):New H cs:=λp m=>s.free (n p m)
theorem Cells.app(h:Cells F H c)(t:Cells F H d)(n:∀p∈c,∀q∈d,p.1≠q.1):Cells F H (c++d):=
 ⟨λp m=>(mem_append.mp m).elim (h.h p) (t.h p),λp m=>(mem_append.mp m).elim (h.f p) (t.f p),by
  rw[map_append,nodup_append];refine⟨h.nd,t.nd,λa e b g=>?_⟩;obtain⟨p,l,rfl⟩:=mem_map.mp e;obtain⟨q,j,rfl⟩:=mem_map.mp g;exact n p l q j⟩
theorem Cells.left(h:Cells F H (c++d)):Cells F H c:=⟨λp m=>h.h p (mem_append.mpr (.inl m)),λp m=>h.f p (mem_append.mpr (.inl m)),by have:=h.nd;rw[map_append,nodup_append] at this;exact this.1⟩
theorem Cells.right(h:Cells F H (c++d)):Cells F H d:=⟨λp m=>h.h p (mem_append.mpr (.inr m)),λp m=>h.f p (mem_append.mpr (.inr m)),by have:=h.nd;rw[map_append,nodup_append] at this;exact this.2.1⟩
structure Out(K:W.Frag)(F:Hp)(B:Bool->Hp)(H F' H':Hp)(t:Tr)(v:V)(cs:Cs):Prop where
 g:Gr F H F' H'
 r:R K F' B t v cs
 c:Cells F' H' cs
 n:New H cs
structure OutA(K:W.Frag)(F:Hp)(B:Bool->Hp)(H F' H':Hp)(t:List Tr)(v:List V)(cs:Cs):Prop where
 g:Gr F H F' H'
 r:Rs K F' B t v cs
 c:Cells F' H' cs
 n:New H cs
def EnvQ(K:W.Frag)(F:Hp)(B:Bool->Hp)(j:St)(y:List Tr):Prop:=∀(i:Nat)(t:Tr),y[i]?=some t->t=.hole\/∃v,j[i]?=some (some v)/\R K F B t v []
theorem EnvQ.mo(e:EnvQ K F B j y)(l:Le F F')(b:∀k,Le (B k) (B' k)):EnvQ K F' B' j y:=λi t h=>(e i t h).imp id λ⟨v,h1,h2⟩=>⟨v,h1,h2.mo l b t⟩
abbrev PE':=List Tr->(Tr->Prop)->Prop
abbrev PA':=List Tr->(List Tr->Prop)->Prop
abbrev PB':=List Tr->(Bool->Prop)->Prop
structure Md where
 z:Bool
 E:St->XK
 q:Value->Prop
def Md.mute(k:Md):Md:=⟨k.z,k.E,λ_=>False⟩
def Md.walk(k:Md):Md:=⟨false,k.E,λ_=>False⟩
def Md.base(b:Bool):Md:=⟨b,λ_=>E0,λ_=>False⟩
structure Cxt(K:W.Frag)(k:Md)(F:Hp)(B:Bool->Hp)(H:Hp)(j:St)(y:List Tr):Prop where
 s:Same F H
 b:∀k,Same (B k) H
 z:k.z=true->Fz S0 F
 e:EnvQ K F B j y
 x:∀cls F' H',k.q cls->Gr F H F' H'->k.E j cls none H'
theorem _root_.Vc.Gr.refl'(s:Same F H):Gr F H F H:=Gr.of (Gr0.refl s) (Fz.refl F)
theorem _root_.Vc.Gr.trans'(a:Gr F H F' H')(b:Gr F' H' F2 H2):Gr F H F2 H2:=Gr.of (a.toGr0.tr b) (b.fz a.z)
theorem Cxt.gr(c:Cxt K k F B H j y)(g:Gr F H d f):Cxt K k d B f j y:=⟨g.s,λk=>(c.b k).trans g.h,λh=>g.fz (c.z h),c.e.mo g.le (λk=>Le.refl (B k)),λa d f q l=>c.x a d f q (g.trans' l)⟩
def Sim(K:W.Frag)(k:Md)(c:TE)(pe:PE'):Prop:=∀(F:Hp)(B:Bool->Hp)(H:Hp)(j:St)(y:List Tr)(Q:VK)(a:Tr->Prop),Cxt K k F B H j y->pe y a->(∀t v e b d,a t->Out K F B H e b t v d->Q v b)->c j H Q
def adL(K:W.Frag)(k:Md)(c:TA)(pe:PA'):Prop:=∀(F:Hp)(B:Bool->Hp)(H:Hp)(j:St)(y:List Tr)(Q:List V->Hp->Prop)(a:List Tr->Prop),Cxt K k F B H j y->pe y a->(∀t v e b d,a t->OutA K F B H e b t v d->Q v b)->c j H Q
def adY(K:W.Frag)(k:Md)(d:TT)(pe:PB'):Prop:=∀(F:Hp)(B:Bool->Hp)(H:Hp)(j:St)(y:List Tr)(Q:Bool->Hp->Prop)(a:Bool->Prop),Cxt K k F B H j y->pe y a->(∀b e c,a b->Gr F H e c->Q b c)->d j H Q
theorem Out.same(s:Same F H)(r:R K F B t v []):Out K F B H F H t v []:=⟨Gr.refl' s,r,.nil,.nil⟩
def ahS(i:Nat):PE':=λj Q=>match j[i]? with |some .hole=>False |some t=>Q t |none=>False
theorem s'z(i:Nat):Sim K k (adZ i) (ahS i):=λF B H j y Q d c p q=>by
 unfold ahS at p;cases h:y[i]? with
 |none=>rw[h] at p;exact p.elim
 |some t=>
  rcases c.e i t h with rfl |⟨v,b,a⟩
  .rw[h] at p;exact p.elim
  .refine⟨v,b,q t v F H [] ?_ (Out.same c.s a)⟩;rw[h] at p;cases t with
   |hole=>exact p.elim
   |_=>exact p
def pC(t:Tr):PE':=λ_ Q=>Q t
theorem e'e(h:∀F B,R K F B t v []):Sim K k (tC v) (pC t):=λF B H j y Q a c p q=>q t v F H [] p (Out.same c.s (h F B))
theorem s'A:Sim K k (tC (.int n)) (pC (.int n)):=e'e λ_ _=>⟨rfl,rfl⟩
theorem s'B:Sim K k (tC (.str n)) (pC (.str n)):=e'e λ_ _=>⟨rfl,rfl⟩
theorem u'F:Sim K k (tC (.bl n)) (pC (.bl n)):=e'e λ_ _=>⟨rfl,rfl⟩
theorem s'C:Sim K k (tC .non) (pC .non):=e'e λ_ _=>⟨rfl,rfl⟩
def p2(a:Tr->Tr->(Tr->Prop)->Prop)(b c:PE'):PE':=λj Q=>b j λx=>c j λy=>a x y Q
def Op2(K:W.Frag)(k:Md)(r:R2)(h:Tr->Tr->(Tr->Prop)->Prop):Prop:=∀(F:Hp)(B:Bool->Hp)(H:Hp)(x y:V)(g ty:Tr)(b a:Cs)(Q:VK)(f:Tr->Prop),Same F H->(∀k,Same (B k) H)->(k.z=true->Fz S0 F)->R K F B g x b->R K F B ty y a->Cells F H b->Cells F H a->(∀p∈b,∀q∈a,p.1≠q.1)->h g ty f->
 (∀t v d c e,f t->Gr F H d c->R K d B t v e->Cells d c e->(∀p∈e,H p.1=none\/p∈b\/p∈a)->Q v c)->r x y H Q
theorem f'k(o:Op2 K k r pr)(f:Sim K k ta pa)(O:Sim K k tb pb):Sim K k (tOp r ta tb) (p2 pr pa pb):=λF B H j G Q I c p q=>by
 refine f F B H j G _ _ c p λx v N D J p1 d=>?_
 refine O N B D j G _ _ (c.gr d.g) p1 λy u L H2 c2 p2 a=>?_
 refine o L B H2 v u x y J c2 Q I a.g.s (λk=>((c.b k).trans d.g.h).trans a.g.h) (λh=>a.g.fz (d.g.fz (c.z h))) (d.r.mo a.g.le (λk=>Le.refl (B k)) x) a.r (d.c.gr a.g) a.c (λp w q U e=>by have:=d.c.h p w;rw[e,a.n q U] at this;cases this) p2 λt C M Y cs l g A E n=>?_
 refine q t C M Y cs l ⟨(d.g.trans' a.g).trans' g,A,E,λp m=>?_⟩;rcases n p m with z |z |z
 .exact (d.g.h.trans a.g.h).free z
 .exact d.n p z
 .exact d.g.h.free (a.n p z)
def p1(a:Tr->(Tr->Prop)->Prop)(b:PE'):PE':=λj Q=>b j λx=>a x Q
def Op1(K:W.Frag)(k:Md)(r:V->Hp->VK->Prop)(g:Tr->(Tr->Prop)->Prop):Prop:=∀(F:Hp)(B:Bool->Hp)(H:Hp)(x:V)(f:Tr)(d:Cs)(Q:VK)(e:Tr->Prop),Same F H->(∀k,Same (B k) H)->(k.z=true->Fz S0 F)->R K F B f x d->Cells F H d->g f e->
 (∀t v b a c,e t->Gr F H b a->R K b B t v c->Cells b a c->(∀p∈c,H p.1=none\/p∈d)->Q v a)->r x H Q
theorem u'G(o:Op1 K k r pr)(d:Sim K k ta pa):Sim K k (tUn r ta) (p1 pr pa):=λF B H j y Q e c p q=>by
 refine d F B H j y _ _ c p λx v w C f p1 a=>?_
 refine o w B C v x f Q e a.g.s (λk=>(c.b k).trans a.g.h) (λh=>a.g.fz (c.z h)) a.r a.c p1 λt D A G I l g u E n=>?_
 refine q t D A G I l ⟨a.g.trans' g,u,E,λp m=>?_⟩;rcases n p m with z |z
 .exact a.g.h.free z
 .exact a.n p z
def ahT:PA':=λ_ Q=>Q []
def agh(pe:PE')(b:PA'):PA':=λj Q=>pe j λx=>b j λa=>Q (x::a)
theorem j'C:adL K k aeM ahT:=λF B H j y Q a c p q=>q [] [] F H [] p ⟨Gr.refl' c.s,⟨rfl,rfl⟩,.nil,.nil⟩
theorem p'h(h:Sim K k te pe)(l:adL K k ta pa):adL K k (adJ te ta) (agh pe pa):=λF B H j y Q D c p q=>by
 refine h F B H j y _ _ c p λx v u z d p1 a=>?_
 refine l u B z j y _ _ (c.gr a.g) p1 λs vs o C f p2 b=>?_
 refine q (x::s) (v::vs) o C (d++f) p2 ⟨a.g.trans' b.g,⟨v,vs,d,f,rfl,rfl,a.r.mo b.g.le (λk=>Le.refl (B k)) x,b.r⟩,(a.c.gr b.g).app b.c λp w q A e=>?_,λp m=>?_⟩
 .have:=a.c.h p w;rw[e,b.n q A] at this;cases this
 .rcases mem_append.mp m with m |m
  .exact a.n p m
  .exact a.g.h.free (b.n p m)
theorem Rs.length:∀{t:List Tr}{v:List V}{cs:Cs},Rs K F B t v cs->v.length=t.length
 |[],_,_,y=>by obtain⟨h,_⟩:=y;rw[h];rfl
 |x::xs,_,_,y=>by obtain⟨v,r,c,d,a,f,e,b⟩:=y;rw[a,length_cons,length_cons,Rs.length b]
theorem Rs.at:∀{t:List Tr}{v:List V}{cs:Cs}{i:Nat}{x:Tr},Rs K F B t v cs->t[i]?=some x->∃u c,v[i]?=some u/\R K F B x u c/\∀p∈c,p∈cs
 |x::xs,_,_,0,y,y0,h=>by
  obtain⟨v,r,c,d,a,b,g,f⟩:=y0;cases h;exact⟨v,c,by rw[a];rfl,g,λp m=>by rw[b];exact mem_append.mpr (.inl m)⟩
 |x::xs,_,_,i + 1,y,y0,h=>by
  obtain⟨v,r,c,d,a,b,g,f⟩:=y0;obtain⟨u,e,j,n,l⟩:=Rs.at (i:=i) f h;exact⟨u,e,by rw[a];exact j,n,λp m=>by rw[b];exact mem_append.mpr (.inr (l p m))⟩
theorem Rs.at':∀{t:List Tr}{v:List V}{cs:Cs}{i:Nat}{x:Tr},Rs K F B t v cs->Cells F H cs->t[i]?=some x->∃u c,v[i]?=some u/\R K F B x u c/\Cells F H c/\∀p∈c,p∈cs
 |x::xs,_,_,0,y,y0,hc,h=>by
  obtain⟨v,r,c,d,b,a,g,f⟩:=y0;cases h;rw[a] at hc;exact⟨v,c,by rw[b];rfl,g,hc.left,λp m=>by rw[a];exact mem_append.mpr (.inl m)⟩
 |x::xs,_,_,i + 1,y,y0,hc,h=>by
  obtain⟨v,r,c,d,b,a,g,f⟩:=y0;rw[a] at hc;obtain⟨u,e,j,o,n,l⟩:=Rs.at' (i:=i) f hc.right h;exact⟨u,e,by rw[b];exact j,o,n,λp m=>by rw[a];exact mem_append.mpr (.inr (l p m))⟩
theorem Rk.keys:∀{t:List (Key×Tr)}{v:List (Key×V)}{cs:Cs},Rk K F B t v cs->v.map (·.1)=t.map (·.1)
 |[],_,_,y=>by obtain⟨h,_⟩:=y;rw[h];rfl
 |(k,x)::xs,_,_,y=>by obtain⟨v,r,c,d,a,f,e,b⟩:=y;rw[a,map_cons,map_cons,Rk.keys b]
theorem Rk.length(h:Rk K F B t v cs):v.length=t.length:=by have:=congrArg List.length h.keys;simpa using this
def look(m:List (Key×Tr))(k:Key):Option Tr:=(m.find? λp=>decide (p.1=k)).map (·.2)
theorem Rk.look:∀{t:List (Key×Tr)}{v:List (Key×V)}{cs:Cs}(k:Key),Rk K F B t v cs->Cells F H cs->(look t k=none/\adS v k=none)\/∃x u c,look t k=some x/\adS v k=some u/\R K F B x u c/\Cells F H c/\∀p∈c,p∈cs
 |[],_,_,k,y,_=>by obtain⟨h,_⟩:=y;exact .inl ⟨rfl,by rw[h];rfl⟩
 |(k',x)::xs,_,_,k,y,hc=>by
  obtain⟨v,r,c,d,b,a,q,j⟩:=y;rw[a] at hc;by_cases e:k'=k
  .refine .inr ⟨x,v,c,?_,?_,q,hc.left,λp m=>by rw[a];exact mem_append.mpr (.inl m)⟩
   .unfold Pu.look;rw[List.find?_cons_of_pos (by simpa using e)];rfl
   .unfold adS;rw[b,List.find?_cons_of_pos (by simpa using e)];rfl
  .have e1:Pu.look ((k',x)::xs) k=Pu.look xs k:=by unfold Pu.look;rw[List.find?_cons_of_neg (by simpa using e)]
   have n:adS ((k',v)::r) k=adS r k:=by unfold adS;rw[List.find?_cons_of_neg (by simpa using e)]
   rw[b,e1,n];rcases Rk.look (t:=xs) (v:=r) (cs:=d) k j hc.right with z |⟨y,u,w,f,s,o,g,l⟩
   .exact .inl z
   .exact .inr ⟨y,u,w,f,s,o,g,λp m=>by rw[a];exact mem_append.mpr (.inr (l p m))⟩
theorem R.lstH(s:Same F H)(b:∀k,Same (B k) H)(r:R K F B (.lst f xs) v cs)(c:Cells F H cs):∃a vs j,v=.ref a/\SqL K H a vs/\Rs K F B xs vs j/\Cells F H j/\∀p∈j,p∈cs:=by
 cases f with
 |f=>obtain⟨z,a,vs,g,d,e⟩:=r;exact⟨a,vs,[],g,s.seq d,e,.nil,λ_ m=>nomatch m⟩
 |l k=>obtain⟨z,a,vs,g,d,e⟩:=r;exact⟨a,vs,[],g,(b k).seq d,e,.nil,λ_ m=>nomatch m⟩
 |o=>
  obtain⟨a,vs,j,g,d,e⟩:=r;rw[d] at c;exact⟨a,vs,j,g,SqL.of (c.h _ (.head _)),e,Cells.right (c:=[_]) c,λp m=>by rw[d];exact .tail _ m⟩
theorem R.tupH(s:Same F H)(r:R K F B (.tup xs) v cs):∃a vs,v=.ref a/\SqT K H a vs/\Rs K F B xs vs cs:=by
 obtain⟨a,vs,d,c,b⟩:=r;exact⟨a,vs,d,s.tup c,b⟩
theorem R.dicH(s:Same F H)(b:∀k,Same (B k) H)(r:R K F B (.dic f xs) v cs)(c:Cells F H cs):∃a vs j,v=.ref a/\Rd H a (.dK vs)/\Rk K F B xs vs j/\Cells F H j/\∀p∈j,p∈cs:=by
 cases f with
 |f=>obtain⟨z,a,vs,g,d,e,_⟩:=r;exact⟨a,vs,[],g,s.rd d,e,.nil,λ_ m=>nomatch m⟩
 |l k=>obtain⟨z,a,vs,g,d,e,_⟩:=r;exact⟨a,vs,[],g,(b k).rd d,e,.nil,λ_ m=>nomatch m⟩
 |o=>
  obtain⟨a,vs,j,g,d,e,_⟩:=r;rw[d] at c;exact⟨a,vs,j,g,Rd.of (c.h _ (.head _)),e,Cells.right (c:=[_]) c,λp m=>by rw[d];exact .tail _ m⟩
theorem R.insH(s:Same F H)(b:∀k,Same (B k) H)(r:R K F B (.ins f C xs) v cs)(c:Cells F H cs):∃a d vs j,v=.ref a/\Rd H a (.ins C d vs)/\Rf K F B xs vs j/\Cells F H j/\∀p∈j,p∈cs:=by
 cases f with
 |f=>obtain⟨z,a,d,vs,g,e,n⟩:=r;exact⟨a,d,vs,[],g,s.rd e,n,.nil,λ_ m=>nomatch m⟩
 |l k=>obtain⟨z,a,d,vs,g,e,n⟩:=r;exact⟨a,d,vs,[],g,(b k).rd e,n,.nil,λ_ m=>nomatch m⟩
 |o=>
  obtain⟨a,d,vs,j,g,e,n⟩:=r;rw[e] at c;exact⟨a,d,vs,j,g,Rd.of (c.h _ (.head _)),n,Cells.right (c:=[_]) c,λp m=>by rw[e];exact .tail _ m⟩
theorem c'X(s:Same F H)(r:Rs K F B xs vs cs)(c:Cells F H cs)(hp:H p=none):∃a,Gr F H a (upd H p (.tup vs))/\R K a B (.tup xs) (.ref p) cs/\Cells a (upd H p (.tup vs)) cs:=by
 obtain⟨a,g,e⟩:=al2 (o:=.tup vs) s (by intro _ _ z;cases z) hp;exact⟨a,g,⟨p,vs,rfl,SqT.of e,r.mo g.le (λk=>Le.refl (B k)) xs⟩,c.gr g⟩
theorem Gr.own1(s:Same F H)(hp:H p=none):Gr F H F (upd H p o):=⟨⟨Same.upd hp,Same.refl F,s.updN (s.free hp),λa u h e=>by rw[h] at e;cases e⟩,Fz.refl F⟩
theorem c'Y(s:Same F H)(c:Cells F H cs)(hp:H p=none):Cells F (upd H p o) ((p,o)::cs):=
 ⟨λq m=>by
  cases m with
  |head=>exact a'g
  |tail _ m=>show upd H p o q.1=_;rw[a'e (a'x (c.h q m) hp)];exact c.h q m,
 λq m=>by
  cases m with
  |head=>exact s.free hp
  |tail _ m=>exact c.f q m,
 by
  rw[map_cons,nodup_cons];refine⟨λm=>?_,c.nd⟩;obtain⟨q,a,e⟩:=mem_map.mp m;have e:q.1=p:=e;have:=c.h q a;rw[e,hp] at this;cases this⟩
def aih(b:PA'):PE':=λj Q=>b j λa=>a.length<=10000/\Q (.tup a)
def aii(b:PA'):PE':=λj Q=>b j λa=>a.length<=10000/\Q (.lst .o a)
theorem c'H(h:n<=1000000):n<=sizeLine:=le_trans h (by decide)
theorem s'D(h:adL K k ta pa):Sim K k (aiW ta) (aih pa):=λF B H j y Q o c p q=>by
 refine h F B H j y _ _ c p λl vs u v e p1 b=>⟨by rw[b.r.length];exact c'H (le_trans p1.1 (by decide)),λa d=>?_⟩
 obtain⟨f,g,r,m⟩:=c'X b.g.s b.r b.c d;exact q (.tup l) (.ref a) f _ e p1.2 ⟨b.g.trans' g,r,m,b.n⟩
theorem s'E(h:adL K k ta pa):Sim K k (aiX ta) (aii pa):=λF B H j y Q u c p q=>by
 refine h F B H j y _ _ c p λf vs l v e p1 b=>⟨by rw[b.r.length];exact c'H (le_trans p1.1 (by decide)),λa d=>?_⟩
 refine q (.lst .o f) (.ref a) l _ ((a,.lst vs)::e) p1.2 ⟨b.g.trans' (Gr.own1 b.g.s d),⟨a,vs,e,rfl,rfl,b.r⟩,c'Y b.g.s b.c d,λp m=>?_⟩;cases m with
 |head=>exact b.g.h.free d
 |tail _ m=>exact b.n p m
end
end Pu
namespace Pu
open PySem PySem.Spec PyProof.Rows L2 Vc Sf
section
def ai7:R2:=λx y H Q=>∃a v,x=.ref a/\afN H a y (some v)/\Q v H
theorem s'F(p:X.A.units+1<cLine):IxR X ai7:=by
 intro value c pins s j H x y v u Q I o n h m;obtain⟨a,z,rfl,g,q⟩:=h;obtain rfl:v=Value.ref a:=o;have f:=i'W I g;unfold subscriptTail;refine wpAny_bind ?_;rw[getitemInPython_of_ne f.not_modules];refine wpAny_bind (wpAny_specialOf f PySem.F.slot_dict_getitem.lookup ?_);have b:wpAny (model X.prog X.w) X.A (subscripted c false (.ref a) u) (λr d=>wpAny (model X.prog X.w) X.A (letTemporaryGo value (.ref a) r >>= λ_=>pure r) (EP X pins j Q) X.xe d) X.xe s:=by
  rw[m];exact wpAny_operating (m'c p I g n λC B l e=>wpAny_bind (wpAny_letTemporaryGo (wpAny_pure ⟨z,H,l,e,q⟩)))
 first
  |exact wpAny_pure (wpAny_bind b)
  |exact wpAny_bind (wpAny_pure (wpAny_bind b))
  |exact wpAny_bind b
def ahe(neg:Bool):R2:=λy x H Q=>∃a o,x=.ref a/\afN H a y o/\Q (.bl (if neg then !o.isSome else o.isSome)) H
theorem u'H(e:X.A.units+1<cLine):OpR X (compareOp .In) (ahe false):=by
 intro pins s j H y x u v Q I c d h;obtain⟨a,o,rfl,g,q⟩:=h;obtain rfl:v=Value.ref a:=d;exact w'S e I g c λf b=>⟨.bl o.isSome,H,b,rfl,q⟩
theorem m'I(e:X.A.units+1<cLine):OpR X (compareOp .NotIn) (ahe true):=by
 intro pins s j H y x u v Q I c d h;obtain⟨a,o,rfl,g,q⟩:=h;obtain rfl:v=Value.ref a:=d;exact r'W e I g c λf b=>⟨.bl (!o.isSome),H,b,rfl,q⟩
def ahf(K:W.Frag):R2:=λx y H Q=>rI0 (λi j=>.int (i+j)) x y H Q\/(λx y H Q=>(λx y H Q=>∃i j,x=.str i/\y=.str j/\i.length+j.length<=sizeLine/\Q (.str (i++j)) H) x y H Q\/ahc K x y H Q) x y H Q
theorem w'z:OpR X (binaryOp .Add) (ahf X.K):=agZ.or (aeI.or s'y)
def ahg:R2:=λx y H Q=>rI adX (λi j=>.int (i*j)) x y H Q\/ahb x y H Q
theorem w'A:OpR X (binaryOp .Mult) ahg:=agd.or l'k
def ai8(K:W.Frag):R2:=λx y H Q=>rIx K x y H Q\/ai7 x y H Q
theorem w'W(a:X.A.units+1<cLine):IxR X (ai8 X.K):=ag5.or (s'F a)
def ai9:R2:=λx y H Q=>rI0 (λi j=>.bl (decide (i<j))) x y H Q\/(λx y H Q=>∃i j,x=.str i/\y=.str j/\Q (.bl (decide (i.cps.toList<j.cps.toList))) H) x y H Q
theorem h'L:OpR X (compareOp .Lt) ai9:=aia.or l'Y
def aja:R2:=λx y H Q=>rI0 (λi j=>.bl (decide (j<i))) x y H Q\/(λx y H Q=>∃i j,x=.str i/\y=.str j/\Q (.bl (decide (j.cps.toList<i.cps.toList))) H) x y H Q
theorem e'D:OpR X (compareOp .Gt) aja:=aib.or m'D
end
section
variable{K:W.Frag}{F F' H H':Hp}{B B':Bool->Hp}{k:Md}
def adx(C:Int->Int->Prop)(g:Int->Int->Tr)(x y:Tr)(Q:Tr->Prop):Prop:=match x,y with
 |.int i,.int j=>C i j /\ Q (g i j)
 |_,_=>False
theorem q'v{g:Int->Int->V}{t:Int->Int->Tr}(h:∀i j F B,R K F B (t i j) (g i j) []):Op2 K k (rI C g) (adx C t):=λF B H x y l ty o f Q e s b z c a d n hd p q=>by
 unfold adx at p;split at p
 .obtain⟨rfl,_⟩:=c;obtain⟨rfl,_⟩:=a;exact⟨_,_,rfl,rfl,p.1,q _ _ F H [] p.2 (Gr.refl' s) (h _ _ F B) .nil λ_ m=>nomatch m⟩
 .exact p.elim
theorem h'M{g:Int->Int->V}{t:Int->Int->Tr}(h:∀i j F B,R K F B (t i j) (g i j) []):Op2 K k (rI0 g) (adx (λ_ _=>True) t):=λF B H x y l ty o f Q e s b z c a d n hd p q=>by
 unfold adx at p;split at p
 .obtain⟨rfl,_⟩:=c;obtain⟨rfl,_⟩:=a;exact⟨_,_,rfl,rfl,q _ _ F H [] p.2 (Gr.refl' s) (h _ _ F B) .nil λ_ m=>nomatch m⟩
 .exact p.elim
def ahh(x y:Tr)(Q:Tr->Prop):Prop:=match x,y with
 |.int i,.int j=>Q (.int (i + j))
 |.str i,.str j=>i.length + j.length <= 1000000 /\ Q (.str (i ++ j))
 |.lst _ xs,.lst _ ys=>xs.length + ys.length <= 1000000 /\ Q (.lst .o (xs ++ ys))
 |_,_=>False
theorem Rs.append:∀{xs ys:List Tr}{vs us:List V}{c d:Cs},Rs K F B xs vs c->Rs K F B ys us d->Rs K F B (xs++ys) (vs++us) (c++d)
 |[],_,_,_,_,_,y,h=>by obtain⟨b,a⟩:=y;rw[b,a];exact h
 |x::xs,_,_,_,_,_,y,h=>by obtain⟨v,r,c,d,b,a,e,f⟩:=y;rw[b,a];exact⟨v,r ++ _,c,d ++ _,rfl,by rw[append_assoc],e,Rs.append f h⟩
theorem b'B(s:Same F H)(r:Rs K F B xs vs cs)(c:Cells F H cs)(hp:H p=none):Gr F H F (upd H p (.lst vs))/\R K F B (.lst .o xs) (.ref p) ((p,.lst vs)::cs)/\Cells F (upd H p (.lst vs)) ((p,.lst vs)::cs):=
 ⟨Gr.own1 s hp,⟨p,vs,cs,rfl,rfl,r⟩,c'Y s c hp⟩
theorem s'G:Op2 K k (ahf K) ahh:=λF B H x y I ty J G Q E s b z d c j u hd p q=>by
 unfold ahh at p;split at p
 .obtain⟨rfl,_⟩:=d;obtain⟨rfl,_⟩:=c;exact .inl ⟨_,_,rfl,rfl,q _ _ F H [] p (Gr.refl' s) ⟨rfl,rfl⟩ .nil λ_ m=>nomatch m⟩
 .obtain⟨rfl,_⟩:=d;obtain⟨rfl,_⟩:=c;exact .inr (.inl ⟨_,_,rfl,rfl,c'H p.1,q _ _ F H [] p.2 (Gr.refl' s) ⟨rfl,rfl⟩ .nil λ_ m=>nomatch m⟩)
 .obtain⟨a,vs,ds,rfl,h1,h2,h3,h4⟩:=d.lstH s b j;obtain⟨D,us,C,rfl,n,e,w,f⟩:=c.lstH s b u;refine .inr (.inr ⟨_,_,_,_,rfl,rfl,h1,n,c'H (by rw[h2.length,e.length];exact p.1),λl g=>?_⟩);obtain⟨h,r,v⟩:=b'B s (h2.append e) (h3.app w λp o q A=>hd p (h4 p o) q (f q A)) g;refine q _ _ F _ _ p.2 h r v λp m=>?_
  cases m with
  |head=>exact .inl g
  |tail _ m=>exact (mem_append.mp m).elim (λm=>.inr (.inl (h4 p m))) (λm=>.inr (.inr (f p m)))
 .exact p.elim
def ahU(x y:Tr)(Q:Tr->Prop):Prop:=match x,y with
 |.int i,.int j=>adX i j /\ Q (.int (i * j))
 |_,_=>False
theorem s'H:Op2 K k ahg ahU:=λF B H x y g ty j f Q e s b z c a d h hd p q=>by
 unfold ahU at p;split at p
 .obtain⟨rfl,_⟩:=c;obtain⟨rfl,_⟩:=a;exact .inl ⟨_,_,rfl,rfl,p.1,q _ _ F H [] p.2 (Gr.refl' s) ⟨rfl,rfl⟩ .nil λ_ m=>nomatch m⟩
 .exact p.elim
def ahi:Tr->Option Key
 |.int n=>some (.inl n)
 |.str x=>some (.inr x)
 |_=>none
theorem d'C(r:R K F B t v cs)(h:ahi t=some y):v=kV y:=by
 cases t with
 |int n=>cases h;exact r.1
 |str n=>cases h;exact r.1
 |_=>cases h
def ad0(x y:Tr)(Q:Tr->Prop):Prop:=match x,y with
 |.tup xs,.int i=>(match atI xs i with |some t=>Q t |none=>False)
 |.lst _ xs,.int i=>(match atI xs i with |some t=>Q t |none=>False)
 |.str x,.int i=>x.length <= 1000000 /\ (match atI x.cps.toList i with |some c=>Q (.str ⟨#[c]⟩) |none=>False)
 |.dic _ m,y=>(match ahi y with |some y=>(match look m y with |some t=>Q t |none=>False) |none=>False)
 |_,_=>False
theorem Rs.atI(r:Rs K F B xs vs cs)(c:Cells F H cs)(h:L2.atI xs i=some t):∃u d,L2.atI vs i=some u/\R K F B t u d/\Cells F H d/\∀p∈d,p∈cs:=by
 unfold L2.atI at h ⊢;rw[r.length];cases e:ixN xs.length i with
 |none=>rw[e] at h;cases h
 |some j=>rw[e] at h;exact r.at' c h
theorem s'I:Op2 K k (ai8 K) ad0:=λF B H x y U ty Y O Q N s b z j h l M hd p q=>by
 unfold ad0 at p;split at p
 .obtain⟨rfl,_⟩:=h;split at p
  .rename_i e;obtain⟨a,vs,rfl,f,g⟩:=j.tupH s;obtain⟨u,d,o,n,w,A⟩:=g.atI l e;exact .inl (.inr (.inl ⟨_,_,_,_,rfl,rfl,f,o,q _ _ F H d p (Gr.refl' s) n w λp m=>.inr (.inl (A p m))⟩))
  .exact p.elim
 .obtain⟨rfl,_⟩:=h;split at p
  .rename_i e;obtain⟨a,vs,E,rfl,f,g,v,r⟩:=j.lstH s b l;obtain⟨u,d,o,n,w,A⟩:=g.atI v e;exact .inl (.inl ⟨_,_,_,_,rfl,rfl,f,o,q _ _ F H d p (Gr.refl' s) n w λp m=>.inr (.inl (r p (A p m)))⟩)
  .exact p.elim
 .obtain⟨rfl,_⟩:=h;obtain⟨rfl,_⟩:=j;obtain⟨G,p⟩:=p;split at p
  .rename_i e;exact .inl (.inr (.inr ⟨_,_,_,rfl,rfl,c'H G,e,q _ _ F H [] p (Gr.refl' s) ⟨rfl,rfl⟩ .nil λ_ m=>nomatch m⟩))
  .exact p.elim
 .split at p
  .rename_i e;split at p
   .rename_i e';obtain⟨a,vs,E,rfl,f,g,v,r⟩:=j.dicH s b l;obtain rfl:=d'C h e;rcases g.look _ v with⟨z,_⟩ |⟨x,u,c,C,J,I,L,D⟩
    .rw[z] at e';cases e'
    .rw[C] at e';cases e';exact .inr ⟨a,u,rfl,.inl ⟨vs,_,f,rfl,J.symm⟩,q _ _ F H c p (Gr.refl' s) I L λp m=>.inr (.inl (r p (D p m)))⟩
   .exact p.elim
  .exact p.elim
 .exact p.elim
def wLt(x y:Tr)(Q:Tr->Prop):Prop:=match x,y with
 |.int i,.int j=>Q (.bl (decide (i < j)))
 |.str i,.str j=>Q (.bl (decide (i.cps.toList < j.cps.toList)))
 |_,_=>False
theorem d'D:Op2 K k ai9 wLt:=λF B H x y g ty j f Q e s b z c a d h hd p q=>by
 unfold wLt at p;split at p
 .obtain⟨rfl,_⟩:=c;obtain⟨rfl,_⟩:=a;exact .inl ⟨_,_,rfl,rfl,q _ _ F H [] p (Gr.refl' s) ⟨rfl,rfl⟩ .nil λ_ m=>nomatch m⟩
 .obtain⟨rfl,_⟩:=c;obtain⟨rfl,_⟩:=a;exact .inr ⟨_,_,rfl,rfl,q _ _ F H [] p (Gr.refl' s) ⟨rfl,rfl⟩ .nil λ_ m=>nomatch m⟩
 .exact p.elim
def wGt(x y:Tr)(Q:Tr->Prop):Prop:=match x,y with
 |.int i,.int j=>Q (.bl (decide (j < i)))
 |.str i,.str j=>Q (.bl (decide (j.cps.toList < i.cps.toList)))
 |_,_=>False
theorem c'w:Op2 K k aja wGt:=λF B H x y g ty j f Q e s b z c a d h hd p q=>by
 unfold wGt at p;split at p
 .obtain⟨rfl,_⟩:=c;obtain⟨rfl,_⟩:=a;exact .inl ⟨_,_,rfl,rfl,q _ _ F H [] p (Gr.refl' s) ⟨rfl,rfl⟩ .nil λ_ m=>nomatch m⟩
 .obtain⟨rfl,_⟩:=c;obtain⟨rfl,_⟩:=a;exact .inr ⟨_,_,rfl,rfl,q _ _ F H [] p (Gr.refl' s) ⟨rfl,rfl⟩ .nil λ_ m=>nomatch m⟩
 .exact p.elim
theorem u'I:Op2 K k (rI0 λi j=>.bl (decide (i<=j))) (adx (λ_ _=>True) λi j=>.bl (decide (i<=j))):=h'M λ_ _ _ _=>⟨rfl,rfl⟩
theorem u'J:Op2 K k (rI0 λi j=>.bl (decide (j<=i))) (adx (λ_ _=>True) λi j=>.bl (decide (j<=i))):=h'M λ_ _ _ _=>⟨rfl,rfl⟩
theorem s'J:Op2 K k (rI0 λi j=>.int (i - j)) (adx (λ_ _=>True) λi j=>.int (i - j)):=h'M λ_ _ _ _=>⟨rfl,rfl⟩
theorem p'i:Op2 K k (rI CDivB λi j=>.int (i.fdiv j)) (adx CDivB λi j=>.int (i.fdiv j)):=q'v λ_ _ _ _=>⟨rfl,rfl⟩
theorem s'K:Op2 K k (rI (λ_ j=>0<j) λi j=>.int (i % j)) (adx (λ_ j=>0<j) λi j=>.int (i % j)):=q'v λ_ _ _ _=>⟨rfl,rfl⟩
def ahV(x:Tr)(Q:Tr->Prop):Prop:=match x with
 |.int i=>Q (.int (-i))
 |_=>False
theorem s'L:Op1 K k (L2.rU λi=>.int (-i)) ahV:=λF B H x e f Q d s b z a c p q=>by
 unfold ahV at p;split at p
 .obtain⟨rfl,_⟩:=a;exact⟨_,rfl,q _ _ F H [] p (Gr.refl' s) ⟨rfl,rfl⟩ .nil λ_ m=>nomatch m⟩
 .exact p.elim
def agi:Tr->Option V
 |.int n=>some (.int n) |.bl b=>some (.bl b) |.str x=>some (.str x) |.non=>some .non |_=>none
theorem f'l(r:R K F B t v cs)(h:agi t=some u):v=u:=by
 cases t with
 |int n=>cases h;exact r.1
 |bl n=>cases h;exact r.1
 |str n=>cases h;exact r.1
 |non=>cases h;exact r.1
 |_=>cases h
def ahj(neg:Bool)(x y:Tr)(Q:Tr->Prop):Prop:=match agi x,agi y with
 |some u,some v=>ah8 u v=true /\ Q (.bl (if neg then !decide (u=v) else decide (u=v)))
 |_,_=>False
theorem s'M:Op2 K k rEq (ahj false):=λF B H x y g ty j f Q e s b z c a d h hd p q=>by
 unfold ahj at p;split at p
 .rename_i e1 e2;obtain rfl:=f'l c e1;obtain rfl:=f'l a e2;exact⟨p.1,q _ _ F H [] p.2 (Gr.refl' s) ⟨rfl,rfl⟩ .nil λ_ m=>nomatch m⟩
 .exact p.elim
theorem s'N:Op2 K k rNe (ahj true):=λF B H x y g ty j f Q e s b z c a d h hd p q=>by
 unfold ahj at p;split at p
 .rename_i e1 e2;obtain rfl:=f'l c e1;obtain rfl:=f'l a e2;exact⟨p.1,q _ _ F H [] p.2 (Gr.refl' s) ⟨rfl,rfl⟩ .nil λ_ m=>nomatch m⟩
 .exact p.elim
def wBl(x:Tr)(Q:Bool->Prop):Prop:=match x with
 |.bl b=>Q b
 |_=>False
def pT(pe:PE'):PB':=λj Q=>pe j λx=>wBl x Q
theorem m'J(h:Sim K k te pe):adY K k (tB te) (pT pe):=λF B H j y Q e c p q=>by
 refine h F B H j y _ _ c p λt v d b f p1 a=>?_
 unfold wBl at p1;split at p1
 .obtain⟨rfl,_⟩:=a.r;exact⟨_,rfl,q _ d b p1 a.g⟩
 .exact p1.elim
theorem m'K(h:Sim K k te pe):adY K k (afp te) (pT pe):=m'J h
def aij(a b:PB'):PB':=λj Q=>a j λc=>if c=true then b j Q else Q false
def pOr(a b:PB'):PB':=λj Q=>a j λc=>if c=true then Q true else b j Q
def aik(pa:PB'):PB':=λj Q=>pa j λc=>Q (!c)
theorem s'O(f:adY K k ta pa)(l:adY K k tb pb):adY K k (aiN ta tb) (aij pa pb):=λF B H j y Q n c p q=>by
 refine f F B H j y _ _ c p λb d e p1 a=>?_
 cases b with
 |true=>rw[if_pos rfl];exact l d B e j y _ _ (c.gr a) p1 λb h m p2 g=>q b h m p2 (a.trans' g)
 |false=>exact q false d e p1 a
theorem u'K(f:adY K k ta pa)(l:adY K k tb pb):adY K k (tOr ta tb) (pOr pa pb):=λF B H j y Q n c p q=>by
 refine f F B H j y _ _ c p λb d e p1 a=>?_
 cases b with
 |false=>exact l d B e j y _ _ (c.gr a) p1 λb h m p2 g=>q b h m p2 (a.trans' g)
 |true=>exact q true d e p1 a
theorem s'P(d:adY K k ta pa):adY K k (aiO ta) (aik pa):=λF B H j y Q g c p q=>d F B H j y _ _ c p λb f a p1 e=>q (!b) f a p1 e
def agj(a b:PE'):PE':=λj Q=>a j λx=>wBl x λc=>if c=true then b j Q else Q (.bl false)
def ail(a b:PE'):PE':=λj Q=>a j λx=>wBl x λc=>if c=true then Q (.bl true) else b j Q
def agk(pa:PE'):PE':=λj Q=>pa j λx=>wBl x λc=>Q (.bl (!c))
theorem Out.bl(g:Gr F H F1 H1):Out K F B H F1 H1 (.bl b) (.bl b) []:=⟨g,⟨rfl,rfl⟩,.nil,.nil⟩
theorem Out.tr(g:Gr F H F1 H1)(o:Out K F1 B H1 F2 H2 t v cs):Out K F B H F2 H2 t v cs:=⟨g.trans' o.g,o.r,o.c,o.n.back g.h⟩
theorem p'j(f:Sim K k ta pa)(m:Sim K k tb pb):Sim K k (agS ta tb) (agj pa pb):=λF B H j y Q s c p q=>by
 refine f F B H j y _ _ c p λt v d e u p1 a=>?_
 unfold wBl at p1;split at p1
 .rename_i b;obtain⟨rfl,_⟩:=a.r;refine⟨b,rfl,?_⟩;cases b with
  |true=>exact m d B e j y _ _ (c.gr a.g) p1 λt v h o n p2 l=>q t v h o n p2 (.tr a.g l)
  |false=>exact q _ _ d e [] p1 (.bl a.g)
 .exact p1.elim
theorem s'Q(f:Sim K k ta pa)(m:Sim K k tb pb):Sim K k (aiP ta tb) (ail pa pb):=λF B H j y Q s c p q=>by
 refine f F B H j y _ _ c p λt v d e u p1 a=>?_
 unfold wBl at p1;split at p1
 .rename_i b;obtain⟨rfl,_⟩:=a.r;refine⟨b,rfl,?_⟩;cases b with
  |false=>exact m d B e j y _ _ (c.gr a.g) p1 λt v h o n p2 l=>q t v h o n p2 (.tr a.g l)
  |true=>exact q _ _ d e [] p1 (.bl a.g)
 .exact p1.elim
theorem p'k(d:Sim K k ta pa):Sim K k (agT ta) (agk pa):=λF B H j y Q f c p q=>by
 refine d F B H j y _ _ c p λt v e b h p1 a=>?_
 unfold wBl at p1;split at p1
 .obtain⟨rfl,_⟩:=a.r;exact⟨_,rfl,q _ _ e b [] p1 (.bl a.g)⟩
 .exact p1.elim
def pIf(a:PB')(b d:PE'):PE':=λj Q=>a j λc=>if c=true then b j Q else d j Q
theorem s'R(o:adY K k tc pc)(m:Sim K k ta pa)(n:Sim K k tb pb):Sim K k (tIf tc ta tb) (pIf pc pa pb):=λF B H j y Q r c p q=>by
 refine o F B H j y _ _ c p λb h l p1 a=>?_
 cases b with
 |true=>rw[if_pos rfl] at p1 ⊢;exact m h B l j y _ _ (c.gr a) p1 λt v d g f p2 e=>q t v d g f p2 (.tr a e)
 |false=>rw[if_neg (by decide)] at p1 ⊢;exact n h B l j y _ _ (c.gr a) p1 λt v d g f p2 e=>q t v d g f p2 (.tr a e)
end
end Pu
namespace Pu
open PySem L2 Vc Sf
section
mutual
theorem R.low:∀(t:Tr){v:V}{cs:Cs},nlt t=true->B false=B' false->R K F B t v cs->R K F B' t v cs
 |.int _,_,_,_,_,h=>h
 |.bl _,_,_,_,_,h=>h
 |.str _,_,_,_,_,h=>h
 |.non,_,_,_,_,h=>h
 |.hole,_,_,_,_,h=>h
 |.ty _,_,_,_,_,h=>h
 |.cl _,_,_,_,_,h=>h
 |.exc _,_,_,_,_,h=>h
 |.tup xs,_,_,n,e,y=>by obtain⟨a,vs,d,c,b⟩:=y;exact⟨a,vs,d,c,Rs.low xs n e b⟩
 |.lst .f xs,_,_,n,e,y=>by obtain⟨z,a,vs,d,c,b⟩:=y;exact⟨z,a,vs,d,c,Rs.low xs n e b⟩
 |.lst (.l true) xs,_,_,n,_,_=>by cases n
 |.lst (.l false) xs,_,_,n,e,y=>by obtain⟨z,a,vs,d,c,b⟩:=y;exact⟨z,a,vs,d,by rw[<- e];exact c,Rs.low xs n e b⟩
 |.lst .o xs,_,_,n,e,y=>by obtain⟨a,vs,m,d,c,b⟩:=y;exact⟨a,vs,m,d,c,Rs.low xs n e b⟩
 |.dic .f xs,_,_,n,e,y=>by obtain⟨z,a,vs,d,c,b,g⟩:=y;exact⟨z,a,vs,d,c,Rk.low xs n e b,g⟩
 |.dic (.l true) xs,_,_,n,_,_=>by cases n
 |.dic (.l false) xs,_,_,n,e,y=>by obtain⟨z,a,vs,d,c,b,g⟩:=y;exact⟨z,a,vs,d,by rw[<- e];exact c,Rk.low xs n e b,g⟩
 |.dic .o xs,_,_,n,e,y=>by obtain⟨a,vs,m,d,c,b,g⟩:=y;exact⟨a,vs,m,d,c,Rk.low xs n e b,g⟩
 |.ins .f _ xs,_,_,n,e,y=>by obtain⟨z,a,j,vs,d,c,b⟩:=y;exact⟨z,a,j,vs,d,c,Rf.low xs n e b⟩
 |.ins (.l true) _ xs,_,_,n,_,_=>by cases n
 |.ins (.l false) _ xs,_,_,n,e,y=>by obtain⟨z,a,j,vs,d,c,b⟩:=y;exact⟨z,a,j,vs,d,by rw[<- e];exact c,Rf.low xs n e b⟩
 |.ins .o _ xs,_,_,n,e,y=>by obtain⟨a,j,vs,m,d,c,b⟩:=y;exact⟨a,j,vs,m,d,c,Rf.low xs n e b⟩
theorem Rs.low:∀(t:List Tr){v:List V}{cs:Cs},nlts t=true->B false=B' false->Rs K F B t v cs->Rs K F B' t v cs
 |[],_,_,_,_,h=>h
 |x::xs,_,_,n,e,y=>by
  obtain⟨v,r,c,d,f,b,a,g⟩:=y;rw[nlts,and_eq_true] at n;exact⟨v,r,c,d,f,b,R.low x n.1 e a,Rs.low xs n.2 e g⟩
theorem Rk.low:∀(t:List (Key×Tr)){v:List (Key×V)}{cs:Cs},nltk t=true->B false=B' false->Rk K F B t v cs->Rk K F B' t v cs
 |[],_,_,_,_,h=>h
 |(_,x)::xs,_,_,n,e,y=>by
  obtain⟨v,r,c,d,f,b,a,g⟩:=y;rw[nltk,and_eq_true] at n;exact⟨v,r,c,d,f,b,R.low x n.1 e a,Rk.low xs n.2 e g⟩
theorem Rf.low:∀(t:List (Str×Tr)){v:List (Str×V)}{cs:Cs},nltf t=true->B false=B' false->Rf K F B t v cs->Rf K F B' t v cs
 |[],_,_,_,_,h=>h
 |(_,x)::xs,_,_,n,e,y=>by
  obtain⟨v,r,c,d,f,b,a,g⟩:=y;rw[nltf,and_eq_true] at n;exact⟨v,r,c,d,f,b,R.low x n.1 e a,Rf.low xs n.2 e g⟩
end
mutual
/-- what is lent is lent to the callee -/
theorem R.dn(b:∀k,Le (B k) G):∀(t:Tr){v:V}{cs:Cs},R K F B t v cs->R K F (λ_=>G) (dn t) v cs
 |.int _,_,_,h=>h
 |.bl _,_,_,h=>h
 |.str _,_,_,h=>h
 |.non,_,_,h=>h
 |.hole,_,_,h=>h
 |.ty _,_,_,h=>h
 |.cl _,_,_,h=>h
 |.exc _,_,_,h=>h
 |.tup xs,_,_,y=>by obtain⟨a,vs,c,e,d⟩:=y;exact⟨a,vs,c,e,Rs.dn b xs d⟩
 |.lst .f xs,_,_,y=>by obtain⟨z,a,vs,c,e,d⟩:=y;exact⟨z,a,vs,c,e,Rs.dn b xs d⟩
 |.lst (.l k) xs,_,_,y=>by obtain⟨z,a,vs,c,e,d⟩:=y;exact⟨z,a,vs,c,(b k).lst e,Rs.dn b xs d⟩
 |.lst .o xs,_,_,y=>by obtain⟨a,vs,m,c,e,d⟩:=y;exact⟨a,vs,m,c,e,Rs.dn b xs d⟩
 |.dic .f xs,_,_,y=>by obtain⟨z,a,vs,c,e,d,g⟩:=y;exact⟨z,a,vs,c,e,Rk.dn b xs d,by rw[dnk_keys];exact g⟩
 |.dic (.l k) xs,_,_,y=>by obtain⟨z,a,vs,c,e,d,g⟩:=y;exact⟨z,a,vs,c,(b k).dic e,Rk.dn b xs d,by rw[dnk_keys];exact g⟩
 |.dic .o xs,_,_,y=>by obtain⟨a,vs,m,c,e,d,g⟩:=y;exact⟨a,vs,m,c,e,Rk.dn b xs d,by rw[dnk_keys];exact g⟩
 |.ins .f _ xs,_,_,y=>by obtain⟨z,a,j,vs,c,e,d⟩:=y;exact⟨z,a,j,vs,c,e,Rf.dn b xs d⟩
 |.ins (.l k) _ xs,_,_,y=>by obtain⟨z,a,j,vs,c,e,d⟩:=y;exact⟨z,a,j,vs,c,b k _ _ (by intro _ _ z;cases z) e,Rf.dn b xs d⟩
 |.ins .o _ xs,_,_,y=>by obtain⟨a,j,vs,m,c,e,d⟩:=y;exact⟨a,j,vs,m,c,e,Rf.dn b xs d⟩
theorem Rs.dn(b:∀k,Le (B k) G):∀(t:List Tr){v:List V}{cs:Cs},Rs K F B t v cs->Rs K F (λ_=>G) (dns t) v cs
 |[],_,_,h=>h
 |x::xs,_,_,y=>by obtain⟨v,r,c,d,f,e,a,g⟩:=y;exact⟨v,r,c,d,f,e,R.dn b x a,Rs.dn b xs g⟩
theorem Rk.dn(b:∀k,Le (B k) G):∀(t:List (Key×Tr)){v:List (Key×V)}{cs:Cs},Rk K F B t v cs->Rk K F (λ_=>G) (dnk t) v cs
 |[],_,_,h=>h
 |(_,x)::xs,_,_,y=>by obtain⟨v,r,c,d,f,e,a,g⟩:=y;exact⟨v,r,c,d,f,e,R.dn b x a,Rk.dn b xs g⟩
theorem Rf.dn(b:∀k,Le (B k) G):∀(t:List (Str×Tr)){v:List (Str×V)}{cs:Cs},Rf K F B t v cs->Rf K F (λ_=>G) (dnf t) v cs
 |[],_,_,h=>h
 |(_,x)::xs,_,_,y=>by obtain⟨v,r,c,d,f,e,a,g⟩:=y;exact⟨v,r,c,d,f,e,R.dn b x a,Rf.dn b xs g⟩
theorem dnk_keys:∀(xs:List (Key×Tr)),(dnk xs).map (·.1)=xs.map (·.1)
 |[]=>rfl
 |(_,_)::xs=>by show _::_=_::_;rw[dnk_keys xs]
end
theorem b'f:∀(xs:List Tr),(dns xs).length=xs.length
 |[]=>rfl
 |_::xs=>by show (dns xs).length + 1=_;rw[b'f xs];rfl
end
structure Wld(K:W.Frag)(k:Md)(lo:Nat)(us:List V)(Fb Hb F H:Hp)(y:St)(G:List Tr)(cs:Nat->Cs):Prop where
 g:Gr Fb Hb F H
 z:k.z=true->Fz S0 F
 l:y.length=G.length
 e:∀(i:Nat)(t:Tr),G[i]?=some t->t=.hole\/∃v,y[i]?=some (some v)/\R K F (λ_=>Hb) t v (cs i)
 c:∀i,Cells F H (cs i)
 n:∀i,New Hb (cs i)
 d:∀i j,i≠j->∀p∈cs i,∀q∈cs j,p.1≠q.1
 p:∀i,i<lo->y[i]?=(us[i]?).map some
 x:∀cls y' F' H',k.q cls->Gr Fb Hb F' H'->k.E y' cls none H'
section
def Bq(Hb H:Hp):Bool->Hp:=λb=>if b then H else Hb
theorem Wld.cxt(W:Wld K k lo us Fb Hb F H j y cs):Cxt K k F (Bq Hb H) H j (y.map lend) where
 s:=W.g.s
 b:=λb=>by
  cases b with
  |true=>exact Same.refl H
  |false=>exact W.g.h
 z:=W.z
 e:=λi t h=>by
  rw[getElem?_map] at h;cases q:y[i]? with
  |none=>rw[q] at h;cases h
  |some u=>
   rw[q] at h;cases h;rcases W.e i u q with rfl |⟨v,f,d⟩
   .exact .inl rfl
   .refine .inr ⟨v,f,d.lend (λb=>?_) u λp m=>(W.c i).h p m⟩;cases b with
    |true=>exact Le.of W.g.h
    |false=>exact Le.refl _
 x:=λa l n q g=>W.x a j l n q (W.g.trans' g)
theorem Wld.gr(W:Wld K k lo us Fb Hb F H j y cs)(g:Gr F H F' H'):Wld K k lo us Fb Hb F' H' j y cs:=
 ⟨W.g.trans' g,λh=>g.fz (W.z h),W.l,λi t h=>(W.e i t h).imp id λ⟨v,h1,h2⟩=>⟨v,h1,h2.mo g.le (λ_=>Le.refl _) t⟩,λi=>(W.c i).gr g,W.n,W.d,W.p,W.x⟩
theorem Wld.set{i:Nat}{t:Tr}{v:V}{c:Cs}(W:Wld K k lo us Fb Hb F H y G cs)(B:lo<=i)(r:R K F (λ_=>Hb) t v c)(A:Cells F H c)(n:New Hb c)(d:∀j,j≠i->∀p∈cs j,∀q∈c,p.1≠q.1):
  Wld K k lo us Fb Hb F H (y.set i (some v)) (G.set i t) (λj=>if j=i then c else cs j) where
 g:=W.g
 z:=W.z
 l:=by rw[length_set,length_set];exact W.l
 e:=λj u h=>by
  by_cases e:j=i
  .subst e;have w:j<G.length:=by have:=(List.getElem?_eq_some_iff.mp h).1;rw[length_set] at this;exact this
   rw[getElem?_set_self w] at h;cases h;exact .inr ⟨v,getElem?_set_self (by rw[W.l];exact w),by rw[if_pos rfl];exact r⟩
  .rw[getElem?_set_ne (λz=>e z.symm)] at h;rw[if_neg e];exact (W.e j u h).imp id λ⟨v,h1,h2⟩=>⟨v,by rw[getElem?_set_ne (λz=>e z.symm)];exact h1,h2⟩
 c:=λj=>by
  split
  .exact A
  .exact W.c j
 n:=λj=>by
  split
  .exact n
  .exact W.n j
 d:=λa b ne p m q f=>by
  by_cases o:a=i
  .rw[if_pos o] at m;rw[if_neg (λz=>ne (o.trans z.symm))] at f;exact (d b (λz=>ne (o.trans z.symm)) q f p m).symm
  .rw[if_neg o] at m;by_cases s:b=i
   .rw[if_pos s] at f;exact d a o p m q f
   .rw[if_neg s] at f;exact W.d a b ne p m q f
 p:=λj h=>by rw[getElem?_set_ne (by omega)];exact W.p j h
 x:=W.x
theorem Wld.out{i:Nat}{t:Tr}{v:V}{c:Cs}(W:Wld K k lo us Fb Hb F H y G cs)(o:Out K F (Bq Hb H) H F' H' t v c)(a:lo<=i)(n:nlt t=true):
  Wld K k lo us Fb Hb F' H' (y.set i (some v)) (G.set i t) (λj=>if j=i then c else cs j):=
 (W.gr o.g).set a (o.r.low t n rfl) o.c (λp m=>W.g.h.free (o.n p m)) λj _ p d q b e=>by
  have:=(W.c j).h p d;rw[e,o.n q b] at this;cases this
end
structure Pd where
 nx:List Tr->Prop
 rt:Tr->List Tr->Prop
 bk:List Tr->Prop:=λ_=>False
 ct:List Tr->Prop:=λ_=>False
abbrev PS':=Pd->List Tr->Prop
structure Lk(K:W.Frag)(k:Md)(lo:Nat)(us:List V)(Fb Hb:Hp)(D:Ends)(D':Pd):Prop where
 nx:∀F H j y cs,Wld K k lo us Fb Hb F H j y cs->D'.nx y->D.nx j H
 rt:∀F H j y cs v t c,Wld K k lo us Fb Hb F H j y cs->R K F (λ_=>Hb) t v c->Cells F H c->New Hb c->(∀i,∀p∈cs i,∀q∈c,p.1≠q.1)->nol t=true->D'.rt t y->D.rt v H
 bk:∀F H j y cs,Wld K k lo us Fb Hb F H j y cs->D'.bk y->D.bk j H
 ct:∀F H j y cs,Wld K k lo us Fb Hb F H j y cs->D'.ct y->D.ct j H
def acS(K:W.Frag)(k:Md)(lo:Nat)(d:TS)(e:PS'):Prop:=∀(us:List V)(a b F H:Hp)(j:St)(y:List Tr)(f:Nat->Cs)(D:Ends)(c:Pd),Wld K k lo us a b F H j y f->e c y->Lk K k lo us a b D c->d D j H
section
def ahW(p q:PS'):PS':=λD j=>p { D with nx:=q D } j
def agl:PS':=λD j=>D.nx j
theorem j'D(h:acS K k lo t p)(h':acS K k lo u q):acS K k lo (aeN t u) (ahW p q):=λus b c F H j y a D d W p L=>
 h us b c F H j y a _ _ W p ⟨λF H j y a W q=>h' us b c F H j y a D d W q L,L.rt,L.bk,L.ct⟩
theorem p'l:acS K k lo agU agl:=λus d b F H j y a D c W p L=>L.nx F H j y a W p
def aim(i:Nat)(pe:PE'):PS':=λD j=>pe (j.map lend) λt=>nlt t=true/\D.nx (j.set i t)
theorem s'S(d:lo<=i)(h:Sim K k te pe):acS K k lo (afL te (adH i)) (aim i pe):=λus f e F H j y g D l W p L=>by
 refine h F (Bq e H) H j _ _ _ W.cxt p λt v a b c q o=>?_
 exact L.nx a b _ _ _ (W.out o d q.1) q.2
def afs(pe:PE'):PS':=λD j=>pe (j.map lend) λ_=>D.nx j
theorem p'm(h:Sim K k te pe):acS K k lo (aeH te) (afs pe):=λus e d F H j y f D l W p L=>
 h F (Bq d H) H j _ _ _ W.cxt p λt v a b c q o=>L.nx a b _ _ _ (W.gr o.g) q
def ain(pe:PE'):PS':=λD j=>pe (j.map lend) λt=>nol t=true/\D.rt t j
theorem s'T(h:Sim K k te pe):acS K k lo (ah4 te) (ain pe):=λus u f F H j y s D w W p L=>by
 refine h F (Bq f H) H j _ _ _ W.cxt p λt v a d c q o=>?_
 refine L.rt a d j y s v t c (W.gr o.g) (o.r.base t q.1) o.c (λp m=>W.g.h.free (o.n p m)) (λi p b q l e=>?_) q.1 q.2;have:=(W.c i).h p b;rw[e,o.n q l] at this;cases this
def aio(a:PB')(p q:PS'):PS':=λD j=>a (j.map lend) λb=>if b=true then p D j else q D j
theorem u'L(m:adY K k tc pc)(h:acS K k lo t p)(h':acS K k lo u q):acS K k lo (aiQ tc t u) (aio pc p q):=λus c a F H j y f D l W p L=>by
 refine m F (Bq a H) H j _ _ _ W.cxt p λb d e q g=>?_
 cases b with
 |true=>exact h us c a d e j y f D l (W.gr g) q L
 |false=>exact h' us c a d e j y f D l (W.gr g) q L
def ajb(d:PB')(e:PS'):PS':=λD j=>∃I:Nat->List Tr->Prop,(∃m,I m j)/\∀m j,I m j->d (j.map lend) λb=>if b=true then e { D with nx:=λc=>∃a,a<m/\I a c,ct:=λc=>∃a,a<m/\I a c,bk:=D.nx } j else D.nx j
theorem s'U(w:adY K k tc pc)(v:acS K k lo tb pb):acS K k lo (afM tc tb) (ajb pc pb):=λus e d F H j y a D x W p L=>by
 obtain⟨I,⟨u,s⟩,step⟩:=p;refine⟨λm j H=>∃F y a,Wld K k lo us e d F H j y a/\I m y,⟨u,F,y,a,W,s⟩,?_⟩;rintro m j H ⟨F,y,a,W,i⟩;refine w F (Bq d H) H j _ _ _ W.cxt (step m y i) λb n o q g=>?_
 cases b with
 |false=>exact L.nx n o j y a (W.gr g) q
 |true=>
  refine⟨λr f=>∃c,c<m/\∃F y a,Wld K k lo us e d F f r y a/\I c y,λr f h=>h,?_⟩;refine v us e d n o j y a _ _ (W.gr g) q ⟨?_,L.rt,?_,?_⟩
  .exact λF H j y a W ⟨c,l,i⟩=>⟨c,l,F,y,a,W,i⟩
  .exact L.nx
  .exact λF H j y a W ⟨c,l,i⟩=>⟨c,l,F,y,a,W,i⟩
end
abbrev PSp:=List Tr->(Tr->List Tr->Prop)->Prop
abbrev adM:=List Tr->(Tr->List Tr->Prop)->(Value->Prop)->Prop
def spX(K:W.Frag)(z:Bool)(lo n:Nat)(j:adM):Sp:=λvs H Q E=>vs.length=n/\∃(F b:Hp)(f:List Tr)(l:Nat->Cs)(g:Tr->List Tr->Prop)(q:Value->Prop),Wld K ⟨z,λ_=>E,q⟩ lo vs F b F H (vs.map some) f l/\j f g q/\
 ∀d e m h a v t c,Wld K ⟨z,λ_=>E,q⟩ lo vs F b d e m h a->R K d (λ_=>b) t v c->Cells d e c->New b c->(∀i,∀p∈a i,∀q∈c,p.1≠q.1)->nol t=true->g t h->Q v e
def spP(K:W.Frag)(z:Bool)(lo n:Nat)(a:PSp):Sp:=spX K z lo n λb Q _=>a b Q
theorem Wld.md(W:Wld K k lo us Fb Hb F H j y cs)(hz:k'.z=true->k.z=true)(x:∀a m f b,k'.q a->Gr Fb Hb f b->k'.E m a none b):Wld K k' lo us Fb Hb F H j y cs:=⟨W.g,λh=>W.z (hz h),W.l,W.e,W.c,W.n,W.d,W.p,x⟩
section
theorem Wld.start(N:List Str)(b:lo<=vs.length)(W:Wld K k lo us Fb Hb F H (vs.map some) j cs):Wld K k lo us Fb Hb F H (start N vs) (j++List.replicate (N.length - j.length) .hole) cs where
 g:=W.g
 z:=W.z
 l:=by
  have:=W.l;rw[length_map] at this;show (vs.map some++List.replicate (N.length - vs.length) none).length=_;rw[length_append,length_append,length_replicate,length_replicate,length_map,this]
 e:=λi t h=>by
  have a:=W.l;rcases Nat.lt_or_ge i j.length with z |z
  .rw[getElem?_append_left z] at h;exact (W.e i t h).imp id λ⟨v,h1,h2⟩=>⟨v,by show (vs.map some++List.replicate (N.length - vs.length) none)[i]?=_;rw[getElem?_append_left (by rw[a];exact z)];exact h1,h2⟩
  .rw[getElem?_append_right z] at h;have m:=mem_of_getElem? h;exact .inl (List.mem_replicate.mp m).2
 c:=W.c
 n:=W.n
 d:=W.d
 p:=λi h=>by
  have e:=W.p i h;show (vs.map some++List.replicate (N.length - vs.length) none)[i]?=_;rw[getElem?_append_left (by rw[length_map];omega)];exact e
 x:=W.x
end
theorem Rs.split:∀{f:List Tr}{vs:List V}{c:Cs},Rs K F B f vs c->Cells F H c->∃cs:Nat->Cs,(∀(i:Nat)(t:Tr),f[i]?=some t->∃v,vs[i]?=some v/\R K F B t v (cs i))/\(∀i,∀p∈cs i,p∈c)/\(∀i,Cells F H (cs i))/\∀i j,i≠j->∀p∈cs i,∀q∈cs j,p.1≠q.1
 |[],_,_,_,_=>⟨λ_=>[],λi t h=>(by cases h),λ_ _ m=>(nomatch m),λ_=>.nil,λ_ _ _ _ m=>nomatch m⟩
 |x::xs,_,_,y,hc=>by
  obtain⟨v,r,c,d,g,l,D,w⟩:=y;rw[l] at hc;obtain⟨cs,o,e,C,s⟩:=Rs.split w hc.right;have n:∀p∈c,∀q∈d,p.1≠q.1:=λp a q b=>by
   have:=hc.nd;rw[map_append,nodup_append] at this;exact this.2.2 _ (mem_map.mpr ⟨p,a,rfl⟩) _ (mem_map.mpr ⟨q,b,rfl⟩)
  refine⟨λi=>match i with |0=>c |j+1=>cs j,λi t h=>?_,λi p m=>?_,λi=>?_,λi j ne p a q b=>?_⟩
  .cases i with
   |zero=>cases h;exact⟨v,by rw[g];rfl,D⟩
   |succ j=>obtain⟨u,E,A⟩:=o j t h;exact⟨u,by rw[g];exact E,A⟩
  .rw[l];cases i with
   |zero=>exact mem_append.mpr (.inl m)
   |succ j=>exact mem_append.mpr (.inr (e j p m))
  .cases i with
   |zero=>exact hc.left
   |succ j=>exact C j
  .cases i with
   |zero=>
    cases j with
    |zero=>exact absurd rfl ne
    |succ j=>exact n p a q (e j q b)
   |succ i=>
    cases j with
    |zero=>exact (n q b p (e i p a)).symm
    |succ j=>exact s i j (λz=>ne (by rw[z])) p a q b
section
theorem s'V{psp:PSp}(F:Fun K x qual st f fd)(S:aci N ps (ach st))(J:ps.length=n)(M:lo<=n)(g:∀(cdv:Value)(A:Around)(outer:List Env)(s:Shared)(H:Hp)(E:XK),Room m (A.deeper (PyProof.Rows.envOfC qual (ach st) s.heap.objs.size f cdv))->
   ∃e B,PSs (aeO CX0 P w K mg base N qual (ach st) f cdv A outer s H E).nox (acA st) e/\acS K (Md.base z) lo e B/\∀xs b,xs.length=n->psp xs b->B { nx:=λy=>b .non y,rt:=b } (xs++List.replicate (N.length - n) .hole)):
  FnOk P w K mg base CX0 (m+1) f fd ps (spP K z lo n psp):=by
 refine F.ok S (λvs H Q E h=>h.1.trans J.symm) (λcdv A outer s H vs Q E hr h=>?_);obtain⟨hl,D,L,e,u,b,q,W,p,a⟩:=h;obtain⟨U,B,I,G,O⟩:=g cdv A outer s H E hr;have o:e.length=n:=by have:=W.l;rw[length_map] at this;omega
 refine⟨U,I,G vs D L D H _ _ u _ { nx:=λy=>b .non y,rt:=b } ((W.start N (by omega)).md id λ_ _ _ _ h=>h.elim) (by rw[o];exact O e b o p) ⟨?_,?_,λ_ _ _ _ _ _ (h:False)=>h.elim,λ_ _ _ _ _ _ (h:False)=>h.elim⟩⟩
 .exact λF H j y u C q=>a F H j y u .non .non [] (C.md id W.x) ⟨rfl,rfl⟩ .nil .nil (λ_ _ _ _ m=>nomatch m) rfl q
 .exact λF H j y u v t c C r hc n d Y q=>a F H j y u v t c (C.md id W.x) r hc n d Y q
theorem p'n{psp:adM}(F:Fun K x qual st f fd)(S:aci N ps (ach st))(J:ps.length=n)(M:lo<=n)(g:∀(cdv:Value)(A:Around)(outer:List Env)(s:Shared)(H:Hp)(E:XK)(q:Value->Prop),Room m (A.deeper (PyProof.Rows.envOfC qual (ach st) s.heap.objs.size f cdv))->
   ∃e B,PSs (aeO (CX1 P w) P w K mg base N qual (ach st) f cdv A outer s H E) (acA st) e/\acS K ⟨z,λ_=>E,q⟩ lo e B/\∀xs b,xs.length=n->psp xs b q->B { nx:=λy=>b .non y,rt:=b } (xs++List.replicate (N.length - n) .hole)):
  FnOk P w K mg base (CX1 P w) (m+1) f fd ps (spX K z lo n psp):=by
 refine F.ok1 S (λvs H Q E h=>h.1.trans J.symm) (λcdv A outer s H vs Q E hr h=>?_);obtain⟨hl,D,L,e,u,b,q,W,p,a⟩:=h;obtain⟨U,B,I,G,O⟩:=g cdv A outer s H E q hr;have o:e.length=n:=by have:=W.l;rw[length_map] at this;omega
 refine⟨U,I,G vs D L D H _ _ u _ { nx:=λy=>b .non y,rt:=b } (W.start N (by omega)) (by rw[o];exact O e b o p) ⟨?_,?_,λ_ _ _ _ _ _ (h:False)=>h.elim,λ_ _ _ _ _ _ (h:False)=>h.elim⟩⟩
 .exact λF H j y u C q=>a F H j y u .non .non [] C ⟨rfl,rfl⟩ .nil .nil (λ_ _ _ _ m=>nomatch m) rfl q
 .exact λF H j y u v t c C r hc n d Y q=>a F H j y u v t c C r hc n d Y q
end
section
theorem d'E{c:Cs}{p:Addr×HO}(m:p∈c):hdn (c.map (·.1)) H p.1=none:=u'E (mem_map.mpr ⟨p,m,rfl⟩)
theorem e'f(n:New H c)(h:H a=some o):a ∉ c.map (·.1):=λm=>by
 obtain⟨p,b,rfl⟩:=mem_map.mp m;rw[n p b] at h;cases h
theorem _root_.Vc.Gr.hdn(g:Gr F H F1 H1)(n:New H c)(g':Gr F1 (hdn (c.map (·.1)) H1) F' H'):Gr F H F' H':=
 Gr.of ⟨λa u e=>g'.h a u (c'W (e'f n e) (g.h a u e)),g.f.trans g'.f,g'.s,λa u e z=>by
  cases q:F1 a with
  |some y=>exact g.n a y q z
  |none=>
   have h:=g'.n a u e q;by_cases m:a∈c.map (·.1)
   .obtain⟨p,mp,rfl⟩:=mem_map.mp m;exact n p mp
   .unfold Vc.hdn at h;rw[if_neg m] at h;exact g.h.free h⟩ (g'.fz g.z)
def ad7(q:Value->Prop)(psp:adM)(b:PA'):PE':=λj Q=>b j λa=>psp (dns a) (λt _=>Q t) q
def agm(psp:PSp)(b:PA'):PE':=λj Q=>b j λa=>psp (dns a) λt _=>Q t
theorem g'C{n:Nat}{z:Bool}{psp:adM}{D:TA}{I:PA'}{R':St->XK}{q':Value->Prop}(hE:∀(F:Hp)(B:Bool->Hp)(H:Hp)(y:St)(G:List Tr),Cxt K k F B H y G->∀f A w,q' f->Gr F H A w->R' y f none w)(hk:z=true->k.z=true)(hn:∀xs Q q,psp xs Q q->xs.length=n)(h:adL K k D I):Sim K k (afS (spX K z 0 n psp) [] R' D) (ad7 q' psp I):=λF B H y G Q Q' c p q=>by
 refine h F B H y G _ _ c p λl vs J E C p1 d=>?_
 rw[append_nil];obtain⟨cs,M,a2,Y,a4⟩:=d.r.split d.c;have U:vs.length=n:=by rw[d.r.length,<- hn _ _ _ p1,b'f]
 have hb:∀k,Same (B k) (hdn (C.map (·.1)) E):=λk a o e=>c'W (e'f d.n (c.b k a o e)) (d.g.h _ _ (c.b k a o e))
 refine⟨U,J,hdn (C.map (·.1)) E,dns l,cs,_,q',⟨⟨h'J d.g.s,Fz.refl J⟩,λh=>d.g.fz (c.z (hk h)),by rw[length_map,b'f,d.r.length],?_,Y,λi p m=>d'E (a2 i p m),a4,λi h=>absurd h (Nat.not_lt_zero i),λf _ A w h g=>hE F B H y G c f A w h (d.g.hdn d.n g)⟩,p1,?_⟩
 .intro i t h;have hi:i<l.length:=by have:=(List.getElem?_eq_some_iff.mp h).1;rw[b'f] at this;exact this
  have e:∀(l:List Tr)(i:Nat),(dns l)[i]?=l[i]?.map dn:=by
   intro l
   induction l with
   |nil=>intro i;rfl
   |cons x xs O=>intro i;cases i with
    |zero=>rfl
    |succ j=>exact O j
  rw[e] at h;cases z:l[i]? with
  |none=>rw[z] at h;cases h
  |some u=>
   rw[z] at h;cases h;obtain⟨v,b1,N⟩:=M i u z;exact .inr ⟨v,by rw[getElem?_map,b1];rfl,N.dn (λk=>Le.of (hb k)) u⟩
 .intro A w y' G' cs' v t c' W r hc nw dj nl qt;refine q t v A w c' qt ⟨d.g.hdn d.n W.g,r.base t nl,hc,λp m=>?_⟩;have z:=nw p m;by_cases L:p.1∈C.map (·.1)
  .obtain⟨q,mq,e⟩:=mem_map.mp L;have e:q.1=p.1:=e;rw[<- e];exact d.n q mq
  .unfold hdn at z;rw[if_neg L] at z;exact d.g.h.free z
theorem p'o{psp:PSp}(b:z=true->k.z=true)(a:∀xs Q,psp xs Q->xs.length=n)(h:adL K k ta pa):Sim K k (ag1 (spP K z 0 n psp) [] E ta) (agm psp pa):=
 g'C (R':=λ_=>E) (q':=λ_=>False) (psp:=λxs Q _=>psp xs Q) (λ_ _ _ _ _ _ _ _ _ h=>h.elim) b (λxs Q _=>a xs Q) h
def OpA(K:W.Frag)(k:Md)(r:List V->Hp->VK->Prop)(h:List Tr->(Tr->Prop)->Prop):Prop:=∀(F:Hp)(B:Bool->Hp)(H:Hp)(g:List V)(e:List Tr)(d:Cs)(Q:VK)(f:Tr->Prop),Same F H->(∀k,Same (B k) H)->(k.z=true->Fz S0 F)->Rs K F B e g d->Cells F H d->h e f->
 (∀t v b a c,f t->Gr F H b a->R K b B t v c->Cells b a c->(∀p∈c,H p.1=none\/p∈d)->Q v a)->r g H Q
def pB(a:List Tr->(Tr->Prop)->Prop)(c:PA'):PE':=λj Q=>c j λb=>a b Q
theorem m'L(o:OpA K k r pr)(h:adL K k ta pa):Sim K k (tCB r ta) (pB pr pa):=λF B H j y Q e c p q=>by
 refine h F B H j y _ _ c p λd vs x A f p1 a=>?_
 refine o x B A vs d f Q e a.g.s (λk=>(c.b k).trans a.g.h) (λh=>a.g.fz (c.z h)) a.r a.c p1 λt v l E D u g w C n=>?_
 refine q t v l E D u ⟨a.g.trans' g,w,C,λp m=>?_⟩;rcases n p m with z |z
 .exact a.g.h.free z
 .exact a.n p z
theorem Rs.one(r:Rs K F B [t] xs cs):∃v,xs=[v]/\R K F B t v cs:=by
 obtain⟨v,r,c,d,e,a,b,rfl,rfl⟩:=r;rw[append_nil] at a;exact⟨v,e,by rw[a];exact b⟩
def aip(a:List Tr)(Q:Tr->Prop):Prop:=match a with
 |[.int i]=>Q (.int (if i < 0 then -i else i))
 |_=>False
theorem j'E:OpA K k (λxs H Q=>∃i,xs=[.int i]/\Q (.int (if i<0 then -i else i)) H) aip:=λF B H xs a e Q c s b z r d p q=>by
 unfold aip at p;split at p
 .obtain⟨v,rfl,rfl,_⟩:=r.one;exact⟨_,rfl,q _ _ F H [] p (Gr.refl' s) ⟨rfl,rfl⟩ .nil λ_ m=>nomatch m⟩
 .exact p.elim
end
structure QE(X:Cx)(k:Md)(e:Expr)(pe:PE'):Prop where
 h:∃te,PE X e te/\Sim X.K k te pe
structure QT(X:Cx)(k:Md)(e:Expr)(pe:PB'):Prop where
 h:∃te,PT X e te/\adY X.K k te pe
structure QW(X:Cx)(k:Md)(e:Expr)(pe:PB'):Prop where
 h:∃te,PW X e te/\adY X.K k te pe
structure QA(X:Cx)(k:Md)(es:List Expr)(pa:PA'):Prop where
 h:∃ta,PA X es ta/\adL X.K k ta pa
structure QS(X:Cx)(k:Md)(lo:Nat)(st:Stmt)(ps:PS'):Prop where
 h:∃ts,PS X st ts/\acS X.K k lo ts ps
structure QB(X:Cx)(k:Md)(lo:Nat)(sts:List Stmt)(ps:PS'):Prop where
 h:∃ts,PSs X sts ts/\acS X.K k lo ts ps
section
theorem qv(i:Nat)(b:X.N[i]?=some x:=by rfl)(c:Vis X.env.scope x:=by first |exact Or.inl rfl |exact Or.inr (Or.inl rfl) |exact Or.inr (Or.inr rfl))(hd:(x == ("__debug__":Str))=false:=by decide)(a:(x == ("__classdict__":Str))=false:=by decide):QE X k (.Name x pos) (ahS i):=⟨_,e'W b c hd a,s'z i⟩
theorem a'd{i j}:QE X k (.Constant (.int i) j pos) (pC (.int i)):=⟨_,l'N,s'A⟩
theorem a'G{i j}:QE X k (.Constant (.str i) j pos) (pC (.str i)):=⟨_,l'P,s'B⟩
theorem h'N{i j}:QE X k (.Constant (.bool i) j pos) (pC (.bl i)):=⟨_,w'h,u'F⟩
theorem e'g{j}:QE X k (.Constant .none j pos) (pC .non):=⟨_,l'O,s'C⟩
theorem f'm(v:V)(a:Gl X x)(c:X.mg x=some u)(r:RelV v u)(b:∀F B,R X.K F B t v [])(hd:(x == ("__debug__":Str))=false:=by decide):QE X k (.Name x pos) (pC t):=⟨_,r'J a c r hd,e'e b⟩
theorem e'h(l:OpR X (binaryOp op) r)(hs:Op2 X.K k r pr)(c:QE X k a pa)(g:QE X k b pb):QE X k (.BinOp a op b pos) (p2 pr pa pb):=by
 obtain⟨m,e,d⟩:=c.h;obtain⟨tb,j,f⟩:=g.h;exact⟨_,w'l l e j,f'k hs d f⟩
theorem a'H(d:QE X k a pa)(c:QE X k b pb):QE X k (.BinOp a .Add b pos) (p2 ahh pa pb):=e'h w'z s'G d c
theorem h'd(c:QE X k a pa)(d:QE X k b pb):QE X k (.BinOp a .Sub b pos) (p2 (adx (λ_ _=>True) λi j=>.int (i - j)) pa pb):=e'h u'h s'J c d
theorem a'y(d:QE X k a pa)(c:QE X k b pb):QE X k (.BinOp a .Mult b pos) (p2 ahU pa pb):=e'h w'A s'H d c
theorem b'W(d:QE X k a pa)(c:QE X k b pb):QE X k (.BinOp a .FloorDiv b pos) (p2 (adx CDivB λi j=>.int (i.fdiv j)) pa pb):=e'h o'M p'i d c
theorem b'i(c:QE X k a pa)(d:QE X k b pb):QE X k (.BinOp a .Mod b pos) (p2 (adx (λ_ j=>0<j) λi j=>.int (i % j)) pa pb):=e'h u'i s'K c d
theorem b'L(d:QE X k a pa):QE X k (.UnaryOp .USub a pos) (p1 ahV pa):=by
 obtain⟨e,c,b⟩:=d.h;exact⟨_,w'm u'j c,u'G s'L b⟩
theorem a'i(l:X.A.units+1<cLine)(c:QE X k a pa)(g:QE X k b pb)(hs:aeQ b):QE X k (.Subscript a b pos) (p2 ad0 pa pb):=by
 obtain⟨m,e,d⟩:=c.h;obtain⟨tb,j,f⟩:=g.h;exact⟨_,w'r (w'W l) e j hs,f'k s'I d f⟩
theorem c'j(m:OpR X (compareOp op) r)(hs:Op2 X.K k r pr)(c:QE X k a pa)(g:QE X k b pb)(l:behindInMarks op b=false):QE X k (.Compare a [op] [b] pos) (p2 pr pa pb):=by
 obtain⟨n,e,d⟩:=c.h;obtain⟨tb,j,f⟩:=g.h;exact⟨_,r'P m e j l,f'k hs d f⟩
theorem a'k(m:OpR X (compareOp op) r)(hs:Op2 X.K k r pr)(c:QE X k a pa)(g:QE X k b pb)(l:behindInMarks op b=false):QT X k (.Compare a [op] [b] pos) (pT (p2 pr pa pb)):=by
 obtain⟨n,e,d⟩:=c.h;obtain⟨tb,j,f⟩:=g.h;exact⟨_,j'p m e j l,m'K (f'k hs d f)⟩
theorem c'I(h:QE X k e pe)(he:∀whole,isTrue e X.env whole=(do let v <- whole;standAt e.pos;holding [v] (truthy v)):=by intro _;rfl):QT X k e (pT pe):=by
 obtain⟨c,b,a⟩:=h.h;exact⟨_,t'X b he,m'J a⟩
theorem q'w(h:QT X k e pe):QT X k (.UnaryOp .Not e pos) (aik pe):=by
 obtain⟨c,b,a⟩:=h.h;exact⟨_,u'a b,s'P a⟩
theorem QW.t(h:QW X k e pe):QT X k e pe:=by
 obtain⟨c,b,a⟩:=h.h;exact⟨_,b.pt,a⟩
theorem c'q(h:QT X k e pe):QW X k (.BoolOp .And [e] pos) pe:=by
 obtain⟨c,b,a⟩:=h.h;exact⟨_,r'L b,a⟩
theorem f'n(h:QT X k e pe):QW X k (.BoolOp .Or [e] pos) pe:=by
 obtain⟨c,b,a⟩:=h.h;exact⟨_,t'Y b,a⟩
theorem c'x(h:QT X k e pe)(h':QW X k (.BoolOp .And (f::r) pos) pf):QW X k (.BoolOp .And (e::f::r) pos) (aij pe pf):=by
 obtain⟨g,b,a⟩:=h.h;obtain⟨j,d,c⟩:=h'.h;exact⟨_,t'Z b d,s'O a c⟩
theorem h'e(h:QT X k e pe)(h':QW X k (.BoolOp .Or (f::r) pos) pf):QW X k (.BoolOp .Or (e::f::r) pos) (pOr pe pf):=by
 obtain⟨g,b,a⟩:=h.h;obtain⟨j,d,c⟩:=h'.h;exact⟨_,w'i b d,u'K a c⟩
theorem h'f{op}(h:QE X k e pe):QE X k (.BoolOp op [e] pos) pe:=by
 obtain⟨c,b,a⟩:=h.h;exact⟨_,u'b b,a⟩
theorem h'g(h:QE X k e pe)(h':QE X k (.BoolOp .And (f::r) pos) pf):QE X k (.BoolOp .And (e::f::r) pos) (agj pe pf):=by
 obtain⟨g,b,a⟩:=h.h;obtain⟨j,d,c⟩:=h'.h;exact⟨_,u'c b d,p'j a c⟩
theorem u'M(h:QE X k e pe)(h':QE X k (.BoolOp .Or (f::r) pos) pf):QE X k (.BoolOp .Or (e::f::r) pos) (ail pe pf):=by
 obtain⟨g,b,a⟩:=h.h;obtain⟨j,d,c⟩:=h'.h;exact⟨_,w'j b d,s'Q a c⟩
theorem u'N(h:QE X k e pe):QE X k (.UnaryOp .Not e pos) (agk pe):=by
 obtain⟨c,b,a⟩:=h.h;exact⟨_,u'd b,p'k a⟩
theorem h'h{pt:PB'}(j:QT X k c pt)(d:QE X k a pa)(l:QE X k b pb):QE X k (.IfExp c a b pos) (pIf pt pa pb):=by
 obtain⟨q,f,e⟩:=j.h;obtain⟨p,o,g⟩:=d.h;obtain⟨tb,m,n⟩:=l.h;exact⟨_,o'y f o m,s'R e g n⟩
theorem a'b:QA X k [] ahT:=⟨_,b'J,j'C⟩
theorem a'a(h:QE X k a pa)(h':QA X k es ps)(hs:starEach (a::es) X.env=(false,eval a X.env)::starEach es X.env:=by rfl):QA X k (a::es) (agh pa ps):=by
 obtain⟨f,c,b⟩:=h.h;obtain⟨g,e,d⟩:=h'.h;exact⟨_,b's c e hs,p'h b d⟩
theorem a'O{x1}(h:QA X k es ps):QE X k (.Tuple es x1 pos) (aih ps):=by
 obtain⟨c,b,a⟩:=h.h;exact⟨_,u'm b,s'D a⟩
theorem a'T(h:QA X k es ps):QE X k (.List es pos) (aii ps):=by
 obtain⟨c,b,a⟩:=h.h;exact⟨_,u'n b,s'E a⟩
theorem a'j{psp:PSp}(G:FnOk X.prog X.w X.K X.mg X.base CX0 m f fd pn (spP X.K z 0 n psp))(l:z=true->k.z=true)(q:∀xs Q,psp xs Q->xs.length=n)(o:Room m X.A)(g:Gl X x)(j:X.mg x=some (.ref f))(b:W.keepIn X.K (.ref f)=true)(s:Binds X.K fd pn [])(c:QA X k (e::es) ps)(a:(x == ("__debug__":Str))=false:=by decide)(he:starEach (e::es) X.env=(false,eval e X.env)::starEach es X.env:=by rfl)(hpl:(backTo pos (starEach es X.env)).any (·.1)=false:=by rfl):
  QE X k (.Call (.Name x p) (e::es) [] pos) (agm psp ps):=by
 obtain⟨u,d,r⟩:=c.h;exact⟨_,r'U (E:=E0) G o g j b s .nil f'd d a he hpl,p'o l q r⟩
theorem a'U{r:List V->Hp->VK->Prop}{d:List Tr->(Tr->Prop)->Prop}{id:String}{x:Str}{p:Pos}{e:Expr}{a:List Expr}{c:PA'}(q:CallR X (.builtin id) r)(s:OpA X.K k r d)(j:Gl X x)(l:X.mg x=none)(m:bootBuiltins x=some (.builtin id))(f:QA X k (e::a) c)(n:x≠"__name__":=by decide)(b:(x == ("__debug__":Str))=false:=by decide)(he:starEach (e::a) X.env=(false,eval e X.env)::starEach a X.env:=by rfl)(hpl:(backTo pos (starEach a X.env)).any (·.1)=false:=by rfl):
  QE X k (.Call (.Name x p) (e::a) [] pos) (pB d c):=by
 obtain⟨u,g,o⟩:=f.h;exact⟨_,o'E q j l m g n b he hpl,m'L s o⟩
theorem a'p:QB X k lo [] agl:=⟨_,r'M,p'l⟩
theorem a'c(h:QS X k lo st p)(h':QB X k lo r q):QB X k lo (st::r) (ahW p q):=by
 obtain⟨e,b,a⟩:=h.h;obtain⟨f,d,c⟩:=h'.h;exact⟨_,b'R b d,j'D a c⟩
theorem a'f(h:QS X k lo st p):QB X k lo [st] p:=by
 obtain⟨c,b,a⟩:=h.h;exact⟨_,e'b b,a⟩
def afU:PS':=λ_ _=>False
theorem a'Z:QS X k lo st afU:=⟨_,o'z,λ_ _ _ _ _ _ _ _ _ _ _ h _=>h⟩
theorem h'O(h:QE X k e pe)(hs:swapsWith e none pos.line X.env=pure false:=by rfl):QS X k lo (.Expr e pos) (afs pe):=by
 obtain⟨c,b,a⟩:=h.h;exact⟨_,c'o b hs,p'm a⟩
theorem a'm(h:QE X k e pe):QS X k lo (.Return (some e) pos) (ain pe):=by
 obtain⟨c,b,a⟩:=h.h;exact⟨_,l'Q b,s'T a⟩
theorem a'C(d:QT X k e pe)(h:QB X k lo s1 p)(h':QB X k lo s2 q):QS X k lo (.If e s1 s2 pos) (aio pe p q):=by
 obtain⟨m,b,a⟩:=d.h;obtain⟨l,j,c⟩:=h.h;obtain⟨tb,f,g⟩:=h'.h;exact⟨_,w'k b j f,u'L a c g⟩
theorem l'm(hp:PassesOwn (model X.prog X.w) X.A X.env X.xe)(b:QT X k e pe)(h:QB X k lo s1 p):QS X k lo (.While e s1 [] pos) (ajb pe p):=by
 obtain⟨j,c,a⟩:=b.h;obtain⟨g,f,d⟩:=h.h;exact⟨_,o'A hp c f,s'U a d⟩
theorem a'V(d:X.N.Nodup)(b:lo<=i)(a:X.N[i]?=some x)(c:Loc X.env.scope x)(h:QE X k e pe)(hs:swapsWith e (some (.Name x pos')) pos.line X.env=pure false:=by rfl)(j:X.fn x=true\/X.env.scope.names.lookup x=some .local:=by first |exact .inl rfl |exact .inr rfl |assumption):
  QS X k lo (.Assign [.Name x pos'] e pos) (aim i pe):=by
 obtain⟨l,g,f⟩:=h.h;exact⟨_,e'X d a c g hs j,s'S b f⟩
end
section
theorem a'q{psp:PSp}(F:Fun K x qual st f fd)(S:aci N ps (ach st))(o:ps.length=n)(d:lo<=n)(a:∀(cdv:Value)(A:Around)(outer:List Env)(s:Shared)(H:Hp)(E:XK),Room m (A.deeper (PyProof.Rows.envOfC qual (ach st) s.heap.objs.size f cdv))->
   ∃b,QB (aeO CX0 P w K mg base N qual (ach st) f cdv A outer s H E).nox (Md.base z) lo (acA st) b/\∀xs c,xs.length=n->psp xs c->b { nx:=λj=>c .non j,rt:=c } (xs++List.replicate (N.length - n) .hole)):
  FnOk P w K mg base CX0 (m+1) f fd ps (spP K z lo n psp):=s'V F S o d λcdv A outer s H E l=>by
 obtain⟨b,h,q⟩:=a cdv A outer s H E l;obtain⟨e,g,p⟩:=h.h;exact⟨e,b,g,p,q⟩
theorem c'k{psp:adM}(F:Fun K x qual st f fd)(S:aci N ps (ach st))(o:ps.length=n)(d:lo<=n)(a:∀(cdv:Value)(A:Around)(outer:List Env)(s:Shared)(H:Hp)(E:XK)(q:Value->Prop),Room m (A.deeper (PyProof.Rows.envOfC qual (ach st) s.heap.objs.size f cdv))->
   ∃b,QB (aeO (CX1 P w) P w K mg base N qual (ach st) f cdv A outer s H E) ⟨z,λ_=>E,q⟩ lo (acA st) b/\∀xs c,xs.length=n->psp xs c q->b { nx:=λj=>c .non j,rt:=c } (xs++List.replicate (N.length - n) .hole)):
  FnOk P w K mg base (CX1 P w) (m+1) f fd ps (spX K z lo n psp):=p'n F S o d λcdv A outer s H E q l=>by
 obtain⟨b,h,q⟩:=a cdv A outer s H E q l;obtain⟨e,g,p⟩:=h.h;exact⟨e,b,g,p,q⟩
end
section
theorem lay:∀(c:Cs){F:Hp},Gr Fb Hb F H->Cells F H c->New Hb c->Plain c->∃j,Gr Fb Hb j H/\(∀S,Fz S F->Fz S j)/\Same F j/\(∀p∈c,j p.1=some p.2)/\∀a,a ∉ c.map (·.1)->j a=F a
 |[],F,g,_,_,_=>⟨F,g,λ_ h=>h,Same.refl F,λ_ m=>(nomatch m),λ_ _=>rfl⟩
 |(a,o)::c,F,g,hc,n,pl=>by
  obtain⟨A,w,E,D,r,l⟩:=Vc.frz g.toGr0 g.z (n _ (.head _)) (hc.f _ (.head _)) (hc.h _ (.head _)) (pl _ (.head _));have nd:=hc.nd;rw[map_cons,nodup_cons] at nd;have q:Cells A H c:=⟨λp m=>hc.h p (.tail _ m),λp m=>by rw[l p.1 (λz=>nd.1 (mem_map.mpr ⟨p,m,z⟩))];exact hc.f p (.tail _ m),nd.2⟩;obtain⟨y,v,G,s,B,C⟩:=lay c ⟨w,E⟩ q (λp m=>n p (.tail _ m)) λp m=>pl p (.tail _ m)
  refine⟨y,v,λS h=>G S λb x u e=>?_,D.trans s,λp m=>?_,λb d=>?_⟩
  .by_cases d:b=a
   .subst d;rw[r] at e;exact absurd (Option.some.inj e) (pl _ (.head _) x u)
   .rw[l b d] at e;exact h b x u e
  .cases m with
   |head=>exact s _ _ r
   |tail _ m=>exact B p m
  .rw[map_cons,mem_cons] at d;rw[C b λz=>d (.inr z),l b λz=>d (.inl z)]
theorem Wld.lay{c:Cs}(W:Wld K k lo us Fb Hb F H y G cs)(A:Cells F H c)(n:New Hb c)(pl:Plain c)(d:∀j,∀p∈cs j,∀q∈c,p.1≠q.1):∃a,Wld K k lo us Fb Hb a H y G cs/\Same F a/\∀p∈c,a p.1=some p.2:=by
 obtain⟨u,s,w,b,r,o⟩:=Pu.lay c W.g A n pl;refine⟨u,⟨s,λh=>w _ (W.z h),W.l,λi t h=>(W.e i t h).imp id λ⟨v,h1,h2⟩=>⟨v,h1,h2.mo (Le.of b) (λ_=>Le.refl _) t⟩,λi=>⟨(W.c i).h,λp m=>?_,(W.c i).nd⟩,W.n,W.d,W.p,W.x⟩,b,r⟩;rw[o p.1 λz=>?_]
 .exact (W.c i).f p m
 .obtain⟨q,mq,e⟩:=mem_map.mp z;exact d i p m q mq e.symm
theorem Wld.fresh{t:Tr}{v:V}{c:Cs}{B:Bool->Hp}(W:Wld K k lo us Fb Hb F H y G cs)(o:Out K F B H F' H' t v c):New Hb c/\∀j,∀p∈cs j,∀q∈c,p.1≠q.1:=
 ⟨λp m=>W.g.h.free (o.n p m),λj p b q a e=>by
  have:=(W.c j).h p b;rw[e,o.n q a] at this;cases this⟩
theorem Wld.outF{i:Nat}{t:Tr}{v:V}{c:Cs}(W:Wld K k lo us Fb Hb F H j y cs)(o:Out K F (Bq Hb H) H F' H' t v c)(f:lo<=i)(n:nlt t=true):
  ∃a b,Wld K k lo us Fb Hb a H' (j.set i (some v)) (y.set i (frz t)) b:=by
 obtain⟨e,q⟩:=W.fresh o;obtain⟨l,h,p,d⟩:=(W.gr o.g).lay o.c e (o.r.plain t) q;exact⟨l,_,h.set f ((R.low (B':=λ_=>Hb) t n rfl o.r).frz (Le.of p) t d) .nil .nil λ_ _ _ _ _ m=>nomatch m⟩
theorem Wld.held{t:Tr}{v:V}{c:Cs}(W:Wld K k lo us Fb Hb F H j y cs)(o:Out K F (Bq Hb H) H F' H' t v c)(n:nlt t=true):
  ∃a,Wld K k lo us Fb Hb a H' j y cs/\R K a (λ_=>Hb) (frz t) v []:=by
 obtain⟨d,l⟩:=W.fresh o;obtain⟨f,e,h,b⟩:=(W.gr o.g).lay o.c d (o.r.plain t) l;exact⟨f,e,(R.low (B':=λ_=>Hb) t n rfl o.r).frz (Le.of h) t b⟩
def aft(i:Nat)(pe:PE'):PS':=λD j=>pe (j.map lend) λt=>nlt t=true/\D.nx (j.set i (frz t))
theorem h'P(f:lo<=i)(h:Sim K k te pe):acS K k lo (afL te (adH i)) (aft i pe):=λus l g F H j y n D r W p L=>by
 refine h F (Bq g H) H j _ _ _ W.cxt p λt v m e c q o=>?_
 obtain⟨b,d,a⟩:=W.outF o f q.1;exact L.nx b e _ _ _ a q.2
abbrev PG':=Tr->List Tr->(List Tr->Prop)->Prop
def agN(K:W.Frag)(k:Md)(lo:Nat)(g:TG)(pg:PG'):Prop:=∀(us:List V)(e b F H:Hp)(j:St)(y:List Tr)(h:Nat->Cs)(x:V)(t:Tr)(Q:St->Hp->Prop)(c:List Tr->Prop),Wld K k lo us e b F H j y h->R K F (λ_=>b) t x []->pg t y c->(∀f d a,Wld K k lo us e b F H f d a->c d->Q f H)->g x j H Q
def pgN(i:Nat):PG':=λt j Q=>Q (j.set i t)
theorem u'O(a:lo<=i):agN K k lo (adH i) (pgN i):=λus c d F H j y e x t Q b W r p q=>q _ _ _ (W.set a r .nil .nil λ_ _ _ _ _ m=>nomatch m) p
def aeX(K:W.Frag)(k:Md)(lo:Nat)(l:TGs)(pg:List Tr->List Tr->(List Tr->Prop)->Prop):Prop:=∀(us:List V)(f b F H:Hp)(j:St)(y:List Tr)(m:Nat->Cs)(g:List V)(c:List Tr)(Q:St->Hp->Prop)(d:List Tr->Prop),Wld K k lo us f b F H j y m->Rs K F (λ_=>b) c g []->pg c y d->(∀h e a,Wld K k lo us f b F H h e a->d e->Q h H)->l g j H Q
def adk:List Tr->List Tr->(List Tr->Prop)->Prop:=λa j Q=>match a with |[]=>Q j |_=>False
def acH(pg:PG')(a:List Tr->List Tr->(List Tr->Prop)->Prop):List Tr->List Tr->(List Tr->Prop)->Prop:=λb j Q=>match b with |t::r=>pg t j λc=>a r c Q |[]=>False
theorem m'M:aeX K k lo ah5 adk:=λus d f F H j y a e b Q c W r p q=>by
 unfold adk at p;split at p
 .exact⟨r.1,q j y a W p⟩
 .exact p.elim
theorem l'n(h:agN K k lo tg pg)(h':aeX K k lo tr pr):aeX K k lo (aga tg tr) (acH pg pr):=λus b f F H j y o x u Q l W r p q=>by
 unfold acH at p;split at p
 .obtain⟨v,w,c,d,h1,h2,h3,h4⟩:=r;have e:=append_eq_nil_iff.mp h2.symm;rw[e.1] at h3;rw[e.2] at h4;exact⟨v,w,h1,h us b f F H j y o v _ _ _ W h3 p λs m a n g=>h' us b f F H s m a w _ Q l n h4 g q⟩
 .exact p.elim
def pgT(n:Nat)(b:List Tr->List Tr->(List Tr->Prop)->Prop):PG':=λt j Q=>match t with |.tup a=>a.length=n/\b a j Q |_=>False
theorem u'P(h:aeX K k lo tr pr):agN K k lo (ah6 K n tr) (pgT n pr):=λus c d F H j y e x t Q b W r p q=>by
 unfold pgT at p;split at p
 .obtain⟨a,vs,rfl,h1,h2⟩:=r.tupH W.g.s;exact⟨a,vs,rfl,h1,h2.length.trans p.1,h us c d F H j y e vs _ Q b W h2 p.2 q⟩
 .exact p.elim
end
def ajo(J:It)(n:Nat)(f:Hp->Prop)(Y:Nat->Hp->V->Hp->Prop):Prop:=∀(g:TG)(tb:TS)(D:Ends)(j:St)(H:Hp)(Pv:Nat->St->Hp->Prop),Pv 0 j H->(∀i j H,i<=n->Pv i j H->f H)->
 (∀i x j H a,i<n->Pv i j H->Y i H x a->g x j a λb c=>tb { D with nx:=Pv (i+1),ct:=Pv (i+1),bk:=D.nx } b c)->(∀j H,Pv n j H->D.nx j H)->
 ∃W:Nat->Nat->St->Hp->Prop,(∃m,W 0 m j H)/\∀i m j H,W i m j H->
  (J.stop i H/\D.nx j H)\/(J.go i H/\∃N:St->Hp->Prop,(∀e a,N e a->∃d,d<m/\W (i+1) d e a)/\∀x a,J.yld i H x a->g x j a λb c=>tb { D with nx:=N,ct:=N,bk:=D.nx } b c)
theorem l'o{j:Type}{xs:List j}{i:Nat}{x:j}(h:xs[i]?=some x):i<xs.length:=(List.getElem?_eq_some_iff.mp h).1
structure ItOk(J:It)(n:Nat)(Kp:Hp->Prop)(Y:Nat->Hp->V->Hp->Prop):Prop where
 go:∀i H,i<n->Kp H->J.go i H
 st:∀H,Kp H->J.stop n H
 yl:∀i H x H',i<n->Kp H->J.yld i H x H'->Y i H x H'
theorem ItOk.runs(o:ItOk J n Kp Y):ajo J n Kp Y:=λg tb D j H Pv l c h hd=>by
 refine⟨λi m j H=>m=n - i/\i<=n/\Pv i j H,⟨n,by simp,zero_le _,l⟩,?_⟩;rintro i m j H ⟨rfl,d,p⟩;by_cases a:i<n
 .exact .inr ⟨o.go i H a (c i j H d p),Pv (i+1),λq b f=>⟨n - (i+1),by omega,rfl,a,f⟩,λx b y=>h i x j H b a p (o.yl i H x b a (c i j H d p) y)⟩
 .have e:i=n:=by omega
  subst e;exact .inl ⟨o.st H (c i j H d p),hd j H p⟩
theorem e'i{j:Type}{xs:List j}{i:Nat}(h:i<xs.length):∃x,xs[i]?=some x:=⟨_,getElem?_eq_getElem h⟩
theorem s'W{K:W.Frag}{a:Addr}{xs:List V}:ItOk (Itl K a) xs.length (λH=>SqL K H a xs) (λi H x b=>xs[i]?=some x/\b=H):=
 ⟨λi H h q=>by obtain⟨x,e⟩:=e'i h;exact⟨xs,x,q,e⟩,λH q=>⟨xs,q,le_refl _⟩,λi H x b h q y=>⟨y.2 xs q,y.1⟩⟩
theorem p'p:ItOk (Itr l n) n (λ_=>True) (λi H x a=>x=.int (l+i)/\a=H):=⟨λi H h _=>h,λH _=>le_refl _,λi H x a h _ y=>⟨y.2,y.1⟩⟩
theorem m'N:ItOk (Its l c n) n (λ_=>True) (λi H x a=>x=.int (l+i*c)/\a=H):=⟨λi H h _=>h,λH _=>le_refl _,λi H x a h _ y=>⟨y.2,y.1⟩⟩
theorem s'X{K:W.Frag}{a:Addr}{xs:List V}:ItOk (Ite K a) xs.length (λH=>SqL K H a xs) (λi H y b=>∃x p,xs[i]?=some x/\y=.ref p/\H p=none/\b=upd H p (.tup [.int i,x])):=
 ⟨λi H h q=>by obtain⟨x,e⟩:=e'i h;exact⟨xs,x,q,e⟩,λH q=>⟨xs,q,le_refl _⟩,λi H y b h q z=>by obtain⟨p,x,d,c,f,g⟩:=z;exact⟨x,p,f xs q,d,c,g⟩⟩
theorem u'Q{K:W.Frag}{a b:Addr}{xs ys:List V}:ItOk (Itz K a b) (min xs.length ys.length) (λH=>SqL K H a xs/\SqL K H b ys) (λi H z c=>∃x y p,xs[i]?=some x/\ys[i]?=some y/\z=.ref p/\H p=none/\c=upd H p (.tup [x,y])):=
 ⟨λi H h q=>by obtain⟨x,e⟩:=e'i (xs:=xs) (i:=i) (by omega);obtain⟨y,g⟩:=e'i (xs:=ys) (i:=i) (by omega);exact⟨xs,ys,x,y,q.1,q.2,e,g⟩,λH q=>⟨xs,ys,q.1,q.2,by omega⟩,λi H z c h q y=>by obtain⟨p,x,y,f,j,l,m,d⟩:=y;exact⟨x,y,p,l xs q.1,m ys q.2,f,j,d⟩⟩
def Src(K:W.Frag)(B:Bool->Hp)(F:Hp)(J:It)(e:List Tr):Prop:=∃(f:Hp->Prop)(Y:Nat->Hp->V->Hp->Prop),ItOk J e.length f Y/\(∀b a,Le F b->Same b a->(∀k,Same (B k) a)->f a)/\
 ∀i t b a x d,e[i]?=some t->Le F b->Same b a->(∀k,Same (B k) a)->Y i a x d->∃c,Gr b a c d/\R K c B t x []
section
abbrev PI':=List Tr->(List Tr->Bool->Prop)->Prop
def afm(K:W.Frag)(k:Md)(h:TI)(l:PI'):Prop:=∀(F:Hp)(B:Bool->Hp)(H:Hp)(j:St)(y:List Tr)(e:It->Hp->Prop)(d:List Tr->Bool->Prop),Cxt K k F B H j y->l y d->
 (∀a f J b g,d a f->Gr F H b g->Src K B b J a->(f=true->∀c:Bool->Hp,c false=B false->Src K c b J a)->e J g)->h j H e
theorem _root_.Vc.Gr.base(g:Gr Fb Hb F1 H1)(g':Gr F1 Hb F H):Gr Fb Hb F H:=
 Gr.of ⟨g'.h,g.f.trans g'.f,g'.s,λa u e z=>by
  cases q:F1 a with
  |some w=>exact g.n a w q z
  |none=>exact g'.n a u e q⟩ (g'.fz g.z)
theorem Wld.base(a:Wld K k lo us Fb Hb F1 H1 j0 y0 cs0)(W:Wld K k lo us F1 Hb F H j y cs):Wld K k lo us Fb Hb F H j y cs:=⟨a.g.base W.g,W.z,W.l,W.e,W.c,W.n,W.d,W.p,a.x⟩
theorem Wld.rebase(W:Wld K k lo us Fb Hb F H j y cs):Wld K k lo us F Hb F H j y cs:=⟨⟨⟨W.g.h,Same.refl F,W.g.s,λa u e z=>by rw[e] at z;cases z⟩,Fz.refl F⟩,W.z,W.l,W.e,W.c,W.n,W.d,W.p,λb o f m q g=>W.x b o f m q (W.g.base g)⟩
theorem Lk.rebase(b:Wld K k lo us Fb Hb F1 H1 j0 y0 cs0)(L:Lk K k lo us Fb Hb D D'):Lk K k lo us F1 Hb D D':=
 ⟨λF H j y a W=>L.nx F H j y a (b.base W),λF H j y a v t c W=>L.rt F H j y a v t c (b.base W),λF H j y a W=>L.bk F H j y a (b.base W),λF H j y a W=>L.ct F H j y a (b.base W)⟩
def aiq(d:PI')(pg:PG')(b:PS'):PS':=λD j=>d (j.map lend) λa c=>c=true/\∃I:Nat->List Tr->Prop,I 0 j/\(∀i t j,a[i]?=some t->I i j->pg t j λe=>b { D with nx:=I (i+1),ct:=I (i+1),bk:=D.nx } e)/\∀j,I a.length j->D.nx j
theorem s'Y(c:afm K k wi pi)(O:agN K k lo tg pg)(U:acS K k lo tb pb):acS K k lo (ah7 wi tg tb) (aiq pi pg pb):=λus Fb b F H j v a D D' W p L=>by
 refine c F (Bq b H) H j _ _ _ W.cxt p λu nl J d G q C _ o=>?_
 have z:=W.gr C;obtain⟨l,I,Q,step,r⟩:=q;obtain⟨Kp,Y,m,kp,yl⟩:=o l (λ_=>b) rfl;have run:=m.runs;have n:=L.rebase z;refine run tg tb D j G (λi j H=>∃F v a,Wld K k lo us d b F H j v a/\I i v) ⟨d,v,a,z.rebase,Q⟩ ?_ ?_ ?_
 .rintro i j H c ⟨F,v,a,W,_⟩;exact kp F H (Le.of W.g.f) W.g.s λ_=>W.g.h
 .rintro i x j H H' c ⟨F,v,a,W,ii⟩ y;have w:u[i]?=some (u[i]'c):=getElem?_eq_getElem c;obtain⟨A,B,r2⟩:=yl i _ F H x H' w (Le.of W.g.f) W.g.s (λ_=>W.g.h) y;refine O us d b A H' j v a x _ _ _ (W.gr B) r2 (step i _ v w ii) λj' E e N M=>?_
  exact U us d b A H' j' E e _ _ N M ⟨λF H j v a W q=>⟨F,v,a,W,q⟩,n.rt,n.nx,λF H j v a W q=>⟨F,v,a,W,q⟩⟩
 .rintro j H ⟨F,v,a,W,q⟩;exact n.nx F H j v a W (r v q)
theorem u'R(l:Le F F')(s:Same F' H')(h:SqL K F a vs):SqL K H' a vs:=s.seq (l.lst h)
theorem b'X(r:R K F B (.lst f xs) v []):∃a vs,v=.ref a/\Rs K F B xs vs []/\∀h d,Le F h->Same h d->(∀k,Same (B k) d)->SqL K d a vs:=by
 cases f with
 |f=>obtain⟨_,a,vs,g,c,e⟩:=r;exact⟨a,vs,g,e,λh d l s b=>u'R l s c⟩
 |l q=>obtain⟨_,a,vs,g,c,e⟩:=r;exact⟨a,vs,g,e,λh d l s b=>(b q).seq c⟩
 |o=>obtain⟨a,vs,j,g,c,e⟩:=r;cases c
theorem Rs.nil_at{xs:List Tr}{vs:List V}{i:Nat}{t:Tr}(r:Rs K F B xs vs [])(h:xs[i]?=some t):∃u,vs[i]?=some u/\R K F B t u []:=by
 obtain⟨u,c,d,a,b⟩:=r.at h;have e:c=[]:=List.eq_nil_iff_forall_not_mem.mpr λp m=>nomatch b p m
 rw[e] at a;exact⟨u,d,a⟩
theorem h'Q{a:Addr}{f:Fl}{xs:List Tr}(r:R K F B (.lst f xs) (.ref a) []):Src K B F (Itl K a) xs:=by
 obtain⟨q,vs,g,d,n⟩:=b'X r;cases g;refine⟨_,_,d.length ▸ s'W (K:=K) (a:=a) (xs:=vs),n,λi t h p x o j l s b y=>?_⟩;obtain⟨c,rfl⟩:=y;obtain⟨u,e,m⟩:=d.nil_at j;rw[e] at c;cases c;exact⟨h,Gr.refl' s,m.mo l (λ_=>Le.refl _) t⟩
theorem h'R{a:Addr}{f:Fl}{xs:List Tr}(r:R K F B (.lst f xs) (.ref a) []):Src K B F (Ite K a) (xs.mapIdx λi x=>.tup [.int i,x]):=by
 obtain⟨E,vs,m,e,v⟩:=b'X r;cases m;refine⟨_,_,(by rw[List.length_mapIdx,<- e.length];exact s'X (K:=K) (a:=a) (xs:=vs)),v,λi t D C x w c l s b y=>?_⟩;obtain⟨z,p,d,rfl,j,rfl⟩:=y;rw[List.getElem?_mapIdx] at c;cases q:xs[i]? with
 |none=>rw[q] at c;cases c
 |some u=>
  rw[q] at c;cases c;obtain⟨A,h,o⟩:=e.nil_at q;rw[h] at d;cases d;obtain⟨n,g,r2,_⟩:=c'X (xs:=[.int i,u]) (cs:=[]) s ⟨.int i,[z],[],[],rfl,rfl,⟨rfl,rfl⟩,z,[],[],[],rfl,rfl,o.mo l (λ_=>Le.refl _) u,rfl,rfl⟩ .nil j;exact⟨n,g,r2⟩
theorem j'F{a d:Addr}{f C:Fl}{xs ys:List Tr}(r:R K F B (.lst f xs) (.ref a) [])(G:R K F B (.lst C ys) (.ref d) []):Src K B F (Itz K a d) (xs.zipWith (λx y=>.tup [x,y]) ys):=by
 obtain⟨_,vs,A,w,Q⟩:=b'X r;obtain⟨_,us,D,j,O⟩:=b'X G;cases A;cases D;refine⟨(λH=>SqL K H a vs/\SqL K H d us),_,(by rw[List.length_zipWith,<- w.length,<- j.length];exact u'Q (K:=K) (a:=a) (b:=d) (xs:=vs) (ys:=us)),λh e l s b=>⟨Q h e l s b,O h e l s b⟩,λi t h e x U c l s b y=>?_⟩;obtain⟨z,m,p,v,n,rfl,L,rfl⟩:=y;rw[List.getElem?_zipWith] at c;cases q:xs[i]? with
 |none=>rw[q] at c;cases c
 |some u=>
  cases q':ys[i]? with
  |none=>rw[q,q'] at c;cases c
  |some o=>
   rw[q,q'] at c;cases c;obtain⟨u',J,I⟩:=w.nil_at q;obtain⟨E,N,Y⟩:=j.nil_at q';rw[J] at v;rw[N] at n;cases v;cases n;obtain⟨M,g,r2,_⟩:=c'X (xs:=[u,o]) (cs:=[]) s ⟨z,[m],[],[],rfl,rfl,I.mo l (λ_=>Le.refl _) u,m,[],[],[],rfl,rfl,Y.mo l (λ_=>Le.refl _) o,rfl,rfl⟩ .nil L;exact⟨M,g,r2⟩
theorem f'o{l c:Int}{n:Nat}:Src K B F (Its l c n) ((List.range n).map λ(i:Nat)=>.int (l+i*c)):=by
 refine⟨_,_,(by rw[length_map,length_range];exact m'N (l:=l) (c:=c) (n:=n)),λ_ _ _ _ _=>True.intro,λi t f g x e a h s b y=>?_⟩;obtain⟨rfl,rfl⟩:=y;rw[getElem?_map] at a;cases q:(List.range n)[i]? with
 |none=>rw[q] at a;cases a
 |some u=>
  rw[q] at a;cases a;have d:=l'o q;rw[length_range] at d;rw[List.getElem?_range d] at q;cases q;exact⟨f,Gr.refl' s,rfl,rfl⟩
theorem d'F{l:Int}{n:Nat}:Src K B F (Itr l n) ((List.range n).map λ(i:Nat)=>.int (l+i)):=by
 refine⟨_,_,(by rw[length_map,length_range];exact p'p (l:=l) (n:=n)),λ_ _ _ _ _=>True.intro,λi t e f x d a g s b y=>?_⟩;obtain⟨rfl,rfl⟩:=y;rw[getElem?_map] at a;cases q:(List.range n)[i]? with
 |none=>rw[q] at a;cases a
 |some u=>
  rw[q] at a;cases a;have c:=l'o q;rw[length_range] at c;rw[List.getElem?_range c] at q;cases q;exact⟨e,Gr.refl' s,rfl,rfl⟩
theorem Out.held{t:Tr}{v:V}{c:Cs}(o:Out K F B H F' H' t v c):∃a,Gr F H a H'/\R K a B (frz t) v []:=by
 obtain⟨e,d,_,f,b,_⟩:=Pu.lay c o.g o.c o.n (o.r.plain t);exact⟨e,d,o.r.frz (Le.of f) t b⟩
theorem OutA.held{t:List Tr}{v:List V}{c:Cs}(o:OutA K F B H F' H' t v c):∃a,Gr F H a H'/\Rs K a B (frzs t) v []:=by
 obtain⟨e,d,_,f,b,_⟩:=Pu.lay c o.g o.c o.n (o.r.plain t);exact⟨e,d,o.r.frz (Le.of f) t b⟩
def aeh(t:Tr)(Q:List Tr->Prop):Prop:=match t with |.lst _ a=>Q a |_=>False
theorem c'Z{Q:List Tr->Prop}(h:aeh t Q):∃f xs,t=.lst f xs/\Q xs:=by
 unfold aeh at h;split at h
 .exact⟨_,_,rfl,h⟩
 .exact h.elim
def piL(pe:PE'):PI':=λj Q=>pe j λt=>aeh (frz t) λa=>Q a (nlt (frz t))
theorem m'O(h:Sim K k te pe):afm K k (agW K te) (piL pe):=λF B H j y u w c p q=>by
 refine h F B H j y _ _ c p λt v A l x p1 o=>?_
 obtain⟨g,d,r2⟩:=o.held;obtain⟨f,z,e,p1⟩:=c'Z p1;rw[e] at r2 p1;obtain⟨a,vs,rfl,_,r⟩:=b'X r2;exact⟨a,rfl,⟨vs,r g l (Le.refl _) d.s λk=>(c.b k).trans d.h⟩,q _ _ _ g l p1 d (h'Q r2) λn C m=>h'Q (R.low _ n m.symm r2)⟩
def agn(a:List Tr)(Q:Tr->Prop):Prop:=match a with |[t]=>Q t |_=>False
theorem j'G{Q:Tr->Prop}(h:agn ts Q):∃t,ts=[t]/\Q t:=by
 unfold agn at h;split at h
 .exact⟨_,rfl,h⟩
 .exact h.elim
def piE(c:PA'):PI':=λj Q=>c j λa=>agn a λt=>aeh (frz t) λb=>Q (b.mapIdx λi x=>.tup [.int i,x]) (nlt (frz t))
theorem m'P(h:adL K k ta pa):afm K k (aha K ta) (piE pa):=λF B H j y C D c p q=>by
 refine h F B H j y _ _ c p λA vs I m E p1 o=>?_
 obtain⟨t,rfl,p1⟩:=j'G p1;obtain⟨v,rfl,u⟩:=o.r.one;obtain⟨l,d,r2⟩:=Out.held ⟨o.g,u,o.c,o.n⟩;obtain⟨f,G,e,p1⟩:=c'Z p1;rw[e] at r2 p1;obtain⟨a,vs,rfl,_,z⟩:=b'X r2;exact⟨a,rfl,⟨vs,z l m (Le.refl _) d.s λk=>(c.b k).trans d.h⟩,q _ _ _ l m p1 d (h'R r2) λx J w=>h'R (R.low _ x w.symm r2)⟩
def afV(a:List Tr)(Q:Tr->Tr->Prop):Prop:=match a with |[t,u]=>Q t u |_=>False
theorem s'Z{Q:Tr->Tr->Prop}(h:afV ts Q):∃t u,ts=[t,u]/\Q t u:=by
 unfold afV at h;split at h
 .exact⟨_,_,rfl,h⟩
 .exact h.elim
theorem Rs.two(r:Rs K F B [t,u] xs cs):∃v w c d,xs=[v,w]/\R K F B t v c/\R K F B u w d/\cs=c++d:=by
 obtain⟨v,r,c,d,b,j,h,g,m,l,n,e,a,f,rfl,rfl⟩:=r;rw[append_nil] at a;exact⟨v,g,c,l,by rw[b,e],h,f,by rw[j,a]⟩
def piZ(b:PA'):PI':=λj Q=>b j λa=>afV a λt u=>aeh (frz t) λc=>aeh (frz u) λd=>Q (c.zipWith (λx y=>.tup [x,y]) d) (nlt (frz t)&&nlt (frz u))
theorem p'q(h:adL K k ta pa):afm K k (ai5 K ta) (piZ pa):=λF B H j y M N c p q=>by
 refine h F B H j y _ _ c p λG vs U g O p1 o=>?_
 obtain⟨t,u,rfl,p1⟩:=s'Z p1;obtain⟨m,d,r2⟩:=o.held;obtain⟨v,w,L,d2,rfl,r3,r4,e⟩:=Rs.two r2;have z:=append_eq_nil_iff.mp e.symm;rw[z.1] at r3;rw[z.2] at r4;obtain⟨f,J,C,p1⟩:=c'Z p1;obtain⟨I,Q,x,p1⟩:=c'Z p1;rw[C] at r3 p1;rw[x] at r4 p1;obtain⟨a,vs,rfl,_,E⟩:=b'X r3;obtain⟨A,us,rfl,_,D⟩:=b'X r4;have r:∀k,Same (B k) g:=λk=>(c.b k).trans d.h
 refine⟨a,A,rfl,⟨vs,E m g (Le.refl _) d.s r⟩,⟨us,D m g (Le.refl _) d.s r⟩,q _ _ _ m g p1 d (j'F r3 r4) λl Y n=>?_⟩;rw[and_eq_true] at l;exact j'F (R.low _ l.1 n.symm r3) (R.low _ l.2 n.symm r4)
def afu(a:List Tr)(Q:Int->Prop):Prop:=match a with |[.int i]=>Q i |_=>False
def air(b:PA'):PI':=λy Q=>b y λa=>afu a λj=>-1000000<=j/\j<=1000000/\Q ((List.range j.toNat).map λ(i:Nat)=>.int i) true
theorem t'a(h:adL K k ta pa):afm K k (agX ta) (air pa):=λF B H y G m s c p q=>by
 refine h F B H y G _ _ c p λf vs a d u p1 o=>?_
 unfold afu at p1;split at p1
 .rename_i j;obtain⟨v,rfl,rfl,_⟩:=o.r.one;have b:∀B,Src K B a (Itr 0 j.toNat) ((List.range j.toNat).map λ(i:Nat)=>.int i):=λB=>by
   have:=d'F (K:=K) (B:=B) (F:=a) (l:=0) (n:=Int.toNat j);simp only[Int.zero_add] at this;exact this
  exact⟨_,rfl,by omega,by omega,q _ _ _ a d p1.2.2 o.g (b B) λ_ e _=>b e⟩
 .exact p1.elim
def aew(a:List Tr)(Q:Int->Int->Prop):Prop:=match a with |[.int i,.int j]=>Q i j |_=>False
def ais(b:PA'):PI':=λy Q=>b y λa=>aew a λi j=>(-1000000<=i/\i<=1000000/\-1000000<=j/\j<=1000000)/\Q ((List.range (j - i).toNat).map λ(n:Nat)=>.int (i+n)) true
theorem t'b(h:adL K k ta pa):afm K k (agY ta) (ais pa):=λF B H j y e f c p q=>by
 refine h F B H j y _ _ c p λd vs a b l p1 o=>?_
 unfold aew at p1;split at p1
 .obtain⟨v,w,d1,d2,rfl,⟨rfl,_⟩,⟨rfl,_⟩,_⟩:=o.r.two;exact⟨_,_,rfl,⟨by omega,by omega,by omega,by omega⟩,q _ _ _ a b p1.2 o.g d'F λ_ m _=>d'F⟩
 .exact p1.elim
end
section
theorem Wld.mut{i:Nat}(W:Wld K k lo us Fb Hb F H G J cs)(M:G[i]?=some (some v))(e:(a,o)∈cs i)(hd:Cells F H ds')(Q:New Hb ds')(E:∀p∈ds',p.1≠a)(C:∀j,j≠i->∀p∈ds',∀q∈cs j,p.1≠q.1)(B:c'.Perm ((a,o')::ds'))(N:R K F (λ_=>Hb) t' v c'):
  Wld K k lo us Fb Hb F (upd H a o') G (J.set i t') (λj=>if j=i then c' else cs j):=by
 have I:=W.n i _ e;have D:=(W.c i).f _ e;have b:∀j,j≠i->∀p∈cs j,p.1≠a:=λj C p m z=>W.d j i C p m _ e z
 refine⟨⟨⟨W.g.h.updN I,W.g.f,W.g.s.updN D,W.g.n⟩,W.g.z⟩,W.z,by rw[length_set];exact W.l,λj u h=>?_,λj=>?_,λj=>?_,λx y ne p w q r=>?_,W.p,W.x⟩
 .by_cases ej:j=i
  .subst ej;have O:j<J.length:=by have:=(List.getElem?_eq_some_iff.mp h).1;rw[length_set] at this;exact this
   rw[getElem?_set_self O] at h;cases h;exact .inr ⟨v,M,by rw[if_pos rfl];exact N⟩
  .rw[getElem?_set_ne (λz=>ej z.symm)] at h;rw[if_neg ej];exact W.e j u h
 .split
  .refine⟨λp m=>?_,λp m=>?_,?_⟩
   .rcases mem_cons.mp (B.mem_iff.mp m) with rfl |m
    .exact a'g
    .rw[a'e (E p m)];exact hd.h p m
   .rcases mem_cons.mp (B.mem_iff.mp m) with rfl |m
    .exact D
    .exact hd.f p m
   .refine ((B.map (·.1)).nodup_iff).mpr ?_;rw[map_cons,nodup_cons];refine⟨λm=>?_,hd.nd⟩;obtain⟨p,w,e⟩:=mem_map.mp m;exact E p w e
  .rename_i ej;exact⟨λp m=>by rw[a'e (b j ej p m)];exact (W.c j).h p m,(W.c j).f,(W.c j).nd⟩
 .split
  .intro p m;rcases mem_cons.mp (B.mem_iff.mp m) with rfl |m
   .exact I
   .exact Q p m
  .exact W.n j
 .have key:∀p,p∈c'->∀y,y≠i->∀q∈cs y,p.1≠q.1:=λp m y L q r=>by
   rcases mem_cons.mp (B.mem_iff.mp m) with rfl |m
   .exact (b y L q r).symm
   .exact C y L p m q r
  by_cases ex:x=i
  .have A:y≠i:=λz=>ne (ex.trans z.symm)
   rw[if_pos ex] at w;rw[if_neg A] at r;exact key p w y A q r
  .rw[if_neg ex] at w;by_cases A:y=i
   .rw[if_pos A] at r;exact (key q r x ex p w).symm
   .rw[if_neg A] at r;exact W.d x y ne p w q r
def adO(f:Str)(u:Tr):List (Str×Tr)->List (Str×Tr)
 |[]=>[]
 |(g,x)::r=>if g=f then (g,u)::r else (g,x)::adO f u r
def getR(t:Tr):List Str->Tr
 |[]=>t
 |f::r=>match getR t r with |.ins .o _ fs=>(fs.lookup f).getD .hole |_=>.hole
def aei(t:Tr):List Str->Tr->Tr
 |[],u=>u
 |f::r,u=>aei t r (match getR t r with |.ins .o c fs=>.ins .o c (adO f u fs) |y=>y)
def okR(K:W.Frag)(t:Tr):List Str->Prop
 |[]=>True
 |f::r=>okR K t r /\ (match getR t r with |.ins .o c fs=>(Cls K c /\ NoAttr K c f) /\ (fs.lookup f).isSome=true |_=>False)
def tR(K:W.Frag)(i:Nat):List Str->TE
 |[]=>adZ i
 |f::r=>agg K (tR K i r) f
theorem Rf.at:∀{fs:List (Str×Tr)}{vs:List (Str×V)}{p:Cs}{f:Str}{x:Tr},Rf K F B fs vs p->fs.lookup f=some x->∃w c pre a,vs.lookup f=some w/\R K F B x w c/\p=pre++c++a/\∀b,Le F b->∀u d,R K b B u w d->Rf K b B (adO f u fs) vs (pre++d++a)
 |(g,y)::fs,_,_,f,x,y0,h=>by
  obtain⟨v,r,c,d,j,s,q,o⟩:=y0;by_cases e:g=f
  .subst e;rw[List.lookup_cons_self] at h;cases h;refine⟨v,c,[],d,by rw[j,List.lookup_cons_self],q,by rw[s];rfl,λb l u m n=>?_⟩;unfold adO;rw[if_pos rfl];exact⟨v,r,m,d,j,rfl,n,o.mo l (λ_=>Le.refl _) fs⟩
  .have e':(f == g)=false:=by simpa using λz=>e z.symm
   rw[lookup_cons,e'] at h;obtain⟨w,G,pre,a,A,E,D,C⟩:=Rf.at (fs:=fs) o h;refine⟨w,G,c++pre,a,by rw[j,lookup_cons,e'];exact A,E,by rw[s,D];simp only[append_assoc],λb l u m n=>?_⟩;unfold adO;rw[if_neg e];exact⟨v,r,c,pre++m++a,j,by simp only[append_assoc],q.mo l (λ_=>Le.refl _) y,C b l u m n⟩
theorem place{B:Bool->Hp}(s:Same F H)(b:∀k,Same (B k) H)(L:j[i]?=some (some v))(M:R K F B t v c0)(U:Cells F H c0):∀(r:List Str),okR K t r->∃w c rest,c0.Perm (c++rest)/\R K F B (getR t r) w c/\(∀g,Le F g->∀u d,R K g B u w d->∃p,R K g B (aei t r u) v p/\p.Perm (d++rest))/\∀Q:VK,Q w H->tR K i r j H Q
 |[],_=>⟨v,c0,[],by rw[append_nil],M,λg l u d G=>⟨d,G,by rw[append_nil]⟩,λQ q=>⟨v,L,q⟩⟩
 |f::r,ok=>by
  obtain⟨w,c,rest,p1,N,cl,rd⟩:=place s b L M U r ok.1;have E:=ok.2;split at E
  .rename_i C fs eg;obtain⟨⟨ok1,D⟩,A⟩:=E;obtain⟨x,I⟩:=isSome_iff_exists.mp A;rw[eg] at N;obtain⟨a,m,vs,ds,J,O,h3⟩:=N;obtain⟨z,n,pre,e,Y,a2,a3,a4⟩:=h3.at I;have hm:(a,HO.ins C m vs)∈c0:=p1.mem_iff.mpr (mem_append.mpr (.inl (by rw[O];exact .head _)));refine⟨z,n,(a,.ins C m vs)::(pre++e++rest),?_,?_,λg l u d G=>?_,λQ q=>?_⟩
   .refine p1.trans ?_;rw[O,a3];show List.Perm ((a,HO.ins C m vs)::((pre++n++e)++rest)) _;refine List.Perm.trans (List.Perm.cons _ ?_) (List.perm_middle.symm);rw[append_assoc pre n e,<- append_assoc,<- append_assoc,<- append_assoc];refine List.Perm.append_right _ ?_;refine List.Perm.append_right _ ?_;exact List.perm_append_comm
   .show R K F B (match getR t r with |.ins .o _ fs=>(fs.lookup f).getD .hole |_=>.hole) z n;rw[eg];show R K F B ((fs.lookup f).getD .hole) z n;rw[I];exact a2
   .obtain⟨p,b1,b2⟩:=cl g l (.ins .o C (adO f u fs)) ((a,.ins C m vs)::(pre++d++e)) ⟨a,m,vs,_,J,rfl,a4 g l u d G⟩;refine⟨p,?_,b2.trans ?_⟩
    .show R K g B (aei t r (match getR t r with |.ins .o c fs=>.ins .o c (adO f u fs) |y=>y)) v p;rw[eg];exact b1
    .show List.Perm ((a,HO.ins C m vs)::((pre++d++e)++rest)) _;refine List.Perm.trans (List.Perm.cons _ ?_) (List.perm_middle.symm);rw[append_assoc pre d e,<- append_assoc,<- append_assoc,<- append_assoc];refine List.Perm.append_right _ ?_;refine List.Perm.append_right _ ?_;exact List.perm_append_comm
   .exact rd _ ⟨a,C,m,vs,z,J,Rd.of (U.h _ hm),ok1,D,Y,q⟩
  .exact E.elim
theorem Wld.at(W:Wld K k lo us Fb Hb F H y G cs)(ht:G[i]?=some t)(hn:t≠.hole)(r:List Str)(ok:okR K t r):∃w c,R K F (λ_=>Hb) (getR t r) w c/\(∀p∈c,p∈cs i)/\Cells F H c/\(∀Q:VK,Q w H->tR K i r y H Q)/\
  ∀b C,Wld K k lo us Fb Hb b C y G cs->Le F b->∀(a:Addr)(o o':HO)(A ds' e:Cs)(u:Tr)(d:Cs),c=(a,o)::A->ds'.Sublist A->Cells b C e->New Hb e->(∀j,∀p∈cs j,∀q∈e,p.1≠q.1)->d.Perm ((a,o')::(ds'++e))->R K b (λ_=>Hb) u w d->∃J,Wld K k lo us Fb Hb b (upd C a o') y (G.set i (aei t r u)) J:=by
 rcases W.e i t ht with z |⟨v,O,rv⟩
 .exact absurd z hn
 .obtain⟨w,c,rest,p1,r1,cl,rd⟩:=place W.g.s (λ_=>W.g.h) O rv (W.c i) r ok;have sub:∀{F H:Hp},Cells F H (cs i)->Cells F H (c++rest):=λh=>⟨λp m=>h.h p (p1.mem_iff.mpr m),λp m=>h.f p (p1.mem_iff.mpr m),((p1.map (·.1)).nodup_iff).mp h.nd⟩
  refine⟨w,c,r1,λp m=>p1.mem_iff.mpr (mem_append.mpr (.inl m)),(sub (W.c i)).left,rd,λb C B l a o o' A ds' e u d M sl he L x pd ru=>?_⟩;obtain⟨c1,b1,b2⟩:=cl b l u d ru;have U:=sub (B.c i);rw[M] at U;have Y:(a,o)∈cs i:=p1.mem_iff.mpr (mem_append.mpr (.inl (by rw[M];exact .head _)));have D:(a ∉ (A++rest).map (·.1))/\((A++rest).map (·.1)).Nodup:=nodup_cons.mp U.nd;have N:(ds'++rest).Sublist (A++rest):=sl.append_right rest;have E:∀p∈ds'++rest,p∈cs i:=λp m=>p1.mem_iff.mpr (by rw[M];exact .tail _ (N.subset m))
  have c3:Cells b C (ds'++rest):=⟨λp m=>(B.c i).h p (E p m),λp m=>(B.c i).f p (E p m),List.Sublist.nodup (N.map _) D.2⟩
  refine⟨_,B.mut (o:=o) (o':=o') (ds':=(ds'++rest)++e) O Y (c3.app he λp mp q I=>x i p (E p mp) q I) ?_ ?_ ?_ (b2.trans ((pd.append_right rest).trans ?_)) b1⟩
  .exact λp m=>(mem_append.mp m).elim (λm=>B.n i p (E p m)) (L p)
  .intro p m z;rcases mem_append.mp m with m |m
   .exact D.1 (mem_map.mpr ⟨p,N.subset m,z⟩)
   .exact x i _ Y p m z.symm
  .intro j hj p m q I;rcases mem_append.mp m with m |m
   .exact B.d i j (λz=>hj z.symm) p (E p m) q I
   .exact (x j q I p m).symm
  .show List.Perm ((a,o')::((ds'++e)++rest)) ((a,o')::((ds'++rest)++e));refine List.Perm.cons _ ?_;rw[append_assoc,append_assoc];exact List.Perm.append_left _ List.perm_append_comm
end
section
def wPl(K:W.Frag)(j:List Tr)(i:Nat)(r:List Str)(Q:Tr->(Tr->List Tr)->Prop):Prop:=match j[i]? with
 |some .hole=>False
 |some t=>okR K t r /\ Q (getR t r) λu=>j.set i (aei t r u)
 |none=>False
theorem b'Z{Q:Tr->(Tr->List Tr)->Prop}(h:wPl K j i r Q):∃t,j[i]?=some t/\t≠.hole/\okR K t r/\Q (getR t r) λu=>j.set i (aei t r u):=by
 unfold wPl at h;split at h
 .exact h.elim
 .rename_i t ne e;exact⟨t,e,ne,h.1,h.2⟩
 .exact h.elim
theorem Rs.set:∀{xs:List Tr}{vs:List V}{f:Cs}(n:Nat){t:Tr}{v:V},Rs K F B xs vs f->R K F B t v []->∃ds',Rs K F B (xs.set n t) (vs.set n v) ds'/\ds'.Sublist f
 |[],_,f,n,_,_,y,_=>by obtain⟨a,b⟩:=y;exact⟨[],by rw[a];exact⟨rfl,rfl⟩,by rw[b];exact List.Sublist.refl _⟩
 |x::xs,_,_,0,_,_,y,rt=>by obtain⟨v,r,c,d,a,b,g,e⟩:=y;exact⟨d,by rw[a];exact⟨_,r,[],d,rfl,rfl,rt,e⟩,by rw[b];exact List.sublist_append_right c d⟩
 |x::xs,_,_,n + 1,_,_,y,rt=>by
  obtain⟨v,r,c,d,a,b,g,e⟩:=y;obtain⟨h,j,l⟩:=Rs.set (xs:=xs) n e rt;exact⟨c++h,by rw[a];exact⟨v,_,c,h,rfl,rfl,g,j⟩,by rw[b];exact l.append_left c⟩
theorem Rs.snoc(h:Rs K F B xs vs ds)(rt:R K F B t v e):Rs K F B (xs++[t]) (vs++[v]) (ds++e):=h.append ⟨v,[],e,[],rfl,by rw[append_nil],rt,rfl,rfl⟩
theorem Wld.heldLe{t:Tr}{v:V}{c:Cs}(W:Wld K k lo us Fb Hb F H j y cs)(o:Out K F (Bq Hb H) H F' H' t v c)(n:nlt t=true):
  ∃a,Wld K k lo us Fb Hb a H' j y cs/\R K a (λ_=>Hb) (frz t) v []/\Le F a:=by
 obtain⟨e,l⟩:=W.fresh o;obtain⟨h,f,b,d⟩:=(W.gr o.g).lay o.c e (o.r.plain t) l;exact⟨h,f,(R.low (B':=λ_=>Hb) t n rfl o.r).frz (Le.of b) t d,Le.trans o.g.le (Le.of b)⟩
theorem b'S:New Hb []:=λ_ m=>nomatch m
theorem b'v{cs:Nat->Cs}:∀(j:Nat),∀p∈cs j,∀q∈([]:Cs),p.1≠q.1:=λ_ _ _ _ m=>nomatch m
def aeo(u:Tr)(Q:List Tr->Prop):Prop:=match u with |.lst .o xs=>Q xs |_=>False
theorem h'S{Q:List Tr->Prop}(h:aeo u Q):∃xs,u=.lst .o xs/\Q xs:=by
 unfold aeo at h;split at h
 .exact⟨_,rfl,h⟩
 .exact h.elim
def ait(K:W.Frag)(i:Nat)(r:List Str)(pe:PE'):PS':=λD j=>wPl K j i r λu s=>aeo u λa=>pe (j.map lend) λt=>nlt t=true/\a.length<1000000/\D.nx (s (.lst .o (a++[frz t])))
theorem t'c(h:Sim K k te pe):acS K k lo (aeH (tBM K "list" aeS (tR K i r) (adJ te aeM))) (ait K i r pe):=λus Q E F H j y Y D D' W p L=>by
 obtain⟨t,G,C,M,p⟩:=b'Z p;obtain⟨l,N,p⟩:=h'S p;obtain⟨w,c,n,sub,J,rd,cl⟩:=W.at G C r M;rw[N] at n;obtain⟨a,vs,b,rfl,z,x⟩:=n;have f:H a=some (.lst vs):=J.h (a,.lst vs) (by rw[z];exact .head _);refine rd _ ⟨s'u f,h F (Bq E H) H j _ _ _ W.cxt p λu v U m O q o=>?_⟩;obtain⟨s,I,r2,A⟩:=W.heldLe o q.1;have e:m a=some (.lst vs):=o.g.h _ _ f;obtain⟨d,B⟩:=cl s m I A a (.lst vs) (.lst (vs++[v])) b b [] (.lst .o (l++[frz u])) ((a,.lst (vs++[v]))::(b++[])) z (List.Sublist.refl _) .nil b'S b'v (List.Perm.refl _) ⟨a,vs++[v],b++[],rfl,rfl,(x.mo A (λ_=>Le.refl _) l).snoc r2⟩;exact⟨a,vs,v,rfl,rfl,e,lt_of_lt_of_le (by rw[x.length];exact q.2.1) (by decide),L.nx s _ j _ d B q.2.2⟩
def afv(xs:List Tr)(y t:Tr)(Q:List Tr->Prop):Prop:=match y with |.int j=>(match ixN xs.length j with |some n=>Q (xs.set n t) |none=>False) |_=>False
def ago(K:W.Frag)(i:Nat)(r:List Str)(c pe:PE'):PS':=λD j=>pe (j.map lend) λt=>nlt t=true/\wPl K j i r λu s=>aeo u λb=>c (j.map lend) λy=>afv b y (frz t) λa=>D.nx (s (.lst .o a))
theorem p'r(h:Sim K k te pe)(Y:Sim K k tj pj):acS K k lo (afL te (aiT (tR K i r) tj ag6)) (ago K i r pj pe):=λus Fb x F H j G cs D D' W p L=>by
 refine h F (Bq x H) H j _ _ _ W.cxt p λu v F1 l c1 q o=>?_
 obtain⟨U,m,r2,l2⟩:=W.heldLe o q.1;obtain⟨t,O,M,e3,p⟩:=b'Z q.2;obtain⟨s,eg,p⟩:=h'S p;obtain⟨w,c,z,sub,hc,rd,cl⟩:=m.at O M r e3;rw[eg] at z;obtain⟨a,vs,J,rfl,C,B⟩:=z;have E:l a=some (.lst vs):=hc.h (a,.lst vs) (by rw[C];exact .head _);refine rd _ (Y U (Bq x l) l j _ _ _ m.cxt p λy vy A H3 c3 e d=>?_);unfold afv at e;split at e
 .obtain⟨rfl,_⟩:=d.r;split at e
  .rename_i n en;obtain⟨b,I,N⟩:=(B.mo d.g.le (λ_=>Le.refl _) s).set n (r2.mo d.g.le (λ_=>Le.refl _) _);obtain⟨f,Q⟩:=cl A H3 (m.gr d.g) d.g.le a (.lst vs) (.lst (vs.set n v)) J b [] (.lst .o (s.set n (frz u))) ((a,.lst (vs.set n v))::(b++[])) C N .nil b'S b'v (List.Perm.refl _) ⟨a,_,b++[],rfl,rfl,by rw[append_nil];exact I⟩;exact⟨a,vs,_,n,rfl,rfl,d.g.h _ _ E,by rw[B.length];exact en,L.nx A _ j _ f Q e⟩
  .exact e.elim
 .exact e.elim
def ad8(m:List (Key×Tr))(y:Key)(t:Tr):List (Key×Tr):=
 if (m.any λa=>decide (a.1=y))=true then m.map (λa=>if a.1=y then (a.1,t) else a) else m++[(y,t)]
theorem Rk.any:∀{m:List (Key×Tr)}{vs:List (Key×V)}{f:Cs}{y:Key},Rk K F B m vs f->(vs.any λa=>decide (a.1=y))=m.any λa=>decide (a.1=y)
 |[],_,_,y,y0=>by obtain⟨h,_⟩:=y0;rw[h];rfl
 |(k,x)::m,_,_,y,y0=>by obtain⟨v,r,c,d,b,j,g,e⟩:=y0;rw[b,any_cons,any_cons,Rk.any e]
theorem Rk.rep:∀{m:List (Key×Tr)}{vs:List (Key×V)}{j:Cs}{y:Key}{t:Tr}{v:V},Rk K F B m vs j->R K F B t v []->∃ds',Rk K F B (m.map (λa=>if a.1=y then (a.1,t) else a)) (vs.map (λa=>if a.1=y then (a.1,v) else a)) ds'/\ds'.Sublist j
 |[],_,_,y,_,_,y0,_=>by obtain⟨h,p⟩:=y0;exact⟨[],by rw[h];exact⟨rfl,rfl⟩,by rw[p];exact List.Sublist.refl _⟩
 |(k,x)::m,_,_,y,t,w,y0,rt=>by
  obtain⟨v,r,c,d,g,n,q,o⟩:=y0;obtain⟨b,f,l⟩:=Rk.rep (y:=y) o rt;by_cases e:k=y
  .refine⟨b,?_,by rw[n];exact l.trans (List.sublist_append_right c d)⟩;rw[g,map_cons,map_cons];show Rk K F B ((if k=y then (k,t) else (k,x))::_) ((if k=y then (k,w) else (k,v))::_) _;rw[if_pos e,if_pos e];exact⟨w,_,[],b,rfl,rfl,rt,f⟩
  .refine⟨c++b,?_,by rw[n];exact l.append_left c⟩;rw[g,map_cons,map_cons];show Rk K F B ((if k=y then (k,t) else (k,x))::_) ((if k=y then (k,w) else (k,v))::_) _;rw[if_neg e,if_neg e];exact⟨v,_,c,b,rfl,rfl,q,f⟩
theorem Rk.append:∀{m n:List (Key×Tr)}{vs us:List (Key×V)}{c d:Cs},Rk K F B m vs c->Rk K F B n us d->Rk K F B (m++n) (vs++us) (c++d)
 |[],_,_,_,_,_,y,h=>by obtain⟨a,b⟩:=y;rw[a,b];exact h
 |(k,x)::m,_,_,_,_,_,y,h=>by obtain⟨v,r,c,d,a,b,f,e⟩:=y;rw[a,b];exact⟨v,r ++ _,c,d ++ _,rfl,by rw[append_assoc],f,Rk.append e h⟩
theorem Rk.put(h:Rk K F B m vs ds)(rt:R K F B t v []):∃ds',Rk K F B (ad8 m y t) (adK vs y v) ds'/\ds'.Sublist ds:=by
 unfold ad8 adK;rw[h.any];split
 .exact h.rep rt
 .exact⟨ds++[],h.append ⟨v,[],[],[],rfl,rfl,rt,rfl,rfl⟩,by rw[append_nil];exact List.Sublist.refl _⟩
theorem g'D(n:(m.map (·.1)).Nodup)(y:Key)(t:Tr):((ad8 m y t).map (·.1)).Nodup:=by
 unfold ad8;split
 .have e:(m.map λc=>if c.1=y then (c.1,t) else c).map (·.1)=m.map (·.1):=by
   rw[map_map];refine List.map_congr_left λp _=>?_
   show (if p.1=y then (p.1,t) else p).1=p.1;split<;>rfl
  rw[e];exact n
 .rename_i h;rw[map_append,nodup_append];refine⟨n,nodup_cons.mpr ⟨λz=>(nomatch z),List.nodup_nil⟩,λa d b f e=>h ?_⟩;obtain⟨p,g,rfl⟩:=mem_map.mp d;rw[mem_singleton.mp f] at e;exact any_eq_true.mpr ⟨p,g,decide_eq_true e⟩
def aeJ(u:Tr)(Q:List (Key×Tr)->Prop):Prop:=match u with |.dic .o xs=>Q xs |_=>False
theorem h'T{Q:List (Key×Tr)->Prop}(h:aeJ u Q):∃xs,u=.dic .o xs/\Q xs:=by
 unfold aeJ at h;split at h
 .exact⟨_,rfl,h⟩
 .exact h.elim
def aeK(y:Tr)(Q:Key->Prop):Prop:=match ahi y with |some y=>Q y |none=>False
def aiu(K:W.Frag)(i:Nat)(r:List Str)(a pe:PE'):PS':=λD j=>pe (j.map lend) λt=>nlt t=true/\wPl K j i r λu s=>aeJ u λm=>a (j.map lend) λy=>aeK y λy=>m.length<1000000/\D.nx (s (.dic .o (ad8 m y (frz t))))
theorem t'd(h:Sim K k te pe)(Y:Sim K k tj pj):acS K k lo (aen (tR K i r) tj te) (aiu K i r pj pe):=λus Fb s F H j G cs D D' W p L=>by
 refine h F (Bq s H) H j _ _ _ W.cxt p λu v F1 l c1 q o=>?_
 obtain⟨U,n,r2,l2⟩:=W.heldLe o q.1;obtain⟨t,N,J,e3,p⟩:=b'Z q.2;obtain⟨m,eg,p⟩:=h'T p;obtain⟨w,c,x,sub,hc,rd,cl⟩:=n.at N J r e3;rw[eg] at x;obtain⟨a,vs,I,rfl,B,A,Q⟩:=x;have C:l a=some (.dK vs):=hc.h (a,.dK vs) (by rw[B];exact .head _);refine rd _ (Y U (Bq s l) l j _ _ _ n.cxt p λy vy z H3 c3 e d=>?_);unfold aeK at e;split at e
 .rename_i yk ey;obtain rfl:=d'C d.r ey;obtain⟨b,E,M⟩:=(A.mo d.g.le (λ_=>Le.refl _) m).put (y:=yk) (r2.mo d.g.le (λ_=>Le.refl _) _);obtain⟨f,O⟩:=cl z H3 (n.gr d.g) d.g.le a (.dK vs) (.dK (adK vs yk v)) I b [] (.dic .o (ad8 m yk (frz u))) ((a,.dK (adK vs yk v))::(b++[])) B M .nil b'S b'v (List.Perm.refl _) ⟨a,_,b++[],rfl,rfl,by rw[append_nil];exact E,g'D Q _ _⟩;exact⟨a,_,rfl,DPut.k (d.g.h _ _ C) (lt_of_lt_of_le (by rw[A.length];exact e.1) (by decide)),L.nx z _ j _ f O e.2⟩
 .exact e.elim
def agp:PE':=λ_ Q=>Q (.dic .o [])
theorem p's:Sim K k afO agp:=λF B H j y Q d c p q a b=>q _ _ F _ _ p ⟨Gr.own1 c.s b,⟨a,[],[],rfl,rfl,⟨rfl,rfl⟩,List.nodup_nil⟩,c'Y c.s .nil b,λp m=>by
 cases m with
 |head=>exact b
 |tail _ m=>nomatch m⟩
def aex(f:Str)(u:Tr):List (Str×Tr)->List (Str×Tr)
 |[]=>[(f,u)]
 |(g,x)::r=>if g=f then (g,u)::r else (g,x)::aex f u r
theorem Rf.put:∀{fs:List (Str×Tr)}{vs:List (Str×V)}{j:Cs}{f:Str}{t:Tr}{v:V}{e:Cs},Rf K F B fs vs j->R K F B t v e->∃ds' d,Rf K F B (aex f t fs) (adI f v vs) d/\ds'.Sublist j/\d.Perm (ds'++e)
 |[],_,_,f,t,v,e,y,rt=>by obtain⟨a,b⟩:=y;exact⟨[],e,by rw[a];exact⟨v,[],e,[],rfl,by rw[append_nil],rt,rfl,rfl⟩,by rw[b];exact List.Sublist.refl _,List.Perm.refl _⟩
 |(g,x)::fs,_,_,f,t,w,e,y,rt=>by
  obtain⟨v,r,c,d,a,b,l,h⟩:=y;by_cases z:g=f
  .refine⟨d,e++d,?_,by rw[b];exact List.sublist_append_right c d,List.perm_append_comm⟩;rw[a];show Rf K F B (if g=f then (g,t)::fs else _) (if g=f then (g,w)::r else _) _;rw[if_pos z,if_pos z];exact⟨w,r,e,d,rfl,rfl,rt,h⟩
  .obtain⟨d',d2,a1,a2,a3⟩:=Rf.put (f:=f) h rt;refine⟨c++d',c++d2,?_,by rw[b];exact a2.append_left c,by rw[append_assoc];exact a3.append_left c⟩;rw[a];show Rf K F B (if g=f then _ else (g,x)::aex f t fs) (if g=f then _ else (g,v)::adI f w r) _;rw[if_neg z,if_neg z];exact⟨v,_,c,d2,rfl,rfl,l,a1⟩
theorem Rf.length:∀{fs:List (Str×Tr)}{vs:List (Str×V)}{e:Cs},Rf K F B fs vs e->vs.length=fs.length
 |[],_,_,y=>by obtain⟨h,_⟩:=y;rw[h];rfl
 |(k,x)::xs,_,_,y=>by obtain⟨v,r,c,d,a,g,f,b⟩:=y;rw[a,length_cons,length_cons,Rf.length b]
def ad9(K:W.Frag)(f:Str)(u:Tr)(Q:Addr->List (Str×Tr)->Prop):Prop:=match u with |.ins .o c fs=>(Cls K c/\NoAttr K c f)/\fs.length<900/\Q c fs |_=>False
theorem e'E{Q:Addr->List (Str×Tr)->Prop}(h:ad9 K f u Q):∃c fs,u=.ins .o c fs/\(Cls K c/\NoAttr K c f)/\fs.length<900/\Q c fs:=by
 unfold ad9 at h;split at h
 .exact⟨_,_,rfl,h⟩
 .exact h.elim
def agq(K:W.Frag)(i:Nat)(r:List Str)(f:Str)(pe:PE'):PS':=λD j=>pe (j.map lend) λt=>nlt t=true/\wPl K j i r λu s=>ad9 K f u λc fs=>D.nx (s (.ins .o c (aex f t fs)))
theorem p't(h:Sim K k te pe):acS K k lo (afr K (tR K i r) te f) (agq K i r f pe):=λus Fb n F H j y cs D D' W p L=>by
 refine h F (Bq n H) H j _ _ _ W.cxt p λu v z m c1 q o=>?_
 have x:=W.gr o.g;obtain⟨E,N⟩:=W.fresh o;obtain⟨t,e1,O,e3,p⟩:=b'Z q.2;obtain⟨C,fs,eg,ok,Q,p⟩:=e'E p;obtain⟨w,c,s,sub,hc,rd,cl⟩:=x.at e1 O r e3;rw[eg] at s;obtain⟨a,b,vs,M,rfl,B,A⟩:=s;have G:m a=some (.ins C b vs):=hc.h (a,.ins C b vs) (by rw[B];exact .head _);obtain⟨l,d,I,Y,U⟩:=A.put (f:=f) (R.low (B':=λ_=>n) u q.1 rfl o.r);obtain⟨e,J⟩:=cl z m x (Le.refl _) a (.ins C b vs) (.ins C b (adI f v vs)) M l c1 (.ins .o C (aex f u fs)) ((a,.ins C b (adI f v vs))::d) B Y o.c E N (List.Perm.cons _ U) ⟨a,b,_,d,rfl,rfl,I⟩;exact rd _ ⟨a,C,b,vs,rfl,G,ok.1,ok.2,lt_of_lt_of_le (by rw[A.length];exact Q) (by decide),L.nx z _ j _ e J p⟩
end
section
theorem t'e{Hb:Hp}(h:Hb a=none\/Hb a=some (.dK vs)):Le (fz Hb a (.frz ob (.dK vs))) Hb:=λb u n r=>by
 by_cases e:b=a
 .subst e;rcases h with h |h
  .rcases r with r |⟨o,r⟩<;>(rw[b'h,if_pos h] at r;cases r)
  .have z:fz Hb b (.frz ob (.dK vs)) b=some (.frz ob (.dK vs)):=by rw[b'h,if_neg (by rw[h];intro z;cases z)]
   rcases r with r |⟨o,r⟩
   .rw[z] at r;cases r;exact absurd rfl (n _ _)
   .rw[z] at r;cases r;exact .inl h
 .rcases r with r |⟨o,r⟩
  .rw[a'F e] at r;exact .inl r
  .rw[a'F e] at r;exact .inr ⟨o,r⟩
theorem Wld.walk(W:Wld K k lo us F Hb F H j y cs)(b:F a=some (.dK vs)):Wld K k.walk lo us (fz F a (.frz ob (.dK vs))) (fz Hb a (.frz ob (.dK vs))) (fz F a (.frz ob (.dK vs))) (upd H a (.frz ob (.dK vs))) j y cs:=by
 have o:H a=some (.dK vs):=W.g.s _ _ b;have r:Hb a=none\/Hb a=some (.dK vs):=by
  cases q:Hb a with
  |none=>exact .inl rfl
  |some u=>have:=W.g.h _ _ q;rw[o] at this;exact .inr this.symm
 have ne:∀i,∀p∈cs i,p.1≠a:=λi p m e=>by have:=(W.c i).f p m;rw[e,b] at this;cases this
 refine⟨⟨w'u _ W.g.toGr0,Fz.refl _⟩,λh=>(by cases h),W.l,λi t h=>(W.e i t h).imp id λ⟨v,h1,h2⟩=>⟨v,h1,h2.mo (h'b (.inr b)) (λ_=>h'b r) t⟩,λi=>⟨λp m=>?_,λp m=>?_,(W.c i).nd⟩,λi p m=>?_,W.d,W.p,λ_ _ _ _ h=>h.elim⟩
 .rw[a'e (ne i p m)];exact (W.c i).h p m
 .rw[a'F (ne i p m)];exact (W.c i).f p m
 .rw[a'F (ne i p m)];exact W.n i p m
theorem Wld.thaw(hz:k.z=true)(A:Wld K k lo us F1 Hb F1 H1 j y cs)(C:F1 a=some (.dK vs))(W:Wld K k.walk lo us (fz F1 a (.frz ob (.dK vs))) (fz Hb a (.frz ob (.dK vs))) F H j' y' w):
  H a=some (.frz ob (.dK vs))/\∃r,Wld K k lo us F1 Hb r (upd H a (.dK vs)) j' y' w/\Le F r/\(∀b,b≠a->r b=F b)/\(∀b,F b=none->b≠a):=by
 have M:H1 a=some (.dK vs):=A.g.s _ _ C;have U:Hb a=none\/Hb a=some (.dK vs):=by
  cases q:Hb a with
  |none=>exact .inl rfl
  |some u=>have:=A.g.h _ _ q;rw[M] at this;exact .inr this.symm
 have E:fz F1 a (.frz ob (.dK vs)) a=some (.frz ob (.dK vs)):=by rw[b'h,if_neg (by rw[C];intro z;cases z)]
 have B:F a=some (.frz ob (.dK vs)):=W.g.f _ _ E;have D:H a=some (.frz ob (.dK vs)):=W.g.s _ _ B;have Y:Fz (λb=>b=a\/S0 b) F:=λb o u e=>by
  obtain⟨o',O,J⟩:=W.g.z b o u e;by_cases G:b=a
  .exact .inl G
  .rw[a'F G] at J;exact .inr (A.z hz b o' O J)
 obtain⟨F2,Q,L,N,e2,n2,I,c2⟩:=w'V (Fb:=F1) (Hb:=Hb) (F:=F1) (H:=H1) (S:=S0) A.g.toGr0 M (.inr C) W.g.toGr0 (B.trans E.symm) Y;have ne:∀i,∀p∈w i,p.1≠a:=λi p m e=>by have:=(W.c i).f p m;rw[e,B] at this;cases this
 refine⟨D,F2,⟨⟨Q,λb o u e=>(L b o u e).elim⟩,λ_=>L,W.l,λi t h=>(W.e i t h).imp id λ⟨v,h1,h2⟩=>⟨v,h1,h2.mo N (λ_=>t'e U) t⟩,λi=>⟨λp m=>?_,λp m=>?_,(W.c i).nd⟩,λi p m=>?_,W.d,W.p,A.x⟩,N,I,λb e z=>?_⟩
 .rw[a'e (ne i p m)];exact (W.c i).h p m
 .rw[I _ (ne i p m)];exact (W.c i).f p m
 .have:=W.n i p m;rw[a'F (ne i p m)] at this;exact this
 .rw[z,B] at e;cases e
def aea:Key->Tr |.inl n=>.int n |.inr s=>.str s
inductive Wm where |it |ks |vs
def wit:Wm->Key×Tr->Tr
 |.it,p=>.tup [aea p.1,p.2]
 |.ks,p=>aea p.1
 |.vs,p=>p.2
def afw(t:Tr)(Q:List (Key×Tr)->Prop):Prop:=match t with |.dic .f m=>Q m |_=>False
def agr(w:Wm)(pe:PE')(pg:PG')(a:PS'):PS':=λD j=>pe (j.map lend) λt=>nlt t=true/\afw (frz t) λm=>∃I:Nat->List Tr->Prop,I 0 j/\(∀i p j,m[i]?=some p->I i j->pg (wit w p) j λb=>a { D with nx:=I (i+1),ct:=I (i+1),bk:=D.nx } b)/\∀j,I m.length j->D.nx j
theorem Rk.nil_at:∀{m:List (Key×Tr)}{vs:List (Key×V)}{i:Nat}{y:Key}{v:V},Rk K F B m vs []->vs[i]?=some (y,v)->∃t,m[i]?=some (y,t)/\R K F B t v []
 |[],_,i,y,v,y0,e=>by obtain⟨h,_⟩:=y0;rw[h] at e;cases e
 |(y',x)::m,_,0,y,v,y0,e=>by
  obtain⟨u,r,c,d,a,g,f,b⟩:=y0;rw[a] at e;cases e;have z:=append_eq_nil_iff.mp g.symm;rw[z.1] at f;exact⟨x,rfl,f⟩
 |(y',x)::m,_,i + 1,y,v,y0,e=>by
  obtain⟨u,r,c,d,a,g,f,b⟩:=y0;rw[a] at e;have z:=append_eq_nil_iff.mp g.symm;rw[z.2] at b;exact Rk.nil_at (i:=i) b e
theorem q'x:R K F B (aea y) (kV y) []:=by
 cases y with
 |inl n=>exact⟨rfl,rfl⟩
 |inr n=>exact⟨rfl,rfl⟩
theorem t'f(hz:k.z=true)(b:∀o u,X.H₀ a≠some (.frz o u))(g:Wld K k lo us F1 Hb F1 H1 j y cs)(l:F1 a=some (.dK vs))(L:Lk K k lo us F1 Hb D D'):Lk K k.walk lo us (fz F1 a (.frz ob (.dK vs))) (fz Hb a (.frz ob (.dK vs))) (age X D) D':=by
 refine⟨λF H j y cs W q=>?_,λF H j y cs v t c W r e n d s q=>?_,λF H j y cs W q=>?_,λF H j y cs W q=>?_⟩
 .obtain⟨h1,F2,W2,_⟩:=g.thaw hz l W;exact⟨a,ob,vs,h1,b,L.nx F2 _ j y cs W2 q⟩
 .obtain⟨h1,F2,W2,l2,b2,f2⟩:=g.thaw hz l W;refine⟨a,ob,vs,h1,b,L.rt F2 _ j y cs v t c W2 ((r.mo l2 (λ_=>Le.refl _) t).base t s) ⟨λp m=>?_,λp m=>?_,e.nd⟩ (λp m=>?_) d s q⟩
  .rw[a'e (f2 _ (e.f p m))];exact e.h p m
  .rw[b2 _ (f2 _ (e.f p m))];exact e.f p m
  .have:=n p m;rw[a'F (f2 _ (e.f p m))] at this;exact this
 .obtain⟨h1,F2,W2,_⟩:=g.thaw hz l W;exact⟨a,ob,vs,h1,b,L.bk F2 _ j y cs W2 q⟩
 .obtain⟨h1,F2,W2,_⟩:=g.thaw hz l W;exact⟨a,ob,vs,h1,b,L.ct F2 _ j y cs W2 q⟩
theorem g'E(c:Wld K k lo us F1 Hb F1 H1 j y cs)(b:F1 a=some (.dK vs))(r:Rk K F1 (λ_=>Hb) m vs [])(W:Wld K k.walk lo us (fz F1 a (.frz ob (.dK vs))) (fz Hb a (.frz ob (.dK vs))) F H j' y' cs'):
  H a=some (.frz ob (.dK vs))/\Rk K F (λ_=>fz Hb a (.frz ob (.dK vs))) m vs []:=by
 have e:Hb a=none\/Hb a=some (.dK vs):=by
  cases q:Hb a with
  |none=>exact .inl rfl
  |some u=>have:=c.g.h _ _ q;rw[c.g.s _ _ b] at this;exact .inr this.symm
 have d:fz F1 a (.frz ob (.dK vs)) a=some (.frz ob (.dK vs)):=by rw[b'h,if_neg (by rw[b];intro z;cases z)]
 exact⟨W.g.s _ _ (W.g.f _ _ d),r.mo (Le.trans (h'b (.inr b)) (Le.of W.g.f)) (λ_=>h'b e) m⟩
theorem p'u(hz:k.z=true)(h:Sim K k te pe)(hg:agN K k.walk lo tg pg)(C:acS K k.walk lo tb pb):acS K k lo (ag7 X te tg tb) (agr .it pe pg pb):=λus Fb x F H j G cs D D' W p L=>by
 refine h F (Bq x H) H j _ _ _ W.cxt p λt v F1 H1 c p1 o=>?_
 obtain⟨U,f,r2⟩:=W.held o p1.1;have p2:=p1.2;unfold afw at p2;split at p2
 .rename_i m em;rw[em] at r2;obtain⟨_,a,vs,rfl,h2,n,h4⟩:=r2;have b:=e'd (f.z hz) h2;obtain⟨I,i0,step,r⟩:=p2;have d:=f.rebase;have O:=L.rebase f;refine⟨a,vs,rfl,f.g.s _ _ b,λob w=>?_⟩;have L2:=t'f hz (X:=X) (ob:=ob) w d b O;refine m'j (λi j H=>∃F G cs,Wld K k.walk lo us (fz U a (.frz ob (.dK vs))) (fz x a (.frz ob (.dK vs))) F H j G cs/\I i G) ⟨_,G,cs,d.walk b,i0⟩ ?_ ?_ ?_
  .rintro i j H hi ⟨F,G,cs,W,_⟩;exact (g'E d b n W).1
  .rintro i y u j H p e ⟨F,G,cs,W,ii⟩ hp;obtain⟨_,M⟩:=g'E d b n W;obtain⟨B,Q,J⟩:=M.nil_at e;obtain⟨A,E,r4,_⟩:=c'X (xs:=[aea y,B]) (cs:=[]) W.g.s ⟨kV y,[u],[],[],rfl,rfl,q'x,u,[],[],[],rfl,rfl,J,rfl,rfl⟩ .nil hp;refine hg us _ _ A _ j G cs _ _ _ _ (W.gr E) r4 (step i (y,B) G Q ii) λj' G' l Y N=>?_
   exact C us _ _ A _ j' G' l _ _ Y N ⟨λF H j G cs W q=>⟨F,G,cs,W,q⟩,L2.rt,L2.nx,λF H j G cs W q=>⟨F,G,cs,W,q⟩⟩
  .rintro j H ⟨F,G,cs,W,q⟩;exact L2.nx F H j G cs W (r G (by rw[<- n.length];exact q))
 .exact p2.elim
end
section
def ahk(K:W.Frag):List V->Hp->VK->Prop:=λb H Q=>(λb H Q=>∃x n,b=[x]/\aiU K x H n/\Q (.int n) H) b H Q\/(λb H Q=>∃a c,b=[V.ref a]/\H a=some (.dK c)/\Q (.int c.length) H) b H Q
theorem a'W:CallR X (.builtin "len") (ahk X.K):=afq.or m'i
def afW(K:W.Frag):List V->Hp->VK->Prop:=λb H Q=>(λb H Q=>∃p d,b=[.ref p]/\(SqL K H p d\/SqT K H p d)/\∀l,H l=none->Q (.ref l) (upd H l (.lst d))) b H Q\/(λb H Q=>∃a c,b=[.ref a]/\Rd H a (.dK c)/\∀p,H p=none->Q (.ref p) (upd H p (.lst (c.map λe=>kV e.1)))) b H Q
theorem b'm(a:X.calm=true):CallR X (.type "list") (afW X.K):=ac2.or (l'e a)
def ajc(K:W.Frag):R2:=λx y H Q=>rIn K false x y H Q\/ahe false x y H Q
theorem w'X(a:X.A.units+1<cLine):OpR X (compareOp .In) (ajc X.K):=aeR.or (u'H a)
def aeY(K:W.Frag):R2:=λx y H Q=>rIn K true x y H Q\/ahe true x y H Q
theorem f'J(a:X.A.units+1<cLine):OpR X (compareOp .NotIn) (aeY X.K):=ad5.or (m'I a)
def ajd(K:W.Frag):V->Option Int->Option Int->Hp->VK->Prop:=λx l h H Q=>ai1 K x l h H Q\/ai4 x l h H Q
theorem w'Y:SlR X (ajd X.K):=agc.or u'A
end
section
def ahl(k:Bool)(a:List Tr)(Q:Tr->Prop):Prop:=match a with
 |[.str x]=>x.length <= 1000000 /\ Q (.int x.length)
 |[.lst _ xs]=>Q (.int xs.length)
 |[.tup xs]=>Q (.int xs.length)
 |[.dic .f m]=>k=true /\ Q (.int m.length)
 |[.dic .o m]=>Q (.int m.length)
 |_=>False
theorem a'z:OpA K k (ahk K) (ahl k.z):=λF B H o l u Q n s b z r f p q=>by
 unfold ahl at p;split at p
 .obtain⟨v,rfl,rfl,_⟩:=r.one;exact .inl ⟨_,_,rfl,⟨c'H p.1,rfl⟩,q _ _ F H [] p.2 (Gr.refl' s) ⟨rfl,rfl⟩ .nil λ_ m=>nomatch m⟩
 .obtain⟨v,rfl,r1⟩:=r.one;obtain⟨a,vs,j,rfl,d,c,_⟩:=r1.lstH s b f;exact .inl ⟨_,_,rfl,.inl ⟨vs,d,rfl⟩,q (.int vs.length) _ F H [] (by rw[<- c.length] at p;exact p) (Gr.refl' s) ⟨rfl,rfl⟩ .nil λ_ m=>nomatch m⟩
 .obtain⟨v,rfl,r1⟩:=r.one;obtain⟨a,vs,rfl,d,c⟩:=r1.tupH s;exact .inl ⟨_,_,rfl,.inr ⟨vs,d,rfl⟩,q (.int vs.length) _ F H [] (by rw[<- c.length] at p;exact p) (Gr.refl' s) ⟨rfl,rfl⟩ .nil λ_ m=>nomatch m⟩
 .obtain⟨v,rfl,r1⟩:=r.one;obtain⟨_,a,vs,rfl,c,e,g⟩:=r1;exact .inr ⟨a,vs,rfl,s _ _ (e'd (z p.1) c),q (.int vs.length) _ F H [] (by rw[<- e.length] at p;exact p.2) (Gr.refl' s) ⟨rfl,rfl⟩ .nil λ_ m=>nomatch m⟩
 .obtain⟨v,rfl,r1⟩:=r.one;obtain⟨a,vs,j,rfl,c,e,g⟩:=r1;exact .inr ⟨a,vs,rfl,f.h (a,.dK vs) (by rw[c];exact .head _),q (.int vs.length) _ F H [] (by rw[<- e.length] at p;exact p) (Gr.refl' s) ⟨rfl,rfl⟩ .nil λ_ m=>nomatch m⟩
 .exact p.elim
theorem Rk.keysV:∀{m:List (Key×Tr)}{vs:List (Key×V)}{e:Cs},Rk K F B m vs e->Rs K F B (m.map λp=>aea p.1) (vs.map λf=>kV f.1) []
 |[],_,_,y=>by obtain⟨h,_⟩:=y;rw[h];exact⟨rfl,rfl⟩
 |(y,x)::m,_,_,y0=>by obtain⟨v,r,c,d,a,j,g,b⟩:=y0;rw[a];exact⟨kV y,_,[],[],rfl,rfl,q'x,Rk.keysV b⟩
theorem d'k{xs:List Tr}{vs:List V}{cs cx:Cs}{p:Addr}{Q:VK}{d:Tr->Prop}(s:Same F H)(r:Rs K F B xs vs cs)(c:Cells F H cs)(sub:∀p∈cs,p∈cx)(hp:H p=none)(h:d (.lst .o xs))(q:∀t v b a cs,d t->Gr F H b a->R K b B t v cs->Cells b a cs->(∀p∈cs,H p.1=none\/p∈cx)->Q v a):Q (.ref p) (upd H p (.lst vs)):=by
 obtain⟨e,g,f⟩:=b'B s r c hp;refine q _ _ F _ _ h e g f λp m=>?_
 cases m with
 |head=>exact .inl hp
 |tail _ m=>exact .inr (sub p m)
def afx(a:List Tr)(Q:Tr->Prop):Prop:=match a with
 |[.lst _ xs]=>Q (.lst .o xs)
 |[.tup xs]=>Q (.lst .o xs)
 |[.dic _ m]=>Q (.lst .o (m.map λp=>aea p.1))
 |_=>False
theorem a'M:OpA K k (afW K) afx:=λF B H u n w Q o s b z r f p q=>by
 unfold afx at p;split at p
 .obtain⟨v,rfl,r1⟩:=r.one;obtain⟨a,vs,j,rfl,c,e,h,g⟩:=r1.lstH s b f;exact .inl ⟨_,_,rfl,.inl c,λl d=>d'k s e h g d p q⟩
 .obtain⟨v,rfl,r1⟩:=r.one;obtain⟨a,vs,rfl,c,e⟩:=r1.tupH s;exact .inl ⟨_,_,rfl,.inr c,λl d=>d'k s e f (λ_ m=>m) d p q⟩
 .obtain⟨v,rfl,r1⟩:=r.one;obtain⟨a,vs,j,rfl,c,e,h,g⟩:=r1.dicH s b f;exact .inr ⟨_,_,rfl,c,λl d=>d'k s e.keysV .nil (λ_ m=>nomatch m) d p q⟩
 .exact p.elim
def ahm(a:List Tr)(Q:Tr->Prop):Prop:=match a with
 |[.dic _ m]=>Q (.dic .o m)
 |_=>False
theorem R.dicN(r:R K F B (.dic f xs) v cs):(xs.map (·.1)).Nodup:=by
 cases f with
 |f=>obtain⟨_,_,_,_,_,_,h⟩:=r;exact h
 |l q=>obtain⟨_,_,_,_,_,_,h⟩:=r;exact h
 |o=>obtain⟨_,_,_,_,_,_,h⟩:=r;exact h
theorem h'U:OpA K k (λxs H Q=>∃a kvs,xs=[.ref a]/\Rd H a (.dK kvs)/\∀p,H p=none->Q (.ref p) (upd H p (.dK kvs))) ahm:=λF B H xs n u Q o s b z r h p q=>by
 unfold ahm at p;split at p
 .obtain⟨v,rfl,r1⟩:=r.one;obtain⟨a,vs,d,rfl,e,j,g,f⟩:=r1.dicH s b h;refine⟨_,_,rfl,e,λl c=>q _ _ F _ ((l,.dK vs)::d) p (Gr.own1 s c) ⟨l,vs,d,rfl,rfl,j,r1.dicN⟩ (c'Y s g c) λp m=>?_⟩;cases m with
  |head=>exact .inl c
  |tail _ m=>exact .inr (f p m)
 .exact p.elim
def clT:Tr->Option Value
 |.ty n=>some (.type n) |.cl a=>some (.ref a) |_=>none
def aep:Tr->Bool
 |.int _=>true |.bl _=>true |.str _=>true |.non=>true |_=>false
def agO:Tr->V
 |.int n=>.int n |.bl b=>.bl b |.str x=>.str x |_=>.non
theorem h'V(r:R K F B t v cs)(h:aep t=true):v=agO t/\adf v=true:=by
 cases t with
 |int n=>rw[r.1];exact⟨rfl,rfl⟩
 |bl n=>rw[r.1];exact⟨rfl,rfl⟩
 |str n=>rw[r.1];exact⟨rfl,rfl⟩
 |non=>rw[r.1];exact⟨rfl,rfl⟩
 |_=>cases h
theorem f'K:∀{a:List Tr}{vs:List V}{cs:Cs},Rs K F B a vs cs->a.all aep=true->vs=a.map agO/\vs.all adf=true
 |[],_,_,⟨h,_⟩,_=>by rw[h];exact⟨rfl,rfl⟩
 |x::xs,_,_,⟨v,r,c,d,h1,h2,h3,h4⟩,h=>by
  rw[all_cons,and_eq_true] at h;obtain⟨e,f⟩:=h'V h3 h.1;obtain⟨b,g⟩:=f'K h4 h.2;rw[h1,b,e];exact⟨rfl,by rw[all_cons,<- b,g,<- e,f];rfl⟩
def inT(x:Tr)(xs:List Tr):Bool:=inV (agO x) (xs.map agO)
def wIn(neg:Bool)(x y:Tr)(Q:Tr->Prop):Prop:=match y with
 |.lst _ a=>aep x=true /\ a.all aep=true /\ Q (.bl (if neg=true then !inT x a else inT x a))
 |.tup a=>aep x=true /\ a.all aep=true /\ Q (.bl (if neg=true then !inT x a else inT x a))
 |.dic _ m=>aeK x λy=>Q (.bl (if neg=true then !(look m y).isSome else (look m y).isSome))
 |_=>False
theorem j'H:Op2 K k (λx y H Q=>rIn K neg x y H Q\/ahe neg x y H Q) (wIn neg):=λF B H x y E ty G D Q C s b z n j A o hd p q=>by
 unfold wIn at p;split at p
 .obtain⟨h1,h2,p⟩:=p;obtain⟨a,vs,r,rfl,d,f,_⟩:=j.lstH s b o;obtain⟨e,g⟩:=h'V n h1;obtain⟨l,h⟩:=f'K f h2;refine .inl ⟨a,vs,rfl,.inl d,g,h,q _ _ F H [] p (Gr.refl' s) ⟨?_,rfl⟩ .nil λ_ m=>nomatch m⟩;rw[e,l];cases neg<;>rfl
 .obtain⟨h1,h2,p⟩:=p;obtain⟨a,vs,rfl,d,f⟩:=j.tupH s;obtain⟨e,g⟩:=h'V n h1;obtain⟨l,h⟩:=f'K f h2;refine .inl ⟨a,vs,rfl,.inr d,g,h,q _ _ F H [] p (Gr.refl' s) ⟨?_,rfl⟩ .nil λ_ m=>nomatch m⟩;rw[e,l];cases neg<;>rfl
 .obtain⟨a,vs,r,rfl,d,f,g3,_⟩:=j.dicH s b o;unfold aeK at p;split at p
  .rename_i yk ey;obtain rfl:=d'C n ey;rcases f.look yk g3 with⟨v,w⟩ |⟨x,u,c,e,g,_⟩
   .refine .inr ⟨a,none,rfl,.inl ⟨vs,yk,d,rfl,w.symm⟩,q _ _ F H [] p (Gr.refl' s) ⟨?_,rfl⟩ .nil λ_ m=>nomatch m⟩;rw[v];cases neg<;>rfl
   .refine .inr ⟨a,some u,rfl,.inl ⟨vs,yk,d,rfl,g.symm⟩,q _ _ F H [] p (Gr.refl' s) ⟨?_,rfl⟩ .nil λ_ m=>nomatch m⟩;rw[e];cases neg<;>rfl
  .exact p.elim
 .exact p.elim
theorem u'S:Op2 K k (ajc K) (wIn false):=j'H
theorem d'G:Op2 K k (aeY K) (wIn true):=j'H
def aej(K:W.Frag)(f:Str)(x:Tr)(Q:Tr->Prop):Prop:=match x with
 |.ins _ c fs=>(Cls K c /\ NoAttr K c f) /\ (match fs.lookup f with |some t=>Q t |none=>False)
 |_=>False
theorem Rf.look:∀{fs:List (Str×Tr)}{vs:List (Str×V)}{a:Cs}{f:Str}{x:Tr},Rf K F B fs vs a->Cells F H a->fs.lookup f=some x->∃u c,vs.lookup f=some u/\R K F B x u c/\Cells F H c/\∀p∈c,p∈a:=λ{fs vs a f x} h g e=>by
 obtain⟨w,c,pre,d,j,l,b,_⟩:=h.at e;rw[b] at g;exact⟨w,c,j,l,g.left.right,λp m=>by rw[b];exact mem_append.mpr (.inl (mem_append.mpr (.inr m)))⟩
theorem t'g(h:Sim K k te pe):Sim K k (agg K te f) (p1 (aej K f) pe):=λF B H j y Q L c p q=>by
 refine h F B H j y _ _ c p λx v D E M p1 e=>?_
 unfold aej at p1;split at p1
 .obtain⟨ok,p1⟩:=p1;split at p1
  .rename_i t et;obtain⟨a,A,vs,N,rfl,l,I,G,o⟩:=e.r.insH e.g.s (λk=>(c.b k).trans e.g.h) e.c;obtain⟨u,d,J,C,w,z⟩:=I.look G et;exact⟨a,_,A,vs,u,rfl,l,ok.1,ok.2,J,q _ _ D E d p1 ⟨e.g,C,w,λp m=>e.n p (o p (z p m))⟩⟩
  .exact p1.elim
 .exact p1.elim
def afy(x y z:Tr)(Q:Tr->Prop):Prop:=match x with
 |.dic _ m=>aeK y λy=>Q ((look m y).getD z)
 |_=>False
def p3(d:Tr->Tr->Tr->(Tr->Prop)->Prop)(b c a:PE'):PE':=λj Q=>b j λx=>(match x with |.dic _ _=>True |_=>False)/\c j λy=>a j λz=>d x y z Q
theorem p'v(ha:Sim K k ta pa)(hb:Sim K k tb pb)(U:Sim K k tc pc):Sim K k (afP ta tb tc) (p3 afy pa pb pc):=λF B H j G Q Q' c p q=>by
 refine ha F B H j G _ _ c p λx v F1 H1 c1 p1 l=>?_
 obtain⟨Y,p1⟩:=p1;cases x with
 |dic f m=>
  have bB:∀{J},Same H J->∀k,Same (B k) J:=λs k=>(c.b k).trans s
  obtain⟨a,vs,ds,rfl,E,h2,h3,h4⟩:=l.r.dicH l.g.s (bB l.g.h) l.c;refine⟨a,rfl,.inl ⟨vs,E⟩,hb F1 B H1 j G _ _ (c.gr l.g) p1 λy u O H2 c2 p2 A=>?_⟩;refine U O B H2 j G _ _ ((c.gr l.g).gr A.g) p2 λz w I D c3 p3 C=>?_
  have e:=A.g.trans' C.g;unfold afy aeK at p3;dsimp only at p3;split at p3
  .rename_i yk ey;obtain rfl:=d'C A.r ey;have o:Rd D a (.dK vs):=(e.h).rd E;rcases (h2.mo e.le (λk=>Le.refl _) m).look yk (h3.gr e) with⟨N,z2⟩ |⟨x,u,d,L,M,a3,a4,a5⟩
   .rw[N] at p3;exact⟨none,.inl ⟨vs,yk,o,rfl,z2.symm⟩,q _ _ I D c3 p3 ⟨l.g.trans' e,C.r,C.c,C.n.back (l.g.h.trans A.g.h)⟩⟩
   .rw[L] at p3;exact⟨some u,.inl ⟨vs,yk,o,rfl,M.symm⟩,q _ _ I D d p3 ⟨l.g.trans' e,a3,a4,λp m=>l.n p (h4 p (a5 p m))⟩⟩
  .exact p3.elim
 |_=>exact Y.elim
abbrev PO':=List Tr->(Option Int->Prop)->Prop
def ahn(K:W.Frag)(k:Md)(d:TO)(pe:PO'):Prop:=∀(F:Hp)(B:Bool->Hp)(H:Hp)(j:St)(y:List Tr)(Q:Option Int->Hp->Prop)(a:Option Int->Prop),Cxt K k F B H j y->pe y a->(∀b e c,a b->Gr F H e c->Q b c)->d j H Q
def poN:PO':=λ_ Q=>Q none
def poS(pe:PE'):PO':=λj Q=>pe j λx=>match x with |.int i=>Q (some i) |_=>False
theorem u'T:ahn K k aeP poN:=λF B H j y Q a c p q=>q none F H p (Gr.refl' c.s)
theorem u'U(h:Sim K k te pe):ahn K k (ag3 te) (poS pe):=λF B H j y Q e c p q=>by
 refine h F B H j y _ _ c p λx v d b f p1 a=>?_
 split at p1
 .obtain⟨rfl,_⟩:=a.r;exact⟨_,rfl,q _ d b p1 a.g⟩
 .exact p1.elim
def ad1{j:Type}(xs:List j)(l h:Option Int):List j:=(xs.drop (HT.sIx xs.length 0 l)).take (HT.sIx xs.length xs.length h - HT.sIx xs.length 0 l)
theorem Rs.drop:∀(n:Nat){xs:List Tr}{vs:List V}{a:Cs},Rs K F B xs vs a->Cells F H a->∃d,Rs K F B (xs.drop n) (vs.drop n) d/\Cells F H d/\∀p∈d,p∈a
 |0,_,_,a,h,hc=>⟨a,h,hc,λ_ m=>m⟩
 |n + 1,[],_,a,y,_=>by obtain⟨b,e⟩:=y;exact⟨[],by rw[b];exact⟨rfl,rfl⟩,.nil,λ_ m=>nomatch m⟩
 |n + 1,x::xs,_,_,y,hc=>by
  obtain⟨v,r,c,d,b,e,q,g⟩:=y;rw[e] at hc;obtain⟨o,f,l,j⟩:=Rs.drop n g hc.right;exact⟨o,by rw[b];exact f,l,λp m=>by rw[e];exact mem_append.mpr (.inr (j p m))⟩
theorem Rs.take:∀(n:Nat){xs:List Tr}{vs:List V}{a:Cs},Rs K F B xs vs a->Cells F H a->∃d,Rs K F B (xs.take n) (vs.take n) d/\Cells F H d/\∀p∈d,p∈a
 |0,_,_,a,h,hc=>⟨[],⟨rfl,rfl⟩,.nil,λ_ m=>nomatch m⟩
 |n + 1,[],_,a,y,_=>by obtain⟨b,e⟩:=y;exact⟨[],by rw[b];exact⟨rfl,rfl⟩,.nil,λ_ m=>nomatch m⟩
 |n + 1,x::xs,_,_,y,hc=>by
  obtain⟨v,r,c,d,b,e,u,l⟩:=y;rw[e] at hc;obtain⟨g,j,s,f⟩:=Rs.take n l hc.right;refine⟨c++g,by rw[b];exact⟨v,_,c,g,rfl,rfl,u,j⟩,hc.left.app s λp o q w=>?_,λp m=>by rw[e];exact (mem_append.mp m).elim (λm=>mem_append.mpr (.inl m)) λm=>mem_append.mpr (.inr (f p m))⟩;have:=hc.nd;rw[map_append,nodup_append] at this;exact this.2.2 _ (mem_map.mpr ⟨p,o,rfl⟩) _ (mem_map.mpr ⟨q,f q w,rfl⟩)
def wSl(x:Tr)(l h:Option Int)(Q:Tr->Prop):Prop:=match x with
 |.lst _ a=>Q (.lst .o (ad1 a l h))
 |.str x=>x.length <= 1000000 /\ Q (.str (Txt.slice x l h))
 |_=>False
def pSl(pe:PE')(pl a:PO'):PE':=λj Q=>pe j λx=>pl j λl=>a j λh=>wSl x l h Q
theorem u'V(h:Sim K k te pe)(J:ahn K k tl pl)(M:ahn K k th ph):Sim K k (tSl (ajd K) te tl th) (pSl pe pl ph):=λF B H j y Q Q' c p q=>by
 refine h F B H j y _ _ c p λx v F1 E c1 p1 e=>?_
 refine J F1 B E j y _ _ (c.gr e.g) p1 λl U H2 p2 w=>?_
 refine M U B H2 j y _ _ ((c.gr e.g).gr w) p2 λh z H3 p3 g3=>?_
 have d:=w.trans' g3;have o:=(c.gr e.g).gr d;have r3:=e.r.mo d.le (λk=>Le.refl (B k)) x;have u:=e.c.gr d;unfold wSl at p3;split at p3
 .obtain⟨a,vs,ds,rfl,h1,h2,h3,h4⟩:=r3.lstH o.s o.b u;refine .inl ⟨a,vs,rfl,h1,λl' f=>?_⟩;obtain⟨d1,C,L,G⟩:=h2.drop (HT.sIx vs.length 0 l) h3;obtain⟨d2,N,D,O⟩:=C.take (HT.sIx vs.length vs.length h - HT.sIx vs.length 0 l) L;obtain⟨A,I,Y⟩:=b'B o.s N D f;refine q _ _ z _ _ p3 ⟨(e.g.trans' d).trans' A,?_,Y,λp m=>?_⟩
  .unfold ad1;rw[<- h2.length];exact I
  .cases m with
   |head=>exact (e.g.h.trans d.h).free f
   |tail _ m=>exact e.n p (h4 p (G p (O p m)))
 .obtain⟨rfl,_⟩:=r3;exact .inr ⟨_,rfl,c'H p3.1,q _ _ z H3 [] p3.2 ⟨e.g.trans' d,⟨rfl,rfl⟩,.nil,.nil⟩⟩
 .exact p3.elim
end
section
def aeb(ix:List (Option Nat))(j:List Tr):List Tr:=ix.map λo=>match o with |none=>.hole |some i=>(j[i]?).getD .hole
theorem EnvQ.pick(e:EnvQ K F B y G):EnvQ K F B (acG ix y) (aeb ix G):=λj t h=>by
 unfold aeb at h;rw[getElem?_map] at h;cases q:ix[j]? with
 |none=>rw[q] at h;cases h
 |some o=>
  rw[q] at h;cases o with
  |none=>cases h;exact .inl rfl
  |some i=>
   cases z:G[i]? with
   |none=>
    have h:some ((G[i]?).getD .hole)=some t:=h;rw[z] at h;cases h;exact .inl rfl
   |some u=>
    have h:some ((G[i]?).getD .hole)=some t:=h;rw[z] at h;cases h;refine (e i u z).imp id λ⟨v,h1,h2⟩=>⟨v,?_,h2⟩
    unfold acG;rw[getElem?_map,q];show some ((y[i]?).getD none)=_;rw[h1];rfl
theorem h'i:∀{a b:St},a.length=b.length->(∀(i:Nat)(v:V),a[i]?=some (some v)->b[i]?=some (some v))->Wk a b
 |[],[],_,_=>.nil
 |[],_::_,h,_=>by cases h
 |_::_,[],h,_=>by cases h
 |none::a,y::b,h,g=>.non (h'i (Nat.succ.inj h) λi v e=>g (i + 1) v e)
 |some x::a,y::b,h,g=>by
  have e:=g 0 x rfl;cases e;exact .som (h'i (Nat.succ.inj h) λi v e=>g (i+1) v e)
def aho(K:W.Frag)(e:List Nat)(d:TG)(pg:PG'):Prop:=∀(F:Hp)(B:Bool->Hp)(H:Hp)(j:St)(y:List Tr)(x:V)(t:Tr)(Q:St->Hp->Prop)(c:List Tr->Prop),Same F H->EnvQ K F B j y->j.length=y.length->R K F B t x []->pg t y c->(∀a b,EnvQ K F B a b->a.length=b.length->a.length=j.length->(∀i,i ∉ e->a[i]?=j[i]?)->c b->Q a H)->d x j H Q
theorem EnvQ.set(e:EnvQ K F B y G)(c:y.length=G.length)(r:R K F B t x []):EnvQ K F B (y.set i (some x)) (G.set i t):=λj u h=>by
 by_cases a:j=i
 .subst a;have b:j<G.length:=by have:=l'o h;rw[length_set] at this;exact this
  rw[getElem?_set_self b] at h;cases h;exact .inr ⟨x,getElem?_set_self (by rw[c];exact b),r⟩
 .rw[getElem?_set_ne (λz=>a z.symm)] at h;exact (e j u h).imp id λ⟨v,h1,h2⟩=>⟨v,by rw[getElem?_set_ne (λz=>a z.symm)];exact h1,h2⟩
theorem u'W:aho K [i] (adH i) (pgN i):=λF B H y v x t Q c s e a r p q=>q _ _ (e.set a r) (by rw[length_set,length_set];exact a) (by rw[length_set]) (λj b=>getElem?_set_ne λz=>b (by rw[z];exact mem_singleton.mpr rfl)) p
def aeZ(K:W.Frag)(g:List Nat)(f:TGs)(pg:List Tr->List Tr->(List Tr->Prop)->Prop):Prop:=∀(F:Hp)(B:Bool->Hp)(H:Hp)(j:St)(y:List Tr)(e:List V)(c:List Tr)(Q:St->Hp->Prop)(d:List Tr->Prop),Same F H->EnvQ K F B j y->j.length=y.length->Rs K F B c e []->pg c y d->(∀a b,EnvQ K F B a b->a.length=b.length->a.length=j.length->(∀i,i ∉ g->a[i]?=j[i]?)->d b->Q a H)->f e j H Q
theorem p'w:aeZ K [] ah5 adk:=λF B H j y d b Q c s e a r p q=>by
 unfold adk at p;split at p
 .exact⟨r.1,q j y e a rfl (λ_ _=>rfl) p⟩
 .exact p.elim
theorem m'Q(h:aho K js tg pg)(h':aeZ K ks tr pr):aeZ K (js++ks) (aga tg tr) (acH pg pr):=λF B H j y L J Q l s e C r p q=>by
 unfold acH at p;split at p
 .obtain⟨v,w,c,d,h1,h2,h3,h4⟩:=r;have z:=append_eq_nil_iff.mp h2.symm;rw[z.1] at h3;rw[z.2] at h4;refine⟨v,w,h1,h F B H j y v _ _ _ s e C h3 p λI m u g G b f=>h' F B H I m w _ Q l s u g h4 f λE n A o x D p2=>q E n A o (x.trans G) (λi a=>?_) p2⟩;rw[D i λz=>a (mem_append.mpr (.inr z)),b i λz=>a (mem_append.mpr (.inl z))]
 .exact p.elim
theorem u'X(h:aeZ K js tr pr):aho K js (ah6 K n tr) (pgT n pr):=λF B H j y x t Q c s e b r p q=>by
 unfold pgT at p;split at p
 .obtain⟨a,vs,rfl,h1,h2⟩:=r.tupH s;exact⟨a,vs,rfl,h1,h2.length.trans p.1,h F B H j y vs _ Q c s e b h2 p.2 q⟩
 .exact p.elim
def ahp:PB':=λ_ Q=>Q true
theorem t'h:adY K k ai3 ahp:=λF B H j y Q a c p q=>q true F H p (Gr.refl' c.s)
def afz(e:PI')(pg:PG')(pt:PB')(pe:PE')(ix:List (Option Nat)):PE':=λj Q=>e j λd _=>∃I:Nat->List Tr->Prop,I 0 []/\
 (∀i t a,d[i]?=some t->I i a->pg t (aeb ix j) λc=>pt c λb=>if b=true then pe c λx=>a.length<1000000/\I (i+1) (a++[x]) else I (i+1) a)/\∀a,I d.length a->a.length<=1000000/\Q (.lst .o a)
theorem h'W{wi:TI}{pi:PI'}{U:List Nat}{tg:TG}{pg:PG'}{ti:TT}{pt:PB'}{te:TE}{pe:PE'}{ix:List (Option Nat)}(hi:afm K k wi pi)(hg:aho K U tg pg)(ht:adY K k.mute ti pt)(he:Sim K k.mute te pe)(hj:∀j∈U,ix[j]?=some none):Sim K k (aeT wi tg ti te ix) (afz pi pg pt pe ix):=λF B H G O Q Q' c p q=>by
 refine hi F B H G O _ _ c p λts nl J F1 H1 p1 L β _=>?_
 obtain⟨I,i0,step,α⟩:=p1;obtain⟨Kp,Y,C,kp,yl⟩:=β;have c1:=c.gr L;refine q'u (n:=ts.length) (λi w l=>∃o us d,Gr F1 H1 o l/\Rs K o B us w d/\Cells o l d/\New H1 d/\I i us) ⟨F1,[],[],Gr.refl' L.s,⟨rfl,rfl⟩,.nil,.nil,i0⟩ ?_ ?_ ?_ ?_
 .rintro i w l hlt ⟨o,us,d,g2,_⟩;exact C.go i l hlt (kp o l g2.le g2.s (c1.gr g2).b)
 .rintro w l ⟨o,us,d,g2,_⟩;exact C.st l (kp o l g2.le g2.s (c1.gr g2).b)
 .rintro i x w l H3 hlt ⟨o,us,d,g2,r2,hc2,n2,ii⟩ y;have c2:=c1.gr g2;obtain⟨t,et⟩:=e'i hlt;obtain⟨F3,g3,r3⟩:=yl i t o l x H3 et g2.le g2.s c2.b (C.yl i l x H3 hlt (kp o l g2.le g2.s c2.b) y);have E:=c2.gr g3;have δ:(acG ix G).length=(aeb ix O).length:=by unfold acG aeb;rw[length_map,length_map]
  refine hg F3 B H3 _ _ x t _ _ E.s E.e.pick δ r3 (step i t us et ii) λG2 O2 e2 l2 γ n3 p2=>⟨h'i γ.symm λj v N=>?_,?_⟩
  .by_cases hjs:j∈U
   .have z:=hj j hjs;unfold acG at N;rw[getElem?_map,z] at N;cases N
   .rw[n3 j hjs];exact N
  .have c3':Cxt K k.mute F3 B H3 G2 O2:=⟨E.s,E.b,E.z,e2,λ_ _ _ h=>h.elim⟩
   refine ht F3 B H3 G2 O2 _ _ c3' p2 λb F4 H4 M g4=>?_
   have f:=g3.trans' g4;cases b with
   |false=>
    rw[if_neg (by decide)] at M ⊢;exact⟨F4,us,d,g2.trans' f,r2.mo f.le (λk=>Le.refl (B k)) us,hc2.gr f,n2,M⟩
   |true=>
    rw[if_pos rfl] at M ⊢;refine he F4 B H4 G2 O2 _ _ (c3'.gr g4) M λu v F5 H5 c5 p5 D=>?_
    have A:=f.trans' D.g;refine⟨lt_of_lt_of_le (by rw[r2.length];exact p5.1) (by decide),F5,us++[u],d++c5,g2.trans' A,(r2.mo A.le (λk=>Le.refl (B k)) us).snoc D.r,(hc2.gr A).app D.c λp mp q mq e=>?_,λp m=>?_,p5.2⟩
    .have:=(hc2.gr f).h p mp;rw[e,D.n q mq] at this;cases this
    .rcases mem_append.mp m with m |m
     .exact n2 p m
     .exact (g2.h.trans f.h).free (D.n p m)
 .rintro w l ⟨o,us,d,g2,r2,hc2,n2,ii⟩;obtain⟨hl,hq⟩:=α us ii;refine⟨by rw[r2.length];exact c'H hl,λa ha=>?_⟩;obtain⟨m1,m2,m3⟩:=b'B g2.s r2 hc2 ha;refine q _ _ o _ _ hq ⟨(L.trans' g2).trans' m1,m2,m3,λp m=>?_⟩;cases m with
  |head=>exact (L.h.trans g2.h).free ha
  |tail _ m=>exact L.h.free (n2 p m)
end
mutual
def eqd:Tr->Tr->Option Bool
 |.tup xs,.tup ys=>if xs.length=ys.length then eqds xs ys else none
 |.lst _ xs,.lst _ ys=>if xs.length=ys.length then eqds xs ys else some false
 |.int a,.int b=>some (decide (a=b))
 |.str a,.str b=>some (decide (a=b))
 |.bl a,.bl b=>some (decide (a=b))
 |.non,.non=>some true
 |_,_=>none
def eqds:List Tr->List Tr->Option Bool
 |[],[]=>some true
 |x::xs,y::ys=>(eqd x y).bind λa=>(eqds xs ys).bind λb=>some (a&&b)
 |_,_=>none
end
mutual
def dep:Tr->Nat
 |.tup a=>deps a + 1
 |.lst _ a=>deps a + 1
 |_=>0
def deps:List Tr->Nat
 |[]=>0
 |x::xs=>max (dep x) (deps xs)
end
section
mutual
theorem h'X(I:Inv X pins j H s)(l:Same F H)(sb:∀k,Same (B k) H):∀(t:Tr)(t':Tr)(v:V)(c d:Cs)(b:Bool),eqd t t'=some b->R X.K F B t v c->R X.K F B t' v d->Cells F H c->Cells F H d->b=true
 |.tup q=>λt' v c d b e r g A h=>by
  cases t' with
  |tup C=>
   unfold eqd at e;split at e
   .obtain⟨a,vs,rfl,p,n⟩:=r.tupH l;obtain⟨o,x,w,u,m⟩:=g.tupH l;cases w;have z:=s'h I p u;subst z;exact eqds_fn I l sb q C vs c d b e n m A h
   .cases e
  |_=>cases e
 |.lst f q=>λt' v c d b e r g A h=>by
  cases t' with
  |lst J C=>
   unfold eqd at e;obtain⟨a,vs,D,rfl,p,n,G,_⟩:=r.lstH l sb A;obtain⟨o,x,y,w,u,m,E,_⟩:=g.lstH l sb h;cases w;have z:=s'i I p u;subst z;split at e
   .exact eqds_fn I l sb q C vs D y b e n m G E
   .rename_i hl;exact absurd (n.length.symm.trans m.length) hl
  |_=>cases e
 |.int a=>λt' v c d b e r g _ _=>by
  cases t' with
  |int o=>cases e;have:=r.1.symm.trans g.1;cases this;exact decide_eq_true rfl
  |_=>cases e
 |.str a=>λt' v c d b e r g _ _=>by
  cases t' with
  |str o=>cases e;have:=r.1.symm.trans g.1;cases this;exact decide_eq_true rfl
  |_=>cases e
 |.bl a=>λt' v c d b e r g _ _=>by
  cases t' with
  |bl o=>cases e;have:=r.1.symm.trans g.1;cases this;exact decide_eq_true rfl
  |_=>cases e
 |.non=>λt' v c d b e r g _ _=>by
  cases t' with
  |non=>cases e;rfl
  |_=>cases e
 |.hole=>λt' v c d b e _ _ _ _=>by cases t' <;> cases e
 |.ty _=>λt' v c d b e _ _ _ _=>by cases t' <;> cases e
 |.cl _=>λt' v c d b e _ _ _ _=>by cases t' <;> cases e
 |.exc _=>λt' v c d b e _ _ _ _=>by cases t' <;> cases e
 |.dic _ _=>λt' v c d b e _ _ _ _=>by cases t' <;> cases e
 |.ins _ _ _=>λt' v c d b e _ _ _ _=>by cases t' <;> cases e
theorem eqds_fn(I:Inv X pins j H s)(l:Same F H)(sb:∀k,Same (B k) H):∀(m:List Tr)(d:List Tr)(vs:List V)(c g:Cs)(b:Bool),eqds m d=some b->Rs X.K F B m vs c->Rs X.K F B d vs g->Cells F H c->Cells F H g->b=true
 |[]=>λd vs c g b e _ _ _ _=>by
  cases d with
  |nil=>cases e;rfl
  |cons _ _=>cases e
 |x::xs=>λd vs c g b e r p h f=>by
  cases d with
  |nil=>cases e
  |cons y o=>
   obtain⟨v,r,w,A,q,J,G,z⟩:=r;obtain⟨N,p,L,E,n,u,D,C⟩:=p;rw[q] at n;cases n;rw[J] at h;rw[u] at f;unfold eqds at e;cases e1:eqd x y with
   |none=>rw[e1] at e;cases e
   |some a=>
    cases e2:eqds xs o with
    |none=>rw[e1,e2] at e;cases e
    |some M=>
     rw[e1,e2] at e;cases e;rw[h'X I l sb x y v w L a e1 G D h.left f.left,eqds_fn I l sb xs o r A E M e2 z C h.right f.right];rfl
end
def eqL(b a:List Tr)(j:Nat):Bool:=match b[j]?,a[j]? with |some x,some y=>(eqd x y).getD false |_,_=>false
theorem b'T:∀{d c:List Tr}{b:Bool},eqds d c=some b->(List.range d.length).all (eqL d c)=b/\∀(j:Nat)(x y:Tr),d[j]?=some x->c[j]?=some y->eqd x y=some (eqL d c j)
 |[],[],b,e=>by cases e;exact⟨rfl,λj x y h=>by cases h⟩
 |[],_::_,b,e=>by cases e
 |_::_,[],b,e=>by cases e
 |x::xs,y::ys,b,e=>by
  unfold eqds at e;cases e1:eqd x y with
  |none=>rw[e1] at e;cases e
  |some a=>
   cases e2:eqds xs ys with
   |none=>rw[e1,e2] at e;cases e
   |some o=>
    rw[e1,e2] at e;cases e;obtain⟨m,l⟩:=b'T e2;refine⟨?_,λj u w g f=>?_⟩
    .rw[length_cons,List.range_succ_eq_map,all_cons,List.all_map];have n:eqL (x::xs) (y::ys) 0=a:=by show (eqd x y).getD false=a;rw[e1];rfl
     rw[n,<- m];rfl
    .cases j with
     |zero=>cases g;cases f;show eqd x y=some ((eqd x y).getD false);rw[e1];rfl
     |succ j=>exact l j u w g f
mutual
theorem u'Y(I:Inv X pins G H s)(E:Same F H)(sb:∀k,Same (B k) H):∀(t:Tr)(t':Tr)(Au:Around)(v g:V)(c h:Cs)(b:Bool)(u l:Value),eqd t t'=some b->R X.K F B t v c->R X.K F B t' g h->Cells F H c->Cells F H h->RelV v u->RelV g l->Au.units+dep t<cLine->SeqAt.EqAt Au s u l b
 |.tup C=>λt' Au v g c h b u l e r o O w m d hu=>by
  cases t' with
  |tup D=>
   have fn:=λ(z:v=g)=>h'X I E sb (.tup C) (.tup D) g c h b e (z ▸ r) o O w
   unfold eqd at e;split at e
   .rename_i hl;obtain⟨a,vs,rfl,Q,J⟩:=r.tupH E;obtain⟨n,L,rfl,U,M⟩:=o.tupH E;obtain rfl:u=Value.ref a:=m;obtain rfl:l=Value.ref n:=d;by_cases z:a=n
    .rw[fn (by rw[z]),z];exact SeqAt.EqAt.same _
    .unfold dep at hu;obtain⟨al,ix⟩:=b'T e;have N:=j'v (Au:=Au) I Q U (by omega) (by rw[J.length,M.length];exact hl) (eqL C D) (λj x y p q ex Y rx ry=>eqds_at I E sb C D (eqL C D) Au.in1 vs L c h j x y p q ix J M O w ex Y rx ry (by rw[a'Y];omega));rw[J.length,al] at N;exact SeqAt.EqAt.of_refs z N
   .cases e
  |_=>cases e
 |.lst f C=>λt' Au v g c h b u l e r o O w m d hu=>by
  cases t' with
  |lst f' D=>
   have fn:=λ(z:v=g)=>h'X I E sb (.lst f C) (.lst f' D) g c h b e (z ▸ r) o O w
   unfold eqd at e;obtain⟨a,vs,ds,rfl,Q,J,h3,_⟩:=r.lstH E sb O;obtain⟨n,L,α,rfl,U,M,g3,_⟩:=o.lstH E sb w;obtain rfl:u=Value.ref a:=m;obtain rfl:l=Value.ref n:=d;unfold dep at hu;by_cases z:a=n
   .rw[fn (by rw[z]),z];exact SeqAt.EqAt.same _
   .split at e
    .rename_i hl;obtain⟨al,ix⟩:=b'T e;have N:=j'w (Au:=Au) I Q U (by omega) (by rw[J.length,M.length];exact hl) (eqL C D) (λj x y p q ex Y rx ry=>eqds_at I E sb C D (eqL C D) Au.in1 vs L ds α j x y p q ix J M h3 g3 ex Y rx ry (by rw[a'Y];omega));rw[J.length,al] at N;exact SeqAt.EqAt.of_refs z N
    .rename_i hl;cases e;obtain⟨us,r1,t1,_⟩:=I.list Q;obtain⟨zs,r2,t2,_⟩:=I.list U;have m1:=r1.length;have m2:=r2.length;have l1:=J.length;have l2:=M.length;exact SeqAt.EqAt.of_refs z (SeqAt.RcAt.lists_lengths t1.isList t2.isList (by simp;omega) (by omega))
  |_=>cases e
 |.int a=>λt' Au v g c h b u l e r o _ _ m d _=>by
  cases t' with
  |int n=>cases e;rw[r.1] at m;rw[o.1] at d;exact o'T m d
  |_=>cases e
 |.str a=>λt' Au v g c h b u l e r o _ _ m d _=>by
  cases t' with
  |str n=>
   cases e;rw[r.1] at m;rw[o.1] at d;have z:=b'K (A:=Au) (s:=s) m d rfl rfl;have e:eqV (.str a) (.str n)=decide (a=n):=by show (a == n)=_;rw[Bool.beq_eq_decide_eq]
   rw[e] at z;exact z
  |_=>cases e
 |.bl a=>λt' Au v g c h b u l e r o _ _ m d _=>by
  cases t' with
  |bl n=>
   cases e;rw[r.1] at m;rw[o.1] at d;have z:=b'K (A:=Au) (s:=s) m d rfl rfl;have e:eqV (.bl a) (.bl n)=decide (a=n):=by show (a == n)=_;rw[Bool.beq_eq_decide_eq]
   rw[e] at z;exact z
  |_=>cases e
 |.non=>λt' Au v g c h b u l e r o _ _ m d _=>by
  cases t' with
  |non=>cases e;rw[r.1] at m;rw[o.1] at d;exact b'K (A:=Au) (s:=s) m d rfl rfl
  |_=>cases e
 |.hole=>λt' Au v g c h b u l e _ _ _ _ _ _ _=>by cases t' <;> cases e
 |.ty _=>λt' Au v g c h b u l e _ _ _ _ _ _ _=>by cases t' <;> cases e
 |.cl _=>λt' Au v g c h b u l e _ _ _ _ _ _ _=>by cases t' <;> cases e
 |.exc _=>λt' Au v g c h b u l e _ _ _ _ _ _ _=>by cases t' <;> cases e
 |.dic _ _=>λt' Au v g c h b u l e _ _ _ _ _ _ _=>by cases t' <;> cases e
 |.ins _ _ _=>λt' Au v g c h b u l e _ _ _ _ _ _ _=>by cases t' <;> cases e
theorem eqds_at(I:Inv X pins G H s)(w:Same F H)(sb:∀k,Same (B k) H):∀(l:List Tr)(d:List Tr)(e:Nat->Bool)(Au:Around)(vs f:List V)(c p:Cs)(j:Nat)(x y:V)(u h:Value),(∀(j:Nat)(x y:Tr),l[j]?=some x->d[j]?=some y->eqd x y=some (e j))->Rs X.K F B l vs c->Rs X.K F B d f p->Cells F H c->Cells F H p->vs[j]?=some x->f[j]?=some y->RelV x u->RelV y h->Au.units+deps l<cLine->SeqAt.EqAt Au s u h (e j)
 |[]=>λd e Au vs f c p j x y u h _ r _ _ _ ex _ _ _ _=>by rw[r.1] at ex;cases ex
 |t::l=>λd e Au vs f c p j x y u h z r o q g ex m C n hu=>by
  cases d with
  |nil=>rw[o.1] at m;cases m
  |cons A d=>
   obtain⟨v,r,O,L,E,h2,h3,Q⟩:=r;obtain⟨v',o,c2,Y,N,J,U,M⟩:=o;rw[E] at ex;rw[N] at m;rw[h2] at q;rw[J] at g;unfold deps at hu;cases j with
   |zero=>
    cases ex;cases m;exact u'Y I w sb t A Au _ _ O c2 (e 0) u h (z 0 t A rfl rfl) h3 U q.left g.left C n (by omega)
   |succ j=>exact eqds_at I w sb l d (λi=>e (i+1)) Au r o L Y j x y u h (λi a b D hb=>z (i+1) a b D hb) Q M q.right g.right ex m C n (by omega)
end
theorem t'i(I:Inv X pins G H s)(d:SqT X.K H a xs)(f:SqT X.K H b ys)(r:Au.units<cLine)(E:xs.length=ys.length)(e:Nat->Bool)(he:∀(j:Nat) x y u v,xs[j]?=some x->ys[j]?=some y->RelV x u->RelV y v->SeqAt.EqAt Au.in1 s u v (e j)):SeqAt.RcNeAt Au s (.ref a) (.ref b) (!(List.range xs.length).all e):=by
 obtain⟨us,l,m,_⟩:=I.tuple d;obtain⟨c,r2,w,_⟩:=I.tuple f;have D:=l.length;have J:=r2.length;have z:=SeqAt.RcNeAt.tuples (A:=Au) (e:=e) m w r (λj d f=>?_)
 .have e0:((List.range (min us.toArray.size c.toArray.size)).all e&&us.toArray.size == c.toArray.size)=(List.range xs.length).all e:=by
   simp only[size_toArray];have g:min us.length c.length=xs.length:=by omega
   have h:(us.length == c.length)=true:=by simp;omega
   rw[g,h,Bool.and_true]
  rw[e0] at z;exact z
 .simp only[size_toArray] at d f;obtain⟨u,g,B⟩:=l.get (i:=j) (x:=xs[j]'(by omega)) (by simp);obtain⟨v,h,n⟩:=r2.get (i:=j) (x:=ys[j]'(by omega)) (by simp);obtain⟨_,p⟩:=List.getElem?_eq_some_iff.mp g;obtain⟨_,C⟩:=List.getElem?_eq_some_iff.mp h;have q:us.toArray[j]'(by simpa using d)=u:=by simpa using p
  have o:c.toArray[j]'(by simpa using f)=v:=by simpa using C
  rw[q,o];exact he j _ _ u v (by simp) (by simp) B n
def ahX(K:W.Frag)(neg:Bool):R2:=λx y H Q=>∃(F:Hp)(B:Bool->Hp)(t d:Tr)(c a:Cs)(b:Bool),Same F H/\(∀k,Same (B k) H)/\R K F B t x c/\R K F B d y a/\Cells F H c/\Cells F H a/\eqd t d=some b/\dep t<=60/\1<=dep t/\Q (.bl (if neg=true then !b else b)) H
theorem u'Z(hu:X.A.units+64<cLine):OpR X (compareOp .Eq) (ahX X.K false):=by
 intro pins s G H x y v u Q I J E h;obtain⟨F,B,t,t',c,c',b,C,sb,r,r',hc,L,e,d,d1,q⟩:=h;have z:∀{p p':Addr},SeqAt.RcAt X.A s (.ref p) (.ref p') b->wpAny (model X.prog X.w) X.A (compareOp .Eq (.ref p) (.ref p')) (EP X pins G Q) X.xe s:=λm=>m X.prog X.w X.xe _ ⟨.bl b,H,I,rfl,q⟩
 cases t with
 |tup l=>
  cases t' with
  |tup n=>
   unfold eqd at e;unfold dep at d;split at e
   .rename_i hl;obtain⟨a,vs,rfl,M,g⟩:=r.tupH C;obtain⟨Y,o,rfl,N,D⟩:=r'.tupH C;obtain rfl:v=Value.ref a:=J;obtain rfl:u=Value.ref Y:=E;obtain⟨al,ix⟩:=b'T e;have m:=j'v (Au:=X.A) I M N (by omega) (by rw[g.length,D.length];exact hl) (eqL l n) (λj x y p q ex O J E=>eqds_at I C sb l n (eqL l n) X.A.in1 vs o c c' j x y p q ix g D hc L ex O J E (by rw[a'Y];omega));rw[g.length,al] at m;exact z m
   .cases e
  |_=>cases e
 |lst f l=>
  cases t' with
  |lst f' n=>
   unfold eqd at e;unfold dep at d;obtain⟨a,vs,ds,rfl,M,g,h3,_⟩:=r.lstH C sb hc;obtain⟨Y,o,U,rfl,N,D,g3,_⟩:=r'.lstH C sb L;obtain rfl:v=Value.ref a:=J;obtain rfl:u=Value.ref Y:=E;split at e
   .rename_i hl;obtain⟨al,ix⟩:=b'T e;have m:=j'w (Au:=X.A) I M N (by omega) (by rw[g.length,D.length];exact hl) (eqL l n) (λj x y p q ex O J E=>eqds_at I C sb l n (eqL l n) X.A.in1 vs o ds U j x y p q ix g D h3 g3 ex O J E (by rw[a'Y];omega));rw[g.length,al] at m;exact z m
   .rename_i hl;cases e;obtain⟨us,r1,t1,_⟩:=I.list M;obtain⟨zs,r2,t2,_⟩:=I.list N;have m1:=r1.length;have m2:=r2.length;have l1:=g.length;have l2:=D.length;exact z (SeqAt.RcAt.lists_lengths t1.isList t2.isList (by simp;omega) (by omega))
  |_=>cases e
 |_=>exact absurd d1 (by unfold dep;decide)
theorem v'a(hu:X.A.units+64<cLine):OpR X (compareOp .NotEq) (ahX X.K true):=by
 intro pins s G H x y v u Q I J E h;obtain⟨F,B,t,t',c,c',b,C,sb,r,r',hc,L,e,d,d1,q⟩:=h;have z:∀{p p':Addr},SeqAt.RcNeAt X.A s (.ref p) (.ref p') (!b)->wpAny (model X.prog X.w) X.A (compareOp .NotEq (.ref p) (.ref p')) (EP X pins G Q) X.xe s:=λm=>m X.prog X.w X.xe _ ⟨.bl (!b),H,I,rfl,q⟩
 cases t with
 |tup l=>
  cases t' with
  |tup n=>
   unfold eqd at e;unfold dep at d;split at e
   .rename_i hl;obtain⟨a,vs,rfl,M,g⟩:=r.tupH C;obtain⟨Y,o,rfl,N,D⟩:=r'.tupH C;obtain rfl:v=Value.ref a:=J;obtain rfl:u=Value.ref Y:=E;obtain⟨al,ix⟩:=b'T e;have m:=t'i (Au:=X.A) I M N (by omega) (by rw[g.length,D.length];exact hl) (eqL l n) (λj x y p q ex O J E=>eqds_at I C sb l n (eqL l n) X.A.in1 vs o c c' j x y p q ix g D hc L ex O J E (by rw[a'Y];omega));rw[g.length,al] at m;exact z m
   .cases e
  |_=>cases e
 |lst f l=>
  cases t' with
  |lst f' n=>
   unfold eqd at e;unfold dep at d;obtain⟨a,vs,ds,rfl,M,g,h3,_⟩:=r.lstH C sb hc;obtain⟨Y,o,U,rfl,N,D,g3,_⟩:=r'.lstH C sb L;obtain rfl:v=Value.ref a:=J;obtain rfl:u=Value.ref Y:=E;split at e
   .rename_i hl;obtain⟨al,ix⟩:=b'T e;have m:=s't (Au:=X.A) I M N (by omega) (by rw[g.length,D.length];exact hl) (eqL l n) (λj x y p q ex O J E=>eqds_at I C sb l n (eqL l n) X.A.in1 vs o ds U j x y p q ix g D h3 g3 ex O J E (by rw[a'Y];omega));rw[g.length,al] at m;exact z m
   .rename_i hl;cases e;obtain⟨us,r1,t1,_⟩:=I.list M;obtain⟨zs,r2,t2,_⟩:=I.list N;have m1:=r1.length;have m2:=r2.length;have l1:=g.length;have l2:=D.length;exact z (SeqAt.RcNeAt.lists_lengths (A:=X.A) t1.isList t2.isList (by simp;omega) (by omega))
  |_=>cases e
 |_=>exact absurd d1 (by unfold dep;decide)
def aje(K:W.Frag):R2:=λx y H Q=>rEq x y H Q\/ahX K false x y H Q
theorem b'b(a:X.A.units+64<cLine):OpR X (compareOp .Eq) (aje X.K):=ah9.or (u'Z a)
def aiv(K:W.Frag):R2:=λx y H Q=>rNe x y H Q\/ahX K true x y H Q
theorem c'N(a:X.A.units+64<cLine):OpR X (compareOp .NotEq) (aiv X.K):=ag0.or (v'a a)
def wEq(neg:Bool)(x y:Tr)(Q:Tr->Prop):Prop:=match x,y with
 |.int a,.int b=>Q (.bl (if neg=true then !decide (a=b) else decide (a=b)))
 |.str a,.str b=>Q (.bl (if neg=true then !decide (a=b) else decide (a=b)))
 |.bl a,.bl b=>Q (.bl (if neg=true then !decide (a=b) else decide (a=b)))
 |x,y=>ahj neg x y Q \/ ∃b,eqd x y=some b /\ dep x <= 60 /\ 1 <= dep x /\ Q (.bl (if neg=true then !b else b))
theorem a'r:Op2 K k (aje K) (wEq false):=λF B H x y j ty n g Q o s b z c a f l hd p q=>by
 unfold wEq at p;split at p
 .obtain⟨rfl,_⟩:=c;obtain⟨rfl,_⟩:=a;refine .inl ⟨rfl,q _ _ F H [] p (Gr.refl' s) ⟨?_,rfl⟩ .nil λ_ m=>nomatch m⟩;exact congrArg V.bl (decide_eq_decide.mpr ⟨λh=>V.int.inj h,λh=>by rw[h]⟩)
 .obtain⟨rfl,_⟩:=c;obtain⟨rfl,_⟩:=a;refine .inl ⟨rfl,q _ _ F H [] p (Gr.refl' s) ⟨?_,rfl⟩ .nil λ_ m=>nomatch m⟩;exact congrArg V.bl (decide_eq_decide.mpr ⟨λh=>V.str.inj h,λh=>by rw[h]⟩)
 .obtain⟨rfl,_⟩:=c;obtain⟨rfl,_⟩:=a;refine .inl ⟨rfl,q _ _ F H [] p (Gr.refl' s) ⟨?_,rfl⟩ .nil λ_ m=>nomatch m⟩;exact congrArg V.bl (decide_eq_decide.mpr ⟨λh=>V.bl.inj h,λh=>by rw[h]⟩)
 .rcases p with p |p
  .exact .inl (s'M (k:=k) F B H x y j ty n g Q o s b z c a f l hd p q)
  .obtain⟨bb,e,d,d1,p⟩:=p;exact .inr ⟨F,B,j,ty,n,g,bb,s,b,c,a,f,l,e,d,d1,q _ _ F H [] p (Gr.refl' s) ⟨rfl,rfl⟩ .nil λ_ m=>nomatch m⟩
theorem b't:Op2 K k (aiv K) (wEq true):=λF B H x y j ty n g Q o s b z c a f l hd p q=>by
 unfold wEq at p;split at p
 .obtain⟨rfl,_⟩:=c;obtain⟨rfl,_⟩:=a;refine .inl ⟨rfl,q _ _ F H [] p (Gr.refl' s) ⟨?_,rfl⟩ .nil λ_ m=>nomatch m⟩;exact congrArg (λb=>V.bl (!b)) (decide_eq_decide.mpr ⟨λh=>V.int.inj h,λh=>by rw[h]⟩)
 .obtain⟨rfl,_⟩:=c;obtain⟨rfl,_⟩:=a;refine .inl ⟨rfl,q _ _ F H [] p (Gr.refl' s) ⟨?_,rfl⟩ .nil λ_ m=>nomatch m⟩;exact congrArg (λb=>V.bl (!b)) (decide_eq_decide.mpr ⟨λh=>V.str.inj h,λh=>by rw[h]⟩)
 .obtain⟨rfl,_⟩:=c;obtain⟨rfl,_⟩:=a;refine .inl ⟨rfl,q _ _ F H [] p (Gr.refl' s) ⟨?_,rfl⟩ .nil λ_ m=>nomatch m⟩;exact congrArg (λb=>V.bl (!b)) (decide_eq_decide.mpr ⟨λh=>V.bl.inj h,λh=>by rw[h]⟩)
 .rcases p with p |p
  .exact .inl (s'N (k:=k) F B H x y j ty n g Q o s b z c a f l hd p q)
  .obtain⟨bb,e,d,d1,p⟩:=p;exact .inr ⟨F,B,j,ty,n,g,bb,s,b,c,a,f,l,e,d,d1,q _ _ F H [] p (Gr.refl' s) ⟨rfl,rfl⟩ .nil λ_ m=>nomatch m⟩
end
def tOf(K:W.Frag)(k:Md)(pe:PE'):TE:=λj H Q=>∃(F:Hp)(B:Bool->Hp)(y:List Tr)(a:Tr->Prop),Cxt K k F B H j y/\pe y a/\∀t v d b c,a t->Out K F B H d b t v c->Q v b
def aiw(K:W.Frag)(k:Md)(pe:PB'):TT:=λj H Q=>∃(F:Hp)(B:Bool->Hp)(y:List Tr)(a:Bool->Prop),Cxt K k F B H j y/\pe y a/\∀b d c,a b->Gr F H d c->Q b c
section
theorem QE.of(h:QE X k e pe):PE X e (tOf X.K k pe):=λpins s j H Q I ⟨F,B,y,Q',h1,h2,h3⟩=>by
 obtain⟨c,b,a⟩:=h.h;exact b pins s j H Q I (a F B H j y Q Q' h1 h2 h3)
theorem m'R:Sim K k (tOf K k pe) pe:=λF B H j y Q d c b a=>⟨F,B,y,d,c,b,a⟩
theorem QT.of(h:QT X k e pe):PT X e (aiw X.K k pe):=λpins s j H Q I ⟨F,B,y,Q',h1,h2,h3⟩=>by
 obtain⟨c,b,a⟩:=h.h;exact b pins s j H Q I (a F B H j y Q Q' h1 h2 h3)
theorem j'I:adY K k (aiw K k pe) pe:=λF B H j y Q d c b a=>⟨F,B,y,d,c,b,a⟩
theorem b'n(g:CallR X (.type T) r)(n:OpA X.K k r pr)(l:Gl X x)(j:X.mg x=none)(m:bootBuiltins x=some (.type T))(c:QA X k (e::es) ps)(b:x≠"__name__":=by decide)(a:(x == ("__debug__":Str))=false:=by decide)(he:starEach (e::es) X.env=(false,eval e X.env)::starEach es X.env:=by rfl)(hpl:(backTo pos (starEach es X.env)).any (·.1)=false:=by rfl):
  QE X k (.Call (.Name x p) (e::es) [] pos) (pB pr ps):=by
 obtain⟨o,f,d⟩:=c.h;exact⟨_,b'u g l j m f b a he hpl,m'L n d⟩
theorem d'H:QE X k (.Dict [] [] pos) agp:=⟨_,o'F,p's⟩
theorem w'B(h:QE X k e pe)(a:attributeBase e f X.env (eval e X.env)=eval e X.env:=by rfl):QE X k (.Attribute e f pos) (p1 (aej X.K f) pe):=by
 obtain⟨d,c,b⟩:=h.h;exact⟨_,j'A c a,t'g b⟩
theorem m'S(n:X.A.units+1<cLine)(p:QE X k o po)(he:QE X k e pe)(c:QE X k f pf)(m:M2 X o "get" apos e f cpos):QE X k (.Call (.Attribute o "get" apos) [e,f] [] cpos) (p3 afy po pe pf):=by
 obtain⟨q,b,a⟩:=p.h;obtain⟨s,g,d⟩:=he.h;obtain⟨r,j,l⟩:=c.h;exact⟨_,o'H n b g j m,p'v a d l⟩
structure QO(X:Cx)(k:Md)(e:Option Expr)(pe:PO'):Prop where
 h:∃te,PO X e te/\ahn X.K k te pe
theorem f'L:QO X k none poN:=⟨_,r'Z,u'T⟩
theorem d'I(h:QE X k e pe):QO X k (some e) (poS pe):=by
 obtain⟨c,b,a⟩:=h.h;exact⟨_,s'a b,u'U a⟩
theorem e'F{e:Expr}{pe:PE'}{l h:Option Expr}{pl a:PO'}{p2:Pos}(he:QE X k e pe)(g:QO X k l pl)(m:QO X k h a):QE X k (.Subscript e (.Slice l h none p2) pos) (pSl pe pl a):=by
 obtain⟨o,b,j⟩:=he.h;obtain⟨p,f,c⟩:=g.h;obtain⟨q,d,n⟩:=m.h;exact⟨_,o'J w'Y b f d,u'V j c n⟩
structure QG(X:Cx)(k:Md)(lo:Nat)(e:Expr)(pg:PG'):Prop where
 h:∃tg,PG X e tg/\agN X.K k lo tg pg
structure QGs(X:Cx)(k:Md)(lo:Nat)(es:List Expr)(pg:List Tr->List Tr->(List Tr->Prop)->Prop):Prop where
 h:∃tg,PGs X es tg/\aeX X.K k lo tg pg
theorem a'R(d:X.N.Nodup)(b:lo<=i)(a:X.N[i]?=some x)(c:Loc X.env.scope x)(e:X.fn x=true\/X.env.scope.names.lookup x=some .local:=by first |exact .inl rfl |exact .inr rfl |assumption):QG X k lo (.Name x pos) (pgN i):=⟨_,f'E d a c e,u'O b⟩
theorem b'F:QGs X k lo [] adk:=⟨_,j'l,m'M⟩
theorem a'B(h:QG X k lo e pg)(h':QGs X k lo es pr)(hs:(assignEach (e::es) X.env).map (·.2)=assign e X.env::(assignEach es X.env).map (·.2):=by rfl):QGs X k lo (e::es) (acH pg pr):=by
 obtain⟨f,b,a⟩:=h.h;obtain⟨g,d,c⟩:=h'.h;exact⟨_,h'n b d hs,l'n a c⟩
theorem d'J(a:X.calm=true)(h:QGs X k lo es pr)(b:(assignEach es X.env).length=n:=by rfl)(c:(assignEach es X.env).findIdx? (·.1)=none:=by rfl):QG X k lo (.Tuple es kk pos) (pgT n pr):=by
 obtain⟨f,e,d⟩:=h.h;exact⟨_,l'R a e b c,u'P d⟩
structure QI(X:Cx)(k:Md)(tg e:Expr)(pi:PI'):Prop where
 h:∃ti,PI X tg e ti/\afm X.K k ti pi
section
theorem b'd(h:QE X k l pl):QI X k tg l (piL pl):=by
 obtain⟨c,b,a⟩:=h.h;exact⟨_,r'N b,m'O a⟩
theorem e'j(b:Gl X "range")(a:X.mg "range"=none)(h:QA X k [l] ps)(hs:starEach [l] X.env=[(false,eval l X.env)]:=by rfl):QI X k tg (.Call (.Name "range" p) [l] [] pos) (air ps):=by
 obtain⟨e,d,c⟩:=h.h;exact⟨_,l'T b a d hs,t'a c⟩
theorem w'C(c:Gl X "range")(b:X.mg "range"=none)(h:QA X k [l,m] ps)(hs:starEach [l,m] X.env=[(false,eval l X.env),(false,eval m X.env)]:=by rfl)(a:starEach [m] X.env=[(false,eval m X.env)]:=by rfl):QI X k tg (.Call (.Name "range" p) [l,m] [] pos) (ais ps):=by
 obtain⟨f,e,d⟩:=h.h;exact⟨_,l'U c b e hs a,t'b d⟩
theorem h'Y(b:Gl X "enumerate")(a:X.mg "enumerate"=none)(h:QA X k [l] ps)(hs:starEach [l] X.env=[(false,eval l X.env)]:=by rfl):QI X k (.Tuple es x1 tpos) (.Call (.Name "enumerate" p) [l] [] pos) (piE ps):=by
 obtain⟨e,d,c⟩:=h.h;exact⟨_,s'p b a d hs,m'P c⟩
theorem h'Z(c:Gl X "zip")(b:X.mg "zip"=none)(h:QA X k [l,m] ps)(hs:starEach [l,m] X.env=[(false,eval l X.env),(false,eval m X.env)]:=by rfl)(a:starEach [m] X.env=[(false,eval m X.env)]:=by rfl):QI X k (.Tuple es x1 tpos) (.Call (.Name "zip" p) [l,m] [] pos) (piZ ps):=by
 obtain⟨f,e,d⟩:=h.h;exact⟨_,u'C c b e hs a,p'q d⟩
end
theorem a'h(d:X.N.Nodup)(b:lo<=i)(a:X.N[i]?=some x)(c:Loc X.env.scope x)(h:QE X k e pe)(hs:swapsWith e (some (.Name x pos')) pos.line X.env=pure false:=by rfl)(j:X.fn x=true\/X.env.scope.names.lookup x=some .local:=by first |exact .inl rfl |exact .inr rfl |assumption):
  QS X k lo (.Assign [.Name x pos'] e pos) (aft i pe):=by
 obtain⟨l,g,f⟩:=h.h;exact⟨_,e'X d a c g hs j,h'P b f⟩
theorem b'j(hp:PassesOwn (model X.prog X.w) X.A X.env X.xe)(d:X.calm=true)(a:QI X k tg iter pi)(f:QG X k lo tg pg)(g:QB X k lo body pb)(hs:∀x,foldedSetIterable iter X.env x=pure x:=by intro _;rfl):QS X k lo (.For tg iter body [] pos) (aiq pi pg pb):=by
 obtain⟨n,c,b⟩:=a.h;obtain⟨o,l,e⟩:=f.h;obtain⟨tb,j,m⟩:=g.h;exact⟨_,l'W hp d c l j hs,s'Y b e m⟩
theorem v'b(hz:k.z=true)(hp:PassesOwn (model X.prog X.w) X.A X.env X.xe)(m:X.calm=true)(q:QE X k o po)(d:QG X k.walk lo (.Tuple elts x1 tpos) pg)(l:QB X k.walk lo body pb)(b:attributeBase o "items" X.env (eval o X.env)=eval o X.env:=by rfl)(n:(apos.endLine == cpos.line)=true:=by rfl)(j:∀x,foldedSetIterable (.Call (.Attribute o "items" apos) [] [] cpos) X.env x=pure x:=by intro _;rfl):
  QS X k lo (.For (.Tuple elts x1 tpos) (.Call (.Attribute o "items" apos) [] [] cpos) body [] pos) (agr .it po pg pb):=by
 obtain⟨r,a,g⟩:=q.h;obtain⟨s,e,c⟩:=d.h;obtain⟨tb,p,f⟩:=l.h;exact⟨_,s'b hp m a e p b n j,p'u hz g c f⟩
theorem a't(i:Nat)(b:X.N[i]?=some x:=by rfl)(c:Vis X.env.scope x:=by first |exact Or.inl rfl |exact Or.inr (Or.inl rfl) |exact Or.inr (Or.inr rfl))(hd:(x == ("__debug__":Str))=false:=by decide)(a:(x == ("__classdict__":Str))=false:=by decide):PE X (.Name x pos) (tR X.K i []):=e'W b c hd a
theorem c'l(hp:PE X o (tR X.K i r))(h:QE X k e pe)(g:attributeBase o "append" X.env (eval o X.env)=eval o X.env:=by rfl)(f:(((backTo cpos (starEach [e] X.env)).all (!·.1)&&(backToKw cpos (keywordEach [] X.env)).all (·.1.isSome))&&decide (([e].length+([]:List Keyword).length+if ([]:List Keyword).isEmpty=true then 0 else 1)<30))=true:=by rfl)(d:(apos.endLine == cpos.line)=true:=by rfl)(a:starEach [e] X.env=(false,eval e X.env)::starEach [] X.env:=by rfl)(hs:swapsWith (.Call (.Attribute o "append" apos) [e] [] cpos) none spos.line X.env=pure false:=by rfl):
  QS X k lo (.Expr (.Call (.Attribute o "append" apos) [e] [] cpos) spos) (ait X.K i r pe):=by
 obtain⟨j,c,b⟩:=h.h;exact⟨_,c'o (w's PySem.F.plainAttrs_list slot_list_append type_list_append m'f hp (b's c b'J a) g f d a rfl) hs,t'c b⟩
theorem d'K(hp:PE X o (tR X.K i r))(b:QE X k j pj)(h:QE X k e pe)(d:∀v,assign (.Subscript o j pos') X.env v=(do
   let ov <- holding [v] (eval o X.env)
   let iv <- holding [v,ov] (eval j X.env)
   standAt pos'
   holding [v,ov,iv] (setItem ov iv v)
   release [v,ov,iv] []):=by intro _;rfl)(l:swapsWithSole [.Subscript o j pos'] e pos.line X.env=pure false:=by rfl)(g:swappedStores [.Subscript o j pos'] e X.env=pure none:=by rfl)(f:(assignEach [.Subscript o j pos'] X.env).map (·.2)=[assign (.Subscript o j pos') X.env]:=by rfl):
  QS X k lo (.Assign [.Subscript o j pos'] e pos) (ago X.K i r pj pe):=by
 obtain⟨p,c,a⟩:=h.h;obtain⟨q,m,n⟩:=b.h;exact⟨_,u'f c (u'e hp m o'K d) l g f,p'r a n⟩
theorem h'j(g:X.A.units+1<cLine)(hp:PE X o (tR X.K i r))(b:QE X k j pj)(h:QE X k e pe)(hs:swapsWith e (some (.Subscript o j pos')) pos.line X.env=pure false:=by rfl):QS X k lo (.Assign [.Subscript o j pos'] e pos) (aiu X.K i r pj pe):=by
 obtain⟨l,c,a⟩:=h.h;obtain⟨m,d,f⟩:=b.h;exact⟨_,j'q g hp d c hs,t'd a f⟩
theorem c'y(hp:PE X o (tR X.K i r))(h:QE X k e pe)(hs:swapsWith e (some (.Attribute o f pos')) pos.line X.env=pure false:=by rfl):QS X k lo (.Assign [.Attribute o f pos'] e pos) (agq X.K i r f pe):=by
 obtain⟨c,b,a⟩:=h.h;exact⟨_,e'Z hp b hs,p't a⟩
structure QGq(X:Cx)(scope:Scope)(N:List Str)(js:List Nat)(e:Expr)(pg:PG'):Prop where
 h:∃tg,(∀C s H fp pl,PG (acj X scope N C s H fp pl) e tg)/\aho X.K js tg pg
structure ahY(X:Cx)(scope:Scope)(N:List Str)(js:List Nat)(es:List Expr)(pg:List Tr->List Tr->(List Tr->Prop)->Prop):Prop where
 h:∃tg,(∀C s H fp pl,PGs (acj X scope N C s H fp pl) es tg)/\aeZ X.K js tg pg
section
theorem a'D(c:N.Nodup)(b:N[i]?=some x)(a:∀C s H fp pl,(acj X scope N C s H fp pl).env.scope.names.lookup x=some .local:=by intros;rfl):QGq X scope N [i] (.Name x pos) (pgN i):=⟨_,λC s H fp pl=>f'E (X:=acj X scope N C s H fp pl) c b (.inl (a C s H fp pl)) (.inr (a C s H fp pl)),u'W⟩
theorem c'r:ahY X scope N [] [] adk:=⟨_,λ_ _ _ _ _=>j'l,p'w⟩
theorem a'S(h:QGq X scope N js e pg)(h':ahY X scope N ks es pr)(hs:∀C s H fp pl,(assignEach (e::es) (acj X scope N C s H fp pl).env).map (·.2)=assign e (acj X scope N C s H fp pl).env::(assignEach es (acj X scope N C s H fp pl).env).map (·.2):=by intros;rfl):ahY X scope N (js++ks) (e::es) (acH pg pr):=by
 obtain⟨f,b,a⟩:=h.h;obtain⟨g,d,c⟩:=h'.h;exact⟨_,λC s H fp pl=>h'n (b C s H fp pl) (d C s H fp pl) (hs C s H fp pl),m'Q a c⟩
theorem f'M(d:X.calm=true)(h:ahY X scope N js es pr)(a:∀C s H fp pl,(assignEach es (acj X scope N C s H fp pl).env).length=n:=by intros;rfl)(e:∀C s H fp pl,(assignEach es (acj X scope N C s H fp pl).env).findIdx? (·.1)=none:=by intros;rfl):QGq X scope N js (.Tuple es kk pos) (pgT n pr):=by
 obtain⟨f,c,b⟩:=h.h;exact⟨_,λC s H fp pl=>l'R (X:=acj X scope N C s H fp pl) d (c C s H fp pl) (a C s H fp pl) (e C s H fp pl),u'X b⟩
structure QTs(Y:Cx)(k:Md)(es:List Expr)(pt:PB'):Prop where
 h:PTs Y es (aiw Y.K k pt)
theorem a'v:QTs X k [] ahp:=⟨λpins s j H Q I ⟨F,B,y,Q',h1,h2,h3⟩=>s'k pins s j H Q I (t'h (k:=k) F B H j y Q Q' h1 h2 h3)⟩
theorem e'k{e:Expr}{pt:PB'}(h:QT X k e pt):QTs X k [e] pt:=⟨j'x h.of⟩
variable{elt target iter:Expr}{ifs:List Expr}{ix:List (Option Nat)}{pi:PI'}{pg:PG'}{pt:PB'}{pe:PE'}{js:List Nat}
theorem a'P(u:X.calm=true)(p:QI X k target iter pi)(o:QGq X a N js target pg)(m:∀C s H fp pl,QTs (acj X a N C s H fp pl) k.mute ifs pt)(he:∀C s H fp pl,QE (acj X a N C s H fp pl) k.mute elt pe)(f:PickOk X a N ix)(q:∀j∈js,ix[j]?=some none:=by decide)(c:a.kind=.function:=by rfl)(d:∀y∈a.names,y.2≠.cell:=by decide)(b:∀x∈a.names,x.2=.local->a.names.lookup x.1=some .local:=by decide)(e:adN a X.env=true:=by rfl)(hs:∀x,foldedSetIterable iter X.env x=pure x:=by intro _;rfl):
  QE X k (.ListComp elt [⟨target,iter,ifs,0⟩] a pos) (afz pi pg pt pe ix):=by
 obtain⟨v,g,r⟩:=p.h;obtain⟨w,n,l⟩:=o.h;exact⟨_,j'y u g n (λC s H fp pl=>(m C s H fp pl).h) (λC s H fp pl=>(he C s H fp pl).of) f c d b e hs,h'W r l j'I m'R q⟩
theorem b'G(m:X.N.Nodup)(v:lo<=i)(g:X.N[i]?=some y)(A:Loc X.env.scope y)(B:X.calm=true)(u:QI X k target iter pi)(r:QGq X a N js target pg)(p:∀C s H fp pl,QTs (acj X a N C s H fp pl) k.mute ifs pt)(he:∀C s H fp pl,QE (acj X a N C s H fp pl) k.mute elt pe)(l:PickOk X a N ix)(w:∀j∈js,ix[j]?=some none:=by decide)(f:swapsWith (.ListComp elt [⟨target,iter,ifs,0⟩] a pos) (some (.Name y py)) spos.line X.env=pure true:=by with_unfolding_all rfl)(c:a.kind=.function:=by rfl)(d:∀y∈a.names,y.2≠.cell:=by decide)(b:∀x∈a.names,x.2=.local->a.names.lookup x.1=some .local:=by decide)(e:adN a X.env=true:=by rfl)(hs:∀x,foldedSetIterable iter X.env x=pure x:=by intro _;rfl)(D:X.fn y=true\/X.env.scope.names.lookup y=some .local:=by first |exact .inl rfl |exact .inr rfl |assumption):
  QS X k lo (.Assign [.Name y py] (.ListComp elt [⟨target,iter,ifs,0⟩] a pos) spos) (aft i (afz pi pg pt pe ix)):=by
 obtain⟨E,n,z⟩:=u.h;obtain⟨G,q,o⟩:=r.h;exact⟨_,s'm m g A B n q (λC s H fp pl=>(p C s H fp pl).h) (λC s H fp pl=>(he C s H fp pl).of) l f c d b e hs D,h'P v (h'W z o j'I m'R w)⟩
end
end
section
theorem Lk.md(L:Lk K k lo us Fb Hb D D')(hz:k.z=true->k'.z=true)(x:∀b f e d,k.q b->Gr Fb Hb e d->k.E f b none d):Lk K k' lo us Fb Hb D D':=
 ⟨λF H j y a W=>L.nx F H j y a (W.md hz x),λF H j y a v t c W=>L.rt F H j y a v t c (W.md hz x),λF H j y a W=>L.bk F H j y a (W.md hz x),λF H j y a W=>L.ct F H j y a (W.md hz x)⟩
def ae0(q:Value->Prop)(C:Addr)(pe:PE'):PS':=λ_ j=>pe (j.map lend) λ_=>q (.ref C)
theorem m'T(h:Sim K ⟨z,λ_=>E,q⟩ te pe):acS K ⟨z,λ_=>E,q⟩ lo (afR C E te) (ae0 q C pe):=λus e d F H j y f D l W p L=>
 h F (Bq d H) H j _ _ _ W.cxt p λt v a b c q o=>W.x (.ref C) j a b q (W.g.trans' o.g)
theorem Wld.unset{i:Nat}(W:Wld K k lo us Fb Hb F H y G cs)(w:lo<=i):Wld K k lo us Fb Hb F H (y.set i none) (G.set i .hole) (λj=>if j=i then [] else cs j) where
 g:=W.g
 z:=W.z
 l:=by rw[length_set,length_set];exact W.l
 e:=λj u h=>by
  by_cases e:j=i
  .subst e;have s:j<G.length:=by have:=(List.getElem?_eq_some_iff.mp h).1;rw[length_set] at this;exact this
   rw[getElem?_set_self s] at h;cases h;exact .inl rfl
  .rw[getElem?_set_ne (λz=>e z.symm)] at h;rw[if_neg e];exact (W.e j u h).imp id λ⟨v,h1,h2⟩=>⟨v,by rw[getElem?_set_ne (λz=>e z.symm)];exact h1,h2⟩
 c:=λj=>by
  split
  .exact .nil
  .exact W.c j
 n:=λj=>by
  split
  .exact .nil
  .exact W.n j
 d:=λa b ne p f q m=>by
  by_cases r:a=i
  .rw[if_pos r] at f;cases f
  .rw[if_neg r] at f;by_cases o:b=i
   .rw[if_pos o] at m;cases m
   .rw[if_neg o] at m;exact W.d a b ne p f q m
 p:=λj h=>by rw[getElem?_set_ne (by omega)];exact W.p j h
 x:=W.x
def Pd.less(D:Pd)(i:Nat):Pd:={ nx:=λj=>D.nx (j.set i .hole),rt:=D.rt,bk:=λj=>D.bk (j.set i .hole),ct:=λj=>D.ct (j.set i .hole) }
theorem Lk.less(b:lo<=i)(L:Lk K k lo us Fb Hb D D'):Lk K k lo us Fb Hb (D.less i) (D'.less i):=
 ⟨λF H j y a W q=>L.nx F H _ _ _ (W.unset b) q,λF H j y a v t c W r f n d e q=>L.rt F H j y a v t c W r f n d e q,λF H j y a W q=>L.bk F H _ _ _ (W.unset b) q,λF H j y a W q=>L.ct F H _ _ _ (W.unset b) q⟩
def aix(K:W.Frag)(k:Md)(lo:Nat)(d:PS'):TS:=λD j H=>∃(us:List V)(c a F:Hp)(y:List Tr)(e:Nat->Cs)(b:Pd),Wld K k lo us c a F H j y e/\d b y/\Lk K k lo us c a D b
theorem QB.of(h:QB X k lo sts ps):PSs X sts (aix X.K k lo ps):=λpins s j H D I ⟨us,Fb,Hb,F,y,cs,D',h1,h2,h3⟩=>by
 obtain⟨c,b,a⟩:=h.h;exact b pins s j H D I (a us Fb Hb F H j y cs D D' h1 h2 h3)
theorem j'J:acS K k lo (aix K k lo ps) ps:=λus g b F H j y e D f d c a=>⟨us,g,b,F,y,e,f,d,c,a⟩
def Snd(K:W.Frag)(k:Md)(lo:Nat)(o:TE->TS)(m:PE'->PS'):Prop:=∀(us:List V)(f a F H:Hp)(j:St)(y:List Tr)(n:Nat->Cs)(D:Ends)(h:Pd)(b:TE)(g:PE'),Wld K k lo us f a F H j y n->Lk K k lo us f a D h->(∀Q d,g (y.map lend) d->(∀t v l e c,d t->Out K F (Bq a H) H l e t v c->Q v e)->b j H Q)->m g h y->o b D j H
theorem i'a:Snd K k lo aeH afs:=λus e l F H j y m D n d f W L h p=>h _ _ p λt v a b c q o=>L.nx a b _ _ _ (W.gr o.g) q
def tTr(K:W.Frag)(z:Bool)(pe:(Value->Prop)->PE')(R':St->XK):TE:=λj H Q=>∃q,tOf K ⟨z,R',q⟩ (pe q) j H Q
theorem q'y{pe:(Value->Prop)->PE'}(h:∀q,QE X ⟨z,R',q⟩ e (pe q)):PE X e (tTr X.K z pe R'):=λpins s j H Q I ⟨q,h'⟩=>(h q).of pins s j H Q I h'
@[reducible] def ahZ(K:W.Frag)(C:Addr)(a:Value):Prop:=W.exmOne K a (.ref C)=some true
def ae1(K:W.Frag)(C:Addr)(i:Nat)(b:PE'->PS')(pe:(Value->Prop)->PE')(c:PS'):PS':=λD j=>b (pe λa=>ahZ K C a/\∃B,a=.ref B/\c (D.less i) (j.set i (.exc B))) D j
theorem m'U{f:TE->TS}(n:lo<=i)(r:Snd K k lo f pS)(E:acS K k.mute lo th ph):acS K k lo (afT K C i (λR'=>f (tTr K k.z pe R')) th) (ae1 K C i pS pe ph):=λus l a F H j G Y D D' W p L=>
 r us l a F H j G Y D D' _ _ W L (λQ J O q=>⟨_,F,Bq a H,_,J,⟨W.cxt.s,W.cxt.b,W.cxt.z,W.cxt.e,λw F' H' d g=>⟨d.1,by
  obtain⟨_,B,rfl,U⟩:=d;refine⟨B,rfl,λy I=>?_⟩;obtain⟨N,u,A⟩:=al2 (o:=exO y B) g.s (by intro _ _ z;cases z) I;have M:=((W.gr g).gr u).set n (t:=.exc B) (v:=.ref y) (c:=[]) ⟨rfl,y,rfl,.inl A⟩ .nil .nil λ_ _ _ _ _ m=>nomatch m
  exact E us l a N _ _ _ _ _ _ (M.md id λ_ _ _ _ h=>h.elim) U ((L.less n).md id W.x)⟩⟩,O,q⟩) p
end
section
theorem b'a(h:adT (CX1 X.prog X.w) X E):∀j,acF (CX1 X.prog X.w) X j E:=λj pins H s e a I c=>h pins j H s e a I c
theorem a'N{psp:adM}(G:FnOk X.prog X.w X.K X.mg X.base (CX1 X.prog X.w) m f fd pn (spX X.K z 0 n psp))(l:∀j,acF (CX1 X.prog X.w) X j (k.E j))(v:z=true->k.z=true)(J:∀xs Q q,psp xs Q q->xs.length=n)(I:Room m X.A)(C:Gl X x)(D:X.mg x=some (.ref f))(d:W.keepIn X.K (.ref f)=true)(M:Binds X.K fd pn [])(o:QA X k (e::es) ps)(a:(x == ("__debug__":Str))=false:=by decide)(he:starEach (e::es) X.env=(false,eval e X.env)::starEach es X.env:=by rfl)(hpl:(backTo pos (starEach es X.env)).any (·.1)=false:=by rfl):
  QE X k (.Call (.Name x p) (e::es) [] pos) (ad7 k.q psp ps):=by
 obtain⟨O,r,L⟩:=o.h;exact⟨_,o'X G I C D d M .nil l r a he hpl,g'C (λF B H j y c b s u N g=>c.x b s u N g) v J L⟩
theorem t'j(hs:X.stack=X.env::X.outer)(m:X.env.frame=some X.env.locals)(e:X.ex=[])(c:Xe1 X E)(a:X.calm=true)(n:Gl X x)(l:X.mg x=some (.ref C))(FB:ExcBaseFacts B newId initId bmB)(j:W.excIn X.K C bmB newId=true)(he:QE X ⟨z,λ_=>E,q⟩ e₀ pe)(b:(x == ("__debug__":Str))=false:=by decide)(d:starEach [e₀] X.env=(false,eval e₀ X.env)::starEach [] X.env:=by rfl)(hpl:(backTo cpos (starEach [] X.env)).any (·.1)=false:=by rfl):
  QS X ⟨z,λ_=>E,q⟩ lo (.Raise (some (.Call (.Name x np) [e₀] [] cpos)) none pos) (ae0 q C pe):=by
 obtain⟨o,g,f⟩:=he.h;exact⟨_,o'W hs m e c a n l FB j g b d hpl,m'T f⟩
section
theorem t'k(hs:X.stack=X.env::X.outer)(u:X.env.frame=some X.env.locals)(l:Gl X x)(h:X.mg x=some (.ref C))(g:X.N.Nodup)(o:lo<=i)(m:X.N[i]?=some n)(p:X.env.scope.names.lookup n=some .local)(d:Snd X.K k lo tS pS)(r:∀pn xe c,PE (X.kept2 pn xe) e c->PS (X.kept2 pn xe) st (tS c))(he:∀(pn:List (Addr×Obj))(xe:Value->Shared->Prop)(R':St->XK),(∀j,acF (CX1 X.prog X.w) (X.kept2 pn xe) j (R' j))->∀q,QE (X.kept2 pn xe) ⟨k.z,R',q⟩ e (pe q))(s:∀v:Value,QB (X.inHandler v) k.mute lo (a::suite) ph)(b:(x == ("__debug__":Str))=false:=by decide):
  QS X k lo (.Try [st] [.ExceptHandler (some (.Name x np)) (some n) (a::suite) hpos] [] [] pos) (ae1 X.K C i pS pe ph):=
 ⟨_,o'Z hs u l h g m p (λpn xe R' f=>e'b (r pn xe _ (q'y (he pn xe R' f)))) (λv=>(s v).of) b,m'U o d j'J⟩
end
end
section
theorem f'N:OpR X (compareOp .IsNot) (λx y H Q=>((∃d,y=.bl d)\/y=.non)/\Q (.bl (!decide (x=y))) H):=by
 intro pins s j H x y v u Q I a b h;obtain⟨e,q⟩:=h;rcases e with⟨d,rfl⟩ |rfl
 .cases b;cases x with
  |bl c=>cases a;exact PyProof.Rows.isnot_bool (a'n I q (by cases c<;>cases d<;>rfl))
  |_=>first
   |(cases a;exact wpAny_pure (a'n I q rfl))
   |(obtain⟨t,rfl⟩:=a;exact wpAny_pure (a'n I q rfl))
 .exact r'O pins s j H x _ v u Q I a b ⟨rfl,q⟩
end
section
def isT:Tr->Tr->Bool
 |.bl c,.bl d=>c == d
 |.non,.non=>true
 |_,_=>false
def ah0(neg:Bool)(x y:Tr)(Q:Tr->Prop):Prop:=match y with
 |.bl d=>Q (.bl (neg ^^ isT x (.bl d)))
 |.non=>Q (.bl (neg ^^ isT x .non))
 |_=>False
theorem R.ref(r:R K F B t v c):(∃b,t=.bl b/\v=.bl b)\/(t=.non/\v=.non)\/(∀d,isT t (.bl d)=false/\isT t .non=false/\v≠.bl d/\v≠.non):=by
 cases t with
 |bl b=>exact .inl ⟨b,rfl,r.1⟩
 |non=>exact .inr (.inl ⟨rfl,r.1⟩)
 |hole=>exact (show False from r).elim
 |int n=>exact .inr (.inr λd=>⟨rfl,rfl,(by rw[r.1];intro z;cases z),(by rw[r.1];intro z;cases z)⟩)
 |str n=>exact .inr (.inr λd=>⟨rfl,rfl,(by rw[r.1];intro z;cases z),(by rw[r.1];intro z;cases z)⟩)
 |ty n=>exact .inr (.inr λd=>⟨rfl,rfl,(by rw[r.1];intro z;cases z),(by rw[r.1];intro z;cases z)⟩)
 |cl n=>exact .inr (.inr λd=>⟨rfl,rfl,(by rw[r.1];intro z;cases z),(by rw[r.1];intro z;cases z)⟩)
 |exc n=>obtain⟨_,a,rfl,_⟩:=r;exact .inr (.inr λd=>⟨rfl,rfl,(by intro z;cases z),(by intro z;cases z)⟩)
 |tup e=>obtain⟨a,vs,rfl,_⟩:=r;exact .inr (.inr λd=>⟨rfl,rfl,(by intro z;cases z),(by intro z;cases z)⟩)
 |lst f e=>
  cases f with
  |o=>obtain⟨a,vs,g,rfl,_⟩:=r;exact .inr (.inr λd=>⟨rfl,rfl,(by intro z;cases z),(by intro z;cases z)⟩)
  |f=>obtain⟨_,a,vs,rfl,_⟩:=r;exact .inr (.inr λd=>⟨rfl,rfl,(by intro z;cases z),(by intro z;cases z)⟩)
  |l b=>obtain⟨_,a,vs,rfl,_⟩:=r;exact .inr (.inr λd=>⟨rfl,rfl,(by intro z;cases z),(by intro z;cases z)⟩)
 |dic f e=>
  cases f with
  |o=>obtain⟨a,vs,g,rfl,_⟩:=r;exact .inr (.inr λd=>⟨rfl,rfl,(by intro z;cases z),(by intro z;cases z)⟩)
  |f=>obtain⟨_,a,vs,rfl,_⟩:=r;exact .inr (.inr λd=>⟨rfl,rfl,(by intro z;cases z),(by intro z;cases z)⟩)
  |l b=>obtain⟨_,a,vs,rfl,_⟩:=r;exact .inr (.inr λd=>⟨rfl,rfl,(by intro z;cases z),(by intro z;cases z)⟩)
 |ins f c e=>
  cases f with
  |o=>obtain⟨a,h,vs,g,rfl,_⟩:=r;exact .inr (.inr λd=>⟨rfl,rfl,(by intro z;cases z),(by intro z;cases z)⟩)
  |f=>obtain⟨_,a,h,vs,rfl,_⟩:=r;exact .inr (.inr λd=>⟨rfl,rfl,(by intro z;cases z),(by intro z;cases z)⟩)
  |l b=>obtain⟨_,a,h,vs,rfl,_⟩:=r;exact .inr (.inr λd=>⟨rfl,rfl,(by intro z;cases z),(by intro z;cases z)⟩)
theorem v'c(r:R K F B t v c)(d:Bool):decide (v=.bl d)=isT t (.bl d):=by
 rcases r.ref with⟨b,rfl,rfl⟩ |⟨rfl,rfl⟩ |h
 .cases b<;>cases d<;>rfl
 .rfl
 .rw[(h d).1];exact decide_eq_false (h d).2.2.1
theorem t'l(r:R K F B t v c):decide (v=.non)=isT t .non:=by
 rcases r.ref with⟨b,rfl,rfl⟩ |⟨rfl,rfl⟩ |h
 .rfl
 .rfl
 .rw[(h true).2.1];exact decide_eq_false (h true).2.2.2
theorem d'L:Op2 K k (λx y H Q=>((∃d,y=.bl d)\/y=.non)/\Q (.bl (!decide (x=y))) H) (ah0 true):=λF B H x y h ty l g Q f s b z c a e j hd p q=>by
 unfold ah0 at p;split at p
 .obtain⟨rfl,_⟩:=a;refine⟨.inl ⟨_,rfl⟩,?_⟩;rw[v'c c];rw[Bool.true_xor] at p;exact q _ _ F H [] p (Gr.refl' s) ⟨rfl,rfl⟩ .nil λ_ m=>nomatch m
 .obtain⟨rfl,_⟩:=a;refine⟨.inr rfl,?_⟩;rw[t'l c];rw[Bool.true_xor] at p;exact q _ _ F H [] p (Gr.refl' s) ⟨rfl,rfl⟩ .nil λ_ m=>nomatch m
 .exact p.elim
theorem Rs.bls:∀{bs:List Bool}{vs:List V}{c:Cs},Rs K F B (bs.map .bl) vs c->vs=bs.map V.bl
 |[],_,_,y=>by obtain⟨h,_⟩:=y;exact h
 |b::bs,_,_,y=>by obtain⟨v,r,c,d,e,g,a,f⟩:=y;rw[e,Rs.bls f,a.1];rfl
def ajf(all:Bool)(a:List Tr)(Q:Tr->Prop):Prop:=match a with
 |[.lst _ xs]=>∃bs:List Bool,xs=bs.map .bl /\ Q (.bl (if all=true then bs.all id else bs.any id))
 |_=>False
theorem t'm:OpA K k (λxs H Q=>∃(a:Addr)(bs:List Bool),xs=[.ref a]/\SqL K H a (bs.map V.bl)/\Q (.bl (bs.any id)) H) (ajf false):=λF B H xs f j Q g s b z r d p q=>by
 unfold ajf at p;split at p
 .obtain⟨v,rfl,r1⟩:=r.one;obtain⟨a,vs,h,rfl,c,e,_⟩:=r1.lstH s b d;obtain⟨bs,rfl,p⟩:=p;rw[e.bls] at c;exact⟨a,bs,rfl,c,q _ _ F H [] p (Gr.refl' s) ⟨rfl,rfl⟩ .nil λ_ m=>nomatch m⟩
 .exact p.elim
def aiy(K:W.Frag)(a:List Tr)(Q:Tr->Prop):Prop:=match a with
 |[.exc D,c]=>(match clT c with |some u=>∃b,ExcK K D /\ W.kitOne K (.ref D) u=some b /\ Q (.bl b) |none=>False)
 |_=>False
theorem w'D(r:R K F B t v c)(h:clT t=some u):aie v=some u:=by
 unfold clT at h;split at h
 .cases h;rw[r.1];rfl
 .cases h;rw[r.1];rfl
 .cases h
theorem t'n:OpA K k (λxs H Q=>∃x D c b u,xs=[.ref x,c]/\Rd H x (exO x D)/\ExcK K D/\aie c=some u/\W.kitOne K (.ref D) u=some b/\Q (.bl b) H) (aiy K):=λF B H xs j A Q l s b z r y p q=>by
 unfold aiy at p;split at p
 .split at p
  .rename_i D c _ u hu;obtain⟨v,w,n,o,rfl,d,r2,rfl⟩:=r.two;obtain⟨_,a,rfl,g⟩:=d;obtain⟨e,h,f,p⟩:=p;exact⟨a,D,w,e,u,rfl,(Le.of s).exc g,h,w'D r2 hu,f,q _ _ F H [] p (Gr.refl' s) ⟨rfl,rfl⟩ .nil λ_ m=>nomatch m⟩
  .exact p.elim
 .exact p.elim
theorem w'Z(a:List Tr)(e:Gl X x)(b:X.mg x=some (.ref c))(d:∃(o:Obj)(its:Array Value)(n:Nat),X.K.lookup c=some o/\o.cls=.type "tuple"/\o.data=.seq its n/\its.size<=sizeLine/\Vals vs its.toList)(f:∀F B,Rs X.K F B a vs [])(hd:(x == ("__debug__":Str))=false:=by decide):QE X k (.Name x pos) (pC (.tup a)):=
 f'm (.ref c) e b rfl (λF B=>⟨c,vs,rfl,.inr d,f F B⟩) hd
theorem j'K:∀(a:List Int),Rs K F B (a.map .int) (a.map V.int) []
 |[]=>⟨rfl,rfl⟩
 |i::a=>⟨.int i,a.map V.int,[],[],rfl,rfl,⟨rfl,rfl⟩,j'K a⟩
theorem b'k(a:List Int)(b:Gl X x)(e:X.mg x=some (.ref c))(d:∃(o:Obj)(its:Array Value)(n:Nat),X.K.lookup c=some o/\o.cls=.type "tuple"/\o.data=.seq its n/\its.size<=sizeLine/\Vals (a.map V.int) its.toList)(hd:(x == ("__debug__":Str))=false:=by decide):QE X k (.Name x pos) (pC (.tup (a.map .int))):=
 w'Z _ b e d (λ_ _=>j'K a) hd
theorem c'O(b:Gl X x)(a:X.mg x=some (.int i t))(hd:(x == ("__debug__":Str))=false:=by decide):QE X k (.Name x pos) (pC (.int i)):=f'm (.int i) b a ⟨_,rfl⟩ (λ_ _=>⟨rfl,rfl⟩) hd
theorem v'd(b:Gl X x)(a:X.mg x=some (.str i t))(hd:(x == ("__debug__":Str))=false:=by decide):QE X k (.Name x pos) (pC (.str i)):=f'm (.str i) b a ⟨_,rfl⟩ (λ_ _=>⟨rfl,rfl⟩) hd
theorem p'x(b:Gl X x)(a:X.mg x=some (.ref c))(hd:(x == ("__debug__":Str))=false:=by decide):QE X k (.Name x pos) (pC (.cl c)):=f'm (.ref c) b a rfl (λ_ _=>⟨rfl,rfl⟩) hd
def aey:List (PE'×PE')->List Tr->(List (Key×Tr)->Prop)->Prop
 |[],_,Q=>Q []
 |(pk,pv)::r,j,Q=>pk j λx=>aeK x λy=>pv j λt=>aey r j λm=>Q ((y,t)::m)
def ahq(K:W.Frag)(k:Md)(d:List (TE×TE))(f:List (PE'×PE')):Prop:=∀(F:Hp)(B:Bool->Hp)(H:Hp)(j:St)(y:List Tr)(Q:List (V×V)->Hp->Prop)(e:List (Key×Tr)->Prop),Cxt K k F B H j y->aey f y e->
 (∀m vs a b c,e m->m.length=f.length->Gr F H a b->Rk K a B m vs c->Cells a b c->New H c->Q (vs.map λg=>(kV g.1,g.2)) b)->aev d j H Q
theorem p'y:ahq K k [] []:=λF B H j y Q a c p q=>q [] [] F H [] p rfl (Gr.refl' c.s) ⟨rfl,rfl⟩ .nil .nil
theorem w'E(r:R K F B t v c)(h:ahi t=some y):v=kV y:=by
 unfold ahi at h;split at h<;>cases h
 .exact r.1
 .exact r.1
theorem m'V{s C:TE}{f:List (TE×TE)}{D pv:PE'}{A:List (PE'×PE')}(O:Sim K k s D)(I:Sim K k C pv)(h:ahq K k f A):ahq K k ((s,C)::f) ((D,pv)::A):=λF B H j G Q Q' c p q=>by
 refine O F B H j G _ _ c p λx v U J c1 p1 d=>?_
 unfold aeK at p1;split at p1
 .rename_i y hy;refine I U B J j G _ _ (c.gr d.g) p1 λt u N H2 E p2 b=>?_
  refine h N B H2 j G _ _ ((c.gr d.g).gr b.g) p2 λm vs Y H3 o p3 L l r3 M w=>?_
  have e:=w'E d.r hy;rw[e];have:=q ((y,t)::m) ((y,u)::vs) Y H3 (E++o) p3 (by rw [length_cons,length_cons,L]) ((d.g.trans' b.g).trans' l) ⟨u,vs,E,o,rfl,rfl,b.r.mo l.le (λk=>Le.refl (B k)) t,r3⟩ ((b.c.gr l).app M λp a q mq z=>by have:=b.c.h p a;rw [z,w q mq] at this;cases this) (λp a=>by
   rcases mem_append.mp a with a |a
   .exact d.g.h.free (b.n p a)
   .exact (d.g.trans' b.g).h.free (w p a))
  exact this
 .exact p1.elim
end
theorem p'z{a:List (Key×V)}{y:Key}{v:V}(h:y ∉ a.map (·.1)):adK a y v=a++[(y,v)]:=by
 unfold adK;rw[if_neg];rw[any_eq_true];rintro⟨p,m,e⟩;exact h (mem_map.mpr ⟨p,m,of_decide_eq_true e⟩)
theorem g'F:∀(b a:List (Key×V)),((a++b).map (·.1)).Nodup->adA a b=a++b
 |[],a,_=>by rw[append_nil];rfl
 |p::r,a,h=>by
  have e:adK a p.1 p.2=a++[p]:=p'z λm=>by
   rw[map_append,nodup_append] at h;exact h.2.2 _ m _ (mem_map.mpr ⟨p,.head _,rfl⟩) rfl
  show adA (adK a p.1 p.2) r=_;rw[e,g'F r (a++[p]) (by rw[append_assoc];exact h),append_assoc];rfl
section
theorem Rk.fst:∀{m:List (Key×Tr)}{vs:List (Key×V)}{c:Cs},Rk K F B m vs c->vs.map (·.1)=m.map (·.1)
 |[],_,_,y=>by obtain⟨h,_⟩:=y;rw[h];rfl
 |(y,x)::m,_,_,y0=>by obtain⟨v,r,c,d,a,f,e,b⟩:=y0;rw[a,map_cons,map_cons,Rk.fst b]
def ags(a:List (PE'×PE')):PE':=λj Q=>aey a j λm=>(m.map (·.1)).Nodup/\Q (.dic .o m)
theorem p'A(h:ahq K k trs ps)(I:ps.length<=15):Sim K k (ag2 trs) (ags ps):=λF B H j v Q Y c p q b l=>by
 have M:Gr F H F (upd H b (.dK [])):=Gr.own1 c.s l;refine h F B _ j v _ _ (c.gr M) p λm vs D G E p1 U g A w r=>?_
 have J:G b=some (.dK []):=g.h _ _ a'g;have L:adA [] vs=vs:=g'F vs [] (by rw[List.nil_append,A.fst];exact p1.1);have O:vs.length=m.length:=by have:=congrArg List.length A.fst;rw[length_map,length_map] at this;exact this
 refine⟨J,vs,rfl,by omega,?_⟩;rw[L];have C:D b=none:=by
  cases z:D b with
  |none=>rfl
  |some u=>
   have y:=g.n b u z (c.s.free l);rw[a'g] at y;cases y
 refine q (.dic .o m) (.ref b) D (upd G b (.dK vs)) ((b,.dK vs)::E) p1.2 ⟨Gr.of ⟨λa o e=>?_,g.f,λa o e=>?_,λa u e z=>?_⟩ g.z,⟨b,vs,E,rfl,rfl,A,p1.1⟩,⟨λx d=>?_,λx d=>?_,?_⟩,λx d=>?_⟩
 .have ne:a≠b:=λz=>by rw[z,l] at e;cases e
  rw[a'e ne];exact g.h a o (by rw[a'e ne];exact e)
 .have ne:a≠b:=λz=>by rw[z,C] at e;cases e
  rw[a'e ne];exact g.s a o e
 .have y:=g.n a u e z;have ne:a≠b:=λz=>by rw[z,C] at e;cases e
  rw[a'e ne] at y;exact y
 .cases d with
  |head=>exact a'g
  |tail _ d=>
   have ne:x.1≠b:=λz=>by have:=r x d;rw[z,a'g] at this;cases this
   rw[a'e ne];exact w.h x d
 .cases d with
  |head=>exact C
  |tail _ d=>exact w.f x d
 .rw[map_cons,nodup_cons];refine⟨λN=>?_,w.nd⟩;obtain⟨x,d,e⟩:=mem_map.mp N;have:=r x d;have e:x.1=b:=e;rw[e,a'g] at this;cases this
 .cases d with
  |head=>exact l
  |tail _ d=>
   have ne:x.1≠b:=λz=>by have:=r x d;rw[z,a'g] at this;cases this
   have:=r x d;rw[a'e ne] at this;exact this
end
section
structure QP(X:Cx)(k:Md)(pos:Pos)(keys:List (Option Expr))(values:List Expr)(ps:List (PE'×PE')):Prop where
 h:∃trs,PPs X pos keys values trs/\ahq X.K k trs ps
theorem v'e:QP X k pos [] [] []:=⟨_,r'X,p'y⟩
theorem t'o(c:QE X k a pa)(g:QE X k b pb)(h:QP X k pos ks vs ps):QP X k pos (some a::ks) (b::vs) ((pa,pb)::ps):=by
 obtain⟨n,j,l⟩:=c.h;obtain⟨tb,m,f⟩:=g.h;obtain⟨o,e,d⟩:=h.h;exact⟨_,o'G j m e,m'V l f d⟩
theorem v'f(h:QP X k pos keys values ps)(a:keys.all (·.isSome)=true:=by rfl)(c:keys.length=values.length:=by rfl)(d:keys≠[]:=by intro z;cases z)(b:keys.length<=15:=by decide)(hp:ps.length<=15:=by decide):QE X k (.Dict keys values pos) (ags ps):=by
 obtain⟨g,e,f⟩:=h.h;exact⟨_,r'Y e a c d b,p'A f hp⟩
theorem q'z(K:W.Frag)(f:X.K=K)(d:Gl X x)(g:X.mg x=none)(h:bootBuiltins x=some (.builtin "isinstance"))(c:QA X k (e::es) ps)(b:x≠"__name__":=by decide)(a:(x == ("__debug__":Str))=false:=by decide)(he:starEach (e::es) X.env=(false,eval e X.env)::starEach es X.env:=by rfl)(hpl:(backTo pos (starEach es X.env)).any (·.1)=false:=by rfl):
  QE X k (.Call (.Name x p) (e::es) [] pos) (pB (aiy K) ps):=by
 subst f;exact a'U o'Y t'n d g h c b a he hpl
theorem a'o(K:W.Frag)(b:X.K=K)(h:QE X k e pe)(a:attributeBase e f X.env (eval e X.env)=eval e X.env:=by rfl):QE X k (.Attribute e f pos) (p1 (aej K f) pe):=by
 subst b;exact w'B h a
end
mutual
def Cl:Tr->Bool
 |.tup a=>Cls' a
 |.lst .f a=>Cls' a
 |.dic .f a=>Clk a
 |.ins .f _ a=>Clf a
 |.lst _ _=>false
 |.dic _ _=>false
 |.ins _ _ _=>false
 |_=>true
def Cls':List Tr->Bool
 |[]=>true |x::xs=>Cl x&&Cls' xs
def Clk:List (Key×Tr)->Bool
 |[]=>true |(_,x)::xs=>Cl x&&Clk xs
def Clf:List (Str×Tr)->Bool
 |[]=>true |(_,x)::xs=>Cl x&&Clf xs
end
structure Clo(t:Tr):Prop where
 l:lend t=t
 f:frz t=t
 d:dn t=t
 o:nol t=true
 t:nlt t=true
structure ajp(t:List Tr):Prop where
 l:lends t=t
 f:frzs t=t
 d:dns t=t
 o:nols t=true
 t:nlts t=true
structure ajq(t:List (Key×Tr)):Prop where
 l:lendk t=t
 f:frzk t=t
 d:dnk t=t
 o:nolk t=true
 t:nltk t=true
structure ajr(t:List (Str×Tr)):Prop where
 l:lendf t=t
 f:frzf t=t
 d:dnf t=t
 o:nolf t=true
 t:nltf t=true
mutual
theorem clo:∀(t:Tr),Cl t=true->Clo t
 |.int _,_=>⟨rfl,rfl,rfl,rfl,rfl⟩
 |.bl _,_=>⟨rfl,rfl,rfl,rfl,rfl⟩
 |.str _,_=>⟨rfl,rfl,rfl,rfl,rfl⟩
 |.non,_=>⟨rfl,rfl,rfl,rfl,rfl⟩
 |.hole,_=>⟨rfl,rfl,rfl,rfl,rfl⟩
 |.ty _,_=>⟨rfl,rfl,rfl,rfl,rfl⟩
 |.cl _,_=>⟨rfl,rfl,rfl,rfl,rfl⟩
 |.exc _,_=>⟨rfl,rfl,rfl,rfl,rfl⟩
 |.tup xs,h=>have c:=clos xs h;⟨by show Tr.tup (lends xs)=_;rw[c.l],by show Tr.tup (frzs xs)=_;rw[c.f],by show Tr.tup (dns xs)=_;rw[c.d],c.o,c.t⟩
 |.lst .f xs,h=>have c:=clos xs h;⟨rfl,rfl,by show Tr.lst .f (dns xs)=_;rw[c.d],c.o,c.t⟩
 |.dic .f xs,h=>have c:=clok xs h;⟨rfl,rfl,by show Tr.dic .f (dnk xs)=_;rw[c.d],c.o,c.t⟩
 |.ins .f a xs,h=>have c:=clof xs h;⟨rfl,rfl,by show Tr.ins .f a (dnf xs)=_;rw[c.d],c.o,c.t⟩
theorem clos:∀(t:List Tr),Cls' t=true->ajp t
 |[],_=>⟨rfl,rfl,rfl,rfl,rfl⟩
 |x::xs,h=>by
  have h:(Cl x&&Cls' xs)=true:=h;rw[and_eq_true] at h;have a:=clo x h.1;have b:=clos xs h.2;exact⟨by show lend x::lends xs=_;rw[a.l,b.l],by show frz x::frzs xs=_;rw[a.f,b.f],by show dn x::dns xs=_;rw[a.d,b.d],by show (nol x&&nols xs)=_;rw[a.o,b.o];rfl,by show (nlt x&&nlts xs)=_;rw[a.t,b.t];rfl⟩
theorem clok:∀(t:List (Key×Tr)),Clk t=true->ajq t
 |[],_=>⟨rfl,rfl,rfl,rfl,rfl⟩
 |(k,x)::xs,h=>by
  have h:(Cl x&&Clk xs)=true:=h;rw[and_eq_true] at h;have a:=clo x h.1;have b:=clok xs h.2;exact⟨by show (k,lend x)::lendk xs=_;rw[a.l,b.l],by show (k,frz x)::frzk xs=_;rw[a.f,b.f],by show (k,dn x)::dnk xs=_;rw[a.d,b.d],by show (nol x&&nolk xs)=_;rw[a.o,b.o];rfl,by show (nlt x&&nltk xs)=_;rw[a.t,b.t];rfl⟩
theorem clof:∀(t:List (Str×Tr)),Clf t=true->ajr t
 |[],_=>⟨rfl,rfl,rfl,rfl,rfl⟩
 |(k,x)::xs,h=>by
  have h:(Cl x&&Clf xs)=true:=h;rw[and_eq_true] at h;have a:=clo x h.1;have b:=clof xs h.2;exact⟨by show (k,lend x)::lendf xs=_;rw[a.l,b.l],by show (k,frz x)::frzf xs=_;rw[a.f,b.f],by show (k,dn x)::dnf xs=_;rw[a.d,b.d],by show (nol x&&nolf xs)=_;rw[a.o,b.o];rfl,by show (nlt x&&nltf xs)=_;rw[a.t,b.t];rfl⟩
end
class Enc(α:Type) where
 t:α->Tr
 c:∀a,Cl (t a)=true
 h:∀a,t a≠.hole
theorem c'a[Enc j]:∀xs:List j,Cls' (xs.map Enc.t)=true
 |[]=>rfl
 |x::xs=>by show (Cl (Enc.t x)&&Cls' (xs.map Enc.t))=true;rw[Enc.c x,c'a xs];rfl
theorem a'E[Enc j]:∀xs:List (Key×j),Clk (xs.map λp=>(p.1,Enc.t p.2))=true
 |[]=>rfl
 |x::xs=>by show (Cl (Enc.t x.2)&&Clk (xs.map λp=>(p.1,Enc.t p.2)))=true;rw[Enc.c x.2,a'E xs];rfl
instance:Enc Int:=⟨.int,λ_=>rfl,λ_ z=>by cases z⟩
instance:Enc Str:=⟨.str,λ_=>rfl,λ_ z=>by cases z⟩
instance:Enc Bool:=⟨.bl,λ_=>rfl,λ_ z=>by cases z⟩
instance:Enc Rat:=⟨λq=>.tup [.int q.num,.int (q.den:Int)],λ_=>rfl,λ_ z=>by cases z⟩
instance {j:Type} [Enc j]:Enc (List j):=⟨λxs=>.lst .f (xs.map Enc.t),λxs=>c'a xs,λ_ z=>by cases z⟩
instance {j y:Type} [Enc j] [Enc y]:Enc (j ⊕ y):=⟨λx=>match x with |.inl a=>Enc.t a |.inr b=>Enc.t b,λx=>by cases x<;>exact Enc.c _,λx=>by cases x<;>exact Enc.h _⟩
instance {j y:Type} [Enc j] [Enc y]:Enc (j×y):=⟨λx=>.tup [Enc.t x.1,Enc.t x.2],λx=>by show (Cl _&&(Cl _&&true))=true;rw[Enc.c,Enc.c];rfl,λ_ z=>by cases z⟩
section
variable{α β:Type}[Enc α][Enc β](a:α)(xs:List α)
@[simp] theorem q'A(n:Int):Enc.t n=.int n:=rfl
@[simp] theorem q'B(n:Str):Enc.t n=.str n:=rfl
@[simp] theorem x'q(n:Bool):Enc.t n=.bl n:=rfl
theorem w'F(q:Rat):Enc.t q=.tup [.int q.num,.int (q.den:Int)]:=rfl
theorem b'p:Enc.t xs=.lst .f (xs.map Enc.t):=rfl
theorem e_l:lend (Enc.t a)=Enc.t a:=(clo _ (Enc.c a)).l
theorem e_f:frz (Enc.t a)=Enc.t a:=(clo _ (Enc.c a)).f
theorem e_d:dn (Enc.t a)=Enc.t a:=(clo _ (Enc.c a)).d
theorem e_o:nol (Enc.t a)=true:=(clo _ (Enc.c a)).o
theorem e_t:nlt (Enc.t a)=true:=(clo _ (Enc.c a)).t
theorem p'B:lends (xs.map Enc.t)=xs.map Enc.t:=(clos _ (c'a xs)).l
theorem f'O:frzs (xs.map Enc.t)=xs.map Enc.t:=(clos _ (c'a xs)).f
theorem f'P:dns (xs.map Enc.t)=xs.map Enc.t:=(clos _ (c'a xs)).d
theorem c'P:nols (xs.map Enc.t)=true:=(clos _ (c'a xs)).o
theorem b'e:nlts (xs.map Enc.t)=true:=(clos _ (c'a xs)).t
end
class inductive Fp:Fl->Prop where
 |f:Fp .f
 |l:Fp (.l false)
instance:Fp .f:=.f
instance:Fp (.l false):=.l
section
variable{f:Fl}[h:Fp f]
theorem q'C:lend (.lst f xs)=.lst f xs:=by cases h<;>rfl
theorem m'W:frz (.lst f xs)=.lst f xs:=by cases h<;>rfl
theorem m'X:dn (.lst f xs)=.lst f (dns xs):=by cases h<;>rfl
theorem m'Y{j:Type}[Enc j]{xs:List j}:nlt (.lst f (xs.map Enc.t))=true:=by cases h<;>first |exact b'e xs |rfl
theorem l'p:lend (.dic f xs)=.dic f xs:=by cases h<;>rfl
theorem i'b:frz (.dic f xs)=.dic f xs:=by cases h<;>rfl
theorem i'c:dn (.dic f xs)=.dic f (dnk xs):=by cases h<;>rfl
end
section
variable{α:Type}[Enc α]{xs:List (Key×α)}
theorem x'a:dnk (xs.map λp=>(p.1,Enc.t p.2))=xs.map λp=>(p.1,Enc.t p.2):=(clok _ (a'E xs)).d
end
theorem own_f:frz (.lst .o xs)=.lst .f (frzs xs):=rfl
section
def agt(pa:PA'):PA':=λj Q=>pa j λts=>Q (frzs ts)
theorem p'C(h:adL K k ta pa):adL K k ta (agt pa):=λF B H j y Q g c p q=>by
 refine h F B H j y _ _ c p λf vs m e l p1 a=>?_
 obtain⟨b,d,r2⟩:=a.held;exact q _ vs b e [] p1 ⟨d,r2,.nil,.nil⟩
theorem QA.frz(h:QA X k es pa):QA X k es (agt pa):=by
 obtain⟨c,b,a⟩:=h.h;exact⟨c,b,p'C a⟩
end
theorem at0(x:j)(xs:List j):atI (x::xs) 0=some x:=by unfold atI ixN;simp
theorem at1(x y:j)(xs:List j):atI (x::y::xs) 1=some y:=by unfold atI ixN;rw[if_pos (by omega),if_pos (by simp only[length_cons];omega)];rfl
def ade(n:Nat)(g:List Tr->(Tr->Prop)->Prop):PSp:=λa Q=>a.length=n/\g a λt=>∀j,Q t j
def ajs:PSp:=ade 2 λc Q=>∃a b,c=[.int a,.int b]/\0<=a/\0<=b/\Q (.int (gd a b))
def ahr:PSp:=ade 2 λc Q=>∃a b,c=[.int a,.int b]/\b≠0/\bi b<=7990/\Q (Enc.t (Rat.divInt a b))
theorem q'D(e:b≠0)(h:bi b<=k):bi (gd a b)<=k:=by
 refine f'h ?_;have d:=d'j h;have c:(gd a b).natAbs<=b.natAbs:=Nat.le_of_dvd (by omega) (Int.natAbs_dvd_natAbs.mpr (e'B a b));omega
theorem j'L(c:b≠0)(h:bi b<=7990):CDivB x (gd a b):=⟨by have:=d'A (a:=a) c;omega,d'j (le_trans (q'D c h) (show 7990<=8000 by omega))⟩
theorem i'd(c:b≠0)(h:bi b<=7990):CDivB x (-gd a b):=⟨by have:=d'A (a:=a) c;omega,by rw[Int.natAbs_neg];exact d'j (le_trans (q'D c h) (show 7990<=8000 by omega))⟩
def afA(f:Rat->Rat->Rat):PSp:=ade 2 λc Q=>∃a b:Rat,c=[Enc.t a,Enc.t b]/\bs a+bs b<=7990/\Q (Enc.t (f a b))
theorem b'q(b:bi x<=n)(a:bi y<=m)(h:n+m<=60000000):adX x y:=w'w (by omega) (by omega)
theorem f'Q(a b:Rat)(h:bs a+bs b<=7990):bi ((a.den:Int)*b.den)<=7990:=le_trans (f'i _ _) (by have:=a'K a;have:=a'K b;omega)
theorem d'a[Enc j][Enc v](a:List j)(ns:List v):(a.map Enc.t).zipWith (λx y=>Tr.tup [x,y]) (ns.map Enc.t)=(a.zip ns).map λp=>Tr.tup [Enc.t p.1,Enc.t p.2]:=by
 rw[List.zipWith_map,List.zip_eq_zipWith,List.map_zipWith]
theorem j'M[Enc j](a:List j):(a.map Enc.t).mapIdx (λi x=>Tr.tup [.int i,x])=a.zipIdx.map λp=>Tr.tup [.int p.2,Enc.t p.1]:=by
 apply List.ext_getElem?;intro i;rw[List.getElem?_mapIdx,getElem?_map,getElem?_map,List.getElem?_zipIdx];cases a[i]?<;>simp
theorem p'D(a b:Rat):(a.num*(b.den:Int)<b.num*(a.den:Int))↔a<b:=by
 rw[Rat.lt_iff]
def agu:PSp:=ade 2 λc Q=>∃a b:Rat,c=[Enc.t a,Enc.t b]/\bs a+bs b<=60000000/\Q (.bl (decide (a<b)))
theorem v'g(t:Tr)(a:List Tr)(Q:Tr->Prop):pC t a Q=(Q t):=rfl
theorem v'h(a:Tr->Tr->(Tr->Prop)->Prop)(b c:PE')(j:List Tr)(Q:Tr->Prop):p2 a b c j Q=(b j λx=>c j λy=>a x y Q):=rfl
theorem v'i(a:Tr->(Tr->Prop)->Prop)(b:PE')(j:List Tr)(Q:Tr->Prop):Pu.p1 a b j Q=(b j λx=>a x Q):=rfl
theorem m'Z:ahT j' Q=(Q []):=rfl
theorem j'N:agh pe pa j Q=(pe j λx=>pa j λxs=>Q (x::xs)):=rfl
theorem n'a:aih pa j Q=(pa j λxs=>xs.length<=10000/\Q (.tup xs)):=rfl
theorem n'b:aii pa j Q=(pa j λxs=>xs.length<=10000/\Q (.lst .o xs)):=rfl
theorem v'j(pe:PE')(j:List Tr)(Q:Bool->Prop):pT pe j Q=(pe j λx=>wBl x Q):=rfl
theorem n'c(a b:PB')(j:List Tr)(Q:Bool->Prop):aij a b j Q=(a j λc=>if c=true then b j Q else Q false):=rfl
theorem q'E(a b:PB')(j:List Tr)(Q:Bool->Prop):pOr a b j Q=(a j λc=>if c=true then Q true else b j Q):=rfl
theorem n'd(a:PB')(j:List Tr)(Q:Bool->Prop):aik a j Q=(a j λc=>Q (!c)):=rfl
theorem j'O:agj pa pb j Q=(pa j λx=>wBl x λc=>if c=true then pb j Q else Q (.bl false)):=rfl
theorem n'e:ail pa pb j Q=(pa j λx=>wBl x λc=>if c=true then Q (.bl true) else pb j Q):=rfl
theorem j'P:agk pa j Q=(pa j λx=>wBl x λc=>Q (.bl (!c))):=rfl
theorem q'F:pIf pc pa pb j Q=(pc j λc=>if c=true then pa j Q else pb j Q):=rfl
theorem n'f:ahW p q D j=(p { D with nx:=q D } j):=rfl
theorem j'Q:agl D j=(D.nx j):=rfl
theorem n'g(i:Nat)(pe:PE')(D:Pd)(j:List Tr):aim i pe D j=(pe (j.map lend) λt=>nlt t=true/\D.nx (j.set i t)):=rfl
theorem j'R:afs pe D j=(pe (j.map lend) λ_=>D.nx j):=rfl
theorem n'h:ain pe D j=(pe (j.map lend) λt=>nol t=true/\D.rt t j):=rfl
theorem v'k:aio pc p q D j=(pc (j.map lend) λb=>if b=true then p D j else q D j):=rfl
theorem i'e:ad7 q psp pa j Q=(pa j λa=>psp (dns a) (λt _=>Q t) q):=rfl
theorem j'S:agm psp pa j Q=(pa j λa=>psp (dns a) λt _=>Q t):=rfl
theorem v'l(a:List Tr->(Tr->Prop)->Prop)(b:PA')(j:List Tr)(Q:Tr->Prop):pB a b j Q=(b j λc=>a c Q):=rfl
theorem i'f:afU D' j'=(False):=rfl
theorem j'T(i:Nat)(pe:PE')(D:Pd)(j:List Tr):aft i pe D j=(pe (j.map lend) λt=>nlt t=true/\D.nx (j.set i (frz t))):=rfl
theorem q'G(i:Nat)(t:Tr)(j:List Tr)(Q:List Tr->Prop):pgN i t j Q=(Q (j.set i t)):=rfl
theorem i'g:adk ts j Q=(match ts with |[]=>Q j |_=>False):=rfl
theorem g'G(pg:PG')(a:List Tr->List Tr->(List Tr->Prop)->Prop)(b:List Tr)(j:List Tr)(Q:List Tr->Prop):acH pg a b j Q=(match b with |t::r=>pg t j λc=>a r c Q |[]=>False):=rfl
theorem q'H(n:Nat)(a:List Tr->List Tr->(List Tr->Prop)->Prop)(t:Tr)(j:List Tr)(Q:List Tr->Prop):pgT n a t j Q=(match t with |.tup b=>b.length=n/\a b j Q |_=>False):=rfl
theorem q'I(pe:PE')(j:List Tr)(Q:List Tr->Bool->Prop):piL pe j Q=(pe j λt=>aeh (frz t) λxs=>Q xs (nlt (frz t))):=rfl
theorem q'J(a:PA')(j:List Tr)(Q:List Tr->Bool->Prop):piE a j Q=(a j λb=>agn b λt=>aeh (frz t) λxs=>Q (xs.mapIdx λi x=>.tup [.int i,x]) (nlt (frz t))):=rfl
theorem q'K(a:PA')(j:List Tr)(Q:List Tr->Bool->Prop):piZ a j Q=(a j λb=>afV b λt u=>aeh (frz t) λxs=>aeh (frz u) λys=>Q (xs.zipWith (λx y=>.tup [x,y]) ys) (nlt (frz t)&&nlt (frz u))):=rfl
theorem n'i(a:PA')(y:List Tr)(Q:List Tr->Bool->Prop):air a y Q=(a y λb=>afu b λj=>-1000000<=j/\j<=1000000/\Q ((List.range j.toNat).map λ(i:Nat)=>.int i) true):=rfl
theorem n'j(a:PA')(y:List Tr)(Q:List Tr->Bool->Prop):ais a y Q=(a y λb=>aew b λi j=>(-1000000<=i/\i<=1000000/\-1000000<=j/\j<=1000000)/\Q ((List.range (j - i).toNat).map λ(n:Nat)=>.int (i+n)) true):=rfl
theorem n'k(K:W.Frag)(i:Nat)(r:List Str)(pe:PE')(D:Pd)(j:List Tr):ait K i r pe D j=(wPl K j i r λu s=>aeo u λxs=>pe (j.map lend) λt=>nlt t=true/\xs.length<1000000/\D.nx (s (.lst .o (xs++[frz t])))):=rfl
theorem j'U(K:W.Frag)(i:Nat)(r:List Str)(b pe:PE')(D:Pd)(j:List Tr):ago K i r b pe D j=(pe (j.map lend) λt=>nlt t=true/\wPl K j i r λu s=>aeo u λxs=>b (j.map lend) λy=>afv xs y (frz t) λa=>D.nx (s (.lst .o a))):=rfl
theorem n'l(K:W.Frag)(i:Nat)(r:List Str)(a pe:PE')(D:Pd)(j:List Tr):aiu K i r a pe D j=(pe (j.map lend) λt=>nlt t=true/\wPl K j i r λu s=>aeJ u λm=>a (j.map lend) λy=>aeK y λy=>m.length<1000000/\D.nx (s (.dic .o (ad8 m y (frz t))))):=rfl
theorem j'V:agp j' Q=(Q (.dic .o [])):=rfl
theorem j'W(K:W.Frag)(i:Nat)(r:List Str)(f:Str)(pe:PE')(D:Pd)(j:List Tr):agq K i r f pe D j=(pe (j.map lend) λt=>nlt t=true/\wPl K j i r λu s=>ad9 K f u λc fs=>D.nx (s (.ins .o c (aex f t fs)))):=rfl
theorem q'L(a:List Tr)(Q:Option Int->Prop):poN a Q=(Q none):=rfl
theorem q'M(pe:PE')(j:List Tr)(Q:Option Int->Prop):poS pe j Q=(pe j λx=>match x with |.int i=>Q (some i) |_=>False):=rfl
theorem q'N:pSl pe pl ph j Q=(pe j λx=>pl j λl=>ph j λh=>wSl x l h Q):=rfl
theorem i'h:ae0 q C pe D' j=(pe (j.map lend) λ_=>q (.ref C)):=rfl
theorem i'i(K:W.Frag)(C:Addr)(i:Nat)(b:PE'->PS')(pe:(Value->Prop)->PE')(c:PS')(D:Pd)(j:List Tr):ae1 K C i b pe c D j=(b (pe λa=>ahZ K C a/\∃B,a=.ref B/\c (D.less i) (j.set i (.exc B))) D j):=rfl
theorem j'X(a:List (PE'×PE'))(j:List Tr)(Q:Tr->Prop):ags a j Q=(aey a j λm=>(m.map (·.1)).Nodup/\Q (.dic .o m)):=rfl
theorem j'Y:agt pa j Q=(pa j λts=>Q (frzs ts)):=rfl
theorem f'R(n:Int):lend (.int n)=(.int n):=rfl
theorem n'm:lend (.bl n)=(.bl n):=rfl
theorem j'Z:lend (.str n)=(.str n):=rfl
theorem k'a:lend .non=.non:=rfl
theorem i'j:lend .hole=.hole:=rfl
theorem n'n:lend (.cl n)=(.cl n):=rfl
theorem k'b:lend (.exc n)=(.exc n):=rfl
theorem f'S(n:Int):Pu.frz (.int n)=(.int n):=rfl
theorem n'o:Pu.frz (.bl n)=(.bl n):=rfl
theorem k'c:Pu.frz (.str n)=(.str n):=rfl
theorem k'd:Pu.frz .non=.non:=rfl
theorem f'T(n:Int):dn (.int n)=(.int n):=rfl
theorem n'p:dn (.bl n)=(.bl n):=rfl
theorem f'U(n:Int):nol (.int n)=true:=rfl
theorem n'q:nol (.bl n)=true:=rfl
theorem k'e:nol (.str n)=true:=rfl
theorem k'f:nol .non=true:=rfl
theorem f'V(n:Int):nlt (.int n)=true:=rfl
theorem n'r:nlt (.bl n)=true:=rfl
theorem k'g:nlt (.str n)=true:=rfl
theorem k'h:nlt .non=true:=rfl
theorem k'i:lend (.tup xs)=.tup (lends xs):=rfl
theorem k'j:Pu.frz (.tup xs)=.tup (frzs xs):=rfl
theorem k'k:dn (.tup xs)=.tup (dns xs):=rfl
theorem k'l:nol (.tup xs)=nols xs:=rfl
theorem k'm:nlt (.tup xs)=nlts xs:=rfl
theorem k'n:lend (.lst .o xs)=.lst (.l true) (lends xs):=rfl
theorem k'o:Pu.frz (.lst .o xs)=.lst .f (frzs xs):=rfl
theorem k'p:dn (.lst (.l true) xs)=.lst (.l false) (dns xs):=rfl
theorem n's:Pu.frz (.lst (.l b) xs)=.lst (.l b) xs:=rfl
theorem k'q:nol (.lst .o xs)=nols xs:=rfl
theorem k'r:nlt (.lst .o xs)=nlts xs:=rfl
theorem q'O:nol (.lst .f xs)=nols xs:=rfl
theorem k's(xs:List (Key×Tr)):lend (.dic .o xs)=.dic (.l true) (lendk xs):=rfl
theorem k't(xs:List (Key×Tr)):Pu.frz (.dic .o xs)=.dic .f (frzk xs):=rfl
theorem k'u(xs:List (Key×Tr)):nol (.dic .o xs)=nolk xs:=rfl
theorem k'v(xs:List (Key×Tr)):nlt (.dic .o xs)=nltk xs:=rfl
def Loop(a:List Tr)(pg:PG')(b:PS')(D:Pd)(j:List Tr):Prop:=∃I:Nat->List Tr->Prop,I 0 j/\(∀i t j,a[i]?=some t->I i j->pg t j λc=>b { D with nx:=I (i+1),ct:=I (i+1),bk:=D.nx } c)/\∀j,I a.length j->D.nx j
theorem n't:aiq pi pg pb D j=(pi (j.map lend) λb a=>a=true/\Loop b pg pb D j):=rfl
theorem Loop.map(ys:List G)(g:G->Tr){pg:PG'}(J:Nat->List Tr->Prop)(b:J 0 v)(step:∀i y v,ys[i]?=some y->J i v->pg (g y) v λc=>pb { D with nx:=J (i+1),ct:=J (i+1),bk:=D.nx } c)(a:∀v,J ys.length v->D.nx v):Loop (ys.map g) pg pb D v:=by
 refine⟨J,b,λi t v h j=>?_,λv h=>a v (by rw[length_map] at h;exact h)⟩;rw[getElem?_map] at h;cases e:ys[i]? with
 |none=>rw[e] at h;cases h
 |some y=>rw[e] at h;cases h;exact step i y v e j
def pV(o:Option Tr)(Q:Tr->Prop):Prop:=match o with |some .hole=>False |some t=>Q t |none=>False
theorem n'u(i:Nat)(j:List Tr)(Q:Tr->Prop):ahS i j Q=pV j[i]? Q:=rfl
theorem q'P[Enc j](a:j)(Q:Tr->Prop):pV (some (Enc.t a)) Q=Q (Enc.t a):=by
 have h:=Enc.h a;generalize Enc.t a=t at h;cases t with
 |hole=>exact absurd rfl h
 |_=>rfl
theorem q'Q:pV (some (.int n)) Q=Q (.int n):=rfl
theorem v'm:pV (some (.bl n)) Q=Q (.bl n):=rfl
theorem q'R:pV (some (.str n)) Q=Q (.str n):=rfl
theorem q'S:pV (some .non) Q=Q .non:=rfl
theorem q'T:pV (some (.exc n)) Q=Q (.exc n):=rfl
theorem q'U:pV (some (.tup xs)) Q=Q (.tup xs):=rfl
theorem q'V:pV (some (.lst f xs)) Q=Q (.lst f xs):=rfl
theorem q'W(f:Fl)(xs:List (Key×Tr))(Q:Tr->Prop):pV (some (.dic f xs)) Q=Q (.dic f xs):=rfl
theorem q'X(f:Fl)(c:Addr)(xs:List (Str×Tr))(Q:Tr->Prop):pV (some (.ins f c xs)) Q=Q (.ins f c xs):=rfl
theorem i'k(q:Rat)(Q:Tr->Prop):ad0 (Enc.t q) (.int 0) Q=Q (.int q.num):=rfl
theorem i'l(q:Rat)(Q:Tr->Prop):ad0 (Enc.t q) (.int 1) Q=Q (.int (q.den:Int)):=rfl
theorem n'v:Tr.tup [.int 0,.int 1]=Enc.t (0:Rat):=rfl
theorem q'Y:Tr.tup [.int 1,.int 1]=Enc.t (1:Rat):=rfl
def CLoop(d:List Tr)(pg:PG')(pt:PB')(pe:PE')(e:List Tr)(Q:Tr->Prop):Prop:=∃I:Nat->List Tr->Prop,I 0 []/\
 (∀i t a,d[i]?=some t->I i a->pg t e λc=>pt c λb=>if b=true then pe c λx=>a.length<1000000/\I (i+1) (a++[x]) else I (i+1) a)/\∀a,I d.length a->a.length<=1000000/\Q (.lst .o a)
theorem k'w(a:PI')(pg:PG')(pt:PB')(pe:PE')(ix:List (Option Nat))(j:List Tr)(Q:Tr->Prop):afz a pg pt pe ix j Q=(a j λb _=>CLoop b pg pt pe (aeb ix j) Q):=rfl
theorem CLoop.mapT(ys:List j)(g:j->Tr)(h:j->Tr){pg:PG'}{pe:PE'}{Q:Tr->Prop}(d:ys.length<=1000000)(step:∀y∈ys,∀R:Tr->Prop,R (h y)->pg (g y) j' λc=>pe c R)(q:Q (.lst .o (ys.map h))):CLoop (ys.map g) pg ahp pe j' Q:=by
 refine⟨λi b=>b=(ys.take i).map h,rfl,λi t b e a=>?_,λb a=>?_⟩
 .rw[getElem?_map] at e;cases e':ys[i]? with
  |none=>rw[e'] at e;cases e
  |some y=>
   rw[e'] at e;cases e;have l:=(List.getElem?_eq_some_iff.mp e').1;refine step y (mem_of_getElem? e') _ ⟨?_,?_⟩
   .rw[a,length_map,length_take];omega
   .show b++[h y]=(ys.take (i+1)).map h;rw[a,take_add_one,e',map_append];rfl
 .rw[length_map,take_length] at a;rw[a,length_map];exact⟨d,q⟩
theorem CLoop.map[Enc j](ys:List v)(g:v->Tr)(h:v->j){pg:PG'}{pe:PE'}{Q:Tr->Prop}(b:ys.length<=1000000)(step:∀y∈ys,∀R:Tr->Prop,R (Enc.t (h y))->pg (g y) j' λa=>pe a R)(q:Q (.lst .o ((ys.map h).map Enc.t))):CLoop (ys.map g) pg ahp pe j' Q:=
 CLoop.mapT ys g (λy=>Enc.t (h y)) b step (by rw[map_map] at q;exact q)
def ac1{j:Type}[Enc j](f:Fl)(m:List (Str×j)):Tr:=.dic f (m.map λp=>(Sum.inr p.1,Enc.t p.2))
theorem d'M[Enc j](m:List (Str×j)):(m.map λp=>((Sum.inr p.1:Key),Enc.t p.2))=(m.map λp=>((Sum.inr p.1:Key),p.2)).map λp=>(p.1,Enc.t p.2):=by rw[map_map];rfl
theorem c's[Enc j](m:List (Str×j)):Cl (ac1 .f m)=true:=by
 show Clk (m.map λp=>((Sum.inr p.1:Key),Enc.t p.2))=true;rw[d'M];exact a'E _
theorem v'n[Enc j](m:List (Str×j))(x:Str):look (m.map λp=>((Sum.inr p.1:Key),Enc.t p.2)) (Sum.inr x)=(gtd m x).map Enc.t:=by
 unfold look gtd
 induction m with
 |nil=>rfl
 |cons p m a=>
  rw[map_cons,find?_cons,find?_cons];by_cases h:p.1=x
  .rw[decide_eq_true (by rw[h]),decide_eq_true h];rfl
  .rw[decide_eq_false (λz=>h (Sum.inr.inj z)),decide_eq_false h];exact a
theorem q'Z[Enc j](f:Fl)(m:List (Str×j))(x:Str)(d:j)(Q:Tr->Prop):afy (ac1 f m) (.str x) (Enc.t d) Q=Q (Enc.t ((gtd m x).getD d)):=by
 show Q ((look (m.map λp=>((Sum.inr p.1:Key),Enc.t p.2)) (Sum.inr x)).getD (Enc.t d))=_;rw[v'n];cases gtd m x<;>rfl
def ahs(x:Tr):Prop:=match x with |.dic _ _=>True |_=>False
theorem v'o(d:Tr->Tr->Tr->(Tr->Prop)->Prop)(b c a:PE')(j:List Tr)(Q:Tr->Prop):p3 d b c a j Q=(b j λx=>ahs x/\c j λy=>a j λz=>d x y z Q):=rfl
theorem r'a[Enc j](f:Fl)(m:List (Str×j)):ahs (ac1 f m)=True:=rfl
def oQ(o:Option Tr)(Q:Tr->Prop):Prop:=match o with |some t=>Q t |none=>False
theorem n'w(t:Tr)(Q:Tr->Prop):oQ (some t) Q=Q t:=rfl
section
theorem n'x:ad0 (.tup xs) (.int i) Q=oQ (atI xs i) Q:=rfl
theorem c'b:ad0 (.lst f xs) (.int i) Q=oQ (atI xs i) Q:=rfl
theorem n'y(C:Int->Int->Prop)(t:Int->Int->Tr):adx C t (.int i) (.int j) Q=(C i j/\Q (t i j)):=rfl
theorem n'z:ahh (.int i) (.int j) Q=Q (.int (i+j)):=rfl
theorem f'p:ahh (.lst f xs) (.lst g ys) Q=(xs.length+ys.length<=1000000/\Q (.lst .o (xs++ys))):=rfl
theorem r'b:ahU (.int i) (.int j) Q=(adX i j/\Q (.int (i*j))):=rfl
theorem w_lt:wLt (.int i) (.int j) Q=Q (.bl (decide (i<j))):=rfl
theorem v'p:wGt (.int i) (.int j) Q=Q (.bl (decide (j<i))):=rfl
theorem r'c:ahV (.int i) Q=Q (.int (-i)):=rfl
theorem r'd:aip [.int i] Q=Q (.int (if i<0 then -i else i)):=rfl
theorem c'z(R:Bool->Prop):wBl (.bl b) R=R b:=rfl
theorem r'e:wEq false (.int i) (.int j) Q=Q (.bl (decide (i=j))):=rfl
theorem r'f:wEq false (.str x) (.str y) Q=Q (.bl (decide (x=y))):=rfl
theorem r'g:wEq true (.int i) (.int j) Q=Q (.bl (!decide (i=j))):=rfl
theorem r'h:wEq true (.str x) (.str y) Q=Q (.bl (!decide (x=y))):=rfl
theorem n'A(k:Bool):ahl k [.lst f xs] Q=Q (.int xs.length):=rfl
theorem n'B:afx [.lst f xs] Q=Q (.lst .o xs):=rfl
theorem b'M(R:List Tr->Prop):aeh (.lst f xs) R=R xs:=rfl
theorem r'i(t:Tr):agn [t] Q=Q t:=rfl
theorem r'j(t u:Tr)(R:Tr->Tr->Prop):afV [t,u] R=R t u:=rfl
theorem n'C(R:Int->Prop):afu [.int i] R=R i:=rfl
theorem n'D(R:Int->Int->Prop):aew [.int i,.int j] R=R i j:=rfl
end
abbrev ack:=List (Str×Rat)×Str×Rat×Int×Int
instance (priority:=high) rowEnc:Enc ack:=⟨λr=>.tup [ac1 .f r.1,.str r.2.1,Enc.t r.2.2.1,.int r.2.2.2.1,.int r.2.2.2.2],λr=>by show (Cl (ac1 .f r.1)&&_)=true;rw[c's];rfl,λ_ z=>by cases z⟩
theorem r'k(r:ack)(Q:Tr->Prop):ad0 (Enc.t r) (.int 0) Q=Q (ac1 .f r.1):=rfl
theorem r'l(r:ack)(Q:Tr->Prop):ad0 (Enc.t r) (.int 1) Q=Q (.str r.2.1):=rfl
theorem r'm(r:ack)(Q:Tr->Prop):ad0 (Enc.t r) (.int 2) Q=Q (Enc.t r.2.2.1):=rfl
theorem r'n(r:ack)(Q:Tr->Prop):ad0 (Enc.t r) (.int 3) Q=Q (.int r.2.2.2.1):=rfl
theorem r'o(r:ack)(Q:Tr->Prop):ad0 (Enc.t r) (.int 4) Q=Q (.int r.2.2.2.2):=rfl
section
def wP0(o:Option Tr)(R:Tr->Prop):Prop:=match o with |some .hole=>False |some t=>R t |none=>False
theorem r'p(j:List Tr)(i:Nat)(Q:Tr->(Tr->List Tr)->Prop):wPl K j i [] Q=wP0 j[i]? λt=>Q t λu=>j.set i u:=by
 unfold wPl wP0;cases j[i]? with
 |none=>rfl
 |some t=>cases t <;> first |rfl |exact propext ⟨λh=>h.2,λh=>⟨trivial,h⟩⟩
theorem n'E(f:Fl)(xs:List Tr)(R:Tr->Prop):wP0 (some (.lst f xs)) R=R (.lst f xs):=rfl
theorem n'F(f:Fl)(xs:List (Key×Tr))(R:Tr->Prop):wP0 (some (.dic f xs)) R=R (.dic f xs):=rfl
theorem i'm(xs:List Tr)(Q:List Tr->Prop):aeo (.lst .o xs) Q=Q xs:=rfl
theorem i'n(xs:List (Key×Tr))(Q:List (Key×Tr)->Prop):aeJ (.dic .o xs) Q=Q xs:=rfl
end
section
variable{α:Type}[Enc α]
theorem d'l(xs:List α)(a:α):xs.map Enc.t++[Enc.t a]=(xs++[a]).map Enc.t:=by rw[map_append];rfl
theorem i'o(xs:List Int)(a:Int):xs.map Enc.t++[Tr.int a]=(xs++[a]).map Enc.t:=d'l xs a
theorem i'p(xs:List Str)(a:Str):xs.map Enc.t++[Tr.str a]=(xs++[a]).map Enc.t:=d'l xs a
theorem b'H(xs:List α)(i:Int):atI (xs.map Enc.t) i=(atI xs i).map Enc.t:=by
 unfold atI;rw[length_map];cases ixN xs.length i with
 |none=>rfl
 |some n=>exact getElem?_map ..
theorem i'q(xs:List j)(a:0<=i)(h:i.toNat<xs.length):atI xs i=some (xs[i.toNat]'h):=by
 unfold atI ixN;rw[if_pos a,if_pos (by omega)];exact getElem?_eq_getElem h
theorem a'X[Enc j](o:Option j)(Q:Tr->Prop)(x:j)(h:o=some x)(q:Q (Enc.t x)):oQ (o.map Enc.t) Q:=by rw[h];exact q
theorem f'W(xs:List α)(l h:Option Int):ad1 (xs.map Enc.t) l h=(ad1 xs l h).map Enc.t:=by
 unfold ad1;rw[length_map,List.map_take,List.map_drop]
theorem f'q(f:Fl)(xs:List Tr)(l h:Option Int)(Q:Tr->Prop):wSl (.lst f xs) l h Q=Q (.lst .o (ad1 xs l h)):=rfl
end
section
theorem Wld.hole{i:Nat}(W:Wld K k lo us Fb Hb F H y v cs):Wld K k lo us Fb Hb F H y (v.set i .hole) (λj=>if j=i then [] else cs j) where
 g:=W.g
 z:=W.z
 l:=by rw[length_set];exact W.l
 e:=λj u h=>by
  by_cases e:j=i
  .subst e;have s:j<v.length:=by have:=(List.getElem?_eq_some_iff.mp h).1;rw[length_set] at this;exact this
   rw[getElem?_set_self s] at h;cases h;exact .inl rfl
  .rw[getElem?_set_ne (λz=>e z.symm)] at h;rw[if_neg e];exact W.e j u h
 c:=λj=>by
  split
  .exact .nil
  .exact W.c j
 n:=λj=>by
  split
  .exact .nil
  .exact W.n j
 d:=λa b ne p m q f=>by
  by_cases r:a=i
  .rw[if_pos r] at m;cases m
  .rw[if_neg r] at m;by_cases o:b=i
   .rw[if_pos o] at f;cases f
   .rw[if_neg o] at f;exact W.d a b ne p m q f
 p:=W.p
 x:=W.x
theorem Wld.fz{i:Nat}(W:Wld K k lo us Fb Hb F H y G cs)(w:G[i]?=some t)(C:t≠.hole):∃o,Wld K k lo us Fb Hb o H y (G.set i (Pu.frz t)) (λj=>if j=i then [] else cs j):=by
 rcases W.e i t w with rfl |⟨v,m,r⟩
 .exact absurd rfl C
 obtain⟨A,a,s,e⟩:=(W.hole (i:=i)).lay (W.c i) (W.n i) (r.plain t) (λj p f q D=>by
  by_cases b:j=i
  .rw[if_pos b] at f;cases f
  .rw[if_neg b] at f;exact W.d j i b p f q D)
 refine⟨A,⟨a.g,a.z,by rw[length_set];exact W.l,λj u h=>?_,a.c,a.n,a.d,a.p,a.x⟩⟩;by_cases b:j=i
 .subst b;have B:j<G.length:=by have:=(List.getElem?_eq_some_iff.mp h).1;rw[length_set] at this;exact this
  rw[getElem?_set_self B] at h;cases h;exact .inr ⟨v,m,by rw[if_pos rfl];exact r.frz (Le.of s) t e⟩
 .exact a.e j u (by rw[getElem?_set_ne (λz=>b z.symm)] at h ⊢;exact h)
def pFz(i:Nat)(p:PS'):PS':=λD j=>pV j[i]? λt=>p D (j.set i (Pu.frz t))
theorem v'q(h:acS K k lo ts p):acS K k lo ts (pFz i p):=λus d b F H j y g D c W q L=>by
 unfold pFz pV at q;split at q
 .exact q.elim
 .rename_i t hn e;obtain⟨f,a⟩:=W.fz e (λz=>hn (by rw[z]));exact h us d b f H j _ _ D c a q L
 .exact q.elim
theorem i'r(i:Nat)(h:QB X k lo sts p):QB X k lo sts (pFz i p):=by
 obtain⟨a,c,b⟩:=h.h;exact⟨a,c,v'q b⟩
theorem r'q(i:Nat)(p:PS')(D:Pd)(j:List Tr):pFz i p D j=(pV j[i]? λt=>p D (j.set i (Pu.frz t))):=rfl
end
def aiz(w:Wm)(m:List (Key×Tr))(pg:PG')(a:PS')(D:Pd)(j:List Tr):Prop:=∃I:Nat->List Tr->Prop,I 0 j/\(∀i p j,m[i]?=some p->I i j->pg (wit w p) j λb=>a { D with nx:=I (i+1),ct:=I (i+1),bk:=D.nx } b)/\∀j,I m.length j->D.nx j
theorem k'x(w:Wm)(pe:PE')(pg:PG')(a:PS')(D:Pd)(j:List Tr):agr w pe pg a D j=(pe (j.map lend) λt=>nlt t=true/\afw (Pu.frz t) λm=>aiz w m pg a D j):=rfl
section
variable{α:Type}[Enc α](m:List (Str×α)){f:Fl}
theorem s_l[h:Fp f]:lend (ac1 f m)=ac1 f m:=l'p
theorem s_f[h:Fp f]:Pu.frz (ac1 f m)=ac1 f m:=i'b
theorem s_d[h:Fp f]:dn (ac1 f m)=ac1 f m:=by
 unfold ac1;rw[i'c,d'M,x'a]
theorem n'G:pV (some (ac1 f m)) Q=Q (ac1 f m):=rfl
end
theorem CLoop.filter[Enc j](ys:List v)(g:v->Tr)(p:v->Bool)(h:v->j){pg:PG'}{pt:PB'}{Q:Tr->Prop}(n:ys.length<=1000000)(step:∀y∈ys,∀(A:Prop)(R:Tr->Prop),(p y=true->R (Enc.t (h y)))->(p y=false->A)->pg (g y) j' λf=>pt f λb=>if b=true then pe f R else A)(q:Q (.lst .o (((ys.filter p).map h).map Enc.t))):CLoop (ys.map g) pg pt pe j' Q:=by
 refine⟨λi c=>c=(((ys.take i).filter p).map h).map Enc.t,rfl,λi t c e a=>?_,λc a=>?_⟩
 .rw[getElem?_map] at e;cases e':ys[i]? with
  |none=>rw[e'] at e;cases e
  |some y=>
   rw[e'] at e;cases e;have l:=(List.getElem?_eq_some_iff.mp e').1;have m:ys.take (i+1)=ys.take i++[y]:=by rw[take_add_one,e'];rfl
   refine step y (mem_of_getElem? e') _ _ (λd=>⟨?_,?_⟩) (λd=>?_)
   .rw[a,length_map,length_map];have:=length_filter_le p (ys.take i);rw[length_take] at this;omega
   .show c++[Enc.t (h y)]=(((ys.take (i+1)).filter p).map h).map Enc.t;rw[m,List.filter_append,a,List.filter_cons_of_pos d,map_append,map_append];rfl
   .show c=(((ys.take (i+1)).filter p).map h).map Enc.t;rw[m,List.filter_append,a,List.filter_cons_of_neg (by rw[d];decide),List.filter_nil,append_nil]
 .rw[length_map,take_length] at a;rw[a,length_map,length_map];exact⟨le_trans (length_filter_le p ys) n,q⟩
section
variable{α:Type}[Enc α](m:List (Str×α))(f:Fl)
theorem w'G(x:Str):((m.map λp=>((Sum.inr p.1:Key),Enc.t p.2)).any λa=>decide (a.1=Sum.inr x))=m.any λp=>decide (p.1=x):=by
 induction m with
 |nil=>rfl
 |cons p m b=>
  rw[map_cons,any_cons,any_cons,b,decide_eq_decide.mpr (show (Sum.inr p.1:Key)=Sum.inr x↔p.1=x from ⟨λh=>Sum.inr.inj h,λh=>by rw[h]⟩)]
theorem l'q(x:Str)(a:α):ad8 (m.map λp=>((Sum.inr p.1:Key),Enc.t p.2)) (Sum.inr x) (Enc.t a)=(ptd m x a).map λp=>((Sum.inr p.1:Key),Enc.t p.2):=by
 unfold ad8 ptd;rw[w'G];split
 .rw[map_map,map_map];refine List.map_congr_left λp _=>?_
  show (if (Sum.inr p.1:Key)=Sum.inr x then _ else _)=_;by_cases h:p.1=x
  .rw[if_pos (by rw[h])];show _=((Sum.inr (if p.1=x then (p.1,a) else p).1:Key),Enc.t (if p.1=x then (p.1,a) else p).2);rw[if_pos h]
  .rw[if_neg (λz=>h (Sum.inr.inj z))];show _=((Sum.inr (if p.1=x then (p.1,a) else p).1:Key),Enc.t (if p.1=x then (p.1,a) else p).2);rw[if_neg h]
 .rw[map_append];rfl
theorem n'H(x:Str)(Q:Key->Prop):aeK (.str x) Q=Q (Sum.inr x):=rfl
theorem i's(x:Int)(Q:Key->Prop):aeK (.int x) Q=Q (Sum.inl x):=rfl
end
mutual
def smT:Tr->Tr->Bool
 |.int a,.int b=>decide (a=b)
 |.str a,.str b=>decide (a=b)
 |.bl a,.bl b=>decide (a=b)
 |.non,.non=>true
 |.tup xs,.tup ys=>smTs xs ys
 |.lst _ xs,.lst _ ys=>smTs xs ys
 |_,_=>false
def smTs:List Tr->List Tr->Bool
 |[],[]=>true
 |x::xs,y::ys=>smT x y&&smTs xs ys
 |_,_=>false
end
def agP:List (Key×Tr)->List (Key×Tr)->Bool
 |[],[]=>true
 |x::xs,y::ys=>decide (x.1=y.1)&&(smT x.2 y.2&&agP xs ys)
 |_,_=>false
def afX:List (Key×Tr)->Nat
 |[]=>0
 |x::xs=>max (dep x.2) (afX xs)
mutual
def smN:Tr->Tr->Bool
 |.int a,.int b=>decide (a=b)
 |.str a,.str b=>decide (a=b)
 |.bl a,.bl b=>decide (a=b)
 |.non,.non=>true
 |.tup xs,.tup ys=>smNs xs ys
 |.lst _ xs,.lst _ ys=>smNs xs ys
 |.dic _ xs,.dic _ ys=>agP xs ys
 |_,_=>false
def smNs:List Tr->List Tr->Bool
 |[],[]=>true
 |x::xs,y::ys=>smN x y&&smNs xs ys
 |_,_=>false
end
mutual
def aeL:Tr->Nat
 |.tup a=>depNs a + 1
 |.lst _ a=>depNs a + 1
 |.dic _ a=>afX a + 1
 |_=>0
def depNs:List Tr->Nat
 |[]=>0
 |x::xs=>max (aeL x) (depNs xs)
end
section
mutual
theorem n'I(l:Same F H)(sb:∀k,Same (B k) H):∀(t t':Tr)(v d:V)(c b:Cs),smT t t'=true->R K F B t v c->R K F B t' d b->Cells F H c->Cells F H b->EqT K H (dep t) v d
 |.tup n=>λt' v d c b e r g w j=>by
  cases t' with
  |tup x=>
   unfold smT at e;obtain⟨a,vs,rfl,o,u⟩:=r.tupH l;obtain⟨m,h,rfl,q,p⟩:=g.tupH l;exact .inr ⟨a,m,vs,h,rfl,rfl,.inl ⟨o,q⟩,smTs_eq l sb n x vs h c b (deps n) e u p w j (le_refl _)⟩
  |_=>cases e
 |.lst f n=>λt' v d c b e r g w j=>by
  cases t' with
  |lst C x=>
   unfold smT at e;obtain⟨a,vs,y,rfl,o,u,A,_⟩:=r.lstH l sb w;obtain⟨m,h,s,rfl,q,p,z,_⟩:=g.lstH l sb j;exact .inr ⟨a,m,vs,h,rfl,rfl,.inr ⟨o,q⟩,smTs_eq l sb n x vs h y s (deps n) e u p A z (le_refl _)⟩
  |_=>cases e
 |.int a=>λt' v d c b e r g _ _=>by
  cases t' with
  |int m=>have:=of_decide_eq_true e;subst this;rw[r.1,g.1];exact⟨rfl,rfl⟩
  |_=>cases e
 |.str a=>λt' v d c b e r g _ _=>by
  cases t' with
  |str m=>have:=of_decide_eq_true e;subst this;rw[r.1,g.1];exact⟨rfl,rfl⟩
  |_=>cases e
 |.bl a=>λt' v d c b e r g _ _=>by
  cases t' with
  |bl m=>have:=of_decide_eq_true e;subst this;rw[r.1,g.1];exact⟨rfl,rfl⟩
  |_=>cases e
 |.non=>λt' v d c b e r g _ _=>by
  cases t' with
  |non=>rw[r.1,g.1];exact⟨rfl,rfl⟩
  |_=>cases e
 |.hole=>λt' v d c b e _ _ _ _=>by cases t' <;> cases e
 |.ty _=>λt' v d c b e _ _ _ _=>by cases t' <;> cases e
 |.cl _=>λt' v d c b e _ _ _ _=>by cases t' <;> cases e
 |.exc _=>λt' v d c b e _ _ _ _=>by cases t' <;> cases e
 |.dic _ _=>λt' v d c b e _ _ _ _=>by cases t' <;> cases e
 |.ins _ _ _=>λt' v d c b e _ _ _ _=>by cases t' <;> cases e
theorem smTs_eq(l:Same F H)(sb:∀k,Same (B k) H):∀(g a:List Tr)(vs b:List V)(c f:Cs)(n:Nat),smTs g a=true->Rs K F B g vs c->Rs K F B a b f->Cells F H c->Cells F H f->deps g<=n->All2 (EqT K H n) vs b
 |[]=>λa vs b c f n e r h _ _ _=>by
  cases a with
  |nil=>rw[r.1,h.1];exact True.intro
  |cons _ _=>cases e
 |x::xs=>λa vs b c f n e r h j d E=>by
  cases a with
  |nil=>cases e
  |cons y w=>
   obtain⟨v,q,p,z,m,J,I,s⟩:=r;obtain⟨G,M,L,D,u,o,A,C⟩:=h;rw[J] at j;rw[o] at d;rw[m,u];unfold smTs at e;rw[and_eq_true] at e;unfold deps at E;exact⟨h'B (n'I l sb x y v G p L e.1 I A j.left d.left) (by omega),smTs_eq l sb xs w q M z D n e.2 s C j.right d.right (by omega)⟩
end
theorem k'y(p:Same F H)(sb:∀k,Same (B k) H):∀(f a:List (Key×Tr))(vs b:List (Key×V))(c g:Cs)(n:Nat),agP f a=true->Rk K F B f vs c->Rk K F B a b g->Cells F H c->Cells F H g->afX f<=n->(f.map (·.1)).Nodup->ag8 K H n vs b/\vs.map (·.1)=f.map (·.1)/\b.map (·.1)=f.map (·.1)
 |[]=>λa vs b c g n e r j _ _ _ _=>by
  cases a with
  |nil=>rw[r.1,j.1];exact⟨⟨rfl,λ_ _ m=>nomatch m⟩,rfl,rfl⟩
  |cons _ _=>cases e
 |(k,x)::xs=>λa vs b c g n e r j o d s hd=>by
  cases a with
  |nil=>cases e
  |cons y ys=>
   obtain⟨l,y⟩:=y;obtain⟨v,q,c1,N,I,h2,h3,h4⟩:=r;obtain⟨w,Y,c2,d2,M,L,g3,O⟩:=j;rw[h2] at o;rw[L] at d;unfold agP at e;rw[and_eq_true,and_eq_true,decide_eq_true_eq] at e;obtain⟨A,D,Q⟩:=e;dsimp only at A D;subst A;unfold afX at s;dsimp only at s;obtain⟨G,U⟩:=nodup_cons.mp (show (k::xs.map (·.1)).Nodup from hd);obtain⟨⟨i1,J⟩,C,i4⟩:=k'y p sb xs ys q Y N d2 n Q h4 O o.right d.right (by omega) U;have t:=h'B (n'I p sb x y v w c1 c2 D h3 g3 o.left d.left) (show dep x<=n by omega);subst I;subst M;refine⟨⟨by rw[length_cons,length_cons,i1],λE u m=>?_⟩,by rw[map_cons,map_cons,C],by rw[map_cons,map_cons,i4]⟩;rcases mem_cons.mp m with m |m
   .cases m;refine⟨w,?_,t⟩;simp[adS]
   .obtain⟨z,z1,z2⟩:=J E u m;refine⟨z,?_,z2⟩;have ne:¬ k=E:=λh=>G (by rw[<- C,h];exact mem_map.mpr ⟨_,m,rfl⟩)
    simp only[adS] at z1 ⊢;rw[List.find?_cons_of_neg (by simpa using ne)];exact z1
mutual
theorem v'r(l:Same F H)(sb:∀k,Same (B k) H):∀(t t':Tr)(v g:V)(c d:Cs),smN t t'=true->R K F B t v c->R K F B t' g d->Cells F H c->Cells F H d->EqN K H (aeL t) v g
 |.tup m=>λt' v g c d e r h w j=>by
  cases t' with
  |tup x=>
   unfold smN at e;obtain⟨a,vs,rfl,p,u⟩:=r.tupH l;obtain⟨n,b,rfl,s,q⟩:=h.tupH l;exact .inr ⟨a,n,rfl,rfl,.inl ⟨vs,b,.inl ⟨p,s⟩,smNs_eq l sb m x vs b c d (depNs m) e u q w j (le_refl _)⟩⟩
  |_=>cases e
 |.lst f m=>λt' v g c d e r h w j=>by
  cases t' with
  |lst C x=>
   unfold smN at e;obtain⟨a,vs,y,rfl,p,u,A,_⟩:=r.lstH l sb w;obtain⟨n,b,o,rfl,s,q,z,_⟩:=h.lstH l sb j;exact .inr ⟨a,n,rfl,rfl,.inl ⟨vs,b,.inr ⟨p,s⟩,smNs_eq l sb m x vs b y o (depNs m) e u q A z (le_refl _)⟩⟩
  |_=>cases e
 |.dic f m=>λt' v g c d e r h w j=>by
  cases t' with
  |dic C x=>
   unfold smN at e;have nd:=r.dicN;obtain⟨a,vs,y,rfl,p,u,A,_⟩:=r.dicH l sb w;obtain⟨n,b,o,rfl,s,q,z,_⟩:=h.dicH l sb j;exact .inr ⟨a,n,rfl,rfl,.inr ⟨vs,b,p,s,(k'y l sb m x vs b y o (afX m) e u q A z (le_refl _) nd).1⟩⟩
  |_=>cases e
 |.int a=>λt' v g c d e r h _ _=>by
  cases t' with
  |int n=>have:=of_decide_eq_true e;subst this;rw[r.1,h.1];exact⟨rfl,rfl⟩
  |_=>cases e
 |.str a=>λt' v g c d e r h _ _=>by
  cases t' with
  |str n=>have:=of_decide_eq_true e;subst this;rw[r.1,h.1];exact⟨rfl,rfl⟩
  |_=>cases e
 |.bl a=>λt' v g c d e r h _ _=>by
  cases t' with
  |bl n=>have:=of_decide_eq_true e;subst this;rw[r.1,h.1];exact⟨rfl,rfl⟩
  |_=>cases e
 |.non=>λt' v g c d e r h _ _=>by
  cases t' with
  |non=>rw[r.1,h.1];exact⟨rfl,rfl⟩
  |_=>cases e
 |.hole=>λt' v g c d e _ _ _ _=>by cases t' <;> cases e
 |.ty _=>λt' v g c d e _ _ _ _=>by cases t' <;> cases e
 |.cl _=>λt' v g c d e _ _ _ _=>by cases t' <;> cases e
 |.exc _=>λt' v g c d e _ _ _ _=>by cases t' <;> cases e
 |.ins _ _ _=>λt' v g c d e _ _ _ _=>by cases t' <;> cases e
theorem smNs_eq(l:Same F H)(sb:∀k,Same (B k) H):∀(g a:List Tr)(vs b:List V)(c f:Cs)(n:Nat),smNs g a=true->Rs K F B g vs c->Rs K F B a b f->Cells F H c->Cells F H f->depNs g<=n->All2 (EqN K H n) vs b
 |[]=>λa vs b c f n e r h _ _ _=>by
  cases a with
  |nil=>rw[r.1,h.1];exact True.intro
  |cons _ _=>cases e
 |x::xs=>λa vs b c f n e r h j d E=>by
  cases a with
  |nil=>cases e
  |cons y w=>
   obtain⟨v,q,p,z,m,J,I,s⟩:=r;obtain⟨G,M,L,D,u,o,A,C⟩:=h;rw[J] at j;rw[o] at d;rw[m,u];unfold smNs at e;rw[and_eq_true] at e;unfold depNs at E;exact⟨o'U (v'r l sb x y v G p L e.1 I A j.left d.left) (by omega),smNs_eq l sb xs w q M z D n e.2 s C j.right d.right (by omega)⟩
end
theorem t'p(d:Same F H)(sb:∀k,Same (B k) H)(e:smN t t'=true)(hd:aeL t<=40)(hs:(∃xs,t=.tup xs)\/∃f xs,t=.lst f xs)(r:R K F B t v c)(s:R K F B t' v' c')(u:Cells F H c)(g:Cells F H c'){Q:VK}(q:Q (.bl true) H):ai2 K v v' H Q:=by
 rcases hs with⟨xs,rfl⟩ |⟨f,xs,rfl⟩
 .cases t' with
  |tup m=>
   unfold smN at e;unfold aeL at hd;obtain⟨a,vs,rfl,h,o⟩:=r.tupH d;obtain⟨p,b,rfl,l,j⟩:=s.tupH d;exact⟨depNs xs,a,p,vs,b,by omega,rfl,rfl,.inl ⟨h,l⟩,smNs_eq d sb xs m vs b c c' (depNs xs) e o j u g (le_refl _),q⟩
  |_=>cases e
 .cases t' with
  |lst z m=>
   unfold smN at e;unfold aeL at hd;obtain⟨a,vs,w,rfl,h,o,y,_⟩:=r.lstH d sb u;obtain⟨p,b,n,rfl,l,j,x,_⟩:=s.lstH d sb g;exact⟨depNs xs,a,p,vs,b,by omega,rfl,rfl,.inr ⟨h,l⟩,smNs_eq d sb xs m vs b w n (depNs xs) e o j y x (le_refl _),q⟩
  |_=>cases e
end
def ajg(K:W.Frag):R2:=λx y H Q=>aiv K x y H Q\/ai6 K x y H Q
section
theorem w'H(a:X.A.units+64<cLine):OpR X (compareOp .NotEq) (ajg X.K):=(c'N a).or (u'D a)
end
def ajh(neg:Bool)(x y:Tr)(Q:Tr->Prop):Prop:=wEq neg x y Q\/(smN x y=true/\aeL x<=40/\((∃a,x=.tup a)\/∃f a,x=.lst f a)/\Q (.bl (!neg)))
theorem t'q:Op2 K k (ajg K) (ajh true):=λF B H x y n ty o j Q h s b z g c a f hd p q=>by
 rcases p with p |⟨e,d,l,p⟩
 .exact .inl (b't (k:=k) F B H x y n ty o j Q h s b z g c a f hd p q)
 .exact .inr (t'p (Q:=λ_ _=>Q (.bl false) H) s b e d l g c a f (q _ _ F H [] p (Gr.refl' s) ⟨rfl,rfl⟩ .nil λ_ m=>nomatch m))
class Sm(α:Type)[Enc α](n:outParam Nat):Prop where
 sm:∀x:α,smN (Enc.t x) (Enc.t x)=true
 dp:∀x:α,aeL (Enc.t x)<=n
theorem i't[Enc j][Sm j n]:∀xs:List j,smNs (xs.map Enc.t) (xs.map Enc.t)=true
 |[]=>rfl
 |x::xs=>by show (smN _ _&&smNs (xs.map Enc.t) (xs.map Enc.t))=true;rw[Sm.sm x,i't xs];rfl
theorem g'H[Enc j][Sm j n]:∀xs:List j,depNs (xs.map Enc.t)<=n
 |[]=>zero_le _
 |x::xs=>by show max (aeL _) (depNs (xs.map Enc.t)) <= n;have:=Sm.dp x;have:=g'H xs;omega
instance:Sm Int 0:=⟨λ_=>decide_eq_true rfl,λ_=>zero_le _⟩
instance:Sm Str 0:=⟨λ_=>decide_eq_true rfl,λ_=>zero_le _⟩
instance:Sm Bool 0:=⟨λ_=>decide_eq_true rfl,λ_=>zero_le _⟩
theorem v's(q:Rat):smT (Enc.t q) (Enc.t q)=true:=by show (decide _&&(decide _&&true))=true;rw[decide_eq_true rfl,decide_eq_true rfl];rfl
instance:Sm Rat 1:=⟨λq=>by show (decide _&&(decide _&&true))=true;rw[decide_eq_true rfl,decide_eq_true rfl];rfl,λq=>le_refl 1⟩
theorem i'u:∀m:List (Str×Rat),agP (m.map λp=>((Sum.inr p.1:Key),Enc.t p.2)) (m.map λp=>((Sum.inr p.1:Key),Enc.t p.2))=true
 |[]=>rfl
 |p::m=>by
  show (decide _&&(smT (Enc.t p.2) (Enc.t p.2)&&agP (m.map λp=>((Sum.inr p.1:Key),Enc.t p.2)) (m.map λp=>((Sum.inr p.1:Key),Enc.t p.2))))=true;rw[decide_eq_true rfl,v's,i'u m];rfl
theorem i'v:∀m:List (Str×Rat),afX (m.map λp=>((Sum.inr p.1:Key),Enc.t p.2))<=1
 |[]=>zero_le _
 |p::m=>by show max 1 (afX (m.map λp=>((Sum.inr p.1:Key),Enc.t p.2))) <= 1;have:=i'v m;omega
theorem v't(f g:Fl)(m:List (Str×Rat)):smN (ac1 f m) (ac1 g m)=true:=i'u m
theorem t'r(f:Fl)(m:List (Str×Rat)):aeL (ac1 f m)<=2:=by have:=i'v m;show afX (m.map λp=>((Sum.inr p.1:Key),Enc.t p.2))+1<=2;omega
instance:Sm ack 3:=⟨λr=>by
 show (smN (ac1 .f r.1) (ac1 .f r.1)&&(decide _&&(smN (Enc.t r.2.2.1) (Enc.t r.2.2.1)&&(decide _&&(decide _&&true)))))=true;rw[v't,Sm.sm r.2.2.1,decide_eq_true rfl,decide_eq_true rfl,decide_eq_true rfl];rfl,λr=>by
 have:=t'r .f r.1;have:=Sm.dp r.2.2.1;show max (aeL (ac1 .f r.1)) (max 0 (max (aeL (Enc.t r.2.2.1)) (max 0 (max 0 0))))+1<=3;omega⟩
instance:Sm (Int ⊕ Str) 0:=⟨λx=>by cases x<;>exact decide_eq_true rfl,λx=>by cases x<;>exact zero_le _⟩
instance {j y:Type} [Enc j] [Enc y] {n m:Nat} [Sm j n] [Sm y m]:Sm (j×y) (n+m+1):=⟨λp=>by
 show (smN (Enc.t p.1) (Enc.t p.1)&&(smN (Enc.t p.2) (Enc.t p.2)&&true))=true;rw[Sm.sm p.1,Sm.sm p.2];rfl,λp=>by
 have:=Sm.dp p.1;have:=Sm.dp p.2;show max (aeL (Enc.t p.1)) (max (aeL (Enc.t p.2)) 0)+1<=n+m+1;omega⟩
def hasS(b a:Str):Bool:=!(Builtin.Str.occurrences b a 0 b.length 1).isEmpty
def agv(K:W.Frag)(a:List Tr)(Q:Tr->Prop):Prop:=match a with
 |[.exc D,.tup cs]=>∃(as:List Addr)(b:Bool),cs=as.map Tr.cl /\ ExcK K D /\ W.kitAny K (.ref D) (as.map Value.ref)=some b /\ Q (.bl b)
 |_=>False
theorem n'J:∀{as:List Addr}{vs:List V}{c:Cs},Rs K F B (as.map Tr.cl) vs c->vs=as.map V.ref
 |[],_,_,h=>h.1
 |a::as,_,_,y=>by obtain⟨v,r,c,d,e,_,b,f⟩:=y;rw[e,b.1,n'J f];rfl
theorem p'E:OpA K k (ahd K) (agv K):=λF B H y w E Q x s b z r C p q=>by
 unfold agv at p;split at p
 .obtain⟨v,us,c,d,rfl,rfl,h3,h4⟩:=r;obtain⟨A,u,D,G,rfl,rfl,l,j⟩:=h4;obtain⟨rfl,_⟩:=j;obtain⟨as,o,rfl,f,n,p⟩:=p;obtain⟨_,a,rfl,g⟩:=h3;obtain⟨t,vs,rfl,e,h⟩:=l.tupH s;rw[n'J h] at e;exact⟨a,_,t,as,o,rfl,s.rd g,f,e,n,q _ _ F H [] p (Gr.refl' s) ⟨rfl,rfl⟩ .nil λ_ m=>nomatch m⟩
 .exact p.elim
theorem v'u(K:W.Frag)(f:X.K=K)(d:Gl X x)(g:X.mg x=none)(h:bootBuiltins x=some (.builtin "isinstance"))(c:QA X k (e::es) ps)(b:x≠"__name__":=by decide)(a:(x == ("__debug__":Str))=false:=by decide)(he:starEach (e::es) X.env=(false,eval e X.env)::starEach es X.env:=by rfl)(hpl:(backTo pos (starEach es X.env)).any (·.1)=false:=by rfl):
  QE X k (.Call (.Name x p) (e::es) [] pos) (pB (agv K) ps):=by
 subst f;exact a'U m'G p'E d g h c b a he hpl
theorem w'I(c:Gl X x)(a:X.mg x=none)(d:bootBuiltins x=some (.type n))(b:x≠"__name__":=by decide)(hd:(x == ("__debug__":Str))=false:=by decide):QE X k (.Name x pos) (pC (.ty n)):=⟨_,r'K (v:=.ty n) c a d rfl b hd,e'e λ_ _=>⟨rfl,rfl⟩⟩
end Pu
namespace L2
open PySem PySem.Spec PyProof.Rows
def aht(D:Addr->Nat->Prop)(m:Str)(sp:Nat->Sp)(R:St->XK)(c:TE)(t:TA):TE:=λj H Q=>c j H λx b=>∃a C d fs g,x=.ref a/\Rd b a (.ins C d fs)/\D C g/\fs.lookup m=none/\t j b λvs e=>sp g (x::vs) e Q (R j)
section
theorem n'K(he:PE X o ta)(L:∀C g,D C g->MOkA X.prog X.w X.K X.mg X.base CX k m C ps (sp g))(E:Room k X.A)(p:∀j,acF CX X j (R j))(v:PA X (e::es) t)(n:starEach (e::es) X.env=(false,eval e X.env)::starEach es X.env:=by rfl)(hpl:(backTo pos (starEach es X.env)).any (·.1)=false:=by rfl)(y:eval (.Call (.Attribute o m apos) (e::es) [] pos) X.env=(do
   let ov <- eval o X.env
   standAt apos.atName
   let (f,first) <- holding [ov] (getMethod ov m pl)
   callWith pos f first (backTo pos (starEach (e::es) X.env)) (backToKw pos (keywordEach [] X.env))):=by rfl):
  PE X (.Call (.Attribute o m apos) (e::es) [] pos) (aht D m sp R ta t):=by
 intro pins s j H Q I h;refine W.methodCall_KW (pl:=pl) (thn (he pins s j H _ I h) λu G ⟨x,H1,I1,rx,a,C,dx,fs,g,ex,ea,d,l,q⟩=>?_) y;subst ex;obtain rfl:u=Value.ref a:=rx;obtain⟨c,f,M,b,F,J⟩:=L C g d;obtain⟨B,O,r⟩:=h'K I1.hok ea;have z:B m=none:=RelO.none_of (by rw[<- l];exact r m);refine h'q I1.kIn O (c.get m) b.at_ b.fn z ?_;refine W.callWith_K (first:=[.ref a]) (h₀:=X.base) I.ok.mod.kin b.kp (thn (v pos pins G j H1 _ I1 q) λus N ⟨vs,H2,I2,rv,q2⟩=>⟨I2.kIn,?_⟩) n hpl;exact f'I (us:=.ref a::us) (vs:=.ref a::vs) F E J .nil (p j) I2 (.cons rfl rv) (by rw[append_nil];exact q2)
theorem t's(he:PE X o ta)(B:∀C g,D C g->MOkA X.prog X.w X.K X.mg X.base CX k m C ps (sp g))(p:Room k X.A)(e:∀j,acF CX X j (R j))(n:eval (.Call (.Attribute o m apos) [] [] pos) X.env=(do
   let ov <- eval o X.env
   standAt apos.atName
   let (f,first) <- holding [ov] (getMethod ov m pl)
   callWith pos f first (backTo pos (starEach [] X.env)) (backToKw pos (keywordEach [] X.env))):=by rfl):
  PE X (.Call (.Attribute o m apos) [] [] pos) (aht D m sp R ta aeM):=by
 intro pins s j H Q I h;refine W.methodCall_KW (pl:=pl) (thn (he pins s j H _ I h) λu G ⟨x,H1,I1,rx,a,C,dx,fs,g,ex,ea,d,l,q⟩=>?_) n;subst ex;obtain rfl:u=Value.ref a:=rx;obtain⟨c,f,E,b,F,y⟩:=B C g d;obtain⟨z,O,r⟩:=h'K I1.hok ea;have v:z m=none:=RelO.none_of (by rw[<- l];exact r m);refine h'q I1.kIn O (c.get m) b.at_ b.fn v ?_;exact W.callWith_K0 (first:=[.ref a]) I1.kIn b.kp (f'I (us:=[.ref a]) (vs:=[.ref a]) F p y .nil (e j) I1 (.cons rfl .nil) (by rw[append_nil];exact q))
theorem h'k(h:adT CX X E):∀j,acF CX X j E:=λj pins H s e a I c=>h pins j H s e a I c
end
end L2
namespace Pu
open PySem L2 Vc Sf
section
theorem n'L:∀(a:List Tr)(i:Nat),(dns a)[i]?=a[i]?.map dn
 |[],_=>rfl
 |_::_,0=>rfl
 |_::xs,i + 1=>n'L xs i
theorem e'G{psp:adM}{E:XK}{q':Value->Prop}{w:Tr->List Tr->Prop}{Q:VK}(hk:z=true->Fz S0 F)(M:(dns ts).length=n)(A:∀k,Same (B k) H)(b:OutA K F B H F1 H1 ts vs c1)(U:∀l f d,q' l->Gr F H f d->E l none d)(p1:psp (dns ts) w q')(x:∀f d y g' j v t c,Gr F H f d->(∀c,New (hdn (c1.map (·.1)) H1) c->New H c)->Wld K ⟨z,λ_=>E,q'⟩ lo vs F1 (hdn (c1.map (·.1)) H1) f d y g' j->R K f (λ_=>hdn (c1.map (·.1)) H1) t v c->Cells f d c->New H c->(∀i,∀p∈j i,∀q∈c,p.1≠q.1)->nol t=true->w t g'->Q v d):spX K z lo n psp vs H1 Q E:=by
 obtain⟨cs,G,N,J,Y⟩:=b.r.split b.c;have L:vs.length=n:=by rw[b.r.length,<- M,b'f]
 have hb:∀k,Same (B k) (hdn (c1.map (·.1)) H1):=λk a o e=>c'W (e'f b.n (A k a o e)) (b.g.h _ _ (A k a o e))
 have C:∀c,New (hdn (c1.map (·.1)) H1) c->New H c:=λc n p m=>by
  have z:=n p m;by_cases D:p.1∈c1.map (·.1)
  .obtain⟨q,mq,e⟩:=mem_map.mp D;have e:q.1=p.1:=e;rw[<- e];exact b.n q mq
  .unfold hdn at z;rw[if_neg D] at z;exact b.g.h.free z
 refine⟨L,F1,hdn (c1.map (·.1)) H1,dns ts,cs,_,q',⟨⟨h'J b.g.s,Fz.refl F1⟩,λh=>b.g.fz (hk h),by rw[length_map,b'f,b.r.length],?_,J,λi p m=>d'E (N i p m),Y,λi _=>by rw[getElem?_map],λl _ f d h g=>U l f d h (b.g.hdn b.n g)⟩,p1,?_⟩
 .intro i t h;rw[n'L] at h;cases z:ts[i]? with
  |none=>rw[z] at h;cases h
  |some u=>
   rw[z] at h;cases h;obtain⟨v,O,I⟩:=G i u z;exact .inr ⟨v,by rw[getElem?_map,O];rfl,I.dn (λk=>Le.of (hb k)) u⟩
 .intro f d y g' j v t c' W r hc n dj nl qt;exact x f d y g' j v t c' (b.g.hdn b.n W.g) C W r hc (C _ n) dj nl qt
theorem n'M{psp:adM}{E:XK}{q':Value->Prop}{e:Tr->Prop}{Q:VK}(m:z=true->Fz S0 F)(o:(dns ts).length=n)(p:∀k,Same (B k) H)(h:OutA K F B H F1 H1 ts vs c1)(f:∀b d a,q' b->Gr F H d a->E b none a)(p1:psp (dns ts) (λt _=>e t) q')(q:∀t v d a cs,e t->Out K F B H d a t v cs->Q v a):spX K z 0 n psp vs H1 Q E:=
 e'G m o p h f p1 λd a _ _ _ v t c g _ _ r s n _ j l=>q t v d a c l ⟨g,r.base t j,s,n⟩
theorem OutA.cons{f j:Hp}{t:Tr}{v:V}{c:Cs}{b:List Tr}{vs:List V}{d:Cs}(o:Out K F B H F1 H1 t v c)(a:OutA K F1 B H1 f j b vs d):OutA K F B H f j (t::b) (v::vs) (c++d) where
 g:=o.g.trans' a.g
 r:=⟨v,vs,c,d,rfl,rfl,o.r.mo a.g.le (λ_=>Le.refl _) t,a.r⟩
 c:=(o.c.gr a.g).app a.c λp s q l e=>by
  have:=o.c.h p s;rw[e,a.n q l] at this;cases this
 n:=λp m=>(mem_append.mp m).elim (o.n p) λm=>o.g.h.free (a.n p m)
def aez(D:Addr->Nat->Prop)(m:Str)(x:Tr)(Q:Nat->Prop):Prop:=match x with |.ins _ c fs=>∃g,D c g/\fs.lookup m=none/\Q g |_=>False
theorem k'z{D:Addr->Nat->Prop}{Q:Nat->Prop}(h:aez D m x Q):∃f c fs g,x=.ins f c fs/\D c g/\fs.lookup m=none/\Q g:=by
 unfold aez at h;split at h
 .obtain⟨g,h⟩:=h;exact⟨_,_,_,g,rfl,h⟩
 .exact h.elim
def aiA(q:Value->Prop)(D:Addr->Nat->Prop)(m:Str)(psp:Nat->adM)(po:PE')(b:PA'):PE':=λj Q=>po j λx=>aez D m x λc=>b j λa=>psp c (dns (x::a)) (λt _=>Q t) q
def ah1(D:Addr->Nat->Prop)(m:Str)(psp:Nat->PSp)(po:PE')(b:PA'):PE':=λj Q=>po j λx=>aez D m x λc=>b j λa=>psp c (dns (x::a)) (λt _=>Q t)
theorem Rf.none_of:∀{fs:List (Str×Tr)}{vs:List (Str×V)}{j:Cs}{f:Str},Rf K F B fs vs j->fs.lookup f=none->vs.lookup f=none
 |[],_,_,_,y,_=>by obtain⟨h,_⟩:=y;rw[h];rfl
 |(g,y)::fs,_,_,f,y0,h=>by
  obtain⟨v,r,c,d,a,m,l,b⟩:=y0;rw[a];rw[lookup_cons] at h ⊢;cases e:f == g with
  |true=>rw[e] at h;cases h
  |false=>rw[e] at h;exact Rf.none_of b h
theorem p'F{psp:Nat->adM}{R':St->XK}{q':Value->Prop}(M:∀(F:Hp)(B:Bool->Hp)(H:Hp)(j:St)(y:List Tr),Cxt K k F B H j y->∀d o l,q' d->Gr F H o l->R' j d none l)(N:z=true->k.z=true)(I:∀C xs Q q,psp C xs Q q->xs.length=n)(h:Sim K k te po)(u:adL K k ta pa):Sim K k (aht D m (λC=>spX K z 0 n (psp C)) R' te ta) (aiA q' D m psp po pa):=λF B H j y Q Q' c p q=>by
 refine h F B H j y _ _ c p λx v O E c1 p1 e=>?_
 obtain⟨f,C,fs,g,rfl,Y,G,p1⟩:=k'z p1;obtain⟨a,A,vs,ds,rfl,w,U,_⟩:=e.r.insH e.g.s (λk=>(c.b k).trans e.g.h) e.c;refine⟨a,C,A,vs,g,rfl,w,Y,U.none_of G,u O B E j y _ _ (c.gr e.g) p1 λts us F2 H2 c2 p2 J=>?_⟩;exact n'M (λh=>c.z (N h)) (I _ _ _ _ p2) c.b (OutA.cons e J) (λd o l L g=>M F B H j y c d o l L g) p2 q
theorem k'A{psp:Nat->PSp}(c:z=true->k.z=true)(a:∀C xs Q,psp C xs Q->xs.length=n)(h:Sim K k te po)(b:adL K k ta pa):Sim K k (aht D m (λC=>spP K z 0 n (psp C)) (λ_=>E) te ta) (ah1 D m psp po pa):=
 p'F (R':=λ_=>E) (q':=λ_=>False) (psp:=λC xs Q _=>psp C xs Q) (λ_ _ _ _ _ _ _ _ _ h=>h.elim) c (λC xs Q _=>a C xs Q) h b
def agQ(o:Option Tr)(Q:Tr->Prop):Prop:=match o with |some (.ins f c fs)=>nol (.ins f c fs)=true/\Q (.ins f c fs) |_=>False
theorem t't{Q:Tr->Prop}(h:agQ o Q):∃f c fs,o=some (.ins f c fs)/\nol (.ins f c fs)=true/\Q (.ins f c fs):=by
 unfold agQ at h;split at h
 .exact⟨_,_,_,rfl,h⟩
 .exact h.elim
def ahu(q:Value->Prop)(C:Addr)(psp:adM)(b:PA'):PE':=λj Q=>b j λa=>psp (dns (.ins .o C []::a)) (λt c=>t=.non/\agQ c[0]? Q) q
def agw(C:Addr)(psp:PSp)(b:PA'):PE':=λj Q=>b j λa=>psp (dns (.ins .o C []::a)) λt c=>t=.non/\agQ c[0]? Q
theorem t'u(a:OutA K F B H F1 H1 ts vs c1)(f:H1 x=none)(hd:H1 dx=none)(ne:dx≠x):∃d,OutA K F B H d (upd (upd H1 dx (.own x)) x (.ins C dx [])) (.ins .o C []::ts) (.ref x::vs) ((x,.ins C dx [])::c1):=by
 obtain⟨d,e,_⟩:=al2 (o:=.own x) a.g.s (by intro _ _ z;cases z) hd;have b:upd H1 dx (.own x) x=none:=by rw[a'e (Ne.symm ne)];exact f
 have j:Gr d (upd H1 dx (.own x)) d (upd (upd H1 dx (.own x)) x (.ins C dx [])):=Gr.own1 e.s b;have g:=e.trans' j;refine⟨d,a.g.trans' g,⟨.ref x,vs,[(x,.ins C dx [])],c1,rfl,rfl,⟨x,dx,[],[],rfl,rfl,rfl,rfl⟩,a.r.mo g.le (λ_=>Le.refl _) ts⟩,c'Y e.s (a.c.gr e) b,λp m=>?_⟩;cases m with
 |head=>exact a.g.h.free f
 |tail _ m=>exact a.n p m
theorem n'N{psp:adM}{R':St->XK}{q':Value->Prop}(L:∀(F:Hp)(B:Bool->Hp)(H:Hp)(j:St)(y:List Tr),Cxt K k F B H j y->∀a l d,q' a->Gr F H l d->R' j a none d)(O:z=true->k.z=true)(E:∀xs Q q,psp xs Q q->xs.length=n)(w:adL K k ta pa):Sim K k (aeW C (spX K z 1 n psp) [] R' ta) (ahu q' C psp pa):=λF B H j y Q Q' c p q=>by
 refine w F B H j y _ _ c p λts vs F1 H1 c1 p1 N x dx s hd ne=>?_
 rw[append_nil];obtain⟨F2,G⟩:=t'u (C:=C) N s hd ne;refine e'G (λh=>c.z (O h)) (E _ _ _ p1) c.b G (λa l d J g=>L F B H j y c a l d J g) p1 λl d j' y' m v t c' g I W r hc n dj nl o=>?_
 obtain⟨rfl,o⟩:=o;obtain⟨f,c,fs,M,D,Y⟩:=t't o;refine⟨r.1,?_⟩;rcases W.e 0 _ M with z |⟨u,A,U⟩
 .cases z
 .have:=W.p 0 Nat.zero_lt_one;rw[A] at this;cases this;exact q _ _ l d (m 0) Y ⟨g,U.base _ D,W.c 0,I _ (W.n 0)⟩
theorem p'G{psp:PSp}(b:z=true->k.z=true)(a:∀xs Q,psp xs Q->xs.length=n)(c:adL K k ta pa):Sim K k (aeW C (spP K z 1 n psp) [] (λ_=>E) ta) (agw C psp pa):=
 n'N (R':=λ_=>E) (q':=λ_=>False) (psp:=λxs Q _=>psp xs Q) (λ_ _ _ _ _ _ _ _ _ h=>h.elim) b (λxs Q _=>a xs Q) c
end
section
theorem a'A{D:Addr->Nat->Prop}{psp:Nat->PSp}(v:∀C g,D C g->MOkA X.prog X.w X.K X.mg X.base CX0 km m C ps (spP X.K z 0 n (psp g)))(p:z=true->k.z=true)(r:∀C xs Q,psp C xs Q->xs.length=n)(q:Room km X.A)(u:QE X k o po)(b:QA X k (e::es) pa)(a:starEach (e::es) X.env=(false,eval e X.env)::starEach es X.env:=by rfl)(hpl:(backTo pos (starEach es X.env)).any (·.1)=false:=by rfl)(j:eval (.Call (.Attribute o m apos) (e::es) [] pos) X.env=(do
   let ov <- eval o X.env
   standAt apos.atName
   let (f,first) <- holding [ov] (getMethod ov m pl)
   callWith pos f first (backTo pos (starEach (e::es) X.env)) (backToKw pos (keywordEach [] X.env))):=by rfl):QE X k (.Call (.Attribute o m apos) (e::es) [] pos) (ah1 D m psp po pa):=by
 obtain⟨x,c,s⟩:=u.h;obtain⟨y,l,d⟩:=b.h;exact⟨_,n'K (R:=λ_=>E0) c v q (h'k f'd) l a hpl j,k'A p r s d⟩
theorem d'b{D:Addr->Nat->Prop}{psp:Nat->PSp}(p:∀C g,D C g->MOkA X.prog X.w X.K X.mg X.base CX0 km m C ps (spP X.K z 0 n (psp g)))(j:z=true->k.z=true)(a:∀C xs Q,psp C xs Q->xs.length=n)(d:Room km X.A)(l:QE X k o po)(e:eval (.Call (.Attribute o m apos) [] [] pos) X.env=(do
   let ov <- eval o X.env
   standAt apos.atName
   let (f,first) <- holding [ov] (getMethod ov m pl)
   callWith pos f first (backTo pos (starEach [] X.env)) (backToKw pos (keywordEach [] X.env))):=by rfl):QE X k (.Call (.Attribute o m apos) [] [] pos) (ah1 D m psp po ahT):=by
 obtain⟨q,c,b⟩:=l.h;exact⟨_,t's (R:=λ_=>E0) c p d (h'k f'd) e,k'A j a b j'C⟩
section
theorem f'r{psp:PSp}(M:Mk X.K C f)(G:FnOk X.prog X.w X.K X.mg X.base CX0 km f fd ps (spP X.K z 1 n psp))(j:z=true->k.z=true)(o:∀xs Q,psp xs Q->xs.length=n)(m:Room (km+1) X.A)(g:Gl X x)(l:X.mg x=some (.ref C))(q:Binds X.K fd ps [])(b:QA X k (e::es) pa)(a:(x == ("__debug__":Str))=false:=by decide)(he:starEach (e::es) X.env=(false,eval e X.env)::starEach es X.env:=by rfl)(hpl:(backTo pos (starEach es X.env)).any (·.1)=false:=by rfl):
  QE X k (.Call (.Name x p) (e::es) [] pos) (agw C psp pa):=by
 obtain⟨r,d,c⟩:=b.h;exact⟨_,p'g (R:=λ_=>E0) M G m g l q .nil (h'k f'd) d a he hpl,p'G j o c⟩
end
end
abbrev PL':=List Tr->(Tr->List Tr->Prop)->Prop
structure OutL(K:PySem.W.Frag)(k:Md)(lo:Nat)(us:List V)(Fb Hb F F' H':Hp)(j:St)(y:List Tr)(cs:Nat->Cs)(t:Tr)(v:V)(e:Cs):Prop where
 l:Le F F'
 W:Wld K k lo us Fb Hb F' H' j y cs
 r:R K F' (λ_=>Hb) t v e
 c:Cells F' H' e
 n:New Hb e
 d:∀i,∀p∈cs i,∀q∈e,p.1≠q.1
def agx(K:W.Frag)(k:Md)(lo:Nat)(h:TE)(pl:PL'):Prop:=∀(us:List V)(f g F H:Hp)(j:St)(y:List Tr)(m:Nat->Cs)(Q:VK)(b:Tr->List Tr->Prop),Wld K k lo us f g F H j y m->pl y b->
 (∀t v l e d a c,OutL K k lo us f g F l e j d a t v c->b t d->Q v e)->h j H Q
section
theorem OutL.held{t:Tr}{v:V}{c:Cs}(o:OutL K k lo us Fb Hb F F' H' j y cs t v c):∃a,Le F a/\Wld K k lo us Fb Hb a H' j y cs/\R K a (λ_=>Hb) (frz t) v []:=by
 obtain⟨a,f,b,e⟩:=o.W.lay o.c o.n (o.r.plain t) o.d;exact⟨a,o.l.trans (Le.of b),f,o.r.frz (Le.of b) t e⟩
def agy(i:Nat)(pl:PL'):PS':=λD j=>pl j λt a=>D.nx (a.set i t)
theorem p'H(g:lo<=i)(h:agx K k lo te pl):acS K k lo (afL te (adH i)) (agy i pl):=λus b l F H y G m D s W p L=>by
 refine h us b l F H y G m _ _ W p λt v e f u a q o p1=>?_
 exact L.nx e f _ _ _ (o.W.set g o.r o.c o.n λj _=>o.d j) p1
def ae2(i:Nat)(pl:PL'):PS':=λD j=>pl j λt a=>D.nx (a.set i (frz t))
theorem n'O(f:lo<=i)(h:agx K k lo te pl):acS K k lo (afL te (adH i)) (ae2 i pl):=λus d g F H j y l D s W p L=>by
 refine h us d g F H j y l _ _ W p λt v r e q c n o p1=>?_
 obtain⟨b,u,a,r2⟩:=o.held;exact L.nx b e _ _ _ (a.set f r2 .nil .nil λ_ _ _ _ _ m=>nomatch m) p1
def ae3(pl:PL'):PS':=λD j=>pl j λ_ j1=>D.nx j1
theorem n'P(h:agx K k lo te pl):acS K k lo (aeH te) (ae3 pl):=λus b e F H j y f D m W p L=>
 h us b e F H j y f _ _ W p λt v c d l a g o p1=>L.nx c d _ _ _ o.W p1
def agz(pl:PL'):PS':=λD j=>pl j λt a=>nol t=true/\D.rt t a
theorem p'I(h:agx K k lo te pl):acS K k lo (ah4 te) (agz pl):=λus e m F H j y q D s W p L=>
 h us e m F H j y q _ _ W p λt v g l f a b o p1=>L.rt g l j f a v t b o.W o.r o.c o.n o.d p1.1 p1.2
end
section
def HA(K:W.Frag)(F Hb:Hp)(j:St)(y:List Tr):List (Option Nat)->List Tr->List V->Prop
 |[],ts,vs=>ts=[] /\ vs=[]
 |none::hs,ts,vs=>∃t v b a,ts=t::b /\ vs=v::a /\ R K F (λ_=>Hb) t v [] /\ HA K F Hb j y hs b a
 |some i::hs,ts,vs=>∃t v b a,ts=t::b /\ vs=v::a /\ y[i]? = some t /\ t ≠ .hole /\ j[i]? = some (some v) /\ HA K F Hb j y hs b a
def ahv(K:W.Frag)(k:Md)(lo:Nat)(hs:List (Option Nat))(h:TA)(l:PA'):Prop:=∀(us:List V)(f b F H:Hp)(j:St)(y:List Tr)(g:Nat->Cs)(Q:List V->Hp->Prop)(d:List Tr->Prop),Wld K k lo us f b F H j y g->l y d->
 (∀c vs a e,Le F a->Wld K k lo us f b a e j y g->HA K a b j y hs c vs->d c->Q vs e)->h j H Q
def phN:PA':=λ_ Q=>Q []
def phQ(pe:PE')(b:PA'):PA':=λj Q=>pe (j.map lend) λt=>nlt t=true/\b j λa=>Q (Pu.frz t::a)
theorem p'J:ahv K k lo [] aeM phN:=λus d a F H j y b Q c W p q=>q [] [] F H (Le.refl F) W ⟨rfl,rfl⟩ p
theorem h'l{Q:Tr->Prop}(h:pV o Q):∃t,o=some t/\t≠.hole/\Q t:=by
 unfold pV at h;split at h
 .exact h.elim
 .rename_i t hn;exact⟨t,rfl,λz=>hn (by rw[z]),h⟩
 .exact h.elim
theorem v'v(he:Sim K k te pe)(h:ahv K k lo hs ta ph):ahv K k lo (none::hs) (adJ te ta) (phQ pe ph):=λus m d F H j y u Q x W p q=>by
 refine he F (Bq d H) H j _ _ _ W.cxt p λt v A r z e o=>?_
 obtain⟨l,f,r2,w⟩:=W.heldLe o e.1;exact h us m d l r j y u _ _ f e.2 λb vs n s c g a p3=>q (Pu.frz t::b) _ n s (w.trans c) g ⟨Pu.frz t,v,b,vs,rfl,rfl,r2.mo c (λ_=>Le.refl _) _,a⟩ p3
theorem HA.rs(W:Wld K k lo us Fb Hb F H G J cs):∀{hs:List (Option Nat)}{B:List Tr}{vs:List V},(hs.filterMap id).Nodup->HA K F Hb G J hs B vs->∃c,Rs K F (λ_=>Hb) B vs c/\Cells F H c/\New Hb c/\(∀p∈c,∃i,some i∈hs/\p∈cs i)/\∀i,some i∈hs->∀p∈cs i,p∈c
 |[],_,_,_,y=>by obtain⟨f,g⟩:=y;exact⟨[],by rw[f,g];exact⟨rfl,rfl⟩,.nil,.nil,(λ_ m=>nomatch m),λ_ m=>nomatch m⟩
 |none::hs,_,_,nd,y=>by
  obtain⟨t,v,w,a,f,g,A,x⟩:=y;obtain⟨c,l,s,r,h,o⟩:=HA.rs W (hs:=hs) nd x;refine⟨c,by rw[f,g];exact⟨v,a,[],c,rfl,rfl,A,l⟩,s,r,λp m=>?_,λi m p b=>?_⟩
  .obtain⟨i,b1,b2⟩:=h p m;exact⟨i,.tail _ b1,b2⟩
  .cases m with
   |tail _ m=>exact o i m p b
 |some i::hs,_,_,nd,y=>by
  obtain⟨t,v,w,a,f,g,A,x,I,M⟩:=y;have nd:(i::hs.filterMap id).Nodup:=nd;rw[nodup_cons] at nd;obtain⟨c,l,s,r,h,o⟩:=HA.rs W (hs:=hs) nd.2 M;have E:some i ∉ hs:=λm=>nd.1 (mem_filterMap.mpr ⟨_,m,rfl⟩)
  have rt:R K F (λ_=>Hb) t v (cs i):=by
   rcases W.e i t A with z |⟨u,C,D⟩
   .exact absurd z x
   .rw[I] at C;cases C;exact D
  refine⟨cs i++c,by rw[f,g];exact⟨v,a,cs i,c,rfl,rfl,rt,l⟩,(W.c i).app s λp b q L=>?_,λp m=>(mem_append.mp m).elim (W.n i p) (r p),λp m=>?_,λj m p b=>?_⟩
  .obtain⟨j,b1,b2⟩:=h q L;exact W.d i j (λz=>E (by rw[z];exact b1)) p b q b2
  .rcases mem_append.mp m with m |m
   .exact⟨i,.head _,m⟩
   .obtain⟨j,b1,b2⟩:=h p m;exact⟨j,.tail _ b1,b2⟩
  .rcases mem_cons.mp m with e |m
   .cases e;exact mem_append.mpr (.inl b)
   .exact mem_append.mpr (.inr (o j m p b))
def acP:List (Option Nat)->List Tr->List Tr
 |[],j=>j
 |none::hs,j=>acP hs j
 |some i::hs,j=>(acP hs j).set i .hole
theorem d'N:∀(hs:List (Option Nat))(j:List Tr),(acP hs j).length=j.length
 |[],_=>rfl
 |none::hs,j=>d'N hs j
 |some i::hs,j=>by show ((acP hs j).set i .hole).length=_;rw[length_set];exact d'N hs j
theorem c'J:∀(hs:List (Option Nat))(y:List Tr),some i ∉ hs->(acP hs y).set i t=acP hs (y.set i t)
 |[],_,_=>rfl
 |none::hs,y,h=>c'J hs y λm=>h (.tail _ m)
 |some j::hs,y,h=>by
  show ((acP hs y).set j .hole).set i t=(acP hs (y.set i t)).set j .hole;rw[List.set_comm _ _ (λz=>h (by rw[z];exact .head _)),c'J hs y λm=>h (.tail _ m)]
theorem e'H:∀(hs:List (Option Nat))(y:List Tr),(acP hs y)[j]?=some t->t=.hole\/(some j ∉ hs/\y[j]?=some t)
 |[],_,h=>.inr ⟨(λm=>nomatch m),h⟩
 |none::hs,y,h=>(e'H hs y h).imp id λ⟨a,b⟩=>⟨λm=>by cases m with |tail _ m=>exact a m,b⟩
 |some i::hs,y,h=>by
  have h:((acP hs y).set i .hole)[j]?=some t:=h;by_cases e:i=j
  .subst e;have c:=(List.getElem?_eq_some_iff.mp h).1;rw[length_set] at c;rw[getElem?_set_self c] at h;cases h;exact .inl rfl
  .rw[getElem?_set_ne e] at h;exact (e'H hs y h).imp id λ⟨a,b⟩=>⟨λm=>by
    rcases mem_cons.mp m with z |m
    .cases z;exact e rfl
    .exact a m,b⟩
theorem Wld.past{hs:List (Option Nat)}{c:Cs}(W:Wld K k lo us Fb Hb F H y G cs)(n:New Hb c)(A:∀p∈c,∃i,some i∈hs/\p∈cs i)(g:Gr F (hdn (c.map (·.1)) H) F' H'):Wld K k lo us Fb Hb F' H' y (acP hs G) (λj=>if some j∈hs then [] else cs j)/\∀j,some j ∉ hs->∀p∈cs j,(hdn (c.map (·.1)) H) p.1=some p.2:=by
 have C:Gr Fb Hb F' H':=W.g.hdn n g;have keep:∀j,some j ∉ hs->∀p∈cs j,(hdn (c.map (·.1)) H) p.1=some p.2:=λj s p o=>by
  refine c'W (λm=>?_) ((W.c j).h p o);obtain⟨q,r,e⟩:=mem_map.mp m;obtain⟨i,B,w⟩:=A q r;exact W.d j i (λz=>s (by rw[z];exact B)) p o q w e.symm
 refine⟨⟨C,λh=>g.fz (W.z h),by rw[d'N];exact W.l,λj t h=>?_,λj=>?_,λj=>?_,λa b ne p o q r=>?_,W.p,W.x⟩,keep⟩
 .rcases e'H hs G h with z |⟨z,e⟩
  .exact .inl z
  .rw[if_neg z];exact (W.e j t e).imp id λ⟨v,h1,h2⟩=>⟨v,h1,h2.mo g.le (λ_=>Le.refl _) t⟩
 .split
  .exact .nil
  .rename_i s;refine⟨λp m=>g.h _ _ (keep j s p m),λp m=>?_,(W.c j).nd⟩;cases z:F' p.1 with
   |none=>rfl
   |some u=>
    have:=g.n p.1 u z ((W.c j).f p m);rw[keep j s p m] at this;cases this
 .split
  .exact .nil
  .exact W.n j
 .split at o
  .cases o
  .split at r
   .cases r
   .exact W.d a b ne p o q r
theorem Wld.fill{i:Nat}{t:Tr}{v:V}{c:Cs}(W:Wld K k lo us Fb Hb F H y G cs)(w:y[i]?=some (some v))(r:R K F (λ_=>Hb) t v c)(B:Cells F H c)(n:New Hb c)(d:∀j,j≠i->∀p∈cs j,∀q∈c,p.1≠q.1):
  Wld K k lo us Fb Hb F H y (G.set i t) (λj=>if j=i then c else cs j) where
 g:=W.g
 z:=W.z
 l:=by rw[length_set];exact W.l
 e:=λj u h=>by
  by_cases e:j=i
  .subst e;have A:j<G.length:=by have:=(List.getElem?_eq_some_iff.mp h).1;rw[length_set] at this;exact this
   rw[getElem?_set_self A] at h;cases h;exact .inr ⟨v,w,by rw[if_pos rfl];exact r⟩
  .rw[getElem?_set_ne (λz=>e z.symm)] at h;rw[if_neg e];exact W.e j u h
 c:=λj=>by
  split
  .exact B
  .exact W.c j
 n:=λj=>by
  split
  .exact n
  .exact W.n j
 d:=λa b ne p m q f=>by
  by_cases o:a=i
  .rw[if_pos o] at m;rw[if_neg (λz=>ne (o.trans z.symm))] at f;exact (d b (λz=>ne (o.trans z.symm)) q f p m).symm
  .rw[if_neg o] at m;by_cases s:b=i
   .rw[if_pos s] at f;exact d a o p m q f
   .rw[if_neg s] at f;exact W.d a b ne p m q f
 p:=W.p
 x:=W.x
def adP:List (Option Nat)->Nat->List Tr->List Tr->(List Tr->Prop)->Prop
 |[],_,_,y,Q=>Q y
 |none::hs,j,y',y,Q=>adP hs (j + 1) y' y Q
 |some i::hs,j,y',y,Q=>pV y'[j]? λt=>nol t=true /\ adP hs (j + 1) y' (y.set i t) Q
theorem e'I{U:Md}{r:Nat}{vs:List V}{C:Hp}{H:St}{A:List Tr}{a:Nat->Cs}{G:Prop}{B:List Tr->Prop}(g:Wld K U r vs F1 C F' H' H A a)(x:Same Hb C):∀(hs:List (Option Nat))(j:Nat)(J:List Tr)(cx:Nat->Cs),(hs.filterMap id).Nodup->Wld K k lo us Fb Hb F' H' y (acP hs J) cx->(∀n i,hs[n]?=some (some i)->∃v,y[i]?=some (some v)/\vs[j+n]?=some v)->j+hs.length<=r->
  (∀i m,(i<lo\/True)->j<=m->∀p∈cx i,∀q∈a m,p.1≠q.1)->adP hs j A J B->(∀s b,Wld K k lo us Fb Hb F' H' y s b->(∀i,∀p∈b i,p∈cx i\/∃m,p∈a m)->B s->G)->G
 |[],j,J,cx,_,W,_,_,_,p,q=>q J cx W (λi p m=>.inl m) p
 |none::hs,j,J,cx,nd,W,hv,hl,d,p,q=>by
  refine e'I g x hs (j+1) J cx nd W (λn i e=>?_) (by rw[length_cons] at hl;omega) (λi m z L=>d i m z (by omega)) p q;obtain⟨v,l,o⟩:=hv (n+1) i e;exact⟨v,l,by rw[show j+1+n=j+(n+1) by omega];exact o⟩
 |some i::hs,j,J,cx,nd,W,hv,hl,d,p,q=>by
  have nd:(i::hs.filterMap id).Nodup:=nd;rw[nodup_cons] at nd;have M:some i ∉ hs:=λm=>nd.1 (mem_filterMap.mpr ⟨_,m,rfl⟩)
  obtain⟨t,O,N,Y,p⟩:=h'l p;obtain⟨v,l,o⟩:=hv 0 i rfl;rw[length_cons] at hl;have rt:R K F' (λ_=>Hb) t v (a j):=by
   rcases g.e j t O with z |⟨u,I,E⟩
   .exact absurd z N
   .have:=g.p j (by omega);rw[I,show vs[j]?=some v from o] at this;cases this;exact E.base t Y
  have D:Wld K k lo us Fb Hb F' H' y (acP hs (J.set i t)) (λm=>if m=i then a j else cx m):=by
   have:=W.fill (i:=i) l rt (g.c j) (λp m=>x.free (g.n j p m)) λm _ p h q w=>d m j (.inr trivial) (le_refl j) p h q w
   rw[show (acP (some i::hs) J).set i t=acP hs (J.set i t) by
    show ((acP hs J).set i .hole).set i t=_;rw[List.set_set];exact c'J hs J M] at this
   exact this
  refine e'I g x hs (j+1) (J.set i t) _ nd.2 D (λn f e=>?_) (by omega) (λf m z L p h q w=>?_) p λs b Q sub=>q s b Q λf p m=>?_
  .obtain⟨v,l,o⟩:=hv (n+1) f e;exact⟨v,l,by rw[show j+1+n=j+(n+1) by omega];exact o⟩
  .by_cases ei:f=i
   .rw[if_pos ei] at h;exact g.d j m (by omega) p h q w
   .rw[if_neg ei] at h;exact d f m z (by omega) p h q w
  .rcases sub f p m with z |z
   .by_cases ei:f=i
    .rw[if_pos ei] at z;exact .inr ⟨j,z⟩
    .rw[if_neg ei] at z;exact .inl z
   .exact .inr z
theorem HA.at_:∀{hs:List (Option Nat)}{h:List Tr}{vs:List V}{n i:Nat},HA K F Hb j G hs h vs->hs[n]?=some (some i)->∃v,j[i]?=some (some v)/\vs[n]?=some v
 |none::hs,_,_,n,i,y,e=>by
  obtain⟨t,v,d,f,l,c,o,g⟩:=y;cases n with
  |zero=>cases e
  |succ n=>obtain⟨u,a,b⟩:=HA.at_ (hs:=hs) g e;exact⟨u,a,by rw[c];exact b⟩
 |some x::hs,_,_,n,i,y,e=>by
  obtain⟨t,v,d,f,l,c,o,g,m,p⟩:=y;cases n with
  |zero=>cases e;exact⟨v,m,by rw[c];rfl⟩
  |succ n=>obtain⟨u,a,b⟩:=HA.at_ (hs:=hs) p e;exact⟨u,a,by rw[c];exact b⟩
theorem HA.len:∀{hs:List (Option Nat)}{d:List Tr}{vs:List V},HA K F Hb j G hs d vs->d.length=hs.length
 |[],_,_,y=>by obtain⟨a,_⟩:=y;rw[a];rfl
 |none::hs,_,_,y=>by obtain⟨t,v,b,c,a,g,f,e⟩:=y;rw[a,length_cons,length_cons,HA.len e]
 |some i::hs,_,_,y=>by obtain⟨t,v,b,c,a,g,f,e,l,h⟩:=y;rw[a,length_cons,length_cons,HA.len h]
end
structure QL(X:Cx)(k:Md)(lo:Nat)(e:Expr)(pl:PL'):Prop where
 h:∃te,PE X e te/\agx X.K k lo te pl
structure QH(X:Cx)(k:Md)(lo:Nat)(es:List Expr)(hs:List (Option Nat))(ph:PA'):Prop where
 h:∃ta,PA X es ta/\ahv X.K k lo hs ta ph
section
theorem d'c:QH X k lo [] [] phN:=⟨_,b'J,p'J⟩
theorem d'O(he:QE X k e pe)(h:QH X k lo es hs ph)(a:starEach (e::es) X.env=(false,eval e X.env)::starEach es X.env:=by rfl):QH X k lo (e::es) (none::hs) (phQ pe ph):=by
 obtain⟨g,c,b⟩:=he.h;obtain⟨j,f,d⟩:=h.h;exact⟨_,b's c f a,v'v b d⟩
section
theorem v'w(d:X.N.Nodup)(b:lo<=i)(a:X.N[i]?=some x)(c:Loc X.env.scope x)(h:QL X k lo e pl)(hs:swapsWith e (some (.Name x pos')) pos.line X.env=pure false:=by rfl)(j:X.fn x=true\/X.env.scope.names.lookup x=some .local:=by first |exact .inl rfl |exact .inr rfl |assumption):
  QS X k lo (.Assign [.Name x pos'] e pos) (agy i pl):=by
 obtain⟨l,g,f⟩:=h.h;exact⟨_,e'X d a c g hs j,p'H b f⟩
theorem k'B(d:X.N.Nodup)(b:lo<=i)(a:X.N[i]?=some x)(c:Loc X.env.scope x)(h:QL X k lo e pl)(hs:swapsWith e (some (.Name x pos')) pos.line X.env=pure false:=by rfl)(j:X.fn x=true\/X.env.scope.names.lookup x=some .local:=by first |exact .inl rfl |exact .inr rfl |assumption):
  QS X k lo (.Assign [.Name x pos'] e pos) (ae2 i pl):=by
 obtain⟨l,g,f⟩:=h.h;exact⟨_,e'X d a c g hs j,n'O b f⟩
theorem f'X(h:QL X k lo e pl)(hs:swapsWith e none pos.line X.env=pure false:=by rfl):QS X k lo (.Expr e pos) (ae3 pl):=by
 obtain⟨c,b,a⟩:=h.h;exact⟨_,c'o b hs,n'P a⟩
theorem b'N(h:QL X k lo e pl):QS X k lo (.Return (some e) pos) (agz pl):=by
 obtain⟨c,b,a⟩:=h.h;exact⟨_,l'Q b,p'I a⟩
end
end
end Pu
namespace L2
open PySem PySem.Spec PyProof.Rows
def aji(d:TE):TE:=λj H Q=>d j H λx c=>∃a b,x=.ref a/\Rd c a (.dK b)/\∀p,c p=none->Q (.ref p) (upd c p (.lst (b.map (·.2))))
theorem i'w(hc:X.calm=true)(hg:Gl X "list")(M:X.mg "list"=none)(ho:PE X o td)(g:attributeBase o "values" X.env (eval o X.env)=eval o X.env)(f:(apos.endLine == cpos.line)=true)(hs:starEach [.Call (.Attribute o "values" apos) [] [] cpos] X.env=[(false,eval (.Call (.Attribute o "values" apos) [] [] cpos) X.env)]:=by rfl):
  PE X (.Call (.Name "list" p) [.Call (.Attribute o "values" apos) [] [] cpos] [] pos) (aji td):=by
 intro pins s G H Q I h;refine wpAny_Call_Name_kw (b'o I hg M (u:=.type "list") rfl ?_);refine PyProof.Rows.callWith_type1 ?_ hs rfl;rw[hs];show wpAny _ _ (spliced ((false,eval (.Call (.Attribute o "values" apos) [] [] cpos) X.env)::backTo pos [])) _ _ s;refine Calls.spliced_cons ?_;refine wpAny_Call_method0_late g f (thn (ho pins s G H _ I h) λv l ⟨x,H1,I1,r1,a,kvs,ex,hH,q⟩=>?_);subst ex;obtain rfl:v=Value.ref a:=r1;obtain⟨E,O,hd⟩:=f'b I1 (.inl ⟨kvs,hH⟩);refine⟨"dict","dict.values",PySem.F.plainAttrs_dict,PySem.F.slot_dict_values,PySem.F.type_dict_values,E,O,Calls.callWith_builtin rfl (PySem.evalArgs_none ?_)⟩;obtain⟨z,y,vs,r,J⟩:=b'x I1.hok hH;refine call_meetsIn PySem.F.slot_dict_values E PySem.F.entry_dict_values (PySem.F.args_dict_values_1 _) (meets_dict_values (acn X.prog X.w) a hd) ⟨⟨vs,J⟩,?_⟩;have D:Inv X pins G H1 { l with heap:=l.heap.push { cls:=.type "dict_values",data:=.fields #[.ref a] } }:=I1.kept (t':=l.toks) λb o e=>Heap.get?_push_of_some _ e
 obtain⟨ep,A⟩:=J.dictAt;have n:=A.push { cls:=.type "dict_values",data:=.fields #[.ref a] };have C:kvs.length=vs.length:=KV.length r;refine Calls.spliced_nil ?_;refine W.kdl_call (s:={ l with heap:=l.heap.push { cls:=.type "dict_values",data:=.fields #[.ref a] } }) (W.kdl_values (knd:=acn X.prog X.w) (kvs:=vs) (ep:=ep) (r:=l.heap.objs.size) (d:=a)) (I.ok.hd hc) ⟨⟨_,Heap.get?_push_size _ rfl,rfl,rfl⟩,n⟩ (by rw[<- C];exact z) λh' U m N Y L c=>?_
 have B:H1 (l.heap.push { cls:=.type "dict_values",data:=.fields #[.ref a] }).objs.size=none:=D.hok.fresh (le_refl _);refine⟨.ref _,_,D.laid (o:=.lst (kvs.map (·.2))) (h':=h') (t':=U) Y (le_refl _) ⟨by rw[length_map];exact z,m.toList,N,?_,by rw[Array.toArray_toList];exact L⟩,rfl,q _ B⟩;refine m'C r (by rw[length_toList,c.1,C]) λj u hu=>?_
 exact c.2 j u (by rw[<- getElem?_toList];exact hu)
end L2
namespace Pu
open PySem L2 Vc Sf
section
theorem Rk.snd:∀{m:List (Key×Tr)}{vs:List (Key×V)}{c:Cs},Rk K F B m vs c->Rs K F B (m.map (·.2)) (vs.map (·.2)) c
 |[],_,_,y=>by obtain⟨h,a⟩:=y;rw[h,a];exact⟨rfl,rfl⟩
 |(y,x)::m,_,_,y0=>by obtain⟨v,r,c,d,e,a,b,f⟩:=y0;rw[e,a];exact⟨v,_,c,d,rfl,rfl,b,Rk.snd f⟩
def wLV(t:Tr)(Q:Tr->Prop):Prop:=match t with |.dic _ m=>Q (.lst .o (m.map (·.2))) |_=>False
theorem v'x(h:Sim K k te pe):Sim K k (aji te) (p1 wLV pe):=λF B H j G Q w c p q=>by
 refine h F B H j G _ _ c p λx v l A z p1 d=>?_
 unfold wLV at p1;split at p1
 .obtain⟨a,vs,ds,rfl,h1,h2,h3,h4⟩:=d.r.dicH d.g.s (λk=>(c.b k).trans d.g.h) d.c;refine⟨a,vs,rfl,h1,λp e=>?_⟩;obtain⟨f,u,o⟩:=b'B d.g.s h2.snd h3 e;refine q _ _ l _ _ p1 ⟨d.g.trans' f,u,o,λy m=>?_⟩;cases m with
  |head=>exact d.g.h.free e
  |tail _ m=>exact d.n y (h4 y m)
 .exact p1.elim
end
section
theorem x'b(d:X.calm=true)(c:Gl X "list")(g:X.mg "list"=none)(h:QE X k o po)(b:attributeBase o "values" X.env (eval o X.env)=eval o X.env:=by rfl)(a:(apos.endLine == cpos.line)=true:=by rfl)(hs:starEach [.Call (.Attribute o "values" apos) [] [] cpos] X.env=[(false,eval (.Call (.Attribute o "values" apos) [] [] cpos) X.env)]:=by rfl):
  QE X k (.Call (.Name "list" p) [.Call (.Attribute o "values" apos) [] [] cpos] [] pos) (p1 wLV po):=by
 obtain⟨j,f,e⟩:=h.h;exact⟨_,i'w d c g f b a hs,v'x e⟩
end
theorem n'Q:ah1 D m psp po pa j Q=(po j λx=>aez D m x λc=>pa j λa=>psp c (dns (x::a)) (λt _=>Q t)):=rfl
theorem k'C:agw C psp pa j Q=(pa j λa=>psp (dns (.ins .o C []::a)) λt b=>t=.non/\agQ b[0]? Q):=rfl
theorem k'D(i:Nat)(pl:PL')(D:Pd)(j:List Tr):agy i pl D j=(pl j λt a=>D.nx (a.set i t)):=rfl
theorem i'x(i:Nat)(pl:PL')(D:Pd)(j:List Tr):ae2 i pl D j=(pl j λt a=>D.nx (a.set i (frz t))):=rfl
theorem i'y:ae3 pl D j=(pl j λ_ j1=>D.nx j1):=rfl
theorem k'E:agz pl D j=(pl j λt a=>nol t=true/\D.rt t a):=rfl
theorem r'r:phN j' Q=(Q []):=rfl
theorem r's:phQ pe ph j Q=(pe (j.map lend) λt=>nlt t=true/\ph j λa=>Q (Pu.frz t::a)):=rfl
theorem i'z(j:Nat)(a y:List Tr)(Q:List Tr->Prop):adP [] j a y Q=Q y:=rfl
theorem k'F(hs:List (Option Nat))(j:Nat)(a y:List Tr)(Q:List Tr->Prop):adP (none::hs) j a y Q=adP hs (j+1) a y Q:=rfl
theorem i_l(c:Addr)(fs:List (Str×Tr)):lend (.ins .o c fs)=.ins (.l true) c (lendf fs):=rfl
theorem i_d(c:Addr)(fs:List (Str×Tr)):dn (.ins .o c fs)=.ins .o c (dnf fs):=rfl
theorem i_o(c:Addr)(fs:List (Str×Tr)):nol (.ins .o c fs)=nolf fs:=rfl
theorem i_t(c:Addr)(fs:List (Str×Tr)):nlt (.ins .o c fs)=nltf fs:=rfl
theorem v'y(f:Fl)(m:List (Key×Tr))(Q:Tr->Prop):wLV (.dic f m) Q=Q (.lst .o (m.map (·.2))):=rfl
theorem n'R(K:W.Frag)(f:Str)(c:Addr)(fs:List (Str×Tr))(Q:Addr->List (Str×Tr)->Prop):ad9 K f (.ins .o c fs) Q=((Cls K c/\NoAttr K c f)/\fs.length<900/\Q c fs):=rfl
theorem b'g(f:Str)(u:Tr):aex f u []=[(f,u)]:=rfl
theorem k'G(f:Fl)(c:Addr)(xs:List (Str×Tr))(R:Tr->Prop):wP0 (some (.ins f c xs)) R=R (.ins f c xs):=rfl
section
def aiB(i:Nat):PL':=λj Q=>pV j[i]? λt=>Q t (j.set i .hole)
theorem t'v:agx K k lo (adZ i) (aiB i):=λus r s F H y G m Q o W p q=>by
 obtain⟨t,b,g,p⟩:=h'l p;rcases W.e i t b with z |⟨v,f,h⟩
 .exact absurd z g
 refine⟨v,f,q t v F H _ _ (m i) ⟨Le.refl _,W.hole (i:=i),h,W.c i,W.n i,λj p a q l=>?_⟩ p⟩;split at a
 .cases a
 .rename_i hj;exact W.d j i hj p a q l
theorem n'S(i:Nat)(j:List Tr)(Q:Tr->List Tr->Prop):aiB i j Q=(pV j[i]? λt=>Q t (j.set i .hole)):=rfl
end
section
theorem c'm(i:Nat)(b:X.N[i]?=some x:=by rfl)(c:Vis X.env.scope x:=by first |exact Or.inl rfl |exact Or.inr (Or.inl rfl) |exact Or.inr (Or.inr rfl))(hd:(x == ("__debug__":Str))=false:=by decide)(a:(x == ("__classdict__":Str))=false:=by decide):QL X k lo (.Name x pos) (aiB i):=⟨_,e'W b c hd a,t'v⟩
end
theorem c'c(a:Xe1 X E):PassesOwn (model X.prog X.w) X.A X.env X.xe:=by
 rw[show X.xe=_ from a]
 passes_own
end Pu
namespace L2
open PySem PySem.Spec PyProof.Rows
inductive HsOk (X:Cx):List ExceptHandler->(Ends->St->XK)->Prop
 |nil:HsOk X [] (λ_ _ _ _ _=>False)
 |cons {x:Str} {np hpos:Pos} {b₀:Stmt} {suite:List Stmt} {C:Addr} {th:TS} {hs:List ExceptHandler} {R:Ends -> St -> XK} (hg:Gl X x) (hm:X.mg x=some (.ref C)) (hh:∀v:Value,PSs (X.inHandler v) (b₀::suite) th) (hdb:(x == ("__debug__":Str))=false) (r:HsOk X hs R) :
   HsOk X (.ExceptHandler (some (.Name x np)) none (b₀::suite) hpos::hs) (λD j cls o H=>(W.exmOne X.K cls (.ref C)=some true/\th D j H)\/(W.exmOne X.K cls (.ref C)=some false/\R D j cls o H))
 |as {x n:Str} {np hpos:Pos} {b₀:Stmt} {suite:List Stmt} {C:Addr} {i:Nat} {th:TS} {hs:List ExceptHandler} {R:Ends -> St -> XK} (hg:Gl X x) (hm:X.mg x=some (.ref C)) (hN:X.N.Nodup) (hi:X.N[i]? = some n) (hn:X.env.scope.names.lookup n=some .local) (hh:∀v:Value,PSs (X.inHandler v) (b₀::suite) th) (hdb:(x == ("__debug__":Str))=false) (r:HsOk X hs R) :
   HsOk X (.ExceptHandler (some (.Name x np)) (some n) (b₀::suite) hpos::hs) (λD j cls o H=>(W.exmOne X.K cls (.ref C)=some true/\∃B,cls=.ref B/\∀y,H y=none->th (D.less i) (j.set i (some (.ref y))) (upd H y (exO y B)))\/(W.exmOne X.K cls (.ref C)=some false/\R D j cls o H))
section
theorem v'z{R:Ends->St->XK}(hh:HsOk X hs R)(Q:X.Ok){H1 f:Hp}{s1 s2:Shared}(J1:Inv X pins j' H1 s1)(L:∀(H:Hp)(h:Heap),Un (frs X.stack) [] H1 H s1.heap h->HOk X.prog X.w H h->Inv X pins j' H { s2 with heap:=h })(on:∀h2:Heap,base.StaysIn h2->h5.UpToSlots h2->Un (frs X.stack) [] H1 f s1.heap h2/\HOk X.prog X.w f h2)(n1:s1.heap.get? y=none)(n2:f y=none)(G:Heap.FlyingW base l y cls a0 h5)(u5:h5.UpToSlots h5)(θ:Cn y h5):
  R D j' cls none f->wpAny (model X.prog X.w) X.A (handleBy (.ref y) X.env hs) (SP X pins D) X.xe { s2 with heap:=h5 }:=by
 have o5:=on h5 G.1 u5;have J5:=L f h5 o5.1 o5.2;obtain⟨ob,s,E⟩:=G.there
 induction hh with
 |nil=>exact λh=>h.elim
 |@cons x np I ζ α C th hs R hg hm hh Y r ih=>
  intro h;refine wpAny_handleBy_cons (codeAny_handlers_test ?_) (by intro q;cases q);refine b'r (X:=X.inHandler (.ref y)) (J5.inHandler (.ref y)) hg hm ?_ Y;rcases h with⟨a,β⟩ |⟨a,hR⟩
  .subst E;refine (W.exm_one (M:=model X.prog X.w) J5.kIn ((W.Looks.ld s).andThen .now) a).here ?_;refine codeAny_handlers_suite (lands_againW G λh6 p N=>?_);have d:=on h6 p.1 N;have J6:=(L f h6 d.1 d.2).inHandler (.ref y);exact wpAny_mono (hh (.ref y) pins _ j' f D J6 β) (λfl s7 q=>q.imp λj H J=>Inv.outHandler Q J) λ_ _ z=>z.elim
  .subst E;refine (W.exm_one (M:=model X.prog X.w) J5.kIn ((W.Looks.ld s).andThen .now) a).here ?_;exact ih hR
 |@as x n np I ζ α C i th hs R hg hm hN hi hn hh Y r ih=>
  intro h;refine wpAny_handleBy_cons (codeAny_handlers_test ?_) (by intro q;cases q);refine b'r (X:=X.inHandler (.ref y)) (J5.inHandler (.ref y)) hg hm ?_ Y;rcases h with⟨a,B,rfl,β⟩ |⟨a,hR⟩
  .refine (W.exm_one (M:=model X.prog X.w) J5.kIn (show W.Looks _ h5 (typeOf (.ref y)) (.ref B) from ExAt.ty ⟨ob,s,E⟩) a).here ?_;refine codeAny_handlers_suite_as (m'r G θ λh6 p N μ=>?_);have d:=on h6 p.1 N;obtain⟨ι,γ,δ⟩:=p.there;have ne:∀b o,f b=some o->b≠y:=λb o q z=>by rw[z,n2] at q;cases q
   have ν:Un (frs X.stack) [] H1 (upd f y (exO y B)) s1.heap h6:=
    ⟨d.1.keep,d.1.slot,λb o e q hx=>by rw[a'e (λz=>by rw[z,n1] at e;cases e)];exact d.1.free b o e q hx,d.1.there,λb xs q=>by rw[a'e (ne b _ (d.1.tups b xs q))];exact d.1.tups b xs q,
     λb o u q=>by rw[a'e (ne b _ (d.1.frzs b o u q))];exact d.1.frzs b o u q,λb ps q=>by
      obtain⟨η,z⟩:=d.1.tbls b ps q;exact⟨η,by rw[a'e (ne b _ z)];exact z⟩⟩
   have ξ:HOk X.prog X.w (upd f y (exO y B)) h6:=λb o q=>by
    by_cases z:b=y
    .subst z;rw[a'g] at q;cases q;exact m'v ⟨ι,γ,δ⟩ μ
    .rw[a'e z] at q;exact (d.2 b o q).stay (λ_ _ _ e=>e) (λc e=>by rw[a'e (ne c _ e)];exact e) λc xs e=>by rw[a'e (ne c _ e)];exact e
   have J6:=L _ h6 ν ξ;refine d'f (X:=X.inHandler (.ref y)) (v:=.ref y) (J6.inHandler (.ref y)) hN hi (.inl hn) rfl (λs7 J7=>?_) (.inr hn);refine wpAny_mono (hh (.ref y) pins s7 _ _ _ J7 (β y n2)) (λfl s8 q=>?_) λ_ _ z=>z.elim
   have go:∀{O:St}{U:Hp}{R:Unit->Shared->Prop},Inv (X.inHandler (.ref y)) pins O U s8->(∀s9,Inv X pins (O.set i none) U s9->R () s9)->wpAny (model X.prog X.w) X.A (do bindName X.env n .none;unbindBehindTheSuite X.env n I) R X.xe s8:=by
    intro O U R g hR;have J:=Inv.outHandler Q g;obtain⟨m,ε,κ⟩:=J.loc;exact wpAny_nameGoes_keeps hn ε (by rw[Q.kind];rfl) λh9 v ο π=>hR _ (J.gone hN hi ε κ ο π)
   match fl,q with
   |.next,⟨O,U,g,q⟩=>exact go g λs9 J9=>⟨_,_,J9,q⟩
   |.brk,⟨O,U,g,q⟩=>exact go g λs9 J9=>⟨_,_,J9,q⟩
   |.cont,⟨O,U,g,q⟩=>exact go g λs9 J9=>⟨_,_,J9,q⟩
   |.ret u,⟨v,O,U,g,rv,q⟩=>exact go g λs9 J9=>⟨v,_,_,J9,rv,q⟩
  .subst E;refine (W.exm_one (M:=model X.prog X.w) J5.kIn ((W.Looks.ld s).andThen .now) a).here ?_;exact ih hR
def ahw(R:Ends->St->XK)(tb:(St->XK)->TS):TS:=λD j H=>tb (R D) D j H
theorem t'w{R:Ends->St->XK}{tb:(St->XK)->TS}(hs:X.stack=X.env::X.outer)(Q:X.env.frame=some X.env.locals)(hh:HsOk X (h₀::hl) R)(c:∀(pn:List (Addr×Obj))(xe:Value->Shared->Prop)(R:St->XK),(∀j,acF (CX1 X.prog X.w) (X.kept2 pn xe) j (R j))->PSs (X.kept2 pn xe) body (tb R)):PS X (.Try body (h₀::hl) [] [] pos) (ahw R tb):=by
 intro pins s j H D I h;refine wpAny_Try_except ?_;have m:∀v,acF (CX1 X.prog X.w) (X.kept2 (X.pn++pins) λe n=>wpAny (model X.prog X.w) X.A (noteFrame e X.env) (λ_ p=>wpAny (model X.prog X.w) X.A (setFlight e none)
   (λ_ r=>wpAny (model X.prog X.w) X.A (handleBy e X.env (h₀::hl)) (SP X pins D) X.xe r) X.xe p) X.xe n) v (R D v):=by
  intro v O H1 B e l I1 hc;obtain⟨y,U,H2,rfl,os,bare,un,hok,d,hR⟩:=hc;have L:Inv X pins v H1 B:=Inv.unkeep2 I.ok I1;have J2:Inv X pins v H2 l:=L.call' (ch:=[]) os un hok bare (λb z=>absurd z (by simp));obtain⟨T,a0,C,hT,G⟩:=d.traced;have M:∀env∈X.env::X.outer,∀a,env.frame=some a->a∈y::T::frs X.stack:=λenv he a Q=>.tail _ (.tail _ (by rw[hs];exact c'V env he a Q))
  have β:Heap.FlyingW (W.hideAll l.heap (y::T::frs X.stack)) (X.env::X.outer) y U a0 l.heap:=
   ⟨λb o q=>W.of_hideAll _ q,W.hideAll_none _ (.head _),W.funFrames_hide (hs ▸ J2.stack) M,G _ (.tail _ (.head _))⟩
  have on:∀g:Heap,(W.hideAll l.heap (y::T::frs X.stack)).StaysIn g->l.heap.UpToSlots g->Un (frs X.stack) [] H1 H2 B.heap g/\HOk X.prog X.w H2 g:=λg k sm=>by
   obtain⟨u,ok,_⟩:=h'G (fs:=frs X.stack) (fr:=frs X.stack) (bad:=[y,T]) un hok (λb c=>by
    rcases mem_cons.mp c with z |c
    .exact .inl (by rw[z];exact .head _)
    .rcases mem_cons.mp c with z |c
     .exact .inl (by rw[z];exact .tail _ (.head _))
     .exact .inr c) (λb c=>by
    rcases mem_cons.mp c with z |c
    .rw[z];exact⟨d.1,d.2.1⟩
    .have z:b=T:=by simpa using c
     rw[z];exact⟨C,hT⟩) (λb c=>⟨.inl c,(J2.frm b c).2⟩) (λ_ c=>c) k sm
   exact⟨u,ok⟩
  refine g'z (by rw[I.ok.frames,hs]) Q β d.cn λh4 f α Y=>?_
  refine m'q f Y λh5 γ N E=>?_
  exact v'z hh I.ok L (λH h u ok=>L.call' (s':={ l with heap:=h }) (ch:=[]) os u ok bare (λb z=>absurd z (by simp))) (λg k sm=>on g k ((α.trans N).trans sm)) d.1 d.2.1 γ (Heap.UpToSlots.refl _) E hR
 refine wpAny_mono (c _ _ _ m [] s j H D (I.keep2 _) h) (λfl B q=>?_) λ_ _ z=>z
 have x:SP X pins D fl B:=q.imp λj H J=>Inv.unkeep2 I.ok J
 cases fl with
 |next=>exact wpAny_execs_nil x
 |brk=>exact x
 |cont=>exact x
 |ret u=>exact x
end
end L2
namespace Pu
open PySem L2 Vc Sf
def ajj(K:W.Frag)(C:Addr)(a:Value):Prop:=W.exmOne K a (.ref C)=some false
abbrev PC':=Pd->List Tr->Value->Prop
def pcN:PC':=λ_ _ _=>False
def pcC(K:W.Frag)(C:Addr)(c:PS')(b:PC'):PC':=λD j a=>(ahZ K C a/\c D j)\/(ajj K C a/\b D j a)
def ahx(K:W.Frag)(k:Md)(lo:Nat)(R:Ends->St->XK)(f:PC'):Prop:=∀(us:List V)(c d F H:Hp)(j:St)(y:List Tr)(h:Nat->Cs)(D:Ends)(e:Pd),Wld K k lo us c d F H j y h->Lk K k lo us c d D e->∀a g b,f e y a->Gr F H g b->R D j a none b
structure QHs(X:Cx)(k:Md)(lo:Nat)(hs:List ExceptHandler)(pc:PC'):Prop where
 h:∃R,HsOk X hs R/\ahx X.K k lo R pc
def agA(b:PC')(c:PE'->PS')(pe:(Value->Prop)->PE'):PS':=λD j=>c (pe λa=>b D j a) D j
section
variable{X:Cx}{k:Md}{lo:Nat}{st b₀:Stmt}{suite:List Stmt}{x n:Str}{np hpos pos:Pos}{C:Addr}{e:Expr}{tS:TE->TS}{pS:PE'->PS'}{pe:(Value->Prop)->PE'}{ph:PS'}{i:Nat}{pc:PC'}{hl:List ExceptHandler}{h₀:ExceptHandler}
theorem t'x:QHs X k lo [] pcN:=⟨_,.nil,λ_ _ _ _ _ _ _ _ _ _ _ _ _ _ _ h _=>h⟩
theorem i'A(s:Gl X x)(u:X.mg x=some (.ref C))(z:∀v:Value,QB (X.inHandler v) k.mute lo (b₀::suite) ph)(r:QHs X k lo hl pc)(a:(x == ("__debug__":Str))=false:=by decide):QHs X k lo (.ExceptHandler (some (.Name x np)) none (b₀::suite) hpos::hl) (pcC X.K C ph pc):=by
 obtain⟨R,q,w⟩:=r.h;refine⟨_,.cons (th:=aix X.K k.mute lo ph) s u (λv=>(z v).of) a q,λus f l F H j y m D o W L b c d p g=>?_⟩;rcases p with⟨p1,p2⟩ |⟨p1,p2⟩
 .exact .inl ⟨p1,j'J us f l c d j y m D o ((W.gr g).md id λ_ _ _ _ h=>h.elim) p2 (L.md id W.x)⟩
 .exact .inr ⟨p1,w us f l F H j y m D o W L b c d p2 g⟩
theorem p'K{R:Ends->St->XK}(l:Snd X.K k lo tS pS)(v:ahx X.K k lo R pc):acS X.K k lo (ahw R (λR'=>tS (tTr X.K k.z pe R'))) (agA pc pS pe):=λus d c F H j y f D h W p L=>
 l us d c F H j y f D h _ _ W L (λQ m u q=>⟨_,F,Bq c H,_,m,⟨W.cxt.s,W.cxt.b,W.cxt.z,W.cxt.e,λa o r w g=>v us d c F H j y f D h W L a o r w g⟩,u,q⟩) p
theorem v'A(hs:X.stack=X.env::X.outer)(m:X.env.frame=some X.env.locals)(b:Snd X.K k lo tS pS)(g:∀pn xe a,PE (X.kept2 pn xe) e a->PS (X.kept2 pn xe) st (tS a))(he:∀(pn:List (Addr×Obj))(xe:Value->Shared->Prop)(R':St->XK),(∀j,acF (CX1 X.prog X.w) (X.kept2 pn xe) j (R' j))->∀q,QE (X.kept2 pn xe) ⟨k.z,R',q⟩ e (pe q))(l:QHs X k lo (h₀::hl) pc):
  QS X k lo (.Try [st] (h₀::hl) [] [] pos) (agA pc pS pe):=by
 obtain⟨R,d,f⟩:=l.h;exact⟨_,t'w (tb:=λR'=>tS (tTr X.K k.z pe R')) hs m d (λpn xe R' c=>e'b (g pn xe _ (q'y (he pn xe R' c)))),p'K b f⟩
end
theorem k'H:agA pc pS pe D j=(pS (pe λa=>pc D j a) D j):=rfl
theorem r't(K:W.Frag)(C:Addr)(c:PS')(b:PC')(D:Pd)(j:List Tr)(a:Value):pcC K C c b D j a=((ahZ K C a/\c D j)\/(ajj K C a/\b D j a)):=rfl
end Pu
namespace Pu
open PySem PySem.Spec PyProof.Rows
section
variable{p:List Value->Prop}
theorem ln0(h:p []):∀us:List Value,us.length=0->p us:=λus e=>by
 cases us with
 |nil=>exact h
 |cons=>cases e
theorem lnc{p:List Value->Prop}{k:Nat}(h:∀a (us:List Value),us.length=k->p (a::us)):∀us:List Value,us.length=k+1->p us:=λus e=>by
 cases us with
 |nil=>cases e
 |cons a us=>exact h a us (Nat.succ.inj e)
theorem ln1(h:∀a,p [a]):∀us:List Value,us.length=[x1].length->p us:=lnc λa=>ln0 (h a)
theorem ln2(h:∀a b,p [a,b]):∀us:List Value,us.length=[x1,x2].length->p us:=lnc λa=>ln1 (x1:=x2) (p:=λl=>p (a::l)) (h a)
theorem ln3(h:∀a b c,p [a,b,c]):∀us:List Value,us.length=[x1,x2,x3].length->p us:=lnc λa=>ln2 (x1:=x2) (x2:=x3) (p:=λl=>p (a::l)) (h a)
theorem ln4(h:∀a b c d,p [a,b,c,d]):∀us:List Value,us.length=[x1,x2,x3,x4].length->p us:=lnc λa=>ln3 (x1:=x2) (x2:=x3) (x3:=x4) (p:=λl=>p (a::l)) (h a)
end
end Pu
namespace Pu
open PySem L2 Vc Sf
def pNo:PE':=λ_ _=>False
theorem x'c:QE X k e pNo:=⟨λ_ _ _=>False,λ_ _ _ _ _ _ h=>h.elim,λ_ _ _ _ _ _ _ _ h _=>h⟩
theorem d'P(hp:PE X o (tR X.K i r))(a:attributeBase o f X.env (eval o X.env)=eval o X.env:=by rfl):PE X (.Attribute o f pos) (tR X.K i (f::r)):=j'A hp a
section
theorem Cells.perm(h:Cells F H c)(p:c.Perm d):Cells F H d:=⟨λx m=>h.h x (p.mem_iff.mpr m),λx m=>h.f x (p.mem_iff.mpr m),((p.map (·.1)).nodup_iff).mp h.nd⟩
theorem Cells.far(h:Cells F H (c++d)):∀p∈c,∀q∈d,p.1≠q.1:=by
 have:=h.nd;rw[map_append,nodup_append] at this;exact λp b q a=>this.2.2 _ (mem_map.mpr ⟨p,b,rfl⟩) _ (mem_map.mpr ⟨q,a,rfl⟩)
theorem n'T{hs:List (Option Nat)}{n:Nat}{z:Bool}{psp:adM}{ts:List Tr}{vs:List V}{E:XK}{q':Value->Prop}{Q':Tr->List Tr->Prop}{Q:VK}{t:Tr}{r:List Str}{v w:V}{c rest:Cs}(W:Wld K k lo us Fb Hb F1 H1 y G cs)(l:Le F F1)(hv:y[i]?=some (some v))(pm:(cs i).Perm (c++rest))(η:R K F1 (λ_=>Hb) (getR t r) w c)(cl:∀B,Le F1 B->∀u d,R K B (λ_=>Hb) u w d->∃c1,R K B (λ_=>Hb) (aei t r u) v c1/\c1.Perm (d++rest))(a:HA K F1 Hb y G hs ts vs)(nd:((some i::hs).filterMap id).Nodup)(hk:z=true->k.z=true)(hn:(dns (getR t r::ts)).length=n)(hE:∀N B H,q' N->Gr Fb Hb B H->E N none H)(p1:psp (dns (getR t r::ts)) (λx G'=>pV G'[0]? λu=>nol u=true/\adP hs 1 G' (G.set i (aei t r u)) λG2=>Q' x G2) q')(q:∀t v B H G' U c,OutL K k lo us Fb Hb F B H y G' U t v c->Q' t G'->Q v H):spX K z n n psp (w::vs) H1 Q E:=by
 have O:(i::hs.filterMap id).Nodup:=nd;rw[nodup_cons] at O;have ni:some i ∉ hs:=λm=>O.1 (mem_filterMap.mpr ⟨_,m,rfl⟩)
 obtain⟨J,a1,a2,a3,a4,a5⟩:=a.rs W O.2;have α:Cells F1 H1 (c++rest):=(W.c i).perm pm;have sub:∀p∈c,p∈cs i:=λp m=>pm.mem_iff.mpr (mem_append.mpr (.inl m))
 have C:∀p∈rest,p∈cs i:=λp m=>pm.mem_iff.mpr (mem_append.mpr (.inr m))
 have δ:∀p∈cs i,∀q∈J,p.1≠q.1:=λp b q A=>by
  obtain⟨j,b1,b2⟩:=a4 q A;exact W.d i j (λz=>ni (by rw[z];exact b1)) p b q b2
 have A2:Cells F1 H1 (c++J):=α.left.app a2 λp b q A=>δ p (sub p b) q A
 have A3:New Hb (c++J):=λp m=>(mem_append.mp m).elim (λm=>W.n i p (sub p m)) (a3 p)
 have A4:∀p∈c++J,∃j,some j∈(some i::hs)/\p∈cs j:=λp m=>by
  rcases mem_append.mp m with m |m
  .exact⟨i,.head _,sub p m⟩
  .obtain⟨j,b1,b2⟩:=a4 p m;exact⟨j,.tail _ b1,b2⟩
 have hb:Same Hb (hdn ((c++J).map (·.1)) H1):=λx o e=>c'W (e'f A3 e) (W.g.h _ _ e)
 have o1:OutA K F1 (λ_=>Hb) (hdn ((c++J).map (·.1)) H1) F1 H1 (getR t r::ts) (w::vs) (c++J):=⟨⟨h'J W.g.s,Fz.refl F1⟩,⟨w,vs,c,J,rfl,rfl,η,a1⟩,A2,λp m=>d'E m⟩
 refine e'G (λh=>W.z (hk h)) hn (λ_=>hb) o1 (λN B H hq g=>hE N B H hq (W.g.hdn A3 g)) p1 λB H y' G' U v' t' M g nw L r' ζ Y dj nl qt=>?_
 obtain⟨W0,keep⟩:=W.past (hs:=some i::hs) A3 A4 g;have D:∀p∈rest,(hdn ((c++J).map (·.1)) H1) p.1=some p.2:=λp b=>by
  refine c'W (λm=>?_) ((W.c i).h p (C p b));obtain⟨q,A,e⟩:=mem_map.mp m;rcases mem_append.mp A with A |A
  .exact α.far q A p b e
  .exact δ p (C p b) q A e.symm
 have I:∀(M:Cs),New (hdn ((c++J).map (·.1)) H1) M->∀p∈rest,∀q∈M,p.1≠q.1:=λM Y p b q A e=>by
  have:=D p b;rw[e,Y q A] at this;cases this
 have far:∀(M:Cs),New (hdn ((c++J).map (·.1)) H1) M->∀j,∀p∈(if some j∈(some i::hs) then [] else cs j),∀q∈M,p.1≠q.1:=λM Y j p b q A e=>by
  split at b
  .cases b
  .rename_i hj;have:=keep j hj p b;rw[e,Y q A] at this;cases this
 obtain⟨u,x1,x2,x3,qt⟩:=h'l qt;have γ:0<n:=by rw[<- hn,b'f];exact Nat.succ_pos _
 have ru:R K B (λ_=>Hb) u w (U 0):=by
  rcases L.e 0 u x1 with z |⟨u',g1,g2⟩
  .exact absurd z x2
  .have:=L.p 0 γ;rw[g1] at this;cases this;exact g2.base u x3
 obtain⟨d1,y1,y2⟩:=cl B g.le u _ ru;have fr:∀p∈rest,B p.1=none:=λp m=>by
  cases z:B p.1 with
  |none=>rfl
  |some o=>
   have:=g.n p.1 o z ((W.c i).f p (C p m));rw[D p m] at this;cases this
 have cr:Cells B H rest:=⟨λp m=>g.h _ _ (D p m),fr,α.right.nd⟩
 have cd:Cells B H d1:=((L.c 0).app cr λp b q A e=>I _ (L.n 0) q A p b e.symm).perm y2.symm;have θ:New Hb d1:=λp m=>by
  rcases mem_append.mp (y2.mem_iff.mp m) with m |m
  .exact hb.free (L.n 0 p m)
  .exact W.n i p (C p m)
 have W1:Wld K k lo us Fb Hb B H y (acP hs (G.set i (aei t r u))) (λm=>if m=i then d1 else (if some m∈(some i::hs) then [] else cs m)):=by
  have:=W0.fill (i:=i) hv y1 cd θ λm hm p b q A=>by
   rcases mem_append.mp (y2.mem_iff.mp A) with A |A
   .exact far _ (L.n 0) m p b q A
   .split at b
    .cases b
    .exact W.d m i hm p b q (C q A)
  rw[show (acP (some i::hs) G).set i (aei t r u)=acP hs (G.set i (aei t r u)) by
   show ((acP hs G).set i .hole).set i _=_;rw[List.set_set];exact c'J hs G ni] at this
  exact this
 have ι:n=hs.length+1:=by rw[<- hn,b'f,length_cons,a.len]
 refine e'I L hb hs 1 (G.set i (aei t r u)) _ O.2 W1 (λm j e=>?_) (by omega) (λj m _ hm p b q A=>?_) qt λG2 ε W2 β q2=>?_
 .obtain⟨x,h1,h2⟩:=a.at_ e;exact⟨x,h1,by rw[show 1+m=m+1 by omega];exact h2⟩
 .by_cases ej:j=i
  .rw[if_pos ej] at b;rcases mem_append.mp (y2.mem_iff.mp b) with b |b
   .exact L.d 0 m (by omega) p b q A
   .exact I _ (L.n m) p b q A
  .rw[if_neg ej] at b;exact far _ (L.n m) j p b q A
 .refine q t' v' B H G2 ε M ⟨l.trans g.le,W2,r'.base t' nl,ζ,λp m=>hb.free (Y p m),λj p b q A=>?_⟩ q2;rcases β j p b with z |⟨m,z⟩
  .by_cases ej:j=i
   .rw[if_pos ej] at z;rcases mem_append.mp (y2.mem_iff.mp z) with z |z
    .exact dj 0 p z q A
    .exact I _ Y p z q A
   .rw[if_neg ej] at z;exact far _ Y j p z q A
  .exact dj m p z q A
def ahy(K:W.Frag)(q:Value->Prop)(D:Addr->Nat->Prop)(m:Str)(i:Nat)(r:List Str)(hs:List (Option Nat))(psp:Nat->adM)(e:PA'):PL':=λj Q=>pV j[i]? λt=>okR K t r/\aez D m (getR t r) λc=>e j λb=>psp c (dns (getR t r::b)) (λx a=>pV a[0]? λu=>nol u=true/\adP hs 1 a (j.set i (aei t r u)) λd=>Q x d) q
theorem n'U{psp:Nat->adM}{R':St->XK}{q':Value->Prop}{r:List Str}(Y:∀(us:List V)(Fb Hb F H:Hp)(j:St)(y:List Tr)(cs:Nat->Cs),Wld K k lo us Fb Hb F H j y cs->∀b l u,q' b->Gr Fb Hb l u->R' j b none u)(nd:((some i::hs).filterMap id).Nodup)(hk:z=true->k.z=true)(O:∀C xs Q q,psp C xs Q q->xs.length=n)(h:ahv K k lo hs ta ph):agx K k lo (aht D m (λC=>spX K z n n (psp C)) R' (tR K i r) ta) (ahy K q' D m i r hs psp ph):=λus Fb Hb F H j y cs Q Q' W p q=>by
 obtain⟨t,e1,M,ok,p⟩:=h'l p;obtain⟨f,C,fs,g,eg,hD,N,p⟩:=k'z p;rcases W.e i _ e1 with z |⟨v,A,h2⟩
 .exact absurd z M
 obtain⟨w,c,rest,pm,d,cl,rd⟩:=place W.g.s (λ_=>W.g.h) A h2 (W.c i) r ok;have hc:Cells F H c:=((W.c i).perm pm).left;have o:=d;rw[eg] at o;obtain⟨a,J,vs,ds,rfl,I,G,_⟩:=o.insH W.g.s (λ_=>W.g.h) hc;refine rd _ ⟨a,C,J,vs,g,rfl,I,hD,G.none_of N,h us Fb Hb F H j y cs _ _ W p λts α F1 L x B E p1=>?_⟩;exact n'T B x A pm (d.mo x (λ_=>Le.refl _) _) (λl l'=>cl l (x.trans l')) E nd hk (O _ _ _ _ p1) (λb l u U g=>Y us Fb Hb F1 L j y cs B b l u U g) p1 q
end
section
def aec(K:W.Frag)(D:Addr->Nat->Prop)(m:Str)(i:Nat)(r:List Str)(hs:List (Option Nat))(psp:Nat->PSp)(e:PA'):PL':=λj Q=>pV j[i]? λt=>okR K t r/\aez D m (getR t r) λc=>e j λb=>psp c (dns (getR t r::b)) (λx a=>pV a[0]? λu=>nol u=true/\adP hs 1 a (j.set i (aei t r u)) λd=>Q x d)
theorem c't{D:Addr->Nat->Prop}{psp:Nat->PSp}(hp:PE X o (tR X.K i r))(s:∀C g,D C g->MOkA X.prog X.w X.K X.mg X.base CX0 km m C ps (spP X.K z n n (psp g)))(l:z=true->k.z=true)(q:∀C xs Q,psp C xs Q->xs.length=n)(p:Room km X.A)(b:QH X k lo (e::es) hs ph)(nd:((some i::hs).filterMap id).Nodup:=by decide)(a:starEach (e::es) X.env=(false,eval e X.env)::starEach es X.env:=by rfl)(hpl:(backTo pos (starEach es X.env)).any (·.1)=false:=by rfl)(d:eval (.Call (.Attribute o m apos) (e::es) [] pos) X.env=(do
   let ov <- eval o X.env
   standAt apos.atName
   let (f,first) <- holding [ov] (getMethod ov m pl)
   callWith pos f first (backTo pos (starEach (e::es) X.env)) (backToKw pos (keywordEach [] X.env))):=by rfl):QL X k lo (.Call (.Attribute o m apos) (e::es) [] pos) (aec X.K D m i r hs psp ph):=by
 obtain⟨u,j,c⟩:=b.h;exact⟨_,n'K (R:=λ_=>E0) hp s p (h'k f'd) j a hpl d,n'U (q':=λ_=>False) (psp:=λg xs Q _=>psp g xs Q) (λ_ _ _ _ _ _ _ _ _ _ _ _ h=>h.elim) nd l (λC xs Q _=>q C xs Q) c⟩
end
end Pu
namespace L2
open PySem PySem.Spec PyProof.Rows
section
def ae4:List V->Hp->VK->Prop:=λa H Q=>∃n:Nat,a=[.int n]/\n<=1000/\∀p,H p=none->Q (.ref p) (upd H p (.rng 0 n))
theorem j'b:CallR X (.type "range") ae4:=by
 intro pins s j H d us Q I r h;obtain⟨n,rfl,f,q⟩:=h;obtain⟨u,rfl,c⟩:=b'w r;obtain⟨t,rfl⟩:=(show ∃t,u=Value.int n t from c);refine call_range_1 ⟨.ref s.heap.objs.size,_,I.laid (a:=s.heap.objs.size) (o:=.rng 0 n) (t':=s.toks+1+1) (λb o e=>Heap.get?_push_of_some _ e) (le_refl _) ⟨_,_,_,Heap.get?_push_size _ rfl⟩,rfl,q _ (I.hok.fresh (le_refl _))⟩
def afY:List V->Hp->VK->Prop:=λb H Q=>∃(a:Addr)(n:Nat),b=[.ref a]/\H a=some (.rng 0 n)/\n<=1000/\∀p,H p=none->Q (.ref p) (upd H p (.lst ((List.range n).map λi:Nat=>V.int (i:Int))))
theorem f's:∀(n:Nat)(m:Nat){its:List Value},its.length=n->(∀(i:Nat)(v:Value),its[i]?=some v->∃t,v=Value.int ((m+i:Nat):Int) t)->Vals ((List.range' m n).map λi:Nat=>V.int (i:Int)) its
 |0,m,[],_,_=>.nil
 |n + 1,m,x::its,hl,h=>by
  obtain⟨t,e⟩:=h 0 x rfl;rw[List.range'_succ,map_cons];refine .cons ⟨t,e⟩ (f's n (m+1) (by simpa using hl) λi v a=>?_);obtain⟨t,e⟩:=h (i+1) v a;exact⟨t,by rw[e];congr 2;omega⟩
theorem l'r(y:X.calm=true):CallR X (.type "list") afY:=by
 intro pins s j H B us Q I r h;obtain⟨a,n,rfl,l,C,q⟩:=h;obtain⟨u,rfl,z⟩:=b'w r;cases z;obtain⟨t,u,v,e⟩:=I.hok a _ l;refine call_list_range (a:=0) (b:=n) (c:=1) (n:=n) (I.ok.hd y) e (small_one (by omega) (by omega) (by omega) (by omega)) (by rw[rangeSize_one];split<;>omega) (by omega) λA x d w m g f=>?_
 refine⟨.ref s.heap.objs.size,_,I.laid (a:=s.heap.objs.size) (o:=.lst ((List.range n).map λi:Nat=>V.int (i:Int))) (t':=x) m (le_refl _) ⟨by rw[length_map,length_range,sizeLine_eq];omega,d.toList,w,?_,by rw[Array.toArray_toList];exact g⟩,rfl,q _ (I.hok.fresh (le_refl _))⟩;have:=f's n 0 (its:=d.toList) (by rw[length_toList];exact f.1) λi v p=>by
  obtain⟨t,e⟩:=f.2 i v (by rw[<- getElem?_toList];exact p);exact⟨t,by rw[e];congr 1;omega⟩
 rw[List.range_eq_range'];exact this
end
end L2
namespace Pu
open PySem L2 Vc Sf
section
def wLR(t:Tr)(Q:Tr->Prop):Prop:=∃n:Nat,t=.int n/\n<=1000/\Q (.lst .o ((List.range n).map λi:Nat=>Tr.int (i:Int)))
theorem rs_ints:∀(ns:List Nat),Rs K F B (ns.map λi:Nat=>Tr.int (i:Int)) (ns.map λi:Nat=>V.int (i:Int)) []
 |[]=>⟨rfl,rfl⟩
 |n::ns=>⟨.int n,_,[],[],rfl,rfl,⟨rfl,rfl⟩,rs_ints ns⟩
theorem v'B(h:Sim K k te pe):Sim K k (tCB afY (adJ (tCB ae4 (adJ te aeM)) aeM)) (p1 wLR pe):=λF B H j G Q A c p q=>by
 refine h F B H j G _ _ c p λx v e f C p1 b=>?_
 obtain⟨n,rfl,l,p1⟩:=p1;obtain⟨rfl,_⟩:=b.r;refine⟨n,rfl,l,λp z=>⟨p,n,rfl,a'g,l,λp2 a=>?_⟩⟩;have d:Gr e f e (upd f p (.rng 0 n)):=Gr.own1 b.g.s z;obtain⟨o,w,u⟩:=b'B (K:=K) (B:=B) d.s (rs_ints (List.range n)) .nil a;refine q _ _ e _ _ p1 ⟨(b.g.trans' d).trans' o,w,u,λy m=>?_⟩;cases m with
 |head=>exact b.g.h.free (d.h.free a)
 |tail _ m=>cases m
theorem x'd{p p2 a:Pos}(g:X.calm=true)(n:Gl X "list")(l:X.mg "list"=none)(b:Gl X "range")(c:X.mg "range"=none)(h:QE X k e pe)(f:starEach [e] X.env=(false,eval e X.env)::starEach [] X.env:=by rfl)(d:starEach [Expr.Call (.Name "range" p2) [e] [] a] X.env=(false,eval (Expr.Call (.Name "range" p2) [e] [] a) X.env)::starEach [] X.env:=by rfl):
  QE X k (.Call (.Name "list" p) [.Call (.Name "range" p2) [e] [] a] [] pos) (p1 wLR pe):=by
 obtain⟨o,m,j⟩:=h.h;exact⟨_,b'u (l'r g) n l rfl (b's (b'u j'b b c rfl (b's m b'J f) (he:=f)) b'J d) (he:=d),v'B j⟩
end
theorem r'u(j':List Tr)(Q':Tr->Prop):pNo j' Q'=(False):=rfl
theorem lk0{f:Str}{u:Tr}{r:List (Str×Tr)}:List.lookup f ((f,u)::r)=some u:=by rw[lookup_cons,show (f == f)=true from beq_self_eq_true f]
theorem lkn{f g:Str}{u:Tr}{r:List (Str×Tr)}{v:Option Tr}(h:List.lookup f r=v)(e:(f == g)=false:=by decide +kernel):List.lookup f ((g,u)::r)=v:=by rw[lookup_cons,e];exact h
theorem lkz{f:Str}:List.lookup f ([]:List (Str×Tr))=none:=rfl
theorem a'Q{K:W.Frag}{f:Str}{g:Fl}{c:Addr}{fs:List (Str×Tr)}{u:Tr}{Q:Tr->Prop}(b:Cls K c/\NoAttr K c f)(a:fs.lookup f=some u)(q:Q u):aej K f (.ins g c fs) Q:=⟨b,by rw[a];exact q⟩
theorem i'B{D:Addr->Nat->Prop}{m:Str}{f:Fl}{c:Addr}{fs:List (Str×Tr)}{n:Nat}{Q:Nat->Prop}(hd:D c n)(a:fs.lookup m=none)(q:Q n):aez D m (.ins f c fs) Q:=⟨n,hd,a,q⟩
theorem d'Q{K:W.Frag}{j:List Tr}{i:Nat}{c:Addr}{fs:List (Str×Tr)}{f:Str}{u:Tr}{Q:Tr->(Tr->List Tr)->Prop}(h:j[i]?=some (.ins .o c fs))(b:Cls K c/\NoAttr K c f)(a:fs.lookup f=some u)(q:Q u λv=>j.set i (.ins .o c (adO f v fs))):wPl K j i [f] Q:=by
 unfold wPl;rw[h];refine⟨⟨trivial,b,by rw[a];rfl⟩,?_⟩;show Q ((fs.lookup f).getD .hole) _;rw[a];exact q
theorem n'V{K:W.Frag}{D:Addr->Nat->Prop}{m:Str}{i:Nat}{f:Str}{hs:List (Option Nat)}{psp:Nat->PSp}{d:PA'}{j:List Tr}{Q:Tr->List Tr->Prop}{c:Addr}{fs:List (Str×Tr)}{u:Tr}(h:j[i]?=some (.ins .o c fs))(p:Cls K c/\NoAttr K c f)(a:fs.lookup f=some u)(q:aez D m u λg=>d j λl=>psp g (dns (u::l)) (λx b=>pV b[0]? λv=>nol v=true/\adP hs 1 b (j.set i (.ins .o c (adO f v fs))) λn=>Q x n)):aec K D m i [f] hs psp d j Q:=by
 unfold aec;rw[h];have e:getR (.ins .o c fs) [f]=u:=by show (fs.lookup f).getD .hole=u;rw[a];rfl
 refine⟨⟨trivial,p,by rw[a];rfl⟩,?_⟩;rw[e];exact q
section
def ae5(K:W.Frag)(i:Nat)(r:List Str)(f:Str)(pe:PE'):PS':=λD j=>pe (j.map lend) λt=>nlt t=true/\wPl K j i r λu s=>ad9 K f u λc fs=>D.nx (s (.ins .o c (aex f (frz t) fs)))
theorem n'W(h:Sim K k te pe):acS K k lo (afr K (tR K i r) te f) (ae5 K i r f pe):=λus Fb N F H j y cs D D' W p L=>by
 refine h F (Bq N H) H j _ _ _ W.cxt p λu v F1 l c1 q o=>?_
 obtain⟨s,n,r2,l2⟩:=W.heldLe o q.1;obtain⟨t,Q,I,Y,p⟩:=b'Z q.2;obtain⟨C,fs,eg,ok,J,p⟩:=e'E p;obtain⟨w,c,m,sub,U,rd,cl⟩:=n.at Q I r Y;rw[eg] at m;obtain⟨a,b,vs,G,rfl,z,x⟩:=m;have A:l a=some (.ins C b vs):=U.h (a,.ins C b vs) (by rw[z];exact .head _);obtain⟨g,d,B,O,M⟩:=x.put (f:=f) r2;obtain⟨e,E⟩:=cl s l n (Le.refl _) a (.ins C b vs) (.ins C b (adI f v vs)) G g [] (.ins .o C (aex f (frz u) fs)) ((a,.ins C b (adI f v vs))::d) z O .nil b'S b'v (List.Perm.cons _ M) ⟨a,b,_,d,rfl,rfl,B⟩;exact rd _ ⟨a,C,b,vs,rfl,A,ok.1,ok.2,lt_of_lt_of_le (by rw[x.length];exact J) (by decide),L.nx s _ j _ e E p⟩
theorem e'l(hp:PE X o (tR X.K i r))(h:QE X k e pe)(hs:swapsWith e (some (.Attribute o f pos')) pos.line X.env=pure false:=by rfl):QS X k lo (.Assign [.Attribute o f pos'] e pos) (ae5 X.K i r f pe):=by
 obtain⟨c,b,a⟩:=h.h;exact⟨_,e'Z hp b hs,n'W a⟩
theorem i'C(K:W.Frag)(i:Nat)(r:List Str)(f:Str)(pe:PE')(D:Pd)(j:List Tr):ae5 K i r f pe D j=(pe (j.map lend) λt=>nlt t=true/\wPl K j i r λu s=>ad9 K f u λc fs=>D.nx (s (.ins .o c (aex f (frz t) fs)))):=rfl
end
end Pu
namespace L2
open PySem PySem.Spec PyProof.Rows
section
def ahz(K:W.Frag):R2:=λx y H Q=>∃(l:Addr)(a:List V)(n:Int),x=.ref l/\y=.int n/\SqL K H l a/\0<=n/\n<=1000/\a.length<=100/\∀p,H p=none->Q (.ref p) (upd H p (.lst (List.replicate n.toNat a).flatten))
theorem t'y:OpR X (binaryOp .Mult) (ahz X.K):=by
 intro pins s j H x y v u Q I z o h;obtain⟨l,B,n,rfl,rfl,p,D,A,m,q⟩:=h;cases z;obtain⟨t,rfl⟩:=o;obtain⟨a,r,p1,C⟩:=I.list p;have e:=r.length;obtain⟨⟨G,f,E,b⟩,c,g,k,hd⟩:=p1.isList;simp only at g hd;subst g hd;have d:a.toArray.size*n.toNat<=100*1000:=by rw[size_toArray,<- e];exact Nat.mul_le_mul m (by omega)
 refine wpAny_binaryOp_repeat_ref (T:="list") (U:="int") (by decide) ⟨_,c,rfl⟩ (λw=>PySem.typeIs_int w n t) noFill_list_mul F.fills_int_mul F.slot_int_rmul repeat_list F.slot_int_index.lookup
  (call_meets F.slot_int_rmul (PySem.typeIs_int s n t) F.entry_int_rmul (F.args_int_rmul_2 _ _) (lm_int_rmul_list_any n t l a.toArray k f b)
   ⟨c,rfl,⟨_,c,rfl⟩,call_meets F.slot_list_mul ⟨_,c,rfl⟩ F.entry_list_mul (F.args_list_mul_2 _ _)
    (lm_list_mul_any l a.toArray k f b n t (by simp[Builtin.List.listFitsIndex];omega) (by omega) (by rw[size_toArray] at d;simp[Builtin.List.listTooLong,sizeLine];omega))
    ⟨c,?_⟩⟩)
 rw[listMul_foldl_if];refine⟨.ref _,_,I.lnew (t':=s.toks) (r.rep n.toNat) ?_,rfl,q _ I.fresh⟩;rw[List.length_flatten,map_replicate,List.sum_replicate_nat,e,Nat.mul_comm];rw[size_toArray] at d;exact le_trans d (by decide)
end
end L2
namespace Pu
open PySem L2 Vc Sf
section
def afB(x y:Tr)(Q:Tr->Prop):Prop:=match x,y with
 |.lst _ [a],.int n=>Cl a=true /\ 0 <= n /\ n <= 1000 /\ Q (.lst .o (List.replicate n.toNat a))
 |_,_=>False
mutual
theorem R.noc:∀(t:Tr){v:V}{c:Cs},Cl t=true->R K F B t v c->c=[]
 |.int _,_,_,_,h=>h.2
 |.bl _,_,_,_,h=>h.2
 |.str _,_,_,_,h=>h.2
 |.non,_,_,_,h=>h.2
 |.hole,_,_,_,h=>h.elim
 |.ty _,_,_,_,h=>h.2
 |.cl _,_,_,_,h=>h.2
 |.exc _,_,_,_,h=>h.1
 |.tup xs,_,_,n,y=>by obtain⟨a,vs,e,d,b⟩:=y;exact Rs.noc xs n b
 |.lst .f xs,_,_,_,h=>h.1
 |.lst .o xs,_,_,n,_=>nomatch n
 |.lst (.l _) xs,_,_,n,_=>nomatch n
 |.dic .f xs,_,_,_,h=>h.1
 |.dic .o xs,_,_,n,_=>nomatch n
 |.dic (.l _) xs,_,_,n,_=>nomatch n
 |.ins .f _ xs,_,_,_,h=>h.1
 |.ins .o _ xs,_,_,n,_=>nomatch n
 |.ins (.l _) _ xs,_,_,n,_=>nomatch n
theorem Rs.noc:∀(t:List Tr){v:List V}{c:Cs},Cls' t=true->Rs K F B t v c->c=[]
 |[],_,_,_,h=>h.2
 |x::xs,_,_,n,y=>by
  obtain⟨v,r,c,d,f,b,a,e⟩:=y;have n:(Cl x&&Cls' xs)=true:=n;rw[and_eq_true] at n;rw[b,R.noc x n.1 a,Rs.noc xs n.2 e];rfl
end
theorem Rs.rep(r:R K F B a v []):∀n:Nat,Rs K F B (List.replicate n a) (List.replicate n [v]).flatten []
 |0=>⟨rfl,rfl⟩
 |n + 1=>⟨v,(List.replicate n [v]).flatten,[],[],rfl,rfl,r,Rs.rep r n⟩
theorem p'L:Op2 K k (ahz K) afB:=λF B H x y U ty cx O Q M s b z I w f L hd p q=>by
 unfold afB at p;split at p
 .rename_i a n;obtain⟨A,D,p1,p2⟩:=p;obtain⟨rfl,_⟩:=w;obtain⟨l,vs,J,rfl,j,G,Y,N⟩:=I.lstH s b f;obtain⟨v,r,c,d,rfl,rfl,e,⟨rfl,rfl⟩⟩:=G;rw[R.noc a A e] at e;exact⟨_,_,_,rfl,rfl,j,D,p1,(show 1<=100 by decide),λl u=>d'k (cx:=cx) s (Rs.rep e n.toNat) .nil (λ_ m=>nomatch m) u p2 λt v C o E h g r c m=>q t v C o E h g r c λp z=>(m p z).imp id .inl⟩
 .exact p.elim
theorem f't(d:QE X k a pa)(c:QE X k b pb):QE X k (.BinOp a .Mult b pos) (p2 afB pa pb):=e'h t'y p'L d c
theorem n'X:afB (.lst f [a]) (.int n) Q=(Cl a=true/\0<=n/\n<=1000/\Q (.lst .o (List.replicate n.toNat a))):=rfl
end
section
variable{K:W.Frag}{mg:Str->Option Value}{h:Heap}{x qual:Str}{st:Stmt}{ps:List Str}{f c:Addr}
set_option genInjectivity false in
set_option genSizeOf false in
structure DfG(K:W.Frag)(mg:Str->Option Value)(x:Str)(st:Stmt)(ps:List Str) where
 a:Addr
 d:FuncData
 F:Fun K x x st a d
 b:Binds K d ps []
 m:mg x=some (.ref a)
set_option genInjectivity false in
set_option genSizeOf false in
structure DfM(K:W.Frag)(c:Addr)(x qual:Str)(st:Stmt)(ps:List Str) where
 a:Addr
 d:FuncData
 F:Fun K x qual st a d
 b:Binds K d ps []
 t:aiV K c x a
set_option genInjectivity false in
set_option genSizeOf false in
structure DfI(K:W.Frag)(c:Addr)(qual:Str)(st:Stmt)(ps:List Str) where
 a:Addr
 d:FuncData
 F:Fun K "__init__" qual st a d
 b:Binds K d ps []
 t:Mk K c a
abbrev Bnd(x qual:Str)(st:Stmt)(ps:List Str):Prop:=∀(kV doc pm:Value)(an:Option Addr)(cdv ct:Value)(us:List Value),us.length=ps.length->bindArgs (W.fnOf x qual (adw st) (acA st) (ach st) .none kV doc pm an cdv ct) ⟨us,[]⟩=pure (ps.zip us)
noncomputable def dfG(X:K.In h)(G:h.Ns mainGlobals mg)(e:W.nsIn K mainGlobals x=some (some (.ref f)))(F:FnIn K x x st f)(a:Bnd x x st ps):DfG K mg x st ps:=⟨f,F.choose,F.choose_spec,F.choose_spec.binds a,W.mg_of X G e⟩
noncomputable def dfM(e:W.findIn K (.ref c) x=some (some (.ref f)))(F:FnIn K x qual st f)(i:W.isFn K (.ref f)=true)(a:Bnd x qual st ps):DfM K c x qual st ps:=⟨f,F.choose,F.choose_spec,F.choose_spec.binds a,⟨e,i,F.kp⟩⟩
noncomputable def dfI(e:W.findIn K (.ref c) "__init__"=some (some (.ref f)))(F:FnIn K "__init__" qual st f)(i:W.isFn K (.ref f)=true)(m:W.makesIn K c=true)(k:W.keepIn K (.ref c)=true)(a:Bnd "__init__" qual st ps):DfI K c qual st ps:=⟨f,F.choose,F.choose_spec,F.choose_spec.binds a,⟨m,e,i,k⟩⟩
abbrev Tup(K:W.Frag)(c:Addr)(vs:List V):Prop:=∃(o:Obj)(a:Array Value)(n:Nat),K.lookup c=some o/\o.cls=.type "tuple"/\o.data=.seq a n/\a.size<=sizeLine/\Vals vs a.toList
theorem noat(e:W.findIn K (.ref c) x=some none):NoAttr K c x:=e
end
end Pu
namespace L2
section
open PySem PySem.W PySem.Builtin PySem.Builtin.ObjectAttr
def veM:List Value:=[.type "ValueError",.type "Exception",.type "BaseException",.type "object"]
def aeq(K:Frag)(C F:Addr):Bool:=(clsIn K C).any λa=>a.mro == .ref C::.ref F::veM&&a.hasDict
section
variable{prog:Program}{w:World}{A:Around}{E:Value->Shared->Prop}{s:Shared}{K:Frag}{x C F:Addr}{R:Result->Shared->Prop}
theorem k'I{n:Obj}{od:Option Obj}{a:Str}{c:Tok}{v:Value}(X:K.In s.heap)(I:InstAt s.heap x n C od)(hp:aeq K C F=true)(o:findIn K (.ref C) a=some none)(h:wpAny (model prog w) A.in1 (storeInOwnDict (.ref x) (.ref C) (.str a c) a v false)
   (λd s'=>match d with |.done f=>R (.ok f) s' |.again l=>l.quiet=true/\codeAny (model prog w) A l R s') (λe s'=>R (.error e) s') s):
  codeAny (model prog w) A (.call (.builtin "object.__setattr__") ⟨[.ref x,.str a c,v],[]⟩) R s:=by
 have b:=PySem.F.store_object;obtain⟨m,j,g⟩:=any_some hp;simp only[and_eq_true,beq_iff_eq] at g;have sub:Looks (model prog w) s.heap (isInstance (.ref x) (.type "object")) true:=I.type.andThen (looks_mroIn X (by unfold mroIn;rw[j,Option.bind_some,g.1,if_neg (by exact Bool.false_ne_true)];exact congrArg some (by unfold veM;simp only[List.contains_cons,List.contains_nil];rw[show (Value.type "object" == Value.type "object")=true from by decide];simp)));refine codeAny_call_builtin b.slot.plain b.entry (@check_slot (model prog w) _ _ s "object.__setattr__" "object" "__setattr__" (.ref x) [.str a c,v] [] _ b.kind b.split sub (b.args (.ref x) (.str a c) v) ?_);have p:Looks (model prog w) s.heap (mroOf (.ref C)) m.mro:=(looks_clsIn X j).andThen .now;rw[osa_eq,refuse_eq];refine wpAny_bind (wpAny_bind (I.type.here (wpAny_bind (p.here ?_))));rw[g.1,refuseLoop_ref,refuseLoop_ref,show refuseLoop (.ref x) "__setattr__" veM=pure () from PySem.F.store_ValueError.passes _];exact wpAny_pure (wpAny_bind (I.type.here (wpAny_bind ((looks_findIn X o).here (wpAny_bind (wpAny_pure h))))))
theorem p'M{vs:Array Value}{a:Str}{v:Value}{Q:Unit->Shared->Prop}(X:K.In s.heap)(j:s.heap.get? x=some ⟨.ref C,none,.fields vs,#[]⟩)(hp:aeq K C F=true)(H:findIn K (.ref C) a=some none)(hs:findIn K (.ref C) "__setattr__"=some (some (.builtin "object.__setattr__")))(h:∀h' d,s.heap.get? d=none->h'.get? x=some ⟨.ref C,some d,.fields vs,#[]⟩->(h'.Ns1 d λy=>if y=a then some v else none)->(∀b o,b≠x->s.heap.get? b=some o->h'.get? b=some o)->Q () { s with heap:=h',toks:=s.toks+2 }):
  wpAny (model prog w) A (setAttr (.ref x) a v) Q E s:=by
 have I:InstAt s.heap x ⟨.ref C,none,.fields vs,#[]⟩ C none:=⟨j,rfl,rfl,trivial⟩
 refine set_plain X I hs (k'I (s:={ s with toks:=s.toks+1 }) X I hp H ?_);obtain⟨L,J,z⟩:=any_some hp;simp only[and_eq_true,beq_iff_eq] at z;have c:(s.heap.push { cls:=.type "dict",data:=.dict #[] }).get? x=some ⟨.ref C,none,.fields vs,#[]⟩:=Heap.get?_push_of_some _ j;have g:x≠s.heap.objs.size:=ne_of_lt (Heap.lt_size j);refine wpAny_bind (wpAny_pure (wpAny_bind (wpAny_bind (wpAny_loadPart j (wpAny_bind (Looks.here (s:={ s with toks:=s.toks+1 }) (looks_clsIn X J) ?_))))));rw[z.2];refine wpAny_bind (wpAny_alloc' ?_);refine wpAny_bind (wpAny_update' c ?_);refine wpAny_pure ?_;have m:((s.heap.push { cls:=.type "dict",data:=.dict #[] }).update x λo=>{ cls:=o.cls,dict:=some s.heap.objs.size,data:=o.data,slots:=o.slots }).get? s.heap.objs.size=some { cls:=.type "dict",data:=.dict #[] }:=
  (Heap.get?_update_ne _ _ _ _ g.symm).trans (Heap.get?_push_at rfl rfl)
 have p:((s.heap.push { cls:=.type "dict",data:=.dict #[] }).update x λo=>{ cls:=o.cls,dict:=some s.heap.objs.size,data:=o.data,slots:=o.slots }).Ns s.heap.objs.size (λ_=>none):=
  ⟨_,#[],_,m,rfl,λe G=>absurd G (by simp),λ_=>rfl⟩
 show wpAny _ _ (storeInDict s.heap.objs.size (.str a _) a v) _ _ _;unfold storeInDict newKeyGuard;refine wpAny_bind (wpAny_pure (wpAny_bind (wpAny_nsSet1 (Heap.Ns1.of_empty p) λh' f hs=>?_)));obtain⟨M,D,B,n,r,l⟩:=f.count (Within.cons a v Within.nil);refine wpAny_bind (wpAny_lookBehind n (by rw[r];exact pastItsLine_dict (le_trans l (by rw[length_cons,length_nil,sizeLine_eq];omega))) ?_);refine wpAny_pure (h h' _ (Heap.get?_none_of_le (le_refl _)) ?_ f λb N q u=>?_)
 .exact (hs.2 x g).trans (Heap.get?_update_self _ c rfl)
 .exact (hs.2 b (ne_of_lt (Heap.lt_size u))).trans ((Heap.get?_update_ne _ _ _ _ q).trans (Heap.get?_push_of_some _ u))
theorem p'N{vs:Array Value}{a:Str}{v:Value}{d:Addr}{m:Str->Option Value}{ns:List Str}{Q:Unit->Shared->Prop}(X:K.In s.heap)(g:s.heap.get? x=some ⟨.ref C,some d,.fields vs,#[]⟩)(hd:s.heap.Ns1 d m)(hp:aeq K C F=true)(q:findIn K (.ref C) a=some none)(hs:findIn K (.ref C) "__setattr__"=some (some (.builtin "object.__setattr__")))(p:Within m ns)(hz:ns.length<=1000)(h:∀h',(h'.Ns1 d λy=>if y=a then some v else m y)->Heap.SameBut d s.heap h'->Q () { s with heap:=h',toks:=s.toks+2 }):
  wpAny (model prog w) A (setAttr (.ref x) a v) Q E s:=by
 obtain⟨od,H,z,l,B,G⟩:=id hd;have I:InstAt s.heap x ⟨.ref C,some d,.fields vs,#[]⟩ C (some od):=⟨g,rfl,rfl,l⟩;refine set_plain X I hs (k'I (s:={ s with toks:=s.toks+1 }) X I hp q ?_);obtain⟨u,r,j⟩:=any_some hp;simp only[and_eq_true,beq_iff_eq] at j;refine wpAny_bind (wpAny_pure (wpAny_bind (wpAny_bind (wpAny_loadPart g (wpAny_bind (Looks.here (s:={ s with toks:=s.toks+1 }) (looks_clsIn X r) ?_))))));rw[j.2];refine wpAny_pure ?_;show wpAny _ _ (storeInDict d (.str a _) a v) _ _ _;unfold storeInDict newKeyGuard;refine wpAny_bind (wpAny_pure (wpAny_bind (wpAny_nsSet1 (s:={ s with toks:=s.toks+1 }) hd λh' b hs=>?_)));obtain⟨D,o,n,e,f,c⟩:=b.count (Within.cons a v p);refine wpAny_bind (wpAny_lookBehind e (by rw[f];exact pastItsLine_dict (le_trans c (by rw[length_cons,sizeLine_eq];omega))) ?_);exact wpAny_pure (h h' b hs)
end
theorem p'O{K:Frag}{h:Heap}{N:Addr}{m:Str->Option Value}{n:Str}{v:Value}(X:K.In h)(G:h.Ns N m)(e:nsIn K N n=some (some v)):m n=some v:=by
 obtain⟨o,f,g,b,hd,_,a⟩:=G;unfold nsIn at e;split at e
 .rename_i c d es' n' sl q;have:=X _ _ q;rw[b] at this;cases this;cases hd;split at e
  .rename_i en he;cases e;rw[<- a];unfold nsFind findBy;rw[<- Array.find?_toList,he];rfl
  .split at e<;>cases e
 .cases e
def adU(K:Frag)(C a:Addr):Bool:=match K.lookup C with
 |some ⟨.type "type",_,.cls cd,sl⟩=>(match cd.mro,sl.toList with
  |.ref C'::bm,[_,_,_,_,some (.builtin n),_]=>C' == C&&n == "ValueError.__new__" && !cd.hasDel&&tailIn K veM bm&&nsOkIn K cd.ns&&nsIn K cd.ns "__init__" == some (some (.ref a))
  |_,_=>false)
 |_=>false
theorem i'D{K:Frag}{h:Heap}{C c:Addr}(X:K.In h)(q:adU K C c=true):
  ∃bm N nm b bs hd sn sub ab col dd k0 k1 k2 k3 k5 mN,h.get? C=some (excClassObj nm b C N bs bm hd sn sub ab col dd k0 k1 k2 k3 k5 "ValueError.__new__")/\h.Ns N mN/\mN "__init__"=some (.ref c)/\OwnTail h veM bm:=by
 unfold adU at q;split at q
 case h_2=>cases q
 case h_1 ddc cdc slc hlook=>
  split at q
  case h_2=>cases q
  case h_1 Cc bmc k0 k1 k2 k3 nn k5 hmro hslots=>
   simp only[and_eq_true,beq_iff_eq,Bool.not_eq_true'] at q;obtain⟨⟨⟨⟨⟨g,l⟩,e⟩,m⟩,a⟩,d⟩:=q;obtain⟨nm,bs,j,ns,b,hd,sn,sub,ab,col,f⟩:=cdc;dsimp only at hmro e a d;obtain⟨n⟩:=slc;simp only at hslots;subst g l e hmro hslots;exact⟨_,_,_,_,_,_,_,_,_,_,_,_,_,_,_,_,_,X _ _ hlook,.of_isNs (isNs_of_in X a),p'O X (.of_isNs (isNs_of_in X a)) d,tail_of_in X m⟩
section
variable{prog:Program}{w:World}{A:Around}{E:Value->Shared->Prop}{h:Heap}{g:Array GenState}{d:Drawn}{t:Nat}{os:OsState}
variable{nm q:Str}{C N:Addr}{bs bm:List Value}{hdct:Bool}{sn:List Str}{sub:List Value}{ab:Bool}{col:Option Bool}{dd:Option Addr}{k0 k1 k2 k3 k5:Option Value}
theorem l's(T:OwnTail h veM bm){mN:Str->Option Value}{rest:List Value}{v:Addr}{y:Obj}{Q:Fin->Shared->Prop}(n:h.get? C=some (excClassObj nm q C N bs bm hdct sn sub ab col dd k0 k1 k2 k3 k5 "ValueError.__new__"))(D:h.Ns N mN)(B:mN "__init__"=some (.ref v))(p:h.get? v=some y)(s:y.cls=.type "function")(c:rest.length<=1000)(H:∀h' e,Heap.MadeExcOf h h' e (.ref C) rest->h.objs.size<=e->
   wpAny (model prog w) A (call (.ref v) (.ref e::rest)) (λr s'=>r=.none/\Q (.done (.ret (.ref e))) s') E ⟨h',g,d,t,os⟩):
  wpAny (model prog w) A (Builtin.«type.__call__» ⟨.ref C::rest,[]⟩) Q E ⟨h,g,d,t,os⟩:=by
 have F:=PySem.F.excBase_ValueError;have c:rest.length<=sizeLine:=by rw[sizeLine_eq];omega
 repeat (first |with_reducible refine wpAny_loadPart_at n ?_ |with_reducible refine wpAny_madeBy_exc n ?_ |wp_step)
 refine codeAny_call_builtin_code (Code.quiet_builtin _ F.quiet) (wpAny_check_new_subT F T n ?_);refine codeAny_exc_new_subT F T n ?_ c;show wpAny _ _ _ _ _ _;have a:=Heap.get?_push_of_some { cls:=.ref C,data:=.fields #[.ref h.objs.size,.none,.none,.none,.bool false,.none] }
  (Heap.get?_push_of_some { cls:=.type "tuple",data:=.seq rest.toArray } n)
 have f:=Heap.get?_push_of_some { cls:=.ref C,data:=.fields #[.ref h.objs.size,.none,.none,.none,.bool false,.none] }
  (Heap.get?_push_of_some { cls:=.type "tuple",data:=.seq rest.toArray } p)
 have l:((h.push { cls:=.type "tuple",data:=.seq rest.toArray }).push { cls:=.ref C,data:=.fields #[.ref h.objs.size,.none,.none,.none,.bool false,.none] }).Ns N mN:=
  let ⟨o,es,ep,e,r⟩:=D;⟨o,es,ep,Heap.get?_push_of_some _ (Heap.get?_push_of_some _ e),r⟩
 have j:((h.push { cls:=.type "tuple",data:=.seq rest.toArray }).push
   { cls:=.ref C,data:=.fields #[.ref h.objs.size,.none,.none,.none,.bool false,.none] }).get? (h.objs.size+1)=some
   { cls:=.ref C,data:=.fields #[.ref h.objs.size,.none,.none,.none,.bool false,.none] }:=by heap_get
 have u:(Value.ref C::bm).contains (.ref C)=true:=by simp
 have m:=T.keeps (h':=(h.push { cls:=.type "tuple",data:=.seq rest.toArray }).push { cls:=.ref C,data:=.fields #[.ref h.objs.size,.none,.none,.none,.bool false,.none] })
  λb o e=>Heap.get?_push_of_some _ (Heap.get?_push_of_some _ e)
 unfold isInstance
 repeat (first |with_reducible refine wpAny_loadPart_at j ?_ |(with_reducible refine wpAny_isSubtype_exc a ?_;rw[u]) |wp_step)
 show wpAny _ _ (typeLookup (.ref C) _) _ _ _;refine wpAny_typeLookup_tail a l m F.mroIs F.init.lookup ?_;rw[B];refine wpAny_holding (wpAny_bind ?_);unfold bindSpecial;refine wpAny_bind (wpAny_typeOf (T:="function") ⟨_,f,s⟩ ?_);rw[if_pos (by decide)];refine wpAny_pure (wpAny_bind (wpAny_mono (H _ (h.objs.size+1) ⟨λb o G=>Heap.get?_push_of_some _ (Heap.get?_push_of_some _ G),Heap.get?_none_of_le (Nat.le_succ _),h.objs.size,j,Heap.get?_none_of_le (le_refl _),?_⟩ (Nat.le_succ _)) (λr s' z=>?_) λ_ _ x=>x))
 .exact Heap.get?_push_of_some _ (Heap.get?_push_at rfl rfl)
 .obtain⟨rfl,hQ⟩:=z
  wp_walk
  exact hQ
theorem n'Y(T:OwnTail h veM bm){mN:Str->Option Value}{rest:List Value}{j:Addr}{l:Obj}{Q:Value->Shared->Prop}(b:h.get? C=some (excClassObj nm q C N bs bm hdct sn sub ab col dd k0 k1 k2 k3 k5 "ValueError.__new__"))(p:h.Ns N mN)(n:mN "__init__"=some (.ref j))(c:h.get? j=some l)(f:l.cls=.type "function")(a:rest.length<=1000)(s:∀h' e,Heap.MadeExcOf h h' e (.ref C) rest->h.objs.size<=e->
   wpAny (model prog w) (A.under (.builtin "type.__call__" ⟨.ref C::rest,[]⟩)) (call (.ref j) (.ref e::rest)) (λr s'=>r=.none/\Q (.ref e) s') E ⟨h',g,d,t,os⟩):
  wpAny (model prog w) A (call (.ref C) rest) Q E ⟨h,g,d,t,os⟩:=by
 have u:=tc_lookup;have x:=tc_bind (.ref C);have v:(⟨h,g,d,t,os⟩:Shared).TypeIs (.ref C) "type":=⟨_,b,rfl⟩
 refine wpAny_call (codeAny_of_tree ?_);show wpAny _ _ (callAny (.ref C) _) _ _ _
 repeat (any_goals (first |assumption |with_reducible refine wpAny_loadPart_at b ?_ |wp_step))
 refine⟨rfl,?_⟩;refine codeAny_call_builtin_at (Code.quiet_builtin _ (by decide +kernel)) entry_typeCall (wpAny_check_type_call_sub b (l's T b p n c f a λh' e m o=>?_));exact s h' e m o
theorem n'Z(T:OwnTail h veM bm)(a:h.get? C=some (excClassObj nm q C N bs bm hdct sn sub ab col dd k0 k1 k2 k3 k5 "ValueError.__new__")){e:Addr}{od:Option Addr}{f:Addr}{u:Value}{Q:Value->Shared->Prop}(he:h.get? e=some ⟨.ref C,od,.fields #[.ref f,.none,.none,.none,.bool false,.none],#[]⟩)(l:∀h' t',h.get? t'=none->h'.get? e=some ⟨.ref C,od,.fields #[.ref t',.none,.none,.none,.bool false,.none],#[]⟩->(∀b o,b≠e->h.get? b=some o->h'.get? b=some o)->Q .none ⟨h',g,d,t,os⟩):
  wpAny (model prog w) A (call (.builtin "ValueError.__init__") [.ref e,u]) Q E ⟨h,g,d,t,os⟩:=by
 have F:=PySem.F.excBase_ValueError;refine wpAny_call (codeAny_call_builtin F.init.plain F.initEntry (wpAny_check_init_subU F T a he rfl ?_))
 wp_walk
 refine l _ h.objs.size (Heap.get?_none_of_le (le_refl _)) ?_ λb o c j=>?_
 .rw[Heap.get?_update_self _ (Heap.get?_push_of_some _ he) rfl];rfl
 .rw[Heap.get?_update_other _ _ (Ne.symm c)];exact Heap.get?_push_of_some _ j
end
end
end L2
namespace L2
open PySem PySem.Spec PyProof.Rows
section
variable{M:Model}{A:Around}{E:Value->Shared->Prop}{env:Env}
variable{nm q:Str}{C N:Addr}{bs bm:List Value}{hdct:Bool}{sn:List Str}{sub:List Value}{ab:Bool}{col:Option Bool}{dd:Option Addr}{k0 k1 k2 k3 k5:Option Value}{newId:String}
theorem j'c{s:Shared}{x:Sem Value}{Q:Flow->Shared->Prop}(b:bm.contains (.type "BaseException")=true)(n:A.handled=none)(h:wpAny M A x (λv a=>∃e od t,v=.ref e/\a.heap.get? C=some (excClassObj nm q C N bs bm hdct sn sub ab col dd k0 k1 k2 k3 k5 newId)/\
   a.heap.get? e=some ⟨.ref C,od,.fields #[.ref t,.none,.none,.none,.bool false,.none],#[]⟩/\E (.ref e) a) E s):
  wpAny M A (raiseStmt env (some x) none) Q E s:=by
 have f:(Value.ref C::bm).contains (.type "BaseException")=true:=by rw[List.contains_cons,b,Bool.or_true]
 unfold raiseStmt;refine wpAny_bind (wpAny_mono h (λv a c=>?_) λ_ _ x=>x);obtain⟨e,od,t,rfl,j,m,l⟩:=c;obtain⟨p,g,d,o,os⟩:=a
 repeat (first |with_reducible refine wpAny_loadPart_at m ?_ |with_reducible refine wpAny_loadPart_at j ?_ |(with_reducible refine wpAny_isSubtype_exc j ?_;rw[f]) |wp_step)
 exact wpAny_raiseNew_none n l
end
def XO(C e:Addr)(od:Option Addr):HO:=.ext λh=>∃t:Addr,h.get? e=some ⟨.ref C,od,.fields #[.ref t,.none,.none,.none,.bool false,.none],#[]⟩
def XD(d:Addr)(ns:List Str):HO:=.ext λh=>∃m,h.Ns1 d m/\PySem.Within m ns
theorem l't{P:Program}{w:World}{H:Hp}{h:Heap}{C e t:Addr}{od:Option Addr}(x:h.get? e=some ⟨.ref C,od,.fields #[.ref t,.none,.none,.none,.bool false,.none],#[]⟩):ObjOk P w H h e (XO C e od):=⟨⟨t,x⟩,⟨_,x⟩,λ_ _ ⟨t,z⟩ k=>⟨t,k _ z⟩⟩
theorem r'v{P:Program}{w:World}{H:Hp}{h:Heap}{d:Addr}{ns:List Str}{m:Str->Option Value}(x:h.Ns1 d m)(y:PySem.Within m ns):ObjOk P w H h d (XD d ns):=⟨⟨m,x,y⟩,let ⟨o,_,_,e,_⟩:=x;⟨o,e⟩,λ_ _ ⟨m,z,y⟩ k=>⟨m,z.at k,y⟩⟩
theorem v'C{H:Hp}{a:Addr}{o:HO}(h:H a=some o):upd H a o=H:=by
 funext b;unfold upd;split
 .subst_vars;exact h.symm
 .rfl
structure ahA(K:W.Frag)(C F fI:Addr):Prop where
 ex:adU K C fI=true
 ov:aeq K C F=true
 sa:W.findIn K (.ref C) "__setattr__"=some (some (.builtin "object.__setattr__"))
 kp:W.keepIn K (.ref C)=true
 fn:W.isFn K (.ref fI)=true
 rd:W.readsIn K F (.type "type")=true
 sp:W.specialIn K (.ref F) "__getattribute__"=some (some (.builtin "type.__getattribute__"))
 fc:W.findCls K (.ref F) (.type "type") "__init__"=some (.val (.builtin "ValueError.__init__"))
section
variable{X:Cx}
theorem l'u{M:Model}{A:Around}{E:Value->Shared->Prop}{s:Shared}{env:Env}{pos:Pos}{id:String}{e:Expr}{rest:List Expr}{Q:Value->Shared->Prop}(h:wpAny M A (spliced (backTo pos (starEach (e::rest) env))) (λvs b=>wpAny M A (call (.builtin id) vs) Q E b) E s)(he:starEach (e::rest) env=(false,eval e env)::starEach rest env)(a:(backTo pos (starEach rest env)).any (·.1)=false):wpAny M A (callWith pos (.builtin id) [] (backTo pos (starEach (e::rest) env)) []) Q E s:=by
 rw[he] at h ⊢;exact PySem.Calls.callWith_builtin (by show (false || (backTo pos (starEach rest env)).any (·.1))=false;rw[a];rfl) (PySem.Calls.evalArgs_plain h)
def tXB(C:Addr)(t:TA):TE:=λj H Q=>t j H λvs a=>∃e od u,vs=[.ref e,u]/\a e=some (XO C e od)/\Q .non a
theorem w'J{C F L:Addr}{x:Str}{A n pos:Pos}{m l:Expr}{t:TA}{pl:Sem Bool}(c:ahA X.K C F L)(J:Gl X x)(E:X.mg x=some (.ref F))(U:PA X [m,l] t)(y:(x == ("__debug__":Str))=false:=by decide)(B:starEach [m,l] X.env=(false,eval m X.env)::starEach [l] X.env:=by rfl)(hpl:(backTo pos (starEach [l] X.env)).any (·.1)=false:=by rfl)(Y:eval (.Call (.Attribute (.Name x A) "__init__" n) [m,l] [] pos) X.env=(do
   let ov <- eval (.Name x A) X.env
   standAt n.atName
   let (f,first) <- holding [ov] (getMethod ov "__init__" pl)
   callWith pos f first (backTo pos (starEach [m,l] X.env)) (backToKw pos (keywordEach [] X.env))):=by rfl):
  PE X (.Call (.Attribute (.Name x A) "__init__" n) [m,l] [] pos) (tXB C t):=by
 intro pins s j H Q I h;refine W.methodCall_KW (pl:=pl) (b'r I J E ?_ y) Y;refine W.method_cls I.kIn c.sp (W.cls_value I.kIn c.rd c.fc rfl ?_);have O:=I.tok (s.toks+1);refine l'u (thn (U pos pins _ j H _ O h) λus s1 ⟨vs,H1,I1,r,e,od,u,ev,he,q⟩=>?_) B hpl;subst ev;obtain⟨w,p,rfl,rx,G⟩:∃w p,us=w::p/\RelV (.ref e) w/\Vals [u] p:=by cases r with |cons a b=>exact⟨_,_,rfl,a,b⟩
 obtain⟨u2,rfl,ru⟩:=b'w G;obtain rfl:w=Value.ref e:=rx;obtain⟨bm,N,nm,qn,bs,hd,sn,sub,ab,α,dd,k0,k1,k2,k3,k5,mN,M,_,_,T⟩:=i'D I1.kIn c.ex;obtain⟨⟨t0,ho⟩,_,_⟩:=I1.hok e _ he;obtain⟨hp,g,d,tk,os⟩:=s1;refine n'Z T M ho λh' t' _ v hk=>?_
 have D:=I1.write (x:=e) (e:=e) (o:=XO C e od) (h':=h') (t':=tk) (by rw[he];exact True.intro) (.inl rfl) (λb u hb z=>hk b u hb z) ⟨_,v⟩ (l't v);rw[v'C he] at D;exact⟨.non,H1,D,rfl,q⟩
def sXs(C:Addr)(g c:TE)(f:Str):TS:=λD j H=>c j H λ_ b=>g j b λx a=>∃e,x=.ref e/\
 ((a e=some (XO C e none)/\∀d,a d=none->d≠e->D.nx j (upd (upd a d (XD d [f])) e (XO C e (some d))))\/
  ∃d ns,a e=some (XO C e (some d))/\a d=some (XD d ns)/\ns.length<=900/\D.nx j (upd a d (XD d (f::ns))))
theorem r'w{C F fI:Addr}{o value:Expr}{f:Str}{pos a:Pos}{ta Y:TE}(c:ahA X.K C F fI)(nf:W.findIn X.K (.ref C) f=some none)(ha:PE X o ta)(hv:PE X value Y)(hs:swapsWith value (some (.Attribute o f a)) pos.line X.env=pure false):PS X (.Assign [.Attribute o f a] value pos) (sXs C ta Y f):=by
 intro pins s j H D I h;refine plainObj_wpAny_Assign_Attribute (thn (hv pins s j H _ I h) λu s1 ⟨y,H1,I1,ry,q⟩=>thn (ha pins s1 j H1 _ I1 q) λov s2 ⟨x,H2,I2,rx,e,ex,A⟩=>?_) hs;subst ex;obtain rfl:ov=Value.ref e:=rx;rcases A with⟨l,A⟩ |⟨d,ns,l,hd,hz,A⟩
 .obtain⟨⟨t0,ho⟩,_,_⟩:=I2.hok e _ l;refine p'M I2.kIn ho c.ov nf c.sa λh' d hdn E O L=>?_
  have M:d≠e:=λz=>by rw[z,ho] at hdn;cases hdn
  have B:H2 d=none:=by
   cases z:H2 d with
   |none=>rfl
   |some v=>obtain⟨o',Q⟩:=(I2.hok d v z).has;rw[hdn] at Q;cases Q
  have nd:∀b v,H2 b=some v->b≠d:=λb v z w=>by rw[w,B] at z;cases z
  have G:∀b v,H2 b=some v->b≠e->upd (upd H2 d (XD d [f])) e (XO C e (some d)) b=some v:=λb v z n=>by rw[a'e n,a'e (nd b v z)];exact z
  have ne:∀b v,H2 b=some v->v≠XO C e none->b≠e:=λb v z n w=>by rw[w,l] at z;cases z;exact n rfl
  have N:∀b,H2 b=none->b≠e:=λb z w=>by rw[w,l] at z;cases z
  refine⟨j,_,I2.un (t':=s2.toks+2) ⟨λb o z n _ _=>L b o (N b n) z,λb o z n _ _=>⟨o.slots,L b o (N b n) z⟩,λb o z n _=>?_,λb o z _=>?_,λb xs z=>G b _ z (ne b _ z λw=>by cases w),λb o u z=>G b _ z (ne b _ z λw=>by cases w),
   λb ps z=>⟨#[],by rw[Array.append_empty];exact G b _ z (ne b _ z λw=>by cases w)⟩⟩ λb v z=>?_,A d B M⟩
  .rw[a'e (N b n),a'e (λw=>by rw[w,hdn] at z;cases z)];exact n
  .by_cases g:b=e
   .exact⟨_,by rw[g];exact E⟩
   .exact⟨o,L b o g z⟩
  .by_cases g:b=e
   .subst g;rw[a'g] at z;cases z;exact l't E
   .rw[a'e g] at z;by_cases r:b=d
    .subst r;rw[a'g] at z;cases z;exact r'v O (PySem.Within.cons f u PySem.Within.nil)
    .rw[a'e r] at z;refine (I2.hok b v z).stay (λc o p q=>L c o (λw=>?_) q) (λc q=>G c _ q (ne c _ q λw=>by cases w)) λc xs q=>G c _ q (ne c _ q λw=>by cases w)
     rcases p with p |p
     .exact g (p.symm.trans w)
     .rw[w,l] at p;cases p
 .obtain⟨⟨t0,ho⟩,_,_⟩:=I2.hok e _ l;obtain⟨⟨m,hm,U⟩,_,_⟩:=I2.hok d _ hd;refine p'N I2.kIn ho hm c.ov nf c.sa U (by omega) λh' J sb=>?_
  have I3:=I2.write (x:=d) (e:=d) (o:=XD d (f::ns)) (h':=h') (t':=s2.toks+2) (by rw[hd];exact True.intro) (.inl rfl) (λb u g z=>(sb.2 b g).trans z) (let ⟨o,_,_,e,_⟩:=J;⟨o,e⟩) (r'v J (PySem.Within.cons f u U));exact⟨j,_,I3,A⟩
def GdX(e:Addr)(H c:Hp):Prop:=(∀a o,a≠e->H a=some o->c a=some o)/\(∀b y,c b=some (.own y)->H b=some (.own y))/\∀b d,c b=some (.tup d)->H b=some (.tup d)
theorem GdX.refl{e:Addr}{H:Hp}:GdX e H H:=⟨λ_ _ _ h=>h,λ_ _ h=>h,λ_ _ h=>h⟩
theorem GdX.put{e a:Addr}{H d:Hp}{o:HO}(g:GdX e H d)(h:a=e\/H a=none)(j:∀y,o≠.own y)(f:∀xs,o≠.tup xs):GdX e H (upd d a o):=by
 refine⟨λx v c z=>?_,λb y z=>?_,λb y z=>?_⟩
 .rw[a'e λw=>?_]
  .exact g.1 x v c z
  .rcases h with h |h
   .exact c (w.trans h)
   .rw[w,h] at z;cases z
 .by_cases hb:b=a
  .rw[hb,a'g] at z;cases z;exact absurd rfl (j y)
  .rw[a'e hb] at z;exact g.2.1 b y z
 .by_cases hb:b=a
  .rw[hb,a'g] at z;cases z;exact absurd rfl (f y)
  .rw[a'e hb] at z;exact g.2.2 b y z
theorem GdX.no{e a:Addr}{H b:Hp}(g:GdX e H b)(h:b a=none):a=e\/H a=none:=by
 by_cases c:a=e
 .exact .inl c
 .refine .inr ?_;cases z:H a with
  |none=>rfl
  |some v=>rw[g.1 a v c z] at h;cases h
def SqA(K:W.Frag)(H:Hp)(a:Addr)(xs:List V):Prop:=SqL K H a xs\/SqT K H a xs
theorem SqA.on{K:W.Frag}{C e a:Addr}{od:Option Addr}{xs:List V}{H b:Hp}(q:SqA K H a xs)(he:H e=some (XO C e od))(g:GdX e H b):SqA K b a xs:=by
 have k:∀u,u≠XO C e od->H a=some u->b a=some u:=λu n z=>g.1 a u (λw=>by rw[w,he] at z;cases z;exact n rfl) z
 rcases q with (r |r) |(r |r)
 .rcases r with r |⟨o,r⟩
  .exact .inl (.inl (.inl (k _ (λw=>by cases w) r)))
  .exact .inl (.inl (.inr ⟨o,k _ (λw=>by cases w) r⟩))
 .exact .inl (.inr r)
 .rcases r with r |⟨o,r⟩
  .exact .inr (.inl (.inl (k _ (λw=>by cases w) r)))
  .exact .inr (.inl (.inr ⟨o,k _ (λw=>by cases w) r⟩))
 .exact .inr (.inr r)
def aiC(K:W.Frag)(C:Addr):Sp:=λvs H Q _=>∃e a b d f,vs=[.ref e,.ref a,.ref b]/\H e=some (XO C e none)/\SqA K H a d/\SqA K H b f/\∀c od,GdX e H c->c e=some (XO C e od)->Q .non c
theorem t'z{K:W.Frag}{C e a b:Addr}{xs ys:List V}{D:Ends}{N:List Str}{H:Hp}{z:V}{Q:VK}(he:H e=some (XO C e none))(n:SqA K H a xs)(s:SqA K H b ys)(q:∀j od,GdX e H j->j e=some (XO C e od)->D.nx (start N [.ref e,.ref a,.ref b]) j):
  aeN (aeH (tXB C (adJ (adZ 0) (adJ (tC z) aeM)))) (aeN (sXs C (adZ 0) (tCB (λxs H Q=>∃p ys,xs=[.ref p]/\(SqL K H p ys\/SqT K H p ys)/\∀l,H l=none->Q (.ref l) (upd H l (.lst ys))) (adJ (adZ 1) aeM)) "numbers")
   (sXs C (adZ 0) (tCB (λxs H Q=>∃p ys,xs=[.ref p]/\(SqL K H p ys\/SqT K H p ys)/\∀l,H l=none->Q (.ref l) (upd H l (.lst ys))) (adJ (adZ 2) aeM)) "weights")) D (start N [.ref e,.ref a,.ref b]) H:=by
 refine⟨.ref e,rfl,e,none,z,rfl,he,⟨.ref a,rfl,a,xs,rfl,n,λl f=>⟨.ref e,rfl,e,rfl,.inl ⟨?_,λd hd c=>?_⟩⟩⟩⟩
 .rw[a'e λw=>by rw[<- w,he] at f;cases f];exact he
 have r:l≠e:=λw=>by rw[w,he] at f;cases f
 have m:=(GdX.refl (e:=e) (H:=H)).put (a:=l) (o:=.lst xs) (.inr f) (λ_ w=>by cases w) (λ_ w=>by cases w);have g:=m.no hd;have h:=(m.put (a:=d) (o:=XD d ["numbers"]) g (λ_ w=>by cases w) (λ_ w=>by cases w)).put (a:=e) (o:=XO C e (some d)) (.inl rfl) (λ_ w=>by cases w) (λ_ w=>by cases w);refine⟨.ref b,rfl,b,ys,rfl,s.on he h,λu hl2=>⟨.ref e,rfl,e,rfl,.inr ⟨d,["numbers"],?_,?_,by decide,q _ (some d) ((h.put (h.no hl2) (λ_ w=>by cases w) (λ_ w=>by cases w)).put g (λ_ w=>by cases w) (λ_ w=>by cases w)) ?_⟩⟩⟩
 .rw[a'e (λw=>by rw[<- w,a'g] at hl2;cases hl2),a'g]
 .rw[a'e (λw=>by rw[<- w,a'e c,a'g] at hl2;cases hl2),a'e c,a'g]
 .rw[a'e c.symm,a'e (λw=>by rw[<- w,a'g] at hl2;cases hl2),a'g]
def ae6(K:W.Frag)(C:Addr)(E:XK)(d:TA):TS:=λ_ j H=>d j H λvs c=>∃a b f e,vs=[.ref a,.ref b]/\SqA K c a f/\SqA K c b e/\E (.ref C) none c
theorem o'a{E:XK}{x:Str}{np p pos:Pos}{m l:Expr}{t:TA}{C F fI:Addr}{fd:FuncData}{ps:List Str}{k:Nat}(hs:X.stack=X.env::X.outer)(hf:X.env.frame=some X.env.locals)(α:X.ex=[])(ι:Xe1 X E)(M:X.calm=true)(hg:Gl X x)(hm:X.mg x=some (.ref C))(c:ahA X.K C F fI)(G:FnOk X.prog X.w X.K X.mg X.base CX0 k fI fd ps (aiC X.K C))(hr:Room (k+1) X.A)(O:Binds X.K fd ps [])(ha:PA X [m,l] t)(θ:(x == ("__debug__":Str))=false:=by decide)(ν:starEach [m,l] X.env=(false,eval m X.env)::starEach [l] X.env:=by rfl)(hpl:(backTo p (starEach [l] X.env)).any (·.1)=false:=by rfl):
  PS X (.Raise (some (.Call (.Name x np) [m,l] [] p)) none pos) (ae6 X.K C E t):=by
 intro pins s j H D I h;obtain⟨bm,N,nm,qn,bs,hd,sn,sub,ab,col,dd,k0,k1,k2,k3,k5,mN,hC,hN,μ,T⟩:=i'D I.ok.mod.kin c.ex;rw[arm_exec_Raise];refine wpAny_bind (wpAny_standAt (j'c (C:=C) (nm:=nm) (q:=qn) (N:=N) (bs:=bs) (bm:=bm) (hdct:=hd) (sn:=sn) (sub:=sub) (ab:=ab) (col:=col) (dd:=dd) (k0:=k0) (k1:=k1) (k2:=k2) (k3:=k3) (k5:=k5) (newId:="ValueError.__new__") (T.hasType PySem.F.excBase_ValueError.hasBase) (I.ok.hd M) (wpAny_bind (wpAny_mono (wpAny_Call_Name_kw (b'r I hg hm ?_ θ)) (λv ξ Y=>wpAny_bind (wpAny_standAt (wpAny_pure Y))) λ_ _ x=>x))));refine W.callWith_K (h₀:=X.base) I.ok.mod.kin c.kp (thn (ha p pins s j H _ I h) λus s1 ⟨vs,H1,I1,r,a,b,B,ys,ev,sa,sb,q1⟩=>⟨I1.kIn,?_⟩) ν hpl;subst ev;have β:us.length=2:=r.length.symm;obtain⟨hp,g,dr,tk,os⟩:=s1;have L:∃oI,hp.get? fI=some oI/\oI.cls=.type "function":=by
  obtain⟨o,ho,z⟩:=Option.map_eq_some_iff.mp (beq_iff_eq.mp c.fn);exact⟨o,I1.kIn _ _ ho,z⟩
 obtain⟨oI,L,δ⟩:=L;refine n'Y (T.keeps I1.bk) (I1.bk _ _ hC) (hN.keeps I1.bk) μ L δ (by show us.length<=1000;omega) λh' e d γ=>?_
 obtain⟨t,ht,ο,π⟩:=d.there;have y:H1 e=none:=I1.hok.fresh γ;have J:Inv X pins j (upd H1 e (XO C e none)) ⟨h',g,dr,tk,os⟩:=I1.laid (t':=tk) d.keeps γ (l't ht);have on:∀{a B},SqA X.K H1 a B->SqA X.K (upd H1 e (XO C e none)) a B:=λ{a B} q=>by
  have k:∀u,H1 a=some u->upd H1 e (XO C e none) a=some u:=λu z=>by rw[a'e λw=>by rw[w,y] at z;cases z];exact z
  rcases q with (r |r) |(r |r)
  .rcases r with r |⟨o,r⟩
   .exact .inl (.inl (.inl (k _ r)))
   .exact .inl (.inl (.inr ⟨o,k _ r⟩))
  .exact .inl (.inr r)
  .rcases r with r |⟨o,r⟩
   .exact .inr (.inl (.inl (k _ r)))
   .exact .inr (.inl (.inr ⟨o,k _ r⟩))
  .exact .inr (.inr r)
 have hl3:(Value.ref e::us++[]).length=ps.length:=by
  have z:=G.len [.ref e,.ref a,.ref b] (upd H1 e (XO C e none)) (λ_ _=>True) (λ_ _ _=>False) ⟨e,a,b,B,ys,rfl,a'g,on sa,on sb,λ_ _ _ _=>trivial⟩;rw[<- z];simp[β]
 refine wpAny_call (codeAny_mono (G.run _ X.stack _ (upd H1 e (XO C e none)) ⟨.ref e::us,[]⟩ (.ref e::us++[]) [.ref e,.ref a,.ref b] (λv H'=>v=.non/\GdX e (upd H1 e (XO C e none)) H'/\∃od,H' e=some (XO C e od)) (λ_ _ _=>False) (hr.make _ _ _) (J.env0.make C us []) (O _ (.ref e::us) J.kIn hl3) (by rw[append_nil];exact .cons rfl r) ⟨e,a,b,B,ys,rfl,a'g,on sa,on sb,λH' od g he=>⟨rfl,g,od,he⟩⟩) λr s' Q=>?_);cases r with
 |error x=>exact False.elim Q
 |ok fl=>
 cases fl with
 |next=>exact False.elim Q
 |brk=>exact False.elim Q
 |cont=>exact False.elim Q
 |ret u=>
 obtain⟨v,H',η,bare,un,hok,rv,rfl,gd,od,ε⟩:=Q;obtain rfl:u=Value.none:=rv;obtain⟨⟨t1,U⟩,_,_⟩:=hok e _ ε;have ne:∀b o,hp.get? b=some o->b≠e:=λb o z w=>by rw[w,d.new] at z;cases z
 have nt:∀b v,H1 b=some v->b≠e:=λb v z w=>by rw[w,y] at z;cases z
 have I4:Inv X pins j H1 s':=I1.call' (ch:=[]) (η.trans rfl) ⟨λb o z n f x=>un.keep b o (d.keeps b o z) (by rw [a'e (ne b o z)];exact n) f x,λb o z n f x=>un.slot b o (d.keeps b o z) (by rw [a'e (ne b o z)];exact n) f x,λb o z n _=>n,
  λb o z x=>un.there b o (d.keeps b o z) x,λ_ _ z=>z,λ_ _ _ z=>z,λ_ ps z=>⟨#[],by rw[Array.append_empty];exact z⟩⟩ (λb v z=>?_) bare (λb z=>absurd z (by simp))
 .refine⟨rfl,e,od,t1,rfl,I4.bk _ _ hC,U,?_⟩;have up:∀b,hp.get? b=none->X.s₀.heap.get? b=none:=λb z=>by
   cases q:X.s₀.heap.get? b with
   |none=>rfl
   |some o=>obtain⟨o',e'⟩:=I1.base.there b o q (by rw[α];simp);rw[z] at e';cases e'
  rw[ι];have ζ:∀env∈X.env::X.outer,∀a,env.frame=some a->a∈e::frs X.stack:=λenv he a hf=>.tail _ (by rw[hs];exact c'V env he a hf)
  refine c'U (base:=W.hideAll s'.heap (e::frs X.stack)) (a0:=.ref t1) (by rw[I4.ok.frames,hs]) (W.funFrames_hide (hs ▸ I4.stack) ζ) hf U (λb o q=>W.of_hideAll _ q)
   (W.hideAll_none _ (.head _)) rfl rfl rfl rfl λh2 hL κ=>?_
  obtain⟨l1,_,l3,l4⟩:=hL;exact h'H hs hf α I4 (bad:=[e]) (λb O=>by
   rcases mem_cons.mp O with z |O
   .exact .inl (by rw[z];exact .head _)
   .exact .inr O) (λb O=>by
   have z:b=e:=by simpa using O
   rw[z];exact⟨up _ d.new,y⟩) l1 l4 l3 κ (up _ d.new) y q1
 .have z':=gd.1 b v (nt b v z) (by rw[a'e (nt b v z)];exact z);have ow:∀c u,upd H1 e (XO C e none) c=some u->u≠XO C e none->H1 c=some u:=λc u w n=>by
   by_cases hc:c=e
   .rw[hc,a'g] at w;cases w;exact absurd rfl n
   .rw[a'e hc] at w;exact w
  exact (hok b v z').stay (λ_ _ _ q=>q) (λc q=>ow c _ (gd.2.1 c b q) λw=>by cases w) λc B q=>ow c _ (gd.2.2 c B q) λw=>by cases w
end
end L2
namespace Pu
open PySem L2 Vc Sf
section
variable{X:Cx}
def agB(a:List Tr)(Q:Prop):Prop:=match a with |[.lst _ _,.lst _ _]=>Q |_=>False
def aer(q:Value->Prop)(C:Addr)(b:PA'):PS':=λ_ j=>b (j.map lend) λa=>agB a (q (.ref C))
theorem l'v{z:Bool}{q:Value->Prop}{E:XK}{K:PySem.W.Frag}{e:TA}{f:PA'}{lo:Nat}{C:Addr}(h:adL K ⟨z,λ_=>E,q⟩ e f):acS K ⟨z,λ_=>E,q⟩ lo (ae6 K C E e) (aer q C f):=λus A n F H j y B D G W p L=>
 h F (Bq n H) H j _ _ _ W.cxt p λw vs v m c p2 o=>by
  have d:=W.cxt.gr o.g;unfold agB at p2;split at p2
  .obtain⟨v1,r1,c1,d1,rfl,rfl,h1,v2,r2,c2,d2,rfl,rfl,h2,rfl,rfl⟩:=o.r;obtain⟨a,l,_,rfl,sa,_⟩:=h1.lstH d.s d.b (Cells.left o.c);obtain⟨b,u,_,rfl,sb,_⟩:=h2.lstH d.s d.b (Cells.left (Cells.right o.c));exact⟨a,b,l,u,rfl,.inl sa,.inl sb,W.x (.ref C) j v m p2 (W.g.trans' o.g)⟩
  .exact p2.elim
theorem p'P{z:Bool}{q:Value->Prop}{E:XK}{x:Str}{H d pos:Pos}{b a:Expr}{n:PA'}{lo:Nat}{C F o:Addr}{m:FuncData}{p:List Str}{k:Nat}(hs:X.stack=X.env::X.outer)(I:X.env.frame=some X.env.locals)(g:X.ex=[])(j:Xe1 X E)(e:X.calm=true)(u:Gl X x)(v:X.mg x=some (.ref C))(c:ahA X.K C F o)(G:FnOk X.prog X.w X.K X.mg X.base CX0 k o m p (aiC X.K C))(y:Room (k+1) X.A)(D:Binds X.K m p [])(r:QA X ⟨z,λ_=>E,q⟩ [b,a] n)(f:(x == ("__debug__":Str))=false:=by decide)(l:starEach [b,a] X.env=(false,eval b X.env)::starEach [a] X.env:=by rfl)(hpl:(backTo d (starEach [a] X.env)).any (·.1)=false:=by rfl):
  QS X ⟨z,λ_=>E,q⟩ lo (.Raise (some (.Call (.Name x H) [b,a] [] d)) none pos) (aer q C n):=by
 obtain⟨J,s,B⟩:=r.h;exact⟨_,o'a hs I g j e u v c G y D s f l hpl,l'v B⟩
end
end Pu
namespace L2
open PySem PySem.Spec PyProof.Rows
section
variable{X:Cx}{tg a b c:Expr}{ta:TA}{p pos:Pos}
def ahB(ta:TA):TI:=λj H R=>ta j H λvs d=>∃i:Int,vs=[.int i,.int (-1),.int (-1)]/\-1<=i/\i<1000000/\R (Its i (-1) (i+1).toNat) d
theorem o'b(v:Gl X "range")(w:X.mg "range"=none)(u:PA X [a,b,c] ta)(hs:starEach [a,b,c] X.env=[(false,eval a X.env),(false,eval b X.env),(false,eval c X.env)]:=by rfl)(f:starEach [b,c] X.env=[(false,eval b X.env),(false,eval c X.env)]:=by rfl):
  PI X tg (.Call (.Name "range" p) [a,b,c] [] pos) (ahB ta):=by
 intro pins s j H R I h;refine Call_ (b'o I v w boot_range (PyProof.Rows.callWith_type1 (thn (u pos pins s j H _ I h) λus g ⟨vs,H1,I1,r1,q1⟩=>?_) (by rw[hs,f]) (by rw[f];rfl)));obtain⟨i,e,A,z,q⟩:=q1;subst e;cases r1 with
 |cons r d=>
 cases d with
 |cons x d=>
 cases d with
 |cons n d=>
 cases d;obtain⟨t,rfl⟩:=r;obtain⟨t',rfl⟩:=x;obtain⟨m,rfl⟩:=n;have sz:Builtin.Range.rangeSize i (-1) (-1)=i+1:=by
  unfold Builtin.Range.rangeSize;rw[if_neg (by decide),show (- -1:Int)=1 from rfl,Int.ediv_one];split<;>omega
 have sm:Builtin.Range.small i (-1) (-1)=true:=by
  unfold Builtin.Range.small;simp only[Builtin.Range.rangeFitsLong,and_eq_true,Bool.or_eq_true,decide_eq_true_eq,beq_iff_eq];exact⟨⟨⟨⟨by omega,by decide⟩,by decide⟩,by omega⟩,.inr (by decide)⟩
 refine call_range_3 (by decide) ?_ (.inl (PyProof.noPylong_small (by decide)));refine wpAny_pyIter_range (IsRange.new ..) sm ?_;have l:Inv X pins j H1 { g with heap:=g.heap.push { cls:=.type "range",data:=.fields #[.int i t,.int (-1) t',.int (-1) m] },toks:=g.toks }:=I1.kept λb o e=>Heap.get?_push_of_some _ e
 refine⟨_,[_],_,_,H1,rfl,l.kept (t':=g.toks) λb o e=>Heap.get?_push_of_some _ e,i'Z _ i (-1) (i+1).toNat,?_,λb y=>?_,q⟩
 .show IsRangeIter _ _ (i+((0:Nat):Int)*(-1)) ((((i+1).toNat:Nat):Int) - ((0:Nat):Int)) (-1);rw[show i+((0:Nat):Int)*(-1)=i from by simp,show (((i+1).toNat:Nat):Int) - ((0:Nat):Int)=Builtin.Range.rangeSize i (-1) (-1) from by rw[sz];omega];exact Heap.get?_push_size _ rfl
 .have e:=mem_singleton.mp y;rw[e];exact l.fpOk (le_refl _) (l.hok.fresh (le_refl _))
def ae7:List V->Hp->VK->Prop:=λd H Q=>∃(a:Int)(n:Nat),d=[.int a,.int (a+n)]/\0<=a/\a<=1000/\n<=1000/\∀p,H p=none->Q (.ref p) (upd H p (.rng a (a+n)))
theorem j'd:CallR X (.type "range") ae7:=by
 intro pins s j H m us Q I r h;obtain⟨a,n,rfl,_,_,u,q⟩:=h;cases r with
 |cons d f=>
 obtain⟨g,rfl,l⟩:=b'w f;obtain⟨t,rfl⟩:=(show ∃t,_=Value.int a t from d);obtain⟨v,rfl⟩:=(show ∃t,g=Value.int (a+n) t from l);exact call_range_2 ⟨.ref s.heap.objs.size,_,I.laid (a:=s.heap.objs.size) (o:=.rng a (a+n)) (t':=s.toks+1) (λb o e=>Heap.get?_push_of_some _ e) (le_refl _) ⟨_,_,_,Heap.get?_push_size _ rfl⟩,rfl,q _ (I.hok.fresh (le_refl _))⟩
def ae8:List V->Hp->VK->Prop:=λd H Q=>∃(p:Addr)(a:Int)(n:Nat),d=[.ref p]/\H p=some (.rng a (a+n))/\0<=a/\a<=1000/\n<=1000/\∀p,H p=none->Q (.ref p) (upd H p (.lst ((List.range n).map λi:Nat=>V.int (a+i))))
theorem e'v(a:Int):∀(n:Nat)(m:Nat){its:List Value},its.length=n->(∀(i:Nat)(v:Value),its[i]?=some v->∃t,v=Value.int (a+(m+i:Nat)) t)->Vals ((List.range' m n).map λi:Nat=>V.int (a+i)) its
 |0,m,[],_,_=>.nil
 |n + 1,m,x::its,hl,h=>by
  obtain⟨t,e⟩:=h 0 x rfl;rw[List.range'_succ,map_cons];refine .cons ⟨t,e⟩ (e'v a n (m+1) (by simpa using hl) λi v d=>?_);obtain⟨t,e⟩:=h (i+1) v d;exact⟨t,by rw[e];congr 2;omega⟩
theorem j'e(z:X.calm=true):CallR X (.type "list") ae8:=by
 intro pins s j H D us Q I r h;obtain⟨p,a,n,rfl,l,G,B,E,q⟩:=h;obtain⟨u,rfl,A⟩:=b'w r;cases A;obtain⟨t,u,v,e⟩:=I.hok p _ l;refine call_list_range (a:=a) (b:=a+n) (c:=1) (n:=n) (I.ok.hd z) e (small_one (by omega) (by omega) (by omega) (by omega)) (by rw[rangeSize_one];split<;>omega) (by omega) λC y d x m g f=>?_
 refine⟨.ref s.heap.objs.size,_,I.laid (a:=s.heap.objs.size) (o:=.lst ((List.range n).map λi:Nat=>V.int (a+i))) (t':=y) m (le_refl _) ⟨by rw[length_map,length_range,sizeLine_eq];omega,d.toList,x,?_,by rw[Array.toArray_toList];exact g⟩,rfl,q _ (I.hok.fresh (le_refl _))⟩;have:=e'v a n 0 (its:=d.toList) (by rw[length_toList];exact f.1) λi v w=>by
  obtain⟨t,e⟩:=f.2 i v (by rw[<- getElem?_toList];exact w);exact⟨t,by rw[e];congr 1⟩
 rw[List.range_eq_range'];exact this
end
end L2
namespace Pu
open PySem L2 Vc Sf
section
def ae9(a:List Tr)(Q:Int->Prop):Prop:=match a with |[.int i,.int j,.int k]=>j=-1/\k=-1/\-1<=i/\i<1000000/\Q i |_=>False
def aiD(b:PA'):PI':=λj Q=>b j λa=>ae9 a λi=>Q ((List.range (i+1).toNat).map λ(n:Nat)=>.int (i+n*(-1))) true
theorem t'A(h:adL K k ta pa):afm K k (ahB ta) (aiD pa):=λF B H j y m n c p q=>by
 refine h F B H j y _ _ c p λl vs b e s p1 o=>?_
 unfold ae9 at p1;split at p1
 .obtain⟨v,r,c2,d,rfl,rfl,⟨rfl,_⟩,v',r',c',d',rfl,rfl,⟨rfl,_⟩,v2,r2,c3,d3,rfl,rfl,⟨rfl,_⟩,rfl,rfl⟩:=o.r;obtain⟨rfl,rfl,f,a,p1⟩:=p1;exact⟨_,rfl,f,a,q _ _ _ b e p1 o.g f'o λ_ u _=>f'o⟩
 .exact p1.elim
theorem w'K(c:Gl X "range")(b:X.mg "range"=none)(h:QA X k [l,m,n] ps)(hs:starEach [l,m,n] X.env=[(false,eval l X.env),(false,eval m X.env),(false,eval n X.env)]:=by rfl)(a:starEach [m,n] X.env=[(false,eval m X.env),(false,eval n X.env)]:=by rfl):QI X k tg (.Call (.Name "range" p) [l,m,n] [] pos) (aiD ps):=by
 obtain⟨f,e,d⟩:=h.h;exact⟨_,o'b c b e hs a,t'A d⟩
def ah2(a:List Tr)(Q:Tr->Prop):Prop:=match a with |[.lst _ xs]=>Cls' xs=true/\Q (.lst .o xs.reverse) |_=>False
theorem k'J:∀{xs:List Tr}{vs:List V}{x:Tr}{v:V},Rs K F B xs vs []->R K F B x v []->Rs K F B (xs++[x]) (vs++[v]) []
 |[],_,x,v,y,r=>by obtain⟨h,_⟩:=y;rw[h];exact⟨v,[],[],[],rfl,rfl,r,rfl,rfl⟩
 |y::xs,_,x,v,y0,r'=>by
  obtain⟨w,r,c,d,e,b,a,f⟩:=y0;obtain⟨rfl,rfl⟩:=append_eq_nil_iff.mp b.symm;rw[e];exact⟨w,_,[],[],rfl,rfl,a,k'J f r'⟩
theorem o'c:∀{xs:List Tr}{vs:List V},Rs K F B xs vs []->Rs K F B xs.reverse vs.reverse []
 |[],_,y=>by obtain⟨h,_⟩:=y;rw[h];exact⟨rfl,rfl⟩
 |y::xs,_,y0=>by
  obtain⟨w,r,c,d,e,b,a,f⟩:=y0;obtain⟨rfl,rfl⟩:=append_eq_nil_iff.mp b.symm;rw[e,List.reverse_cons,List.reverse_cons];exact k'J (o'c f) a
theorem p'Q(h:adL K k ta pa):Sim K k (tLR K ta) (λG Q=>pa G λd=>ah2 d Q):=λF B H j G Q A c p q=>by
 refine h F B H j G _ _ c p λd vs x E C p1 o=>?_
 unfold ah2 at p1;split at p1
 .obtain⟨v,rfl,r1⟩:=o.r.one;have e:=c.gr o.g;obtain⟨a,us,D,rfl,u,f,_⟩:=r1.lstH e.s e.b o.c;obtain rfl:=Rs.noc _ p1.1 f;refine⟨a,us,rfl,u,λp l=>?_⟩;obtain⟨n,z,w⟩:=b'B (K:=K) (B:=B) o.g.s (o'c f) .nil l;refine q _ _ x _ _ p1.2 ⟨o.g.trans' n,z,w,λy m=>?_⟩;cases m with
  |head=>exact o.g.h.free l
  |tail _ m=>cases m
 .exact p1.elim
theorem v'D{p p2 a:Pos}(f:X.calm=true)(q:Gl X "list")(n:X.mg "list"=none)(b:Gl X "reversed")(c:X.mg "reversed"=none)(h:QA X k [l] ps)(g:starEach [l] X.env=[(false,eval l X.env)]:=by rfl)(e:starEach [Expr.Call (.Name "reversed" p2) [l] [] a] X.env=[(false,eval (Expr.Call (.Name "reversed" p2) [l] [] a) X.env)]:=by rfl):
  QE X k (.Call (.Name "list" p) [.Call (.Name "reversed" p2) [l] [] a] [] pos) (λj Q=>ps j λd=>ah2 d Q):=by
 obtain⟨r,o,m⟩:=h.h;exact⟨_,l'l f q n b c o g e,p'Q m⟩
def ajk(t u:Tr)(Q:Tr->Prop):Prop:=∃(a:Int)(n:Nat),t=.int a/\u=.int (a+n)/\0<=a/\a<=1000/\n<=1000/\Q (.lst .o ((List.range n).map λi:Nat=>Tr.int (a+i)))
theorem i'E(a:Int):∀(ns:List Nat),Rs K F B (ns.map λi:Nat=>Tr.int (a+i)) (ns.map λi:Nat=>V.int (a+i)) []
 |[]=>⟨rfl,rfl⟩
 |n::ns=>⟨.int (a + n),_,[],[],rfl,rfl,⟨rfl,rfl⟩,i'E a ns⟩
theorem t'B(h:adL K k ta pa):Sim K k (tCB ae8 (adJ (tCB ae7 ta) aeM)) (λG Q=>pa G λl=>afV l λt u=>ajk t u Q):=λF B H j G Q J c p q=>by
 refine h F B H j G _ _ c p λl vs f x L p1 d=>?_
 unfold afV at p1;split at p1
 .obtain⟨v,w,d1,d2,rfl,r1,r2,_⟩:=d.r.two;obtain⟨a,n,rfl,rfl,A,o,z,p1⟩:=p1;obtain⟨rfl,_⟩:=r1;obtain⟨rfl,_⟩:=r2;refine⟨a,n,rfl,A,o,z,λp E=>⟨p,a,n,rfl,a'g,A,o,z,λp2 b=>?_⟩⟩;have e:Gr f x f (upd x p (.rng a (a+n))):=Gr.own1 d.g.s E;obtain⟨C,D,I⟩:=b'B (K:=K) (B:=B) e.s (i'E a (List.range n)) .nil b;refine q _ _ f _ _ p1 ⟨(d.g.trans' e).trans' C,D,I,λy m=>?_⟩;cases m with
  |head=>exact d.g.h.free (e.h.free b)
  |tail _ m=>cases m
 .exact p1.elim
theorem w'L{p p2 a:Pos}(s:X.calm=true)(q:Gl X "list")(o:X.mg "list"=none)(b:Gl X "range")(c:X.mg "range"=none)(h:QA X k [l,m] ps)(f:starEach [l,m] X.env=(false,eval l X.env)::starEach [m] X.env:=by rfl)(r:(backTo a (starEach [m] X.env)).any (·.1)=false:=by rfl)(d:starEach [Expr.Call (.Name "range" p2) [l,m] [] a] X.env=(false,eval (Expr.Call (.Name "range" p2) [l,m] [] a) X.env)::starEach [] X.env:=by rfl):
  QE X k (.Call (.Name "list" p) [.Call (.Name "range" p2) [l,m] [] a] [] pos) (λj Q=>ps j λe=>afV e λt u=>ajk t u Q):=by
 obtain⟨v,n,g⟩:=h.h;exact⟨_,b'u (j'e s) q o rfl (b's (b'u j'd b c rfl n (he:=f) (hpl:=r)) b'J d) (he:=d),t'B g⟩
def pKN(i j:Nat):PE':=λv Q=>∃(m:List (Key×Tr))(ns:List Int)(y:Int),v[i]?=some (.dic .f m)/\m.map (·.1)=ns.map (λn=>(Sum.inl n:Key))/\v[j]?=some (.int y)/\ns.length<=1000/\Q (.lst .o ((ns.filter λx=>!decide (x=y)).map Tr.int))
theorem i'F:∀(ns:List Int),Rs K F B (ns.map Tr.int) (ns.map V.int) []
 |[]=>⟨rfl,rfl⟩
 |n::ns=>⟨.int n,_,[],[],rfl,rfl,⟨rfl,rfl⟩,i'F ns⟩
theorem v'E(hz:k.z=true){i j:Nat}:Sim K k (aeV X (aeT (iDk ahR X (adZ i)) (adH 0) (afp (tOp rNe (adZ 0) (adZ 1))) (adZ 0) [none,some j])) (pKN i j):=λF B H G J Q Q' c p q=>by
 obtain⟨m,ns,y,hi,hm,hj,hn,pQ⟩:=p;rcases c.e i _ hi with z |⟨v,h1,_,a,vs,rfl,h2,h3,h4⟩
 .cases z
 rcases c.e j _ hj with z |⟨v,g1,rfl,_⟩
 .cases z
 have hF:=e'd (c.z hz) h2;have N:=c.s _ _ hF;have ek:∀{m:List (Key×Tr)}{vs:List (Key×V)},Rk K F B m vs []->vs.map (·.1)=m.map (·.1):=λ{m}=>by
  induction m with
  |nil=>intro vs h;rw[h.1];rfl
  |cons x m ih=>
   intro vs h;obtain⟨v,r,c,d,g,D,e3,e4⟩:=h;obtain⟨rfl,rfl⟩:=append_eq_nil_iff.mp D.symm;rw[g,map_cons,map_cons,ih e4]
 have Y:vs.map (·.1)=ns.map (λn=>(Sum.inl n:Key)):=(ek h3).trans hm;have hl:vs.length=ns.length:=by have:=congrArg List.length Y;simpa using this
 refine⟨.ref a,h1,a,vs,rfl,N,λL E=>?_⟩;refine s's (Q:=λv=>agM X (Q v)) (λn u I=>I=upd H a (.frz L (.dK vs))/\u=((ns.take n).filter λx=>!decide (x=y)).map V.int) ⟨rfl,rfl⟩ (λ_ _ _ _ h=>by rw[h.1,a'g]) ?_ ?_
 .rintro n kk v u I e ⟨rfl,rfl⟩;have g:(ns.map (λn=>(Sum.inl n:Key)))[n]?=some kk:=by rw[<- Y,getElem?_map,e];rfl
  rw[getElem?_map] at g;cases D:ns[n]? with
  |none=>rw[D] at g;cases g
  |some x=>
   rw[D] at g;cases g;have U:ns.take (n+1)=ns.take n++[x]:=by rw[take_add_one,D];rfl
   have O:(((ns.take n).filter λx=>!decide (x=y)).map V.int).length<=1000:=by
    rw[length_map];exact le_trans (length_filter_le _ _) (by rw[length_take];omega)
   refine⟨h'i rfl λi v e=>?_,.int x,rfl,.int y,?_,rfl,_,rfl,?_⟩
   .match i,e with
    |1,e=>exact e
   .show ([none,some j].map λo=>match o with |none=>none |some i=>(G[i]?).getD none)[1]?=_;show some ((G[j]?).getD none)=_;rw[g1];rfl
   .have di:decide (V.int x=V.int y)=decide (x=y):=by by_cases z:x=y<;>simp[z]
    rw[di];by_cases z:x=y
    .subst z;rw[decide_eq_true rfl];refine⟨rfl,?_⟩;rw[U,List.filter_append];simp
    .rw[decide_eq_false z];refine⟨.int x,rfl,by rw[sizeLine_eq];omega,rfl,?_⟩;rw[U,List.filter_append,map_append];simp[z]
 .rintro u I ⟨rfl,rfl⟩;have A:ns.take vs.length=ns:=by rw[hl,take_length]
  rw[A];refine⟨?_,λp C=>?_⟩
  .rw[length_map,sizeLine_eq];have:=length_filter_le (λx=>!decide (x=y)) ns;omega
  have l:p≠a:=λw=>by rw[w,a'g] at C;cases C
  rw[a'e l] at C;refine⟨a,L,vs,by rw[a'e (Ne.symm l),a'g],E,?_⟩;have eq:upd (upd (upd H a (.frz L (.dK vs))) p (.lst ((ns.filter λx=>!decide (x=y)).map V.int))) a (.dK vs)=upd H p (.lst ((ns.filter λx=>!decide (x=y)).map V.int)):=by
   funext b;by_cases M:b=a
   .rw[M,a'g,a'e (Ne.symm l),N]
   .rw[a'e M];by_cases f:b=p
    .rw[f,a'g,a'g]
    .rw[a'e f,a'e M,a'e f]
  rw[eq];obtain⟨n1,n2,n3⟩:=b'B (K:=K) (B:=B) c.s (i'F (ns.filter λx=>!decide (x=y))) .nil C;refine q _ _ F _ _ pQ ⟨n1,n2,n3,λy m=>?_⟩;cases m with
  |head=>exact C
  |tail _ m=>cases m
theorem p'R{e:Expr}{i j:Nat}(hz:k.z=true)(h:PE X e (aeV X (aeT (iDk ahR X (adZ i)) (adH 0) (afp (tOp rNe (adZ 0) (adZ 1))) (adZ 0) [none,some j]))):QE X k e (pKN i j):=⟨_,h,v'E hz⟩
end
end Pu
namespace L2
section
open PySem
open AutoSeq1 (wpAny_loadPart')
section
variable{prog:Program}{w:World}{A:Around}{E:Value->Shared->Prop}{s:Shared}
theorem j'f(l:Addr)(items:Array Value)(n:Nat)(e:Option Addr)(m:Array (Option Value))(o:Tok):
  Meets (Builtin.«enumerate.__new__» ⟨[.type "enumerate",.ref l],[("start",.int 1 o)]⟩) (λ_ R s=>s.heap.get? l=some { cls:=.type "list",dict:=e,data:=.seq items n,slots:=m }/\
   R (.ok (.ret (.ref (s.heap.push { cls:=.type "list_iterator",data:=.fields #[.ref l,.int 0 0] }).objs.size)))
    { s with heap:=(s.heap.push { cls:=.type "list_iterator",data:=.fields #[.ref l,.int 0 0] }).push { cls:=.type "enumerate",data:=.fields #[.none,.bool false,.ref s.heap.objs.size,rawInt 1,.none,.none] } }):=
 .of_wp λprog w A R s h=>by
  obtain⟨p,g,d,b,os⟩:=s;obtain⟨a,h⟩:=h;have j:=sub_enumerate;have f:Heap.IsList (Shared.heap ⟨p,g,d,b,os⟩) l items:=⟨_,a,rfl,n,rfl⟩
  wp_walk using wpAny_loadPart' a
  refine wpAny_stack_any λst=>wpAny_pure ?_
  split
  .rename_i c _ _ _ _ _;cases (c == Value.type "enumerate")
   .wp_walk using wpAny_loadPart' a,wpAny_pyIter_list f
    exact⟨_,rfl,h⟩
   .wp_walk using wpAny_loadPart' a,wpAny_pyIter_list f
    exact⟨_,rfl,h⟩
  .wp_walk using wpAny_loadPart' a,wpAny_pyIter_list f
   exact⟨_,rfl,h⟩
theorem l'w{self x:Value}{b:List (Str×Value)}:Meets (Builtin.«object.__init__» ⟨[self,x],b⟩) (λ_ R s=>s.TypeIs self "enumerate"/\R (.ok (.ret .none)) s):=by
 refine Meets.of_wp λprog w A R s a=>?_
 obtain⟨f,d⟩:=a;have e:=F.called_enumerate.init.lookup;have g:=F.called_enumerate.made;have c:(some "enumerate.__new__" != some "object.__new__")=true:=by decide
 repeat (any_goals (first |assumption |wp_step))
 exact⟨_,rfl,d⟩
theorem l'x{l:Addr}{items:Array Value}{f:Tok}{Q:Value->Shared->Prop}(L:s.heap.IsList l items)(h:∀h',IsEnum h' (s.heap.objs.size+1) s.heap.objs.size 1 .none->h'.IsListIter s.heap.objs.size l 0->(∀b o,s.heap.get? b=some o->h'.get? b=some o)->Q (.ref (s.heap.objs.size+1)) { s with heap:=h' }):
  wpAny (model prog w) A (call (.type "enumerate") [.ref l] [("start",.int 1 f)]) Q E s:=by
 obtain⟨⟨c,u,M,H⟩,G,q,n,hd⟩:=L
 replace q:c=.type "list":=q
 replace hd:M=.seq items n:=hd
 subst q hd;have d:=F.called_enumerate;obtain⟨c,O,y⟩:=d.mro;have p:=d.made;have C:=d.sub;refine wpAny_call (codeAny_of_tree ?_);show wpAny _ _ (callAny (.type "enumerate") _) _ _ _;refine wpAny_pure ⟨Code.quiet_builtin _ (by decide +kernel),codeAny_builtin F.entry_type_call ?_⟩;rw[Around.under_plain (weight_type_call_type _ _ _) (units_type_call_type _ _ _)];have N:=d.notType;have U:=d.canCreate;have J:checkTypeCall "enumerate" ⟨[.ref l],[("start",.int 1 f)]⟩=pure ():=by kernel_rfl
 have j:checkBuiltinCall "enumerate.__new__" ⟨[.type "enumerate",.ref l],[("start",.int 1 f)]⟩=pure ():=by kernel_rfl
 repeat (any_goals (first |assumption |wp_step))
 have z:(s.heap.push { cls:=.type "list_iterator",data:=.fields #[.ref l,.int 0 0] }).objs.size=s.heap.objs.size+1:=Heap.size_push ..;have x:IsEnum ((s.heap.push { cls:=.type "list_iterator",data:=.fields #[.ref l,.int 0 0] }).push { cls:=.type "enumerate",data:=.fields #[.none,.bool false,.ref s.heap.objs.size,rawInt 1,.none,.none] }) (s.heap.objs.size+1) s.heap.objs.size 1 .none:=by
  have:=Heap.get?_push_size (s.heap.push { cls:=.type "list_iterator",data:=.fields #[.ref l,.int 0 0] }) (o:={ cls:=.type "enumerate",data:=.fields #[.none,.bool false,.ref s.heap.objs.size,rawInt 1,.none,.none] }) rfl;rw[z] at this;exact this
 have v:codeAny (model prog w) A.in1 (.call (.builtin "enumerate.__new__") ⟨[.type "enumerate",.ref l],[("start",.int 1 f)]⟩) (λr a=>r=.ok (.ret (.ref (s.heap.objs.size+1)))/\a={ s with heap:=(s.heap.push { cls:=.type "list_iterator",data:=.fields #[.ref l,.int 0 0] }).push { cls:=.type "enumerate",data:=.fields #[.none,.bool false,.ref s.heap.objs.size,rawInt 1,.none,.none] } }) s:=
  codeAny_call_builtin d.plain F.entry_enumerate_new (wpAny_of_eq j (j'f l items n u H f prog w A.in1 (λr a=>r=.ok (.ret (.ref (s.heap.objs.size+1)))/\a={ s with heap:=(s.heap.push { cls:=.type "list_iterator",data:=.fields #[.ref l,.int 0 0] }).push { cls:=.type "enumerate",data:=.fields #[.none,.bool false,.ref s.heap.objs.size,rawInt 1,.none,.none] } }) s ⟨G,by rw[z],rfl⟩))
 refine codeAny_mono v λr a m=>?_
 obtain⟨rfl,rfl⟩:=m;have B:Shared.TypeIs { s with heap:=(s.heap.push { cls:=.type "list_iterator",data:=.fields #[.ref l,.int 0 0] }).push { cls:=.type "enumerate",data:=.fields #[.none,.bool false,.ref s.heap.objs.size,rawInt 1,.none,.none] } } (.ref (s.heap.objs.size+1)) "enumerate":=⟨_,x,rfl⟩;have I:=d.init.lookup;have D:=d.init.bind (.ref (s.heap.objs.size+1))
 repeat (any_goals (first |assumption |wp_step))
 have hok:argsOk "object.__init__" ⟨[.ref (s.heap.objs.size+1),.ref l],[("start",.int 1 f)]⟩:=by kernel_rfl
 have g:codeAny (model prog w) A.in1 (.call (.builtin "object.__init__") ⟨[.ref (s.heap.objs.size+1),.ref l],[("start",.int 1 f)]⟩) (λr a=>r=.ok (.ret .none)/\a={ s with heap:=(s.heap.push { cls:=.type "list_iterator",data:=.fields #[.ref l,.int 0 0] }).push { cls:=.type "enumerate",data:=.fields #[.none,.bool false,.ref s.heap.objs.size,rawInt 1,.none,.none] } }) { s with heap:=(s.heap.push { cls:=.type "list_iterator",data:=.fields #[.ref l,.int 0 0] }).push { cls:=.type "enumerate",data:=.fields #[.none,.bool false,.ref s.heap.objs.size,rawInt 1,.none,.none] } }:=
  codeAny_call_builtin d.init.plain F.entry_object_init (d.init.check _ _ _ _ _ _ _ _ B hok (l'w prog w A.in1 (λr a=>r=.ok (.ret .none)/\a={ s with heap:=(s.heap.push { cls:=.type "list_iterator",data:=.fields #[.ref l,.int 0 0] }).push { cls:=.type "enumerate",data:=.fields #[.none,.bool false,.ref s.heap.objs.size,rawInt 1,.none,.none] } }) _ ⟨B,rfl,rfl⟩))
 refine codeAny_mono g λr a m=>?_
 obtain⟨rfl,rfl⟩:=m
 repeat (any_goals (first |assumption |wp_step))
 refine h _ x ⟨_,Heap.get?_push_of_some _ (Heap.get?_push_size _ rfl),rfl,rfl⟩ λb o e=>Heap.get?_push_of_some _ (Heap.get?_push_of_some _ e)
end
end
end L2
namespace L2
open PySem PySem.Spec PyProof.Rows
theorem v'F{prog:Program}{w:World}{A:Around}(c:A.handled=none)(it l:Addr)(a:l≠it)(items:Array Value):
  Draws prog w A it [it,l] (items.size+1) (λi v=>items[i - 1]?=some v) (λj h=>∃i:Nat,j=i+1/\h.IsListIter it l i/\h.IsList l items) where
 live:=λ_ _ ⟨_,_,st⟩=>let ⟨o,ho,_⟩:=st.1;⟨o,ho⟩
 frame:=λ_ _ _ ⟨i,e,st⟩ hk=>⟨i,e,st.1.at λo e=>hk it (by simp) o e,st.2.at λo e=>hk l (by simp) o e⟩
 item:=λj s Q E g ⟨i,e,st⟩ hQ=>by
  subst e;exact (Draws.list c it l a items).item i s Q E (by omega) st λx d f p b sb=>hQ x d f (by simpa using p) ⟨i+1,rfl,b⟩ sb
 done:=λs Q E ⟨i,e,st⟩ hE=>by
  obtain rfl:i=items.size:=by omega
  exact (Draws.list c it l a items).done s Q E st hE
def ah3(K:W.Frag)(a:Addr):It:=
 ⟨λi H=>∃b x,SqL K H a b/\b[i]?=some x,λi H y c=>∃p x,y=.ref p/\H p=none/\(∀b,SqL K H a b->b[i]?=some x)/\c=upd H p (.tup [.int ((i+1:Nat):Int),x]),λi H=>∃b,SqL K H a b/\b.length<=i⟩
theorem l'y{P:Program}{w:World}{K:W.Frag}{elts:List Expr}{x1:Nat}{pos:Pos}(a it en:Addr)(r:en≠it):
  afk P w K (.Tuple elts x1 pos) (ah3 K a) [en,it] en (λi h=>(∃g,IsEnum h en it ((i+1:Nat):Int) g)/\h.IsListIter it a i/\a≠it/\a≠en) where
 mem:=by simp
 obj:=λi h st b m=>by
  obtain⟨⟨g,e1⟩,⟨o,e2,c,d⟩,_⟩:=st;rcases mem_cons.mp m with z |m
  .rw[z];exact⟨_,e1,λv z=>by cases z⟩
  .have z:b=it:=by simpa using m
   rw[z];exact⟨o,e2,λv z=>by rw[d] at z;cases z⟩
 keep:=λi h h' st k=>by
  obtain⟨⟨g,e1⟩,e2,e3⟩:=st;exact⟨⟨g,k en (by simp) _ e1⟩,e2.at λo e=>k it (by simp) o e,e3⟩
 item:=by
  intro X hP hw hK hc i pins s j H E I hf st hg;subst hP hw hK;obtain⟨⟨g,C⟩,y,β,N⟩:=st;obtain⟨xs,x,n,hx⟩:=hg;obtain⟨l,rv,p,hz⟩:=I.list n;obtain⟨u,hu,ru⟩:=rv.get hx;have fe:=hf en (by simp);have fi:=hf it (by simp);have ζ:i<l.toArray.size:=by have:=(List.getElem?_eq_some_iff.mp hu).1;simpa using this
  refine wpAny_pyNext_enum_itemD (v'F (A:=X.A.in1) (I.ok.hd hc) it a β l.toArray) C ⟨i,rfl,y,p.isList⟩ (by omega) r (by simp[r,Ne.symm N]) λG h' B pu α J hT η hk=>?_
  obtain⟨i',ei,L,_⟩:=J;obtain rfl:i'=i+1:=by omega
  have eu:G=u:=by
   have z:l.toArray[i]?=some G:=by simpa using pu
   rw[List.getElem?_toArray,hu] at z;cases z;rfl
  subst eu;refine⟨.ref s.heap.objs.size,rfl,wpAny_letOwnedTupleGo_enum α λh2 M hs=>?_⟩;have le:en<s.heap.objs.size:=Heap.lt_size C;have li:it<s.heap.objs.size:=let ⟨o,e,_⟩:=y;Heap.lt_size e;have γ:H s.heap.objs.size=none:=I.hok.fresh (le_refl _);have O:en≠s.heap.objs.size:=ne_of_lt le;have U:it≠s.heap.objs.size:=ne_of_lt li;have I1:=I.laid (a:=s.heap.objs.size) (o:=.tup [.int ((i+1:Nat):Int),x]) (h':=s.heap.push { cls:=.type "tuple",data:=.seq #[.int ((i+1:Nat):Int) B,G] }) (t':=B) (λb q n=>Heap.get?_push_of_some _ n) (le_refl _)
   ⟨by show 2<=sizeLine;decide,[.int ((i+1:Nat):Int) B,G],.cons ⟨_,rfl⟩ (.cons ru .nil),⟨_,Heap.get?_push_size _ rfl,rfl,_,rfl⟩⟩
  have up:∀{b:Addr},b≠s.heap.objs.size->ad3 X pins H b->ad3 X pins (upd H s.heap.objs.size (.tup [.int ((i+1:Nat):Int),x])) b:=λm f=>⟨by rw[a'e m];exact f.1,f.2⟩
  have ε:∀b q,b≠en->b≠it->(s.heap.push { cls:=.type "tuple",data:=.seq #[.int ((i+1:Nat):Int) B,G] }).get? b=some q->h2.get? b=some q:=λb q h1 h3 n=>by
   refine hs.extBut b q h1 ?_;rcases Heap.get?_push_cases n with⟨δ,eq⟩ |n
   .subst δ;subst eq;exact hT
   .exact hk b q h1 h3 n
  obtain⟨oi,ei,ci,di⟩:=L;have Y:h2.IsListIter it a (i+1):=⟨oi,hs.extBut it oi (Ne.symm r) ei,ci,di⟩;refine⟨.ref s.heap.objs.size,upd H s.heap.objs.size (.tup [.int ((i+1:Nat):Int),x]),?_,rfl,⟨_,x,rfl,γ,λys hy=>by rw[I.list_inj hy n];exact hx,rfl⟩,⟨⟨_,M⟩,Y,β,N⟩,λb m=>?_⟩
  .exact Inv.turned2 (s:={ s with heap:=s.heap.push { cls:=.type "tuple",data:=.seq #[.int ((i+1:Nat):Int) B,G] },toks:=B }) (t':=B+1) I1 ε (up O fe) (up U fi) ⟨_,M⟩ ⟨oi,hs.extBut it oi (Ne.symm r) ei⟩
  .rcases mem_cons.mp m with z |m
   .rw[z,a'e O];exact fe.1
   .have z:b=it:=by simpa using m
    rw[z,a'e U];exact fi.1
 done:=by
  intro X hP hw hK hc i pins s j H E I hf st hg;subst hP hw hK;obtain⟨⟨g,C⟩,y,_⟩:=st;obtain⟨xs,n,hx⟩:=hg;obtain⟨l,rv,p,hz⟩:=I.list n;have hl:=rv.length;obtain⟨f0,f1,f2,f3,f4,f5⟩:=hf it (by simp);have D:Draws X.prog X.w X.A.in1 it [it,a] 0 (λ_ _=>True) (λ_ h=>h.IsListIter it a i/\h.IsList a l.toArray):=⟨λ_ _ st=>let ⟨o,ho,_⟩:=st.1;⟨o,ho⟩,λ_ _ _ st hk=>⟨st.1.at λo e=>hk it (by simp) o e,st.2.at λo e=>hk a (by simp) o e⟩,λ_ _ _ _ h=>absurd h (Nat.not_lt_zero _),
   λs Q E st hE=>wpAny_nextOf_list_end (I.ok.hd hc) st.1 st.2 (by simp;omega) hE⟩
  exact wpAny_pyNext_enum_endD D C ⟨y,p.isList⟩ λh' eb=>⟨rfl,I.turned (t':=s.toks) (λb o m e=>eb b o m e) f0 f1 f3 f4 f5⟩
 self:=λ_ _ _ _ _ st h=>let ⟨⟨_,C⟩,_⟩:=st;wpAny_pyIter_enum C h
theorem f'Y{M:Model}{A:Around}{E:Value->Shared->Prop}{s:Shared}{pos:Pos}{T:String}{first:List Value}{args:List (Bool×Sem Value)}{d:List (Option Str×Sem Value)}{Q:Value->Shared->Prop}(b:(args.any (·.1) || d.any (·.1.isNone))=false)(h:wpAny M A (evalArgs (.type T) true args d) (λa c=>wpAny M A (call (.type T) (first++a.pos) a.kw) Q E c) E s):
  wpAny M A (callWith pos (.type T) first args d) Q E s:=by
 unfold callWith;refine wpAny_bind (wpAny_holding (wpAny_mono h (λa c e=>wpAny_bind (wpAny_standAt ?_)) λ_ _ x=>x));simp only[b];refine wpAny_bind (wpAny_pure ?_);exact wpAny_bind (wpAny_mono e (λr f g=>wpAny_bind (wpAny_holding (wpAny_point (wpAny_pure g)))) λ_ _ x=>x)
section
variable{X:Cx}
def afZ(K:W.Frag)(c:TA):TI:=λj H R=>c j H λvs b=>∃a,vs=[.ref a]/\(∃d,SqL K b a d)/\R (ah3 K a) b
theorem p'S{l:Expr}{w:TA}{elts:List Expr}{x1 n:Nat}{f p pos c kpos:Pos}(J:Gl X "enumerate")(D:X.mg "enumerate"=none)(C:PA X [l] w)(hs:starEach [l] X.env=(false,eval l X.env)::starEach [] X.env:=by rfl)(hpl:((backTo pos (starEach [l] X.env)).any (·.1) || (backToKw pos (keywordEach [⟨some "start",.Constant (.int 1) n c,kpos⟩] X.env)).any (·.1.isNone))=false:=by rfl):
  PI X (.Tuple elts x1 f) (.Call (.Name "enumerate" p) [l] [⟨some "start",.Constant (.int 1) n c,kpos⟩] pos) (afZ X.K w):=by
 intro pins s y H R I h;refine wpAny_Call_Name_kw (b'o I J D (u:=.type "enumerate") rfl ?_);refine f'Y hpl (evalArgs_kw2 rfl (thn (C pos pins s y H _ I h) λus M ⟨vs,H1,I1,r1,a,e,⟨xs,hq⟩,q⟩=>thn (r'V (nm:=some "start") (kpos:=kpos) (l'N (X:=X) (i:=1) (j:=n) (pos:=c)) u'p pos pins M y H1 (λB v=>B=[.int 1]/\v=H1) I1 ⟨rfl,rfl⟩) λks d ⟨B,v,I2,r2,ez,eH⟩=>?_) hs);subst e ez eH;obtain⟨Q,rfl,t,rfl⟩:=b'w r2;cases r1 with
 |cons r E=>
  cases E;cases r;obtain⟨L,N,p,U⟩:=I2.list hq;refine l'x p.isList λO x g G=>wpAny_pyIter_enum x ?_
  have ne:d.heap.objs.size+1≠d.heap.objs.size:=by omega
  have A:a<d.heap.objs.size:=let ⟨o,ho,_⟩:=p.isList;Heap.lt_size ho;refine⟨d.heap.objs.size+1,[d.heap.objs.size+1,d.heap.objs.size],_,_,v,rfl,I2.kept (t':=d.toks) G,l'y a _ _ ne,⟨⟨_,x⟩,g,ne_of_lt A,ne_of_lt (Nat.lt_succ_of_lt A)⟩,λb m=>?_,q⟩;rcases mem_cons.mp m with z |m
  .rw[z];exact I2.fpOk (by omega) (I2.hok.fresh (by omega))
  .have z:b=d.heap.objs.size:=by simpa using m
   rw[z];exact I2.fpOk (le_refl _) (I2.hok.fresh (le_refl _))
end
end L2
namespace Pu
open PySem L2 Vc Sf
section
theorem p'T{K:W.Frag}{a:Addr}{xs:List V}:ItOk (ah3 K a) xs.length (λH=>SqL K H a xs) (λi H y b=>∃x p,xs[i]?=some x/\y=.ref p/\H p=none/\b=upd H p (.tup [.int ((i+1:Nat):Int),x])):=
 ⟨λi H h q=>by obtain⟨x,e⟩:=e'i h;exact⟨xs,x,q,e⟩,λH q=>⟨xs,q,le_refl _⟩,λi H y b h q z=>by obtain⟨p,x,d,c,f,g⟩:=z;exact⟨x,p,f xs q,d,c,g⟩⟩
theorem g'I{a:Addr}{f:Fl}{xs:List Tr}(r:R K F B (.lst f xs) (.ref a) []):Src K B F (ah3 K a) (xs.mapIdx λi x=>.tup [.int ((i+1:Nat):Int),x]):=by
 obtain⟨E,vs,m,e,v⟩:=b'X r;cases m;refine⟨_,_,(by rw[List.length_mapIdx,<- e.length];exact p'T (K:=K) (a:=a) (xs:=vs)),v,λi t D C x w c l s b y=>?_⟩;obtain⟨z,p,d,rfl,j,rfl⟩:=y;rw[List.getElem?_mapIdx] at c;cases q:xs[i]? with
 |none=>rw[q] at c;cases c
 |some u=>
  rw[q] at c;cases c;obtain⟨A,h,o⟩:=e.nil_at q;rw[h] at d;cases d;obtain⟨n,g,r2,_⟩:=c'X (xs:=[.int ((i+1:Nat):Int),u]) (cs:=[]) s ⟨.int ((i+1:Nat):Int),[z],[],[],rfl,rfl,⟨rfl,rfl⟩,z,[],[],[],rfl,rfl,o.mo l (λ_=>Le.refl _) u,rfl,rfl⟩ .nil j;exact⟨n,g,r2⟩
def aiE(c:PA'):PI':=λj Q=>c j λa=>agn a λt=>aeh (frz t) λb=>Q (b.mapIdx λi x=>.tup [.int ((i+1:Nat):Int),x]) (nlt (frz t))
theorem l'z(h:adL K k ta pa):afm K k (afZ K ta) (aiE pa):=λF B H j y C D c p q=>by
 refine h F B H j y _ _ c p λA vs I m E p1 o=>?_
 obtain⟨t,rfl,p1⟩:=j'G p1;obtain⟨v,rfl,u⟩:=o.r.one;obtain⟨l,d,r2⟩:=Out.held ⟨o.g,u,o.c,o.n⟩;obtain⟨f,G,e,p1⟩:=c'Z p1;rw[e] at r2 p1;obtain⟨a,vs,rfl,_,z⟩:=b'X r2;exact⟨a,rfl,⟨vs,z l m (Le.refl _) d.s λk=>(c.b k).trans d.h⟩,q _ _ _ l m p1 d (g'I r2) λx J w=>g'I (R.low _ x w.symm r2)⟩
theorem w'M{b:Nat}{a kpos:Pos}(f:Gl X "enumerate")(e:X.mg "enumerate"=none)(h:QA X k [l] ps)(hs:starEach [l] X.env=(false,eval l X.env)::starEach [] X.env:=by rfl)(hpl:((backTo pos (starEach [l] X.env)).any (·.1) || (backToKw pos (keywordEach [⟨some "start",.Constant (.int 1) b a,kpos⟩] X.env)).any (·.1.isNone))=false:=by rfl):QI X k (.Tuple es x1 tpos) (.Call (.Name "enumerate" p) [l] [⟨some "start",.Constant (.int 1) b a,kpos⟩] pos) (aiE ps):=by
 obtain⟨g,d,c⟩:=h.h;exact⟨_,p'S f e d hs hpl,l'z c⟩
end
section
def agC(K:W.Frag)(iS:Nat)(pe b:PE'):PS':=λD j=>wPl K j iS ["table"] (λu _=>∃c fs,u=.ins .o c fs)/\wPl K j 0 [] λu _=>ad9 K "table" u λa fs=>fs=[]/\NoAttr K a "wider"/\∀tb:Addr,
 pe ((j.set 0 (.ins .o a [("table",.cl tb)])).map lend) λt=>∃n:Int,t=.int n/\wPl K (j.set 0 (.ins .o a [("table",.cl tb),("wider",.int n)])) iS ["shut","table"] λu s=>aeJ u λm=>
  b ((j.set 0 (.ins .o a [("table",.cl tb),("wider",.int n)])).map lend) λy=>aeK y λy=>m.length<1000000/\D.nx (s (.dic .o (ad8 m y .non)))
theorem p'U{iS:Nat}{te Q:TE}{pe pj:PE'}(h:Sim K k te pe)(hj:Sim K k Q pj):acS K k lo (aeN (afr K (tR K 0 []) (tR K iS ["table"]) "table") (aeN (afr K (tR K 0 []) te "wider") (aen (tR K 0 ["shut","table"]) Q (tC .non)))) (agC K iS pe pj):=λus Fb Hb F H j G cs D D' W p L=>by
 obtain⟨p1,p2⟩:=p;obtain⟨tS,e1,e2,e3,cT,fT,eT⟩:=b'Z p1;obtain⟨t0,f1,f2,f3,p3⟩:=b'Z p2;obtain⟨d,fs,eg,A,hl,rfl,nw,p4⟩:=e'E p3;obtain⟨w,c,r1,sub,hc,rd,_⟩:=W.at e1 e2 ["table"] e3;rw[eT] at r1;obtain⟨tb,dxT,vsT,dsT,rfl,hT1,hT2⟩:=r1;obtain⟨w0,c0,r0,sub0,ο,δ,cl0⟩:=W.at f1 f2 [] f3;rw[eg] at r0;obtain⟨e,b,vs0,ds0,rfl,θ,rfl,rfl⟩:=r0;have J:H e=some (.ins d b []):=ο.h (e,.ins d b []) (by rw[θ];exact .head _);obtain⟨v0,l,ψ⟩:=δ (λv _=>v=.ref e) rfl;subst ψ;obtain⟨vS,τ,aS,CS,dxS,fsS,vt,rfl,hS,clS,naS,N,υ,_⟩:=rd (λv H'=>v=.ref tb/\H'=H) ⟨rfl,rfl⟩;subst υ;have β:aS≠e:=λz=>by
  subst z;rcases hS with q |⟨o,q⟩
  .rw[J] at q;cases q;cases N
  .rw[J] at q;cases q
 show tR K iS ["table"] j H λy s=>tR K 0 [] j s λx O=>∃a C U fs,x=.ref a/\O a=some (.ins C U fs)/\Cls K C/\NoAttr K C "table"/\fs.length<1000/\aeN (afr K (tR K 0 []) te "wider") (aen (tR K 0 ["shut","table"]) Q (tC .non)) D j (upd O a (.ins C U (adI "table" y fs)))
 refine rd _ (δ _ ?_);refine⟨e,d,b,[],rfl,J,A.1,A.2,by decide,?_⟩;obtain⟨ρ,W3⟩:=cl0 F H W (Le.refl _) e (.ins d b []) (.ins d b [("table",.ref tb)]) [] [] [] (.ins .o d [("table",.cl tb)]) [(e,.ins d b [("table",.ref tb)])] θ (List.Sublist.refl _) .nil b'S b'v (List.Perm.refl _) ⟨e,b,_,[],rfl,rfl,⟨.ref tb,[],[],[],rfl,rfl,⟨rfl,rfl⟩,rfl,rfl⟩⟩;have W3:Wld K k lo us Fb Hb F (upd H e (.ins d b [("table",.ref tb)])) j (G.set 0 (.ins .o d [("table",.cl tb)])) ρ:=W3;have l0:0<G.length:=(List.getElem?_eq_some_iff.mp f1).1;show aeN (afr K (tR K 0 []) te "wider") (aen (tR K 0 ["shut","table"]) Q (tC .non)) D j (upd H e (.ins d b [("table",.ref tb)]));show te j _ λy s=>tR K 0 [] j s λx O=>∃a C U fs,x=.ref a/\O a=some (.ins C U fs)/\Cls K C/\NoAttr K C "wider"/\fs.length<1000/\aen (tR K 0 ["shut","table"]) Q (tC .non) D j (upd O a (.ins C U (adI "wider" y fs)))
 refine h F (Bq Hb _) _ j _ _ _ W3.cxt (p4 tb) λt v F1 s c1 q o=>?_
 obtain⟨n,rfl,q⟩:=q;obtain⟨rfl,rfl⟩:=o.r;have W4:=W3.gr o.g;have ε:s e=some (.ins d b [("table",.ref tb)]):=o.g.h _ _ a'g;refine (show tR K 0 [] j s _ from ⟨.ref e,l,e,d,b,[("table",.ref tb)],rfl,ε,A.1,nw,by show 1<1000;decide,?_⟩);have χ:(G.set 0 (.ins .o d [("table",.cl tb)]))[0]?=some (.ins .o d [("table",.cl tb)]):=getElem?_set_self l0;obtain⟨w4,c4,r4,_,hc4,rd4,π⟩:=W4.at χ (λz=>by cases z) [] True.intro;obtain⟨v4,I,κ⟩:=rd4 (λv _=>v=w4) rfl;rw[l] at I;cases I;subst κ;obtain⟨a4,ξ,vs4,ds4,ea,Y,u4,r4',c4',d4',rfl,rfl,⟨rfl,rfl⟩,rfl,rfl⟩:=r4;cases ea;have hd:s e=some (.ins d ξ [("table",.ref tb)]):=hc4.h (e,_) (by rw[Y];exact .head _);rw[ε] at hd;cases hd;obtain⟨ω,W5⟩:=π F1 s W4 (Le.refl _) e _ (.ins d b [("table",.ref tb),("wider",.int n)]) [] [] [] (.ins .o d [("table",.cl tb),("wider",.int n)]) [(e,.ins d b [("table",.ref tb),("wider",.int n)])] Y (List.Sublist.refl _) .nil b'S b'v (List.Perm.refl _) ⟨e,b,_,[],rfl,rfl,⟨.ref tb,_,[],[],rfl,rfl,⟨rfl,rfl⟩,.int n,[],[],[],rfl,rfl,⟨rfl,rfl⟩,rfl,rfl⟩⟩;have W5:Wld K k lo us Fb Hb F1 (upd s e (.ins d b [("table",.ref tb),("wider",.int n)])) j (G.set 0 (.ins .o d [("table",.cl tb),("wider",.int n)])) ω:=by
  have z:=W5;rw[show aei (.ins .o d [("table",.cl tb)]) [] (.ins .o d [("table",.cl tb),("wider",.int n)])=.ins .o d [("table",.cl tb),("wider",.int n)] from rfl,List.set_set] at z;exact z
 have eH:adI "wider" (.int n) [(("table":Str),V.ref tb)]=[(("table":Str),V.ref tb),(("wider":Str),V.int n)]:=by
  show (if ("table":Str)="wider" then _ else _)=_;rw[if_neg (by decide +kernel)];rfl
 rw[eH];obtain⟨tS5,g1,g2,g3,q⟩:=b'Z q;obtain⟨m,σ,q⟩:=h'T q;obtain⟨w5,c5,r5,sub5,φ,rd5,cl5⟩:=W5.at g1 g2 ["shut","table"] g3;rw[σ] at r5;obtain⟨sh,B,dsh,rfl,η,ζ,ν⟩:=r5;have hsh:=φ.h (sh,.dK B) (by rw[η];exact .head _);obtain⟨vS5,E,aS5,CS5,dxS5,fsS5,vt5,rfl,γ,clS5,naS5,f,aT,CT,α,ι,vs5,rfl,hT5,clT,μ,lkT,ev5,_⟩:=rd5 (λv H'=>v=.ref sh/\H'=upd s e (.ins d b [("table",.ref tb),("wider",.int n)])) ⟨rfl,rfl⟩;subst ev5;rw[τ] at E;cases E;have on:∀u,H aS=some u->upd s e (.ins d b [("table",.ref tb),("wider",.int n)]) aS=some u:=λu z=>by
  rw[a'e β];exact o.g.h _ _ (by rw[a'e β];exact z)
 have et:aT=tb:=by
  rcases hS with z |⟨ob,z⟩
  .have z2:=on _ z;rcases γ with y |⟨ob2,y⟩
   .rw[z2] at y;cases y;rw[N] at f;cases f;rfl
   .rw[z2] at y;cases y
  .have z2:=on _ z;rcases γ with y |⟨ob2,y⟩
   .rw[z2] at y;cases y
   .rw[z2] at y;cases y;rw[N] at f;cases f;rfl
 subst et;show tR K 0 ["shut","table"] j _ λx O=>Q j O λy H3=>∃a H4,x=.ref a/\DPut H3 a y .non H4/\D.nx j H4
 refine⟨.ref e,l,e,d,b,[("table",.ref aT),("wider",.int n)],.ref aT,rfl,.inl a'g,A.1,A.2,by simp[List.lookup],aT,CT,α,ι,.ref sh,rfl,hT5,clT,μ,lkT,?_⟩;refine hj F1 (Bq Hb _) _ j _ _ _ W5.cxt q λy vy F3 H3 c3 q3 o3=>?_
 unfold aeK at q3;split at q3
 .rename_i yk ey;obtain rfl:=d'C o3.r ey;obtain⟨M,a1,a2⟩:=(ζ.mo o3.g.le (λ_=>Le.refl _) m).put (y:=yk) (t:=.non) (v:=.non) ⟨rfl,rfl⟩;obtain⟨cs',W6⟩:=cl5 F3 H3 (W5.gr o3.g) o3.g.le sh (.dK B) (.dK (adK B yk .non)) dsh M [] (.dic .o (ad8 m yk .non)) ((sh,.dK (adK B yk .non))::(M++[])) η a2 .nil b'S b'v (List.Perm.refl _) ⟨sh,_,M++[],rfl,rfl,by rw[append_nil];exact a1,g'D ν _ _⟩;exact⟨sh,_,rfl,DPut.k (o3.g.h _ _ hsh) (lt_of_lt_of_le (by rw[ζ.length];exact q3.1) (by decide)),L.nx F3 _ j _ cs' W6 q3.2⟩
 .exact q3.elim
theorem t'C{iS:Nat}(C:X.A.units+1<cLine)(m:PE X o (tR X.K 0 []))(p1:PE X o1 (tR X.K iS ["table"]))(p2:PE X o2 (tR X.K 0 []))(p3:PE X o3 (tR X.K 0 ["shut","table"]))(h:QE X k e pe)(s:QE X k j pj)(q:QB X k lo r pr)(hs:swapsWith o1 (some (.Attribute o "table" pos')) pos.line X.env=pure false:=by rfl)(b:swapsWith e (some (.Attribute o2 "wider" pos2')) pos2.line X.env=pure false:=by rfl)(a:swapsWith (.Constant .none kk pos4) (some (.Subscript o3 j pos3')) pos3.line X.env=pure false:=by rfl):
  QB X k lo (.Assign [.Attribute o "table" pos'] o1 pos::.Assign [.Attribute o2 "wider" pos2'] e pos2::.Assign [.Subscript o3 j pos3'] (.Constant .none kk pos4) pos3::r) (ahW (agC X.K iS pe pj) pr):=by
 obtain⟨c,g,x⟩:=h.h;obtain⟨f,n,u⟩:=s.h;obtain⟨tr,d,r2⟩:=q.h;refine⟨aeN (afr X.K (tR X.K 0 []) (tR X.K iS ["table"]) "table") (aeN (afr X.K (tR X.K 0 []) c "wider") (aeN (aen (tR X.K 0 ["shut","table"]) f (tC .non)) tr)),b'R (e'Z m p1 hs) (b'R (e'Z p2 g b) (b'R (j'q C p3 n l'O a) d)),λus l w F H y v z D B W p L=>?_⟩;exact j'D (p'U x u) r2 us l w F H y v z D B W p L
end
section
variable{K:W.Frag}{qual:Str}{st:Stmt}{ps:List Str}{f c E:Addr}
set_option genInjectivity false in
set_option genSizeOf false in
structure DfX(K:W.Frag)(c E:Addr)(qual:Str)(st:Stmt)(ps:List Str) where
 a:Addr
 d:FuncData
 F:Fun K "__init__" qual st a d
 b:Binds K d ps []
 t:ahA K c E a
noncomputable def dfX(F:FnIn K "__init__" qual st f)(x1:adU K c f=true)(x2:aeq K c E=true)(x3:W.findIn K (.ref c) "__setattr__"=some (some (.builtin "object.__setattr__")))(e:W.keepIn K (.ref c)=true)(d:W.isFn K (.ref f)=true)(b:W.readsIn K E (.type "type")=true)(h:W.specialIn K (.ref E) "__getattribute__"=some (some (.builtin "type.__getattribute__")))(g:W.findCls K (.ref E) (.type "type") "__init__"=some (.val (.builtin "ValueError.__init__")))(a:Bnd "__init__" qual st ps):DfX K c E qual st ps:=
 ⟨f,F.choose,F.choose_spec,F.choose_spec.binds a,⟨x1,x2,x3,e,d,b,h,g⟩⟩
end
theorem g'J:aer q C pa D' j=(pa (j.map lend) λa=>agB a (q (.ref C))):=rfl
theorem o'd(a:PA')(j:List Tr)(Q:List Tr->Bool->Prop):aiD a j Q=(a j λb=>ae9 b λi=>Q ((List.range (i+1).toNat).map λ(n:Nat)=>.int (i+n*(-1))) true):=rfl
theorem r'x(i j:Nat)(v:List Tr)(Q:Tr->Prop):pKN i j v Q=(∃(m:List (Key×Tr))(ns:List Int)(y:Int),v[i]?=some (.dic .f m)/\m.map (·.1)=ns.map (λn=>(Sum.inl n:Key))/\v[j]?=some (.int y)/\ns.length<=1000/\Q (.lst .o ((ns.filter λx=>!decide (x=y)).map Tr.int))):=rfl
theorem o'e(a:PA')(j:List Tr)(Q:List Tr->Bool->Prop):aiE a j Q=(a j λb=>agn b λt=>aeh (frz t) λxs=>Q (xs.mapIdx λi x=>.tup [.int ((i+1:Nat):Int),x]) (nlt (frz t))):=rfl
theorem o'f(i:Int)(Q:Int->Prop):ae9 [.int i,.int (-1),.int (-1)] Q=(-1<=i/\i<1000000/\Q i):=by
 unfold ae9;simp
theorem r'y:ah2 [.lst f xs] Q=(Cls' xs=true/\Q (.lst .o xs.reverse)):=rfl
section
def afC(x:Tr)(Q:Bool->Prop):Prop:=match x with |.dic .f m=>Q (!m.isEmpty) |_=>False
def agD(pe:PE'):PB':=λj Q=>pe j λx=>afC x Q
theorem p'V(hz:k.z=true)(h:Sim K k te pe):adY K k (λj H Q=>te j H λx d=>∃b,aic K x d b/\Q b d) (agD pe):=λF B H j y Q C c p q=>by
 refine h F B H j y _ _ c p λt v f l D p1 o=>?_
 unfold afC at p1;split at p1
 .rename_i m;obtain⟨_,a,vs,rfl,w,u,E⟩:=o.r;have A:=e'd ((c.gr o.g).z hz) w;refine⟨!vs.isEmpty,.inr (.inr ⟨vs,o.g.s _ _ A,rfl⟩),q _ f l ?_ o.g⟩;have e:=u.length;have n:vs.isEmpty=m.isEmpty:=by
   cases vs with
   |nil=>cases m with
    |nil=>rfl
    |cons _ _=>cases e
   |cons _ _=>cases m with
    |nil=>cases e
    |cons _ _=>rfl
  rw[n];exact p1
 .exact p1.elim
theorem v'G(hz:k.z=true)(h:QE X k e pe)(he:∀whole,isTrue e X.env whole=(do let v <- whole;standAt e.pos;holding [v] (truthy v)):=by intro _;rfl):QT X k e (agD pe):=by
 obtain⟨c,b,a⟩:=h.h;exact⟨_,o'C b he,p'V hz a⟩
theorem k'K(pe:PE')(j:List Tr)(Q:Bool->Prop):agD pe j Q=(pe j λx=>afC x Q):=rfl
theorem o'g(m:List (Key×Tr))(Q:Bool->Prop):afC (.dic .f m) Q=Q (!m.isEmpty):=rfl
theorem k'L(f:Fl)(m:List (Key×Tr))(Q:Tr->Prop):afx [.dic f m] Q=Q (.lst .o (m.map λp=>aea p.1)):=by cases f<;>rfl
end
section
variable{K:W.Frag}{qual:Str}{st:Stmt}{ps:List Str}{f c E:Addr}
theorem p'W{a:ClassData}(h:W.clsIn K c=some a)(b:a.mro=.ref c::.ref E::veM)(hd:a.hasDict=true):aeq K c E=true:=by
 unfold aeq;rw[h];show (a.mro == _&&a.hasDict)=true;rw[b,hd,beq_self_eq_true];rfl
theorem p'X(h:W.excIn K E veM "ValueError.__new__"=true):W.tailIn K veM (.ref E::veM)=true:=by
 unfold W.excIn at h;split at h
 case h_2=>cases h
 case h_1 ddc cdc slc hlook=>
  split at h
  case h_2=>cases h
  case h_1 Cc bmc k0 k1 k2 k3 nn k5 hmro hslots=>
   simp only[and_eq_true,beq_iff_eq,Bool.not_eq_true'] at h;obtain⟨⟨⟨⟨⟨g,d⟩,e⟩,j⟩,a⟩,b⟩:=h;unfold W.tailIn;refine Bool.or_eq_true_iff.mpr (.inr ?_);dsimp only;rw[hlook];dsimp only;rw[a,b,beq_self_eq_true,Bool.true_and,Bool.true_and];unfold W.tailIn veM;exact Bool.or_eq_true_iff.mpr (.inl (beq_self_eq_true _))
theorem o'h{o j:Obj}{dd:Option Addr}{g:ClassData}{m:Array (Option Value)}{k0 k1 k2 k3 k5:Option Value}{l:Array DictEntry}{n:Nat}(r:K.lookup c=some o)(w:o=⟨.type "type",dd,.cls g,m⟩)(s:g.mro=.ref c::.ref E::veM)(hs:m.toList=[k0,k1,k2,k3,some (.builtin "ValueError.__new__"),k5])(h:g.hasDel=false)(p:W.excIn K E veM "ValueError.__new__"=true)(q:K.lookup g.ns=some j)(hd:j.data=.dict l n)(u:(l.toList.all λe=>match e.key with |.str _ _=>true |_=>false)=true)(v:W.nsIn K g.ns "__init__"=some (some (.ref f))):adU K c f=true:=by
 have hok:W.nsOkIn K g.ns=true:=by
  unfold W.nsOkIn;rw[q];obtain⟨a,b,d,e⟩:=j;dsimp only at hd;subst hd;show (l.all _)=true;rw[<- Array.all_toList];exact u
 unfold adU;simp only[r,w,s,hs];rw[p'X p,hok,v,h,beq_self_eq_true,beq_self_eq_true,beq_self_eq_true];rfl
noncomputable def dfX1{d:ClassData}{o h:Obj}{dd:Option Addr}{a:ClassData}{g:Array (Option Value)}{k0 k1 k2 k3 k5:Option Value}{j:Array DictEntry}{n:Nat}(e:W.findIn K (.ref c) "__init__"=some (some (.ref f)))(F:FnIn K "__init__" qual st f)(p:K.lookup c=some o)(D:o=⟨.type "type",dd,.cls a,g⟩)(u:a.mro=.ref c::.ref E::veM)(hs:g.toList=[k0,k1,k2,k3,some (.builtin "ValueError.__new__"),k5])(b:a.hasDel=false)(l:W.excIn K E veM "ValueError.__new__"=true)(m:K.lookup a.ns=some h)(hd:h.data=.dict j n)(v:(j.toList.all λe=>match e.key with |.str _ _=>true |_=>false)=true)(z:W.nsIn K a.ns "__init__"=some (some (.ref f)))(r:W.clsIn K c=some d)(C:d.mro=.ref c::.ref E::veM)(s:d.hasDict=true)(x3:W.findIn K (.ref c) "__setattr__"=some (some (.builtin "object.__setattr__")))(w:W.keepIn K (.ref c)=true)(B:W.isFn K (.ref f)=true)(q:W.readsIn K E (.type "type")=true)(x:W.specialIn K (.ref E) "__getattribute__"=some (some (.builtin "type.__getattribute__")))(y:W.findCls K (.ref E) (.type "type") "__init__"=some (.val (.builtin "ValueError.__init__")))(A:Bnd "__init__" qual st ps):DfX K c E qual st ps:=
 dfX F (o'h p D u hs b l m hd v z) (p'W r C s) x3 w B q x y A
end
end Pu
namespace Pu
theorem r'z(f:j->y)(a:j)(l:List j):List.map f (a::l)=f a::List.map f l:=rfl
theorem r'A(f:j->y):List.map f []=[]:=rfl
end Pu
namespace Sf
open PySem L2 Vc Pu
local macro_rules | `(tactic| walk_at "z") => `(tactic| first | exact id | exact fun _ => rfl)
local macro_rules | `(tactic| walk_at "c") => `(tactic| exact ⟨rfl, rfl, rfl, by decide +kernel, rfl, by decide +kernel, by decide +kernel⟩)
local macro_rules | `(tactic| walk_at "u") => `(tactic| with_unfolding_all exact rfl)
local macro_rules | `(tactic| walk_at "k") => `(tactic| decide +kernel)
def inClass(s:Stmt)(j:Nat):Stmt:=match s with
 |.ClassDef _ _ _ a _ _ _ _ _ _ _=>a.getD j (.Pass ⟨0,0,0,0⟩)
 |_=>.Pass ⟨0,0,0,0⟩
def top(i:Nat):Stmt:=PySem.Challenge.pw_springframe_k45_too_many.main.body.getD i (.Pass ⟨0,0,0,0⟩)
abbrev af0:Stmt:=top 8
abbrev acK:Stmt:=top 9
abbrev af1:Stmt:=top 10
abbrev afa:Stmt:=top 11
abbrev afb:Stmt:=top 12
abbrev af2:Stmt:=top 13
abbrev afc:Stmt:=top 14
abbrev adB:Stmt:=top 20
abbrev ac3:Stmt:=top 22
abbrev ac4:Stmt:=top 23
abbrev ac5:Stmt:=top 26
abbrev adl:Stmt:=top 28
abbrev adm:Stmt:=top 29
abbrev aeA:Stmt:=top 30
abbrev adV:Stmt:=top 33
abbrev adC:Stmt:=top 34
abbrev ac6:Stmt:=top 35
abbrev aeB:Stmt:=top 36
abbrev af3:Stmt:=top 37
abbrev aeC:Stmt:=top 38
abbrev aed:Stmt:=top 42
abbrev adg:Stmt:=top 43
abbrev aeD:Stmt:=top 47
abbrev afd:Stmt:=top 49
abbrev adn:Stmt:=top 51
abbrev aee:Stmt:=top 52
abbrev aef:Stmt:=top 53
abbrev adD:Stmt:=top 54
abbrev adQ:Stmt:=top 55
abbrev adW:Stmt:=top 56
abbrev adE:Stmt:=top 57
abbrev ahC:Stmt:=top 58
abbrev acW:Stmt:=inClass (top 24) 0
abbrev acL:Stmt:=inClass (top 24) 1
abbrev ac7:Stmt:=inClass (top 24) 2
abbrev ac8:Stmt:=inClass (top 24) 3
abbrev acI:Stmt:=inClass (top 24) 7
abbrev adF:Stmt:=inClass (top 24) 8
abbrev acX:Stmt:=inClass (top 25) 0
abbrev ac9:Stmt:=inClass (top 25) 1
abbrev ado:Stmt:=inClass (top 25) 2
abbrev adp:Stmt:=inClass (top 25) 3
abbrev ada:Stmt:=inClass (top 25) 4
abbrev acM:Stmt:=inClass (top 25) 5
abbrev acQ:Stmt:=inClass (top 25) 6
abbrev adh:Stmt:=inClass (top 25) 7
abbrev adq:Stmt:=inClass (top 25) 9
abbrev adb:Stmt:=inClass (top 25) 10
abbrev adr:Stmt:=inClass (top 25) 11
abbrev acY:Stmt:=inClass (top 25) 12
abbrev adi:Stmt:=inClass (top 25) 13
abbrev ads:Stmt:=inClass (top 25) 14
abbrev adc:Stmt:=inClass (top 44) 0
abbrev acZ:Stmt:=inClass (top 5) 0
theorem aes:aci ["top","bottom","divisor"] ["top","bottom"] (ach af0):=by walk_at "c"
theorem acq:aci ["one","other","remainder"] ["one","other"] (ach acK):=by walk_at "c"
theorem t'D:aci ["one","other"] ["one","other"] (ach af1):=by walk_at "c"
theorem p'Y:aci ["one","other"] ["one","other"] (ach afa):=by walk_at "c"
theorem p'Z:aci ["one","other"] ["one","other"] (ach afb):=by walk_at "c"
theorem t'E:aci ["one","other"] ["one","other"] (ach af2):=by walk_at "c"
theorem q'a:aci ["one","other"] ["one","other"] (ach afc):=by walk_at "c"
theorem g'T:aci ["rows","unknowns"] ["rows","unknowns"] (ach adB):=by walk_at "c"
theorem acy:aci ["fractions","bottom","fraction"] ["fractions"] (ach ac3):=by walk_at "c"
theorem e'J:aci ["fractions","bottom"] ["fractions","bottom"] (ach ac4):=by walk_at "c"
theorem ac0:aci ["rows","unknowns","sheet"] ["rows","unknowns"] (ach ac5):=by walk_at "c"
theorem acs:aci ["rows","unknowns","numbers","sheet","missed","shown","number","price"] ["rows","unknowns","numbers"] (ach adl):=by walk_at "c"
theorem acv:aci ["rows","unknowns","numbers","clash","number","fewer"] ["rows","unknowns","numbers"] (ach adm):=by walk_at "c"
theorem adR:aci ["rows","unknowns","numbers","sheet","clash"] ["rows","unknowns","numbers"] (ach aeA):=by walk_at "c"
theorem j'g:aci ["unknowns"] ["unknowns"] (ach adV):=by walk_at "c"
theorem adt:aci ["sheet","unknowns","ranks"] ["sheet","unknowns"] (ach adC):=by walk_at "c"
theorem acB:aci ["rows","unknowns","sheet","costs"] ["rows","unknowns"] (ach ac6):=by walk_at "c"
theorem o'i:aci ["rows","unknowns"] ["rows","unknowns"] (ach aeB):=by walk_at "c"
theorem adj:aci ["rows","unknowns","sheet","settled","papers","place","goal","prices_and_shares"] ["rows","unknowns"] (ach af3):=by walk_at "c"
theorem adu:aci ["rows","unknowns","numbers","placings","number","others"] ["rows","unknowns","numbers"] (ach aeC):=by walk_at "c"
theorem l'A:aci ["growing","width"] ["growing","width"] (ach aed):=by walk_at "c"
theorem add:aci ["one","pace","parts"] ["one","pace"] (ach adg):=by walk_at "c"
theorem acJ:aci ["growing","unknowns","start","stop","rows","placing","walk","most","pieces","wider","to"] ["growing","unknowns","start","stop"] (ach aeD):=by walk_at "c"
theorem acT:aci ["rows","unknowns","one","musts","sheet","way","prices","number","price"] ["rows","unknowns","one"] (ach afd):=by walk_at "c"
theorem f'Z:aci ["_law_script","_law_k"] ["_law_script","_law_k"] (ach adn):=by walk_at "c"
theorem ady:aci ["_law_cell","_law_k","_law_number"] ["_law_cell","_law_k"] (ach aee):=by walk_at "c"
theorem acR:aci ["_law_cell","_law_musts","_law_kind","_law_number","_law_rank"] ["_law_cell","_law_musts"] (ach aef):=by walk_at "c"
theorem g'U:aci ["_law_one"] ["_law_one"] (ach adD):=by walk_at "c"
theorem i'G:aci ["_law_rows","_law_some","_law_which"] ["_law_rows","_law_some","_law_which"] (ach adQ):=by walk_at "c"
theorem acU:aci ["_law_rows","_law_some","_law_which","_law_word_here"] ["_law_rows","_law_some","_law_which"] (ach adW):=by walk_at "c"
theorem adv:aci ["_law_rows","_law_some","_law_which","e"] ["_law_rows","_law_some","_law_which"] (ach adE):=by walk_at "c"
theorem acN:aci ["_law_script","_law_first","_law_many","_law_rows","_law_some","_law_clash","_law_which","_law_handed","_law_word_here","_law_due"] ["_law_script"] (ach ahC):=by walk_at "c"
theorem e'o:aci ["self","lines","solved"] ["self","lines","solved"] (ach acW):=by walk_at "c"
theorem acl:aci ["self","costs","left","line","column","cost"] ["self","costs"] (ach acL):=by walk_at "c"
theorem acC:aci ["self","costs","column","line"] ["self","costs"] (ach ac7):=by walk_at "c"
theorem acD:aci ["self","costs","left","column"] ["self","costs"] (ach ac8):=by walk_at "c"
theorem acu:aci ["self","costs","mark","left","column"] ["self","costs","mark"] (ach acI):=by walk_at "c"
theorem g'V:aci ["self","column"] ["self","column"] (ach adF):=by walk_at "c"
theorem acm:aci ["self","rows","unknowns","lines","solved","number","one","line","upright"] ["self","rows","unknowns"] (ach acX):=by walk_at "c"
theorem e'K:aci ["self"] ["self"] (ach ac9):=by walk_at "c"
theorem g'a:aci ["self","number"] ["self","number"] (ach ado):=by walk_at "c"
theorem g'b:aci ["self","number"] ["self","number"] (ach adp):=by walk_at "c"
theorem acr:aci ["self","number","one","fractions","scale","entries","line"] ["self","number","one"] (ach ada):=by walk_at "c"
theorem acp:aci ["self","rank","costs","number","one","cost"] ["self","rank"] (ach acM):=by walk_at "c"
theorem acO:aci ["self","parts","costs"] ["self","parts"] (ach acQ):=by walk_at "c"
theorem act:aci ["self","costs","scale","numbers","column","fall","left"] ["self","costs"] (ach adh):=by walk_at "c"
theorem g'c:aci ["self","place"] ["self","place"] (ach adq):=by walk_at "c"
theorem acz:aci ["self","told","place","unknown"] ["self"] (ach adb):=by walk_at "c"
theorem acw:aci ["self","place","left","shares","ahead","share"] ["self","place"] (ach adr):=by walk_at "c"
theorem aco:aci ["self","left","ahead","share","column","mark","needed"] ["self","left","ahead"] (ach acY):=by walk_at "c"
theorem f'u:aci ["self","left"] ["self","left"] (ach adi):=by walk_at "c"
theorem acx:aci ["self","number","left","below","above","kind","scale"] ["self","number","left"] (ach ads):=by walk_at "c"
theorem acE:aci ["self","rows","paces","unknowns","sheet","costs"] ["self","rows","paces","unknowns"] (ach adc):=by walk_at "c"
theorem e'p:aci ["self","numbers","weights"] ["self","numbers","weights"] (ach acZ):=by walk_at "c"
set_option genInjectivity false in
set_option genSizeOf false in
structure Tx(w:World)(K:W.Frag)(mg:Str->Option Value) where
 {aaa:Addr}
 aab:mg "Table"=some (.ref aaa)
 aac:Cls K aaa
 aad:NoAttr K aaa "lines"
 aae:NoAttr K aaa "solved"
 aaf:NoAttr K aaa "bottom"
 aag:NoAttr K aaa "shut"
 {aah:Addr}
 aai:mg "Sheet"=some (.ref aah)
 aaj:Cls K aah
 aak:NoAttr K aah "rows"
 aal:NoAttr K aah "unknowns"
 aam:NoAttr K aah "scales"
 aan:NoAttr K aah "settled"
 aao:NoAttr K aah "table"
 {aap:Addr}
 aaq:mg "Walk"=some (.ref aap)
 aar:Cls K aap
 aas:NoAttr K aap "table"
 aat:NoAttr K aap "wider"
 aau:NoAttr K aap "unknowns"
 aav:NoAttr K aap "goals"
 aaw:DfG K mg "part" af0 ["top","bottom"]
 aax:DfG K mg "greatest_divisor" acK ["one","other"]
 aay:DfG K mg "plus" af1 ["one","other"]
 aaz:DfG K mg "minus" afa ["one","other"]
 aaA:DfG K mg "times" afb ["one","other"]
 aaB:DfG K mg "over" af2 ["one","other"]
 aaC:DfG K mg "under" afc ["one","other"]
 aaD:DfG K mg "check_many" adB ["rows","unknowns"]
 aaE:DfG K mg "common_bottom" ac3 ["fractions"]
 aaF:DfG K mg "whole_numbers" ac4 ["fractions","bottom"]
 aaG:DfG K mg "settled_musts" ac5 ["rows","unknowns"]
 aaH:DfG K mg "shown_clash" adl ["rows","unknowns","numbers"]
 aaI:DfG K mg "least_clash" adm ["rows","unknowns","numbers"]
 aaJ:DfG K mg "fitted" aeA ["rows","unknowns","numbers"]
 aaK:DfG K mg "goals_of" adV ["unknowns"]
 aaL:DfG K mg "goal_costs" adC ["sheet","unknowns"]
 aaM:DfG K mg "settled_sheet" ac6 ["rows","unknowns"]
 aaN:DfG K mg "placed" aeB ["rows","unknowns"]
 aaO:DfG K mg "laid" af3 ["rows","unknowns"]
 aaP:DfG K mg "spared" aeC ["rows","unknowns","numbers"]
 aaQ:DfG K mg "rows_at" aed ["growing","width"]
 aaR:DfG K mg "widening_row" adg ["one","pace"]
 aaS:DfG K mg "growth" aeD ["growing","unknowns","start","stop"]
 aaT:DfG K mg "least" afd ["rows","unknowns","one"]
 aaU:DfG K mg "_law_cell_at" adn ["_law_script","_law_k"]
 aaV:DfG K mg "_law_mix" aee ["_law_cell","_law_k"]
 aaW:DfG K mg "_law_row" aef ["_law_cell","_law_musts"]
 aaX:DfG K mg "_law_broken" adD ["_law_one"]
 aaY:DfG K mg "_law_asked" adQ ["_law_rows","_law_some","_law_which"]
 aaZ:DfG K mg "_law_word" adW ["_law_rows","_law_some","_law_which"]
 aa0:DfG K mg "_law_by_any" adE ["_law_rows","_law_some","_law_which"]
 aa1:DfG K mg "law" ahC ["_law_script"]
 aa2:DfI K aaa "Table.__init__" acW ["self","lines","solved"]
 aa3:DfM K aaa "costs_left" "Table.costs_left" acL ["self","costs"]
 aa4:DfM K aaa "go_down" "Table.go_down" ac7 ["self","costs"]
 aa5:DfM K aaa "falling" "Table.falling" ac8 ["self","costs"]
 aa6:DfM K aaa "shut_rising" "Table.shut_rising" acI ["self","costs","mark"]
 aa7:DfM K aaa "told" "Table.told" adF ["self","column"]
 aa8:DfI K aah "Sheet.__init__" acX ["self","rows","unknowns"]
 aa9:DfM K aah "columns" "Sheet.columns" ac9 ["self"]
 aba:DfM K aah "below" "Sheet.below" ado ["self","number"]
 abb:DfM K aah "above" "Sheet.above" adp ["self","number"]
 abc:DfM K aah "line_of" "Sheet.line_of" ada ["self","number","one"]
 abd:DfM K aah "rank_costs" "Sheet.rank_costs" acM ["self","rank"]
 abe:DfM K aah "sum_costs" "Sheet.sum_costs" acQ ["self","parts"]
 abf:DfM K aah "settle" "Sheet.settle" adh ["self","costs"]
 abg:DfM K aah "value" "Sheet.value" adq ["self","place"]
 abh:DfM K aah "placing" "Sheet.placing" adb ["self"]
 abi:DfM K aah "paper" "Sheet.paper" adr ["self","place"]
 abj:DfM K aah "share_of" "Sheet.share_of" acY ["self","left","ahead"]
 abk:DfM K aah "prices" "Sheet.prices" adi ["self","left"]
 abl:DfM K aah "price" "Sheet.price" ads ["self","number","left"]
 abm:DfI K aap "Walk.__init__" adc ["self","rows","paces","unknowns"]
 {abn:Addr}
 abo:mg "NOUGHT"=some (.ref abn)
 abp:Tup K abn (([0,1]:List Int).map V.int)
 {abq:Addr}
 abr:mg "ONE"=some (.ref abq)
 abt:Tup K abq (([1,1]:List Int).map V.int)
 {abu:Tok}
 abv:mg "WIDER"=some (.str "" abu)
 {abw:Tok}
 abx:mg "MUST"=some (.int (0) abw)
 {aby:Tok}
 abz:mg "MOST_RANK"=some (.int (4) aby)
 {abA:Tok}
 abB:mg "MOST_ROWS"=some (.int (16) abA)
 {abC:Tok}
 abD:mg "MOST_UNKNOWNS"=some (.int (8) abC)
 {abE:Tok}
 abF:mg "MOST_PIECES"=some (.int (40) abE)
 {abG:Addr}
 abH:mg "FrameError"=some (.ref abG)
 {abI:Addr}
 abJ:mg "TooMany"=some (.ref abI)
 abK:W.excIn K abI [.type "ValueError",.type "Exception",.type "BaseException",.type "object"] "ValueError.__new__"=true
 {abL:Addr}
 abM:mg "NoPaper"=some (.ref abL)
 {abN:Addr}
 abO:mg "Clash"=some (.ref abN)
 {abP:Addr}
 abQ:mg "NoPart"=some (.ref abP)
 abR:DfX K abN abG "Clash.__init__" acZ ["self","numbers","weights"]
 abS:W.findIn K (.ref abN) "numbers"=some none
 abT:W.findIn K (.ref abN) "weights"=some none
 abU:ExcK K abI
 abV:ExcK K abN
 abW:W.kitOne K (.ref abI) (.ref abI)=some true
 abX:W.kitOne K (.ref abI) (.type "ValueError")=some true
 abY:W.kitOne K (.ref abN) (.ref abI)=some false
 abZ:W.kitAny K (.ref abI) [.ref abN,.ref abL]=some false
 ab0:W.exmOne K (.ref abI) (.ref abG)=some true
 ab1:W.exmOne K (.ref abN) (.ref abG)=some true
 ab2:W.exmOne K (.ref abI) (.ref abI)=some true
 ab3:W.exmOne K (.ref abN) (.ref abI)=some false
 ab4:W.exmOne K (.ref abN) (.ref abN)=some true
 ab5:mg "abs"=none
 ab6:mg "len"=none
 ab7:mg "range"=none
 ab8:mg "isinstance"=none
 ab9:mg "dict"=none
 aca:mg "list"=none
 acb:mg "any"=none
 acd:mg "enumerate"=none
 ace:mg "zip"=none
 acf:mg "reversed"=none
 acg:mg "ValueError"=none
section
variable{P:Program}{w:World}{K:W.Frag}{mg:Str->Option Value}{base:Heap}
local macro_rules |`(tactic|walk_at"")=>do
 let a:=("k'K o'g g'J o'd r'x o'e o'f r'y r'u i'C n'X k'H r't n'Q k'C k'D i'x i'y k'E r'r r's i'z k'F i_l i_d v'y n'R b'g k'G n'S lendf frzf dnf nolf nltf v'g v'h v'i m'Z j'N n'a n'b v'j n'c q'E n'd j'O n'e j'P q'F n'f j'Q n'g j'R n'h v'k i'e j'S v'l i'f j'T q'G i'g g'G q'H q'I q'J q'K n'i n'j n'k j'U n'l j'V j'W q'L q'M q'N i'h i'i j'X j'Y f'R n'm j'Z k'a i'j n'n k'b f'S n'o k'c k'd f'T n'p f'U n'q k'e k'f f'V n'r k'g k'h k'i k'j k'k k'l k'm k'n k'o k'p n's k'q k'r q'O k's k't k'u k'v n't v'o k'w q'Z r'a r'k r'l r'm r'n r'o aeb Option.getD_some n'u q'P q'Q v'm q'R q'S q'T q'U q'V q'W q'X l'q n'H i's r'q k'x s_l s_f s_d n'G length_map r'p n'E n'F i'm i'n d'l i'o i'p b'H f'W f'q n'w n'x c'b n'y n'z f'p r'b w_lt v'p r'c r'd c'z r'e r'f r'g r'h n'A n'B b'M r'i r'j n'C n'D at0 at1 r'z r'A List.getElem?_cons_succ List.getElem?_cons_zero List.set_cons_zero List.set_cons_succ lends frzs dns nols nlts Bool.and_self if_true if_false true_and cons_append List.nil_append List.replicate Nat.reduceSub length_cons length_nil Nat.reduceAdd Nat.reduceLeDiff decide_true decide_false Bool.not_true Bool.not_false false_eq_true i'k i'l n'v q'Y q'A q'B e_l e_f e_d e_o e_t p'B f'O f'P c'P b'e q'C m'W m'X m'Y l'p i'b i'c d'a j'M Tr.int.injEq".splitOn " ").toArray.map λx=>Lean.mkIdent x.toName
 `(tactic|simp only[$[$a:ident],*])
local macro_rules |`(tactic|walk_at "q")=>do
 let a:=("k'K o'g g'J o'd r'x o'e o'f r'y r'u i'C n'X k'H r't n'Q k'C k'D i'x i'y k'E r'r r's i'z k'F i_l i_d v'y n'R b'g k'G n'S lendf frzf dnf nolf nltf v'g v'h v'i m'Z j'N n'a n'b v'j n'c q'E n'd j'O n'e j'P q'F n'f j'Q n'g j'R n'h i'e j'S v'l i'f j'T q'G i'g g'G q'H q'I q'J q'K n'i n'j n'k j'U n'l j'V j'W q'L q'M q'N i'h i'i j'X j'Y f'R n'm j'Z k'a i'j n'n k'b f'S n'o k'c k'd f'T n'p f'U n'q k'e k'f f'V n'r k'g k'h k'i k'j k'k k'l k'm k'n k'o k'p n's k'q k'r q'O k's k't k'u k'v n't v'o k'w q'Z r'a r'k r'l r'm r'n r'o aeb Option.getD_some n'u q'P q'Q v'm q'R q'S q'T q'U q'V q'W q'X l'q n'H i's r'q k'x s_l s_f s_d n'G length_map r'p n'E n'F i'm i'n d'l i'o i'p b'H f'W f'q n'w n'x c'b n'y n'z f'p r'b w_lt v'p r'c r'd c'z r'e r'f r'g r'h n'A n'B b'M r'i r'j n'C n'D at0 at1 r'z r'A List.getElem?_cons_succ List.getElem?_cons_zero List.set_cons_zero List.set_cons_succ lends frzs dns nols nlts Bool.and_self if_true if_false true_and cons_append List.nil_append List.replicate Nat.reduceSub length_cons length_nil Nat.reduceAdd Nat.reduceLeDiff decide_true decide_false Bool.not_true Bool.not_false false_eq_true i'k i'l n'v q'Y q'A q'B e_l e_f e_d e_o e_t p'B f'O f'P c'P b'e q'C m'W m'X m'Y l'p i'b i'c d'a j'M Tr.int.injEq".splitOn " ").toArray.map λx=>Lean.mkIdent x.toName
 `(tactic|simp only[$[$a:ident],*])
def lfl:Fl->Fl |.o=>.l true |.f=>.f |.l b=>.l b
def dfl:Fl->Fl |.o=>.o |.f=>.f |.l _=>.l false
instance:Enc (Option Int):=⟨λo=>match o with |none=>.non |some n=>.int n,λo=>by cases o<;>rfl,λo z=>by cases o<;>cases z⟩
def mT(m:List (Key×Option Int)):List (Key×Tr):=m.map λp=>(p.1,Enc.t p.2)
structure TbS where
 ls:List (List Int)
 so:List Int
 m:List (Key×Option Int)
structure ShS where
 rs:List ack
 us:List Str
 sc:List Int
 ss:List (List Rat)
 tb:TbS
def tbF(f:Fl)(S:TbS):List (Str×Tr):=[("lines",Enc.t S.ls),("solved",Enc.t S.so),("bottom",.int 1),("shut",.dic f (mT S.m))]
def tbT(T:Tx w K mg)(f:Fl)(S:TbS):Tr:=.ins f T.aaa (tbF f S)
def shF(T:Tx w K mg)(f:Fl)(S:ShS):List (Str×Tr):=[("rows",Enc.t S.rs),("unknowns",Enc.t S.us),("scales",.lst f (S.sc.map Enc.t)),("settled",.lst f (S.ss.map Enc.t)),("table",tbT T f S.tb)]
def shT(T:Tx w K mg)(f:Fl)(S:ShS):Tr:=.ins f T.aah (shF T f S)
def s4F(f:Fl)(rs:List ack)(us:List Str)(sc:List Int):List (Str×Tr):=[("rows",Enc.t rs),("unknowns",Enc.t us),("scales",.lst f (sc.map Enc.t)),("settled",.lst f [])]
def s4T(T:Tx w K mg)(f:Fl)(rs:List ack)(us:List Str)(sc:List Int):Tr:=.ins f T.aah (s4F f rs us sc)
def DTb(T:Tx w K mg)(C:Addr)(g:Nat):Prop:=C=T.aaa/\g=0
def DSh(T:Tx w K mg)(C:Addr)(g:Nat):Prop:=C=T.aah/\g=0
theorem r'B[Enc j](f:Fl)(xs:List j):lend (.lst f (xs.map Enc.t))=.lst (lfl f) (xs.map Enc.t):=by
 cases f with
 |f=>rfl
 |o=>show Tr.lst _ (lends _)=_;rw[p'B];rfl
 |l b=>rfl
theorem r'C[Enc j](f:Fl)(xs:List j):dn (.lst f (xs.map Enc.t))=.lst (dfl f) (xs.map Enc.t):=by
 cases f with
 |f=>show Tr.lst .f (dns _)=_;rw[f'P];rfl
 |o=>show Tr.lst .o (dns _)=_;rw[f'P];rfl
 |l b=>show Tr.lst (.l false) (dns _)=_;rw[f'P];rfl
theorem w'N(f:Fl):lend (.lst f [])=.lst (lfl f) []:=by cases f<;>rfl
theorem w'O(f:Fl):dn (.lst f [])=.lst (dfl f) []:=by cases f<;>rfl
theorem x'e(f:Fl)(m:List (Key×Option Int)):lend (.dic f (mT m))=.dic (lfl f) (mT m):=by
 cases f with
 |f=>rfl
 |o=>show Tr.dic _ (lendk _)=_;rw[show lendk (mT m)=mT m from (clok _ (a'E m)).l];rfl
 |l b=>rfl
theorem x'f(f:Fl)(m:List (Key×Option Int)):dn (.dic f (mT m))=.dic (dfl f) (mT m):=by
 have e:dnk (mT m)=mT m:=(clok _ (a'E m)).d;cases f with
 |f=>show Tr.dic .f (dnk _)=_;rw[e];rfl
 |o=>show Tr.dic .o (dnk _)=_;rw[e];rfl
 |l b=>show Tr.dic (.l false) (dnk _)=_;rw[e];rfl
theorem l'B(f:Fl)(c:Addr)(fs:List (Str×Tr))(h:f=.o\/lendf fs=fs):lend (.ins f c fs)=.ins (lfl f) c (lendf fs):=by
 rcases h with rfl |h
 .rfl
 .cases f with
  |o=>rfl
  |f=>show Tr.ins .f c fs=_;rw[h];rfl
  |l b=>show Tr.ins (.l b) c fs=_;rw[h];rfl
theorem l'C(f:Fl)(c:Addr)(fs:List (Str×Tr)):dn (.ins f c fs)=.ins (dfl f) c (dnf fs):=by cases f<;>rfl
theorem e'L(T:Tx w K mg)(f:Fl)(S:TbS):lend (tbT T f S)=tbT T (lfl f) S:=by
 have e:lendf (tbF f S)=tbF (lfl f) S:=by simp only[tbF,lendf,x'e,f'R,e_l]
 unfold tbT;rw[l'B _ _ _ ?_,e];cases f with
 |o=>exact .inl rfl
 |f=>exact .inr e
 |l b=>exact .inr e
theorem e'M(T:Tx w K mg)(f:Fl)(S:TbS):dn (tbT T f S)=tbT T (dfl f) S:=by
 unfold tbT tbF;rw[l'C];simp only[dnf,x'f,f'T,e_d]
theorem a'I(T:Tx w K mg)(f:Fl)(S:ShS):lend (shT T f S)=shT T (lfl f) S:=by
 have e:lendf (shF T f S)=shF T (lfl f) S:=by simp only[shF,lendf,r'B,e'L,e_l]
 unfold shT;rw[l'B _ _ _ ?_,e];cases f with
 |o=>exact .inl rfl
 |f=>exact .inr e
 |l b=>exact .inr e
theorem a'L(T:Tx w K mg)(f:Fl)(S:ShS):dn (shT T f S)=shT T (dfl f) S:=by
 unfold shT shF;rw[l'C];simp only[dnf,r'C,e'M,e_d]
theorem v'H(T:Tx w K mg)(f:Fl)(rs:List ack)(us:List Str)(sc:List Int):lend (s4T T f rs us sc)=s4T T (lfl f) rs us sc:=by
 have e:lendf (s4F f rs us sc)=s4F (lfl f) rs us sc:=by simp only[s4F,lendf,r'B,w'N,e_l]
 unfold s4T;rw[l'B _ _ _ ?_,e];cases f with
 |o=>exact .inl rfl
 |f=>exact .inr e
 |l b=>exact .inr e
theorem q'b(T:Tx w K mg)(f:Fl)(rs:List ack)(us:List Str)(sc:List Int):dn (s4T T f rs us sc)=s4T T (dfl f) rs us sc:=by
 unfold s4T s4F;rw[l'C];simp only[dnf,r'C,w'O,e_d]
theorem d'R(T:Tx w K mg)(f:Fl)(S:TbS)(Q:Tr->Prop):pV (some (tbT T f S)) Q=Q (tbT T f S):=rfl
theorem a'u(T:Tx w K mg)(f:Fl)(S:ShS)(Q:Tr->Prop):pV (some (shT T f S)) Q=Q (shT T f S):=rfl
theorem q'c(T:Tx w K mg)(f:Fl)(rs:List ack)(us:List Str)(sc:List Int)(Q:Tr->Prop):pV (some (s4T T f rs us sc)) Q=Q (s4T T f rs us sc):=rfl
theorem x'g(m:List (Key×Option Int)):nol (.dic .o (mT m))=true:=(clok _ (a'E m)).o
theorem f'v[Enc j](xs:List j):nol (.lst .o (xs.map Enc.t))=true:=c'P xs
theorem x'h(m:List (Key×Option Int)):nlt (.dic .o (mT m))=true:=(clok _ (a'E m)).t
theorem f'w[Enc j](xs:List j):nlt (.lst .o (xs.map Enc.t))=true:=b'e xs
theorem q'd(T:Tx w K mg)(S:TbS):nol (tbT T .o S)=true:=by
 unfold tbT tbF;rw[i_o];simp only[nolf,x'g,e_o,f'U,Bool.and_self]
theorem v'I(T:Tx w K mg)(S:TbS):nlt (tbT T .o S)=true:=by
 unfold tbT tbF;rw[i_t];simp only[nltf,x'h,e_t,f'V,Bool.and_self]
theorem d'S(T:Tx w K mg)(S:ShS):nol (shT T .o S)=true:=by
 unfold shT shF;rw[i_o];simp only[nolf,f'v,q'd,e_o,Bool.and_self]
theorem e'N(T:Tx w K mg)(S:ShS):nlt (shT T .o S)=true:=by
 unfold shT shF;rw[i_t];simp only[nltf,f'w,v'I,e_t,Bool.and_self]
theorem x'i(T:Tx w K mg)(rs:List ack)(us:List Str)(sc:List Int):nol (s4T T .o rs us sc)=true:=by
 unfold s4T s4F;rw[i_o];simp only[nolf,f'v,e_o,show nol (.lst .o [])=true from rfl,Bool.and_self]
section
variable(T:Tx w K mg){f:Fl}{S:ShS}{B:TbS}{Q:Tr->Prop}{rs:List ack}{us:List Str}{sc:List Int}
theorem q'e(q:Q (.lst .f (B.ls.map Enc.t))):aej K "lines" (tbT T f B) Q:=a'Q ⟨T.aac,T.aad⟩ lk0 q
theorem g'K(q:Q (.lst .f (B.so.map Enc.t))):aej K "solved" (tbT T f B) Q:=a'Q ⟨T.aac,T.aae⟩ (lkn lk0) q
theorem g'L(q:Q (.int 1)):aej K "bottom" (tbT T f B) Q:=a'Q ⟨T.aac,T.aaf⟩ (lkn (lkn lk0)) q
theorem k'M(q:Q (.dic f (mT B.m))):aej K "shut" (tbT T f B) Q:=a'Q ⟨T.aac,T.aag⟩ (lkn (lkn (lkn lk0))) q
theorem e'm(q:Q (.lst .f (S.rs.map Enc.t))):aej K "rows" (shT T f S) Q:=a'Q ⟨T.aaj,T.aak⟩ lk0 q
theorem e'w(q:Q (.lst .f (S.us.map Enc.t))):aej K "unknowns" (shT T f S) Q:=a'Q ⟨T.aaj,T.aal⟩ (lkn lk0) q
theorem g'M(q:Q (.lst f (S.sc.map Enc.t))):aej K "scales" (shT T f S) Q:=a'Q ⟨T.aaj,T.aam⟩ (lkn (lkn lk0)) q
theorem b'O(q:Q (.lst f (S.ss.map Enc.t))):aej K "settled" (shT T f S) Q:=a'Q ⟨T.aaj,T.aan⟩ (lkn (lkn (lkn lk0))) q
theorem d'm(q:Q (tbT T f S.tb)):aej K "table" (shT T f S) Q:=a'Q ⟨T.aaj,T.aao⟩ (lkn (lkn (lkn (lkn lk0)))) q
theorem t'F(q:Q (.lst .f (rs.map Enc.t))):aej K "rows" (s4T T f rs us sc) Q:=a'Q ⟨T.aaj,T.aak⟩ lk0 q
theorem j'h(q:Q (.lst .f (us.map Enc.t))):aej K "unknowns" (s4T T f rs us sc) Q:=a'Q ⟨T.aaj,T.aal⟩ (lkn lk0) q
theorem d'T{n:Str}{R:Nat->Prop}(q:R 0)(c:(n == ("lines":Str))=false:=by walk_at "k")(b:(n == ("solved":Str))=false:=by walk_at "k")(a:(n == ("bottom":Str))=false:=by walk_at "k")(d:(n == ("shut":Str))=false:=by walk_at "k"):aez (DTb T) n (tbT T f B) R:=i'B ⟨rfl,rfl⟩ (lkn (lkn (lkn (lkn lkz d) a) b) c) q
theorem a's{n:Str}{R:Nat->Prop}(q:R 0)(c:(n == ("rows":Str))=false:=by walk_at "k")(b:(n == ("unknowns":Str))=false:=by walk_at "k")(a:(n == ("scales":Str))=false:=by walk_at "k")(d:(n == ("settled":Str))=false:=by walk_at "k")(e:(n == ("table":Str))=false:=by walk_at "k"):aez (DSh T) n (shT T f S) R:=i'B ⟨rfl,rfl⟩ (lkn (lkn (lkn (lkn (lkn lkz e) d) a) b) c) q
theorem d'U{n:Str}{R:Nat->Prop}(q:R 0)(c:(n == ("rows":Str))=false:=by walk_at "k")(b:(n == ("unknowns":Str))=false:=by walk_at "k")(a:(n == ("scales":Str))=false:=by walk_at "k")(d:(n == ("settled":Str))=false:=by walk_at "k"):aez (DSh T) n (s4T T f rs us sc) R:=i'B ⟨rfl,rfl⟩ (lkn (lkn (lkn (lkn lkz d) a) b) c) q
end
theorem c'd{f g:Str}{v u:Tr}{r:List (Str×Tr)}(h:(g == f)=false:=by walk_at "k"):aex g u ((f,v)::r)=(f,v)::aex g u r:=by
 show (if f=g then _ else _)=_;rw[if_neg λz=>by rw[z,beq_self_eq_true] at h;cases h]
theorem d'V{f:Str}{v u:Tr}{r:List (Str×Tr)}:adO f u ((f,v)::r)=(f,u)::r:=by
 show (if f=f then _ else _)=_;rw[if_pos rfl]
theorem b'c{f g:Str}{v u:Tr}{r:List (Str×Tr)}(h:(g == f)=false:=by walk_at "k"):adO g u ((f,v)::r)=(f,v)::adO g u r:=by
 show (if f=g then _ else _)=_;rw[if_neg λz=>by rw[z,beq_self_eq_true] at h;cases h]
theorem o'j(S:TbS)(a:List (Key×Option Int)):adO "shut" (.dic .o (mT a)) (tbF .o S)=tbF .o { S with m:=a }:=by
 unfold tbF;rw[b'c,b'c,b'c,d'V]
theorem k'N(T:Tx w K mg)(S:ShS)(B:TbS):adO "table" (tbT T .o B) (shF T .o S)=shF T .o { S with tb:=B }:=by
 unfold shF;rw[b'c,b'c,b'c,b'c,d'V]
theorem t'G(T:Tx w K mg)(S:ShS)(a:List (List Rat)):adO "settled" (.lst .o (a.map Enc.t)) (shF T .o S)=shF T .o { S with ss:=a }:=by
 unfold shF;rw[b'c,b'c,b'c,d'V]
theorem v'J(rs:List ack)(us:List Str)(sc a:List Int):adO "scales" (.lst .o (a.map Enc.t)) (s4F .o rs us sc)=s4F .o rs us a:=by
 unfold s4F;rw[b'c,b'c,d'V]
theorem w'P(T:Tx w K mg)(S:ShS):Tr.ins (.l true) T.aah (lendf (shF T .o S))=shT T (.l true) S:=a'I T .o S
theorem b'U{f:Fl}[h:Fp f]:lfl f=f:=by cases h<;>rfl
theorem c'f{f:Fl}[h:Fp f]:dfl f=f:=by cases h<;>rfl
theorem o'k(m:List (Key×Option Int))(y:Key)(k:Option Int):ad8 (mT m) y (Enc.t k)=mT (if (m.any λp=>decide (p.1=y))=true then m.map (λp=>if p.1=y then (p.1,k) else p) else m++[(y,k)]):=by
 unfold ad8;have e:((mT m).any λa=>decide (a.1=y))=m.any λp=>decide (p.1=y):=by unfold mT;rw[List.any_map];rfl
 rw[e];split
 .unfold mT;rw[map_map,map_map];refine List.map_congr_left λp _=>?_
  show (if p.1=y then (p.1,Enc.t k) else (p.1,Enc.t p.2))=((if p.1=y then (p.1,k) else p).1,Enc.t (if p.1=y then (p.1,k) else p).2)
  split<;>rfl
 .unfold mT;rw[map_append];rfl
theorem b'Q(T:Tx w K mg){z:Bool}:FnOk P w K mg base CX0 1 T.aax.a T.aax.d ["one","other"] (spP K z 0 2 ajs):=by
 refine a'q T.aax.F acq rfl (by decide) λ_ _ _ _ _ _ g=>?_
 have r:=a'l g;refine⟨_,(a'c (l'm PassesOwn.never (a'k (c'N g.units) b't (qv 1) a'd (by walk_at "u")) (a'c (a'h (i:=2) acq.nd (by decide) rfl (Or.inl rfl) (b'i (qv 0) (qv 1)))
  (a'c (a'h (i:=0) acq.nd (by decide) rfl (Or.inl rfl) (qv 1))
  (a'f (a'h (i:=1) acq.nd (by decide) rfl (Or.inl rfl) (qv 2))))))
  (a'f (a'm (qv 0)))),?_⟩
 rintro p o _ ⟨_,a,b,rfl,h,l,q⟩;refine⟨λm j=>∃x y z,j=[.int x,.int y,z]/\0<=x/\0<=y/\gd x y=gd a b/\m=y.toNat,⟨_,a,b,.hole,rfl,h,l,rfl,rfl⟩,?_⟩;rintro m j ⟨x,y,z,rfl,f,n,e,rfl⟩;walk_at"";by_cases c:y=0
 .subst c;walk_at"";rw[<- e,s'd x f] at q;exact q _
 .rw[if_pos (by simp[c])];refine⟨by omega,?_⟩;refine⟨(x % y).toNat,?_,_,_,_,rfl,n,emod_nonneg _ c,?_,rfl⟩
  .have:=emod_lt_of_pos x (show 0<y by omega);have:=emod_nonneg x c;omega
  .rw[u'v f (by omega)];exact e
theorem b'V(T:Tx w K mg){z:Bool}:FnOk P w K mg base CX0 2 T.aaw.a T.aaw.d ["top","bottom"] (spP K z 0 2 ahr):=by
 refine a'q T.aaw.F aes rfl (by decide) λ_ _ _ _ _ _ f=>?_
 have n:=a'l f;refine⟨_,(a'c (a'C (a'k (b'b f.units) a'r (qv 1) a'd (by walk_at "u")) (a'f a'Z) a'p)
  (a'c (a'h (i:=2) aes.nd (by decide) rfl (Or.inl rfl) (a'j ((b'Q T).mono (by omega)) (by walk_at "z") (λ_ _ h=>h.1) f rfl T.aax.m T.aax.F.kp T.aax.b (QA.frz (a'a (a'U h'p j'E rfl T.ab5 rfl (a'a (qv 0) a'b)) (a'a (a'U h'p j'E rfl T.ab5 rfl (a'a (qv 1) a'b)) a'b)))))
  (a'c (a'C (a'k h'L d'D (qv 1) a'd (by walk_at "u")) (a'f (a'h (i:=2) aes.nd (by decide) rfl (Or.inl rfl) (b'L (qv 2)))) a'p)
  (a'f (a'm (a'O (a'a (b'W (qv 0) (qv 2)) (a'a (b'W (qv 1) (qv 2)) a'b)))))))),?_⟩
 rintro l g _ ⟨_,a,b,rfl,c,e,q⟩;walk_at"";rw[if_neg (by simp[c])];refine⟨rfl,_,_,rfl,by split<;>omega,by split<;>omega,λj=>?_⟩;rw[s'e];rw[w'F,<- o'R c,<- o'S c] at q;unfold dv at q;by_cases h:b<0
 .rw[if_pos h] at q;rw[if_pos (decide_eq_true h)];walk_at"";exact⟨i'd c e,i'd c e,q _⟩
 .rw[if_neg h] at q;rw[if_neg (by simp[h])];walk_at"";exact⟨j'L c e,j'L c e,q _⟩
theorem t'H(T:Tx w K mg){z:Bool}:FnOk P w K mg base CX0 3 T.aay.a T.aay.d ["one","other"] (spP K z 0 2 (afA (·+·))):=by
 refine a'q T.aay.F t'D rfl (by decide) λ_ _ _ _ _ _ e=>?_
 have c:=a'l e;refine⟨_,(a'f (a'm (a'j ((b'V T).mono (by omega)) (by walk_at "z") (λ_ _ h=>h.1) e rfl T.aaw.m T.aaw.F.kp T.aaw.b (QA.frz (a'a (a'H (a'y (a'i c (qv 0) a'd (λ_ _=>rfl)) (a'i c (qv 1) a'd (λ_ _=>rfl))) (a'y (a'i c (qv 1) a'd (λ_ _=>rfl)) (a'i c (qv 0) a'd (λ_ _=>rfl)))) (a'a (a'y (a'i c (qv 0) a'd (λ_ _=>rfl)) (a'i c (qv 1) a'd (λ_ _=>rfl))) a'b)))))),?_⟩;rintro l g _ ⟨_,a,b,rfl,f,q⟩;walk_at"";refine⟨b'q (b'l a) (a'K b) (by omega),b'q (b'l b) (a'K a) (by omega),b'q (a'K a) (a'K b) (by omega),rfl,_,_,rfl,c'T a b,f'Q a b f,λj=>?_⟩;rw[<- l'g];exact⟨e_o _,q _⟩
theorem c'A(T:Tx w K mg){z:Bool}:FnOk P w K mg base CX0 3 T.aaz.a T.aaz.d ["one","other"] (spP K z 0 2 (afA (· - ·))):=by
 refine a'q T.aaz.F p'Y rfl (by decide) λ_ _ _ _ _ _ e=>?_
 have c:=a'l e;refine⟨_,(a'f (a'm (a'j ((b'V T).mono (by omega)) (by walk_at "z") (λ_ _ h=>h.1) e rfl T.aaw.m T.aaw.F.kp T.aaw.b (QA.frz (a'a (h'd (a'y (a'i c (qv 0) a'd (λ_ _=>rfl)) (a'i c (qv 1) a'd (λ_ _=>rfl))) (a'y (a'i c (qv 1) a'd (λ_ _=>rfl)) (a'i c (qv 0) a'd (λ_ _=>rfl)))) (a'a (a'y (a'i c (qv 0) a'd (λ_ _=>rfl)) (a'i c (qv 1) a'd (λ_ _=>rfl))) a'b)))))),?_⟩;rintro l g _ ⟨_,a,b,rfl,f,q⟩;walk_at"";refine⟨b'q (b'l a) (a'K b) (by omega),b'q (b'l b) (a'K a) (by omega),b'q (a'K a) (a'K b) (by omega),rfl,_,_,rfl,c'T a b,f'Q a b f,λj=>?_⟩;rw[<- f'f];exact⟨e_o _,q _⟩
theorem d'n(T:Tx w K mg){z:Bool}:FnOk P w K mg base CX0 3 T.aaA.a T.aaA.d ["one","other"] (spP K z 0 2 (afA (·*·))):=by
 refine a'q T.aaA.F p'Z rfl (by decide) λ_ _ _ _ _ _ e=>?_
 have c:=a'l e;refine⟨_,(a'f (a'm (a'j ((b'V T).mono (by omega)) (by walk_at "z") (λ_ _ h=>h.1) e rfl T.aaw.m T.aaw.F.kp T.aaw.b (QA.frz (a'a (a'y (a'i c (qv 0) a'd (λ_ _=>rfl)) (a'i c (qv 1) a'd (λ_ _=>rfl))) (a'a (a'y (a'i c (qv 0) a'd (λ_ _=>rfl)) (a'i c (qv 1) a'd (λ_ _=>rfl))) a'b)))))),?_⟩;rintro l g _ ⟨_,a,b,rfl,f,q⟩;walk_at"";refine⟨b'q (b'l a) (b'l b) (by omega),b'q (a'K a) (a'K b) (by omega),rfl,_,_,rfl,c'T a b,f'Q a b f,λj=>?_⟩;rw[<- f'g];exact⟨e_o _,q _⟩
theorem i'H(T:Tx w K mg){z:Bool}:FnOk P w K mg base CX0 1 T.aaC.a T.aaC.d ["one","other"] (spP K z 0 2 agu):=by
 refine a'q T.aaC.F q'a rfl (by decide) λ_ _ _ _ _ _ e=>?_
 have c:=a'l e;refine⟨_,(a'f (a'm (c'j h'L d'D (a'y (a'i c (qv 0) a'd (λ_ _=>rfl)) (a'i c (qv 1) a'd (λ_ _=>rfl))) (a'y (a'i c (qv 1) a'd (λ_ _=>rfl)) (a'i c (qv 0) a'd (λ_ _=>rfl))) (by walk_at "u")))),?_⟩;rintro h g _ ⟨_,a,b,rfl,f,q⟩;walk_at"";refine⟨b'q (b'l a) (a'K b) (by omega),b'q (b'l b) (a'K a) (by omega),?_⟩;rw[decide_eq_decide.mpr (p'D a b)];exact q _
theorem f'x(a b:Rat):Rat.divInt (a.num*(b.den:Int)) ((a.den:Int)*b.num)=a / b:=by
 rw[<- Rat.divInt_mul_divInt,Rat.num_divInt_den,Rat.div_def,Rat.inv_def]
def ahD:PSp:=ade 2 λc Q=>∃a b:Rat,c=[Enc.t a,Enc.t b]/\b≠0/\bs a+bs b<=7990/\Q (Enc.t (a / b))
theorem k'O(T:Tx w K mg){z:Bool}:FnOk P w K mg base CX0 3 T.aaB.a T.aaB.d ["one","other"] (spP K z 0 2 ahD):=by
 refine a'q T.aaB.F t'E rfl (by decide) λ_ _ _ _ _ _ e=>?_
 have c:=a'l e;refine⟨_,(a'c (a'C (a'k (b'b e.units) a'r (a'i c (qv 1) a'd (λ_ _=>rfl)) a'd (by walk_at "u")) (a'f a'Z) a'p)
  (a'f (a'm (a'j ((b'V T).mono (by omega)) (by walk_at "z") (λ_ _ h=>h.1) e rfl T.aaw.m T.aaw.F.kp T.aaw.b (QA.frz (a'a (a'y (a'i c (qv 0) a'd (λ_ _=>rfl)) (a'i c (qv 1) a'd (λ_ _=>rfl))) (a'a (a'y (a'i c (qv 0) a'd (λ_ _=>rfl)) (a'i c (qv 1) a'd (λ_ _=>rfl))) a'b))))))),?_⟩
 rintro o n _ ⟨_,a,b,rfl,g,l,q⟩;have f:b.num≠0:=λz=>g (Rat.num_eq_zero.mp z)
 walk_at"";rw[if_neg (by simp[f])];refine⟨b'q (b'l a) (a'K b) (by omega),b'q (a'K a) (b'l b) (by omega),rfl,_,_,rfl,Int.mul_ne_zero (by have:=a.den_nz;omega) f,le_trans (f'i _ _) (by have:=a'K a;have:=b'l b;omega),λj=>?_⟩;rw[f'x];exact⟨e_o _,q _⟩
def ahE(T:Tx w K mg):adM:=λa Q q=>a.length=2/\∃(f g:Fl)(rs:List ack)(us:List Str)(_:Fp f)(_:Fp g),a=[.lst f (rs.map Enc.t),.lst g (us.map Enc.t)]/\(16<rs.length\/8<us.length->q (.ref T.abI))/\(rs.length<=16->us.length<=8->∀j,Q .non j)
theorem c'g(T:Tx w K mg){z:Bool}:FnOk P w K mg base (CX1 P w) 1 T.aaD.a T.aaD.d ["rows","unknowns"] (spX K z 0 2 (ahE T)):=by
 refine c'k T.aaD.F g'T rfl (by decide) λ_ _ _ _ _ _ q j=>?_
 have p:=a'l j;refine⟨_,(a'f (a'C (QW.t (h'e (a'k e'D c'w (a'U a'W a'z rfl T.ab6 rfl (a'a (qv 0) a'b)) (c'O rfl T.abB) (by walk_at "u")) (f'n (a'k e'D c'w (a'U a'W a'z rfl T.ab6 rfl (a'a (qv 1) a'b)) (c'O rfl T.abD) (by walk_at "u"))))) (a'f (t'j rfl rfl rfl rfl rfl rfl T.abJ PySem.F.excBase_ValueError T.abK a'G)) a'p)),?_⟩;rintro o m _ ⟨_,f,g,rs,us,_,_,rfl,b,e⟩;walk_at"";split
 .rename_i c;exact b (.inl (by have:=of_decide_eq_true c;omega))
 .rename_i c;have l:¬ (16:Int)<(rs.length:Int):=λh=>c (decide_eq_true h)
  split
  .rename_i c2;exact b (.inr (by have:=of_decide_eq_true c2;omega))
  .rename_i c2;have n:¬ (8:Int)<(us.length:Int):=λh=>c2 (decide_eq_true h)
   exact e (by omega) (by omega) _
theorem c'K{i j:Int}(h:i.natAbs<1000)(h':j.natAbs<1000):adX i j:=.inr ⟨10,by decide,by omega,by omega⟩
theorem k'P:CDivB 1 1:=⟨by decide,Nat.one_lt_two_pow (by decide)⟩
def whi(cs:List Rat):Prop:=cs.length<=100/\∀c∈cs,c.den=1/\c.num.natAbs<1000
def aiF:PSp:=ade 1 λb Q=>∃(f:Fl)(a:List Rat)(_:Fp f),b=[.lst f (a.map Enc.t)]/\whi a/\Q (.int 1)
theorem b'D(T:Tx w K mg){z:Bool}:FnOk P w K mg base CX0 2 T.aaE.a T.aaE.d ["fractions"] (spP K z 0 1 aiF):=by
 refine a'q T.aaE.F acy rfl (by decide) λ_ _ _ _ _ _ g=>?_
 have l:=a'l g;refine⟨_,(a'c (a'h (i:=1) acy.nd (by decide) rfl (Or.inl rfl) a'd)
  (a'c (b'j PassesOwn.never rfl (b'd (qv 0)) (a'R (i:=2) acy.nd (by decide) rfl (Or.inl rfl)) (a'f (a'h (i:=1) acy.nd (by decide) rfl (Or.inl rfl) (a'y (b'W (qv 1) (a'j ((b'Q T).mono (by omega)) (by walk_at "z") (λ_ _ h=>h.1) g rfl T.aax.m T.aax.F.kp T.aax.b (QA.frz (a'a (qv 1) (a'a (a'i l (qv 2) a'd (λ_ _=>rfl)) a'b))))) (a'i l (qv 2) a'd (λ_ _=>rfl))))))
  (a'f (a'm (qv 1))))),?_⟩
 rintro o n _ ⟨_,f,e,_,rfl,h,q⟩;walk_at"";refine Loop.map e Enc.t (λ_ j=>∃y,j=[.lst f (e.map Enc.t),.int 1,y]) ⟨_,rfl⟩ ?_ ?_
 .rintro i c j hc ⟨y,rfl⟩;have m:=mem_of_getElem? hc;walk_at"";rw[(h.2 c m).1];refine⟨rfl,1,1,rfl,by decide,by decide,λ_=>?_⟩;rw[show gd 1 1=1 from by walk_at "k"];walk_at"";exact⟨k'P,.inl (.inl (by decide)),_,rfl⟩
 .rintro j ⟨y,rfl⟩;walk_at"";exact q _
def agE:PSp:=ade 2 λb Q=>∃(f:Fl)(a:List Rat)(_:Fp f),b=[.lst f (a.map Enc.t),.int 1]/\whi a/\Q (.lst .o ((a.map Rat.num).map Enc.t))
theorem b'E(T:Tx w K mg){z:Bool}:FnOk P w K mg base CX0 1 T.aaF.a T.aaF.d ["fractions","bottom"] (spP K z 0 2 agE):=by
 refine a'q T.aaF.F e'J rfl (by decide) λ_ _ _ _ _ _ g=>?_
 have b:=a'l g;refine⟨_,(a'f (a'm (a'P (N:=["fraction","bottom"]) (ix:=[none,some 1]) rfl (b'd (qv 0)) (a'D (i:=0) (by decide) rfl) (λ_ _ _ _ _=>a'v) (λ_ _ _ _ _=>(a'y (a'i b (qv 0) a'd (λ_ _=>rfl)) (b'W (qv 1) (a'i b (qv 0) a'd (λ_ _=>rfl))))) ⟨rfl,rfl,rfl,True.intro⟩))),?_⟩;rintro n l _ ⟨_,f,e,_,rfl,h,q⟩;walk_at"";refine CLoop.map e _ Rat.num (by have:=h.1;omega) (λc m R j=>?_) ⟨f'v _,q _⟩;walk_at"";rw[(h.2 c m).1];refine⟨k'P,c'K (h.2 c m).2 (by decide),?_⟩;rw[show Int.fdiv 1 ((1:Nat):Int)=1 from rfl,Int.mul_one];exact j
theorem k'Q[Enc j](h:y->List j):∀vs:List y,frzs (vs.map λv=>.lst .o ((h v).map Enc.t))=(vs.map h).map Enc.t
 |[]=>rfl
 |v::vs=>by
  show Pu.frz (.lst .o ((h v).map Enc.t))::frzs (vs.map λv=>.lst .o ((h v).map Enc.t))=Enc.t (h v)::(vs.map h).map Enc.t;rw[k'Q h vs];show Tr.lst .f (frzs _)::_=_;rw[f'O];rfl
theorem k'R[Enc j](h:y->List j):∀vs:List y,nlts (vs.map λv=>.lst .o ((h v).map Enc.t))=true
 |[]=>rfl
 |v::vs=>by
  show (nlt (.lst .o ((h v).map Enc.t))&&nlts (vs.map λv=>.lst .o ((h v).map Enc.t)))=true;rw[k'R h vs,f'w];rfl
def aiG(T:Tx w K mg):PSp:=λa Q=>a.length=3/\∃(f g:Fl)(ls:List (List Int))(so:List Int)(_:Fp f)(_:Fp g),a=[.ins .o T.aaa [],.lst f (ls.map Enc.t),.lst g (so.map Enc.t)]/\ls.length<=100/\∀j:List Tr,j[0]?=some (tbT T .o ⟨ls,so,[]⟩)->Q .non j
theorem e'q(T:Tx w K mg){z:Bool}:FnOk P w K mg base CX0 1 T.aa2.a T.aa2.d ["self","lines","solved"] (spP K z 1 3 (aiG T)):=by
 refine a'q T.aa2.F e'o rfl (by decide) λ_ _ _ _ _ _ c=>?_
 have n:=a'l c;refine⟨_,(a'c (e'l (a't 0) (a'P (N:=["line"]) (ix:=[none]) rfl (b'd (qv 1)) (a'D (i:=0) (by decide) rfl) (λ_ _ _ _ _=>a'v) (λ_ _ _ _ _=>(b'n (b'm rfl) a'M rfl T.aca rfl (a'a (qv 0) a'b))) True.intro))
  (a'c (e'l (a't 0) (b'n (b'm rfl) a'M rfl T.aca rfl (a'a (qv 2) a'b)))
  (a'c (c'y (a't 0) a'd)
  (a'f (c'y (a't 0) d'H))))),?_⟩
 rintro h e _ ⟨_,f,g,ls,so,_,_,rfl,j,q⟩;walk_at"";refine CLoop.mapT ls _ (λl=>.lst .o (l.map Enc.t)) (by omega) (λl m R b=>?_) ?_
 .walk_at"";exact b
 rw[show Pu.frz (.lst .o (ls.map λl=>.lst .o (l.map Enc.t)))=.lst .f (frzs (ls.map λl=>.lst .o (l.map Enc.t))) from rfl,k'Q (λl=>l),List.map_id'];refine⟨k'R (λl=>l) ls,⟨T.aac,T.aad⟩,by decide,⟨T.aac,T.aae⟩,by decide,⟨T.aac,T.aaf⟩,by (repeat first |rw[b'g] |rw[c'd]);exact (by decide:2<900),rfl,⟨T.aac,T.aag⟩,by (repeat first |rw[b'g] |rw[c'd]);exact (by decide:3<900),q _ ?_⟩
 (repeat first |rw[b'g] |rw[c'd])
 rfl
def adz(ns:List Int)(l:List Int)(p:List Int×Int):List Int:=if ns.getD p.2.toNat 0=0 then l else List.zipWith (λa b=>a - ns.getD p.2.toNat 0*b) l p.1
def lft(B:TbS)(ns:List Int):List Int:=(B.ls.zip B.so).foldl (adz ns) (ns++[0])
def afn(ns:List Int):Prop:=ns.length<=100/\∀c∈ns,0<=c/\c<=1
def aiH(C:Nat)(B:TbS):Prop:=∀p∈B.ls.zip B.so,p.1.length<=100/\(∀v∈p.1,v.natAbs<1000)/\∃s:Nat,p.2=s/\s<C
def afe(T:Tx w K mg):PSp:=ade 2 λa Q=>∃(f g:Fl)(B:TbS)(ns:List Int)(_:Fp f)(_:Fp g),a=[tbT T f B,.lst g (ns.map Enc.t)]/\afn ns/\aiH ns.length B/\Q (Enc.t (lft B ns))
theorem v'K{j y v:Type}(f:j->y->v)(a:List j)(b:List y):(List.zipWith f a b).length<=a.length:=by rw[List.length_zipWith];omega
theorem g'd(ns:List Int):∀(a:List (List Int×Int))(l:List Int),(a.foldl (adz ns) l).length<=l.length
 |[],l=>le_refl _
 |p::a,l=>by
  refine le_trans (g'd ns a _) ?_;unfold adz;split
  .exact le_refl _
  .exact v'K _ _ _
theorem atN{xs:List j}{s:Nat}{x:j}(h:xs[s]?=some x):atI xs (s:Int)=some x:=by
 obtain⟨a,e⟩:=List.getElem?_eq_some_iff.mp h;rw[i'q xs (by omega) (by simpa using a)];simp[e]
theorem a'w[Enc j](xs:List j):Pu.frz (.lst .o (xs.map Enc.t))=Enc.t xs:=by show Tr.lst .f (frzs _)=_;rw[f'O];rfl
theorem d'x(T:Tx w K mg){z:Bool}:FnOk P w K mg base CX0 1 T.aa3.a T.aa3.d ["self","costs"] (spP K z 0 2 (afe T)):=by
 refine a'q T.aa3.F acl rfl (by decide) λ_ _ _ _ _ _ D=>?_
 have Q:=a'l D;refine⟨_,(a'c (a'h (i:=2) acl.nd (by decide) rfl (Or.inl rfl) (a'H (a'P (N:=["cost","self"]) (ix:=[none,some 0]) rfl (b'd (qv 1)) (a'D (i:=0) (by decide) rfl) (λ_ _ _ _ _=>a'v) (λ_ _ _ _ _=>(a'y (qv 0) (a'o K rfl (qv 1)))) ⟨rfl,rfl,rfl,True.intro⟩) (a'T (a'a a'd a'b))))
  (a'c (b'j PassesOwn.never rfl (h'Z rfl T.ace (a'a (a'o K rfl (qv 0)) (a'a (a'o K rfl (qv 0)) a'b))) (d'J (n:=2) rfl (a'B (a'R (i:=3) acl.nd (by decide) rfl (Or.inl rfl)) (a'B (a'R (i:=4) acl.nd (by decide) rfl (Or.inl rfl)) b'F))) (a'c (a'h (i:=5) acl.nd (by decide) rfl (Or.inr rfl) (a'i Q (qv 1) (qv 4) (λ_ _=>rfl)))
  (a'f (a'C (a'k (c'N D.units) b't (qv 5) a'd (by walk_at "u")) (a'f (b'G (i:=2) (N:=["one","other","cost"]) (ix:=[none,none,some 5]) acl.nd (by decide) rfl (Or.inl rfl) rfl (h'Z rfl T.ace (a'a (qv 2) (a'a (qv 3) a'b))) (f'M (n:=2) rfl (a'S (a'D (i:=0) (by decide) rfl) (a'S (a'D (i:=1) (by decide) rfl) c'r))) (λ_ _ _ _ _=>a'v) (λ_ _ _ _ _=>(h'd (qv 0) (a'y (qv 2) (qv 1)))) ⟨rfl,rfl,rfl,True.intro⟩)) a'p))))
  (a'f (a'm (qv 2))))),?_⟩
 rintro U Y _ ⟨_,f,g,B,ns,_,_,rfl,h,M,q⟩;walk_at"";simp only[e'L,b'U,d'R];refine CLoop.map ns _ id (by have:=h.1;omega) (λc O R A=>?_) ?_
 .walk_at"";simp only[d'R];refine g'L T ?_;walk_at"";rw[Int.mul_one];exact⟨c'K (by have:=h.2 c O;omega) (by decide),A⟩
 rw[List.map_id];walk_at"";refine⟨by have:=h.1;omega,q'e T (g'K T ?_)⟩;walk_at"";refine Loop.map (B.ls.zip B.so) _ (λi j=>∃y z u,j=[tbT T f B,.lst g (ns.map Enc.t),Enc.t (((B.ls.zip B.so).take i).foldl (adz ns) (ns++[0])),y,z,u]) ⟨_,_,_,rfl⟩ ?_ ?_
 .rintro i ⟨l,c⟩ j hi ⟨y,z,u,rfl⟩;obtain⟨G,C,s,e,I⟩:=M _ (mem_of_getElem? hi);dsimp only at e G C;subst e;obtain⟨v,x⟩:∃v,ns[s]?=some v:=⟨_,getElem?_eq_getElem I⟩;have E:=h.2 v (mem_of_getElem? x);have gd:ns.getD ((s:Int)).toNat 0=v:=by rw[toNat_natCast,getD_eq_getElem?_getD,x];rfl
  have J:((B.ls.zip B.so).take (i+1)).foldl (adz ns) (ns++[0])=adz ns (((B.ls.zip B.so).take i).foldl (adz ns) (ns++[0])) (l,(s:Int)):=by
   rw[take_add_one,hi,List.foldl_append];rfl
  have o:=g'd ns ((B.ls.zip B.so).take i) (ns++[0]);rw[length_append] at o;rw[J];generalize ((B.ls.zip B.so).take i).foldl (adz ns) (ns++[0])=L at o ⊢;have H:adz ns L (l,(s:Int))=if v=0 then L else List.zipWith (λa b=>a - v*b) L l:=by unfold adz;dsimp only;rw[gd]
  rw[H];walk_at"";refine a'X _ _ v (atN x) ?_;walk_at"";by_cases r:v=0
  .rw[if_pos r,if_neg (by simp[r])];exact⟨_,_,_,rfl⟩
  .rw[if_neg r,if_pos (by simp[r])];rw[b'p,b'p,b'M,b'M,d'a];refine CLoop.map (L.zip l) _ (λp=>p.1 - v*p.2) (by rw[length_zip];omega) (λp m R A=>?_) ?_
   .walk_at"";exact⟨c'K (by omega) (C _ (of_mem_zip m).2),A⟩
   .have e3:(L.zip l).map (λp=>p.1 - v*p.2)=List.zipWith (λa b=>a - v*b) L l:=by rw[List.zip_eq_zipWith,List.map_zipWith]
    rw[e3,a'w];exact⟨f'w _,_,_,_,rfl⟩
 .rintro j ⟨y,z,u,rfl⟩;walk_at"";rw[take_length];exact q _
def LnC(C:Nat)(l:List Int)(s:Nat):Prop:=l.length=C+1/\s<C/\(∀j v,j<C->l[j]?=some v->-1<=v/\v<=1/\(j≠s->v<=0))/\∃e,l[C]?=some e/\0<=e/\e<=3
structure TbG(C:Nat)(B:TbS):Prop where
 ln:B.ls.length<=16
 eq:B.so.length=B.ls.length
 sn:∃sn:List Nat,B.so=sn.map Int.ofNat/\sn.Nodup/\∀(i:Nat)(l:List Int)(s:Nat),B.ls[i]?=some l->sn[i]?=some s->LnC C l s
 c:C<=60
def tot(ns:List Int):List (List Int×Nat)->Int
 |[]=>0
 |p::ps=>ns.getD p.2 0 * p.1.getD (p.1.length - 1) 0 + tot ns ps
structure Lf(C:Nat)(ns:List Int)(n:Nat)(done:List Nat)(l:List Int)(t:Int):Prop where
 len:l.length=C+1
 lo:∀j v,j<C->l[j]?=some v->0<=v/\v<=1+n/\(j ∉ done->ns.getD j 0<=v)
 en:l[C]?=some t
theorem Lf.step{C:Nat}{ns l ln:List Int}{n s:Nat}{done:List Nat}{t:Int}(h:Lf C ns n done l t)(p:afn ns)(A:LnC C ln s)(hs:s ∉ done):Lf C ns (n+1) (s::done) (adz ns l (ln,(s:Int))) (t - ns.getD s 0*ln.getD (ln.length - 1) 0):=by
 obtain⟨q,G,x,e,u,E,H⟩:=A;have B:0<=ns.getD s 0/\ns.getD s 0<=1:=by
  rw[getD_eq_getElem?_getD];cases z:ns[s]? with
  |none=>exact⟨Int.le_refl 0,by decide⟩
  |some v=>exact p.2 v (mem_of_getElem? z)
 have le:ln.getD (ln.length - 1) 0=e:=by rw[q,getD_eq_getElem?_getD,show C+1 - 1=C from rfl,u];rfl
 rw[le];unfold adz;dsimp only;rw[toNat_natCast];have nd:∀j v,j<C->l[j]?=some v->j≠s->(j ∉ s::done->ns.getD j 0<=v)/\0<=v/\v<=1+n:=λj v d e _=>⟨λm=>(h.lo j v d e).2.2 λz=>m (.tail _ z),(h.lo j v d e).1,(h.lo j v d e).2.1⟩
 by_cases o:ns.getD s 0=0
 .rw[if_pos o,o];refine⟨h.len,λj v d e=>?_,by rw[zero_mul,Int.sub_zero];exact h.en⟩;have:=h.lo j v d e;refine⟨this.1,by omega,λm=>this.2.2 λz=>m (.tail _ z)⟩
 .rw[if_neg o];have g:ns.getD s 0=1:=by omega
  rw[g];have f:(List.zipWith (λa b=>a - 1*b) l ln).length=C+1:=by rw[List.length_zipWith,h.len,q,Nat.min_self]
  refine⟨f,λj v d e=>?_,?_⟩
  .rw[List.getElem?_zipWith] at e;cases z:l[j]? with
   |none=>rw[z] at e;cases e
   |some a=>
    cases y:ln[j]? with
    |none=>rw[z,y] at e;cases e
    |some b=>
     rw[z,y] at e;cases e;have r:=h.lo j a d z;have D:=x j b d y;by_cases c:j=s
     .have h3:=r.2.2 (by rw[c];exact hs);rw[c,g] at h3;exact⟨by omega,by omega,λm=>absurd (by rw[c];exact .head _) m⟩
     .have h4:=D.2.2 c;refine⟨by omega,by omega,λm=>?_⟩;have:=r.2.2 λz=>m (.tail _ z)
      omega
  .rw[List.getElem?_zipWith,h.en,u]
theorem k'S{C:Nat}{ns:List Int}(b:afn ns):∀(a:List (List Int×Nat))(l:List Int)(n:Nat)(done:List Nat)(t:Int),Lf C ns n done l t->(∀p∈a,LnC C p.1 p.2)->(a.map (·.2)).Nodup->(∀p∈a,p.2 ∉ done)->
  ∃d',Lf C ns (n+a.length) d' ((a.map λp=>(p.1,(p.2:Int))).foldl (adz ns) l) (t - tot ns a)
 |[],l,n,done,t,h,_,_,_=>⟨done,by rw[show tot ns []=0 from rfl,Int.sub_zero];exact h⟩
 |p::a,l,n,done,t,h,hl,hn,hd=>by
  rw[map_cons,nodup_cons] at hn;obtain⟨d',c⟩:=k'S b a _ (n+1) (p.2::done) _ (h.step b (hl p (.head _)) (hd p (.head _))) (λq m=>hl q (.tail _ m)) hn.2 λq m z=>by
   rcases mem_cons.mp z with z |z
   .exact hn.1 (mem_map.mpr ⟨q,m,z⟩)
   .exact hd q (.tail _ m) z
  refine⟨d',?_⟩;rw[length_cons,show n+(a.length+1)=n+1+a.length by omega,show t - tot ns (p::a)=t - ns.getD p.2 0*p.1.getD (p.1.length - 1) 0 - tot ns a from by show t - (_+tot ns a)=_;omega];exact c
theorem TbG.left{C:Nat}{B:TbS}(g:TbG C B){ns:List Int}(f:afn ns)(o:ns.length=C):aiH C B/\∃sn:List Nat,B.so=sn.map Int.ofNat/\∃d,Lf C ns B.ls.length d (lft B ns) (- tot ns (B.ls.zip sn)):=by
 obtain⟨sn,e,nd,y⟩:=g.sn;have a:sn.length=B.ls.length:=by have:=g.eq;rw[e,length_map] at this;exact this
 have s:B.ls.zip B.so=(B.ls.zip sn).map λp=>(p.1,(p.2:Int)):=by rw[e,List.zip_map_right];rfl
 have r:∀p∈B.ls.zip sn,LnC C p.1 p.2:=λp m=>by
  obtain⟨i,n⟩:=getElem?_of_mem m;rw[List.getElem?_zip_eq_some] at n;exact y i _ _ n.1 n.2
 refine⟨λp m=>?_,sn,e,?_⟩
 .rw[s] at m;obtain⟨q,G,rfl⟩:=mem_map.mp m;obtain⟨I,H,D,x,E,L,J⟩:=r q G;refine⟨by have:=g.c;dsimp only;omega,λv A=>?_,q.2,rfl,H⟩;obtain⟨j,b⟩:=getElem?_of_mem (show v∈q.1 from A);have u:=(List.getElem?_eq_some_iff.mp b).1;by_cases l:j<C
  .have:=D j v l b;omega
  .have ej:j=C:=by omega
   rw[ej,E] at b;cases b;omega
 .have h0:Lf C ns 0 [] (ns++[0]) 0:=⟨by rw[length_append,o];rfl,λj v b e=>by
   rw[getElem?_append_left (by omega)] at e;have:=f.2 v (mem_of_getElem? e);refine⟨this.1,by omega,λ_=>?_⟩;rw[getD_eq_getElem?_getD,e];exact Int.le_refl v,by rw[getElem?_append_right (by omega),o,sub_self];rfl⟩
  obtain⟨d,h⟩:=k'S f (B.ls.zip sn) (ns++[0]) 0 [] 0 h0 r (by rw[List.map_snd_zip (by omega)];exact nd) λ_ _ z=>nomatch z
  refine⟨d,?_⟩;unfold lft;rw[s];rw[Nat.zero_add,Int.zero_sub,length_zip,a,Nat.min_self] at h;exact h
theorem e'O{n i j:Nat}(h:(List.range n)[i]?=some j):j<n/\i=j:=by
 obtain⟨a,b⟩:=List.getElem?_eq_some_iff.mp h;rw[List.getElem_range] at b;rw[length_range] at a;omega
theorem d'u(T:Tx w K mg){z:Bool}:∀C g,DTb T C g->MOkA P w K mg base CX0 1 "costs_left" C ["self","costs"] (spP K z 0 2 (afe T)):=λC g h=>by
 obtain⟨rfl,rfl⟩:=h;exact⟨T.aac,_,_,T.aa3.t,d'x T,T.aa3.b⟩
theorem g'N(T:Tx w K mg){a f g:Fl}{B:TbS}{ns:List Int}[Fp f][Fp g]{Q:Tr->Prop}(h:afn ns)(b:aiH ns.length B)(q:Q (Enc.t (lft B ns))):aez (DTb T) "costs_left" (tbT T a B) λ_=>afe T [tbT T f B,.lst g (ns.map Enc.t)] λt _=>Q t:=d'T T ⟨rfl,f,g,B,ns,‹_›,‹_›,rfl,h,b,λ_=>q⟩
theorem TbG.at{C:Nat}{B:TbS}(g:TbG C B){ns:List Int}(a:afn ns)(l:ns.length=C){j:Nat}(f:j<C):∃c,(lft B ns)[j]?=some c/\0<=c/\c<=17:=by
 obtain⟨_,sn,e,d,h⟩:=g.left a l;have b:j<(lft B ns).length:=by rw[h.len];omega
 refine⟨_,getElem?_eq_getElem b,?_⟩;have:=h.lo j _ f (getElem?_eq_getElem b);have:=g.ln;omega
def aeE(T:Tx w K mg):PSp:=ade 2 λa Q=>∃(f g:Fl)(B:TbS)(ns:List Int)(_:Fp f)(_:Fp g),a=[tbT T f B,.lst g (ns.map Enc.t)]/\afn ns/\TbG ns.length B/\Q .non
theorem e'P(T:Tx w K mg){z:Bool}:FnOk P w K mg base CX0 2 T.aa5.a T.aa5.d ["self","costs"] (spP K z 0 2 (aeE T)):=by
 refine a'q T.aa5.F acD rfl (by decide) λ_ _ _ _ _ _ e=>?_
 have m:=a'l e;refine⟨_,(a'c (a'h (i:=2) acD.nd (by decide) rfl (Or.inl rfl) (a'A ((λC g d=>MOkA.mono (d'u T C g d) (by omega))) (by walk_at "z") (λ_ _ _ h=>h.1) e (qv 0) (QA.frz (a'a (qv 1) a'b))))
  (a'c (b'j PassesOwn.never rfl (e'j rfl T.ab7 (a'a (a'U a'W a'z rfl T.ab6 rfl (a'a (qv 1) a'b)) a'b)) (a'R (i:=3) acD.nd (by decide) rfl (Or.inl rfl)) (a'f (a'C (QW.t (c'x (a'k h'L d'D (a'i m (qv 2) (qv 3) (λ_ _=>rfl)) a'd (by walk_at "u")) (c'q (a'k (f'J m) d'G (qv 3) (a'o K rfl (qv 0)) (by walk_at "u"))))) (a'f (a'm (qv 3))) a'p)))
  (a'f (a'm e'g)))),?_⟩
 rintro r o _ ⟨_,f,g,B,ns,_,_,rfl,h,l,q⟩;walk_at"";simp only[e'L,e'M,b'U,c'f,d'R];refine g'N T h (l.left h rfl).1 ?_;walk_at"";have s:=h.1;refine⟨by omega,by omega,Loop.map _ _ (λ_ v=>∃y,v=[tbT T f B,.lst g (ns.map Enc.t),Enc.t (lft B ns),y]) ⟨_,rfl⟩ ?_ ?_⟩
 .rintro i j v hj ⟨y,rfl⟩;have b:j<ns.length:=by have:=(e'O hj).1;omega
  walk_at"";obtain⟨c,n,u,p⟩:=l.at h rfl b;rw[b'p,c'b,b'H];refine a'X _ _ c (atN n) ?_;walk_at"";rw[if_neg (by simp;omega)];exact⟨_,rfl⟩
 .rintro v ⟨y,rfl⟩;walk_at"";exact q _
theorem q'f(x:Int)(ns:List Int):inT (.int x) (ns.map Enc.t)=decide (x∈ns):=by
 induction ns with
 |nil=>rfl
 |cons n ns a=>
  unfold inT inV at a ⊢;rw[map_cons,map_cons,any_cons,a];by_cases h:x=n
  .simp[h,agO,eqV]
  .simp[h,agO,eqV,Ne.symm h]
theorem g'O:∀ns:List Int,(ns.map Enc.t).all aep=true
 |[]=>rfl
 |n::ns=>by simp only[map_cons,all_cons,g'O ns,Bool.and_true];rfl
theorem t'I{neg:Bool}{f:Fl}{x:Int}{ns:List Int}{Q:Tr->Prop}(q:Q (.bl (if neg=true then !decide (x∈ns) else decide (x∈ns)))):wIn neg (.int x) (.lst f (ns.map Enc.t)) Q:=⟨rfl,g'O ns,by rw[q'f];exact q⟩
def af4(T:Tx w K mg):PSp:=ade 2 λa Q=>∃(f:Fl)(B:TbS)(c:Int),a=[tbT T f B,.int c]/\c ∉ B.so/\Q (Enc.t (0:Rat))
theorem g'W(T:Tx w K mg){z:Bool}:FnOk P w K mg base CX0 1 T.aa7.a T.aa7.d ["self","column"] (spP K z 0 2 (af4 T)):=by
 refine a'q T.aa7.F g'V rfl (by decide) λ_ _ _ _ _ _ g=>?_
 have e:=a'l g;refine⟨_,(a'c (a'C (a'k (f'J e) d'G (qv 1) (a'o K rfl (qv 0)) (by walk_at "u")) (a'f (a'm (b'k [0,1] rfl T.abo T.abp))) a'p)
  (a'f a'Z)),?_⟩
 rintro j h _ ⟨_,f,B,c,rfl,b,q⟩;walk_at"";simp only[e'L,d'R];refine g'K T (t'I ?_);rw[decide_eq_false b];walk_at"";exact q _
theorem f'y(T:Tx w K mg){z:Bool}:∀C g,DTb T C g->MOkA P w K mg base CX0 2 "falling" C ["self","costs"] (spP K z 0 2 (aeE T)):=λC g h=>by
 obtain⟨rfl,rfl⟩:=h;exact⟨T.aac,_,_,T.aa5.t,e'P T,T.aa5.b⟩
theorem e'Q(T:Tx w K mg){z:Bool}:FnOk P w K mg base CX0 3 T.aa4.a T.aa4.d ["self","costs"] (spP K z 0 2 (aeE T)):=by
 refine a'q T.aa4.F acC rfl (by decide) λ_ _ _ _ _ _ b=>?_
 have m:=a'l b;refine⟨_,(a'c (a'h (i:=2) acC.nd (by decide) rfl (Or.inl rfl) (a'A ((λC g d=>MOkA.mono (f'y T C g d) (by omega))) (by walk_at "z") (λ_ _ _ h=>h.1) b (qv 0) (QA.frz (a'a (qv 1) a'b))))
  (a'c (l'm PassesOwn.never (a'k f'N d'L (qv 2) e'g (by walk_at "u")) (a'c a'Z
  (a'c a'Z
  (a'c a'Z
  (a'f (a'h (i:=2) acC.nd (by decide) rfl (Or.inl rfl) (a'A ((λC g d=>MOkA.mono (f'y T C g d) (by omega))) (by walk_at "z") (λ_ _ _ h=>h.1) b (qv 0) (QA.frz (a'a (qv 1) a'b)))))))))
  (a'f (a'm e'g)))),?_⟩
 rintro l e _ ⟨_,f,g,B,ns,_,_,rfl,h,c,q⟩;walk_at"";simp only[e'L,e'M,b'U,c'f,d'R];refine d'T T ⟨rfl,f,g,B,ns,‹_›,‹_›,rfl,h,c,λ_=>?_⟩;walk_at"";refine⟨λ_ j=>j=[tbT T f B,.lst g (ns.map Enc.t),.non,.hole],⟨0,rfl⟩,?_⟩;rintro _ j rfl;walk_at"";exact q _
theorem l'D(T:Tx w K mg){z:Bool}:∀C g,DTb T C g->MOkA P w K mg base CX0 3 "go_down" C ["self","costs"] (spP K z 0 2 (aeE T)):=λC g h=>by
 obtain⟨rfl,rfl⟩:=h;exact⟨T.aac,_,_,T.aa4.t,e'Q T,T.aa4.b⟩
theorem t'J(T:Tx w K mg){z:Bool}:∀C g,DTb T C g->MOkA P w K mg base CX0 1 "told" C ["self","column"] (spP K z 0 2 (af4 T)):=λC g h=>by
 obtain⟨rfl,rfl⟩:=h;exact⟨T.aac,_,_,T.aa7.t,g'W T,T.aa7.b⟩
def MkOk(C:Nat)(L:List Int)(a m:List (Key×Option Int))(k:Int):Prop:=∀p∈m,p∈a\/p.2=some k/\∃j:Nat,p.1=Sum.inl (j:Int)/\j<C/\∃v,L[j]?=some v/\0<v
def af5(T:Tx w K mg):PSp:=λb Q=>b.length=3/\∃(g:Fl)(B:TbS)(ns:List Int)(k:Int)(_:Fp g),b=[tbT T .o B,.lst g (ns.map Enc.t),.int k]/\afn ns/\TbG ns.length B/\B.m.length<=10000/\∀a:List (Key×Option Int),a.length<=B.m.length+ns.length->MkOk ns.length (lft B ns) B.m a k->∀j:List Tr,j[0]?=some (tbT T .o { B with m:=a })->Q (Enc.t (lft B ns)) j
theorem d'o(T:Tx w K mg){z:Bool}:FnOk P w K mg base CX0 2 T.aa6.a T.aa6.d ["self","costs","mark"] (spP K z 3 3 (af5 T)):=by
 refine a'q T.aa6.F acu rfl (by decide) λ_ _ _ _ _ _ s=>?_
 have r:=a'l s;refine⟨_,(a'c (a'h (i:=3) acu.nd (by decide) rfl (Or.inl rfl) (a'A ((λC g d=>MOkA.mono (d'u T C g d) (by omega))) (by walk_at "z") (λ_ _ _ h=>h.1) s (qv 0) (QA.frz (a'a (qv 1) a'b))))
  (a'c (b'j PassesOwn.never rfl (e'j rfl T.ab7 (a'a (a'U a'W a'z rfl T.ab6 rfl (a'a (qv 1) a'b)) a'b)) (a'R (i:=4) acu.nd (by decide) rfl (Or.inl rfl)) (a'f (a'C (QW.t (c'x (a'k e'D c'w (a'i r (qv 3) (qv 4) (λ_ _=>rfl)) a'd (by walk_at "u")) (c'q (a'k (f'J r) d'G (qv 4) (a'o K rfl (qv 0)) (by walk_at "u"))))) (a'f (h'j r (d'P (a't 0)) (qv 4) (qv 2))) a'p)))
  (a'f (a'm (qv 3))))),?_⟩
 rintro A H _ ⟨_,g,B,ns,k,_,rfl,h,u,D,q⟩;walk_at"";simp only[e'L,e'M,lfl,dfl,d'R];refine g'N T h (u.left h rfl).1 ?_;walk_at"";have E:=h.1;refine⟨by omega,by omega,Loop.map _ _ (λi v=>∃(b:List (Key×Option Int))(y:Tr),v=[tbT T .o { B with m:=b },.lst g (ns.map Enc.t),.int k,Enc.t (lft B ns),y]/\b.length<=B.m.length+i/\MkOk ns.length (lft B ns) B.m b k) ⟨B.m,_,rfl,le_refl _,λp m=>.inl m⟩ ?_ ?_⟩
 .rintro i j v hj ⟨b,y,rfl,hm',hk⟩;have l:j<ns.length/\i=j:=by have:=e'O hj;omega
  obtain⟨c,x,G,I⟩:=u.at h rfl l.1;walk_at"";rw[b'p,c'b,b'H];refine a'X _ _ c (atN x) ?_;walk_at"";split
  .rename_i hpos;simp only[e'L,lfl,d'R];refine k'M T (show if (!(look (mT b) (Sum.inl (j:Int))).isSome)=true then _ else _ from ?_);split
   .refine d'Q rfl ⟨T.aac,T.aag⟩ (lkn (lkn (lkn lk0))) ⟨by show (mT b).length<1000000;unfold mT;rw[length_map];omega,?_⟩;rw[show Tr.int k=Enc.t (some k:Option Int) from rfl,o'k];dsimp only;rw[o'j];refine⟨_,_,rfl,?_,?_⟩
    .split
     .rw[length_map];omega
     .rw[length_append];simp;omega
    .intro p f;have n:MkOk ns.length (lft B ns) B.m [(Sum.inl (j:Int),some k)] k:=λp f=>by
      rw[mem_singleton.mp f];exact .inr ⟨rfl,j,rfl,l.1,c,x,of_decide_eq_true hpos⟩
     split at f
     .obtain⟨p',mp',rfl⟩:=mem_map.mp f;split
      .rename_i e;rw[e];exact n _ (.head _)
      .exact hk p' mp'
     .rcases mem_append.mp f with f |f
      .exact hk p f
      .exact n p f
   .exact⟨b,_,rfl,by omega,hk⟩
  .exact⟨b,_,rfl,by omega,hk⟩
 .rintro v ⟨b,y,rfl,hm',hk⟩;walk_at"";exact q b (by simpa using hm') hk _ rfl
theorem g'e(T:Tx w K mg){z:Bool}:∀C g,DTb T C g->MOkA P w K mg base CX0 2 "shut_rising" C ["self","costs","mark"] (spP K z 3 3 (af5 T)):=λC g h=>by
 obtain⟨rfl,rfl⟩:=h;exact⟨T.aac,_,_,T.aa6.t,d'o T,T.aa6.b⟩
def ad2(o:ack):Prop:=(∀p∈o.1,p.2=0)/\o.2.2.1.den=1/\o.2.2.1.num.natAbs<=3/\o.2.2.2.2=1
structure aek(rs:List ack)(us:List Str):Prop where
 r:rs.length<=16
 u:us.length<=10
 o:∀o∈rs,ad2 o
def afD(fs:List (Str×Tr))(rs:List ack)(us:List Str):Prop:=fs.lookup ("rows":Str)=some (Tr.lst .f (rs.map Enc.t))/\fs.lookup ("unknowns":Str)=some (Tr.lst .f (us.map Enc.t))
theorem hasS(T:Tx w K mg)(f:Fl)(S:ShS):afD (shF T f S) S.rs S.us:=⟨lk0,lkn lk0⟩
theorem l'E(f:Fl)(rs:List ack)(us:List Str)(sc:List Int):afD (s4F f rs us sc) rs us:=⟨lk0,lkn lk0⟩
theorem i'I{f:Fl}[h:Fp f](c:Addr)(fs:List (Str×Tr)):lend (.ins f c fs)=.ins f c fs:=by cases h<;>rfl
theorem q'g(f:Fl)(c:Addr)(fs:List (Str×Tr))(Q:Tr->Prop):pV (some (.ins f c fs)) Q=Q (.ins f c fs):=rfl
def af6(T:Tx w K mg):PSp:=ade 1 λa Q=>∃(f:Fl)(fs:List (Str×Tr))(rs:List ack)(us:List Str)(_:Fp f),a=[.ins f T.aah fs]/\afD fs rs us/\rs.length<=100/\Q (.int ((us.length+2*rs.length:Nat):Int))
theorem e'R(T:Tx w K mg){z:Bool}:FnOk P w K mg base CX0 1 T.aa9.a T.aa9.d ["self"] (spP K z 0 1 (af6 T)):=by
 refine a'q T.aa9.F e'K rfl (by decide) λ_ _ _ _ _ _ b=>?_
 have j:=a'l b;refine⟨_,(a'f (a'm (a'H (a'U a'W a'z rfl T.ab6 rfl (a'a (a'o K rfl (qv 0)) a'b)) (a'y a'd (a'U a'W a'z rfl T.ab6 rfl (a'a (a'o K rfl (qv 0)) a'b)))))),?_⟩;rintro g e _ ⟨_,f,fs,rs,us,_,rfl,h,c,q⟩;walk_at"";simp only[i'I,q'g];refine a'Q ⟨T.aaj,T.aal⟩ h.2 ?_;walk_at"";refine a'Q ⟨T.aaj,T.aak⟩ h.1 ?_;walk_at"";refine⟨c'K (by decide) (by omega),?_⟩;rw[show (us.length:Int)+2*(rs.length:Int)=((us.length+2*rs.length:Nat):Int) by omega];exact q _
def afE(T:Tx w K mg)(d:Nat):PSp:=ade 2 λa Q=>∃(f:Fl)(fs:List (Str×Tr))(rs:List ack)(us:List Str)(i:Nat)(_:Fp f),a=[.ins f T.aah fs,.int i]/\afD fs rs us/\i<=100/\Q (.int ((us.length+2*i+d:Nat):Int))
theorem g'f(T:Tx w K mg){z:Bool}:FnOk P w K mg base CX0 1 T.aba.a T.aba.d ["self","number"] (spP K z 0 2 (afE T 0)):=by
 refine a'q T.aba.F g'a rfl (by decide) λ_ _ _ _ _ _ b=>?_
 have j:=a'l b;refine⟨_,(a'f (a'm (a'H (a'U a'W a'z rfl T.ab6 rfl (a'a (a'o K rfl (qv 0)) a'b)) (a'y a'd (qv 1))))),?_⟩;rintro g e _ ⟨_,f,fs,rs,us,i,_,rfl,h,c,q⟩;walk_at"";simp only[i'I,q'g];refine a'Q ⟨T.aaj,T.aal⟩ h.2 ?_;walk_at"";refine⟨c'K (by decide) (by omega),?_⟩;rw[show (us.length:Int)+2*(i:Int)=((us.length+2*i+0:Nat):Int) by omega];exact q _
theorem g'g(T:Tx w K mg){z:Bool}:FnOk P w K mg base CX0 1 T.abb.a T.abb.d ["self","number"] (spP K z 0 2 (afE T 1)):=by
 refine a'q T.abb.F g'b rfl (by decide) λ_ _ _ _ _ _ b=>?_
 have j:=a'l b;refine⟨_,(a'f (a'm (a'H (a'H (a'U a'W a'z rfl T.ab6 rfl (a'a (a'o K rfl (qv 0)) a'b)) (a'y a'd (qv 1))) a'd))),?_⟩;rintro g e _ ⟨_,f,fs,rs,us,i,_,rfl,h,c,q⟩;walk_at"";simp only[i'I,q'g];refine a'Q ⟨T.aaj,T.aal⟩ h.2 ?_;walk_at"";refine⟨c'K (by decide) (by omega),?_⟩;rw[show (us.length:Int)+2*(i:Int)+1=((us.length+2*i+1:Nat):Int) by omega];exact q _
theorem l'F(T:Tx w K mg){z:Bool}:∀C g,DSh T C g->MOkA P w K mg base CX0 1 "columns" C ["self"] (spP K z 0 1 (af6 T)):=λC g h=>by
 obtain⟨rfl,rfl⟩:=h;exact⟨T.aaj,_,_,T.aa9.t,e'R T,T.aa9.b⟩
theorem d'p(T:Tx w K mg){z:Bool}:∀C g,DSh T C g->MOkA P w K mg base CX0 1 "below" C ["self","number"] (spP K z 0 2 (afE T 0)):=λC g h=>by
 obtain⟨rfl,rfl⟩:=h;exact⟨T.aaj,_,_,T.aba.t,g'f T,T.aba.b⟩
theorem d'q(T:Tx w K mg){z:Bool}:∀C g,DSh T C g->MOkA P w K mg base CX0 1 "above" C ["self","number"] (spP K z 0 2 (afE T 1)):=λC g h=>by
 obtain⟨rfl,rfl⟩:=h;exact⟨T.aaj,_,_,T.abb.t,g'g T,T.abb.b⟩
def ael(U R i:Nat)(n:Int):List Int:=List.replicate (U+2*i) 0++1::-1::(List.replicate (2*(R - 1 - i)) 0++[n])
def af7(T:Tx w K mg):PSp:=λa Q=>a.length=3/\∃(rs:List ack)(us:List Str)(sc:List Int)(i:Nat)(o:ack),a=[s4T T .o rs us sc,.int i,Enc.t o]/\ad2 o/\rs.length<=16/\us.length<=10/\sc.length<=100/\i<rs.length/\∀j:List Tr,j[0]?=some (s4T T .o rs us (sc++[1]))->Q (.lst .o ((ael us.length rs.length i o.2.2.1.num).map Enc.t)) j
theorem q'h{m:List (Str×Rat)}(h:∀p∈m,p.2=0)(x:Str):(gtd m x).getD 0=0:=by
 unfold gtd;cases e:m.find? (λp=>decide (p.1=x)) with
 |none=>simp[e]
 |some p=>simp[e];exact h p (List.mem_of_find?_eq_some e)
theorem t'K{j:Type}(A:List j)(x:j):ad1 (A++[x]) none (some (-1))=A:=by
 have b:HT.sIx (A++[x]).length 0 none=0:=rfl;have a:HT.sIx (A++[x]).length (A++[x]).length (some (-1))=A.length:=by unfold HT.sIx;simp;omega
 unfold ad1;rw[b,a];simp
theorem q'i{j:Type}(A:List j)(x:j):ad1 (A++[x]) (some (-1)) none=[x]:=by
 have b:HT.sIx (A++[x]).length 0 (some (-1))=A.length:=by unfold HT.sIx;simp;omega
 have a:HT.sIx (A++[x]).length (A++[x]).length none=A.length+1:=by unfold HT.sIx;simp
 unfold ad1;rw[b,a];simp
theorem c'u{xs:List Tr}{k:Nat}{t:Tr}{Q:List Tr->Prop}(h:k<xs.length)(q:Q (xs.set k t)):afv xs (.int k) t Q:=by
 show (match ixN xs.length (k:Int) with |some n=>Q (xs.set n t) |none=>False);have e:ixN xs.length (k:Int)=some k:=by unfold ixN;rw[if_pos (by omega),if_pos (by simpa using h)];simp
 rw[e];exact q
theorem w'Q{U R i:Nat}(h:i<R)(n:Int):(List.replicate U (0:Int)).map Enc.t++List.replicate (2*(R:Int)).toNat (Tr.int 0)++[Tr.int n]=(List.replicate (U+2*i) (0:Int)++0::0::(List.replicate (2*(R - 1 - i)) 0++[n])).map Enc.t:=by
 have e:List.replicate (U+2*i) (0:Int)++0::0::(List.replicate (2*(R - 1 - i)) 0++[n])=List.replicate (U+2*R) 0++[n]:=by
  rw[<- cons_append,<- cons_append,<- append_assoc,show (0:Int)::0::List.replicate (2*(R - 1 - i)) 0=List.replicate (2*(R - 1 - i)+2) 0 from rfl,List.replicate_append_replicate,show U+2*i+(2*(R - 1 - i)+2)=U+2*R by omega]
 rw[e,map_append,map_replicate,map_replicate,show (2*(R:Int)).toNat=2*R by omega,show Enc.t (0:Int)=Tr.int 0 from rfl,List.replicate_append_replicate];rfl
theorem g'h{j:Type}(A:List j)(x y:j)(B:List j)(k:Nat)(h:A.length=k):(A++x::B).set k y=A++y::B:=by
 subst h;rw[List.set_append_right _ _ (le_refl _),sub_self];rfl
theorem e'S(T:Tx w K mg){z:Bool}:FnOk P w K mg base CX0 3 T.abc.a T.abc.d ["self","number","one"] (spP K z 3 3 (af7 T)):=by
 refine a'q T.abc.F acr rfl (by decide) λ_ _ _ _ _ _ j=>?_
 have n:=a'l j;refine⟨_,(a'c (a'h (i:=3) acr.nd (by decide) rfl (Or.inl rfl) (a'H (a'P (N:=["unknown","one"]) (ix:=[none,some 2]) rfl (b'd (a'o K rfl (qv 0))) (a'D (i:=0) (by decide) rfl) (λ_ _ _ _ _=>a'v) (λ_ _ _ _ _=>(m'S n (a'i n (qv 1) a'd (λ_ _=>rfl)) (qv 0) (b'k [0,1] rfl T.abo T.abp) ⟨rfl,rfl,rfl,rfl⟩)) ⟨rfl,rfl,rfl,True.intro⟩) (a'T (a'a (a'i n (qv 2) a'd (λ_ _=>rfl)) a'b))))
  (a'c (a'h (i:=4) acr.nd (by decide) rfl (Or.inl rfl) (a'j ((b'D T).mono (by omega)) (by walk_at "z") (λ_ _ h=>h.1) j rfl T.aaE.m T.aaE.F.kp T.aaE.b (QA.frz (a'a (qv 3) a'b))))
  (a'c (a'h (i:=5) acr.nd (by decide) rfl (Or.inl rfl) (a'j ((b'E T).mono (by omega)) (by walk_at "z") (λ_ _ h=>h.1) j rfl T.aaF.m T.aaF.F.kp T.aaF.b (QA.frz (a'a (qv 3) (a'a (qv 4) a'b)))))
  (a'c (a'V (i:=6) acr.nd (by decide) rfl (Or.inl rfl) (a'H (a'H (e'F (qv 5) f'L (d'I (b'L a'd))) (f't (a'T (a'a a'd a'b)) (a'y a'd (a'U a'W a'z rfl T.ab6 rfl (a'a (a'o K rfl (qv 0)) a'b))))) (e'F (qv 5) (d'I (b'L a'd)) f'L)))
  (a'c (d'K (a't 6) (a'A ((λC g d=>MOkA.mono (d'p T C g d) (by omega))) (by walk_at "z") (λ_ _ _ h=>h.1) j (qv 0) (QA.frz (a'a (qv 1) a'b))) a'd)
  (a'c (d'K (a't 6) (a'A ((λC g d=>MOkA.mono (d'q T C g d) (by omega))) (by walk_at "z") (λ_ _ _ h=>h.1) j (qv 0) (QA.frz (a'a (qv 1) a'b))) (b'L a'd))
  (a'c (c'l (d'P (a't 0)) (qv 4))
  (a'f (b'N (c'm 6)))))))))),?_⟩
 rintro D G _ ⟨_,rs,us,sc,i,o,rfl,p,r,s,E,A,q⟩;walk_at"";simp only[v'H,q'b,lfl,dfl,q'c];refine j'h T ?_;walk_at"";refine CLoop.map us _ (λ_=>(0:Rat)) (by omega) (λx B R y=>?_) ?_
 .walk_at"";rw[q'h p.1];exact y
 have u:whi (us.map (λ_=>(0:Rat))++[o.2.2.1]):=⟨by rw[length_append,length_map];simp;omega,λc m=>by
  rcases mem_append.mp m with m |m
  .obtain⟨_,_,rfl⟩:=mem_map.mp m;exact⟨rfl,by decide⟩
  .rw[mem_singleton.mp m];exact⟨p.2.1,by have:=p.2.2.1;omega⟩⟩
 have e:(us.map (λ_=>(0:Rat))++[o.2.2.1]).map Rat.num=List.replicate us.length 0++[o.2.2.1.num]:=by
  rw[map_append,map_map];congr 1;exact List.eq_replicate_iff.mpr ⟨by rw[length_map],λb m=>by obtain⟨_,_,rfl⟩:=mem_map.mp m;rfl⟩
 walk_at"";refine⟨by omega,rfl,.f,_,inferInstance,rfl,u,λ_=>?_⟩;walk_at"";refine⟨rfl,.f,_,inferInstance,rfl,u,λ_=>?_⟩;rw[e];walk_at"";rw[t'K,q'i];refine t'F T ?_;walk_at"";refine⟨c'K (by decide) (by omega),rfl,by omega,by omega,?_⟩;rw[w'Q A];refine⟨by rw[length_replicate,length_replicate];omega,by rw[length_append,length_map,length_replicate,length_replicate];omega,b'e _,d'U T ⟨rfl,.l false,_,rs,us,i,inferInstance,rfl,l'E _ _ _ _,by omega,λ_=>c'u (by simp) ?_⟩⟩;refine d'U T ⟨rfl,.l false,_,rs,us,i,inferInstance,rfl,l'E _ _ _ _,by omega,λ_=>c'u (by simp) ?_⟩;have v:(((List.replicate (us.length+2*i) (0:Int)++0::0::(List.replicate (2*(rs.length - 1 - i)) 0++[o.2.2.1.num])).map Enc.t).set (us.length+2*i+0) (Tr.int 1)).set (us.length+2*i+1) (Tr.int (-1))=(ael us.length rs.length i o.2.2.1.num).map Enc.t:=by
  unfold ael;rw[map_append,map_append,map_cons,map_cons,map_cons,map_cons,g'h _ _ _ _ _ (by simp)];rw[<- List.singleton_append,<- append_assoc,g'h _ _ _ _ _ (by simp),append_assoc];rfl
 rw[v];refine d'Q rfl ⟨T.aaj,T.aam⟩ (lkn (lkn lk0)) ?_;walk_at"";rw[v'J];exact⟨by omega,q _ rfl⟩
theorem l'G(T:Tx w K mg){z:Bool}:∀C g,DSh T C g->MOkA P w K mg base CX0 3 "line_of" C ["self","number","one"] (spP K z 3 3 (af7 T)):=λC g h=>by
 obtain⟨rfl,rfl⟩:=h;exact⟨T.aaj,_,_,T.abc.t,e'S T,T.abc.b⟩
theorem c'B{D:Addr->Nat->Prop}{m:Str}{i:Nat}{hs:List (Option Nat)}{psp:Nat->PSp}{b:PA'}{j:List Tr}{Q:Tr->List Tr->Prop}{t:Tr}(h:j[i]?=some t)(f:t≠.hole)(q:aez D m t λc=>b j λd=>psp c (dns (t::d)) (λx a=>pV a[0]? λu=>nol u=true/\adP hs 1 a (j.set i u) λe=>Q x e)):aec K D m i [] hs psp b j Q:=by
 unfold aec;rw[h];cases t with
 |hole=>exact absurd rfl f
 |_=>exact⟨trivial,q⟩
theorem c'C{rs:List j}{i:Nat}{p:j×Nat}(h:rs.zipIdx[i]?=some p):rs[i]?=some p.1/\p.2=i:=by
 rw[List.getElem?_zipIdx] at h;cases e:rs[i]? with
 |none=>rw[e] at h;cases h
 |some o=>rw[e] at h;cases h;exact⟨rfl,by simp⟩
theorem o'l(U R i:Nat)(n:Int):atI (List.replicate (U+2*i) (0:Int)++1::-1::(List.replicate (2*(R - 1 - i)) 0++[n])) (-1)=some n:=by
 rw[<- cons_append,<- cons_append,<- append_assoc];exact j'B
def aet(U R i:Nat)(n:Int):List Int:=if 0<=n then ael U R i n else (ael U R i n).map λx=>-x
def adG(U i:Nat)(n:Int):Nat:=if 0<=n then U+2*i else U+2*i+1
def lns(U R:Nat)(a:List (ack×Nat)):List (List Int):=a.map λp=>aet U R p.2 p.1.2.2.1.num
def sls(U:Nat)(a:List (ack×Nat)):List Int:=a.map λp=>((adG U p.2 p.1.2.2.1.num:Nat):Int)
def tb0(rs:List ack)(us:List Str):TbS:=⟨lns us.length rs.length rs.zipIdx,sls us.length rs.zipIdx,[]⟩
def sh0(rs:List ack)(us:List Str):ShS:=⟨rs,us,List.replicate rs.length 1,[],tb0 rs us⟩
def ahF(T:Tx w K mg):PSp:=λa Q=>a.length=3/\∃(f g:Fl)(rs:List ack)(us:List Str)(_:Fp f)(_:Fp g),a=[.ins .o T.aah [],.lst f (rs.map Enc.t),.lst g (us.map Enc.t)]/\aek rs us/\∀j:List Tr,j[0]?=some (shT T .o (sh0 rs us))->Q .non j
theorem c'h(T:Tx w K mg){z:Bool}:FnOk P w K mg base CX0 4 T.aa8.a T.aa8.d ["self","rows","unknowns"] (spP K z 1 3 (ahF T)):=by
 refine a'q T.aa8.F acm rfl (by decide) λ_ _ _ _ _ _ v=>?_
 have I:=a'l v;refine⟨_,(a'c (e'l (a't 0) (b'n (b'm rfl) a'M rfl T.aca rfl (a'a (qv 1) a'b)))
  (a'c (e'l (a't 0) (b'n (b'm rfl) a'M rfl T.aca rfl (a'a (qv 2) a'b)))
  (a'c (c'y (a't 0) (a'T a'b))
  (a'c (c'y (a't 0) (a'T a'b))
  (a'c (a'V (i:=3) acm.nd (by decide) rfl (Or.inl rfl) (a'T a'b))
  (a'c (a'V (i:=4) acm.nd (by decide) rfl (Or.inl rfl) (a'T a'b))
  (a'c (b'j PassesOwn.never rfl (h'Y rfl T.acd (a'a (a'o K rfl (qv 0)) a'b)) (d'J (n:=2) rfl (a'B (a'R (i:=5) acm.nd (by decide) rfl (Or.inl rfl)) (a'B (a'R (i:=6) acm.nd (by decide) rfl (Or.inl rfl)) b'F))) (a'c (k'B (i:=7) acm.nd (by decide) rfl (Or.inl rfl) (c't (a't 0) ((λC g d=>MOkA.mono (l'G T C g d) (by omega))) (by walk_at "z") (λ_ _ _ h=>h.1) v (d'O (qv 5) (d'O (qv 6) d'c))))
  (a'c (a'h (i:=8) acm.nd (by decide) rfl (Or.inl rfl) (c'j w'o u'J (a'i I (qv 7) (b'L a'd) (λ_ _=>rfl)) a'd (by walk_at "u")))
  (a'c (c'l (a't 3) (h'h (c'I (qv 8)) (qv 7) (a'P (N:=["entry"]) (ix:=[none]) rfl (b'd (qv 7)) (a'D (i:=0) (by decide) rfl) (λ_ _ _ _ _=>a'v) (λ_ _ _ _ _=>(b'L (qv 0))) True.intro)))
  (a'f (c'l (a't 4) (h'h (c'I (qv 8)) (a'A ((λC g d=>MOkA.mono (d'p T C g d) (by omega))) (by walk_at "z") (λ_ _ _ h=>h.1) v (qv 0) (QA.frz (a'a (qv 5) a'b))) (a'A ((λC g d=>MOkA.mono (d'q T C g d) (by omega))) (by walk_at "z") (λ_ _ _ h=>h.1) v (qv 0) (QA.frz (a'a (qv 5) a'b))))))))))
  (a'f (c'y (a't 0) (f'r T.aa2.t ((e'q T).mono (by omega)) (by walk_at "z") (λ_ _ h=>h.1) v rfl T.aab T.aa2.b (QA.frz (a'a (qv 3) (a'a (qv 4) a'b))))))))))))),?_⟩
 rintro J M _ ⟨_,f,g,rs,us,_,_,rfl,s,q⟩;walk_at"";refine⟨⟨T.aaj,T.aak⟩,by decide,⟨T.aaj,T.aal⟩,by decide,⟨T.aaj,T.aam⟩,?_⟩
 (repeat first |rw[b'g] |rw[c'd])
 refine⟨(show 2<900 by decide),⟨T.aaj,T.aan⟩,?_⟩
 (repeat first |rw[b'g] |rw[c'd])
 refine⟨(show 3<900 by decide),a'Q ⟨T.aaj,T.aak⟩ lk0 ?_⟩;walk_at"";refine Loop.map rs.zipIdx _ (λi j=>∃a b c d,j=[s4T T .o rs us (List.replicate i 1),.lst f (rs.map Enc.t),.lst g (us.map Enc.t),.lst .o ((lns us.length rs.length (rs.zipIdx.take i)).map Enc.t),.lst .o ((sls us.length (rs.zipIdx.take i)).map Enc.t),a,b,c,d]) ⟨_,_,_,_,rfl⟩ ?_ ?_
 .rintro i ⟨o,i'⟩ j hi ⟨a,b,c,d,rfl⟩;obtain⟨B,D⟩:=c'C hi;dsimp only at B D;subst D;have A:i'<rs.length:=(List.getElem?_eq_some_iff.mp B).1;have y:=s.r;have hok:=s.o o (mem_of_getElem? B);have E:rs.zipIdx.take (i'+1)=rs.zipIdx.take i'++[(o,i')]:=by rw[take_add_one,hi];rfl
  walk_at"";refine c'B rfl (by intro z;cases z) (d'U T ?_);walk_at"";simp only[q'b,dfl];refine⟨rfl,rs,us,_,i',o,rfl,hok,y,s.u,by rw[length_replicate];omega,A,λj e=>?_⟩;dsimp only;rw[e,q'c];refine⟨x'i _ _ _ _,?_⟩;have rep:List.replicate i' (1:Int)++[1]=1::List.replicate i' 1:=(List.replicate_succ' (n:=i') (a:=(1:Int))).symm;have H:lns us.length rs.length (rs.zipIdx.take i'++[(o,i')])=lns us.length rs.length (rs.zipIdx.take i')++[aet us.length rs.length i' o.2.2.1.num]:=by unfold lns;rw[map_append];rfl
  have G:sls us.length (rs.zipIdx.take i'++[(o,i')])=sls us.length (rs.zipIdx.take i')++[((adG us.length i' o.2.2.1.num:Nat):Int)]:=by unfold sls;rw[map_append];rfl
  have O:(lns us.length rs.length (rs.zipIdx.take i')).length<=16:=by unfold lns;rw[length_map,length_take];omega
  have L:(sls us.length (rs.zipIdx.take i')).length<=16:=by unfold sls;rw[length_map,length_take];omega
  walk_at"";refine a'X _ _ o.2.2.1.num (o'l _ _ _ _) ?_;rw[rep,E,H,G];walk_at"";simp only[v'H,lfl,q'c,q'b,dfl];by_cases p:0<=o.2.2.1.num
  .rw[if_pos (decide_eq_true p),if_pos (decide_eq_true p),show aet us.length rs.length i' o.2.2.1.num=ael us.length rs.length i' o.2.2.1.num from if_pos p,show adG us.length i' o.2.2.1.num=us.length+2*i'+0 from if_pos p,map_append,map_append];exact⟨by omega,d'U T ⟨rfl,.l false,_,rs,us,i',inferInstance,rfl,l'E _ _ _ _,by omega,λ_=>⟨rfl,by omega,_,_,_,_,rfl⟩⟩⟩
  .rw[if_neg (by simpa using p)];refine CLoop.map (ael us.length rs.length i' o.2.2.1.num) _ (λx=>-x) (by unfold ael;simp;have:=s.u;omega) (λc m R s=>?_) ⟨f'w _,by omega,?_⟩
   .walk_at"";exact s
   .rw[a'w,if_neg (by simpa using p),show aet us.length rs.length i' o.2.2.1.num=(ael us.length rs.length i' o.2.2.1.num).map (λx=>-x) from if_neg p,show adG us.length i' o.2.2.1.num=us.length+2*i'+1 from if_neg p,map_append,map_append];exact d'U T ⟨rfl,.l false,_,rs,us,i',inferInstance,rfl,l'E _ _ _ _,by omega,λ_=>⟨rfl,by omega,_,_,_,_,rfl⟩⟩
 .rintro j ⟨a,b,c,d,rfl⟩;rw[length_zipIdx,show rs.zipIdx.take rs.length=rs.zipIdx from by rw[<- length_zipIdx (l:=rs),take_length]];walk_at"";refine⟨rfl,.l false,.l false,_,_,inferInstance,inferInstance,rfl,by unfold lns;rw[length_map,length_zipIdx];have:=s.r;omega,λj e=>⟨rfl,?_⟩⟩;rw[e];refine⟨q'd T _,v'I T _,?_⟩;refine⟨⟨T.aaj,T.aao⟩,show 4<900 by decide,q _ ?_⟩;unfold s4F
  (repeat first |rw[b'g] |rw[c'd])
  rfl
theorem i'J{U R i:Nat}(h:i<R)(n:Int):(ael U R i n).length=U+2*R+1:=by
 unfold ael;simp;omega
theorem k'T{U R i j:Nat}(h:i<R)(n:Int)(d:j<U+2*R):(ael U R i n)[j]?=some (if j=U+2*i then 1 else if j=U+2*i+1 then -1 else 0):=by
 unfold ael;by_cases c:j<U+2*i
 .rw[getElem?_append_left (by simpa using c),List.getElem?_replicate,if_pos c,if_neg (by omega),if_neg (by omega)]
 .rw[getElem?_append_right (by simp;omega),length_replicate];by_cases b:j=U+2*i
  .subst b;simp
  .rw[if_neg b];by_cases a:j=U+2*i+1
   .subst a;rw[if_pos rfl,show U+2*i+1 - (U+2*i)=0+1 by omega];rfl
   .rw[if_neg a];obtain⟨k,rfl⟩:∃k,j=U+2*i+(k+1+1):=⟨j - (U+2*i) - 2,by omega⟩;rw[show U+2*i+(k+1+1) - (U+2*i)=k+1+1 by omega,List.getElem?_cons_succ,List.getElem?_cons_succ,getElem?_append_left (by simp;omega),List.getElem?_replicate,if_pos (by omega)]
theorem d'r{U R i:Nat}(h:i<R)(n:Int):(ael U R i n)[U+2*R]?=some n:=by
 have e:ael U R i n=(List.replicate (U+2*i) (0:Int)++1::-1::List.replicate (2*(R - 1 - i)) 0)++[n]:=by
  unfold ael;rw[append_assoc,cons_append,cons_append]
 have a:(List.replicate (U+2*i) (0:Int)++1::-1::List.replicate (2*(R - 1 - i)) 0).length=U+2*R:=by simp;omega
 rw[e,getElem?_append_right (by omega),a,sub_self];rfl
theorem k'U{U R i:Nat}(h:i<R){n:Int}(c:n.natAbs<=3):LnC (U+2*R) (aet U R i n) (adG U i n)/\(aet U R i n)[U+2*R]?=some (n.natAbs:Int):=by
 unfold aet adG;by_cases a:0<=n
 .rw[if_pos a,if_pos a];refine⟨⟨i'J h n,by omega,λj v b e=>?_,n,d'r h n,a,by omega⟩,by rw[d'r h n];congr 1;omega⟩;rw[k'T h n b] at e;cases e;split
  .exact⟨by decide,by decide,λz=>by omega⟩
  .split
   .exact⟨by decide,by decide,λ_=>by decide⟩
   .exact⟨by decide,by decide,λ_=>by decide⟩
 .rw[if_neg a,if_neg a];refine⟨⟨by rw[length_map];exact i'J h n,by omega,λj v b e=>?_,-n,by rw[getElem?_map,d'r h n];rfl,by omega,by omega⟩,by rw[getElem?_map,d'r h n];show some (-n)=_;congr 1;omega⟩;rw[getElem?_map,k'T h n b] at e;cases e;split
  .exact⟨by decide,by decide,λz=>by decide⟩
  .split
   .exact⟨by decide,by decide,λz=>by omega⟩
   .exact⟨by decide,by decide,λ_=>by decide⟩
def sns(U:Nat)(a:List (ack×Nat)):List Nat:=a.map λp=>adG U p.2 p.1.2.2.1.num
theorem g'i(U i:Nat)(n:Int):U+2*i<=adG U i n/\adG U i n<=U+2*i+1:=by
 unfold adG;split<;>omega
theorem o'm(U:Nat)(rs:List ack):(sns U rs.zipIdx).Nodup:=by
 unfold sns;refine List.pairwise_map.mpr (List.pairwise_iff_getElem.mpr λi j e f d=>?_);have a:=(c'C (getElem?_eq_getElem e)).2;have b:=(c'C (getElem?_eq_getElem f)).2;have c:=g'i U (rs.zipIdx[i]).2 (rs.zipIdx[i]).1.2.2.1.num;have g:=g'i U (rs.zipIdx[j]).2 (rs.zipIdx[j]).1.2.2.1.num;rw[a] at c;rw[b] at g;rw[a,b];omega
theorem k'V(U:Nat)(a:List (ack×Nat)):sls U a=(sns U a).map Int.ofNat:=by
 unfold sls sns;rw[map_map];rfl
theorem d'W{rs:List ack}{us:List Str}(h:aek rs us):TbG (us.length+2*rs.length) (tb0 rs us) where
 ln:=by show (lns _ _ _).length<=16;unfold lns;rw[length_map,length_zipIdx];exact h.r
 eq:=by show (sls _ _).length=(lns _ _ _).length;unfold lns sls;rw[length_map,length_map]
 sn:=⟨sns us.length rs.zipIdx,k'V _ _,o'm _ _,λi l s d f=>by
  have d:(lns us.length rs.length rs.zipIdx)[i]?=some l:=d;unfold lns at d;unfold sns at f;rw[getElem?_map] at d f;cases e:rs.zipIdx[i]? with
  |none=>rw[e] at d;cases d
  |some p=>
   rw[e] at d f;cases d;cases f;obtain⟨a,b⟩:=c'C e;exact (k'U (by rw[b];exact (List.getElem?_eq_some_iff.mp a).1) (h.o _ (mem_of_getElem? a)).2.2.1).1⟩
 c:=by have:=h.r;have:=h.u;omega
theorem o'n{rs:List ack}{us:List Str}{j:Nat}(a:j<us.length):(j:Int) ∉ (tb0 rs us).so:=λm=>by
 obtain⟨p,_,e⟩:=mem_map.mp m;have:=g'i us.length p.2 p.1.2.2.1.num;omega
def shG(rs:List ack)(us:List Str)(ss:List (List Rat))(m:List (Key×Option Int)):ShS:=⟨rs,us,List.replicate rs.length 1,ss,⟨(tb0 rs us).ls,(tb0 rs us).so,m⟩⟩
theorem v'L{rs:List ack}{us:List Str}(h:aek rs us)(m:List (Key×Option Int)):TbG (us.length+2*rs.length) ⟨(tb0 rs us).ls,(tb0 rs us).so,m⟩:=⟨(d'W h).ln,(d'W h).eq,(d'W h).sn,(d'W h).c⟩
def cb(k:Int)(o:ack):Rat:=if o.2.2.2.1=k then (if o.2.1="most" then 0 else 1) else 0
def ca(k:Int)(o:ack):Rat:=if o.2.2.2.1=k then (if o.2.1="least" then 0 else 1) else 0
def rkc(U:Nat)(rs:List ack)(k:Int):List Rat:=List.replicate U 0++rs.flatMap λo=>[cb k o,ca k o]
theorem g'P{j:Type}(f g:j->Rat)(xs:List j):(xs.flatMap λo=>[f o,g o]).length=2*xs.length:=by
 induction xs with
 |nil=>rfl
 |cons x xs a=>rw[List.flatMap_cons,length_append,a];simp;omega
theorem v'M[Enc j](A:List j)(x y:j)(B:List j)(k:Nat)(h:A.length=k):((A++x::B).map Enc.t).set k (Enc.t y)=(A++y::B).map Enc.t:=by rw[<- List.map_set,g'h _ _ _ _ _ h]
theorem r'D[Enc j](A:List j)(x a y:j)(B:List j)(k:Nat)(h:A.length=k):((A++a::x::B).map Enc.t).set (k+1) (Enc.t y)=(A++a::y::B).map Enc.t:=by
 have e:∀z:j,A++a::z::B=(A++[a])++z::B:=λz=>by rw[append_assoc];rfl
 rw[e,e,v'M _ _ _ _ _ (by rw[length_append,h];rfl)]
def af8(T:Tx w K mg):PSp:=ade 2 λa Q=>∃(f:Fl)(rs:List ack)(us:List Str)(ss:List (List Rat))(m:List (Key×Option Int))(k:Int)(_:Fp f),a=[shT T f (shG rs us ss m),.int k]/\aek rs us/\Q (.lst .o ((rkc us.length rs k).map Enc.t))
theorem d'y(T:Tx w K mg){z:Bool}:FnOk P w K mg base CX0 3 T.abd.a T.abd.d ["self","rank"] (spP K z 0 2 (af8 T)):=by
 refine a'q T.abd.F acp rfl (by decide) λ_ _ _ _ _ _ e=>?_
 have A:=a'l e;refine⟨_,(a'c (a'V (i:=2) acp.nd (by decide) rfl (Or.inl rfl) (f't (a'T (a'a (b'k [0,1] rfl T.abo T.abp) a'b)) (d'b ((λC g d=>MOkA.mono (l'F T C g d) (by omega))) (by walk_at "z") (λ_ _ _ h=>h.1) e (qv 0))))
  (a'c (b'j PassesOwn.never rfl (h'Y rfl T.acd (a'a (a'o K rfl (qv 0)) a'b)) (d'J (n:=2) rfl (a'B (a'R (i:=3) acp.nd (by decide) rfl (Or.inl rfl)) (a'B (a'R (i:=4) acp.nd (by decide) rfl (Or.inl rfl)) b'F))) (a'f (a'C (a'k (b'b e.units) a'r (a'i A (qv 4) a'd (λ_ _=>rfl)) (qv 1) (by walk_at "u")) (a'c (a'h (i:=5) acp.nd (by decide) rfl (Or.inl rfl) (a'j ((b'V T).mono (by omega)) (by walk_at "z") (λ_ _ h=>h.1) e rfl T.aaw.m T.aaw.F.kp T.aaw.b (QA.frz (a'a (a'i A (qv 4) a'd (λ_ _=>rfl)) (a'a (a'i A (a'o K rfl (qv 0)) (qv 3) (λ_ _=>rfl)) a'b)))))
  (a'c (a'C (a'k (c'N e.units) b't (a'i A (qv 4) a'd (λ_ _=>rfl)) a'G (by walk_at "u")) (a'f (d'K (a't 2) (a'A ((λC g d=>MOkA.mono (d'p T C g d) (by omega))) (by walk_at "z") (λ_ _ _ h=>h.1) e (qv 0) (QA.frz (a'a (qv 3) a'b))) (qv 5))) a'p)
  (a'f (a'C (a'k (c'N e.units) b't (a'i A (qv 4) a'd (λ_ _=>rfl)) a'G (by walk_at "u")) (a'f (d'K (a't 2) (a'A ((λC g d=>MOkA.mono (d'q T C g d) (by omega))) (by walk_at "z") (λ_ _ _ h=>h.1) e (qv 0) (QA.frz (a'a (qv 3) a'b))) (qv 5))) a'p)))) a'p)))
  (a'f (b'N (c'm 2))))),?_⟩
 rintro U Y _ ⟨_,f,rs,us,ss,m,k,_,rfl,E,q⟩;have J:=E.r;have H:=E.u;walk_at"";simp only[a'I,a'L,b'U,c'f,a'u];refine a's T ⟨rfl,f,_,rs,us,‹_›,rfl,hasS T f _,by omega,λ_=>?_⟩;walk_at"";have I:List.replicate ((us.length+2*rs.length:Nat):Int).toNat (Enc.t (0:Rat))=(List.replicate us.length (0:Rat)++((rs.take 0).flatMap λo=>[cb k o,ca k o])++List.replicate (2*(rs.length - 0)) 0).map Enc.t:=by
  rw[List.take_zero,List.flatMap_nil,append_nil,List.replicate_append_replicate,map_replicate,toNat_natCast];rfl
 rw[I];refine⟨rfl,by omega,by omega,b'e _,e'm T ?_⟩;show aeh (Pu.frz (Tr.lst .f (rs.map Enc.t))) _;walk_at"";refine Loop.map rs.zipIdx _ (λi j=>∃a b c,j=[shT T f (shG rs us ss m),.int k,.lst .o ((List.replicate us.length (0:Rat)++((rs.take i).flatMap λo=>[cb k o,ca k o])++List.replicate (2*(rs.length - i)) 0).map Enc.t),a,b,c]) ⟨_,_,_,rfl⟩ ?_ ?_
 .rintro i ⟨o,i'⟩ j hi ⟨a,b,c,rfl⟩;obtain⟨B,G⟩:=c'C hi;dsimp only at B G;subst G;have D:i'<rs.length:=(List.getElem?_eq_some_iff.mp B).1;have hok:=E.o o (mem_of_getElem? B);have N:rs.take (i'+1)=rs.take i'++[o]:=by rw[take_add_one,B];rfl
  have p:(List.replicate us.length (0:Rat)++((rs.take i').flatMap λo=>[cb k o,ca k o])).length=us.length+2*i':=by rw[length_append,length_replicate,g'P,length_take];omega
  have O:List.replicate (2*(rs.length - i')) (0:Rat)=0::0::List.replicate (2*(rs.length - (i'+1))) 0:=by
   rw[show 2*(rs.length - i')=2*(rs.length - (i'+1))+1+1 by omega];rfl
  have M:List.replicate us.length (0:Rat)++((rs.take (i'+1)).flatMap λo=>[cb k o,ca k o])++List.replicate (2*(rs.length - (i'+1))) 0=(List.replicate us.length (0:Rat)++((rs.take i').flatMap λo=>[cb k o,ca k o]))++cb k o::ca k o::List.replicate (2*(rs.length - (i'+1))) 0:=by
   rw[N,List.flatMap_append,List.flatMap_singleton,<- append_assoc,append_assoc];rfl
  rw[O,M];generalize List.replicate us.length (0:Rat)++((rs.take i').flatMap λo=>[cb k o,ca k o])=L at p ⊢;generalize List.replicate (2*(rs.length - (i'+1))) (0:Rat)=Z;walk_at"";by_cases s:o.2.2.2.1=k
  .rw[if_pos (decide_eq_true s)];simp only[a'I,a'L,b'U,c'f,a'u];refine g'M T ?_;show ad0 (.lst f ((List.replicate rs.length (1:Int)).map Enc.t)) (.int i') _;rw[c'b,b'H];refine a'X _ _ (1:Int) (atN (by rw[List.getElem?_replicate,if_pos D])) ?_;rw[hok.2.2.2];walk_at"";refine⟨rfl,1,1,rfl,by decide,by decide,λ_=>?_⟩;rw[show Rat.divInt 1 1=1 from by walk_at "k"];walk_at"";unfold cb ca;rw[if_pos s,if_pos s];have Q:(us.length+2*i'+0:Nat)<((L++(0:Rat)::0::Z).map Enc.t).length:=by rw[length_map,length_append,p];simp
   have y:∀x:Rat,(us.length+2*i'+1:Nat)<((L++x::(0:Rat)::Z).map Enc.t).length:=λx=>by rw[length_map,length_append,p];simp
   by_cases v:o.2.1="most"
   .have l:¬ o.2.1="least":=by rw[v];decide +kernel
    rw[if_pos v,if_neg l,if_neg (by simp[v]),if_pos (by simp[l])];refine a's T ⟨rfl,f,_,rs,us,i',‹_›,rfl,hasS T f _,by omega,λ_=>c'u (y 0) ?_⟩;rw[r'D _ _ _ _ _ _ p];exact⟨_,_,_,rfl⟩
   .rw[if_neg v,if_pos (by simp[v])];refine a's T ⟨rfl,f,_,rs,us,i',‹_›,rfl,hasS T f _,by omega,λ_=>c'u Q ?_⟩;rw[v'M _ _ _ _ _ (show L.length=us.length+2*i'+0 from p)];by_cases l:o.2.1="least"
    .rw[if_pos l,if_neg (by simp[l])];exact⟨_,_,_,rfl⟩
    .rw[if_neg l,if_pos (by simp[l])];refine a's T ⟨rfl,f,_,rs,us,i',‹_›,rfl,hasS T f _,by omega,λ_=>c'u (y 1) ?_⟩;rw[r'D _ _ _ _ _ _ p];exact⟨_,_,_,rfl⟩
  .rw[if_neg (by simpa using s)];unfold cb ca;rw[if_neg s,if_neg s];exact⟨_,_,_,rfl⟩
 .rintro j ⟨a,b,c,rfl⟩;rw[length_zipIdx,take_length,sub_self,Nat.mul_zero,List.replicate_zero,append_nil];walk_at"";exact q _
def suc(us:List Str)(R:Nat)(a:List (Str×Rat)):List Rat:=(us.map λx=>(gtd a x).getD 0)++List.replicate (2*R) 0
def aeu(T:Tx w K mg):PSp:=ade 2 λb Q=>∃(f g:Fl)(rs:List ack)(us:List Str)(ss:List (List Rat))(m:List (Key×Option Int))(a:List (Str×Rat))(_:Fp f)(_:Fp g),b=[shT T f (shG rs us ss m),ac1 g a]/\aek rs us/\Q (.lst .o ((suc us rs.length a).map Enc.t))
theorem d'X(T:Tx w K mg){z:Bool}:FnOk P w K mg base CX0 2 T.abe.a T.abe.d ["self","parts"] (spP K z 0 2 (aeu T)):=by
 refine a'q T.abe.F acO rfl (by decide) λ_ _ _ _ _ _ l=>?_
 have n:=a'l l;refine⟨_,(a'c (b'G (i:=2) (N:=["unknown","parts"]) (ix:=[none,some 1]) acO.nd (by decide) rfl (Or.inl rfl) rfl (b'd (a'o K rfl (qv 0))) (a'D (i:=0) (by decide) rfl) (λ_ _ _ _ _=>a'v) (λ_ _ _ _ _=>(m'S n (qv 1) (qv 0) (b'k [0,1] rfl T.abo T.abp) ⟨rfl,rfl,rfl,rfl⟩)) ⟨rfl,rfl,rfl,True.intro⟩)
  (a'f (a'm (a'H (qv 2) (f't (a'T (a'a (b'k [0,1] rfl T.abo T.abp) a'b)) (a'y a'd (a'U a'W a'z rfl T.ab6 rfl (a'a (a'o K rfl (qv 0)) a'b)))))))),?_⟩
 rintro s p _ ⟨_,f,g,rs,us,ss,m,c,_,_,rfl,b,q⟩;have j:=b.r;have h:=b.u;walk_at"";simp only[a'I,a'L,b'U,c'f,a'u];refine e'w T ?_;show aeh (Tr.lst .f (us.map Enc.t)) _;walk_at"";refine CLoop.map us _ (λx=>(gtd c x).getD 0) (by omega) (λx o R b=>?_) ?_
 .walk_at"";exact b
 .walk_at"";refine e'm T ?_;show ahl _ [Tr.lst .f (rs.map Enc.t)] _;walk_at"";have e:List.map Enc.t (us.map λx=>(gtd c x).getD 0)++List.replicate (2*(rs.length:Int)).toNat (Enc.t (0:Rat))=(suc us rs.length c).map Enc.t:=by
   unfold suc;rw[map_append,map_replicate,show (2*(rs.length:Int)).toNat=2*rs.length by omega]
  rw[e];exact⟨c'K (by decide) (by omega),rfl,by omega,by omega,by rw[length_replicate];omega,c'P _,q _⟩
theorem d'v(T:Tx w K mg){z:Bool}:∀C g,DSh T C g->MOkA P w K mg base CX0 3 "rank_costs" C ["self","rank"] (spP K z 0 2 (af8 T)):=λC g h=>by
 obtain⟨rfl,rfl⟩:=h;exact⟨T.aaj,_,_,T.abd.t,d'y T,T.abd.b⟩
theorem d'Y(T:Tx w K mg){z:Bool}:∀C g,DSh T C g->MOkA P w K mg base CX0 2 "sum_costs" C ["self","parts"] (spP K z 0 2 (aeu T)):=λC g h=>by
 obtain⟨rfl,rfl⟩:=h;exact⟨T.aaj,_,_,T.abe.t,d'X T,T.abe.b⟩
def C01(rs:List ack)(us:List Str)(cs:List Rat):Prop:=cs.length=us.length+2*rs.length/\∀c∈cs,c=0\/c=1
theorem C01.i{rs:List ack}{us:List Str}{cs:List Rat}(h:C01 rs us cs)(a:aek rs us):whi cs/\afn (cs.map Rat.num)/\(cs.map Rat.num).length=us.length+2*rs.length:=by
 have e:=a.r;have b:=a.u;refine⟨⟨by rw[h.1];omega,λc m=>by rcases h.2 c m with rfl |rfl<;>exact⟨rfl,by decide⟩⟩,⟨by rw[length_map,h.1];omega,λc m=>?_⟩,by rw[length_map];exact h.1⟩;obtain⟨d,md,rfl⟩:=mem_map.mp m;rcases h.2 d md with rfl |rfl<;>decide
def lfR(rs:List ack)(us:List Str)(cs:List Rat):List Rat:=(lft (tb0 rs us) (cs.map Rat.num)).map λn=>Rat.divInt n 1
theorem o'o[Enc j](xs:List j)(x:j):xs.map Enc.t++[Enc.t x]=(xs++[x]).map Enc.t:=by rw[map_append];rfl
def ahG(T:Tx w K mg):PSp:=λc Q=>c.length=2/\∃(g:Fl)(rs:List ack)(us:List Str)(ss:List (List Rat))(m:List (Key×Option Int))(a:List Rat)(_:Fp g),c=[shT T .o (shG rs us ss m),.lst g (a.map Enc.t)]/\aek rs us/\C01 rs us a/\m.length<=10000/\ss.length<=1000/\
 ∀b:List (Key×Option Int),b.length<=m.length+a.length->MkOk a.length (lft (tb0 rs us) (a.map Rat.num)) m b ss.length->∀j:List Tr,j[0]?=some (shT T .o (shG rs us (ss++[lfR rs us a]) b))->Q .non j
theorem f'z(T:Tx w K mg){z:Bool}:FnOk P w K mg base CX0 4 T.abf.a T.abf.d ["self","costs"] (spP K z 2 2 (ahG T)):=by
 refine a'q T.abf.F act rfl (by decide) λ_ _ _ _ _ _ j=>?_
 have L:=a'l j;refine⟨_,(a'c (a'h (i:=2) act.nd (by decide) rfl (Or.inr rfl) (a'j ((b'D T).mono (by omega)) (by walk_at "z") (λ_ _ h=>h.1) j rfl T.aaE.m T.aaE.F.kp T.aaE.b (QA.frz (a'a (qv 1) a'b))))
  (a'c (a'h (i:=3) act.nd (by decide) rfl (Or.inl rfl) (a'j ((b'E T).mono (by omega)) (by walk_at "z") (λ_ _ h=>h.1) j rfl T.aaF.m T.aaF.F.kp T.aaF.b (QA.frz (a'a (qv 1) (a'a (qv 2) a'b)))))
  (a'c (a'h (i:=4) act.nd (by decide) rfl (Or.inl rfl) (a'A ((λC g d=>MOkA.mono (l'D T C g d) (by omega))) (by walk_at "z") (λ_ _ _ h=>h.1) j (a'o K rfl (qv 0)) (QA.frz (a'a (qv 3) a'b))))
  (a'c (a'C (a'k f'N d'L (qv 4) e'g (by walk_at "u")) (a'c a'Z
  (a'f a'Z)) a'p)
  (a'c (k'B (i:=6) act.nd (by decide) rfl (Or.inl rfl) (c't (d'P (a't 0)) ((λC g d=>MOkA.mono (g'e T C g d) (by omega))) (by walk_at "z") (λ_ _ _ h=>h.1) j (d'O (qv 3) (d'O (a'U a'W a'z rfl T.ab6 rfl (a'a (a'o K rfl (qv 0)) a'b)) d'c))))
  (a'c (c'l (d'P (a't 0)) (a'P (N:=["entry","scale","self"]) (ix:=[none,some 2,some 0]) rfl (b'd (qv 6)) (a'D (i:=0) (by decide) rfl) (λ_ _ _ _ _=>a'v) (λ_ _ _ _ _=>(a'j ((b'V T).mono (by omega)) (by walk_at "z") (λ_ _ h=>h.1) j rfl T.aaw.m T.aaw.F.kp T.aaw.b (QA.frz (a'a (qv 0) (a'a (a'y (qv 1) (a'o K rfl (a'o K rfl (qv 2)))) a'b))))) ⟨rfl,rfl,rfl,⟨rfl,rfl,rfl,True.intro⟩⟩))
  (a'f (a'm e'g)))))))),?_⟩
 rintro H D _ ⟨_,g,rs,us,ss,m,c,_,rfl,r,h,B,J,q⟩;obtain⟨x,v,G⟩:=h.i r;have u:=v'L r m;rw[<- G] at u;walk_at"";refine⟨rfl,g,c,‹_›,rfl,x,λ_=>?_⟩;walk_at"";refine⟨rfl,g,c,‹_›,rfl,x,λ_=>?_⟩;walk_at"";simp only[a'I,lfl,a'u];refine d'm T ?_;simp only[e'M,dfl];refine d'T T ⟨rfl,.l false,.f,_,_,inferInstance,inferInstance,rfl,v,u,λ_=>?_⟩;walk_at"";simp only[show isT Tr.non Tr.non=true from rfl,ah0,wBl,Bool.xor_self,false_eq_true,if_false];refine n'V rfl ⟨T.aaj,T.aao⟩ (lkn (lkn (lkn (lkn lk0)))) (d'T T ?_);walk_at"";simp only[a'I,lfl,a'u];refine b'O T ?_;show ahl _ [Tr.lst _ (ss.map Enc.t)] _;walk_at"";simp only[e'M,dfl];refine⟨rfl,.f,_,_,_,inferInstance,rfl,v,u,B,λs p A M e=>?_⟩;dsimp only;rw[e,d'R];refine⟨q'd T _,?_⟩;rw[k'N];refine d'Q rfl ⟨T.aaj,T.aan⟩ (lkn (lkn (lkn lk0))) ?_;walk_at"";rw[w'P,b'p,b'M]
 change CLoop (List.map Enc.t (lft (tb0 rs us) (c.map Rat.num))) _ _ _ [Tr.hole,Tr.int 1,shT T (.l true) (shG rs us ss s)] _
 have y:=g'd (c.map Rat.num) ((tb0 rs us).ls.zip (tb0 rs us).so) (c.map Rat.num++[0]);rw[length_append] at y;have E:=v.1;refine CLoop.map (lft (tb0 rs us) (c.map Rat.num)) _ (λn=>Rat.divInt n 1) (le_trans y (by simp at E ⊢;omega)) (λn I R r=>?_) ⟨f'w _,show ss.length<1000000 by omega,?_⟩
 .walk_at"";simp only[a'u];refine d'm T (g'L T ?_);walk_at"";exact⟨.inl (.inl (by decide)),rfl,n,1,rfl,by decide,by decide,λ_=>r⟩
 .rw[a'w]
  change D Tr.non (Tr.ins .o T.aah (adO "settled" (.lst .o (ss.map Enc.t++[Enc.t (lfR rs us c)])) (shF T .o (shG rs us ss s)))::_)
  rw[o'o,t'G];exact q s (by rw[length_map] at p;exact p) (by rw[length_map] at A;exact A) _ rfl
theorem c'L(T:Tx w K mg){z:Bool}:∀C g,DSh T C g->MOkA P w K mg base CX0 4 "settle" C ["self","costs"] (spP K z 2 2 (ahG T)):=λC g h=>by
 obtain⟨rfl,rfl⟩:=h;exact⟨T.aaj,_,_,T.abf.t,f'z T,T.abf.b⟩
def ahH(T:Tx w K mg):PSp:=ade 2 λa Q=>∃(f:Fl)(S:ShS)(i:Nat)(r:List Rat)(x:Rat)(_:Fp f),a=[shT T f S,.int i]/\S.ss[i]?=some (r++[x])/\bs x<=1000/\Q (Enc.t (0 - x))
theorem g'j(T:Tx w K mg){z:Bool}:FnOk P w K mg base CX0 4 T.abg.a T.abg.d ["self","place"] (spP K z 0 2 (ahH T)):=by
 refine a'q T.abg.F g'c rfl (by decide) λ_ _ _ _ _ _ e=>?_
 have c:=a'l e;refine⟨_,(a'f (a'm (a'j ((c'A T).mono (by omega)) (by walk_at "z") (λ_ _ h=>h.1) e rfl T.aaz.m T.aaz.F.kp T.aaz.b (QA.frz (a'a (b'k [0,1] rfl T.abo T.abp) (a'a (a'i c (a'i c (a'o K rfl (qv 0)) (qv 1) (λ_ _=>rfl)) (b'L a'd) (λ_ _=>rfl)) a'b)))))),?_⟩;rintro o n _ ⟨_,f,S,i,r,x,_,rfl,g,j,q⟩;walk_at"";simp only[a'I,b'U,a'u];refine b'O T ?_;walk_at"";refine a'X _ _ (r++[x]) (atN g) ?_;rw[b'p,c'b,b'H,j'B];refine a'X _ _ x rfl ?_;rw[e_f,e_d];have l:bs (0:Rat)<=10:=by walk_at "k"
 exact⟨rfl,0,x,rfl,by omega,λ_=>⟨e_o _,q _⟩⟩
def ahI(T:Tx w K mg):PSp:=ade 1 λa Q=>∃(f:Fl)(rs:List ack)(us:List Str)(ss:List (List Rat))(m:List (Key×Option Int)),a=[shT T f (shG rs us ss m)]/\us.Nodup/\us.length<=50/\Q (.dic .o ((us.map λu=>(u,(0:Rat))).map λp=>((Sum.inr p.1:Key),Enc.t p.2)))
theorem l'H{us:List Str}(h:us.Nodup){i:Nat}{u:Str}(e:us[i]?=some u):¬ u∈us.take i:=λm=>by
 obtain⟨j,d,b⟩:=List.mem_take_iff_getElem.mp m;obtain⟨a,c⟩:=List.getElem?_eq_some_iff.mp e;exact (List.pairwise_iff_getElem.mp h) j i (by omega) a (by omega) (b.trans c.symm)
theorem q'j[Enc j](m:List (Str×j)):Clk (m.map λp=>((Sum.inr p.1:Key),Enc.t p.2))=true:=by
 have:=a'E (m.map λp=>((Sum.inr p.1:Key),p.2));rw[map_map] at this;exact this
theorem e'T(T:Tx w K mg){z:Bool}:FnOk P w K mg base CX0 2 T.abh.a T.abh.d ["self"] (spP K z 0 1 (ahI T)):=by
 refine a'q T.abh.F acz rfl (by decide) λ_ _ _ _ _ _ c=>?_
 have B:=a'l c;refine⟨_,(a'c (a'V (i:=1) acz.nd (by decide) rfl (Or.inl rfl) d'H)
  (a'c (b'j PassesOwn.never rfl (h'Y rfl T.acd (a'a (a'o K rfl (qv 0)) a'b)) (d'J (n:=2) rfl (a'B (a'R (i:=2) acz.nd (by decide) rfl (Or.inl rfl)) (a'B (a'R (i:=3) acz.nd (by decide) rfl (Or.inl rfl)) b'F))) (a'f (h'j B (a't 1) (qv 3) (a'A ((λC g d=>MOkA.mono (t'J T C g d) (by omega))) (by walk_at "z") (λ_ _ _ h=>h.1) c (a'o K rfl (qv 0)) (QA.frz (a'a (qv 2) a'b))))))
  (a'f (b'N (c'm 1))))),?_⟩
 rintro E D _ ⟨_,f,rs,us,ss,m,rfl,A,G,q⟩;walk_at"";simp only[a'I,a'u];refine⟨rfl,e'w T ?_⟩;show aeh (Pu.frz (Tr.lst .f (us.map Enc.t))) _;walk_at"";refine Loop.map us.zipIdx _ (λi v=>∃y z,v=[shT T f (shG rs us ss m),.dic .o (((us.take i).map λu=>(u,(0:Rat))).map λp=>((Sum.inr p.1:Key),Enc.t p.2)),y,z]) ⟨_,_,rfl⟩ ?_ ?_
 .rintro i ⟨u,j⟩ v hj ⟨y,z,rfl⟩;obtain⟨e,l⟩:=c'C hj;dsimp only at e l;subst l;have b:=(List.getElem?_eq_some_iff.mp e).1;walk_at"";simp only[a'I,a'u];refine d'm T ?_;simp only[e'M];refine d'T T ⟨rfl,_,_,_,rfl,o'n b,λ_=>?_⟩;walk_at"";have s:ptd ((us.take j).map λu=>(u,(0:Rat))) u 0=(us.take (j+1)).map λu=>(u,(0:Rat)):=by
   rw[s'v,take_add_one,e,Option.toList_some,map_append]
   .rfl
   .intro z hz;obtain⟨x,r,rfl⟩:=mem_map.mp hz;rintro rfl;exact l'H A e r
  rw[s];exact⟨by rw[length_take];omega,_,_,rfl⟩
 .rintro v ⟨y,z,rfl⟩;rw[length_zipIdx,take_length];walk_at"";exact⟨(clok _ (q'j _)).o,q _⟩
theorem b'P(T:Tx w K mg){z:Bool}:∀C g,DSh T C g->MOkA P w K mg base CX0 2 "placing" C ["self"] (spP K z 0 1 (ahI T)):=λC g h=>by
 obtain⟨rfl,rfl⟩:=h;exact⟨T.aaj,_,_,T.abh.t,e'T T,T.abh.b⟩
theorem e'U(T:Tx w K mg){z:Bool}:∀C g,DSh T C g->MOkA P w K mg base CX0 4 "value" C ["self","place"] (spP K z 0 2 (ahH T)):=λC g h=>by
 obtain⟨rfl,rfl⟩:=h;exact⟨T.aaj,_,_,T.abg.t,g'j T,T.abg.b⟩
def prc(c:Str)(b a:Rat):Rat:=if c="least" then a*1 else if c="most" then b*(-1) else (a - b)*Rat.divInt 1 2
def Bd(lr:List Rat):Prop:=∀x∈lr,bs x<=100
def aff(T:Tx w K mg):PSp:=ade 3 λb Q=>∃(f g:Fl)(rs:List ack)(us:List Str)(ss:List (List Rat))(m:List (Key×Option Int))(i:Nat)(a:List Rat)(o:ack)(_:Fp f)(_:Fp g),b=[shT T f (shG rs us ss m),.int i,.lst g (a.map Enc.t)]/\i<=100/\rs[i]?=some o/\a.length=us.length+2*rs.length+1/\Bd a/\Q (Enc.t (prc o.2.1 (a.getD (us.length+2*i) 0) (a.getD (us.length+2*i+1) 0)))
theorem g'k(T:Tx w K mg){z:Bool}:FnOk P w K mg base CX0 4 T.abl.a T.abl.d ["self","number","left"] (spP K z 0 3 (aff T)):=by
 refine a'q T.abl.F acx rfl (by decide) λ_ _ _ _ _ _ c=>?_
 have e:=a'l c;refine⟨_,(a'c (a'h (i:=3) acx.nd (by decide) rfl (Or.inl rfl) (a'i e (qv 2) (a'A ((λC g d=>MOkA.mono (d'p T C g d) (by omega))) (by walk_at "z") (λ_ _ _ h=>h.1) c (qv 0) (QA.frz (a'a (qv 1) a'b))) (λ_ _=>rfl)))
  (a'c (a'h (i:=4) acx.nd (by decide) rfl (Or.inl rfl) (a'i e (qv 2) (a'A ((λC g d=>MOkA.mono (d'q T C g d) (by omega))) (by walk_at "z") (λ_ _ _ h=>h.1) c (qv 0) (QA.frz (a'a (qv 1) a'b))) (λ_ _=>rfl)))
  (a'c (a'h (i:=5) acx.nd (by decide) rfl (Or.inl rfl) (a'i e (a'i e (a'o K rfl (qv 0)) (qv 1) (λ_ _=>rfl)) a'd (λ_ _=>rfl)))
  (a'c (a'h (i:=6) acx.nd (by decide) rfl (Or.inl rfl) (a'i e (a'o K rfl (qv 0)) (qv 1) (λ_ _=>rfl)))
  (a'c (a'C (a'k (b'b c.units) a'r (qv 5) a'G (by walk_at "u")) (a'f (a'm (a'j ((d'n T).mono (by omega)) (by walk_at "z") (λ_ _ h=>h.1) c rfl T.aaA.m T.aaA.F.kp T.aaA.b (QA.frz (a'a (qv 4) (a'a (a'O (a'a (qv 6) (a'a a'd a'b))) a'b)))))) a'p)
  (a'c (a'C (a'k (b'b c.units) a'r (qv 5) a'G (by walk_at "u")) (a'f (a'm (a'j ((d'n T).mono (by omega)) (by walk_at "z") (λ_ _ h=>h.1) c rfl T.aaA.m T.aaA.F.kp T.aaA.b (QA.frz (a'a (qv 3) (a'a (a'O (a'a (b'L (qv 6)) (a'a a'd a'b))) a'b)))))) a'p)
  (a'f (a'm (a'j ((d'n T).mono (by omega)) (by walk_at "z") (λ_ _ h=>h.1) c rfl T.aaA.m T.aaA.F.kp T.aaA.b (QA.frz (a'a (a'j ((c'A T).mono (by omega)) (by walk_at "z") (λ_ _ h=>h.1) c rfl T.aaz.m T.aaz.F.kp T.aaz.b (QA.frz (a'a (qv 4) (a'a (qv 3) a'b)))) (a'a (a'j ((b'V T).mono (by omega)) (by walk_at "z") (λ_ _ h=>h.1) c rfl T.aaw.m T.aaw.F.kp T.aaw.b (QA.frz (a'a (qv 6) (a'a a'd a'b)))) a'b)))))))))))),?_⟩
 rintro A G _ ⟨_,f,g,rs,us,ss,m,i,p,o,_,_,rfl,H,v,B,u,q⟩;have r:=(List.getElem?_eq_some_iff.mp v).1;walk_at"";simp only[a'I,a'L,b'U,c'f,a'u];refine a's T ⟨rfl,f,_,rs,us,i,‹_›,rfl,hasS T f _,by omega,λ_=>?_⟩;obtain⟨b,n⟩:∃b,p[us.length+2*i+0]?=some b:=⟨_,getElem?_eq_getElem (by omega)⟩;obtain⟨a,s⟩:∃a,p[us.length+2*i+1]?=some a:=⟨_,getElem?_eq_getElem (by omega)⟩;rw[getD_eq_getElem?_getD,getD_eq_getElem?_getD,s,show p[us.length+2*i]?=some b from n] at q;have x:=u b (mem_of_getElem? n);have y:=u a (mem_of_getElem? s);walk_at"";refine a'X _ _ b (atN n) ?_;walk_at""
 try simp only[a'I,a'L,b'U,c'f,a'u]
 refine a's T ⟨rfl,f,_,rs,us,i,‹_›,rfl,hasS T f _,by omega,λ_=>?_⟩;walk_at"";refine a'X _ _ a (atN s) ?_;walk_at""
 try simp only[a'I,a'L,b'U,c'f,a'u]
 refine e'm T ?_;walk_at"";refine a'X _ _ o (atN v) ?_;walk_at"";refine g'M T ?_;show ad0 (.lst f ((List.replicate rs.length (1:Int)).map Enc.t)) (.int i) _;rw[c'b,b'H];refine a'X _ _ (1:Int) (atN (by rw[List.getElem?_replicate,if_pos r])) ?_;walk_at"";unfold prc at q;by_cases j:o.2.1="least"
 .rw[if_pos (decide_eq_true j)];rw[if_pos j] at q;exact⟨rfl,a,1,rfl,by rw[m'n];omega,λ_=>⟨e_o _,q _⟩⟩
 .rw[if_neg (by simpa using j)];rw[if_neg j] at q;by_cases l:o.2.1="most"
  .rw[if_pos (decide_eq_true l)];rw[if_pos l] at q;have u:bs (-1:Rat)=1:=by walk_at "k"
   exact⟨rfl,b,-1,rfl,by omega,λ_=>⟨e_o _,q _⟩⟩
  .rw[if_neg (by simpa using l)];rw[if_neg l] at q;have D:=h'y a b;have E:bs (Rat.divInt 1 2)<=10:=by walk_at "k"
   refine⟨rfl,a,b,rfl,by omega,λ_=>⟨rfl,1,2,rfl,by decide,by walk_at "k",λ_=>?_⟩⟩;dsimp only;rw[e_f,e_d];exact⟨rfl,_,_,rfl,by omega,λ_=>⟨e_o _,q _⟩⟩
theorem q'k(T:Tx w K mg){z:Bool}:∀C g,DSh T C g->MOkA P w K mg base CX0 4 "price" C ["self","number","left"] (spP K z 0 3 (aff T)):=λC g h=>by
 obtain⟨rfl,rfl⟩:=h;exact⟨T.aaj,_,_,T.abl.t,g'k T,T.abl.b⟩
def prs(rs:List ack)(us:List Str)(a:List Rat):List Rat:=(List.range rs.length).map λi=>prc ((rs[i]?.map λo=>o.2.1).getD "") (a.getD (us.length+2*i) 0) (a.getD (us.length+2*i+1) 0)
def aeF(T:Tx w K mg):PSp:=ade 2 λb Q=>∃(f g:Fl)(rs:List ack)(us:List Str)(ss:List (List Rat))(m:List (Key×Option Int))(a:List Rat)(_:Fp f)(_:Fp g),b=[shT T f (shG rs us ss m),.lst g (a.map Enc.t)]/\rs.length<=100/\a.length=us.length+2*rs.length+1/\Bd a/\Q (.lst .o ((prs rs us a).map Enc.t))
theorem f'A(T:Tx w K mg){z:Bool}:FnOk P w K mg base CX0 5 T.abk.a T.abk.d ["self","left"] (spP K z 0 2 (aeF T)):=by
 refine a'q T.abk.F f'u rfl (by decide) λ_ _ _ _ _ _ j=>?_
 have v:=a'l j;refine⟨_,(a'f (a'm (a'P (N:=["number","left","self"]) (ix:=[none,some 1,some 0]) rfl (e'j rfl T.ab7 (a'a (a'U a'W a'z rfl T.ab6 rfl (a'a (a'o K rfl (qv 0)) a'b)) a'b)) (a'D (i:=0) (by decide) rfl) (λ_ _ _ _ _=>a'v) (λ_ _ _ _ _=>(a'A ((λC g d=>MOkA.mono (q'k T C g d) (by omega))) (by walk_at "z") (λ_ _ _ h=>h.1) j (qv 2) (QA.frz (a'a (qv 0) (a'a (qv 1) a'b))))) ⟨rfl,rfl,rfl,⟨rfl,rfl,rfl,True.intro⟩⟩))),?_⟩;rintro u s _ ⟨_,f,g,rs,us,ss,m,c,_,_,rfl,l,p,r,q⟩;walk_at"";simp only[a'I,a'L,b'U,c'f,a'u];refine e'm T ?_;walk_at""
 change -1000000<=(rs.length:Int)/\(rs.length:Int)<=1000000/\CLoop (List.map (λi:Nat=>Tr.int (i:Int)) (List.range ((rs.length:Int)).toNat)) _ _ _ _ _
 rw[toNat_natCast];refine⟨by omega,by omega,CLoop.map (List.range rs.length) _ (λi=>prc ((rs[i]?.map λo=>o.2.1).getD "") (c.getD (us.length+2*i) 0) (c.getD (us.length+2*i+1) 0)) (by rw[length_range];omega) (λi n R e=>?_) ⟨f'v _,q _⟩⟩;have b:=mem_range.mp n;walk_at""
 try simp only[a'I,a'L,b'U,c'f,a'u]
 refine a's T ⟨rfl,f,g,rs,us,ss,m,i,c,rs[i],‹_›,‹_›,rfl,by omega,getElem?_eq_getElem b,p,r,λ_=>?_⟩;rw[getElem?_eq_getElem b] at e;exact e
theorem g'Q(T:Tx w K mg){z:Bool}:∀C g,DSh T C g->MOkA P w K mg base CX0 5 "prices" C ["self","left"] (spP K z 0 2 (aeF T)):=λC g h=>by
 obtain⟨rfl,rfl⟩:=h;exact⟨T.aaj,_,_,T.abk.t,f'A T,T.abk.b⟩
theorem v'N{a b:Rat}(h:b≠0):bs (a / b)<=bs a+bs b:=by
 have c:b.num≠0:=λz=>h (Rat.num_eq_zero.mp z)
 rw[<- f'x];exact b'Y (Int.mul_ne_zero (by have:=a.den_nz;omega) c) (le_trans (f'i _ _) (by have:=b'l a;have:=a'K b;omega)) (le_trans (f'i _ _) (by have:=a'K a;have:=b'l b;omega))
theorem x'j{x v:Rat}(a:0<=x)(c:0<v):¬ 0<(0 - x) / v:=by
 rw[Rat.not_lt];have b:0<=x*v⁻¹:=Rat.mul_nonneg a (Rat.le_of_lt (Rat.inv_pos.mpr c));have e:(0 - x) / v=- (x*v⁻¹):=by rw[Rat.div_def,Rat.sub_eq_add_neg,Rat.zero_add,Rat.neg_mul]
 rw[e];have:=Rat.neg_le_neg b;rwa[Rat.neg_zero] at this
def RwS(C:Nat)(a:List Rat):Prop:=a.length=C+1/\Bd a/\∀j x,j<C->a[j]?=some x->0<=x
structure afF(C:Nat)(ss:List (List Rat))(m:List (Key×Option Int)):Prop where
 r:∀lr∈ss,RwS C lr
 m:∀p∈m,∃kn j:Nat,p.2=some (kn:Int)/\p.1=Sum.inl (j:Int)/\j<C/\∃row v,ss[kn]?=some row/\row[j]?=some v/\0<v
def afg(T:Tx w K mg):PSp:=ade 3 λb Q=>∃(g:Fl)(rs:List ack)(us:List Str)(ss:List (List Rat))(m:List (Key×Option Int))(a:List Rat)(k C:Nat)(_:Fp g),b=[shT T .f (shG rs us ss m),.lst g (a.map Enc.t),.int k]/\afF C ss m/\RwS C a/\Q (Enc.t (0:Rat))
theorem e'r(T:Tx w K mg):FnOk P w K mg base CX0 4 T.abj.a T.abj.d ["self","left","ahead"] (spP K true 0 3 (afg T)):=by
 refine a'q T.abj.F aco rfl (by decide) λ_ _ _ _ _ _ l=>?_
 have B:=a'l l;refine⟨_,(a'c (a'h (i:=3) aco.nd (by decide) rfl (Or.inl rfl) (b'k [0,1] rfl T.abo T.abp))
  (a'c (v'b rfl PassesOwn.never rfl (a'o K rfl (a'o K rfl (qv 0))) (d'J (n:=2) rfl (a'B (a'R (i:=4) aco.nd (by decide) rfl (Or.inl rfl)) (a'B (a'R (i:=5) aco.nd (by decide) rfl (Or.inl rfl)) b'F))) (a'f (a'C (a'k (b'b l.units) a'r (qv 5) (qv 2) (by walk_at "u")) (a'c (a'h (i:=6) aco.nd (by decide) rfl (Or.inl rfl) (a'j ((k'O T).mono (by omega)) (by walk_at "z") (λ_ _ h=>h.1) l rfl T.aaB.m T.aaB.F.kp T.aaB.b (QA.frz (a'a (a'j ((c'A T).mono (by omega)) (by walk_at "z") (λ_ _ h=>h.1) l rfl T.aaz.m T.aaz.F.kp T.aaz.b (QA.frz (a'a (b'k [0,1] rfl T.abo T.abp) (a'a (a'i B (qv 1) (qv 4) (λ_ _=>rfl)) a'b)))) (a'a (a'i B (a'i B (a'o K rfl (qv 0)) (qv 2) (λ_ _=>rfl)) (qv 4) (λ_ _=>rfl)) a'b)))))
  (a'f (a'h (i:=3) aco.nd (by decide) rfl (Or.inl rfl) (h'h (c'I (a'j ((i'H T).mono (by omega)) (by walk_at "z") (λ_ _ h=>h.1) l rfl T.aaC.m T.aaC.F.kp T.aaC.b (QA.frz (a'a (qv 3) (a'a (qv 6) a'b))))) (qv 6) (qv 3))))) a'p)))
  (a'f (a'm (qv 3))))),?_⟩
 rintro xs Q' _ ⟨_,g,rs,us,ss,m,E,k,C,_,rfl,D,l,q⟩;walk_at"";simp only[a'I,a'L,lfl,dfl,a'u];refine d'm T (k'M T ?_);have U:Pu.frz (.dic .f (mT m))=.dic .f (mT m):=rfl
 change nlt (Tr.dic .f (mT m))=true/\afw (Pu.frz (Tr.dic .f (mT m))) _
 rw[U];refine⟨(clok _ (a'E m)).t,⟨λ_ y=>∃a b c,y=[shT T .f (shG rs us ss m),.lst g (E.map Enc.t),.int k,Enc.t (0:Rat),a,b,c],⟨_,_,_,rfl⟩,?_,?_⟩⟩
 .rintro i p y hp ⟨a,b,c,rfl⟩;unfold mT at hp;rw[getElem?_map] at hp;cases e:m[i]? with
  |none=>rw[e] at hp;cases hp
  |some H=>
  rw[e] at hp;cases hp;obtain⟨kn,j,I,G,N,s,v,L,M,o⟩:=D.m H (mem_of_getElem? e);obtain⟨x,ex⟩:∃x,E[j]?=some x:=⟨_,getElem?_eq_getElem (by rw[l.1];omega)⟩;have u:=l.2.2 j x N ex;have Q:=l.2.1 x (mem_of_getElem? ex);have Y:=(D.r s (mem_of_getElem? L)).2.1 v (mem_of_getElem? M);obtain⟨y1,y2⟩:=H;dsimp only at I G;subst I G;show pgT _ _ (.tup [.int (j:Int),.int (kn:Int)]) _ _;walk_at"";by_cases J:(kn:Int)=(k:Int)
  .rw[if_pos (decide_eq_true J)];have A:kn=k:=by omega
   subst A;refine a'X _ _ x (atN ex) ?_;walk_at"";refine⟨rfl,0,x,rfl,by rw[b'z];omega,λ_=>?_⟩;walk_at"";simp only[a'I,lfl,a'u];refine b'O T ?_;walk_at"";refine a'X _ _ s (atN L) ?_;rw[b'p,c'b,b'H];refine a'X _ _ v (atN M) ?_;have O:=h'y 0 x;rw[b'z] at O;rw[e_f,e_d];refine⟨rfl,0 - x,v,rfl,λz=>by rw[z] at o;exact absurd o (by decide),by omega,λ_=>⟨e_t _,?_⟩⟩;have hd:=v'N (a:=0 - x) (b:=v) (λz=>by rw[z] at o;exact absurd o (by decide));walk_at"";refine⟨rfl,0,(0 - x) / v,rfl,by rw[b'z];omega,λ_=>?_⟩;rw[decide_eq_false (x'j u o)];exact⟨_,_,_,rfl⟩
  .rw[if_neg (by simpa using J)];exact⟨_,_,_,rfl⟩
 .rintro y ⟨a,b,c,rfl⟩;walk_at"";exact q _
theorem j'i(T:Tx w K mg):∀C g,DSh T C g->MOkA P w K mg base CX0 4 "share_of" C ["self","left","ahead"] (spP K true 0 3 (afg T)):=λC g h=>by
 obtain⟨rfl,rfl⟩:=h;exact⟨T.aaj,_,_,T.abj.t,e'r T,T.abj.b⟩
theorem eqr{neg:Bool}{a b:Rat}{Q:Tr->Prop}(q:Q (.bl (if neg=true then !decide (a=b) else decide (a=b)))):wEq neg (Enc.t a) (Enc.t b) Q:=by
 refine .inr ⟨decide (a=b),?_,show (1:Nat)<=60 by decide,le_refl 1,q⟩;show (if 2=2 then (some (decide (a.num=b.num))).bind λx=>((some (decide ((a.den:Int)=b.den))).bind λy=>(some true).bind λz=>some (y&&z)).bind λy=>some (x&&y) else none)=_;rw[if_pos rfl];show some (decide (a.num=b.num)&&(decide ((a.den:Int)=b.den)&&true))=_;congr 1;by_cases h:a=b
 .subst h;simp
 .rw[decide_eq_false h];by_cases c:a.num=b.num
  .have h2:¬ (a.den:Int)=b.den:=λz=>h (Rat.ext c (by omega))
   rw[decide_eq_false h2,Bool.false_and,Bool.and_false]
  .rw[decide_eq_false c,Bool.false_and]
def afh(T:Tx w K mg):PSp:=ade 2 λb Q=>∃(rs:List ack)(us:List Str)(ss:List (List Rat))(m:List (Key×Option Int))(a:List Rat)(i:Nat),b=[shT T .f (shG rs us ss m),.int i]/\rs.length<=100/\i<=1000/\ss[i]?=some a/\afF (us.length+2*rs.length) ss m/\Q (.tup [.lst .o ((prs rs us a).map Enc.t),.lst .o ((List.replicate i (0:Rat)).map Enc.t)])
theorem g'l(T:Tx w K mg):FnOk P w K mg base CX0 6 T.abi.a T.abi.d ["self","place"] (spP K true 0 2 (afh T)):=by
 refine a'q T.abi.F acw rfl (by decide) λ_ _ _ _ _ _ c=>?_
 have u:=a'l c;refine⟨_,(a'c (a'h (i:=2) acw.nd (by decide) rfl (Or.inl rfl) (a'i u (a'o K rfl (qv 0)) (qv 1) (λ_ _=>rfl)))
  (a'c (a'V (i:=3) acw.nd (by decide) rfl (Or.inl rfl) (a'T a'b))
  (a'c (b'j PassesOwn.never rfl (w'K rfl T.ab7 (a'a (h'd (qv 1) a'd) (a'a (b'L a'd) (a'a (b'L a'd) a'b)))) (a'R (i:=4) acw.nd (by decide) rfl (Or.inl rfl)) (a'c (a'h (i:=5) acw.nd (by decide) rfl (Or.inr rfl) (a'A ((λC g d=>MOkA.mono (j'i T C g d) (by omega))) (by walk_at "z") (λ_ _ _ h=>h.1) c (qv 0) (QA.frz (a'a (qv 2) (a'a (qv 4) a'b)))))
  (a'c (a'C (a'k (c'N c.units) b't (qv 5) (b'k [0,1] rfl T.abo T.abp) (by walk_at "u")) (a'f a'Z) a'p)
  (a'f (c'l (a't 3) (qv 5))))))
  (a'f (a'm (a'O (a'a (a'A ((λC g d=>MOkA.mono (g'Q T C g d) (by omega))) (by walk_at "z") (λ_ _ _ h=>h.1) c (qv 0) (QA.frz (a'a (qv 2) a'b))) (a'a (v'D rfl rfl T.aca rfl T.acf (a'a (qv 3) a'b)) a'b)))))))),?_⟩
 rintro x v _ ⟨_,rs,us,ss,m,e,i,rfl,p,z,l,s,q⟩;have c:=s.r e (mem_of_getElem? l);walk_at"";simp only[a'I,a'L,lfl,dfl,a'u];refine b'O T ?_;walk_at"";refine a'X _ _ e (atN l) ?_;walk_at"";refine⟨by omega,by omega,Loop.map (List.range ((i:Int) - 1+1).toNat) (λn:Nat=>Tr.int ((i:Int) - 1+n*-1)) (λj y=>∃a b,y=[shT T .f (shG rs us ss m),.int i,Enc.t e,.lst .o ((List.replicate j (0:Rat)).map Enc.t),a,b]) ⟨_,_,rfl⟩ ?_ ?_⟩
 .rintro j n y hj ⟨a,b,rfl⟩;obtain⟨A,rfl⟩:=e'O hj;have en:(i:Int) - 1+(j:Int)*-1=((i - 1 - j:Nat):Int):=by omega
  rw[en];walk_at""
  try simp only[a'I,a'L,lfl,dfl,a'u]
  refine a's T ⟨rfl,.f,rs,us,ss,m,e,i - 1 - j,_,inferInstance,rfl,s,c,λ_=>?_⟩;walk_at"";refine eqr ?_;walk_at"";have rep:List.replicate j (0:Rat)++[0]=0::List.replicate j 0:=(List.replicate_succ' (n:=j) (a:=(0:Rat))).symm;rw[rep,map_cons];exact⟨by rw[length_replicate];omega,_,_,rfl⟩
 .rintro y ⟨a,b,rfl⟩;rw[length_range,show ((i:Int) - 1+1).toNat=i by omega];walk_at"";simp only[a'I,a'L,lfl,dfl,a'u];refine a's T ⟨rfl,.f,.f,rs,us,ss,m,e,inferInstance,inferInstance,rfl,p,c.1,c.2.1,λ_=>?_⟩;rw[show (List.map Enc.t (List.replicate i (0:Rat))).reverse=List.map Enc.t (List.replicate i (0:Rat)) from by rw[map_replicate,List.reverse_replicate]];exact⟨c'a _,by rw[f'v,c'P];rfl,q _⟩
theorem i'K(T:Tx w K mg):∀C g,DSh T C g->MOkA P w K mg base CX0 6 "paper" C ["self","place"] (spP K true 0 2 (afh T)):=λC g h=>by
 obtain⟨rfl,rfl⟩:=h;exact⟨T.aaj,_,_,T.abi.t,g'l T,T.abi.b⟩
theorem d'd(rs:List ack)(us:List Str)(k:Int):C01 rs us (rkc us.length rs k):=by
 refine⟨by unfold rkc;rw[length_append,length_replicate,g'P],λc m=>?_⟩;unfold rkc at m;rcases mem_append.mp m with m |m
 .exact .inl (List.eq_of_mem_replicate m)
 .obtain⟨o,_,mo⟩:=List.mem_flatMap.mp m;simp only[mem_cons,not_mem_nil,or_false] at mo;rcases mo with rfl |rfl
  .unfold cb;split
   .split
    .exact .inl rfl
    .exact .inr rfl
   .exact .inl rfl
  .unfold ca;split
   .split
    .exact .inl rfl
    .exact .inr rfl
   .exact .inl rfl
def trm(ns:List Int)(p:List Int×Nat):Int:=ns.getD p.2 0*p.1.getD (p.1.length - 1) 0
theorem i'L(ns:List Int):∀a:List (List Int×Nat),(∀p∈a,0<=trm ns p/\trm ns p<=3)->0<=tot ns a/\tot ns a<=3*a.length/\(tot ns a=0↔∀p∈a,trm ns p=0)
 |[],_=>⟨Int.le_refl 0,Int.le_refl 0,λ_ _ m=>(nomatch m),λ_=>rfl⟩
 |p::a,h=>by
  obtain⟨d,c,b⟩:=i'L ns a λq m=>h q (.tail _ m)
  have f:=h p (.head _);have e:tot ns (p::a)=trm ns p+tot ns a:=rfl;refine⟨by omega,by rw[length_cons];omega,λz q m=>?_,λz=>?_⟩
  .rcases mem_cons.mp m with rfl |m
   .omega
   .exact b.mp (by omega) q m
  .have:=b.mpr λq m=>z q (.tail _ m)
   have:=z p (.head _);omega
theorem t'L(U R:Nat)(a:List (ack×Nat)):(lns U R a).zip (sns U a)=a.map λp=>(aet U R p.2 p.1.2.2.1.num,adG U p.2 p.1.2.2.1.num):=by
 unfold lns sns;rw[List.zip_map']
theorem x'k{ns:List Int}(h:afn ns)(j:Nat):0<=ns.getD j 0/\ns.getD j 0<=1:=by
 rw[getD_eq_getElem?_getD];cases z:ns[j]? with
 |none=>exact⟨Int.le_refl 0,by decide⟩
 |some v=>exact h.2 v (mem_of_getElem? z)
theorem i'M{rs:List ack}{us:List Str}(f:aek rs us){ns:List Int}{p:ack×Nat}(m:p∈rs.zipIdx):trm ns (aet us.length rs.length p.2 p.1.2.2.1.num,adG us.length p.2 p.1.2.2.1.num)=ns.getD (adG us.length p.2 p.1.2.2.1.num) 0*(p.1.2.2.1.num.natAbs:Int):=by
 obtain⟨i,d⟩:=getElem?_of_mem m;obtain⟨a,b⟩:=c'C d;have c:p.2<rs.length:=by rw[b];exact (List.getElem?_eq_some_iff.mp a).1
 obtain⟨e,g⟩:=k'U (U:=us.length) c (f.o _ (mem_of_getElem? a)).2.2.1;unfold trm;dsimp only;rw[e.1,getD_eq_getElem?_getD (l:=aet _ _ _ _),show us.length+2*rs.length+1 - 1=us.length+2*rs.length from rfl,g];rfl
theorem c'D{rs:List ack}{us:List Str}{cs:List Rat}(l:aek rs us)(h:C01 rs us cs):RwS (us.length+2*rs.length) (lfR rs us cs)/\∃(r:List Rat)(t:Int),lfR rs us cs=r++[Rat.divInt (-t) 1]/\0<=t/\t<=1000/\(t=0↔∀p∈rs.zipIdx,(cs.map Rat.num).getD (adG us.length p.2 p.1.2.2.1.num) 0*(p.1.2.2.1.num.natAbs:Int)=0):=by
 obtain⟨_,H,Y⟩:=h.i l;obtain⟨_,sn,e,d,c⟩:=(d'W l).left H Y;have O:sn=sns us.length rs.zipIdx:=by
  have v:sn.map Int.ofNat=(sns us.length rs.zipIdx).map Int.ofNat:=e.symm.trans (k'V _ _);exact (List.map_inj_right λx y z=>Int.ofNat.inj z).mp v
 subst O;have Q:(tb0 rs us).ls.zip (sns us.length rs.zipIdx)=rs.zipIdx.map λp=>(aet us.length rs.length p.2 p.1.2.2.1.num,adG us.length p.2 p.1.2.2.1.num):=t'L _ _ _
 rw[Q] at c;have A:=i'L (cs.map Rat.num) (rs.zipIdx.map λp=>(aet us.length rs.length p.2 p.1.2.2.1.num,adG us.length p.2 p.1.2.2.1.num)) λq D=>by
  obtain⟨p,f,rfl⟩:=mem_map.mp D;rw[i'M l f];have a:=x'k H (adG us.length p.2 p.1.2.2.1.num);obtain⟨i,U⟩:=getElem?_of_mem f;have b:=(l.o _ (mem_of_getElem? (c'C U).1)).2.2.1;rcases (show (cs.map Rat.num).getD (adG us.length p.2 p.1.2.2.1.num) 0=0\/(cs.map Rat.num).getD (adG us.length p.2 p.1.2.2.1.num) 0=1 by omega) with z |z
  .rw[z,zero_mul];exact⟨Int.le_refl 0,by decide⟩
  .rw[z,Int.one_mul];omega
 have M:=l.r;have B:(tb0 rs us).ls.length=rs.length:=by show (lns _ _ _).length=_;unfold lns;rw[length_map,length_zipIdx]
 have m:(rs.zipIdx.map λp=>(aet us.length rs.length p.2 p.1.2.2.1.num,adG us.length p.2 p.1.2.2.1.num)).length=rs.length:=by rw[length_map,length_zipIdx]
 have g:(tot (cs.map Rat.num) (rs.zipIdx.map λp=>(aet us.length rs.length p.2 p.1.2.2.1.num,adG us.length p.2 p.1.2.2.1.num))=0↔∀p∈rs.zipIdx,(cs.map Rat.num).getD (adG us.length p.2 p.1.2.2.1.num) 0*(p.1.2.2.1.num.natAbs:Int)=0):=by
  refine A.2.2.trans ⟨λz p f=>?_,λz q D=>?_⟩
  .rw[<- i'M l f];exact z _ (mem_map.mpr ⟨p,f,rfl⟩)
  .obtain⟨p,f,rfl⟩:=mem_map.mp D;rw[i'M l f];exact z p f
 have G:=A.1;have E:=A.2.1;rw[m] at E;rw[B] at c;generalize tot (cs.map Rat.num) (rs.zipIdx.map λp=>(aet us.length rs.length p.2 p.1.2.2.1.num,adG us.length p.2 p.1.2.2.1.num))=t at c g G E;unfold lfR;generalize lft (tb0 rs us) (cs.map Rat.num)=L at c;have sm:∀(j:Nat)(n:Int),L[j]?=some n->n.natAbs<2 ^ 10/\(j<us.length+2*rs.length->0<=n):=λj n e=>by
  have C:=(List.getElem?_eq_some_iff.mp e).1;rw[c.len] at C;by_cases I:j<us.length+2*rs.length
  .have:=c.lo j n I e;exact⟨by omega,λ_=>this.1⟩
  .have ej:j=us.length+2*rs.length:=by omega
   subst ej;rw[c.en] at e;cases e;exact⟨by omega,λz=>absurd z I⟩
 refine⟨⟨by rw[length_map,c.len],λx J=>?_,λj x C e=>?_⟩,(L.take (us.length+2*rs.length)).map (λn=>Rat.divInt n 1),t,?_,G,by omega,g⟩
 .obtain⟨n,mn,rfl⟩:=mem_map.mp J;obtain⟨j,e⟩:=getElem?_of_mem mn;exact le_trans (b'Y (k:=10) (by decide) (f'h (sm j n e).1) (by walk_at "k")) (by decide)
 .rw[getElem?_map] at e;cases z:L[j]? with
  |none=>rw[z] at e;cases e
  |some n=>
   rw[z] at e;cases e;exact Rat.divInt_nonneg ((sm j n z).2 C) (by decide)
 .have hd:L=L.take (us.length+2*rs.length)++[-t]:=by
   have s:us.length+2*rs.length<L.length:=by rw[c.len];omega
   have v:=List.take_append_drop (us.length+2*rs.length) L;rw[List.drop_eq_getElem_cons s,List.drop_eq_nil_of_le (by rw[c.len];omega)] at v;have N:L[us.length+2*rs.length]=-t:=by
    have:=c.en;rw[getElem?_eq_getElem s] at this;exact Option.some.inj this
   rw[N] at v;exact v.symm
  have u:=congrArg (List.map λn:Int=>Rat.divInt n 1) hd;rw[map_append] at u;exact u
def brk(o:ack):Prop:=o.2.2.2.1=0/\o.2.2.1.num≠0/\(0<=o.2.2.1.num->o.2.1≠"most")/\(o.2.2.1.num<0->o.2.1≠"least")
theorem i'N{j:Type}(f g:j->Rat):∀(xs:List j)(i:Nat)(x:j),xs[i]?=some x->(xs.flatMap λo=>[f o,g o])[2*i]?=some (f x)/\(xs.flatMap λo=>[f o,g o])[2*i+1]?=some (g x)
 |y::xs,0,x,h=>by cases h;exact⟨rfl,rfl⟩
 |y::xs,i + 1,x,h=>by
  have a:=i'N f g xs i x h;rw[List.flatMap_cons];rw[show 2*(i+1)=2+2*i by omega,show 2+2*i+1=2+(2*i+1) by omega,getElem?_append_right (by simp),getElem?_append_right (by simp)];simpa using a
theorem v'O(U:Nat)(rs:List ack)(k:Int){i:Nat}{o:ack}(h:rs[i]?=some o):((rkc U rs k).map Rat.num).getD (U+2*i) 0=(cb k o).num/\((rkc U rs k).map Rat.num).getD (U+2*i+1) 0=(ca k o).num:=by
 obtain⟨a,b⟩:=i'N (cb k) (ca k) rs i o h;unfold rkc;rw [getD_eq_getElem?_getD,getD_eq_getElem?_getD,getElem?_map,getElem?_map,getElem?_append_right (by rw [length_replicate];omega),getElem?_append_right (by rw [length_replicate];omega),length_replicate,
  show U+2*i - U=2*i by omega,show U+2*i+1 - U=2*i+1 by omega,a,b]
 exact⟨rfl,rfl⟩
theorem o'p(rs:List ack)(us:List Str):(∀p∈rs.zipIdx,((rkc us.length rs 0).map Rat.num).getD (adG us.length p.2 p.1.2.2.1.num) 0*(p.1.2.2.1.num.natAbs:Int)=0)↔∀o∈rs,¬ brk o:=by
 have e:∀(i:Nat)(o:ack),rs[i]?=some o->(((rkc us.length rs 0).map Rat.num).getD (adG us.length i o.2.2.1.num) 0*(o.2.2.1.num.natAbs:Int)=0↔¬ brk o):=λi o h=>by
  obtain⟨a,b⟩:=v'O us.length rs 0 h;unfold adG brk;by_cases f:0<=o.2.2.1.num
  .rw[if_pos f,a];unfold cb;by_cases c:o.2.2.2.1=0
   .rw[if_pos c];by_cases d:o.2.1="most"
    .rw[if_pos d];exact⟨λ_ z=>z.2.2.1 f d,λ_=>zero_mul _⟩
    .rw[if_neg d,show (1:Rat).num=1 from rfl,Int.one_mul];exact⟨λz y=>y.2.1 (by omega),λz=>by
      by_cases g:o.2.2.1.num=0
      .rw[g];rfl
      .exact absurd ⟨c,g,λ_=>d,λq=>by omega⟩ z⟩
   .rw[if_neg c];exact⟨λ_ z=>c z.1,λ_=>zero_mul _⟩
  .rw[if_neg f,b];unfold ca;by_cases c:o.2.2.2.1=0
   .rw[if_pos c];by_cases d:o.2.1="least"
    .rw[if_pos d];exact⟨λ_ z=>z.2.2.2 (by omega) d,λ_=>zero_mul _⟩
    .rw[if_neg d,show (1:Rat).num=1 from rfl,Int.one_mul];exact⟨λz y=>y.2.1 (by omega),λz=>absurd ⟨c,by omega,λq=>absurd q f,λ_=>d⟩ z⟩
   .rw[if_neg c];exact⟨λ_ z=>c z.1,λ_=>zero_mul _⟩
 refine⟨λz o mo=>?_,λz p j=>?_⟩
 .obtain⟨i,hi⟩:=getElem?_of_mem mo;refine (e i o hi).mp (z (o,i) (mem_of_getElem? (i:=i) ?_));rw[List.getElem?_zipIdx,hi];simp
 .obtain⟨i,hi⟩:=getElem?_of_mem j;obtain⟨a,b⟩:=c'C hi;rw[b];exact (e i p.1 a).mpr (z _ (mem_of_getElem? a))
theorem di1(n:Int):Rat.divInt n 1=(n:Rat):=by
 rw[Rat.divInt_eq_div,Rat.div_def,show ((1:Int):Rat)⁻¹=1 from by walk_at "k",Rat.mul_one]
theorem di0(t:Int):0 - Rat.divInt (-t) 1=(t:Rat):=by
 rw[di1,Rat.intCast_neg,Rat.sub_eq_add_neg,Rat.zero_add,Rat.neg_neg]
theorem MkOk.sh{C:Nat}{ss:List (List Rat)}{m d:List (Key×Option Int)}{L:List Int}(h:afF C ss m)(l:MkOk C L m d ss.length)(q:RwS C (L.map λn=>Rat.divInt n 1)):afF C (ss++[L.map λn=>Rat.divInt n 1]) d where
 r:=λf a=>by
  rcases mem_append.mp a with z |z
  .exact h.r f z
  .rw[mem_singleton.mp z];exact q
 m:=λp o=>by
  rcases l p o with z |⟨e,j,s,c,v,g,b⟩
  .obtain⟨kn,j,e1,e2,c,row,v,e3,e4,b⟩:=h.m p z;exact⟨kn,j,e1,e2,c,row,v,by rw[getElem?_append_left (List.getElem?_eq_some_iff.mp e3).1];exact e3,e4,b⟩
  .refine⟨ss.length,j,e,s,c,L.map λn=>Rat.divInt n 1,Rat.divInt v 1,by rw[getElem?_append_right (le_refl _),sub_self];rfl,by rw[getElem?_map,g];rfl,?_⟩;rw[di1];exact Rat.intCast_pos.mpr b
theorem v'P(C:Nat):afF C [] []:=⟨λ_ m=>(nomatch m),λ_ m=>(nomatch m)⟩
theorem i'O(T:Tx w K mg){f g:Fl}{rs:List ack}{us:List Str}[Fp f][Fp g](a:aek rs us){R:Tr->Prop}(q:R (shT T .o (sh0 rs us))):ahF T [.ins .o T.aah [],.lst f (rs.map Enc.t),.lst g (us.map Enc.t)] λt b=>t=.non/\agQ b[0]? R:=⟨rfl,f,g,rs,us,‹_›,‹_›,rfl,a,λj e=>⟨rfl,by rw[e];exact⟨d'S T _,q⟩⟩⟩
def mus(rs:List ack)(us:List Str):List Rat:=lfR rs us (rkc us.length rs 0)
def ajt(T:Tx w K mg):PSp:=ade 2 λa Q=>∃(f g:Fl)(rs:List ack)(us:List Str)(_:Fp f)(_:Fp g),a=[.lst f (rs.map Enc.t),.lst g (us.map Enc.t)]/\aek rs us/\∀m:List (Key×Option Int),m.length<=100->afF (us.length+2*rs.length) [mus rs us] m->Q (shT T .o (shG rs us [mus rs us] m))
theorem c'E(T:Tx w K mg){z:Bool}:FnOk P w K mg base CX0 6 T.aaG.a T.aaG.d ["rows","unknowns"] (spP K z 0 2 (ajt T)):=by
 refine a'q T.aaG.F ac0 rfl (by decide) λ_ _ _ _ _ _ m=>?_
 have D:=a'l m;refine⟨_,(a'c (a'V (i:=2) ac0.nd (by decide) rfl (Or.inl rfl) (f'r T.aa8.t ((c'h T).mono (by omega)) (by walk_at "z") (λ_ _ h=>h.1) m rfl T.aai T.aa8.b (QA.frz (a'a (qv 0) (a'a (qv 1) a'b)))))
  (a'c (f'X (c't (a't 2) ((λC g d=>MOkA.mono (c'L T C g d) (by omega))) (by walk_at "z") (λ_ _ _ h=>h.1) m (d'O (a'A ((λC g d=>MOkA.mono (d'v T C g d) (by omega))) (by walk_at "z") (λ_ _ _ h=>h.1) m (qv 2) (QA.frz (a'a (c'O rfl T.abx) a'b))) d'c)))
  (a'f (b'N (c'm 2))))),?_⟩
 rintro B A _ ⟨_,f,g,rs,us,_,_,rfl,c,q⟩;walk_at"";refine i'O T c ⟨e'N T _,c'B rfl (by intro z;cases z) (a's T ?_)⟩;walk_at"";simp only[a'I,a'L,lfl,dfl,a'u];have x:=c.r;have v:=c.u;have n:=d'd rs us 0;refine a's T ⟨rfl,.l false,rs,us,[],[],_,inferInstance,rfl,c,λ_=>?_⟩;walk_at"";refine⟨rfl,.f,rs,us,[],[],_,inferInstance,rfl,c,n,by simp,by simp,λs o p j e=>?_⟩;dsimp only;rw[e,a'u];refine⟨d'S T _,?_⟩;rw[a'u];have y:=(c'D c n).1;rw[n.1] at p o;exact⟨d'S T _,q s (by simp at o;omega) (MkOk.sh (v'P _) p y) _⟩
def rw0:ack:=([],"",0,0,1)
def pick(rs:List ack)(ks:List Int):List ack:=ks.map λk=>rs.getD k.toNat rw0
def Val(rs:List ack)(ks:List Int):Prop:=∀k∈ks,0<=k/\k.toNat<rs.length
theorem i'P{rs:List ack}{ks:List Int}(h:Val rs ks){k:Int}(m:k∈ks):atI rs k=some (rs.getD k.toNat rw0):=by
 obtain⟨a,b⟩:=h k m;rw[i'q rs a b,getD_eq_getElem?_getD,getElem?_eq_getElem b];rfl
theorem g'm{rs:List ack}{us:List Str}{ks:List Int}(a:∀o∈rs,ad2 o)(d:us.length<=10)(b:ks.length<=16)(c:Val rs ks):aek (pick rs ks) us where
 r:=by unfold pick;rw[length_map];exact b
 u:=d
 o:=λo m=>by
  obtain⟨k,mk,rfl⟩:=mem_map.mp m;rw[getD_eq_getElem?_getD,getElem?_eq_getElem (c k mk).2];exact a _ (List.getElem_mem _)
def dK(d:List (Int×Rat)):List (Key×Tr):=d.map λp=>((Sum.inl p.1:Key),Enc.t p.2)
theorem c'e(d:List (Int×Rat)):Clk (dK d)=true:=by
 have:=a'E (d.map λp=>((Sum.inl p.1:Key),p.2));rw[map_map] at this;exact this
def agR(d:List (Int×Rat))(y:Int)(k:Rat):List (Int×Rat):=if (d.any λp=>decide (p.1=y))=true then d.map (λp=>if p.1=y then (p.1,k) else p) else d++[(y,k)]
theorem v'Q(d:List (Int×Rat))(y:Int)(k:Rat):ad8 (dK d) (Sum.inl y) (Enc.t k)=dK (agR d y k):=by
 unfold ad8 agR;have e:((dK d).any λa=>decide (a.1=(Sum.inl y:Key)))=d.any λp=>decide (p.1=y):=by
  unfold dK;rw[List.any_map];congr 1;funext p;exact decide_eq_decide.mpr ⟨λz=>Sum.inl.inj z,λz=>by show (Sum.inl p.1:Key)=_;rw[z]⟩
 rw[e];split
 .unfold dK;rw[map_map,map_map];refine List.map_congr_left λp _=>?_
  show (if (Sum.inl p.1:Key)=Sum.inl y then ((Sum.inl p.1:Key),Enc.t k) else (Sum.inl p.1,Enc.t p.2))=(Sum.inl (if p.1=y then (p.1,k) else p).1,Enc.t (if p.1=y then (p.1,k) else p).2)
  by_cases h:p.1=y
  .rw[if_pos h,if_pos (by rw[h])]
  .rw[if_neg h,if_neg (λz=>h (Sum.inl.inj z))]
 .unfold dK;rw[map_append];rfl
theorem q'l(d:List (Int×Rat))(y:Int)(k:Rat):(agR d y k).length<=d.length+1:=by
 unfold agR;split
 .rw[length_map];omega
 .rw[length_append];exact le_refl _
theorem q'm{d:List (Int×Rat)}{y:Int}{k:Rat}{ks:List Int}(h:∀p∈d,p.1∈ks)(a:y∈ks):∀p∈agR d y k,p.1∈ks:=λp m=>by
 unfold agR at m;split at m
 .obtain⟨p',mp,rfl⟩:=mem_map.mp m;split
  .exact h p' mp
  .exact h p' mp
 .rcases mem_append.mp m with z |z
  .exact h p z
  .rw[mem_singleton.mp z];exact a
theorem v'R{rs:List ack}{us:List Str}{a:List Rat}(c:Bd a):∀x∈prs rs us a,bs x<=300:=λx m=>by
 obtain⟨i,_,rfl⟩:=mem_map.mp m;have b:∀j:Nat,bs (a.getD j 0)<=100:=λj=>by
  rw[getD_eq_getElem?_getD];cases z:a[j]? with
  |none=>show bs 0<=100;rw[b'z];decide
  |some y=>exact c y (mem_of_getElem? z)
 have d:=b (us.length+2*i);have f:=b (us.length+2*i+1);unfold prc;have e:bs (-1:Rat)=1:=by walk_at "k"
 have g:bs (Rat.divInt 1 2)<=10:=by walk_at "k"
 split
 .have:=h'z (a.getD (us.length+2*i+1) 0) 1;rw[m'n] at this;omega
 .split
  .have:=h'z (a.getD (us.length+2*i) 0) (-1);omega
  .have:=h'z (a.getD (us.length+2*i+1) 0 - a.getD (us.length+2*i) 0) (Rat.divInt 1 2);have:=h'y (a.getD (us.length+2*i+1) 0) (a.getD (us.length+2*i) 0);omega
theorem x'l{t:Int}(a:0<=t)(b:t<=1000):bs (t:Rat)<=10:=by
 rw[<- di1];exact b'Y (by decide) (f'h (by omega)) (by walk_at "k")
theorem r'E{t:Int}(a:0<=t)(b:t<=1000):bs (Rat.divInt (-t) 1)<=10:=b'Y (by decide) (f'h (by omega)) (by walk_at "k")
theorem x'm(T:Tx w K mg)(S:TbS):Pu.frz (tbT T .o S)=tbT T .f S:=by
 unfold tbT tbF;show Tr.ins .f _ (frzf _)=_;simp only[frzf,e_f,f'S,show Pu.frz (.dic .o (mT S.m))=.dic .f (mT S.m) from by show Tr.dic .f (frzk _)=_;rw[show frzk (mT S.m)=mT S.m from (clok _ (a'E S.m)).f]]
theorem q'n(T:Tx w K mg)(S:ShS):Pu.frz (shT T .o S)=shT T .f S:=by
 unfold shT shF;show Tr.ins .f _ (frzf _)=_;simp only[frzf,e_f,x'm,a'w];rfl
def agF:PSp:=ade 3 λa Q=>∃(f g h:Fl)(rs:List ack)(us:List Str)(ks:List Int)(_:Fp f)(_:Fp g)(_:Fp h),a=[.lst f (rs.map Enc.t),.lst g (us.map Enc.t),.lst h (ks.map Enc.t)]/\(∀o∈rs,ad2 o)/\us.length<=10/\ks.length<=16/\Val rs ks/\∀d:List (Int×Rat),(∀p∈d,p.1∈ks)->d.length<=ks.length->Q (.dic .o (dK d))
theorem d'e(T:Tx w K mg){z:Bool}:FnOk P w K mg base CX0 7 T.aaH.a T.aaH.d ["rows","unknowns","numbers"] (spP K z 0 3 agF):=by
 refine a'q T.aaH.F acs rfl (by decide) λ_ _ _ _ _ _ c=>?_
 have H:=a'l c;refine⟨_,(a'c (a'h (i:=3) acs.nd (by decide) rfl (Or.inl rfl) (a'j ((c'E T).mono (by omega)) (by walk_at "z") (λ_ _ h=>h.1) c rfl T.aaG.m T.aaG.F.kp T.aaG.b (QA.frz (a'a (a'P (N:=["number","rows"]) (ix:=[none,some 0]) rfl (b'd (qv 2)) (a'D (i:=0) (by decide) rfl) (λ_ _ _ _ _=>a'v) (λ_ _ _ _ _=>(a'i H (qv 1) (qv 0) (λ_ _=>rfl))) ⟨rfl,rfl,rfl,True.intro⟩) (a'a (qv 1) a'b)))))
  (a'c (a'h (i:=4) acs.nd (by decide) rfl (Or.inl rfl) (a'A ((λC g d=>MOkA.mono (e'U T C g d) (by omega))) (by walk_at "z") (λ_ _ _ h=>h.1) c (qv 3) (QA.frz (a'a a'd a'b))))
  (a'c (a'V (i:=5) acs.nd (by decide) rfl (Or.inl rfl) d'H)
  (a'c (a'C (a'k (b'b c.units) a'r (qv 4) (b'k [0,1] rfl T.abo T.abp) (by walk_at "u")) (a'f (b'N (c'm 5))) a'p)
  (a'c (b'j PassesOwn.never rfl (h'Z rfl T.ace (a'a (qv 2) (a'a (a'A ((λC g d=>MOkA.mono (g'Q T C g d) (by omega))) (by walk_at "z") (λ_ _ _ h=>h.1) c (qv 3) (QA.frz (a'a (a'i H (a'o K rfl (qv 3)) a'd (λ_ _=>rfl)) a'b))) a'b))) (d'J (n:=2) rfl (a'B (a'R (i:=6) acs.nd (by decide) rfl (Or.inl rfl)) (a'B (a'R (i:=7) acs.nd (by decide) rfl (Or.inl rfl)) b'F))) (a'f (a'C (a'k (c'N c.units) b't (qv 7) (b'k [0,1] rfl T.abo T.abp) (by walk_at "u")) (a'f (h'j H (a't 5) (qv 6) (a'j ((k'O T).mono (by omega)) (by walk_at "z") (λ_ _ h=>h.1) c rfl T.aaB.m T.aaB.F.kp T.aaB.b (QA.frz (a'a (qv 7) (a'a (qv 4) a'b)))))) a'p)))
  (a'f (b'N (c'm 5)))))))),?_⟩
 rintro U Y _ ⟨_,f,g,h,rs,us,ks,_,_,_,rfl,A,E,B,J,q⟩;have s:=g'm A E B J;walk_at"";refine CLoop.map ks _ (λk=>rs.getD k.toNat rw0) (by omega) (λk mk R s=>?_) ?_
 .walk_at"";exact a'X _ _ _ (i'P J mk) s
 walk_at"";refine⟨rfl,.f,g,pick rs ks,us,inferInstance,‹_›,rfl,s,λm y Q _=>?_⟩;obtain⟨e,r,t,D,L,M,_⟩:=c'D s (d'd (pick rs ks) us 0);have O:=s.r;have l:mus (pick rs ks) us=r++[Rat.divInt (-t) 1]:=D;rw[q'n];simp only[a'I,a'L,lfl,dfl,a'u];refine⟨e'N T _,a's T ⟨rfl,.f,_,0,r,_,inferInstance,rfl,congrArg some l,le_trans (r'E L M) (by decide),λ_=>?_⟩⟩;rw[di0];walk_at"";refine⟨rfl,eqr ?_⟩;walk_at"";by_cases v:(t:Rat)=0
 .rw[if_pos (decide_eq_true v)];exact⟨rfl,q [] (λ_ m=>(nomatch m)) (zero_le _) _⟩
 .rw[if_neg (by simpa using v)];refine a's T (b'O T ?_);show ad0 (Tr.lst .f [Enc.t (mus (pick rs ks) us)]) (Tr.int 0) _;walk_at"";refine⟨rfl,.f,.f,pick rs ks,us,_,m,mus (pick rs ks) us,inferInstance,inferInstance,rfl,by omega,e.1,e.2.1,λ_=>?_⟩;have G:=v'R (rs:=pick rs ks) (us:=us) e.2.1;dsimp only;rw[a'w,Bool.true_and,b'p,b'M,d'a];refine⟨b'e _,Loop.map (ks.zip (prs (pick rs ks) us (mus (pick rs ks) us))) _ (λi j=>∃(d:List (Int×Rat))(a b:Tr),j=[.lst f (rs.map Enc.t),.lst g (us.map Enc.t),.lst h (ks.map Enc.t),shT T .f (shG (pick rs ks) us [mus (pick rs ks) us] m),Enc.t (t:Rat),.dic .o (dK d),a,b]/\(∀p∈d,p.1∈ks)/\d.length<=i) ⟨[],_,_,rfl,λ_ m=>(nomatch m),le_refl _⟩ ?_ ?_⟩
  .rintro i ⟨k,x⟩ j hi ⟨d,a,b,rfl,hd,hdl⟩;have y:=of_mem_zip (mem_of_getElem? hi);have u:=(List.getElem?_eq_some_iff.mp hi).1;rw[length_zip] at u;walk_at"";refine eqr ?_;walk_at"";by_cases I:x=0
   .rw[if_neg (by simp[I])];exact⟨d,_,_,rfl,hd,by omega⟩
   .rw[if_pos (by simp[I])];have:=G x y.2;have:=x'l L M;refine⟨rfl,x,(t:Rat),rfl,v,by omega,λ_=>?_⟩;dsimp only;rw[e_f,v'Q];exact⟨e_t _,by unfold dK;rw[length_map];omega,_,_,_,rfl,q'm hd y.1,le_trans (q'l _ _ _) (by omega)⟩
  .rintro j ⟨d,a,b,rfl,hd,hdl⟩;walk_at"";rw[length_zip] at hdl;exact⟨(clok _ (c'e d)).o,q d hd (by omega) _⟩
theorem v'S(d:List (Int×Rat)):Pu.frz (.dic .o (dK d))=.dic .f (dK d):=by show Tr.dic .f (frzk _)=_;rw[show frzk (dK d)=dK d from (clok _ (c'e d)).f]
def afG:PSp:=ade 3 λa Q=>∃(f g h:Fl)(rs:List ack)(us:List Str)(ks:List Int)(_:Fp f)(_:Fp g)(_:Fp h),a=[.lst f (rs.map Enc.t),.lst g (us.map Enc.t),.lst h (ks.map Enc.t)]/\(∀o∈rs,ad2 o)/\us.length<=10/\ks.length<=16/\Val rs ks/\∀d:List (Int×Rat),Q (.dic .f (dK d))
theorem g'n(T:Tx w K mg):FnOk P w K mg base CX0 8 T.aaI.a T.aaI.d ["rows","unknowns","numbers"] (spP K true 0 3 afG):=by
 refine a'q T.aaI.F acv rfl (by decide) λ_ _ _ _ _ _ D=>?_
 have J:=a'l D;refine⟨_,(a'c (a'h (i:=3) acv.nd (by decide) rfl (Or.inl rfl) (a'j ((d'e T).mono (by omega)) (by walk_at "z") (λ_ _ h=>h.1) D rfl T.aaH.m T.aaH.F.kp T.aaH.b (QA.frz (a'a (qv 0) (a'a (qv 1) (a'a (qv 2) a'b))))))
  (a'c (b'j PassesOwn.never rfl (b'd (b'n (b'm rfl) a'M rfl T.aca rfl (a'a (qv 3) a'b))) (a'R (i:=4) acv.nd (by decide) rfl (Or.inr rfl)) (a'f (a'C (a'k (w'X J) u'S (qv 4) (qv 3) (by walk_at "u")) (a'c (a'h (i:=5) acv.nd (by decide) rfl (Or.inl rfl) (a'j ((d'e T).mono (by omega)) (by walk_at "z") (λ_ _ h=>h.1) D rfl T.aaH.m T.aaH.F.kp T.aaH.b (QA.frz (a'a (qv 0) (a'a (qv 1) (a'a (p'R rfl (s'r (j'y (N:=["other","number"]) (ix:=[none,some 4]) rfl (s'q (pv 3)) (λ_ _ _ _ _=>f'E (show (["other","number"]:List Str).Nodup by decide) rfl (.inl rfl) (.inr rfl)) (λ_ _ _ _ _=>j'x (j'p ag0 (pv 0) (pv 1) (u'k _))) (λ_ _ _ _ _=>pv 0) ⟨rfl,rfl,rfl,True.intro⟩))) a'b))))))
  (a'f (a'h (i:=3) acv.nd (by decide) rfl (Or.inl rfl) (h'h (v'G rfl (qv 5)) (qv 5) (qv 3))))) a'p)))
  (a'f (a'm (qv 3))))),?_⟩
 rintro L M _ ⟨_,f,g,h,rs,us,ks,_,_,_,rfl,v,y,B,G,q⟩;walk_at"";refine⟨rfl,f,g,h,rs,us,ks,‹_›,‹_›,‹_›,rfl,v,y,B,G,λd hd H _=>?_⟩;dsimp only;rw[v'S];walk_at"";have r:∀d:List (Int×Rat),(dK d).map (λp=>aea p.1)=(d.map (·.1)).map Enc.t:=λd=>by
  unfold dK;rw[map_map,map_map];rfl
 have C:∀d:List (Int×Rat),(dK d).map (·.1)=(d.map (·.1)).map λn=>(Sum.inl n:Key):=λd=>by
  unfold dK;rw[map_map,map_map];rfl
 refine⟨(clok _ (c'e d)).t,?_⟩;rw[k'L,r,a'w,b'p,b'M];refine⟨b'e _,Loop.map (d.map (·.1)) _ (λ_ j=>∃(c:List (Int×Rat))(a b:Tr),j=[.lst f (rs.map Enc.t),.lst g (us.map Enc.t),.lst h (ks.map Enc.t),.dic .f (dK c),a,b]/\(∀p∈c,p.1∈ks)/\c.length<=16) ⟨d,_,_,rfl,hd,by omega⟩ ?_ ?_⟩
 .rintro i k j hi ⟨c,a,b,rfl,hd',hl'⟩;walk_at"";show if ((look (dK c) (Sum.inl k)).isSome)=true then _ else _
  split
  .refine⟨dK c,c.map (·.1),k,rfl,C c,rfl,by rw[length_map];omega,?_⟩;have l:Val rs ((c.map (·.1)).filter λx=>!decide (x=k)):=λx z=>by
    obtain⟨p,u,rfl⟩:=mem_map.mp (mem_filter.mp z).1;exact G _ (hd' p u)
   have e:((c.map (·.1)).filter λx=>!decide (x=k)).length<=16:=le_trans (length_filter_le _ _) (by rw[length_map];exact hl');have s:∀x∈(c.map (·.1)).filter (λx=>!decide (x=k)),x∈ks:=λx z=>by
    obtain⟨p,u,rfl⟩:=mem_map.mp (mem_filter.mp z).1;exact hd' p u
   generalize (c.map (·.1)).filter (λx=>!decide (x=k))=fs at l e s ⊢;have I:dns (frzs (fs.map Tr.int))=fs.map Enc.t:=by rw[show fs.map Tr.int=fs.map Enc.t from rfl,f'O,f'P]
   rw[I];refine⟨rfl,f,g,.f,rs,us,fs,‹_›,‹_›,inferInstance,rfl,v,y,e,l,λE A hl2 _=>?_⟩;dsimp only;rw[v'S];walk_at"";refine⟨(clok _ (c'e E)).t,?_⟩;split
   .exact⟨(clok _ (c'e E)).t,E,_,_,rfl,λp u=>s _ (A p u),by omega⟩
   .exact⟨(clok _ (c'e c)).t,c,_,_,rfl,hd',hl'⟩
  .exact⟨c,_,_,rfl,hd',hl'⟩
 .rintro j ⟨c,a,b,rfl,hd',hl'⟩;walk_at"";exact⟨(clok _ (c'e c)).o,q c _⟩
theorem e's(T:Tx w K mg):FnOk P w K mg base CX0 1 T.abR.a T.abR.d ["self","numbers","weights"] (aiC K T.abN):=by
 refine T.abR.F.ok e'p (λvs H Q E h=>?_) λcdv A outer s H vs Q E c h=>?_
 .obtain⟨_,_,_,_,_,rfl,_⟩:=h;rfl
 .obtain⟨e,a,b,xs,ys,rfl,he,ha,hb,q⟩:=h;exact⟨_,b'R (c'o (w'J T.abR.t rfl T.abH (b's (pv 0) (b's l'P b'J)))) (b'R (r'w T.abR.t T.abS (pv 0) (b'u ac2 rfl T.aca rfl (b's (pv 1) b'J)) rfl) (e'b (r'w T.abR.t T.abT (pv 0) (b'u ac2 rfl T.aca rfl (b's (pv 2) b'J)) rfl))),t'z (Q:=Q) he ha hb q⟩
def Bad(rs:List ack)(ks:List Int):Prop:=∃o∈pick rs ks,brk o
def aiI(T:Tx w K mg):adM:=λa Q q=>a.length=3/\∃(f g h:Fl)(rs:List ack)(us:List Str)(ks:List Int)(_:Fp f)(_:Fp g)(_:Fp h),a=[.lst f (rs.map Enc.t),.lst g (us.map Enc.t),.lst h (ks.map Enc.t)]/\(∀o∈rs,ad2 o)/\us.length<=10/\ks.length<=16/\Val rs ks/\(Bad rs ks->q (.ref T.abN))/\
 (¬ Bad rs ks->∀m:List (Key×Option Int),m.length<=100->afF (us.length+2*(pick rs ks).length) [mus (pick rs ks) us] m->∀j,Q (shT T .o (shG (pick rs ks) us [mus (pick rs ks) us] m)) j)
theorem d'Z(T:Tx w K mg):FnOk P w K mg base (CX1 P w) 9 T.aaJ.a T.aaJ.d ["rows","unknowns","numbers"] (spX K true 0 3 (aiI T)):=by
 refine c'k T.aaJ.F adR rfl (by decide) λ_ _ _ _ _ _ q n=>?_
 have J:=a'l n;refine⟨_,(a'c (a'V (i:=3) adR.nd (by decide) rfl (Or.inl rfl) (a'j ((c'E T).mono (by omega)) (by walk_at "z") (λ_ _ h=>h.1) n rfl T.aaG.m T.aaG.F.kp T.aaG.b (QA.frz (a'a (a'P (N:=["number","rows"]) (ix:=[none,some 0]) rfl (b'd (qv 2)) (a'D (i:=0) (by decide) rfl) (λ_ _ _ _ _=>a'v) (λ_ _ _ _ _=>(a'i J (qv 1) (qv 0) (λ_ _=>rfl))) ⟨rfl,rfl,rfl,True.intro⟩) (a'a (qv 1) a'b)))))
  (a'c (a'C (a'k (b'b n.units) a'r (a'A ((λC g d=>MOkA.mono (e'U T C g d) (by omega))) (by walk_at "z") (λ_ _ _ h=>h.1) n (qv 3) (QA.frz (a'a a'd a'b))) (b'k [0,1] rfl T.abo T.abp) (by walk_at "u")) (a'f (b'N (c'm 3))) a'p)
  (a'c (a'h (i:=4) adR.nd (by decide) rfl (Or.inl rfl) (a'j ((g'n T).mono (by omega)) (by walk_at "z") (λ_ _ h=>h.1) n rfl T.aaI.m T.aaI.F.kp T.aaI.b (QA.frz (a'a (qv 0) (a'a (qv 1) (a'a (a'P (N:=["number","rows"]) (ix:=[none,some 0]) rfl (b'd (qv 2)) (a'D (i:=0) (by decide) rfl) (λ_ _ _ _ _=>(e'k (a'k (b'b n.units) a'r (a'i J (a'i J (qv 1) (qv 0) (λ_ _=>rfl)) a'd (λ_ _=>rfl)) (c'O rfl T.abx) (by walk_at "u")))) (λ_ _ _ _ _=>(qv 0)) ⟨rfl,rfl,rfl,True.intro⟩) a'b))))))
  (a'f (p'P rfl rfl rfl rfl rfl rfl T.abO T.abR.t ((e's T).mono (by omega)) n T.abR.b (a'a (b'n (b'm rfl) a'M rfl T.aca rfl (a'a (qv 4) a'b)) (a'a (x'b rfl rfl T.aca (qv 4)) a'b))))))),?_⟩
 rintro xs Q' _ ⟨_,f,g,h,rs,us,ks,_,_,_,rfl,p,y,u,D,q1,U⟩;have E:=g'm p y u D;walk_at"";refine CLoop.map ks _ (λk=>rs.getD k.toNat rw0) (by omega) (λk mk R E=>?_) ?_
 .walk_at"";exact a'X _ _ _ (i'P D mk) E
 walk_at"";refine⟨rfl,.f,g,pick rs ks,us,inferInstance,‹_›,rfl,E,λm Q L _=>?_⟩;obtain⟨α,r,t,I,Y,t1,c⟩:=c'D E (d'd (pick rs ks) us 0);rw[o'p] at c;have s:mus (pick rs ks) us=r++[Rat.divInt (-t) 1]:=I
 try simp only[a'I,a'L,lfl,dfl,a'u]
 refine⟨e'N T _,a's T ⟨rfl,.l false,_,0,r,_,inferInstance,rfl,congrArg some s,le_trans (r'E Y t1) (by decide),λ_=>?_⟩⟩;rw[di0];walk_at"";refine eqr ?_;walk_at"";by_cases B:(t:Rat)=0
 .rw[if_pos (decide_eq_true B)];have H:t=0:=Rat.intCast_eq_zero_iff.mp B;refine⟨d'S T _,U (λ⟨o,mo,G⟩=>c.mp H o mo G) m Q L _⟩
 .rw[if_neg (by simpa using B)];have v:Bad rs ks:=by
   refine Classical.byContradiction λz=>B ?_
   rw[c.mpr λo mo G=>z ⟨o,mo,G⟩];rfl
  have j:Val rs (ks.filter λk=>decide ((rs.getD k.toNat rw0).2.2.2.1=0)):=λx O=>D x (mem_filter.mp O).1
  have e:(ks.filter λk=>decide ((rs.getD k.toNat rw0).2.2.2.1=0)).length<=16:=le_trans (length_filter_le _ _) u;refine CLoop.filter ks Enc.t (λk=>decide ((rs.getD k.toNat rw0).2.2.2.1=0)) id (by omega) (λk mk A R M h2=>?_) ?_
  .walk_at"";refine a'X _ _ _ (i'P D mk) ?_;walk_at"";split
   .next z=>exact M z
   .next z=>exact h2 (by simpa using z)
  .rw[List.map_id];generalize (ks.filter λk=>decide ((rs.getD k.toNat rw0).2.2.2.1=0))=fs at j e;rw[a'w,e_d];refine⟨rfl,f,g,.f,rs,us,fs,‹_›,‹_›,inferInstance,rfl,p,y,e,j,λd _=>⟨(clok _ (c'e d)).t,?_⟩⟩;walk_at"";rw[k'L];exact q1 v
def gls(us:List Str):List (Int ⊕ Str):=([1,2,3,4]:List Int).map Sum.inl++us.map Sum.inr
theorem t'M(us:List Str):(([1,2,3,4]:List Int).map Enc.t++us.map Enc.t)=(gls us).map Enc.t:=by
 unfold gls;rw[map_append,map_map,map_map];rfl
def agG:PSp:=ade 1 λa Q=>∃(f:Fl)(us:List Str)(_:Fp f),a=[.lst f (us.map Enc.t)]/\us.length<=100/\Q (.lst .o ((gls us).map Enc.t))
theorem j'j(T:Tx w K mg){z:Bool}:FnOk P w K mg base CX0 1 T.aaK.a T.aaK.d ["unknowns"] (spP K z 0 1 agG):=by
 refine a'q T.aaK.F j'g rfl (by decide) λ_ _ _ _ _ _ c=>?_
 have h:=a'l c;refine⟨_,(a'f (a'm (a'H (w'L rfl rfl T.aca rfl T.ab7 (a'a a'd (a'a (a'H (c'O rfl T.abz) a'd) a'b))) (b'n (b'm rfl) a'M rfl T.aca rfl (a'a (qv 0) a'b))))),?_⟩;rintro g e _ ⟨_,f,us,_,rfl,b,q⟩;walk_at"";refine⟨1,4,rfl,rfl,by decide,by decide,by decide,?_⟩;dsimp only;rw[show (List.range 4).map (λi:Nat=>Tr.int (1+i))=([1,2,3,4]:List Int).map Enc.t from rfl,f'p,t'M];exact⟨by rw[length_map,length_map];show 4+us.length<=1000000;omega,c'P _,q _⟩
def gcs(rs:List ack)(us vs:List Str):List (List Rat):=([0,1,2,3,4]:List Int).map (rkc us.length rs)++vs.map λu=>suc us rs.length [(u,1)]
theorem v'T(rs:List ack)(us:List Str)(u:Str):C01 rs us (suc us rs.length [(u,1)]):=by
 refine⟨by unfold suc;rw[length_append,length_replicate,length_map],λc m=>?_⟩;unfold suc at m;rcases mem_append.mp m with m |m
 .obtain⟨x,_,rfl⟩:=mem_map.mp m;by_cases e:u=x
  .rw[s'f (p:=(u,(1:Rat))) e];exact .inr rfl
  .left;simp[gtd,e]
 .exact .inl (List.eq_of_mem_replicate m)
theorem o'q{rs:List ack}{us vs:List Str}:∀cs∈gcs rs us vs,C01 rs us cs:=λcs m=>by
 unfold gcs at m;rcases mem_append.mp m with m |m
 .obtain⟨k,_,rfl⟩:=mem_map.mp m;exact d'd rs us k
 .obtain⟨u,_,rfl⟩:=mem_map.mp m;exact v'T rs us u
def aeg(x:List Rat):Tr:=.lst .o (x.map Enc.t)
theorem g'o:∀B:List (List Rat),frzs (B.map aeg)=B.map Enc.t
 |[]=>rfl
 |x::B=>by show Pu.frz (.lst .o (x.map Enc.t))::frzs (B.map aeg)=Enc.t x::_;rw[a'w,g'o B]
theorem i'Q:∀(A B:List Tr),frzs (A++B)=frzs A++frzs B
 |[],_=>rfl
 |a::A,B=>by show Pu.frz a::frzs (A ++ B)=_;rw[i'Q A B];rfl
theorem r'F(A B:List (List Rat)):Pu.frz (.lst .o (A.map Enc.t++B.map aeg))=.lst .f ((A++B).map Enc.t):=by
 show Tr.lst .f (frzs _)=_;rw[i'Q,f'O,g'o,map_append]
theorem own_f(B:List (List Rat)):Pu.frz (.lst .o (B.map aeg))=Enc.t B:=by
 show Tr.lst .f (frzs _)=_;rw[g'o];rfl
theorem o'r:∀B:List (List Rat),nlts (B.map aeg)=true
 |[]=>rfl
 |x::B=>by show (nlts (x.map Enc.t)&&nlts (B.map aeg))=true;rw[b'e,o'r B];rfl
theorem o's:∀B:List (List Rat),nols (B.map aeg)=true
 |[]=>rfl
 |x::B=>by show (nols (x.map Enc.t)&&nols (B.map aeg))=true;rw[c'P,o's B];rfl
theorem i'R:∀A B:List Tr,nols (A++B)=(nols A&&nols B)
 |[],_=>rfl
 |a::A,B=>by show (nol a&&nols (A ++ B))=(nol a&&nols A&&nols B);rw[i'R A B,Bool.and_assoc]
def agH(T:Tx w K mg):PSp:=ade 2 λa Q=>∃(f g:Fl)(rs:List ack)(us vs:List Str)(ss:List (List Rat))(m:List (Key×Option Int))(_:Fp f)(_:Fp g),a=[shT T f (shG rs us ss m),.lst g (vs.map Enc.t)]/\aek rs us/\vs.length<=100/\Q (.lst .o ((([0,1,2,3,4]:List Int).map (rkc us.length rs)).map Enc.t++(vs.map λu=>suc us rs.length [(u,1)]).map aeg))
theorem d'w(T:Tx w K mg){z:Bool}:FnOk P w K mg base CX0 4 T.aaL.a T.aaL.d ["sheet","unknowns"] (spP K z 0 2 (agH T)):=by
 refine a'q T.aaL.F adt rfl (by decide) λ_ _ _ _ _ _ b=>?_
 have r:=a'l b;refine⟨_,(a'c (b'G (i:=2) (N:=["rank","sheet"]) (ix:=[none,some 0]) adt.nd (by decide) rfl (Or.inl rfl) rfl (w'C rfl T.ab7 (a'a (c'O rfl T.abx) (a'a (a'H (c'O rfl T.abz) a'd) a'b))) (a'D (i:=0) (by decide) rfl) (λ_ _ _ _ _=>a'v) (λ_ _ _ _ _=>(a'A ((λC g d=>MOkA.mono (d'v T C g d) (by omega))) (by walk_at "z") (λ_ _ _ h=>h.1) b (qv 1) (QA.frz (a'a (qv 0) a'b)))) ⟨rfl,rfl,rfl,True.intro⟩)
  (a'f (a'm (a'H (qv 2) (a'P (N:=["unknown","sheet"]) (ix:=[none,some 0]) rfl (b'd (qv 1)) (a'D (i:=0) (by decide) rfl) (λ_ _ _ _ _=>a'v) (λ_ _ _ _ _=>(a'A ((λC g d=>MOkA.mono (d'Y T C g d) (by omega))) (by walk_at "z") (λ_ _ _ h=>h.1) b (qv 1) (QA.frz (a'a (v'f (t'o (qv 0) (b'k [1,1] rfl T.abr T.abt) v'e) (hp:=Nat.le_of_ble_eq_true rfl)) a'b)))) ⟨rfl,rfl,rfl,True.intro⟩))))),?_⟩
 rintro p o _ ⟨_,f,g,rs,us,vs,ss,m,_,_,rfl,c,e,q⟩;walk_at"";rw[a'I,b'U];rw[show List.map (λn:Nat=>Tr.int (0+n)) (List.range (4+1 - 0:Int).toNat)=([0,1,2,3,4]:List Int).map Enc.t from rfl];refine⟨by decide,CLoop.mapT _ _ (λk=>aeg (rkc us.length rs k)) (by decide) (λk _ R h=>?_) ⟨?_,?_⟩⟩
 .walk_at"";rw[a'u];exact a's T ⟨rfl,f,rs,us,ss,m,k,‹_›,by rw[a'L,c'f],c,λ_=>h⟩
 .exact o'r (([0,1,2,3,4]:List Int).map (rkc us.length rs))
 rw[show List.map (λk=>aeg (rkc us.length rs k)) ([0,1,2,3,4]:List Int)=(([0,1,2,3,4]:List Int).map (rkc us.length rs)).map aeg from rfl,own_f,e_l];generalize l:([0,1,2,3,4]:List Int).map (rkc us.length rs)=A at q ⊢;have j:A.length=5:=by rw[<- l];rfl
 walk_at"";refine CLoop.mapT vs _ (λu=>aeg (suc us rs.length [(u,(1:Rat))])) (by omega) (λu _ R h=>?_) ?_
 .walk_at"";rw[a'u];refine a's T ?_;show (List.map (λx=>x.fst) [((Sum.inr u:Key),Enc.t (1:Rat))]).Nodup/\aeu T [dn (shT T f (shG rs us ss m)),Tr.dic .f (dnk (frzk [((Sum.inr u:Key),Enc.t (1:Rat))]))] _;refine⟨by simp,rfl,f,.f,rs,us,ss,m,[(u,1)],‹_›,inferInstance,by rw[a'L,c'f];rfl,c,λ_=>h⟩
 .rw[show List.map (λu=>aeg (suc us rs.length [(u,(1:Rat))])) vs=(vs.map λu=>suc us rs.length [(u,1)]).map aeg from by rw[map_map];rfl,show (Enc.t A:Tr)=.lst .f (A.map Enc.t) from rfl,f'p];refine⟨by simp only[length_map,j];omega,?_,q _⟩;show nols _=true;rw[i'R,c'P,o's];rfl
theorem v'U{j:Type}(x:j)(r:List j):ad1 (x::r) (some 1) none=r:=by
 have b:HT.sIx (x::r).length 0 (some 1)=1:=by
  unfold HT.sIx;simp
 have a:HT.sIx (x::r).length (x::r).length none=(x::r).length:=rfl;unfold ad1;rw[b,a];simp
def afH(n:Nat):List Int:=(List.range n).map λi:Nat=>(i:Int)
theorem i'S(rs:List ack):pick rs (afH rs.length)=rs:=by
 unfold pick afH;rw[map_map];refine List.ext_getElem (by simp) λi b a=>?_
 simp only[List.getElem_map,List.getElem_range,Function.comp];rw[toNat_natCast,getD_eq_getElem?_getD,getElem?_eq_getElem a];rfl
theorem t'N(rs:List ack):Val rs (afH rs.length):=λk m=>by
 obtain⟨i,a,rfl⟩:=mem_map.mp m;exact⟨Int.natCast_nonneg _,by rw[toNat_natCast];exact mem_range.mp a⟩
def aju(T:Tx w K mg):adM:=λa Q q=>a.length=2/\∃(f g:Fl)(rs:List ack)(us:List Str)(_:Fp f)(_:Fp g),a=[.lst f (rs.map Enc.t),.lst g (us.map Enc.t)]/\(∀o∈rs,ad2 o)/\(16<rs.length\/8<us.length->q (.ref T.abI))/\(rs.length<=16->us.length<=8->((∃o∈rs,brk o)->q (.ref T.abN))/\
 (¬ (∃o∈rs,brk o)->∀(ss:List (List Rat))(m:List (Key×Option Int)),ss.length=us.length+5->afF (us.length+2*rs.length) ss m->∀j,Q (shT T .o (shG rs us ss m)) j))
theorem c'F(T:Tx w K mg):FnOk P w K mg base (CX1 P w) 10 T.aaM.a T.aaM.d ["rows","unknowns"] (spX K true 0 2 (aju T)):=by
 refine c'k T.aaM.F acB rfl (by decide) λ_ _ _ _ _ _ q p=>?_
 have hu:=a'l p;refine⟨_,(a'c (h'O (a'N ((c'g T).mono (by omega)) (b'a (b'A rfl rfl rfl rfl)) (by walk_at "z") (λ_ _ _ h=>h.1) p rfl T.aaD.m T.aaD.F.kp T.aaD.b (QA.frz (a'a (qv 0) (a'a (qv 1) a'b)))))
  (a'c (a'V (i:=2) acB.nd (by decide) rfl (Or.inl rfl) (a'N ((d'Z T).mono (by omega)) (b'a (b'A rfl rfl rfl rfl)) (by walk_at "z") (λ_ _ _ h=>h.1) p rfl T.aaJ.m T.aaJ.F.kp T.aaJ.b (QA.frz (a'a (qv 0) (a'a (qv 1) (a'a (x'd rfl rfl T.aca rfl T.ab7 (a'U a'W a'z rfl T.ab6 rfl (a'a (qv 0) a'b))) a'b))))))
  (a'c (b'j (c'c rfl) rfl (b'd (e'F (a'j ((d'w T).mono (by omega)) (by walk_at "z") (λ_ _ h=>h.1) p rfl T.aaL.m T.aaL.F.kp T.aaL.b (QA.frz (a'a (qv 2) (a'a (qv 1) a'b)))) (d'I a'd) f'L)) (a'R (i:=3) acB.nd (by decide) rfl (Or.inl rfl)) (a'f (f'X (c't (a't 2) ((λC g d=>MOkA.mono (c'L T C g d) (by omega))) (by walk_at "z") (λ_ _ _ h=>h.1) p (d'O (qv 3) d'c)))))
  (a'f (b'N (c'm 2)))))),?_⟩
 rintro xs Q' _ ⟨_,f,g,rs,us,_,_,rfl,r,M,H⟩;walk_at"";refine⟨rfl,f,g,rs,us,‹_›,‹_›,rfl,M,λB h2 j=>?_⟩;obtain⟨Y,Q⟩:=H B h2;refine⟨rs.length,rfl,by omega,?_⟩;dsimp only;rw[show (List.range rs.length).map (λi:Nat=>Tr.int (i:Int))=(afH rs.length).map Enc.t from by unfold afH;rw[map_map];rfl,a'w,e_d];have E:(afH rs.length).length=rs.length:=by unfold afH;rw[length_map,length_range]
 have D:Bad rs (afH rs.length)↔∃o∈rs,brk o:=by unfold Bad;rw[i'S]
 refine⟨rfl,f,g,.f,rs,us,afH rs.length,‹_›,‹_›,inferInstance,rfl,r,by omega,by omega,t'N rs,λv=>Y (D.mp v),λv m hm A _=>⟨e'N T _,?_⟩⟩;rw[D] at v;rw[i'S] at A ⊢;have s:aek rs us:=⟨B,by omega,r⟩;have I:=c'D s (d'd rs us 0);rw[a'I];simp only[lfl,a'u];rw[show Pu.frz (shT T (Fl.l true) (shG rs us [mus rs us] m))=shT T (Fl.l true) (shG rs us [mus rs us] m) from rfl,a'L];refine⟨rfl,.l false,g,rs,us,us,_,m,inferInstance,‹_›,rfl,s,by omega,λ_=>?_⟩;dsimp only;have eg:(gcs rs us us).length=us.length+5:=by unfold gcs;rw[length_append,length_map,length_map];simp;omega
 have ok:∀n∈(([1,2,3,4]:List Int).map (rkc us.length rs)++us.map λu=>suc us rs.length [(u,1)]),C01 rs us n:=λn L=>o'q (vs:=us) n (.tail _ L)
 have U:(([1,2,3,4]:List Int).map (rkc us.length rs)++us.map λu=>suc us rs.length [(u,1)]).length=us.length+4:=by rw[length_append,length_map,length_map];simp;omega
 have J:ad1 ((([0,1,2,3,4]:List Int).map (rkc us.length rs)).map Enc.t++(us.map λu=>suc us rs.length [(u,1)]).map aeg) (some 1) none=((([1,2,3,4]:List Int).map (rkc us.length rs)).map Enc.t++(us.map λu=>suc us rs.length [(u,1)]).map aeg):=v'U _ _;rw[f'q,J,r'F];generalize (([1,2,3,4]:List Int).map (rkc us.length rs)++us.map λu=>suc us rs.length [(u,1)])=cl at ok U;rw[b'M];refine⟨b'e _,Loop.map cl _ (λi j=>∃(ss:List (List Rat))(c:List (Key×Option Int))(a:Tr),j=[.lst f (rs.map Enc.t),.lst g (us.map Enc.t),shT T .o (shG rs us ss c),a]/\ss.length=i+1/\c.length<=100+50*i/\afF (us.length+2*rs.length) ss c) ⟨_,m,_,rfl,rfl,by omega,A⟩ ?_ ?_⟩
 .rintro i n j hi ⟨ss,c,a,rfl,e1,e2,e3⟩;have O:=(List.getElem?_eq_some_iff.mp hi).1;have x:=ok n (mem_of_getElem? hi);have N:=(c'D s x).1;walk_at"";refine c'B rfl (by intro z;cases z) (a's T ?_);walk_at"";rw[a'L];refine⟨rfl,.f,rs,us,ss,c,n,inferInstance,rfl,s,x,by omega,by omega,λm2 y G j2 e=>?_⟩;dsimp only;rw[e,a'u];refine⟨d'S T _,?_⟩;rw[x.1] at G y;refine⟨_,m2,_,rfl,by rw[length_append,e1];rfl,by omega,MkOk.sh e3 G N⟩
 .rintro j ⟨ss,c,a,rfl,e1,e2,e3⟩;walk_at""
  try rw[a'u]
  exact⟨d'S T _,Q v ss c (by omega) e3 _⟩
def plc(us:List Str):Tr:=.dic .o ((us.map λu=>(u,(0:Rat))).map λp=>((Sum.inr p.1:Key),Enc.t p.2))
theorem l'I(us:List Str):plc us=.dic .o ((us.map λu=>((Sum.inr u:Key),(0:Rat))).map λp=>(p.1,Enc.t p.2)):=by unfold plc;rw[map_map,map_map];rfl
theorem d's(us:List Str):nol (plc us)=true:=by rw[l'I];exact (clok _ (a'E (us.map λu=>((Sum.inr u:Key),(0:Rat))))).o
theorem r'G(us:List Str):nlt (plc us)=true:=by rw[l'I];exact (clok _ (a'E (us.map λu=>((Sum.inr u:Key),(0:Rat))))).t
def plF(us:List Str):Tr:=ac1 .f (us.map λu=>(u,(0:Rat)))
theorem r'H(us:List Str):Pu.frz (plc us)=plF us:=by
 rw[l'I];show Tr.dic .f (frzk _)=_;rw[(clok _ (a'E (us.map λu=>((Sum.inr u:Key),(0:Rat))))).f];unfold plF ac1;rw[map_map,map_map];rfl
theorem h'm(us:List Str):∀n:Nat,nols (List.replicate n (plF us))=true
 |0=>rfl
 |n + 1=>by show (nol (plF us)&&nols (List.replicate n (plF us)))=true;rw[h'm us n,show nol (plF us)=true from (clo _ (c's ..)).o];rfl
theorem x'n{j:Type}[Enc j](xs:List j):List.mapIdx (λi x=>Tr.tup [Tr.int ((i+1:Nat):Int),x]) (xs.map Enc.t)=xs.zipIdx.map λp=>Tr.tup [Tr.int ((p.2+1:Nat):Int),Enc.t p.1]:=by
 refine List.ext_getElem (by simp) λi b a=>?_
 simp
def afI(T:Tx w K mg):adM:=λa Q q=>a.length=2/\∃(f g:Fl)(rs:List ack)(us:List Str)(_:Fp f)(_:Fp g),a=[.lst f (rs.map Enc.t),.lst g (us.map Enc.t)]/\(∀o∈rs,ad2 o)/\us.Nodup/\(16<rs.length\/8<us.length->q (.ref T.abI))/\(rs.length<=16->us.length<=8->((∃o∈rs,brk o)->q (.ref T.abN))/\(¬ (∃o∈rs,brk o)->∀j,Q (plc us) j))
theorem o't(T:Tx w K mg):FnOk P w K mg base (CX1 P w) 11 T.aaN.a T.aaN.d ["rows","unknowns"] (spX K true 0 2 (afI T)):=by
 refine c'k T.aaN.F o'i rfl (by decide) λ_ _ _ _ _ _ q c=>?_
 have z:=a'l c;refine⟨_,(a'f (a'm (d'b ((λC g d=>MOkA.mono (b'P T C g d) (by omega))) (by walk_at "z") (λ_ _ _ h=>h.1) c (a'N ((c'F T).mono (by omega)) (b'a (b'A rfl rfl rfl rfl)) (by walk_at "z") (λ_ _ _ h=>h.1) c rfl T.aaM.m T.aaM.F.kp T.aaM.b (QA.frz (a'a (qv 0) (a'a (qv 1) a'b))))))),?_⟩;rintro x v _ ⟨_,f,g,rs,us,_,_,rfl,j,e,s,n⟩;walk_at"";refine⟨rfl,f,g,rs,us,‹_›,‹_›,rfl,j,s,λl o=>⟨(n l o).1,λr ss m y u _=>?_⟩⟩;have p:=(n l o).2 r;dsimp only;exact a's T ⟨rfl,_,rs,us,ss,m,by rw[a'L],e,by omega,λ_=>⟨d's us,p _⟩⟩
def ahJ(T:Tx w K mg):adM:=λc Q q=>c.length=2/\∃(f g:Fl)(rs:List ack)(us:List Str)(_:Fp f)(_:Fp g),c=[.lst f (rs.map Enc.t),.lst g (us.map Enc.t)]/\(∀o∈rs,ad2 o)/\us.Nodup/\(16<rs.length\/8<us.length->q (.ref T.abI))/\(rs.length<=16->us.length<=8->((∃o∈rs,brk o)->q (.ref T.abN))/\(¬ (∃o∈rs,brk o)->∀(a:List ((Int ⊕ Str)×Rat))(b:List (List Rat×List Rat)) j,Q (.tup [plc us,Enc.t a,Enc.t b]) j))
theorem t'O(T:Tx w K mg):FnOk P w K mg base (CX1 P w) 11 T.aaO.a T.aaO.d ["rows","unknowns"] (spX K true 0 2 (ahJ T)):=by
 refine c'k T.aaO.F adj rfl (by decide) λ_ _ _ _ _ _ q p=>?_
 have M:=a'l p;refine⟨_,(a'c (a'h (i:=2) adj.nd (by decide) rfl (Or.inl rfl) (a'N ((c'F T).mono (by omega)) (b'a (b'A rfl rfl rfl rfl)) (by walk_at "z") (λ_ _ _ h=>h.1) p rfl T.aaM.m T.aaM.F.kp T.aaM.b (QA.frz (a'a (qv 0) (a'a (qv 1) a'b)))))
  (a'c (a'V (i:=3) adj.nd (by decide) rfl (Or.inl rfl) (a'T a'b))
  (a'c (a'V (i:=4) adj.nd (by decide) rfl (Or.inl rfl) (a'T a'b))
  (a'c (b'j (c'c rfl) rfl (w'M rfl T.acd (a'a (a'j ((j'j T).mono (by omega)) (by walk_at "z") (λ_ _ h=>h.1) p rfl T.aaK.m T.aaK.F.kp T.aaK.b (QA.frz (a'a (qv 1) a'b))) a'b)) (d'J (n:=2) rfl (a'B (a'R (i:=5) adj.nd (by decide) rfl (Or.inl rfl)) (a'B (a'R (i:=6) adj.nd (by decide) rfl (Or.inl rfl)) b'F))) (a'c (c'l (a't 3) (a'O (a'a (qv 6) (a'a (a'A ((λC g d=>MOkA.mono (e'U T C g d) (by omega))) (by walk_at "z") (λ_ _ _ h=>h.1) p (qv 2) (QA.frz (a'a (qv 5) a'b))) a'b))))
  (a'c (a'h (i:=7) adj.nd (by decide) rfl (Or.inl rfl) (a'A ((λC g d=>MOkA.mono (i'K T C g d) (by omega))) (by walk_at "z") (λ_ _ _ h=>h.1) p (qv 2) (QA.frz (a'a (qv 5) a'b))))
  (a'f (c'l (a't 4) (a'O (a'a (a'i M (qv 7) a'd (λ_ _=>rfl)) (a'a (e'F (a'i M (qv 7) a'd (λ_ _=>rfl)) (d'I a'd) f'L) a'b))))))))
  (i'r 4 (i'r 3 (a'f (a'm (a'O (a'a (d'b ((λC g d=>MOkA.mono (b'P T C g d) (by omega))) (by walk_at "z") (λ_ _ _ h=>h.1) p (qv 2)) (a'a (qv 3) (a'a (qv 4) a'b)))))))))))),?_⟩
 rintro xs Q' _ ⟨_,f,g,rs,us,_,_,rfl,E,G,U,J⟩;walk_at"";refine⟨rfl,f,g,rs,us,‹_›,‹_›,rfl,E,U,λI N=>⟨(J I N).1,λhb ss m es H _=>?_⟩⟩;have q3:=(J I N).2 hb;dsimp only;rw[q'n];refine⟨e'N T _,rfl,g,us,‹_›,rfl,by omega,λ_=>?_⟩;dsimp only;rw[a'w,b'p,b'M,x'n];have Y:(gls us).length=us.length+4:=by unfold gls;rw[length_append,length_map,length_map];simp;omega
 refine⟨b'e _,Loop.map _ _ (λi j=>∃(a:List ((Int ⊕ Str)×Rat))(b:List (List Rat×List Rat))(x y z:Tr),j=[.lst f (rs.map Enc.t),.lst g (us.map Enc.t),shT T .f (shG rs us ss m),.lst .o (a.map Enc.t),.lst .o (b.map Enc.t),x,y,z]/\a.length=i/\b.length=i) ⟨[],[],_,_,_,rfl,rfl,rfl⟩ ?_ ?_⟩
 .rintro i ⟨gl,i'⟩ j hi ⟨a,b,x,y,z,rfl,ea,eb⟩;obtain⟨L,O⟩:=c'C hi;dsimp only at L O;subst O;have Q:i'<(gls us).length:=(List.getElem?_eq_some_iff.mp L).1;have u:i'+1<ss.length:=by omega
  have e:=H.r _ (List.getElem_mem u);have D:=getElem?_eq_getElem u;generalize ss[i'+1]=c at e D;obtain⟨r,v,s⟩:∃(r:List Rat)(v:Rat),c=r++[v]:=⟨c.dropLast,c.getLast (by intro z;rw[z] at e;exact absurd e.1 (by simp)),(List.dropLast_concat_getLast _).symm⟩
  walk_at"";have l:∀x∈c,bs x<=100:=e.2.1;simp only[a'I,lfl,a'u,a'L,dfl];refine a's T ⟨rfl,.f,_,i'+1,r,v,inferInstance,rfl,by show ss[i'+1]?=_;rw[D,s],le_trans (l v (by rw[s];exact mem_append_right _ (.head _))) (by decide),λ_=>?_⟩;dsimp only;rw[e_t];refine⟨rfl,by omega,a's T ⟨rfl,rs,us,ss,m,c,i'+1,rfl,by omega,by omega,D,H,λ_=>?_⟩⟩;dsimp only;have ep:∀(A B:List Rat),Pu.frz (Tr.tup [.lst .o (A.map Enc.t),.lst .o (B.map Enc.t)])=.tup [Enc.t A,Enc.t B]:=λA B=>by
   show Tr.tup [Pu.frz _,Pu.frz _]=_;rw[a'w,a'w]
  have el:∀(A B:List Rat),lend (Tr.tup [Enc.t A,Enc.t B])=.tup [Enc.t A,Enc.t B]:=λA B=>e_l (A,B)
  rw[ep,el];refine⟨by show (nlts (_:List Tr)&&(nlts (_:List Tr)&&true))=true;rw[b'e,b'e];rfl,?_⟩;walk_at"";rw[b'p,f'q,map_cons,v'U,a'w];rw[show List.map Enc.t a++[Tr.tup [Enc.t gl,Enc.t (0 - v)]]=(a++[(gl,0 - v)]).map Enc.t from by rw[map_append];rfl,show List.map Enc.t b++[Tr.tup [Enc.t (prs rs us c),Enc.t (List.replicate i' (0:Rat))]]=(b++[(prs rs us c,List.replicate i' (0:Rat))]).map Enc.t from by rw[map_append];rfl];exact⟨by show (true&&(nlts _&&true))=true;rw[b'e];rfl,by omega,a++[(gl,0 - v)],b++[(prs rs us c,List.replicate i' 0)],_,_,_,rfl,by rw[length_append,ea];rfl,by rw[length_append,eb];rfl⟩
 .rintro j ⟨a,b,x,y,z,rfl,ea,eb⟩;walk_at"";simp only[a'I,lfl,a'u,a'L,dfl];exact a's T ⟨rfl,_,rs,us,ss,m,rfl,G,by omega,λ_=>⟨by rw[show (nol (Tr.dic .o _))=true from d's us];rfl,q3 a b _⟩⟩
def afJ(T:Tx w K mg):adM:=λa Q q=>a.length=3/\∃(f g h:Fl)(rs:List ack)(us:List Str)(ks:List Int)(_:Fp f)(_:Fp g)(_:Fp h),a=[.lst f (rs.map Enc.t),.lst g (us.map Enc.t),.lst h (ks.map Enc.t)]/\(∀o∈rs,ad2 o)/\us.Nodup/\ks.length<=1/\(16<rs.length\/8<us.length->q (.ref T.abI))/\(rs.length<=16->us.length<=8->∀n j,Q (.lst .o (List.replicate n (plF us))) j)
theorem o'u(T:Tx w K mg):FnOk P w K mg base (CX1 P w) 10 T.aaP.a T.aaP.d ["rows","unknowns","numbers"] (spX K true 0 3 (afJ T)):=by
 refine c'k T.aaP.F adu rfl (by decide) λ_ _ _ _ _ _ q c=>?_
 have L:=a'l c;refine⟨_,(a'c (h'O (a'N ((c'g T).mono (by omega)) (b'a (b'A rfl rfl rfl rfl)) (by walk_at "z") (λ_ _ _ h=>h.1) c rfl T.aaD.m T.aaD.F.kp T.aaD.b (QA.frz (a'a (qv 0) (a'a (qv 1) a'b)))))
  (a'c (a'V (i:=3) adu.nd (by decide) rfl (Or.inl rfl) (a'T a'b))
  (a'c (b'j (c'c rfl) rfl (b'd (qv 2)) (a'R (i:=4) adu.nd (by decide) rfl (Or.inr rfl)) (a'c (b'G (i:=5) (N:=["other","number"]) (ix:=[none,some 4]) adu.nd (by decide) rfl (Or.inl rfl) rfl (b'd (qv 2)) (a'D (i:=0) (by decide) rfl) (λ_ _ _ _ _=>(e'k (a'k (c'N c.units) b't (qv 0) (qv 1) (by walk_at "u")))) (λ_ _ _ _ _=>(qv 0)) ⟨rfl,rfl,rfl,True.intro⟩)
  (a'f (c'l (a't 3) (d'b ((λC g d=>MOkA.mono (b'P T C g d) (by omega))) (by walk_at "z") (λ_ _ _ h=>h.1) c (a'N ((d'Z T).mono (by omega)) (b'a (b'A rfl rfl rfl rfl)) (by walk_at "z") (λ_ _ _ h=>h.1) c rfl T.aaJ.m T.aaJ.F.kp T.aaJ.b (QA.frz (a'a (qv 0) (a'a (qv 1) (a'a (qv 5) a'b))))))))))
  (a'f (b'N (c'm 3)))))),?_⟩
 rintro H J _ ⟨_,f,g,h,rs,us,ks,_,_,_,rfl,e,s,r,E,z⟩;walk_at"";refine⟨rfl,f,g,rs,us,‹_›,‹_›,rfl,E,λx v j=>?_⟩;dsimp only;refine Loop.map ks _ (λi j=>∃(n:Nat)(a b:Tr),j=[.lst f (rs.map Enc.t),.lst g (us.map Enc.t),.lst h (ks.map Enc.t),.lst .o (List.replicate n (plF us)),a,b]/\n<=i) ⟨0,_,_,rfl,le_refl _⟩ ?_ ?_
 .rintro i k j hi ⟨n,a,b,rfl,hn⟩;walk_at"";have B:ks=[k]:=by
   match ks,r,hi with
   |[k'],_,hi=>cases i with
    |zero=>cases hi;rfl
    |succ i=>cases hi
  subst B;refine CLoop.filter [k] Enc.t (λ_=>false) id (by simp) (λy D A R x v=>?_) ⟨rfl,?_⟩
  .cases mem_singleton.mp D;walk_at"";exact v rfl
  .show pV (some (Tr.lst .f [])) _;walk_at"";refine⟨rfl,f,g,.f,rs,us,[],‹_›,‹_›,inferInstance,rfl,e,by omega,by decide,λ_ m=>(nomatch m),λ⟨o,mo,_⟩=>(nomatch mo),λ_ m I G _=>?_⟩;dsimp only;refine a's T ⟨rfl,_,[],us,[mus [] us],m,by rw[a'L];rfl,s,by omega,λ_=>?_⟩;dsimp only;rw[show Pu.frz (Tr.dic .o ((us.map λu=>(u,(0:Rat))).map λp=>((Sum.inr p.1:Key),Enc.t p.2)))=plF us from r'H us,<- List.replicate_succ',length_replicate];have l:=(List.getElem?_eq_some_iff.mp hi).1;rw[List.length_singleton] at l;exact⟨r'G us,by omega,n+1,_,_,rfl,by omega⟩
 .rintro j ⟨n,a,b,rfl,hn⟩;walk_at"";exact⟨h'm us n,z x v n _⟩
theorem t'P(rs:List ack)(us:List Str):C01 rs us (suc us rs.length []):=by
 refine⟨by unfold suc;rw[length_append,length_replicate,length_map],λc m=>.inl ?_⟩;unfold suc at m;rcases mem_append.mp m with m |m
 .obtain⟨x,_,rfl⟩:=mem_map.mp m;rfl
 .exact List.eq_of_mem_replicate m
def agI(rs:List ack):List Int:=(rs.zipIdx.filter λp=>decide (p.1.2.2.2.1=0)).map λp=>(p.2:Int)
def agJ(T:Tx w K mg):adM:=λd Q q=>d.length=3/\∃(f g:Fl)(rs:List ack)(us:List Str)(c:Rat)(_:Fp f)(_:Fp g),d=[.lst f (rs.map Enc.t),.lst g (us.map Enc.t),.tup [ac1 .f ([]:List (Str×Rat)),Enc.t c]]/\(∀o∈rs,ad2 o)/\us.Nodup/\(16<rs.length\/8<us.length->q (.ref T.abI))/\(rs.length<=16->us.length<=8->((∃o∈rs,brk o)->q (.ref T.abN))/\(¬ (∃o∈rs,brk o)->∀(a:Str)(b:List Rat) j,Q (.tup [.str a,plc us,Enc.t b]) j))
theorem q'o(T:Tx w K mg):FnOk P w K mg base (CX1 P w) 11 T.aaT.a T.aaT.d ["rows","unknowns","one"] (spX K true 0 3 (agJ T)):=by
 refine c'k T.aaT.F acT rfl (by decide) λ_ _ _ _ _ _ q u=>?_
 have M:=a'l u;refine⟨_,(a'c (h'O (a'N ((c'g T).mono (by omega)) (b'a (b'A rfl rfl rfl rfl)) (by walk_at "z") (λ_ _ _ h=>h.1) u rfl T.aaD.m T.aaD.F.kp T.aaD.b (QA.frz (a'a (qv 0) (a'a (qv 1) a'b)))))
  (a'c (b'G (i:=3) (N:=["number","other"]) (ix:=[none,none]) acT.nd (by decide) rfl (Or.inl rfl) rfl (h'Y rfl T.acd (a'a (qv 0) a'b)) (f'M (n:=2) rfl (a'S (a'D (i:=0) (by decide) rfl) (a'S (a'D (i:=1) (by decide) rfl) c'r))) (λ_ _ _ _ _=>(e'k (a'k (b'b u.units) a'r (a'i M (qv 1) a'd (λ_ _=>rfl)) (c'O rfl T.abx) (by walk_at "u")))) (λ_ _ _ _ _=>(qv 0)) True.intro)
  (a'c (a'V (i:=4) acT.nd (by decide) rfl (Or.inl rfl) (a'N ((d'Z T).mono (by omega)) (b'a (b'A rfl rfl rfl rfl)) (by walk_at "z") (λ_ _ _ h=>h.1) u rfl T.aaJ.m T.aaJ.F.kp T.aaJ.b (QA.frz (a'a (qv 0) (a'a (qv 1) (a'a (qv 3) a'b))))))
  (a'c (v'w (i:=5) acT.nd (by decide) rfl (Or.inl rfl) (c't (a't 4) ((λC g d=>MOkA.mono (c'L T C g d) (by omega))) (by walk_at "z") (λ_ _ _ h=>h.1) u (d'O (a'A ((λC g d=>MOkA.mono (d'Y T C g d) (by omega))) (by walk_at "z") (λ_ _ _ h=>h.1) u (qv 4) (QA.frz (a'a (a'i M (qv 2) a'd (λ_ _=>rfl)) a'b))) d'c)))
  (a'c (a'C (a'k f'N d'L (qv 5) e'g (by walk_at "u")) (a'f (a'm (a'O (a'a a'G (a'a (d'b ((λC g d=>MOkA.mono (b'P T C g d) (by omega))) (by walk_at "z") (λ_ _ _ h=>h.1) u (qv 4)) (a'a (qv 5) a'b)))))) a'p)
  (i'r 4 (a'c (a'V (i:=6) acT.nd (by decide) rfl (Or.inl rfl) (f't (a'T (a'a (b'k [0,1] rfl T.abo T.abp) a'b)) (a'U a'W a'z rfl T.ab6 rfl (a'a (qv 0) a'b))))
  (a'c (b'j (c'c rfl) rfl (h'Z rfl T.ace (a'a (qv 3) (a'a (a'i M (a'A ((λC g d=>MOkA.mono (i'K T C g d) (by omega))) (by walk_at "z") (λ_ _ _ h=>h.1) u (qv 4) (QA.frz (a'a a'd a'b))) a'd (λ_ _=>rfl)) a'b))) (d'J (n:=2) rfl (a'B (a'R (i:=7) acT.nd (by decide) rfl (Or.inl rfl)) (a'B (a'R (i:=8) acT.nd (by decide) rfl (Or.inl rfl)) b'F))) (a'f (d'K (a't 6) (qv 7) (qv 8))))
  (i'r 6 (a'f (a'm (a'O (a'a a'G (a'a (d'b ((λC g d=>MOkA.mono (b'P T C g d) (by omega))) (by walk_at "z") (λ_ _ _ h=>h.1) u (qv 4)) (a'a (qv 6) a'b))))))))))))))),?_⟩
 rintro xs Q' _ ⟨_,f,g,rs,us,c,_,_,rfl,G,β,q1,q2⟩;walk_at"";refine⟨rfl,f,g,rs,us,‹_›,‹_›,rfl,q1,λh1 h2 y=>?_⟩;obtain⟨q3,q4⟩:=q2 h1 h2;have ε:rs.zipIdx.length=rs.length:=length_zipIdx;refine CLoop.filter rs.zipIdx _ (λp=>decide (p.1.2.2.2.1=0)) (λp=>(p.2:Int)) (by omega) (λp mp A R k1 k2=>?_) ⟨b'e _,?_⟩
 .walk_at"";split
  .next z=>exact k1 z
  .next z=>exact k2 (by simpa using z)
 rw[show List.map (λp:ack×Nat=>(p.2:Int)) (List.filter (λp=>decide (p.1.2.2.2.1=0)) rs.zipIdx)=agI rs from rfl];have B:∀k∈agI rs,∃(i:Nat)(o:ack),k=(i:Int)/\rs[i]?=some o/\o.2.2.2.1=0:=λk mk=>by
  obtain⟨p,mp,rfl⟩:=mem_map.mp mk;obtain⟨m1,H⟩:=mem_filter.mp mp;obtain⟨i,E⟩:=getElem?_of_mem m1;obtain⟨a,b⟩:=c'C E;exact⟨p.2,p.1,rfl,by rw[b];exact a,by simpa using H⟩
 have Q:(agI rs).length<=rs.length:=by unfold agI;rw[length_map];exact le_trans (length_filter_le _ _) (by omega)
 have s:Val rs (agI rs):=λk mk=>by
  obtain⟨i,o,rfl,e,_⟩:=B k mk;exact⟨Int.natCast_nonneg _,by rw[toNat_natCast];exact (List.getElem?_eq_some_iff.mp e).1⟩
 have J:Bad rs (agI rs)↔∃o∈rs,brk o:=by
  refine⟨λ⟨o,mo,bo⟩=>?_,λ⟨o,mo,bo⟩=>⟨o,?_,bo⟩⟩
  .obtain⟨k,mk,rfl⟩:=mem_map.mp mo;obtain⟨i,o,rfl,e,_⟩:=B k mk;rw[toNat_natCast,getD_eq_getElem?_getD,e] at bo;exact⟨o,mem_of_getElem? e,bo⟩
  .obtain⟨i,E⟩:=getElem?_of_mem mo;refine mem_map.mpr ⟨(i:Int),mem_map.mpr ⟨(o,i),mem_filter.mpr ⟨mem_of_getElem? (i:=i) (by rw[List.getElem?_zipIdx,E];simp),by simpa using bo.1⟩,rfl⟩,?_⟩;rw[toNat_natCast,getD_eq_getElem?_getD,E];rfl
 generalize agI rs=ks at B Q s J;rw[a'w,e_l];walk_at"";refine⟨rfl,f,g,.f,rs,us,ks,‹_›,‹_›,inferInstance,rfl,G,by omega,by omega,s,λI=>q3 (J.mp I),λI m hm hS _=>⟨e'N T _,?_⟩⟩;rw[J] at I;have D:aek (pick rs ks) us:=g'm G (by omega) (by omega) s;have α:(pick rs ks).length=ks.length:=by unfold pick;rw[length_map]
 generalize pick rs ks=ps at hS D α;refine c'B rfl (by intro z;cases z) (a's T ?_);walk_at"";rw[a'I];simp only[lfl,a'u,a'L,dfl];refine a's T ⟨rfl,.l false,.f,ps,us,_,m,[],inferInstance,inferInstance,rfl,D,λ_=>⟨b'e _,?_⟩⟩;rw[a'w,e_d];have L:=t'P ps us;have hL:=(c'D D L).1;have δ:=(c'D D (d'd ps us 0)).1;have γ:=D.r;refine⟨rfl,.f,ps,us,[mus ps us],m,_,inferInstance,rfl,D,L,by omega,by simp,λH U hk y2 e=>?_⟩;dsimp only;rw[e,a'u];refine⟨d'S T _,?_⟩;rw[L.1] at hk U;have Y:=MkOk.sh hS hk hL;walk_at"";simp only[ah0,wBl];rw[show (true ^^ isT Tr.non Tr.non)=false from rfl,if_neg (by decide),a'u,q'n,a'I];simp only[lfl,a'u,a'L,dfl];refine⟨rfl,by omega,by omega,by rw[show List.replicate (rs.length:Int).toNat (Enc.t (0:Rat))=(List.replicate (rs.length:Int).toNat (0:Rat)).map Enc.t from by rw[map_replicate]];exact b'e _,?_⟩;refine a's T ⟨rfl,ps,us,_,H,lfR ps us (suc us ps.length []),1,rfl,by omega,by decide,rfl,Y,λ_=>?_⟩;dsimp only;walk_at"";rw[b'p,b'M,d'a,show List.replicate (rs.length:Int).toNat (Enc.t (0:Rat))=(List.replicate rs.length (0:Rat)).map Enc.t from by rw[map_replicate];rfl];refine Loop.map _ _ (λi y=>∃(v:List Rat)(a b:Tr),y=[.lst f (rs.map Enc.t),.lst g (us.map Enc.t),.tup [ac1 .f ([]:List (Str×Rat)),Enc.t c],.lst .f (ks.map Enc.t),shT T .f (shG ps us [mus ps us,lfR ps us (suc us ps.length [])] H),.non,.lst .o (v.map Enc.t),a,b]/\v.length=rs.length) ⟨_,_,_,rfl,length_replicate⟩ ?_ ?_
 .rintro i ⟨k,x⟩ y E ⟨v,a,b,rfl,hv⟩;have hm:=of_mem_zip (mem_of_getElem? E);obtain⟨j,o,rfl,hj,_⟩:=B k hm.1;have O:=(List.getElem?_eq_some_iff.mp hj).1;walk_at"";refine c'u (by rw[length_map,hv];exact O) ?_;rw[<- List.map_set];exact⟨_,_,_,rfl,by rw[length_set];exact hv⟩
 .rintro y ⟨v,a,b,rfl,hv⟩;walk_at"";simp only[a'I,lfl,a'u,a'L,dfl];exact a's T ⟨rfl,_,ps,us,_,H,rfl,β,by omega,λ_=>⟨by rw[show (nol (Tr.dic .o _))=true from d's us];rfl,q4 I _ v _⟩⟩
def aem(o:ack):Tr:=.tup [ac1 .o o.1,.str o.2.1,Enc.t o.2.2.1,.int o.2.2.2.1,.int o.2.2.2.2]
theorem v'V(m:List (Str×Rat)):Pu.frz (ac1 .o m)=ac1 .f m:=by
 show Tr.dic .f (frzk _)=Tr.dic .f _;rw[d'M,(clok _ (a'E _)).f]
theorem x'o(m:List (Str×Rat)):nol (ac1 .o m)=true:=by
 show nolk _=true;rw[d'M,(clok _ (a'E _)).o]
theorem v'W(m:List (Str×Rat)):nlt (ac1 .o m)=true:=by
 show nltk _=true;rw[d'M,(clok _ (a'E _)).t]
theorem v'X(o:ack):Pu.frz (aem o)=Enc.t o:=by
 show Tr.tup [Pu.frz (ac1 .o o.1),_,Pu.frz (Enc.t o.2.2.1),_,_]=_;rw[v'V,e_f];rfl
theorem o'v:∀rs:List ack,nols (rs.map aem)=true
 |[]=>rfl
 |o::rs=>by
  show ((nol (ac1 .o o.1)&&(true&&(nol (Enc.t o.2.2.1)&&(true&&(true&&true)))))&&nols (rs.map aem))=true;rw[x'o,e_o,o'v rs];rfl
theorem f'B:∀rs:List ack,nlts (rs.map aem)=true
 |[]=>rfl
 |o::rs=>by
  show ((nlt (ac1 .o o.1)&&(true&&(nlt (Enc.t o.2.2.1)&&(true&&(true&&true)))))&&nlts (rs.map aem))=true;rw[v'W,e_t,f'B rs];rfl
theorem g'p:∀rs:List ack,frzs (rs.map aem)=rs.map Enc.t
 |[]=>rfl
 |o::rs=>by
  show Pu.frz (aem o)::frzs (rs.map aem)=Enc.t o::rs.map Enc.t;rw[v'X,g'p rs]
def aiJ:PSp:=ade 2 λa Q=>∃(f:Fl)(rs:List ack)(_:Fp f),a=[.lst f ((rs.map λo=>(o,(0:Rat))).map Enc.t),Enc.t (0:Rat)]/\(∀o∈rs,ad2 o)/\rs.length<=100/\Q (.lst .o (rs.map aem))
theorem l'J(T:Tx w K mg){z:Bool}:FnOk P w K mg base CX0 4 T.aaQ.a T.aaQ.d ["growing","width"] (spP K z 0 2 aiJ):=by
 refine a'q T.aaQ.F l'A rfl (by decide) λ_ _ _ _ _ _ e=>?_
 have c:=a'l e;refine⟨_,(a'f (a'm (a'P (N:=["one","pace","width"]) (ix:=[none,none,some 1]) rfl (b'd (qv 0)) (f'M (n:=2) rfl (a'S (a'D (i:=0) (by decide) rfl) (a'S (a'D (i:=1) (by decide) rfl) c'r))) (λ_ _ _ _ _=>a'v) (λ_ _ _ _ _=>(a'O (a'a (b'n f'e h'U rfl T.ab9 rfl (a'a (a'i c (qv 0) a'd (λ_ _=>rfl)) a'b)) (a'a (a'i c (qv 0) a'd (λ_ _=>rfl)) (a'a (a'j ((t'H T).mono (by omega)) (by walk_at "z") (λ_ _ h=>h.1) e rfl T.aay.m T.aay.F.kp T.aay.b (QA.frz (a'a (a'i c (qv 0) a'd (λ_ _=>rfl)) (a'a (a'j ((d'n T).mono (by omega)) (by walk_at "z") (λ_ _ h=>h.1) e rfl T.aaA.m T.aaA.F.kp T.aaA.b (QA.frz (a'a (qv 1) (a'a (qv 2) a'b)))) a'b)))) (a'a (a'i c (qv 0) a'd (λ_ _=>rfl)) (a'a (a'i c (qv 0) a'd (λ_ _=>rfl)) a'b))))))) ⟨rfl,rfl,rfl,True.intro⟩))),?_⟩;rintro u s _ ⟨_,f,rs,_,rfl,g,v,q⟩;walk_at"";rw[map_map];refine CLoop.mapT rs _ aem (by omega) (λo mo R h=>?_) ⟨o'v rs,q _⟩;have j:=g o mo
 change (pgT 2 (acH (pgN 0) (acH (pgN 1) adk))) (Tr.tup [Enc.t o,Enc.t (0:Rat)]) _ _
 walk_at"";have l:bs o.2.2.1<=10:=by
  rw[<- Rat.num_divInt_den o.2.2.1,j.2.1];exact b'Y (k:=10) (by decide) (f'h (by have:=j.2.2.1;omega)) (by walk_at "k")
 show afA (λp r=>p*r) [Enc.t (0:Rat),Enc.t (0:Rat)] _;refine⟨rfl,0,0,rfl,by rw[b'z];decide,λ_=>?_⟩;dsimp only;rw[e_f,e_d];refine⟨rfl,o.2.2.1,0*0,rfl,by rw[Rat.mul_zero,b'z];omega,λ_=>?_⟩;dsimp only;rw[Rat.mul_zero,Rat.add_zero];exact h
def wdr(o:ack):ack:=(ptd o.1 "" 0,o.2)
def ahK:PSp:=ade 2 λa Q=>∃o:ack,a=[Enc.t o,Enc.t (0:Rat)]/\o.1.length<=100/\Q (Enc.t (wdr o))
theorem f'C(T:Tx w K mg){z:Bool}:FnOk P w K mg base CX0 4 T.aaR.a T.aaR.d ["one","pace"] (spP K z 0 2 ahK):=by
 refine a'q T.aaR.F add rfl (by decide) λ_ _ _ _ _ _ e=>?_
 have c:=a'l e;refine⟨_,(a'c (a'V (i:=2) add.nd (by decide) rfl (Or.inl rfl) (b'n f'e h'U rfl T.ab9 rfl (a'a (a'i c (qv 0) a'd (λ_ _=>rfl)) a'b)))
  (a'c (h'j c (a't 2) (v'd rfl T.abv) (a'j ((c'A T).mono (by omega)) (by walk_at "z") (λ_ _ h=>h.1) e rfl T.aaz.m T.aaz.F.kp T.aaz.b (QA.frz (a'a (b'k [0,1] rfl T.abo T.abp) (a'a (qv 1) a'b)))))
  (i'r 2 (a'f (a'm (a'O (a'a (qv 2) (a'a (a'i c (qv 0) a'd (λ_ _=>rfl)) (a'a (a'i c (qv 0) a'd (λ_ _=>rfl)) (a'a (a'i c (qv 0) a'd (λ_ _=>rfl)) (a'a (a'i c (qv 0) a'd (λ_ _=>rfl)) a'b))))))))))),?_⟩
 rintro n l _ ⟨_,o,rfl,j,q⟩;walk_at"";show nlt (ac1 .o o.1)=true/\_;refine⟨v'W _,rfl,0,0,rfl,by rw[b'z];decide,λ_=>⟨e_t _,?_⟩⟩;dsimp only;rw[show (0:Rat) - 0=0 from by walk_at "k",e_f];refine⟨by rw[length_map];omega,?_⟩;have g:Tr.dic .f (frzk (ad8 (o.1.map λp=>((Sum.inr p.1:Key),Enc.t p.2)) (Sum.inr (Str.ofString "")) (Enc.t (0:Rat))))=ac1 .f (ptd o.1 "" 0):=by
  rw[l'q];exact v'V _
 rw[g];exact⟨by rw[(clo _ (c's _)).o];rfl,q _⟩
def afK(us:List Str)(tb:Addr)(a:List (List Int)):List (Str×Tr):=[("table",Tr.cl tb),("wider",Tr.int (us.length:Int)),("unknowns",Tr.lst Fl.o (List.map Enc.t us)),("goals",.lst .o (a.map Enc.t))]
theorem v'Y(T:Tx w K mg)(us:List Str)(tb:Addr)(a:List (List Int)):nol (Tr.ins .o T.aap (afK us tb a))=true:=by
 show (true&&(true&&((nols (us.map Enc.t))&&(nols (a.map Enc.t)&&true))))=true;rw[c'P,c'P];rfl
theorem v'Z(T:Tx w K mg)(us:List Str)(tb:Addr)(a:List (List Int)):nlt (Tr.ins .o T.aap (afK us tb a))=true:=by
 show (true&&(true&&((nlts (us.map Enc.t))&&(nlts (a.map Enc.t)&&true))))=true;rw[b'e,b'e];rfl
def aiK(T:Tx w K mg):PSp:=λa Q=>a.length=4/\∃(f g h:Fl)(rs:List ack)(us:List Str)(_:Fp f)(_:Fp g)(_:Fp h),a=[.ins .o T.aap [],.lst f (rs.map Enc.t),.lst g ((rs.map λ_=>(0:Rat)).map Enc.t),.lst h (us.map Enc.t)]/\(∀o∈rs,ad2 o/\o.1.length<=100)/\rs.length<=16/\us.length<=8/\∀(tb:Addr)(b:List (List Int))(j:List Tr),j[0]?=some (.ins .o T.aap (afK us tb b))->Q .non j
theorem w'a{o:ack}(h:ad2 o):ad2 (wdr o):=by
 refine⟨λp a=>?_,h.2⟩;unfold wdr ptd at a;dsimp only at a;split at a
 .obtain⟨p',mp',rfl⟩:=mem_map.mp a;split
  .rfl
  .exact h.1 p' mp'
 .rcases mem_append.mp a with z |z
  .exact h.1 p z
  .rw[mem_singleton.mp z]
theorem t'Q{j:List Tr}{i:Nat}{c b:Addr}{fs a:List (Str×Tr)}{f g:Str}{v:Tr}{Q:Tr->(Tr->List Tr)->Prop}(h:j[i]?=some (.ins .o c fs))(m:Cls K c/\NoAttr K c f)(l:fs.lookup f=some (.ins .o b a))(d:Cls K b/\NoAttr K b g)(hl2:a.lookup g=some v)(q:Q v λx=>j.set i (.ins .o c (adO f (.ins .o b (adO g x a)) fs))):wPl K j i [g,f] Q:=by
 have e:getR (.ins .o c fs) [f]=.ins .o b a:=by show (fs.lookup f).getD .hole=_;rw[l];rfl
 unfold wPl;rw[h];refine⟨⟨⟨trivial,m,by rw[l];rfl⟩,?_⟩,?_⟩
 .rw[e];exact⟨d,by rw[hl2];rfl⟩
 .show Q (match getR (.ins .o c fs) [f] with |.ins .o _ fs=>(fs.lookup g).getD .hole |_=>.hole) (λu=>j.set i (aei (.ins .o c fs) [f] (match getR (.ins .o c fs) [f] with |.ins .o c fs=>.ins .o c (adO g u fs) |y=>y)));rw[e];show Q ((a.lookup g).getD .hole) _;rw[hl2];exact q
theorem e'V(T:Tx w K mg):FnOk P w K mg base CX0 6 T.abm.a T.abm.d ["self","rows","paces","unknowns"] (spP K true 1 4 (aiK T)):=by
 refine a'q T.abm.F acE rfl (by decide) λ_ _ _ _ _ _ v=>?_
 have O:=a'l v;refine⟨_,(a'c (a'V (i:=4) acE.nd (by decide) rfl (Or.inl rfl) (f'r T.aa8.t ((c'h T).mono (by omega)) (by walk_at "z") (λ_ _ h=>h.1) v rfl T.aai T.aa8.b (QA.frz (a'a (a'P (N:=["one","pace"]) (ix:=[none,none]) rfl (h'Z rfl T.ace (a'a (qv 1) (a'a (qv 2) a'b))) (f'M (n:=2) rfl (a'S (a'D (i:=0) (by decide) rfl) (a'S (a'D (i:=1) (by decide) rfl) c'r))) (λ_ _ _ _ _=>a'v) (λ_ _ _ _ _=>(a'j ((f'C T).mono (by omega)) (by walk_at "z") (λ_ _ h=>h.1) v rfl T.aaR.m T.aaR.F.kp T.aaR.b (QA.frz (a'a (qv 0) (a'a (qv 1) a'b))))) True.intro) (a'a (a'H (b'n (b'm rfl) a'M rfl T.aca rfl (a'a (qv 3) a'b)) (a'T (a'a (v'd rfl T.abv) a'b))) a'b)))))
  (t'C (iS:=4) O (a't 0) (d'P (a't 4)) (a't 0) (d'P (d'P (a't 0))) (a'U a'W a'z rfl T.ab6 rfl (a'a (qv 3) a'b)) (a'o K rfl (qv 0))
  (a'c (c'y (a't 0) (b'n (b'm rfl) a'M rfl T.aca rfl (a'a (qv 3) a'b)))
  (a'c (c'y (a't 0) (a'T a'b))
  (a'f (b'j PassesOwn.never rfl (b'd (a'j ((d'w T).mono (by omega)) (by walk_at "z") (λ_ _ h=>h.1) v rfl T.aaL.m T.aaL.F.kp T.aaL.b (QA.frz (a'a (qv 4) (a'a (qv 3) a'b))))) (a'R (i:=5) acE.nd (by decide) rfl (Or.inl rfl)) (a'c (f'X (c't (a't 4) ((λC g d=>MOkA.mono (c'L T C g d) (by omega))) (by walk_at "z") (λ_ _ _ h=>h.1) v (d'O (qv 5) d'c)))
  (a'f (c'l (d'P (a't 0)) (a'j ((b'E T).mono (by omega)) (by walk_at "z") (λ_ _ h=>h.1) v rfl T.aaF.m T.aaF.F.kp T.aaF.b (QA.frz (a'a (qv 5) (a'a (a'j ((b'D T).mono (by omega)) (by walk_at "z") (λ_ _ h=>h.1) v rfl T.aaE.m T.aaE.F.kp T.aaE.b (QA.frz (a'a (qv 5) a'b))) a'b))))))))))))),?_⟩
 rintro xs Q' _ ⟨_,f,g,h,rs,us,_,_,_,rfl,y,Y,h8,q⟩;walk_at"";have A:(rs.zip (rs.map λ_=>(0:Rat))).length<=16:=by rw[length_zip];omega
 refine CLoop.map (rs.zip (rs.map λ_=>(0:Rat))) _ (λp=>wdr p.1) (by omega) (λp E R L=>?_) ?_
 .have hm:=of_mem_zip (a:=p.1) (b:=p.2) E;obtain⟨_,_,J⟩:=mem_map.mp hm.2;walk_at"";rw[<- J];exact⟨rfl,p.1,rfl,(y _ hm.1).2,λ_=>L⟩
 have s:aek ((rs.zip (rs.map λ_=>(0:Rat))).map λp=>wdr p.1) (us++[Str.ofString ""]):=⟨by rw[length_map];exact A,by rw[length_append];show us.length+1<=10;omega,λo mo=>by
  obtain⟨p,E,rfl⟩:=mem_map.mp mo;exact w'a (y _ (of_mem_zip (a:=p.1) (b:=p.2) E).1).1⟩
 generalize (rs.zip (rs.map λ_=>(0:Rat))).map (λp=>wdr p.1)=R at s;rw[a'w,e_d];refine⟨by omega,i'O T s ⟨e'N T _,?_⟩⟩;unfold agC;refine⟨d'Q rfl ⟨T.aaj,T.aao⟩ (lkn (lkn (lkn (lkn lk0)))) ⟨_,_,rfl⟩,?_⟩;walk_at"";refine⟨⟨T.aar,T.aas⟩,by decide,T.aat,λtb=>⟨_,rfl,t'Q rfl ⟨T.aaj,T.aao⟩ (lkn (lkn (lkn (lkn lk0)))) ⟨T.aac,T.aag⟩ (lkn (lkn (lkn lk0))) ?_⟩⟩;have M:Tr.ins .o T.aah (adO "table" (.ins .o T.aaa (adO "shut" (.dic .o (ad8 (mT []) (Sum.inl (us.length:Int)) .non)) (tbF .o (sh0 R (us++[Str.ofString ""])).tb))) (shF T .o (sh0 R (us++[Str.ofString ""]))))=shT T .o (shG R (us++[Str.ofString ""]) [] [(Sum.inl (us.length:Int),none)]):=by
  rw[show Tr.non=Enc.t (none:Option Int) from rfl,o'k,o'j];exact congrArg (Tr.ins .o T.aah) (k'N T _ _)
 rw[i'n];refine a'Q ⟨T.aar,T.aat⟩ (lkn lk0) ?_;rw[i's];refine⟨show (0:Nat)<1000000 by decide,?_⟩;dsimp only;rw[show (sh0 R (us++[Str.ofString ""])).tb.m=[] from rfl];rw[M];walk_at"";have ep:aex (Str.ofString "goals") (Tr.lst Fl.o []) (aex (Str.ofString "unknowns") (Tr.lst Fl.o (List.map Enc.t us)) [(Str.ofString "table",Tr.cl tb),(Str.ofString "wider",Tr.int (us.length:Int))])=afK us tb []:=by
  (repeat first |rw[b'g] |rw[c'd])
  rfl
 rw[ep];refine⟨⟨T.aar,T.aau⟩,by decide,⟨T.aar,T.aav⟩,by (repeat first |rw[b'g] |rw[c'd]);exact (by decide:3<900),?_⟩;rw[a'I];simp only[lfl,a'u];rw[show Pu.frz (shT T (Fl.l true) (shG R (us++[Str.ofString ""]) [] [(Sum.inl (us.length:Int),none)]))=shT T (Fl.l true) (shG R (us++[Str.ofString ""]) [] [(Sum.inl (us.length:Int),none)]) from rfl,a'L];refine⟨rfl,.l false,h,R,us++[Str.ofString ""],us,[],_,inferInstance,‹_›,rfl,s,by omega,λ_=>?_⟩;dsimp only;rw[r'F,b'M];have ok:=o'q (rs:=R) (us:=us++[Str.ofString ""]) (vs:=us);have el:(gcs R (us++[Str.ofString ""]) us).length=us.length+5:=by unfold gcs;rw[length_append,length_map,length_map];simp;omega
 rw[show ([0,1,2,3,4]:List Int).map (rkc (us++[Str.ofString ""]).length R)++us.map (λu=>suc (us++[Str.ofString ""]) R.length [(u,1)])=gcs R (us++[Str.ofString ""]) us from rfl];generalize gcs R (us++[Str.ofString ""]) us=cl at ok el;generalize α:us++[Str.ofString ""]=vs at s ok;have I:=s.u;have H:=s.r;refine⟨b'e _,Loop.map cl _ (λi j=>∃(ss:List (List Rat))(x:List (Key×Option Int))(c:List (List Int))(a:Tr),j=[.ins .o T.aap (afK us tb c),.lst f (rs.map Enc.t),.lst g ((rs.map λ_=>(0:Rat)).map Enc.t),.lst h (us.map Enc.t),shT T .o (shG R vs ss x),a]/\ss.length=i/\x.length<=100+50*i/\c.length=i) ⟨[],_,[],_,rfl,rfl,by simp,rfl⟩ ?_ ?_⟩
 .rintro i cs j hi ⟨ss,x,c,a,rfl,e1,e2,e3⟩;have U:=(List.getElem?_eq_some_iff.mp hi).1;have B:=ok cs (mem_of_getElem? hi);have G:=(B.i s).1;walk_at"";refine c'B rfl (by intro z;cases z) (a's T ?_);walk_at"";rw[a'L];refine⟨rfl,.f,R,vs,ss,x,cs,inferInstance,rfl,s,B,by omega,by omega,λm2 D hk j2 e=>?_⟩;dsimp only;rw[e,a'u];refine⟨d'S T _,?_⟩;rw[B.1] at D;refine d'Q rfl ⟨T.aar,T.aav⟩ (lkn (lkn (lkn lk0))) ?_;rw[i'm];refine⟨rfl,.f,cs,inferInstance,rfl,G,λ_=>?_⟩;refine⟨rfl,.f,cs,inferInstance,rfl,G,λ_=>?_⟩;dsimp only;have Q:adO (Str.ofString "goals") (Tr.lst Fl.o (c.map Enc.t++[Enc.t (cs.map Rat.num)])) (afK us tb c)=afK us tb (c++[cs.map Rat.num]):=by
   unfold afK;rw[b'c,b'c,b'c,d'V,map_append];rfl
  rw[a'w,Q];exact⟨b'e _,by rw[length_map];omega,_,m2,c++[cs.map Rat.num],_,rfl,by rw[length_append,e1];rfl,by omega,by rw[length_append,e3];rfl⟩
 .rintro j ⟨ss,x,c,a,rfl,e1,e2,e3⟩;exact q tb c _ rfl
def ahL(T:Tx w K mg):adM:=λa Q q=>a.length=4/\∃(f g:Fl)(rs:List ack)(us:List Str)(_:Fp f)(_:Fp g),a=[.lst f ((rs.map λo=>(o,(0:Rat))).map Enc.t),.lst g (us.map Enc.t),Enc.t (0:Rat),Enc.t (0:Rat)]/\(∀o∈rs,ad2 o/\o.1.length<=100)/\rs.length<=100/\us.Nodup/\(16<rs.length\/8<us.length->q (.ref T.abI))/\(rs.length<=16->us.length<=8->((∃o∈rs,brk o)->q (.ref T.abN))/\(¬ (∃o∈rs,brk o)->∀j,Q (.tup [plF us,.lst .o []]) j))
theorem o'w(T:Tx w K mg):FnOk P w K mg base (CX1 P w) 12 T.aaS.a T.aaS.d ["growing","unknowns","start","stop"] (spX K true 0 4 (ahL T)):=by
 refine c'k T.aaS.F acJ rfl (by decide) λ_ _ _ _ _ _ q r=>?_
 have J:=a'l r;refine⟨_,(a'c (a'h (i:=4) acJ.nd (by decide) rfl (Or.inl rfl) (a'j ((l'J T).mono (by omega)) (by walk_at "z") (λ_ _ h=>h.1) r rfl T.aaQ.m T.aaQ.F.kp T.aaQ.b (QA.frz (a'a (qv 0) (a'a (qv 2) a'b)))))
  (a'c (a'h (i:=5) acJ.nd (by decide) rfl (Or.inl rfl) (a'N ((o't T).mono (by omega)) (b'a (b'A rfl rfl rfl rfl)) (by walk_at "z") (λ_ _ _ h=>h.1) r rfl T.aaN.m T.aaN.F.kp T.aaN.b (QA.frz (a'a (qv 4) (a'a (qv 1) a'b)))))
  (a'c (a'V (i:=6) acJ.nd (by decide) rfl (Or.inl rfl) (f'r T.abm.t ((e'V T).mono (by omega)) (by walk_at "z") (λ_ _ h=>h.1) r rfl T.aaq T.abm.b (QA.frz (a'a (qv 4) (a'a (a'P (N:=["one","pace"]) (ix:=[none,none]) rfl (b'd (qv 0)) (f'M (n:=2) rfl (a'S (a'D (i:=0) (by decide) rfl) (a'S (a'D (i:=1) (by decide) rfl) c'r))) (λ_ _ _ _ _=>a'v) (λ_ _ _ _ _=>(qv 1)) True.intro) (a'a (qv 1) a'b))))))
  (a'c (a'h (i:=7) acJ.nd (by decide) rfl (Or.inl rfl) (a'j ((c'A T).mono (by omega)) (by walk_at "z") (λ_ _ h=>h.1) r rfl T.aaz.m T.aaz.F.kp T.aaz.b (QA.frz (a'a (qv 3) (a'a (qv 2) a'b)))))
  (a'c (a'V (i:=8) acJ.nd (by decide) rfl (Or.inl rfl) (a'T a'b))
  (a'c (a'h (i:=9) acJ.nd (by decide) rfl (Or.inl rfl) (b'k [0,1] rfl T.abo T.abp))
  (a'c (l'm (c'c rfl) (QW.t (c'x (c'I (a'j ((i'H T).mono (by omega)) (by walk_at "z") (λ_ _ h=>h.1) r rfl T.aaC.m T.aaC.F.kp T.aaC.b (QA.frz (a'a (qv 9) (a'a (qv 7) a'b))))) (c'x (a'k w'n u'I (a'U a'W a'z rfl T.ab6 rfl (a'a (qv 8) a'b)) (c'O rfl T.abF) (by walk_at "u")) (c'q (q'w (c'I x'c)))))) (a'c a'Z
  (a'c a'Z
  (a'c a'Z
  (a'f a'Z)))))
  (a'f (a'm (a'O (a'a (qv 5) (a'a (e'F (qv 8) f'L (d'I (c'O rfl T.abF))) a'b)))))))))))),?_⟩
 rintro G H _ ⟨_,f,g,rs,us,_,_,rfl,c,s,x,E,A⟩;walk_at"";refine⟨rfl,f,rs,‹_›,rfl,λo mo=>(c o mo).1,s,λ_=>⟨f'B rs,?_⟩⟩;rw[show Pu.frz (Tr.lst .o (rs.map aem))=.lst .f (rs.map Enc.t) from by show Tr.lst .f (frzs _)=_;rw[g'p]];walk_at"";refine⟨rfl,.f,g,rs,us,inferInstance,‹_›,rfl,λo mo=>(c o mo).1,x,E,λv z=>⟨(A v z).1,λD _=>?_⟩⟩;have C:=(A v z).2 D;refine⟨r'G us,?_⟩;rw[r'H];rw[map_map];refine CLoop.map rs _ (λ_=>(0:Rat)) (by omega) (λo mo R B=>?_) ?_
 .change (pgT 2 (acH (pgN 0) (acH (pgN 1) adk))) (Tr.tup [Enc.t o,Enc.t (0:Rat)]) _ _
  walk_at"";exact B
 rw[a'w,e_d];refine⟨rfl,.f,.f,g,rs,us,inferInstance,inferInstance,‹_›,rfl,c,v,z,λtb y j e=>⟨rfl,?_⟩⟩;rw[e];refine⟨v'Y T us tb y,v'Z T us tb y,rfl,0,0,rfl,by rw[b'z];decide,λ_=>⟨e_t _,?_⟩⟩;dsimp only;rw[e_f,show (0:Rat) - 0=0 from by walk_at "k"];refine⟨λ_ j=>j=[Tr.lst f (List.map (Enc.t ∘ λo=>(o,(0:Rat))) rs),Tr.lst g (List.map Enc.t us),Enc.t (0:Rat),Enc.t (0:Rat),Tr.lst Fl.f (List.map Enc.t rs),plF us,Tr.ins .o T.aap (afK us tb y),Enc.t (0:Rat),Tr.lst Fl.o [],Enc.t (0:Rat),Tr.hole],⟨0,rfl⟩,?_⟩;rintro _ I rfl;walk_at"";refine⟨rfl,0,0,rfl,by rw[b'z];decide,λ_=>?_⟩;rw[show decide ((0:Rat)<0)=false from by walk_at "k"];dsimp only;simp only[wBl];rw[if_neg (by decide),show lend (plF us)=plF us from (clo _ (c's _)).l,show ad1 ([]:List Tr) none (some 40)=[] from rfl,show (plF us)=Tr.dic .f ((us.map λu=>(u,(0:Rat))).map λp=>((Sum.inr p.1:Key),Enc.t p.2)) from rfl];walk_at"";exact⟨(Bool.and_true _).trans (clo _ (c's (us.map λu=>(u,(0:Rat))))).o,C _⟩
def afi:PSp:=ade 2 λb Q=>∃(f:Fl)(a:List Int)(k:Int),Fp f/\b=[.lst f (a.map Enc.t),.int k]/\0<=k/\∀c:Int,Q (.int c)
theorem g'q(T:Tx w K mg){z:Bool}:FnOk P w K mg base CX0 1 T.aaU.a T.aaU.d ["_law_script","_law_k"] (spP K z 0 2 afi):=by
 refine a'q T.aaU.F f'Z rfl (by decide) λ_ _ _ _ _ _ h=>?_
 have g:=a'l h;refine⟨_,(a'c (a'C (a'k h'L d'D (qv 1) (a'U a'W a'z rfl T.ab6 rfl (a'a (qv 0) a'b)) (by walk_at "u")) (a'f (a'm (a'i g (qv 0) (qv 1) (λ_ _=>rfl)))) a'p)
  (a'f (a'm a'd))),?_⟩
 rintro l j _ ⟨_,f,b,k,_,rfl,e,q⟩;walk_at"";split
 .rename_i c;exact a'X _ _ _ (i'q b e (by have:=of_decide_eq_true c;omega)) ⟨e_o _,q _ _⟩
 .exact q _ _
theorem b'I{j:Int}(h:j.natAbs<2 ^ 100):j.natAbs<2 ^ 8000:=lt_of_lt_of_le h (Nat.pow_le_pow_right (by decide) (by omega))
theorem cml{i j:Int}(h:-(2 ^ 64)<i/\i<2 ^ 64):adX i j:=.inl (.inl h)
theorem cmr{i j:Int}(h:-(2 ^ 64)<j/\j<2 ^ 64):adX i j:=.inl (.inr h)
def aiL:PSp:=ade 2 λa Q=>∃(c k:Int),a=[.int c,.int k]/\∀r:Int,Q (.int r)
theorem c'n(T:Tx w K mg){z:Bool}:FnOk P w K mg base CX0 1 T.aaV.a T.aaV.d ["_law_cell","_law_k"] (spP K z 0 2 aiL):=by
 refine a'q T.aaV.F ady rfl (by decide) λ_ _ _ _ _ _ h=>?_
 have m:=a'l h;refine⟨_,(a'c (a'h (i:=2) ady.nd (by decide) rfl (Or.inl rfl) (b'i (a'y (b'i (a'H (a'H (qv 0) (a'y a'd (qv 1))) a'd) a'd) a'd) a'd))
  (a'c (a'h (i:=2) ady.nd (by decide) rfl (Or.inl rfl) (b'i (a'y (qv 2) (a'H (b'W (qv 2) a'd) a'd)) a'd))
  (a'f (a'm (b'i (a'y (qv 2) (a'H (b'W (qv 2) a'd) a'd)) a'd))))),?_⟩
 rintro l j _ ⟨_,c,k,rfl,q⟩;walk_at"";have b:=emod_nonneg ((c+7919*k+1) % 2147483647*48271) (show (2147483647:Int)≠0 by decide);have e:=emod_lt_of_pos ((c+7919*k+1) % 2147483647*48271) (show (0:Int)<2147483647 by decide);generalize (c+7919*k+1) % 2147483647*48271 % 2147483647=u at b e;have g:=emod_nonneg (u*(u.fdiv 1009+69621)) (show (2147483647:Int)≠0 by decide);have f:=emod_lt_of_pos (u*(u.fdiv 1009+69621)) (show (0:Int)<2147483647 by decide);generalize u*(u.fdiv 1009+69621) % 2147483647=v at g f;exact⟨cml (by decide),by decide,cmr (by decide),by decide,⟨by decide,b'I (by decide)⟩,cml (by omega),by decide,⟨by decide,b'I (by decide)⟩,cml (by omega),by decide,q _ _⟩
structure LwOk(o:ack):Prop where
 p:o.1=[]
 k:o.2.1="least"\/o.2.1="most"\/o.2.1="just"
 d:o.2.2.1.den=1
 n:o.2.2.1.num.natAbs<=3
 r:0<=o.2.2.2.1
 w:o.2.2.2.2=1
theorem x'p{r:Int}{Q:Tr->Prop}(b:0<=r)(a:r<3)(q:∀k:Str,(k="least"\/k="most"\/k="just")->Q (.str k)):ad0 (Tr.lst .o [.str (Str.ofString "least"),.str (Str.ofString "most"),.str (Str.ofString "just")]) (.int r) Q:=by
 rcases (by omega:r=0\/r=1\/r=2) with rfl |rfl |rfl
 .exact q _ (.inl rfl)
 .exact q _ (.inr (.inl rfl))
 .exact q _ (.inr (.inr rfl))
def ahM:PSp:=ade 2 λa Q=>∃(c:Int)(b:Bool),a=[.int c,.bl b]/\∀o:ack,LwOk o->Q (aem o)
theorem f'D(T:Tx w K mg){z:Bool}:FnOk P w K mg base CX0 2 T.aaW.a T.aaW.d ["_law_cell","_law_musts"] (spP K z 0 2 ahM):=by
 refine a'q T.aaW.F acR rfl (by decide) λ_ _ _ _ _ _ f=>?_
 have u:=a'l f;refine⟨_,(a'c (a'h (i:=2) acR.nd (by decide) rfl (Or.inl rfl) (a'i u (a'T (a'a a'G (a'a a'G (a'a a'G a'b)))) (b'i (a'j ((c'n T).mono (by omega)) (by walk_at "z") (λ_ _ h=>h.1) f rfl T.aaV.m T.aaV.F.kp T.aaV.b (QA.frz (a'a (qv 0) (a'a a'd a'b)))) a'd) (λ_ _=>rfl)))
  (a'c (a'h (i:=3) acR.nd (by decide) rfl (Or.inl rfl) (a'O (a'a (h'd (b'i (a'j ((c'n T).mono (by omega)) (by walk_at "z") (λ_ _ h=>h.1) f rfl T.aaV.m T.aaV.F.kp T.aaV.b (QA.frz (a'a (qv 0) (a'a a'd a'b)))) a'd) a'd) (a'a a'd a'b))))
  (a'c (a'h (i:=4) acR.nd (by decide) rfl (Or.inl rfl) (a'H a'd (b'i (a'j ((c'n T).mono (by omega)) (by walk_at "z") (λ_ _ h=>h.1) f rfl T.aaV.m T.aaV.F.kp T.aaV.b (QA.frz (a'a (qv 0) (a'a a'd a'b)))) a'd)))
  (a'c (a'C (QW.t (c'x (c'I (qv 1)) (c'q (a'k (b'b f.units) a'r (b'i (a'j ((c'n T).mono (by omega)) (by walk_at "z") (λ_ _ h=>h.1) f rfl T.aaV.m T.aaV.F.kp T.aaV.b (QA.frz (a'a (qv 0) (a'a a'd a'b)))) a'd) a'd (by walk_at "u"))))) (a'f (a'h (i:=4) acR.nd (by decide) rfl (Or.inl rfl) a'd)) a'p)
  (a'f (a'm (a'O (a'a d'H (a'a (qv 2) (a'a (qv 3) (a'a (qv 4) (a'a a'd a'b)))))))))))),?_⟩
 rintro v n _ ⟨_,c,b,rfl,q⟩;walk_at"";refine⟨rfl,c,1,rfl,λl _=>?_⟩;walk_at"";refine⟨by decide,x'p (emod_nonneg l (by decide)) (emod_lt_of_pos l (by decide)) λk p=>?_⟩;walk_at"";refine⟨rfl,c,2,rfl,λr2 _=>?_⟩;walk_at"";refine⟨by decide,rfl,c,3,rfl,λr3 _=>?_⟩;walk_at"";have y:=emod_nonneg r2 (show (7:Int)≠0 by decide);have r:=emod_lt_of_pos r2 (show (0:Int)<7 by decide);have x:=emod_nonneg r3 (show (4:Int)≠0 by decide);have e:∀g:Int,0<=g->∀j,n (Tr.tup [Tr.dic Fl.o [],Tr.str k,Tr.tup [Tr.int (r2 % 7 - 3),Tr.int 1],Tr.int g,Tr.int 1]) j:=λg s j=>q ([],k,((r2 % 7 - 3:Int):Rat),g,1) ⟨rfl,p,rfl,by show (r2 % 7 - 3).natAbs<=3;omega,s,rfl⟩ j
 refine⟨by decide,?_⟩;split
 .refine⟨rfl,c,4,rfl,λr4 _=>?_⟩;walk_at"";refine⟨by decide,?_⟩;split
  .exact⟨rfl,e 0 (by decide) _⟩
  .exact⟨rfl,e _ (by omega) _⟩
 .exact⟨rfl,e _ (by omega) _⟩
def ahN:PSp:=ade 1 λa Q=>∃o:ack,a=[Enc.t o]/\LwOk o/\∀b:Bool,(b=true↔brk o)->Q (.bl b)
theorem g'X(T:Tx w K mg){z:Bool}:FnOk P w K mg base CX0 1 T.aaX.a T.aaX.d ["_law_one"] (spP K z 0 1 ahN):=by
 refine a'q T.aaX.F g'U rfl (by decide) λ_ _ _ _ _ _ f=>?_
 have b:=a'l f;refine⟨_,(a'c (a'C (QW.t (h'e (a'k e'D c'w (a'i b (qv 0) a'd (λ_ _=>rfl)) a'd (by walk_at "u")) (f'n (a'k (b'b f.units) a'r (a'i b (a'i b (qv 0) a'd (λ_ _=>rfl)) a'd (λ_ _=>rfl)) a'd (by walk_at "u"))))) (a'f (a'm h'N)) a'p)
  (a'f (a'm (u'M (c'j (b'b f.units) a'r (a'i b (qv 0) a'd (λ_ _=>rfl)) a'G (by walk_at "u")) (u'M (h'g (c'j (b'b f.units) a'r (a'i b (qv 0) a'd (λ_ _=>rfl)) a'G (by walk_at "u")) (h'f (c'j e'D c'w (a'i b (a'i b (qv 0) a'd (λ_ _=>rfl)) a'd (λ_ _=>rfl)) a'd (by walk_at "u")))) (h'f (h'g (c'j (b'b f.units) a'r (a'i b (qv 0) a'd (λ_ _=>rfl)) a'G (by walk_at "u")) (h'f (c'j h'L d'D (a'i b (a'i b (qv 0) a'd (λ_ _=>rfl)) a'd (λ_ _=>rfl)) a'd (by walk_at "u")))))))))),?_⟩
 rintro s p _ ⟨_,o,rfl,h,q⟩;walk_at"";have n:=h.k;have m:=h.r;by_cases j:0<o.2.2.2.1
 .rw[if_pos (decide_eq_true j)];exact q false ⟨λz=>(nomatch z),λz=>absurd z.1 (by omega)⟩ _
 rw[if_neg (by simpa using j)];by_cases c:o.2.2.1.num=0
 .rw[if_pos (decide_eq_true c)];exact q false ⟨λz=>(nomatch z),λz=>absurd c z.2.1⟩ _
 rw[if_neg (by simpa using c)];have g:o.2.2.2.1=0:=by omega
 rcases n with e |e |e
 .rw[if_neg (by rw[e];decide +kernel),if_pos (by rw[e];decide +kernel)];by_cases l:0<o.2.2.1.num
  .rw[if_pos (decide_eq_true l)];exact q true ⟨λ_=>⟨g,c,λ_=>by rw[e];decide +kernel,λz=>by omega⟩,λ_=>rfl⟩ _
  .rw[if_neg (by simpa using l),if_neg (by rw[e];decide +kernel)];exact q false ⟨λz=>(nomatch z),λz=>absurd e (z.2.2.2 (by omega))⟩ _
 .rw[if_neg (by rw[e];decide +kernel),if_neg (by rw[e];decide +kernel),if_pos (by rw[e];decide +kernel)];refine q _ ⟨λz=>⟨g,c,λy=>by have:=of_decide_eq_true z;omega,λ_=>by rw[e];decide +kernel⟩,λz=>decide_eq_true ?_⟩ _;exact Classical.byContradiction λy=>z.2.2.1 (by omega) e
 .rw[if_pos (by rw[e];decide +kernel)];exact q true ⟨λ_=>⟨g,c,λ_=>by rw[e];decide +kernel,λ_=>by rw[e];decide +kernel⟩,λ_=>rfl⟩ _
theorem LwOk.rw{o:ack}(h:LwOk o):ad2 o:=⟨λp m=>absurd (h.p ▸ m) (not_mem_nil),h.d,h.n,h.w⟩
theorem w'b{j:Type}(xs:List j):(ad1 xs (some (-1)) none).length<=1:=by
 unfold ad1;rw[length_take,List.length_drop];unfold HT.sIx;dsimp only;rw[if_pos (by decide)];omega
def agK(T:Tx w K mg):adM:=λa Q q=>a.length=3/\∃(f g:Fl)(rs:List ack)(us:List Str)(k:Int)(_:Fp f)(_:Fp g),a=[.lst f (rs.map Enc.t),.lst g (us.map Enc.t),.int k]/\(∀o∈rs,LwOk o)/\rs.length<=100/\us.Nodup/\(16<rs.length\/8<us.length->q (.ref T.abI))/\(rs.length<=16->us.length<=8->((∃o∈rs,brk o)/\k≠2->q (.ref T.abN))/\(¬ ((∃o∈rs,brk o)/\k≠2)->∀t,nol t=true->∀j,Q t j))
theorem e'a(T:Tx w K mg):FnOk P w K mg base (CX1 P w) 13 T.aaY.a T.aaY.d ["_law_rows","_law_some","_law_which"] (spX K true 0 3 (agK T)):=by
 refine c'k T.aaY.F i'G rfl (by decide) λ_ _ _ _ _ _ q r=>?_
 have J:=a'l r;refine⟨_,(a'c (a'C (a'k (b'b r.units) a'r (qv 2) a'd (by walk_at "u")) (a'f (a'm (a'N ((q'o T).mono (by omega)) (b'a (b'A rfl rfl rfl rfl)) (by walk_at "z") (λ_ _ _ h=>h.1) r rfl T.aaT.m T.aaT.F.kp T.aaT.b (QA.frz (a'a (qv 0) (a'a (qv 1) (a'a (a'O (a'a d'H (a'a (a'O (a'a a'd (a'a a'd a'b))) a'b))) a'b))))))) a'p)
  (a'c (a'C (a'k (b'b r.units) a'r (qv 2) a'd (by walk_at "u")) (a'f (a'm (a'N ((t'O T).mono (by omega)) (b'a (b'A rfl rfl rfl rfl)) (by walk_at "z") (λ_ _ _ h=>h.1) r rfl T.aaO.m T.aaO.F.kp T.aaO.b (QA.frz (a'a (qv 0) (a'a (qv 1) a'b)))))) a'p)
  (a'c (a'C (a'k (b'b r.units) a'r (qv 2) a'd (by walk_at "u")) (a'f (a'm (a'N ((o'u T).mono (by omega)) (b'a (b'A rfl rfl rfl rfl)) (by walk_at "z") (λ_ _ _ h=>h.1) r rfl T.aaP.m T.aaP.F.kp T.aaP.b (QA.frz (a'a (qv 0) (a'a (qv 1) (a'a (e'F (a'P (N:=["_law_k","_law_one"]) (ix:=[none,none]) rfl (h'Y rfl T.acd (a'a (qv 0) a'b)) (f'M (n:=2) rfl (a'S (a'D (i:=0) (by decide) rfl) (a'S (a'D (i:=1) (by decide) rfl) c'r))) (λ_ _ _ _ _=>(e'k (a'k (b'b r.units) a'r (a'i J (qv 1) a'd (λ_ _=>rfl)) a'd (by walk_at "u")))) (λ_ _ _ _ _=>(qv 0)) True.intro) (d'I (b'L a'd)) f'L) a'b))))))) a'p)
  (a'f (a'm (a'N ((o'w T).mono (by omega)) (b'a (b'A rfl rfl rfl rfl)) (by walk_at "z") (λ_ _ _ h=>h.1) r rfl T.aaS.m T.aaS.F.kp T.aaS.b (QA.frz (a'a (a'P (N:=["_law_one"]) (ix:=[none]) rfl (b'd (qv 0)) (a'D (i:=0) (by decide) rfl) (λ_ _ _ _ _=>a'v) (λ_ _ _ _ _=>(a'O (a'a (qv 0) (a'a (a'O (a'a a'd (a'a a'd a'b))) a'b)))) True.intro) (a'a (qv 1) (a'a (a'O (a'a a'd (a'a a'd a'b))) (a'a (a'O (a'a a'd (a'a a'd a'b))) a'b))))))))))),?_⟩
 rintro L O _ ⟨_,f,g,rs,us,k,_,_,rfl,y,G,s,C,v⟩;have u:∀o∈rs,ad2 o:=λo mo=>(y o mo).rw
 walk_at"";by_cases E:k=0
 .rw[if_pos (decide_eq_true E)];refine⟨rfl,f,g,rs,us,5,‹_›,‹_›,rfl,u,s,C,λe l=>⟨λc=>(v e l).1 ⟨c,by omega⟩,λc a b j=>?_⟩⟩;exact⟨by show (true&&(nol (plc us)&&(nol (Enc.t b)&&true)))=true;rw[d's,e_o];rfl,(v e l).2 (λz=>c z.1) _ (by show (true&&(nol (plc us)&&(nol (Enc.t b)&&true)))=true;rw[d's,e_o];rfl) _⟩
 rw[if_neg (by simpa using E)];by_cases B:k=1
 .rw[if_pos (decide_eq_true B)];refine⟨rfl,f,g,rs,us,‹_›,‹_›,rfl,u,s,C,λe l=>⟨λc=>(v e l).1 ⟨c,by omega⟩,λc a b j=>?_⟩⟩;exact⟨by show (nol (plc us)&&(nol (Enc.t a)&&(nol (Enc.t b)&&true)))=true;rw[d's,e_o,e_o];rfl,(v e l).2 (λz=>c z.1) _ (by show (nol (plc us)&&(nol (Enc.t a)&&(nol (Enc.t b)&&true)))=true;rw[d's,e_o,e_o];rfl) _⟩
 rw[if_neg (by simpa using B)];by_cases x:k=2
 .rw[if_pos (decide_eq_true x)];have I:rs.zipIdx.length=rs.length:=length_zipIdx;refine CLoop.filter rs.zipIdx _ (λp=>decide (p.1.2.2.2.1=0)) (λp=>(p.2:Int)) (by omega) (λp M A R B x=>?_) ?_
  .walk_at"";split
   .next z=>exact B z
   .next z=>exact x (by simpa using z)
  rw[f'q,f'W,a'w,e_d];refine⟨rfl,f,g,.f,rs,us,_,‹_›,‹_›,inferInstance,rfl,u,s,w'b _,C,λe l n j=>⟨h'm us n,(v e l).2 (λz=>z.2 x) (.lst .o (List.replicate n (plF us))) (h'm us n) _⟩⟩
 rw[if_neg (by simpa using x)];refine CLoop.map rs _ (λo=>(o,(0:Rat))) (by omega) (λo mo R H=>?_) ?_
 .walk_at"";exact H
 rw[a'w,e_d];refine⟨rfl,.f,g,rs,us,inferInstance,‹_›,rfl,λo mo=>⟨u o mo,by rw[(y o mo).p];decide⟩,G,s,C,λe l=>⟨λc=>(v e l).1 ⟨c,x⟩,λc j=>?_⟩⟩;have D:nol (Tr.tup [plF us,.lst .o []])=true:=by show (nol (plF us)&&(true&&true))=true;rw[show nol (plF us)=true from (clo _ (c's _)).o];rfl
 exact⟨D,(v e l).2 (λz=>c z.1) _ D _⟩
def agL(T:Tx w K mg):PSp:=ade 3 λa Q=>∃(f g:Fl)(rs:List ack)(us:List Str)(k:Int)(_:Fp f)(_:Fp g),a=[.lst f (rs.map Enc.t),.lst g (us.map Enc.t),.int k]/\(∀o∈rs,LwOk o)/\rs.length<=100/\us.Nodup/\∀x:Str,(16<rs.length\/8<us.length->x="many")->(rs.length<=16->us.length<=8->((∃o∈rs,brk o)/\k≠2->x="clash")/\(¬ ((∃o∈rs,brk o)/\k≠2)->x="told"))->Q (.str x)
theorem j'k(T:Tx w K mg):FnOk P w K mg base CX0 14 T.aaZ.a T.aaZ.d ["_law_rows","_law_some","_law_which"] (spP K true 0 3 (agL T)):=by
 refine a'q T.aaZ.F acU rfl (by decide) λ_ _ _ _ _ _ n=>?_
 have B:=a'l n;refine⟨_,(a'c (a'h (i:=3) acU.nd (by decide) rfl (Or.inl rfl) a'G)
  (a'c (v'A (pe:=λq=>ad7 q _ _) rfl rfl i'a (λpn xe s h=>c'o h) (λpn xe R o q=>(a'N ((e'a T).mono (by omega)) o (by walk_at "z") (λ_ _ _ h=>h.1) n rfl T.aaY.m T.aaY.F.kp T.aaY.b (QA.frz (a'a (qv 0) (a'a (qv 1) (a'a (qv 2) a'b)))))) (i'A rfl T.abJ (λv=>(a'f (a'h (i:=3) acU.nd (by decide) rfl (Or.inl rfl) a'G))) (i'A rfl T.abO (λv=>(a'f (a'h (i:=3) acU.nd (by decide) rfl (Or.inl rfl) a'G))) t'x)))
  (a'f (a'm (qv 3))))),?_⟩
 rintro y x _ ⟨_,f,g,rs,us,k,_,_,rfl,l,r,c,q⟩;walk_at"";refine⟨rfl,f,g,rs,us,k,‹_›,‹_›,rfl,l,r,c,λp=>.inl ⟨T.ab2,q "many" (λ_=>rfl) (λa b=>absurd p (by omega)) _⟩,λu A=>⟨λe=>.inr ⟨T.ab3,.inl ⟨T.ab4,q "clash" (λz=>absurd z (by omega)) (λ_ _=>⟨λ_=>rfl,λz=>absurd e z⟩) _⟩⟩,λe t _ j=>q "told" (λz=>absurd z (by omega)) (λ_ _=>⟨λz=>absurd z e,λ_=>rfl⟩) _⟩⟩
def ahO(T:Tx w K mg):PSp:=ade 3 λa Q=>∃(f g:Fl)(rs:List ack)(us:List Str)(k:Int)(_:Fp f)(_:Fp g),a=[.lst f (rs.map Enc.t),.lst g (us.map Enc.t),.int k]/\(∀o∈rs,LwOk o)/\rs.length<=100/\us.Nodup/\(16<rs.length\/8<us.length)/\Q (.bl true)
theorem g'Y(T:Tx w K mg):FnOk P w K mg base CX0 14 T.aa0.a T.aa0.d ["_law_rows","_law_some","_law_which"] (spP K true 0 3 (ahO T)):=by
 refine a'q T.aa0.F adv rfl (by decide) λ_ _ _ _ _ _ j=>?_
 have y:=a'l j;refine⟨_,(a'c (t'k (i:=3) (pe:=λq=>ad7 q _ _) rfl rfl rfl T.abH adv.nd (by decide) rfl rfl i'a (λpn xe p h=>c'o h) (λpn xe R l q=>(a'N ((e'a T).mono (by omega)) l (by walk_at "z") (λ_ _ _ h=>h.1) j rfl T.aaY.m T.aaY.F.kp T.aaY.b (QA.frz (a'a (qv 0) (a'a (qv 1) (a'a (qv 2) a'b)))))) (λv=>(a'f (a'm (h'g (q'z K rfl rfl T.ab8 rfl (a'a (qv 3) (a'a (p'x rfl T.abJ) a'b))) (h'g (q'z K rfl rfl T.ab8 rfl (a'a (qv 3) (a'a (w'I rfl T.acg rfl) a'b))) (h'f (u'N (v'u K rfl rfl T.ab8 rfl (a'a (qv 3) (a'a (a'O (a'a (p'x rfl T.abO) (a'a (p'x rfl T.abM) a'b))) a'b)))))))))))
  (a'f (a'm h'N))),?_⟩
 rintro u s _ ⟨_,f,g,rs,us,k,_,_,rfl,e,o,c,n,q⟩;walk_at"";refine⟨rfl,f,g,rs,us,k,‹_›,‹_›,rfl,e,o,c,λ_=>⟨T.ab0,T.abI,rfl,true,T.abU,T.abW,?_⟩,λr x=>absurd n (by omega)⟩;dsimp only;rw[c'z,if_pos rfl];refine⟨true,T.abU,T.abX,?_⟩;dsimp only;rw[c'z,if_pos rfl];refine⟨[T.abN,T.abL],false,rfl,T.abU,T.abZ,?_⟩;dsimp only;rw[c'z];exact q _
theorem CLoop.rows(ys:List j)(g:j->Tr){pg:PG'}{pe:PE'}{b:List Tr}{Q:Tr->Prop}(n:ys.length<=1000)(step:∀y∈ys,∀R:Tr->Prop,(∀o,LwOk o->R (aem o))->pg (g y) b λd=>pe d R)(q:∀rs:List ack,rs.length=ys.length->(∀o∈rs,LwOk o)->Q (.lst .o (rs.map aem))):CLoop (ys.map g) pg ahp pe b Q:=by
 refine⟨λi a=>∃rs:List ack,a=rs.map aem/\rs.length=i/\∀o∈rs,LwOk o,⟨[],rfl,rfl,λ_ m=>(nomatch m)⟩,λi t a e h=>?_,λa h=>?_⟩
 .obtain⟨rs,rfl,e1,e2⟩:=h;rw[getElem?_map] at e;cases e':ys[i]? with
  |none=>rw[e'] at e;cases e
  |some y=>
   rw[e'] at e;cases e;have l:=(List.getElem?_eq_some_iff.mp e').1;refine step y (mem_of_getElem? e') _ λo f=>⟨by rw[length_map];omega,rs++[o],by rw[map_append];rfl,by rw[length_append,e1];rfl,λx c=>?_⟩
   rcases mem_append.mp c with z |z
   .exact e2 x z
   .rw[mem_singleton.mp z];exact f
 .obtain⟨rs,rfl,e1,e2⟩:=h;rw[length_map] at e1 ⊢;exact⟨by omega,q rs e1 e2⟩
instance (o:ack):Decidable (brk o):=by unfold brk;infer_instance
def ltr(k:Nat):Str:=⟨#[(atI (Str.ofString "hgfedcbazyxw").cps.toList (k:Int)).getD 0]⟩
theorem w'c:∀k:Nat,k<12->(atI (Str.ofString "hgfedcbazyxw").cps.toList (k:Int)).isSome=true:=by walk_at "k"
def pfx(p:Str):Prop:=p="left "\/p=""\/p="gap x"
theorem w'R{p:Str}(hp:pfx p):∀i<12,∀j<12,p++ltr i=p++ltr j->i=j:=by
 rcases hp with rfl |rfl |rfl<;>decide +kernel
theorem w'd{p:Str}(hp:pfx p){n:Nat}(e:n<=12):((List.range n).map λk=>p++ltr k).Nodup:=by
 refine List.pairwise_map.mpr (List.Pairwise.imp_of_mem (λ{a b} c d h z=>?_) List.nodup_range);have:=mem_range.mp c;have:=mem_range.mp d;exact h (w'R hp a (by omega) b (by omega) z)
def afj(K:W.Frag):Sp:=λvs H Q _=>∃(a:Addr)(ns:List Int),vs=[.ref a]/\SqL K H a (ns.map V.int)/\ns.length<=63/\∀b,Q (.bl true) b
def ahP:PSp:=ade 1 λa Q=>∃ns:List Int,a=[.lst (.l false) (ns.map Enc.t)]/\ns.length<=63/\Q (.bl true)
theorem rs_ints{K:W.Frag}{F:Hp}{B:Bool->Hp}:∀ns:List Int,Rs K F B (ns.map Enc.t) (ns.map V.int) []
 |[]=>⟨rfl,rfl⟩
 |n::ns=>⟨_,_,[],[],rfl,rfl,⟨rfl,rfl⟩,rs_ints ns⟩
theorem w'e{K:W.Frag}(vs:List V)(H:Hp)(Q:VK)(E:XK)(h:afj K vs H Q E):spP K true 0 1 ahP vs H Q E:=by
 obtain⟨a,ns,rfl,d,b,k⟩:=h;refine⟨rfl,λ_=>none,H,[.lst (.l false) (ns.map Enc.t)],λ_=>[],λt _=>t=.bl true,λ_=>False,⟨?_,(λ_ _ _ _ z=>by cases z),rfl,?_,(λ_=>.nil),(λ_ _ m=>nomatch m),(λ_ _ _ _ m=>nomatch m),(λi h=>absurd h (Nat.not_lt_zero i)),λ_ _ _ _ z=>z.elim⟩,⟨rfl,ns,rfl,b,λ_=>rfl⟩,?_⟩
 .exact Gr.refl' (λ_ _ z=>by cases z)
 .intro i t e;cases i with
  |zero=>cases e;exact .inr ⟨.ref a,rfl,rfl,a,_,rfl,d,rs_ints ns⟩
  |succ i=>cases e
 .intro F' H' j' g' cs' v t c _ r _ _ _ _ e;subst e;rw[r.1];exact k _
theorem e'n(rs:List ack){Q:Tr->Prop}(q:Q (.bl false)):ajh true (.lst .f (rs.map Enc.t)) (.lst .f (rs.map Enc.t)) Q:=.inr ⟨i't rs,by show depNs _+1<=40;have:=g'H rs;omega,.inr ⟨_,_,rfl⟩,q⟩
theorem t'R{G:Prop}{c:Bool}{A B:Prop}(h:G)(a:(Unit->G)->A)(b:(Unit->G)->B):if c=true then A else B:=by
 split
 .exact a λ_=>h
 .exact b λ_=>h
theorem i'T(rs:List ack):Pu.frz (Tr.lst .o (rs.map aem))=.lst .f (rs.map Enc.t):=by show Tr.lst .f (frzs _)=_;rw[g'p]
theorem t'S(T:Tx w K mg):FnOk P w K mg base CX0 60 T.aa1.a T.aa1.d ["_law_script"] (spP K true 0 1 ahP):=by
 refine a'q T.aa1.F acN rfl (by decide) λ_ _ _ _ _ _ u=>?_
 have hu:=a'l u;refine⟨_,(a'c (a'h (i:=1) acN.nd (by decide) rfl (Or.inr rfl) (a'j ((g'q T).mono (by omega)) (by walk_at "z") (λ_ _ h=>h.1) u rfl T.aaU.m T.aaU.F.kp T.aaU.b (QA.frz (a'a (qv 0) (a'a a'd a'b)))))
  (a'c (a'h (i:=2) acN.nd (by decide) rfl (Or.inl rfl) (b'i (qv 1) a'd))
  (a'c (b'G (i:=3) (N:=["_law_cell","_law_first"]) (ix:=[none,some 1]) acN.nd (by decide) rfl (Or.inl rfl) rfl (b'd (e'F (qv 0) (d'I a'd) (d'I a'd))) (a'D (i:=0) (by decide) rfl) (λ_ _ _ _ _=>a'v) (λ_ _ _ _ _=>(a'j ((f'D T).mono (by omega)) (by walk_at "z") (λ_ _ h=>h.1) u rfl T.aaW.m T.aaW.F.kp T.aaW.b (QA.frz (a'a (qv 0) (a'a (c'j (b'b u.units) a'r (b'i (b'W (qv 1) a'd) a'd) a'd (by walk_at "u")) a'b))))) ⟨rfl,rfl,rfl,True.intro⟩)
  (a'c (a'C (a'k (b'b u.units) a'r (b'i (b'W (qv 1) a'd) a'd) a'd (by walk_at "u")) (a'c (a'h (i:=2) acN.nd (by decide) rfl (Or.inl rfl) (a'H a'd (b'i (qv 1) a'd)))
  (a'f (b'G (i:=3) (N:=["_law_k","_law_first"]) (ix:=[none,some 1]) acN.nd (by decide) rfl (Or.inl rfl) rfl (e'j rfl T.ab7 (a'a (a'H a'd (b'i (b'W (qv 1) a'd) a'd)) a'b)) (a'D (i:=0) (by decide) rfl) (λ_ _ _ _ _=>a'v) (λ_ _ _ _ _=>(a'j ((f'D T).mono (by omega)) (by walk_at "z") (λ_ _ h=>h.1) u rfl T.aaW.m T.aaW.F.kp T.aaW.b (QA.frz (a'a (a'H (qv 1) (a'y a'd (qv 0))) (a'a (c'j (b'b u.units) a'r (b'i (b'W (qv 1) a'd) a'd) a'd (by walk_at "u")) a'b))))) ⟨rfl,rfl,rfl,True.intro⟩))) a'p)
  (a'c (b'G (i:=4) (N:=["_law_k","_law_first"]) (ix:=[none,some 1]) acN.nd (by decide) rfl (Or.inl rfl) rfl (e'j rfl T.ab7 (a'a (qv 2) a'b)) (a'D (i:=0) (by decide) rfl) (λ_ _ _ _ _=>a'v) (λ_ _ _ _ _=>(a'H (a'i hu (a'T (a'a a'G (a'a a'G (a'a a'G a'b)))) (b'i (qv 1) a'd) (λ_ _=>rfl)) (a'i hu a'G (qv 0) (λ_ _=>rfl)))) ⟨rfl,rfl,rfl,True.intro⟩)
  (a'c (a'h (i:=5) acN.nd (by decide) rfl (Or.inl rfl) (a'U (m'z rfl) t'm rfl T.acb rfl (a'a (a'P (N:=["_law_one"]) (ix:=[none]) rfl (b'd (qv 3)) (a'D (i:=0) (by decide) rfl) (λ_ _ _ _ _=>a'v) (λ_ _ _ _ _=>(a'j ((g'X T).mono (by omega)) (by walk_at "z") (λ_ _ h=>h.1) u rfl T.aaX.m T.aaX.F.kp T.aaX.b (QA.frz (a'a (qv 0) a'b)))) True.intro) a'b)))
  (a'c (b'j PassesOwn.never rfl (e'j rfl T.ab7 (a'a a'd a'b)) (a'R (i:=6) acN.nd (by decide) rfl (Or.inl rfl)) (a'c (a'h (i:=7) acN.nd (by decide) rfl (Or.inl rfl) (b'n (b'm rfl) a'M rfl T.aca rfl (a'a (qv 3) a'b)))
  (a'c (a'h (i:=8) acN.nd (by decide) rfl (Or.inl rfl) (a'j ((j'k T).mono (by omega)) (by walk_at "z") (λ_ _ h=>h.1) u rfl T.aaZ.m T.aaZ.F.kp T.aaZ.b (QA.frz (a'a (qv 7) (a'a (b'n (b'm rfl) a'M rfl T.aca rfl (a'a (qv 4) a'b)) (a'a (qv 6) a'b))))))
  (a'c (a'h (i:=9) acN.nd (by decide) rfl (Or.inl rfl) a'G)
  (a'c (a'C (QW.t (c'x (c'I (qv 5)) (c'q (a'k (c'N u.units) b't (qv 6) a'd (by walk_at "u"))))) (a'f (a'h (i:=9) acN.nd (by decide) rfl (Or.inl rfl) a'G)) a'p)
  (a'c (a'C (QW.t (h'e (a'k e'D c'w (a'U a'W a'z rfl T.ab6 rfl (a'a (qv 4) a'b)) a'd (by walk_at "u")) (f'n (a'k e'D c'w (a'U a'W a'z rfl T.ab6 rfl (a'a (qv 3) a'b)) a'd (by walk_at "u"))))) (a'f (a'h (i:=9) acN.nd (by decide) rfl (Or.inl rfl) a'G)) a'p)
  (a'c (a'C (QW.t (h'e (a'k (c'N u.units) b't (qv 8) (qv 9) (by walk_at "u")) (f'n (a'k (w'H u.units) t'q (qv 7) (qv 3) (by walk_at "u"))))) (a'f (a'm h'N)) a'p)
  (a'f (a'C (QW.t (c'x (a'k (b'b u.units) a'r (qv 9) a'G (by walk_at "u")) (c'q (q'w (c'I (a'j ((g'Y T).mono (by omega)) (by walk_at "z") (λ_ _ h=>h.1) u rfl T.aa0.m T.aa0.F.kp T.aa0.b (QA.frz (a'a (b'n (b'm rfl) a'M rfl T.aca rfl (a'a (qv 3) a'b)) (a'a (b'n (b'm rfl) a'M rfl T.aca rfl (a'a (qv 4) a'b)) (a'a (qv 6) a'b)))))))))) (a'f (a'm h'N)) a'p)))))))))
  (a'f (a'm h'N))))))))),?_⟩
 rintro xs Q' _ ⟨_,g,rfl,ε,q⟩;walk_at"";refine⟨rfl,_,g,0,inferInstance,rfl,by decide,λc j=>?_⟩;walk_at"";have s:(ad1 g (some 1) (some 21)).length<=20:=by
  unfold ad1;rw[length_take];unfold HT.sIx;dsimp only;simp only[show ¬ ((21:Int)<0) from by decide,show ¬ ((1:Int)<0) from by decide,if_false];omega
 refine⟨by decide,CLoop.rows _ _ (by omega) (λx mx R D=>?_) λH L γ=>⟨f'B H,⟨by decide,b'I (by decide)⟩,by decide,?_⟩⟩
 .walk_at"";exact⟨⟨by decide,b'I (by decide)⟩,by decide,rfl,_,_,rfl,λo ho _=>D o ho⟩
 rw[i'T];have G:=emod_nonneg c (show (13:Int)≠0 by decide);have E:=emod_lt_of_pos c (show (0:Int)<13 by decide);have m2:=emod_nonneg c (show (2:Int)≠0 by decide);have α:=emod_lt_of_pos c (show (0:Int)<2 by decide);have Y:=emod_nonneg (c.fdiv 52) (show (2:Int)≠0 by decide);have J:=emod_lt_of_pos (c.fdiv 52) (show (0:Int)<2 by decide);apply t'R
 case a=>
  intro I;refine⟨by decide,⟨by decide,b'I (by decide)⟩,by decide,by omega,by omega,CLoop.rows _ _ (by rw[length_range];omega) (λx mx R D=>?_) λrs hl ok=>⟨f'B rs,?_⟩⟩
  .walk_at"";exact⟨cml (by decide),⟨by decide,b'I (by decide)⟩,by decide,rfl,_,_,rfl,λo ho _=>D o ho⟩
  rw[length_range] at hl;rw[i'T];have hl2:rs.length<=20:=by omega
  have U:0<=8+c % 2:=by omega
  have O:8+c % 2<=12:=by omega
  clear hl;generalize 8+c % 2=n at U O
  revert n rs
  exact I ()
 case b=>
  intro I;have hl2:H.length<=20:=by omega
  have O:c % 13<=12:=by omega
  clear L;have U:=G;clear G E;generalize c % 13=n at U O
  revert n
  revert H
  exact I ()
 case h=>
  clear G E m2 α Y J L γ s;intro rs ok ζ n U O;have m3:=emod_nonneg c (show (3:Int)≠0 by decide);have δ:=emod_lt_of_pos c (show (0:Int)<3 by decide);obtain⟨p,hp,ep⟩:∃p:Str,pfx p/\∀Q:Tr->Prop,Q (.str p)->ad0 (Tr.lst .o [.str (Str.ofString "left "),.str (Str.ofString ""),.str (Str.ofString "gap x")]) (.int (c % 3)) Q:=by
   rcases (by omega:c % 3=0\/c % 3=1\/c % 3=2) with e |e |e
   .exact⟨_,.inl rfl,λQ h=>by rw[e];exact h⟩
   .exact⟨_,.inr (.inl rfl),λQ h=>by rw[e];exact h⟩
   .exact⟨_,.inr (.inr rfl),λQ h=>by rw[e];exact h⟩
  have η:p.length<=5:=by rcases hp with rfl |rfl |rfl<;>decide +kernel
  refine⟨by omega,by omega,CLoop.map (List.range n.toNat) _ (λk=>p++ltr k) (by rw[length_range];omega) (λk mk R D=>?_) ⟨b'e _,?_⟩⟩
  .have hk:=mem_range.mp mk;walk_at"";refine⟨by decide,ep _ ?_⟩;obtain⟨x,hx⟩:=isSome_iff_exists.mp (w'c k (by omega));have hy:ltr k=⟨#[x]⟩:=by unfold ltr;rw[hx];rfl
   rw[hy] at D;unfold ad0;dsimp only;rw[hx];exact⟨by walk_at "k",by show p.length+1<=1000000;omega,D⟩
  have v:((List.range n.toNat).map λk=>p++ltr k).Nodup:=w'd hp (by omega);have β:((List.range n.toNat).map λk=>p++ltr k).length=n.toNat:=by rw[length_map,length_range]
  generalize (List.range n.toNat).map (λk=>p++ltr k)=us at v β;rw[a'w];walk_at"";refine CLoop.map rs _ (λo=>decide (brk o)) (by omega) (λo mo R D=>?_) ?_
  .walk_at"";exact⟨rfl,o,rfl,ok o mo,λb M _=>by rw[show b=decide (brk o) from Bool.eq_iff_iff.mpr (M.trans (decide_eq_true_iff).symm)];exact D⟩
  refine⟨rs.map λo=>decide (brk o),rfl,rfl,by decide,by decide,?_⟩;rw[if_neg (by decide)];have M:((rs.map λo=>decide (brk o)).any id)=true↔∃o∈rs,brk o:=by
   rw[List.any_map,any_eq_true];exact⟨λ⟨o,mo,h⟩=>⟨o,mo,of_decide_eq_true h⟩,λ⟨o,mo,h⟩=>⟨o,mo,decide_eq_true h⟩⟩
  generalize (rs.map λo=>decide (brk o)).any id=clash at M;refine Loop.map (List.range (Int.toNat 4)) _ (λ_ j=>∃(a b d e:Tr),j=[Tr.lst (Fl.l false) (List.map Enc.t g),Tr.int c,Tr.int n,Tr.lst Fl.f (List.map Enc.t rs),.lst .f (us.map Enc.t),.bl clash,a,b,d,e]) ⟨_,_,_,_,rfl⟩ ?_ ?_
  .rintro i k j hi ⟨a,b,d,e,rfl⟩;walk_at"";refine⟨rfl,.f,.f,rs,us,(k:Int),inferInstance,inferInstance,rfl,ok,by omega,v,λx hm ht _=>?_⟩;walk_at"";by_cases r:16<rs.length\/8<us.length
   .obtain rfl:=hm r;by_cases h8:8<us.length
    .simp only[decide_eq_true (show (8:Int)<(us.length:Int) by omega),if_true,ite_self];rw[if_neg (by walk_at "k")];refine e'n rs ?_;rw[c'z,if_neg (by decide)];refine⟨rfl,.f,.f,rs,us,_,inferInstance,inferInstance,rfl,ok,by omega,v,r,λ_=>?_⟩;dsimp only;rw[c'z,if_neg (by decide)];exact⟨_,_,_,_,rfl⟩
    .simp only[decide_eq_false (show ¬ (8:Int)<(us.length:Int) by omega),decide_eq_true (show (16:Int)<(rs.length:Int) by omega),if_true,false_eq_true,if_false,ite_self];rw[if_neg (by walk_at "k")];refine e'n rs ?_;rw[c'z,if_neg (by decide)];refine⟨rfl,.f,.f,rs,us,_,inferInstance,inferInstance,rfl,ok,by omega,v,r,λ_=>?_⟩;dsimp only;rw[c'z,if_neg (by decide)];exact⟨_,_,_,_,rfl⟩
   .obtain⟨t1,t2⟩:=ht (by omega) (by omega);simp only[decide_eq_false (show ¬ (8:Int)<(us.length:Int) by omega),decide_eq_false (show ¬ (16:Int)<(rs.length:Int) by omega),false_eq_true,if_false];by_cases s:(∃o∈rs,brk o)/\(k:Int)≠2
    .obtain rfl:=t1 s;rw[if_pos (M.mpr s.1),if_pos (by simpa using s.2),if_neg (by walk_at "k")];refine e'n rs ?_;rw[c'z,if_neg (by decide),if_neg (by walk_at "k")];exact⟨_,_,_,_,rfl⟩
    .obtain rfl:=t2 s;have step:∀{A B C:Prop},C->(if clash=true then (if (!decide ((k:Int)=2))=true then A else C) else C):=λ{A B C} hC=>by
      by_cases z:clash=true
      .rw[if_pos z];by_cases y:(k:Int)=2
       .rw[if_neg (by simpa using y)];exact hC
       .exact absurd ⟨M.mp z,y⟩ s
      .rw[if_neg z];exact hC
     refine step (B:=True) ?_;rw[if_neg (by walk_at "k")];refine e'n rs ?_;rw[c'z,if_neg (by decide),if_neg (by walk_at "k")];exact⟨_,_,_,_,rfl⟩
  .rintro j ⟨a,b,d,e,rfl⟩;walk_at"";exact q _
theorem w'f(T:Tx w K mg):FnOk P w K mg base CX0 60 T.aa1.a T.aa1.d ["_law_script"] (afj K):=(t'S T).imp w'e
end
theorem walk{l:W.OpenLaw}{q:Program}{b:List Str}{C:(Str->Option Value)->Heap->Prop}{p:World->Heap->Prop}{d:DefRec}{K:Params->W.Frag}(A:l.most=some 63)(g:d.params.defaults=[])(j:d.name="law")(D:∀(w:World)(h:Heap),p w h->(K w.params).In h)(F:∀(w:World)(mg:Str->Option Value)(h:Heap),(K w.params).In h->h.Ns mainGlobals mg->Nonempty (Tx w (K w.params) mg)):
  W.WalkO q b C p l.row.toRowW d [] (λf vs=>PySem.call f vs):=by
 refine L2.walk_of (n:=63) (k:=60) (x:="_law_script") (CX:=λ_=>CX0) (sp:=λw=>afj (K w.params)) A (by decide) g ⟨rfl,by decide,by decide⟩ D ?_ (λ_ _ a ns y _ r=>⟨a,ns,rfl,r,y,λ_=>rfl⟩) λ_ _ _ _ _ z=>z
 intro w mg E h B G c;obtain⟨T⟩:=F w mg h B G;rw[j] at c;have e:=c.symm.trans T.aa1.m;cases e;refine⟨T.aa1.d,λs v=>?_,λbase _ _=>w'f T⟩;obtain⟨oc,od,kV,doc,pm,an,cdv,ct,osl,o,H,u⟩:=T.aa1.F.ex;rw[o];exact .of_eq rfl
end Sf
structure PySem.W.Fast:Prop where(tw6922019675000632332 tw8807160096208474398 tw13391062174180027908 tw111581669469603324 tw12403282713866512995 tw1443457100975293515 tw14332229162213882617 tw4099313404356332928 tw7748649770593961405 tw18019042646512564741 tw17784334961857756044 tw6521390196109243494 tw5303910666801635513 tw13043252403505192190 tw2603009310361294492 tw5156067802928424618 tw12053127489456922236 tw6271905304916526407 tw3595415631714068166 tw4359293836399594607 tw12774940032488298043 tw12668601894041847106 tw2033646435217513724 tw15428123934597691606 tw6890523895407096081 tw2567316383384137656 tw11946346030475934425 tw10305056426077321889 tw4172970243165676740 tw14744795408211353114 tw12513905037129625067 tw14143432607199176335 tw6685404920611310394 tw9247812553539695454 tw5151000233379550473 tw14396090224928417505 tw4166688848027381222 tw10004307131233510520 tw9226013149967176529 tw15619300740734860658 tw13709883483004067500 tw36375666681824365 tw862449506275726623 tw14261766362252905802 tw3066825609899412337 tw14596752404111725920 tw18230465903054118783 tw1897388439337940258 tw1788195014332523891 tw5570489440643097510 tw17130208967913919650 tw7087750736891255702 tw6199370181777173779 tw6349664757058834196 tw6390130993086684171 tw16584105797329221811 tw1968754187653167566 tw14357293350179896268 tw1440603661265820164 tw14938896660077283404 tw6307820681410429512 tw5921065744145709532 tw11474177040493180858 tw1008371358269505982 tw3128468235045106113 tw565609903880727686 tw5486310621035682530 tw10500531831209499895 tw621977157555577391 tw11589956546195982371 tw11872880349192292553 tw16084163653921955531 tw11268681492436745078 tw16200766928409464421 tw17370849929221105329 tw2827762004088144293 tw1385397364927196858 tw13006181453679507079 tw2112356613478740403 tw9080381488735819619 tw15692057380605869698 tw15871809237504431745 tw1451768122528474615 tw7853591037795435294 tw5203743637439540017 tw2983283793266900253 tw15647849771089791956 tw8960295551095507858 tw10954693954317775140 tw16386238809235745906 tw3862725191599467697 tw8531745891041132412 tw1708954817137447146 tw3236582147885261793 tw8354217974904779678 tw3699203171332761685 tw14829256308671330016 tw15072992191325256109 tw5687399523320201288 tw4243825453576429121 tw793311188972752279 tw6973084081637042492 tw3709497944563094320 tw5989539424199635106 tw14045317131055497899 tw3461521273892977971 tw7018856657797714591 tw8590795283203883841 tw3211035197088901996 tw16248414316095817268 tw2553694758997675187 tw16116344158944781777 tw1706073207578426777 tw4367567265934860264 tw16169405847163053395 tw14857203773476872895 tw11438270500089178968 tw3381888533842265313 tw9829532106696362188 tw2031945637760393249 tw9044045763326821009 tw16297837905545190664 tw69181754748669855 tw17878212341624956906 tw6167022951920198395 tw12788811607792751060 tw3039853036410886474 tw4494008776462678235 tw16370937614608919450 tw12270345222080553695 tw7475720661578343701 tw1685652868448868285 tw921993274834135000 tw13572798081865661747 tw99873219218332243 tw17239079349174047142 tw6847478930290168261 tw2406601069121550838 tw8400282208303917139 tw8959422112123472481 tw1859389819482699423 tw7019088099304510386 tw15747575965988337237 tw15567777628729838917 tw11717650333380123431 tw7476592585094843113 tw11229305996749929857 tw17580343101458957400 tw8698817028411946149 tw3746768488591602901 tw11312587039861914451 tw13406797931117827093 tw10633648099427204506 tw6285534460612462423 tw3801808268530684312 tw17467850809418271915 tw1510123742185483304 tw7188722300411554023 tw8214678723190113429 tw15536717608664585623 tw18177930738562132027 tw17821210798945116973 tw16391080504014479962 tw15067946533786724291 tw14407292531104040829 tw8508445410350705193 tw14294267823577121126 tw16464633036922294230 tw14654284429546296523 tw3538737636380972686 tw5511184491387574468 tw10207941162012271539 tw13970072884722194475 tw9458746714568711322 tw1256829999380764355 tw8762825705199396430 tw5985050568565839337 tw5801624077079297584 tw18177850738232253310 tw11454797797700042708 tw14166159130882362911 tw13854523751893567063 tw665477989012619091 tw7763295733881361067 tw2135475882903004167 tw15934769198464383827 tw2747024500335104868 tw8718050763565754347 tw8055204558594584525 tw10072642781636151970 tw17771992724112650686 tw5462936930217842505 tw11352745770497443628 tw15491940271426422265 tw1431526456339754523 tw9373739642818447651 tw3575450070777071598 tw12111880103706797946 tw6502087257830413274 tw13271949557242980379 tw402024017042118218 tw16003721718657237126 tw9320912784216001194 tw15719866706352546715 tw8846329505877200910 tw7913384950124589528 tw9190615726184658700 tw15467138431719676226 tw3628942307092717554 tw3474385273440120517 tw11132032639648507397 tw10540815927957052867 tw16447516815079346560 tw6411808010343221127 tw17430480027409888407 tw15364581342454744067 tw5676478773493076974 tw16431088262442875186 tw4413922638284558197 tw11002244881140868783 tw12554047407620725820 tw14807504519528253218 tw5241716692381705973 tw14328447481207497404 tw14337094018192420613 tw6012184638888308549 tw14978072539505933151 tw13455107029185650252 tw10364547143877971589 tw2611211049883842828 tw17096037497279821238 tw3592974956544455756 tw7952061470276310716 tw4184879311166974623 tw11844383110806929168 tw4327178572012760453 tw10609846094505933743 tw12534680912178778893 tw8629501692902604197 tw4451610593199492985 tw3908512012924913561 tw4248341772958185843 tw17789362384123331873 tw15817185335563737756 tw14665654661380843701 tw17384762030732345531 tw7808049027512758952 tw4753110340878992755 tw7088828916617205335 tw17391175864514226323 tw8711685270867949979 tw1541548257578738448 tw18074668391281860907 tw11974843886029637425 tw14567306651956366503 tw17113010514883862955 tw15697750801671630092 tw12550941194691550344 tw9914608931827627474 tw7237200092318525509 tw8968564334076216061 tw3825896997085554342 tw10005339819388193706 tw5350695600288777028 tw1262584039736369261 tw824253679173844164 tw4797190167758741973 tw2878490724133983059 tw8925792022249418876 tw13168679023615775788 tw11410847703504118455 tw17603873549350540010 tw3910796096281269394 tw13939996346177324252 tw4348296540618687009 tw1911488759710561688 tw63285454007970223 tw15047854028609191922 tw15214384030919881855 tw843897760961925610 tw10741044399323063225 tw5153314096199784400 tw3396381078476933842 tw17098167322875642130 tw10239848632468013831 tw6705290903459933386 tw8600005152888385949 tw13015067764449810389 tw2635465955365176281 tw14545089695402046000 tw9716784039754489840 tw1926973883464922852 tw2308808120850107528 tw246351551492061787 tw9021481677431262072 tw8107442576524122051 tw12355937560657413668 tw8420995784448146219 tw14808217970697842258 tw16474012943957497753 tw10310097774220137193 tw6158694344211280970 tw3012802025139196830 tw16588767294852891440 tw15194790195181717979 tw1887231465790588957 tw14020626690560004208 tw13739339879782213936 tw18383363007515560029 tw9929770960089130308 tw8492404276563069152 tw5747548277346797155 tw10911083477858579707 tw10624874533285511815 tw8317293170347424334 tw9404148571862312289 tw17690437033051538414 tw15745231155957604705 tw1657236433714761554 tw258143111863167020 tw13204677717879963695 tw17697028171943771985 tw10751925138593273227 tw10793843960524405310 tw12260751272375019674 tw4117211286907511173 tw389712028119463016 tw15879145780056258004 tw9120920145008575763 tw15287852404145804606 tw3259898893645541071 tw14032068848212097524 tw4570016247951596896 tw16309794437011501587 tw11857139276976927914 tw3810530793333173467 tw3031136623020232329 tw14962043547640977881 tw6565138337963459032 tw1521376035351882378 tw8621516037370670493 tw18344292827994686038 tw10262799599970676366 tw13604290899401577239 tw1583326901576360843 tw15904899124664576965 tw12333659527216757200 tw17454803061358521863 tw16558989804001170939 tw5646151198536091085 tw17269266452026681419 tw15852693131687655223 tw16066032645911520553 tw2171478936364557555 tw4033736632897913133 tw1345568269463382123 tw13804654227291349724 tw2960094606788716550 tw9934309720587789933 tw8232006599149482928 tw8979402797577885574 tw11430317265130883153 tw16524859831312026428 tw5162914501693941972 tw13203430915413265643 tw9923610551214018594 tw13517106300990973121 tw5626855399491276926 tw11148063800262904307 tw3165159824693861925 tw1404407497280663518 tw7582046159149859893 tw8270614178734474528 tw13750866762551543053 tw11212979957544863669 tw2983557384649627335 tw7596345229334256322:True)
open PySem PySem.W PyProof.Rows
local macro_rules |`(tactic|walk_at "b")=>`(tactic|first |exact λ_ _ _ _ _ _=>Pu.ln1 λ_=>rfl |exact λ_ _ _ _ _ _=>Pu.ln2 λ_ _=>rfl |exact λ_ _ _ _ _ _=>Pu.ln3 λ_ _ _=>rfl |exact λ_ _ _ _ _ _=>Pu.ln4 λ_ _ _ _=>rfl)
set_option maxRecDepth 100000 in
set_option maxHeartbeats 0 in
theorem PySem.Challenge.cw_springframe_k45_too_many_holds : PySem.Challenge.rw_springframe_k45_too_many.Holds := by
 w_on;o_law;k_head;(case hw=>w_witness2)
 k_fill
 refine Sf.walk (l:=PySem.Challenge.rw_springframe_k45_too_many) rfl rfl rfl (λw h Y=>PySem.W.kIn_of Y) ?F
 case F=>
  intro w mg h KX G;refine⟨?_⟩;apply Sf.Tx.mk
  all_goals first |exact Pu.dfG KX G (by k_is) (L2.fnin (by k_is) (by k_is) (by k_is)) (by walk_at "b") |exact Pu.dfM (by k_is) (L2.fnin (by k_is) (by k_is) (by k_is)) (by k_is) (by walk_at "b") |exact Pu.dfI (by k_is) (L2.fnin (by k_is) (by k_is) (by k_is)) (by k_is) (by k_is) (by k_is) (by walk_at "b") |exact mg_of KX G (by k_is) |exact mg_none_of KX G (by k_is) |exact Pu.noat (by k_is) |exact L2.Cls.mk (by k_is) (by k_is) (by k_is) (by k_is) |exact Pu.dfX1 (by k_is) (L2.fnin (by k_is) (by k_is) (by k_is)) (by k_is) (by rfl) (by rfl) (by rfl) (by rfl) (by k_exc) (by k_is) (by rfl) (by rfl) (by k_is) (by k_is) (by rfl) (by rfl) (by k_is) (by k_is) (by k_is) (by k_is) (by k_is) (by k_is) (by walk_at "b") |exact L2.ExcK.mk (by k_is) (by k_is) (by k_is) (by k_is) (by k_is) |exact⟨_,_,_,by k_is,rfl,rfl,Nat.le_of_ble_eq_true rfl,by repeat first |exact .nil |refine .cons ⟨_,rfl⟩ ?_⟩ |k_is |kit_is |k_exc |kts_exm
#print axioms PySem.Challenge.cw_springframe_k45_too_many_holds
