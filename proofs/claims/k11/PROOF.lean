import PyProof.Rows.All
import Wide.All
import OpenK.AllK
import Wide.FinOn
import Lean
import PyProof.EqAt
import PyProof.EqKinds
import PyProof.TupleCall
import PySem.Challenge.RW_springframe_k11_terms_as_sums
set_option Elab.async false
set_option linter.all false
set_option maxRecDepth 100000
namespace L2
open PySem PySem.Spec PyProof.Rows
abbrev Key:=Sum Int Str
def keyIs:Key->Value->Bool
 | .inl k, v => Value.isInt k v
 | .inr x, v => Value.isStrOf x v
def keyH (w:World):Key->Int
 | .inl k => hashInt k
 | .inr x => hashStr w x
theorem a'w:∀ {k:Key} {v:Value},keyIs k v=true->(∃ i t,k=Sum.inl i/\v=Value.int i t)\/(∃ x t,k=Sum.inr x/\v=Value.str x t)
 | .inl i, v, h => by
  obtain⟨t,e⟩:=Value.isInt_shape (k:=i) (v:=v) h
  exact .inl ⟨i,t,rfl,e⟩
 | .inr x, v, h => by
  obtain⟨t,e⟩:=Value.isStrOf_shape (x:=x) (v:=v) h
  exact .inr ⟨x,t,rfl,e⟩
theorem l'a (i:Int) (t:Tok):keyIs (.inl i) (.int i t)=true:=by simp [keyIs,Value.isInt]
theorem l'b (x:Str) (t:Tok):keyIs (.inr x) (.str x t)=true:=by simp [keyIs,Value.isStrOf]
theorem t'y (a b:Int):decide ((Sum.inl a:Key)=Sum.inl b)=(a == b):=by
 by_cases e:a=b
 ·subst e;simp
 ·have h:¬ (Sum.inl a:Key)=Sum.inl b:=λq=>e (Sum.inl.inj q)
  rw [decide_eq_false h]
  exact (beq_eq_false_iff_ne.mpr e).symm
theorem t'z (a b:Str):decide ((Sum.inr a:Key)=Sum.inr b)=decide (a=b):=by
 by_cases e:a=b
 ·subst e;simp
 ·have h:¬ (Sum.inr a:Key)=Sum.inr b:=λq=>e (Sum.inr.inj q)
  rw [decide_eq_false h,decide_eq_false e]
theorem t'A (a:Int) (b:Str):decide ((Sum.inl a:Key)=Sum.inr b)=false:=decide_eq_false (λq=>nomatch q)
theorem t'B (a:Str) (b:Int):decide ((Sum.inr a:Key)=Sum.inl b)=false:=decide_eq_false (λq=>nomatch q)
def mixKind (prog:Program) (w:World):PySem.KeyKind prog w Key where
 is:=keyIs
 hash:=keyH w
 inj:=λv a b ha hb=>by
  rcases a'w ha with ⟨i,t,rfl,rfl⟩ | ⟨x,t,rfl,rfl⟩
  ·rcases a'w hb with ⟨j,u,rfl,e⟩ | ⟨y,u,rfl,e⟩
   ·injection e with e1 _;rw [e1]
   ·exact nomatch e
  ·rcases a'w hb with ⟨j,u,rfl,e⟩ | ⟨y,u,rfl,e⟩
   ·exact nomatch e
   ·injection e with e1 _;rw [e1]
 byValue:=λk v h=>by
  rcases a'w h with ⟨i,t,rfl,rfl⟩ | ⟨x,t,rfl,rfl⟩<;>rfl
 pyHash:=λhv h=>by
  rcases a'w hv with ⟨i,t,rfl,rfl⟩ | ⟨x,t,rfl,rfl⟩
  ·exact wpAny_pyHash_int h
  ·exact wpAny_pyHash_str h
 eqBool:=λhu hv h=>by
  rcases a'w hu with ⟨i,t,rfl,rfl⟩ | ⟨x,t,rfl,rfl⟩
  ·rcases a'w hv with ⟨j,u,rfl,rfl⟩ | ⟨y,u,rfl,rfl⟩
   ·rw [t'y] at h;exact wpAny_eqBool_int h
   ·rw [t'A] at h;exact SeqAt.EqAt.int_str i t y u _ _ _ _ h
  ·rcases a'w hv with ⟨j,u,rfl,rfl⟩ | ⟨y,u,rfl,rfl⟩
   ·rw [t'B] at h;exact SeqAt.EqAt.str_int x t j u _ _ _ _ h
   ·rw [t'z] at h;exact wpAny_eqBool_str h
 «strs»:=λk x t v h=>by
  rcases a'w h with ⟨i,u,rfl,e⟩ | ⟨y,u,rfl,e⟩
  ·exact nomatch e
  ·injection e with e1 _
   subst e1
   cases v<;>rfl
theorem i'a (prog:Program) (w:World) (i:Int) (t:Tok):(mixKind prog w).is (.inl i) (.int i t)=true:=l'a i t
theorem c'd (prog:Program) (w:World) (x:Str) (t:Tok):(mixKind prog w).is (.inr x) (.str x t)=true:=l'b x t
end L2
namespace L2
open PySem PySem.Spec PyProof.Rows
inductive V where
 | non | bl (b : Bool) | int (i : Int) | str (x : Str) | byt (b : Array UInt8) | flt (b : UInt64) | ref (a : Addr) | ty (n : String)
 deriving DecidableEq
def RelV:V->Value->Prop
 | .non, u => u = Value.none
 | .bl b, u => u = Value.bool b
 | .int i, u => ∃ t, u = Value.int i t
 | .str x, u => ∃ t, u = Value.str x t
 | .byt b, u => ∃ t, u = Value.bytes b t
 | .flt b, u => ∃ t, u = Value.float b t
 | .ref a, u => u = Value.ref a
 | .ty n, u => u = Value.type n
abbrev Vals:List V->List Value->Prop:=Paired RelV
theorem Vals.length {xs:List V} {us:List Value} (r:Vals xs us):xs.length=us.length:=Paired.length r
theorem Vals.get:∀ {xs:List V} {us:List Value} {i:Nat} {x:V},Vals xs us->xs[i]?=some x->∃ u,us[i]?=some u/\RelV x u
 | _, _, _, _, .nil, e => by simp at e
 | _, _, 0, _, .cons r _, e => by simp at e; subst e; exact ⟨_, rfl, r⟩
 | _, _, i + 1, x, .cons _ t, e => by
  obtain⟨u,h1,h2⟩:=Vals.get (i:=i) (x:=x) t (by simpa using e)
  exact⟨u,by simpa using h1,h2⟩
theorem Vals.append:∀ {xs ys:List V} {us ws:List Value},Vals xs us->Vals ys ws->Vals (xs++ys) (us++ws)
 | _, _, _, _, .nil, s => s
 | _, _, _, _, .cons r t, s => .cons r (Vals.append t s)
theorem Vals.take:∀ {xs:List V} {us:List Value} (n:Nat),Vals xs us->Vals (xs.take n) (us.take n)
 | _, _, 0, _ => .nil
 | _, _, _ + 1, .nil => .nil
 | _, _, n + 1, .cons r t => .cons r (Vals.take n t)
theorem Vals.drop:∀ {xs:List V} {us:List Value} (n:Nat),Vals xs us->Vals (xs.drop n) (us.drop n)
 | _, _, 0, r => r
 | _, _, _ + 1, .nil => .nil
 | _, _, n + 1, .cons _ t => Vals.drop n t
def RelO:Option V->Option Value->Prop
 | some v, some u => RelV v u
 | none, none => True
 | _, _ => False
def KV {κ:Type}:List (κ×V)->List (κ×Value)->Prop:=Paired λ(p:κ×V) (q:κ×Value)=>p.1=q.1/\RelV p.2 q.2
def kV:Key->V
 | .inl i => .int i
 | .inr x => .str x
inductive HO where
 /-- a list -/
 | lst (xs : List V)
 /-- a tuple (never changes) -/
 | tup (xs : List V)
 /-- a dict whose keys are ints and texts; one whose keys are tuples of ints and texts (the empty one is both) -/
 | dK (kvs : List (Key × V)) | dT (kvs : List (List Key × V))
 /-- a set of ints: its members, its size -/
 | set (S : Int -> Bool) (n : Nat)
 /-- an instance of the class at C, its dict at dx, its attributes -/
 | ins (C dx : Addr) (fs : List (Str × V))
 /-- the dict of the instance at x -/
 | own (x : Addr)
 /-- the dict of an exception -/
 | xd (fs : List (Str × V))
 /-- a bound method, f of x -/
 | met (f x : Addr)
 /-- a range object lo, lo + 1, .. below hi -/
 | rng (lo hi : Int)
 /-- a thing that is known to the object (the script; a dict while a loop walks it): read, never written while it is so -/
 | frz (o : Obj) (u : HO)
 /-- a code object's table -/
 | tbl (ps : Array Value)
 /-- any other thing, by what is true of its one object (a def of one's own: SetO a S n := HO.ext λh => ..) -/
 | ext (φ : Heap -> Prop)
abbrev Hp:=Addr->Option HO
def upd (H:Hp) (a:Addr) (o:HO):Hp:=λb=>if b=a then some o else H b
theorem a'm {H:Hp} {a:Addr} {o:HO}:upd H a o a=some o:=by unfold upd;rw [if_pos rfl]
theorem a'f {H:Hp} {a b:Addr} {o:HO} (h:b≠a):upd H a o b=H b:=by unfold upd;rw [if_neg h]
theorem v'Z {H:Hp} {a b:Addr} {o u:HO} (h:H a=some o) (h':H b=some u) (d:o≠u):a≠b:=by
 intro e;subst e;rw [h] at h';exact d (Option.some.inj h')
theorem a's {H:Hp} {a b:Addr} {o:HO} (h:H a=some o) (h':H b=none):a≠b:=by
 intro e;subst e;rw [h] at h';cases h'
section
variable (P:Program) (w:World)
def ObjOk (H:Hp) (h:Heap) (a:Addr):HO->Prop
 | .lst xs => xs.length <= sizeLine /\ ∃ (its : List Value) (n : Nat), Vals xs its /\ h.get? a = some { cls := .type "list", data := .seq its.toArray n }
 | .tup xs => xs.length <= sizeLine /\ ∃ its : List Value, Vals xs its /\ IsTup h a its.toArray
 | .dK kvs => kvs.length <= sizeLine /\ (a == sysModules) = false /\ ∃ vs, KV kvs vs /\ h.DictOf (mixKind P w) a vs
 | .dT kvs => kvs.length <= sizeLine /\ (a == sysModules) = false /\ ∃ xs : List (List Key × Addr × Value),
   Paired (λ(p:List Key×V) (q:List Key×Addr×Value)=>p.1=q.1/\H q.2.1=some (.tup (p.1.map kV))/\RelV p.2 q.2.2) kvs xs/\
   ∃ o es ep,h.get? a=some o/\o.ExactDict/\o.data=.dict es ep/\es.toList=xs.map (entryOfKey (tupleKind (mixKind P w)))/\(xs.map (·.1)).Nodup
 | .set S n => h.SetOf (intKind P w) a S n
 | .ins C dx fs => H dx = some (.own a) /\ fs.length <= 1000 /\ dx ≠ a /\ h.get? a = some (W.instObj C dx) /\
   ∃ mA,h.Ns1 dx mA/\(∀ f,RelO (fs.lookup f) (mA f))/\PySem.Within mA (fs.map (·.1))
 | .own _ => ∃ o, h.get? a = some o
 | .xd fs => ∃ mA, h.Ns1 a mA /\ ∀ f, RelO (fs.lookup f) (mA f)
 | .rng lo hi => ∃ t u v, h.get? a = some { cls := .type "range", data := .fields #[.int lo t, .int hi u, .int 1 v] }
 | .frz o u => h.get? a = some o /\ ObjOk H h a u
 | .tbl ps => h.get? a = some { cls := .none, data := .fields ps }
 | .met f x => h.get? a = some (W.methodObj (.ref f) (.ref x))
 | .ext φ => φ h /\ (∃ o, h.get? a = some o) /\ ∀ h1 h2 : Heap, φ h1 -> (∀ o, h1.get? a = some o -> h2.get? a = some o) -> φ h2
def HOk (H:Hp) (h:Heap):Prop:=∀ a o,H a=some o->ObjOk P w H h a o
end
section
variable {P:Program} {w:World} {H H':Hp} {h h':Heap} {a:Addr} {o:HO}
theorem ObjOk.lt (x:ObjOk P w H h a o):a<h.objs.size:=by
 cases o with
 | lst xs => obtain ⟨_, _, _, _, e⟩ := x; exact Heap.lt_size e
 | tup xs => obtain ⟨_, _, _, p⟩ := x; exact p.lt
 | dK kvs => obtain ⟨_, _, _, _, o, _, _, e, _⟩ := x; exact Heap.lt_size e
 | dT kvs => obtain ⟨_, _, _, _, o, _, _, e, _⟩ := x; exact Heap.lt_size e
 | set S n => obtain ⟨o, _, _, _, e, _⟩ := x; exact Heap.lt_size e
 | ins C dx fs => obtain ⟨_, _, _, e, _⟩ := x; exact Heap.lt_size e
 | own y => obtain ⟨_, e⟩ := x; exact Heap.lt_size e
 | xd fs => obtain ⟨_, ⟨_, _, _, e, _⟩, _⟩ := x; exact Heap.lt_size e
 | rng lo hi => obtain ⟨_, _, _, e⟩ := x; exact Heap.lt_size e
 | frz ob u => obtain ⟨e, _⟩ := x; exact Heap.lt_size e
 | tbl ps => exact Heap.lt_size (show h.get? a = some _ from x)
 | met f y => exact Heap.lt_size (show h.get? a = some _ from x)
 | ext φ => obtain ⟨_, ⟨_, e⟩, _⟩ := x; exact Heap.lt_size e
theorem Paired.mapP {α β:Type} {F G:α->β->Prop}:∀ {l₁:List α} {l₂:List β},Paired F l₁ l₂->(∀ a b,F a b->G a b)->Paired G l₁ l₂
 | _, _, .nil, _ => .nil
 | _, _, .cons r t, f => .cons (f _ _ r) (Paired.mapP t f)
theorem ObjOk.stay (x:ObjOk P w H h a o) (k:∀ b u,(b=a\/H b=some (.own a))->h.get? b=some u->h'.get? b=some u)
  (ho:∀ b,H b=some (.own a)->H' b=some (.own a)) (ht:∀ b xs,H b=some (.tup xs)->H' b=some (.tup xs)):ObjOk P w H' h' a o:=by
 induction o with
 | lst xs => obtain ⟨z, its, n, r, e⟩ := x; exact ⟨z, its, n, r, k _ _ (.inl rfl) e⟩
 | tup xs => obtain ⟨z, its, r, ob, e, c⟩ := x; exact ⟨z, its, r, ob, k _ _ (.inl rfl) e, c⟩
 | dK kvs => obtain ⟨z, y, vs, r, ob, es, ep, e, c⟩ := x; exact ⟨z, y, vs, r, ob, es, ep, k _ _ (.inl rfl) e, c⟩
 | dT kvs =>
  obtain⟨z,y,xs,r,ob,es,ep,e,c⟩:=x
  exact⟨z,y,xs,Paired.mapP r λp q z=>⟨z.1,ht _ _ z.2.1,z.2.2⟩,ob,es,ep,k _ _ (.inl rfl) e,c⟩
 | set S n => obtain ⟨ob, es, ep, t, e, c⟩ := x; exact ⟨ob, es, ep, t, k _ _ (.inl rfl) e, c⟩
 | ins C dx fs =>
  obtain⟨d,z,ne,e,mA,⟨od,es,ep,e2,c⟩,r⟩:=x
  exact⟨ho _ d,z,ne,k _ _ (.inl rfl) e,mA,⟨od,es,ep,k _ _ (.inr d) e2,c⟩,r⟩
 | own y => obtain ⟨ob, e⟩ := x; exact ⟨ob, k _ _ (.inl rfl) e⟩
 | xd fs => obtain ⟨mA, ⟨od, es, ep, e, c⟩, r⟩ := x; exact ⟨mA, ⟨od, es, ep, k _ _ (.inl rfl) e, c⟩, r⟩
 | rng lo hi => obtain ⟨t, u, v, e⟩ := x; exact ⟨t, u, v, k _ _ (.inl rfl) e⟩
 | frz ob u ih => obtain ⟨e, q⟩ := x; exact ⟨k _ _ (.inl rfl) e, ih q⟩
 | tbl ps =>
  have e:h.get? a=some { cls:=.none,data:=.fields ps }:=x
  show h'.get? a=some { cls:=.none,data:=.fields ps }
  exact k a _ (.inl rfl) e
 | met f y =>
  have e:h.get? a=some (W.methodObj (.ref f) (.ref y)):=x
  show h'.get? a=some (W.methodObj (.ref f) (.ref y))
  exact k a _ (.inl rfl) e
 | ext φ => obtain ⟨p, ⟨o, e⟩, st⟩ := x; exact ⟨st _ _ p λo q => k _ _ (.inl rfl) q, ⟨o, k _ _ (.inl rfl) e⟩, st⟩
theorem HOk.lt (x:HOk P w H h) (e:H a=some o):a<h.objs.size:=(x a o e).lt
theorem HOk.fresh (x:HOk P w H h) (e:h.objs.size<=a):H a=none:=by
 cases q:H a with
 | none => rfl
 | some u => exact absurd (Nat.lt_of_lt_of_le (x.lt q) e) (Nat.lt_irrefl _)
theorem HOk.kept (x:HOk P w H h) (k:∀ b u,h.get? b=some u->h'.get? b=some u):HOk P w H h':=λa o e=>
 (x a o e).stay (λb u _ q=>k b u q) (λ_ q=>q) λ_ _ q=>q
theorem HOk.laid (x:HOk P w H h) (k:∀ b u,h.get? b=some u->h'.get? b=some u) (hp:h.objs.size<=a) (new:ObjOk P w (upd H a o) h' a o):HOk P w (upd H a o) h':=λb u e=>by
 have hn:=x.fresh hp
 by_cases hb:b=a
 ·subst hb;rw [a'm] at e;cases e;exact new
 ·rw [a'f hb] at e
  exact (x b u e).stay (λc v _ q=>k c v q) (λc q=>by rw [a'f (a's q hn)];exact q) λc xs q=>by rw [a'f (a's q hn)];exact q
end
def Rd (H:Hp) (a:Addr) (u:HO):Prop:=H a=some u\/∃ o,H a=some (.frz o u)
theorem Rd.of {H:Hp} {a:Addr} {u:HO} (h:H a=some u):Rd H a u:=.inl h
theorem Rd.ok {P:Program} {w:World} {H:Hp} {h:Heap} {a:Addr} {u:HO} (r:Rd H a u) (x:HOk P w H h):ObjOk P w H h a u:=by
 rcases r with r | ⟨o,r⟩
 ·exact x a u r
 ·obtain⟨_,q⟩:=x a _ r
  exact q
def Mut:Option HO->Prop
 | some (.lst _) => True
 | some (.dK _) => True
 | some (.dT _) => True
 | some (.set _ _) => True
 | some (.ins _ _ _) => True
 | some (.ext _) => True
 | _ => False
section
variable {P:Program} {w:World} {H:Hp} {h h':Heap} {x e:Addr} {o':HO}
theorem HOk.write (ok:HOk P w H h) (mu:Mut (H x)) (he:e=x\/H e=some (.own x)) (k:∀ b u,b≠e->h.get? b=some u->h'.get? b=some u) (heo:∃ u,h'.get? e=some u)
  (new:ObjOk P w (upd H x o') h' x o'):HOk P w (upd H x o') h':=λb u q=>by
 have nown:∀ c y,H c=some (.own y)->c≠x:=λc y r z=>by subst z;rw [r] at mu;exact mu
 have ntup:∀ c xs,H c=some (.tup xs)->c≠x:=λc xs r z=>by subst z;rw [r] at mu;exact mu
 by_cases hb:b=x
 ·subst hb;rw [a'm] at q;cases q;exact new
 ·rw [a'f hb] at q
  by_cases hbe:b=e
  ·have q':H b=some (.own x):=by
    rcases he with z | z
    ·exact absurd (hbe.trans z) hb
    ·rw [hbe];exact z
   rw [q] at q';cases q'
   obtain⟨v,hv⟩:=heo
   exact⟨v,by rw [hbe];exact hv⟩
  ·refine (ok b u q).stay (λc v hc r=>k c v ?_ r) (λc r=>by rw [a'f (nown c b r)];exact r) λc xs r=>by rw [a'f (ntup c xs r)];exact r
   rcases hc with rfl | hc
   ·exact hbe
   ·rintro rfl
    rcases he with z | z
    ·exact nown c b hc z
    ·rw [hc] at z;cases z;exact hb rfl
end
structure Un (fs ex:List Addr) (H H':Hp) (h h':Heap):Prop where
 keep:∀ b o,h.get? b=some o->H b=none->b ∉ fs->b ∉ ex->h'.get? b=some o
 slot:∀ b o,h.get? b=some o->H b=none->b∈fs->b ∉ ex->∃ sl,h'.get? b=some { o with slots:=sl }
 free:∀ b o,h.get? b=some o->H b=none->b ∉ ex->H' b=none
 there:∀ b o,h.get? b=some o->b ∉ ex->∃ o',h'.get? b=some o'
 tups:∀ b xs,H b=some (.tup xs)->H' b=some (.tup xs)
 frzs:∀ b o u,H b=some (.frz o u)->H' b=some (.frz o u)
 tbls:∀ b ps,H b=some (.tbl ps)->∃ more,H' b=some (.tbl (ps++more))
section
variable {fs fs' ex ex':List Addr} {H H1 H2:Hp} {h h1 h2 h':Heap} {a x e:Addr} {o:HO}
theorem Un.any (u:Un fs ex H H1 h h1) {b:Addr} {ob:Obj} (q:h.get? b=some ob) (n:H b=none) (hx:b ∉ ex):∃ sl,h1.get? b=some { ob with slots:=sl }:=by
 by_cases hb:b∈fs
 ·exact u.slot b ob q n hb hx
 ·exact⟨ob.slots,u.keep b ob q n hb hx⟩
theorem Un.kept (k:∀ b u,h.get? b=some u->h'.get? b=some u):Un fs ex H H h h':=
 ⟨λb ob q _ _ _=>k b ob q,λb ob q _ _ _=>⟨ob.slots,k b ob q⟩,λ_ _ _ n _=>n,λb ob q _=>⟨ob,k b ob q⟩,λ_ _ q=>q,λ_ _ _ q=>q,λ_ ps q=>⟨#[],by rw [q];simp⟩⟩
theorem Un.refl:Un fs ex H H h h:=Un.kept λ_ _ q=>q
theorem Un.laid (k:∀ b u,h.get? b=some u->h'.get? b=some u) (hp:h.objs.size<=a) (hn:H a=none):Un fs ex H (upd H a o) h h' where
 keep:=λb u q _ _ _=>k b u q
 slot:=λb u q _ _ _=>⟨u.slots,k b u q⟩
 free:=λb u q n _=>by rw [a'f (Nat.ne_of_lt (Nat.lt_of_lt_of_le (Heap.lt_size q) hp))];exact n
 there:=λb u q _=>⟨u,k b u q⟩
 tups:=λb xs q=>by rw [a'f (a's q hn)];exact q
 frzs:=λb u xs q=>by rw [a'f (a's q hn)];exact q
 tbls:=λb ps q=>⟨#[],by rw [a'f (a's q hn),q];simp⟩
theorem Un.write (mu:Mut (H x)) (he:e=x\/H e=some (.own x)) (k:∀ b u,b≠e->h.get? b=some u->h'.get? b=some u) (heo:∃ u,h'.get? e=some u):Un fs ex H (upd H x o) h h':=by
 have hx:∀ b,H b=none->b≠x:=λb n z=>by subst z;rw [n] at mu;exact mu
 have hb:∀ b,H b=none->b≠e:=λb n z=>by
  subst z
  rcases he with r | r
  ·exact hx b n r
  ·rw [n] at r;cases r
 have hm:∀ b u,H b=some u->¬ Mut (some u)->b≠x:=λb u q nm z=>by subst z;rw [q] at mu;exact nm mu
 refine⟨λb u q n _ _=>k b u (hb b n) q,λb u q n _ _=>⟨u.slots,k b u (hb b n) q⟩,λb u q n _=>by rw [a'f (hx b n)];exact n,λb u q _=>?_,
  λb xs q=>by rw [a'f (hm b _ q λz=>z)];exact q,λb u xs q=>by rw [a'f (hm b _ q λz=>z)];exact q,λb ps q=>⟨#[],by rw [a'f (hm b _ q λz=>z),q];simp⟩⟩
 by_cases hbe:b=e
 ·subst hbe;exact heo
 ·exact⟨u,k b u hbe q⟩
end
def trk (h:Heap) (H:Hp):List Addr:=(List.range h.objs.size).filter λa=>(H a).isSome
def hidT (h:Heap) (H:Hp):Heap:=W.hideAll h (trk h H)
theorem l'c (h:Heap) (H:Hp):(hidT h H).objs.size=h.objs.size:=W.hideAll_size _ _
theorem o'a {h:Heap} {H:Hp} {b:Addr} {o:Obj} (e:h.get? b=some o) (n:H b=none):(hidT h H).get? b=some o:=
 W.hideAll_get _ e λhm=>by
  have q:(H b).isSome=true:=(List.mem_filter.mp hm).2
  rw [n] at q;simp at q
theorem r'r {h:Heap} {H:Hp} {b:Addr} {o:Obj} (e:(hidT h H).get? b=some o):h.get? b=some o/\H b=none:=by
 have e':h.get? b=some o:=W.of_hideAll (trk h H) e
 refine⟨e',?_⟩
 cases q:H b with
 | none => rfl
 | some x =>
  have hm:b∈trk h H:=List.mem_filter.mpr ⟨List.mem_range.mpr (Heap.lt_size e'),by simp [q]⟩
  have z:(hidT h H).get? b=none:=W.hideAll_none (trk h H) hm
  rw [z] at e;cases e
def allNews (g h:Heap) (L:Addr):List (Addr×Obj):=(List.range h.objs.size).filterMap λa=>if a=L\/(g.get? a).isSome=true then none else (h.get? a).map λo=>(a,o)
def rest (g h:Heap) (L d:Addr):List (Addr×Obj):=(allNews g h L).filter λp=>decide (p.1≠d)
end L2
namespace L2
open PySem PySem.Spec PyProof.Rows
structure Mod (K:W.Frag) (mg:Str->Option Value) (base:Heap):Prop where
 kin:K.In base
 glob:base.Ns mainGlobals mg
 blt:∃ mb,base.Ns builtinsNs mb/\∀ x:Str,x≠"__name__"->mb x=bootBuiltins x
 nolimit:base.NoLimit
structure Cx where
 prog:Program
 w:World
 K:W.Frag
 mg:Str->Option Value
 base:Heap
 A:Around
 N:List Str
 s₀:Shared
 H₀:Hp
 env:Env
 outer:List Env
 stack:List Env
 ex:List Addr
 fn:Str->Bool
 calm:Bool
 pn:List (Addr×Obj)
 xe:Value->Shared->Prop
def frs (l:List Env):List Addr:=l.filterMap (·.frame)
abbrev Cx.fs (X:Cx):List Addr:=frs X.outer
def Vis (sc:Scope) (x:Str):Prop:=sc.names.lookup x=some .local\/sc.names.lookup x=some .cell\/sc.names.lookup x=some .free
def Loc (sc:Scope) (x:Str):Prop:=sc.names.lookup x=some .local\/sc.names.lookup x=some .cell
def Look (env:Env) (h:Heap) (m:Str->Option Value) (x:Str) (u:Value):Prop:=
 (env.kindOf x=some .local/\m x=some u)\/((env.kindOf x=some .cell\/env.kindOf x=some .free)/\∃ c,env.cells.lookup x=some c/\h.IsCell c (some u))
structure Cx.Ok (X:Cx):Prop where
 mod:Mod X.K X.mg X.base
 kind:X.env.scope.kind=.function
 glob:X.env.globals=mainGlobals
 blt:X.env.builtins=builtinsNs
 above:X.s₀.heap.objs.size<=X.env.locals
 inj:∀ x y c,X.env.cells.lookup x=some c->X.env.cells.lookup y=some c->x=y
 has:∀ x,(X.env.kindOf x=some .cell\/X.env.kindOf x=some .free)->∃ c,X.env.cells.lookup x=some c
 cab:∀ x c,X.fn x=true->X.env.cells.lookup x=some c->X.s₀.heap.objs.size<=c
 hd:X.calm=true->X.A.handled=none
 frames:X.A.frames=some X.stack
 stk:X.stack=X.outer\/(X.stack=X.env :: X.outer/\X.env.frame=some X.env.locals)
 exf:∀ b∈X.ex,b≠X.env.locals/\∀ x c,X.env.cells.lookup x=some c->c≠b
 bs:∀ b o,X.base.get? b=some o->X.s₀.heap.get? b=some o/\X.H₀ b=none
 bsz:X.base.objs.size<=X.s₀.heap.objs.size
 noex:∀ b o,X.base.get? b=some o->b ∉ X.ex
 exfs:∀ b∈X.ex,b ∉ X.fs
 funs:X.s₀.heap.FunFrames X.base X.outer
 frf:∀ b∈X.fs,X.H₀ b=none
structure Inv (X:Cx) (pins:List (Addr×Obj)) (σ:List (Option V)) (H:Hp) (s:Shared):Prop where
 ok:X.Ok
 os:s.os=X.s₀.os
 bare:AllBare s.gens
 base:Un X.fs X.ex X.H₀ H X.s₀.heap s.heap
 loc:∃ m,s.heap.Ns X.env.locals m/\∀ (i:Nat) (x:Str) (v:V),X.N[i]?=some x->σ[i]?=some (some v)->Vis X.env.scope x->∃ u,RelV v u/\Look X.env s.heap m x u
 cell:∀ x c,X.env.cells.lookup x=some c->∃ v,s.heap.IsCell c v
 free:H X.env.locals=none
 freeC:∀ x c,X.env.cells.lookup x=some c->H c=none
 pin:∀ p∈X.pn++pins,s.heap.get? p.1=some p.2/\H p.1=none/\p.1≠X.env.locals/\p.1 ∉ X.fs/\∀ v,p.2.data≠.cell v
 hok:HOk X.prog X.w H s.heap
 len:σ.length=X.N.length
section
variable {X:Cx} {pins:List (Addr×Obj)} {σ:List (Option V)} {H H':Hp} {s:Shared} {h':Heap}
theorem Cx.Ok.nofr (ok:X.Ok) {b:Addr} {o:Obj} (e:X.base.get? b=some o):b ∉ X.fs:=λhb=>by
 have:=(ok.funs.mem hb).1
 rw [e] at this;cases this
theorem Inv.bs (I:Inv X pins σ H s):∀ b o,X.base.get? b=some o->s.heap.get? b=some o/\H b=none:=λb o e=>
 ⟨I.base.keep b o (I.ok.bs b o e).1 (I.ok.bs b o e).2 (I.ok.nofr e) (I.ok.noex b o e),I.base.free b o (I.ok.bs b o e).1 (I.ok.bs b o e).2 (I.ok.noex b o e)⟩
theorem Inv.bk (I:Inv X pins σ H s):∀ b o,X.base.get? b=some o->s.heap.get? b=some o:=λb o e=>(I.bs b o e).1
theorem Inv.mod (I:Inv X pins σ H s):Mod X.K X.mg X.base:=I.ok.mod
theorem Inv.kIn (I:Inv X pins σ H s):X.K.In s.heap:=I.ok.mod.kin.keeps I.bk
theorem Inv.lt (I:Inv X pins σ H s):X.env.locals<s.heap.objs.size:=let ⟨_,hn,_⟩:=I.loc;hn.lt
theorem Inv.sz (I:Inv X pins σ H s):X.s₀.heap.objs.size<=s.heap.objs.size:=Nat.le_trans I.ok.above (Nat.le_of_lt I.lt)
theorem Inv.nofs (I:Inv X pins σ H s) {a:Addr} (h:s.heap.objs.size<=a):a ∉ X.fs:=λhb=>by
 obtain⟨_,o,ho,_⟩:=I.ok.funs.mem hb
 exact absurd (Nat.lt_of_lt_of_le (Heap.lt_size ho) (Nat.le_trans I.sz h)) (Nat.lt_irrefl _)
theorem Inv.cne (I:Inv X pins σ H s):∀ x c,X.env.cells.lookup x=some c->c≠X.env.locals:=λx c e z=>by
 obtain⟨v,o,ho,hd⟩:=I.cell x c e
 obtain⟨m,⟨o',es,ep,ho',hd',_⟩,_⟩:=I.loc
 rw [z,ho'] at ho;cases ho;rw [hd'] at hd;cases hd
theorem Inv.funs (I:Inv X pins σ H s):s.heap.FunFrames X.base X.outer:=by
 have all:∀ (l:List Env),(∀ b∈frs l,b∈X.fs)->X.s₀.heap.FunFrames X.base l->s.heap.FunFrames X.base l:=by
  intro l
  induction l with
  | nil=>intro _ _;trivial
  | cons env r ih=>
   intro hs hl
   obtain⟨hk,⟨L,o,hf,hn,ho,hd⟩,hr⟩:=hl
   have hL:L∈X.fs:=hs L (by unfold frs;rw [List.filterMap_cons,hf];exact List.mem_cons_self)
   obtain⟨sl,e⟩:=I.base.slot L o ho (I.ok.frf L hL) hL λz=>I.ok.exfs L z hL
   exact⟨hk,⟨L,_,hf,hn,e,hd⟩,ih (λb hb=>hs b (by unfold frs;rw [List.filterMap_cons,hf];exact List.mem_cons_of_mem _ hb)) hr⟩
 exact all X.outer (λ_ hb=>hb) I.ok.funs
theorem Inv.stack (I:Inv X pins σ H s):s.heap.FunFrames X.base X.stack:=by
 rcases I.ok.stk with e | ⟨e,hf⟩
 ·rw [e];exact I.funs
 ·rw [e]
  obtain⟨m,hn,_⟩:=I.loc
  refine .cons (by rw [I.ok.kind];decide) hf hn ?_ I.funs
  exact Heap.get?_none_of_le (Nat.le_trans I.ok.bsz I.ok.above)
theorem Inv.stkSub (I:Inv X pins σ H s):∀ b∈frs X.stack,b∈X.env.locals :: X.fs:=λb hb=>by
 rcases I.ok.stk with e | ⟨e,hf⟩
 ·rw [e] at hb;exact List.mem_cons_of_mem _ hb
 ·rw [e] at hb
  unfold frs at hb
  rw [List.filterMap_cons,hf] at hb
  exact hb
theorem Inv.stkFree (I:Inv X pins σ H s):∀ b∈frs X.stack,H b=none:=λb hb=>by
 rcases List.mem_cons.mp (I.stkSub b hb) with e | hb
 ·rw [e];exact I.free
 ·obtain⟨_,o,ho,_⟩:=I.ok.funs.mem hb
  exact I.base.free b o ho (I.ok.frf b hb) λz=>I.ok.exfs b z hb
theorem Inv.step {g':Array GenState} {t':Nat} {d':Drawn} {ch:List Addr} (I:Inv X pins σ H s)
  (hch:∀ b∈ch,(b∈X.ex\/X.s₀.heap.objs.size<=b)/\b≠X.env.locals/\(∀ x c,X.env.cells.lookup x=some c->c≠b)/\∀ p∈X.pn++pins,p.1≠b)
  (keep:∀ b o,b≠X.env.locals->b ∉ X.fs->b ∉ ch->s.heap.get? b=some o->H b=none->h'.get? b=some o)
  (slot:∀ b o,b≠X.env.locals->b∈X.fs->b ∉ ch->s.heap.get? b=some o->H b=none->∃ sl,h'.get? b=some { o with slots:=sl }) (free:∀ b o,b ∉ ch->s.heap.get? b=some o->H b=none->H' b=none)
  (there:∀ b o,b ∉ ch->s.heap.get? b=some o->∃ o',h'.get? b=some o')
  (tups:∀ b xs,H b=some (.tup xs)->H' b=some (.tup xs)) (frzs:∀ b o u,H b=some (.frz o u)->H' b=some (.frz o u)) (tbls:∀ b ps,H b=some (.tbl ps)->∃ more,H' b=some (.tbl (ps++more)))
  (ns:∀ m,s.heap.Ns X.env.locals m->h'.Ns X.env.locals m) (hok:HOk X.prog X.w H' h') (hg:AllBare g') :
  Inv X pins σ H' { s with heap:=h',gens:=g',drawn:=d',toks:=t' }:=by
 have neL:∀ b o,X.s₀.heap.get? b=some o->b≠X.env.locals:=λb o e=>Nat.ne_of_lt (Nat.lt_of_lt_of_le (Heap.lt_size e) I.ok.above)
 have neC:∀ b o,X.s₀.heap.get? b=some o->b ∉ X.ex->b ∉ ch:=λb o e hx hb=>by
  rcases (hch b hb).1 with z | z
  ·exact hx z
  ·exact absurd (Nat.lt_of_lt_of_le (Heap.lt_size e) z) (Nat.lt_irrefl _)
 have cellK:∀ x c,X.env.cells.lookup x=some c->∀ v,s.heap.IsCell c v->h'.IsCell c v:=λx c e v ⟨o,ho,hd⟩=>by
  have nch:c ∉ ch:=λz=>(hch c z).2.2.1 x c e rfl
  by_cases hc:c∈X.fs
  ·obtain⟨sl,q⟩:=slot c o (I.cne x c e) hc nch ho (I.freeC x c e)
   exact⟨_,q,hd⟩
  ·exact⟨o,keep c o (I.cne x c e) hc nch ho (I.freeC x c e),hd⟩
 refine⟨I.ok,I.os,hg,⟨λb o e n hb hx=>?_,λb o e n hb hx=>?_,λb o e n hx=>?_,λb o e hx=>?_,λb xs e=>tups b xs (I.base.tups b xs e),λb o xs e=>frzs b o xs (I.base.frzs b o xs e),λb ps e=>?_⟩,?_,λx c e=>?_,?_,λx c e=>?_,λp hp=>?_,hok,I.len⟩
 ·exact keep b o (neL b o e) hb (neC b o e hx) (I.base.keep b o e n hb hx) (I.base.free b o e n hx)
 ·obtain⟨sl,e1⟩:=I.base.slot b o e n hb hx
  obtain⟨sl',e2⟩:=slot b _ (neL b o e) hb (neC b o e hx) e1 (I.base.free b o e n hx)
  exact⟨sl',e2⟩
 ·obtain⟨o',e1⟩:=I.base.there b o e hx
  exact free b o' (neC b o e hx) e1 (I.base.free b o e n hx)
 ·obtain⟨o',e1⟩:=I.base.there b o e hx
  exact there b o' (neC b o e hx) e1
 ·obtain⟨m1,e1⟩:=I.base.tbls b ps e
  obtain⟨m2,e2⟩:=tbls b _ e1
  exact⟨m1++m2,by rw [e2,Array.append_assoc]⟩
 ·obtain⟨m,hn,hl⟩:=I.loc
  refine⟨m,ns m hn,λi x v e1 e2 e3=>?_⟩
  obtain⟨u,r,l⟩:=hl i x v e1 e2 e3
  refine⟨u,r,?_⟩
  rcases l with l | ⟨k,c,e,z⟩
  ·exact .inl l
  ·exact .inr ⟨k,c,e,cellK x c e _ z⟩
 ·obtain⟨v,z⟩:=I.cell x c e
  exact⟨v,cellK x c e v z⟩
 ·obtain⟨m,⟨o,_,_,ho,_⟩,_⟩:=I.loc
  exact free _ o (λz=>(hch _ z).2.1 rfl) ho I.free
 ·obtain⟨v,o,ho,hd⟩:=I.cell x c e
  exact free c o (λz=>(hch c z).2.2.1 x c e rfl) ho (I.freeC x c e)
 ·obtain⟨e,n,ne,nf,d⟩:=I.pin p hp
  have nch:p.1 ∉ ch:=λz=>(hch p.1 z).2.2.2 p hp rfl
  exact⟨keep p.1 p.2 ne nf nch e n,free p.1 p.2 nch e n,ne,nf,d⟩
theorem Inv.un {t':Nat} (I:Inv X pins σ H s) (u:Un X.fs [] H H' s.heap h') (hok:HOk X.prog X.w H' h'):Inv X pins σ H' { s with heap:=h',toks:=t' }:=by
 obtain⟨m,⟨o,es,ep,ho,r⟩,_⟩:=id I.loc
 obtain⟨sl,hL⟩:=u.any ho I.free (by simp)
 exact I.step (g':=s.gens) (d':=s.drawn) (ch:=[]) (λ_ z=>nomatch z) (λb o _ hb _ e n=>u.keep b o e n hb (by simp)) (λb o _ hb _ e n=>u.slot b o e n hb (by simp)) (λb o _ e n=>u.free b o e n (by simp)) (λb o _ e=>u.there b o e (by simp)) u.tups u.frzs u.tbls (λm' hm=>by
  obtain⟨o',es',ep',ho',r'⟩:=hm
  rw [ho] at ho';cases ho'
  exact⟨_,es',ep',hL,r'⟩) hok I.bare
theorem Inv.call {g':Array GenState} {t':Nat} {d':Drawn} {ch:List Addr} (I:Inv X pins σ H s) (u:Un (frs X.stack) ch H H' s.heap h') (hok:HOk X.prog X.w H' h') (hg:AllBare g')
  (hch:∀ b∈ch,(b∈X.ex\/X.s₀.heap.objs.size<=b)/\b≠X.env.locals/\(∀ x c,X.env.cells.lookup x=some c->c≠b)/\∀ p∈X.pn++pins,p.1≠b) :
  Inv X pins σ H' { s with heap:=h',gens:=g',drawn:=d',toks:=t' }:=by
 obtain⟨m,⟨o,es,ep,ho,r⟩,_⟩:=id I.loc
 obtain⟨sl,hL⟩:=u.any ho I.free λz=>(hch _ z).2.1 rfl
 exact I.step (ch:=ch) hch (λb o hL hb hc e n=>u.keep b o e n (λz=>(List.mem_cons.mp (I.stkSub b z)).elim hL hb) hc) (λb o _ _ hc e n=>u.any e n hc) (λb o hc e n=>u.free b o e n hc) (λb o hc e=>u.there b o e hc) u.tups u.frzs u.tbls (λm' hm=>by
  obtain⟨o',es',ep',ho',r'⟩:=hm
  rw [ho] at ho';cases ho'
  exact⟨_,es',ep',hL,r'⟩) hok hg
theorem Inv.turned {t':Nat} {it:Addr} (I:Inv X pins σ H s) (k:∀ b o,b≠it->s.heap.get? b=some o->h'.get? b=some o) (hn:H it=none) (hL:it≠X.env.locals)
  (h1:it∈X.ex\/X.s₀.heap.objs.size<=it) (h2:∀ x c,X.env.cells.lookup x=some c->c≠it) (h3:∀ p∈X.pn++pins,p.1≠it):Inv X pins σ H { s with heap:=h',toks:=t' }:=by
 have nit:∀ b u,H b=some u->b≠it:=λb u e z=>by rw [z,hn] at e;cases e
 refine I.step (g':=s.gens) (d':=s.drawn) (ch:=[it]) (λb hb=>?_) (λb o _ _ hc e _=>k b o (λz=>hc (by simp [z])) e) (λb o _ _ hc e _=>⟨o.slots,k b o (λz=>hc (by simp [z])) e⟩) (λ_ _ _ _ n=>n)
  (λb o hc e=>⟨o,k b o (λz=>hc (by simp [z])) e⟩) (λ_ _ e=>e) (λ_ _ _ e=>e) (λb ps e=>⟨#[],by rw [e];simp⟩) (λm hm=>?_) (λb u e=>?_) I.bare
 ·have e:b=it:=by simpa using hb
  subst e
  exact⟨h1,hL,h2,h3⟩
 ·obtain⟨o,es,ep,ho,r⟩:=hm
  exact⟨o,es,ep,k _ o (Ne.symm hL) ho,r⟩
 ·refine (I.hok b u e).stay (λc v hc q=>k c v ?_ q) (λ_ q=>q) λ_ _ q=>q
  rcases hc with z | z
  ·rw [z];exact nit b u e
  ·exact nit c _ z
theorem Inv.tok (I:Inv X pins σ H s) (t:Nat):Inv X pins σ H { s with toks:=t }:=I.un (h':=s.heap) (t':=t) Un.refl I.hok
theorem Inv.kept {t':Nat} (I:Inv X pins σ H s) (k:∀ b u,s.heap.get? b=some u->h'.get? b=some u):Inv X pins σ H { s with heap:=h',toks:=t' }:=I.un (Un.kept k) (I.hok.kept k)
theorem Inv.laid {a:Addr} {o:HO} {t':Nat} (I:Inv X pins σ H s) (k:∀ b u,s.heap.get? b=some u->h'.get? b=some u) (hp:s.heap.objs.size<=a) (new:ObjOk X.prog X.w (upd H a o) h' a o) :
  Inv X pins σ (upd H a o) { s with heap:=h',toks:=t' }:=I.un (Un.laid k hp (I.hok.fresh hp)) (I.hok.laid k hp new)
theorem Inv.write {x e:Addr} {o:HO} {t':Nat} (I:Inv X pins σ H s) (mu:Mut (H x)) (he:e=x\/H e=some (.own x)) (k:∀ b u,b≠e->s.heap.get? b=some u->h'.get? b=some u) (heo:∃ u,h'.get? e=some u)
  (new:ObjOk X.prog X.w (upd H x o) h' x o):Inv X pins σ (upd H x o) { s with heap:=h',toks:=t' }:=I.un (Un.write mu he k heo) (I.hok.write mu he k heo new)
theorem Inv.weak {σ':List (Option V)} (I:Inv X pins σ H s) (hl:σ'.length=σ.length) (w:∀ (i:Nat) v,σ'[i]?=some (some v)->σ[i]?=some (some v)):Inv X pins σ' H s:=
 ⟨I.ok,I.os,I.bare,I.base,let ⟨m,hn,hl'⟩:=I.loc;⟨m,hn,λi x v e1 e2 e3=>hl' i x v e1 (w i v e2) e3⟩,I.cell,I.free,I.freeC,I.pin,I.hok,hl.trans I.len⟩
theorem Inv.pins_of {pins':List (Addr×Obj)} (I:Inv X pins σ H s) (h:∀ p∈pins',s.heap.get? p.1=some p.2/\H p.1=none/\p.1≠X.env.locals/\p.1 ∉ X.fs/\∀ v,p.2.data≠.cell v):Inv X pins' σ H s:=
 ⟨I.ok,I.os,I.bare,I.base,I.loc,I.cell,I.free,I.freeC,λp hp=>(List.mem_append.mp hp).elim (λz=>I.pin p (List.mem_append_left _ z)) (h p),I.hok,I.len⟩
theorem g'x {N:List Str} (hN:N.Nodup) {i j:Nat} {x:Str} (a:N[i]?=some x) (b:N[j]?=some x):i=j:=by
 obtain⟨h1,e1⟩:=List.getElem?_eq_some_iff.mp a
 obtain⟨h2,e2⟩:=List.getElem?_eq_some_iff.mp b
 exact (List.getElem_inj hN).mp (e1.trans e2.symm)
theorem f'z {M:Model} {A:Around} {E:Value->Shared->Prop} {i:Nat} {x:Str} {v:V} {u:Value} {Q:Unit->Shared->Prop} (I:Inv X pins σ H s) (hN:X.N.Nodup) (hi:X.N[i]?=some x) (hx:Loc X.env.scope x) (r:RelV v u)
  (h:∀ s',Inv X pins (σ.set i (some v)) H s'->(∃ a,Heap.SameBut a s.heap s'.heap/\(a=X.env.locals\/X.env.cells.lookup x=some a))->Q () s') (hf:X.fn x=true\/X.env.scope.names.lookup x=some .local:=by first | exact .inl rfl | exact .inr rfl | assumption):wpAny M A (storeName X.env x u) Q E s:=by
 obtain⟨m,hn,hl⟩:=id I.loc
 have hcls:(X.env.scope.kind == .class || (X.env.scope.kind == .module && X.env.locals != X.env.globals))=false:=by rw [I.ok.kind];rfl
 have hiσ:i<σ.length:=by rw [I.len];exact (List.getElem?_eq_some_iff.mp hi).1
 have cne:=I.cne
 have tracked:∀ {a:Addr} {h':Heap},(∃ o,s.heap.get? a=some o/\H a=none)->Heap.SameBut a s.heap h'->HOk X.prog X.w H h':=λ{a h'} ha hs b ob e=>by
  obtain⟨_,_,hfree⟩:=ha
  refine (I.hok b ob e).stay (λc w' hc q=>(hs.2 c ?_).trans q) (λ_ q=>q) λ_ _ q=>q
  rintro rfl
  rcases hc with rfl | hc
  ·rw [hfree] at e;cases e
  ·rw [hfree] at hc;cases hc
 rcases hx with hk | hk
 ·refine wpAny_storeName_local hk hn (λh' hn' hs=>?_) hcls
  obtain⟨oL,_,_,hoL,_⟩:=id hn
  refine h _ ⟨I.ok,I.os,I.bare,⟨λb o e n hb hx=>?_,λb o e n hb hx=>?_,I.base.free,λb o e hx=>?_,I.base.tups,I.base.frzs,I.base.tbls⟩,⟨_,hn',λj y v' e1 e2 e3=>?_⟩,λy c e=>?_,I.free,I.freeC,λp hp=>?_,tracked ⟨oL,hoL,I.free⟩ hs,by simpa using I.len⟩ ⟨_,hs,.inl rfl⟩
  ·exact (hs.2 b (Nat.ne_of_lt (Nat.lt_of_lt_of_le (Heap.lt_size e) I.ok.above))).trans (I.base.keep b o e n hb hx)
  ·obtain⟨sl,e1⟩:=I.base.slot b o e n hb hx
   exact⟨sl,(hs.2 b (Nat.ne_of_lt (Nat.lt_of_lt_of_le (Heap.lt_size e) I.ok.above))).trans e1⟩
  ·obtain⟨o',e1⟩:=I.base.there b o e hx
   exact⟨o',(hs.2 b (Nat.ne_of_lt (Nat.lt_of_lt_of_le (Heap.lt_size e) I.ok.above))).trans e1⟩
  ·by_cases hj:j=i
   ·subst hj
    rw [hi] at e1;cases e1
    rw [List.getElem?_set_self hiσ] at e2
    cases e2
    exact⟨u,r,.inl ⟨hk,by simp⟩⟩
   ·rw [List.getElem?_set_ne (Ne.symm hj)] at e2
    obtain⟨u',r',q⟩:=hl j y v' e1 e2 e3
    refine⟨u',r',?_⟩
    rcases q with ⟨k,e⟩ | ⟨k,c,e,z⟩
    ·refine .inl ⟨k,?_⟩
     have:y≠x:=λe=>hj (g'x hN e1 (e ▸ hi))
     simp [this,e]
    ·exact .inr ⟨k,c,e,z.sameBut hs (cne y c e)⟩
  ·obtain⟨w',z⟩:=I.cell y c e
   exact⟨w',z.sameBut hs (cne y c e)⟩
  ·obtain⟨e,n,ne,nf,d⟩:=I.pin p hp
   exact⟨(hs.2 p.1 ne).trans e,n,ne,nf,d⟩
 ·have hfn:X.fn x=true:=by
   rcases hf with z | z
   ·exact z
   ·rw [z] at hk;cases hk
  obtain⟨c,hc⟩:=I.ok.has x (.inl hk)
  obtain⟨w',z⟩:=I.cell x c hc
  refine wpAny_storeName_cell I.ok.kind hk hc z (λh' hc' hs=>?_)
  obtain⟨oc,hoc,hocd⟩:=id z
  refine h { s with heap:=h' } ⟨I.ok,I.os,I.bare,⟨λb o e n hb hx=>?_,λb o e n hb hx=>?_,I.base.free,λb o e hx=>?_,I.base.tups,I.base.frzs,I.base.tbls⟩,⟨m,hn.sameBut hs (Ne.symm (cne x c hc)),λj y v' e1 e2 e3=>?_⟩,λy c' e=>?_,I.free,I.freeC,λp hp=>?_,tracked ⟨oc,hoc,I.freeC x c hc⟩ hs,by simpa using I.len⟩ ⟨c,hs,.inr hc⟩
  ·exact (hs.2 b (Nat.ne_of_lt (Nat.lt_of_lt_of_le (Heap.lt_size e) (I.ok.cab x c hfn hc)))).trans (I.base.keep b o e n hb hx)
  ·obtain⟨sl,e1⟩:=I.base.slot b o e n hb hx
   exact⟨sl,(hs.2 b (Nat.ne_of_lt (Nat.lt_of_lt_of_le (Heap.lt_size e) (I.ok.cab x c hfn hc)))).trans e1⟩
  ·obtain⟨o',e1⟩:=I.base.there b o e hx
   exact⟨o',(hs.2 b (Nat.ne_of_lt (Nat.lt_of_lt_of_le (Heap.lt_size e) (I.ok.cab x c hfn hc)))).trans e1⟩
  ·by_cases hj:j=i
   ·subst hj
    rw [hi] at e1;cases e1
    rw [List.getElem?_set_self hiσ] at e2
    cases e2
    exact⟨u,r,.inr ⟨.inl hk,c,hc,hc'⟩⟩
   ·rw [List.getElem?_set_ne (Ne.symm hj)] at e2
    obtain⟨u',r',q⟩:=hl j y v' e1 e2 e3
    refine⟨u',r',?_⟩
    rcases q with q | ⟨k,c',e,z'⟩
    ·exact .inl q
    ·refine .inr ⟨k,c',e,z'.sameBut hs ?_⟩
     rintro rfl
     exact hj (g'x hN e1 (I.ok.inj _ _ _ e hc ▸ hi))
  ·by_cases hcc:c'=c
   ·subst hcc;exact⟨_,hc'⟩
   ·obtain⟨w2,z2⟩:=I.cell y c' e
    exact⟨w2,z2.sameBut hs hcc⟩
  ·obtain⟨e,n,ne,nf,d⟩:=I.pin p hp
   refine⟨(hs.2 p.1 ?_).trans e,n,ne,nf,d⟩
   intro q
   rw [q,hoc] at e
   have q':oc=p.2:=Option.some.inj e
   exact d w' (by rw [<- q'];exact hocd)
theorem c'x {M:Model} {A:Around} {E:Value->Shared->Prop} {i:Nat} {x:Str} {v:V} {u:Value} {Q:Unit->Shared->Prop} (I:Inv X pins σ H s) (hN:X.N.Nodup) (hi:X.N[i]?=some x) (hx:Loc X.env.scope x) (r:RelV v u)
  (h:∀ s',Inv X pins (σ.set i (some v)) H s'->Q () s') (hf:X.fn x=true\/X.env.scope.names.lookup x=some .local:=by first | exact .inl rfl | exact .inr rfl | assumption):wpAny M A (storeName X.env x u) Q E s:=
 f'z I hN hi hx r (λs' I' _=>h s' I') hf
theorem Inv.call' {s':Shared} {ch:List Addr} (I:Inv X pins σ H s) (ho:s'.os=s.os) (u:Un (frs X.stack) ch H H' s.heap s'.heap) (hok:HOk X.prog X.w H' s'.heap) (hg:AllBare s'.gens)
  (hch:∀ b∈ch,(b∈X.ex\/X.s₀.heap.objs.size<=b)/\b≠X.env.locals/\(∀ x c,X.env.cells.lookup x=some c->c≠b)/\∀ p∈X.pn++pins,p.1≠b):Inv X pins σ H' s':=by
 obtain⟨h',g',d',t',o'⟩:=s'
 have e:o'=s.os:=ho
 subst e
 exact I.call (g':=g') (t':=t') (d':=d') u hok hg hch
end
abbrev XK:=Value->Option Addr->Hp->Prop
abbrev St:=List (Option V)
abbrev VK:=V->Hp->Prop
abbrev TE:=St->Hp->VK->Prop
abbrev TT:=St->Hp->(Bool->Hp->Prop)->Prop
abbrev TA:=St->Hp->(List V->Hp->Prop)->Prop
structure Ends where
 nx:St->Hp->Prop
 rt:VK
 bk:St->Hp->Prop:=λ_ _=>False
 ct:St->Hp->Prop:=λ_ _=>False
abbrev TS:=Ends->St->Hp->Prop
def EP (X:Cx) (pins:List (Addr×Obj)) (σ:St) (Q:VK) (u:Value) (s':Shared):Prop:=∃ v H',Inv X pins σ H' s'/\RelV v u/\Q v H'
def TP (X:Cx) (pins:List (Addr×Obj)) (σ:St) (Q:Bool->Hp->Prop) (b:Bool) (s':Shared):Prop:=∃ H',Inv X pins σ H' s'/\Q b H'
def AP (X:Cx) (pins:List (Addr×Obj)) (σ:St) (Q:List V->Hp->Prop) (us:List Value) (s':Shared):Prop:=∃ vs H',Inv X pins σ H' s'/\Vals vs us/\Q vs H'
def SP (X:Cx) (pins:List (Addr×Obj)) (D:Ends) (f:Flow) (s':Shared):Prop:=
 match f with
 | .next => ∃ σ' H', Inv X pins σ' H' s' /\ D.nx σ' H'
 | .brk => ∃ σ' H', Inv X pins σ' H' s' /\ D.bk σ' H'
 | .cont => ∃ σ' H', Inv X pins σ' H' s' /\ D.ct σ' H'
 | .ret u => ∃ v σ' H', Inv X pins σ' H' s' /\ RelV v u /\ D.rt v H'
def PE (X:Cx) (e:Expr) (t:TE):Prop:=
 ∀ (pins:List (Addr×Obj)) (s:Shared) (σ:St) (H:Hp) (Q:VK),Inv X pins σ H s->t σ H Q->wpAny (model X.prog X.w) X.A (eval e X.env) (EP X pins σ Q) X.xe s
def PT (X:Cx) (e:Expr) (t:TT):Prop:=
 ∀ (pins:List (Addr×Obj)) (s:Shared) (σ:St) (H:Hp) (Q:Bool->Hp->Prop),Inv X pins σ H s->t σ H Q->wpAny (model X.prog X.w) X.A (isTrue e X.env (eval e X.env)) (TP X pins σ Q) X.xe s
def PW (X:Cx) (e:Expr) (t:TT):Prop:=
 ∀ (whole:Sem Value) (pins:List (Addr×Obj)) (s:Shared) (σ:St) (H:Hp) (Q:Bool->Hp->Prop),Inv X pins σ H s->t σ H Q->wpAny (model X.prog X.w) X.A (isTrue e X.env whole) (TP X pins σ Q) X.xe s
theorem PW.pt {X:Cx} {e:Expr} {t:TT} (h:PW X e t):PT X e t:=h _
def PA (X:Cx) (es:List Expr) (t:TA):Prop:=
 ∀ (pos:Pos) (pins:List (Addr×Obj)) (s:Shared) (σ:St) (H:Hp) (Q:List V->Hp->Prop),Inv X pins σ H s->t σ H Q->wpAny (model X.prog X.w) X.A (spliced (backTo pos (starEach es X.env))) (AP X pins σ Q) X.xe s
def PS (X:Cx) (st:Stmt) (t:TS):Prop:=
 ∀ (pins:List (Addr×Obj)) (s:Shared) (σ:St) (H:Hp) (D:Ends),Inv X pins σ H s->t D σ H->wpAny (model X.prog X.w) X.A (exec st X.env) (SP X pins D) X.xe s
def PSs (X:Cx) (st:List Stmt) (t:TS):Prop:=
 ∀ (pins:List (Addr×Obj)) (s:Shared) (σ:St) (H:Hp) (D:Ends),Inv X pins σ H s->t D σ H->wpAny (model X.prog X.w) X.A (execs st X.env) (SP X pins D) X.xe s
theorem thn {α:Type} {t:Sem α} {Q Q':α->Shared->Prop} {M:Model} {A:Around} {E:Value->Shared->Prop} {s:Shared} (h:wpAny M A t Q E s) (hQ:∀ a s,Q a s->Q' a s):wpAny M A t Q' E s:=wpAny_mono h hQ λ_ _ x=>x
end L2
namespace L2
open PySem PySem.Spec PyProof.Rows
section
variable {X:Cx}
def tVar (i:Nat):TE:=λσ H Q=>∃ v,σ[i]?=some (some v)/\Q v H
def tC (v:V):TE:=λ_ H Q=>Q v H
theorem c'i {i:Nat} {x:Str} {pos:Pos} (hN:X.N[i]?=some x) (hv:Vis X.env.scope x) (hd:(x == ("__debug__":Str))=false:=by decide) (hcd:(x == ("__classdict__":Str))=false:=by decide):PE X (.Name x pos) (tVar i):=by
 intro pins s σ H Q I h
 obtain⟨v,e,h⟩:=h
 obtain⟨m,hn,hl⟩:=I.loc
 obtain⟨u,r,l⟩:=hl i x v hN e hv
 have fin:EP X pins σ Q u s:=⟨v,H,I,r,h⟩
 rcases l with ⟨hk,hm⟩ | ⟨hk,c,hc,hcell⟩
 ·exact wpAny_Name (wpAny_loadName_local I.ok.kind hk hn hm fin) hd
 ·rcases hk with hk | hk
  ·exact wpAny_Name (wpAny_loadName_cell I.ok.kind hk hc hcell fin) hd
  ·exact wpAny_Name (wpAny_loadName_free I.ok.kind hk hc hcell fin hcd) hd
theorem l'd {i j pos}:PE X (.Constant (.int i) j pos) (tC (.int i)):=λ_ _ _ H _ I h=>wpAny_Constant_int ⟨.int i,H,I.tok _,⟨_,rfl⟩,h⟩
theorem w'a {b j pos}:PE X (.Constant (.bool b) j pos) (tC (.bl b)):=λ_ _ _ H _ I h=>Constant_bool ⟨.bl b,H,I,rfl,h⟩
theorem t'C {x j pos}:PE X (.Constant (.str x) j pos) (tC (.str x)):=λ_ _ _ H _ I h=>Calls.Constant_str ⟨.str x,H,I.tok _,⟨_,rfl⟩,h⟩
def Gl (X:Cx) (x:Str):Prop:=X.env.kindOf x=some .globalImplicit
theorem d'k {E:Value->Shared->Prop} {pins:List (Addr×Obj)} {s:Shared} {σ:St} {H:Hp} {x:Str} {u:Value} {pos:Pos} {Q:Value->Shared->Prop} (I:Inv X pins σ H s) (hg:Gl X x) (hm:X.mg x=some u) (h:Q u s)
  (hd:(x == ("__debug__":Str))=false:=by decide):wpAny (model X.prog X.w) X.A (eval (.Name x pos) X.env) Q E s:=
 Calls.Name_function_global I.ok.kind hg (Calls.loadGlobal_global (by rw [I.ok.glob];exact I.mod.glob.keeps I.bk) hm h) hd
theorem c'S {E:Value->Shared->Prop} {pins:List (Addr×Obj)} {s:Shared} {σ:St} {H:Hp} {x:Str} {u:Value} {pos:Pos} {Q:Value->Shared->Prop} (I:Inv X pins σ H s) (hg:Gl X x) (hm:X.mg x=none) (hv:bootBuiltins x=some u) (h:Q u s)
  (hn:x≠"__name__":=by decide) (hd:(x == ("__debug__":Str))=false:=by decide):wpAny (model X.prog X.w) X.A (eval (.Name x pos) X.env) Q E s:=by
 obtain⟨mb,h1,h2⟩:=I.mod.blt
 exact Calls.Name_function_global I.ok.kind hg (Calls.loadGlobal_builtin (by rw [I.ok.glob];exact I.mod.glob.keeps I.bk) hm (by rw [I.ok.blt];exact h1.keeps I.bk) ((h2 x hn).trans hv) h) hd
theorem i'h {x:Str} {v:V} {u:Value} {pos:Pos} (hg:Gl X x) (hm:X.mg x=some u) (r:RelV v u) (hd:(x == ("__debug__":Str))=false:=by decide):PE X (.Name x pos) (tC v):=
 λ_ _ _ H _ I h=>d'k I hg hm ⟨v,H,I,r,h⟩ hd
theorem r's {x:Str} {v:V} {u:Value} {pos:Pos} (hg:Gl X x) (hm:X.mg x=none) (hv:bootBuiltins x=some u) (r:RelV v u) (hn:x≠"__name__":=by decide) (hd:(x == ("__debug__":Str))=false:=by decide):PE X (.Name x pos) (tC v):=
 λ_ _ _ H _ I h=>c'S I hg hm hv ⟨v,H,I,r,h⟩ hn hd
variable {a b:Expr} {ta tb:TE} {pos:Pos}
def tB (t:TE):TT:=λσ H Q=>t σ H λx H1=>∃ c,x=.bl c/\Q c H1
theorem t'D {e:Expr} {t:TE} (h:PE X e t) (he:∀ whole,isTrue e X.env whole=(do let v <- whole;standAt e.pos;holding [v] (truthy v)):=by intro _;rfl):PT X e (tB t):=by
 intro pins s σ H Q I hw
 refine isTrue_plain (thn (h pins s σ H _ I hw) λv s1 ⟨x,H1,I1,r1,q1⟩=>?_) (he _)
 obtain⟨d,rfl,q⟩:=q1
 cases r1
 exact wpAny_truthy_bool ⟨H1,I1,q⟩
variable {tA tB':TT} {rest:List Expr}
def tAnd (t u:TT):TT:=λσ H Q=>t σ H λc H1=>if c=true then u σ H1 Q else Q false H1
def tOr (t u:TT):TT:=λσ H Q=>t σ H λc H1=>if c=true then Q true H1 else u σ H1 Q
def tNot (t:TT):TT:=λσ H Q=>t σ H λc H1=>Q (!c) H1
theorem r't (ha:PT X a tA):PW X (.BoolOp .And [a] pos) tA:=by
 intro wh pins s σ H Q I h
 refine isTrue_and (thn (ha pins s σ H Q I h) λc s1 e=>?_)
 cases c with
 | true => exact isTrue_and_nil e
 | false => exact e
theorem t'E (ha:PT X a tA):PW X (.BoolOp .Or [a] pos) tA:=by
 intro wh pins s σ H Q I h
 refine isTrue_or (thn (ha pins s σ H Q I h) λc s1 e=>?_)
 cases c with
 | false => exact isTrue_or_nil e
 | true => exact e
theorem t'F (ha:PT X a tA) (hb:PW X (.BoolOp .And (b :: rest) pos) tB'):PW X (.BoolOp .And (a :: b :: rest) pos) (tAnd tA tB'):=by
 intro wh pins s σ H Q I h
 refine isTrue_and (thn (ha pins s σ H _ I h) λc s1 ⟨H1,I1,q1⟩=>?_)
 cases c with
 | true => exact hb wh pins s1 σ H1 Q I1 q1
 | false => exact ⟨H1, I1, q1⟩
theorem w'b (ha:PT X a tA) (hb:PW X (.BoolOp .Or (b :: rest) pos) tB'):PW X (.BoolOp .Or (a :: b :: rest) pos) (tOr tA tB'):=by
 intro wh pins s σ H Q I h
 refine isTrue_or (thn (ha pins s σ H _ I h) λc s1 ⟨H1,I1,q1⟩=>?_)
 cases c with
 | true => exact ⟨H1, I1, q1⟩
 | false => exact hb wh pins s1 σ H1 Q I1 q1
theorem t'G (ha:PT X a tA):PT X (.UnaryOp .Not a pos) (tNot tA):=by
 intro pins s σ H Q I h
 exact isTrue_not (ha pins s σ H (λc H1=>Q (!c) H1) I h)
def tAndV (ta tb:TE):TE:=λσ H Q=>ta σ H λx H1=>∃ c,x=.bl c/\if c=true then tb σ H1 Q else Q (.bl false) H1
theorem t'H {op} {t:TE} (h:PE X a t):PE X (.BoolOp op [a] pos) t:=λpins s σ H Q I hw=>BoolOp_one (h pins s σ H Q I hw)
theorem t'I (ha:PE X a ta) (hb:PE X (.BoolOp .And (b :: rest) pos) tb):PE X (.BoolOp .And (a :: b :: rest) pos) (tAndV ta tb):=by
 intro pins s σ H Q I h
 refine BoolOp_and (thn (ha pins s σ H _ I h) λv s1 ⟨x,H1,I1,r1,q1⟩=>?_)
 obtain⟨c,rfl,q1⟩:=q1
 cases r1
 refine wpAny_truthy_bool ?_
 cases c with
 | true => exact hb pins s1 σ H1 Q I1 q1
 | false => exact ⟨.bl false, H1, I1, rfl, q1⟩
def tIf (t:TT) (ta tb:TE):TE:=λσ H Q=>t σ H λc H1=>if c=true then ta σ H1 Q else tb σ H1 Q
theorem o'b {c:Expr} (hc:PT X c tA) (ha:PE X a ta) (hb:PE X b tb):PE X (.IfExp c a b pos) (tIf tA ta tb):=by
 intro pins s σ H Q I h
 refine wpAny_IfExp (thn (hc pins s σ H _ I h) λd s1 ⟨H1,I1,q1⟩=>?_)
 cases d with
 | true => exact ha pins s1 σ H1 Q I1 q1
 | false => exact hb pins s1 σ H1 Q I1 q1
end
end L2
namespace L2
open PySem PySem.Spec PyProof.Rows
def SqL (K:W.Frag) (H:Hp) (a:Addr) (xs:List V):Prop:=
 Rd H a (.lst xs)\/
  ∃ (o:Obj) (its:Array Value) (n:Nat),K.lookup a=some o/\o.cls=.type "list"/\o.dict=none/\o.data=.seq its n/\its.size<=sizeLine/\Vals xs its.toList
def SqT (K:W.Frag) (H:Hp) (a:Addr) (xs:List V):Prop:=
 Rd H a (.tup xs)\/
  ∃ (o:Obj) (its:Array Value) (n:Nat),K.lookup a=some o/\o.cls=.type "tuple"/\o.data=.seq its n/\its.size<=sizeLine/\Vals xs its.toList
def absV:Value->Option V
 | .none => some .non
 | .bool b => some (.bl b)
 | .int i _ => some (.int i)
 | .str x _ => some (.str x)
 | .bytes b _ => some (.byt b)
 | .float b _ => some (.flt b)
 | .ref a => some (.ref a)
 | .type n => some (.ty n)
 | _ => none
theorem RelV.abs {x:V} {u:Value} (r:RelV x u):absV u=some x:=by
 cases x with
 | non => cases r; rfl
 | bl _ => cases r; rfl
 | int _ => obtain ⟨t, rfl⟩ := r; rfl
 | str _ => obtain ⟨t, rfl⟩ := r; rfl
 | byt _ => obtain ⟨t, rfl⟩ := r; rfl
 | flt _ => obtain ⟨t, rfl⟩ := r; rfl
 | ref _ => cases r; rfl
 | ty _ => cases r; rfl
theorem RelV.inj {x y:V} {u:Value} (r:RelV x u) (q:RelV y u):x=y:=Option.some.inj (r.abs.symm.trans q.abs)
theorem Vals.inj:∀ {xs ys:List V} {us:List Value},Vals xs us->Vals ys us->xs=ys
 | _, _, _, .nil, .nil => rfl
 | _, _, _, .cons r t, .cons r' t' => by rw [r.inj r', Vals.inj t t']
section
variable {X:Cx} {pins:List (Addr×Obj)} {σ:St} {H:Hp} {s:Shared} {a:Addr} {xs ys:List V}
theorem SqL.of {K:W.Frag} (h:H a=some (.lst xs)):SqL K H a xs:=.inl (.inl h)
theorem SqT.of {K:W.Frag} (h:H a=some (.tup xs)):SqT K H a xs:=.inl (.inl h)
theorem Inv.list (I:Inv X pins σ H s) (h:SqL X.K H a xs):∃ its:List Value,Vals xs its/\PlainL s.heap a its.toArray/\xs.length<=sizeLine:=by
 rcases h with h | ⟨o,its,n,hk,hc,hd,hs,hz,r⟩
 ·obtain⟨z,its,n,r,e⟩:=h.ok I.hok
  exact⟨its,r,⟨_,n,e,rfl,rfl,rfl⟩,z⟩
 ·refine⟨its.toList,r,⟨o,n,I.kIn a o hk,hc,hd,by simpa using hs⟩,?_⟩
  have e:=r.length
  simp only [Array.length_toList] at e
  omega
theorem Inv.tuple (I:Inv X pins σ H s) (h:SqT X.K H a xs):∃ its:List Value,Vals xs its/\IsTup s.heap a its.toArray/\xs.length<=sizeLine:=by
 rcases h with h | ⟨o,its,n,hk,hc,hs,hz,r⟩
 ·obtain⟨z,its,r,p⟩:=h.ok I.hok
  exact⟨its,r,p,z⟩
 ·refine⟨its.toList,r,⟨o,I.kIn a o hk,hc,n,by simpa using hs⟩,?_⟩
  have e:=r.length
  simp only [Array.length_toList] at e
  omega
theorem Inv.list_inj (I:Inv X pins σ H s) (h:SqL X.K H a xs) (h':SqL X.K H a ys):xs=ys:=by
 obtain⟨its,r,⟨o,n,e,_,_,d⟩,_⟩:=I.list h
 obtain⟨its',r',⟨o',n',e',_,_,d'⟩,_⟩:=I.list h'
 rw [e] at e';cases e'
 rw [d] at d'
 injection d' with d1 _
 have:its=its':=by simpa using congrArg Array.toList d1
 subst this
 exact r.inj r'
theorem Inv.tuple_inj (I:Inv X pins σ H s) (h:SqT X.K H a xs) (h':SqT X.K H a ys):xs=ys:=by
 obtain⟨its,r,⟨o,e,_,n,d⟩,_⟩:=I.tuple h
 obtain⟨its',r',⟨o',e',_,n',d'⟩,_⟩:=I.tuple h'
 rw [e] at e';cases e'
 rw [d] at d'
 injection d' with d1 _
 have:its=its':=by simpa using congrArg Array.toList d1
 subst this
 exact r.inj r'
end
abbrev Cx.wish (X:Cx) (E:Value->Shared->Prop):Cx:={ X with xe:=E }
abbrev Cx.nox (X:Cx):Cx:=X.wish λ_ _=>False
theorem Cx.Ok.wish {X:Cx} (ok:X.Ok) (E:Value->Shared->Prop):(X.wish E).Ok:=
 ⟨ok.mod,ok.kind,ok.glob,ok.blt,ok.above,ok.inj,ok.has,ok.cab,ok.hd,ok.frames,ok.stk,ok.exf,ok.bs,ok.bsz,ok.noex,ok.exfs,ok.funs,ok.frf⟩
theorem Cx.Ok.unwish {X:Cx} {E:Value->Shared->Prop} (ok:(X.wish E).Ok):X.Ok:=
 ⟨ok.mod,ok.kind,ok.glob,ok.blt,ok.above,ok.inj,ok.has,ok.cab,ok.hd,ok.frames,ok.stk,ok.exf,ok.bs,ok.bsz,ok.noex,ok.exfs,ok.funs,ok.frf⟩
section
variable {X:Cx} {pins:List (Addr×Obj)} {σ:St} {H:Hp} {s:Shared} {E:Value->Shared->Prop}
theorem Inv.wish (I:Inv X pins σ H s) (E:Value->Shared->Prop):Inv (X.wish E) pins σ H s:=⟨I.ok.wish E,I.os,I.bare,I.base,I.loc,I.cell,I.free,I.freeC,I.pin,I.hok,I.len⟩
theorem Inv.unwish (I:Inv (X.wish E) pins σ H s):Inv X pins σ H s:=⟨I.ok.unwish,I.os,I.bare,I.base,I.loc,I.cell,I.free,I.freeC,I.pin,I.hok,I.len⟩
theorem SP.unwish {D:Ends} {f:Flow} {s':Shared} (h:SP (X.wish E) pins D f s'):SP X pins D f s':=by
 cases f with
 | next => obtain ⟨σ', H', I, q⟩ := h; exact ⟨σ', H', I.unwish, q⟩
 | brk => obtain ⟨σ', H', I, q⟩ := h; exact ⟨σ', H', I.unwish, q⟩
 | cont => obtain ⟨σ', H', I, q⟩ := h; exact ⟨σ', H', I.unwish, q⟩
 | ret u => obtain ⟨v, σ', H', I, r, q⟩ := h; exact ⟨v, σ', H', I.unwish, r, q⟩
theorem PSs.nox {st:List Stmt} {t:TS} (h:PSs X.nox st t):PSs X st t:=λpins s σ H D I hw=>
 wpAny_mono (h pins s σ H D (I.wish _) hw) (λ_ _ q=>q.unwish) λ_ _ z=>False.elim z
end
section
variable {X:Cx} {st:Stmt} {rest:List Stmt} {t u:TS} {e:Expr} {te:TE} {pos:Pos}
def tNext:TS:=λD σ H=>D.nx σ H
def tSeq (t u:TS):TS:=λD σ H=>t { D with nx:=u D } σ H
theorem r'u:PSs X [] tNext:=λ_ _ σ H _ I h=>wpAny_execs_nil ⟨σ,H,I,h⟩
theorem o'c (h1:PS X st t) (h2:PSs X rest u):PSs X (st :: rest) (tSeq t u):=by
 intro pins s σ H D I h
 refine wpAny_execs_cons (thn (h1 pins s σ H { D with nx:=u D } I h) λf s1 q=>?_)
 cases f with
 | next =>
  obtain⟨σ',H',I',q⟩:=q
  exact h2 pins s1 σ' H' D I' q
 | ret v => exact q
 | brk => exact q
 | cont => exact q
theorem r'v (h1:PS X st t):PSs X [st] t:=by
 intro pins s σ H D I h
 refine wpAny_execs_cons (thn (h1 pins s σ H D I h) λf s1 q=>?_)
 cases f with
 | next => exact wpAny_execs_nil q
 | ret v => exact q
 | brk => exact q
 | cont => exact q
theorem Inv.quiet {pins:List (Addr×Obj)} {σ:St} {H:Hp} {s:Shared} (I:Inv X pins σ H s):interactive X.env=false:=by simp [interactive,I.ok.kind]
def tDrop (te:TE):TS:=λD σ H=>te σ H λ_ H1=>D.nx σ H1
theorem d'l (he:PE X e te) (hs:swapsWith e none pos.line X.env=pure false:=by rfl):PS X (.Expr e pos) (tDrop te):=by
 intro pins s σ H D I h
 exact wpAny_Expr_any (thn (he pins s σ H _ I h) λv s1 ⟨x,H1,I1,r1,q1⟩=>⟨σ,H1,I1,q1⟩) I.quiet hs
def tRet (te:TE):TS:=λD σ H=>te σ H D.rt
theorem l'e (he:PE X e te):PS X (.Return (some e) pos) (tRet te):=by
 intro pins s σ H D I h
 exact wpAny_Return_some (thn (he pins s σ H _ I h) λv s1 ⟨x,H1,I1,r1,q1⟩=>⟨x,σ,H1,I1,r1,q1⟩)
def tIfS (c:TT) (t u:TS):TS:=λD σ H=>c σ H λb H1=>if b=true then t D σ H1 else u D σ H1
theorem w'c {c:Expr} {a b:List Stmt} {tc:TT} (hc:PT X c tc) (ha:PSs X a t) (hb:PSs X b u):PS X (.If c a b pos) (tIfS tc t u):=by
 intro pins s σ H D I h
 refine wpAny_If (thn (hc pins s σ H _ I h) λd s1 ⟨H1,I1,q1⟩=>?_)
 cases d with
 | true => exact ha pins s1 σ H1 D I1 q1
 | false => exact hb pins s1 σ H1 D I1 q1
def tNever:TS:=λ_ _ _=>False
theorem o'd:PS X st tNever:=λ_ _ _ _ _ _ h=>h.elim
end
abbrev TG:=V->St->Hp->(St->Hp->Prop)->Prop
abbrev TGs:=List V->St->Hp->(St->Hp->Prop)->Prop
def PG (X:Cx) (target:Expr) (t:TG):Prop:=
 ∀ (pins:List (Addr×Obj)) (s:Shared) (σ:St) (H:Hp) (v:V) (u:Value) (Q:St->Hp->Prop),Inv X pins σ H s->RelV v u->t v σ H Q->
  wpAny (model X.prog X.w) X.A (assign target X.env u) (λ_ s'=>∃ σ' H',Inv X pins σ' H' s'/\Q σ' H') X.xe s
def PGs (X:Cx) (ts:List Expr) (t:TGs):Prop:=
 ∀ (pins:List (Addr×Obj)) (s:Shared) (σ:St) (H:Hp) (vs:List V) (us:List Value) (Q:St->Hp->Prop),Inv X pins σ H s->Vals vs us->t vs σ H Q->
  wpAny (model X.prog X.w) X.A (assignInOrder ((assignEach ts X.env).map (·.2)) us) (λ_ s'=>∃ σ' H',Inv X pins σ' H' s'/\Q σ' H') X.xe s
section
variable {X:Cx} {pos:Pos}
def gName (i:Nat):TG:=λv σ H Q=>Q (σ.set i (some v)) H
theorem i'i {i:Nat} {x:Str} (hN:X.N.Nodup) (hi:X.N[i]?=some x) (hx:Loc X.env.scope x) (hf:X.fn x=true\/X.env.scope.names.lookup x=some .local:=by first | exact .inl rfl | exact .inr rfl | assumption):PG X (.Name x pos) (gName i):=by
 intro pins s σ H v u Q I r h
 exact wpAny_assign_Name (c'x I hN hi hx r (λs' I'=>⟨_,H,I',h⟩) hf)
def gNil:TGs:=λvs σ H Q=>vs=[]/\Q σ H
def gCons (t:TG) (u:TGs):TGs:=λvs σ H Q=>∃ v r,vs=v :: r/\t v σ H λσ' H'=>u r σ' H' Q
theorem r'w:PGs X [] gNil:=by
 intro pins s σ H vs us Q I r h
 obtain⟨e,h⟩:=h
 subst e
 cases r
 exact assignInOrder_nil ⟨σ,H,I,h⟩
theorem o'e {e:Expr} {es:List Expr} {t:TG} {u:TGs} (h1:PG X e t) (h2:PGs X es u)
  (hs:(assignEach (e :: es) X.env).map (·.2)=assign e X.env :: (assignEach es X.env).map (·.2):=by rfl):PGs X (e :: es) (gCons t u):=by
 intro pins s σ H vs us Q I r h
 obtain⟨v,vr,e1,h⟩:=h
 subst e1
 cases r with
 | cons r rr =>
  rw [hs]
  refine assignInOrder_cons (thn (h1 pins s σ H _ _ _ I r h) λ_ s1 ⟨σ1,H1,I1,q1⟩=>?_)
  exact h2 pins s1 σ1 H1 _ _ Q I1 rr q1
def gTup (K:W.Frag) (n:Nat) (t:TGs):TG:=λv σ H Q=>∃ a xs,v=.ref a/\SqT K H a xs/\xs.length=n/\t xs σ H Q
theorem t'J {es:List Expr} {k:Nat} {t:TGs} {n:Nat} (hc:X.calm=true) (h:PGs X es t)
  (hn:(assignEach es X.env).length=n:=by rfl) (hst:(assignEach es X.env).findIdx? (·.1)=none:=by rfl):PG X (.Tuple es k pos) (gTup X.K n t):=by
 intro pins s σ H v u Q I r hw
 obtain⟨a,xs,e1,hq,hl,hw⟩:=hw
 subst e1
 cases r
 obtain⟨its,rv,ht,hz⟩:=I.tuple hq
 refine assign_Tuple_tuple (I.ok.hd hc) ht (by simp [hn,<- hl,rv.length]) hst λh' hx=>?_
 have I1:Inv X pins σ H { s with heap:=h' }:=I.kept (t':=s.toks) λb o e=>hx b o (Nat.ne_of_lt (Heap.lt_size e)) e
 exact h pins _ σ H xs _ Q I1 (by simpa using rv) hw
def tAsg (te:TE) (g:TG):TS:=λD σ H=>te σ H λx H1=>g x σ H1 D.nx
theorem t'K {tg e:Expr} {te:TE} {g:TG} (he:PE X e te) (hg:PG X tg g) (hs:swapsWithSole [tg] e pos.line X.env=pure false:=by rfl) (hw:swappedStores [tg] e X.env=pure none:=by rfl)
  (h1:(assignEach [tg] X.env).map (·.2)=[assign tg X.env]:=by rfl):PS X (.Assign [tg] e pos) (tAsg te g):=by
 intro pins s σ H D I h
 refine wpAny_Assign_stores (thn (he pins s σ H _ I h) λv s1 ⟨x,H1,I1,r1,q1⟩=>?_) hs hw
 rw [h1]
 exact thn (hg pins s1 σ H1 x v _ I1 r1 q1) λ_ s2 q=>q
theorem g'y {i:Nat} {x:Str} {e:Expr} {te:TE} {pos':Pos} (hN:X.N.Nodup) (hi:X.N[i]?=some x) (hx:Loc X.env.scope x) (he:PE X e te) (hs:swapsWith e (some (.Name x pos')) pos.line X.env=pure false:=by rfl) (hf:X.fn x=true\/X.env.scope.names.lookup x=some .local:=by first | exact .inl rfl | exact .inr rfl | assumption) :
  PS X (.Assign [.Name x pos'] e pos) (tAsg te (gName i)):=by
 intro pins s σ H D I h
 refine wpAny_Assign_Name (thn (he pins s σ H _ I h) λv s1 ⟨y,H1,I1,r1,q1⟩=>?_) hs
 exact c'x I1 hN hi hx r1 (λs2 I2=>⟨_,H1,I2,q1⟩) hf
def tPar (i j:Nat) (ta:TA):TS:=λD σ H=>ta σ H λvs H1=>∃ v w,vs=[v,w]/\D.nx ((σ.set i (some v)).set j (some w)) H1
theorem t'L {i j:Nat} {x y:Str} {a b:Expr} {ta:TA} {px py pt:Pos} {kt k2 pt2} (hc:X.calm=true) (hN:X.N.Nodup) (hi:X.N[i]?=some x) (hj:X.N[j]?=some y) (hij:i≠j)
  (hx:X.env.scope.names.lookup x=some .local) (hy:X.env.scope.names.lookup y=some .local) (ha:PA X [a,b] ta)
  (hw:swappedStores [.Tuple [.Name x px,.Name y py] kt pt] (.Tuple [a,b] k2 pt2) X.env=pure (some [x,y]))
  (hs:swapsWithSole [.Tuple [.Name x px,.Name y py] kt pt] (.Tuple [a,b] k2 pt2) pos.line X.env=pure false:=by rfl) :
  PS X (.Assign [.Tuple [.Name x px,.Name y py] kt pt] (.Tuple [a,b] k2 pt2) pos) (tPar i j ta):=by
 intro pins s σ H D I h
 rw [exec_Assign_arm]
 refine wpAny_bind (wpAny_standAt ?_)
 rw [hs]
 refine wpAny_bind (wpAny_pure ?_)
 rw [if_neg (by decide)]
 refine wpAny_bind (Tuple_ (thn (ha _ pins s σ H _ I h) λus s1 ⟨vs,H1,I1,r1,q1⟩=>?_))
 obtain⟨v,w,e1,q1⟩:=q1
 subst e1
 obtain⟨u1,u2,rfl,rv,rw'⟩:∃ u1 u2,us=[u1,u2]/\RelV v u1/\RelV w u2:=by
  cases r1 with
  | cons p q=>
   cases q with
   | cons p' q'=>
    cases q'
    exact⟨_,_,rfl,p,p'⟩
 refine wpAny_newObj_type ?_ (by show 2<=sizeLine;decide)
 have I2:Inv X pins σ H1 { s1 with heap:=s1.heap.push { cls:=.type "tuple",data:=.seq [u1,u2].toArray } }:=I1.kept (t':=s1.toks) λb o e=>Heap.get?_push_of_some _ e
 rw [hw]
 refine wpAny_bind (wpAny_pure ?_)
 show wpAny (model X.prog X.w) X.A (do rule "assign.swapped-stores";let items <- unpackItems (.ref s1.heap.objs.size) 2 none;assignInOrder [λv=>bindName X.env y v,λv=>bindName X.env x v] items.reverse;pure Flow.next) _ _ _
 refine wpAny_bind (wpAny_rule (wpAny_bind (unpackItems_tuple (items:=#[u1,u2]) (I.ok.hd hc) (IsTup.new s1.heap _) λh' hx'=>?_)))
 have I3:=I2.kept (h':=h') (t':=s1.toks) λb o e=>hx' b o (Nat.ne_of_lt (Heap.lt_size e)) e
 show wpAny _ _ (assignInOrder [λv=>bindName X.env y v,λv=>bindName X.env x v] [u2,u1] >>= λ_=>pure Flow.next) _ _ _
 refine wpAny_bind (assignInOrder_cons (wpAny_bindName (c'x I3 hN hj (.inl hy) rw' (λs2 I4=>?_) (.inr hy))))
 refine assignInOrder_cons (wpAny_bindName (c'x I4 hN hi (.inl hx) rv (λs3 I5=>assignInOrder_nil (wpAny_pure ?_)) (.inr hx)))
 rw [List.set_comm _ _ (Ne.symm hij)] at I5
 exact⟨_,H1,I5,q1⟩
end
section
variable {X:Cx} {pos:Pos}
def tWhile (c:TT) (tb:TS):TS:=λD σ H=>∃ W:Nat->St->Hp->Prop,(∃ m,W m σ H)/\∀ m σ H,W m σ H->
 c σ H λb H1=>if b=true then ∃ N:St->Hp->Prop,(∀ σ' H',N σ' H'->∃ m',m'<m/\W m' σ' H')/\tb { D with nx:=N,ct:=N,bk:=D.nx } σ H1 else D.nx σ H1
theorem o'f {c:Expr} {body:List Stmt} {tc:TT} {tb:TS} (hp:PassesOwn (model X.prog X.w) X.A X.env X.xe) (hc:PT X c tc) (hb:PSs X body tb):PS X (.While c body [] pos) (tWhile tc tb):=by
 intro pins s σ H D I h
 obtain⟨W,⟨m0,w0⟩,turn⟩:=h
 refine wpAny_While (codeAny_whileLoop (λn s'=>∃ σ' H',Inv X pins σ' H' s'/\W n σ' H') ?_ m0 ⟨σ,H,I,w0⟩)
 rintro n s1 ⟨σ1,H1,I1,w1⟩
 refine wpAny_passesOwn hp (thn (hc pins s1 σ1 H1 _ I1 (turn n σ1 H1 w1)) λb s2 ⟨H2,I2,q2⟩=>?_)
 cases b with
 | true =>
  obtain⟨N,hN,q2⟩:=q2
  rw [if_pos rfl]
  refine wpAny_passesOwn hp (thn (hb pins s2 σ1 H2 _ I2 q2) λf s3 q3=>?_)
  cases f with
  | next=>
   obtain⟨σ3,H3,I3,n3⟩:=q3
   obtain⟨m',hm,w3⟩:=hN σ3 H3 n3
   exact⟨m',hm,σ3,H3,I3,w3⟩
  | cont=>
   obtain⟨σ3,H3,I3,n3⟩:=q3
   obtain⟨m',hm,w3⟩:=hN σ3 H3 n3
   exact⟨m',hm,σ3,H3,I3,w3⟩
  | brk=>exact q3
  | ret v=>exact q3
 | false =>
  rw [if_neg Bool.false_ne_true]
  exact wpAny_execs_nil ⟨σ1,H2,I2,q2⟩
end
structure It where
 go:Nat->Hp->Prop
 yld:Nat->Hp->V->Hp->Prop
 stop:Nat->Hp->Prop
def FpOk (X:Cx) (pins:List (Addr×Obj)) (H:Hp) (b:Addr):Prop:=
 H b=none/\b≠X.env.locals/\b ∉ X.fs/\(b∈X.ex\/X.s₀.heap.objs.size<=b)/\(∀ x c,X.env.cells.lookup x=some c->c≠b)/\∀ p∈X.pn++pins,p.1≠b
theorem Inv.fpOk {X:Cx} {pins:List (Addr×Obj)} {σ:St} {H H':Hp} {s:Shared} {b:Addr} (I:Inv X pins σ H s) (hb:s.heap.objs.size<=b) (hn:H' b=none):FpOk X pins H' b:=by
 refine⟨hn,Nat.ne_of_gt (Nat.lt_of_lt_of_le I.lt hb),I.nofs hb,.inr (Nat.le_trans I.sz hb),λx c e z=>?_,λp hp z=>?_⟩
 ·obtain⟨v,q⟩:=I.cell x c e
  exact absurd (Nat.lt_of_lt_of_le q.lt (by rw [z];exact hb)) (Nat.lt_irrefl _)
 ·exact absurd (Nat.lt_of_lt_of_le (Heap.lt_size (I.pin p hp).1) (by rw [z];exact hb)) (Nat.lt_irrefl _)
structure Turn (P:Program) (w:World) (K:W.Frag) (tg:Expr) (J:It) (fp:List Addr) (it:Addr) (tn:Nat->Heap->Prop):Prop where
 mem:it∈fp
 obj:∀ i h,tn i h->∀ b∈fp,∃ o,h.get? b=some o/\∀ v,o.data≠.cell v
 keep:∀ i h h',tn i h->(∀ b∈fp,∀ o,h.get? b=some o->h'.get? b=some o)->tn i h'
 item:∀ (X:Cx),X.prog=P->X.w=w->X.K=K->X.calm=true->∀ (i:Nat) (pins:List (Addr×Obj)) (s:Shared) (σ:St) (H:Hp) (E:Value->Shared->Prop),Inv X pins σ H s->(∀ b∈fp,FpOk X pins H b)->tn i s.heap->J.go i H->
  wpAny (model P w) X.A (pyNext (.ref it)) (λr s1=>∃ u,r=some u/\
   wpAny (model P w) X.A (letOwnedTupleGo tg (.ref it) u) (λ_ s2=>∃ x H',Inv X pins σ H' s2/\RelV x u/\J.yld i H x H'/\tn (i+1) s2.heap/\∀ b∈fp,H' b=none) E s1) E s
 done:∀ (X:Cx),X.prog=P->X.w=w->X.K=K->X.calm=true->∀ (i:Nat) (pins:List (Addr×Obj)) (s:Shared) (σ:St) (H:Hp) (E:Value->Shared->Prop),Inv X pins σ H s->(∀ b∈fp,FpOk X pins H b)->tn i s.heap->J.stop i H->
  wpAny (model P w) X.A (pyNext (.ref it)) (λr s1=>r=none/\Inv X pins σ H s1) E s
 self:∀ (A:Around) (i:Nat) (s:Shared) (Q:Value->Shared->Prop) (E:Value->Shared->Prop),tn i s.heap->Q (.ref it) s->wpAny (model P w) A (pyIter (.ref it)) Q E s
abbrev TI:=St->Hp->(It->Hp->Prop)->Prop
def PIE (X:Cx) (pins:List (Addr×Obj)) (σ:St) (tg:Expr) (R:It->Hp->Prop) (itv:Value) (s2:Shared):Prop:=
 ∃ (it:Addr) (fp:List Addr) (tn:Nat->Heap->Prop) (J:It) (H':Hp),itv=.ref it/\Inv X pins σ H' s2/\Turn X.prog X.w X.K tg J fp it tn/\tn 0 s2.heap/\(∀ b∈fp,FpOk X pins H' b)/\R J H'
def PI (X:Cx) (tg iter:Expr) (wi:TI):Prop:=
 ∀ (pins:List (Addr×Obj)) (s:Shared) (σ:St) (H:Hp) (R:It->Hp->Prop),Inv X pins σ H s->wi σ H R->
  wpAny (model X.prog X.w) X.A (eval iter X.env) (λv s1=>wpAny (model X.prog X.w) X.A (pyIter v) (PIE X pins σ tg R) X.xe s1) X.xe s
theorem k'h {M:Model} {A:Around} {E:Value->Shared->Prop} {s:Shared} {tg:Expr} {it:Addr} {u:Value} {o:Obj} {n:String} {vs:Array Value} {Q:Unit->Shared->Prop} (ho:s.heap.get? it=some o) (hc:o.cls=.type n) (hd:o.data=.fields vs)
  (hn:["enumerate","zip","dict_itemiterator","dict_reverseitemiterator","odict_iterator","itertools.zip_longest","itertools.pairwise"].contains n=false) (hQ:Q () s):wpAny M A (letOwnedTupleGo tg (.ref it) u) Q E s:=by
 unfold letOwnedTupleGo
 cases tg<;>first
  | exact wpAny_pure hQ
  | (cases u<;>first
    | exact wpAny_pure hQ
    | (refine wpAny_bind (wpAny_load ho ?_)
       rw [hc,hd]
       show wpAny M A (if (["enumerate","zip","dict_itemiterator","dict_reverseitemiterator","odict_iterator","itertools.zip_longest","itertools.pairwise"].contains n && vs[0]? == some (rawInt _))=true then _ else _) Q E s
       rw [if_neg (by intro h;rw [hn,Bool.false_and] at h;cases h)]
       exact wpAny_pure hQ))
def Itl (K:W.Frag) (a:Addr):It:=
 ⟨λi H=>∃ xs x,SqL K H a xs/\xs[i]?=some x,λi H x H'=>H'=H/\∀ xs,SqL K H a xs->xs[i]?=some x,λi H=>∃ xs,SqL K H a xs/\xs.length<=i⟩
def Itt (K:W.Frag) (a:Addr):It:=
 ⟨λi H=>∃ xs x,SqT K H a xs/\xs[i]?=some x,λi H x H'=>H'=H/\∀ xs,SqT K H a xs->xs[i]?=some x,λi H=>∃ xs,SqT K H a xs/\xs.length<=i⟩
def Itr (lo:Int) (n:Nat):It:=⟨λi _=>i<n,λi H x H'=>H'=H/\x=.int (lo+i),λi _=>n<=i⟩
theorem l'f {P:Program} {w:World} {K:W.Frag} {tg:Expr} (a it:Addr):Turn P w K tg (Itl K a) [it] it (λi h=>h.IsListIter it a i) where
 mem:=by simp
 obj:=λi h st b hb=>by
  have e:b=it:=by simpa using hb
  subst e
  obtain⟨o,e,c,d⟩:=st
  exact⟨o,e,λv z=>by rw [d] at z;cases z⟩
 keep:=λi h h' st k=>st.at λo e=>k it (by simp) o e
 item:=by
  intro X hP hw hK hc i pins s σ H E I hf st hg
  subst hP hw hK
  obtain⟨xs,x,hq,hx⟩:=hg
  obtain⟨its,rv,p,hz⟩:=I.list hq
  obtain⟨u,hu,ru⟩:=rv.get hx
  obtain⟨f0,f1,f2,f3,f4,f5⟩:=hf it (by simp)
  refine wpAny_pyNext_list_item st p.isList (x:=u) (by simpa using hu) λh' st' sb=>?_
  have I1:Inv X pins σ H { s with heap:=h' }:=I.turned (t':=s.toks) (λb o hb e=>(sb.2 b hb).trans e) f0 f1 f3 f4 f5
  obtain⟨o,e,c,d⟩:=id st'
  exact⟨u,rfl,k'h (s:={ s with heap:=h' }) e c d (by decide) ⟨x,H,I1,ru,⟨rfl,λys hy=>by rw [I.list_inj hy hq];exact hx⟩,st',λb hb=>(hf b hb).1⟩⟩
 done:=by
  intro X hP hw hK hc i pins s σ H E I hf st hg
  subst hP hw hK
  obtain⟨xs,hq,hx⟩:=hg
  obtain⟨its,rv,p,hz⟩:=I.list hq
  obtain⟨f0,f1,f2,f3,f4,f5⟩:=hf it (by simp)
  have hl:=rv.length
  exact wpAny_pyNext_list_end (I.ok.hd hc) st p.isList (by simp;omega) λh' eb=>⟨rfl,I.turned (t':=s.toks) (λb o hb e=>eb b o hb e) f0 f1 f3 f4 f5⟩
 self:=λ_ _ _ _ _ st h=>wpAny_pyIter_listiter st h
theorem k'i {P:Program} {w:World} {K:W.Frag} {tg:Expr} (a it:Addr):Turn P w K tg (Itt K a) [it] it (λi h=>h.IsTupleIter it a i) where
 mem:=by simp
 obj:=λi h st b hb=>by
  have e:b=it:=by simpa using hb
  subst e
  obtain⟨o,e,c,d⟩:=st
  exact⟨o,e,λv z=>by rw [d] at z;cases z⟩
 keep:=λi h h' st k=>st.at λo e=>k it (by simp) o e
 item:=by
  intro X hP hw hK hc i pins s σ H E I hf st hg
  subst hP hw hK
  obtain⟨xs,x,hq,hx⟩:=hg
  obtain⟨its,rv,p,hz⟩:=I.tuple hq
  obtain⟨u,hu,ru⟩:=rv.get hx
  obtain⟨f0,f1,f2,f3,f4,f5⟩:=hf it (by simp)
  refine wpAny_pyNext_tuple_item st (show s.heap.IsTuple a its.toArray from p) (x:=u) (by simpa using hu) λh' st' sb=>?_
  have I1:Inv X pins σ H { s with heap:=h' }:=I.turned (t':=s.toks) (λb o hb e=>(sb.2 b hb).trans e) f0 f1 f3 f4 f5
  obtain⟨o,e,c,d⟩:=id st'
  exact⟨u,rfl,k'h (s:={ s with heap:=h' }) e c d (by decide) ⟨x,H,I1,ru,⟨rfl,λys hy=>by rw [I.tuple_inj hy hq];exact hx⟩,st',λb hb=>(hf b hb).1⟩⟩
 done:=by
  intro X hP hw hK hc i pins s σ H E I hf st hg
  subst hP hw hK
  obtain⟨xs,hq,hx⟩:=hg
  obtain⟨its,rv,p,hz⟩:=I.tuple hq
  obtain⟨f0,f1,f2,f3,f4,f5⟩:=hf it (by simp)
  have hl:=rv.length
  exact wpAny_pyNext_tuple_end (I.ok.hd hc) st (show s.heap.IsTuple a its.toArray from p) (by simp;omega) λh' eb=>⟨rfl,I.turned (t':=s.toks) (λb o hb e=>eb b o hb e) f0 f1 f3 f4 f5⟩
 self:=λ_ _ _ _ _ st h=>wpAny_pyIter_tupleiter st h
theorem k'j {P:Program} {w:World} {K:PySem.W.Frag} {tg:Expr} (it:Addr) (lo:Int) (n:Nat):Turn P w K tg (Itr lo n) [it] it (λi h=>IsRangeIter h it (lo+(i:Nat)*1) ((n:Int) - (i:Nat)) 1) where
 mem:=by simp
 obj:=λi h st b hb=>by
  have e:b=it:=by simpa using hb
  subst e
  exact⟨_,st,λv z=>by
   have z':Data.fields _=Data.cell v:=z
   cases z'⟩
 keep:=λi h h' st k=>k it (by simp) _ st
 item:=by
  intro X hP hw hK hc i pins s σ H E I hf st hg
  subst hP hw hK
  obtain⟨f0,f1,f2,f3,f4,f5⟩:=hf it (by simp)
  have W:=Walks.range (prog:=X.prog) (w:=X.w) (I.ok.hd hc) it lo 1 n
  refine W.item i s _ _ hg st λv h' tk hv st' kk=>?_
  obtain⟨t,rfl⟩:=hv
  have I1:Inv X pins σ H { s with heap:=h',toks:=tk }:=I.turned (λb o hb e=>kk b o (by simpa using hb) e) f0 f1 f3 f4 f5
  refine⟨_,rfl,k'h (s:={ s with heap:=h',toks:=tk }) (n:="range_iterator") st' rfl rfl (by decide) ⟨.int (lo+i),H,I1,⟨t,?_⟩,⟨rfl,rfl⟩,st',λb hb=>(hf b hb).1⟩⟩
  rw [Int.mul_one]
 done:=by
  intro X hP hw hK hc i pins s σ H E I hf st hg
  subst hP hw hK
  obtain⟨f0,f1,f2,f3,f4,f5⟩:=hf it (by simp)
  exact wpAny_pyNext_range_end (I.ok.hd hc) st (by have:n<=i:=hg;omega) λh' eb=>⟨rfl,I.turned (t':=s.toks) (λb o hb e=>eb b o hb e) f0 f1 f3 f4 f5⟩
 self:=λ_ _ _ _ _ st h=>wpAny_pyIter_rangeiter st h
end L2
namespace L2
open PySem PySem.Spec PyProof.Rows
section
variable {X:Cx} {tg:Expr}
def iList (K:W.Frag) (tl:TE):TI:=λσ H R=>tl σ H λx H1=>∃ a,x=.ref a/\(∃ xs,SqL K H1 a xs)/\R (Itl K a) H1
def iTup (K:W.Frag) (tl:TE):TI:=λσ H R=>tl σ H λx H1=>∃ a,x=.ref a/\(∃ xs,SqT K H1 a xs)/\R (Itt K a) H1
theorem r'x {l:Expr} {tl:TE} (hl:PE X l tl):PI X tg l (iList X.K tl):=by
 intro pins s σ H R I h
 refine thn (hl pins s σ H _ I h) λv s1 ⟨x,H1,I1,r1,q1⟩=>?_
 obtain⟨a,e,⟨xs,hq⟩,q⟩:=q1
 subst e
 cases r1
 obtain⟨its,rv,p,hz⟩:=I1.list hq
 refine wpAny_pyIter_list p.isList ?_
 refine⟨s1.heap.objs.size,[s1.heap.objs.size],_,_,H1,rfl,I1.kept (t':=s1.toks) λb o e=>Heap.get?_push_of_some _ e,l'f a _,⟨_,Heap.get?_push_size _ rfl,rfl,rfl⟩,λb hb=>?_,q⟩
 have e:b=s1.heap.objs.size:=by simpa using hb
 subst e
 exact I1.fpOk (Nat.le_refl _) (I1.hok.fresh (Nat.le_refl _))
theorem t'M {l:Expr} {tl:TE} (hl:PE X l tl):PI X tg l (iTup X.K tl):=by
 intro pins s σ H R I h
 refine thn (hl pins s σ H _ I h) λv s1 ⟨x,H1,I1,r1,q1⟩=>?_
 obtain⟨a,e,⟨xs,hq⟩,q⟩:=q1
 subst e
 cases r1
 obtain⟨its,rv,p,hz⟩:=I1.tuple hq
 refine wpAny_pyIter_tuple (show s1.heap.IsTuple a its.toArray from p) ?_
 refine⟨s1.heap.objs.size,[s1.heap.objs.size],_,_,H1,rfl,I1.kept (t':=s1.toks) λb o e=>Heap.get?_push_of_some _ e,k'i a _,⟨_,Heap.get?_push_size _ rfl,rfl,rfl⟩,λb hb=>?_,q⟩
 have e:b=s1.heap.objs.size:=by simpa using hb
 subst e
 exact I1.fpOk (Nat.le_refl _) (I1.hok.fresh (Nat.le_refl _))
theorem o'g {pins:List (Addr×Obj)} {σ:St} {H:Hp} {s:Shared} {R:It->Hp->Prop} {E:Value->Shared->Prop} {lo hi:Int} {t u v:Tok} {tk:Nat} (I:Inv X pins σ H s) (h1:-(2 ^ 62)<=lo) (h2:lo<2 ^ 62) (h3:-(2 ^ 62)<=hi) (h4:hi<2 ^ 62)
  (q:R (Itr lo (hi - lo).toNat) H):wpAny (model X.prog X.w) X.A (pyIter (.ref s.heap.objs.size)) (PIE X pins σ tg R) E { s with heap:=s.heap.push { cls:=.type "range",data:=.fields #[.int lo t,.int hi u,.int 1 v] },toks:=tk }:=by
 refine wpAny_pyIter_range (IsRange.new ..) (small_one h1 h2 h3 h4) ?_
 have I1:Inv X pins σ H { s with heap:=s.heap.push { cls:=.type "range",data:=.fields #[.int lo t,.int hi u,.int 1 v] },toks:=tk }:=I.kept λb o e=>Heap.get?_push_of_some _ e
 refine⟨(s.heap.push { cls:=.type "range",data:=.fields #[.int lo t,.int hi u,.int 1 v] }).objs.size,[(s.heap.push { cls:=.type "range",data:=.fields #[.int lo t,.int hi u,.int 1 v] }).objs.size],_,_,H,rfl,
  I1.kept (t':=tk) λb o e=>Heap.get?_push_of_some _ e,k'j _ lo (hi - lo).toNat,?_,λb hb=>?_,q⟩
 ·have e1:lo+((0:Nat):Int)*1=lo:=by simp
  have e2:(((hi - lo).toNat:Nat):Int) - ((0:Nat):Int)=Builtin.Range.rangeSize lo hi 1:=by rw [rangeSize_one];split<;>omega
  show IsRangeIter _ _ (lo+((0:Nat):Int)*1) ((((hi - lo).toNat:Nat):Int) - ((0:Nat):Int)) 1
  rw [e1,e2]
  exact Heap.get?_push_size _ rfl
 ·have e:b=(s.heap.push { cls:=.type "range",data:=.fields #[.int lo t,.int hi u,.int 1 v] }).objs.size:=by simpa using hb
  subst e
  exact I1.fpOk (Nat.le_refl _) (I1.hok.fresh (Nat.le_refl _))
def iRng1 (ta:TA):TI:=λσ H R=>ta σ H λvs H1=>∃ j:Int,vs=[.int j]/\-(2 ^ 62)<=j/\j<2 ^ 62/\R (Itr 0 j.toNat) H1
theorem l'g {a:Expr} {ta:TA} {p pos:Pos} (hg:Gl X "range") (hm:X.mg "range"=none) (ha:PA X [a] ta) (hs:starEach [a] X.env=[(false,eval a X.env)]:=by rfl):PI X tg (.Call (.Name "range" p) [a] [] pos) (iRng1 ta):=by
 intro pins s σ H R I h
 refine Call_ (c'S I hg hm boot_range (PyProof.Rows.callWith_type1 (thn (ha pos pins s σ H _ I h) λus s1 ⟨vs,H1,I1,r1,q1⟩=>?_) hs rfl))
 obtain⟨j,e,q1,q2,q⟩:=q1
 subst e
 cases r1 with
 | cons r rr =>
  cases rr
  obtain⟨t,rfl⟩:=r
  exact call_range_1 (o'g I1 (by omega) (by omega) q1 q2 (by simpa using q))
def tFor (wi:TI) (g:TG) (tb:TS):TS:=λD σ H=>wi σ H λJ H1=>∃ W:Nat->Nat->St->Hp->Prop,(∃ m,W 0 m σ H1)/\∀ i m σ H,W i m σ H->
 (J.stop i H/\D.nx σ H)\/(J.go i H/\∃ N:St->Hp->Prop,(∀ σ' H',N σ' H'->∃ m',m'<m/\W (i+1) m' σ' H')/\∀ x H',J.yld i H x H'->g x σ H' λσ2 H2=>tb { D with nx:=N,ct:=N,bk:=D.nx } σ2 H2)
def pinsAt (fp:List Addr) (h:Heap):List (Addr×Obj):=fp.filterMap λb=>(h.get? b).map λo=>(b,o)
theorem b'H {fp:List Addr} {h:Heap} {b:Addr} {o:Obj} (hb:b∈fp) (e:h.get? b=some o):(b,o)∈pinsAt fp h:=List.mem_filterMap.mpr ⟨b,hb,by rw [e];rfl⟩
theorem l'h {fp:List Addr} {h:Heap} {p:Addr×Obj} (hp:p∈pinsAt fp h):p.1∈fp/\h.get? p.1=some p.2:=by
 obtain⟨b,hb,e⟩:=List.mem_filterMap.mp hp
 cases q:h.get? b with
 | none => rw [q] at e; cases e
 | some o =>
  rw [q] at e
  have e':(b,o)=p:=Option.some.inj e
  subst e'
  exact⟨hb,q⟩
theorem Inv.pinned {pins:List (Addr×Obj)} {σ:St} {H:Hp} {s:Shared} {fp:List Addr} (I:Inv X pins σ H s) (hf:∀ b∈fp,FpOk X pins H b) (ho:∀ b∈fp,∃ o,s.heap.get? b=some o/\∀ v,o.data≠.cell v):Inv X (pins++pinsAt fp s.heap) σ H s:=
 I.pins_of λp hp=>(List.mem_append.mp hp).elim (λz=>I.pin p (List.mem_append_right _ z)) λz=>by
  obtain⟨hb,e⟩:=l'h z
  obtain⟨f0,f1,f2,_⟩:=hf p.1 hb
  obtain⟨o,e',d⟩:=ho p.1 hb
  rw [e] at e';cases e'
  exact⟨e,f0,f1,f2,d⟩
theorem Inv.unpinned {pins pl:List (Addr×Obj)} {σ:St} {H:Hp} {s:Shared} (I:Inv X (pins++pl) σ H s):Inv X pins σ H s:=I.pins_of λp hp=>I.pin p (List.mem_append_right _ (List.mem_append_left _ hp))
theorem l'i {iter:Expr} {body:List Stmt} {wi:TI} {g:TG} {tb:TS} {pos:Pos} (hp:PassesOwn (model X.prog X.w) X.A X.env X.xe) (hc:X.calm=true) (hi:PI X tg iter wi) (hg:PG X tg g) (hb:PSs X body tb)
  (hs:∀ x,foldedSetIterable iter X.env x=pure x:=by intro _;rfl):PS X (.For tg iter body [] pos) (tFor wi g tb):=by
 intro pins s σ H D I h
 refine wpAny_For (thn (hi pins s σ H _ I h) λv s1 h1=>thn h1 λitv s2 h2=>?_) hs
 obtain⟨it,fp,tn,J,H2,e,I2,T,st2,f2,W,⟨m0,w0⟩,turn⟩:=h2
 subst e
 have stat:∀ {H':Hp},(∀ b∈fp,H' b=none)->∀ b∈fp,FpOk X pins H' b:=λhn b hb=>⟨hn b hb,(f2 b hb).2⟩
 refine codeAny_forLoop_any (λn s'=>∃ i σ' H',Inv X pins σ' H' s'/\tn i s'.heap/\(∀ b∈fp,H' b=none)/\W i n σ' H') ?_ m0 ⟨0,σ,H2,I2,st2,λb hb=>(f2 b hb).1,w0⟩
 rintro n s3 ⟨i,σ3,H3,I3,st3,fr3,w3⟩
 rcases turn i n σ3 H3 w3 with ⟨stop,qn⟩ | ⟨go,N,hN,step⟩
 ·refine wpAny_passesOwn hp (thn (T.done X rfl rfl rfl hc i pins s3 σ3 H3 X.xe I3 (stat fr3) st3 stop) λr s4 ⟨hr,I4⟩=>?_)
  subst hr
  exact wpAny_execs_nil ⟨σ3,H3,I4,qn⟩
 ·refine wpAny_passesOwn hp (thn (T.item X rfl rfl rfl hc i pins s3 σ3 H3 X.xe I3 (stat fr3) st3 go) λr s4 ⟨u,hr,h4⟩=>?_)
  subst hr
  refine wpAny_passesOwn hp (thn h4 λ_ s5 ⟨x,H5,I5,r5,y5,st5,fr5⟩=>?_)
  have I5':=I5.pinned (stat fr5) (T.obj _ _ st5)
  refine wpAny_passesOwn hp (thn (hg _ s5 σ3 H5 x u _ I5' r5 (step x H5 y5)) λ_ s6 ⟨σ6,H6,I6,q6⟩=>?_)
  refine wpAny_passesOwn hp (thn (hb _ s6 σ6 H6 _ I6 q6) λf s7 q7=>?_)
  have again:∀ {σ7:St} {H7:Hp},Inv X (pins++pinsAt fp s5.heap) σ7 H7 s7->N σ7 H7->∃ m,m<n/\∃ i σ' H',Inv X pins σ' H' s7/\tn i s7.heap/\(∀ b∈fp,H' b=none)/\W i m σ' H':=λ{σ7 H7} I7 n7=>by
   obtain⟨m',hm,w7⟩:=hN σ7 H7 n7
   refine⟨m',hm,i+1,σ7,H7,I7.unpinned,T.keep _ _ _ st5 λb hb o e=>(I7.pin (b,o) (List.mem_append_right _ (List.mem_append_right _ (b'H hb e)))).1,λb hb=>?_,w7⟩
   obtain⟨o,e,d⟩:=T.obj _ _ st5 b hb
   exact (I7.pin (b,o) (List.mem_append_right _ (List.mem_append_right _ (b'H hb e)))).2.1
  cases f with
  | next=>obtain⟨σ7,H7,I7,n7⟩:=q7;exact again I7 n7
  | cont=>obtain⟨σ7,H7,I7,n7⟩:=q7;exact again I7 n7
  | brk=>obtain⟨σ7,H7,I7,q7⟩:=q7;exact⟨σ7,H7,I7.unpinned,q7⟩
  | ret v=>obtain⟨x7,σ7,H7,I7,r7,q7⟩:=q7;exact⟨x7,σ7,H7,I7.unpinned,r7,q7⟩
end
end L2
namespace L2
open PySem PySem.Spec PyProof.Rows
abbrev R2:=V->V->Hp->VK->Prop
def OpR (X:Cx) (f:Value->Value->Sem Value) (r:R2):Prop:=
 ∀ (pins:List (Addr×Obj)) (s:Shared) (σ:St) (H:Hp) (x y:V) (v u:Value) (Q:VK),Inv X pins σ H s->RelV x v->RelV y u->r x y H Q->
  wpAny (model X.prog X.w) X.A (f v u) (EP X pins σ Q) X.xe s
def UnR (X:Cx) (f:Value->Sem Value) (r:V->Hp->VK->Prop):Prop:=
 ∀ (pins:List (Addr×Obj)) (s:Shared) (σ:St) (H:Hp) (x:V) (v:Value) (Q:VK),Inv X pins σ H s->RelV x v->r x H Q->
  wpAny (model X.prog X.w) X.A (f v) (EP X pins σ Q) X.xe s
def CallR (X:Cx) (f:Value) (r:List V->Hp->VK->Prop):Prop:=
 ∀ (pins:List (Addr×Obj)) (s:Shared) (σ:St) (H:Hp) (xs:List V) (us:List Value) (Q:VK),Inv X pins σ H s->Vals xs us->r xs H Q->
  wpAny (model X.prog X.w) X.A (call f us) (EP X pins σ Q) X.xe s
def tOp (r:R2) (ta tb:TE):TE:=λσ H Q=>ta σ H λx H1=>tb σ H1 λy H2=>r x y H2 Q
def tUn (r:V->Hp->VK->Prop) (ta:TE):TE:=λσ H Q=>ta σ H λx H1=>r x H1 Q
def rI (C:Int->Int->Prop) (g:Int->Int->V):R2:=λx y H Q=>∃ i j,x=.int i/\y=.int j/\C i j/\Q (g i j) H
def rI0 (g:Int->Int->V):R2:=λx y H Q=>∃ i j,x=.int i/\y=.int j/\Q (g i j) H
def rU (g:Int->V):V->Hp->VK->Prop:=λx H Q=>∃ i,x=.int i/\Q (g i) H
section
variable {X:Cx} {a b c:Expr} {ta tb tc:TE} {pos:Pos}
theorem o'h (ha:PE X a ta) (hb:PE X b tb) {pins:List (Addr×Obj)} {s:Shared} {σ:St} {H:Hp} {R:V->V->Hp->Prop} (I:Inv X pins σ H s)
  (h:ta σ H λx H1=>tb σ H1 λy H2=>R x y H2) {Q:Value->Shared->Prop} {f:Value->Value->Sem Value}
  (hf:∀ v u s2 x y H2,Inv X pins σ H2 s2->RelV x v->RelV y u->R x y H2->wpAny (model X.prog X.w) X.A (f v u) Q X.xe s2) :
  wpAny (model X.prog X.w) X.A (eval a X.env) (λv s₁=>wpAny (model X.prog X.w) X.A (eval b X.env) (λu s₂=>wpAny (model X.prog X.w) X.A (f v u) Q X.xe s₂) X.xe s₁) X.xe s:=by
 refine thn (ha pins s σ H _ I h) λv s1 ⟨x,H1,I1,r1,q1⟩=>?_
 refine thn (hb pins s1 σ H1 _ I1 q1) λu s2 ⟨y,H2,I2,r2,q2⟩=>?_
 exact hf v u s2 x y H2 I2 r1 r2 q2
theorem w'd {op:Operator} {r:R2} (ho:OpR X (binaryOp op) r) (ha:PE X a ta) (hb:PE X b tb):PE X (.BinOp a op b pos) (tOp r ta tb):=by
 intro pins s σ H Q I h
 exact wpAny_BinOp (o'h ha hb I h λv u s2 x y H2 I2 rx ry q=>ho pins s2 σ H2 x y v u Q I2 rx ry q)
theorem w'e {op:UnaryOp} {r:V->Hp->VK->Prop} (ho:UnR X (unaryOp op) r) (ha:PE X a ta):PE X (.UnaryOp op a pos) (tUn r ta):=by
 intro pins s σ H Q I h
 exact UnaryOp_ (thn (ha pins s σ H _ I h) λv s1 ⟨x,H1,I1,r1,q1⟩=>ho pins s1 σ H1 x v Q I1 r1 q1)
theorem opI {f:Value->Value->Sem Value} {C:Int->Int->Prop} {g:Int->Int->Int}
  (rule:∀ (i j:Int) (t u:Tok) (s:Shared) (Q:Value->Shared->Prop) (E:Value->Shared->Prop),C i j->Q (.int (g i j) s.toks) { s with toks:=s.toks+1 }->wpAny (model X.prog X.w) X.A (f (.int i t) (.int j u)) Q E s) :
  OpR X f (rI C λi j=>.int (g i j)):=by
 intro pins s σ H x y v u Q I rx ry h
 obtain⟨i,j,rfl,rfl,hc,q⟩:=h
 obtain⟨t,rfl⟩:=rx
 obtain⟨t',rfl⟩:=ry
 exact rule i j t t' s _ _ hc ⟨.int (g i j),H,I.tok _,⟨_,rfl⟩,q⟩
theorem t'N {f:Value->Value->Sem Value} {g:Int->Int->Int}
  (rule:∀ (i j:Int) (t u:Tok) (s:Shared) (Q:Value->Shared->Prop) (E:Value->Shared->Prop),Q (.int (g i j) s.toks) { s with toks:=s.toks+1 }->wpAny (model X.prog X.w) X.A (f (.int i t) (.int j u)) Q E s) :
  OpR X f (rI0 λi j=>.int (g i j)):=by
 intro pins s σ H x y v u Q I rx ry h
 obtain⟨i,j,rfl,rfl,q⟩:=h
 obtain⟨t,rfl⟩:=rx
 obtain⟨t',rfl⟩:=ry
 exact rule i j t t' s _ _ ⟨.int (g i j),H,I.tok _,⟨_,rfl⟩,q⟩
theorem t'O {f:Value->Value->Sem Value} {g:Int->Int->Bool}
  (rule:∀ (i j:Int) (t u:Tok) (s:Shared) (Q:Value->Shared->Prop) (E:Value->Shared->Prop),Q (.bool (g i j)) s->wpAny (model X.prog X.w) X.A (f (.int i t) (.int j u)) Q E s) :
  OpR X f (rI0 λi j=>.bl (g i j)):=by
 intro pins s σ H x y v u Q I rx ry h
 obtain⟨i,j,rfl,rfl,q⟩:=h
 obtain⟨t,rfl⟩:=rx
 obtain⟨t',rfl⟩:=ry
 exact rule i j t t' s _ _ ⟨.bl (g i j),H,I,rfl,q⟩
def CPow (i j:Int):Prop:=0<=j/\j<=1000000/\i.natAbs<2 ^ 64
def CMul (i j:Int):Prop:=(-(2 ^ 64)<i/\i<2 ^ 64)\/(-(2 ^ 64)<j/\j<2 ^ 64)
theorem CMul.ok {i j:Int} (h:CMul i j):IntMulOk i j:=by
 rcases h with ⟨h1,h2⟩ | ⟨h1,h2⟩
 ·exact .of_left (intBits_le_64 h1 h2)
 ·exact .of_right (intBits_le_64 h1 h2)
theorem op_add:OpR X (binaryOp .Add) (rI0 λi j=>.int (i+j)):=t'N λ_ _ _ _ _ _ _ q=>add_int q
theorem t'P:OpR X (binaryOp .Sub) (rI0 λi j=>.int (i - j)):=t'N λ_ _ _ _ _ _ _ q=>sub_int q
theorem t'Q:OpR X (binaryOp .Mod) (rI (λ_ j=>0<j) λi j=>.int (i % j)):=opI λi j _ _ _ _ _ hc q=>by
 have h1:(0:Int)<j:=hc
 exact mod_int' (by omega) (by rw [Int.fmod_eq_emod_of_nonneg i (by omega)];exact q)
theorem t'R:OpR X (binaryOp .Pow) (rI CPow λi j=>.int (i ^ j.toNat)):=opI λ_ _ _ _ _ _ _ hc q=>pow_int_small hc.1 hc.2.1 hc.2.2 q
theorem unI {f:Value->Sem Value} {g:Int->Int}
  (rule:∀ (i:Int) (t:Tok) (s:Shared) (Q:Value->Shared->Prop) (E:Value->Shared->Prop),Q (.int (g i) s.toks) { s with toks:=s.toks+1 }->wpAny (model X.prog X.w) X.A (f (.int i t)) Q E s) :
  UnR X f (rU λi=>.int (g i)):=by
 intro pins s σ H x v Q I rx h
 obtain⟨i,rfl,q⟩:=h
 obtain⟨t,rfl⟩:=rx
 exact rule i t s _ _ ⟨.int (g i),H,I.tok _,⟨_,rfl⟩,q⟩
theorem t'S:UnR X (unaryOp .USub) (rU λi=>.int (-i)):=unI λ_ _ _ _ _ q=>neg_int q
end
def scal:V->V->Bool
 | .non, .non => true | .non, .int _ => true | .int _, .non => true | .non, .bl _ => true | .bl _, .non => true | .non, .str _ => true | .str _, .non => true
 | .int _, .int _ => true | .bl _, .bl _ => true | .str _, .str _ => true | .byt _, .byt _ => true
 | .int _, .str _ => true | .str _, .int _ => true | .bl _, .str _ => true | .str _, .bl _ => true
 | _, _ => false
def rEq:R2:=λx y H Q=>scal x y=true/\Q (.bl (decide (x=y))) H
def rNe:R2:=λx y H Q=>scal x y=true/\Q (.bl (!decide (x=y))) H
theorem i'j {i j:Int}:decide (V.int i=V.int j)=(i == j):=by
 rw [Bool.eq_iff_iff]
 simp
theorem l'j {i j:Bool}:decide (V.bl i=V.bl j)=(i == j):=by
 rw [Bool.eq_iff_iff]
 simp
theorem i'k {i j:Str}:decide (V.str i=V.str j)=(i == j):=by
 rw [Bool.eq_iff_iff]
 simp
theorem i'l {i j:Array UInt8}:decide (V.byt i=V.byt j)=(i.toList == j.toList):=by
 rw [Bool.eq_iff_iff]
 cases i
 cases j
 simp
section
variable {X:Cx} {a b c:Expr} {ta tb tc:TE} {pos:Pos}
theorem a'o {pins:List (Addr×Obj)} {σ:St} {H:Hp} {s:Shared} {Q:VK} {k k':Bool} (I:Inv X pins σ H s) (q:Q (.bl k) H) (e:k=k'):EP X pins σ Q (.bool k') s:=by
 subst e
 exact⟨.bl k,H,I,rfl,q⟩
theorem op_eq:OpR X (compareOp .Eq) rEq:=by
 intro pins s σ H x y v u Q I rx ry h
 obtain⟨hs,q⟩:=h
 cases x with
 | non =>
  cases rx
  cases y with
  | non=>cases ry;exact PySem.EqNone.eq_none_none (a'o I q (by simp))
  | bl j=>cases ry;exact PySem.EqNone.eq_none_bool (a'o I q (by simp))
  | int j=>obtain⟨t',rfl⟩:=ry;exact PySem.EqNone.eq_none_int (a'o I q (by simp))
  | str j=>obtain⟨t',rfl⟩:=ry;exact PySem.EqNone.eq_none_str (a'o I q (by simp))
  | _=>exact absurd (show false=true from hs) Bool.false_ne_true
 | bl i =>
  cases rx
  cases y with
  | non=>cases ry;exact PySem.EqNone.eq_bool_none (a'o I q (by simp))
  | bl j=>cases ry;exact eq_bool (a'o I q l'j)
  | str j=>obtain⟨t',rfl⟩:=ry;exact PySem.EqMixed.eq_bool_str (a'o I q (by simp))
  | _=>exact absurd (show false=true from hs) Bool.false_ne_true
 | int i =>
  obtain⟨t,rfl⟩:=rx
  cases y with
  | non=>cases ry;exact PySem.EqNone.eq_int_none (a'o I q (by simp))
  | int j=>obtain⟨t',rfl⟩:=ry;exact eq_int (a'o I q i'j)
  | str j=>obtain⟨t',rfl⟩:=ry;exact PySem.EqMixed.eq_int_str (a'o I q (by simp))
  | _=>exact absurd (show false=true from hs) Bool.false_ne_true
 | str i =>
  obtain⟨t,rfl⟩:=rx
  cases y with
  | non=>cases ry;exact PySem.EqNone.eq_str_none (a'o I q (by simp))
  | bl j=>cases ry;exact PySem.EqMixed.eq_str_bool (a'o I q (by simp))
  | int j=>obtain⟨t',rfl⟩:=ry;exact PySem.EqMixed.eq_str_int (a'o I q (by simp))
  | str j=>obtain⟨t',rfl⟩:=ry;exact eq_str (a'o I q i'k)
  | _=>exact absurd (show false=true from hs) Bool.false_ne_true
 | byt i =>
  obtain⟨t,rfl⟩:=rx
  cases y with
  | byt j=>obtain⟨t',rfl⟩:=ry;exact W.eq_bytes (a'o I q i'l)
  | _=>exact absurd (show false=true from hs) Bool.false_ne_true
 | _ => cases y <;> exact absurd (show false = true from hs) Bool.false_ne_true
theorem op_ne:OpR X (compareOp .NotEq) rNe:=by
 intro pins s σ H x y v u Q I rx ry h
 obtain⟨hs,q⟩:=h
 cases x with
 | non =>
  cases rx
  cases y with
  | non=>cases ry;exact PySem.EqNone.ne_none_none (a'o I q (by simp))
  | bl j=>cases ry;exact PySem.EqNone.ne_none_bool (a'o I q (by simp))
  | int j=>obtain⟨t',rfl⟩:=ry;exact PySem.EqNone.ne_none_int (a'o I q (by simp))
  | str j=>obtain⟨t',rfl⟩:=ry;exact PySem.EqNone.ne_none_str (a'o I q (by simp))
  | _=>exact absurd (show false=true from hs) Bool.false_ne_true
 | bl i =>
  cases rx
  cases y with
  | non=>cases ry;exact PySem.EqNone.ne_bool_none (a'o I q (by simp))
  | bl j=>cases ry;exact ne_bool (a'o I q (congrArg not l'j))
  | str j=>obtain⟨t',rfl⟩:=ry;exact PySem.EqMixed.ne_bool_str (a'o I q (by simp))
  | _=>exact absurd (show false=true from hs) Bool.false_ne_true
 | int i =>
  obtain⟨t,rfl⟩:=rx
  cases y with
  | non=>cases ry;exact PySem.EqNone.ne_int_none (a'o I q (by simp))
  | int j=>obtain⟨t',rfl⟩:=ry;exact ne_int (a'o I q (congrArg not i'j))
  | str j=>obtain⟨t',rfl⟩:=ry;exact PySem.EqMixed.ne_int_str (a'o I q (by simp))
  | _=>exact absurd (show false=true from hs) Bool.false_ne_true
 | str i =>
  obtain⟨t,rfl⟩:=rx
  cases y with
  | non=>cases ry;exact PySem.EqNone.ne_str_none (a'o I q (by simp))
  | bl j=>cases ry;exact PySem.EqMixed.ne_str_bool (a'o I q (by simp))
  | int j=>obtain⟨t',rfl⟩:=ry;exact PySem.EqMixed.ne_str_int (a'o I q (by simp))
  | str j=>obtain⟨t',rfl⟩:=ry;exact ne_str (a'o I q (congrArg not i'k))
  | _=>exact absurd (show false=true from hs) Bool.false_ne_true
 | byt i =>
  obtain⟨t,rfl⟩:=rx
  cases y with
  | byt j=>obtain⟨t',rfl⟩:=ry;exact W.ne_bytes (a'o I q (congrArg not i'l))
  | _=>exact absurd (show false=true from hs) Bool.false_ne_true
 | _ => cases y <;> exact absurd (show false = true from hs) Bool.false_ne_true
theorem op_lt:OpR X (compareOp .Lt) (rI0 λi j=>.bl (decide (i<j))):=t'O λ_ _ _ _ _ _ _ q=>lt_int q
theorem op_gt:OpR X (compareOp .Gt) (rI0 λi j=>.bl (decide (j<i))):=t'O λ_ _ _ _ _ _ _ q=>gt_int q
theorem l'k:OpR X (compareOp .Lt) (λx y H Q=>∃ i j,x=.str i/\y=.str j/\Q (.bl (decide (i.cps.toList<j.cps.toList))) H):=by
 intro pins s σ H x y v u Q I rx ry h
 obtain⟨i,j,rfl,rfl,q⟩:=h
 obtain⟨t,rfl⟩:=rx
 obtain⟨t',rfl⟩:=ry
 exact lt_str (a'o I q rfl)
theorem OpR.or {f:Value->Value->Sem Value} {r r':R2} (h:OpR X f r) (h':OpR X f r'):OpR X f (λx y H Q=>r x y H Q\/r' x y H Q):=by
 intro pins s σ H x y v u Q I rx ry q
 rcases q with q | q
 ·exact h pins s σ H x y v u Q I rx ry q
 ·exact h' pins s σ H x y v u Q I rx ry q
theorem r'y {op:CmpOp} {r:R2} (ho:OpR X (compareOp op) r) (ha:PE X a ta) (hb:PE X b tb) (hm:behindInMarks op b=false):PE X (.Compare a [op] [b] pos) (tOp r ta tb):=by
 intro pins s σ H Q I h
 exact wpAny_Compare1 (o'h ha hb I h λv u s2 x y H2 I2 rx ry q=>ho pins s2 σ H2 x y v u Q I2 rx ry q) hm
def tTest (t:TE):TT:=λσ H Q=>t σ H λx H'=>∃ k,x=.bl k/\Q k H'
theorem r'z {op:CmpOp} {r:R2} (ho:OpR X (compareOp op) r) (ha:PE X a ta) (hb:PE X b tb) (hm:behindInMarks op b=false):PT X (.Compare a [op] [b] pos) (tTest (tOp r ta tb)):=by
 intro pins s σ H Q I h
 refine wpAny_isTrue_Compare1 (thn (ha pins s σ H _ I h) λv s1 ⟨x,H1,I1,r1,q1⟩=>thn (hb pins s1 σ H1 _ I1 q1) λu s2 ⟨y,H2,I2,r2,q2⟩=>
  thn (ho pins s2 σ H2 x y v u _ I2 r1 r2 q2) λc s3 ⟨z,H3,I3,r3,k,e,q3⟩=>?_) hm
 subst e
 cases r3
 exact wpAny_truthy_bool ⟨H3,I3,q3⟩
theorem e'm:(sizeLine:Nat)<2 ^ 63:=by rw [sizeLine_eq];decide
theorem op_add_str:OpR X (binaryOp .Add) (λx y H Q=>∃ i j,x=.str i/\y=.str j/\i.length+j.length<=sizeLine/\Q (.str (i++j)) H):=by
 intro pins s σ H x y v u Q I rx ry h
 obtain⟨i,j,rfl,rfl,hz,q⟩:=h
 obtain⟨t,rfl⟩:=rx
 obtain⟨t',rfl⟩:=ry
 exact add_str (λt' tk=>⟨.str (i++j),H,I.tok _,⟨_,rfl⟩,q⟩) hz
theorem c'y {x:V} {us:List Value} (r:Vals [x] us):∃ u,us=[u]/\RelV x u:=by
 cases r with
 | cons r1 r2 => cases r2; exact ⟨_, rfl, r1⟩
theorem k'k {x y:V} {us:List Value} (r:Vals [x,y] us):∃ u w',us=[u,w']/\RelV x u/\RelV y w':=by
 cases r with
 | cons r1 r2 =>
  cases r2 with
  | cons r3 r4=>cases r4;exact⟨_,_,rfl,r1,r3⟩
theorem c'z:CallR X (.builtin "abs") (λxs H Q=>∃ i,xs=[.int i]/\Q (.int (if i<0 then -i else i)) H):=by
 intro pins s σ H xs us Q I r h
 obtain⟨i,rfl,q⟩:=h
 obtain⟨u,rfl,t,rfl⟩:=c'y r
 exact call_abs_int λu tk=>⟨.int (if i<0 then -i else i),H,I.tok _,⟨_,rfl⟩,q⟩
def LenV (K:W.Frag) (x:V) (H:Hp) (n:Nat):Prop:=
 match x with
 | .str y => y.length <= sizeLine /\ n = y.length
 | .byt y => y.size <= sizeLine /\ n = y.size
 | .ref p => (∃ xs, SqL K H p xs /\ n = xs.length) \/ ∃ xs, SqT K H p xs /\ n = xs.length
 | _ => False
theorem call_len:CallR X (.builtin "len") (λxs H Q=>∃ x n,xs=[x]/\LenV X.K x H n/\Q (.int n) H):=by
 intro pins s σ H xs us Q I r h
 obtain⟨x,n,rfl,e,q⟩:=h
 obtain⟨u,rfl,rx⟩:=c'y r
 have hl:=e'm
 have hs:sizeLine=16777216:=sizeLine_eq
 cases x with
 | str y =>
  obtain⟨t,rfl⟩:=rx
  obtain⟨hy,e'⟩:y.length<=sizeLine/\n=y.length:=e
  subst e'
  exact len_str (by omega) ⟨.int _,H,I.tok _,⟨_,rfl⟩,q⟩
 | byt y =>
  obtain⟨t,rfl⟩:=rx
  obtain⟨hy,e'⟩:y.size<=sizeLine/\n=y.size:=e
  subst e'
  exact W.len_bytes (by omega) ⟨.int _,H,I.tok _,⟨_,rfl⟩,q⟩
 | ref p =>
  cases rx
  have e':(∃ xs,SqL X.K H p xs/\n=xs.length)\/∃ xs,SqT X.K H p xs/\n=xs.length:=e
  rcases e' with ⟨xs,hx,e'⟩ | ⟨xs,hx,e'⟩
  ·subst e'
   obtain⟨its,r',pl,hz⟩:=I.list hx
   have hlen:=r'.length
   exact Calls.call_len_list pl.isList (by simp only [List.size_toArray];omega) ⟨.int xs.length,H,I.tok _,⟨_,by simp only [List.size_toArray];rw [hlen]⟩,q⟩
  ·subst e'
   obtain⟨its,r',pl,hz⟩:=I.tuple hx
   have hlen:=r'.length
   exact len_tuple pl (by simp only [List.size_toArray];omega) ⟨.int xs.length,H,I.tok _,⟨_,by simp only [List.size_toArray];rw [hlen]⟩,q⟩
 | _ => exact (show False from e).elim
end
end L2
namespace L2
open PySem PySem.Spec PyProof.Rows
structure ObjM (h:Heap) (x dx C:Addr) (mA:Str->Option Value):Prop where
 obj:h.get? x=some (W.instObj C dx)
 ns:h.Ns1 dx mA
 ne:dx≠x
theorem l'l {h:Heap} {dx:Addr} {mA:Str->Option Value} (n:h.Ns1 dx mA):∃ od,h.get? dx=some od/\∀ name,W.lookIn name od=some (mA name):=by
 obtain⟨o,es,ep,ho,hd,hk,_,hm⟩:=n
 refine⟨o,ho,λname=>?_⟩
 have e:=hm name
 unfold nsFind findBy at e
 rw [<- Array.find?_toList] at e
 unfold W.lookIn
 rw [hd]
 dsimp only
 split
 ·rename_i y q
  rw [q] at e
  exact congrArg some e
 ·rename_i q
  rw [q] at e
  have a:es.toList.any (·.refKey)=false:=by
   rw [List.any_eq_false]
   intro y hy
   obtain⟨z,t,hkey⟩:=hk y (Array.mem_toList_iff.mp hy)
   simp [DictEntry.refKey,hkey]
  have a':¬ es.toList.any (·.refKey)=true:=by rw [a];exact Bool.false_ne_true
  rw [if_neg a']
  exact congrArg some e
theorem ObjM.look {h:Heap} {x dx C:Addr} {mA:Str->Option Value} (I:ObjM h x dx C mA):∃ od,W.InstAt h x (W.instObj C dx) C (some od)/\∀ name,W.lookIn name od=some (mA name):=
 let ⟨od,ho,hl⟩:=l'l I.ns
 ⟨od,⟨I.obj,rfl,rfl,ho⟩,hl⟩
section
variable {prog:Program} {w:World} {A:Around} {E:Value->Shared->Prop} {s:Shared} {K:W.Frag} {x dx C f:Addr} {mA:Str->Option Value} {name:Str} {v:Value}
theorem r'A {expr:Bool} {Q:Value->Shared->Prop} (X:K.In s.heap) (I:ObjM s.heap x dx C mA) (hg:W.plainGet K C name=true) (hh:W.hasDictIn K C=true)
  (ha:W.findIn K (.ref C) name=some none) (hv:mA name=some v) (hv':W.handedIn v=true) (h:Q v { s with toks:=s.toks+1 }) :
  wpAny (model prog w) A (getAttr (.ref x) name expr) Q E s:=by
 obtain⟨od,J,hl⟩:=I.look
 exact W.get_value X J (W.plainGet_of hg).1 (W.findObj_own hh ha rfl (by rw [hl,hv])) hv' h
theorem o'i {pl:Sem Bool} {Q:Value×List Value->Shared->Prop} (X:K.In s.heap) (I:ObjM s.heap x dx C mA) (hg:W.plainGet K C name=true)
  (hf:W.findIn K (.ref C) name=some (some (.ref f))) (ht:W.isFn K (.ref f)=true) (hv:mA name=none) (h:Q (.ref f,[.ref x]) s) :
  wpAny (model prog w) A (getMethod (.ref x) name pl) Q E s:=by
 obtain⟨od,J,hl⟩:=I.look
 exact W.method_fn X J (W.plainGet_of hg).1 (W.plainGet_of hg).2 hf (beq_iff_eq.mp ht) (by show (W.lookIn name od).map (·.isSome)=some false;rw [hl,hv];rfl) h
theorem r'B {ns:List Str} {Q:Unit->Shared->Prop} (X:K.In s.heap) (I:ObjM s.heap x dx C mA)
  (hs:W.findIn K (.ref C) "__setattr__"=some (some (.builtin "object.__setattr__"))) (hp:W.plainOver K C=true) (ht:W.takerIn K C name=some none) (hh:W.hasDictIn K C=true)
  (hw:PySem.Within mA ns) (hsz:ns.length<=sizeLine)
  (h:∀ h',ObjM h' x dx C (λy=>if y=name then some v else mA y)->Heap.SameBut dx s.heap h'->Q () { s with heap:=h',toks:=s.toks+2 }) :
  wpAny (model prog w) A (setAttr (.ref x) name v) Q E s:=by
 obtain⟨od,J,hl⟩:=I.look
 refine W.set_plain X J hs (W.osa_open (s:={ s with toks:=s.toks+1 }) (r:=none) X J hp ht λb=>?_)
 obtain⟨cd,hc,hd'⟩:=W.any_some hh
 have hx:s.heap.get? x=some ⟨.ref C,some dx,.plain,#[]⟩:=I.obj
 refine wpAny_bind (wpAny_pure (wpAny_bind (wpAny_bind (wpAny_loadPart hx (wpAny_bind (W.Looks.here (s:={ s with toks:=s.toks+1 }) (W.looks_clsIn X hc) ?_))))))
 rw [hd']
 refine wpAny_pure (a:=some dx) (wpAny_bind (wpAny_pure (wpAny_bind ?_)))
 refine wpAny_nsSet1 (s:={ s with toks:=s.toks+1 }) I.ns λh' hn2 hs2=>?_
 obtain⟨oD,esD,epD,hoD,hdD,hcD⟩:=hn2.count (PySem.Within.cons name v hw)
 refine wpAny_bind (wpAny_lookBehind hoD (by rw [hdD];exact pastItsLine_dict (Nat.le_trans hcD (by rw [List.length_cons];omega))) ?_)
 exact wpAny_pure (h _ ⟨(hs2.2 _ (Ne.symm I.ne)).trans I.obj,hn2,I.ne⟩ hs2)
theorem o'j {R:Result->Shared->Prop} {vs:List Value} {kw:List (Str×Value)} (X:K.In s.heap) (hm:W.makesIn K C=true)
  (hi:W.findIn K (.ref C) "__init__"=some (some (.ref f))) (hf:W.typeIn K (.ref f)=some (.type "function"))
  (h:codeAny (model prog w) (A.under (.builtin "type.__call__" ⟨.ref C :: vs,kw⟩)) (.call (.ref f) ⟨.ref (s.heap.objs.size+1) :: vs,kw⟩) (W.InitBack (s.heap.objs.size+1) R)
   { s with heap:=(s.heap.push W.emptyDict).push (W.instObj C s.heap.objs.size) }) :
  codeAny (model prog w) A (.call (.ref C) ⟨vs,kw⟩) R s:=by
 obtain⟨hh,g,d,t,os⟩:=s
 exact W.make_core (W.makes_of X hm) (W.looks_findIn X hi) (λself=>W.bind_fn X self hf) (.inl rfl) h
end
def putF (f:Str) (v:V):List (Str×V)->List (Str×V)
 | [] => [(f, v)]
 | (g, x) :: r => if g = f then (g, v) :: r else (g, x) :: putF f v r
theorem d'P (f g:Str) (v:V):∀ fs:List (Str×V),(putF f v fs).lookup g=if g=f then some v else fs.lookup g
 | [] => by
  show List.lookup g [(f,v)]=_
  by_cases h:g=f
  ·have hb:(g == f)=true:=beq_iff_eq.mpr h
   simp only [List.lookup,hb,if_pos h]
  ·have hb:(g == f)=false:=beq_eq_false_iff_ne.mpr h
   simp only [List.lookup,hb,if_neg h]
 | (k, x) :: r => by
  have ih:=d'P f g v r
  rw [show putF f v ((k,x) :: r)=(if k=f then (k,v) :: r else (k,x) :: putF f v r) from rfl]
  by_cases hk:k=f
  ·rw [if_pos hk]
   by_cases h:g=k
   ·have hb:(g == k)=true:=beq_iff_eq.mpr h
    simp only [List.lookup,hb,if_pos (h.trans hk)]
   ·have hb:(g == k)=false:=beq_eq_false_iff_ne.mpr h
    simp only [List.lookup,hb,if_neg (λe:g=f=>h (e.trans hk.symm))]
  ·rw [if_neg hk]
   by_cases h:g=k
   ·have hb:(g == k)=true:=beq_iff_eq.mpr h
    simp only [List.lookup,hb,if_neg (λe:g=f=>hk (h.symm.trans e))]
   ·have hb:(g == k)=false:=beq_eq_false_iff_ne.mpr h
    simp only [List.lookup,hb]
    exact ih
theorem c'T (f:Str) (v:V):∀ fs:List (Str×V),f∈(putF f v fs).map (·.1)/\∀ g,g∈fs.map (·.1)->g∈(putF f v fs).map (·.1)
 | [] => ⟨by simp [putF], λg h => by simp at h⟩
 | (k, x) :: r => by
  obtain⟨i1,i2⟩:=c'T f v r
  rw [show putF f v ((k,x) :: r)=(if k=f then (k,v) :: r else (k,x) :: putF f v r) from rfl]
  by_cases hk:k=f
  ·rw [if_pos hk]
   subst hk
   exact⟨by simp,λg h=>by simpa using h⟩
  ·rw [if_neg hk]
   refine⟨?_,λg h=>?_⟩
   ·rw [List.map_cons]
    exact List.mem_cons_of_mem _ i1
   ·rw [List.map_cons] at h ⊢
    rcases List.mem_cons.mp h with e | e
    ·exact List.mem_cons.mpr (.inl e)
    ·exact List.mem_cons_of_mem _ (i2 g e)
theorem d'Q (f:Str) (v:V):∀ fs:List (Str×V),(putF f v fs).length<=fs.length+1
 | [] => by simp [putF]
 | (k, x) :: r => by
  have ih:=d'Q f v r
  rw [show putF f v ((k,x) :: r)=(if k=f then (k,v) :: r else (k,x) :: putF f v r) from rfl]
  by_cases hk:k=f
  ·rw [if_pos hk,List.length_cons,List.length_cons];omega
  ·rw [if_neg hk,List.length_cons,List.length_cons];omega
theorem RelO.some_of {v:V} {o:Option Value} (r:RelO (some v) o):∃ u,o=some u/\RelV v u:=by
 cases o with
 | none => exact (show False from r).elim
 | some u => exact ⟨u, rfl, r⟩
theorem RelO.none_of {o:Option Value} (r:RelO none o):o=none:=by
 cases o with
 | none => rfl
 | some u => exact (show False from r).elim
theorem l'm {v:V} {u:Value} (r:RelV v u):W.handedIn u=true:=by
 cases v with
 | non => cases (show u = Value.none from r); rfl
 | bl b => cases (show u = Value.bool b from r); rfl
 | int i => obtain ⟨t, e⟩ := (show ∃ t, u = Value.int i t from r); cases e; rfl
 | str x => obtain ⟨t, e⟩ := (show ∃ t, u = Value.str x t from r); cases e; rfl
 | byt b => obtain ⟨t, e⟩ := (show ∃ t, u = Value.bytes b t from r); cases e; rfl
 | flt b => obtain ⟨t, e⟩ := (show ∃ t, u = Value.float b t from r); cases e; rfl
 | ref a => cases (show u = Value.ref a from r); rfl
 | ty n => cases (show u = Value.type n from r); rfl
section
variable {P:Program} {w:World} {H H':Hp} {h h':Heap} {a C dx:Addr} {fs fs':List (Str×V)}
theorem i'm (hok:HOk P w H h) (e:H a=some (.ins C dx fs)):∃ mA,ObjM h a dx C mA/\(∀ f,RelO (fs.lookup f) (mA f))/\PySem.Within mA (fs.map (·.1))/\fs.length<=1000/\H dx=some (.own a):=by
 obtain⟨d,z,ne,ob,mA,n,r,q⟩:=(show ObjOk P w H h a (.ins C dx fs) from hok a _ e)
 exact⟨mA,⟨ob,n,ne⟩,r,q,z,d⟩
end
structure Cls (K:W.Frag) (C:Addr):Prop where
 pg:W.plainGet K C Str.empty=true
 hd:W.hasDictIn K C=true
 po:W.plainOver K C=true
 sa:W.findIn K (.ref C) "__setattr__"=some (some (.builtin "object.__setattr__"))
theorem Cls.get {K:W.Frag} {C:Addr} (c:Cls K C) (f:Str):W.plainGet K C f=true:=c.pg
def NoAttr (K:W.Frag) (C:Addr) (f:Str):Prop:=W.findIn K (.ref C) f=some none
theorem NoAttr.taker {K:W.Frag} {C:Addr} {f:Str} (n:NoAttr K C f):W.takerIn K C f=some none:=by
 unfold W.takerIn
 rw [show W.findIn K (.ref C) f=some none from n]
 rfl
structure Meth (K:W.Frag) (C:Addr) (m:Str) (f:Addr):Prop where
 at_:W.findIn K (.ref C) m=some (some (.ref f))
 fn:W.isFn K (.ref f)=true
 kp:W.keepIn K (.ref f)=true
section
variable {X:Cx} {pins:List (Addr×Obj)} {σ:St} {H:Hp} {s:Shared} {a C dx:Addr} {fs:List (Str×V)} {f:Str} {v:V} {A:Around} {E:Value->Shared->Prop}
theorem k'l {y:V} {u:Value} {Q:Unit->Shared->Prop} (I:Inv X pins σ H s) (e:H a=some (.ins C dx fs)) (c:Cls X.K C) (n:NoAttr X.K C f) (hl:fs.length<1000) (ry:RelV y u)
  (h:∀ s',Inv X pins σ (upd H a (.ins C dx (putF f y fs))) s'->Q () s'):wpAny (model X.prog X.w) A (setAttr (.ref a) f u) Q E s:=by
 obtain⟨mA,O,r,wi,_,ho⟩:=i'm I.hok e
 have hz:(fs.map (·.1)).length<=sizeLine:=by rw [List.length_map,sizeLine_eq];omega
 refine r'B I.kIn O c.sa c.po n.taker c.hd wi hz λh' O' sb=>h _ ?_
 have hd:∃ o,h'.get? dx=some o:=let ⟨o,_,_,e',_⟩:=O'.ns;⟨o,e'⟩
 refine I.write (x:=a) (e:=dx) (by rw [e];exact True.intro) (.inr ho) (λb q hb z=>(sb.2 b hb).trans z) hd ?_
 refine⟨by rw [a'f O.ne];exact ho,?_,O.ne,O'.obj,_,O'.ns,λg=>?_,λg hg=>?_⟩
 ·have:=d'Q f y fs;omega
 ·show RelO ((putF f y fs).lookup g) (if g=f then some u else mA g)
  rw [d'P]
  by_cases q:g=f
  ·rw [if_pos q,if_pos q];exact ry
  ·rw [if_neg q,if_neg q];exact r g
 ·by_cases q:g=f
  ·rw [q];exact (c'T f y fs).1
  ·refine (c'T f y fs).2 g (wi g λz=>hg ?_)
   show (if g=f then some u else mA g)=none
   rw [if_neg q];exact z
theorem Inv.made (I:Inv X pins σ H s):Inv X pins σ (upd (upd H s.heap.objs.size (.own (s.heap.objs.size+1))) (s.heap.objs.size+1) (.ins C s.heap.objs.size []))
  { s with heap:=(s.heap.push W.emptyDict).push (W.instObj C s.heap.objs.size) }:=by
 have e1:(s.heap.push W.emptyDict).get? s.heap.objs.size=some W.emptyDict:=Heap.get?_push_size s.heap rfl
 have e2:((s.heap.push W.emptyDict).push (W.instObj C s.heap.objs.size)).get? (s.heap.objs.size+1)=some (W.instObj C s.heap.objs.size):=by
  have:=Heap.get?_push_size (s.heap.push W.emptyDict) (o:=W.instObj C s.heap.objs.size) rfl
  rwa [Heap.size_push] at this
 have e3:(s.heap.push W.emptyDict).Ns s.heap.objs.size (λ_=>none):=⟨W.emptyDict,#[],_,e1,rfl,(λe he=>absurd he (by simp)),λ_=>rfl⟩
 have I1:=I.laid (a:=s.heap.objs.size) (o:=.own (s.heap.objs.size+1)) (h':=s.heap.push W.emptyDict) (t':=s.toks) (λb u q=>Heap.get?_push_of_some _ q) (Nat.le_refl _) ⟨_,e1⟩
 refine I1.laid (a:=s.heap.objs.size+1) (o:=.ins C s.heap.objs.size []) (t':=s.toks) (λb u q=>Heap.get?_push_of_some _ q) (Nat.le_of_eq (Heap.size_push _ _)) ?_
 have ne:s.heap.objs.size≠s.heap.objs.size+1:=Nat.ne_of_lt (Nat.lt_succ_self _)
 refine⟨by rw [a'f ne,a'm],Nat.zero_le _,ne,e2,λ_=>none,(Heap.Ns1.of_empty e3).at λo q=>Heap.get?_push_of_some _ q,λ_=>True.intro,λy hy=>absurd rfl hy⟩
theorem r'C {prog:Program} {w:World} {env:Env} {e:Expr} {f:Str} {pos:Pos} {s:Shared} {Q:Value->Shared->Prop} (hb:attributeBase e f env (eval e env)=eval e env)
  (h:wpAny (model prog w) A (eval e env) (λo s₁=>wpAny (model prog w) A (getAttr o f true) Q E s₁) E s):wpAny (model prog w) A (eval (.Attribute e f pos) env) Q E s:=
 Attribute_any_ h (by rw [arm_eval_Attribute,hb])
end
def sFld (K:W.Frag) (ta tv:TE) (f:Str):TS:=λD σ H=>tv σ H λy H1=>ta σ H1 λx H2=>∃ a C dx fs,x=.ref a/\H2 a=some (.ins C dx fs)/\Cls K C/\NoAttr K C f/\fs.length<1000/\
 D.nx σ (upd H2 a (.ins C dx (putF f y fs)))
section
variable {X:Cx} {o e value:Expr} {f:Str} {pos pos' tpos:Pos} {ta tv:TE}
theorem t'T (ha:PE X o ta) (hv:PE X value tv) (hs:swapsWith value (some (.Attribute o f pos')) pos.line X.env=pure false):PS X (.Assign [.Attribute o f pos'] value pos) (sFld X.K ta tv f):=by
 intro pins s σ H D I h
 refine plainObj_wpAny_Assign_Attribute (thn (hv pins s σ H _ I h) λu s1 ⟨y,H1,I1,ry,q⟩=>thn (ha pins s1 σ H1 _ I1 q) λov s2 ⟨x,H2,I2,rx,a,C,dx,fs,ex,ea,c,n,l,q2⟩=>?_) hs
 subst ex
 obtain rfl:ov=Value.ref a:=rx
 exact k'l I2 ea c n l ry λs3 I3=>⟨σ,_,I3,q2⟩
end
section
variable {X:Cx} {pins:List (Addr×Obj)} {σ:St} {H:Hp} {s:Shared} {A:Around} {E:Value->Shared->Prop} {Q:Value->Shared->Prop} {c:Value} {b:Bool}
inductive TyOf (K:W.Frag) (H:Hp):V->Value->Prop where
 | non : TyOf K H .non (.type "NoneType")
 | bl (x : Bool) : TyOf K H (.bl x) (.type "bool")
 | int (i : Int) : TyOf K H (.int i) (.type "int")
 | str (x : Str) : TyOf K H (.str x) (.type "str")
 | flt (x : UInt64) : TyOf K H (.flt x) (.type "float")
 | lst {a : Addr} {xs : List V} (e : H a = some (.lst xs)) : TyOf K H (.ref a) (.type "list")
 | frz {a : Addr} {o : Obj} {xs : List V} (e : H a = some (.frz o (.lst xs))) : TyOf K H (.ref a) (.type "list")
 | tup {a : Addr} {xs : List V} (e : H a = some (.tup xs)) : TyOf K H (.ref a) (.type "tuple")
 | dK {a : Addr} {kvs : List (Key × V)} (e : H a = some (.dK kvs)) : TyOf K H (.ref a) (.type "dict")
 | dT {a : Addr} {kvs : List (List Key × V)} (e : H a = some (.dT kvs)) : TyOf K H (.ref a) (.type "dict")
 | ins {a C dx : Addr} {fs : List (Str × V)} (e : H a = some (.ins C dx fs)) (cl : Cls K C) (ha : W.findIn K (.ref C) "__class__" = some (some (.builtin "object.__class__")))
   (hn:W.specialIn K (.builtin "object.__class__") "__get__"=some (some (.builtin "getset_descriptor.__get__"))) (htk:W.takesIn K (.builtin "object.__class__")=some true)
   (hm:W.mroIn K C (.type "object")=some true):TyOf K H (.ref a) (.ref C)
theorem l'n {x:V} {u t:Value} (I:Inv X pins σ H s) (rx:RelV x u) (ty:TyOf X.K H x t) (e:W.kitOne X.K t c=some b) (h:∀ tk,Q (.bool b) { s with toks:=tk }) :
  wpAny (model X.prog X.w) A (call (.builtin "isinstance") [u,c]) Q E s:=by
 cases ty with
 | non => cases (show u = Value.none from rx); exact W.kia_one W.kitx_none I.kIn True.intro e (λz => nomatch z) h
 | bl y => cases (show u = Value.bool y from rx); exact W.kia_one W.kitx_bool I.kIn True.intro e (λz => nomatch z) h
 | int i => obtain ⟨t, q⟩ := (show ∃ t, u = Value.int i t from rx); cases q; exact W.kia_one W.kitx_int I.kIn True.intro e (λz => nomatch z) h
 | str y => obtain ⟨t, q⟩ := (show ∃ t, u = Value.str y t from rx); cases q; exact W.kia_one W.kitx_str I.kIn True.intro e (λz => nomatch z) h
 | flt y => obtain ⟨t, q⟩ := (show ∃ t, u = Value.float y t from rx); cases q; exact W.kia_one W.kitx_float I.kIn True.intro e (λz => nomatch z) h
 | @lst a xs ea =>
  cases (show u=Value.ref a from rx)
  obtain⟨_,_,n,_,h1⟩:=(show ObjOk X.prog X.w H s.heap a (.lst xs) from I.hok a _ ea)
  exact W.kia_one W.kitx_list I.kIn ⟨_,h1,rfl⟩ e (λz=>nomatch z) h
 | @frz a ob xs ea =>
  cases (show u=Value.ref a from rx)
  obtain⟨_,_,_,n,_,h1⟩:=(show ObjOk X.prog X.w H s.heap a (.frz ob (.lst xs)) from I.hok a _ ea)
  exact W.kia_one W.kitx_list I.kIn ⟨_,h1,rfl⟩ e (λz=>nomatch z) h
 | @tup a xs ea =>
  cases (show u=Value.ref a from rx)
  obtain⟨_,_,_,p⟩:=(show ObjOk X.prog X.w H s.heap a (.tup xs) from I.hok a _ ea)
  obtain⟨o,h1,h2,_⟩:=p
  exact W.kia_one W.kitx_tuple I.kIn ⟨o,h1,h2⟩ e (λz=>nomatch z) h
 | @dK a kvs ea =>
  cases (show u=Value.ref a from rx)
  obtain⟨_,_,vs,_,p⟩:=(show ObjOk X.prog X.w H s.heap a (.dK kvs) from I.hok a _ ea)
  obtain⟨o,es,ep,h1,h2,_⟩:=p
  exact W.kia_one W.kitx_dict I.kIn ⟨o,h1,h2.1⟩ e (λz=>nomatch z) h
 | @dT a kvs ea =>
  cases (show u=Value.ref a from rx)
  obtain⟨_,_,xs,_,o,es,ep,h1,h2,_⟩:=(show ObjOk X.prog X.w H s.heap a (.dT kvs) from I.hok a _ ea)
  exact W.kia_one W.kitx_dict I.kIn ⟨o,h1,h2.1⟩ e (λz=>nomatch z) h
 | @ins a C dx fs ea cl ha hn htk hm =>
  cases (show u=Value.ref a from rx)
  obtain⟨mA,O,_⟩:=i'm I.hok ea
  obtain⟨od,J,_⟩:=O.look
  exact W.kia_one (W.kitx_own (cl.get _) cl.hd ha hn htk hm) I.kIn J e (λz=>nomatch z) h
end
end L2
namespace L2
open PySem PySem.Spec PyProof.Rows
structure Room (k:Nat) (A:Around):Prop where
 hd:A.handled=none
 dp:A.depth+3*k+5<recursionLimit
 un:A.units+16*k+200<cLine
theorem Room.mono {j k:Nat} {A:Around} (r:Room k A) (h:j<=k):Room j A:=⟨r.hd,by have:=r.dp;omega,by have:=r.un;omega⟩
theorem Room.deeper {k:Nat} {A:Around} (r:Room (k+1) A) (env:Env):Room k (A.deeper env):=
 ⟨r.hd,by have:=r.dp;show A.depth+1+3*k+5<_;omega,by have:=r.un;show A.units+3+16*k+200<_;omega⟩
theorem k'm {A:Around} {C:Addr} {us:List Value} {kw:List (Str×Value)}:(A.under (.builtin "type.__call__" ⟨.ref C :: us,kw⟩)).depth=A.depth+1:=by
 first | rfl | simp [Around.under,Code.weight,Code.isCreation,Code.isGuard,Code.isCaller,Code.frames,Code.isFrame,guardIds]
theorem k'n {A:Around} {C:Addr} {us:List Value} {kw:List (Str×Value)}:(A.under (.builtin "type.__call__" ⟨.ref C :: us,kw⟩)).units=A.units+1:=by
 first | rfl | simp [Around.under,Code.cUnits,Code.frames,Code.isFrame]
theorem Room.make {k:Nat} {A:Around} (r:Room (k+1) A) (C:Addr) (us:List Value) (kw:List (Str×Value)):Room k (A.under (.builtin "type.__call__" ⟨.ref C :: us,kw⟩)):=
 ⟨r.hd,by have:=r.dp;rw [k'm];omega,by have:=r.un;rw [k'n];omega⟩
theorem Room.depth {k:Nat} {A:Around} (r:Room k A):A.depth<recursionLimit:=by have:=r.dp;omega
theorem Room.units {k:Nat} {A:Around} (r:Room k A):A.units+64<cLine:=by have:=r.un;omega
def tNil:TA:=λ_ H Q=>Q [] H
def tCons (ta:TE) (tr:TA):TA:=λσ H Q=>ta σ H λx H1=>tr σ H1 λxs H2=>Q (x :: xs) H2
section
variable {X:Cx} {e:Expr} {es:List Expr} {te:TE} {t:TA} {pos:Pos}
theorem b'O:PA X [] tNil:=λ_ _ _ _ H Q I h=>Calls.spliced_nil ⟨[],H,I,.nil,h⟩
theorem b'q (ha:PE X e te) (hr:PA X es t) (hs:starEach (e :: es) X.env=(false,eval e X.env) :: starEach es X.env:=by rfl):PA X (e :: es) (tCons te t):=by
 intro pos pins s σ H Q I h
 rw [hs]
 show wpAny _ _ (spliced ((false,eval e X.env) :: backTo pos (starEach es X.env))) _ _ s
 refine Calls.spliced_cons (thn (ha pins s σ H _ I h) λu s1 ⟨x,H1,I1,r1,q1⟩=>?_)
 exact thn (hr pos pins s1 σ H1 _ I1 q1) λus s2 ⟨xs,H2,I2,r2,q2⟩=>⟨x :: xs,H2,I2,.cons r1 r2,q2⟩
def tTup (t:TA):TE:=λσ H Q=>t σ H λxs H1=>xs.length<=sizeLine/\∀ p,H1 p=none->Q (.ref p) (upd H1 p (.tup xs))
def tLst (t:TA):TE:=λσ H Q=>t σ H λxs H1=>xs.length<=sizeLine/\∀ p,H1 p=none->Q (.ref p) (upd H1 p (.lst xs))
theorem g'z {x1} (h:PA X es t):PE X (.Tuple es x1 pos) (tTup t):=by
 intro pins s σ H Q I hq
 refine wpAny_Tuple_spliced (thn (h pos pins s σ H _ I hq) λus s1 ⟨xs,H1,I1,r,z,q⟩=>⟨by rw [<- r.length];exact z,?_⟩)
 have hf:H1 s1.heap.objs.size=none:=I1.hok.fresh (Nat.le_refl _)
 refine⟨.ref s1.heap.objs.size,upd H1 s1.heap.objs.size (.tup xs),I1.laid (t':=s1.toks) (λb u e=>Heap.get?_push_of_some _ e) (Nat.le_refl _) ?_,rfl,q _ hf⟩
 exact⟨z,us,r,⟨_,Heap.get?_push_size _ rfl,rfl,_,rfl⟩⟩
theorem t'U (h:PA X es t):PE X (.List es pos) (tLst t):=by
 intro pins s σ H Q I hq
 refine wpAny_List_spliced (thn (h pos pins s σ H _ I hq) λus s1 ⟨xs,H1,I1,r,z,q⟩=>⟨by rw [<- r.length];exact z,?_⟩)
 have hf:H1 s1.heap.objs.size=none:=I1.hok.fresh (Nat.le_refl _)
 refine⟨.ref s1.heap.objs.size,upd H1 s1.heap.objs.size (.lst xs),I1.laid (t':=s1.toks) (λb u e=>Heap.get?_push_of_some _ e) (Nat.le_refl _) ?_,rfl,q _ hf⟩
 exact⟨z,us,0,r,Heap.get?_push_size _ rfl⟩
end
abbrev Sp:=List V->Hp->VK->XK->Prop
abbrev CXT:=List Env->Hp->Shared->XK->Value->Shared->Prop
structure Env0 (P:Program) (w:World) (K:W.Frag) (mg:Str->Option Value) (base:Heap) (A:Around) (outer:List Env) (s:Shared) (H:Hp):Prop where
 frames:A.frames=some outer
 mod:Mod K mg base
 bs:∀ b o,base.get? b=some o->s.heap.get? b=some o/\H b=none
 bsz:base.objs.size<=s.heap.objs.size
 funs:s.heap.FunFrames base outer
 frf:∀ b∈frs outer,H b=none
 hok:HOk P w H s.heap
 bare:AllBare s.gens
def CE (outer:List Env) (P:Program) (w:World) (H:Hp) (s:Shared) (Q:VK) (u:Value) (s':Shared):Prop:=
 ∃ v H',s'.os=s.os/\AllBare s'.gens/\Un (frs outer) [] H H' s.heap s'.heap/\HOk P w H' s'.heap/\RelV v u/\Q v H'
def CR (CX:CXT) (outer:List Env) (P:Program) (w:World) (H:Hp) (s:Shared) (Q:VK) (E:XK) (r:Result) (s':Shared):Prop:=
 match r with
 | .ok (.ret u) => CE outer P w H s Q u s'
 | .ok _ => False
 | .error e => CX outer H s E e s'
structure FnOk (P:Program) (w:World) (K:W.Frag) (mg:Str->Option Value) (base:Heap) (CX:CXT) (k:Nat) (f:Addr) (fd:FuncData) (ps:List Str) (sp:Sp):Prop where
 len:∀ vs H Q E,sp vs H Q E->vs.length=ps.length
 run:∀ (A:Around) (outer:List Env) (s:Shared) (H:Hp) (args:Args) (us:List Value) (vs:List V) (Q:VK) (E:XK),Room k A->Env0 P w K mg base A outer s H->BindsTo s fd args (ps.zip us)->Vals vs us->sp vs H Q E->
  codeAny (model P w) A (.call (.ref f) args) (CR CX outer P w H s Q E) s
theorem FnOk.mono {P:Program} {w:World} {K:W.Frag} {mg:Str->Option Value} {base:Heap} {CX:CXT} {j k:Nat} {f:Addr} {fd:FuncData} {ps:List Str} {sp:Sp} (F:FnOk P w K mg base CX j f fd ps sp) (h:j<=k) :
  FnOk P w K mg base CX k f fd ps sp:=⟨F.len,λA outer s H args us vs Q E hr=>F.run A outer s H args us vs Q E (hr.mono h)⟩
theorem FnOk.imp {P:Program} {w:World} {K:W.Frag} {mg:Str->Option Value} {base:Heap} {CX:CXT} {k:Nat} {f:Addr} {fd:FuncData} {ps:List Str} {sp sp':Sp} (F:FnOk P w K mg base CX k f fd ps sp)
  (h:∀ vs H Q E,sp' vs H Q E->sp vs H Q E):FnOk P w K mg base CX k f fd ps sp':=
 ⟨λvs H Q E q=>F.len vs H Q E (h _ _ _ _ q),λA outer s H args us vs Q E hr he hb hv hs=>F.run A outer s H args us vs Q E hr he hb hv (h _ _ _ _ hs)⟩
theorem Env0.make {P:Program} {w:World} {K:W.Frag} {mg:Str->Option Value} {base:Heap} {A:Around} {outer:List Env} {s:Shared} {H:Hp} (e:Env0 P w K mg base A outer s H) (C:Addr) (us:List Value) (kw:List (Str×Value)) :
  Env0 P w K mg base (A.under (.builtin "type.__call__" ⟨.ref C :: us,kw⟩)) outer s H:=⟨by first | exact e.frames | (simpa [Around.under,Code.envs,Code.isFrame,pushEnvs] using e.frames),e.mod,e.bs,e.bsz,e.funs,e.frf,e.hok,e.bare⟩
section
variable {X:Cx} {pins:List (Addr×Obj)} {σ:St} {H:Hp} {s s':Shared}
theorem Inv.env0 (I:Inv X pins σ H s):Env0 X.prog X.w X.K X.mg X.base X.A X.stack s H:=
 ⟨I.ok.frames,I.ok.mod,I.bs,Nat.le_trans I.ok.bsz I.sz,I.stack,I.stkFree,I.hok,I.bare⟩
theorem Inv.after {Q:VK} {u:Value} (I:Inv X pins σ H s) (h:CE X.stack X.prog X.w H s Q u s'):EP X pins σ Q u s':=by
 obtain⟨v,H',os,bare,un,hok,r,q⟩:=h
 obtain⟨hh,g,d,t,os'⟩:=s'
 obtain rfl:os'=s.os:=os
 exact⟨v,H',I.call (h':=hh) (g':=g) (d':=d) (t':=t) (ch:=[]) un hok bare (λb z=>absurd z (by simp)),r,q⟩
end
def tCall (sp:Sp) (dvs:List V) (E:XK) (t:TA):TE:=λσ H Q=>t σ H λvs H1=>sp (vs++dvs) H1 Q E
def Binds (K:W.Frag) (fd:FuncData) (ps:List Str) (ds:List Value):Prop:=
 ∀ (s:Shared) (us:List Value),K.In s.heap->(us++ds).length=ps.length->BindsTo s fd ⟨us,[]⟩ (ps.zip (us++ds))
theorem Binds.all {K:W.Frag} {fd:FuncData} {ps:List Str} (h:∀ us:List Value,us.length=ps.length->bindArgs fd ⟨us,[]⟩=pure (ps.zip us)):Binds K fd ps []:=λs us _ hl=>by
 rw [List.append_nil] at hl ⊢
 exact .of_eq (h us hl)
def Passes (CX:CXT) (X:Cx) (E:XK):Prop:=∀ (pins:List (Addr×Obj)) (σ:St) (H:Hp) (s:Shared) (e:Value) (s':Shared),Inv X pins σ H s->CX X.stack H s E e s'->X.xe e s'
section
variable {X:Cx} {CX:CXT} {k:Nat} {f C:Addr} {fd:FuncData} {ps:List Str} {sp:Sp} {dvs:List V} {ds:List Value} {E:XK} {x m:Str} {p pos apos:Pos} {e o:Expr} {es:List Expr} {ta:TE} {t:TA}
theorem t'V {pins:List (Addr×Obj)} {σ:St} {H:Hp} {s:Shared} {Q:VK} {us:List Value} {vs:List V} (F:FnOk X.prog X.w X.K X.mg X.base CX k f fd ps sp) (hr:Room k X.A) (hb:Binds X.K fd ps ds) (hd:Vals dvs ds) (hx:Passes CX X E)
  (I:Inv X pins σ H s) (r:Vals vs us) (h:sp (vs++dvs) H Q E):wpAny (model X.prog X.w) X.A (call (.ref f) us) (EP X pins σ Q) X.xe s:=by
 have r2:Vals (vs++dvs) (us++ds):=r.append hd
 have hl:(us++ds).length=ps.length:=by rw [<- r2.length];exact F.len _ _ _ _ h
 refine wpAny_call (codeAny_mono (F.run X.A X.stack s H ⟨us,[]⟩ (us++ds) (vs++dvs) Q E hr I.env0 (hb s us I.kIn hl) r2 h) λr s' hq=>?_)
 cases r with
 | error e => exact hx pins σ H s e s' I hq
 | ok fl =>
  cases fl with
  | ret u=>exact I.after hq
  | next=>exact False.elim hq
  | brk=>exact False.elim hq
  | cont=>exact False.elim hq
theorem r'D (F:FnOk X.prog X.w X.K X.mg X.base CX k f fd ps sp) (hr:Room k X.A) (hg:Gl X x) (hm:X.mg x=some (.ref f)) (hk:W.keepIn X.K (.ref f)=true) (hb:Binds X.K fd ps ds) (hd:Vals dvs ds) (hx:Passes CX X E)
  (ha:PA X (e :: es) t) (hdb:(x == ("__debug__":Str))=false:=by decide) (he:starEach (e :: es) X.env=(false,eval e X.env) :: starEach es X.env:=by rfl) (hpl:(backTo pos (starEach es X.env)).any (·.1)=false:=by rfl) :
  PE X (.Call (.Name x p) (e :: es) [] pos) (tCall sp dvs E t):=by
 intro pins s σ H Q I h
 refine wpAny_Call_Name_kw (d'k I hg hm ?_ hdb)
 refine W.callWith_K (h₀:=X.base) I.ok.mod.kin hk (thn (ha pos pins s σ H _ I h) λus s1 ⟨vs,H1,I1,r,q⟩=>⟨I1.kIn,?_⟩) he hpl
 exact t'V F hr hb hd hx I1 r q
structure Mk (K:W.Frag) (C f:Addr):Prop where
 makes:W.makesIn K C=true
 init:W.findIn K (.ref C) "__init__"=some (some (.ref f))
 fn:W.isFn K (.ref f)=true
 kp:W.keepIn K (.ref C)=true
end
section
variable {X:Cx} {CX:CXT} {k:Nat} {f C:Addr} {fd:FuncData} {ps ks:List Str} {sp:Sp} {E:XK} {x m:Str} {p pos apos kpos:Pos} {e o:Expr} {es:List Expr} {kws:List Keyword} {te ta:TE} {t tk:TA} {nm:Option Str}
variable {g:List Value->List Value->List Value} {gV:List V->List V->List V}
end
structure FnScope (N P:List Str) (sc:Scope):Prop where
 kind:sc.kind=.function
 co:sc.isCoroutine=false
 gen:sc.isGenerator=false
 nd:N.Nodup
 pre:N.take P.length=P
 par:∀ x∈P,sc.names.lookup x=some .local\/sc.names.lookup x=some .cell
 nofree:∀ y∈sc.names,y.2≠.free
theorem f'A {kindOf:Str->Option NameKind} {x:Str}:∀ {binds:List (Str×Value)} {m:Str->Option Value},(∀ v,(x,v) ∉ binds)->bindL kindOf binds m x=m x
 | [], _, _ => rfl
 | (n, v) :: r, m, h => by
  unfold bindL
  rw [f'A λw hw=>h w (List.mem_cons_of_mem _ hw)]
  split
  ·have:x≠n:=by rintro rfl;exact h v List.mem_cons_self
   simp [this]
  ·rfl
theorem f'B {kindOf:Str->Option NameKind} {x:Str}:∀ {binds:List (Str×Value)} {m:Str->Option Value},(∀ v,(x,v) ∉ binds)->bindC kindOf binds m x=m x
 | [], _, _ => rfl
 | (n, v) :: r, m, h => by
  unfold bindC
  rw [f'B λw hw=>h w (List.mem_cons_of_mem _ hw)]
  split
  ·rfl
  ·have:x≠n:=by rintro rfl;exact h v List.mem_cons_self
   simp [this]
theorem f'C {kindOf:Str->Option NameKind} {x:Str} {v:Value}:∀ {P:List Str} {vs:List Value} {i:Nat} {m:Str->Option Value},P.Nodup->P[i]?=some x->vs[i]?=some v->kindOf x=some .local->
  bindL kindOf (P.zip vs) m x=some v
 | [], _, _, _, _, h, _, _ => by simp at h
 | _ :: _, [], _, _, _, _, h, _ => by simp at h
 | p :: P, w :: vs, 0, m, nd, h1, h2, hk => by
  simp at h1 h2;subst h1;subst h2
  show bindL kindOf ((p,w) :: P.zip vs) m p=_
  unfold bindL
  rw [f'A λv hv=>(List.nodup_cons.mp nd).1 (List.of_mem_zip hv).1,if_pos hk]
  simp
 | p :: P, w :: vs, i + 1, m, nd, h1, h2, hk => by
  show bindL kindOf ((p,w) :: P.zip vs) m x=_
  unfold bindL
  exact f'C (i:=i) (List.nodup_cons.mp nd).2 (by simpa using h1) (by simpa using h2) hk
theorem f'D {kindOf:Str->Option NameKind} {x:Str} {v:Value}:∀ {P:List Str} {vs:List Value} {i:Nat} {m:Str->Option Value},P.Nodup->P[i]?=some x->vs[i]?=some v->kindOf x≠some .local->
  bindC kindOf (P.zip vs) m x=some v
 | [], _, _, _, _, h, _, _ => by simp at h
 | _ :: _, [], _, _, _, _, h, _ => by simp at h
 | p :: P, w :: vs, 0, m, nd, h1, h2, hk => by
  simp at h1 h2;subst h1;subst h2
  show bindC kindOf ((p,w) :: P.zip vs) m p=_
  unfold bindC
  rw [f'B λv hv=>(List.nodup_cons.mp nd).1 (List.of_mem_zip hv).1,if_neg hk]
  simp
 | p :: P, w :: vs, i + 1, m, nd, h1, h2, hk => by
  show bindC kindOf ((p,w) :: P.zip vs) m x=_
  unfold bindC
  exact f'D (i:=i) (List.nodup_cons.mp nd).2 (by simpa using h1) (by simpa using h2) hk
def start (N:List Str) (vs:List V):St:=vs.map some++List.replicate (N.length - vs.length) none
def cxOf (CX:CXT) (P:Program) (w:World) (K:W.Frag) (mg:Str->Option Value) (base:Heap) (N:List Str) (qual:Str) (scope:Scope) (f:Addr) (cd:Value) (A:Around) (outer:List Env) (s:Shared) (H:Hp) (E:XK):Cx where
 prog:=P
 w:=w
 K:=K
 mg:=mg
 base:=base
 A:=A.deeper (envOfC qual scope s.heap.objs.size f cd)
 N:=N
 s₀:=s
 H₀:=H
 env:=envOfC qual scope s.heap.objs.size f cd
 outer:=outer
 stack:=envOfC qual scope s.heap.objs.size f cd :: outer
 ex:=[]
 calm:=true
 fn:=λ_=>true
 pn:=[]
 xe:=λe s'=>wpAny (model P w) (A.deeper (envOfC qual scope s.heap.objs.size f cd)) (leaving (envOfC qual scope s.heap.objs.size f cd) e) (λ_ s''=>CX outer H s E e s'') (λe' s''=>CX outer H s E e' s'') s'
theorem g'A {sc:Scope} {n:Nat} {x:Str} (h:sc.names.lookup x=some .cell):∃ c,(cellsFrom n sc.names []).lookup x=some c:=by
 have q:=W.cellsFrom_some sc.names n [] (.inl h)
 exact Option.isSome_iff_exists.mp q
theorem l'o {CX:CXT} {P:Program} {w:World} {K:W.Frag} {mg:Str->Option Value} {base:Heap} {N ps:List Str} {qual:Str} {scope:Scope} {f:Addr} {cd:Value} {A:Around} {outer:List Env} {s s1:Shared} {H:Hp} {E:XK} {us:List Value} {vs:List V}
  (S:FnScope N ps scope) (hd:A.handled=none) (e0:Env0 P w K mg base A outer s H) (hl:vs.length=ps.length) (r:Vals vs us)
  (x:InCallC s s.heap.objs.size (bindL (envOfC qual scope s.heap.objs.size f cd).kindOf (ps.zip us) λ_=>none) (cellsFrom (s.heap.objs.size+1) scope.names []) (bindC (envOfC qual scope s.heap.objs.size f cd).kindOf (ps.zip us) λ_=>none) s1) :
  Inv (cxOf CX P w K mg base N qual scope f cd A outer s H E) [] (start N vs) H s1:=by
 have hpl:ps.length<=N.length:=by have:=congrArg List.length S.pre;rw [List.length_take] at this;omega
 obtain⟨h1,tk,rfl,hk⟩:=x.done
 have noA:∀ b:Addr,b ∉ (cxOf CX P w K mg base N qual scope f cd A outer s H E).ex:=λb z=>absurd (show b∈([]:List Addr) from z) (by simp)
 refine⟨⟨e0.mod,S.kind,rfl,rfl,Nat.le_refl _,λy z c h1 h2=>?_,λy hy=>?_,λy c _ h=>?_,λ_=>hd,Around.frames_deeper e0.frames,.inr ⟨rfl,rfl⟩,λb z=>absurd z (noA b),e0.bs,e0.bsz,λb _ _=>noA b,λb z=>absurd z (noA b),e0.funs,e0.frf⟩,
  rfl,e0.bare,Un.kept hk,⟨_,x.toInCall.ns,λi y v h1 h2 h3=>?_⟩,λy c h=>⟨_,x.cell y c h⟩,e0.hok.fresh (Nat.le_refl _),λy c h=>?_,λp hp=>absurd (show p∈([]:List (Addr×Obj)) from hp) (by simp),e0.hok.kept hk,?_⟩
 ·exact name_of_addr x.apart (PySem.mem_of_lookup h1) (PySem.mem_of_lookup h2)
 ·have hy:scope.names.lookup y=some .cell\/scope.names.lookup y=some .free:=hy
  rcases hy with hy | hy
  ·exact g'A hy
  ·exact absurd rfl (S.nofree _ (PySem.mem_of_lookup hy))
 ·exact Nat.le_of_lt (x.above y c (PySem.mem_of_lookup h))
 ·have hi:i<vs.length:=by
   unfold start at h2
   by_cases hi:i<vs.length
   ·exact hi
   ·rw [List.getElem?_append_right (by simpa using hi)] at h2
    rw [List.getElem?_replicate] at h2
    split at h2<;>cases h2
  have ha:vs[i]?=some v:=by
   unfold start at h2
   rw [List.getElem?_append_left (by simpa using hi),List.getElem?_map] at h2
   cases e:vs[i]? with
   | none=>rw [e] at h2;cases h2
   | some a=>rw [e] at h2;cases h2;rfl
  obtain⟨u,hu,rv⟩:=r.get ha
  have hp:ps[i]?=some y:=by
   rw [<- S.pre,List.getElem?_take_of_lt (by omega)];exact h1
  have ndP:ps.Nodup:=by rw [<- S.pre];exact S.nd.sublist (List.take_sublist _ _)
  refine⟨u,rv,?_⟩
  rcases S.par y (List.mem_of_getElem? hp) with k | k
  ·exact .inl ⟨k,f'C ndP hp hu k⟩
  ·obtain⟨c,e⟩:=g'A (n:=s.heap.objs.size+1) k
   refine .inr ⟨.inl k,c,e,?_⟩
   have q:=x.cell y c e
   rw [f'D ndP hp hu (by show scope.names.lookup y≠_;rw [k];decide)] at q
   exact q
 ·exact e0.hok.fresh (Nat.le_of_lt (x.above y c (PySem.mem_of_lookup h)))
 ·unfold start
  show _=N.length
  rw [List.length_append,List.length_map,List.length_replicate]
  omega
theorem w'f {CX:CXT} {P:Program} {w:World} {K:W.Frag} {mg:Str->Option Value} {base:Heap} {k:Nat} {f:Addr} {name qual:Str} {params:Arguments} {body:List Stmt} {scope:Scope} {dV kV doc pm cdv ct oc:Value} {an od:Option Addr}
  {osl:Array (Option Value)} {N ps:List Str} {sp:Sp} (lk:K.lookup f=some ⟨oc,od,.func (W.fnOf name qual params body scope dV kV doc pm an cdv ct),osl⟩) (hcd:W.codeIn K cdv qual=true) (S:FnScope N ps scope)
  (len:∀ vs H Q E,sp vs H Q E->vs.length=ps.length)
  (hbody:∀ (A:Around) (outer:List Env) (s:Shared) (H:Hp) (vs:List V) (Q:VK) (E:XK),Room k (A.deeper (envOfC qual scope s.heap.objs.size f cdv))->sp vs H Q E->
   ∃ t,PSs (cxOf CX P w K mg base N qual scope f cdv A outer s H E) body t/\t { nx:=λ_ H'=>Q .non H',rt:=Q } (start N vs) H) :
  FnOk P w K mg base CX (k+1) f (W.fnOf name qual params body scope dV kV doc pm an cdv ct) ps sp:=by
 refine⟨len,λA outer s H args us vs Q E hr e0 hb r hsp=>?_⟩
 have hl:=len _ _ _ _ hsp
 have KX:K.In s.heap:=e0.mod.kin.keeps λb o e=>(e0.bs b o e).1
 have lim:s.heap.NoLimit:=e0.mod.nolimit.keeps λb o e=>(e0.bs b o e).1
 have hkind:∀ y∈ps.zip us,scope.names.lookup y.1=some .local\/(scope.names.lookup y.1=some .cell/\((cellsFrom (s.heap.objs.size+1) scope.names []).lookup y.1).isSome=true):=λ⟨n,v⟩ hy=>by
  rcases S.par n (List.of_mem_zip hy).1 with q | q
  ·exact .inl q
  ·exact .inr ⟨q,W.cellsFrom_some _ _ _ (.inl q)⟩
 refine codeAny_call_function hr.depth (KX _ _ lk) rfl S.co S.gen rfl (W.codeRec_of KX hcd) (hb _ _ _ _ ?_)
 refine wpAny_newFunctionEnv_cells S.kind hkind λenv he s1 x=>?_
 subst he
 refine⟨lim.keeps x.toInCall.keep,codeAny_func ?_⟩
 obtain⟨t,ht,hq⟩:=hbody A outer s H vs Q E (hr.deeper _) hsp
 have I:Inv (cxOf CX P w K mg base N qual scope f cdv A outer s H E) [] (start N vs) H s1:=l'o S hr.hd e0 hl r x
 refine wpAny_mono (ht [] s1 (start N vs) H _ I hq) (λfl s' hs=>?_) λe s' hs=>hs
 have fin:∀ {σ':St} {H':Hp} {v:V} {u:Value},Inv (cxOf CX P w K mg base N qual scope f cdv A outer s H E) [] σ' H' s'->RelV v u->Q v H'->CE outer P w H s Q u s':=
  λ{σ' H' v u} J rv q=>⟨v,H',J.os,J.bare,J.base,J.hok,rv,q⟩
 cases fl with
 | ret u =>
  obtain⟨v,σ',H',J,rv,q⟩:=hs
  exact fin J rv q
 | next =>
  obtain⟨σ',H',J,q⟩:=hs
  exact fin (v:=V.non) (u:=Value.none) J rfl q
 | brk =>
  obtain⟨_,_,_,q⟩:=hs
  exact False.elim q
 | cont =>
  obtain⟨_,_,_,q⟩:=hs
  exact False.elim q
end L2
namespace L2
open PySem PySem.Spec PyProof.Rows
section
variable {X:Cx} {x:Str} {p pos:Pos} {e:Expr} {es:List Expr} {t:TA} {id T:String} {r:List V->Hp->VK->Prop}
def tCB (r:List V->Hp->VK->Prop) (t:TA):TE:=λσ H Q=>t σ H λvs H1=>r vs H1 Q
theorem g'B (hc:CallR X (.builtin id) r) (hg:Gl X x) (hm:X.mg x=none) (hv:bootBuiltins x=some (.builtin id)) (ha:PA X (e :: es) t) (hn:x≠"__name__":=by decide) (hdb:(x == ("__debug__":Str))=false:=by decide)
  (he:starEach (e :: es) X.env=(false,eval e X.env) :: starEach es X.env:=by rfl) (hpl:(backTo pos (starEach es X.env)).any (·.1)=false:=by rfl):PE X (.Call (.Name x p) (e :: es) [] pos) (tCB r t):=by
 intro pins s σ H Q I h
 refine wpAny_Call_Name_kw (c'S I hg hm hv ?_ hn hdb)
 exact PyProof.Rows.callWith_builtin1 (thn (ha pos pins s σ H _ I h) λus s1 ⟨vs,H1,I1,r1,q1⟩=>hc pins s1 σ H1 vs us Q I1 r1 q1) he hpl
theorem f'E (hc:CallR X (.type T) r) (hg:Gl X x) (hm:X.mg x=none) (hv:bootBuiltins x=some (.type T)) (ha:PA X (e :: es) t) (hn:x≠"__name__":=by decide) (hdb:(x == ("__debug__":Str))=false:=by decide)
  (he:starEach (e :: es) X.env=(false,eval e X.env) :: starEach es X.env:=by rfl) (hpl:(backTo pos (starEach es X.env)).any (·.1)=false:=by rfl):PE X (.Call (.Name x p) (e :: es) [] pos) (tCB r t):=by
 intro pins s σ H Q I h
 refine wpAny_Call_Name_kw (c'S I hg hm hv ?_ hn hdb)
 exact PyProof.Rows.callWith_type1 (thn (ha pos pins s σ H _ I h) λus s1 ⟨vs,H1,I1,r1,q1⟩=>hc pins s1 σ H1 vs us Q I1 r1 q1) he hpl
end
end L2
namespace L2
open PySem PySem.Spec PyProof.Rows
section
variable {κ:Type} [DecidableEq κ]
def valV (kvs:List (κ×V)) (k:κ):Option V:=(kvs.find? λkv=>decide (kv.1=k)).map (·.2)
def putK (kvs:List (κ×V)) (k:κ) (v:V):List (κ×V):=
 if (kvs.any λkv=>decide (kv.1=k))=true then kvs.map (λkv=>if kv.1=k then (kv.1,v) else kv) else kvs++[(k,v)]
theorem d'U {p:κ×V} {r:List (κ×V)} {k:κ} (e:p.1=k):valV (p :: r) k=some p.2:=by simp [valV,List.find?_cons,e]
theorem d'V {p:κ×V} {r:List (κ×V)} {k:κ} (e:¬ p.1=k):valV (p :: r) k=valV r k:=by simp [valV,List.find?_cons,e]
theorem g'C (k:κ):∀ kvs:List (κ×V),(kvs.any λkv=>decide (kv.1=k))=(valV kvs k).isSome
 | [] => rfl
 | p :: r => by
  rw [List.any_cons]
  by_cases e:p.1=k
  ·simp only [d'U e,decide_eq_true e,Bool.true_or,Option.isSome_some]
  ·rw [d'V e,decide_eq_false e,Bool.false_or];exact g'C k r
theorem c'e (kvs:List (κ×V)) (k:κ) (v:V):(putK kvs k v).length<=kvs.length+1:=by
 unfold putK
 split
 ·rw [List.length_map];omega
 ·rw [List.length_append,List.length_cons,List.length_nil];omega
theorem RelO.isSome_eq {o:Option V} {u:Option Value} (r:RelO o u):o.isSome=u.isSome:=by
 cases o with
 | none => cases u with
  | none=>rfl
  | some _=>exact (show False from r).elim
 | some _ => cases u with
  | none=>exact (show False from r).elim
  | some _=>rfl
theorem RelO.getD {o:Option V} {u:Option Value} {d:V} {d':Value} (r:RelO o u) (rd:RelV d d'):RelV (o.getD d) (u.getD d'):=by
 cases o with
 | none => cases u with
  | none=>exact rd
  | some _=>exact (show False from r).elim
 | some _ => cases u with
  | none=>exact (show False from r).elim
  | some _=>exact r
theorem KV.val {kvs:List (κ×V)} {vs:List (κ×Value)} (r:KV kvs vs) (k:κ):RelO (valV kvs k) (valueAt vs k):=by
 unfold KV at r
 induction r with
 | nil => exact True.intro
 | @cons p q ps qs h t ih =>
  obtain⟨h1,h2⟩:=h
  by_cases e:p.1=k
  ·have e':q.1=k:=h1.symm.trans e
   have b:valueAt (q :: qs) k=some q.2:=by simp [valueAt,List.find?_cons,e']
   rw [d'U e,b];exact h2
  ·have e':¬ q.1=k:=λz=>e (h1.trans z)
   have b:valueAt (q :: qs) k=valueAt qs k:=by simp [valueAt,List.find?_cons,e']
   rw [d'V e,b];exact ih
theorem KV.any {kvs:List (κ×V)} {vs:List (κ×Value)} (r:KV kvs vs) (k:κ):(kvs.any λkv=>decide (kv.1=k))=vs.any λkv=>decide (kv.1=k):=by
 unfold KV at r
 induction r with
 | nil => rfl
 | cons h t ih => rw [List.any_cons, List.any_cons, ih, h.1]
theorem KV.repl {kvs:List (κ×V)} {vs:List (κ×Value)} (r:KV kvs vs) (k:κ) {y:V} {u:Value} (ry:RelV y u) :
  KV (kvs.map λkv=>if kv.1=k then (kv.1,y) else kv) (vs.map λkv=>if kv.1=k then (kv.1,u) else kv):=by
 unfold KV at r ⊢
 induction r with
 | nil => exact .nil
 | @cons p q ps qs h t ih =>
  rw [List.map_cons,List.map_cons]
  refine .cons ?_ ih
  obtain⟨h1,h2⟩:=h
  by_cases e:p.1=k
  ·rw [if_pos e,if_pos (h1.symm.trans e)];exact⟨h1,ry⟩
  ·rw [if_neg e,if_neg (λz=>e (h1.trans z))];exact⟨h1,h2⟩
theorem KV.put {kvs:List (κ×V)} {vs:List (κ×Value)} (r:KV kvs vs) (k:κ) {y:V} {u:Value} (ry:RelV y u):KV (putK kvs k y) (stored vs k u):=by
 unfold putK stored
 rw [r.any k]
 by_cases e:(vs.any λkv=>decide (kv.1=k))=true
 ·rw [if_pos e,if_pos e];exact r.repl k ry
 ·rw [if_neg e,if_neg e];exact Paired.snoc r ⟨rfl,ry⟩
theorem KV.length {kvs:List (κ×V)} {vs:List (κ×Value)} (r:KV kvs vs):kvs.length=vs.length:=Paired.length r
end
theorem b'I {P:Program} {w:World} {k:Key} {u:Value} (r:RelV (kV k) u):(mixKind P w).is k u=true:=by
 cases k with
 | inl i => obtain ⟨t, e⟩ := (show ∃ t, u = Value.int i t from r); subst e; exact i'a P w i t
 | inr x => obtain ⟨t, e⟩ := (show ∃ t, u = Value.str x t from r); subst e; exact c'd P w x t
theorem f'F {P:Program} {w:World}:∀ {ks:List Key} {us:List Value},Vals (ks.map kV) us->ItemsAre (mixKind P w) ks us
 | [], _, r => by rw [List.map_nil] at r; cases r; exact .nil
 | k :: ks, _, r => by
  rw [List.map_cons] at r
  cases r with
  | cons h t=>exact .cons (b'I h) (f'F t)
abbrev KT (H:Hp):List (List Key×V)->List (List Key×Addr×Value)->Prop:=Paired λp q=>p.1=q.1/\H q.2.1=some (.tup (p.1.map kV))/\RelV p.2 q.2.2
theorem KT.val {H:Hp} {kvs:List (List Key×V)} {xs:List (List Key×Addr×Value)} (r:KT H kvs xs) (k:List Key):RelO (valV kvs k) ((atKey xs k).map (·.2)):=by
 induction r with
 | nil => exact True.intro
 | @cons p q ps qs h t ih =>
  obtain⟨h1,_,h2⟩:=h
  by_cases e:p.1=k
  ·have e':q.1=k:=h1.symm.trans e
   have b:atKey (q :: qs) k=some q.2:=by simp [atKey,List.find?_cons,e']
   rw [d'U e,b];exact h2
  ·have e':¬ q.1=k:=λz=>e (h1.trans z)
   have b:atKey (q :: qs) k=atKey qs k:=by simp [atKey,List.find?_cons,e']
   rw [d'V e,b];exact ih
theorem KT.repl {H:Hp} {kvs:List (List Key×V)} {xs:List (List Key×Addr×Value)} (r:KT H kvs xs) (k:List Key) {y:V} {u:Value} (ry:RelV y u) :
  KT H (kvs.map λkv=>if kv.1=k then (kv.1,y) else kv) (xs.map (putAt k u)):=by
 induction r with
 | nil => exact .nil
 | @cons p q ps qs h t ih =>
  rw [List.map_cons,List.map_cons]
  refine .cons ?_ ih
  obtain⟨h1,h2,h3⟩:=h
  unfold putAt
  by_cases e:p.1=k
  ·rw [if_pos e,if_pos (h1.symm.trans e)];exact⟨h1,h2,ry⟩
  ·rw [if_neg e,if_neg (λz=>e (h1.trans z))];exact⟨h1,h2,h3⟩
theorem KT.put {H:Hp} {kvs:List (List Key×V)} {xs:List (List Key×Addr×Value)} (r:KT H kvs xs) (k:List Key) {b:Addr} {y:V} {u:Value} (hb:H b=some (.tup (k.map kV))) (ry:RelV y u) :
  KT H (putK kvs k y) (storedH xs k b u):=by
 have e:(kvs.any λkv=>decide (kv.1=k))=(atKey xs k).isSome:=by
  rw [g'C,(r.val k).isSome_eq,Option.isSome_map]
 unfold putK storedH
 rw [e]
 by_cases q:(atKey xs k).isSome=true
 ·rw [if_pos q,if_pos q];exact r.repl k ry
 ·rw [if_neg q,if_neg q];exact Paired.snoc r ⟨rfl,hb,ry⟩
theorem KT.keeps {H H':Hp} {kvs:List (List Key×V)} {xs:List (List Key×Addr×Value)} (r:KT H kvs xs) (ht:∀ b ys,H b=some (.tup ys)->H' b=some (.tup ys)):KT H' kvs xs:=
 Paired.mapP r λ_ _ z=>⟨z.1,ht _ _ z.2.1,z.2.2⟩
section
variable {P:Program} {w:World} {H:Hp} {h:Heap} {a:Addr}
theorem p'H {u:HO} (ok:HOk P w H h) (e:Rd H a u):ObjOk P w H h a u:=e.ok ok
theorem b'd {kvs:List (Key×V)} (ok:HOk P w H h) (e:Rd H a (.dK kvs)):kvs.length<=sizeLine/\(a == sysModules)=false/\∃ vs,KV kvs vs/\h.DictOf (mixKind P w) a vs:=
 show ObjOk P w H h a (.dK kvs) from p'H ok e
theorem g'p {kvs:List (Key×V)} (ok:HOk P w H h) (e:H a=some (.dK kvs)):kvs.length<=sizeLine/\(a == sysModules)=false/\∃ vs,KV kvs vs/\h.DictOf (mixKind P w) a vs:=b'd ok (.inl e)
theorem c'j {ks:List Key} (ok:HOk P w H h) (e:H a=some (.tup (ks.map kV))):(tupleKind (mixKind P w)).is h ks a:=by
 obtain⟨_,its,r,o,h1,h2,n,h3⟩:=(show ObjOk P w H h a (.tup (ks.map kV)) from ok a _ e)
 exact⟨o,its.toArray,n,h1,h2,h3,by simpa using f'F r⟩
theorem c'A {kvs:List (List Key×V)} (ok:HOk P w H h) (e:Rd H a (.dT kvs)):kvs.length<=sizeLine/\(a == sysModules)=false/\
  ∃ xs,KT H kvs xs/\h.DictOfH (tupleKind (mixKind P w)) a xs:=by
 obtain⟨z,y,xs,r,o,es,ep,h1,h2,h3,h4,h5⟩:=(show ObjOk P w H h a (.dT kvs) from p'H ok e)
 refine⟨z,y,xs,r,o,es,ep,h1,h2,h3,h4,λx hx=>?_,h5⟩
 have all:∀ {l:List (List Key×V)} {m:List (List Key×Addr×Value)},KT H l m->∀ x∈m,(tupleKind (mixKind P w)).is h x.1 x.2.1:=by
  intro l m q
  induction q with
  | nil=>intro x hx;exact nomatch hx
  | @cons p q ps qs hq t ih=>
   intro x hx
   rcases List.mem_cons.mp hx with e | hx
   ·subst e
    exact c'j ok (by rw [<- hq.1];exact hq.2.1)
   ·exact ih x hx
 exact all r x hx
theorem w'g {kvs:List (List Key×V)} (ok:HOk P w H h) (e:H a=some (.dT kvs)):kvs.length<=sizeLine/\(a == sysModules)=false/\
  ∃ xs,KT H kvs xs/\h.DictOfH (tupleKind (mixKind P w)) a xs:=c'A ok (.inl e)
end
def DGet (H:Hp) (a:Addr) (y:V) (r:Option V):Prop:=
 (∃ kvs k,Rd H a (.dK kvs)/\y=kV k/\r=valV kvs k)\/∃ kvs k b,Rd H a (.dT kvs)/\y=.ref b/\H b=some (.tup (k.map kV))/\r=valV kvs k
def DPut (H:Hp) (a:Addr) (y v:V) (H':Hp):Prop:=
 (∃ kvs k,H a=some (.dK kvs)/\y=kV k/\kvs.length<sizeLine/\H'=upd H a (.dK (putK kvs k v)))\/
 ∃ kvs k b,H a=some (.dT kvs)/\y=.ref b/\H b=some (.tup (k.map kV))/\kvs.length<sizeLine/\H'=upd H a (.dT (putK kvs k v))
theorem DPut.k {H:Hp} {a:Addr} {kvs:List (Key×V)} {k:Key} {v:V} (e:H a=some (.dK kvs)) (hl:kvs.length<sizeLine):DPut H a (kV k) v (upd H a (.dK (putK kvs k v))):=.inl ⟨kvs,k,e,rfl,hl,rfl⟩
section
variable {X:Cx} {pins:List (Addr×Obj)} {σ:St} {H:Hp} {s:Shared} {a:Addr} {y v:V} {u r:Value} {o:Option V} {A:Around} {E:Value->Shared->Prop}
theorem Inv.big (I:Inv X pins σ H s):sysModules<s.heap.objs.size:=by
 have h:mainGlobals<s.heap.objs.size:=(I.mod.glob.keeps I.bk).lt
 exact Nat.lt_trans (by decide) h
theorem l'p {Q:Value->Shared->Prop} (hu:A.units+1<cLine) (I:Inv X pins σ H s) (g:DGet H a y (some v)) (ry:RelV y u) (h:∀ w' s',Inv X pins σ H s'->RelV v w'->Q w' s') :
  wpAny (model X.prog X.w) A (getItem (.ref a) u) Q E s:=by
 rcases g with ⟨kvs,k,e,ey,l⟩ | ⟨kvs,k,b,e,ey,eb,l⟩
 ·subst ey
  obtain⟨z,hd,vs,rel,dd⟩:=b'd I.hok e
  obtain⟨w',hw,rw'⟩:=RelO.some_of (v:=v) (o:=valueAt vs k) (by rw [l];exact rel.val k)
  exact wpAny_getItem_of (b'I ry) dd.mapOf hw (h w' _ (I.tok _) rw')
 ·subst ey
  cases (show u=Value.ref b from ry)
  obtain⟨z,hd,xs,rel,dd⟩:=c'A I.hok e
  obtain⟨w',hw,rw'⟩:=RelO.some_of (v:=v) (o:=(atKey xs k).map (·.2)) (by rw [l];exact rel.val k)
  obtain⟨p,hp,hp2⟩:=Option.map_eq_some_iff.mp hw
  refine wpAny_getItem_heap (tupleKind_room_in1 hu) (c'j I.hok eb) dd hp ?_
  rw [hp2]
  exact h w' _ (I.tok _) rw'
theorem w'J {Q:Value->Shared->Prop} (hu:A.units+1<cLine) (I:Inv X pins σ H s) (g:DGet H a y o) (ry:RelV y u) (h:∀ s',Inv X pins σ H s'->Q (.bool o.isSome) s') :
  wpAny (model X.prog X.w) A (compareOp .In u (.ref a)) Q E s:=by
 rcases g with ⟨kvs,k,e,ey,l⟩ | ⟨kvs,k,b,e,ey,eb,l⟩
 ·subst ey
  obtain⟨z,hd,vs,rel,dd⟩:=b'd I.hok e
  refine wpAny_in_of (b'I ry) hd dd.mapOf ?_
  rw [<- (rel.val k).isSome_eq,<- l]
  exact h _ (I.tok _)
 ·subst ey
  cases (show u=Value.ref b from ry)
  obtain⟨z,hd,xs,rel,dd⟩:=c'A I.hok e
  refine wpAny_in_heap (tupleKind_room_in1 hu) (c'j I.hok eb) hd dd ?_
  have q:=(rel.val k).isSome_eq
  rw [Option.isSome_map] at q
  rw [<- q,<- l]
  exact h _ (I.tok _)
theorem r'E {Q:Value->Shared->Prop} (hu:A.units+1<cLine) (I:Inv X pins σ H s) (g:DGet H a y o) (ry:RelV y u) (h:∀ s',Inv X pins σ H s'->Q (.bool (!o.isSome)) s') :
  wpAny (model X.prog X.w) A (compareOp .NotIn u (.ref a)) Q E s:=by
 rcases g with ⟨kvs,k,e,ey,l⟩ | ⟨kvs,k,b,e,ey,eb,l⟩
 ·subst ey
  obtain⟨z,hd,vs,rel,dd⟩:=b'd I.hok e
  refine wpAny_notIn_of (b'I ry) hd dd.mapOf ?_
  rw [<- (rel.val k).isSome_eq,<- l]
  exact h _ (I.tok _)
 ·subst ey
  cases (show u=Value.ref b from ry)
  obtain⟨z,hd,xs,rel,dd⟩:=c'A I.hok e
  refine wpAny_notIn_heap (tupleKind_room_in1 hu) (c'j I.hok eb) hd dd ?_
  have q:=(rel.val k).isSome_eq
  rw [Option.isSome_map] at q
  rw [<- q,<- l]
  exact h _ (I.tok _)
theorem d'm {h':Heap} {t':Nat} {ob:HO} (I:Inv X pins σ H s) (mu:Mut (H a)) (hs:Heap.SameBut a s.heap h') (he:∃ q,h'.get? a=some q) (new:ObjOk X.prog X.w (upd H a ob) h' a ob) :
  Inv X pins σ (upd H a ob) { s with heap:=h',toks:=t' }:=
 I.write (x:=a) (e:=a) mu (.inl rfl) (λb q hb z=>(hs.2 b hb).trans z) he new
theorem e'n {P:Program} {w:World} {H':Hp} {h':Heap} {kvs:List (Key×V)} {vs:List (Key×Value)} (z:kvs.length<=sizeLine) (hd:(a == sysModules)=false) (rel:KV kvs vs) (dd:h'.DictOf (mixKind P w) a vs) :
  ObjOk P w H' h' a (.dK kvs):=⟨z,hd,vs,rel,dd⟩
theorem l'q {H':Hp} {Q:Unit->Shared->Prop} (hu:A.units+1<cLine) (I:Inv X pins σ H s) (g:DPut H a y v H') (ry:RelV y u) (rv:RelV v r) (h:∀ s',Inv X pins σ H' s'->Q () s') :
  wpAny (model X.prog X.w) A (setItem (.ref a) u r) Q E s:=by
 rcases g with ⟨kvs,k,e,ey,l,eH⟩ | ⟨kvs,k,b,e,ey,eb,l,eH⟩
 ·subst ey eH
  obtain⟨z,hd,vs,rel,dd⟩:=g'p I.hok e
  have hz:vs.length<=sizeLine:=by rw [<- rel.length];exact z
  have hl:(putK kvs k v).length<=sizeLine:=by have:=c'e kvs k v;omega
  refine wpAny_setItem_pairs (hsz:=hz) (b'I ry) dd λh' dd' hs=>h _ ?_
  have he:∃ q,h'.get? a=some q:=let ⟨q,_,_,hq,_⟩:=dd';⟨q,hq⟩
  exact d'm I (by rw [e];exact True.intro) hs he (e'n hl hd (rel.put k rv) dd')
 ·subst ey eH
  cases (show u=Value.ref b from ry)
  obtain⟨z,hd,xs,rel,dd⟩:=w'g I.hok e
  have hz:xs.length<=sizeLine:=by rw [<- Paired.length rel];exact z
  have hl:(putK kvs k v).length<=sizeLine:=by have:=c'e kvs k v;omega
  refine wpAny_setItem_heap (hsz:=hz) (tupleKind_room_in1 hu) (c'j I.hok eb) dd λh' dd' hs=>h _ ?_
  obtain⟨q,es,ep,hq,h2,h3,h4,_,h5⟩:=dd'
  refine d'm I (by rw [e];exact True.intro) hs ⟨q,hq⟩ ⟨hl,hd,_,(rel.put k eb rv).keeps λc ys ec=>?_,q,es,ep,hq,h2,h3,h4,h5⟩
  rw [a'f (v'Z ec e (λz=>nomatch z))]
  exact ec
end
section
variable {X:Cx} {pins:List (Addr×Obj)} {σ:St} {H:Hp} {s:Shared} {a:Addr} {kvs:List (Key×V)} {k:Key} {u:Value} {A:Around} {E:Value->Shared->Prop}
theorem r'F {Q:Value->Shared->Prop} (I:Inv X pins σ H s) (e:H a=some (.dK kvs)) (h:∀ s',Inv X pins σ (upd H a (.dK [])) s'->Q .none s'):wpAny (model X.prog X.w) A (call (.builtin "dict.clear") [.ref a]) Q E s:=by
 obtain⟨z,hd,vs,rel,dd⟩:=g'p I.hok e
 refine call_meetsIn PySem.F.slot_dict_clear dd.typeIs PySem.F.entry_dict_clear (PySem.F.args_dict_clear_1 _) (meets_dict_clear (mixKind X.prog X.w) a) ⟨vs,dd,by rw [<- rel.length];exact z,λh' dd' hs=>h _ ?_⟩
 have he:∃ q,h'.get? a=some q:=let ⟨q,_,_,hq,_⟩:=dd';⟨q,hq⟩
 exact d'm (t':=s.toks) I (by rw [e];exact True.intro) hs he (e'n (Nat.zero_le _) hd .nil dd')
theorem w'h {Q:Value->Shared->Prop} (I:Inv X pins σ H s) (e:Rd H a (.dK kvs)) (h:∀ t s',Inv X pins σ H s'->Q (.int kvs.length t) s'):wpAny (model X.prog X.w) A (call (.builtin "len") [.ref a]) Q E s:=by
 obtain⟨z,hd,vs,rel,dd⟩:=b'd I.hok e
 refine call_len_dict hd dd (by rw [<- rel.length];rw [sizeLine_eq] at z;omega) ?_
 rw [<- rel.length]
 exact h _ _ (I.tok _)
end
def NoSl (i:Expr):Prop:=∀ ov iv,subscripted i false ov iv=operate [ov,iv] (getItem ov iv)
theorem r'G {prog:Program} {w:World} {A:Around} {E:Value->Shared->Prop} {s:Shared} {env:Env} {value slice:Expr} {pos:Pos} {T id:String} {Q:Value->Shared->Prop}
  (hl:typeLookup (.type T) "__getitem__"=pure (some (.builtin id))) (hs:NoSl slice)
  (h:wpAny (model prog w) A (eval value env) (λo s₁=>wpAny (model prog w) A (eval slice env) (λi s₂=>s₂.TypeIs o T/\wpAny (model prog w) A (getItem o i) Q E s₂) E s₁) E s) :
  wpAny (model prog w) A (eval (.Subscript value slice pos) env) Q E s:=by
 refine Subscript_ (wpAny_mono h (λo s₁ h₁=>wpAny_mono h₁ (λi s₂ h₂=>?_) λ_ _ x=>x) λ_ _ x=>x)
 obtain⟨hT,h₂⟩:=h₂
 unfold subscriptTail
 refine wpAny_bind ?_
 rw [getitemInPython_of_ne hT.not_modules]
 refine wpAny_bind (wpAny_specialOf hT hl ?_)
 have fin:wpAny (model prog w) A (subscripted slice false o i) (λr s₃=>wpAny (model prog w) A (letTemporaryGo value o r >>= λ_=>pure r) Q E s₃) E s₂:=by
  rw [hs o i]
  exact wpAny_operating (wpAny_mono h₂ (λr s₃ h₃=>wpAny_bind (wpAny_letTemporaryGo (wpAny_pure h₃))) λ_ _ x=>x)
 first
  | exact wpAny_pure (wpAny_bind fin)
  | exact wpAny_bind (wpAny_pure (wpAny_bind fin))
  | exact wpAny_bind fin
theorem i'b {X:Cx} {pins:List (Addr×Obj)} {σ:St} {H:Hp} {s:Shared} {a:Addr} {y:V} {o:Option V} (I:Inv X pins σ H s) (g:DGet H a y o):s.TypeIs (.ref a) "dict":=by
 rcases g with ⟨kvs,k,e,_,_⟩ | ⟨kvs,k,b,e,_,_,_⟩
 ·obtain⟨_,_,vs,_,dd⟩:=b'd I.hok e
  exact dd.typeIs
 ·obtain⟨_,_,xs,_,dd⟩:=c'A I.hok e
  exact dd.typeIs
def sDPut (td ty tv:TE):TS:=λD σ H=>tv σ H λv H1=>td σ H1 λx H2=>ty σ H2 λy H3=>∃ a H4,x=.ref a/\DPut H3 a y v H4/\D.nx σ H4
section
variable {X:Cx} {o i e value:Expr} {pos pos' tpos:Pos} {td ty tv:TE}
theorem r'H (hu:X.A.units+1<cLine) (ho:PE X o td) (hi:PE X i ty) (hv:PE X value tv) (hs:swapsWith value (some (.Subscript o i pos')) pos.line X.env=pure false) :
  PS X (.Assign [.Subscript o i pos'] value pos) (sDPut td ty tv):=by
 intro pins s σ H D I h
 refine wpAny_Assign_Subscript (thn (hv pins s σ H _ I h) λr s1 ⟨v,H1,I1,rv,q1⟩=>thn (ho pins s1 σ H1 _ I1 q1) λu s2 ⟨x,H2,I2,rx,q2⟩=>thn (hi pins s2 σ H2 _ I2 q2) λiv s3 ⟨y,H3,I3,ry,a,H4,ex,g,q3⟩=>?_) hs
 subst ex
 obtain rfl:u=Value.ref a:=rx
 exact l'q hu I3 g ry rv λs4 I4=>⟨σ,H4,I4,q3⟩
end
theorem g'D {P:Program} {w:World} {H:Hp} (h:Heap) (hb:sysModules<h.objs.size):ObjOk P w H (h.push { cls:=.type "dict",data:=.dict #[] }) h.objs.size (.dK []):=
 ⟨Nat.zero_le _,beq_eq_false_iff_ne.mpr (Ne.symm (Nat.ne_of_lt hb)),[],.nil,Heap.DictOf.new h⟩
def tDNewK:TE:=λ_ H Q=>∀ p,H p=none->Q (.ref p) (upd H p (.dK []))
section
variable {X:Cx} {pos:Pos}
theorem o'k:PE X (.Dict [] [] pos) tDNewK:=λpins s σ H Q I h=>
 wpAny_Dict_empty ⟨.ref s.heap.objs.size,_,I.laid (a:=s.heap.objs.size) (o:=.dK []) (t':=s.toks) (λ_ _ q=>Heap.get?_push_of_some _ q) (Nat.le_refl _) (g'D s.heap I.big),rfl,h _ (I.hok.fresh (Nat.le_refl _))⟩
end
def tPairs:List (TE×TE)->St->Hp->(List (V×V)->Hp->Prop)->Prop
 | [], _, H, Q => Q [] H
 | (tk, tv) :: r, σ, H, Q => tk σ H λx H1 => tv σ H1 λy H2 => tPairs r σ H2 λps H3 => Q ((x, y) :: ps) H3
abbrev VV:List (V×V)->List (Value×Value)->Prop:=Paired λp q=>RelV p.1 q.1/\RelV p.2 q.2
def PPs (X:Cx) (pos:Pos) (keys:List (Option Expr)) (values:List Expr) (trs:List (TE×TE)):Prop:=
 ∀ (pins:List (Addr×Obj)) (s:Shared) (σ:St) (H:Hp) (Q:List (V×V)->Hp->Prop),Inv X pins σ H s->tPairs trs σ H Q->
  wpAny (model X.prog X.w) X.A (evalPairs (pairTrees keys values X.env pos)) (λvs s'=>∃ ps H',Inv X pins σ H' s'/\VV ps vs/\Q ps H') X.xe s
theorem r'I {X:Cx} {pos:Pos}:PPs X pos [] [] []:=λpins s σ H Q I h=>pairTrees_nil_walk ⟨[],H,I,.nil,h⟩
theorem o'l {X:Cx} {pos:Pos} {k v:Expr} {ks:List (Option Expr)} {vs:List Expr} {tk tv:TE} {trs:List (TE×TE)} (hk:PE X k tk) (hv:PE X v tv) (hr:PPs X pos ks vs trs) :
  PPs X pos (some k :: ks) (v :: vs) ((tk,tv) :: trs):=λpins s σ H Q I h=>
 pairTrees_cons_walk (thn (hk pins s σ H _ I h) λu s1 ⟨x,H1,I1,rx,q1⟩=>thn (hv pins s1 σ H1 _ I1 q1) λw2 s2 ⟨y,H2,I2,ry,q2⟩=>
  thn (hr pins s2 σ H2 _ I2 q2) λws s3 ⟨ps,H3,I3,rel,q3⟩=>⟨(x,y) :: ps,H3,I3,.cons ⟨rx,ry⟩ rel,q3⟩)
def mergeK (kvs more:List (Key×V)):List (Key×V):=more.foldl (λacc kv=>putK acc kv.1 kv.2) kvs
theorem KV.merge:∀ {more:List (Key×V)} {rs:List (Key×Value)} {kvs:List (Key×V)} {vs:List (Key×Value)},KV more rs->KV kvs vs->KV (mergeK kvs more) (merged vs rs):=by
 intro more rs kvs vs r
 unfold KV at r
 induction r generalizing kvs vs with
 | nil => intro q; exact q
 | @cons p q ps qs h t ih =>
  intro r0
  have e:KV (putK kvs p.1 p.2) (stored vs q.1 q.2):=by
   have:=r0.put p.1 h.2
   rw [<- h.1];exact this
  exact ih e
theorem c'L:∀ (more kvs:List (Key×V)),(mergeK kvs more).length<=kvs.length+more.length
 | [], kvs => by show kvs.length <= kvs.length + 0; omega
 | p :: r, kvs => by
  have h1:=c'L r (putK kvs p.1 p.2)
  have h2:=c'e kvs p.1 p.2
  show (mergeK (putK kvs p.1 p.2) r).length<=_
  rw [List.length_cons];omega
theorem e'o {P:Program} {w:World}:∀ {kvs:List (Key×V)} {ws:List (Value×Value)},VV (kvs.map λkv=>(kV kv.1,kv.2)) ws->∃ rs,Carries (mixKind P w) ws rs/\KV kvs rs
 | [], _, r => by rw [List.map_nil] at r; cases r; exact ⟨[], True.intro, .nil⟩
 | p :: kvs, _, r => by
  rw [List.map_cons] at r
  cases r with
  | @cons a b as bs h t=>
   obtain⟨rs,c,q⟩:=e'o (P:=P) (w:=w) t
   obtain⟨b1,b2⟩:=b
   exact⟨(p.1,b2) :: rs,⟨b'I h.1,rfl,c⟩,.cons ⟨rfl,h.2⟩ q⟩
def tDisp (trs:List (TE×TE)):TE:=λσ H Q=>∀ p,H p=none->tPairs trs σ (upd H p (.dK [])) λps H2=>H2 p=some (.dK [])/\∃ kvs:List (Key×V),ps=kvs.map (λkv=>(kV kv.1,kv.2))/\kvs.length<=15/\Q (.ref p) (upd H2 p (.dK (mergeK [] kvs)))
theorem r'J {X:Cx} {pos:Pos} {keys:List (Option Expr)} {values:List Expr} {trs:List (TE×TE)} (h:PPs X pos keys values trs) (hall:keys.all (·.isSome)=true) (hl:keys.length=values.length) (h0:keys≠[])
  (h15:keys.length<=15):PE X (.Dict keys values pos) (tDisp trs):=by
 intro pins s σ H Q I q
 have hn:=I.hok.fresh (Nat.le_refl s.heap.objs.size)
 have I1:=I.laid (a:=s.heap.objs.size) (o:=.dK []) (h':=s.heap.push { cls:=.type "dict",data:=.dict #[] }) (t':=s.toks) (λ_ _ q=>Heap.get?_push_of_some _ q) (Nat.le_refl _) (g'D s.heap I.big)
 refine wpAny_Dict_walk (knd:=mixKind X.prog X.w) hall hl h0 h15 (thn (h pins _ σ _ _ I1 (q _ hn)) λws s2 ⟨ps,H2,I2,rel,e,kvs,ep,lk,q2⟩=>?_)
 subst ep
 obtain⟨rs,c,rk⟩:=e'o (P:=X.prog) (w:=X.w) rel
 obtain⟨z,hd,vs0,r0,dd⟩:=g'p I2.hok e
 cases r0
 refine⟨rs,c,dd,λh' dd' hs=>⟨.ref s.heap.objs.size,_,?_,rfl,q2⟩⟩
 have hz:(mergeK [] kvs).length<=sizeLine:=by
  have h1:=c'L kvs []
  rw [List.length_nil] at h1
  rw [sizeLine_eq];omega
 have he:∃ q,h'.get? s.heap.objs.size=some q:=let ⟨q,_,_,hq,_⟩:=dd';⟨q,hq⟩
 exact d'm I2 (by rw [e];exact True.intro) hs he (e'n hz hd (rk.merge .nil) dd')
structure M2 (X:Cx) (o:Expr) (m:Str) (apos:Pos) (e f:Expr) (cpos:Pos):Prop where
 base:attributeBase o m X.env (eval o X.env)=eval o X.env
 few:((backTo cpos (starEach [e,f] X.env)).all (λx=>!x.1) && (backToKw cpos (keywordEach [] X.env)).all (λx=>x.1.isSome)
  && decide (([e,f]:List Expr).length+([]:List Keyword).length+(if ([]:List Keyword).isEmpty then 0 else 1)<30))=true
 line:(apos.endLine == cpos.line)=true
 trees:backTo cpos (starEach [e,f] X.env)=[(false,eval e X.env),(false,eval f X.env)]
def IsD (H:Hp) (a:Addr):Prop:=(∃ kvs,Rd H a (.dK kvs))\/∃ kvs,Rd H a (.dT kvs)
theorem g'E {X:Cx} {pins:List (Addr×Obj)} {σ:St} {H:Hp} {s:Shared} {a:Addr} (I:Inv X pins σ H s) (d:IsD H a) :
  s.TypeIs (.ref a) "dict"/\(∀ b,Value.ref a=.ref b->∃ ob,s.heap.get? b=some ob/\ob.dict=none)/\(a == sysModules)=false:=by
 rcases d with ⟨kvs,e⟩ | ⟨kvs,e⟩
 ·obtain⟨_,hd,vs,_,dd⟩:=b'd I.hok e
  refine⟨dd.typeIs,λb q=>?_,hd⟩
  cases q
  obtain⟨ob,_,_,h1,h2,_⟩:=dd
  exact⟨ob,h1,h2.2.1⟩
 ·obtain⟨_,hd,xs,_,dd⟩:=c'A I.hok e
  refine⟨dd.typeIs,λb q=>?_,hd⟩
  cases q
  obtain⟨ob,_,_,h1,h2,_⟩:=dd
  exact⟨ob,h1,h2.2.1⟩
section
variable {X:Cx} {pins:List (Addr×Obj)} {σ:St} {H:Hp} {s:Shared} {a:Addr} {y d:V} {u r:Value} {o:Option V} {A:Around} {E:Value->Shared->Prop}
theorem t'W {Q:Value->Shared->Prop} (hu:A.units+1<cLine) (I:Inv X pins σ H s) (g:DGet H a y o) (ry:RelV y u) (rd:RelV d r) (h:∀ w' s',Inv X pins σ H s'->RelV (o.getD d) w'->Q w' s') :
  wpAny (model X.prog X.w) A (call (.builtin "dict.get") [.ref a,u,r]) Q E s:=by
 rcases g with ⟨kvs,k,e,ey,l⟩ | ⟨kvs,k,b,e,ey,eb,l⟩
 ·subst ey
  obtain⟨z,hd,vs,rel,dd⟩:=b'd I.hok e
  refine call_meetsIn PySem.F.slot_dict_get dd.typeIs PySem.F.entry_dict_get (PySem.F.args_dict_get_3 _ _ _) (meets_dict_get_default (mixKind X.prog X.w) a (b'I ry) hd r) ⟨_,dd.mapOf,h _ _ (I.tok _) ?_⟩
  rw [l]
  exact (rel.val k).getD rd
 ·subst ey
  cases (show u=Value.ref b from ry)
  obtain⟨z,hd,xs,rel,dd⟩:=c'A I.hok e
  refine call_meetsIn PySem.F.slot_dict_get dd.typeIs PySem.F.entry_dict_get (PySem.F.args_dict_get_3 _ _ _) (meetsH_dict_get_default (tupleKind (mixKind X.prog X.w)) a b hd r) ⟨tupleKind_room_in1 hu,k,xs,c'j I.hok eb,dd,h _ _ (I.tok _) ?_⟩
  rw [l]
  exact (rel.val k).getD rd
end
def tDGet2 (td ty tx:TE):TE:=λσ H Q=>td σ H λx H1=>∃ a,x=.ref a/\IsD H1 a/\ty σ H1 λy H2=>tx σ H2 λz H3=>∃ o,DGet H3 a y o/\Q (o.getD z) H3
section
variable {X:Cx} {o e f:Expr} {apos cpos:Pos} {td ty tx:TE}
theorem o'm (hu:X.A.units+1<cLine) (ho:PE X o td) (he:PE X e ty) (hf:PE X f tx) (m:M2 X o "get" apos e f cpos):PE X (.Call (.Attribute o "get" apos) [e,f] [] cpos) (tDGet2 td ty tx):=by
 intro pins s σ H Q I h
 refine wpAny_Call_method m.base m.few m.line PySem.F.plainAttrs_dict PySem.F.slot_dict_get PySem.F.type_dict_get (thn (ho pins s σ H _ I h) λu s1 ⟨x,H1,I1,rx,a,ex,d,q1⟩=>?_)
 subst ex
 obtain rfl:u=Value.ref a:=rx
 obtain⟨t1,t2,_⟩:=g'E I1 d
 refine⟨t1,t2,?_⟩
 rw [m.trees]
 refine Calls.callWith_builtin rfl (Calls.evalArgs_plain (Calls.spliced_cons (thn (he pins s1 σ H1 _ I1 q1) λiv s2 ⟨y,H2,I2,ry,q2⟩=>
  Calls.spliced_cons (thn (hf pins s2 σ H2 _ I2 q2) λfv s3 ⟨z,H3,I3,rz,ov,g,q3⟩=>Calls.spliced_nil ?_))))
 exact t'W hu I3 g ry rz λw' s4 I4 rw'=>⟨_,H3,I4,rw',q3⟩
end
section
variable {X:Cx} {pins:List (Addr×Obj)} {σ:St} {H:Hp} {s:Shared} {a:Addr} {kvs:List (Key×V)} {A:Around} {E:Value->Shared->Prop}
theorem o'n {Q:Value->Shared->Prop} (I:Inv X pins σ H s) (e:Rd H a (.dK kvs)) (h:∀ p s',H p=none->Inv X pins σ (upd H p (.dK kvs)) s'->Q (.ref p) s'):wpAny (model X.prog X.w) A (call (.type "dict") [.ref a]) Q E s:=by
 obtain⟨z,hd,vs,rel,dd⟩:=b'd I.hok e
 refine kt_call_dict hd dd (by rw [<- rel.length];exact z) λh' dd' hs=>?_
 refine h _ _ (I.hok.fresh (Nat.le_refl _)) (I.laid (a:=s.heap.objs.size) (o:=.dK kvs) (t':=s.toks) (λb q hq=>?_) (Nat.le_refl _) (e'n z (beq_eq_false_iff_ne.mpr (Ne.symm (Nat.ne_of_lt I.big))) rel dd'))
 exact (hs.2 b (Nat.ne_of_lt (Heap.lt_size hq))).trans (Heap.get?_push_of_some _ hq)
end
section
variable {X:Cx} {pins:List (Addr×Obj)} {σ:St} {H:Hp} {s:Shared} {a:Addr} {y:V} {u:Value} {A:Around} {E:Value->Shared->Prop}
end
end L2
namespace HT
open PySem PyProof.Rows
section
open PySem.SeqAt
open PySem.AutoSeq1 (wpAny_loadPart')
open PySem.MeetsSeq PySem.MeetsSeq2 PySem.MeetsSeq3
end
section
variable {prog:Program} {w:World} {A:Around} {E:Value->Shared->Prop} {s:Shared}
def sIx (n d:Nat):Option Int->Nat
 | none => d
 | some v => if v < 0 then (v + (n : Int)).toNat else min v.toNat n
end
end HT
namespace L2
open PySem PySem.Spec PyProof.Rows
abbrev TO:=St->Hp->(Option Int->Hp->Prop)->Prop
def PO (X:Cx) (e:Option Expr) (t:TO):Prop:=
 ∀ (pins:List (Addr×Obj)) (s:Shared) (σ:St) (H:Hp) (Q:Option Int->Hp->Prop),Inv X pins σ H s->t σ H Q->
  wpAny (model X.prog X.w) X.A (evalPart e X.env) (λu s'=>∃ o H',Inv X pins σ H' s'/\IsPart u o/\Q o H') X.xe s
def tNoPart:TO:=λ_ H Q=>Q none H
def tPart (t:TE):TO:=λσ H Q=>t σ H λx H1=>∃ i,x=.int i/\Q (some i) H1
section
variable {X:Cx} {e:Expr} {te:TE} {lo hi:Option Expr} {tl th:TO} {pos p2:Pos}
theorem r'K:PO X none tNoPart:=by
 intro pins s σ H Q I h
 rw [evalPart_none]
 exact wpAny_pure ⟨none,H,I,.none,h⟩
theorem r'L (h:PE X e te):PO X (some e) (tPart te):=by
 intro pins s σ H Q I hw
 rw [evalPart_some]
 refine thn (h pins s σ H _ I hw) λu s1 ⟨x,H1,I1,r1,q1⟩=>?_
 obtain⟨i,rfl,q⟩:=q1
 obtain⟨t,rfl⟩:=r1
 exact⟨some i,H1,I1,.int i t,q⟩
def SlR (X:Cx) (r:V->Option Int->Option Int->Hp->VK->Prop):Prop:=
 ∀ (pins:List (Addr×Obj)) (s:Shared) (σ:St) (H:Hp) (x:V) (v vl vu:Value) (lo hi:Option Int) (sl:Addr) (Q:VK),Inv X pins σ H s->RelV x v->s.heap.IsSliceOf sl vl vu .none->IsPart vl lo->IsPart vu hi->r x lo hi H Q->
  ∃ T id,typeLookup (.type T) "__getitem__"=pure (some (.builtin id))/\s.TypeIs v T/\wpAny (model X.prog X.w) X.A (getItem v (.ref sl)) (EP X pins σ Q) X.xe s
theorem SlR.or {r r':V->Option Int->Option Int->Hp->VK->Prop} (h:SlR X r) (h':SlR X r'):SlR X (λx lo hi H Q=>r x lo hi H Q\/r' x lo hi H Q):=by
 intro pins s σ H x v vl vu lo hi sl Q I rx hs pl pu q
 rcases q with q | q
 ·exact h pins s σ H x v vl vu lo hi sl Q I rx hs pl pu q
 ·exact h' pins s σ H x v vl vu lo hi sl Q I rx hs pl pu q
def tSl (r:V->Option Int->Option Int->Hp->VK->Prop) (te:TE) (tl th:TO):TE:=λσ H Q=>te σ H λx H1=>tl σ H1 λl H2=>th σ H2 λu H3=>r x l u H3 Q
theorem o'o {r:V->Option Int->Option Int->Hp->VK->Prop} (hr:SlR X r) (he:PE X e te) (hl:PO X lo tl) (hu:PO X hi th):PE X (.Subscript e (.Slice lo hi none p2) pos) (tSl r te tl th):=by
 intro pins s σ H Q I h
 refine Subscript_ (thn (he pins s σ H _ I h) λv s1 ⟨x,H1,I1,r1,q1⟩=>?_)
 refine wpAny_Slice (thn (hl pins s1 σ H1 _ I1 q1) λvl s2 ⟨l,H2,I2,pl,q2⟩=>thn (hu pins s2 σ H2 _ I2 q2) λvu s3 ⟨u,H3,I3,pu,q3⟩=>?_)
 rw [evalPart_none]
 refine wpAny_pure ?_
 have I4:Inv X pins σ H3 { s3 with heap:=s3.heap.push { cls:=.type "slice",data:=.fields #[vl,vu,.none] } }:=I3.kept (t':=s3.toks) λb ob q=>Heap.get?_push_of_some _ q
 obtain⟨T,id,hT,ht,hg⟩:=hr pins { s3 with heap:=s3.heap.push { cls:=.type "slice",data:=.fields #[vl,vu,.none] } } σ H3 x v vl vu l u s3.heap.objs.size Q I4 r1 (Heap.IsSliceOf.new ..) pl pu q3
 show wpAny (model X.prog X.w) X.A (subscriptTail e (.Slice lo hi none p2) v (.ref s3.heap.objs.size)) (EP X pins σ Q) X.xe { s3 with heap:=s3.heap.push { cls:=.type "slice",data:=.fields #[vl,vu,.none] } }
 exact tail_any (ops:=[.ref s3.heap.objs.size,v]) ht hT hg (by with_unfolding_all rfl)
def cutV (xs:List V) (lo hi:Option Int):List V:=(xs.drop (HT.sIx xs.length 0 lo)).take (HT.sIx xs.length xs.length hi - HT.sIx xs.length 0 lo)
theorem i'c (xs:List V) (lo hi:Option Int):(cutV xs lo hi).length<=xs.length:=by
 unfold cutV
 rw [List.length_take,List.length_drop]
 omega
end
end L2
namespace L2
open PySem PySem.Spec PyProof.Rows
def ixN (n:Nat) (i:Int):Option Nat:=if 0<=i then (if i<n then some i.toNat else none) else if -(n:Int)<=i then some (i+n).toNat else none
def atI {α:Type} (xs:List α) (i:Int):Option α:=(ixN xs.length i).bind λj=>xs[j]?
theorem r'M {n:Nat} {i:Int} {j:Nat} (h:ixN n i=some j):seqIndex? i n=some j/\j<n/\-(n:Int)<=i/\i<n:=by
 unfold ixN at h
 by_cases h0:0<=i
 ·rw [if_pos h0] at h
  by_cases h1:i<n
  ·rw [if_pos h1] at h
   have e:i.toNat=j:=Option.some.inj h
   exact⟨by rw [seqIndex_of h0 h1,e],by omega,by omega,h1⟩
  ·rw [if_neg h1] at h;cases h
 ·rw [if_neg h0] at h
  by_cases h1:-(n:Int)<=i
  ·rw [if_pos h1] at h
   have e:(i+n).toNat=j:=Option.some.inj h
   exact⟨by rw [seqIndex_neg (by omega) h1,e],by omega,h1,by omega⟩
  ·rw [if_neg h1] at h;cases h
theorem e'W {α:Type} {xs:List α} {i:Int} {v:α} (h:atI xs i=some v):∃ j,seqIndex? i xs.length=some j/\xs[j]?=some v/\j<xs.length/\-(xs.length:Int)<=i/\i<xs.length:=by
 unfold atI at h
 cases e:ixN xs.length i with
 | none => rw [e] at h; cases h
 | some j =>
  rw [e] at h
  obtain⟨h1,h2,h3,h4⟩:=r'M e
  exact⟨j,h1,h,h2,h3,h4⟩
def PlainIx (b:Expr):Prop:=∀ o i,subscripted b false o i=operate [o,i] (getItem o i)
def IxR (X:Cx) (r:R2):Prop:=
 ∀ (value slice:Expr) (pins:List (Addr×Obj)) (s:Shared) (σ:St) (H:Hp) (x y:V) (v u:Value) (Q:VK),Inv X pins σ H s->RelV x v->RelV y u->r x y H Q->
  subscripted slice false v u=operate [v,u] (getItem v u)->wpAny (model X.prog X.w) X.A (subscriptTail value slice v u) (EP X pins σ Q) X.xe s
def MtR (X:Cx) (id:String) (r:V->List V->Hp->VK->Prop):Prop:=
 ∀ (pins:List (Addr×Obj)) (s:Shared) (σ:St) (H:Hp) (x:V) (xs:List V) (v:Value) (us:List Value) (Q:VK),Inv X pins σ H s->RelV x v->Vals xs us->r x xs H Q->
  wpAny (model X.prog X.w) X.A (call (.builtin id) (v :: us)) (EP X pins σ Q) X.xe s
section
variable {X:Cx} {a b:Expr} {ta tb:TE} {pos:Pos}
theorem IxR.or {r r':R2} (h:IxR X r) (h':IxR X r'):IxR X (λx y H Q=>r x y H Q\/r' x y H Q):=by
 intro value slice pins s σ H x y v u Q I rx ry q hs
 rcases q with q | q
 ·exact h value slice pins s σ H x y v u Q I rx ry q hs
 ·exact h' value slice pins s σ H x y v u Q I rx ry q hs
theorem p'I {r:R2} (hr:IxR X r) (ha:PE X a ta) (hb:PE X b tb) (hs:PlainIx b):PE X (.Subscript a b pos) (tOp r ta tb):=by
 intro pins s σ H Q I h
 exact Subscript_ (o'h ha hb I h λv u s2 x y H2 I2 rx ry q=>hr a b pins s2 σ H2 x y v u Q I2 rx ry q (hs _ _))
def rIxL (K:W.Frag):R2:=λx y H Q=>∃ p xs i v,x=.ref p/\y=.int i/\SqL K H p xs/\atI xs i=some v/\Q v H
def rIxT (K:W.Frag):R2:=λx y H Q=>∃ p xs i v,x=.ref p/\y=.int i/\SqT K H p xs/\atI xs i=some v/\Q v H
def rIxS:R2:=λx y H Q=>∃ z i c,x=.str z/\y=.int i/\z.length<=sizeLine/\atI z.cps.toList i=some c/\Q (.str ⟨#[c]⟩) H
theorem ix_list:IxR X (rIxL X.K):=by
 intro value slice pins s σ H x y v u Q I rx ry h hs
 obtain⟨p,xs,i,z,rfl,rfl,hq,he,q⟩:=h
 cases rx
 obtain⟨t,rfl⟩:=ry
 obtain⟨its,r,pl,hz⟩:=I.list hq
 obtain⟨j,h1,h2,h3,h4,h5⟩:=e'W he
 obtain⟨w,ew,rw'⟩:=r.get h2
 have hl:=r.length
 have hn:=e'm
 have fin:EP X pins σ Q w s:=⟨z,H,I,rw',q⟩
 by_cases h0:0<=i
 ·have hj:i.toNat=j:=by
   rw [seqIndex_of h0 h5] at h1
   exact Option.some.inj h1
  exact item_listR pl.isList h0 (by omega) (by rw [hj];simpa using ew) fin hs
 ·have hj:(i+(its.toArray.size:Int)).toNat=j:=by
   rw [seqIndex_neg (by omega) h4] at h1
   rw [List.size_toArray,<- hl]
   exact Option.some.inj h1
  exact subscriptTail_builtinR (x:=w) pl.isList.typeIs slot_list_getitem.lookup
   (wpAny_getItem_list_neg (Q:=λr s'=>r=w/\EP X pins σ Q r s') pl.isList (by omega) (by rw [List.size_toArray]<;>omega) (by omega) (by rw [hj];simpa using ew) ⟨rfl,fin⟩) hs
theorem ix_tup:IxR X (rIxT X.K):=by
 intro value slice pins s σ H x y v u Q I rx ry h hs
 obtain⟨p,xs,i,z,rfl,rfl,hq,he,q⟩:=h
 cases rx
 obtain⟨t,rfl⟩:=ry
 obtain⟨its,r,pl,hz⟩:=I.tuple hq
 obtain⟨j,h1,h2,h3,h4,h5⟩:=e'W he
 obtain⟨w,ew,rw'⟩:=r.get h2
 have hl:=r.length
 have hn:=e'm
 have fin:EP X pins σ Q w s:=⟨z,H,I,rw',q⟩
 exact subscriptTail_builtinR (x:=w) pl.typeIs slot_tuple_getitem.lookup
  (getItem_tuple (j:=j) (Q:=λr s'=>r=w/\EP X pins σ Q r s') pl (by omega) (by omega) (by rw [List.size_toArray,<- hl];exact h1) (by simpa using ew) ⟨rfl,fin⟩) hs
theorem t'X:IxR X rIxS:=by
 intro value slice pins s σ H x y v u Q I rx ry h hs
 obtain⟨z,i,c,rfl,rfl,hz,he,q⟩:=h
 obtain⟨t,rfl⟩:=rx
 obtain⟨t',rfl⟩:=ry
 obtain⟨j,h1,h2,h3,h4,h5⟩:=e'W he
 have hl:z.cps.toList.length=z.length:=by simp [Str.length]
 rw [hl] at h1 h4 h5
 have hn:=e'm
 exact tail_any (typeIs_str s z t) slot_str_getitem.lookup (getItem_str (c:=c) (by
  have e1:decide (i < -(2 ^ 63:Int))=false:=decide_eq_false (by omega)
  have e2:decide (i ≥ 2 ^ 63)=false:=decide_eq_false (by omega)
  rw [e1,e2,Bool.or_false]) (by rw [h1];simpa using h2) ⟨.str ⟨#[c]⟩,H,I.tok _,⟨_,rfl⟩,q⟩) hs
def rIx (K:W.Frag):R2:=λx y H Q=>rIxL K x y H Q\/rIxT K x y H Q\/rIxS x y H Q
theorem ix_seq:IxR X (rIx X.K):=ix_list.or (ix_tup.or t'X)
theorem g'F (lo hi:Option Int) (n:Nat):(sliceBounds lo hi none n).1=((HT.sIx n 0 lo:Nat):Int)/\(sliceBounds lo hi none n).2.1=((HT.sIx n n hi:Nat):Int)/\(sliceBounds lo hi none n).2.2=1:=by
 refine⟨?_,?_,rfl⟩
 ·cases lo with
  | none=>simp [sliceBounds,HT.sIx]
  | some i=>
   simp only [sliceBounds,HT.sIx,Option.getD_none,show (1:Int) > 0 by decide,if_true]
   by_cases h:i<0
   ·simp only [h,if_true]<;>omega
   ·simp only [h,if_false]<;>omega
 ·cases hi with
  | none=>simp [sliceBounds,HT.sIx]
  | some i=>
   simp only [sliceBounds,HT.sIx,Option.getD_none,show (1:Int) > 0 by decide,if_true]
   by_cases h:i<0
   ·simp only [h,if_true]<;>omega
   ·simp only [h,if_false]<;>omega
theorem g'a (its:List Value) (lo hi:Option Int):slicePick its.toArray lo hi none=((its.drop (HT.sIx its.length 0 lo)).take (HT.sIx its.length its.length hi - HT.sIx its.length 0 lo)).toArray:=by
 obtain⟨h1,h2,h3⟩:=g'F lo hi its.toArray.size
 unfold slicePick
 rw [h1,h2,h3]
 simp only [sliceRange_one,pick_run,List.size_toArray]<;>rfl
def rSlL (K:W.Frag):V->Option Int->Option Int->Hp->VK->Prop:=λx lo hi H Q=>∃ a xs,x=.ref a/\SqL K H a xs/\∀ p,H p=none->Q (.ref p) (upd H p (.lst (cutV xs lo hi)))
theorem sl_list:SlR X (rSlL X.K):=by
 intro pins s σ H x v vl vu lo hi sl Q I rx hs pl pu h
 obtain⟨a,xs,rfl,hx,q⟩:=h
 cases rx
 obtain⟨its,r,ht,hz⟩:=I.list hx
 have hlen:=r.length
 refine⟨"list",_,slot_list_getitem.lookup,ht.isList.typeIs,?_⟩
 refine wpAny_getItem_list_slice ht.isList hs pl pu .none (by simp) ?_ (by rw [List.size_toArray]<;>omega)
 rw [g'a,<- hlen]
 refine⟨.ref s.heap.objs.size,_,I.laid (t':=s.toks) (o:=.lst (cutV xs lo hi)) (λb ob q=>Heap.get?_push_of_some _ q) (Nat.le_refl _) ?_,rfl,q _ (I.hok.fresh (Nat.le_refl _))⟩
 exact⟨Nat.le_trans (i'c xs lo hi) hz,_,0,(r.drop (HT.sIx xs.length 0 lo)).take (HT.sIx xs.length xs.length hi - HT.sIx xs.length 0 lo),Heap.get?_push_size _ rfl⟩
def flatV:V->Bool
 | .non => true
 | .bl _ => true
 | .int _ => true
 | .str _ => true
 | _ => false
def eqV:V->V->Bool
 | .non, .non => true
 | .bl a, .bl b => a == b
 | .bl a, .int b => (if a then 1 else 0) == b
 | .int a, .bl b => a == (if b then 1 else 0)
 | .int a, .int b => a == b
 | .str a, .str b => a == b
 | _, _ => false
theorem b'P {A:Around} {s:Shared} {y x:V} {u v:Value} (ry:RelV y u) (rx:RelV x v) (fy:flatV y=true) (fx:flatV x=true):SeqAt.EqAt A s u v (eqV y x):=by
 cases y with
 | non =>
  cases ry
  cases x with
  | non=>cases rx;exact SeqAt.EqAt.same _
  | bl b=>cases rx;exact SeqAt.EqAt.none_bool b
  | int b=>obtain⟨t,rfl⟩:=rx;exact SeqAt.EqAt.none_int b t
  | str b=>obtain⟨t,rfl⟩:=rx;exact SeqAt.EqAt.none_str b t
  | _=>exact absurd (show false=true from fx) Bool.false_ne_true
 | bl a =>
  cases ry
  cases x with
  | non=>cases rx;exact SeqAt.EqAt.bool_none a
  | bl b=>cases rx;exact SeqAt.EqAt.bool_bool a b
  | int b=>obtain⟨t,rfl⟩:=rx;exact SeqAt.EqAt.bool_int a b t
  | str b=>obtain⟨t,rfl⟩:=rx;exact SeqAt.EqAt.bool_str a b t
  | _=>exact absurd (show false=true from fx) Bool.false_ne_true
 | int a =>
  obtain⟨t',rfl⟩:=ry
  cases x with
  | non=>cases rx;exact SeqAt.EqAt.int_none a t'
  | bl b=>cases rx;exact SeqAt.EqAt.int_bool a t' b
  | int b=>obtain⟨t,rfl⟩:=rx;exact SeqAt.EqAt.int_int a t' b t
  | str b=>obtain⟨t,rfl⟩:=rx;exact SeqAt.EqAt.int_str a t' b t
  | _=>exact absurd (show false=true from fx) Bool.false_ne_true
 | str a =>
  obtain⟨t',rfl⟩:=ry
  cases x with
  | non=>cases rx;exact SeqAt.EqAt.str_none a t'
  | bl b=>cases rx;exact SeqAt.EqAt.str_bool a t' b
  | int b=>obtain⟨t,rfl⟩:=rx;exact SeqAt.EqAt.str_int a t' b t
  | str b=>obtain⟨t,rfl⟩:=rx;exact SeqAt.EqAt.str_str a t' b t
  | _=>exact absurd (show false=true from fx) Bool.false_ne_true
 | _ => exact absurd (show false = true from fy) Bool.false_ne_true
def eqU (x:V) (u:Value):Bool:=match u with
 | .none => eqV .non x
 | .bool b => eqV (.bl b) x
 | .int i _ => eqV (.int i) x
 | .str z _ => eqV (.str z) x
 | _ => false
theorem l'r {x y:V} {u:Value} (r:RelV y u) (f:flatV y=true):eqU x u=eqV y x:=by
 cases y with
 | non => cases r; rfl
 | bl b => cases r; rfl
 | int i => obtain ⟨t, rfl⟩ := r; rfl
 | str z => obtain ⟨t, rfl⟩ := r; rfl
 | _ => exact absurd (show false = true from f) Bool.false_ne_true
theorem c'k {x:V}:∀ {xs:List V} {us:List Value},Vals xs us->xs.all flatV=true->us.any (eqU x)=xs.any λy=>eqV y x
 | _, _, .nil, _ => rfl
 | y :: xs, u :: us, .cons r t, f => by
  rw [List.all_cons,Bool.and_eq_true] at f
  rw [List.any_cons,List.any_cons,l'r r f.1,c'k t f.2]
theorem b'Q {A:Around} {s:Shared} {x:V} {v:Value} (rx:RelV x v) (fx:flatV x=true):∀ {xs:List V} {us:List Value},Vals xs us->xs.all flatV=true->∀ u∈us,SeqAt.EqAt A s u v (eqU x u)
 | _, _, .nil, _ => λu hu => by cases hu
 | y :: xs, u :: us, .cons r t, f => λu' hu => by
  rw [List.all_cons,Bool.and_eq_true] at f
  rcases List.mem_cons.mp hu with rfl | hu
  ·rw [l'r r f.1];exact b'P r rx f.1 fx
  ·exact b'Q rx fx t f.2 u' hu
def inV (x:V) (xs:List V):Bool:=xs.any λy=>eqV y x
def rIn (K:W.Frag) (neg:Bool):R2:=λx y H Q=>∃ p xs,y=.ref p/\(SqL K H p xs\/SqT K H p xs)/\flatV x=true/\xs.all flatV=true/\Q (.bl (if neg then !inV x xs else inV x xs)) H
theorem op_in_seq:OpR X (compareOp .In) (rIn X.K false):=by
 intro pins s σ H x y v u Q I rx ry h
 obtain⟨p,xs,rfl,hq,fx,fs,q⟩:=h
 cases ry
 rcases hq with hq | hq
 ·obtain⟨its,r,pl,hz⟩:=I.list hq
  refine SeqAt.in_listAt (eqU x) pl.isList (λw hw=>b'Q rx fx r fs w (by simpa using hw)) ⟨.bl _,H,I,rfl,?_⟩
  rw [show its.toArray.any (eqU x)=its.any (eqU x) by simp,c'k r fs]
  exact q
 ·obtain⟨its,r,pl,hz⟩:=I.tuple hq
  refine SeqAt.in_tupleAt (eqU x) pl (λw hw=>b'Q rx fx r fs w (by simpa using hw)) ⟨.bl _,H,I,rfl,?_⟩
  rw [show its.toArray.any (eqU x)=its.any (eqU x) by simp,c'k r fs]
  exact q
theorem op_notIn_seq:OpR X (compareOp .NotIn) (rIn X.K true):=by
 intro pins s σ H x y v u Q I rx ry h
 obtain⟨p,xs,rfl,hq,fx,fs,q⟩:=h
 cases ry
 rcases hq with hq | hq
 ·obtain⟨its,r,pl,hz⟩:=I.list hq
  refine SeqAt.notIn_listAt (eqU x) pl.isList (λw hw=>b'Q rx fx r fs w (by simpa using hw)) ⟨.bl _,H,I,rfl,?_⟩
  rw [show its.toArray.any (eqU x)=its.any (eqU x) by simp,c'k r fs]
  exact q
 ·obtain⟨its,r,pl,hz⟩:=I.tuple hq
  refine SeqAt.notIn_tupleAt (eqU x) pl (λw hw=>b'Q rx fx r fs w (by simpa using hw)) ⟨.bl _,H,I,rfl,?_⟩
  rw [show its.toArray.any (eqU x)=its.any (eqU x) by simp,c'k r fs]
  exact q
theorem CallR.or {f:Value} {r r':List V->Hp->VK->Prop} (h:CallR X f r) (h':CallR X f r'):CallR X f (λxs H Q=>r xs H Q\/r' xs H Q):=by
 intro pins s σ H xs us Q I rs q
 rcases q with q | q
 ·exact h pins s σ H xs us Q I rs q
 ·exact h' pins s σ H xs us Q I rs q
def tyV (K:W.Frag) (T:String) (x:V) (H:Hp):Prop:=match x with
 | .str _ => T = "str"
 | .int _ => T = "int"
 | .ref p => (T = "list" /\ ∃ xs, SqL K H p xs) \/ (T = "tuple" /\ ∃ o, K.lookup p = some o /\ o.cls = .type "tuple" /\ o.dict = none) \/
   (T="dict"/\((∃ kvs,H p=some (.dK kvs))\/∃ kvs,H p=some (.dT kvs)))\/(T="set"/\∃ S n,H p=some (.set S n))
 | _ => False
theorem l's {pins:List (Addr×Obj)} {σ:St} {H:Hp} {s:Shared} {T:String} {x:V} {v:Value} (I:Inv X pins σ H s) (r:RelV x v) (ty:tyV X.K T x H) :
  s.TypeIs v T/\∀ a,v=.ref a->∃ ob,s.heap.get? a=some ob/\ob.dict=none:=by
 cases x with
 | str z =>
  obtain⟨t,rfl⟩:=r
  cases (show T="str" from ty)
  exact⟨typeIs_str s z t,λ_ e=>nomatch e⟩
 | int i =>
  obtain⟨t,rfl⟩:=r
  cases (show T="int" from ty)
  exact⟨typeIs_int s i t,λ_ e=>nomatch e⟩
 | ref p =>
  cases r
  rcases ty with ⟨rfl,xs,hq⟩ | ⟨rfl,o,hk,hc,hd⟩ | ⟨rfl,hk⟩ | ⟨rfl,S,n,hk⟩
  ·obtain⟨its,_,pl,_⟩:=I.list hq
   refine⟨pl.isList.typeIs,λa e=>?_⟩
   cases e
   obtain⟨o,n,e,c,hd,_⟩:=pl
   exact⟨o,e,hd⟩
  ·refine⟨⟨o,I.kIn p o hk,hc⟩,λa e=>?_⟩
   cases e
   exact⟨o,I.kIn _ o hk,hd⟩
  ·have z:∃ o,s.heap.get? p=some o/\o.ExactDict:=by
    rcases hk with ⟨kvs,hk⟩ | ⟨kvs,hk⟩
    ·obtain⟨_,_,_,_,o,_,_,e,ex,_⟩:=I.hok p _ hk
     exact⟨o,e,ex⟩
    ·obtain⟨_,_,_,_,o,_,_,e,ex,_⟩:=I.hok p _ hk
     exact⟨o,e,ex⟩
   obtain⟨o,e,ex⟩:=z
   refine⟨⟨o,e,ex.1⟩,λa e2=>?_⟩
   cases e2
   exact⟨o,e,ex.2.1⟩
  ·obtain⟨o,_,_,_,e,ex,_⟩:=I.hok p _ hk
   refine⟨⟨o,e,ex.1⟩,λa e2=>?_⟩
   cases e2
   exact⟨o,e,ex.2.1⟩
 | _ => exact False.elim ty
def tBM0 (K:W.Frag) (T:String) (r:V->List V->Hp->VK->Prop) (to:TE):TE:=λσ H Q=>to σ H λx H1=>tyV K T x H1/\r x [] H1 Q
def tBM (K:W.Frag) (T:String) (r:V->List V->Hp->VK->Prop) (to:TE) (t:TA):TE:=λσ H Q=>to σ H λx H1=>tyV K T x H1/\t σ H1 λxs H2=>r x xs H2 Q
variable {o e:Expr} {es:List Expr} {to:TE} {t:TA} {name:Str} {apos cpos:Pos} {T id:String} {r:V->List V->Hp->VK->Prop}
theorem l't (pa:PlainAttrs T) (slot:Slot T name id) (hty:typeOf (.builtin id)=pure (.type "method_descriptor")) (hm:MtR X id r) (ho:PE X o to)
  (hbase:attributeBase o name X.env (eval o X.env)=eval o X.env:=by rfl) (hline:(apos.endLine == cpos.line)=true:=by rfl):PE X (.Call (.Attribute o name apos) [] [] cpos) (tBM0 X.K T r to):=by
 intro pins s σ H Q I h
 refine wpAny_Call_method0_late hbase hline (thn (ho pins s σ H _ I h) λv s1 ⟨x,H1,I1,r1,ty,q1⟩=>?_)
 obtain⟨h1,h2⟩:=l's I1 r1 ty
 exact⟨T,id,pa,slot,hty,h1,h2,Calls.callWith_builtin rfl (PySem.evalArgs_none (hm pins s1 σ H1 x [] v [] Q I1 r1 .nil q1))⟩
theorem p'J (pa:PlainAttrs T) (slot:Slot T name id) (hty:typeOf (.builtin id)=pure (.type "method_descriptor")) (hm:MtR X id r) (ho:PE X o to) (ha:PA X (e :: es) t)
  (hbase:attributeBase o name X.env (eval o X.env)=eval o X.env:=by rfl)
  (hfew:((backTo cpos (starEach (e :: es) X.env)).all (λx=>!x.1) && (backToKw cpos (keywordEach [] X.env)).all (λx=>x.1.isSome)
   && decide ((e :: es).length+([]:List Keyword).length+(if ([]:List Keyword).isEmpty then 0 else 1)<30))=true:=by rfl)
  (hline:(apos.endLine == cpos.line)=true:=by rfl) (hs:starEach (e :: es) X.env=(false,eval e X.env) :: starEach es X.env:=by rfl) (hplain:(backTo cpos (starEach es X.env)).any (·.1)=false:=by rfl) :
  PE X (.Call (.Attribute o name apos) (e :: es) [] cpos) (tBM X.K T r to t):=by
 intro pins s σ H Q I h
 refine wpAny_Call_method_late hbase hfew hline rfl (thn (ho pins s σ H _ I h) λv s1 ⟨x,H1,I1,r1,ty,q1⟩=>?_)
 obtain⟨h1,h2⟩:=l's I1 r1 ty
 refine⟨T,id,pa,slot,hty,h1,h2,?_⟩
 have hA:=ha cpos pins s1 σ H1 _ I1 q1
 rw [hs] at hA ⊢
 refine Calls.callWith_builtin (by show (false || (backTo cpos (starEach es X.env)).any (·.1))=false;rw [hplain]<;>rfl) (Calls.evalArgs_plain ?_)
 exact thn hA λus s2 ⟨vs,H2,I2,r2,q2⟩=>hm pins s2 σ H2 x vs v us Q I2 r1 r2 q2
end
end L2
namespace L2
open PySem PySem.Spec PyProof.Rows
def MtM (X:Cx) (id:String) (r:V->List V->Hp->VK->Prop):Prop:=
 ∀ (pins:List (Addr×Obj)) (s:Shared) (σ:St) (H:Hp) (x:V) (xs:List V) (v:Value) (us:List Value) (Q:VK),Inv X pins σ H s->RelV x v->Vals xs us->r x xs H Q->
  wpAny (model X.prog X.w) X.A (call (.builtin id) (v :: us)) (EP X pins σ Q) X.xe s
theorem Vals.one:∀ {x:V} {us:List Value},Vals [x] us->∃ u,us=[u]/\RelV x u
 | _, _, .cons r .nil => ⟨_, rfl, r⟩
theorem Vals.zero:∀ {us:List Value},Vals [] us->us=[]
 | _, .nil => rfl
theorem Vals.dropLast {xs:List V} {us:List Value} (h:Vals xs us):Vals xs.dropLast us.dropLast:=by
 induction h with
 | nil => exact .nil
 | cons r t ih =>
  cases t with
  | nil=>exact .nil
  | cons q t'=>exact .cons r ih
theorem k'o {α:Type} (l:List α):l.eraseIdx (l.length - 1)=l.dropLast:=by
 induction l with
 | nil => rfl
 | cons a r ih =>
  cases r with
  | nil=>rfl
  | cons b r=>
   have e:(a :: b :: r).length - 1=((b :: r).length - 1)+1:=by
    have h1:(a :: b :: r).length=r.length+2:=rfl
    have h2:(b :: r).length=r.length+1:=rfl
    omega
   rw [e,List.eraseIdx_cons_succ,ih]
   all_goals rfl
section
variable {X:Cx} {pins:List (Addr×Obj)} {σ:St} {H:Hp} {s:Shared} {l b:Addr} {xs ys zs:List V}
theorem Inv.lset {its its':List Value} {n:Nat} {f:Array Value->Array Value} {t':Nat} (I:Inv X pins σ H s) (hH:H l=some (.lst xs))
  (e:s.heap.get? l=some { cls:=.type "list",data:=.seq its.toArray n }) (hf:f its.toArray=its'.toArray) (hv:Vals ys its') (hz:ys.length<=sizeLine) :
  Inv X pins σ (upd H l (.lst ys)) { s with heap:=s.heap.update l (Obj.mapSeq f),toks:=t' }:=by
 have q:=PySem.IsL.update e f
 rw [hf] at q
 refine I.write (x:=l) (e:=l) (by rw [hH];exact trivial) (.inl rfl) (λb' u hb hu=>(Heap.get?_update_other s.heap (Obj.mapSeq f) (Ne.symm hb)).trans hu) ⟨_,q⟩ ?_
 exact⟨hz,its',_,hv,q⟩
theorem Inv.lnew {its:List Value} {t':Nat} (I:Inv X pins σ H s) (hv:Vals ys its) (hz:ys.length<=sizeLine) :
  Inv X pins σ (upd H s.heap.objs.size (.lst ys)) { s with heap:=s.heap.push { cls:=.type "list",data:=.seq its.toArray },toks:=t' }:=
 I.laid (λ_ _ q=>Heap.get?_push_of_some _ q) (Nat.le_refl _) ⟨hz,its,0,hv,Heap.get?_push_size _ rfl⟩
theorem Inv.fresh (I:Inv X pins σ H s):H s.heap.objs.size=none:=I.hok.fresh (Nat.le_refl _)
theorem Inv.lstM (I:Inv X pins σ H s) (hH:H l=some (.lst xs)):xs.length<=sizeLine/\∃ (its:List Value) (n:Nat),Vals xs its/\xs.length=its.length/\s.heap.get? l=some { cls:=.type "list",data:=.seq its.toArray n }:=by
 obtain⟨z,its,n,r,e⟩:=I.hok l _ hH
 exact⟨z,its,n,r,r.length,e⟩
end
section
variable {X:Cx}
def rAppend:V->List V->Hp->VK->Prop:=λx vs H Q=>∃ l xs y,x=.ref l/\vs=[y]/\H l=some (.lst xs)/\xs.length<sizeLine/\Q .non (upd H l (.lst (xs++[y])))
theorem f'G:MtM X "list.append" rAppend:=by
 intro pins s σ H x vs v us Q I rx rv h
 obtain⟨l,xs,y,rfl,rfl,hH,hz,q⟩:=h
 cases rx
 obtain⟨u,rfl,ru⟩:=rv.one
 obtain⟨z,its,n,r,hl,e⟩:=I.lstM hH
 refine call_meets F.slot_list_append ⟨_,e,rfl⟩ F.entry_list_append (F.args_list_append_2 _ _) (PySem.list_append l its.toArray n u (by rw [List.size_toArray];omega)) ⟨e,?_⟩
 refine⟨.non,_,I.lset (its':=its++[u]) hH e (by simp) (r.append (.cons ru .nil)) ?_,rfl,q⟩
 rw [List.length_append,List.length_singleton]
 omega
def rPop:V->List V->Hp->VK->Prop:=λx vs H Q=>∃ l xs y,x=.ref l/\vs=[]/\H l=some (.lst xs)/\xs[xs.length - 1]?=some y/\Q y (upd H l (.lst xs.dropLast))
theorem t'Y:MtM X "list.pop" rPop:=by
 intro pins s σ H x vs v us Q I rx rv h
 obtain⟨l,xs,y,rfl,rfl,hH,hy,q⟩:=h
 cases rx
 have hus:=rv.zero
 subst hus
 obtain⟨z,its,n,r,hl,e⟩:=I.lstM hH
 obtain⟨u,hu,ru⟩:=r.get hy
 have hy':its.toArray[its.toArray.size - 1]?=some u:=by
  show its.toArray[its.length - 1]?=some u
  rw [<- Array.getElem?_toList,<- hl]
  exact hu
 refine call_meets F.slot_list_pop ⟨_,e,rfl⟩ F.entry_list_pop (F.args_list_pop_1 _) (MeetsSeq.list_pop_last l its.toArray n u hy' (by rw [List.size_toArray];omega)) ⟨e,?_⟩
 refine⟨y,_,I.lset (its':=its.dropLast) hH e ?_ r.dropLast ?_,ru,q⟩
 ·show its.toArray.eraseIdxIfInBounds (its.toArray.size - 1)=its.dropLast.toArray
  rw [List.size_toArray,List.eraseIdxIfInBounds_toArray,k'o]
 ·rw [List.length_dropLast]
  omega
end
section
variable {prog:Program} {w:World} {A:Around} {E:Value->Shared->Prop} {s:Shared}
end
section
variable {X:Cx}
end
end L2
namespace Att
open PySem PySem.W PySem.Calls PyProof.Rows
theorem e'p {P:Params} {h:Heap}:∀ (ns:List Int) (vs:List Value),WellAll P h vs (ns.map WData.int)->IntsAre vs ns:=by
 intro ns
 induction ns with
 | nil =>
  intro vs w
  rw [List.map_nil] at w
  cases w
  exact .nil
 | cons n ns ih =>
  intro vs w
  rw [List.map_cons] at w
  cases w with
  | cons a b=>
   cases a
   exact .cons _ _ (ih _ b)
theorem l'u {l:OpenLaw} {n:Nat} (hn:l.most=some n) {P:Params} {h:Heap} {args:List WData} {vals:List Value}
  (hpre:l.row.toRowW.claim.pre args=true) (hwl:WellAll P h vals args) :
  ∃ a vs ns,vals=[Value.ref a]/\args=[WData.list (ns.map WData.int)]/\h.get? a=some { cls:=.type "list",data:=.seq vs.toArray }/\IntsAre vs ns/\ns.length<=n:=by
 have hsh:WShape.hasAll [] args [.list .int]=true:=(pre_splitW hpre).1
 have hc:l.pre.holds [] { args:=args }=true:=(pre_splitW hpre).2
 obtain⟨d,r,rfl,h1,h2⟩:=hasAllW_cons hsh
 obtain rfl:=hasAllW_nil h2
 obtain⟨xs,rfl,h3⟩:=hasW_list h1
 obtain⟨ns,rfl⟩:=items_int h3
 have hlen:ns.length<=n:=by
  unfold OpenLaw.pre at hc
  have h4:(WTm.not (.lt (.lit (.int (n:Int))) (.len (.arg 0)))).holds [] { args:=[.list (ns.map .int)] }=true:=by
   have h4:=(holds_andW hc).1
   rw [hn] at h4
   exact h4
  have h5:=condW_of h4 (w_not (w_lt w_lit (w_len_list (w_arg rfl))))
  rw [List.length_map] at h5
  refine Nat.le_of_not_lt λq=>?_
  have q':(n:Int)<((ns.length:Nat):Int):=by omega
  first
   | (rw [decide_eq_true q'] at h5;exact absurd h5 (by decide))
   | (simp at h5;omega)
 cases hwl with
 | cons w1 w2 =>
  cases w2
  cases w1 with
  | list ho hall=>exact⟨_,_,ns,rfl,rfl,ho,e'p ns _ hall,hlen⟩
theorem l'v (l:OpenLaw) (args:List WData):l.row.toRowW.claim.post args (.bool true) args=true:=
 postW_of (r:=l.row.toRowW) (X:=(true == true))
  (show WShape.has [] (.bool true) .bool=true by first | rfl | decide | simp [WShape.has,WShape.arms,WShape.armsAll])
  (show (WTm.eq .res (.lit (.bool true))).value [] { args:=args,res:=some (.bool true),after:=args }=some (.bool (true == true)) from w_eq_bool (w_res rfl) w_lit) rfl
theorem attach_call {l:OpenLaw} {n:Nat} {q:Program} {loose:List Str} {XP:(Str->Option Value)->Heap->Prop} {YP:World->Heap->Prop} {d:DefRec}
  (hn:l.most=some n) (hdf:d.params.defaults=[])
  (call:∀ (w:World) (s₀ s₁:Shared) (mg mb:Str->Option Value) (fa:Addr) (o:Obj) (pm cd doc:Value) (a:Addr) (vs:List Value) (ns:List Int),
   Ground q loose [] XP w s₀ mg mb s₁.heap->YP w s₁.heap->
   s₁.heap.get? fa=some o->o.data=.func (docDef d.name d.params d.body d.scope pm cd doc)->s₁.heap.CodeRec cd d.name->mg d.name=some (.ref fa)->
   s₁.heap.get? a=some { cls:=.type "list",data:=.seq vs.toArray }->IntsAre vs ns->ns.length<=n->s₁.gens=#[]->
   codeAny (model l.prog w) callerA (.call (.ref fa) ⟨[.ref a],[]⟩) (λr s'=>r=.ok (.ret (.bool true))/\OldK s₁.heap s'.heap/\s'.os=s₁.os/\AllBare s'.gens) s₁) :
  WalkO q loose XP YP l.row.toRowW d [] (λf vs=>PySem.call f vs):=by
 intro w s₀ s₁ mg mb G Y fa o pm cd doc dV kV ho hd hcd hD hmg hg args vals as hpre hlay hrd hwl hlo
 obtain rfl:dV=.none:=Dflts.none hD hdf
 obtain rfl:kV=.none:=Dflts.noKw hD
 obtain⟨a,vs,ns,rfl,rfl,hobj,hints,hlen⟩:=l'u hn hpre hwl
 refine enter_call (codeAny_mono (call w s₀ s₁ mg mb fa o pm cd doc a vs ns G Y ho (fd_plain hd) hcd hmg hobj hints hlen hg) λr s' hq=>?_)
 obtain⟨rfl,h2,h3,h4⟩:=hq
 exact⟨.inl ⟨.bool true,.bool true,[],rfl,λ_=>rfl,.bool true,l'v l _,λ_=>⟨List.Pairwise.nil,λ_ hm=>(nomatch hm)⟩⟩,h2,h3,h4⟩
section
variable {prog:Program} {w:World} {A:Around} {E:Value->Shared->Prop} {s:Shared} {K:Frag}
end
end Att
namespace L2
open PySem PySem.Spec PyProof.Rows
theorem f'H:∀ {vs:List Value} {ns:List Int},IntsAre vs ns->Vals (ns.map V.int) vs
 | _, _, .nil => .nil
 | _, _, .cons n t h => .cons ⟨t, rfl⟩ (f'H h)
def Only (H:Hp):Prop:=∀ b,H b=none\/∃ o xs,H b=some (.frz o (.lst xs))
theorem o'p {P:Program} {w:World} {K:W.Frag} {mg mb:Str->Option Value} {CX:CXT} {k:Nat} {fa a:Addr} {fd:FuncData} {x:Str} {sp:Sp} {s₁:Shared} {vs:List Value} {ns:List Int}
  (KX:K.In s₁.heap) (hns:s₁.heap.Ns mainGlobals mg) (hb:s₁.heap.Ns builtinsNs mb) (hbb:∀ x:Str,x≠"__name__"->mb x=bootBuiltins x) (hlim:s₁.heap.NoLimit) (hg:s₁.gens=#[])
  (ha:s₁.heap.get? a=some { cls:=.type "list",data:=.seq vs.toArray }) (hi:IntsAre vs ns) (hl:ns.length<=sizeLine) (hr:Room k callerA)
  (F:∀ base:Heap,K.In base->base.Ns mainGlobals mg->FnOk P w K mg base CX k fa fd [x] sp) (hbind:∀ (s:Shared) (u:Value),BindsTo s fd ⟨[u],[]⟩ [(x,u)])
  (hsp:∀ H:Hp,Only H->SqL K H a (ns.map V.int)->sp [.ref a] H (λv _=>v=.bl true) λ_ _ _=>False)
  (hCX:∀ H e s',CX [] H s₁ (λ_ _ _=>False) e s'->False) :
  codeAny (model P w) callerA (.call (.ref fa) ⟨[.ref a],[]⟩) (λr s'=>r=.ok (.ret (.bool true))/\OldK s₁.heap s'.heap/\s'.os=s₁.os/\AllBare s'.gens) s₁:=by
 have rv:=f'H hi
 have lenV:=hi.length
 have core:∀ H:Hp,Only H->SqL K H a (ns.map V.int)->HOk P w H s₁.heap->(∀ b,H b≠none->b=a)->(H a≠none->K.lookup a=none)->
   codeAny (model P w) callerA (.call (.ref fa) ⟨[.ref a],[]⟩) (λr s'=>r=.ok (.ret (.bool true))/\OldK s₁.heap s'.heap/\s'.os=s₁.os/\AllBare s'.gens) s₁:=by
  intro H hO hS hok hA hK
  have base_of:∀ {b:Addr} {o:Obj},s₁.heap.get? b=some o->H b=none->(hidT s₁.heap H).get? b=some o:=λe n=>o'a e n
  have noA:∀ {b:Addr} {o:Obj} {es:Array DictEntry} {ep:Nat},s₁.heap.get? b=some o->o.data=.dict es ep->H b=none:=λ{b o es ep} e d=>by
   cases q:H b with
   | none=>rfl
   | some u=>
    have e':b=a:=hA b (by rw [q];simp)
    subst e'
    rw [ha] at e;cases e
    have d':Data.seq vs.toArray _=Data.dict es ep:=d
    cases d'
  have nsK:∀ {b:Addr} {m:Str->Option Value},s₁.heap.Ns b m->(hidT s₁.heap H).Ns b m:=λ{b m} ⟨o,es,ep,e,d,r⟩=>⟨o,es,ep,base_of e (noA e d),d,r⟩
  have hKb:K.In (hidT s₁.heap H):=λb o e=>base_of (KX b o e) (by
   cases q:H b with
   | none=>rfl
   | some u=>
    have e':b=a:=hA b (by rw [q];simp)
    subst e'
    rw [hK (by rw [q];simp)] at e;cases e)
  have hM:Mod K mg (hidT s₁.heap H):=⟨hKb,nsK hns,⟨mb,nsK hb,hbb⟩,let ⟨mc,h1,h2⟩:=hlim;⟨mc,nsK h1,h2⟩⟩
  have e0:Env0 P w K mg (hidT s₁.heap H) callerA [] s₁ H:=⟨rfl,hM,λb o e=>r'r e,Nat.le_of_eq (l'c _ _),trivial,λb hb=>absurd (show b∈([]:List Addr) from hb) (by simp),hok,.of_eq hg⟩
  refine codeAny_mono ((F _ hKb (nsK hns)).run callerA [] s₁ H ⟨[.ref a],[]⟩ [.ref a] [.ref a] _ _ hr e0 (hbind s₁ (.ref a)) (.cons rfl .nil) (hsp H hO hS)) λr s' h=>?_
  cases r with
  | error e=>exact (hCX H e s' h).elim
  | ok fl=>
   cases fl with
   | next=>exact False.elim h
   | brk=>exact False.elim h
   | cont=>exact False.elim h
   | ret u=>
    obtain⟨v,H',os,bare,un,hok',r',q⟩:=h
    have q':v=.bl true:=q
    subst q'
    obtain rfl:u=Value.bool true:=r'
    refine⟨rfl,OldK.of_keep λb o e=>?_,os,bare⟩
    cases q:H b with
    | none=>exact un.keep b o e q (by intro z;exact absurd (show b∈([]:List Addr) from z) (by simp)) (by simp)
    | some u=>
     rcases hO b with z | ⟨ob,xs,z⟩
     ·rw [q] at z;cases z
     ·have z2:=un.frzs b ob _ z
      obtain⟨e1,_⟩:=hok b _ z
      obtain⟨e2,_⟩:=hok' b _ z2
      rw [e] at e1;cases e1
      exact e2
 cases hk:K.lookup a with
 | some o =>
  have e:=KX a o hk
  rw [ha] at e
  cases e
  refine core (λ_=>none) (λ_=>.inl rfl) (.inr ⟨_,vs.toArray,_,hk,rfl,rfl,rfl,by rw [List.size_toArray,lenV];exact hl,by simpa using rv⟩) (λb u z=>by have z':(none:Option HO)=some u:=z;cases z') (λb z=>absurd rfl z) λz=>absurd rfl z
 | none =>
  refine core (λb=>if b=a then some (.frz { cls:=.type "list",data:=.seq vs.toArray } (.lst (ns.map V.int))) else none) (λb=>?_) (.inl (.inr ⟨{ cls:=.type "list",data:=.seq vs.toArray },if_pos rfl⟩)) (λb u z=>?_) (λb z=>?_) λ_=>hk
  ·by_cases hb:b=a
   ·exact .inr ⟨_,_,if_pos hb⟩
   ·exact .inl (if_neg hb)
  ·by_cases hb:b=a
   ·have z':=(if_pos hb).symm.trans z
    cases z'
    subst hb
    exact⟨ha,by rw [List.length_map];exact hl,vs,_,rv,ha⟩
   ·have z':=(if_neg hb).symm.trans z
    cases z'
  ·by_cases hb:b=a
   ·exact hb
   ·exact absurd (if_neg hb) z
end L2
namespace L2
open PySem PySem.Spec PyProof.Rows
theorem walk_of {l:W.OpenLaw} {n k:Nat} {q:Program} {loose:List Str} {XP:(Str->Option Value)->Heap->Prop} {YP:World->Heap->Prop} {d:DefRec} {K:Params->W.Frag} {CX:World->CXT} {sp:World->Sp} {x:Str}
  (hn:l.most=some n) (hn2:n<=sizeLine) (hdf:d.params.defaults=[]) (hr:Room k callerA)
  (hY:∀ (w:World) (h:Heap),YP w h->(K w.params).In h)
  (F:∀ (w:World) (mg:Str->Option Value) (fa:Addr) (h:Heap),(K w.params).In h->h.Ns mainGlobals mg->mg d.name=some (.ref fa)->
   ∃ fd:FuncData,(∀ (s:Shared) (u:Value),BindsTo s fd ⟨[u],[]⟩ [(x,u)])/\
    ∀ base:Heap,(K w.params).In base->base.Ns mainGlobals mg->FnOk l.prog w (K w.params) mg base (CX w) k fa fd [x] (sp w))
  (hsp:∀ (w:World) (H:Hp) (a:Addr) (ns:List Int),ns.length<=n->Only H->SqL (K w.params) H a (ns.map V.int)->sp w [.ref a] H (λv _=>v=.bl true) λ_ _ _=>False)
  (hCX:∀ (w:World) (H:Hp) (s:Shared) (e:Value) (s':Shared),CX w [] H s (λ_ _ _=>False) e s'->False) :
  W.WalkO q loose XP YP l.row.toRowW d [] (λf vs=>PySem.call f vs):=by
 refine Att.attach_call hn hdf λw s₀ s₁ mg mb fa o pm cd doc a vs ns G Y ho hd hcd hmg hobj hints hlen hg=>?_
 have KX:=hY w _ Y
 obtain⟨fd,hb,hF⟩:=F w mg fa _ KX G.T.g hmg
 exact o'p KX G.T.g G.T.b G.T.builtins G.T.nolimit hg hobj hints (Nat.le_trans hlen hn2) hr hF hb (λH hO hS=>hsp w H a ns hlen hO hS) λH e s'=>hCX w H s₁ e s'
end L2
namespace L2
open PySem PySem.Spec PyProof.Rows
def inClass (s:Stmt) (j:Nat):Stmt:=match s with
 | .ClassDef _ _ _ body _ _ _ _ _ _ _ => body.getD j (.Pass ⟨0, 0, 0, 0⟩)
 | _ => .Pass ⟨0, 0, 0, 0⟩
def defArgs (s:Stmt):Arguments:=match s with
 | .FunctionDef _ a _ _ _ _ _ _ _ _ => a
 | _ => { posonlyargs := [], args := [], vararg := none, kwonlyargs := [], kw_defaults := [], kwarg := none, defaults := [] }
def defBody (s:Stmt):List Stmt:=match s with
 | .FunctionDef _ _ b _ _ _ _ _ _ _ => b
 | _ => []
def defScope (s:Stmt):Scope:=match s with
 | .FunctionDef _ _ _ _ _ _ sc _ _ _ => sc
 | _ => { kind := .function, names := [], isGenerator := false, isCoroutine := false }
abbrev CX0:CXT:=λ_ _ _ _ _ _=>False
abbrev E0:XK:=λ_ _ _=>False
theorem g'q {X:Cx}:Passes CX0 X E0:=λ_ _ _ _ _ _ _ h=>h.elim
structure Fun (K:W.Frag) (x qual:Str) (st:Stmt) (f:Addr) (fd:FuncData):Prop where
 ex:∃ (oc:Value) (od:Option Addr) (kV doc pm:Value) (an:Option Addr) (cdv ct:Value) (osl:Array (Option Value)),
  fd=W.fnOf x qual (defArgs st) (defBody st) (defScope st) .none kV doc pm an cdv ct/\K.lookup f=some ⟨oc,od,.func fd,osl⟩/\W.codeIn K cdv qual=true
 kp:W.keepIn K (.ref f)=true
section
variable {P:Program} {w:World} {K:W.Frag} {mg:Str->Option Value} {base:Heap}
theorem Fun.ok {x qual:Str} {st:Stmt} {f:Addr} {fd:FuncData} {N ps:List Str} {k:Nat} {sp:Sp} (F:Fun K x qual st f fd) (S:FnScope N ps (defScope st)) (len:∀ vs H Q E,sp vs H Q E->vs.length=ps.length)
  (hbody:∀ (cdv:Value) (A:Around) (outer:List Env) (s:Shared) (H:Hp) (vs:List V) (Q:VK) (E:XK),Room k (A.deeper (envOfC qual (defScope st) s.heap.objs.size f cdv))->sp vs H Q E->
   ∃ t,PSs (cxOf CX0 P w K mg base N qual (defScope st) f cdv A outer s H E).nox (defBody st) t/\t { nx:=λ_ H'=>Q .non H',rt:=Q } (start N vs) H):FnOk P w K mg base CX0 (k+1) f fd ps sp:=by
 obtain⟨oc,od,kV,doc,pm,an,cdv,ct,osl,rfl,lk,hcd⟩:=F.ex
 refine w'f lk hcd S len λA outer s H vs Q E hr hsp=>?_
 obtain⟨t,h,q⟩:=hbody cdv A outer s H vs Q E hr hsp
 exact⟨t,h.nox,q⟩
theorem Fun.binds {x qual:Str} {st:Stmt} {f:Addr} {fd:FuncData} {ps:List Str} (F:Fun K x qual st f fd)
  (h:∀ (kV doc pm:Value) (an:Option Addr) (cdv ct:Value) (us:List Value),us.length=ps.length->bindArgs (W.fnOf x qual (defArgs st) (defBody st) (defScope st) .none kV doc pm an cdv ct) ⟨us,[]⟩=pure (ps.zip us)):Binds K fd ps []:=by
 obtain⟨oc,od,kV,doc,pm,an,cdv,ct,osl,rfl,lk,hcd⟩:=F.ex
 exact .all (h kV doc pm an cdv ct)
theorem t'Z {x qual:Str} {st:Stmt} {f:Addr} {oc:Value} {od an:Option Addr} {osl:Array (Option Value)} {kV doc pm cdv ct:Value} (l:K.lookup f=some ⟨oc,od,.func (W.fnOf x qual (defArgs st) (defBody st) (defScope st) .none kV doc pm an cdv ct),osl⟩)
  (c:W.codeIn K cdv qual=true) (k:W.keepIn K (.ref f)=true):Fun K x qual st f (W.fnOf x qual (defArgs st) (defBody st) (defScope st) .none kV doc pm an cdv ct):=⟨⟨oc,od,kV,doc,pm,an,cdv,ct,osl,rfl,l,c⟩,k⟩
end
theorem a'l {A:Around} {k:Nat} (hr:Room k A):A.units+1<cLine:=Nat.lt_of_le_of_lt (Nat.add_le_add_left (by decide:1<=64) _) hr.units
section
variable {X:Cx}
theorem pv (i:Nat) {x:Str} {pos:Pos} (hN:X.N[i]?=some x:=by rfl) (hv:Vis X.env.scope x:=by first | exact Or.inl rfl | exact Or.inr (Or.inl rfl) | exact Or.inr (Or.inr rfl)) (hd:(x == ("__debug__":Str))=false:=by decide)
  (hcd:(x == ("__classdict__":Str))=false:=by decide):PE X (.Name x pos) (tVar i):=c'i hN hv hd hcd
end
def Same (H H':Hp):Prop:=∀ b o,H b=some o->H' b=some o
theorem Same.refl (H:Hp):Same H H:=λ_ _ h=>h
theorem Same.trans {H H1 H2:Hp} (a:Same H H1) (b:Same H1 H2):Same H H2:=λc o h=>b c o (a c o h)
theorem Same.free {H H':Hp} (e:Same H H') {l:Addr} (h:H' l=Option.none):H l=Option.none:=by
 cases q:H l with
 | none => rfl
 | some o =>
  rw [e l o q] at h
  cases h
theorem Same.seq {K:W.Frag} {H H':Hp} {a:Addr} {xs:List V} (e:Same H H') (h:SqL K H a xs):SqL K H' a xs:=by
 rcases h with (h | ⟨o,h⟩) | h
 ·exact .inl (.inl (e _ _ h))
 ·exact .inl (.inr ⟨o,e _ _ h⟩)
 ·exact .inr h
end L2
namespace L2
open PySem PySem.Spec PyProof.Rows
section
variable {X:Cx}
theorem l'w:CallR X (.builtin "len") (λxs H Q=>∃ a kvs,xs=[V.ref a]/\H a=some (.dK kvs)/\Q (.int kvs.length) H):=by
 intro pins s σ H xs us Q I r h
 obtain⟨a,kvs,rfl,ha,q⟩:=h
 obtain⟨u,rfl,ru⟩:=c'y r
 cases ru
 exact w'h I (.inl ha) λt s' I'=>⟨.int kvs.length,H,I',⟨t,rfl⟩,q⟩
end
section
variable {κ:Type} [DecidableEq κ]
end
end L2
set_option Elab.async false
set_option linter.all false
set_option maxRecDepth 100000
set_option maxHeartbeats 4000000
namespace L2
open PySem PySem.Spec PyProof.Rows
def CMulB (i j:Int):Prop:=∃ n:Nat,n<=60000000/\i.natAbs<2 ^ n/\j.natAbs<2 ^ n
theorem i'n {x:Int} {n:Nat} (h:x.natAbs<2 ^ n):Builtin.Int.intBits x<=n:=by
 unfold Builtin.Int.intBits
 by_cases e:(x == 0)=true
 ·rw [if_pos e];exact Nat.zero_le _
 ·rw [if_neg e]
  have hx:x.natAbs≠0:=by
   intro z
   have:x=0:=by omega
   rw [this] at e
   exact e rfl
  exact (Nat.log2_lt hx).mpr h
theorem CMulB.ok {i j:Int} (h:CMulB i j):IntMulOk i j:=by
 obtain⟨n,hn,h1,h2⟩:=h
 have b1:=i'n h1
 have b2:=i'n h2
 intro z
 simp only [Bool.and_eq_true,Builtin.Int.intTooBig,decide_eq_true_eq] at z
 have e:(bitsLine:Nat)=134217728:=by decide
 have z2:=z.2
 rw [e] at z2
 omega
def CMulX (i j:Int):Prop:=CMul i j\/CMulB i j
def CDivB (_ j:Int):Prop:=j≠0/\j.natAbs<2 ^ 8000
theorem CDivB.ok {i j:Int} (h:CDivB i j):Builtin.divisionGoesByPylong i j=false:=by
 refine PyProof.noPylong_of_log2 ?_
 have hx:j.natAbs≠0:=by have:=h.1;omega
 have:=(Nat.log2_lt hx).mpr h.2
 omega
section
variable {X:Cx}
theorem op_mulB:OpR X (binaryOp .Mult) (rI CMulX λi j=>.int (i*j)):=opI λ_ _ _ _ _ _ _ hc q=>mul_int q (hc.elim CMul.ok CMulB.ok)
theorem o'q:OpR X (binaryOp .FloorDiv) (rI CDivB λi j=>.int (i.fdiv j)):=opI λ_ _ _ _ _ _ _ hc q=>floordiv_int hc.1 q (.inl hc.ok)
end
section
variable {X:Cx} {pins:List (Addr×Obj)} {σ:St} {H:Hp} {s:Shared} {a:Addr} {kvs:List (Key×V)}
theorem Inv.freeze (I:Inv X pins σ H s) (e:H a=some (.dK kvs)):∃ o,s.heap.get? a=some o/\Inv X pins σ (upd H a (.frz o (.dK kvs))) s:=by
 have ok:ObjOk X.prog X.w H s.heap a (.dK kvs):=I.hok a _ e
 obtain⟨z,y,vs,r,o,es,ep,ho,c⟩:=id ok
 refine⟨o,ho,?_⟩
 exact I.write (h':=s.heap) (t':=s.toks) (x:=a) (e:=a) (by rw [e];exact True.intro) (.inl rfl) (λ_ _ _ q=>q) ⟨o,ho⟩ ⟨ho,z,y,vs,r,o,es,ep,ho,c⟩
theorem Inv.thaw {o:Obj} (I:Inv X pins σ H s) (e:H a=some (.frz o (.dK kvs))) (hn:∀ o u,X.H₀ a≠some (.frz o u)):Inv X pins σ (upd H a (.dK kvs)) s:=by
 have ne:∀ b u,H b=some u->(∀ o u',u≠.frz o u')->b≠a:=λb u h d z=>by
  subst z
  rw [e] at h
  exact d _ _ (Option.some.inj h).symm
 obtain⟨ho,ok⟩:=(show ObjOk X.prog X.w H s.heap a (.frz o (.dK kvs)) from I.hok a _ e)
 refine⟨I.ok,I.os,I.bare,⟨λb ob q n hb hx=>I.base.keep b ob q n hb hx,λb ob q n hb hx=>I.base.slot b ob q n hb hx,λb ob q n hx=>?_,λb ob q hx=>I.base.there b ob q hx,λb xs q=>?_,λb ob u q=>?_,λb ps q=>?_⟩,I.loc,I.cell,?_,λx c q=>?_,λp hp=>?_,λb u q=>?_,I.len⟩
 ·have z:=I.base.free b ob q n hx
  rw [a'f (by intro y;subst y;rw [e] at z;cases z)]
  exact z
 ·have z:=I.base.tups b xs q
  rw [a'f (ne b _ z (λ_ _ y=>by cases y))]
  exact z
 ·have z:=I.base.frzs b ob u q
  rw [a'f (by intro y;subst y;exact hn _ _ q)]
  exact z
 ·obtain⟨m,z⟩:=I.base.tbls b ps q
  exact⟨m,by rw [a'f (ne b _ z (λ_ _ y=>by cases y))];exact z⟩
 ·rw [a'f (by intro y;have z:=I.free;rw [y,e] at z;cases z)]
  exact I.free
 ·rw [a'f (by intro y;have z:=I.freeC x c q;rw [y,e] at z;cases z)]
  exact I.freeC x c q
 ·obtain⟨p1,p2,p3,p4,p5⟩:=I.pin p hp
  refine⟨p1,?_,p3,p4,p5⟩
  rw [a'f (by intro y;rw [y,e] at p2;cases p2)]
  exact p2
 ·by_cases hb:b=a
  ·subst hb
   rw [a'm] at q
   cases q
   exact ok
  ·rw [a'f hb] at q
   exact (I.hok b u q).stay (λ_ _ _ z=>z) (λc z=>by rw [a'f (ne c _ z (λ_ _ y=>by cases y))];exact z) λc xs z=>by rw [a'f (ne c _ z (λ_ _ y=>by cases y))];exact z
end
def Itd (a:Addr) (ob:Obj) (kvs:List (Key×V)):It:=
 ⟨λi H=>i<kvs.length/\H a=some (.frz ob (.dK kvs)),λi H x H'=>∃ p k v,kvs[i]?=some (k,v)/\H p=none/\x=.ref p/\H'=upd H p (.tup [kV k,v]),λi H=>kvs.length<=i/\H a=some (.frz ob (.dK kvs))⟩
theorem g'G {P:Program} {w:World} {k:Key} {u:Value} (h:(mixKind P w).is k u=true):RelV (kV k) u:=by
 rcases a'w (k:=k) (v:=u) h with ⟨i,t,rfl,rfl⟩ | ⟨x,t,rfl,rfl⟩
 ·exact⟨t,rfl⟩
 ·exact⟨t,rfl⟩
theorem KV.at {kvs:List (Key×V)} {vs:List (Key×Value)} (r:KV kvs vs):∀ {i:Nat} {k:Key} {v:V},kvs[i]?=some (k,v)->∃ u,vs[i]?=some (k,u)/\RelV v u:=by
 unfold KV at r
 induction r with
 | nil => intro i k v h; simp at h
 | @cons p q ps qs h t ih =>
  intro i k v e
  cases i with
  | zero=>
   simp at e
   subst e
   have e1:k=q.1:=h.1
   exact⟨q.2,by rw [e1];rfl,h.2⟩
  | succ i=>simpa using ih (i:=i) (k:=k) (v:=v) (by simpa using e)
theorem k'p {P:Program} {w:World} {K:W.Frag} {elts:List Expr} {x1:Nat} {pos:Pos} (a it:Addr) (ob:Obj) (kvs:List (Key×V)) (hne:a≠it) :
  Turn P w K (.Tuple elts x1 pos) (Itd a ob kvs) [it] it (λi h=>∃ es ep ok ov,ob.data=.dict es ep/\IsItemIter h it a i kvs.length ep ok ov) where
 mem:=by simp
 obj:=λi h st b hb=>by
  have e:b=it:=by simpa using hb
  subst e
  obtain⟨es,ep,ok,ov,hd,e⟩:=st
  exact⟨_,e,λv z=>by cases z⟩
 keep:=λi h h' st k=>by
  obtain⟨es,ep,ok,ov,hd,e⟩:=st
  exact⟨es,ep,ok,ov,hd,k it (by simp) _ e⟩
 item:=by
  intro X hP hw hK hc i pins s σ H E I hf st hg
  subst hP hw hK
  obtain⟨es,ep,ok,ov,hd,hit⟩:=st
  obtain⟨hi,hH⟩:=hg
  obtain⟨ho,z,y,vs,r,o',es',ep',ho',c1,c2,c3,c4,c5⟩:=(show ObjOk X.prog X.w H s.heap a (.frz ob (.dK kvs)) from I.hok a _ hH)
  have eo:o'=ob:=by rw [ho] at ho';exact (Option.some.inj ho').symm
  subst eo
  rw [hd] at c2
  cases c2
  have hm:s.heap.DictAt (mixKind X.prog X.w) a vs ep:=⟨o',es,ho,c1,hd,c3,c4,c5⟩
  obtain⟨⟨k,v⟩,hkv⟩:∃ q,kvs[i]?=some q:=⟨kvs[i],by simp [hi]⟩
  obtain⟨u,hu,ru⟩:=r.at hkv
  have hl:kvs.length=vs.length:=KV.length r
  rw [hl] at hit
  obtain⟨f0,f1,f2,f3,f4,f5⟩:=hf it (by simp)
  refine wpAny_pyNext_items_item hit hm hu λkey h' hkey hout hT hsz hk=>?_
  refine⟨.ref s.heap.objs.size,rfl,wpAny_letOwnedTupleGo_items hout λh2 he hs=>?_⟩
  have lit:it<s.heap.objs.size:=Heap.lt_size hit
  have I1:=I.laid (a:=s.heap.objs.size) (o:=.tup [kV k,v]) (h':=s.heap.push { cls:=.type "tuple",data:=.seq #[key,u] }) (t':=s.toks) (λb q hq=>Heap.get?_push_of_some _ hq) (Nat.le_refl _)
   ⟨by show 2<=sizeLine;decide,[key,u],.cons (g'G hkey) (.cons ru .nil),⟨_,Heap.get?_push_size _ rfl,rfl,_,rfl⟩⟩
  have hfr:H s.heap.objs.size=none:=I.hok.fresh (Nat.le_refl _)
  have nit:it≠s.heap.objs.size:=Nat.ne_of_lt lit
  refine⟨.ref s.heap.objs.size,upd H s.heap.objs.size (.tup [kV k,v]),?_,rfl,⟨_,k,v,hkv,hfr,rfl,rfl⟩,⟨es,ep,key,u,hd,by rw [hl];exact he⟩,λb hb=>?_⟩
  ·have I2:Inv X pins σ (upd H s.heap.objs.size (.tup [kV k,v])) { s with heap:=h2,toks:=s.toks }:=Inv.turned (s:={ s with heap:=s.heap.push { cls:=.type "tuple",data:=.seq #[key,u] },toks:=s.toks }) I1 (h':=h2) (t':=s.toks) (it:=it) (λb q hb hq=>?_) (by rw [a'f nit];exact f0) f1 f3 f4 f5
   ·exact I2
   ·refine hs.extBut b q hb ?_
    rcases Heap.get?_push_cases hq with ⟨hbs,eq⟩ | hq
    ·subst hbs
     subst eq
     exact hT
    ·exact hk b q hb hq
  ·have e:b=it:=by simpa using hb
   subst e
   rw [a'f nit]
   exact f0
 done:=by
  intro X hP hw hK hc i pins s σ H E I hf st hg
  subst hP hw hK
  obtain⟨es,ep,ok,ov,hd,hit⟩:=st
  obtain⟨hi,hH⟩:=hg
  obtain⟨ho,z,y,vs,r,o',es',ep',ho',c1,c2,c3,c4,c5⟩:=(show ObjOk X.prog X.w H s.heap a (.frz ob (.dK kvs)) from I.hok a _ hH)
  have eo:o'=ob:=by rw [ho] at ho';exact (Option.some.inj ho').symm
  subst eo
  rw [hd] at c2
  cases c2
  have hm:s.heap.DictAt (mixKind X.prog X.w) a vs ep:=⟨o',es,ho,c1,hd,c3,c4,c5⟩
  have hl:kvs.length=vs.length:=KV.length r
  rw [hl] at hit
  obtain⟨f0,f1,f2,f3,f4,f5⟩:=hf it (by simp)
  exact wpAny_pyNext_items_end (I.ok.hd hc) hit hm (by simp;omega) λh' eb=>⟨rfl,I.turned (t':=s.toks) (λb o hb e=>eb b o hb e) f0 f1 f3 f4 f5⟩
 self:=λA i s Q E st h=>by
  obtain⟨es,ep,ok,ov,hd,hit⟩:=st
  exact W.kcp_self hit h
section
variable {X:Cx}
def iItems (X:Cx) (td:TE):TI:=λσ H R=>td σ H λx H1=>∃ a kvs,x=.ref a/\H1 a=some (.dK kvs)/\∀ ob,(∀ o u,X.H₀ a≠some (.frz o u))->R (Itd a ob kvs) (upd H1 a (.frz ob (.dK kvs)))
theorem o'r {o:Expr} {td:TE} {elts:List Expr} {x1:Nat} {pos apos cpos:Pos} (ho:PE X o td) (hbase:attributeBase o "items" X.env (eval o X.env)=eval o X.env) (hline:(apos.endLine == cpos.line)=true) :
  PI X (.Tuple elts x1 pos) (.Call (.Attribute o "items" apos) [] [] cpos) (iItems X td):=by
 intro pins s σ H R I h
 refine wpAny_Call_method0_late hbase hline (thn (ho pins s σ H _ I h) λv s1 ⟨x,H1,I1,r1,a,kvs,ex,hH,q⟩=>?_)
 subst ex
 obtain rfl:v=Value.ref a:=r1
 obtain⟨t1,t2,hd⟩:=g'E I1 (.inl ⟨kvs,.inl hH⟩)
 refine⟨"dict","dict.items",PySem.F.plainAttrs_dict,PySem.F.slot_dict_items,PySem.F.type_dict_items,t1,t2,Calls.callWith_builtin rfl (PySem.evalArgs_none ?_)⟩
 obtain⟨z,y,vs,r,dd⟩:=g'p I1.hok hH
 refine call_meetsIn PySem.F.slot_dict_items t1 PySem.F.entry_dict_items (PySem.F.args_dict_items_1 _) (meets_dict_items (mixKind X.prog X.w) a hd) ⟨⟨vs,dd⟩,?_⟩
 have I2:Inv X pins σ H1 { s1 with heap:=s1.heap.push { cls:=.type "dict_items",data:=.fields #[.ref a] } }:=I1.kept (t':=s1.toks) λb o e=>Heap.get?_push_of_some _ e
 have hna:∀ o u,X.H₀ a≠some (.frz o u):=λo u z=>by
  have:=I1.base.frzs a o u z
  rw [hH] at this
  cases this
 obtain⟨ep,hat⟩:=dd.dictAt
 have hat2:=hat.push { cls:=.type "dict_items",data:=.fields #[.ref a] }
 refine wpAny_pyIter_items (v:=s1.heap.objs.size) (d:=a) ⟨_,Heap.get?_push_size _ rfl,rfl,rfl⟩ hat2 ?_
 obtain⟨ob,hob,I3⟩:=(I2.kept (t':=s1.toks) (h':=(s1.heap.push { cls:=.type "dict_items",data:=.fields #[.ref a] }).push { cls:=.type "dict_itemiterator",data:=.fields #[.none,.bool false,.ref a,.int 0 0,.int vs.length 0,.int ep 0,.none,.none] }) λb o e=>Heap.get?_push_of_some _ e).freeze hH
 have la:a<(s1.heap.push { cls:=.type "dict_items",data:=.fields #[.ref a] }).objs.size:=hat2.lt_size
 have hl:kvs.length=vs.length:=KV.length r
 refine⟨_,[_],_,_,upd H1 a (.frz ob (.dK kvs)),rfl,I3,k'p a (s1.heap.push { cls:=.type "dict_items",data:=.fields #[.ref a] }).objs.size ob kvs (Nat.ne_of_lt la),?_,λb hb=>?_,q ob hna⟩
 ·obtain⟨o2,es,ho2,c1,c2,_⟩:=hat2
  have e3:ob=o2:=by
   have e4:=Heap.get?_push_of_some { cls:=.type "dict_itemiterator",data:=.fields #[.none,.bool false,.ref a,.int 0 0,.int vs.length 0,.int ep 0,.none,.none] } ho2
   rw [e4] at hob
   exact (Option.some.inj hob).symm
  subst e3
  refine⟨es,ep,.none,.none,c2,?_⟩
  rw [hl]
  exact Heap.get?_push_size _ rfl
 ·have e:b=(s1.heap.push { cls:=.type "dict_items",data:=.fields #[.ref a] }).objs.size:=by simpa using hb
  subst e
  refine I2.fpOk (Nat.le_refl _) ?_
  rw [a'f (Nat.ne_of_gt la)]
  exact I2.hok.fresh (Nat.le_refl _)
def Thaw (X:Cx) (R:Hp->Prop) (H:Hp):Prop:=∃ a ob kvs,H a=some (.frz ob (.dK kvs))/\(∀ o u,X.H₀ a≠some (.frz o u))/\R (upd H a (.dK kvs))
def ThawD (X:Cx) (D:Ends):Ends:={ nx:=λσ=>Thaw X (D.nx σ),rt:=λv=>Thaw X (D.rt v),bk:=λσ=>Thaw X (D.bk σ),ct:=λσ=>Thaw X (D.ct σ) }
def tForD (X:Cx) (td:TE) (g:TG) (tb:TS):TS:=λD σ H=>tFor (iItems X td) g tb (ThawD X D) σ H
theorem r'N {o:Expr} {td:TE} {elts:List Expr} {x1:Nat} {pos apos cpos fpos:Pos} {body:List Stmt} {g:TG} {tb:TS} (hp:PassesOwn (model X.prog X.w) X.A X.env X.xe) (hc:X.calm=true) (ho:PE X o td)
  (hg:PG X (.Tuple elts x1 pos) g) (hb:PSs X body tb) (hbase:attributeBase o "items" X.env (eval o X.env)=eval o X.env:=by rfl) (hline:(apos.endLine == cpos.line)=true:=by rfl)
  (hs:∀ x,foldedSetIterable (.Call (.Attribute o "items" apos) [] [] cpos) X.env x=pure x:=by intro _;rfl):PS X (.For (.Tuple elts x1 pos) (.Call (.Attribute o "items" apos) [] [] cpos) body [] fpos) (tForD X td g tb):=by
 intro pins s σ H D I h
 have base:=l'i (pos:=fpos) hp hc (o'r (elts:=elts) (x1:=x1) (pos:=pos) ho hbase hline) hg hb hs pins s σ H (ThawD X D) I h
 refine thn base λf s' q=>?_
 cases f with
 | next => obtain ⟨σ', H', I', a, ob, kvs, e, hn, r⟩ := q; exact ⟨σ', _, I'.thaw e hn, r⟩
 | brk => obtain ⟨σ', H', I', a, ob, kvs, e, hn, r⟩ := q; exact ⟨σ', _, I'.thaw e hn, r⟩
 | cont => obtain ⟨σ', H', I', a, ob, kvs, e, hn, r⟩ := q; exact ⟨σ', _, I'.thaw e hn, r⟩
 | ret u => obtain ⟨v, σ', H', I', rv, a, ob, kvs, e, hn, r⟩ := q; exact ⟨v, σ', _, I'.thaw e hn, rv, r⟩
end
theorem l'x {a:Addr} {ob:Obj} {kvs:List (Key×V)} {g:TG} {tb:TS} {D:Ends} {σ:St} {H:Hp} (Pv:Nat->St->Hp->Prop) (h0:Pv 0 σ H) (hl:∀ i σ H,i<=kvs.length->Pv i σ H->H a=some (.frz ob (.dK kvs)))
  (hs:∀ i k v σ H p,kvs[i]?=some (k,v)->Pv i σ H->H p=none->g (.ref p) σ (upd H p (.tup [kV k,v])) λσ2 H2=>tb { D with nx:=Pv (i+1),ct:=Pv (i+1),bk:=D.nx } σ2 H2) (hd:∀ σ H,Pv kvs.length σ H->D.nx σ H) :
  ∃ W:Nat->Nat->St->Hp->Prop,(∃ m,W 0 m σ H)/\∀ i m σ H,W i m σ H->
   ((Itd a ob kvs).stop i H/\D.nx σ H)\/((Itd a ob kvs).go i H/\∃ N:St->Hp->Prop,(∀ σ' H',N σ' H'->∃ m',m'<m/\W (i+1) m' σ' H')/\∀ x H',(Itd a ob kvs).yld i H x H'->g x σ H' λσ2 H2=>tb { D with nx:=N,ct:=N,bk:=D.nx } σ2 H2):=by
 refine⟨λi m σ H=>m=kvs.length - i/\i<=kvs.length/\Pv i σ H,⟨kvs.length,by simp,Nat.zero_le _,h0⟩,?_⟩
 rintro i m σ H ⟨rfl,hi,p⟩
 have q:=hl i σ H hi p
 by_cases hlt:i<kvs.length
 ·refine .inr ⟨⟨hlt,q⟩,Pv (i+1),λσ' H' p'=>⟨kvs.length - (i+1),by omega,rfl,hlt,p'⟩,λx H' y=>?_⟩
  obtain⟨pa,k,v,e1,e2,rfl,rfl⟩:=y
  exact hs i k v σ H pa e1 p e2
 ·have e:i=kvs.length:=by omega
  subst e
  exact .inl ⟨⟨Nat.le_refl _,q⟩,hd σ H p⟩
section
variable {X:Cx}
theorem k'q:CallR X (.type "dict") (λxs H Q=>∃ a kvs,xs=[.ref a]/\Rd H a (.dK kvs)/\∀ p,H p=none->Q (.ref p) (upd H p (.dK kvs))):=by
 intro pins s σ H xs us Q I r h
 obtain⟨a,kvs,rfl,ha,q⟩:=h
 obtain⟨u,rfl,ru⟩:=c'y r
 cases ru
 exact o'n I ha λp s' hp I'=>⟨.ref p,_,I',rfl,q p hp⟩
theorem l'y:MtR X "dict.clear" (λx xs H Q=>∃ a kvs,x=.ref a/\xs=[]/\H a=some (.dK kvs)/\Q .non (upd H a (.dK []))):=by
 intro pins s σ H x xs v us Q I rx rv h
 obtain⟨a,kvs,rfl,rfl,ha,q⟩:=h
 cases rx
 cases rv
 exact r'F I ha λs' I'=>⟨.non,_,I',rfl,q⟩
def clsV:V->Option Value
 | .ty n => some (.type n)
 | .ref a => some (.ref a)
 | _ => none
theorem g'H:CallR X (.builtin "isinstance") (λxs H Q=>∃ x c t b u,xs=[x,c]/\TyOf X.K H x t/\clsV c=some u/\W.kitOne X.K t u=some b/\Q (.bl b) H):=by
 intro pins s σ H xs us Q I r h
 obtain⟨x,c,t,b,u,rfl,ty,rc,e,q⟩:=h
 obtain⟨v,w',rfl,rx,rw'⟩:=k'k r
 have ew:w'=u:=by
  cases c with
  | ref a=>cases rc;exact rw'
  | ty n=>cases rc;exact rw'
  | non=>cases rc
  | bl n=>cases rc
  | int i=>cases rc
  | str i=>cases rc
  | byt i=>cases rc
  | flt i=>cases rc
 subst ew
 exact l'n I rx ty e λtk=>⟨.bl b,H,I.tok tk,rfl,q⟩
end
def All2 (R:V->V->Prop):List V->List V->Prop
 | [], [] => True
 | x :: xs, y :: ys => R x y /\ All2 R xs ys
 | _, _ => False
theorem All2.length {R:V->V->Prop}:∀ {xs ys:List V},All2 R xs ys->xs.length=ys.length
 | [], [], _ => rfl
 | _ :: xs, _ :: ys, h => by rw [List.length_cons, List.length_cons, All2.length h.2]
 | [], _ :: _, h => h.elim
 | _ :: _, [], h => h.elim
theorem All2.get {R:V->V->Prop}:∀ {xs ys:List V} {j:Nat} {x y:V},All2 R xs ys->xs[j]?=some x->ys[j]?=some y->R x y
 | x :: xs, y :: ys, 0, _, _, h, e1, e2 => by simp at e1 e2; subst e1 e2; exact h.1
 | _ :: xs, _ :: ys, j + 1, x, y, h, e1, e2 => All2.get (xs := xs) (ys := ys) (j := j) h.2 (by simpa using e1) (by simpa using e2)
 | [], [], _, _, _, _, e1, _ => by simp at e1
 | [], _ :: _, _, _, _, h, _, _ => h.elim
 | _ :: _, [], _, _, _, h, _, _ => h.elim
def EqT (K:W.Frag) (H:Hp):Nat->V->V->Prop
 | 0, x, y => flatV x = true /\ x = y
 | n + 1, x, y => (flatV x = true /\ x = y) \/ ∃ p q xs ys, x = .ref p /\ y = .ref q /\ ((SqT K H p xs /\ SqT K H q ys) \/ (SqL K H p xs /\ SqL K H q ys)) /\ All2 (EqT K H n) xs ys
theorem g'I {x:V} (h:flatV x=true):eqV x x=true:=by
 cases x<;>first | rfl | (simp [eqV];done) | (simp [flatV] at h)
theorem a'T (A:Around):A.in1.units=A.units+1:=rfl
section
variable {X:Cx} {pins:List (Addr×Obj)} {σ:St} {H:Hp} {s:Shared}
theorem u'a {A:Around} {p q:Addr} {xs ys:List V} (I:Inv X pins σ H s) (hk:(SqT X.K H p xs/\SqT X.K H q ys)\/(SqL X.K H p xs/\SqL X.K H q ys)) (hu:A.units<cLine) (hl:xs.length=ys.length)
  (he:∀ (j:Nat) x y u v,xs[j]?=some x->ys[j]?=some y->RelV x u->RelV y v->SeqAt.EqAt A.in1 s u v true):SeqAt.RcAt A s (.ref p) (.ref q) true:=by
 have fin:∀ (its its2:List Value),Vals xs its->Vals ys its2->∀ j (h1:j<its.toArray.size) (h2:j<its2.toArray.size),SeqAt.EqAt A.in1 s its.toArray[j] its2.toArray[j] true:=by
  intro its its2 r1 r2 j h1 h2
  have l1:=r1.length
  have l2:=r2.length
  simp only [List.size_toArray] at h1 h2
  obtain⟨u,hu1,ru⟩:=r1.get (i:=j) (x:=xs[j]'(by omega)) (by simp)
  obtain⟨v,hv1,rv⟩:=r2.get (i:=j) (x:=ys[j]'(by omega)) (by simp)
  have e1:its.toArray[j]'(by simpa using h1)=u:=by
   have:=List.getElem?_eq_some_iff.mp hu1
   obtain⟨_,z⟩:=this
   simpa using z
  have e2:its2.toArray[j]'(by simpa using h2)=v:=by
   have:=List.getElem?_eq_some_iff.mp hv1
   obtain⟨_,z⟩:=this
   simpa using z
  rw [e1,e2]
  exact he j _ _ u v (by simp) (by simp) ru rv
 rcases hk with ⟨h1,h2⟩ | ⟨h1,h2⟩
 ·obtain⟨its,r1,t1,_⟩:=I.tuple h1
  obtain⟨its2,r2,t2,_⟩:=I.tuple h2
  have l1:=r1.length
  have l2:=r2.length
  have z:=SeqAt.RcAt.tuples (A:=A) (e:=λ_=>true) t1 t2 hu (fin its its2 r1 r2)
  have e:((List.range (min its.toArray.size its2.toArray.size)).all (λ_=>true) && its.toArray.size == its2.toArray.size)=true:=by
   simp only [List.size_toArray]
   simp
   omega
  rw [e] at z
  exact z
 ·obtain⟨its,r1,t1,_⟩:=I.list h1
  obtain⟨its2,r2,t2,_⟩:=I.list h2
  have l1:=r1.length
  have l2:=r2.length
  have z:=SeqAt.RcAt.lists (A:=A) (e:=λ_=>true) t1.isList t2.isList (by simp;omega) hu (fin its its2 r1 r2)
  have e:(List.range its.toArray.size).all (λ_=>true)=true:=by simp
  rw [e] at z
  exact z
theorem l'z (I:Inv X pins σ H s):∀ (n:Nat) {A:Around} {x y:V} {u v:Value},EqT X.K H n x y->RelV x u->RelV y v->A.units+n<cLine->SeqAt.EqAt A s u v true
 | 0, A, x, y, u, v, ⟨f, e⟩, ru, rv, _ => by
  subst e
  have z:=b'P (A:=A) (s:=s) ru rv f f
  rw [g'I f] at z
  exact z
 | n + 1, A, x, y, u, v, .inl ⟨f, e⟩, ru, rv, _ => by
  subst e
  have z:=b'P (A:=A) (s:=s) ru rv f f
  rw [g'I f] at z
  exact z
 | n + 1, A, x, y, u, v, .inr ⟨p, q, xs, ys, hx, hy, hk, al⟩, ru, rv, hu => by
  subst hx hy
  cases ru
  cases rv
  by_cases e:p=q
  ·subst e
   exact SeqAt.EqAt.same _
  ·refine SeqAt.EqAt.of_refs e (u'a I hk (by omega) al.length λj x y u v h1 h2 r1 r2=>?_)
   exact l'z I n (A:=A.in1) (al.get h1 h2) r1 r2 (by rw [a'T];omega)
end
section
variable {X:Cx}
theorem k'r {kvs:List (Key×V)} {vs:List (Key×Value)} {k:Key} {y:V} (r:KV kvs vs) (e:valV kvs k=some y):∃ u,valueAt vs k=some u/\RelV y u:=
 RelO.some_of (v:=y) (o:=valueAt vs k) (by rw [<- e];exact r.val k)
def DEqT (K:W.Frag) (H:Hp) (n:Nat) (ka kb:List (Key×V)):Prop:=ka.length=kb.length/\∀ k v,(k,v)∈ka->∃ y,valV kb k=some y/\EqT K H n v y
theorem w'i {pins:List (Addr×Obj)} {σ:St} {H:Hp} {s:Shared} {A:Around} {n:Nat} {kb:List (Key×V)} {vb:List (Key×Value)} (I:Inv X pins σ H s) (hu:A.units+n<cLine) (rb:KV kb vb) :
  ∀ {ka:List (Key×V)} {va:List (Key×Value)},KV ka va->(∀ k v,(k,v)∈ka->∃ y,valV kb k=some y/\EqT X.K H n v y)->W.KeqHits A s vb va true:=by
 intro ka va ra
 unfold KV at ra
 induction ra with
 | nil => intro _; exact .nil
 | @cons p q ps qs h t ih =>
  intro f
  obtain⟨y,e1,e2⟩:=f p.1 p.2 (List.mem_cons_self ..)
  obtain⟨u,e3,ru⟩:=k'r rb e1
  have z:=W.KeqHits.hit (A:=A) (s:=s) (k:=q.1) (v:=q.2) (y:=u) (r:=qs) (by rw [<- h.1];exact e3) (l'z I n (A:=A) e2 h.2 ru hu) (ih λk v m=>f k v (List.mem_cons_of_mem _ m))
  simpa using z
def rEqD (K:W.Frag) (b:Bool):R2:=λx y H Q=>∃ n p q ka kb,n<=40/\x=.ref p/\y=.ref q/\Rd H p (.dK ka)/\Rd H q (.dK kb)/\DEqT K H n ka kb/\Q (.bl b) H
theorem u'b (hu:X.A.units+64<cLine):OpR X (compareOp .NotEq) (rEqD X.K false):=by
 intro pins s σ H x y v u Q I rx ry h
 obtain⟨n,p,q,ka,kb,hn,rfl,rfl,h1,h2,⟨hl,al⟩,hq⟩:=h
 cases rx
 cases ry
 obtain⟨z1,y1,va,r1,d1⟩:=b'd I.hok h1
 obtain⟨z2,y2,vb,r2,d2⟩:=b'd I.hok h2
 have l1:ka.length=va.length:=KV.length r1
 have l2:kb.length=vb.length:=KV.length r2
 refine W.keq_ne (r:=true) y1 y2 d1 d2 (by omega) (λ_=>w'i I (by rw [a'T];omega) r2 r1 al) ?_
 have e:(va.length == vb.length && true)=true:=by simp;omega
 rw [e]
 exact⟨.bl false,H,I,rfl,hq⟩
end
end L2
namespace L2
open PySem PySem.Spec PyProof.Rows
section
variable {σ:St} {H:Hp} {Q:VK} {D:Ends} {K:W.Frag}
theorem Same.upd {a:Addr} {o:HO} (h:H a=none):Same H (upd H a o):=λb u e=>by rw [a'f (a's e h)];exact e
theorem Same.tup {H':Hp} {a:Addr} {xs:List V} (e:Same H H') (h:SqT K H a xs):SqT K H' a xs:=by
 rcases h with (h | ⟨o,h⟩) | h
 ·exact .inl (.inl (e _ _ h))
 ·exact .inl (.inr ⟨o,e _ _ h⟩)
 ·exact .inr h
theorem Same.rd {H':Hp} {a:Addr} {u:HO} (e:Same H H') (h:Rd H a u):Rd H' a u:=by
 rcases h with h | ⟨o,h⟩
 ·exact .inl (e _ _ h)
 ·exact .inr ⟨o,e _ _ h⟩
end
end L2
namespace L2
open PySem PySem.Spec PyProof.Rows
section
variable {σ:St} {H:Hp} {Q:VK} {D:Ends} {K:W.Frag} {X:Cx}
theorem Same.updN {H':Hp} {a:Addr} {o:HO} (e:Same H H') (n:H a=none):Same H (L2.upd H' a o):=λb u q=>by rw [a'f (a's q n)];exact e b u q
theorem a_part {t:TE} {R:Option Int->Hp->Prop} (h:t σ H λx H1=>∃ i,x=.int i/\R (some i) H1):tPart t σ H R:=h
end
end L2
namespace L2
open PySem PySem.Spec PyProof.Rows
section
variable {P:Program} {w:World} {A:Around} {s:Shared}
section
open PySem.AutoSeq1 (wpAny_loadPart')
end
section
open PySem.AutoSeq1 (wpAny_loadPart')
open PySem.MeetsSeq PySem.MeetsSeq2 PySem.MeetsSeq3 PySem.SeqRoads2 PySem.SeqAt
end
end
section
variable {X:Cx} {pins:List (Addr×Obj)} {σ:St} {H:Hp} {s:Shared}
end
section
variable {X:Cx}
end
end L2
namespace Sf
def gd (a b:Int):Int:=(Int.gcd a b:Nat)
theorem i'o (a:Int) (h:0<=a):gd a 0=a:=by
 unfold gd;rw [Int.gcd_zero_right];omega
theorem l'A {a b:Int} (ha:0<=a) (hb:0<b):gd b (a % b)=gd a b:=by
 unfold gd Int.gcd
 have e:(a % b).natAbs=a.natAbs % b.natAbs:=by
  obtain⟨m,rfl⟩:=Int.eq_ofNat_of_zero_le ha
  obtain⟨n,rfl⟩:=Int.eq_ofNat_of_zero_le (Int.le_of_lt hb)
  simp only [Int.natAbs_natCast]
  rw [<- Int.natCast_emod,Int.natAbs_natCast]
 rw [e,Nat.gcd_comm b.natAbs,Nat.gcd_comm a.natAbs,Nat.gcd_rec b.natAbs a.natAbs]
theorem c'U {a b:Int} (h:b≠0):0<gd a b:=by
 unfold gd
 have:=Int.gcd_pos_of_ne_zero_right a h
 omega
theorem l'B (a b:Int):gd (a.natAbs:Int) (b.natAbs:Int)=gd a b:=by
 unfold gd;simp [Int.gcd]
theorem e'q (a:Int):(if a<0 then -a else a)=(a.natAbs:Int):=by split<;>omega
theorem r'O (a b:Int):gd (if a<0 then -a else a) (if b<0 then -b else b)=gd a b:=by
 rw [e'q,e'q,l'B]
def dv (t b:Int):Int:=if b<0 then -(gd t b) else gd t b
theorem p'K {t b:Int} (h:b≠0):dv t b≠0:=by
 have:=c'U (a:=t) h
 unfold dv;split<;>omega
theorem g'J (t b:Int):gd t b ∣ t:=Int.gcd_dvd_left ..
theorem d'W (t b:Int):gd t b ∣ b:=Int.gcd_dvd_right ..
theorem o's (t b:Int):dv t b ∣ t:=by
 unfold dv;split
 ·exact Int.neg_dvd.mpr (g'J t b)
 ·exact g'J t b
theorem o't (t b:Int):dv t b ∣ b:=by
 unfold dv;split
 ·exact Int.neg_dvd.mpr (d'W t b)
 ·exact d'W t b
theorem p'L {x d:Int} (h:d ∣ x):x.fdiv d*d=x:=by
 rw [Int.fdiv_mul_cancel h]
theorem g'K {t b:Int} (h:b≠0):t.fdiv (dv t b)=(Rat.divInt t b).num:=by
 have hd:=p'K (t:=t) h
 refine Int.eq_of_mul_eq_mul_right hd ?_
 rw [p'L (o's t b),Rat.num_divInt]
 have e:b.gcd t=t.gcd b:=Int.gcd_comm ..
 rw [e]
 have hg:((t.gcd b:Nat):Int) ∣ t:=Int.gcd_dvd_left ..
 have hp:=c'U (a:=t) h
 unfold gd at hp
 unfold dv gd
 rw [Int.mul_ediv_assoc _ hg]
 obtain⟨k,hk⟩:=hg
 generalize hG:((t.gcd b:Nat):Int)=g at *
 have hk2:t / g=k:=by rw [hk];exact Int.mul_ediv_cancel_left k (by omega)
 rw [hk2]
 split
 ·rename_i hb
  rw [Int.sign_eq_neg_one_of_neg hb];grind
 ·rename_i hb
  rw [Int.sign_eq_one_of_pos (by omega)];grind
theorem g'L {t b:Int} (h:b≠0):b.fdiv (dv t b)=((Rat.divInt t b).den:Int):=by
 have hd:=p'K (t:=t) h
 refine Int.eq_of_mul_eq_mul_right hd ?_
 rw [p'L (o't t b),Rat.den_divInt,if_neg h]
 have e:b.gcd t=t.gcd b:=Int.gcd_comm ..
 rw [e]
 have hg:(t.gcd b) ∣ b.natAbs:=by rw [<- Int.ofNat_dvd_left];exact Int.gcd_dvd_right ..
 have hp:=c'U (a:=t) h
 unfold gd at hp
 unfold dv gd
 obtain⟨k,hk⟩:=hg
 have hk2:b.natAbs / t.gcd b=k:=by rw [hk];exact Nat.mul_div_cancel_left k (by omega)
 rw [hk2]
 generalize t.gcd b=g at *
 have hk3:(b.natAbs:Int)=(g:Int)*(k:Int):=by rw [hk];exact Int.natCast_mul ..
 split<;>grind
theorem i'p (q:Rat):0<(q.den:Int):=by have:=q.den_nz;omega
end Sf
namespace Sf
def Sm (n:Nat) (q:Rat):Prop:=q.num.natAbs<2 ^ n/\q.den<2 ^ n
theorem f'I {t b:Int} (h:b≠0):(Rat.divInt t b).num.natAbs<=t.natAbs/\(Rat.divInt t b).den<=b.natAbs:=by
 obtain⟨m,hm,e1,e2⟩:=Rat.divInt_num_den (n:=t) (d:=b) h (n':=(Rat.divInt t b).num) (d':=(Rat.divInt t b).den) (z':=(Rat.divInt t b).den_nz) (c:=(Rat.divInt t b).reduced) rfl
 have hm1:1<=m.natAbs:=by omega
 have a1:=congrArg Int.natAbs e1
 have a2:=congrArg Int.natAbs e2
 rw [Int.natAbs_mul] at a1 a2
 rw [Int.natAbs_natCast] at a2
 constructor
 ·rw [a1];exact Nat.le_mul_of_pos_right _ hm1
 ·rw [a2];exact Nat.le_mul_of_pos_right _ hm1
theorem c'V {n:Nat} {t b:Int} (h:b≠0) (h1:t.natAbs<2 ^ n) (h2:b.natAbs<2 ^ n):Sm n (Rat.divInt t b):=
 ⟨Nat.lt_of_le_of_lt (f'I h).1 h1,Nat.lt_of_le_of_lt (f'I h).2 h2⟩
theorem e'r (a b:Rat):a+b=Rat.divInt (a.num*b.den+b.num*a.den) (a.den*b.den):=by
 rw [Rat.add_def',<- Rat.divInt_ofNat]
 rfl
theorem e's (a b:Rat):a*b=Rat.divInt (a.num*b.num) (a.den*b.den):=by
 rw [Rat.mul_def',<- Rat.divInt_ofNat]
 rfl
theorem d'n (a b:Rat):(a.den*b.den:Int)≠0:=by
 have h1:=i'p a
 have h2:=i'p b
 exact Int.ne_of_gt (Int.mul_pos h1 h2)
theorem u'c {x y n m:Nat} (h1:x<2 ^ n) (h2:y<2 ^ m):x*y<2 ^ (n+m):=by
 rw [Nat.pow_add]
 exact Nat.mul_lt_mul'' h1 h2
theorem b'e {x y:Int} {n m:Nat} (h1:x.natAbs<2 ^ n) (h2:y.natAbs<2 ^ m):(x*y).natAbs<2 ^ (n+m):=by
 rw [Int.natAbs_mul];exact u'c h1 h2
theorem k's {x y:Int} {n:Nat} (h1:x.natAbs<2 ^ n) (h2:y.natAbs<2 ^ n):(x+y).natAbs<2 ^ (n+1):=by
 rw [Nat.pow_succ];omega
theorem b'M {n:Nat} {q:Rat} (h:Sm n q):(q.den:Int).natAbs<2 ^ n:=by rw [Int.natAbs_natCast];exact h.2
theorem up2 {x:Int} {n m:Nat} (h:x.natAbs<2 ^ n) (k:n<=m):x.natAbs<2 ^ m:=Nat.lt_of_lt_of_le h (Nat.pow_le_pow_right (by decide) k)
theorem u'd {n m:Nat} {a b:Rat} (h1:Sm n a) (h2:Sm m b):Sm (n+m+1) (a+b):=by
 rw [e'r]
 refine c'V (d'n a b) ?_ ?_
 ·refine k's (b'e h1.1 (b'M h2)) ?_
  rw [Nat.add_comm n m];exact b'e h2.1 (b'M h1)
 ·exact up2 (b'e (b'M h1) (b'M h2)) (by omega)
theorem u'e {n m:Nat} {a b:Rat} (h1:Sm n a) (h2:Sm m b):Sm (n+m) (a*b):=by
 rw [e's]
 exact c'V (d'n a b) (b'e h1.1 h2.1) (b'e (b'M h1) (b'M h2))
end Sf
namespace Sf
section
variable {κ:Type} [DecidableEq κ]
abbrev FL (κ:Type):=List (κ×Rat)
def gt (m:FL κ) (k:κ):Option Rat:=(m.find? λp=>decide (p.1=k)).map (·.2)
def pt (m:FL κ) (k:κ) (q:Rat):FL κ:=if (m.any λp=>decide (p.1=k))=true then m.map (λp=>if p.1=k then (p.1,q) else p) else m++[(k,q)]
def nz (m:FL κ):FL κ:=m.filter λp=>decide (p.2≠0)
def sc (m:FL κ) (n:Rat):FL κ:=m.map λp=>(p.1,p.2*n)
def Nd (m:FL κ):Prop:=(m.map (·.1)).Nodup
theorem u'f (k:κ):gt ([]:FL κ) k=none:=rfl
theorem a'D {p:κ×Rat} {r:FL κ} {k:κ} (e:p.1=k):gt (p :: r) k=some p.2:=by simp [gt,List.find?_cons,e]
theorem a'E {p:κ×Rat} {r:FL κ} {k:κ} (e:¬ p.1=k):gt (p :: r) k=gt r k:=by simp [gt,List.find?_cons,e]
theorem c'W (k:κ):∀ m:FL κ,(m.any λp=>decide (p.1=k))=(gt m k).isSome
 | [] => rfl
 | p :: r => by
  rw [List.any_cons]
  by_cases e:p.1=k
  ·simp [a'D e,e]
  ·rw [a'E e,c'W k r];simp [e]
theorem a'P (k:κ):∀ m:FL κ,gt m k=none↔k ∉ m.map (·.1)
 | [] => by simp [u'f]
 | p :: r => by
  by_cases e:p.1=k
  ·simp [a'D e,e]
  ·rw [a'E e,a'P k r];simp [Ne.symm e]
theorem b'W {k:κ} {q:Rat}:∀ {m:FL κ},Nd m->(k,q)∈m->gt m k=some q
 | p :: r, n, h => by
  obtain⟨n1,n2⟩:=List.nodup_cons.mp (show (p.1 :: r.map (·.1)).Nodup from n)
  rcases List.mem_cons.mp h with e | h
  ·subst e;exact a'D rfl
  ·have ne:¬ p.1=k:=λz=>n1 (by rw [z];exact List.mem_map.mpr ⟨_,h,rfl⟩)
   rw [a'E ne];exact b'W n2 h
theorem u'g {m:FL κ} {k:κ} (q:Rat) (h:gt m k=none):pt m k q=m++[(k,q)]:=by
 unfold pt;rw [c'W,h];rfl
theorem l'C (f:κ×Rat->Bool) {m:FL κ} (n:Nd m):Nd (m.filter f):=by
 unfold Nd at *
 exact List.Pairwise.sublist (List.Sublist.map _ List.filter_sublist) n
theorem l'D (k:κ) (q:Rat) (m:FL κ):(m.map (λp=>if p.1=k then (p.1,q) else p)).map (·.1)=m.map (·.1):=by
 rw [List.map_map]
 refine List.map_congr_left λp _=>?_
 show (if p.1=k then (p.1,q) else p).1=p.1
 split<;>rfl
theorem p'M {m:FL κ} (n:Nd m) (k:κ) (q:Rat):Nd (pt m k q):=by
 unfold pt
 by_cases h:(m.any λp=>decide (p.1=k))=true
 ·rw [if_pos h];unfold Nd;rw [l'D];exact n
 ·rw [if_neg h]
  have hn:gt m k=none:=by
   rw [c'W] at h
   cases z:gt m k with
   | none=>rfl
   | some _=>rw [z] at h;simp at h
  unfold Nd at *
  rw [List.map_append]
  refine List.nodup_append.mpr ⟨n,by simp,?_⟩
  intro a ha b hb
  have:b=k:=by simpa using hb
  subst this
  exact λz=>(a'P b m).mp hn (z ▸ ha)
theorem e't {m:FL κ} (n:Nd m) (x:Rat):Nd (sc m x):=by
 unfold Nd sc at *;rw [List.map_map];exact n
theorem i'q (k j:κ) (q:Rat):∀ m:FL κ,gt (m.map (λp=>if p.1=k then (p.1,q) else p)) j=(gt m j).map λx=>if j=k then q else x
 | [] => rfl
 | p :: r => by
  have ih:=i'q k j q r
  rw [List.map_cons]
  by_cases h:p.1=k
  ·rw [if_pos h]
   by_cases e:p.1=j
   ·rw [a'D (p:=(p.1,q)) e,a'D e];simp [<- e,h]
   ·rw [a'E (p:=(p.1,q)) e,a'E e,ih]
  ·rw [if_neg h]
   by_cases e:p.1=j
   ·rw [a'D e,a'D e];simp [<- e,h]
   ·rw [a'E e,a'E e,ih]
theorem i'r (k j:κ) (q:Rat):∀ m:FL κ,gt m k=none->gt (m++[(k,q)]) j=if j=k then some q else gt m j
 | [], _ => by
  by_cases e:k=j
  ·rw [if_pos e.symm];exact a'D (p:=(k,q)) e
  ·rw [if_neg (Ne.symm e)];exact a'E (p:=(k,q)) e
 | p :: r, h => by
  have hk:¬ p.1=k:=λz=>by rw [a'D z] at h;cases h
  rw [a'E hk] at h
  have ih:=i'r k j q r h
  rw [List.cons_append]
  by_cases e:p.1=j
  ·rw [a'D e,a'D e,if_neg (λz=>hk (e.trans z))]
  ·rw [a'E e,a'E e,ih]
theorem k't (m:FL κ) (k j:κ) (q:Rat):gt (pt m k q) j=if j=k then some q else gt m j:=by
 unfold pt
 by_cases h:(m.any λp=>decide (p.1=k))=true
 ·rw [if_pos h,i'q]
  rw [c'W] at h
  by_cases e:j=k
  ·subst e
   obtain⟨x,hx⟩:=Option.isSome_iff_exists.mp h
   simp [hx]
  ·simp [e]
 ·rw [if_neg h]
  refine i'r k j q m ?_
  rw [c'W] at h
  cases z:gt m k with
  | none=>rfl
  | some _=>rw [z] at h;simp at h
def run (P:κ->Rat) (r:Rat) (m:FL κ):Rat:=m.foldl (λt p=>t+p.2*P p.1) r
end
end Sf
namespace Sf
section
variable {κ:Type} [DecidableEq κ]
theorem f'J {α:Type} {m:List α} {i:Nat} {p:α} (e:m[i]?=some p):m.take (i+1)=m.take i++[p]:=by
 rw [List.take_add_one,e];rfl
theorem g'M {m:FL κ} (n:Nd m) {i:Nat} {x:κ} {q:Rat} (e:m[i]?=some (x,q)):gt (m.take i) x=none:=by
 rw [a'P]
 intro h
 have hi:i<m.length:=(List.getElem?_eq_some_iff.mp e).1
 have hm:(m.map (·.1))[i]?=some x:=by rw [List.getElem?_map,e];rfl
 rw [List.map_take] at h
 obtain⟨j,hj,ej⟩:=List.mem_take_iff_getElem.mp h
 have hj':j<i:=by simp at hj;omega
 have n':(m.map (·.1)).Nodup:=n
 have:=List.getElem?_eq_some_iff.mp hm
 obtain⟨hi2,ei⟩:=this
 have:=(List.pairwise_iff_getElem.mp n') j i (by omega) hi2 hj'
 exact this (by rw [ei];exact ej)
theorem k'u {m:FL κ} {x:κ} (n:Rat) (h:gt m x=none):gt (sc m n) x=none:=by
 rw [a'P] at h ⊢
 unfold sc
 rw [List.map_map]
 exact h
theorem r'P {m:FL κ} {i:Nat} {x:κ} {q:Rat} (n:Rat) (e:m[i]?=some (x,q)):sc (m.take (i+1)) n=sc (m.take i) n++[(x,q*n)]:=by
 rw [f'J e];unfold sc;rw [List.map_append];rfl
def addM (a b:FL κ):FL κ:=b.foldl (λm p=>pt m p.1 ((gt m p.1).getD 0+p.2)) a
theorem l'E {a b:FL κ} {i:Nat} {x:κ} {q:Rat} (e:b[i]?=some (x,q)):addM a (b.take (i+1))=pt (addM a (b.take i)) x ((gt (addM a (b.take i)) x).getD 0+q):=by
 rw [f'J e];unfold addM;rw [List.foldl_append];rfl
theorem d'o:∀ (b a:FL κ),Nd a->Nd (addM a b)
 | [], a, h => h
 | p :: r, a, h => d'o r _ (p'M h _ _)
theorem c'M {x:κ}:∀ (b a:FL κ),x ∉ b.map (·.1)->gt (addM a b) x=gt a x
 | [], a, _ => rfl
 | p :: r, a, h => by
  have h1:¬ x=p.1:=λz=>h (by rw [z];simp)
  have ih:=c'M (x:=x) r (pt a p.1 ((gt a p.1).getD 0+p.2)) (λz=>h (by simp [z]))
  show gt (addM (pt a p.1 ((gt a p.1).getD 0+p.2)) r) x=_
  rw [ih,k't,if_neg h1]
theorem g'b {a b:FL κ} (n:Nd b) {i:Nat} {x:κ} {q:Rat} (e:b[i]?=some (x,q)):gt (addM a (b.take i)) x=gt a x:=
 c'M _ _ ((a'P x _).mp (g'M n e))
theorem e'u (m:FL κ):(nz m).length<=m.length:=List.length_filter_le _ _
theorem e'v (m:FL κ) (n:Rat):(sc m n).length=m.length:=List.length_map ..
theorem g'r {m:FL κ} (n:Nd m):Nd (nz m):=l'C _ n
end
end Sf
namespace Sf
section
variable {κ:Type} [DecidableEq κ]
theorem i's {x:κ}:∀ (b a:FL κ),Nd b->gt (addM a b) x=match gt b x with | none=>gt a x | some q=>some ((gt a x).getD 0+q)
 | [], a, _ => rfl
 | p :: r, a, n => by
  obtain⟨n1,n2⟩:=List.nodup_cons.mp (show (p.1 :: r.map (·.1)).Nodup from n)
  have ih:=i's (x:=x) r (pt a p.1 ((gt a p.1).getD 0+p.2)) n2
  show gt (addM (pt a p.1 ((gt a p.1).getD 0+p.2)) r) x=_
  rw [ih,k't]
  by_cases e:p.1=x
  ·have hn:gt r x=none:=(a'P x r).mpr (e ▸ n1)
   rw [hn,a'D e,if_pos e.symm]
   simp [e]
  ·rw [a'E e,if_neg (λz=>e z.symm)]
theorem e'w {x:κ}:∀ {m:FL κ},Nd m->gt (nz m) x=match gt m x with | none=>none | some q=>if q=0 then none else some q
 | [], _ => rfl
 | p :: r, n => by
  obtain⟨n1,n2⟩:=List.nodup_cons.mp (show (p.1 :: r.map (·.1)).Nodup from n)
  have ih:=e'w (x:=x) n2
  unfold nz at ih ⊢
  by_cases e:p.1=x
  ·have hn:gt r x=none:=(a'P x r).mpr (e ▸ n1)
   rw [hn] at ih
   rw [a'D e]
   by_cases h:p.2=0
   ·rw [List.filter_cons_of_neg (by simp [h]),ih];simp [h]
   ·rw [List.filter_cons_of_pos (by simp [h]),a'D e];simp [h]
  ·rw [a'E e]
   by_cases h:p.2=0
   ·rw [List.filter_cons_of_neg (by simp [h]),ih]
   ·rw [List.filter_cons_of_pos (by simp [h]),a'E e,ih]
theorem k'v {x:κ} (n:Rat):∀ m:FL κ,gt (sc m n) x=(gt m x).map (·*n)
 | [] => rfl
 | p :: r => by
  have ih:=k'v (x:=x) n r
  unfold sc at ih ⊢
  rw [List.map_cons]
  by_cases e:p.1=x
  ·rw [a'D (p:=(p.1,p.2*n)) e,a'D e];rfl
  ·rw [a'E (p:=(p.1,p.2*n)) e,a'E e,ih]
end
end Sf
namespace Sf
section
variable {κ:Type} [DecidableEq κ]
end
end Sf
namespace Sf
section
variable {κ:Type} [DecidableEq κ]
end
end Sf
namespace Sf
section
variable {κ:Type} [DecidableEq κ]
end
end Sf
namespace Sf
open PySem L2
def fr (q:Rat):List V:=[.int q.num,.int (q.den:Int)]
end Sf
namespace Vc
open PySem L2 Sf
def Le (F F':Hp):Prop:=∀ a u,(∀ o w,u≠.frz o w)->Rd F a u->Rd F' a u
theorem Le.refl (F:Hp):Le F F:=λ_ _ _ h=>h
theorem Le.trans {F G H:Hp} (a:Le F G) (b:Le G H):Le F H:=λx u n h=>b x u n (a x u n h)
theorem Le.of {F F':Hp} (e:Same F F'):Le F F':=λa u _ h=>e.rd h
theorem Le.tup {K:W.Frag} {F F':Hp} {a:Addr} {xs:List V} (e:Le F F') (h:SqT K F a xs):SqT K F' a xs:=by
 rcases h with h | h
 ·exact .inl (e _ _ (by intro o w z;cases z) h)
 ·exact .inr h
theorem Le.lst {K:W.Frag} {F F':Hp} {a:Addr} {xs:List V} (e:Le F F') (h:SqL K F a xs):SqL K F' a xs:=by
 rcases h with h | h
 ·exact .inl (e _ _ (by intro o w z;cases z) h)
 ·exact .inr h
theorem Le.dic {F F':Hp} {a:Addr} {kvs:List (Key×V)} (e:Le F F') (h:Rd F a (.dK kvs)):Rd F' a (.dK kvs):=e _ _ (by intro o w z;cases z) h
def Fz (S:Addr->Prop) (F:Hp):Prop:=∀ a o u,F a=some (.frz o u)->S a
abbrev S0:Addr->Prop:=λ_=>False
def frzd (F:Hp):Addr->Prop:=λa=>∃ o u,F a=some (.frz o u)
structure Gr0 (F H F' H':Hp):Prop where
 h:Same H H'
 f:Same F F'
 s:Same F' H'
 n:∀ a u,F' a=some u->F a=none->H a=none
structure Gr (F H F' H':Hp):Prop extends Gr0 F H F' H' where
 z:Fz (frzd F) F'
theorem Gr0.refl {F H:Hp} (s:Same F H):Gr0 F H F H:=⟨Same.refl _,Same.refl _,s,(λa u h e=>by rw [h] at e;cases e)⟩
theorem Fz.refl (F:Hp):Fz (frzd F) F:=λ_ o u h=>⟨o,u,h⟩
theorem Gr.of {F H F' H':Hp} (g:Gr0 F H F' H') (z:Fz (frzd F) F'):Gr F H F' H':=⟨g,z⟩
theorem Gr.le {F H F' H':Hp} (g:Gr F H F' H'):Le F F':=.of g.f
theorem Gr.fz {F H F' H':Hp} {S:Addr->Prop} (g:Gr F H F' H') (c:Fz S F):Fz S F':=λa o u h=>by
 obtain⟨o',u',e⟩:=g.z a o u h
 exact c a o' u' e
theorem Gr0.trans {F H F1 H1 F2 H2:Hp} (a:Gr0 F H F1 H1) (b:Gr0 F1 H1 F2 H2):Gr0 F H F2 H2:=
 ⟨a.h.trans b.h,a.f.trans b.f,b.s,(λx u h e=>match q:F1 x with
  | none=>a.h.free (b.n x u h q)
  | some w=>a.n x w q e)⟩
theorem Gr0.tr {F H F1 H1 F2 H2:Hp} (a:Gr0 F H F1 H1) (b:Gr F1 H1 F2 H2):Gr0 F H F2 H2:=a.trans b.toGr0
theorem Gr.own {F H F' H':Hp} (g:Gr F H F' H') {o:Addr} {u:HO} (eF:F o=none) (eH:H o=some u):F' o=none:=by
 cases q:F' o with
 | none => rfl
 | some w => have := g.n o w q eF; rw [eH] at this; cases this
theorem al {F H:Hp} {o:HO} {R:V->Hp->Prop} (wd:Same F H) (nf:∀ x u,o≠.frz x u) (h:∀ (p:Addr) (F' H':Hp),Gr F H F' H'->F' p=some o->R (.ref p) H'):∀ p,H p=none->R (.ref p) (upd H p o):=λp hp=>by
 have fp:F p=none:=wd.free hp
 refine h p (upd F p o) (upd H p o) ⟨⟨Same.upd hp,Same.upd fp,?_,λa u e q=>?_⟩,λa x u e=>?_⟩ a'm
 ·intro b u e
  by_cases hb:b=p
  ·subst hb;rw [a'm] at e ⊢;exact e
  ·rw [a'f hb] at e ⊢;exact wd b u e
 ·by_cases hb:a=p
  ·subst hb;exact hp
  ·rw [a'f hb,q] at e;cases e
 ·by_cases hb:a=p
  ·subst hb;rw [a'm] at e;exact absurd (Option.some.inj e) (nf x u)
  ·rw [a'f hb] at e;exact⟨_,_,e⟩
theorem al1 {F H:Hp} {o:HO} {p:Addr} {R:Hp->Prop} (wd:Same F H) (nf:∀ x u,o≠.frz x u) (hp:H p=none) (h:∀ F' H':Hp,Gr F H F' H'->F' p=some o->R H'):R (upd H p o):=by
 have:=al (R:=λv H'=>∀ q,v=.ref q->q=p->R H') wd nf (λq F' H' g e z hz hq=>by cases hz;subst hq;exact h F' H' g e) p hp
 exact this p rfl rfl
theorem al2 {F H:Hp} {o:HO} {p:Addr} (wd:Same F H) (nf:∀ x u,o≠.frz x u) (hp:H p=none):∃ F',Gr F H F' (upd H p o)/\F' p=some o:=
 al1 (R:=λH'=>∃ F',Gr F H F' H'/\F' p=some o) wd nf hp λF' _ g e=>⟨F',g,e⟩
theorem frz {Fb Hb F H:Hp} {S:Addr->Prop} {p:Addr} {o:HO} (gb:Gr0 Fb Hb F H) (cm:Fz S F) (hb:Hb p=none) (hf:F p=none) (hH:H p=some o) (nf:∀ x u,o≠.frz x u):∃ F',Gr0 Fb Hb F' H/\Fz S F'/\Same F F'/\F' p=some o/\∀ a,a≠p->F' a=F a:=by
 refine⟨upd F p o,⟨gb.h,gb.f.trans (Same.upd hf),?_,λa u e q=>?_⟩,λa x u e=>?_,Same.upd hf,a'm,λ_ e=>a'f e⟩
 ·intro b u e
  by_cases hb:b=p
  ·subst hb;rw [a'm] at e;cases e;exact hH
  ·rw [a'f hb] at e;exact gb.s b u e
 ·by_cases hb':a=p
  ·subst hb';exact hb
  ·rw [a'f hb'] at e;exact gb.n a u e q
 ·by_cases hb':a=p
  ·subst hb';rw [a'm] at e;exact absurd (Option.some.inj e) (nf x u)
  ·rw [a'f hb'] at e;exact cm a x u e
def fz (X:Hp) (a:Addr) (o:HO):Hp:=λb=>if b=a then (if X a=none then none else some o) else X b
theorem a'u {X:Hp} {a b:Addr} {o:HO} (h:b≠a):fz X a o b=X b:=by unfold fz;rw [if_neg h]
theorem a'Q {X:Hp} {a:Addr} {o:HO}:fz X a o a=if X a=none then none else some o:=by unfold fz;rw [if_pos rfl]
theorem d'p {X:Hp} {a:Addr} {o u:HO} (h:fz X a o a=some u):X a≠none/\some o=some u:=by
 rw [a'Q] at h
 split at h
 ·cases h
 ·rename_i q;exact⟨q,h⟩
theorem w'j {Fb Hb F H:Hp} {a:Addr} (z:HO) (gb:Gr0 Fb Hb F H):Gr0 (fz Fb a z) (fz Hb a z) (fz F a z) (upd H a z):=by
 refine⟨λb u e=>?_,λb u e=>?_,λb u e=>?_,λb u e q=>?_⟩
 ·by_cases hb:b=a
  ·subst hb;rw [a'm];exact (d'p e).2
  ·rw [a'u hb] at e;rw [a'f hb];exact gb.h b u e
 ·by_cases hb:b=a
  ·subst hb
   rw [a'Q] at e ⊢
   split at e
   ·cases e
   ·rename_i h
    obtain⟨w,hw⟩:=Option.ne_none_iff_exists'.mp h
    rw [if_neg (by rw [gb.f _ _ hw];intro z;cases z)];exact e
  ·rw [a'u hb] at e ⊢;exact gb.f b u e
 ·by_cases hb:b=a
  ·subst hb;rw [a'm];exact (d'p e).2
  ·rw [a'u hb] at e;rw [a'f hb];exact gb.s b u e
 ·by_cases hb:b=a
  ·subst hb
   rw [a'Q] at e q ⊢
   split at e
   ·cases e
   ·rename_i h
    obtain⟨w,hw⟩:=Option.ne_none_iff_exists'.mp h
    split at q
    ·rename_i hf
     rw [if_pos (gb.n _ _ hw hf)]
    ·cases q
  ·rw [a'u hb] at e q ⊢;exact gb.n b u e q
theorem g's {F:Hp} {a:Addr} {ob:Obj} {kvs:List (Key×V)} (hF:F a=none\/F a=some (.dK kvs)):Le F (fz F a (.frz ob (.dK kvs))):=λb u n h=>by
 by_cases hb:b=a
 ·subst hb
  rcases hF with hF | hF
  ·rcases h with h | ⟨o,h⟩<;>(rw [hF] at h;cases h)
  ·rcases h with h | ⟨o,h⟩
   ·rw [hF] at h
    cases h
    refine .inr ⟨ob,?_⟩
    rw [a'Q,if_neg (by rw [hF];intro z;cases z)]
   ·rw [hF] at h;cases h
 ·rcases h with h | ⟨o,h⟩
  ·exact .inl (by rw [a'u hb];exact h)
  ·exact .inr ⟨o,by rw [a'u hb];exact h⟩
theorem thw {Fb Hb F H F' H':Hp} {S:Addr->Prop} {a:Addr} {ob:Obj} {kvs:List (Key×V)} {R:Hp->Prop} (gb:Gr0 Fb Hb F H) (hH:H a=some (.dK kvs)) (hF:F a=none\/F a=some (.dK kvs))
  (gz:Gr0 (fz Fb a (.frz ob (.dK kvs))) (fz Hb a (.frz ob (.dK kvs))) F' H') (sF:F' a=fz F a (.frz ob (.dK kvs)) a) (cm:Fz (λb=>b=a\/S b) F')
  (h:∀ F'' H'':Hp,Gr0 Fb Hb F'' H''->Fz S F''->Le F' F''->F'' a=F a->H'' a=some (.dK kvs)->(∀ b,b≠a->F'' b=F' b)->(∀ b,b≠a->H'' b=H' b)->R H''):R (upd H' a (.dK kvs)):=by
 have nn:F'  a=none\/F' a=some (.frz ob (.dK kvs)):=by
  rw [sF,a'Q];split
  ·exact .inl rfl
  ·exact .inr rfl
 refine h (fz F' a (.dK kvs)) (upd H' a (.dK kvs)) ⟨λb u e=>?_,λb u e=>?_,λb u e=>?_,λb u e q=>?_⟩ (λb o u e=>?_) (λb u n e=>?_) ?_ a'm (λb hb=>a'u hb) (λb hb=>a'f hb)
 ·by_cases hb:b=a
  ·subst hb;rw [a'm];have:=gb.h _ _ e;rw [hH] at this;exact this
  ·rw [a'f hb];exact gz.h b u (by rw [a'u hb];exact e)
 ·by_cases hb:b=a
  ·subst hb
   have e1:=gb.f _ _ e
   rcases hF with hF | hF
   ·rw [hF] at e1;cases e1
   ·rw [hF] at e1
    have e2:F' b=some (.frz ob (.dK kvs)):=by rw [sF,a'Q,if_neg (by rw [hF];intro z;cases z)]
    rw [a'Q,if_neg (by rw [e2];intro z;cases z)]
    exact e1
  ·rw [a'u hb];exact gz.f b u (by rw [a'u hb];exact e)
 ·by_cases hb:b=a
  ·subst hb;rw [a'm];exact (d'p e).2
  ·rw [a'u hb] at e;rw [a'f hb];exact gz.s b u e
 ·by_cases hb:b=a
  ·subst hb
   rw [a'Q] at e
   split at e
   ·cases e
   ·rename_i hn
    rw [sF,a'Q] at hn
    split at hn
    ·exact absurd rfl hn
    ·rename_i hf
     obtain⟨w,hw⟩:=Option.ne_none_iff_exists'.mp hf
     exact gb.n _ _ hw q
  ·rw [a'u hb] at e
   have:=gz.n b u e (by rw [a'u hb];exact q)
   rw [a'u hb] at this
   exact this
 ·by_cases hb:b=a
  ·subst hb;cases (d'p e).2
  ·rw [a'u hb] at e
   rcases cm b o u e with x | x
   ·exact absurd x hb
   ·exact x
 ·by_cases hb:b=a
  ·subst hb
   rcases nn with nn | nn
   ·rcases e with e | ⟨o,e⟩<;>(rw [nn] at e;cases e)
   ·rcases e with e | ⟨o,e⟩
    ·rw [nn] at e;cases e;exact absurd rfl (n _ _)
    ·rw [nn] at e;cases e;refine .inl ?_;rw [a'Q,if_neg (by rw [nn];intro z;cases z)]
  ·rcases e with e | ⟨o,e⟩
   ·exact .inl (by rw [a'u hb];exact e)
   ·exact .inr ⟨o,by rw [a'u hb];exact e⟩
 ·rw [a'Q,sF,a'Q]
  rcases hF with hF | hF<;>rw [hF]
  ·rfl
  ·rfl
theorem i't {F:Hp} {a:Addr} {kvs:List (Key×V)} (c:Fz S0 F) (h:Rd F a (.dK kvs)):F a=some (.dK kvs):=by
 rcases h with h | ⟨o,h⟩
 ·exact h
 ·exact (c _ _ _ h).elim
abbrev Rep (α:Type):=Hp->V->α->Prop
def rS:Rep Str:=λ_ v s=>v=.str s
def rFr (K:W.Frag):Rep Rat:=λF v q=>∃ a,v=.ref a/\SqT K F a (fr q)
def r2 (K:W.Frag) {α β:Type} (A:Rep α) (B:Rep β):Rep (α×β):=λF v x=>∃ a v1 v2,v=.ref a/\SqT K F a [v1,v2]/\A F v1 x.1/\B F v2 x.2
def r3 (K:W.Frag) {α β γ:Type} (A:Rep α) (B:Rep β) (C:Rep γ):Rep (α×β×γ):=λF v x=>∃ a v1 v2 v3,v=.ref a/\SqT K F a [v1,v2,v3]/\A F v1 x.1/\B F v2 x.2.1/\C F v3 x.2.2
def r5 (K:W.Frag) {α β γ δ ε:Type} (A:Rep α) (B:Rep β) (C:Rep γ) (D:Rep δ) (E:Rep ε):Rep (α×β×γ×δ×ε):=λF v x=>∃ a v1 v2 v3 v4 v5,v=.ref a/\SqT K F a [v1,v2,v3,v4,v5]/\A F v1 x.1/\B F v2 x.2.1/\C F v3 x.2.2.1/\D F v4 x.2.2.2.1/\E F v5 x.2.2.2.2
def Al {α:Type} (A:Rep α) (F:Hp):List V->List α->Prop
 | [], [] => True
 | v :: vs, x :: xs => A F v x /\ Al A F vs xs
 | _, _ => False
section
variable {α:Type}
def gtd (m:List (Str×α)) (k:Str):Option α:=(m.find? λp=>decide (p.1=k)).map (·.2)
def ptd (m:List (Str×α)) (k:Str) (y:α):List (Str×α):=if (m.any λp=>decide (p.1=k))=true then m.map (λp=>if p.1=k then (p.1,y) else p) else m++[(k,y)]
theorem g'N (m:FL Str) (k:Str):gtd m k=gt m k:=rfl
theorem a'K {p:Str×α} {r:List (Str×α)} {k:Str} (e:p.1=k):gtd (p :: r) k=some p.2:=by simp [gtd,List.find?_cons,e]
theorem a'L {p:Str×α} {r:List (Str×α)} {k:Str} (e:¬ p.1=k):gtd (p :: r) k=gtd r k:=by simp [gtd,List.find?_cons,e]
theorem i'u (k:Str):∀ m:List (Str×α),(m.any λp=>decide (p.1=k))=(gtd m k).isSome
 | [] => rfl
 | p :: r => by
  rw [List.any_cons,i'u k r]
  by_cases e:p.1=k
  ·rw [a'K e,decide_eq_true e];rfl
  ·rw [a'L e,decide_eq_false e];rfl
theorem e'X (m:List (Str×α)) (k j:Str) (y:α):gtd (ptd m k y) j=if j=k then some y else gtd m j:=by
 have repl:∀ m:List (Str×α),gtd (m.map (λp=>if p.1=k then (p.1,y) else p)) j=(gtd m j).map λx=>if j=k then y else x:=by
  intro m
  induction m with
  | nil=>rfl
  | cons p r ih=>
   rw [List.map_cons]
   by_cases e:p.1=k
   ·rw [if_pos e]
    by_cases f:p.1=j
    ·rw [a'K (p:=(p.1,y)) f,a'K f,Option.map_some,if_pos (f.symm.trans e)]
    ·rw [a'L (p:=(p.1,y)) f,a'L f,ih]
   ·rw [if_neg e]
    by_cases f:p.1=j
    ·rw [a'K f,a'K f,Option.map_some,if_neg (λz=>e (f.trans z))]
    ·rw [a'L f,a'L f,ih]
 unfold ptd
 rw [i'u]
 by_cases h:(gtd m k).isSome=true
 ·rw [if_pos h,repl]
  by_cases f:j=k
  ·subst f
   obtain⟨v,e⟩:=Option.isSome_iff_exists.mp h
   rw [e,if_pos rfl];simp
  ·rw [if_neg f];simp [f]
 ·rw [if_neg h]
  have hn:gtd m k=none:=by simpa using h
  have snoc:∀ m:List (Str×α),gtd m k=none->gtd (m++[(k,y)]) j=if j=k then some y else gtd m j:=by
   intro m
   induction m with
   | nil=>
    intro _
    by_cases f:j=k
    ·rw [if_pos f];exact a'K f.symm
    ·rw [if_neg f];exact a'L (λz=>f z.symm)
   | cons p r ih=>
    intro hm
    by_cases e:p.1=k
    ·rw [a'K e] at hm;cases hm
    ·rw [a'L e] at hm
     rw [List.cons_append]
     by_cases f:p.1=j
     ·rw [a'K f,a'K f,if_neg (λz=>e (f.trans z))]
     ·rw [a'L f,a'L f,ih hm]
  exact snoc m hn
end
def bl (n:Nat):Nat:=if n=0 then 0 else Nat.log2 n+1
theorem bl_lt {n k:Nat}:n<2 ^ k↔bl n<=k:=by
 unfold bl
 by_cases h:n=0
 ·subst h;simp [Nat.two_pow_pos]
 ·rw [if_neg h,<- Nat.log2_lt h];omega
theorem i'v (n:Nat):n<2 ^ bl n:=bl_lt.mpr (Nat.le_refl _)
def bi (x:Int):Nat:=bl x.natAbs
def bs (q:Rat):Nat:=max (bl q.num.natAbs) (bl q.den)
theorem w'k {q:Rat} {n:Nat} (h:bs q<=n):Sm n q:=⟨bl_lt.mpr (by unfold bs at h;omega),bl_lt.mpr (by unfold bs at h;omega)⟩
theorem k'w {q:Rat} {n:Nat} (h:Sm n q):bs q<=n:=by
 have h1:=bl_lt.mp h.1
 have h2:=bl_lt.mp h.2
 unfold bs
 omega
theorem g't (q:Rat):Sm (bs q) q:=w'k (Nat.le_refl _)
theorem e'x (a b:Rat):bs (a+b)<=bs a+bs b+1:=k'w (u'd (g't a) (g't b))
theorem e'y (a b:Rat):bs (a*b)<=bs a+bs b:=k'w (u'e (g't a) (g't b))
theorem i'w:bs 0=1:=by decide +kernel
theorem w'l {x:Int} {k:Nat} (h:x.natAbs<2 ^ k):bi x<=k:=bl_lt.mp h
theorem c'B {x:Int} {k:Nat} (h:bi x<=k):x.natAbs<2 ^ k:=bl_lt.mpr h
theorem b'n (x y:Int):bi (x*y)<=bi x+bi y:=bl_lt.mp (b'e (i'v _) (i'v _))
theorem g'O {x:Int} (k:Nat) (h:x.natAbs<2 ^ k):bi x<=k:=bl_lt.mp h
theorem b'F (q:Rat):bi q.num<=bs q:=by unfold bi bs;omega
theorem a'Z (q:Rat):bi (q.den:Int)<=bs q:=by unfold bi bs;rw [Int.natAbs_natCast];omega
theorem f'K {t b:Int} (h:b≠0) {k:Nat} (h1:bi t<=k) (h2:bi b<=k):bs (Rat.divInt t b)<=k:=k'w (c'V h (c'B h1) (c'B h2))
theorem w'm {x y:Int} (h1:bi x<=60000000) (h2:bi y<=60000000):CMulX x y:=.inr ⟨60000000,Nat.le_refl _,c'B h1,c'B h2⟩
section
variable {σ:St} {H:Hp} {Q:VK} {D:Ends} {K:W.Frag}
theorem l'F {q:Rat} {t b:Int} (h1:q.num=t) (h2:(q.den:Int)=b):fr q=[.int t,.int b]:=by unfold fr;rw [h1,h2]
end
def TyX (K:W.Frag) (H:Hp) (x:V) (t:Value):Prop:=TyOf K H x t\/(t=.type "tuple"/\∃ a xs,x=.ref a/\SqT K H a xs)\/(t=.type "list"/\∃ a xs,x=.ref a/\SqL K H a xs)\/(t=.type "dict"/\∃ a kvs,x=.ref a/\Rd H a (.dK kvs))
section
variable {K:W.Frag} {H:Hp}
theorem u'h {a:Addr} {xs:List V} (h:SqT K H a xs):TyX K H (.ref a) (.type "tuple"):=.inr (.inl ⟨rfl,a,xs,rfl,h⟩)
theorem u'i {a:Addr} {xs:List V} (h:SqL K H a xs):TyX K H (.ref a) (.type "list"):=.inr (.inr (.inl ⟨rfl,a,xs,rfl,h⟩))
theorem u'j {a:Addr} {kvs:List (Key×V)} (h:Rd H a (.dK kvs)):TyX K H (.ref a) (.type "dict"):=.inr (.inr (.inr ⟨rfl,a,kvs,rfl,h⟩))
theorem u'k {i:Int}:TyX K H (.int i) (.type "int"):=.inl (.int i)
theorem u'l {i:Str}:TyX K H (.str i) (.type "str"):=.inl (.str i)
theorem w'n {i:Bool}:TyX K H (.bl i) (.type "bool"):=.inl (.bl i)
theorem u'm:TyX K H .non (.type "NoneType"):=.inl .non
end
section
open PySem.Spec PyProof.Rows
variable {X:Cx}
theorem o'u:CallR X (.builtin "isinstance") (λxs H Q=>∃ x c t b u,xs=[x,c]/\TyX X.K H x t/\clsV c=some u/\W.kitOne X.K t u=some b/\Q (.bl b) H):=by
 intro pins s σ H xs us Q I r h
 obtain⟨x,c,t,b,u,rfl,ty,rc,e,q⟩:=h
 rcases ty with ty | ⟨rfl,a,ys,rfl,hs⟩ | ⟨rfl,a,ys,rfl,hs⟩ | ⟨rfl,a,kvs,rfl,hs⟩
 ·exact g'H pins s σ H [x,c] us Q I r ⟨x,c,t,b,u,rfl,ty,rc,e,q⟩
 all_goals
  obtain⟨v,w',rfl,rx,rw'⟩:=k'k r
  have ew:w'=u:=by
   cases c with
   | ref a=>cases rc;exact rw'
   | ty n=>cases rc;exact rw'
   | non=>cases rc
   | bl n=>cases rc
   | int i=>cases rc
   | str i=>cases rc
   | byt i=>cases rc
   | flt i=>cases rc
  subst ew
  cases (show v=Value.ref a from rx)
 ·obtain⟨its,_,p,_⟩:=I.tuple hs
  obtain⟨o,h1,h2,_⟩:=p
  exact W.kia_one W.kitx_tuple I.kIn ⟨o,h1,h2⟩ e (λz=>nomatch z) λtk=>⟨.bl b,H,I.tok tk,rfl,q⟩
 ·obtain⟨its,_,p,_⟩:=I.list hs
  obtain⟨o,h1,h2,_⟩:=p.isList
  exact W.kia_one W.kitx_list I.kIn ⟨o,h1,h2⟩ e (λz=>nomatch z) λtk=>⟨.bl b,H,I.tok tk,rfl,q⟩
 ·obtain⟨_,_,vs,_,p⟩:=b'd I.hok hs
  obtain⟨o,es,ep,h1,h2,_⟩:=p
  exact W.kia_one W.kitx_dict I.kIn ⟨o,h1,h2.1⟩ e (λz=>nomatch z) λtk=>⟨.bl b,H,I.tok tk,rfl,q⟩
end
theorem u'n {α:Type} {m:List (Str×α)} (n:(m.map (·.1)).Nodup) (k:Str) (y:α):((ptd m k y).map (·.1)).Nodup:=by
 unfold ptd
 split
 ·rw [List.map_map]
  have e:(m.map ((·.1) ∘ λp=>if p.1=k then (p.1,y) else p))=m.map (·.1):=by
   apply List.map_congr_left
   intro p _
   simp only [Function.comp]
   split<;>rfl
  rw [e];exact n
 ·rename_i h
  rw [List.map_append,List.nodup_append]
  refine⟨n,by simp,?_⟩
  intro a ha b hb e
  simp at hb
  subst hb
  subst e
  obtain⟨p,hp,hk⟩:=List.mem_map.mp ha
  apply h
  rw [List.any_eq_true]
  exact⟨p,hp,by simp [hk]⟩
end Vc
namespace Vc
open PySem L2 Sf
section
variable {X:Cx} {pins:List (Addr×Obj)} {σ:St} {F H:Hp} {s:Shared} {Au:Around}
theorem r'Q:∀ {x y:V} {u:Value},RelV x u->RelV y u->x=y:=by
 intro x y u h1 h2
 cases x<;>cases y<;>simp only [RelV] at h1 h2<;>first
  | rfl
  | (subst h1;simp at h2;subst h2;rfl)
  | (subst h1;simp at h2;done)
  | (obtain⟨t,rfl⟩:=h1;obtain⟨t',e⟩:=h2;simp at e;rw [e.1])
  | (obtain⟨t,rfl⟩:=h1;simp at h2;done)
  | (obtain⟨t,rfl⟩:=h2;simp at h1;done)
theorem d'X:∀ {xs ys:List V} {us:List Value},Vals xs us->Vals ys us->xs=ys
 | [], [], _, _, _ => rfl
 | _ :: _, _ :: _, _, .cons h t, .cons h' t' => by rw [r'Q h h', d'X t t']
 | [], _ :: _, _, h, h' => by cases h; cases h'
 | _ :: _, [], _, h, h' => by cases h'; cases h
theorem r'R {a:Addr} {xs ys:List V} (I:Inv X pins σ H s) (h1:SqT X.K H a xs) (h2:SqT X.K H a ys):xs=ys:=by
 obtain⟨us,r1,⟨o1,g1,c1,n1,d1⟩,_⟩:=I.tuple h1
 obtain⟨ws,r2,⟨o2,g2,c2,n2,d2⟩,_⟩:=I.tuple h2
 rw [g1] at g2
 cases g2
 rw [d1] at d2
 injection d2 with e _
 have:us=ws:=by simpa using e
 subst this
 exact d'X r1 r2
theorem r'S {a:Addr} {xs ys:List V} (I:Inv X pins σ H s) (h1:SqL X.K H a xs) (h2:SqL X.K H a ys):xs=ys:=by
 obtain⟨us,r1,p1,_⟩:=I.list h1
 obtain⟨ws,r2,p2,_⟩:=I.list h2
 obtain⟨o1,g1,c1,n1,d1⟩:=p1.isList
 obtain⟨o2,g2,c2,n2,d2⟩:=p2.isList
 rw [g1] at g2
 cases g2
 rw [d1] at d2
 injection d2 with e _
 have:us=ws:=by simpa using e
 subst this
 exact d'X r1 r2
theorem i'x {a b:Addr} {xs ys:List V} (I:Inv X pins σ H s) (h1:SqT X.K H a xs) (h2:SqT X.K H b ys) (hu:Au.units<cLine) (hl:xs.length=ys.length) (e:Nat->Bool)
  (he:∀ (j:Nat) x y u v,xs[j]?=some x->ys[j]?=some y->RelV x u->RelV y v->SeqAt.EqAt Au.in1 s u v (e j)):SeqAt.RcAt Au s (.ref a) (.ref b) ((List.range xs.length).all e):=by
 obtain⟨us,r1,t1,_⟩:=I.tuple h1
 obtain⟨ws,r2,t2,_⟩:=I.tuple h2
 have l1:=r1.length
 have l2:=r2.length
 have z:=SeqAt.RcAt.tuples (A:=Au) (e:=e) t1 t2 hu (λj h1 h2=>?_)
 ·have e0:((List.range (min us.toArray.size ws.toArray.size)).all e && us.toArray.size == ws.toArray.size)=(List.range xs.length).all e:=by
   simp only [List.size_toArray]
   have e1:min us.length ws.length=xs.length:=by omega
   have e2:(us.length == ws.length)=true:=by simp;omega
   rw [e1,e2,Bool.and_true]
  rw [e0] at z
  exact z
 ·simp only [List.size_toArray] at h1 h2
  obtain⟨u,e1,ru⟩:=r1.get (i:=j) (x:=xs[j]'(by omega)) (by simp)
  obtain⟨v,e2,rv⟩:=r2.get (i:=j) (x:=ys[j]'(by omega)) (by simp)
  obtain⟨_,f1⟩:=List.getElem?_eq_some_iff.mp e1
  obtain⟨_,f2⟩:=List.getElem?_eq_some_iff.mp e2
  have g1:us.toArray[j]'(by simpa using h1)=u:=by simpa using f1
  have g2:ws.toArray[j]'(by simpa using h2)=v:=by simpa using f2
  rw [g1,g2]
  exact he j _ _ u v (by simp) (by simp) ru rv
theorem i'y {a b:Addr} {xs ys:List V} (I:Inv X pins σ H s) (h1:SqL X.K H a xs) (h2:SqL X.K H b ys) (hu:Au.units<cLine) (hl:xs.length=ys.length) (e:Nat->Bool)
  (he:∀ (j:Nat) x y u v,xs[j]?=some x->ys[j]?=some y->RelV x u->RelV y v->SeqAt.EqAt Au.in1 s u v (e j)):SeqAt.RcAt Au s (.ref a) (.ref b) ((List.range xs.length).all e):=by
 obtain⟨us,r1,t1,_⟩:=I.list h1
 obtain⟨ws,r2,t2,_⟩:=I.list h2
 have l1:=r1.length
 have l2:=r2.length
 have z:=SeqAt.RcAt.lists (A:=Au) (e:=e) t1.isList t2.isList (by simp;omega) hu (λj h1 h2=>?_)
 ·have e0:(List.range us.toArray.size).all e=(List.range xs.length).all e:=by
   simp only [List.size_toArray]
   rw [<- l1]
  rw [e0] at z
  exact z
 ·simp only [List.size_toArray] at h1 h2
  obtain⟨u,e1,ru⟩:=r1.get (i:=j) (x:=xs[j]'(by omega)) (by simp)
  obtain⟨v,e2,rv⟩:=r2.get (i:=j) (x:=ys[j]'(by omega)) (by simp)
  obtain⟨_,f1⟩:=List.getElem?_eq_some_iff.mp e1
  obtain⟨_,f2⟩:=List.getElem?_eq_some_iff.mp e2
  have g1:us.toArray[j]'(by simpa using h1)=u:=by simpa using f1
  have g2:ws.toArray[j]'(by simpa using h2)=v:=by simpa using f2
  rw [g1,g2]
  exact he j _ _ u v (by simp) (by simp) ru rv
end
theorem o'v {Au:Around} {s:Shared} {i j:Int} {u v:Value} (r1:RelV (.int i) u) (r2:RelV (.int j) v):SeqAt.EqAt Au s u v (decide (i=j)):=by
 have z:=b'P (A:=Au) (s:=s) r1 r2 rfl rfl
 have e:eqV (.int i) (.int j)=decide (i=j):=by show (i == j)=_;rw [Bool.beq_eq_decide_eq]
 rw [e] at z
 exact z
section
variable {X:Cx}
end
theorem l'G {K:W.Frag} {H:Hp}:∀ {n:Nat} {x y:V},EqT K H n x y->EqT K H (n+1) x y
 | 0, _, _, h => .inl h
 | n + 1, _, _, .inl h => .inl h
 | n + 1, _, _, .inr ⟨p, q, xs, ys, h1, h2, h3, h4⟩ => .inr ⟨p, q, xs, ys, h1, h2, h3, by
  have gen:∀ {xs ys:List V},All2 (EqT K H n) xs ys->All2 (EqT K H (n+1)) xs ys:=by
   intro xs
   induction xs with
   | nil=>intro ys h;cases ys with
    | nil=>exact True.intro
    | cons _ _=>exact h.elim
   | cons x xs ih=>intro ys h;cases ys with
    | nil=>exact h.elim
    | cons y ys=>exact⟨l'G h.1,ih h.2⟩
  exact gen h4⟩
theorem o'w {K:W.Frag} {H:Hp} {n m:Nat} {x y:V} (h:EqT K H n x y) (k:n<=m):EqT K H m x y:=by
 induction k with
 | refl => exact h
 | step _ ih => exact l'G ih
section
variable {K:W.Frag} {F H:Hp} {Q:VK}
end
end Vc
namespace L2
open PySem PySem.Spec PyProof.Rows
def clStep (env:Env) (cs:List (Str×Addr)) (y:Str×NameKind):List (Str×Addr):=if (y.2 == .free)=true then (match env.cells.lookup y.1 with | some a=>(y.1,a) :: cs | none=>cs) else cs
def clOf (scope:Scope) (env:Env):List (Str×Addr):=scope.names.foldl (clStep env) []
def clAll (scope:Scope) (env:Env):Bool:=scope.names.all λy=>!(y.2 == .free) || (env.cells.lookup y.1).isSome
theorem b'X {scope:Scope} {env:Env} (h:clAll scope env=true):closureFor scope env=pure (clOf scope env):=by
 unfold closureFor clOf
 unfold clAll at h
 have gen:∀ (l:List (Str×NameKind)) (cs:List (Str×Addr)),(l.all λy=>!(y.2 == .free) || (env.cells.lookup y.1).isSome)=true->
   (forIn l cs λx r=>match x with | (name,kind)=>if (kind == NameKind.free)=true then (do let a <- cellOf env name;pure (ForInStep.yield ((name,a) :: r))) else pure (ForInStep.yield r):Sem (List (Str×Addr)))=pure (l.foldl (clStep env) cs):=by
  intro l
  induction l with
  | nil=>intro cs _;rfl
  | cons y r ih=>
   intro cs ha
   rw [List.all_cons,Bool.and_eq_true] at ha
   obtain⟨n,k⟩:=y
   rw [List.forIn_cons,List.foldl_cons]
   by_cases hk:(k == NameKind.free)=true
   ·have h1:=ha.1
    simp only [hk,Bool.not_true,Bool.false_or] at h1
    obtain⟨a,e⟩:=Option.isSome_iff_exists.mp h1
    have e1:clStep env cs (n,k)=(n,a) :: cs:=by unfold clStep;simp [hk,e]
    have e2:cellOf env n=pure a:=by unfold cellOf;rw [e]
    rw [e1,<- ih _ ha.2]
    simp only [hk,if_true,e2,pure_bind]
   ·have e1:clStep env cs (n,k)=cs:=by unfold clStep;simp [hk]
    rw [e1,<- ih _ ha.2]
    simp only [hk,if_false,pure_bind,Bool.false_eq_true]
 have:=gen scope.names [] h
 simp only [this,pure_bind]
theorem b'o {scope:Scope} {env:Env} {x:Str} {c:Addr} (h:(clOf scope env).lookup x=some c):env.cells.lookup x=some c:=by
 unfold clOf at h
 have gen:∀ (l:List (Str×NameKind)) (cs:List (Str×Addr)),(cs.lookup x=some c->env.cells.lookup x=some c)->(l.foldl (clStep env) cs).lookup x=some c->env.cells.lookup x=some c:=by
  intro l
  induction l with
  | nil=>intro cs f g;exact f g
  | cons y r ih=>
   intro cs f g
   rw [List.foldl_cons] at g
   refine ih _ (λz=>?_) g
   unfold clStep at z
   split at z
   ·split at z
    ·rename_i a e
     rw [List.lookup_cons] at z
     by_cases hx:(x == y.1)=true
     ·rw [hx] at z
      have:=eq_of_beq hx
      subst this
      simp at z
      rw [<- z];exact e
     ·simp only [hx] at z
      exact f z
    ·exact f z
   ·exact f z
 exact gen scope.names [] (λz=>by cases z) h
theorem g'P {scope:Scope} {env:Env} {x:Str} (ha:clAll scope env=true) (h:scope.names.lookup x=some .free):∃ c,(clOf scope env).lookup x=some c:=by
 unfold clOf
 unfold clAll at ha
 have keep:∀ (l:List (Str×NameKind)) (cs:List (Str×Addr)),(∃ c,cs.lookup x=some c)->∃ c,(l.foldl (clStep env) cs).lookup x=some c:=by
  intro l
  induction l with
  | nil=>intro cs f;exact f
  | cons y r ih=>
   intro cs f
   rw [List.foldl_cons]
   refine ih _ ?_
   unfold clStep
   split
   ·split
    ·rw [List.lookup_cons]
     by_cases hx:(x == y.1)=true
     ·rw [hx];exact⟨_,rfl⟩
     ·simp only [hx];exact f
    ·exact f
   ·exact f
 have gen:∀ (l:List (Str×NameKind)) (cs:List (Str×Addr)),(l.all λy=>!(y.2 == .free) || (env.cells.lookup y.1).isSome)=true->l.lookup x=some .free->∃ c,(l.foldl (clStep env) cs).lookup x=some c:=by
  intro l
  induction l with
  | nil=>intro cs _ f;cases f
  | cons y r ih=>
   intro cs ha f
   rw [List.all_cons,Bool.and_eq_true] at ha
   obtain⟨n,k⟩:=y
   rw [List.foldl_cons]
   rw [List.lookup_cons] at f
   by_cases hx:(x == n)=true
   ·rw [hx] at f
    have:=eq_of_beq hx
    subst this
    simp at f
    subst f
    refine keep r _ ?_
    have h1:(env.cells.lookup x).isSome=true:=ha.1
    obtain⟨a,e⟩:=Option.isSome_iff_exists.mp h1
    refine⟨a,?_⟩
    unfold clStep
    rw [if_pos (show ((NameKind.free) == NameKind.free)=true from rfl)]
    dsimp only
    rw [e]
    dsimp only
    rw [List.lookup_cons,hx]
   ·simp only [hx] at f
    exact ih _ ha.2 f
 exact gen scope.names [] ha h
theorem i'd {scope:Scope} {env:Env} {x:Str} (hcell:∀ y∈scope.names,y.2≠.cell) (h:(relabel scope env).names.lookup x=some .cell\/(relabel scope env).names.lookup x=some .free):scope.names.lookup x=some .free:=by
 unfold relabel at h
 dsimp only at h
 have gen:∀ l:List (Str×NameKind),(∀ y∈l,y.2≠.cell)->((l.map λ(n,k)=>if (k == NameKind.free && env.scope.kind == .function && env.kindOf n == some .cell) then (n,NameKind.cell) else (n,k)).lookup x=some .cell\/(l.map λ(n,k)=>if (k == NameKind.free && env.scope.kind == .function && env.kindOf n == some .cell) then (n,NameKind.cell) else (n,k)).lookup x=some .free)->l.lookup x=some .free:=by
  intro l
  induction l with
  | nil=>intro _ f;rcases f with f | f<;>cases f
  | cons y r ih=>
   intro hc f
   obtain⟨n,k⟩:=y
   have hk:k≠.cell:=hc (n,k) (List.mem_cons_self ..)
   rw [List.map_cons] at f
   rw [List.lookup_cons]
   by_cases hx:(x == n)=true
   ·rw [hx]
    dsimp only at f ⊢
    by_cases hf:(k == NameKind.free && env.scope.kind == .function && env.kindOf n == some .cell)=true
    ·have:k=.free:=by
      simp only [Bool.and_eq_true] at hf
      exact eq_of_beq hf.1.1
     rw [this]
    ·rw [if_neg hf,List.lookup_cons,hx] at f
     simp only [Option.some.injEq] at f
     rcases f with f | f
     ·exact absurd f hk
     ·rw [f]
   ·simp only [hx]
    refine ih (λy hy=>hc y (List.mem_cons_of_mem _ hy)) ?_
    dsimp only at f
    split at f<;>(rw [List.lookup_cons] at f;simp only [hx] at f;exact f)
 exact gen scope.names hcell h
inductive Wk:St->St->Prop
 | nil : Wk [] []
 | non {a b : St} {x : Option V} : Wk a b -> Wk (none :: a) (x :: b)
 | som {a b : St} {v : V} : Wk a b -> Wk (some v :: a) (some v :: b)
theorem Wk.length {a b:St} (h:Wk a b):b.length=a.length:=by
 induction h with
 | nil => rfl
 | non _ ih => simp [ih]
 | som _ ih => simp [ih]
theorem Wk.get {a b:St} (h:Wk a b):∀ {i:Nat} {v:V},a[i]?=some (some v)->b[i]?=some (some v):=by
 induction h with
 | nil => intro i v e; simp at e
 | non _ ih =>
  intro i v e
  cases i with
  | zero=>simp at e
  | succ i=>simpa using ih (i:=i) (v:=v) (by simpa using e)
 | som _ ih =>
  intro i v e
  cases i with
  | zero=>simpa using e
  | succ i=>simpa using ih (i:=i) (v:=v) (by simpa using e)
theorem e'Y:∀ a:St,Wk a a
 | [] => .nil
 | none :: a => .non (e'Y a)
 | some _ :: a => .som (e'Y a)
def pickS (ix:List (Option Nat)) (σ:St):St:=ix.map λo=>match o with | none=>none | some i=>(σ[i]?).getD none
def PickOk (X:Cx) (sc:Scope):List Str->List (Option Nat)->Prop
 | [], [] => True
 | _ :: N, none :: ix => PickOk X sc N ix
 | x :: N, some i :: ix => X.N[i]? = some x /\ X.env.kindOf x = some .cell /\ sc.names.lookup x = some .free /\ PickOk X sc N ix
 | _, _ => False
theorem PickOk.length {X:Cx} {sc:Scope}:∀ {N:List Str} {ix:List (Option Nat)},PickOk X sc N ix->ix.length=N.length
 | [], [], _ => rfl
 | _ :: N, none :: ix, h => by rw [List.length_cons, List.length_cons, PickOk.length (X := X) (sc := sc) (N := N) (ix := ix) h]
 | _ :: N, some i :: ix, h => by rw [List.length_cons, List.length_cons, PickOk.length (X := X) (sc := sc) (N := N) (ix := ix) h.2.2.2]
 | [], _ :: _, h => h.elim
 | _ :: _, [], h => h.elim
theorem PickOk.get {X:Cx} {sc:Scope} {σ:St}:∀ {N:List Str} {ix:List (Option Nat)} {j:Nat} {x:Str} {v:V},PickOk X sc N ix->N[j]?=some x->(pickS ix σ)[j]?=some (some v)->∃ i:Nat,X.N[i]?=some x/\X.env.kindOf x=some .cell/\sc.names.lookup x=some .free/\σ[i]?=some (some v)
 | _ :: N, none :: ix, 0, x, v, h, e1, e2 => by simp [pickS] at e2
 | _ :: N, none :: ix, j + 1, x, v, h, e1, e2 => PickOk.get (N := N) (ix := ix) (j := j) h (by simpa using e1) (by simpa [pickS] using e2)
 | y :: N, some i :: ix, 0, x, v, h, e1, e2 => by
  simp at e1
  subst e1
  refine⟨i,h.1,h.2.1,h.2.2.1,?_⟩
  simp [pickS] at e2
  cases q:σ[i]? with
  | none=>rw [q] at e2;simp at e2
  | some o=>rw [q] at e2;simp at e2;rw [e2]
 | y :: N, some i :: ix, j + 1, x, v, h, e1, e2 => PickOk.get (N := N) (ix := ix) (j := j) h.2.2.2 (by simpa using e1) (by simpa [pickS] using e2)
 | [], [], _, _, _, _, e1, _ => by simp at e1
 | [], _ :: _, _, _, _, h, _, _ => h.elim
 | _ :: _, [], _, _, _, h, _, _ => h.elim
theorem g'Q {scope:Scope} {env:Env} {x:Str} (h:scope.names.lookup x=some .free):(relabel scope env).names.lookup x=some .cell\/(relabel scope env).names.lookup x=some .free:=by
 unfold relabel
 dsimp only
 have gen:∀ l:List (Str×NameKind),l.lookup x=some .free->((l.map λ(n,k)=>if (k == NameKind.free && env.scope.kind == .function && env.kindOf n == some .cell) then (n,NameKind.cell) else (n,k)).lookup x=some .cell\/(l.map λ(n,k)=>if (k == NameKind.free && env.scope.kind == .function && env.kindOf n == some .cell) then (n,NameKind.cell) else (n,k)).lookup x=some .free):=by
  intro l
  induction l with
  | nil=>intro f;cases f
  | cons y r ih=>
   intro f
   obtain⟨n,k⟩:=y
   rw [List.lookup_cons] at f
   rw [List.map_cons]
   by_cases hx:(x == n)=true
   ·rw [hx] at f
    simp at f
    subst f
    dsimp only
    split
    ·left;rw [List.lookup_cons,hx]
    ·right;rw [List.lookup_cons,hx]
   ·simp only [hx] at f
    dsimp only
    split<;>(rw [List.lookup_cons];simp only [hx];exact ih f)
 exact gen scope.names h
def cxComp (X:Cx) (scope:Scope) (N:List Str) (C:Addr) (s:Shared) (H:Hp) (fp:List Addr) (pl:List (Addr×Obj)):Cx where
 prog:=X.prog
 w:=X.w
 K:=X.K
 mg:=X.mg
 base:=X.base
 A:=X.A
 N:=N
 s₀:=s
 H₀:=H
 env:=compEnvC scope (clOf scope X.env) C X.env
 outer:=X.stack
 stack:=X.stack
 ex:=fp
 fn:=λ_=>false
 calm:=X.calm
 pn:=X.pn++pl
 xe:=λ_ _=>False
def PTs (Y:Cx) (ifs:List Expr) (t:TT):Prop:=
 ∀ (pins:List (Addr×Obj)) (s:Shared) (σ:St) (H:Hp) (Q:Bool->Hp->Prop),Inv Y pins σ H s->t σ H Q->
  wpAny (model Y.prog Y.w) Y.A (forIn ifs true λc r=>if r=true then do let ok <- isTrue c Y.env (eval c Y.env);pure (ForInStep.yield ok) else pure (ForInStep.yield r)) (TP Y pins σ Q) Y.xe s
def tYes:TT:=λ_ H Q=>Q true H
theorem r'T {Y:Cx}:PTs Y [] tYes:=λ_ _ _ H _ I h=>wpAny_tests_nil ⟨H,I,h⟩
theorem r'U {Y:Cx} {c:Expr} {t:TT} (h:PT Y c t):PTs Y [c] t:=λpins s σ H Q I q=>wpAny_tests_one (h pins s σ H Q I q)
theorem g'R {prog:Program} {w:World} {A:Around} {R:Result->Shared->Prop} {s:Shared} {elt target iter:Expr} {ifs:List Expr} {scope:Scope} {pos:Pos} {it acc:Value} {env:Env} (I:Nat->Shared->Prop)
  (turn:∀ n s,I n s->wpAny (model prog w) A (pyNext it) (λr s₁=>match r with
   | none=>R (.ok .next) s₁
   | some v=>wpAny (model prog w) A (letOwnedTupleGo target it v) (λ_ s₀=>wpAny (model prog w) A (assign target env v) (λ_ s₂=>
     wpAny (model prog w) A (forIn ifs true λc r=>if r=true then do let ok <- isTrue c env (eval c env);pure (ForInStep.yield ok) else pure (ForInStep.yield r)) (λok s₃=>
      if ok=true then wpAny (model prog w) A (eval elt env) (λx s₄=>
       wpAny (model prog w) A (call (.builtin "list.append") [acc,x]) (λ_ s₅=>∃ m,m<n/\I m s₅) (notedBy (model prog w) A env λe s'=>R (.error e) s') s₄) (notedBy (model prog w) A env λe s'=>R (.error e) s') s₃
      else ∃ m,m<n/\I m s₃) (notedBy (model prog w) A env λe s'=>R (.error e) s') s₂) (notedBy (model prog w) A env λe s'=>R (.error e) s') s₀) (notedBy (model prog w) A env λe s'=>R (.error e) s') s₁) (notedBy (model prog w) A env λe s'=>R (.error e) s') s)
  (n:Nat) (h:I n s):codeAny (model prog w) A (.compLoop (.ListComp elt [⟨target,iter,ifs,0⟩] scope pos) 0 it acc env) R s:=by
 refine codeAny_loop rfl I (λn s hI=>?_) n h
 show wpAny _ A ((compTurn (.ListComp elt [⟨target,iter,ifs,0⟩] scope pos) 0 it acc env).onRaise (λx=>do noteFrame x env;theTreesLotGoes x)) _ _ s
 refine wpAny_noted ?_
 rw [compTurn_list]
 refine wpAny_bind (wpAny_standAt (wpAny_bind (wpAny_mono (turn n s hI) (λr s₁ h₁=>?_) λ_ _ h'=>h')))
 cases r with
 | none => exact wpAny_pure h₁
 | some v =>
  refine wpAny_bind (wpAny_mono h₁ (λ_ s₀ h₀=>?_) λ_ _ h'=>h')
  refine wpAny_bind (wpAny_mono h₀ (λ_ s₂ h₂=>wpAny_bind (wpAny_mono h₂ (λok s₃ h₃=>?_) λ_ _ h'=>h')) λ_ _ h'=>h')
  cases ok with
  | false=>exact wpAny_pure ⟨rfl,h₃⟩
  | true=>
   exact wpAny_bind (wpAny_bind (wpAny_mono h₃ (λx s₄ h₄=>wpAny_bind (wpAny_mono h₄ (λ_ s₅ h₅=>wpAny_pure (wpAny_pure ⟨rfl,h₅⟩)) λ_ _ h'=>h')) λ_ _ h'=>h'))
end L2
namespace L2
open PySem PySem.Spec PyProof.Rows
section
variable {X:Cx} {pins:List (Addr×Obj)} {σ:St} {H:Hp} {s:Shared} {scope:Scope} {N:List Str} {fp:List Addr} {C:Addr}
theorem r'V (I:Inv X pins σ H s) (hC:s.heap.objs.size<=C) (hf:∀ b∈fp,FpOk X pins H b) (hfo:∀ b∈fp,∃ o,s.heap.get? b=some o) (hkind:scope.kind=.function) (hcell:∀ y∈scope.names,y.2≠.cell) (hall:clAll scope X.env=true) :
  (cxComp X scope N C s H fp pins).Ok where
 mod:=I.ok.mod
 kind:=hkind
 glob:=I.ok.glob
 blt:=I.ok.blt
 above:=hC
 inj:=λx y c h1 h2=>I.ok.inj x y c (b'o h1) (b'o h2)
 has:=λx h=>g'P hall (i'd hcell h)
 cab:=λx c h=>by cases h
 hd:=I.ok.hd
 frames:=I.ok.frames
 stk:=.inl rfl
 exf:=λb hb=>⟨λz=>by obtain⟨o,e⟩:=hfo b hb;have:=Heap.lt_size e;subst z;exact absurd (Nat.lt_of_lt_of_le this hC) (Nat.lt_irrefl _),λx c e=>(hf b hb).2.2.2.2.1 x c (b'o e)⟩
 bs:=I.bs
 bsz:=Nat.le_trans I.ok.bsz I.sz
 noex:=λb o e hb=>by
  rcases (hf b hb).2.2.2.1 with z | z
  ·exact I.ok.noex b o e z
  ·exact absurd (Nat.lt_of_lt_of_le (Heap.lt_size e) (Nat.le_trans I.ok.bsz z)) (Nat.lt_irrefl _)
 exfs:=λb hb hm=>by
  rcases List.mem_cons.mp (I.stkSub b hm) with z | z
  ·exact (hf b hb).2.1 z
  ·exact (hf b hb).2.2.1 z
 funs:=I.stack
 frf:=I.stkFree
theorem o'x {h':Heap} {m:Str->Option Value} {t':Nat} {ix:List (Option Nat)} (I:Inv X pins σ H s) (ok:(cxComp X scope N C s H fp pins).Ok) (hC:s.heap.objs.size<=C) (k:∀ b o,s.heap.get? b=some o->h'.get? b=some o) (hn:h'.Ns C m) (hpk:PickOk X scope N ix) (hall:clAll scope X.env=true) :
  Inv (cxComp X scope N C s H fp pins) [] (pickS ix σ) H { s with heap:=h',toks:=t' } where
 ok:=ok
 os:=rfl
 bare:=I.bare
 base:=Un.kept k
 loc:=⟨m,hn,λi x v e1 e2 e3=>by
  obtain⟨i',hN,hk,hfr,hσ⟩:=hpk.get e1 e2
  obtain⟨m0,_,hl⟩:=I.loc
  obtain⟨u,r,look⟩:=hl i' x v hN hσ (.inr (.inl hk))
  rcases look with ⟨z,_⟩ | ⟨_,c,hc,o,ho,hd⟩
  ·rw [hk] at z;cases z
  ·obtain⟨c',hc'⟩:=g'P hall hfr
   have e:=b'o hc'
   rw [hc] at e
   cases e
   exact⟨u,r,.inr ⟨g'Q hfr,c,hc',o,k _ _ ho,hd⟩⟩⟩
 cell:=λx c e=>by
  obtain⟨v,o,ho,hd⟩:=I.cell x c (b'o e)
  exact⟨v,o,k _ _ ho,hd⟩
 free:=I.hok.fresh hC
 freeC:=λx c e=>I.freeC x c (b'o e)
 pin:=λp hp=>by
  have hp':p∈X.pn++pins:=by simpa [cxComp] using hp
  obtain⟨e,n,ne,nf,d⟩:=I.pin p hp'
  refine⟨k _ _ e,n,λz=>?_,λz=>?_,d⟩
  ·have:=Heap.lt_size e
   have z':p.1=C:=z
   rw [z'] at this
   exact absurd (Nat.lt_of_lt_of_le this hC) (Nat.lt_irrefl _)
  ·rcases List.mem_cons.mp (I.stkSub p.1 z) with q | q
   ·exact ne q
   ·exact nf q
 hok:=I.hok.kept k
 len:=by
  have:=hpk.length
  simp [pickS,cxComp,this]
theorem l'H {σ':St} {H':Hp} {s':Shared} {D:Addr} {acc:List V} {its:List Value} {pl:List (Addr×Obj)} (I:Inv X pins σ H s) (J:Inv (cxComp X scope N C s H fp pins) pl σ' H' s') (hD:D=s.heap.objs.size) (hf:∀ b∈fp,FpOk X pins H b)
  (hl:s'.heap.PlainList D its.toArray) (hv:Vals acc its) (hz:acc.length<=sizeLine) (hn:H' D=none):Inv X pins σ (upd H' D (.lst acc)) s':=by
 have hDn:∀ b o,s.heap.get? b=some o->b≠D:=λb o e z=>by rw [z,hD] at e;exact absurd (Heap.lt_size e) (Nat.lt_irrefl _)
 have hHD:H D=none:=I.hok.fresh (by rw [hD];exact Nat.le_refl _)
 refine I.call' (ch:=fp) J.os ⟨J.base.keep,J.base.slot,λb o e n hx=>?_,J.base.there,λb xs e=>?_,λb o u e=>?_,λb ps e=>?_⟩ (λb u e=>?_) J.bare λb hb=>⟨(hf b hb).2.2.2.1,(hf b hb).2.1,(hf b hb).2.2.2.2.1,(hf b hb).2.2.2.2.2⟩
 ·rw [a'f (hDn b o e)];exact J.base.free b o e n hx
 ·rw [a'f (a's e hHD)];exact J.base.tups b xs e
 ·rw [a'f (a's e hHD)];exact J.base.frzs b o u e
 ·obtain⟨mo,e2⟩:=J.base.tbls b ps e
  exact⟨mo,by rw [a'f (a's e hHD)];exact e2⟩
 ·by_cases hb:b=D
  ·subst hb
   rw [a'm] at e
   cases e
   obtain⟨n,g⟩:=hl
   exact⟨hz,its,n,hv,g⟩
  ·rw [a'f hb] at e
   exact (J.hok b u e).stay (λ_ _ _ q=>q) (λc q=>by rw [a'f (a's q hn)];exact q) λc xs q=>by rw [a'f (a's q hn)];exact q
end
def tComp (wi:TI) (g:TG) (ti:TT) (te:TE) (ix:List (Option Nat)):TE:=λσ H Q=>wi σ H λJ H1=>∃ W:Nat->Nat->List V->Hp->Prop,(∃ m,W 0 m [] H1)/\∀ i m acc H,W i m acc H->
 (J.stop i H/\acc.length<=sizeLine/\∀ p,H p=none->Q (.ref p) (upd H p (.lst acc)))\/
 (J.go i H/\∃ N:List V->Hp->Prop,(∀ acc' H',N acc' H'->∃ m',m'<m/\W (i+1) m' acc' H')/\∀ x H',J.yld i H x H'->g x (pickS ix σ) H' λσ2 H2=>Wk (pickS ix σ) σ2/\ti σ2 H2 λb H3=>if b=true then te σ2 H3 λv H4=>acc.length<sizeLine/\N (acc++[v]) H4 else N acc H3)
section
variable {X:Cx} {elt target iter:Expr} {ifs:List Expr} {scope:Scope} {pos:Pos} {N:List Str} {ix:List (Option Nat)} {wi:TI} {g:TG} {ti:TT} {te:TE}
theorem g'S {pins:List (Addr×Obj)} {σ:St} {H2:Hp} {s2:Shared} {Q:VK} {RR:Value->Addr->Result->Shared->Prop} {E:Value->Shared->Prop} {it:Addr} {fp:List Addr} {tn:Nat->Heap->Prop} {J:It}
  (hc:X.calm=true) (hg:∀ C s H fp pl,PG (cxComp X scope N C s H fp pl) target g) (ht:∀ C s H fp pl,PTs (cxComp X scope N C s H fp pl) ifs ti) (he:∀ C s H fp pl,PE (cxComp X scope N C s H fp pl) elt te)
  (hkind:scope.kind=.function) (hcell:∀ y∈scope.names,y.2≠.cell) (hall:clAll scope X.env=true) (hpk:PickOk X scope N ix)
  (I2:Inv X pins σ H2 s2) (T:Turn X.prog X.w X.K target J fp it tn) (st2:tn 0 s2.heap) (f2:∀ b∈fp,FpOk X pins H2 b)
  (h:∃ W:Nat->Nat->List V->Hp->Prop,(∃ m,W 0 m [] H2)/\∀ i m acc H,W i m acc H->
   (J.stop i H/\acc.length<=sizeLine/\∀ p,H p=none->Q (.ref p) (upd H p (.lst acc)))\/
   (J.go i H/\∃ N:List V->Hp->Prop,(∀ acc' H',N acc' H'->∃ m',m'<m/\W (i+1) m' acc' H')/\∀ x H',J.yld i H x H'->g x (pickS ix σ) H' λσ2 H2=>Wk (pickS ix σ) σ2/\ti σ2 H2 λb H3=>if b=true then te σ2 H3 λv H4=>acc.length<sizeLine/\N (acc++[v]) H4 else N acc H3))
  (hR:∀ (D C:Addr) (s':Shared) (H':Hp) (m:Str->Option Value),Inv X pins σ H' s'->s'.heap.Ns C m->H' C=none->s2.heap.objs.size<=C->Q (.ref D) H'->RR (.ref D) C (.ok .next) s') :
  wpAny (model X.prog X.w) X.A (newList []) (λacc s₃=>wpAny (model X.prog X.w) X.A (newFunctionEnv scope X.env.globals (clOf scope X.env) [] X.env.qual none .none (some X.env)) (λcenv s₄=>
   codeAny (model X.prog X.w) X.A (.compStart (.ListComp elt [⟨target,iter,ifs,0⟩] scope pos) 0 (.ref it) acc { cenv with scope:=relabel scope X.env }) (RR acc cenv.locals) s₄) E s₃) E s2:=by
 obtain⟨W,⟨m0,w0⟩,turn⟩:=h
 refine wpAny_newObj_type (wpAny_newFunctionEnv hcell (by intro y hy;simp at hy) (λh₁ hns₁ hsb₁=>?_) hkind)
 dsimp only at hns₁ hsb₁ ⊢
 generalize hH2:s2.heap.push { cls:=.type "list",dict:=none,data:=.seq ([]:List Value).toArray }=P2 at hns₁ hsb₁ ⊢
 have hC:P2.objs.size=s2.heap.objs.size+1:=by rw [<- hH2,Heap.size_push]
 have hDC:s2.heap.objs.size≠P2.objs.size:=by rw [hC];exact Nat.ne_of_lt (Nat.lt_succ_self _)
 have hCle:s2.heap.objs.size<=P2.objs.size:=by rw [hC];exact Nat.le_succ _
 have below:∀ b,b<s2.heap.objs.size->b≠P2.objs.size/\b≠s2.heap.objs.size:=λb hb=>⟨by rw [hC];exact Nat.ne_of_lt (Nat.lt_succ_of_lt hb),Nat.ne_of_lt hb⟩
 have old:∀ b o,s2.heap.get? b=some o->h₁.get? b=some o:=λb o e=>hsb₁.extBut b o (below b (Heap.lt_size e)).1 (Heap.get?_push_of_some _ (hH2 ▸ Heap.get?_push_of_some _ e))
 have hacc:h₁.PlainList s2.heap.objs.size #[]:=⟨_,hsb₁.extBut _ _ hDC (Heap.get?_push_of_some _ (hH2 ▸ Heap.get?_push_size _ rfl))⟩
 have hfo:∀ b∈fp,∃ o,s2.heap.get? b=some o:=λb hb=>let ⟨o,e,_⟩:=T.obj 0 _ st2 b hb;⟨o,e⟩
 have hfD:s2.heap.objs.size ∉ fp:=λhm=>by obtain⟨o,e⟩:=hfo _ hm;exact absurd (Heap.lt_size e) (Nat.lt_irrefl _)
 have ok:=r'V (N:=N) (C:=P2.objs.size) I2 hCle f2 hfo hkind hcell hall
 have st1:tn 0 h₁:=T.keep 0 _ _ st2 λb _ o e=>old b o e
 have J0:=o'x (t':=s2.toks+([]:List (Str×Value)).length) (ix:=ix) I2 ok hCle old hns₁ hpk hall
 have pnD:∀ p∈X.pn++pins,p.1≠s2.heap.objs.size:=λp hp=>(below _ (Heap.lt_size (I2.pin p hp).1)).2
 have cellD:∀ x c,(clOf scope X.env).lookup x=some c->c≠s2.heap.objs.size:=λx c e=>by
  obtain⟨v,o,ho,_⟩:=I2.cell x c (b'o e)
  exact (below _ (Heap.lt_size ho)).2
 have stat:∀ {pl:List (Addr×Obj)} {H':Hp},(∀ b∈fp,H' b=none)->(∀ p∈pl,p.1=s2.heap.objs.size)->∀ b∈fp,FpOk (cxComp X scope N P2.objs.size s2 H2 fp pins) pl H' b:=λ{pl H'} hn hp b hb=>by
  refine⟨hn b hb,(ok.exf b hb).1,ok.exfs b hb,.inl hb,(ok.exf b hb).2,λp hm=>?_⟩
  rcases List.mem_append.mp hm with z | z
  ·exact (f2 b hb).2.2.2.2.2 p z
  ·rw [hp p z];intro q;rw [q] at hfD;exact hfD hb
 have loop:∀ s₃:Shared,s₃={ s2 with heap:=h₁,toks:=s2.toks+([]:List (Str×Value)).length }->
   codeAny (model X.prog X.w) X.A (.compLoop (.ListComp elt [⟨target,iter,ifs,0⟩] scope pos) 0 (.ref it) (.ref s2.heap.objs.size) (compEnvC scope (clOf scope X.env) P2.objs.size X.env)) (RR (.ref s2.heap.objs.size) P2.objs.size) s₃:=by
  rintro s₃ rfl
  refine g'R (λn s'=>∃ i acc its σ' H',Inv (cxComp X scope N P2.objs.size s2 H2 fp pins) [] σ' H' s'/\Wk (pickS ix σ) σ'/\tn i s'.heap/\(∀ b∈fp,H' b=none)/\s'.heap.PlainList s2.heap.objs.size (List.toArray its)/\Vals acc its/\H' s2.heap.objs.size=none/\W i n acc H') ?_ m0
   ⟨0,[],[],_,H2,J0,e'Y _,st1,λb hb=>(f2 b hb).1,hacc,.nil,I2.hok.fresh (Nat.le_refl _),w0⟩
  rintro n s3 ⟨i,acc,its,σ3,H3,I3,wk3,st3,fr3,pl3,va3,nd3,w3⟩
  obtain⟨kk,g3⟩:=id pl3
  have I3':Inv (cxComp X scope N P2.objs.size s2 H2 fp pins) [(s2.heap.objs.size,⟨.type "list",none,.seq (List.toArray its) kk,#[]⟩)] σ3 H3 s3:=I3.pins_of λp hp=>by
   have e:=List.mem_singleton.mp hp
   subst e
   refine⟨g3,nd3,hDC,λz=>?_,λv q=>by cases q⟩
   obtain⟨_,o,ho,_⟩:=(I2.stack).mem z
   exact absurd (Heap.lt_size ho) (Nat.lt_irrefl _)
  have onlyD:∀ p∈[((s2.heap.objs.size,⟨.type "list",none,.seq (List.toArray its) kk,#[]⟩):Addr×Obj)],p.1=s2.heap.objs.size:=λp hp=>by
   rw [List.mem_singleton.mp hp]
  rcases turn i n acc H3 w3 with ⟨stop,hlen,fin⟩ | ⟨go,NN,hNN,step⟩
  ·refine wpAny_mono (T.done (cxComp X scope N P2.objs.size s2 H2 fp pins) rfl rfl rfl hc i _ s3 σ3 H3 _ I3' (stat fr3 onlyD) st3 stop) (λr s4 h4=>?_) λ_ _ z=>z
   obtain⟨hr,I4⟩:=h4
   subst hr
   have g4:=(I4.pin (s2.heap.objs.size,_) (List.mem_append_right _ (List.mem_singleton.mpr rfl))).1
   obtain⟨mm,hnm,_⟩:=I4.loc
   have B:=l'H I2 I4 rfl f2 ⟨kk,g4⟩ va3 hlen nd3
   refine hR _ _ s4 _ mm B hnm ?_ hCle (fin _ nd3)
   rw [a'f (Ne.symm hDC)]
   exact I4.free
  ·refine wpAny_mono (T.item (cxComp X scope N P2.objs.size s2 H2 fp pins) rfl rfl rfl hc i _ s3 σ3 H3 _ I3' (stat fr3 onlyD) st3 go) (λr s4 h4=>?_) λ_ _ z=>z
   obtain⟨u,hr,h4⟩:=h4
   subst hr
   refine wpAny_mono h4 (λ_ s5 h5=>?_) λ_ _ z=>z
   obtain⟨x,H5,I5,r5,y5,st5,fr5⟩:=h5
   have I5w:=I5.weak wk3.length.symm (λi v e=>wk3.get e)
   have I5':=I5w.pinned (fp:=fp) (stat fr5 onlyD) (T.obj _ _ st5)
   refine wpAny_mono (hg P2.objs.size s2 H2 fp pins _ s5 _ H5 x u _ I5' r5 (step x H5 y5)) (λ_ s6 h6=>?_) λ_ _ z=>z.elim
   obtain⟨σ6,H6,I6,wk6,q6⟩:=h6
   refine wpAny_mono (ht P2.objs.size s2 H2 fp pins _ s6 σ6 H6 _ I6 q6) (λok s7 h7=>?_) λ_ _ z=>z.elim
   obtain⟨H7,I7,q7⟩:=h7
   have keepT:∀ {σ8:St} {H8:Hp} {s8:Shared},Inv (cxComp X scope N P2.objs.size s2 H2 fp pins) ([((s2.heap.objs.size,⟨.type "list",none,.seq (List.toArray its) kk,#[]⟩):Addr×Obj)]++pinsAt fp s5.heap) σ8 H8 s8->
     (∀ b∈fp,∀ o,s5.heap.get? b=some o->s8.heap.get? b=some o)/\(∀ b∈fp,H8 b=none):=λ{σ8 H8 s8} I8=>by
    refine⟨λb hb o e=>(I8.pin (b,o) (List.mem_append_right _ (List.mem_append_right _ (b'H hb e)))).1,λb hb=>?_⟩
    obtain⟨o,e,d⟩:=T.obj _ _ st5 b hb
    exact (I8.pin (b,o) (List.mem_append_right _ (List.mem_append_right _ (b'H hb e)))).2.1
   have unpin:∀ {σ8:St} {H8:Hp} {s8:Shared} {pl:List (Addr×Obj)},Inv (cxComp X scope N P2.objs.size s2 H2 fp pins) pl σ8 H8 s8->Inv (cxComp X scope N P2.objs.size s2 H2 fp pins) [] σ8 H8 s8:=λI8=>I8.pins_of λp hp=>by cases hp
   cases ok with
   | false=>
    simp only [Bool.false_eq_true,if_false] at q7 ⊢
    obtain⟨m',hm,w7⟩:=hNN _ _ q7
    have p7:=I7.pin (s2.heap.objs.size,_) (List.mem_append_right _ (List.mem_append_left _ (List.mem_singleton.mpr rfl)))
    obtain⟨k1,k2⟩:=keepT I7
    exact⟨m',hm,i+1,acc,its,σ6,H7,unpin I7,wk6,T.keep _ _ _ st5 k1,k2,⟨kk,p7.1⟩,va3,p7.2.1,w7⟩
   | true=>
    simp only [if_true] at q7 ⊢
    refine wpAny_mono (he P2.objs.size s2 H2 fp pins _ s7 σ6 H7 _ I7 q7) (λy s8 h8=>?_) λ_ _ z=>z.elim
    obtain⟨v,H8,I8,r8,hlt,q8⟩:=h8
    obtain⟨m',hm,w8⟩:=hNN _ _ q8
    have p8:=I8.pin (s2.heap.objs.size,_) (List.mem_append_right _ (List.mem_append_left _ (List.mem_singleton.mpr rfl)))
    obtain⟨k1,k2⟩:=keepT I8
    have hl:=va3.length
    refine wpAny_list_append_plain (items:=List.toArray its) (hsz:=by rw [List.size_toArray,<- hl];exact Nat.le_of_lt hlt) ⟨kk,p8.1⟩ λh₅ hl₅ hs₅=>?_
    have I9:Inv (cxComp X scope N P2.objs.size s2 H2 fp pins) [] σ6 H8 { s8 with heap:=h₅ }:=(unpin I8).turned (t':=s8.toks) (it:=s2.heap.objs.size) (λb o hb e=>hs₅.extBut b o hb e) p8.2.1 hDC (.inr (Nat.le_refl _)) cellD (λp hp=>by
     have hp':p∈X.pn++pins:=by simpa [cxComp] using hp
     exact pnD p hp')
    refine⟨m',hm,i+1,acc++[v],its++[y],σ6,H8,I9,wk6,T.keep _ _ _ st5 λb hb o e=>hs₅.extBut b o (λz=>hfD (z ▸ hb)) (k1 b hb o e),k2,?_,va3.append (.cons r8 .nil),p8.2.1,w8⟩
    have e:(its++[y]).toArray=its.toArray.push y:=by simp
    rw [e]
    exact hl₅
 exact codeAny_compStart_list (loop _ rfl) (T.self X.A 0 _ _ _ st1 (loop _ rfl))
theorem r'W (hc:X.calm=true) (hi:PI X target iter wi) (hg:∀ C s H fp pl,PG (cxComp X scope N C s H fp pl) target g) (ht:∀ C s H fp pl,PTs (cxComp X scope N C s H fp pl) ifs ti) (he:∀ C s H fp pl,PE (cxComp X scope N C s H fp pl) elt te)
  (hpk:PickOk X scope N ix) (hkind:scope.kind=.function:=by rfl) (hcell:∀ y∈scope.names,y.2≠.cell:=by decide) (hnames:∀ x∈scope.names,x.2=.local->scope.names.lookup x.1=some .local:=by decide) (hall:clAll scope X.env=true:=by rfl)
  (hs:∀ x,foldedSetIterable iter X.env x=pure x:=by intro _;rfl):PE X (.ListComp elt [⟨target,iter,ifs,0⟩] scope pos) (tComp wi g ti te ix):=by
 intro pins s σ H Q I h
 rw [eval_ListComp]
 refine wpAny_comprehension_free (use:=none) rfl hs (b'X hall) hkind hnames ?_
 refine thn (hi pins s σ H _ I h) λv s1 h1=>thn h1 λitv s2 h2=>?_
 obtain⟨it,fp,tn,J,H2,e,I2,T,st2,f2,h⟩:=h2
 subst e
 refine g'S (RR:=λacc C=>compPost (model X.prog X.w) X.A X.xe none (EP X pins σ Q) acc C) hc hg ht he hkind hcell hall hpk I2 T st2 f2 h ?_
 intro D C s' H' m B hn hHC hle q
 refine⟨m,hn,λh' hs'=>⟨.ref D,H',B.turned (t':=s'.toks) (it:=C) (λb o hb e=>hs'.extBut b o hb e) hHC (Nat.ne_of_gt (Nat.lt_of_lt_of_le I2.lt hle)) (.inr (Nat.le_trans I2.sz hle)) (λx c e=>?_) (λp hp=>?_),rfl,q⟩⟩
 ·obtain⟨v,o,ho,_⟩:=I2.cell x c e
  exact Nat.ne_of_lt (Nat.lt_of_lt_of_le (Heap.lt_size ho) hle)
 ·exact Nat.ne_of_lt (Nat.lt_of_lt_of_le (Heap.lt_size (I2.pin p hp).1) hle)
theorem r'X {i:Nat} {y:Str} {py spos:Pos} (hN:X.N.Nodup) (hyi:X.N[i]?=some y) (hy:Loc X.env.scope y) (hc:X.calm=true) (hi:PI X target iter wi) (hg:∀ C s H fp pl,PG (cxComp X scope N C s H fp pl) target g) (ht:∀ C s H fp pl,PTs (cxComp X scope N C s H fp pl) ifs ti) (he:∀ C s H fp pl,PE (cxComp X scope N C s H fp pl) elt te)
  (hpk:PickOk X scope N ix) (hsw:swapsWith (.ListComp elt [⟨target,iter,ifs,0⟩] scope pos) (some (.Name y py)) spos.line X.env=pure true:=by with_unfolding_all rfl) (hkind:scope.kind=.function:=by rfl) (hcell:∀ y∈scope.names,y.2≠.cell:=by decide) (hnames:∀ x∈scope.names,x.2=.local->scope.names.lookup x.1=some .local:=by decide) (hall:clAll scope X.env=true:=by rfl)
  (hs:∀ x,foldedSetIterable iter X.env x=pure x:=by intro _;rfl) (hf:X.fn y=true\/X.env.scope.names.lookup y=some .local:=by first | exact .inl rfl | exact .inr rfl | assumption):PS X (.Assign [.Name y py] (.ListComp elt [⟨target,iter,ifs,0⟩] scope pos) spos) (tAsg (tComp wi g ti te ix) (gName i)):=by
 intro pins s σ H D I h
 rw [exec_Assign_Name_used _ _ _ _ hsw]
 refine wpAny_bind (wpAny_standAt (wpAny_bind ?_))
 show wpAny _ X.A (do let _ <- comprehension (.ListComp elt [⟨target,iter,ifs,0⟩] scope pos) scope X.env _ (newList []) false (eval iter X.env) (some (assign (.Name y py) X.env))) _ _ s
 refine wpAny_bind (wpAny_mono (wpAny_comprehension_free (use:=some (assign (.Name y py) X.env)) (Q:=λ_ s'=>SP X pins D .next s') rfl hs (b'X hall) hkind hnames ?_) (λ_ s' hq=>wpAny_pure (wpAny_pure hq)) λ_ _ e=>e)
 refine thn (hi pins s σ H _ I h) λv s1 h1=>thn h1 λitv s2 h2=>?_
 obtain⟨it,fp,tn,J,H2,e,I2,T,st2,f2,h⟩:=h2
 subst e
 refine g'S (Q:=λx H1=>gName i x σ H1 D.nx) (RR:=λacc C=>compPost (model X.prog X.w) X.A X.xe (some (assign (.Name y py) X.env)) (λ_ s'=>SP X pins D .next s') acc C) hc hg ht he hkind hcell hall hpk I2 T st2 f2 h ?_
 intro Dd C s' H' m B hn hHC hle q
 show wpAny _ X.A (assign (.Name y py) X.env (.ref Dd)) _ _ _
 have cC:∀ x c,X.env.cells.lookup x=some c->c≠C:=λx c e=>by
  obtain⟨v,o,ho,_⟩:=I2.cell x c e
  exact Nat.ne_of_lt (Nat.lt_of_lt_of_le (Heap.lt_size ho) hle)
 have lC:X.env.locals≠C:=Nat.ne_of_lt (Nat.lt_of_lt_of_le I2.lt hle)
 refine wpAny_assign_Name (f'z (v:=.ref Dd) B hN hyi hy rfl (λs4 I4 hsb=>?_) hf)
 obtain⟨a,hsa,ha⟩:=hsb
 have nC:C≠a:=by
  rcases ha with z | z
  ·rw [z];exact Ne.symm lC
  ·exact Ne.symm (cC _ _ z)
 refine⟨m,hn.sameBut hsa nC,λh' hs'=>⟨_,H',I4.turned (t':=s4.toks) (it:=C) (λb o hb e=>hs'.extBut b o hb e) hHC (Ne.symm lC) (.inr (Nat.le_trans I2.sz hle)) cC (λp hp=>?_),q⟩⟩
 exact Nat.ne_of_lt (Nat.lt_of_lt_of_le (Heap.lt_size (I2.pin p hp).1) hle)
end
section
variable {g:TG} {ti:TT} {te:TE} {ix:List (Option Nat)} {σ:St} {Q:VK}
def CompW (J:It) (g:TG) (ti:TT) (te:TE) (ix:List (Option Nat)) (σ:St) (Q:VK) (H1:Hp):Prop:=∃ W:Nat->Nat->List V->Hp->Prop,(∃ m,W 0 m [] H1)/\∀ i m acc H,W i m acc H->
 (J.stop i H/\acc.length<=sizeLine/\∀ p,H p=none->Q (.ref p) (upd H p (.lst acc)))\/
 (J.go i H/\∃ N:List V->Hp->Prop,(∀ acc' H',N acc' H'->∃ m',m'<m/\W (i+1) m' acc' H')/\∀ x H',J.yld i H x H'->g x (pickS ix σ) H' λσ2 H2=>Wk (pickS ix σ) σ2/\ti σ2 H2 λb H3=>if b=true then te σ2 H3 λv H4=>acc.length<sizeLine/\N (acc++[v]) H4 else N acc H3)
theorem w'o {J:It} {n:Nat} {H1:Hp} (Pv:Nat->List V->Hp->Prop) (h0:Pv 0 [] H1) (hgo:∀ i acc H,i<n->Pv i acc H->J.go i H) (hst:∀ acc H,Pv n acc H->J.stop n H)
  (hs:∀ i x acc H H',i<n->Pv i acc H->J.yld i H x H'->g x (pickS ix σ) H' λσ2 H2=>Wk (pickS ix σ) σ2/\ti σ2 H2 λb H3=>if b=true then te σ2 H3 λv H4=>acc.length<sizeLine/\Pv (i+1) (acc++[v]) H4 else Pv (i+1) acc H3)
  (hd:∀ acc H,Pv n acc H->acc.length<=sizeLine/\∀ p,H p=none->Q (.ref p) (upd H p (.lst acc))):CompW J g ti te ix σ Q H1:=by
 refine⟨λi m acc H=>m=n - i/\i<=n/\Pv i acc H,⟨n,by simp,Nat.zero_le _,h0⟩,?_⟩
 rintro i m acc H ⟨rfl,hi,p⟩
 by_cases hlt:i<n
 ·exact .inr ⟨hgo i acc H hlt p,Pv (i+1),λacc' H' p'=>⟨n - (i+1),by omega,rfl,hlt,p'⟩,λx H' y=>hs i x acc H H' hlt p y⟩
 ·have e:i=n:=by omega
  subst e
  exact .inl ⟨hst acc H p,hd acc H p⟩
end
end L2
namespace L2
open PySem PySem.Spec PyProof.Rows
section
variable {X:Cx}
def rSlS:V->Option Int->Option Int->Hp->VK->Prop:=λx lo hi H Q=>∃ z,x=.str z/\z.length<=sizeLine/\Q (.str (Txt.slice z lo hi)) H
theorem u'o:SlR X rSlS:=by
 intro pins s σ H x v vl vu lo hi sl Q I rx hs pl pu h
 obtain⟨z,rfl,hz,q⟩:=h
 obtain⟨t,rfl⟩:=(show ∃ t,v=Value.str z t from rx)
 refine⟨"str",_,F.slot_str_getitem.lookup,typeIs_str _ _ _,?_⟩
 have fin:∀ (tk:Tok) (k:Nat),EP X pins σ Q (.str (Txt.slice z lo hi) tk) { s with toks:=k }:=λtk k=>⟨.str _,H,I.tok k,⟨tk,rfl⟩,q⟩
 cases pl with
 | none =>
  cases pu with
  | none=>exact wpAny_getItem_str_slice (l:=none) (u:=none) (st:=none) hs rfl (post_val_or_str ⟨Nat.le_trans (Txt.slice_le z _ _) hz,λt' k=>fin t' k⟩)
  | int j tj=>exact wpAny_getItem_str_slice (l:=none) (u:=some (j,tj)) (st:=none) hs rfl (post_val_or_str ⟨Nat.le_trans (Txt.slice_le z _ _) hz,λt' k=>fin t' k⟩)
 | int i ti =>
  cases pu with
  | none=>exact wpAny_getItem_str_slice (l:=some (i,ti)) (u:=none) (st:=none) hs rfl (post_val_or_str ⟨Nat.le_trans (Txt.slice_le z _ _) hz,λt' k=>fin t' k⟩)
  | int j tj=>exact wpAny_getItem_str_slice (l:=some (i,ti)) (u:=some (j,tj)) (st:=none) hs rfl (post_val_or_str ⟨Nat.le_trans (Txt.slice_le z _ _) hz,λt' k=>fin t' k⟩)
end
section
variable {X:Cx} {tg:Expr}
end
section
variable {σ:St} {H:Hp} {R:It->Hp->Prop} {K:W.Frag}
end
end L2
namespace L2
open PySem PySem.Spec PyProof.Rows
section
variable {X:Cx} {pins:List (Addr×Obj)} {σ:St} {H:Hp} {s:Shared}
end
section
variable {X:Cx}
end
end L2
namespace L2
open PySem PySem.Spec PyProof.Rows
section
variable {P:Program} {w:World} {K:W.Frag} {mg:Str->Option Value} {base:Heap}
end
section
variable {X:Cx}
def PassAt (CX:CXT) (X:Cx) (σ:St) (E:XK):Prop:=∀ (pins:List (Addr×Obj)) (H:Hp) (s:Shared) (e:Value) (s':Shared),Inv X pins σ H s->CX X.stack H s E e s'->X.xe e s'
def tCallX (sp:Sp) (dvs:List V) (R:St->XK) (t:TA):TE:=λσ H Q=>t σ H λvs H1=>sp (vs++dvs) H1 Q (R σ)
variable {CX:CXT} {k:Nat} {f:Addr} {fd:FuncData} {ps:List Str} {sp:Sp} {dvs:List V} {ds:List Value} {x:Str} {p pos:Pos} {e:Expr} {es:List Expr} {t:TA}
theorem i'z {E:XK} {pins:List (Addr×Obj)} {σ:St} {H:Hp} {s:Shared} {Q:VK} {us:List Value} {vs:List V} (F:FnOk X.prog X.w X.K X.mg X.base CX k f fd ps sp) (hr:Room k X.A) (hb:Binds X.K fd ps ds) (hd:Vals dvs ds)
  (hx:PassAt CX X σ E) (I:Inv X pins σ H s) (r:Vals vs us) (h:sp (vs++dvs) H Q E):wpAny (model X.prog X.w) X.A (call (.ref f) us) (EP X pins σ Q) X.xe s:=by
 have r2:=r.append hd
 have hl:(us++ds).length=ps.length:=r2.length ▸ F.len _ _ _ _ h
 refine wpAny_call (codeAny_mono (F.run X.A X.stack s H ⟨us,[]⟩ (us++ds) (vs++dvs) Q E hr I.env0 (hb s us I.kIn hl) r2 h) λr s' hq=>?_)
 match r,hq with
 | .error e, hq => exact hx pins H s e s' I hq
 | .ok (.ret u), hq => exact I.after hq
 | .ok .next, hq => exact hq.elim
 | .ok .brk, hq => exact hq.elim
 | .ok .cont, hq => exact hq.elim
theorem o'y {R:St->XK} (F:FnOk X.prog X.w X.K X.mg X.base CX k f fd ps sp) (hr:Room k X.A) (hg:Gl X x) (hm:X.mg x=some (.ref f)) (hk:W.keepIn X.K (.ref f)=true) (hb:Binds X.K fd ps ds) (hd:Vals dvs ds)
  (hx:∀ σ,PassAt CX X σ (R σ)) (ha:PA X (e :: es) t) (hdb:(x == ("__debug__":Str))=false:=by decide) (he:starEach (e :: es) X.env=(false,eval e X.env) :: starEach es X.env:=by rfl)
  (hpl:(backTo pos (starEach es X.env)).any (·.1)=false:=by rfl):PE X (.Call (.Name x p) (e :: es) [] pos) (tCallX sp dvs R t):=by
 intro pins s σ H Q I h
 refine wpAny_Call_Name_kw (d'k I hg hm ?_ hdb)
 exact W.callWith_K (h₀:=X.base) I.ok.mod.kin hk (thn (ha pos pins s σ H _ I h) λus s1 ⟨vs,H1,I1,r,q⟩=>⟨I1.kIn,i'z F hr hb hd (hx σ) I1 r q⟩) he hpl
end
end L2
namespace L2
open PySem PySem.Spec PyProof.Rows PySem.W Builtin Builtin.ObjectAttr Builtin.Getset_descriptor
def ExAt (x C:Addr) (h:Heap):Prop:=∃ o,h.get? x=some o/\o.cls=.ref C
section
variable {prog:Program} {w:World} {A:Around} {E:Value->Shared->Prop} {K:Frag} {h:Heap} {g:Array GenState} {d:Drawn} {t:Nat} {os:OsState} {x C:Addr}
end
def exO (x C:Addr):HO:=.ext (ExAt x C)
section
variable {X:Cx}
end
end L2
namespace L2
open PySem PySem.Spec PyProof.Rows
section
variable {P:Program} {w:World} {K:W.Frag} {mg:Str->Option Value} {base:Heap}
end
section
variable {X:Cx} {k:Nat} {f:Addr} {fd:FuncData} {ps:List Str} {sp:Sp} {x:Str} {p pos:Pos} {e:Expr} {es:List Expr} {t:TA}
end
section
variable {X:Cx}
end
end L2
namespace Vc
open PySem L2 Sf
theorem Le.exc {F F':Hp} {a B:Addr} (e:Le F F') (h:Rd F a (exO a B)):Rd F' a (exO a B):=e _ _ (by intro o w z;cases z) h
end Vc
namespace L2
open PySem PySem.Spec PyProof.Rows
section
variable {X:Cx}
end
end L2
namespace L2
open PySem PySem.Spec PyProof.Rows
section
variable {X:Cx}
end
end L2
namespace L2
end L2
namespace Vc
open PySem L2 Sf
end Vc
namespace L2
open PySem PySem.Spec PyProof.Rows
section
variable {X:Cx}
end
section
variable {g:TG} {ti:TT} {te:TE} {ix:List (Option Nat)} {σ:St} {Q:VK}
end
end L2
namespace L2
open PySem PySem.Spec PyProof.Rows
section
variable {X:Cx}
end
end L2
namespace Vc
open PySem L2 Sf
end Vc
namespace L2
end L2
namespace L2
open PySem PySem.Spec PyProof.Rows
section
variable {X:Cx}
def PJ (X:Cx) (es:List Expr) (t:Str->TE):Prop:=
 ∀ (out:Str) (pins:List (Addr×Obj)) (s:Shared) (σ:St) (H:Hp) (Q:VK),Inv X pins σ H s->t out σ H Q->wpAny (model X.prog X.w) X.A (joinParts out (evalEach es X.env)) (EP X pins σ Q) X.xe s
def jNil:Str->TE:=λout _ H Q=>out.length<=sizeLine/\Q (.str out) H
def jTxt (x:Str) (t:Str->TE):Str->TE:=λout σ H Q=>(out++x).length<=sizeLine/\t (out++x) σ H Q
def jVal (te:TE) (t:Str->TE):Str->TE:=λout σ H Q=>te σ H λv H1=>∃ y,v=.str y/\y.length<=sizeLine/\(out++y).length<=sizeLine/\t (out++y) σ H1 Q
theorem u'p:PJ X [] jNil:=λout pins s σ H Q I h=>joinParts_nil ⟨.str out,H,I.tok _,⟨_,rfl⟩,h.2⟩ h.1
theorem u'q {x:Str} {j:Nat} {pos:Pos} {es:List Expr} {t:Str->TE} (hr:PJ X es t):PJ X (.Constant (.str x) j pos :: es) (jTxt x t):=λout pins s σ H Q I h=>
 joinParts_cons (rest:=evalEach es X.env) (Calls.Constant_str ⟨h.1,hr (out++x) pins _ σ H Q (I.tok _) h.2⟩)
theorem u'r {e:Expr} {pos:Pos} {es:List Expr} {te:TE} {t:Str->TE} (he:PE X e te) (hr:PJ X es t):PJ X (.FormattedValue e (-1) none pos :: es) (jVal te t):=λout pins s σ H Q I h=>
 joinParts_cons (rest:=evalEach es X.env) (FormattedValue_plain (thn (he pins s σ H _ I h) λv s1 ⟨x,H1,I1,r1,y,e1,hz,hq,q1⟩=>by
  subst e1
  obtain⟨t',rfl⟩:=r1
  exact formatField_str (λt' tk=>⟨hq,hr (out++y) pins _ σ H1 Q (I1.tok _) q1⟩) hz))
def tJ (t:Str->TE):TE:=t Str.empty
theorem r'Y {a b:Expr} {es:List Expr} {pos:Pos} {t:Str->TE} (h:PJ X (a :: b :: es) t):PE X (.JoinedStr (a :: b :: es) pos) (tJ t):=λpins s σ H Q I q=>
 JoinedStr_many (h Str.empty pins s σ H Q I q)
end
section
variable {σ:St} {H:Hp} {Q:VK}
end
section
variable {g:TG} {ti:TT} {te:TE} {ix:List (Option Nat)} {σ:St} {Q:VK}
end
end L2
namespace Vc
open PySem L2 Sf
section
variable {X:Cx} {pins:List (Addr×Obj)} {σ:St} {H:Hp} {s:Shared} {Au:Around}
theorem r'Z {a b:Addr} {xs ys:List V} (I:Inv X pins σ H s) (h1:SqL X.K H a xs) (h2:SqL X.K H b ys) (hu:Au.units<cLine) (hl:xs.length=ys.length) (e:Nat->Bool)
  (he:∀ (j:Nat) x y u v,xs[j]?=some x->ys[j]?=some y->RelV x u->RelV y v->SeqAt.EqAt Au.in1 s u v (e j)):SeqAt.RcNeAt Au s (.ref a) (.ref b) (!(List.range xs.length).all e):=by
 obtain⟨us,r1,t1,_⟩:=I.list h1
 obtain⟨ws,r2,t2,_⟩:=I.list h2
 have l1:=r1.length
 have l2:=r2.length
 have z:=SeqAt.RcNeAt.lists (A:=Au) (e:=e) t1.isList t2.isList (by simp;omega) hu (λj h1 h2=>?_)
 ·have e0:(List.range us.toArray.size).all e=(List.range xs.length).all e:=by
   simp only [List.size_toArray]
   rw [<- l1]
  rw [e0] at z
  exact z
 ·simp only [List.size_toArray] at h1 h2
  obtain⟨u,e1,ru⟩:=r1.get (i:=j) (x:=xs[j]'(by omega)) (by simp)
  obtain⟨v,e2,rv⟩:=r2.get (i:=j) (x:=ys[j]'(by omega)) (by simp)
  obtain⟨_,f1⟩:=List.getElem?_eq_some_iff.mp e1
  obtain⟨_,f2⟩:=List.getElem?_eq_some_iff.mp e2
  have g1:us.toArray[j]'(by simpa using h1)=u:=by simpa using f1
  have g2:ws.toArray[j]'(by simpa using h2)=v:=by simpa using f2
  rw [g1,g2]
  exact he j _ _ u v (by simp) (by simp) ru rv
end
section
variable {X:Cx}
end
theorem flat_strs:∀ xs:List Str,(xs.map V.str).all flatV=true
 | [] => rfl
 | y :: r => by rw [List.map_cons, List.all_cons, flat_strs r]; rfl
end Vc
namespace Vc
open PySem L2 Sf
theorem e'Z {K:W.Frag} {H:Hp} {p:Addr} {xs:List V} (h:H p=some (.lst xs)):tyV K "list" (.ref p) H:=by
 exact .inl ⟨rfl,xs,SqL.of h⟩
theorem s'a {K:W.Frag} {H:Hp} {p:Addr} {kvs:List (Key×V)} (h:H p=some (.dK kvs)):tyV K "dict" (.ref p) H:=.inr (.inr (.inl ⟨rfl,.inl ⟨kvs,h⟩⟩))
end Vc
namespace L2
open PySem PySem.Spec PyProof.Rows
def rRepS:R2:=λx y H Q=>∃ z n,x=.str z/\y=.int n/\z.length<=100/\0<=n/\n<=1000/\Q (.str (Txt.mul z n)) H
theorem k'x {X:Cx}:OpR X (binaryOp .Mult) rRepS:=by
 intro pins s σ H x y v u Q I rx ry h
 obtain⟨z,n,rfl,rfl,hz,h0,h1,q⟩:=h
 obtain⟨t,rfl⟩:=rx
 obtain⟨t',rfl⟩:=ry
 exact SB.mul (mulOk_of 100 1000 hz (by omega) (by omega) (by decide) (by decide)) λt' k=>⟨.str _,H,I.tok _,⟨_,rfl⟩,q⟩
end L2
namespace Vc
open PySem L2 Sf
end Vc
namespace L2
open PySem PySem.Spec PyProof.Rows
section
variable {X:Cx}
theorem f'L {us:List Value} {ks:List Str} (h:StrsAre us ks):Vals (ks.map V.str) us:=by
 induction h with
 | nil => exact .nil
 | cons _ _ _ ih => exact .cons ⟨_, rfl⟩ ih
end
section
variable {X:Cx}
end
section
variable {X:Cx}
theorem l'I {kvs:List (Key×V)} {vs:List (Key×Value)} {us:List Value} (r:KV kvs vs) (hl:us.length=kvs.length) (h:∀ (j:Nat) u,us[j]?=some u->∃ k,vs[j]?=some (k,u)):Vals (kvs.map (·.2)) us:=by
 induction kvs generalizing vs us with
 | nil => cases us with
  | nil=>exact .nil
  | cons _ _=>simp at hl
 | cons p t ih =>
  cases us with
  | nil=>simp at hl
  | cons u us=>
   unfold KV at r
   cases r with
   | cons h1 h2=>
    rename_i q qs
    obtain⟨k,e⟩:=h 0 u rfl
    have e2:q=(k,u):=by simpa using e
    refine .cons (by rw [e2] at h1;exact h1.2) (ih (vs:=qs) h2 (by simpa using hl) λj w hw=>?_)
    obtain⟨k',e'⟩:=h (j+1) w (by simpa using hw)
    exact⟨k',by simpa using e'⟩
end
end L2
namespace Vc
open PySem L2 Sf
theorem i'e {a b:List Nat} (h1:¬ a<b) (h2:¬ b<a):a=b:=by
 rw [List.not_lt] at h1 h2
 exact List.le_antisymm h2 h1
theorem e'z:∀ (l:List Str),PyProof.Rows.sortedS l=true->l.Pairwise (λa b=>¬ b.cps.toList<a.cps.toList)
 | [], _ => .nil
 | x :: r, h => by
  have tr:∀ a b c:List Nat,¬ b<a->¬ c<b->¬ c<a:=λa b c h1 h2=>by
   rw [List.not_lt] at h1 h2 ⊢
   exact List.le_trans h1 h2
  have gen:∀ (r:List Str) (p:Str),PyProof.Rows.risingS p r=true->(p :: r).Pairwise (λa b=>¬ b.cps.toList<a.cps.toList):=by
   intro r
   induction r with
   | nil=>intro p _;exact List.pairwise_singleton _ _
   | cons y t ih=>
    intro p h
    have h':(!PySem.Spec.ltCps y.cps.toList p.cps.toList && PyProof.Rows.risingS y t)=true:=h
    rw [Bool.and_eq_true,PyProof.Rows.ltCps_eq] at h'
    have h1:¬ y.cps.toList<p.cps.toList:=by simpa using h'.1
    have w:=ih y h'.2
    refine List.pairwise_cons.mpr ⟨λb hb=>?_,w⟩
    rcases List.mem_cons.mp hb with e | hb
    ·rw [e];exact h1
    ·exact tr _ _ _ h1 ((List.pairwise_cons.mp w).1 b hb)
  exact gen r x h
theorem k'y {a b:List Str} (h1:PyProof.Rows.sortedS a=true) (h2:PyProof.Rows.sortedS b=true) (p:a.Perm b):a=b:=by
 refine List.Perm.eq_of_pairwise (le:=λa b=>¬ b.cps.toList<a.cps.toList) (λx y _ _ e1 e2=>?_) (e'z a h1) (e'z b h2) p
 have:=i'e e2 e1
 cases x;cases y
 simpa using this
noncomputable def srt (ks:List Str):List Str:=Classical.epsilon λl=>l.Perm ks/\PyProof.Rows.sortedS l=true
theorem l'J {ks l:List Str} (h:l.Perm ks) (g:PyProof.Rows.sortedS l=true):l=srt ks:=by
 have:=Classical.epsilon_spec (p:=λl:List Str=>l.Perm ks/\PyProof.Rows.sortedS l=true) ⟨l,h,g⟩
 exact k'y g this.2 (h.trans this.1.symm)
section
variable {K:W.Frag} {F H:Hp} {Q:VK}
end
end Vc
namespace Vc
open PySem L2 Sf
theorem u's {α:Type} {m:List (Str×α)} (n:(m.map (·.1)).Nodup) {x:Str} {y:α} (h:(x,y)∈m):gtd m x=some y:=by
 induction m with
 | nil => cases h
 | cons p r ih =>
  rw [List.map_cons,List.nodup_cons] at n
  rcases List.mem_cons.mp h with e | e
  ·subst e;exact a'K rfl
  ·have ne:¬ p.1=x:=λz=>n.1 (by rw [z];exact List.mem_map.mpr ⟨_,e,rfl⟩)
   rw [a'L ne];exact ih n.2 e
theorem b'z {α:Type} {m:List (Str×α)} {x:Str} {y:α} (h:gtd m x=some y):(x,y)∈m:=by
 induction m with
 | nil => cases h
 | cons p r ih =>
  by_cases e:p.1=x
  ·rw [a'K e] at h;cases h;subst e;exact List.mem_cons_self ..
  ·rw [a'L e] at h;exact List.mem_cons_of_mem _ (ih h)
theorem f'a {α:Type} {m:List (Str×α)} {x:Str} {y:α} (h:∀ p∈m,p.1≠x):ptd m x y=m++[(x,y)]:=by
 unfold ptd
 rw [if_neg]
 intro z
 rw [List.any_eq_true] at z
 obtain⟨p,hp,e⟩:=z
 exact h p hp (by simpa using e)
theorem f'b {α:Type} {m:List (Str×α)} (n:(m.map (·.1)).Nodup) {i:Nat} {x:Str} {y:α} (h:m[i]?=some (x,y)):∀ p∈m.take i,p.1≠x:=by
 intro p hp e
 obtain⟨j,hj⟩:=List.getElem?_of_mem hp
 have hlt:j<i:=by
  have:=(List.getElem?_eq_some_iff.mp hj).1
  rw [List.length_take] at this
  omega
 rw [List.getElem?_take_of_lt hlt] at hj
 have e1:(m.map (·.1))[j]?=some x:=by rw [List.getElem?_map,hj,Option.map_some,e]
 have e2:(m.map (·.1))[i]?=some x:=by rw [List.getElem?_map,h];rfl
 have:=(List.getElem?_inj (List.getElem?_eq_some_iff.mp e1).1 n).mp (e1.trans e2.symm)
 omega
def keepS (m:List (Str×Rat)):List (Str×Rat):=m.filter λp=>!decide (p.2.num=0)
theorem o'z {m:List (Str×Rat)} (n:(m.map (·.1)).Nodup) {i:Nat} {x:Str} {q:Rat} (h:m[i]?=some (x,q)) (hq:¬ q.num=0):ptd (keepS (m.take i)) x q=keepS (m.take (i+1)):=by
 have hk:∀ p∈keepS (m.take i),p.1≠x:=λp hp=>f'b n h p (List.mem_filter.mp hp).1
 rw [f'a hk,List.take_add_one,h]
 unfold keepS
 rw [List.filter_append]
 congr 1
 have hq':¬ q=0:=λz=>hq (by rw [z];rfl)
 simp [hq']
theorem l'K {m:List (Str×Rat)} {i:Nat} {x:Str} {q:Rat} (h:m[i]?=some (x,q)) (hq:q.num=0):keepS (m.take i)=keepS (m.take (i+1)):=by
 rw [List.take_add_one,h]
 unfold keepS
 rw [List.filter_append,Option.toList_some,List.filter_cons,List.filter_nil,hq]
 simp
theorem o'A (m:List (Str×Rat)):(keepS m).length<=m.length:=List.length_filter_le _ _
theorem u't (ks:List Str):∃ l:List Str,l.Perm ks/\PyProof.Rows.sortedS l=true:=by
 have e:∃ l:List Str,l.Perm ks/\PyProof.Rows.sortedS l=true:=by
  refine⟨ks.mergeSort (λa b=>!decide (b.cps.toList<a.cps.toList)),List.mergeSort_perm _ _,PyProof.Rows.sortedS_of_pairwise _ ?_⟩
  have:=List.pairwise_mergeSort (le:=λa b:Str=>!decide (b.cps.toList<a.cps.toList)) (λa b c h1 h2=>by
   have h1':¬ b.cps.toList<a.cps.toList:=by simpa using h1
   have h2':¬ c.cps.toList<b.cps.toList:=by simpa using h2
   rw [List.not_lt] at h1' h2'
   have:=List.not_lt.mpr (List.le_trans h1' h2')
   simpa using this) (λa b=>by
   rcases List.le_total a.cps.toList b.cps.toList with h | h
   ·have:=List.not_lt.mpr h
    simp [this]
   ·have:=List.not_lt.mpr h
    simp [this]) ks
  refine this.imp λh=>?_
  rw [PyProof.Rows.ltCps_eq]
  simpa using h
 exact e
theorem s'b (ks:List Str):(srt ks).length=ks.length:=(Classical.epsilon_spec (u't ks)).1.length_eq
end Vc
namespace L2
open PySem PySem.Spec PyProof.Rows
section
variable {P:Program} {w:World} {K:W.Frag} {mg:Str->Option Value} {base:Heap}
end
section
variable {g:TG} {ti:TT} {te:TE} {ix:List (Option Nat)} {σ:St} {Q:VK}
end
end L2
namespace Vc
open PySem L2 Sf
def r4 (K:W.Frag) {α β γ δ:Type} (A:Rep α) (B:Rep β) (C:Rep γ) (D:Rep δ):Rep (α×β×γ×δ):=λF v x=>∃ a v1 v2 v3 v4,v=.ref a/\SqT K F a [v1,v2,v3,v4]/\A F v1 x.1/\B F v2 x.2.1/\C F v3 x.2.2.1/\D F v4 x.2.2.2
section
variable {K:W.Frag} {F H:Hp} {Q:VK}
end
end Vc
namespace L2
open PySem PySem.Spec PyProof.Rows
section
variable {P:Program} {w:World} {A:Around} {s:Shared}
section
open PySem.AutoSeq1 (wpAny_loadPart')
end
section
open PySem.AutoSeq1 (wpAny_loadPart')
open PySem.MeetsSeq PySem.MeetsSeq2 PySem.MeetsSeq3 PySem.SeqRoads2 PySem.SeqAt
end
end
section
variable {X:Cx} {pins:List (Addr×Obj)} {σ:St} {H:Hp} {s:Shared}
end
section
variable {X:Cx}
end
end L2
namespace Vc
open PySem L2 Sf
section
variable {K:W.Frag} {F H:Hp} {Q:VK}
end
end Vc
namespace L2
open PySem PySem.Spec PyProof.Rows
section
variable {X:Cx}
end
section
variable {X:Cx}
theorem l'L:OpR X (compareOp .Gt) (λx y H Q=>∃ i j,x=.str i/\y=.str j/\Q (.bl (decide (j.cps.toList<i.cps.toList))) H):=by
 intro pins s σ H x y v u Q I rx ry h
 obtain⟨i,j,rfl,rfl,q⟩:=h
 obtain⟨t,rfl⟩:=rx
 obtain⟨t',rfl⟩:=ry
 exact PySem.P.gt_str (a'o I q rfl)
end
end L2
namespace Vc
open PySem L2 Sf
end Vc
namespace L2
open PySem PySem.Spec PyProof.Rows
section
variable {prog:Program} {w:World} {κ:Type} [DecidableEq κ] {kn:KeyKind prog w κ} {A:Around} {E:Value->Shared->Prop} {s:Shared}
end
section
variable {X:Cx}
end
end L2
namespace L2
open PySem PySem.Spec PyProof.Rows
section
variable {prog:Program} {w:World} {A:Around} {E:Value->Shared->Prop} {s:Shared}
end
section
variable {X:Cx}
end
section
variable {X:Cx}
end
end L2
namespace Vc
open PySem L2
section
variable {X:Cx} {pins:List (Addr×Obj)} {σ:St} {H:Hp} {s:Shared} {Au:Around}
open Sf in
end
section
variable {X:Cx}
end
theorem w'K {Fb Hb F H F' H':Hp} {S:Addr->Prop} {a:Addr} {ob:Obj} {kvs:List (Key×V)} (gb:Gr0 Fb Hb F H) (hH:H a=some (.dK kvs)) (hF:F a=none\/F a=some (.dK kvs))
  (gz:Gr0 (fz Fb a (.frz ob (.dK kvs))) (fz Hb a (.frz ob (.dK kvs))) F' H') (sF:F' a=fz F a (.frz ob (.dK kvs)) a) (cm:Fz (λb=>b=a\/S b) F') :
  ∃ F'':Hp,Gr0 Fb Hb F'' (upd H' a (.dK kvs))/\Fz S F''/\Le F' F''/\F'' a=F a/\(upd H' a (.dK kvs)) a=some (.dK kvs)/\(∀ b,b≠a->F'' b=F' b)/\∀ b,b≠a->(upd H' a (.dK kvs)) b=H' b:=
 thw (R:=λU=>∃ F'':Hp,Gr0 Fb Hb F'' U/\Fz S F''/\Le F' F''/\F'' a=F a/\U a=some (.dK kvs)/\(∀ b,b≠a->F'' b=F' b)/\∀ b,b≠a->U b=H' b) gb hH hF gz sF cm λF2 H2 h1 h2 h3 h4 h5 h6 h7=>⟨F2,h1,h2,h3,h4,h5,h6,h7⟩
end Vc
namespace L2
open PySem PySem.Spec PyProof.Rows
section
variable {X:Cx}
def rCatS (K:W.Frag):R2:=λx y H Q=>∃ l b xs zs,x=.ref l/\y=.ref b/\SqL K H l xs/\SqL K H b zs/\xs.length+zs.length<=sizeLine/\∀ p,H p=none->Q (.ref p) (upd H p (.lst (xs++zs)))
theorem s'c:OpR X (binaryOp .Add) (rCatS X.K):=by
 intro pins s σ H x y v u Q I rx ry h
 obtain⟨l,b,xs,zs,rfl,rfl,hH,hB,hz,q⟩:=h
 cases rx
 cases ry
 obtain⟨its,r,p1,z1⟩:=I.list hH
 obtain⟨its2,r2,p2,z2⟩:=I.list hB
 have n1:=r.length
 have n2:=r2.length
 obtain⟨⟨c1,d1,t1,sl1⟩,ho,hc,n,hd⟩:=p1.isList
 obtain⟨⟨c2,d2,t2,sl2⟩,ho2,hc2,m,hd2⟩:=p2.isList
 simp only at hc hd hc2 hd2
 subst hc hd hc2 hd2
 refine concat_meets ⟨_,ho,rfl⟩ ⟨_,ho2,rfl⟩ noFill_list_add seq_list_add PySem.F.slot_list_add PySem.F.entry_list_add (PySem.F.args_list_add_2 _ _) (list_addW l b its.toArray its2.toArray n m d1 d2 sl1 sl2 (by simp;omega)) ⟨ho,ho2,?_⟩
 rw [show its.toArray++its2.toArray=(its++its2).toArray by simp]
 exact⟨.ref _,_,I.lnew (t':=s.toks) (r.append r2) (by rw [List.length_append];omega),rfl,q _ I.fresh⟩
theorem l'M:CallR X (.type "int") (λxs H Q=>∃ b,xs=[.bl b]/\Q (.int (if b=true then 1 else 0)) H):=by
 intro pins s σ H xs us Q I r h
 obtain⟨b,rfl,q⟩:=h
 obtain⟨u,rfl,ru⟩:=c'y r
 cases ru
 exact call_int_bool ⟨.int _,H,I.tok _,⟨_,rfl⟩,q⟩
end
end L2
namespace L2
open PySem
end L2
namespace Vc
open PySem L2
section
variable {X:Cx}
end
end Vc
namespace Vc
open PySem L2
def hid (a b:Addr) (H:Hp):Hp:=λx=>if x=a\/x=b then none else H x
end Vc
namespace L2
end L2
namespace Vc
open PySem L2 Sf
end Vc
namespace L2
open PySem
def Ris (xs:Array Nat):Prop:=∀ i j (hj:j<xs.size) (hi:i<j),xs[i]'(Nat.lt_trans hi hj)<xs[j]
theorem o'B (xs:Array Nat) (j:Nat) (hR:Ris xs):∀ (fuel lo hi:Nat),hi - lo<=fuel->lo<=hi->hi<=xs.size->(∀ i (h:i<xs.size),i<lo->xs[i]<j)->(∀ i (h:i<xs.size),hi<=i->j<=xs[i])->
  SetTable.below.go xs j fuel lo hi<=xs.size/\(∀ i (h:i<xs.size),i<SetTable.below.go xs j fuel lo hi->xs[i]<j)/\(∀ i (h:i<xs.size),SetTable.below.go xs j fuel lo hi<=i->j<=xs[i]):=by
 intro fuel
 induction fuel with
 | zero => intro lo hi h1 h2 h3 h4 h5; unfold SetTable.below.go; exact ⟨by omega, h4, λi h e => h5 i h (by omega)⟩
 | succ f ih =>
  intro lo hi h1 h2 h3 h4 h5
  unfold SetTable.below.go
  by_cases hl:lo<hi
  ·rw [if_pos hl]
   dsimp only
   have hm:(lo+hi) / 2<xs.size:=by omega
   have eg:xs.getD ((lo+hi) / 2) j=xs[(lo+hi) / 2]:=by rw [Array.getD_eq_getD_getElem?,Array.getElem?_eq_getElem hm];rfl
   rw [eg]
   by_cases hx:xs[(lo+hi) / 2]<j
   ·rw [if_pos hx]
    refine ih _ _ (by omega) (by omega) h3 (λi h e=>?_) h5
    by_cases z:i=(lo+hi) / 2
    ·subst z;exact hx
    ·exact Nat.lt_trans (hR i _ hm (by omega)) hx
   ·rw [if_neg hx]
    refine ih _ _ (by omega) (by omega) (by omega) h4 λi h e=>?_
    by_cases z:i=(lo+hi) / 2
    ·subst z;omega
    ·have:=hR ((lo+hi) / 2) i h (by omega);omega
  ·rw [if_neg hl];exact⟨by omega,h4,λi h e=>h5 i h (by omega)⟩
theorem c'C {xs:Array Nat} (hR:Ris xs) (j:Nat):SetTable.below xs j<=xs.size/\(∀ i (h:i<xs.size),i<SetTable.below xs j->xs[i]<j)/\(∀ i (h:i<xs.size),SetTable.below xs j<=i->j<=xs[i]):=
 o'B xs j hR _ _ _ (by omega) (by omega) (Nat.le_refl _) (λi h e=>by omega) (λi h e=>by omega)
theorem o'C {xs:Array Nat} (hR:Ris xs) {i:Nat} (h:i<xs.size):SetTable.below xs (xs[i]+1)=i+1:=by
 obtain⟨a,b,c⟩:=c'C hR (xs[i]+1)
 have h1:¬ SetTable.below xs (xs[i]+1)<=i:=λz=>by have:=c i h z;omega
 by_cases z:i+1<SetTable.below xs (xs[i]+1)
 ·have h2:i+1<xs.size:=by omega
  have:=b (i+1) h2 z
  have:=hR i (i+1) h2 (by omega)
  omega
 ·omega
theorem k'z {xs:Array Nat} (hR:Ris xs):SetTable.below xs 0=0:=by
 obtain⟨a,b,c⟩:=c'C hR 0
 by_cases z:0<SetTable.below xs 0
 ·have:=b 0 (by omega) z;omega
 ·omega
theorem k'A {xs:Array Nat} (hR:Ris xs) {j:Nat} (hn:xs[SetTable.below xs j]?≠some j):Ris (SetTable.insertAt xs (SetTable.below xs j) j):=by
 obtain⟨a,b,c⟩:=c'C hR j
 generalize SetTable.below xs j=p at *
 have hs:(SetTable.insertAt xs p j).size=xs.size+1:=by unfold SetTable.insertAt;simp;omega
 have at':∀ i,(SetTable.insertAt xs p j)[i]?=if i<p then xs[i]? else if i=p then some j else xs[i - 1]?:=by
  intro i
  unfold SetTable.insertAt
  have hx:((xs.extract 0 p).push j).size=p+1:=by simp;omega
  rw [Array.getElem?_append]
  rw [hx]
  by_cases h1:i<p
  ·rw [if_pos (by omega),if_pos h1,Array.getElem?_push_lt (by simp;omega)]
   simp [Array.getElem_extract]
  ·rw [if_neg h1]
   by_cases h2:i=p
   ·rw [if_pos (by omega),if_pos h2]
    have:(xs.extract 0 p).size=i:=by simp;omega
    rw [<- this,Array.getElem?_push_size]
   ·rw [if_neg (by omega),if_neg h2]
    rw [Array.getElem?_extract]
    have e:p+(i - (p+1))=i - 1:=by omega
    rw [e]
    by_cases h3:i - (p+1)<min xs.size xs.size - p
    ·rw [if_pos h3]
    ·rw [if_neg h3,Array.getElem?_eq_none (by omega)]
 have strict:∀ i (h:i<xs.size),p<=i->j<xs[i]:=by
  intro i h hp
  have h0:p<xs.size:=by omega
  have h1:=c p h0 (Nat.le_refl _)
  have h2:xs[p]≠j:=λz=>hn (by rw [Array.getElem?_eq_getElem h0,z])
  by_cases z:i=p
  ·subst z;omega
  ·have:=hR p i h (by omega);omega
 intro i k hk hi
 have gi:=at' i
 have gk:=at' k
 rw [Array.getElem?_eq_getElem (by omega)] at gi
 rw [Array.getElem?_eq_getElem hk] at gk
 rw [hs] at hk
 by_cases k1:k<p
 ·rw [if_pos k1,Array.getElem?_eq_getElem (by omega)] at gk
  rw [if_pos (by omega),Array.getElem?_eq_getElem (by omega)] at gi
  rw [Option.some.inj gi,Option.some.inj gk];exact hR i k (by omega) hi
 ·rw [if_neg k1] at gk
  by_cases k2:k=p
  ·rw [if_pos k2] at gk
   rw [if_pos (by omega),Array.getElem?_eq_getElem (by omega)] at gi
   rw [Option.some.inj gi,Option.some.inj gk];exact b i (by omega) (by omega)
  ·rw [if_neg k2,Array.getElem?_eq_getElem (by omega)] at gk
   rw [Option.some.inj gk]
   by_cases i1:i<p
   ·rw [if_pos i1,Array.getElem?_eq_getElem (by omega)] at gi
    rw [Option.some.inj gi];exact hR i (k - 1) (by omega) (by omega)
   ·rw [if_neg i1] at gi
    by_cases i2:i=p
    ·rw [if_pos i2] at gi
     rw [Option.some.inj gi];exact strict (k - 1) (by omega) (by omega)
    ·rw [if_neg i2,Array.getElem?_eq_getElem (by omega)] at gi
     rw [Option.some.inj gi];exact hR (i - 1) (k - 1) (by omega) (by omega)
theorem o'D {l:List Nat} (h:l.Pairwise (·<·)):Ris l.toArray:=by
 intro i j hj hi
 have:=List.pairwise_iff_getElem.mp h i j (by simpa using Nat.lt_trans hi hj) (by simpa using hj) hi
 simpa using this
theorem b'Y (n:Nat):Ris (Array.range n):=by
 intro i j hj hi
 simp only [Array.getElem_range];exact hi
theorem l'N:Ris #[]:=λi j hj hi=>absurd hj (by simp)
theorem k'B {t:SetTable} {hf:Nat->Int} {h:Int}:∀ (fuel:Nat) (p:SetTable.Probe),(∀ d,p.dummy=some d->t.place[SetTable.below t.place d]?≠some d)->
  ∀ j d,SetTable.probe.go t hf h fuel p=some (.empty j d)->t.place[SetTable.below t.place (d.getD j)]?≠some (d.getD j):=by
 intro fuel
 induction fuel with
 | zero => intro p _ j d e; unfold SetTable.probe.go at e; cases e
 | succ f ih =>
  intro p hp j d e
  unfold SetTable.probe.go at e
  have nl:(t.slot p.j=.empty\/t.slot p.j=.dummy)->t.place[SetTable.below t.place p.j]?≠some p.j:=by
   intro z q
   unfold SetTable.slot at z
   dsimp only at z
   rw [if_pos (by rw [q];exact beq_self_eq_true _)] at z
   rcases z with z | z<;>cases z
  have adv:∀ q:SetTable.Probe,(t.advance q).dummy=q.dummy:=λq=>by unfold SetTable.advance;split<;>rfl
  split at e
  ·rename_i hs
   cases e
   cases q:p.dummy with
   | none=>exact nl (.inl hs)
   | some d=>exact hp d q
  ·rename_i hs
   refine ih _ (λd q=>?_) j d e
   rw [adv] at q
   cases q
   exact nl (.inr hs)
  ·rename_i i hs
   split at e
   ·cases e
   ·refine ih _ (λd q=>hp d (by rw [adv] at q;exact q)) j d e
theorem l'O {t:SetTable} {h:Int} {s:Nat} {b:Bool} (e:t.freeSlot h=some (s,b)):t.place[SetTable.below t.place s]?≠some s:=by
 unfold SetTable.freeSlot at e
 split at e
 ·rename_i j d q
  cases e
  exact k'B _ _ (λd z=>by cases z) j d q
 ·cases e
theorem g'c {t:SetTable} (hR:Ris t.place) (n:Nat):Ris (t.orStandIn n).place/\(t.orStandIn n).led=t.led:=by
 unfold SetTable.orStandIn
 split
 ·exact⟨hR,rfl⟩
 ·exact⟨b'Y _,rfl⟩
theorem k'C {t:SetTable} (hR:Ris t.place) (es:Array (Int×Value)) (h:Int) (x:Value):Ris (layNew t es h x).2.1.place/\(layNew t es h x).2.1.led=t.led:=by
 unfold layNew
 split
 ·rename_i s b e
  exact g'c (t:=(t.put s).1) (k'A hR (l'O e)) _
 ·exact⟨b'Y _,rfl⟩
theorem g'T {t:SetTable} (hR:Ris t.place) (es:Array (Int×Value)) (n:Nat):Ris (relayAll t es n).2.1.place/\(relayAll t es n).2.1.led=t.led:=by
 unfold relayAll
 split
 ·rename_i t' o e
  dsimp only
  split
  ·unfold SetTable.relaid SetTable.laid at e
   cases q:SetTable.layClean (SetTable.sizeAbove n - 1) (es.map (·.1)) with
   | none=>rw [q] at e;cases e
   | some ow=>
    rw [q] at e
    cases e
    refine⟨o'D ?_,rfl⟩
    rw [List.pairwise_map]
    refine List.Pairwise.filterMap (R:=(·<·)) _ (λa a' hlt b hb b' hb'=>?_) List.pairwise_lt_range
    cases z1:ow.getD a none with
    | none=>rw [z1] at hb;cases hb
    | some y1=>
     rw [z1] at hb;cases hb
     cases z2:ow.getD a' none with
     | none=>rw [z2] at hb';cases hb'
     | some y2=>rw [z2] at hb';cases hb';exact hlt
  ·exact⟨b'Y _,rfl⟩
 ·exact⟨b'Y _,rfl⟩
theorem c'D {α:Type}:∀ (l:List α) (i:Nat) (h:i<l.length),(l[i] :: l.eraseIdx i).Perm l
 | [], _, h => absurd h (by simp)
 | _ :: _, 0, _ => .refl _
 | x :: r, i + 1, h => (List.Perm.swap x _ _).trans (List.Perm.cons x (c'D r i (by simpa using h)))
theorem s'd {α:Type} (nx:Nat->Nat):∀ (fuel k:Nat) (left:List α) (out:Array α),left.length<=fuel->(pickOrder.go nx fuel k left out).toList.Perm (out.toList++left):=by
 intro fuel
 induction fuel with
 | zero => intro k left out h; unfold pickOrder.go; cases left with
  | nil=>simp
  | cons _ _=>simp at h
 | succ f ih =>
  intro k left out h
  unfold pickOrder.go
  cases left with
  | nil=>simp
  | cons y r=>
   have hm:nx k % (y :: r).length<(y :: r).length:=Nat.mod_lt _ (by simp)
   rw [List.getElem?_eq_getElem hm]
   dsimp only
   refine (ih _ _ _ (by rw [List.length_eraseIdx_of_lt hm];simp at h ⊢;omega)).trans ?_
   rw [Array.toList_push,List.append_assoc]
   refine List.Perm.append_left _ ?_
   exact c'D _ _ hm
theorem l'P {α:Type} (nx:Nat->Nat) (xs:Array α):(pickOrder nx xs).toList.Perm xs.toList:=by
 unfold pickOrder
 simpa using s'd nx xs.size 0 xs.toList #[] (by simp)
end L2
namespace L2
open PySem
section
variable {prog:Program} {w:World} {K:Type} [DecidableEq K]
noncomputable def kfo (knd:KeyKind prog w K) (v:Value):Option K:=by
 classical exact if h:∃ k,knd.is k v=true then some h.choose else none
variable {knd:KeyKind prog w K}
theorem c'l {k:K} {v:Value} (h:knd.is k v=true):kfo knd v=some k:=by
 unfold kfo
 have ex:∃ k,knd.is k v=true:=⟨k,h⟩
 rw [dif_pos ex]
 exact congrArg some (knd.inj v _ _ ex.choose_spec h)
def led0 (w:World):Bool:=!(w.params.followText "set-order")
def GS (knd:KeyKind prog w K) (o:Obj) (ks:List K):Prop:=
 o.ExactSet/\∃ es ep t,o.data=.set es ep t/\ElemsOf knd es.toList/\t.fits es.size=true/\Ris t.place/\t.led=led0 w/\(es.toList.filterMap λe=>kfo knd e.2).Perm ks
theorem f'M:∀ {es:List (Int×Value)},ElemsOf knd es->(es.filterMap λe=>kfo knd e.2).length=es.length
 | [], _ => rfl
 | e :: r, h => by
  obtain⟨⟨k,hk,_⟩,_⟩:=h.head
  rw [List.filterMap_cons,c'l hk]
  simp [f'M h.tail]
theorem i'A {o:Obj} {es:Array (Int×Value)} {ks:List K} (h:ElemsOf knd es.toList) (p:(es.toList.filterMap λe=>kfo knd e.2).Perm ks):es.size=ks.length:=by
 rw [<- p.length_eq,f'M h,Array.length_toList]
theorem o'E {es:List (Int×Value)} (h:ElemsOf knd es) (k:K):(k∈es.filterMap λe=>kfo knd e.2)↔∃ e∈es,knd.is k e.2=true:=by
 rw [List.mem_filterMap]
 constructor
 ·rintro⟨e,he,q⟩
  obtain⟨⟨k',hk,_⟩,_⟩:=h e he
  rw [c'l hk] at q
  cases q
  exact⟨e,he,hk⟩
 ·rintro⟨e,he,q⟩
  exact⟨e,he,c'l q⟩
variable {A:Around} {E:Value->Shared->Prop} {s:Shared}
theorem l'Q {h:Heap} {a:Addr} {o:Obj} {es es':Array (Int×Value)} {ep:Nat} {t t':SetTable} (ho:h.get? a=some o) (hd:o.data=.set es ep t) :
  (h.update a (Obj.putSet es' t')).get? a=some { o with data:=.set es' (ep+1) t' }:=by
 have:=Heap.get?_update_self (Obj.putSet es' t') ho (by rw [putSet_of es' t' hd];rfl)
 rw [putSet_of es' t' hd] at this;exact this
theorem i'B {g:Bool->Sem Unit} (hg:∀ (b:Bool) (s₁:Shared) (Q':Unit->Shared->Prop),Q' () s₁->wpAny (model prog w) A (g b) Q' E s₁)
  {a:Addr} {o:Obj} {es:Array (Int×Value)} {ep:Nat} {t:SetTable} (ho:s.heap.get? a=some o) (hex:o.ExactSet) (hd:o.data=.set es ep t)
  {es1:Array (Int×Value)} {t2:SetTable} {ks:List K} (hel:ElemsOf knd es1.toList) (hp:(es1.toList.filterMap λe=>kfo knd e.2).Perm ks)
  (hb:es1.size<scanBound) (hf:t2.fits es1.size=true) (hR:Ris t2.place) (hL:t2.led=led0 w) {wd:Bool} {R:Option Bool->Shared->Prop}
  (h:∀ h' o',Heap.SameBut a s.heap h'->h'.get? a=some o'->GS knd o' ks->R (some true) { s with heap:=h' }) :
  wpAny (model prog w) A (do
    storeSet a es1 t2
    if (!wd && t2.tooFull)=true then do
      g (relayAll t2 es1 (SetTable.grown es1.size)).2.2
      storeSet a (relayAll t2 es1 (SetTable.grown es1.size)).1 (relayAll t2 es1 (SetTable.grown es1.size)).2.1
      pure (some true)
     else pure (some true)) R E s:=by
 refine wpAny_bind (wpAny_storeSet_of ho hd ?_ (fits_of_scanBound hb))
 have ho1:=l'Q (es':=es1) (t':=t2) ho hd
 have hs1:=Heap.SameBut.update s.heap a (Obj.putSet es1 t2)
 split
 ·have q1:=relayAll_perm t2 es1 (SetTable.grown es1.size)
  have q2:=relayAll_fits t2 es1 (SetTable.grown es1.size)
  have q3:=g'T hR es1 (SetTable.grown es1.size)
  generalize relayAll t2 es1 (SetTable.grown es1.size)=Rl at q1 q2 q3 ⊢
  have hsz:Rl.1.size=es1.size:=by rw [<- Array.length_toList,q1.length_eq,Array.length_toList]
  refine wpAny_bind (hg _ _ _ ?_)
  refine wpAny_bind (wpAny_storeSet_of ho1 rfl ?_ (fits_of_scanBound (by rw [hsz];exact hb)))
  have ho2:=l'Q (es':=Rl.1) (t':=Rl.2.1) ho1 rfl
  exact wpAny_pure (h _ _ (hs1.trans (Heap.SameBut.update _ a _)) ho2 ⟨hex,_,_,_,rfl,hel.perm q1,q2,q3.1,q3.2.trans hL,(q1.filterMap _).trans hp⟩)
 ·exact wpAny_pure (h _ _ hs1 ho1 ⟨hex,_,_,_,rfl,hel,hf,hR,hL,hp⟩)
def addk (ks:List K) (k:K):List K:=if k∈ks then ks else ks++[k]
theorem u'u {a:Addr} {o:Obj} {ks:List K} {k:K} {x:Value} {Q:Bool->Shared->Prop} (hkey:knd.is k x=true) (hsc:x.scannable=true) (ho:s.heap.get? a=some o) (hG:GS knd o ks)
  (hroom:ks.length+1<scanBound) (h:∀ (b:Bool) h' o',Heap.SameBut a s.heap h'->h'.get? a=some o'->GS knd o' (addk ks k)->Q b { s with heap:=h' }) :
  wpAny (model prog w) A (setAddHashed a x (knd.hash k)) Q E s:=by
 obtain⟨hex,es,ep,t,hd,hel,hf,hR,hL,hp⟩:=hG
 have hn:=i'A (o:=o) hel hp
 have hmem:=o'E hel k
 unfold setAddHashed setAddHashedIn
 refine wpAny_holding (wpAny_bind (wpAny_setState_of ho hd hf ?_))
 dsimp only
 rw [byScan_of hsc (by rw [hn];omega) hel]
 simp only [↓reduceIte]
 unfold setAddByScan
 refine wpAny_bind (wpAny_bind (wpAny_rule (wpAny_bind (wpAny_setScan_of hkey ho hd hf hel ?_))))
 cases hr:List.findIdx? (λe=>knd.is k e.2) es.toList with
 | some j =>
  dsimp only
  obtain⟨hj,hpj,_⟩:=List.findIdx?_eq_some_iff_getElem.mp hr
  have hk:k∈ks:=hp.mem_iff.mp (hmem.mpr ⟨es.toList[j],List.getElem_mem hj,hpj⟩)
  refine wpAny_pure (wpAny_pure ?_)
  have:=h false s.heap o (Heap.SameBut.refl a s.heap) ho ⟨hex,es,ep,t,hd,hel,hf,hR,hL,by unfold addk;rw [if_pos hk];exact hp⟩
  have e:s={ s with heap:=s.heap }:=by cases s;rfl
  rw [e];exact this
 | none =>
  dsimp only
  have hk:¬ k∈ks:=λz=>by
   obtain⟨e,he,q⟩:=hmem.mp (hp.mem_iff.mpr z)
   have:=List.findIdx?_eq_none_iff.mp hr e he
   rw [q] at this;cases this
  have hgw:∀ (b:Bool) {s₁:Shared} {Q':Unit->Shared->Prop},Q' () s₁->wpAny (model prog w) A (match b with | true=>rule "set.scan.the-table-gave-way" | false=>pure ()) Q' E s₁:=
   λb s₁ Q' hq=>by cases b<;>first | exact wpAny_pure hq | exact wpAny_rule hq
  have q1:=layNew_perm t es (knd.hash k) x
  have q2:=layNew_fits t es (knd.hash k) x
  have q3:=k'C hR es (knd.hash k) x
  generalize layNew t es (knd.hash k) x=L at q1 q2 q3 ⊢
  obtain⟨es1,t1,wd,gave⟩:=L
  dsimp only at q1 q2 q3 ⊢
  rw [Array.toList_push] at q1
  have hel1:ElemsOf knd es1.toList:=(hel.push hkey hsc).perm q1
  have hp1:(es1.toList.filterMap λe=>kfo knd e.2).Perm (addk ks k):=by
   refine (q1.filterMap _).trans ?_
   rw [List.filterMap_append]
   unfold addk
   rw [if_neg hk]
   refine List.Perm.append hp ?_
   rw [List.filterMap_cons,c'l (show knd.is k ((knd.hash k,x):Int×Value).2=true from hkey)]
   exact .refl _
  have hb1:es1.size<scanBound:=by rw [<- Array.length_toList,q1.length_eq,List.length_append,Array.length_toList,hn];exact hroom
  refine wpAny_bind (hgw _ ?_)
  split
  ·refine wpAny_bind ?_
   rw [hashByValue_scannable 8 hsc]
   refine wpAny_pure ?_
   refine i'B ?_ ho hex hd hel1 hp1 hb1 ?_ ?_ ?_ ?_
   ·intro b s₁ Q' hq;cases b<;>first | exact wpAny_pure hq | exact wpAny_rule hq
   ·split
    ·exact q2
    ·exact SetTable.fits_plain_off q2
   ·split<;>exact q3.1
   ·split<;>exact q3.2.trans hL
   ·intro h' o' hsb ho' hG';dsimp only;exact wpAny_pure (h true h' o' hsb ho' hG')
  ·refine wpAny_bind (wpAny_pure ?_)
   simp only [↓reduceIte]
   refine i'B ?_ ho hex hd hel1 hp1 hb1 q2 q3.1 (q3.2.trans hL) ?_
   ·intro b s₁ Q' hq;cases b<;>first | exact wpAny_pure hq | exact wpAny_rule hq
   ·intro h' o' hsb ho' hG';dsimp only;exact wpAny_pure (h true h' o' hsb ho' hG')
def once (ks:List K):List K:=ks.foldl addk []
theorem l'R (ks:List K) (k:K):once (ks++[k])=addk (once ks) k:=by unfold once;rw [List.foldl_append];rfl
theorem o'F (ks:List K) (k:K):(addk ks k).length<=ks.length+1:=by unfold addk;split<;>simp
theorem g'U:∀ ks:List K,(ks.reverse.foldr (λx a=>addk a x) []).length<=ks.length:=by
 intro ks
 rw [List.foldr_reverse]
 generalize hq:([]:List K)=a0
 have:∀ (l a:List K),(l.foldl addk a).length<=a.length+l.length:=by
  intro l
  induction l with
  | nil=>intro a;exact Nat.le_refl _
  | cons x r ih=>intro a;have:=ih (addk a x);have:=o'F a x;simp only [List.foldl_cons,List.length_cons];omega
 have:=this ks a0
 rw [<- hq] at this ⊢
 simpa using this
theorem d'Y (ks:List K):(once ks).length<=ks.length:=by
 have:=g'U ks
 rw [List.foldr_reverse] at this
 exact this
end
end L2
namespace L2
open PySem
theorem slot_setiter_next:Slot "set_iterator" "__next__" "set_iterator.__next__":=
 .of (owner:="set_iterator") (n:="__next__") (by rw [typeLookup_type,builtinLookup_eq_fast];kernel_rfl) (by decide +kernel) (by decide +kernel) (by decide +kernel)
  (by first | exact .inl (by decide +kernel) | exact .inr (by decide +kernel)) (by rw [isSubtype_type];kernel_rfl)
theorem a'N:entryFor table "set_iterator.__next__"=some Builtin.«set_iterator.__next__»:=entryFor_of_fast (by kernel_rfl)
theorem a'R (a:Value):argsOk "set_iterator.__next__" ⟨[a],[]⟩:=by unfold argsOk;kernel_rfl
theorem b'G:Slot "set_iterator" "__iter__" "set_iterator.__iter__":=
 .of (owner:="set_iterator") (n:="__iter__") (by rw [typeLookup_type,builtinLookup_eq_fast];kernel_rfl) (by decide +kernel) (by decide +kernel) (by decide +kernel)
  (by first | exact .inl (by decide +kernel) | exact .inr (by decide +kernel)) (by rw [isSubtype_type];kernel_rfl)
theorem c'X:entryFor table "set_iterator.__iter__"=some Builtin.«dict_keyiterator.__iter__»:=
 entryFor_alias (id':="dict_keyiterator.__iter__") (by kernel_rfl) rfl (by decide +kernel) (by kernel_rfl)
theorem d'K (a:Value):argsOk "set_iterator.__iter__" ⟨[a],[]⟩:=by unfold argsOk;kernel_rfl
theorem f'c:entryFor table "set.__iter__"=some Builtin.«frozenset.__iter__»:=
 entryFor_alias (id':="frozenset.__iter__") (by kernel_rfl) rfl (by decide +kernel) (by kernel_rfl)
def sit (first:Value) (i a n ep:Nat):Obj:={ cls:=.type "set_iterator",data:=.fields #[first,.int i 0,.ref a,.int n 0,.int ep 0] }
section
variable {prog:Program} {w:World} {A:Around} {E:Value->Shared->Prop} {s:Shared}
theorem g'V {first:Value} {I i a n ep:Nat} {Q:Value->Shared->Prop} (hI:s.heap.get? I=some (sit first i a n ep)) (h:Q (.ref I) s):wpAny (model prog w) A (pyIter (.ref I)) Q E s:=by
 have hT:s.TypeIs (.ref I) "set_iterator":=⟨_,hI,rfl⟩
 refine wpAny_pyIter_slot hT b'G (wpAny_call_entry b'G hT c'X ?_ (d'K _))
 show wpAny _ _ (ret (.ref I)) _ _ s
 exact wpAny_pure ⟨_,rfl,"set_iterator",_,hT,slot_setiter_next.lookup,h⟩
theorem o'G {I a o es ep t n} {sl sl' i:Nat} {x:Value} {Q:Option Value->Shared->Prop} (hI:s.heap.get? I=some (sit (.int sl 0) i a n ep)) (ho:s.heap.get? a=some o) (hd:o.data=.set es ep t) (hf:t.fits es.size=true) (hn:es.size=n)
  (hx:∀ (A':Around) (E':Value->Shared->Prop) (Q':Option (Value×Nat)->Shared->Prop),Q' (some (x,sl')) s->wpAny (model prog w) A' (setNext a sl i ep) Q' E' s)
  (hQ:∀ h',h'.get? I=some (sit (.int sl' 0) (i+1) a n ep)->Heap.SameBut I s.heap h'->Q (some x) { s with heap:=h' }):wpAny (model prog w) A (pyNext (.ref I)) Q E s:=by
 have hT:s.TypeIs (.ref I) "set_iterator":=⟨_,hI,rfl⟩
 unfold pyNext
 refine wpAny_bind (wpAny_attempt (wpAny_callSpecial?_slot (name:=Str.ofString "__next__") hT slot_setiter_next (wpAny_call_entry slot_setiter_next hT a'N ?_ (a'R _))))
 show wpAny _ _ (fieldsOf (.ref I) >>= _) _ _ s
 refine wpAny_bind (wpAny_fieldsOf hI rfl ?_)
 show wpAny _ _ (setEntries a >>= _) _ _ s
 refine wpAny_bind (wpAny_setEntries_of ho hd hf ?_)
 rw [if_neg (by rw [hn];simp)]
 show wpAny _ _ (setNext a (Int.toNat sl) (Int.toNat i) (Int.toNat ep) >>= _) _ _ s
 simp only [Int.toNat_natCast]
 refine wpAny_bind (hx _ _ _ ?_)
 dsimp only
 refine wpAny_bind (wpAny_setField hI rfl (by simp) ?_)
 have h1:=Heap.get?_update_self (Obj.mapFields (·.setIfInBounds 0 (rawInt sl'))) hI rfl
 refine wpAny_bind (wpAny_setField h1 rfl (by simp [sit,Obj.mapFields]) (wpAny_pure ⟨x,rfl,wpAny_pure (hQ _ ?_ ((Heap.SameBut.update ..).trans (Heap.SameBut.update ..)))⟩))
 have h2:=Heap.get?_update_self (Obj.mapFields (·.setIfInBounds 1 (rawInt ((i:Int)+1)))) h1 rfl
 exact h2
theorem s'e {I a o es ep t n} {sl i:Nat} {Q:Option Value->Shared->Prop} (hh:A.handled=none) (hI:s.heap.get? I=some (sit (.int sl 0) i a n ep)) (ho:s.heap.get? a=some o) (hd:o.data=.set es ep t) (hf:t.fits es.size=true) (hn:es.size=n)
  (hx:∀ (A':Around) (E':Value->Shared->Prop) (Q':Option (Value×Nat)->Shared->Prop),Q' none s->wpAny (model prog w) A' (setNext a sl i ep) Q' E' s)
  (hQ:∀ h',Heap.ExtBut I s.heap h'->Q none { s with heap:=h' }):wpAny (model prog w) A (pyNext (.ref I)) Q E s:=by
 have hT:s.TypeIs (.ref I) "set_iterator":=⟨_,hI,rfl⟩
 unfold pyNext
 refine wpAny_bind (wpAny_attempt (wpAny_callSpecial?_slot (name:=Str.ofString "__next__") hT slot_setiter_next (wpAny_call_entry slot_setiter_next hT a'N ?_ (a'R _))))
 show wpAny _ _ (fieldsOf (.ref I) >>= _) _ _ s
 refine wpAny_bind (wpAny_fieldsOf hI rfl ?_)
 show wpAny _ _ (setEntries a >>= _) _ _ s
 refine wpAny_bind (wpAny_setEntries_of ho hd hf ?_)
 rw [if_neg (by rw [hn];simp)]
 show wpAny _ _ (setNext a (Int.toNat sl) (Int.toNat i) (Int.toNat ep) >>= _) _ _ s
 simp only [Int.toNat_natCast]
 refine wpAny_bind (hx _ _ _ ?_)
 dsimp only
 refine wpAny_bind (wpAny_setField hI rfl (by simp) ?_)
 show wpAny _ _ (newExc (.type "StopIteration") [] >>= _) _ _ _
 refine wpAny_bind ?_
 simp only [newExc,newTuple]
 refine wpAny_bind (wpAny_newObj_type ?_ (by size_fits))
 refine wpAny_bind (m:=firstArgMember _ _) (wpAny_of_eq (a:=Value.none) (by first | rfl | (simp only [firstArgMember];rfl)) ?_)
 refine wpAny_newObj_type ?_ (by size_fits)
 simp only [raiseNew]
 refine wpAny_bind (wpAny_handled ?_)
 rw [show A.in1.handled=none from hh]
 refine wpAny_bind (wpAny_pure (wpAny_throw ?_))
 refine wpAny_bind (wpAny_isInstance (T:="StopIteration") (b:=true) ⟨_,Heap.get?_push_size _ rfl,rfl⟩ isSubtype_stop ?_)
 exact wpAny_pure (hQ _ (((Heap.SameBut.update ..).extBut.push _).push _))
theorem l'S {I a o es ep t n tp pl pn} {i j:Nat} {x:Value} {Q:Option Value->Shared->Prop} {po:Obj} (hI:s.heap.get? I=some (sit (.ref tp) i a n ep)) (ho:s.heap.get? a=some o) (hd:o.data=.set es ep t) (hf:t.fits es.size=true) (hn:es.size=n)
  (hp:s.heap.get? tp=some po) (hpd:po.data=.seq pl pn) (hj:pl[i]?=some (.int j 0)) (hx:∃ h,es[j]?=some (h,x))
  (hQ:∀ h',h'.get? I=some (sit (.ref tp) (i+1) a n ep)->Heap.SameBut I s.heap h'->Q (some x) { s with heap:=h' }):wpAny (model prog w) A (pyNext (.ref I)) Q E s:=by
 have hT:s.TypeIs (.ref I) "set_iterator":=⟨_,hI,rfl⟩
 obtain⟨hv,hx⟩:=hx
 unfold pyNext
 refine wpAny_bind (wpAny_attempt (wpAny_callSpecial?_slot (name:=Str.ofString "__next__") hT slot_setiter_next (wpAny_call_entry slot_setiter_next hT a'N ?_ (a'R _))))
 show wpAny _ _ (fieldsOf (.ref I) >>= _) _ _ s
 refine wpAny_bind (wpAny_fieldsOf hI rfl ?_)
 show wpAny _ _ (setEntries a >>= _) _ _ s
 refine wpAny_bind (wpAny_setEntries_of ho hd hf ?_)
 rw [if_neg (by rw [hn];simp)]
 show wpAny _ _ (seqItems? (.ref tp) >>= _) _ _ s
 refine wpAny_bind (wpAny_seqItems hp hpd ?_)
 dsimp only
 simp only [Int.toNat_natCast,hj]
 refine wpAny_bind ?_
 unfold setNextDrawn
 refine wpAny_bind (wpAny_setState_of ho hd hf ?_)
 simp only [Int.toNat_natCast,bne_self_eq_false,Bool.false_eq_true,if_false,hx]
 refine wpAny_pure ?_
 refine wpAny_bind (wpAny_setField hI rfl (by simp) (wpAny_pure ⟨x,rfl,wpAny_pure (hQ _ ?_ (Heap.SameBut.update ..))⟩))
 exact Heap.get?_update_self (Obj.mapFields (·.setIfInBounds 1 (rawInt ((i:Int)+1)))) hI rfl
theorem o'H {I a o es ep t n tp pl pn} {i:Nat} {Q:Option Value->Shared->Prop} {po:Obj} (hh:A.handled=none) (hI:s.heap.get? I=some (sit (.ref tp) i a n ep)) (ho:s.heap.get? a=some o) (hd:o.data=.set es ep t) (hf:t.fits es.size=true) (hn:es.size=n)
  (hp:s.heap.get? tp=some po) (hpd:po.data=.seq pl pn) (hj:pl[i]?=none)
  (hQ:∀ h',Heap.ExtBut I s.heap h'->Q none { s with heap:=h' }):wpAny (model prog w) A (pyNext (.ref I)) Q E s:=by
 have hT:s.TypeIs (.ref I) "set_iterator":=⟨_,hI,rfl⟩
 unfold pyNext
 refine wpAny_bind (wpAny_attempt (wpAny_callSpecial?_slot (name:=Str.ofString "__next__") hT slot_setiter_next (wpAny_call_entry slot_setiter_next hT a'N ?_ (a'R _))))
 show wpAny _ _ (fieldsOf (.ref I) >>= _) _ _ s
 refine wpAny_bind (wpAny_fieldsOf hI rfl ?_)
 show wpAny _ _ (setEntries a >>= _) _ _ s
 refine wpAny_bind (wpAny_setEntries_of ho hd hf ?_)
 rw [if_neg (by rw [hn];simp)]
 show wpAny _ _ (seqItems? (.ref tp) >>= _) _ _ s
 refine wpAny_bind (wpAny_seqItems hp hpd ?_)
 dsimp only
 simp only [Int.toNat_natCast,hj]
 refine wpAny_bind (wpAny_setField hI rfl (by simp) ?_)
 have h1:=Heap.get?_update_self (Obj.mapFields (·.setIfInBounds 0 (rawInt 0))) hI rfl
 refine wpAny_bind (wpAny_setField h1 rfl (by simp [sit,Obj.mapFields]) ?_)
 show wpAny _ _ (newExc (.type "StopIteration") [] >>= _) _ _ _
 refine wpAny_bind ?_
 simp only [newExc,newTuple]
 refine wpAny_bind (wpAny_newObj_type ?_ (by size_fits))
 refine wpAny_bind (m:=firstArgMember _ _) (wpAny_of_eq (a:=Value.none) (by first | rfl | (simp only [firstArgMember];rfl)) ?_)
 refine wpAny_newObj_type ?_ (by size_fits)
 simp only [raiseNew]
 refine wpAny_bind (wpAny_handled ?_)
 rw [show A.in1.handled=none from hh]
 refine wpAny_bind (wpAny_pure (wpAny_throw ?_))
 refine wpAny_bind (wpAny_isInstance (T:="StopIteration") (b:=true) ⟨_,Heap.get?_push_size _ rfl,rfl⟩ isSubtype_stop ?_)
 exact wpAny_pure (hQ _ ((((Heap.SameBut.update ..).trans (Heap.SameBut.update ..)).extBut.push _).push _))
end
end L2
namespace L2
open PySem
section
variable {prog:Program} {w:World} {A:Around} {E:Value->Shared->Prop} {s:Shared}
variable {a ep:Nat} {o:Obj} {es:Array (Int×Value)} {t:SetTable}
theorem b'Z {Q:Bool->Shared->Prop} (h:Q (w.params.followText "set-order") s):wpAny (model prog w) A setsByText Q E s:=by
 unfold setsByText
 exact wpAny_bind (wpAny_askSetting (wpAny_pure h))
theorem f'N {sl i:Nat} {Q:Option (Value×Nat)->Shared->Prop} (ho:s.heap.get? a=some o) (hd:o.data=.set es ep t) (hf:t.fits es.size=true) (hB:w.params.followText "set-order"=true)
  (h:Q (((pickOrder (w.params.setOrder a ep) es)[i]?).map λe=>(e.2,sl)) s):wpAny (model prog w) A (setNext a sl i ep) Q E s:=by
 unfold setNext
 refine wpAny_bind (wpAny_setState_of ho hd hf ?_)
 refine wpAny_bind (b'Z ?_)
 rw [hB]
 simp only [bne_self_eq_false,Bool.false_eq_true,if_false,if_true]
 refine wpAny_bind ?_
 unfold setWalk
 refine wpAny_bind (wpAny_setState_of ho hd hf ?_)
 refine wpAny_bind (b'Z ?_)
 rw [hB]
 simp only [if_true]
 refine wpAny_bind (wpAny_askSetting (wpAny_pure ?_))
 exact wpAny_pure h
theorem g'W {sl i:Nat} {Q:Option (Value×Nat)->Shared->Prop} (ho:s.heap.get? a=some o) (hd:o.data=.set es ep t) (hf:t.fits es.size=true) (hB:w.params.followText "set-order"=false) (hL:t.led=true) (hD:(!t.plain && decide (es.size > 1))=false)
  (h:Q (match es[SetTable.below t.place sl]?,t.place[SetTable.below t.place sl]? with | some (_,x),some j=>some (x,j+1) | _,_=>none) s):wpAny (model prog w) A (setNext a sl i ep) Q E s:=by
 unfold setNext
 refine wpAny_bind (wpAny_setState_of ho hd hf ?_)
 refine wpAny_bind (b'Z ?_)
 rw [hB]
 simp only [Bool.false_eq_true,if_false]
 show wpAny _ _ (if (!t.plain && decide (es.size > 1))=true then _ else _) _ _ _
 rw [hD]
 simp only [Bool.false_eq_true,if_false]
 refine wpAny_bind ?_
 show wpAny _ _ (if (!t.led && !es.isEmpty)=true then _ else _) _ _ _
 rw [hL]
 simp only [Bool.not_true,Bool.false_and,Bool.false_eq_true,if_false]
 exact wpAny_pure (wpAny_pure h)
theorem e'A (hh:A.handled=none) (I:Addr) (hne:a≠I) (hd:o.data=.set es ep t) (hf:t.fits es.size=true) (vals:Array Value) (hvs:vals.size=es.size) (sl:Nat->Nat)
  (hi:∀ (s:Shared) (A':Around) (E':Value->Shared->Prop) (Q':Option (Value×Nat)->Shared->Prop) (i:Nat) (x:Value),vals[i]?=some x->s.heap.get? a=some o->Q' (some (x,sl (i+1))) s->wpAny (model prog w) A' (setNext a (sl i) i ep) Q' E' s)
  (he:∀ (s:Shared) (A':Around) (E':Value->Shared->Prop) (Q':Option (Value×Nat)->Shared->Prop),s.heap.get? a=some o->Q' none s->wpAny (model prog w) A' (setNext a (sl es.size) es.size ep) Q' E' s) :
  Walks prog w A I [I,a] [I] es.size (λi v=>vals[i]?=some v) (λi h=>h.get? I=some (sit (.int (sl i) 0) i a es.size ep)/\h.get? a=some o) where
 sub:=λb hb=>by simp at hb;simp [hb]
 frame:=λ_ _ _ st hk=>⟨hk I (by simp) _ st.1,hk a (by simp) _ st.2⟩
 item:=λi s Q E hlt st hQ=>by
  have hx:vals[i]?=some vals[i]:=Array.getElem?_eq_getElem (by omega)
  refine o'G (n:=es.size) st.1 st.2 hd hf rfl (λA' E' Q' q=>hi s A' E' Q' i _ hx st.2 q) λh' hI' hs'=>?_
  exact hQ _ h' s.toks hx ⟨hI',hs'.extBut a _ hne st.2⟩ λb o hb e=>hs'.extBut b o (λh=>hb (by simp [h])) e
 done:=λs Q E st hQ=>s'e hh st.1 st.2 hd hf rfl (λA' E' Q' q=>he s A' E' Q' st.2 q) λh' he'=>hQ h' s.toks λb o hb e=>he' b o (λh=>hb (by simp [h])) e
 self:=λ_ _ _ _ st hQ=>g'V st.1 hQ
theorem k'D (hh:A.handled=none) (I tp:Addr) (hne:a≠I) (hnt:tp≠I) (hd:o.data=.set es ep t) (hf:t.fits es.size=true) (vals:Array Value) (hvs:vals.size=es.size) (js:List Nat) (hj:js.length=es.size) (hv:∀ (i j:Nat),js[i]?=some j->∃ h x,vals[i]?=some x/\es[j]?=some (h,x)) {po:Obj} {pn:Nat} (hpd:po.data=.seq (js.map λj:Nat=>rawInt j).toArray pn) :
  Walks prog w A I [I,a,tp] [I] es.size (λi v=>vals[i]?=some v) (λi h=>h.get? I=some (sit (.ref tp) i a es.size ep)/\h.get? a=some o/\h.get? tp=some po) where
 sub:=λb hb=>by simp at hb;simp [hb]
 frame:=λ_ _ _ st hk=>⟨hk I (by simp) _ st.1,hk a (by simp) _ st.2.1,hk tp (by simp) _ st.2.2⟩
 item:=λi s Q E hlt st hQ=>by
  have e1:js[i]?=some js[i]:=List.getElem?_eq_getElem (by omega)
  obtain⟨h,x,hx,hex⟩:=hv i _ e1
  refine l'S (n:=es.size) (j:=js[i]) st.1 st.2.1 hd hf rfl st.2.2 hpd (by rw [List.getElem?_toArray,List.getElem?_map,e1];rfl) ⟨h,hex⟩ λh' hI' hs'=>?_
  exact hQ _ h' s.toks hx ⟨hI',hs'.extBut a _ hne st.2.1,hs'.extBut tp _ hnt st.2.2⟩ λb o hb e=>hs'.extBut b o (λh=>hb (by simp [h])) e
 done:=λs Q E st hQ=>o'H hh st.1 st.2.1 hd hf rfl st.2.2 hpd (by rw [List.getElem?_toArray,List.getElem?_map,List.getElem?_eq_none (by omega)];rfl) λh' he'=>hQ h' s.toks λb o hb e=>he' b o (λh=>hb (by simp [h])) e
 self:=λ_ _ _ _ st hQ=>g'V st.1 hQ
theorem l'T {α:Type}:∀ (n:Nat) (xs:List α) (s:Shared) (Q:List α->Shared->Prop),xs.length=n->(∀ d' ys,ys.Perm xs->Q ys { s with drawn:=d' })->wpAny (model prog w) A (drawOrder n xs) Q E s:=by
 intro n
 induction n with
 | zero => intro xs s Q hl h; unfold drawOrder; cases xs with
  | nil=>exact wpAny_pure (h s.drawn [] (.refl _))
  | cons _ _=>simp at hl
 | succ n ih =>
  intro xs s Q hl h
  cases xs with
  | nil=>simp at hl
  | cons x r=>
   unfold drawOrder
   refine wpAny_bind ?_
   refine λΓ p hΓ=>⟨by simp,?_⟩
   have hm:(model prog w).w.draws .order (s.drawn.get .order) % (x :: r).length<(x :: r).length:=Nat.mod_lt _ (by simp)
   show wpAny (model prog w) A _ Q E { s with drawn:=s.drawn.bump .order }
   rw [List.getElem?_eq_getElem hm]
   dsimp only
   refine wpAny_bind (ih _ _ _ (by rw [List.length_eraseIdx_of_lt hm];simp at hl ⊢;omega) λd' ys hp=>?_)
   exact wpAny_pure (h d' _ ((hp.cons _).trans (c'D _ _ hm)))
theorem s'f {K:Type} [DecidableEq K] {knd:KeyKind prog w K} {ks:List K} (hh:A.handled=none) (ho:s.heap.get? a=some o) (hG:GS knd o ks) (hsz:ks.length<=sizeLine) {Q:Value->Shared->Prop}
  (h:∀ (h1:Heap) (d1:Drawn) (I:Addr) (vals:Array Value) (fp:List Addr) (St:Nat->Heap->Prop),(∀ b o,s.heap.get? b=some o->h1.get? b=some o)->(∀ b∈fp,b=a\/s.heap.objs.size<=b/\b<h1.objs.size)->s.heap.objs.size<=I->
   (∀ v∈vals.toList,∃ k,knd.is k v=true)->(vals.toList.filterMap (kfo knd)).Perm ks->Walks prog w A I fp [I] vals.size (λi v=>vals[i]?=some v) St->St 0 h1->Q (.ref I) { s with heap:=h1,drawn:=d1 }) :
  wpAny (model prog w) A (pyIter (.ref a)) Q E s:=by
 obtain⟨hex,es,ep,t,hd,hel,hf,hR,hL,hp⟩:=hG
 have hT:s.TypeIs (.ref a) "set":=⟨o,ho,hex.1⟩
 have ha:a<s.heap.objs.size:=Heap.lt_size ho
 have keyz:∀ vals:Array Value,vals.toList.Perm (es.toList.map (·.2))->(∀ v∈vals.toList,∃ k,knd.is k v=true)/\(vals.toList.filterMap (kfo knd)).Perm ks:=by
  intro vals q
  refine⟨λv hv=>?_,(q.filterMap _).trans ?_⟩
  ·obtain⟨e,he,rfl⟩:=List.mem_map.mp (q.mem_iff.mp hv)
   obtain⟨⟨k,hk,_⟩,_⟩:=hel e he
   exact⟨k,hk⟩
  ·rw [List.filterMap_map];exact hp
 have hfz:t.place.size=es.size:=by unfold SetTable.fits at hf;simp only [Bool.and_eq_true,beq_iff_eq] at hf;exact hf.1
 refine wpAny_pyIter_slot hT F.slot_set_iter (wpAny_call_entry F.slot_set_iter hT f'c ?_ (F.args_set_iter_1 _))
 show wpAny _ _ (Builtin.Frozenset.sizeOf a >>= _) _ _ s
 refine wpAny_bind ?_
 unfold Builtin.Frozenset.sizeOf
 refine wpAny_bind (wpAny_setEntries_of ho hd hf (wpAny_pure ?_))
 refine wpAny_bind ?_
 unfold setDrawn
 refine wpAny_bind (wpAny_setState_of ho hd hf ?_)
 refine wpAny_bind (b'Z ?_)
 show wpAny _ _ (pure (!(w.params.followText "set-order") && (!t.plain && decide (es.size > 1)))) _ _ _
 refine wpAny_pure ?_
 cases hB:w.params.followText "set-order" with
 | true =>
  simp only [Bool.not_true,Bool.false_and,Bool.false_eq_true,if_false]
  refine wpAny_bind (wpAny_pure ?_)
  refine wpAny_bind (wpAny_setEpoch_of ho hd hf ?_)
  refine wpAny_bind (wpAny_newObj_type (wpAny_pure ⟨_,rfl,"set_iterator",_,⟨_,Heap.get?_push_size _ rfl,rfl⟩,slot_setiter_next.lookup,?_⟩))
  have hq:((pickOrder (w.params.setOrder a ep) es).map (·.2)).toList.Perm (es.toList.map (·.2)):=by rw [Array.toList_map];exact (l'P _ es).map _
  have hz:((pickOrder (w.params.setOrder a ep) es).map (·.2)).size=es.size:=by rw [<- Array.length_toList,hq.length_eq,List.length_map,Array.length_toList]
  obtain⟨k1,k2⟩:=keyz _ hq
  have W:=e'A (prog:=prog) (w:=w) (A:=A) (a:=a) (o:=o) (ep:=ep) (t:=t) hh s.heap.objs.size (Nat.ne_of_lt ha) hd hf _ hz (λ_=>0) (λs A' E' Q' i x hx ho' q=>f'N ho' hd hf hB (by rw [Array.getElem?_map] at hx;cases z:(pickOrder (w.params.setOrder a ep) es)[i]? with | none=>rw [z] at hx;cases hx | some y=>rw [z] at hx;cases hx;exact q)) (λs A' E' Q' ho' q=>f'N ho' hd hf hB (by rw [Array.getElem?_eq_none (by rw [Array.size_map] at hz;omega)];exact q))
  rw [<- hz] at W
  refine h _ s.drawn _ _ _ _ (λb o e=>Heap.get?_push_of_some _ e) (λb hb=>?_) (Nat.le_refl _) k1 k2 W ⟨by rw [hz];exact Heap.get?_push_size _ rfl,Heap.get?_push_of_some _ ho⟩
  rcases List.mem_cons.mp hb with rfl | hb
  ·exact .inr ⟨Nat.le_refl _,by rw [Heap.size_push];exact Nat.lt_succ_self _⟩
  ·exact .inl (by simpa using hb)
 | false =>
  simp only [Bool.not_false,Bool.true_and]
  cases hD:(!t.plain && decide (es.size > 1)) with
  | false=>
   simp only [Bool.false_eq_true,if_false]
   refine wpAny_bind (wpAny_pure ?_)
   refine wpAny_bind (wpAny_setEpoch_of ho hd hf ?_)
   refine wpAny_bind (wpAny_newObj_type (wpAny_pure ⟨_,rfl,"set_iterator",_,⟨_,Heap.get?_push_size _ rfl,rfl⟩,slot_setiter_next.lookup,?_⟩))
   have hq:(es.map (·.2)).toList.Perm (es.toList.map (·.2)):=by rw [Array.toList_map]
   have hz:(es.map (·.2)).size=es.size:=by rw [Array.size_map]
   obtain⟨k1,k2⟩:=keyz _ hq
   have hL':t.led=true:=by rw [hL];unfold led0;rw [hB];rfl
   have hb0:∀ i,i<=es.size->SetTable.below t.place (if i=0 then 0 else t.place.getD (i - 1) 0+1)=i:=by
    intro i hi
    by_cases z:i=0
    ·rw [if_pos z,z];exact k'z hR
    ·rw [if_neg z]
     have hlt:i - 1<t.place.size:=by omega
     have:=o'C hR hlt
     rw [Array.getD_eq_getD_getElem?,Array.getElem?_eq_getElem hlt]
     show SetTable.below t.place (t.place[i - 1]+1)=i
     rw [this];omega
   have W:=e'A (prog:=prog) (w:=w) (A:=A) (a:=a) (o:=o) (ep:=ep) (t:=t) hh s.heap.objs.size (Nat.ne_of_lt ha) hd hf _ hz (λi=>if i=0 then 0 else t.place.getD (i - 1) 0+1) (λs A' E' Q' i x hx ho' q=>g'W ho' hd hf hB hL' hD (by
      have hi:i<es.size:=by have:=(Array.getElem?_eq_some_iff.mp hx).1;rw [hz] at this;exact this
      rw [hb0 i (Nat.le_of_lt hi)]
      rw [Array.getElem?_map] at hx
      rw [Array.getElem?_eq_getElem hi] at hx ⊢
      rw [Array.getElem?_eq_getElem (by omega:i<t.place.size)]
      cases hx
      have e2:(if i+1=0 then 0 else t.place.getD (i+1 - 1) 0+1)=t.place[i]'(by omega)+1:=by
       rw [if_neg (by omega),Nat.add_sub_cancel,Array.getD_eq_getD_getElem?,Array.getElem?_eq_getElem (by omega)];rfl
      rw [e2] at q
      exact q)) (λs A' E' Q' ho' q=>g'W ho' hd hf hB hL' hD (by
      rw [hb0 es.size (Nat.le_refl _),Array.getElem?_eq_none (Nat.le_refl _)];exact q))
   rw [<- hz] at W
   refine h _ s.drawn _ _ _ _ (λb o e=>Heap.get?_push_of_some _ e) (λb hb=>?_) (Nat.le_refl _) k1 k2 W ⟨by rw [hz];exact Heap.get?_push_size _ rfl,Heap.get?_push_of_some _ ho⟩
   rcases List.mem_cons.mp hb with rfl | hb
   ·exact .inr ⟨Nat.le_refl _,by rw [Heap.size_push];exact Nat.lt_succ_self _⟩
   ·exact .inl (by simpa using hb)
  | true=>
   simp only [if_true]
   refine wpAny_bind (l'T es.size _ s _ List.length_range λd1 js hjs=>?_)
   have hjl:js.length=es.size:=by rw [hjs.length_eq,List.length_range]
   have hjb:∀ j∈js,j<es.size:=λj hj=>List.mem_range.mp (hjs.mem_iff.mp hj)
   simp only [newTuple]
   refine wpAny_bind (wpAny_newObj_type ?_ (by show (List.map _ js).toArray.size<=sizeLine;rw [List.size_toArray,List.length_map,hjl,i'A (o:=o) hel hp];exact hsz))
   have ho1:(s.heap.push { cls:=.type "tuple",data:=.seq (js.map λj:Nat=>rawInt j).toArray }).get? a=some o:=Heap.get?_push_of_some _ ho
   refine wpAny_bind (wpAny_setEpoch_of (s:={ s with heap:=s.heap.push { cls:=.type "tuple",data:=.seq (js.map λj:Nat=>rawInt j).toArray },drawn:=d1 }) ho1 hd hf ?_)
   refine wpAny_bind (wpAny_newObj_type (wpAny_pure ⟨_,rfl,"set_iterator",_,⟨_,Heap.get?_push_size _ rfl,rfl⟩,slot_setiter_next.lookup,?_⟩))
   have emap:∀ (l:List Nat),(∀ j∈l,j<es.size)->(l.filterMap λj=>es[j]?.map (·.2)).length=l.length:=by
    intro l
    induction l with
    | nil=>intro _;rfl
    | cons j r ih=>
     intro hl
     rw [List.filterMap_cons,Array.getElem?_eq_getElem (hl j List.mem_cons_self)]
     simp [ih λi hi=>hl i (List.mem_cons_of_mem _ hi)]
   have eat:∀ (l:List Nat),(∀ j∈l,j<es.size)->∀ (i j:Nat),l[i]?=some j->(l.filterMap λj=>es[j]?.map (·.2))[i]?=es[j]?.map (·.2):=by
    intro l
    induction l with
    | nil=>intro _ i j e;simp at e
    | cons j r ih=>
     intro hl i k e
     have hj:=hl j List.mem_cons_self
     rw [List.filterMap_cons,Array.getElem?_eq_getElem hj]
     cases i with
     | zero=>simp at e;subst e;rw [Array.getElem?_eq_getElem hj];rfl
     | succ i=>simpa using ih (λi hi=>hl i (List.mem_cons_of_mem _ hi)) i k (by simpa using e)
   have hq:(js.filterMap λj=>es[j]?.map (·.2)).toArray.toList.Perm (es.toList.map (·.2)):=by
    refine (hjs.filterMap _).trans ?_
    have:((List.range es.size).filterMap λj=>es[j]?.map (·.2))=es.toList.map (·.2):=by
     refine List.ext_getElem? λi=>?_
     by_cases hi:i<es.size
     ·rw [eat (List.range es.size) (λj hj=>List.mem_range.mp hj) i i (by rw [List.getElem?_range hi]),List.getElem?_map,Array.getElem?_toList]
     ·rw [List.getElem?_eq_none (by rw [emap _ λj hj=>List.mem_range.mp hj,List.length_range];omega),List.getElem?_eq_none (by rw [List.length_map,Array.length_toList];omega)]
    rw [this]
   have hz:(js.filterMap λj=>es[j]?.map (·.2)).toArray.size=es.size:=by rw [List.size_toArray,emap js hjb,hjl]
   obtain⟨k1,k2⟩:=keyz _ hq
   have hsp:(s.heap.push { cls:=.type "tuple",data:=.seq (js.map λj:Nat=>rawInt j).toArray }).objs.size=s.heap.objs.size+1:=Heap.size_push _ _
   have W:=k'D (prog:=prog) (w:=w) (A:=A) (a:=a) (o:=o) (ep:=ep) (t:=t) hh (s.heap.objs.size+1) s.heap.objs.size (Nat.ne_of_lt (Nat.lt_succ_of_lt ha)) (Nat.ne_of_lt (Nat.lt_succ_self _)) hd hf _ hz js hjl (λi j e=>by
     have hj:=hjb j (List.mem_of_getElem? e)
     refine⟨es[j].1,es[j].2,?_,Array.getElem?_eq_getElem hj⟩
     rw [List.getElem?_toArray,eat js hjb i j e,Array.getElem?_eq_getElem hj];rfl) (po:={ cls:=.type "tuple",data:=.seq (js.map λj:Nat=>rawInt j).toArray }) (pn:=0) rfl
   rw [<- hz] at W
   rw [hsp]
   refine h _ d1 (s.heap.objs.size+1) _ _ _ (λb o e=>Heap.get?_push_of_some _ (Heap.get?_push_of_some _ e)) (λb hb=>?_) (Nat.le_succ _) k1 k2 W ⟨?_,Heap.get?_push_of_some _ ho1,Heap.get?_push_of_some _ (Heap.get?_push_size _ rfl)⟩
   ·rw [Heap.size_push,hsp]
    simp only [List.mem_cons,List.not_mem_nil,or_false] at hb
    rcases hb with rfl | rfl | rfl
    ·exact .inr ⟨Nat.le_succ _,Nat.lt_succ_self _⟩
    ·exact .inl rfl
    ·exact .inr ⟨Nat.le_refl _,Nat.lt_succ_of_lt (Nat.lt_succ_self _)⟩
   ·rw [<- hsp,hz];exact Heap.get?_push_size _ rfl
theorem s'g (ho:s.heap.get? a=some o) (hex:o.ExactSet) {Q:Bool->Shared->Prop} (h:Q false s):wpAny (model prog w) A (Builtin.List.listLengthHint (.ref a)) Q E s:=by
 have hT:s.TypeIs (.ref a) "set":=⟨o,ho,hex.1⟩
 unfold Builtin.List.listLengthHint
 refine wpAny_bind (wpAny_specialOf hT F.slot_set_len.lookup ?_)
 (generalize hid:("set.__len__":String)=id0;(fail_if_success (clear hid id0));wp_delta;rw [show splitId id0=some ("set","__len__") from by subst hid;decide +kernel];subst hid)
 refine wpAny_bind (wpAny_isInstance (b:=true) hT (by rw [isSubtype_type];kernel_rfl) ?_)
 refine wpAny_ite_split (λz=>absurd z (by decide)) (λ_=>?_)
 refine wpAny_ite_split (λ_=>?_) (λz=>absurd (by decide +kernel) z)
 exact wpAny_bind (wpAny_typeOf hT (wpAny_pure h))
theorem k'E {K:Type} [DecidableEq K] {knd:KeyKind prog w K} {ks:List K} (hh:A.handled=none) (ho:s.heap.get? a=some o) (hG:GS knd o ks) (hsz:ks.length<=sizeLine) {Q:List Value->Shared->Prop}
  (h:∀ (h1:Heap) (tk:Nat) (d1:Drawn) (vs:List Value),(∀ b o,s.heap.get? b=some o->h1.get? b=some o)->(∀ v∈vs,∃ k,knd.is k v=true)->(vs.filterMap (kfo knd)).Perm ks->Q vs { s with heap:=h1,toks:=tk,drawn:=d1 }) :
  wpAny (model prog w) A (collect (.ref a)) Q E s:=by
 have ha:a<s.heap.objs.size:=Heap.lt_size ho
 have hex:=hG.1
 unfold collect
 refine wpAny_bind (wpAny_runValue (codeAny_builtin F.entry_proto_collect ?_))
 rw [Around.under_plainId F.plain_proto_collect _]
 show wpAny _ A.in1 (newList [] >>= λl=>again (.builtin "list.__iadd__" ⟨[l,.ref a],[]⟩)) _ _ s
 refine wpAny_bind (wpAny_newObj_type ?_)
 refine wpAny_pure ⟨plainId_quiet F.plain_list_iadd _,codeAny_builtin F.entry_list_iadd ?_⟩
 rw [Around.under_plainId F.plain_list_iadd _]
 show wpAny _ A.in1 (Builtin.List.listExtendWith (.ref s.heap.objs.size) (.ref a) (.ref s.heap.objs.size)) _ _ _
 have hS₁:(s.heap.push { cls:=.type "list",data:=.seq ([]:List Value).toArray }).get? s.heap.objs.size=some { cls:=.type "list",data:=.seq ([]:List Value).toArray }:=Heap.get?_push_size _ rfl
 have ho1:(s.heap.push { cls:=.type "list",data:=.seq ([]:List Value).toArray }).get? a=some o:=Heap.get?_push_of_some _ ho
 have h1:Builtin.List.listSameRef (.ref s.heap.objs.size) (.ref a)=false:=by simp [Builtin.List.listSameRef,Nat.ne_of_gt ha]
 unfold Builtin.List.listExtendWith
 refine wpAny_bind (wpAny_typeOf (T:="set") ⟨o,ho1,hex.1⟩ ?_)
 rw [if_neg (by rw [h1];decide)]
 refine wpAny_bind (s'f (A:=A.in1) (s:={ s with heap:=s.heap.push { cls:=.type "list",data:=.seq ([]:List Value).toArray } }) hh ho1 hG hsz λg d1 I vals fp St hk hfp hI v1 v2 W st=>?_)
 have hn:vals.size<=sizeLine:=by
  have:(vals.toList.filterMap (kfo knd)).length=vals.toList.length:=by
   generalize vals.toList=l at v1
   induction l with
   | nil=>rfl
   | cons v r ih=>
    obtain⟨k,hk⟩:=v1 v List.mem_cons_self
    rw [List.filterMap_cons,c'l hk]
    simp [ih λu hu=>v1 u (List.mem_cons_of_mem _ hu)]
  have e2:=Array.length_toList (xs:=vals)
  rw [<- e2,<- this,v2.length_eq];exact hsz
 have hSf:s.heap.objs.size ∉ fp:=λhm=>by
  rcases hfp _ hm with e | ⟨e,_⟩
  ·exact absurd e (Nat.ne_of_gt ha)
  ·have e:(s.heap.push { cls:=.type "list",data:=.seq ([]:List Value).toArray }).objs.size<=s.heap.objs.size:=e
   rw [Heap.size_push] at e;omega
 have hSI:s.heap.objs.size≠I:=λe=>by
  have z:(s.heap.push { cls:=.type "list",data:=.seq ([]:List Value).toArray }).objs.size<=I:=hI
  rw [Heap.size_push,<- e] at z;exact absurd z (Nat.not_succ_le_self _)
 refine wpAny_bind (wpAny_holding (s'g (hk _ _ ho1) hex ?_))
 refine wpAny_ite_split (λ_=>?_) (λz=>absurd z (by decide))
 refine wpAny_bind (wpAny_rule ?_)
 refine wpAny_bind ?_
 have hS₂:=hk _ _ hS₁
 show wpAny _ A.in1 (updateSeq s.heap.objs.size (·.push .none) >>= λ_=>updateSeq s.heap.objs.size (·.pop)) _ _ _
 refine wpAny_bind (wpAny_updateSeq hS₂ rfl ?_)
 have hS₃:=Heap.get?_update_self (Obj.mapSeq (·.push Value.none)) hS₂ rfl
 refine wpAny_updateSeq (hz:=by seq_fits) hS₃ rfl ?_
 have hS₄:=Heap.get?_update_self (Obj.mapSeq (·.pop)) hS₃ rfl
 have stay:∀ b o,b≠s.heap.objs.size->g.get? b=some o->((g.update s.heap.objs.size (Obj.mapSeq (·.push Value.none))).update s.heap.objs.size (Obj.mapSeq (·.pop))).get? b=some o:=λb o hb e=>
  (Heap.get?_update_other _ _ (Ne.symm hb)).trans ((Heap.get?_update_other _ _ (Ne.symm hb)).trans e)
 refine wpAny_pure ⟨plainId_quiet F.plain_extend_loop _,codeAny_extend_loopS W.toS hn s.heap.objs.size hSf _ vals.size 0 _ #[] _ rfl (Nat.zero_le _) (W.frame 0 _ _ st λb hb o e=>stay b o (λz=>hSf (z ▸ hb)) e) hS₄ (ItemsOf.nil _) λs' acc' c' hm hS' hacc=>?_⟩
 show wpAny _ A (load s.heap.objs.size >>= _) _ _ s'
 refine wpAny_bind (wpAny_load hS' ?_)
 have ev:acc'=vals:=by
  refine Array.ext_getElem? λi=>?_
  by_cases hi:i<acc'.size
  ·rw [hacc.2 i acc'[i] (Array.getElem?_eq_getElem hi)];exact Array.getElem?_eq_getElem hi
  ·rw [Array.getElem?_eq_none (by omega),Array.getElem?_eq_none (by have:=hacc.1;omega)]
 subst ev
 obtain⟨h',g',d',tk',os'⟩:=s'
 have eg:g'=s.gens:=hm.gens
 have ed:d'=d1:=hm.drawn
 have eo:os'=s.os:=hm.os
 subst eg;subst ed;subst eo
 refine wpAny_pure (h h' tk' d' _ (λb o e=>?_) v1 v2)
 have hb0:b<s.heap.objs.size:=Heap.lt_size e
 refine hm.heap b o (λhmem=>?_) (stay b o (Nat.ne_of_lt hb0) (hk b o (Heap.get?_push_of_some _ e)))
 rcases List.mem_cons.mp hmem with e' | hmem
 ·exact absurd e' (Nat.ne_of_lt hb0)
 ·have z:(s.heap.push { cls:=.type "list",data:=.seq ([]:List Value).toArray }).objs.size<=I:=hI
  rw [Heap.size_push] at z
  rw [<- List.mem_singleton.mp hmem] at z
  exact absurd (Nat.lt_of_lt_of_le hb0 (Nat.le_trans (Nat.le_succ _) z)) (Nat.lt_irrefl _)
end
end L2
namespace L2
open PySem
section
variable {prog:Program} {w:World} {K:Type} [DecidableEq K] {knd:KeyKind prog w K} {A:Around} {E:Value->Shared->Prop} {s:Shared}
section
variable {R:Result->Shared->Prop} {I:Addr} {fp wr:List Addr} {G:Array GenState->Array GenState->Prop} {n:Nat} {P:Nat->Value->Prop} {St:Nat->Shared->Prop}
theorem s'h (W:WalksS prog w A.in1 I fp wr G n P St) (S:Addr) (hSf:S ∉ fp) (ks:List K) (hl:ks.length=n) (hval:∀ i v,P i v->v.scannable=true/\∀ k,ks[i]?=some k->knd.is k v=true) (hb:n+1<scanBound) :
  ∀ (k i:Nat) (s:Shared) (o:Obj),n - i=k->i<=n->St i s->s.heap.get? S=some o->GS knd o (once (ks.take i))->
   (∀ s' o',Moved (S :: wr) G s s'->s'.heap.get? S=some o'->GS knd o' (once ks)->R (.ok (.ret .none)) s')->
   codeAny (model prog w) A (.builtin "set.update.loop" ⟨[.ref S,.ref I],[]⟩) R s:=by
 have hSw:S ∉ wr:=λh=>hSf (W.sub _ h)
 have hsub:∀ b∈wr,b∈S :: wr:=λb hb=>List.mem_cons_of_mem _ hb
 intro k
 induction k with
 | zero =>
  intro i s o hk hi hst hS hG hR
  have hin:i=n:=by omega
  subst hin
  refine codeAny_builtin PyProof.Rows.F.entry_set_update_loop ?_
  rw [Around.under_plainId PyProof.Rows.F.plain_set_update_loop _]
  show wpAny _ A.in1 (pyNext (.ref I) >>= _) _ _ s
  refine wpAny_bind (W.done s _ _ hst λs' hm=>?_)
  show wpAny _ A.in1 (ret Value.none) _ _ s'
  rw [<- hl,List.take_length] at hG
  exact wpAny_pure (hR s' o (hm.mono hsub) (hm.heap S _ hSw hS) hG)
 | succ k ih =>
  intro i s o hk hi hst hS hG hR
  have hlt:i<n:=by omega
  refine codeAny_builtin PyProof.Rows.F.entry_set_update_loop ?_
  rw [Around.under_plainId PyProof.Rows.F.plain_set_update_loop _]
  show wpAny _ A.in1 (pyNext (.ref I) >>= _) _ _ s
  refine wpAny_bind (W.item i s _ _ hlt hst λv s' hP hst' hm=>?_)
  have hli:i<ks.length:=by omega
  obtain⟨hsc,hky⟩:=hval i v hP
  have hk1:=hky ks[i] (List.getElem?_eq_getElem hli)
  have hS':=hm.heap S _ hSw hS
  show wpAny _ A.in1 (holding [v] (setAdd S v) >>= _) _ _ s'
  refine wpAny_bind (wpAny_holding ?_)
  unfold setAdd
  refine wpAny_holding ?_
  refine wpAny_bind (knd.pyHash hk1 ?_)
  have hroom:(once (ks.take i)).length+1<scanBound:=by have:=d'Y (ks.take i);rw [List.length_take] at this;omega
  refine u'u (s:={ s' with toks:=s'.toks+1 }) hk1 hsc hS' hG hroom λb h' o' hsb ho' hG'=>?_
  have et:ks.take (i+1)=ks.take i++[ks[i]]:=by rw [List.take_succ,List.getElem?_eq_getElem hli];rfl
  refine wpAny_pure ⟨plainId_quiet PyProof.Rows.F.plain_set_update_loop _,ih (i+1) _ o' (by omega) hlt (W.frame _ s' _ _ hst' (Nat.le_succ _) λb hb o e=>?_) ho' (by rw [et,l'R];exact hG') λs'' o'' hm'' hS'' hG''=>?_⟩
  ·rw [hsb.2 b (λh:b=S=>hSf (by rw [<- h];exact hb))];exact e
  ·refine hR s'' o'' (Moved.trans W.gtrans ((hm.mono hsub).then_heap (Nat.le_succ _) λb o hb e=>?_) hm'') hS'' hG''
   rw [hsb.2 b (λh:b=S=>hb (by rw [h];exact List.mem_cons_self))];exact e
end
theorem o'I:GS knd { cls:=.type "set",dict:=none,data:=.set #[] 0 (.fresh 0 0 (led0 w)) } ([]:List K):=
 ⟨⟨rfl,rfl,rfl⟩,#[],0,_,rfl,λe he=>by simp at he,rfl,l'N,rfl,.refl _⟩
theorem u'v (a:Value) {Q₁:Value->Shared->Prop}
  (h:Q₁ (.ref s.heap.objs.size) { s with heap:=s.heap.push { cls:=.type "set",dict:=none,data:=.set #[] 0 (.fresh 0 0 (led0 w)) } }) :
  codeAny (model prog w) A (.call (.builtin "set.__new__") ⟨[.type "set",a],[]⟩) (wants Q₁ E) s:=by
 refine codeAny_of_tree ?_
 show wpAny _ A.in1 (do checkBuiltinCall "set.__new__" ⟨[.type "set",a],[]⟩;again (.builtin "set.__new__" ⟨[.type "set",a],[]⟩)) _ _ s
 refine wpAny_bind (wpAny_of_eq (F.newCall_set_1 a) (wpAny_pure ⟨plainId_quiet F.plain_set_new _,codeAny_builtin F.entry_set_new ?_⟩))
 rw [Around.under_plainId F.plain_set_new _]
 unfold Builtin.«set.__new__» Builtin.Frozenset.newClass
 have hsub:=sub_set_self
 obtain⟨hp,g,d,tk,os⟩:=s
 dsimp only
 wp_walk
 refine wpAny_askSetting (wpAny_pure ?_)
 dsimp only
 simp only [newObj]
 refine wpAny_bind (wpAny_alloc (wpAny_pure ?_))
 exact wpAny_pure h
theorem s'i {l:Addr} {items:Array Value} {ks:List K} {Q:Value->Shared->Prop}
  (hh:A.handled=none) (hl:s.heap.IsList l items) (hks:ks.length=items.size) (hi:∀ (i:Nat) v,items[i]?=some v->v.scannable=true/\∀ k,ks[i]?=some k->knd.is k v=true) (hb:items.size+1<scanBound)
  (h:∀ (h':Heap) (tk:Nat) (o:Obj),h'.get? s.heap.objs.size=some o->GS knd o (once ks)->(∀ b o,s.heap.get? b=some o->h'.get? b=some o)->Q (.ref s.heap.objs.size) { s with heap:=h',toks:=tk }) :
  wpAny (model prog w) A (call (.type "set") [.ref l]) Q E s:=by
 obtain⟨c,tl,hmro⟩:=F.called_set.mro
 have hmade:=F.called_set.made
 have hsub:=F.called_set.sub
 refine wpAny_call (codeAny_of_tree ?_)
 show wpAny _ _ (callAny (.type "set") _) _ _ _
 refine wpAny_pure ⟨Code.quiet_builtin _ (by decide +kernel),codeAny_builtin F.entry_type_call ?_⟩
 rw [Around.under_plain (weight_type_call_type "set" [.ref l] []) rfl]
 have h1:=F.called_set.notType
 have h2:=F.called_set.canCreate
 have hct:=F.typeCall_set_1 (.ref l)
 repeat (any_goals (first | assumption | wp_step))
 refine codeAny_mono (u'v (.ref l) (E:=E) (Q₁:=λobj s₁=>obj=.ref s.heap.objs.size/\s₁={ s with heap:=s.heap.push { cls:=.type "set",dict:=none,data:=.set #[] 0 (.fresh 0 0 (led0 w)) } }) ⟨rfl,rfl⟩) λr s₁ hr=>?_
 have hG0:GS knd { cls:=.type "set",dict:=none,data:=.set #[] 0 (.fresh 0 0 (led0 w)) } ([]:List K):=o'I
 cases r with
 | error e => exact hr
 | ok fl =>
  cases fl with
  | ret obj=>
   obtain⟨rfl,rfl⟩:=hr
   have hS:(s.heap.push { cls:=.type "set",dict:=none,data:=.set #[] 0 (.fresh 0 0 (led0 w)) }).get? s.heap.objs.size=some { cls:=.type "set",dict:=none,data:=.set #[] 0 (.fresh 0 0 (led0 w)) }:=Heap.get?_push_size _ rfl
   have hT:Shared.TypeIs { s with heap:=s.heap.push { cls:=.type "set",dict:=none,data:=.set #[] 0 (.fresh 0 0 (led0 w)) } } (.ref s.heap.objs.size) "set":=⟨_,hS,hG0.1.1⟩
   have hli:=F.called_set.init.lookup
   have hbi:=F.called_set.init.bind (.ref s.heap.objs.size)
   repeat (any_goals (first | assumption | wp_step))
   refine codeAny_mono (codeAny_call_builtin (R:=wants (λr s₂=>r=.none/\∃ h' tk o,s₂={ s with heap:=h',toks:=tk }/\h'.get? s.heap.objs.size=some o/\GS knd o (once ks)/\
     (∀ b o,s.heap.get? b=some o->h'.get? b=some o)) E) F.called_set.init.plain F.entry_set_init (check_set_init_1 hT ?_)) λr₂ s₂ hr₂=>?_
   ·obtain⟨ol,hol,hcl,nl,hdl⟩:=hl
    obtain⟨ocls,odict,odata,oslots⟩:=ol
    simp only at hcl hdl
    subst hcl;subst hdl
    have hol':(s.heap.push { cls:=.type "set",dict:=none,data:=.set #[] 0 (.fresh 0 0 (led0 w)) }).get? l=some { cls:=.type "list",dict:=odict,data:=.seq items nl,slots:=oslots }:=Heap.get?_push_of_some _ hol
    have hsls:=F.sub_list_set
    have hslf:=F.sub_list_frozenset
    have hne:(Value.type "list" == Value.type "dict")=false:=by decide
    have hl1:(s.heap.push { cls:=.type "set",dict:=none,data:=.set #[] 0 (.fresh 0 0 (led0 w)) }).IsList l items:=⟨_,hol',rfl,nl,rfl⟩
    unfold Builtin.«set.__init__» noKeywords Builtin.Frozenset.updateFrom
    generalize hPI:pyIter=PI
    wp_walk
    subst hPI
    refine wpAny_pyIter_list hl1 ?_
    refine wpAny_bind (wpAny_runValue ?_)
    have hlS:l<s.heap.objs.size:=Heap.lt_size hol
    have hh3:A.in1.in1.in1.handled=none:=by simp [hh]
    have hneI:l≠(s.heap.push { cls:=.type "set",dict:=none,data:=.set #[] 0 (.fresh 0 0 (led0 w)) }).objs.size:=by rw [Heap.size_push];exact Nat.ne_of_lt (Nat.lt_succ_of_lt hlS)
    have hSf:s.heap.objs.size ∉ [(s.heap.push { cls:=.type "set",dict:=none,data:=.set #[] 0 (.fresh 0 0 (led0 w)) }).objs.size,l]:=by
     rw [Heap.size_push];simp only [List.mem_cons,List.not_mem_nil,or_false,not_or]
     exact⟨Nat.ne_of_lt (Nat.lt_succ_self _),Nat.ne_of_gt hlS⟩
    refine s'h (knd:=knd) ((Walks.list hh3 _ l hneI items).toS) s.heap.objs.size hSf ks hks hi hb (items.size - 0) 0 _ { cls:=.type "set",dict:=none,data:=.set #[] 0 (.fresh 0 0 (led0 w)) } (by omega) (Nat.zero_le _)
     ⟨⟨_,Heap.get?_push_size _ rfl,rfl,rfl⟩,(hl1.push _)⟩ (Heap.get?_push_of_some _ hS) hG0 λs' o' hm ho' hG'=>?_
    obtain⟨h',g',d',tk',os'⟩:=s'
    have eg:g'=s.gens:=hm.gens
    have ed:d'=s.drawn:=hm.drawn
    have eo:os'=s.os:=hm.os
    subst eg;subst ed;subst eo
    show wpAny _ _ _ _ _ _
    refine wpAny_pure ?_
    show wpAny _ _ (ret Value.none) _ _ _
    refine wpAny_pure ⟨rfl,h',tk',o',rfl,ho',hG',λb o e=>?_⟩
    have hb0:b<s.heap.objs.size:=Heap.lt_size e
    have hb1:b≠s.heap.objs.size:=Nat.ne_of_lt hb0
    have hb2:b≠(s.heap.push { cls:=.type "set",dict:=none,data:=.set #[] 0 (.fresh 0 0 (led0 w)) }).objs.size:=by rw [Heap.size_push];exact Nat.ne_of_lt (Nat.lt_succ_of_lt hb0)
    exact hm.heap b o (by simp only [List.mem_cons,List.not_mem_nil,or_false,not_or];exact⟨hb1,hb2⟩) (Heap.get?_push_of_some _ (Heap.get?_push_of_some _ e))
   ·cases r₂ with
    | error e=>exact hr₂
    | ok fl₂=>
     cases fl₂ with
     | ret r=>
      obtain⟨rfl,h',tk,o',rfl,ho',hG',hk'⟩:=hr₂
      repeat (any_goals (first | assumption | wp_step))
      exact h _ _ _ ho' hG' hk'
     | _=>exact hr₂.elim
  | _=>exact hr.elim
end
end L2
namespace L2
open PySem PySem.Spec PyProof.Rows
section
def SetC (P:Program) (w:World) (a:Addr) (ks:List Key):HO:=.ext λh=>∃ o,h.get? a=some o/\GS (mixKind P w) o ks
theorem s'j {P:Program} {w:World} {H:Hp} {h:Heap} {a:Addr} {ks:List Key} {o:Obj} (e:h.get? a=some o) (g:GS (mixKind P w) o ks):ObjOk P w H h a (SetC P w a ks):=
 ⟨⟨o,e,g⟩,⟨o,e⟩,λ_ _ ⟨o,e,g⟩ k=>⟨o,k o e,g⟩⟩
theorem s'k {k:Key} {v:Value} (r:RelV (kV k) v):v.scannable=true:=by
 cases k<;>(obtain⟨t,rfl⟩:=r;rfl)
variable {X:Cx}
theorem l'U (hc:X.calm=true):CallR X (.type "set") (λxs H Q=>∃ (a:Addr) (ks:List Key),xs=[.ref a]/\SqL X.K H a (ks.map kV)/\ks.length+1<4096/\∀ p,H p=none->Q (.ref p) (upd H p (SetC X.prog X.w p (once ks)))):=by
 intro pins s σ H xs us Q I r h
 obtain⟨a,ks,rfl,hq,hz,q⟩:=h
 obtain⟨u,rfl,ru⟩:=c'y r
 cases ru
 obtain⟨its,rv,pl,hl⟩:=I.list hq
 have hlen:ks.length=its.toArray.size:=by have:=rv.length;rw [List.length_map] at this;rw [List.size_toArray,this]
 refine s'i (knd:=mixKind X.prog X.w) (ks:=ks) (I.ok.hd hc) pl.isList hlen (λi v e=>?_) (by rw [<- hlen];exact hz) λh' tk o ho hG hk=>?_
 ·have hi:i<ks.length:=by rw [hlen];exact (Array.getElem?_eq_some_iff.mp e).1
  obtain⟨u,hu,ru⟩:=rv.get (x:=kV ks[i]) (show (ks.map kV)[i]?=some (kV ks[i]) by rw [List.getElem?_map,List.getElem?_eq_getElem hi];rfl)
  rw [List.getElem?_toArray,hu] at e
  cases e
  refine⟨s'k ru,λk hk=>?_⟩
  rw [List.getElem?_eq_getElem hi] at hk
  cases hk
  exact b'I ru
 ·exact⟨.ref s.heap.objs.size,_,I.laid (t':=tk) hk (Nat.le_refl _) (s'j ho hG),rfl,q _ (I.hok.fresh (Nat.le_refl _))⟩
theorem Inv.drawn' {pins:List (Addr×Obj)} {σ:List (Option V)} {H:Hp} {s:Shared} (I:Inv X pins σ H s) (d:Drawn):Inv X pins σ H { s with drawn:=d }:=
 ⟨I.ok,I.os,I.bare,I.base,I.loc,I.cell,I.free,I.freeC,I.pin,I.hok,I.len⟩
theorem i'C {P:Program} {w:World}:∀ (vs:List Value),(∀ v∈vs,∃ k,(mixKind P w).is k v=true)->(∀ k∈vs.filterMap (kfo (mixKind P w)),∃ n:Str,k=Sum.inr n)->
  ∃ ns:List Str,StrsAre vs ns/\vs.filterMap (kfo (mixKind P w))=ns.map Sum.inr
 | [], _, _ => ⟨[], .nil, rfl⟩
 | v :: r, h1, h2 => by
  obtain⟨k,hk⟩:=h1 v List.mem_cons_self
  have e:=c'l hk
  obtain⟨ns,a,b⟩:=i'C r (λu hu=>h1 u (List.mem_cons_of_mem _ hu)) λk' hk'=>h2 k' (by rw [List.filterMap_cons,e];exact List.mem_cons_of_mem _ hk')
  obtain⟨n,rfl⟩:=h2 k (by rw [List.filterMap_cons,e];exact List.mem_cons_self)
  obtain⟨t,rfl⟩:=g'G hk
  exact⟨n :: ns,.cons _ _ a,by rw [List.filterMap_cons,e,b];rfl⟩
theorem o'J {a b:List Str} (h:(a.map (Sum.inr:Str->Key)).Perm (b.map Sum.inr)):a.Perm b:=by
 have:=h.filterMap (λk:Key=>match k with | .inl _=>none | .inr x=>some x)
 have e:∀ l:List Str,(l.map (Sum.inr:Str->Key)).filterMap (λk:Key=>match k with | .inl _=>none | .inr x=>some x)=l:=λl=>by
  rw [List.filterMap_map];show l.filterMap (λn=>some n)=l;simp
 rw [e,e] at this
 exact this
def rSortT (P:Program) (w:World):List V->Hp->VK->Prop:=λxs H Q=>∃ (a:Addr) (ks:List Str),xs=[.ref a]/\H a=some (SetC P w a (ks.map Sum.inr))/\ks.length<64/\
  ∀ ks':List Str,ks'.Perm ks->sortedS ks'=true->∀ p,H p=none->Q (.ref p) (upd H p (.lst (ks'.map V.str)))
theorem g'X (hc:X.calm=true):CallR X (.builtin "sorted") (rSortT X.prog X.w):=by
 intro pins s σ H xs us Q I r h
 obtain⟨a,ks,rfl,ha,h64,q⟩:=h
 obtain⟨u,rfl,ru⟩:=c'y r
 cases ru
 obtain⟨⟨o,ho,hG⟩,_⟩:=I.hok a _ ha
 refine Calls.call_function_entry kind_sorted plain_sorted entry_sorted (args_sorted1 _) ?_
 unfold Builtin.«sorted»
 refine wpAny_bind (m:=checkCount "sorted" 1 1 _) (wpAny_pure ?_)
 refine wpAny_bind (k'E (A:=X.A.in1) (I.ok.hd hc) ho hG (by rw [List.length_map,sizeLine_eq];omega) λh' tk d1 vs hkp v1 v2=>?_)
 obtain⟨n1,hS,e1⟩:=i'C vs v1 (λk hk=>by obtain⟨n,_,rfl⟩:=List.mem_map.mp (v2.mem_iff.mp hk);exact⟨n,rfl⟩)
 rw [e1] at v2
 have hp:=o'J v2
 have hlv:vs.length=n1.length:=by have:=(f'L hS).length;rw [List.length_map] at this;exact this.symm
 have I1:Inv X pins σ H { s with heap:=h',toks:=tk,drawn:=d1 }:=(I.kept (t':=tk) hkp).drawn' d1
 refine wpAny_bind (wpAny_newList ?_ (by rw [hlv,hp.length_eq,sizeLine_eq];omega))
 have hoL:(h'.push (seqObj "list" vs.toArray 0)).get? h'.objs.size=some (seqObj "list" vs.toArray 0):=Heap.get?_push_size _ rfl
 show wpAny _ _ _ _ _ { s with heap:=h'.push (seqObj "list" vs.toArray 0),toks:=tk,drawn:=d1 }
 refine wpAny_bind (wpAny_holding (wpAny_call_entry slot_list_sort ⟨_,hoL,rfl⟩ entry_list_sort (list_sort_treeK strKind_oneLt hoL hS.keysOf (λv1 v2 rest e=>keyKind_strs (by rw [<- e];exact hS)) (by rw [hlv,hp.length_eq];exact h64) λst' a1 a2=>⟨_,rfl,?_⟩) (args_list_sort _)))
 obtain⟨ss',b1,b2,b3⟩:=sorted_out_str hS a1 a2
 refine wpAny_pure ⟨_,rfl,?_⟩
 obtain⟨e,he⟩:=sortedHeap_at (out:=(arrOf st').map (·.2)) hoL
 have hfr:H h'.objs.size=none:=I1.hok.fresh (Nat.le_refl _)
 refine⟨.ref h'.objs.size,_,I1.laid (a:=h'.objs.size) (o:=.lst (ss'.map V.str)) (t':=tk) (λb o eb=>?_) (Nat.le_refl _) ⟨?_,((arrOf st').map (·.2)).toList,e,f'L b1,by rw [Array.toArray_toList];exact he⟩,rfl,q ss' (b2.trans hp) b3 _ hfr⟩
 ·have lb:b<h'.objs.size:=Heap.lt_size eb
  rw [sortedHeap_old (Nat.ne_of_lt lb) (by rw [size_push'];exact Nat.lt_succ_of_lt lb)]
  exact Heap.get?_push_of_some _ eb
 ·rw [List.length_map,b2.length_eq,hp.length_eq,sizeLine_eq];omega
end
end L2
namespace Vc
open PySem L2 Sf
def hdn (l:List Addr) (H:Hp):Hp:=λx=>if x∈l then none else H x
theorem c'Y {l:List Addr} {x:Addr} {H:Hp} {o:HO} (h1:x ∉ l) (h:H x=some o):hdn l H x=some o:=by unfold hdn;rw [if_neg h1];exact h
theorem u'w {l:List Addr} {x:Addr} {H:Hp} (h:x∈l):hdn l H x=none:=if_pos h
theorem o'K {l:List Addr} {x:Addr} {H:Hp} {o:HO} (h:hdn l H x=some o):x ∉ l/\H x=some o:=by
 unfold hdn at h
 by_cases z:x∈l
 ·rw [if_pos z] at h;cases h
 ·rw [if_neg z] at h;exact⟨z,h⟩
theorem g'Y {l:List Addr} {F H:Hp} (wd:Same F H):Gr0 F (hdn l H) F H:=⟨λ_ _ e=>(o'K e).2,Same.refl _,wd,λx u h e=>by rw [h] at e;cases e⟩
theorem hl1 {a:Addr} {Hb:Hp} (h:Hb a=none):∀ x∈[a],Hb x=none:=λx z=>by rw [List.mem_singleton.mp z];exact h
end Vc
namespace L2
open PySem PySem.Spec PyProof.Rows
section
variable {P:Program} {w:World} {K:W.Frag}
def rSetX (P:Program) (w:World) (K:W.Frag):List V->Hp->VK->Prop:=λxs H Q=>∃ (a:Addr) (ks:List Key),xs=[.ref a]/\SqL K H a (ks.map kV)/\ks.length+1<4096/\∀ p,H p=none->Q (.ref p) (upd H p (SetC P w p (once ks)))
theorem l'V {X:Cx} (hc:X.calm=true):CallR X (.type "set") (rSetX X.prog X.w X.K):=l'U hc
end
theorem o'L {α β:Type} [DecidableEq α] [DecidableEq β] {f:α->β} (hf:∀ x y,f x=f y->x=y) (l:List α):once (l.map f)=(once l).map f:=by
 have key:∀ (l a:List α),(l.map f).foldl addk (a.map f)=(l.foldl addk a).map f:=by
  intro l
  induction l with
  | nil=>intro a;rfl
  | cons x r ih=>
   intro a
   have e:addk (a.map f) (f x)=(addk a x).map f:=by
    unfold addk
    by_cases h:x∈a
    ·rw [if_pos h,if_pos (List.mem_map.mpr ⟨x,h,rfl⟩)]
    ·rw [if_neg h,if_neg (λz=>by obtain⟨y,hy,e⟩:=List.mem_map.mp z;exact h (hf _ _ e ▸ hy)),List.map_append];rfl
   show ((r.map f).foldl addk (addk (a.map f) (f x)))=_
   rw [e];exact ih _
 exact key l []
theorem k'F {α:Type} [DecidableEq α] (l:List α):(once l).Nodup/\∀ x,x∈once l↔x∈l:=by
 have key:∀ (l a:List α),a.Nodup->(l.foldl addk a).Nodup/\∀ x,x∈l.foldl addk a↔x∈a\/x∈l:=by
  intro l
  induction l with
  | nil=>intro a h;exact⟨h,λx=>by simp⟩
  | cons y r ih=>
   intro a h
   have h1:(addk a y).Nodup:=by
    unfold addk
    by_cases hy:y∈a
    ·rw [if_pos hy];exact h
    ·rw [if_neg hy,List.nodup_append];exact⟨h,by simp,λu hu v hv e=>by rw [List.mem_singleton] at hv;exact hy (hv ▸ e ▸ hu)⟩
   have h2:∀ x,x∈addk a y↔x∈a\/x=y:=by
    intro x
    unfold addk
    by_cases hy:y∈a
    ·rw [if_pos hy];exact⟨.inl,λz=>z.elim id λe=>e ▸ hy⟩
    ·rw [if_neg hy,List.mem_append,List.mem_singleton]
   obtain⟨a1,a2⟩:=ih (addk a y) h1
   refine⟨a1,λx=>(a2 x).trans ?_⟩
   rw [h2,List.mem_cons,or_assoc]
 obtain⟨a,b⟩:=key l [] List.nodup_nil
 exact⟨a,λx=>by rw [show once l=l.foldl addk [] from rfl,b x];simp⟩
end L2
namespace Vc
open PySem L2 Sf
section
variable {P:Program} {w:World} {K:W.Frag} {F H:Hp} {Q:VK}
end
end Vc
namespace L2
open PySem PySem.Spec PyProof.Rows
theorem g'Z {P:Program} {w:World} {H:Hp} {h:Heap} {a C dx:Addr} {fs:List (Str×V)} (hok:HOk P w H h) (e:Rd H a (.ins C dx fs)):∃ mA,ObjM h a dx C mA/\∀ f,RelO (fs.lookup f) (mA f):=by
 have x:ObjOk P w H h a (.ins C dx fs):=by
  rcases e with e | ⟨o,e⟩
  ·exact hok a _ e
  ·exact (hok a _ e).2
 obtain⟨d,z,ne,ob,mA,n,r,q⟩:=x
 exact⟨mA,⟨ob,n,ne⟩,r⟩
def tFldR (K:W.Frag) (ta:TE) (f:Str):TE:=λσ H Q=>ta σ H λx H1=>∃ a C dx fs v,x=.ref a/\Rd H1 a (.ins C dx fs)/\Cls K C/\NoAttr K C f/\fs.lookup f=some v/\Q v H1
section
variable {X:Cx} {CX:CXT} {k:Nat} {E:XK} {m f:Str} {pos apos:Pos} {o e:Expr} {ta:TE} {D:Addr->Nat->Prop} {sp:Nat->Sp}
theorem s'l (he:PE X e ta) (hb:attributeBase e f X.env (eval e X.env)=eval e X.env):PE X (.Attribute e f pos) (tFldR X.K ta f):=by
 intro pins s σ H Q I h
 refine r'C hb (thn (he pins s σ H _ I h) λu s1 ⟨x,H1,I1,rx,a,C,dx,fs,v,ex,ea,c,n,l,q⟩=>?_)
 subst ex
 obtain rfl:u=Value.ref a:=rx
 obtain⟨mA,O,r⟩:=g'Z I1.hok ea
 obtain⟨u,hu,ru⟩:=RelO.some_of (v:=v) (o:=mA f) (by rw [<- l];exact r f)
 exact r'A I1.kIn O (c.get f) c.hd n hu (l'm ru) ⟨v,H1,I1.tok _,ru,q⟩
end
end L2
namespace Vc
open PySem L2 Sf
end Vc
namespace L2
open PySem PySem.Spec PyProof.Rows
end L2
namespace Vc
open PySem L2 Sf
section
variable {P:Program} {w:World} {K:W.Frag} {F H:Hp} {Q:VK}
theorem s'm {a:Addr} {ns:List Str} (h:H a=some (SetC P w a (ns.map Sum.inr))) (hl:ns.length<64) (q:∀ p,H p=none->Q (.ref p) (upd H p (.lst ((srt ns).map V.str)))):rSortT P w [V.ref a] H Q:=
 ⟨a,ns,rfl,h,hl,λns' e1 e2 p hp=>by rw [l'J e1 e2];exact q p hp⟩
end
end Vc
namespace Vc
open PySem L2 Sf PyProof.Rows
end Vc
namespace L2
open PySem PySem.Spec PyProof.Rows
section
variable {X:Cx} {CX:CXT} {k:Nat} {f C:Addr} {fd:FuncData} {ps:List Str} {sp:Sp} {dvs:List V} {ds:List Value} {x:Str} {p pos:Pos} {e:Expr} {es:List Expr} {t:TA}
def tMakeX (C:Addr) (sp:Sp) (dvs:List V) (R:St->XK) (t:TA):TE:=λσ H Q=>t σ H λvs H1=>∀ x dx,H1 x=none->H1 dx=none->dx≠x->
 sp (.ref x :: (vs++dvs)) (upd (upd H1 dx (.own x)) x (.ins C dx [])) (λv H2=>v=.non/\Q (.ref x) H2) (R σ)
theorem l'W {E:XK} {pins:List (Addr×Obj)} {σ:St} {H:Hp} {s:Shared} {Q:VK} {us:List Value} {vs:List V} (M:Mk X.K C f) (F:FnOk X.prog X.w X.K X.mg X.base CX k f fd ps sp) (hr:Room (k+1) X.A) (hb:Binds X.K fd ps ds) (hd:Vals dvs ds)
  (hx:PassAt CX X σ E) (I:Inv X pins σ H s) (r:Vals vs us)
  (h:∀ x dx,H x=none->H dx=none->dx≠x->sp (.ref x :: (vs++dvs)) (upd (upd H dx (.own x)) x (.ins C dx [])) (λv H2=>v=.non/\Q (.ref x) H2) E) :
  wpAny (model X.prog X.w) X.A (call (.ref C) us) (EP X pins σ Q) X.xe s:=by
 have hq:=h (s.heap.objs.size+1) s.heap.objs.size (I.hok.fresh (Nat.le_succ _)) (I.hok.fresh (Nat.le_refl _)) (Nat.ne_of_lt (Nat.lt_succ_self _))
 have I2:=Inv.made (C:=C) I
 have r2:Vals (V.ref (s.heap.objs.size+1) :: (vs++dvs)) (Value.ref (s.heap.objs.size+1) :: (us++ds)):=.cons rfl (r.append hd)
 have hl:(Value.ref (s.heap.objs.size+1) :: us++ds).length=ps.length:=(r2.length.symm.trans (F.len _ _ _ _ hq))
 refine wpAny_call (o'j (f:=f) I.kIn M.makes M.init (beq_iff_eq.mp M.fn) (codeAny_mono (F.run _ X.stack _ _ ⟨Value.ref (s.heap.objs.size+1) :: us,[]⟩ (Value.ref (s.heap.objs.size+1) :: (us++ds)) _ _ E (hr.make C us [])
  (I2.env0.make C us []) (hb _ (Value.ref (s.heap.objs.size+1) :: us) I2.kIn hl) r2 hq) λfl s' hq'=>?_))
 match fl,hq' with
 | .error e, hq' => exact hx pins _ _ e s' I2 hq'
 | .ok (.ret u), hq' =>
  obtain⟨v,H',I3,rv,ev,q3⟩:=I2.after hq'
  subst ev
  exact⟨rv,⟨V.ref (s.heap.objs.size+1),H',I3,rfl,q3⟩⟩
 | .ok .next, hq' => exact hq'.elim
 | .ok .brk, hq' => exact hq'.elim
 | .ok .cont, hq' => exact hq'.elim
theorem o'M {R:St->XK} (M:Mk X.K C f) (F:FnOk X.prog X.w X.K X.mg X.base CX k f fd ps sp) (hr:Room (k+1) X.A) (hg:Gl X x) (hm:X.mg x=some (.ref C)) (hb:Binds X.K fd ps ds) (hd:Vals dvs ds) (hx:∀ σ,PassAt CX X σ (R σ))
  (ha:PA X (e :: es) t) (hdb:(x == ("__debug__":Str))=false:=by decide) (he:starEach (e :: es) X.env=(false,eval e X.env) :: starEach es X.env:=by rfl) (hpl:(backTo pos (starEach es X.env)).any (·.1)=false:=by rfl) :
  PE X (.Call (.Name x p) (e :: es) [] pos) (tMakeX C sp dvs R t):=by
 intro pins s σ H Q I h
 refine wpAny_Call_Name_kw (d'k I hg hm ?_ hdb)
 exact W.callWith_K (h₀:=X.base) I.ok.mod.kin M.kp (thn (ha pos pins s σ H _ I h) λus s1 ⟨vs,H1,I1,r,q⟩=>⟨I1.kIn,l'W M F hr hb hd (hx σ) I1 r q⟩) he hpl
structure InsK (K:W.Frag) (C:Addr):Prop where
 cl:Cls K C
 ha:W.findIn K (.ref C) "__class__"=some (some (.builtin "object.__class__"))
 hn:W.specialIn K (.builtin "object.__class__") "__get__"=some (some (.builtin "getset_descriptor.__get__"))
 htk:W.takesIn K (.builtin "object.__class__")=some true
 hm:W.mroIn K C (.type "object")=some true
def TyR (K:W.Frag) (H:Hp) (x:V) (t:Value):Prop:=TyOf K H x t\/∃ a C dx fs,x=.ref a/\t=.ref C/\Rd H a (.ins C dx fs)/\InsK K C
def rIsR (K:W.Frag):List V->Hp->VK->Prop:=λxs H Q=>∃ x c t b u,xs=[x,c]/\TyR K H x t/\clsV c=some u/\W.kitOne K t u=some b/\Q (.bl b) H
theorem o'N:CallR X (.builtin "isinstance") (rIsR X.K):=by
 intro pins s σ H xs us Q I r h
 obtain⟨x,c,t,b,u,rfl,ty,rc,e,q⟩:=h
 rcases ty with ty | ⟨a,C,dx,fs,rfl,rfl,ea,z⟩
 ·exact g'H pins s σ H _ us Q I r ⟨x,c,t,b,u,rfl,ty,rc,e,q⟩
 ·obtain⟨v,w',rfl,rx,rw'⟩:=k'k r
  have ew:w'=u:=by
   cases c with
   | ref a=>cases rc;exact rw'
   | ty n=>cases rc;exact rw'
   | non=>cases rc
   | bl n=>cases rc
   | int i=>cases rc
   | str i=>cases rc
   | byt i=>cases rc
   | flt i=>cases rc
  subst ew
  cases (show v=Value.ref a from rx)
  obtain⟨mA,O,_⟩:=g'Z I.hok ea
  obtain⟨od,J,_⟩:=O.look
  exact W.kia_one (W.kitx_own (z.cl.get _) z.cl.hd z.ha z.hn z.htk z.hm) I.kIn J e (λz=>nomatch z) λtk=>⟨.bl b,H,I.tok tk,rfl,q⟩
end
end L2
namespace Vc
open PySem L2 Sf
end Vc
namespace L2
open PySem PySem.Spec PyProof.Rows
inductive KEs (w:World):List DictEntry->List (Str×Value)->Prop
 | nil : KEs w [] []
 | cons {x : Str} {t : Tok} {v : Value} {es : List DictEntry} {kvs : List (Str × Value)} : KEs w es kvs -> KEs w (⟨PyData.keyHash w.params x, .str x t, v⟩ :: es) ((x, v) :: kvs)
def KD (w:World) (K:W.Frag) (c:Addr) (kvs:List (Str×Value)):Prop:=
 ∃ (es:Array DictEntry) (ep:Nat),K.lookup c=some { cls:=.type "dict",data:=.dict es ep }/\KEs w es.toList kvs/\(kvs.map (·.1)).Nodup
theorem KEs.pairs {P:Program} {w:World} {es:List DictEntry} {kvs:List (Str×Value)} (h:KEs w es kvs):Pairs (mixKind P w) es (kvs.map λp=>((Sum.inr p.1:Key),p.2)):=by
 induction h with
 | nil => exact .nil
 | cons _ ih => exact .cons (c'd P w _ _) rfl ih
theorem KEs.keys {P:Program} {w:World} {es:List DictEntry} {kvs:List (Str×Value)} (h:KEs w es kvs):∀ e∈es,∃ k,(mixKind P w).is k e.key=true/\e.hash=(mixKind P w).hash k:=by
 induction h with
 | nil => intro e z; cases z
 | cons _ ih =>
  intro e z
  rcases List.mem_cons.mp z with rfl | z
  ·exact⟨.inr _,c'd P w _ _,rfl⟩
  ·exact ih e z
theorem KD.dict {P:Program} {w:World} {K:W.Frag} {c:Addr} {kvs:List (Str×Value)} {h:Heap} (d:KD w K c kvs) (X:K.In h):h.DictOf (mixKind P w) c (kvs.map λp=>((Sum.inr p.1:Key),p.2)):=by
 obtain⟨es,ep,lk,ke,nd⟩:=d
 refine⟨_,es,ep,X _ _ lk,⟨rfl,rfl,rfl⟩,rfl,λe he=>ke.keys e (Array.mem_toList_iff.mpr he),ke.pairs,?_⟩
 rw [List.map_map]
 have:((λp:Str×Value=>((Sum.inr p.1:Key),p.2)):Str×Value->Key×Value)=λp=>(Sum.inr p.1,p.2):=rfl
 rw [show ((λx:Key×Value=>x.1) ∘ λp:Str×Value=>((Sum.inr p.1:Key),p.2))=(λx=>(Sum.inr x:Key)) ∘ λp:Str×Value=>p.1 from rfl,<- List.map_map]
 exact List.Pairwise.map _ (λx y (ne:x≠y) e=>ne (Sum.inr.inj e)) nd
theorem KD.at_ {kvs:List (Str×Value)} {x:Str} {u:Value} (h:kvs.lookup x=some u):valueAt (kvs.map λp=>((Sum.inr p.1:Key),p.2)) (Sum.inr x)=some u:=by
 induction kvs with
 | nil => cases h
 | cons p r ih =>
  unfold valueAt
  rw [List.map_cons,List.find?_cons]
  by_cases e:p.1=x
  ·subst e
   rw [List.lookup_cons,beq_self_eq_true] at h
   simp at h ⊢
   exact h
  ·rw [List.lookup_cons,beq_false_of_ne (Ne.symm e)] at h
   have ne:¬ ((Sum.inr p.1:Key)=Sum.inr x):=λz=>e (Sum.inr.inj z)
   simp only [ne,decide_false]
   exact ih h
def tDGetC (w:World) (K:W.Frag) (td ty:TE):TE:=λσ H Q=>td σ H λd H1=>ty σ H1 λy H2=>∃ c kvs x a,d=.ref c/\KD w K c kvs/\y=.str x/\kvs.lookup x=some (.ref a)/\Q (.ref a) H2
section
variable {X:Cx} {o i:Expr} {pos:Pos} {td ty:TE}
theorem o'O (ho:PE X o td) (hi:PE X i ty) (hs:NoSl i):PE X (.Subscript o i pos) (tDGetC X.w X.K td ty):=by
 intro pins s σ H Q I h
 refine r'G PySem.F.slot_dict_getitem.lookup hs (thn (ho pins s σ H _ I h) λu s1 ⟨d,H1,I1,rx,q1⟩=>thn (hi pins s1 σ H1 _ I1 q1) λiv s2 ⟨y,H2,I2,ry,c,kvs,x,a,ed,kd,ey,l,q2⟩=>?_)
 subst ed
 subst ey
 obtain rfl:u=Value.ref c:=rx
 have dd:=kd.dict (P:=X.prog) I2.kIn
 exact⟨dd.typeIs,wpAny_getItem_of (b'I (k:=.inr x) ry) dd.mapOf (KD.at_ l) ⟨.ref a,H2,I2.tok _,rfl,q2⟩⟩
end
end L2
namespace Vc
open PySem L2 Sf
end Vc
namespace L2
open PySem PySem.Spec PyProof.Rows
def MOkA (P:Program) (w:World) (K:W.Frag) (mg:Str->Option Value) (base:Heap) (CX:CXT) (k:Nat) (m:Str) (C:Addr) (ps:List Str) (sp:Sp):Prop:=
 Cls K C/\∃ f fd,Meth K C m f/\FnOk P w K mg base CX k f fd ps sp/\Binds K fd ps []
theorem MOkA.mono {P:Program} {w:World} {K:W.Frag} {mg:Str->Option Value} {base:Heap} {CX:CXT} {k k':Nat} {m:Str} {C:Addr} {ps:List Str} {sp:Sp} (h:MOkA P w K mg base CX k m C ps sp) (le:k<=k'):MOkA P w K mg base CX k' m C ps sp:=by
 obtain⟨c,f,fd,hm,F,hb⟩:=h
 exact⟨c,f,fd,hm,F.mono le,hb⟩
section
variable {X:Cx} {CX:CXT} {k:Nat} {E:XK} {m:Str} {ps:List Str} {pos apos:Pos} {o e:Expr} {es:List Expr} {ta:TE} {t:TA} {D:Addr->Nat->Prop} {sp:Nat->Sp}
end
end L2
namespace Vc
open PySem L2 Sf
section
variable {H:Hp} {Q:VK} {l:Addr}
end
end Vc
namespace L2
open PySem PySem.Spec PyProof.Rows
section
variable {g:TG} {ti:TT} {te:TE} {ix:List (Option Nat)} {σ:St} {Q:VK}
end
end L2
namespace Vc
open PySem L2 Sf
end Vc
namespace Vc
open PySem L2 Sf
end Vc
namespace L2
open PySem PySem.Spec PyProof.Rows
def FnIn (K:W.Frag) (x qual:Str) (st:Stmt) (f:Addr):Prop:=∃ fd,Fun K x qual st f fd
theorem fnin {K:W.Frag} {x qual:Str} {st:Stmt} {f:Addr} {oc:Value} {od an:Option Addr} {osl:Array (Option Value)} {kV doc pm cdv ct:Value} (l:K.lookup f=some ⟨oc,od,.func (W.fnOf x qual (defArgs st) (defBody st) (defScope st) .none kV doc pm an cdv ct),osl⟩)
  (c:W.codeIn K cdv qual=true) (k:W.keepIn K (.ref f)=true):FnIn K x qual st f:=⟨_,t'Z l c k⟩
end L2
namespace Pu
open PySem L2 Vc Sf
inductive Fl where | f | o | l (k:Bool)
 deriving DecidableEq
inductive Tr where
 | int (n : Int) | bl (b : Bool) | str (s : Str) | non | hole | ty (n : String) | cl (a : Addr) | exc (b : Addr)
 | tup (xs : List Tr) | lst (f : Fl) (xs : List Tr) | dic (f : Fl) (kvs : List (Key × Tr)) | ins (f : Fl) (c : Addr) (fs : List (Str × Tr))
abbrev Cs:=List (Addr×HO)
mutual
/-- v stands for the tree: its frozen parts in F, its lent ones in B, its own ones are the cells -/
def R (K:W.Frag) (F:Hp) (B:Bool->Hp):Tr->V->Cs->Prop
 | .int n, v, cs => v = .int n /\ cs = []
 | .bl b, v, cs => v = .bl b /\ cs = []
 | .str s, v, cs => v = .str s /\ cs = []
 | .non, v, cs => v = .non /\ cs = []
 | .hole, _, _ => False
 | .ty n, v, cs => v = .ty n /\ cs = []
 | .cl a, v, cs => v = .ref a /\ cs = []
 | .exc b, v, cs => cs = [] /\ ∃ a, v = .ref a /\ Rd F a (exO a b)
 | .tup xs, v, cs => ∃ a vs, v = .ref a /\ SqT K F a vs /\ Rs K F B xs vs cs
 | .lst .f xs, v, cs => cs = [] /\ ∃ a vs, v = .ref a /\ SqL K F a vs /\ Rs K F B xs vs []
 | .lst (.l k) xs, v, cs => cs = [] /\ ∃ a vs, v = .ref a /\ SqL K (B k) a vs /\ Rs K F B xs vs []
 | .lst .o xs, v, cs => ∃ a vs ds, v = .ref a /\ cs = (a, .lst vs) :: ds /\ Rs K F B xs vs ds
 | .dic .f xs, v, cs => cs = [] /\ ∃ a vs, v = .ref a /\ Rd F a (.dK vs) /\ Rk K F B xs vs [] /\ (xs.map (·.1)).Nodup
 | .dic (.l k) xs, v, cs => cs = [] /\ ∃ a vs, v = .ref a /\ Rd (B k) a (.dK vs) /\ Rk K F B xs vs [] /\ (xs.map (·.1)).Nodup
 | .dic .o xs, v, cs => ∃ a vs ds, v = .ref a /\ cs = (a, .dK vs) :: ds /\ Rk K F B xs vs ds /\ (xs.map (·.1)).Nodup
 | .ins .f c xs, v, cs => cs = [] /\ ∃ a dx vs, v = .ref a /\ Rd F a (.ins c dx vs) /\ Rf K F B xs vs []
 | .ins (.l k) c xs, v, cs => cs = [] /\ ∃ a dx vs, v = .ref a /\ Rd (B k) a (.ins c dx vs) /\ Rf K F B xs vs []
 | .ins .o c xs, v, cs => ∃ a dx vs ds, v = .ref a /\ cs = (a, .ins c dx vs) :: ds /\ Rf K F B xs vs ds
def Rs (K:W.Frag) (F:Hp) (B:Bool->Hp):List Tr->List V->Cs->Prop
 | [], vs, cs => vs = [] /\ cs = []
 | x :: xs, vs, cs => ∃ v r c d, vs = v :: r /\ cs = c ++ d /\ R K F B x v c /\ Rs K F B xs r d
def Rk (K:W.Frag) (F:Hp) (B:Bool->Hp):List (Key×Tr)->List (Key×V)->Cs->Prop
 | [], vs, cs => vs = [] /\ cs = []
 | (k, x) :: xs, vs, cs => ∃ v r c d, vs = (k, v) :: r /\ cs = c ++ d /\ R K F B x v c /\ Rk K F B xs r d
def Rf (K:W.Frag) (F:Hp) (B:Bool->Hp):List (Str×Tr)->List (Str×V)->Cs->Prop
 | [], vs, cs => vs = [] /\ cs = []
 | (k, x) :: xs, vs, cs => ∃ v r c d, vs = (k, v) :: r /\ cs = c ++ d /\ R K F B x v c /\ Rf K F B xs r d
end
mutual
def lend:Tr->Tr
 | .tup xs => .tup (lends xs)
 | .lst .o xs => .lst (.l true) (lends xs)
 | .dic .o xs => .dic (.l true) (lendk xs)
 | .ins .o c xs => .ins (.l true) c (lendf xs)
 | t => t
def lends:List Tr->List Tr
 | [] => [] | x :: xs => lend x :: lends xs
def lendk:List (Key×Tr)->List (Key×Tr)
 | [] => [] | (k, x) :: xs => (k, lend x) :: lendk xs
def lendf:List (Str×Tr)->List (Str×Tr)
 | [] => [] | (k, x) :: xs => (k, lend x) :: lendf xs
end
mutual
/-- no one changes it any more -/
def frz:Tr->Tr
 | .tup xs => .tup (frzs xs)
 | .lst .o xs => .lst .f (frzs xs)
 | .dic .o xs => .dic .f (frzk xs)
 | .ins .o c xs => .ins .f c (frzf xs)
 | t => t
def frzs:List Tr->List Tr
 | [] => [] | x :: xs => frz x :: frzs xs
def frzk:List (Key×Tr)->List (Key×Tr)
 | [] => [] | (k, x) :: xs => (k, frz x) :: frzk xs
def frzf:List (Str×Tr)->List (Str×Tr)
 | [] => [] | (k, x) :: xs => (k, frz x) :: frzf xs
end
mutual
/-- nothing lent in it -/
def nol:Tr->Bool
 | .tup xs => nols xs
 | .lst (.l _) _ => false
 | .dic (.l _) _ => false
 | .ins (.l _) _ _ => false
 | .lst _ xs => nols xs
 | .dic _ xs => nolk xs
 | .ins _ _ xs => nolf xs
 | _ => true
def nols:List Tr->Bool
 | [] => true | x :: xs => nol x && nols xs
def nolk:List (Key×Tr)->Bool
 | [] => true | (_, x) :: xs => nol x && nolk xs
def nolf:List (Str×Tr)->Bool
 | [] => true | (_, x) :: xs => nol x && nolf xs
end
mutual
/-- nothing lent for now in it -/
def nlt:Tr->Bool
 | .tup xs => nlts xs
 | .lst (.l true) _ => false
 | .dic (.l true) _ => false
 | .ins (.l true) _ _ => false
 | .lst _ xs => nlts xs
 | .dic _ xs => nltk xs
 | .ins _ _ xs => nltf xs
 | _ => true
def nlts:List Tr->Bool
 | [] => true | x :: xs => nlt x && nlts xs
def nltk:List (Key×Tr)->Bool
 | [] => true | (_, x) :: xs => nlt x && nltk xs
def nltf:List (Str×Tr)->Bool
 | [] => true | (_, x) :: xs => nlt x && nltf xs
end
mutual
/-- as a callee has it: what is lent is lent to it -/
def dn:Tr->Tr
 | .tup xs => .tup (dns xs)
 | .lst (.l _) xs => .lst (.l false) (dns xs)
 | .dic (.l _) xs => .dic (.l false) (dnk xs)
 | .ins (.l _) c xs => .ins (.l false) c (dnf xs)
 | .lst .o xs => .lst .o (dns xs)
 | .dic .o xs => .dic .o (dnk xs)
 | .ins .o c xs => .ins .o c (dnf xs)
 | .lst .f xs => .lst .f (dns xs)
 | .dic .f xs => .dic .f (dnk xs)
 | .ins .f c xs => .ins .f c (dnf xs)
 | t => t
def dns:List Tr->List Tr
 | [] => [] | x :: xs => dn x :: dns xs
def dnk:List (Key×Tr)->List (Key×Tr)
 | [] => [] | (k, x) :: xs => (k, dn x) :: dnk xs
def dnf:List (Str×Tr)->List (Str×Tr)
 | [] => [] | (k, x) :: xs => (k, dn x) :: dnf xs
end
mutual
theorem R.mo {K:W.Frag} {F F':Hp} {B B':Bool->Hp} (e:Le F F') (b:∀ k,Le (B k) (B' k)):∀ (t:Tr) {v:V} {cs:Cs},R K F B t v cs->R K F' B' t v cs
 | .int _, _, _, h => h
 | .bl _, _, _, h => h
 | .str _, _, _, h => h
 | .non, _, _, h => h
 | .hole, _, _, h => h
 | .ty _, _, _, h => h
 | .cl _, _, _, h => h
 | .exc _, _, _, ⟨z, a, h1, h2⟩ => ⟨z, a, h1, Le.exc e h2⟩
 | .tup xs, _, _, ⟨a, vs, h1, h2, h3⟩ => ⟨a, vs, h1, e.tup h2, Rs.mo e b xs h3⟩
 | .lst .f xs, _, _, ⟨z, a, vs, h1, h2, h3⟩ => ⟨z, a, vs, h1, e.lst h2, Rs.mo e b xs h3⟩
 | .lst (.l k) xs, _, _, ⟨z, a, vs, h1, h2, h3⟩ => ⟨z, a, vs, h1, (b k).lst h2, Rs.mo e b xs h3⟩
 | .lst .o xs, _, _, ⟨a, vs, ds, h1, h2, h3⟩ => ⟨a, vs, ds, h1, h2, Rs.mo e b xs h3⟩
 | .dic .f xs, _, _, ⟨z, a, vs, h1, h2, h3, h4⟩ => ⟨z, a, vs, h1, e.dic h2, Rk.mo e b xs h3, h4⟩
 | .dic (.l k) xs, _, _, ⟨z, a, vs, h1, h2, h3, h4⟩ => ⟨z, a, vs, h1, (b k).dic h2, Rk.mo e b xs h3, h4⟩
 | .dic .o xs, _, _, ⟨a, vs, ds, h1, h2, h3, h4⟩ => ⟨a, vs, ds, h1, h2, Rk.mo e b xs h3, h4⟩
 | .ins .f _ xs, _, _, ⟨z, a, dx, vs, h1, h2, h3⟩ => ⟨z, a, dx, vs, h1, e _ _ (by intro _ _ z; cases z) h2, Rf.mo e b xs h3⟩
 | .ins (.l k) _ xs, _, _, ⟨z, a, dx, vs, h1, h2, h3⟩ => ⟨z, a, dx, vs, h1, b k _ _ (by intro _ _ z; cases z) h2, Rf.mo e b xs h3⟩
 | .ins .o _ xs, _, _, ⟨a, dx, vs, ds, h1, h2, h3⟩ => ⟨a, dx, vs, ds, h1, h2, Rf.mo e b xs h3⟩
theorem Rs.mo {K:W.Frag} {F F':Hp} {B B':Bool->Hp} (e:Le F F') (b:∀ k,Le (B k) (B' k)):∀ (t:List Tr) {v:List V} {cs:Cs},Rs K F B t v cs->Rs K F' B' t v cs
 | [], _, _, h => h
 | x :: xs, _, _, ⟨v, r, c, d, h1, h2, h3, h4⟩ => ⟨v, r, c, d, h1, h2, R.mo e b x h3, Rs.mo e b xs h4⟩
theorem Rk.mo {K:W.Frag} {F F':Hp} {B B':Bool->Hp} (e:Le F F') (b:∀ k,Le (B k) (B' k)):∀ (t:List (Key×Tr)) {v:List (Key×V)} {cs:Cs},Rk K F B t v cs->Rk K F' B' t v cs
 | [], _, _, h => h
 | (_, x) :: xs, _, _, ⟨v, r, c, d, h1, h2, h3, h4⟩ => ⟨v, r, c, d, h1, h2, R.mo e b x h3, Rk.mo e b xs h4⟩
theorem Rf.mo {K:W.Frag} {F F':Hp} {B B':Bool->Hp} (e:Le F F') (b:∀ k,Le (B k) (B' k)):∀ (t:List (Str×Tr)) {v:List (Str×V)} {cs:Cs},Rf K F B t v cs->Rf K F' B' t v cs
 | [], _, _, h => h
 | (_, x) :: xs, _, _, ⟨v, r, c, d, h1, h2, h3, h4⟩ => ⟨v, r, c, d, h1, h2, R.mo e b x h3, Rf.mo e b xs h4⟩
end
end Pu
namespace Pu
open PySem L2 Vc Sf
section
variable {K:W.Frag} {F F' H H':Hp} {B B':Bool->Hp}
mutual
theorem R.lend (b:∀ k,Le (B k) (B' k)):∀ (t:Tr) {v:V} {cs:Cs},R K F B t v cs->(∀ p∈cs,B' true p.1=some p.2)->R K F B' (lend t) v []
 | .int _, _, _, ⟨h, _⟩, _ => ⟨h, rfl⟩
 | .bl _, _, _, ⟨h, _⟩, _ => ⟨h, rfl⟩
 | .str _, _, _, ⟨h, _⟩, _ => ⟨h, rfl⟩
 | .non, _, _, ⟨h, _⟩, _ => ⟨h, rfl⟩
 | .hole, _, _, h, _ => h.elim
 | .ty _, _, _, ⟨h, _⟩, _ => ⟨h, rfl⟩
 | .cl _, _, _, ⟨h, _⟩, _ => ⟨h, rfl⟩
 | .exc _, _, _, ⟨_, a, h, h'⟩, _ => ⟨rfl, a, h, h'⟩
 | .tup xs, _, _, ⟨a, vs, h1, h2, h3⟩, m => ⟨a, vs, h1, h2, Rs.lend b xs h3 m⟩
 | .lst .f xs, _, _, ⟨z, a, vs, h1, h2, h3⟩, _ => ⟨rfl, a, vs, h1, h2, Rs.mo (Le.refl F) b xs h3⟩
 | .lst (.l k) xs, _, _, ⟨z, a, vs, h1, h2, h3⟩, _ => ⟨rfl, a, vs, h1, (b k).lst h2, Rs.mo (Le.refl F) b xs h3⟩
 | .lst .o xs, _, _, ⟨a, vs, ds, h1, h2, h3⟩, m => ⟨rfl, a, vs, h1, SqL.of (m (a, .lst vs) (by rw [h2]; exact .head _)), Rs.lend b xs h3 λp q => m p (by rw [h2]; exact .tail _ q)⟩
 | .dic .f xs, _, _, ⟨z, a, vs, h1, h2, h3, h4⟩, _ => ⟨rfl, a, vs, h1, h2, Rk.mo (Le.refl F) b xs h3, h4⟩
 | .dic (.l k) xs, _, _, ⟨z, a, vs, h1, h2, h3, h4⟩, _ => ⟨rfl, a, vs, h1, (b k).dic h2, Rk.mo (Le.refl F) b xs h3, h4⟩
 | .dic .o xs, _, _, ⟨a, vs, ds, h1, h2, h3, h4⟩, m => ⟨rfl, a, vs, h1, Rd.of (m (a, .dK vs) (by rw [h2]; exact .head _)), Rk.lend b xs h3 λp q => m p (by rw [h2]; exact .tail _ q), by rw [lendk_keys]; exact h4⟩
 | .ins .f _ xs, _, _, ⟨z, a, dx, vs, h1, h2, h3⟩, _ => ⟨rfl, a, dx, vs, h1, h2, Rf.mo (Le.refl F) b xs h3⟩
 | .ins (.l k) _ xs, _, _, ⟨z, a, dx, vs, h1, h2, h3⟩, _ => ⟨rfl, a, dx, vs, h1, b k _ _ (by intro _ _ z; cases z) h2, Rf.mo (Le.refl F) b xs h3⟩
 | .ins .o _ xs, _, _, ⟨a, dx, vs, ds, h1, h2, h3⟩, m => ⟨rfl, a, dx, vs, h1, Rd.of (m (a, .ins _ dx vs) (by rw [h2]; exact .head _)), Rf.lend b xs h3 λp q => m p (by rw [h2]; exact .tail _ q)⟩
theorem Rs.lend (b:∀ k,Le (B k) (B' k)):∀ (t:List Tr) {v:List V} {cs:Cs},Rs K F B t v cs->(∀ p∈cs,B' true p.1=some p.2)->Rs K F B' (lends t) v []
 | [], _, _, ⟨h, _⟩, _ => ⟨h, rfl⟩
 | x :: xs, _, _, ⟨v, r, c, d, h1, h2, h3, h4⟩, m => ⟨v, r, [], [], h1, rfl, R.lend b x h3 λp q => m p (by rw [h2]; exact List.mem_append.mpr (.inl q)), Rs.lend b xs h4 λp q => m p (by rw [h2]; exact List.mem_append.mpr (.inr q))⟩
theorem Rk.lend (b:∀ k,Le (B k) (B' k)):∀ (t:List (Key×Tr)) {v:List (Key×V)} {cs:Cs},Rk K F B t v cs->(∀ p∈cs,B' true p.1=some p.2)->Rk K F B' (lendk t) v []
 | [], _, _, ⟨h, _⟩, _ => ⟨h, rfl⟩
 | (_, x) :: xs, _, _, ⟨v, r, c, d, h1, h2, h3, h4⟩, m => ⟨v, r, [], [], h1, rfl, R.lend b x h3 λp q => m p (by rw [h2]; exact List.mem_append.mpr (.inl q)), Rk.lend b xs h4 λp q => m p (by rw [h2]; exact List.mem_append.mpr (.inr q))⟩
theorem Rf.lend (b:∀ k,Le (B k) (B' k)):∀ (t:List (Str×Tr)) {v:List (Str×V)} {cs:Cs},Rf K F B t v cs->(∀ p∈cs,B' true p.1=some p.2)->Rf K F B' (lendf t) v []
 | [], _, _, ⟨h, _⟩, _ => ⟨h, rfl⟩
 | (_, x) :: xs, _, _, ⟨v, r, c, d, h1, h2, h3, h4⟩, m => ⟨v, r, [], [], h1, rfl, R.lend b x h3 λp q => m p (by rw [h2]; exact List.mem_append.mpr (.inl q)), Rf.lend b xs h4 λp q => m p (by rw [h2]; exact List.mem_append.mpr (.inr q))⟩
theorem lendk_keys:∀ (xs:List (Key×Tr)),(lendk xs).map (·.1)=xs.map (·.1)
 | [] => rfl
 | (_, _) :: xs => by show _ :: _ = _ :: _; rw [lendk_keys xs]
end
theorem f'O:∀ (xs:List (Key×Tr)),(frzk xs).map (·.1)=xs.map (·.1)
 | [] => rfl
 | (_, _) :: xs => by show _ :: _ = _ :: _; rw [f'O xs]
mutual
/-- without lent parts B is not asked -/
theorem R.base:∀ (t:Tr) {v:V} {cs:Cs},nol t=true->R K F B t v cs->R K F B' t v cs
 | .int _, _, _, _, h => h
 | .bl _, _, _, _, h => h
 | .str _, _, _, _, h => h
 | .non, _, _, _, h => h
 | .hole, _, _, _, h => h
 | .ty _, _, _, _, h => h
 | .cl _, _, _, _, h => h
 | .exc _, _, _, _, h => h
 | .tup xs, _, _, n, ⟨a, vs, h1, h2, h3⟩ => ⟨a, vs, h1, h2, Rs.base xs n h3⟩
 | .lst .f xs, _, _, n, ⟨z, a, vs, h1, h2, h3⟩ => ⟨z, a, vs, h1, h2, Rs.base xs n h3⟩
 | .lst (.l k) xs, _, _, n, _ => by cases n
 | .lst .o xs, _, _, n, ⟨a, vs, ds, h1, h2, h3⟩ => ⟨a, vs, ds, h1, h2, Rs.base xs n h3⟩
 | .dic .f xs, _, _, n, ⟨z, a, vs, h1, h2, h3, h4⟩ => ⟨z, a, vs, h1, h2, Rk.base xs n h3, h4⟩
 | .dic (.l k) xs, _, _, n, _ => by cases n
 | .dic .o xs, _, _, n, ⟨a, vs, ds, h1, h2, h3, h4⟩ => ⟨a, vs, ds, h1, h2, Rk.base xs n h3, h4⟩
 | .ins .f _ xs, _, _, n, ⟨z, a, dx, vs, h1, h2, h3⟩ => ⟨z, a, dx, vs, h1, h2, Rf.base xs n h3⟩
 | .ins (.l k) _ xs, _, _, n, _ => by cases n
 | .ins .o _ xs, _, _, n, ⟨a, dx, vs, ds, h1, h2, h3⟩ => ⟨a, dx, vs, ds, h1, h2, Rf.base xs n h3⟩
theorem Rs.base:∀ (t:List Tr) {v:List V} {cs:Cs},nols t=true->Rs K F B t v cs->Rs K F B' t v cs
 | [], _, _, _, h => h
 | x :: xs, _, _, n, ⟨v, r, c, d, h1, h2, h3, h4⟩ => by
  rw [nols,Bool.and_eq_true] at n
  exact⟨v,r,c,d,h1,h2,R.base x n.1 h3,Rs.base xs n.2 h4⟩
theorem Rk.base:∀ (t:List (Key×Tr)) {v:List (Key×V)} {cs:Cs},nolk t=true->Rk K F B t v cs->Rk K F B' t v cs
 | [], _, _, _, h => h
 | (_, x) :: xs, _, _, n, ⟨v, r, c, d, h1, h2, h3, h4⟩ => by
  rw [nolk,Bool.and_eq_true] at n
  exact⟨v,r,c,d,h1,h2,R.base x n.1 h3,Rk.base xs n.2 h4⟩
theorem Rf.base:∀ (t:List (Str×Tr)) {v:List (Str×V)} {cs:Cs},nolf t=true->Rf K F B t v cs->Rf K F B' t v cs
 | [], _, _, _, h => h
 | (_, x) :: xs, _, _, n, ⟨v, r, c, d, h1, h2, h3, h4⟩ => by
  rw [nolf,Bool.and_eq_true] at n
  exact⟨v,r,c,d,h1,h2,R.base x n.1 h3,Rf.base xs n.2 h4⟩
end
mutual
theorem R.frz (b:Le F F'):∀ (t:Tr) {v:V} {cs:Cs},R K F B t v cs->(∀ p∈cs,F' p.1=some p.2)->R K F' B (frz t) v []
 | .int _, _, _, ⟨h, _⟩, _ => ⟨h, rfl⟩
 | .bl _, _, _, ⟨h, _⟩, _ => ⟨h, rfl⟩
 | .str _, _, _, ⟨h, _⟩, _ => ⟨h, rfl⟩
 | .non, _, _, ⟨h, _⟩, _ => ⟨h, rfl⟩
 | .hole, _, _, h, _ => h.elim
 | .ty _, _, _, ⟨h, _⟩, _ => ⟨h, rfl⟩
 | .cl _, _, _, ⟨h, _⟩, _ => ⟨h, rfl⟩
 | .exc _, _, _, ⟨_, a, h, h'⟩, _ => ⟨rfl, a, h, Le.exc b h'⟩
 | .tup xs, _, _, ⟨a, vs, h1, h2, h3⟩, m => ⟨a, vs, h1, b.tup h2, Rs.frz b xs h3 m⟩
 | .lst .f xs, _, _, ⟨z, a, vs, h1, h2, h3⟩, _ => ⟨rfl, a, vs, h1, b.lst h2, Rs.mo b (λk => Le.refl (B k)) xs h3⟩
 | .lst (.l k) xs, _, _, ⟨z, a, vs, h1, h2, h3⟩, _ => ⟨rfl, a, vs, h1, h2, Rs.mo b (λk => Le.refl (B k)) xs h3⟩
 | .lst .o xs, _, _, ⟨a, vs, ds, h1, h2, h3⟩, m => ⟨rfl, a, vs, h1, SqL.of (m (a, .lst vs) (by rw [h2]; exact .head _)), Rs.frz b xs h3 λp q => m p (by rw [h2]; exact .tail _ q)⟩
 | .dic .f xs, _, _, ⟨z, a, vs, h1, h2, h3, h4⟩, _ => ⟨rfl, a, vs, h1, b.dic h2, Rk.mo b (λk => Le.refl (B k)) xs h3, h4⟩
 | .dic (.l k) xs, _, _, ⟨z, a, vs, h1, h2, h3, h4⟩, _ => ⟨rfl, a, vs, h1, h2, Rk.mo b (λk => Le.refl (B k)) xs h3, h4⟩
 | .dic .o xs, _, _, ⟨a, vs, ds, h1, h2, h3, h4⟩, m => ⟨rfl, a, vs, h1, Rd.of (m (a, .dK vs) (by rw [h2]; exact .head _)), Rk.frz b xs h3 λp q => m p (by rw [h2]; exact .tail _ q), by rw [f'O]; exact h4⟩
 | .ins .f _ xs, _, _, ⟨z, a, dx, vs, h1, h2, h3⟩, _ => ⟨rfl, a, dx, vs, h1, b _ _ (by intro _ _ z; cases z) h2, Rf.mo b (λk => Le.refl (B k)) xs h3⟩
 | .ins (.l k) _ xs, _, _, ⟨z, a, dx, vs, h1, h2, h3⟩, _ => ⟨rfl, a, dx, vs, h1, h2, Rf.mo b (λk => Le.refl (B k)) xs h3⟩
 | .ins .o _ xs, _, _, ⟨a, dx, vs, ds, h1, h2, h3⟩, m => ⟨rfl, a, dx, vs, h1, Rd.of (m (a, .ins _ dx vs) (by rw [h2]; exact .head _)), Rf.frz b xs h3 λp q => m p (by rw [h2]; exact .tail _ q)⟩
theorem Rs.frz (b:Le F F'):∀ (t:List Tr) {v:List V} {cs:Cs},Rs K F B t v cs->(∀ p∈cs,F' p.1=some p.2)->Rs K F' B (frzs t) v []
 | [], _, _, ⟨h, _⟩, _ => ⟨h, rfl⟩
 | x :: xs, _, _, ⟨v, r, c, d, h1, h2, h3, h4⟩, m => ⟨v, r, [], [], h1, rfl, R.frz b x h3 λp q => m p (by rw [h2]; exact List.mem_append.mpr (.inl q)), Rs.frz b xs h4 λp q => m p (by rw [h2]; exact List.mem_append.mpr (.inr q))⟩
theorem Rk.frz (b:Le F F'):∀ (t:List (Key×Tr)) {v:List (Key×V)} {cs:Cs},Rk K F B t v cs->(∀ p∈cs,F' p.1=some p.2)->Rk K F' B (frzk t) v []
 | [], _, _, ⟨h, _⟩, _ => ⟨h, rfl⟩
 | (_, x) :: xs, _, _, ⟨v, r, c, d, h1, h2, h3, h4⟩, m => ⟨v, r, [], [], h1, rfl, R.frz b x h3 λp q => m p (by rw [h2]; exact List.mem_append.mpr (.inl q)), Rk.frz b xs h4 λp q => m p (by rw [h2]; exact List.mem_append.mpr (.inr q))⟩
theorem Rf.frz (b:Le F F'):∀ (t:List (Str×Tr)) {v:List (Str×V)} {cs:Cs},Rf K F B t v cs->(∀ p∈cs,F' p.1=some p.2)->Rf K F' B (frzf t) v []
 | [], _, _, ⟨h, _⟩, _ => ⟨h, rfl⟩
 | (_, x) :: xs, _, _, ⟨v, r, c, d, h1, h2, h3, h4⟩, m => ⟨v, r, [], [], h1, rfl, R.frz b x h3 λp q => m p (by rw [h2]; exact List.mem_append.mpr (.inl q)), Rf.frz b xs h4 λp q => m p (by rw [h2]; exact List.mem_append.mpr (.inr q))⟩
end
def Plain (cs:Cs):Prop:=∀ p∈cs,∀ x u,p.2≠HO.frz x u
theorem Plain.nil:Plain []:=λ_ h=>nomatch h
theorem Plain.cons {a:Addr} {o:HO} {cs:Cs} (h:∀ x u,o≠HO.frz x u) (t:Plain cs):Plain ((a,o) :: cs):=λp m=>by
 cases m with
 | head => exact h
 | tail _ m => exact t p m
theorem Plain.app {c d:Cs} (h:Plain c) (t:Plain d):Plain (c++d):=λp m=>(List.mem_append.mp m).elim (h p) (t p)
mutual
theorem R.plain:∀ (t:Tr) {v:V} {cs:Cs},R K F B t v cs->Plain cs
 | .int _, _, _, ⟨_, h⟩ => by rw [h]; exact .nil
 | .bl _, _, _, ⟨_, h⟩ => by rw [h]; exact .nil
 | .str _, _, _, ⟨_, h⟩ => by rw [h]; exact .nil
 | .non, _, _, ⟨_, h⟩ => by rw [h]; exact .nil
 | .hole, _, _, h => h.elim
 | .ty _, _, _, ⟨_, h⟩ => by rw [h]; exact .nil
 | .cl _, _, _, ⟨_, h⟩ => by rw [h]; exact .nil
 | .exc _, _, _, ⟨h, _⟩ => by rw [h]; exact .nil
 | .tup xs, _, _, ⟨a, vs, h1, h2, h3⟩ => Rs.plain xs h3
 | .lst .f xs, _, _, ⟨z, _⟩ => by rw [z]; exact .nil
 | .lst (.l k) xs, _, _, ⟨z, _⟩ => by rw [z]; exact .nil
 | .lst .o xs, _, _, ⟨a, vs, ds, h1, h2, h3⟩ => by rw [h2]; exact .cons (by intro _ _ z; cases z) (Rs.plain xs h3)
 | .dic .f xs, _, _, ⟨z, _⟩ => by rw [z]; exact .nil
 | .dic (.l k) xs, _, _, ⟨z, _⟩ => by rw [z]; exact .nil
 | .dic .o xs, _, _, ⟨a, vs, ds, h1, h2, h3, _⟩ => by rw [h2]; exact .cons (by intro _ _ z; cases z) (Rk.plain xs h3)
 | .ins .f _ xs, _, _, ⟨z, _⟩ => by rw [z]; exact .nil
 | .ins (.l k) _ xs, _, _, ⟨z, _⟩ => by rw [z]; exact .nil
 | .ins .o _ xs, _, _, ⟨a, dx, vs, ds, h1, h2, h3⟩ => by rw [h2]; exact .cons (by intro _ _ z; cases z) (Rf.plain xs h3)
theorem Rs.plain:∀ (t:List Tr) {v:List V} {cs:Cs},Rs K F B t v cs->Plain cs
 | [], _, _, ⟨_, h⟩ => by rw [h]; exact .nil
 | x :: xs, _, _, ⟨v, r, c, d, h1, h2, h3, h4⟩ => by rw [h2]; exact (R.plain x h3).app (Rs.plain xs h4)
theorem Rk.plain:∀ (t:List (Key×Tr)) {v:List (Key×V)} {cs:Cs},Rk K F B t v cs->Plain cs
 | [], _, _, ⟨_, h⟩ => by rw [h]; exact .nil
 | (_, x) :: xs, _, _, ⟨v, r, c, d, h1, h2, h3, h4⟩ => by rw [h2]; exact (R.plain x h3).app (Rk.plain xs h4)
theorem Rf.plain:∀ (t:List (Str×Tr)) {v:List (Str×V)} {cs:Cs},Rf K F B t v cs->Plain cs
 | [], _, _, ⟨_, h⟩ => by rw [h]; exact .nil
 | (_, x) :: xs, _, _, ⟨v, r, c, d, h1, h2, h3, h4⟩ => by rw [h2]; exact (R.plain x h3).app (Rf.plain xs h4)
end
structure Cells (F H:Hp) (cs:Cs):Prop where
 h:∀ p∈cs,H p.1=some p.2
 f:∀ p∈cs,F p.1=none
 nd:(cs.map (·.1)).Nodup
theorem Cells.nil:Cells F H []:=⟨λ_ h=>(nomatch h),λ_ h=>(nomatch h),List.nodup_nil⟩
theorem Cells.gr {cs:Cs} (c:Cells F H cs) (g:Gr F H F' H'):Cells F' H' cs:=⟨λp m=>g.h _ _ (c.h p m),λp m=>g.own (c.f p m) (c.h p m),c.nd⟩
def New (H:Hp) (cs:Cs):Prop:=∀ p∈cs,H p.1=none
theorem New.nil:New H []:=λ_ h=>nomatch h
theorem New.back {cs:Cs} (s:Same H H') (n:New H' cs):New H cs:=λp m=>s.free (n p m)
theorem Cells.app {c d:Cs} (h:Cells F H c) (t:Cells F H d) (n:∀ p∈c,∀ q∈d,p.1≠q.1):Cells F H (c++d):=
 ⟨λp m=>(List.mem_append.mp m).elim (h.h p) (t.h p),λp m=>(List.mem_append.mp m).elim (h.f p) (t.f p),by
  rw [List.map_append,List.nodup_append]
  refine⟨h.nd,t.nd,λa ma b mb=>?_⟩
  obtain⟨p,mp,rfl⟩:=List.mem_map.mp ma
  obtain⟨q,mq,rfl⟩:=List.mem_map.mp mb
  exact n p mp q mq⟩
theorem Cells.left {c d:Cs} (h:Cells F H (c++d)):Cells F H c:=⟨λp m=>h.h p (List.mem_append.mpr (.inl m)),λp m=>h.f p (List.mem_append.mpr (.inl m)),by have:=h.nd;rw [List.map_append,List.nodup_append] at this;exact this.1⟩
theorem Cells.right {c d:Cs} (h:Cells F H (c++d)):Cells F H d:=⟨λp m=>h.h p (List.mem_append.mpr (.inr m)),λp m=>h.f p (List.mem_append.mpr (.inr m)),by have:=h.nd;rw [List.map_append,List.nodup_append] at this;exact this.2.1⟩
structure Out (K:W.Frag) (F:Hp) (B:Bool->Hp) (H F' H':Hp) (t:Tr) (v:V) (cs:Cs):Prop where
 g:Gr F H F' H'
 r:R K F' B t v cs
 c:Cells F' H' cs
 n:New H cs
structure OutA (K:W.Frag) (F:Hp) (B:Bool->Hp) (H F' H':Hp) (t:List Tr) (v:List V) (cs:Cs):Prop where
 g:Gr F H F' H'
 r:Rs K F' B t v cs
 c:Cells F' H' cs
 n:New H cs
def EnvQ (K:W.Frag) (F:Hp) (B:Bool->Hp) (σ:St) (ρ:List Tr):Prop:=∀ (i:Nat) (t:Tr),ρ[i]?=some t->t=.hole\/∃ v,σ[i]?=some (some v)/\R K F B t v []
theorem EnvQ.mo {σ:St} {ρ:List Tr} (e:EnvQ K F B σ ρ) (l:Le F F') (b:∀ k,Le (B k) (B' k)):EnvQ K F' B' σ ρ:=λi t h=>(e i t h).imp id λ⟨v,h1,h2⟩=>⟨v,h1,h2.mo l b t⟩
abbrev PE':=List Tr->(Tr->Prop)->Prop
abbrev PA':=List Tr->(List Tr->Prop)->Prop
abbrev PB':=List Tr->(Bool->Prop)->Prop
structure Md where
 z:Bool
 E:St->XK
 q:Value->Prop
def Md.mute (k:Md):Md:=⟨k.z,k.E,λ_=>False⟩
def Md.walk (k:Md):Md:=⟨false,k.E,λ_=>False⟩
def Md.base (b:Bool):Md:=⟨b,λ_=>E0,λ_=>False⟩
structure Cxt (K:W.Frag) (k:Md) (F:Hp) (B:Bool->Hp) (H:Hp) (σ:St) (ρ:List Tr):Prop where
 s:Same F H
 b:∀ k,Same (B k) H
 z:k.z=true->Fz S0 F
 e:EnvQ K F B σ ρ
 x:∀ cls F' H',k.q cls->Gr F H F' H'->k.E σ cls none H'
theorem _root_.Vc.Gr.refl' (s:Same F H):Gr F H F H:=Gr.of (Gr0.refl s) (Fz.refl F)
theorem _root_.Vc.Gr.trans' {F2 H2:Hp} (a:Gr F H F' H') (b:Gr F' H' F2 H2):Gr F H F2 H2:=Gr.of (a.toGr0.tr b) (b.fz a.z)
theorem Cxt.gr {k:Md} {σ:St} {ρ:List Tr} (c:Cxt K k F B H σ ρ) (g:Gr F H F' H'):Cxt K k F' B H' σ ρ:=⟨g.s,λk=>(c.b k).trans g.h,λh=>g.fz (c.z h),c.e.mo g.le (λk=>Le.refl (B k)),λcls F' H' q g'=>c.x cls F' H' q (g.trans' g')⟩
def Sim (K:W.Frag) (k:Md) (te:TE) (pe:PE'):Prop:=∀ (F:Hp) (B:Bool->Hp) (H:Hp) (σ:St) (ρ:List Tr) (Q:VK) (Q':Tr->Prop),Cxt K k F B H σ ρ->pe ρ Q'->(∀ t v F' H' cs,Q' t->Out K F B H F' H' t v cs->Q v H')->te σ H Q
def SimA (K:W.Frag) (k:Md) (te:TA) (pe:PA'):Prop:=∀ (F:Hp) (B:Bool->Hp) (H:Hp) (σ:St) (ρ:List Tr) (Q:List V->Hp->Prop) (Q':List Tr->Prop),Cxt K k F B H σ ρ->pe ρ Q'->(∀ t v F' H' cs,Q' t->OutA K F B H F' H' t v cs->Q v H')->te σ H Q
def SimT (K:W.Frag) (k:Md) (te:TT) (pe:PB'):Prop:=∀ (F:Hp) (B:Bool->Hp) (H:Hp) (σ:St) (ρ:List Tr) (Q:Bool->Hp->Prop) (Q':Bool->Prop),Cxt K k F B H σ ρ->pe ρ Q'->(∀ b F' H',Q' b->Gr F H F' H'->Q b H')->te σ H Q
theorem Out.same {t:Tr} {v:V} (s:Same F H) (r:R K F B t v []):Out K F B H F H t v []:=⟨Gr.refl' s,r,.nil,.nil⟩
def pVar (i:Nat):PE':=λρ Q=>match ρ[i]? with | some .hole=>False | some t=>Q t | none=>False
theorem s'n {k:Md} (i:Nat):Sim K k (tVar i) (pVar i):=λF B H σ ρ Q Q' c p q=>by
 unfold pVar at p
 cases h:ρ[i]? with
 | none => rw [h] at p; exact p.elim
 | some t =>
  rcases c.e i t h with rfl | ⟨v,h1,h2⟩
  ·rw [h] at p;exact p.elim
  ·refine⟨v,h1,q t v F H [] ?_ (Out.same c.s h2)⟩
   rw [h] at p
   cases t with
   | hole=>exact p.elim
   | _=>exact p
def pC (t:Tr):PE':=λ_ Q=>Q t
theorem e'B {k:Md} {v:V} {t:Tr} (h:∀ F B,R K F B t v []):Sim K k (tC v) (pC t):=λF B H σ ρ Q Q' c p q=>q t v F H [] p (Out.same c.s (h F B))
theorem s'o {k:Md} {n:Int}:Sim K k (tC (.int n)) (pC (.int n)):=e'B λ_ _=>⟨rfl,rfl⟩
theorem s'p {k:Md} {n:Str}:Sim K k (tC (.str n)) (pC (.str n)):=e'B λ_ _=>⟨rfl,rfl⟩
theorem u'x {k:Md} {n:Bool}:Sim K k (tC (.bl n)) (pC (.bl n)):=e'B λ_ _=>⟨rfl,rfl⟩
def p2 (pr:Tr->Tr->(Tr->Prop)->Prop) (pa pb:PE'):PE':=λρ Q=>pa ρ λx=>pb ρ λy=>pr x y Q
def Op2 (K:W.Frag) (k:Md) (r:R2) (pr:Tr->Tr->(Tr->Prop)->Prop):Prop:=∀ (F:Hp) (B:Bool->Hp) (H:Hp) (x y:V) (tx ty:Tr) (cx cy:Cs) (Q:VK) (Q':Tr->Prop),Same F H->(∀ k,Same (B k) H)->(k.z=true->Fz S0 F)->R K F B tx x cx->R K F B ty y cy->Cells F H cx->Cells F H cy->(∀ p∈cx,∀ q∈cy,p.1≠q.1)->pr tx ty Q'->
 (∀ t v F' H' cs,Q' t->Gr F H F' H'->R K F' B t v cs->Cells F' H' cs->(∀ p∈cs,H p.1=none\/p∈cx\/p∈cy)->Q v H')->r x y H Q
theorem e'C {k:Md} {r:R2} {pr:Tr->Tr->(Tr->Prop)->Prop} {ta tb:TE} {pa pb:PE'} (o:Op2 K k r pr) (ha:Sim K k ta pa) (hb:Sim K k tb pb):Sim K k (tOp r ta tb) (p2 pr pa pb):=λF B H σ ρ Q Q' c p q=>by
 refine ha F B H σ ρ _ _ c p λx v F1 H1 c1 p1 o1=>?_
 refine hb F1 B H1 σ ρ _ _ (c.gr o1.g) p1 λy u F2 H2 c2 p2 o2=>?_
 refine o F2 B H2 v u x y c1 c2 Q Q' o2.g.s (λk=>((c.b k).trans o1.g.h).trans o2.g.h) (λh=>o2.g.fz (o1.g.fz (c.z h))) (o1.r.mo o2.g.le (λk=>Le.refl (B k)) x) o2.r (o1.c.gr o2.g) o2.c (λp mp q mq e=>by have:=o1.c.h p mp;rw [e,o2.n q mq] at this;cases this) p2 λt v' F3 H3 cs qt g r' c' n=>?_
 refine q t v' F3 H3 cs qt ⟨(o1.g.trans' o2.g).trans' g,r',c',λp m=>?_⟩
 rcases n p m with z | z | z
 ·exact (o1.g.h.trans o2.g.h).free z
 ·exact o1.n p z
 ·exact o1.g.h.free (o2.n p z)
def p1 (pr:Tr->(Tr->Prop)->Prop) (pa:PE'):PE':=λρ Q=>pa ρ λx=>pr x Q
def Op1 (K:W.Frag) (k:Md) (r:V->Hp->VK->Prop) (pr:Tr->(Tr->Prop)->Prop):Prop:=∀ (F:Hp) (B:Bool->Hp) (H:Hp) (x:V) (tx:Tr) (cx:Cs) (Q:VK) (Q':Tr->Prop),Same F H->(∀ k,Same (B k) H)->(k.z=true->Fz S0 F)->R K F B tx x cx->Cells F H cx->pr tx Q'->
 (∀ t v F' H' cs,Q' t->Gr F H F' H'->R K F' B t v cs->Cells F' H' cs->(∀ p∈cs,H p.1=none\/p∈cx)->Q v H')->r x H Q
theorem u'y {k:Md} {r:V->Hp->VK->Prop} {pr:Tr->(Tr->Prop)->Prop} {ta:TE} {pa:PE'} (o:Op1 K k r pr) (ha:Sim K k ta pa):Sim K k (tUn r ta) (p1 pr pa):=λF B H σ ρ Q Q' c p q=>by
 refine ha F B H σ ρ _ _ c p λx v F1 H1 c1 p1 o1=>?_
 refine o F1 B H1 v x c1 Q Q' o1.g.s (λk=>(c.b k).trans o1.g.h) (λh=>o1.g.fz (c.z h)) o1.r o1.c p1 λt v' F3 H3 cs qt g r' c' n=>?_
 refine q t v' F3 H3 cs qt ⟨o1.g.trans' g,r',c',λp m=>?_⟩
 rcases n p m with z | z
 ·exact o1.g.h.free z
 ·exact o1.n p z
def pNil:PA':=λ_ Q=>Q []
def pCons (pe:PE') (pa:PA'):PA':=λρ Q=>pe ρ λx=>pa ρ λxs=>Q (x :: xs)
theorem i'D {k:Md}:SimA K k tNil pNil:=λF B H σ ρ Q Q' c p q=>q [] [] F H [] p ⟨Gr.refl' c.s,⟨rfl,rfl⟩,.nil,.nil⟩
theorem o'P {k:Md} {te:TE} {ta:TA} {pe:PE'} {pa:PA'} (h:Sim K k te pe) (ha:SimA K k ta pa):SimA K k (tCons te ta) (pCons pe pa):=λF B H σ ρ Q Q' c p q=>by
 refine h F B H σ ρ _ _ c p λx v F1 H1 c1 p1 o1=>?_
 refine ha F1 B H1 σ ρ _ _ (c.gr o1.g) p1 λxs vs F2 H2 c2 p2 o2=>?_
 refine q (x :: xs) (v :: vs) F2 H2 (c1++c2) p2 ⟨o1.g.trans' o2.g,⟨v,vs,c1,c2,rfl,rfl,o1.r.mo o2.g.le (λk=>Le.refl (B k)) x,o2.r⟩,(o1.c.gr o2.g).app o2.c λp mp q mq e=>?_,λp m=>?_⟩
 ·have:=o1.c.h p mp
  rw [e,o2.n q mq] at this
  cases this
 ·rcases List.mem_append.mp m with m | m
  ·exact o1.n p m
  ·exact o1.g.h.free (o2.n p m)
theorem Rs.length:∀ {t:List Tr} {v:List V} {cs:Cs},Rs K F B t v cs->v.length=t.length
 | [], _, _, ⟨h, _⟩ => by rw [h]; rfl
 | x :: xs, _, _, ⟨v, r, c, d, h1, h2, h3, h4⟩ => by rw [h1, List.length_cons, List.length_cons, Rs.length h4]
theorem Rs.at:∀ {t:List Tr} {v:List V} {cs:Cs} {i:Nat} {x:Tr},Rs K F B t v cs->t[i]?=some x->∃ u c,v[i]?=some u/\R K F B x u c/\∀ p∈c,p∈cs
 | x :: xs, _, _, 0, y, ⟨v, r, c, d, h1, h2, h3, h4⟩, h => by
  cases h
  exact⟨v,c,by rw [h1];rfl,h3,λp m=>by rw [h2];exact List.mem_append.mpr (.inl m)⟩
 | x :: xs, _, _, i + 1, y, ⟨v, r, c, d, h1, h2, h3, h4⟩, h => by
  obtain⟨u,e,a1,a2,a3⟩:=Rs.at (i:=i) h4 h
  exact⟨u,e,by rw [h1];exact a1,a2,λp m=>by rw [h2];exact List.mem_append.mpr (.inr (a3 p m))⟩
theorem Rs.at':∀ {t:List Tr} {v:List V} {cs:Cs} {i:Nat} {x:Tr},Rs K F B t v cs->Cells F H cs->t[i]?=some x->∃ u c,v[i]?=some u/\R K F B x u c/\Cells F H c/\∀ p∈c,p∈cs
 | x :: xs, _, _, 0, y, ⟨v, r, c, d, h1, h2, h3, h4⟩, hc, h => by
  cases h
  rw [h2] at hc
  exact⟨v,c,by rw [h1];rfl,h3,hc.left,λp m=>by rw [h2];exact List.mem_append.mpr (.inl m)⟩
 | x :: xs, _, _, i + 1, y, ⟨v, r, c, d, h1, h2, h3, h4⟩, hc, h => by
  rw [h2] at hc
  obtain⟨u,e,a1,a2,a3,a4⟩:=Rs.at' (i:=i) h4 hc.right h
  exact⟨u,e,by rw [h1];exact a1,a2,a3,λp m=>by rw [h2];exact List.mem_append.mpr (.inr (a4 p m))⟩
theorem Rk.keys:∀ {t:List (Key×Tr)} {v:List (Key×V)} {cs:Cs},Rk K F B t v cs->v.map (·.1)=t.map (·.1)
 | [], _, _, ⟨h, _⟩ => by rw [h]; rfl
 | (k, x) :: xs, _, _, ⟨v, r, c, d, h1, h2, h3, h4⟩ => by rw [h1, List.map_cons, List.map_cons, Rk.keys h4]
theorem Rk.length {t:List (Key×Tr)} {v:List (Key×V)} {cs:Cs} (h:Rk K F B t v cs):v.length=t.length:=by have:=congrArg List.length h.keys;simpa using this
def look (m:List (Key×Tr)) (k:Key):Option Tr:=(m.find? λp=>decide (p.1=k)).map (·.2)
theorem Rk.look:∀ {t:List (Key×Tr)} {v:List (Key×V)} {cs:Cs} (k:Key),Rk K F B t v cs->Cells F H cs->(look t k=none/\valV v k=none)\/∃ x u c,look t k=some x/\valV v k=some u/\R K F B x u c/\Cells F H c/\∀ p∈c,p∈cs
 | [], _, _, k, ⟨h, _⟩, _ => .inl ⟨rfl, by rw [h]; rfl⟩
 | (k', x) :: xs, _, _, k, ⟨v, r, c, d, h1, h2, h3, h4⟩, hc => by
  rw [h2] at hc
  by_cases e:k'=k
  ·refine .inr ⟨x,v,c,?_,?_,h3,hc.left,λp m=>by rw [h2];exact List.mem_append.mpr (.inl m)⟩
   ·unfold Pu.look;rw [List.find?_cons_of_pos (by simpa using e)];rfl
   ·unfold valV;rw [h1,List.find?_cons_of_pos (by simpa using e)];rfl
  ·have e1:Pu.look ((k',x) :: xs) k=Pu.look xs k:=by unfold Pu.look;rw [List.find?_cons_of_neg (by simpa using e)]
   have e2:valV ((k',v) :: r) k=valV r k:=by unfold valV;rw [List.find?_cons_of_neg (by simpa using e)]
   rw [h1,e1,e2]
   rcases Rk.look (t:=xs) (v:=r) (cs:=d) k h4 hc.right with z | ⟨y,u,c',a1,a2,a3,a4,a5⟩
   ·exact .inl z
   ·exact .inr ⟨y,u,c',a1,a2,a3,a4,λp m=>by rw [h2];exact List.mem_append.mpr (.inr (a5 p m))⟩
theorem R.lstH {f:Fl} {xs:List Tr} {v:V} {cs:Cs} (s:Same F H) (b:∀ k,Same (B k) H) (r:R K F B (.lst f xs) v cs) (c:Cells F H cs):∃ a vs ds,v=.ref a/\SqL K H a vs/\Rs K F B xs vs ds/\Cells F H ds/\∀ p∈ds,p∈cs:=by
 cases f with
 | f => obtain ⟨z, a, vs, h1, h2, h3⟩ := r; exact ⟨a, vs, [], h1, s.seq h2, h3, .nil, λ_ m => nomatch m⟩
 | l k => obtain ⟨z, a, vs, h1, h2, h3⟩ := r; exact ⟨a, vs, [], h1, (b k).seq h2, h3, .nil, λ_ m => nomatch m⟩
 | o =>
  obtain⟨a,vs,ds,h1,h2,h3⟩:=r
  rw [h2] at c
  exact⟨a,vs,ds,h1,SqL.of (c.h _ (.head _)),h3,Cells.right (c:=[_]) c,λp m=>by rw [h2];exact .tail _ m⟩
theorem R.tupH {xs:List Tr} {v:V} {cs:Cs} (s:Same F H) (r:R K F B (.tup xs) v cs):∃ a vs,v=.ref a/\SqT K H a vs/\Rs K F B xs vs cs:=by
 obtain⟨a,vs,h1,h2,h3⟩:=r
 exact⟨a,vs,h1,s.tup h2,h3⟩
theorem R.dicH {f:Fl} {xs:List (Key×Tr)} {v:V} {cs:Cs} (s:Same F H) (b:∀ k,Same (B k) H) (r:R K F B (.dic f xs) v cs) (c:Cells F H cs):∃ a vs ds,v=.ref a/\Rd H a (.dK vs)/\Rk K F B xs vs ds/\Cells F H ds/\∀ p∈ds,p∈cs:=by
 cases f with
 | f => obtain ⟨z, a, vs, h1, h2, h3, _⟩ := r; exact ⟨a, vs, [], h1, s.rd h2, h3, .nil, λ_ m => nomatch m⟩
 | l k => obtain ⟨z, a, vs, h1, h2, h3, _⟩ := r; exact ⟨a, vs, [], h1, (b k).rd h2, h3, .nil, λ_ m => nomatch m⟩
 | o =>
  obtain⟨a,vs,ds,h1,h2,h3,_⟩:=r
  rw [h2] at c
  exact⟨a,vs,ds,h1,Rd.of (c.h _ (.head _)),h3,Cells.right (c:=[_]) c,λp m=>by rw [h2];exact .tail _ m⟩
theorem R.insH {f:Fl} {C:Addr} {xs:List (Str×Tr)} {v:V} {cs:Cs} (s:Same F H) (b:∀ k,Same (B k) H) (r:R K F B (.ins f C xs) v cs) (c:Cells F H cs):∃ a dx vs ds,v=.ref a/\Rd H a (.ins C dx vs)/\Rf K F B xs vs ds/\Cells F H ds/\∀ p∈ds,p∈cs:=by
 cases f with
 | f => obtain ⟨z, a, dx, vs, h1, h2, h3⟩ := r; exact ⟨a, dx, vs, [], h1, s.rd h2, h3, .nil, λ_ m => nomatch m⟩
 | l k => obtain ⟨z, a, dx, vs, h1, h2, h3⟩ := r; exact ⟨a, dx, vs, [], h1, (b k).rd h2, h3, .nil, λ_ m => nomatch m⟩
 | o =>
  obtain⟨a,dx,vs,ds,h1,h2,h3⟩:=r
  rw [h2] at c
  exact⟨a,dx,vs,ds,h1,Rd.of (c.h _ (.head _)),h3,Cells.right (c:=[_]) c,λp m=>by rw [h2];exact .tail _ m⟩
theorem d'q {xs:List Tr} {vs:List V} {cs:Cs} {p:Addr} (s:Same F H) (r:Rs K F B xs vs cs) (c:Cells F H cs) (hp:H p=none):∃ F',Gr F H F' (upd H p (.tup vs))/\R K F' B (.tup xs) (.ref p) cs/\Cells F' (upd H p (.tup vs)) cs:=by
 obtain⟨F',g,e⟩:=al2 (o:=.tup vs) s (by intro _ _ z;cases z) hp
 exact⟨F',g,⟨p,vs,rfl,SqT.of e,r.mo g.le (λk=>Le.refl (B k)) xs⟩,c.gr g⟩
theorem Gr.own1 {o:HO} {p:Addr} (s:Same F H) (hp:H p=none):Gr F H F (upd H p o):=⟨⟨Same.upd hp,Same.refl F,s.updN (s.free hp),λa u h e=>by rw [h] at e;cases e⟩,Fz.refl F⟩
theorem c'm {o:HO} {cs:Cs} {p:Addr} (s:Same F H) (c:Cells F H cs) (hp:H p=none):Cells F (upd H p o) ((p,o) :: cs):=
 ⟨λq m=>by
  cases m with
  | head=>exact a'm
  | tail _ m=>show upd H p o q.1=_;rw [a'f (a's (c.h q m) hp)];exact c.h q m,
 λq m=>by
  cases m with
  | head=>exact s.free hp
  | tail _ m=>exact c.f q m,
 by
  rw [List.map_cons,List.nodup_cons]
  refine⟨λm=>?_,c.nd⟩
  obtain⟨q,mq,e⟩:=List.mem_map.mp m
  have e:q.1=p:=e
  have:=c.h q mq
  rw [e,hp] at this
  cases this⟩
def pTup (pa:PA'):PE':=λρ Q=>pa ρ λxs=>xs.length<=10000/\Q (.tup xs)
def pLst (pa:PA'):PE':=λρ Q=>pa ρ λxs=>xs.length<=10000/\Q (.lst .o xs)
theorem b'u {n:Nat} (h:n<=1000000):n<=sizeLine:=Nat.le_trans h (by decide)
theorem s'q {k:Md} {ta:TA} {pa:PA'} (h:SimA K k ta pa):Sim K k (tTup ta) (pTup pa):=λF B H σ ρ Q Q' c p q=>by
 refine h F B H σ ρ _ _ c p λxs vs F1 H1 c1 p1 o1=>⟨by rw [o1.r.length];exact b'u (Nat.le_trans p1.1 (by decide)),λa ha=>?_⟩
 obtain⟨F2,g,r,c2⟩:=d'q o1.g.s o1.r o1.c ha
 exact q (.tup xs) (.ref a) F2 _ c1 p1.2 ⟨o1.g.trans' g,r,c2,o1.n⟩
theorem s'r {k:Md} {ta:TA} {pa:PA'} (h:SimA K k ta pa):Sim K k (tLst ta) (pLst pa):=λF B H σ ρ Q Q' c p q=>by
 refine h F B H σ ρ _ _ c p λxs vs F1 H1 c1 p1 o1=>⟨by rw [o1.r.length];exact b'u (Nat.le_trans p1.1 (by decide)),λa ha=>?_⟩
 refine q (.lst .o xs) (.ref a) F1 _ ((a,.lst vs) :: c1) p1.2 ⟨o1.g.trans' (Gr.own1 o1.g.s ha),⟨a,vs,c1,rfl,rfl,o1.r⟩,c'm o1.g.s o1.c ha,λp m=>?_⟩
 cases m with
 | head => exact o1.g.h.free ha
 | tail _ m => exact o1.n p m
end
end Pu
namespace Pu
open PySem PySem.Spec PyProof.Rows L2 Vc Sf
section
variable {X:Cx}
def rIxD:R2:=λx y H Q=>∃ a v,x=.ref a/\DGet H a y (some v)/\Q v H
theorem s's (hu:X.A.units+1<cLine):IxR X rIxD:=by
 intro value slice pins s σ H x y v u Q I rx ry h hs
 obtain⟨a,z,rfl,g,q⟩:=h
 obtain rfl:v=Value.ref a:=rx
 have hT:=i'b I g
 unfold subscriptTail
 refine wpAny_bind ?_
 rw [getitemInPython_of_ne hT.not_modules]
 refine wpAny_bind (wpAny_specialOf hT PySem.F.slot_dict_getitem.lookup ?_)
 have fin:wpAny (model X.prog X.w) X.A (subscripted slice false (.ref a) u) (λr s₃=>wpAny (model X.prog X.w) X.A (letTemporaryGo value (.ref a) r >>= λ_=>pure r) (EP X pins σ Q) X.xe s₃) X.xe s:=by
  rw [hs]
  exact wpAny_operating (l'p hu I g ry λw' s3 I3 rw'=>wpAny_bind (wpAny_letTemporaryGo (wpAny_pure ⟨z,H,I3,rw',q⟩)))
 first
  | exact wpAny_pure (wpAny_bind fin)
  | exact wpAny_bind (wpAny_pure (wpAny_bind fin))
  | exact wpAny_bind fin
def rInD (neg:Bool):R2:=λy x H Q=>∃ a o,x=.ref a/\DGet H a y o/\Q (.bl (if neg then !o.isSome else o.isSome)) H
theorem u'z (hu:X.A.units+1<cLine):OpR X (compareOp .In) (rInD false):=by
 intro pins s σ H y x u v Q I ry rx h
 obtain⟨a,o,rfl,g,q⟩:=h
 obtain rfl:v=Value.ref a:=rx
 exact w'J hu I g ry λs3 I3=>⟨.bl o.isSome,H,I3,rfl,q⟩
theorem l'X (hu:X.A.units+1<cLine):OpR X (compareOp .NotIn) (rInD true):=by
 intro pins s σ H y x u v Q I ry rx h
 obtain⟨a,o,rfl,g,q⟩:=h
 obtain rfl:v=Value.ref a:=rx
 exact r'E hu I g ry λs3 I3=>⟨.bl (!o.isSome),H,I3,rfl,q⟩
def rAddU (K:W.Frag):R2:=λx y H Q=>rI0 (λi j=>.int (i+j)) x y H Q\/(λx y H Q=>(λx y H Q=>∃ i j,x=.str i/\y=.str j/\i.length+j.length<=sizeLine/\Q (.str (i++j)) H) x y H Q\/rCatS K x y H Q) x y H Q
theorem w'p:OpR X (binaryOp .Add) (rAddU X.K):=op_add.or (op_add_str.or s'c)
def rMulU:R2:=λx y H Q=>rI CMulX (λi j=>.int (i*j)) x y H Q\/rRepS x y H Q
theorem w'q:OpR X (binaryOp .Mult) rMulU:=op_mulB.or k'x
def rIxU (K:W.Frag):R2:=λx y H Q=>rIx K x y H Q\/rIxD x y H Q
theorem u'A (hu:X.A.units+1<cLine):IxR X (rIxU X.K):=ix_seq.or (s's hu)
def rLtU:R2:=λx y H Q=>rI0 (λi j=>.bl (decide (i<j))) x y H Q\/(λx y H Q=>∃ i j,x=.str i/\y=.str j/\Q (.bl (decide (i.cps.toList<j.cps.toList))) H) x y H Q
theorem d'Z:OpR X (compareOp .Lt) rLtU:=op_lt.or l'k
def rGtU:R2:=λx y H Q=>rI0 (λi j=>.bl (decide (j<i))) x y H Q\/(λx y H Q=>∃ i j,x=.str i/\y=.str j/\Q (.bl (decide (j.cps.toList<i.cps.toList))) H) x y H Q
theorem u'B:OpR X (compareOp .Gt) rGtU:=op_gt.or l'L
end
section
variable {K:W.Frag} {F F' H H':Hp} {B B':Bool->Hp} {k:Md}
def wInt2 (C:Int->Int->Prop) (g:Int->Int->Tr) (x y:Tr) (Q:Tr->Prop):Prop:=match x,y with
 | .int i, .int j => C i j /\ Q (g i j)
 | _, _ => False
theorem k'G {C:Int->Int->Prop} {g:Int->Int->V} {t:Int->Int->Tr} (h:∀ i j F B,R K F B (t i j) (g i j) []):Op2 K k (rI C g) (wInt2 C t):=λF B H x y tx ty cx cy Q Q' s b z rx ry hx hy hd p q=>by
 unfold wInt2 at p
 split at p
 ·obtain⟨rfl,_⟩:=rx
  obtain⟨rfl,_⟩:=ry
  exact⟨_,_,rfl,rfl,p.1,q _ _ F H [] p.2 (Gr.refl' s) (h _ _ F B) .nil λ_ m=>nomatch m⟩
 ·exact p.elim
theorem u'C {g:Int->Int->V} {t:Int->Int->Tr} (h:∀ i j F B,R K F B (t i j) (g i j) []):Op2 K k (rI0 g) (wInt2 (λ_ _=>True) t):=λF B H x y tx ty cx cy Q Q' s b z rx ry hx hy hd p q=>by
 unfold wInt2 at p
 split at p
 ·obtain⟨rfl,_⟩:=rx
  obtain⟨rfl,_⟩:=ry
  exact⟨_,_,rfl,rfl,q _ _ F H [] p.2 (Gr.refl' s) (h _ _ F B) .nil λ_ m=>nomatch m⟩
 ·exact p.elim
def wAdd (x y:Tr) (Q:Tr->Prop):Prop:=match x,y with
 | .int i, .int j => Q (.int (i + j))
 | .str i, .str j => i.length + j.length <= 1000000 /\ Q (.str (i ++ j))
 | .lst _ xs, .lst _ ys => xs.length + ys.length <= 1000000 /\ Q (.lst .o (xs ++ ys))
 | _, _ => False
theorem Rs.append:∀ {xs ys:List Tr} {vs us:List V} {c d:Cs},Rs K F B xs vs c->Rs K F B ys us d->Rs K F B (xs++ys) (vs++us) (c++d)
 | [], _, _, _, _, _, ⟨h1, h2⟩, h => by rw [h1, h2]; exact h
 | x :: xs, _, _, _, _, _, ⟨v, r, c, d, h1, h2, h3, h4⟩, h => by rw [h1, h2]; exact ⟨v, r ++ _, c, d ++ _, rfl, by rw [List.append_assoc], h3, Rs.append h4 h⟩
theorem c'n {xs:List Tr} {vs:List V} {cs:Cs} {p:Addr} (s:Same F H) (r:Rs K F B xs vs cs) (c:Cells F H cs) (hp:H p=none):Gr F H F (upd H p (.lst vs))/\R K F B (.lst .o xs) (.ref p) ((p,.lst vs) :: cs)/\Cells F (upd H p (.lst vs)) ((p,.lst vs) :: cs):=
 ⟨Gr.own1 s hp,⟨p,vs,cs,rfl,rfl,r⟩,c'm s c hp⟩
theorem s't:Op2 K k (rAddU K) wAdd:=λF B H x y tx ty cx cy Q Q' s b z rx ry hx hy hd p q=>by
 unfold wAdd at p
 split at p
 ·obtain⟨rfl,_⟩:=rx
  obtain⟨rfl,_⟩:=ry
  exact .inl ⟨_,_,rfl,rfl,q _ _ F H [] p (Gr.refl' s) ⟨rfl,rfl⟩ .nil λ_ m=>nomatch m⟩
 ·obtain⟨rfl,_⟩:=rx
  obtain⟨rfl,_⟩:=ry
  exact .inr (.inl ⟨_,_,rfl,rfl,b'u p.1,q _ _ F H [] p.2 (Gr.refl' s) ⟨rfl,rfl⟩ .nil λ_ m=>nomatch m⟩)
 ·obtain⟨a,vs,ds,rfl,h1,h2,h3,h4⟩:=rx.lstH s b hx
  obtain⟨a',us,es,rfl,g1,g2,g3,g4⟩:=ry.lstH s b hy
  refine .inr (.inr ⟨_,_,_,_,rfl,rfl,h1,g1,b'u (by rw [h2.length,g2.length];exact p.1),λl hl=>?_⟩)
  obtain⟨n1,n2,n3⟩:=c'n s (h2.append g2) (h3.app g3 λp mp q mq=>hd p (h4 p mp) q (g4 q mq)) hl
  refine q _ _ F _ _ p.2 n1 n2 n3 λp m=>?_
  cases m with
  | head=>exact .inl hl
  | tail _ m=>exact (List.mem_append.mp m).elim (λm=>.inr (.inl (h4 p m))) (λm=>.inr (.inr (g4 p m)))
 ·exact p.elim
def wMul (x y:Tr) (Q:Tr->Prop):Prop:=match x,y with
 | .int i, .int j => CMulX i j /\ Q (.int (i * j))
 | _, _ => False
theorem s'u:Op2 K k rMulU wMul:=λF B H x y tx ty cx cy Q Q' s b z rx ry hx hy hd p q=>by
 unfold wMul at p
 split at p
 ·obtain⟨rfl,_⟩:=rx
  obtain⟨rfl,_⟩:=ry
  exact .inl ⟨_,_,rfl,rfl,p.1,q _ _ F H [] p.2 (Gr.refl' s) ⟨rfl,rfl⟩ .nil λ_ m=>nomatch m⟩
 ·exact p.elim
def keyT:Tr->Option Key
 | .int n => some (.inl n)
 | .str x => some (.inr x)
 | _ => none
theorem e'D {t:Tr} {v:V} {cs:Cs} {y:Key} (r:R K F B t v cs) (h:keyT t=some y):v=kV y:=by
 cases t with
 | int n => cases h; exact r.1
 | str n => cases h; exact r.1
 | _ => cases h
def wIdx (x y:Tr) (Q:Tr->Prop):Prop:=match x,y with
 | .tup xs, .int i => (match atI xs i with | some t => Q t | none => False)
 | .lst _ xs, .int i => (match atI xs i with | some t => Q t | none => False)
 | .str x, .int i => x.length <= 1000000 /\ (match atI x.cps.toList i with | some c => Q (.str ⟨#[c]⟩) | none => False)
 | .dic _ m, y => (match keyT y with | some y => (match look m y with | some t => Q t | none => False) | none => False)
 | _, _ => False
theorem Rs.atI {xs:List Tr} {vs:List V} {cs:Cs} {i:Int} {t:Tr} (r:Rs K F B xs vs cs) (c:Cells F H cs) (h:L2.atI xs i=some t):∃ u d,L2.atI vs i=some u/\R K F B t u d/\Cells F H d/\∀ p∈d,p∈cs:=by
 unfold L2.atI at h ⊢
 rw [r.length]
 cases e:ixN xs.length i with
 | none => rw [e] at h; cases h
 | some j => rw [e] at h; exact r.at' c h
theorem s'v:Op2 K k (rIxU K) wIdx:=λF B H x y tx ty cx cy Q Q' s b z rx ry hx hy hd p q=>by
 unfold wIdx at p
 split at p
 ·obtain⟨rfl,_⟩:=ry
  split at p
  ·rename_i e
   obtain⟨a,vs,rfl,h1,h2⟩:=rx.tupH s
   obtain⟨u,d,e1,e2,e3,e4⟩:=h2.atI hx e
   exact .inl (.inr (.inl ⟨_,_,_,_,rfl,rfl,h1,e1,q _ _ F H d p (Gr.refl' s) e2 e3 λp m=>.inr (.inl (e4 p m))⟩))
  ·exact p.elim
 ·obtain⟨rfl,_⟩:=ry
  split at p
  ·rename_i e
   obtain⟨a,vs,ds,rfl,h1,h2,h3,h4⟩:=rx.lstH s b hx
   obtain⟨u,d,e1,e2,e3,e4⟩:=h2.atI h3 e
   exact .inl (.inl ⟨_,_,_,_,rfl,rfl,h1,e1,q _ _ F H d p (Gr.refl' s) e2 e3 λp m=>.inr (.inl (h4 p (e4 p m)))⟩)
  ·exact p.elim
 ·obtain⟨rfl,_⟩:=ry
  obtain⟨rfl,_⟩:=rx
  obtain⟨hl,p⟩:=p
  split at p
  ·rename_i e
   exact .inl (.inr (.inr ⟨_,_,_,rfl,rfl,b'u hl,e,q _ _ F H [] p (Gr.refl' s) ⟨rfl,rfl⟩ .nil λ_ m=>nomatch m⟩))
  ·exact p.elim
 ·split at p
  ·rename_i e
   split at p
   ·rename_i e'
    obtain⟨a,vs,ds,rfl,h1,h2,h3,h4⟩:=rx.dicH s b hx
    obtain rfl:=e'D ry e
    rcases h2.look _ h3 with ⟨z,_⟩ | ⟨x,u,c,a1,a2,a3,a4,a5⟩
    ·rw [z] at e';cases e'
    ·rw [a1] at e'
     cases e'
     exact .inr ⟨a,u,rfl,.inl ⟨vs,_,h1,rfl,a2.symm⟩,q _ _ F H c p (Gr.refl' s) a3 a4 λp m=>.inr (.inl (h4 p (a5 p m)))⟩
   ·exact p.elim
  ·exact p.elim
 ·exact p.elim
def wLt (x y:Tr) (Q:Tr->Prop):Prop:=match x,y with
 | .int i, .int j => Q (.bl (decide (i < j)))
 | .str i, .str j => Q (.bl (decide (i.cps.toList < j.cps.toList)))
 | _, _ => False
theorem b'R:Op2 K k rLtU wLt:=λF B H x y tx ty cx cy Q Q' s b z rx ry hx hy hd p q=>by
 unfold wLt at p
 split at p
 ·obtain⟨rfl,_⟩:=rx
  obtain⟨rfl,_⟩:=ry
  exact .inl ⟨_,_,rfl,rfl,q _ _ F H [] p (Gr.refl' s) ⟨rfl,rfl⟩ .nil λ_ m=>nomatch m⟩
 ·obtain⟨rfl,_⟩:=rx
  obtain⟨rfl,_⟩:=ry
  exact .inr ⟨_,_,rfl,rfl,q _ _ F H [] p (Gr.refl' s) ⟨rfl,rfl⟩ .nil λ_ m=>nomatch m⟩
 ·exact p.elim
def wGt (x y:Tr) (Q:Tr->Prop):Prop:=match x,y with
 | .int i, .int j => Q (.bl (decide (j < i)))
 | .str i, .str j => Q (.bl (decide (j.cps.toList < i.cps.toList)))
 | _, _ => False
theorem l'Y:Op2 K k rGtU wGt:=λF B H x y tx ty cx cy Q Q' s b z rx ry hx hy hd p q=>by
 unfold wGt at p
 split at p
 ·obtain⟨rfl,_⟩:=rx
  obtain⟨rfl,_⟩:=ry
  exact .inl ⟨_,_,rfl,rfl,q _ _ F H [] p (Gr.refl' s) ⟨rfl,rfl⟩ .nil λ_ m=>nomatch m⟩
 ·obtain⟨rfl,_⟩:=rx
  obtain⟨rfl,_⟩:=ry
  exact .inr ⟨_,_,rfl,rfl,q _ _ F H [] p (Gr.refl' s) ⟨rfl,rfl⟩ .nil λ_ m=>nomatch m⟩
 ·exact p.elim
theorem s'w:Op2 K k (rI0 λi j=>.int (i - j)) (wInt2 (λ_ _=>True) λi j=>.int (i - j)):=u'C λ_ _ _ _=>⟨rfl,rfl⟩
theorem o'Q:Op2 K k (rI CDivB λi j=>.int (i.fdiv j)) (wInt2 CDivB λi j=>.int (i.fdiv j)):=k'G λ_ _ _ _=>⟨rfl,rfl⟩
theorem s'x:Op2 K k (rI (λ_ j=>0<j) λi j=>.int (i % j)) (wInt2 (λ_ j=>0<j) λi j=>.int (i % j)):=k'G λ_ _ _ _=>⟨rfl,rfl⟩
def wNeg (x:Tr) (Q:Tr->Prop):Prop:=match x with
 | .int i => Q (.int (-i))
 | _ => False
theorem s'y:Op1 K k (L2.rU λi=>.int (-i)) wNeg:=λF B H x tx cx Q Q' s b z rx hx p q=>by
 unfold wNeg at p
 split at p
 ·obtain⟨rfl,_⟩:=rx
  exact⟨_,rfl,q _ _ F H [] p (Gr.refl' s) ⟨rfl,rfl⟩ .nil λ_ m=>nomatch m⟩
 ·exact p.elim
def scalT:Tr->Option V
 | .int n => some (.int n) | .bl b => some (.bl b) | .str x => some (.str x) | .non => some .non | _ => none
theorem e'E {t:Tr} {v u:V} {cs:Cs} (r:R K F B t v cs) (h:scalT t=some u):v=u:=by
 cases t with
 | int n => cases h; exact r.1
 | bl n => cases h; exact r.1
 | str n => cases h; exact r.1
 | non => cases h; exact r.1
 | _ => cases h
def wEqS (neg:Bool) (x y:Tr) (Q:Tr->Prop):Prop:=match scalT x,scalT y with
 | some u, some v => scal u v = true /\ Q (.bl (if neg then !decide (u = v) else decide (u = v)))
 | _, _ => False
theorem s'z:Op2 K k rEq (wEqS false):=λF B H x y tx ty cx cy Q Q' s b z rx ry hx hy hd p q=>by
 unfold wEqS at p
 split at p
 ·rename_i e1 e2
  obtain rfl:=e'E rx e1
  obtain rfl:=e'E ry e2
  exact⟨p.1,q _ _ F H [] p.2 (Gr.refl' s) ⟨rfl,rfl⟩ .nil λ_ m=>nomatch m⟩
 ·exact p.elim
theorem s'A:Op2 K k rNe (wEqS true):=λF B H x y tx ty cx cy Q Q' s b z rx ry hx hy hd p q=>by
 unfold wEqS at p
 split at p
 ·rename_i e1 e2
  obtain rfl:=e'E rx e1
  obtain rfl:=e'E ry e2
  exact⟨p.1,q _ _ F H [] p.2 (Gr.refl' s) ⟨rfl,rfl⟩ .nil λ_ m=>nomatch m⟩
 ·exact p.elim
def wBl (x:Tr) (Q:Bool->Prop):Prop:=match x with
 | .bl b => Q b
 | _ => False
def pT (pe:PE'):PB':=λρ Q=>pe ρ λx=>wBl x Q
theorem l'Z {te:TE} {pe:PE'} (h:Sim K k te pe):SimT K k (tB te) (pT pe):=λF B H σ ρ Q Q' c p q=>by
 refine h F B H σ ρ _ _ c p λt v F1 H1 c1 p1 o1=>?_
 unfold wBl at p1
 split at p1
 ·obtain⟨rfl,_⟩:=o1.r
  exact⟨_,rfl,q _ F1 H1 p1 o1.g⟩
 ·exact p1.elim
theorem m'a {te:TE} {pe:PE'} (h:Sim K k te pe):SimT K k (tTest te) (pT pe):=l'Z h
def pAnd (pa pb:PB'):PB':=λρ Q=>pa ρ λc=>if c=true then pb ρ Q else Q false
def pOr (pa pb:PB'):PB':=λρ Q=>pa ρ λc=>if c=true then Q true else pb ρ Q
def pNot (pa:PB'):PB':=λρ Q=>pa ρ λc=>Q (!c)
theorem s'B {ta tb:TT} {pa pb:PB'} (ha:SimT K k ta pa) (hb:SimT K k tb pb):SimT K k (tAnd ta tb) (pAnd pa pb):=λF B H σ ρ Q Q' c p q=>by
 refine ha F B H σ ρ _ _ c p λb F1 H1 p1 g1=>?_
 cases b with
 | true => rw [if_pos rfl]; exact hb F1 B H1 σ ρ _ _ (c.gr g1) p1 λb F2 H2 p2 g2 => q b F2 H2 p2 (g1.trans' g2)
 | false => exact q false F1 H1 p1 g1
theorem u'D {ta tb:TT} {pa pb:PB'} (ha:SimT K k ta pa) (hb:SimT K k tb pb):SimT K k (tOr ta tb) (pOr pa pb):=λF B H σ ρ Q Q' c p q=>by
 refine ha F B H σ ρ _ _ c p λb F1 H1 p1 g1=>?_
 cases b with
 | false => exact hb F1 B H1 σ ρ _ _ (c.gr g1) p1 λb F2 H2 p2 g2 => q b F2 H2 p2 (g1.trans' g2)
 | true => exact q true F1 H1 p1 g1
theorem s'C {ta:TT} {pa:PB'} (ha:SimT K k ta pa):SimT K k (tNot ta) (pNot pa):=λF B H σ ρ Q Q' c p q=>ha F B H σ ρ _ _ c p λb F1 H1 p1 g1=>q (!b) F1 H1 p1 g1
def pAndV (pa pb:PE'):PE':=λρ Q=>pa ρ λx=>wBl x λc=>if c=true then pb ρ Q else Q (.bl false)
def pOrV (pa pb:PE'):PE':=λρ Q=>pa ρ λx=>wBl x λc=>if c=true then Q (.bl true) else pb ρ Q
def pNotV (pa:PE'):PE':=λρ Q=>pa ρ λx=>wBl x λc=>Q (.bl (!c))
theorem Out.bl {F1 H1:Hp} {b:Bool} (g:Gr F H F1 H1):Out K F B H F1 H1 (.bl b) (.bl b) []:=⟨g,⟨rfl,rfl⟩,.nil,.nil⟩
theorem Out.tr {F1 H1 F2 H2:Hp} {t:Tr} {v:V} {cs:Cs} (g:Gr F H F1 H1) (o:Out K F1 B H1 F2 H2 t v cs):Out K F B H F2 H2 t v cs:=⟨g.trans' o.g,o.r,o.c,o.n.back g.h⟩
theorem o'R {ta tb:TE} {pa pb:PE'} (ha:Sim K k ta pa) (hb:Sim K k tb pb):Sim K k (tAndV ta tb) (pAndV pa pb):=λF B H σ ρ Q Q' c p q=>by
 refine ha F B H σ ρ _ _ c p λt v F1 H1 c1 p1 o1=>?_
 unfold wBl at p1
 split at p1
 ·rename_i b
  obtain⟨rfl,_⟩:=o1.r
  refine⟨b,rfl,?_⟩
  cases b with
  | true=>exact hb F1 B H1 σ ρ _ _ (c.gr o1.g) p1 λt v F2 H2 cs p2 o2=>q t v F2 H2 cs p2 (.tr o1.g o2)
  | false=>exact q _ _ F1 H1 [] p1 (.bl o1.g)
 ·exact p1.elim
def pIf (pc:PB') (pa pb:PE'):PE':=λρ Q=>pc ρ λc=>if c=true then pa ρ Q else pb ρ Q
theorem s'D {tc:TT} {ta tb:TE} {pc:PB'} {pa pb:PE'} (hc:SimT K k tc pc) (ha:Sim K k ta pa) (hb:Sim K k tb pb):Sim K k (tIf tc ta tb) (pIf pc pa pb):=λF B H σ ρ Q Q' c p q=>by
 refine hc F B H σ ρ _ _ c p λb F1 H1 p1 g1=>?_
 cases b with
 | true => rw [if_pos rfl] at p1 ⊢; exact ha F1 B H1 σ ρ _ _ (c.gr g1) p1 λt v F2 H2 cs p2 o2 => q t v F2 H2 cs p2 (.tr g1 o2)
 | false => rw [if_neg (by decide)] at p1 ⊢; exact hb F1 B H1 σ ρ _ _ (c.gr g1) p1 λt v F2 H2 cs p2 o2 => q t v F2 H2 cs p2 (.tr g1 o2)
end
end Pu
namespace Pu
open PySem L2 Vc Sf
section
variable {K:W.Frag} {F F' H H':Hp} {B B':Bool->Hp} {k:Md}
mutual
theorem R.low:∀ (t:Tr) {v:V} {cs:Cs},nlt t=true->B false=B' false->R K F B t v cs->R K F B' t v cs
 | .int _, _, _, _, _, h => h
 | .bl _, _, _, _, _, h => h
 | .str _, _, _, _, _, h => h
 | .non, _, _, _, _, h => h
 | .hole, _, _, _, _, h => h
 | .ty _, _, _, _, _, h => h
 | .cl _, _, _, _, _, h => h
 | .exc _, _, _, _, _, h => h
 | .tup xs, _, _, n, e, ⟨a, vs, h1, h2, h3⟩ => ⟨a, vs, h1, h2, Rs.low xs n e h3⟩
 | .lst .f xs, _, _, n, e, ⟨z, a, vs, h1, h2, h3⟩ => ⟨z, a, vs, h1, h2, Rs.low xs n e h3⟩
 | .lst (.l true) xs, _, _, n, _, _ => by cases n
 | .lst (.l false) xs, _, _, n, e, ⟨z, a, vs, h1, h2, h3⟩ => ⟨z, a, vs, h1, by rw [<- e]; exact h2, Rs.low xs n e h3⟩
 | .lst .o xs, _, _, n, e, ⟨a, vs, ds, h1, h2, h3⟩ => ⟨a, vs, ds, h1, h2, Rs.low xs n e h3⟩
 | .dic .f xs, _, _, n, e, ⟨z, a, vs, h1, h2, h3, h4⟩ => ⟨z, a, vs, h1, h2, Rk.low xs n e h3, h4⟩
 | .dic (.l true) xs, _, _, n, _, _ => by cases n
 | .dic (.l false) xs, _, _, n, e, ⟨z, a, vs, h1, h2, h3, h4⟩ => ⟨z, a, vs, h1, by rw [<- e]; exact h2, Rk.low xs n e h3, h4⟩
 | .dic .o xs, _, _, n, e, ⟨a, vs, ds, h1, h2, h3, h4⟩ => ⟨a, vs, ds, h1, h2, Rk.low xs n e h3, h4⟩
 | .ins .f _ xs, _, _, n, e, ⟨z, a, dx, vs, h1, h2, h3⟩ => ⟨z, a, dx, vs, h1, h2, Rf.low xs n e h3⟩
 | .ins (.l true) _ xs, _, _, n, _, _ => by cases n
 | .ins (.l false) _ xs, _, _, n, e, ⟨z, a, dx, vs, h1, h2, h3⟩ => ⟨z, a, dx, vs, h1, by rw [<- e]; exact h2, Rf.low xs n e h3⟩
 | .ins .o _ xs, _, _, n, e, ⟨a, dx, vs, ds, h1, h2, h3⟩ => ⟨a, dx, vs, ds, h1, h2, Rf.low xs n e h3⟩
theorem Rs.low:∀ (t:List Tr) {v:List V} {cs:Cs},nlts t=true->B false=B' false->Rs K F B t v cs->Rs K F B' t v cs
 | [], _, _, _, _, h => h
 | x :: xs, _, _, n, e, ⟨v, r, c, d, h1, h2, h3, h4⟩ => by
  rw [nlts,Bool.and_eq_true] at n
  exact⟨v,r,c,d,h1,h2,R.low x n.1 e h3,Rs.low xs n.2 e h4⟩
theorem Rk.low:∀ (t:List (Key×Tr)) {v:List (Key×V)} {cs:Cs},nltk t=true->B false=B' false->Rk K F B t v cs->Rk K F B' t v cs
 | [], _, _, _, _, h => h
 | (_, x) :: xs, _, _, n, e, ⟨v, r, c, d, h1, h2, h3, h4⟩ => by
  rw [nltk,Bool.and_eq_true] at n
  exact⟨v,r,c,d,h1,h2,R.low x n.1 e h3,Rk.low xs n.2 e h4⟩
theorem Rf.low:∀ (t:List (Str×Tr)) {v:List (Str×V)} {cs:Cs},nltf t=true->B false=B' false->Rf K F B t v cs->Rf K F B' t v cs
 | [], _, _, _, _, h => h
 | (_, x) :: xs, _, _, n, e, ⟨v, r, c, d, h1, h2, h3, h4⟩ => by
  rw [nltf,Bool.and_eq_true] at n
  exact⟨v,r,c,d,h1,h2,R.low x n.1 e h3,Rf.low xs n.2 e h4⟩
end
mutual
/-- what is lent is lent to the callee -/
theorem R.dn {G:Hp} (b:∀ k,Le (B k) G):∀ (t:Tr) {v:V} {cs:Cs},R K F B t v cs->R K F (λ_=>G) (dn t) v cs
 | .int _, _, _, h => h
 | .bl _, _, _, h => h
 | .str _, _, _, h => h
 | .non, _, _, h => h
 | .hole, _, _, h => h
 | .ty _, _, _, h => h
 | .cl _, _, _, h => h
 | .exc _, _, _, h => h
 | .tup xs, _, _, ⟨a, vs, h1, h2, h3⟩ => ⟨a, vs, h1, h2, Rs.dn b xs h3⟩
 | .lst .f xs, _, _, ⟨z, a, vs, h1, h2, h3⟩ => ⟨z, a, vs, h1, h2, Rs.dn b xs h3⟩
 | .lst (.l k) xs, _, _, ⟨z, a, vs, h1, h2, h3⟩ => ⟨z, a, vs, h1, (b k).lst h2, Rs.dn b xs h3⟩
 | .lst .o xs, _, _, ⟨a, vs, ds, h1, h2, h3⟩ => ⟨a, vs, ds, h1, h2, Rs.dn b xs h3⟩
 | .dic .f xs, _, _, ⟨z, a, vs, h1, h2, h3, h4⟩ => ⟨z, a, vs, h1, h2, Rk.dn b xs h3, by rw [dnk_keys]; exact h4⟩
 | .dic (.l k) xs, _, _, ⟨z, a, vs, h1, h2, h3, h4⟩ => ⟨z, a, vs, h1, (b k).dic h2, Rk.dn b xs h3, by rw [dnk_keys]; exact h4⟩
 | .dic .o xs, _, _, ⟨a, vs, ds, h1, h2, h3, h4⟩ => ⟨a, vs, ds, h1, h2, Rk.dn b xs h3, by rw [dnk_keys]; exact h4⟩
 | .ins .f _ xs, _, _, ⟨z, a, dx, vs, h1, h2, h3⟩ => ⟨z, a, dx, vs, h1, h2, Rf.dn b xs h3⟩
 | .ins (.l k) _ xs, _, _, ⟨z, a, dx, vs, h1, h2, h3⟩ => ⟨z, a, dx, vs, h1, b k _ _ (by intro _ _ z; cases z) h2, Rf.dn b xs h3⟩
 | .ins .o _ xs, _, _, ⟨a, dx, vs, ds, h1, h2, h3⟩ => ⟨a, dx, vs, ds, h1, h2, Rf.dn b xs h3⟩
theorem Rs.dn {G:Hp} (b:∀ k,Le (B k) G):∀ (t:List Tr) {v:List V} {cs:Cs},Rs K F B t v cs->Rs K F (λ_=>G) (dns t) v cs
 | [], _, _, h => h
 | x :: xs, _, _, ⟨v, r, c, d, h1, h2, h3, h4⟩ => ⟨v, r, c, d, h1, h2, R.dn b x h3, Rs.dn b xs h4⟩
theorem Rk.dn {G:Hp} (b:∀ k,Le (B k) G):∀ (t:List (Key×Tr)) {v:List (Key×V)} {cs:Cs},Rk K F B t v cs->Rk K F (λ_=>G) (dnk t) v cs
 | [], _, _, h => h
 | (_, x) :: xs, _, _, ⟨v, r, c, d, h1, h2, h3, h4⟩ => ⟨v, r, c, d, h1, h2, R.dn b x h3, Rk.dn b xs h4⟩
theorem Rf.dn {G:Hp} (b:∀ k,Le (B k) G):∀ (t:List (Str×Tr)) {v:List (Str×V)} {cs:Cs},Rf K F B t v cs->Rf K F (λ_=>G) (dnf t) v cs
 | [], _, _, h => h
 | (_, x) :: xs, _, _, ⟨v, r, c, d, h1, h2, h3, h4⟩ => ⟨v, r, c, d, h1, h2, R.dn b x h3, Rf.dn b xs h4⟩
theorem dnk_keys:∀ (xs:List (Key×Tr)),(dnk xs).map (·.1)=xs.map (·.1)
 | [] => rfl
 | (_, _) :: xs => by show _ :: _ = _ :: _; rw [dnk_keys xs]
end
theorem a'U:∀ (xs:List Tr),(dns xs).length=xs.length
 | [] => rfl
 | _ :: xs => by show (dns xs).length + 1 = _; rw [a'U xs]; rfl
end
structure Wld (K:W.Frag) (k:Md) (lo:Nat) (us:List V) (Fb Hb F H:Hp) (σ:St) (ρ:List Tr) (cs:Nat->Cs):Prop where
 g:Gr Fb Hb F H
 z:k.z=true->Fz S0 F
 l:σ.length=ρ.length
 e:∀ (i:Nat) (t:Tr),ρ[i]?=some t->t=.hole\/∃ v,σ[i]?=some (some v)/\R K F (λ_=>Hb) t v (cs i)
 c:∀ i,Cells F H (cs i)
 n:∀ i,New Hb (cs i)
 d:∀ i j,i≠j->∀ p∈cs i,∀ q∈cs j,p.1≠q.1
 p:∀ i,i<lo->σ[i]?=(us[i]?).map some
 x:∀ cls σ' F' H',k.q cls->Gr Fb Hb F' H'->k.E σ' cls none H'
section
variable {K:W.Frag} {k:Md} {lo:Nat} {us:List V} {Fb Hb F H F' H':Hp} {σ:St} {ρ:List Tr} {cs:Nat->Cs}
def Bq (Hb H:Hp):Bool->Hp:=λb=>if b then H else Hb
theorem Wld.cxt (W:Wld K k lo us Fb Hb F H σ ρ cs):Cxt K k F (Bq Hb H) H σ (ρ.map lend) where
 s:=W.g.s
 b:=λb=>by
  cases b with
  | true=>exact Same.refl H
  | false=>exact W.g.h
 z:=W.z
 e:=λi t h=>by
  rw [List.getElem?_map] at h
  cases q:ρ[i]? with
  | none=>rw [q] at h;cases h
  | some u=>
   rw [q] at h
   cases h
   rcases W.e i u q with rfl | ⟨v,h1,h2⟩
   ·exact .inl rfl
   ·refine .inr ⟨v,h1,h2.lend (λb=>?_) u λp m=>(W.c i).h p m⟩
    cases b with
    | true=>exact Le.of W.g.h
    | false=>exact Le.refl _
 x:=λcls F' H' q g=>W.x cls σ F' H' q (W.g.trans' g)
theorem Wld.gr (W:Wld K k lo us Fb Hb F H σ ρ cs) (g:Gr F H F' H'):Wld K k lo us Fb Hb F' H' σ ρ cs:=
 ⟨W.g.trans' g,λh=>g.fz (W.z h),W.l,λi t h=>(W.e i t h).imp id λ⟨v,h1,h2⟩=>⟨v,h1,h2.mo g.le (λ_=>Le.refl _) t⟩,λi=>(W.c i).gr g,W.n,W.d,W.p,W.x⟩
theorem Wld.set {i:Nat} {t:Tr} {v:V} {c:Cs} (W:Wld K k lo us Fb Hb F H σ ρ cs) (hi:lo<=i) (r:R K F (λ_=>Hb) t v c) (hc:Cells F H c) (n:New Hb c) (d:∀ j,j≠i->∀ p∈cs j,∀ q∈c,p.1≠q.1) :
  Wld K k lo us Fb Hb F H (σ.set i (some v)) (ρ.set i t) (λj=>if j=i then c else cs j) where
 g:=W.g
 z:=W.z
 l:=by rw [List.length_set,List.length_set];exact W.l
 e:=λj u h=>by
  by_cases e:j=i
  ·subst e
   have hl:j<ρ.length:=by have:=(List.getElem?_eq_some_iff.mp h).1;rw [List.length_set] at this;exact this
   rw [List.getElem?_set_self hl] at h
   cases h
   exact .inr ⟨v,List.getElem?_set_self (by rw [W.l];exact hl),by rw [if_pos rfl];exact r⟩
  ·rw [List.getElem?_set_ne (λz=>e z.symm)] at h
   rw [if_neg e]
   exact (W.e j u h).imp id λ⟨v,h1,h2⟩=>⟨v,by rw [List.getElem?_set_ne (λz=>e z.symm)];exact h1,h2⟩
 c:=λj=>by
  split
  ·exact hc
  ·exact W.c j
 n:=λj=>by
  split
  ·exact n
  ·exact W.n j
 d:=λa b ne p mp q mq=>by
  by_cases ea:a=i
  ·rw [if_pos ea] at mp
   rw [if_neg (λz=>ne (ea.trans z.symm))] at mq
   exact (d b (λz=>ne (ea.trans z.symm)) q mq p mp).symm
  ·rw [if_neg ea] at mp
   by_cases eb:b=i
   ·rw [if_pos eb] at mq
    exact d a ea p mp q mq
   ·rw [if_neg eb] at mq
    exact W.d a b ne p mp q mq
 p:=λj h=>by rw [List.getElem?_set_ne (by omega)];exact W.p j h
 x:=W.x
theorem Wld.out {i:Nat} {t:Tr} {v:V} {c:Cs} (W:Wld K k lo us Fb Hb F H σ ρ cs) (o:Out K F (Bq Hb H) H F' H' t v c) (hi:lo<=i) (n:nlt t=true) :
  Wld K k lo us Fb Hb F' H' (σ.set i (some v)) (ρ.set i t) (λj=>if j=i then c else cs j):=
 (W.gr o.g).set hi (o.r.low t n rfl) o.c (λp m=>W.g.h.free (o.n p m)) λj _ p mp q mq e=>by
  have:=(W.c j).h p mp
  rw [e,o.n q mq] at this
  cases this
end
structure Pd where
 nx:List Tr->Prop
 rt:Tr->List Tr->Prop
 bk:List Tr->Prop:=λ_=>False
 ct:List Tr->Prop:=λ_=>False
abbrev PS':=Pd->List Tr->Prop
structure Lk (K:W.Frag) (k:Md) (lo:Nat) (us:List V) (Fb Hb:Hp) (D:Ends) (D':Pd):Prop where
 nx:∀ F H σ ρ cs,Wld K k lo us Fb Hb F H σ ρ cs->D'.nx ρ->D.nx σ H
 rt:∀ F H σ ρ cs v t c,Wld K k lo us Fb Hb F H σ ρ cs->R K F (λ_=>Hb) t v c->Cells F H c->New Hb c->(∀ i,∀ p∈cs i,∀ q∈c,p.1≠q.1)->nol t=true->D'.rt t ρ->D.rt v H
 bk:∀ F H σ ρ cs,Wld K k lo us Fb Hb F H σ ρ cs->D'.bk ρ->D.bk σ H
 ct:∀ F H σ ρ cs,Wld K k lo us Fb Hb F H σ ρ cs->D'.ct ρ->D.ct σ H
def SimS (K:W.Frag) (k:Md) (lo:Nat) (ts:TS) (ps:PS'):Prop:=∀ (us:List V) (Fb Hb F H:Hp) (σ:St) (ρ:List Tr) (cs:Nat->Cs) (D:Ends) (D':Pd),Wld K k lo us Fb Hb F H σ ρ cs->ps D' ρ->Lk K k lo us Fb Hb D D'->ts D σ H
section
variable {K:W.Frag} {k:Md} {lo:Nat}
def pSeq (p q:PS'):PS':=λD ρ=>p { D with nx:=q D } ρ
def pNext:PS':=λD ρ=>D.nx ρ
theorem s'E {t u:TS} {p q:PS'} (h:SimS K k lo t p) (h':SimS K k lo u q):SimS K k lo (tSeq t u) (pSeq p q):=λus Fb Hb F H σ ρ cs D D' W p L=>
 h us Fb Hb F H σ ρ cs _ _ W p ⟨λF H σ ρ cs W q=>h' us Fb Hb F H σ ρ cs D D' W q L,L.rt,L.bk,L.ct⟩
theorem o'S:SimS K k lo tNext pNext:=λus Fb Hb F H σ ρ cs D D' W p L=>L.nx F H σ ρ cs W p
def pBrk:PS':=λD ρ=>D.bk ρ
def pCnt:PS':=λD ρ=>D.ct ρ
def pAsg (i:Nat) (pe:PE'):PS':=λD ρ=>pe (ρ.map lend) λt=>nlt t=true/\D.nx (ρ.set i t)
theorem s'F {i:Nat} {te:TE} {pe:PE'} (hi:lo<=i) (h:Sim K k te pe):SimS K k lo (tAsg te (gName i)) (pAsg i pe):=λus Fb Hb F H σ ρ cs D D' W p L=>by
 refine h F (Bq Hb H) H σ _ _ _ W.cxt p λt v F1 H1 c q o=>?_
 exact L.nx F1 H1 _ _ _ (W.out o hi q.1) q.2
def pDrop (pe:PE'):PS':=λD ρ=>pe (ρ.map lend) λ_=>D.nx ρ
def pRet (pe:PE'):PS':=λD ρ=>pe (ρ.map lend) λt=>nol t=true/\D.rt t ρ
theorem s'G {te:TE} {pe:PE'} (h:Sim K k te pe):SimS K k lo (tRet te) (pRet pe):=λus Fb Hb F H σ ρ cs D D' W p L=>by
 refine h F (Bq Hb H) H σ _ _ _ W.cxt p λt v F1 H1 c q o=>?_
 refine L.rt F1 H1 σ ρ cs v t c (W.gr o.g) (o.r.base t q.1) o.c (λp m=>W.g.h.free (o.n p m)) (λi p mp q mq e=>?_) q.1 q.2
 have:=(W.c i).h p mp
 rw [e,o.n q mq] at this
 cases this
def pIfS (pc:PB') (p q:PS'):PS':=λD ρ=>pc (ρ.map lend) λb=>if b=true then p D ρ else q D ρ
theorem u'E {tc:TT} {t u:TS} {pc:PB'} {p q:PS'} (hc:SimT K k tc pc) (h:SimS K k lo t p) (h':SimS K k lo u q):SimS K k lo (tIfS tc t u) (pIfS pc p q):=λus Fb Hb F H σ ρ cs D D' W p L=>by
 refine hc F (Bq Hb H) H σ _ _ _ W.cxt p λb F1 H1 q g=>?_
 cases b with
 | true => exact h us Fb Hb F1 H1 σ ρ cs D D' (W.gr g) q L
 | false => exact h' us Fb Hb F1 H1 σ ρ cs D D' (W.gr g) q L
def pWhl (pc:PB') (pb:PS'):PS':=λD ρ=>∃ I:Nat->List Tr->Prop,(∃ m,I m ρ)/\∀ m ρ,I m ρ->pc (ρ.map lend) λb=>if b=true then pb { D with nx:=λρ'=>∃ m',m'<m/\I m' ρ',ct:=λρ'=>∃ m',m'<m/\I m' ρ',bk:=D.nx } ρ else D.nx ρ
theorem s'H {tc:TT} {tb:TS} {pc:PB'} {pb:PS'} (hc:SimT K k tc pc) (hb:SimS K k lo tb pb):SimS K k lo (tWhile tc tb) (pWhl pc pb):=λus Fb Hb F H σ ρ cs D D' W p L=>by
 obtain⟨I,⟨m0,i0⟩,step⟩:=p
 refine⟨λm σ H=>∃ F ρ cs,Wld K k lo us Fb Hb F H σ ρ cs/\I m ρ,⟨m0,F,ρ,cs,W,i0⟩,?_⟩
 rintro m σ H ⟨F,ρ,cs,W,i⟩
 refine hc F (Bq Hb H) H σ _ _ _ W.cxt (step m ρ i) λb F1 H1 q g=>?_
 cases b with
 | false => exact L.nx F1 H1 σ ρ cs (W.gr g) q
 | true =>
  refine⟨λσ' H'=>∃ m',m'<m/\∃ F ρ cs,Wld K k lo us Fb Hb F H' σ' ρ cs/\I m' ρ,λσ' H' h=>h,?_⟩
  refine hb us Fb Hb F1 H1 σ ρ cs _ _ (W.gr g) q ⟨?_,L.rt,?_,?_⟩
  ·exact λF H σ ρ cs W ⟨m',l,i⟩=>⟨m',l,F,ρ,cs,W,i⟩
  ·exact L.nx
  ·exact λF H σ ρ cs W ⟨m',l,i⟩=>⟨m',l,F,ρ,cs,W,i⟩
end
end Pu
namespace Pu
open PySem L2 Vc Sf
abbrev PSp:=List Tr->(Tr->List Tr->Prop)->Prop
abbrev PSpX:=List Tr->(Tr->List Tr->Prop)->(Value->Prop)->Prop
def spX (K:W.Frag) (z:Bool) (lo n:Nat) (ps:PSpX):Sp:=λvs H Q E=>vs.length=n/\∃ (F Hb:Hp) (ts:List Tr) (cs:Nat->Cs) (Q':Tr->List Tr->Prop) (q:Value->Prop),Wld K ⟨z,λ_=>E,q⟩ lo vs F Hb F H (vs.map some) ts cs/\ps ts Q' q/\
 ∀ F' H' σ' ρ' cs' v t c,Wld K ⟨z,λ_=>E,q⟩ lo vs F Hb F' H' σ' ρ' cs'->R K F' (λ_=>Hb) t v c->Cells F' H' c->New Hb c->(∀ i,∀ p∈cs' i,∀ q∈c,p.1≠q.1)->nol t=true->Q' t ρ'->Q v H'
def spP (K:W.Frag) (z:Bool) (lo n:Nat) (ps:PSp):Sp:=spX K z lo n λxs Q _=>ps xs Q
theorem Wld.md {K:PySem.W.Frag} {k k':Md} {lo:Nat} {us:List V} {Fb Hb F H:Hp} {σ:St} {ρ:List Tr} {cs:Nat->Cs} (W:Wld K k lo us Fb Hb F H σ ρ cs) (hz:k'.z=true->k.z=true) (x:∀ cls σ' F' H',k'.q cls->Gr Fb Hb F' H'->k'.E σ' cls none H'):Wld K k' lo us Fb Hb F H σ ρ cs:=⟨W.g,λh=>W.z (hz h),W.l,W.e,W.c,W.n,W.d,W.p,x⟩
section
variable {K:W.Frag} {k:Md} {lo:Nat} {us:List V} {Fb Hb F H F' H':Hp} {σ:St} {ρ:List Tr} {cs:Nat->Cs}
theorem Wld.start {vs:List V} (N:List Str) (hlo:lo<=vs.length) (W:Wld K k lo us Fb Hb F H (vs.map some) ρ cs):Wld K k lo us Fb Hb F H (start N vs) (ρ++List.replicate (N.length - ρ.length) .hole) cs where
 g:=W.g
 z:=W.z
 l:=by
  have:=W.l
  rw [List.length_map] at this
  show (vs.map some++List.replicate (N.length - vs.length) none).length=_
  rw [List.length_append,List.length_append,List.length_replicate,List.length_replicate,List.length_map,this]
 e:=λi t h=>by
  have hl:=W.l
  rcases Nat.lt_or_ge i ρ.length with z | z
  ·rw [List.getElem?_append_left z] at h
   exact (W.e i t h).imp id λ⟨v,h1,h2⟩=>⟨v,by show (vs.map some++List.replicate (N.length - vs.length) none)[i]?=_;rw [List.getElem?_append_left (by rw [hl];exact z)];exact h1,h2⟩
  ·rw [List.getElem?_append_right z] at h
   have m:=List.mem_of_getElem? h
   exact .inl (List.mem_replicate.mp m).2
 c:=W.c
 n:=W.n
 d:=W.d
 p:=λi h=>by
  have e:=W.p i h
  show (vs.map some++List.replicate (N.length - vs.length) none)[i]?=_
  rw [List.getElem?_append_left (by rw [List.length_map];omega)];exact e
 x:=W.x
end
theorem Rs.split {K:W.Frag} {F H:Hp} {B:Bool->Hp}:∀ {ts:List Tr} {vs:List V} {c:Cs},Rs K F B ts vs c->Cells F H c->∃ cs:Nat->Cs,(∀ (i:Nat) (t:Tr),ts[i]?=some t->∃ v,vs[i]?=some v/\R K F B t v (cs i))/\(∀ i,∀ p∈cs i,p∈c)/\(∀ i,Cells F H (cs i))/\∀ i j,i≠j->∀ p∈cs i,∀ q∈cs j,p.1≠q.1
 | [], _, _, _, _ => ⟨λ_ => [], λi t h => (by cases h), λ_ _ m => (nomatch m), λ_ => .nil, λ_ _ _ _ m => nomatch m⟩
 | x :: xs, _, _, ⟨v, r, c, d, h1, h2, h3, h4⟩, hc => by
  rw [h2] at hc
  obtain⟨cs,a1,a2,a3,a4⟩:=Rs.split h4 hc.right
  have dj:∀ p∈c,∀ q∈d,p.1≠q.1:=λp mp q mq=>by
   have:=hc.nd
   rw [List.map_append,List.nodup_append] at this
   exact this.2.2 _ (List.mem_map.mpr ⟨p,mp,rfl⟩) _ (List.mem_map.mpr ⟨q,mq,rfl⟩)
  refine⟨λi=>match i with | 0=>c | j+1=>cs j,λi t h=>?_,λi p m=>?_,λi=>?_,λi j ne p mp q mq=>?_⟩
  ·cases i with
   | zero=>cases h;exact⟨v,by rw [h1];rfl,h3⟩
   | succ j=>obtain⟨u,b1,b2⟩:=a1 j t h;exact⟨u,by rw [h1];exact b1,b2⟩
  ·rw [h2]
   cases i with
   | zero=>exact List.mem_append.mpr (.inl m)
   | succ j=>exact List.mem_append.mpr (.inr (a2 j p m))
  ·cases i with
   | zero=>exact hc.left
   | succ j=>exact a3 j
  ·cases i with
   | zero=>
    cases j with
    | zero=>exact absurd rfl ne
    | succ j=>exact dj p mp q (a2 j q mq)
   | succ i=>
    cases j with
    | zero=>exact (dj q mq p (a2 i p mp)).symm
    | succ j=>exact a4 i j (λz=>ne (by rw [z])) p mp q mq
section
variable {P:Program} {w:World} {K:W.Frag} {mg:Str->Option Value} {base:Heap}
theorem s'I {z:Bool} {lo:Nat} {x qual:Str} {st:Stmt} {f:Addr} {fd:FuncData} {N ps:List Str} {m n:Nat} {psp:PSp} (F:Fun K x qual st f fd) (S:FnScope N ps (defScope st)) (hn:ps.length=n) (hlo:lo<=n)
  (body:∀ (cdv:Value) (A:Around) (outer:List Env) (s:Shared) (H:Hp) (E:XK),Room m (A.deeper (PyProof.Rows.envOfC qual (defScope st) s.heap.objs.size f cdv))->
   ∃ ts pb,PSs (cxOf CX0 P w K mg base N qual (defScope st) f cdv A outer s H E).nox (defBody st) ts/\SimS K (Md.base z) lo ts pb/\∀ xs Q',xs.length=n->psp xs Q'->pb { nx:=λρ=>Q' .non ρ,rt:=Q' } (xs++List.replicate (N.length - n) .hole)) :
  FnOk P w K mg base CX0 (m+1) f fd ps (spP K z lo n psp):=by
 refine F.ok S (λvs H Q E h=>h.1.trans hn.symm) (λcdv A outer s H vs Q E hr h=>?_)
 obtain⟨hl,F0,Hb,ts,cs,Q',q,W,p,post⟩:=h
 obtain⟨tS,pb,hP,hS,hp⟩:=body cdv A outer s H E hr
 have hlt:ts.length=n:=by have:=W.l;rw [List.length_map] at this;omega
 refine⟨tS,hP,hS vs F0 Hb F0 H _ _ cs _ { nx:=λρ=>Q' .non ρ,rt:=Q' } ((W.start N (by omega)).md id λ_ _ _ _ h=>h.elim) (by rw [hlt];exact hp ts Q' hlt p) ⟨?_,?_,λ_ _ _ _ _ _ (h:False)=>h.elim,λ_ _ _ _ _ _ (h:False)=>h.elim⟩⟩
 ·exact λF H σ ρ cs W' q=>post F H σ ρ cs .non .non [] (W'.md id W.x) ⟨rfl,rfl⟩ .nil .nil (λ_ _ _ _ m=>nomatch m) rfl q
 ·exact λF H σ ρ cs v t c W' r hc n d nl q=>post F H σ ρ cs v t c (W'.md id W.x) r hc n d nl q
end
section
variable {K:W.Frag} {k k':Md} {F F' H H' H1 F1:Hp}
theorem c'Z {c:Cs} {p:Addr×HO} (m:p∈c):hdn (c.map (·.1)) H p.1=none:=u'w (List.mem_map.mpr ⟨p,m,rfl⟩)
theorem d'r {c:Cs} {a:Addr} {o:HO} (n:New H c) (h:H a=some o):a ∉ c.map (·.1):=λm=>by
 obtain⟨p,mp,rfl⟩:=List.mem_map.mp m
 rw [n p mp] at h
 cases h
theorem _root_.Vc.Gr.hdn {c:Cs} (g:Gr F H F1 H1) (n:New H c) (g':Gr F1 (hdn (c.map (·.1)) H1) F' H'):Gr F H F' H':=
 Gr.of ⟨λa u e=>g'.h a u (c'Y (d'r n e) (g.h a u e)),g.f.trans g'.f,g'.s,λa u e z=>by
  cases q:F1 a with
  | some y=>exact g.n a y q z
  | none=>
   have h:=g'.n a u e q
   by_cases m:a∈c.map (·.1)
   ·obtain⟨p,mp,rfl⟩:=List.mem_map.mp m
    exact n p mp
   ·unfold Vc.hdn at h
    rw [if_neg m] at h
    exact g.h.free h⟩ (g'.fz g.z)
def pCallX (q:Value->Prop) (psp:PSpX) (pa:PA'):PE':=λρ Q=>pa ρ λts=>psp (dns ts) (λt _=>Q t) q
def pCall (psp:PSp) (pa:PA'):PE':=λρ Q=>pa ρ λts=>psp (dns ts) λt _=>Q t
theorem m'b {n:Nat} {z:Bool} {psp:PSpX} {ta:TA} {pa:PA'} {R':St->XK} {q':Value->Prop} (hE:∀ (F:Hp) (B:Bool->Hp) (H:Hp) (σ:St) (ρ:List Tr),Cxt K k F B H σ ρ->∀ cls F' H',q' cls->Gr F H F' H'->R' σ cls none H') (hk:z=true->k.z=true) (hn:∀ xs Q q,psp xs Q q->xs.length=n) (h:SimA K k ta pa):Sim K k (tCallX (spX K z 0 n psp) [] R' ta) (pCallX q' psp pa):=λF B H σ ρ Q Q' c p q=>by
 refine h F B H σ ρ _ _ c p λts vs F1 H1 c1 p1 o1=>?_
 rw [List.append_nil]
 obtain⟨cs,a1,a2,a3,a4⟩:=o1.r.split o1.c
 have hl:vs.length=n:=by rw [o1.r.length,<- hn _ _ _ p1,a'U]
 have hb:∀ k,Same (B k) (hdn (c1.map (·.1)) H1):=λk a o e=>c'Y (d'r o1.n (c.b k a o e)) (o1.g.h _ _ (c.b k a o e))
 refine⟨hl,F1,hdn (c1.map (·.1)) H1,dns ts,cs,_,q',⟨⟨g'Y o1.g.s,Fz.refl F1⟩,λh=>o1.g.fz (c.z (hk h)),by rw [List.length_map,a'U,o1.r.length],?_,a3,λi p m=>c'Z (a2 i p m),a4,λi h=>absurd h (Nat.not_lt_zero i),λcls _ F' H' h g=>hE F B H σ ρ c cls F' H' h (o1.g.hdn o1.n g)⟩,p1,?_⟩
 ·intro i t h
  have hi:i<ts.length:=by have:=(List.getElem?_eq_some_iff.mp h).1;rw [a'U] at this;exact this
  have e:∀ (ts:List Tr) (i:Nat),(dns ts)[i]?=ts[i]?.map dn:=by
   intro ts
   induction ts with
   | nil=>intro i;rfl
   | cons x xs ih=>intro i;cases i with
    | zero=>rfl
    | succ j=>exact ih j
  rw [e] at h
  cases z:ts[i]? with
  | none=>rw [z] at h;cases h
  | some u=>
   rw [z] at h
   cases h
   obtain⟨v,b1,b2⟩:=a1 i u z
   exact .inr ⟨v,by rw [List.getElem?_map,b1];rfl,b2.dn (λk=>Le.of (hb k)) u⟩
 ·intro F' H' σ' ρ' cs' v t c' W r hc nw dj nl qt
  refine q t v F' H' c' qt ⟨o1.g.hdn o1.n W.g,r.base t nl,hc,λp m=>?_⟩
  have z:=nw p m
  by_cases mc:p.1∈c1.map (·.1)
  ·obtain⟨q,mq,e⟩:=List.mem_map.mp mc
   have e:q.1=p.1:=e
   rw [<- e]
   exact o1.n q mq
  ·unfold hdn at z
   rw [if_neg mc] at z
   exact o1.g.h.free z
theorem o'T {n:Nat} {z:Bool} {psp:PSp} {ta:TA} {pa:PA'} {E:XK} (hk:z=true->k.z=true) (hn:∀ xs Q,psp xs Q->xs.length=n) (h:SimA K k ta pa):Sim K k (tCall (spP K z 0 n psp) [] E ta) (pCall psp pa):=
 m'b (R':=λ_=>E) (q':=λ_=>False) (psp:=λxs Q _=>psp xs Q) (λ_ _ _ _ _ _ _ _ _ h=>h.elim) hk (λxs Q _=>hn xs Q) h
def OpA (K:W.Frag) (k:Md) (r:List V->Hp->VK->Prop) (pr:List Tr->(Tr->Prop)->Prop):Prop:=∀ (F:Hp) (B:Bool->Hp) (H:Hp) (xs:List V) (ts:List Tr) (cx:Cs) (Q:VK) (Q':Tr->Prop),Same F H->(∀ k,Same (B k) H)->(k.z=true->Fz S0 F)->Rs K F B ts xs cx->Cells F H cx->pr ts Q'->
 (∀ t v F' H' cs,Q' t->Gr F H F' H'->R K F' B t v cs->Cells F' H' cs->(∀ p∈cs,H p.1=none\/p∈cx)->Q v H')->r xs H Q
def pB (pr:List Tr->(Tr->Prop)->Prop) (pa:PA'):PE':=λρ Q=>pa ρ λts=>pr ts Q
theorem m'c {r:List V->Hp->VK->Prop} {pr:List Tr->(Tr->Prop)->Prop} {ta:TA} {pa:PA'} (o:OpA K k r pr) (h:SimA K k ta pa):Sim K k (tCB r ta) (pB pr pa):=λF B H σ ρ Q Q' c p q=>by
 refine h F B H σ ρ _ _ c p λts vs F1 H1 c1 p1 o1=>?_
 refine o F1 B H1 vs ts c1 Q Q' o1.g.s (λk=>(c.b k).trans o1.g.h) (λh=>o1.g.fz (c.z h)) o1.r o1.c p1 λt v F2 H2 cs qt g r' c' n=>?_
 refine q t v F2 H2 cs qt ⟨o1.g.trans' g,r',c',λp m=>?_⟩
 rcases n p m with z | z
 ·exact o1.g.h.free z
 ·exact o1.n p z
theorem Rs.one {F:Hp} {B:Bool->Hp} {t:Tr} {xs:List V} {cs:Cs} (r:Rs K F B [t] xs cs):∃ v,xs=[v]/\R K F B t v cs:=by
 obtain⟨v,r,c,d,h1,h2,h3,rfl,rfl⟩:=r
 rw [List.append_nil] at h2
 exact⟨v,h1,by rw [h2];exact h3⟩
def wAbs (ts:List Tr) (Q:Tr->Prop):Prop:=match ts with
 | [.int i] => Q (.int (if i < 0 then -i else i))
 | _ => False
theorem d's:OpA K k (λxs H Q=>∃ i,xs=[.int i]/\Q (.int (if i<0 then -i else i)) H) wAbs:=λF B H xs ts cx Q Q' s b z r hc p q=>by
 unfold wAbs at p
 split at p
 ·obtain⟨v,rfl,rfl,_⟩:=r.one
  exact⟨_,rfl,q _ _ F H [] p (Gr.refl' s) ⟨rfl,rfl⟩ .nil λ_ m=>nomatch m⟩
 ·exact p.elim
end
end Pu
namespace Pu
open PySem L2 Vc Sf
structure QE (X:Cx) (k:Md) (e:Expr) (pe:PE'):Prop where
 h:∃ te,PE X e te/\Sim X.K k te pe
structure QT (X:Cx) (k:Md) (e:Expr) (pe:PB'):Prop where
 h:∃ te,PT X e te/\SimT X.K k te pe
structure QW (X:Cx) (k:Md) (e:Expr) (pe:PB'):Prop where
 h:∃ te,PW X e te/\SimT X.K k te pe
structure QA (X:Cx) (k:Md) (es:List Expr) (pa:PA'):Prop where
 h:∃ ta,PA X es ta/\SimA X.K k ta pa
structure QS (X:Cx) (k:Md) (lo:Nat) (st:Stmt) (ps:PS'):Prop where
 h:∃ ts,PS X st ts/\SimS X.K k lo ts ps
structure QB (X:Cx) (k:Md) (lo:Nat) (sts:List Stmt) (ps:PS'):Prop where
 h:∃ ts,PSs X sts ts/\SimS X.K k lo ts ps
section
variable {X:Cx} {k:Md} {lo:Nat} {a b c:Expr} {pa pb pc:PE'} {pos:Pos}
theorem qv (i:Nat) {x:Str} (hN:X.N[i]?=some x:=by rfl) (hv:Vis X.env.scope x:=by first | exact Or.inl rfl | exact Or.inr (Or.inl rfl) | exact Or.inr (Or.inr rfl)) (hd:(x == ("__debug__":Str))=false:=by decide) (hcd:(x == ("__classdict__":Str))=false:=by decide):QE X k (.Name x pos) (pVar i):=⟨_,c'i hN hv hd hcd,s'n i⟩
theorem a'b {i j}:QE X k (.Constant (.int i) j pos) (pC (.int i)):=⟨_,l'd,s'o⟩
theorem a'g {i j}:QE X k (.Constant (.str i) j pos) (pC (.str i)):=⟨_,t'C,s'p⟩
theorem f'd {i j}:QE X k (.Constant (.bool i) j pos) (pC (.bl i)):=⟨_,w'a,u'x⟩
theorem e'F {x:Str} {u:Value} {t:Tr} (v:V) (hg:Gl X x) (hm:X.mg x=some u) (r:RelV v u) (ht:∀ F B,R X.K F B t v []) (hd:(x == ("__debug__":Str))=false:=by decide):QE X k (.Name x pos) (pC t):=⟨_,i'h hg hm r hd,e'B ht⟩
theorem d't {op:Operator} {r:R2} {pr:Tr->Tr->(Tr->Prop)->Prop} (ho:OpR X (binaryOp op) r) (hs:Op2 X.K k r pr) (ha:QE X k a pa) (hb:QE X k b pb):QE X k (.BinOp a op b pos) (p2 pr pa pb):=by
 obtain⟨ta,h1,h2⟩:=ha.h
 obtain⟨tb,g1,g2⟩:=hb.h
 exact⟨_,w'd ho h1 g1,e'C hs h2 g2⟩
theorem a'A (ha:QE X k a pa) (hb:QE X k b pb):QE X k (.BinOp a .Add b pos) (p2 wAdd pa pb):=d't w'p s't ha hb
theorem p'N (ha:QE X k a pa) (hb:QE X k b pb):QE X k (.BinOp a .Sub b pos) (p2 (wInt2 (λ_ _=>True) λi j=>.int (i - j)) pa pb):=d't t'P s'w ha hb
theorem a'F (ha:QE X k a pa) (hb:QE X k b pb):QE X k (.BinOp a .Mult b pos) (p2 wMul pa pb):=d't w'q s'u ha hb
theorem a'V (ha:QE X k a pa) (hb:QE X k b pb):QE X k (.BinOp a .FloorDiv b pos) (p2 (wInt2 CDivB λi j=>.int (i.fdiv j)) pa pb):=d't o'q o'Q ha hb
theorem a'B (ha:QE X k a pa) (hb:QE X k b pb):QE X k (.BinOp a .Mod b pos) (p2 (wInt2 (λ_ j=>0<j) λi j=>.int (i % j)) pa pb):=d't t'Q s'x ha hb
theorem p'O (ha:QE X k a pa):QE X k (.UnaryOp .USub a pos) (p1 wNeg pa):=by
 obtain⟨ta,h1,h2⟩:=ha.h
 exact⟨_,w'e t'S h1,u'y s'y h2⟩
theorem a'h (hu:X.A.units+1<cLine) (ha:QE X k a pa) (hb:QE X k b pb) (hs:PlainIx b):QE X k (.Subscript a b pos) (p2 wIdx pa pb):=by
 obtain⟨ta,h1,h2⟩:=ha.h
 obtain⟨tb,g1,g2⟩:=hb.h
 exact⟨_,p'I (u'A hu) h1 g1 hs,e'C s'v h2 g2⟩
theorem p'P {op:CmpOp} {r:R2} {pr:Tr->Tr->(Tr->Prop)->Prop} (ho:OpR X (compareOp op) r) (hs:Op2 X.K k r pr) (ha:QE X k a pa) (hb:QE X k b pb) (hm:behindInMarks op b=false):QE X k (.Compare a [op] [b] pos) (p2 pr pa pb):=by
 obtain⟨ta,h1,h2⟩:=ha.h
 obtain⟨tb,g1,g2⟩:=hb.h
 exact⟨_,r'y ho h1 g1 hm,e'C hs h2 g2⟩
theorem a'j {op:CmpOp} {r:R2} {pr:Tr->Tr->(Tr->Prop)->Prop} (ho:OpR X (compareOp op) r) (hs:Op2 X.K k r pr) (ha:QE X k a pa) (hb:QE X k b pb) (hm:behindInMarks op b=false):QT X k (.Compare a [op] [b] pos) (pT (p2 pr pa pb)):=by
 obtain⟨ta,h1,h2⟩:=ha.h
 obtain⟨tb,g1,g2⟩:=hb.h
 exact⟨_,r'z ho h1 g1 hm,m'a (e'C hs h2 g2)⟩
theorem b'J {e:Expr} {pe:PE'} (h:QE X k e pe) (he:∀ whole,isTrue e X.env whole=(do let v <- whole;standAt e.pos;holding [v] (truthy v)):=by intro _;rfl):QT X k e (pT pe):=by
 obtain⟨te,h1,h2⟩:=h.h
 exact⟨_,t'D h1 he,l'Z h2⟩
theorem d'u {e:Expr} {pe:PB'} (h:QT X k e pe):QT X k (.UnaryOp .Not e pos) (pNot pe):=by
 obtain⟨te,h1,h2⟩:=h.h
 exact⟨_,t'G h1,s'C h2⟩
theorem QW.t {e:Expr} {pe:PB'} (h:QW X k e pe):QT X k e pe:=by
 obtain⟨te,h1,h2⟩:=h.h
 exact⟨_,h1.pt,h2⟩
theorem f'e {e:Expr} {pe:PB'} (h:QT X k e pe):QW X k (.BoolOp .And [e] pos) pe:=by
 obtain⟨te,h1,h2⟩:=h.h
 exact⟨_,r't h1,h2⟩
theorem b'S {e:Expr} {pe:PB'} (h:QT X k e pe):QW X k (.BoolOp .Or [e] pos) pe:=by
 obtain⟨te,h1,h2⟩:=h.h
 exact⟨_,t'E h1,h2⟩
theorem h'a {e f:Expr} {r:List Expr} {pe pf:PB'} (h:QT X k e pe) (h':QW X k (.BoolOp .And (f :: r) pos) pf):QW X k (.BoolOp .And (e :: f :: r) pos) (pAnd pe pf):=by
 obtain⟨te,h1,h2⟩:=h.h
 obtain⟨tf,g1,g2⟩:=h'.h
 exact⟨_,t'F h1 g1,s'B h2 g2⟩
theorem b'K {e f:Expr} {r:List Expr} {pe pf:PB'} (h:QT X k e pe) (h':QW X k (.BoolOp .Or (f :: r) pos) pf):QW X k (.BoolOp .Or (e :: f :: r) pos) (pOr pe pf):=by
 obtain⟨te,h1,h2⟩:=h.h
 obtain⟨tf,g1,g2⟩:=h'.h
 exact⟨_,w'b h1 g1,u'D h2 g2⟩
theorem p'Q {op} {e:Expr} {pe:PE'} (h:QE X k e pe):QE X k (.BoolOp op [e] pos) pe:=by
 obtain⟨te,h1,h2⟩:=h.h
 exact⟨_,t'H h1,h2⟩
theorem p'R {e f:Expr} {r:List Expr} {pe pf:PE'} (h:QE X k e pe) (h':QE X k (.BoolOp .And (f :: r) pos) pf):QE X k (.BoolOp .And (e :: f :: r) pos) (pAndV pe pf):=by
 obtain⟨te,h1,h2⟩:=h.h
 obtain⟨tf,g1,g2⟩:=h'.h
 exact⟨_,t'I h1 g1,o'R h2 g2⟩
theorem w'r {pt:PB'} (hc:QT X k c pt) (ha:QE X k a pa) (hb:QE X k b pb):QE X k (.IfExp c a b pos) (pIf pt pa pb):=by
 obtain⟨tc,h1,h2⟩:=hc.h
 obtain⟨ta,g1,g2⟩:=ha.h
 obtain⟨tb,f1,f2⟩:=hb.h
 exact⟨_,o'b h1 g1 f1,s'D h2 g2 f2⟩
theorem a'c:QA X k [] pNil:=⟨_,b'O,i'D⟩
theorem a'a {es:List Expr} {ps:PA'} (h:QE X k a pa) (h':QA X k es ps) (hs:starEach (a :: es) X.env=(false,eval a X.env) :: starEach es X.env:=by rfl):QA X k (a :: es) (pCons pa ps):=by
 obtain⟨te,h1,h2⟩:=h.h
 obtain⟨tf,g1,g2⟩:=h'.h
 exact⟨_,b'q h1 g1 hs,o'P h2 g2⟩
theorem a'z {es:List Expr} {ps:PA'} {x1} (h:QA X k es ps):QE X k (.Tuple es x1 pos) (pTup ps):=by
 obtain⟨te,h1,h2⟩:=h.h
 exact⟨_,g'z h1,s'q h2⟩
theorem a'x {es:List Expr} {ps:PA'} (h:QA X k es ps):QE X k (.List es pos) (pLst ps):=by
 obtain⟨te,h1,h2⟩:=h.h
 exact⟨_,t'U h1,s'r h2⟩
theorem a'i {z:Bool} {n m:Nat} {psp:PSp} {f:Addr} {fd:FuncData} {pn:List Str} {e:Expr} {es:List Expr} {ps:PA'} {x:Str} {p:Pos} (G:FnOk X.prog X.w X.K X.mg X.base CX0 m f fd pn (spP X.K z 0 n psp)) (hk:z=true->k.z=true) (hn:∀ xs Q,psp xs Q->xs.length=n) (hr:Room m X.A) (hg:Gl X x) (hm:X.mg x=some (.ref f)) (hkp:W.keepIn X.K (.ref f)=true) (hb:Binds X.K fd pn []) (ha:QA X k (e :: es) ps) (hdb:(x == ("__debug__":Str))=false:=by decide) (he:starEach (e :: es) X.env=(false,eval e X.env) :: starEach es X.env:=by rfl) (hpl:(backTo pos (starEach es X.env)).any (·.1)=false:=by rfl) :
  QE X k (.Call (.Name x p) (e :: es) [] pos) (pCall psp ps):=by
 obtain⟨ta,h1,h2⟩:=ha.h
 exact⟨_,r'D (E:=E0) G hr hg hm hkp hb .nil g'q h1 hdb he hpl,o'T hk hn h2⟩
theorem b'p {r:List V->Hp->VK->Prop} {pr:List Tr->(Tr->Prop)->Prop} {id:String} {x:Str} {p:Pos} {e:Expr} {es:List Expr} {ps:PA'} (hc:CallR X (.builtin id) r) (ho:OpA X.K k r pr) (hg:Gl X x) (hm:X.mg x=none) (hv:bootBuiltins x=some (.builtin id)) (ha:QA X k (e :: es) ps) (hn:x≠"__name__":=by decide) (hdb:(x == ("__debug__":Str))=false:=by decide) (he:starEach (e :: es) X.env=(false,eval e X.env) :: starEach es X.env:=by rfl) (hpl:(backTo pos (starEach es X.env)).any (·.1)=false:=by rfl) :
  QE X k (.Call (.Name x p) (e :: es) [] pos) (pB pr ps):=by
 obtain⟨ta,h1,h2⟩:=ha.h
 exact⟨_,g'B hc hg hm hv h1 hn hdb he hpl,m'c ho h2⟩
theorem a'q:QB X k lo [] pNext:=⟨_,r'u,o'S⟩
theorem a'e {st:Stmt} {r:List Stmt} {p q:PS'} (h:QS X k lo st p) (h':QB X k lo r q):QB X k lo (st :: r) (pSeq p q):=by
 obtain⟨te,h1,h2⟩:=h.h
 obtain⟨tf,g1,g2⟩:=h'.h
 exact⟨_,o'c h1 g1,s'E h2 g2⟩
theorem a'd {st:Stmt} {p:PS'} (h:QS X k lo st p):QB X k lo [st] p:=by
 obtain⟨te,h1,h2⟩:=h.h
 exact⟨_,r'v h1,h2⟩
def pNever:PS':=λ_ _=>False
theorem b'A {st:Stmt}:QS X k lo st pNever:=⟨_,o'd,λ_ _ _ _ _ _ _ _ _ _ _ h _=>h⟩
theorem a'k {e:Expr} {pe:PE'} (h:QE X k e pe):QS X k lo (.Return (some e) pos) (pRet pe):=by
 obtain⟨te,h1,h2⟩:=h.h
 exact⟨_,l'e h1,s'G h2⟩
theorem a'v {e:Expr} {pe:PB'} {s1 s2:List Stmt} {p q:PS'} (hc:QT X k e pe) (h:QB X k lo s1 p) (h':QB X k lo s2 q):QS X k lo (.If e s1 s2 pos) (pIfS pe p q):=by
 obtain⟨tc,h1,h2⟩:=hc.h
 obtain⟨ta,g1,g2⟩:=h.h
 obtain⟨tb,f1,f2⟩:=h'.h
 exact⟨_,w'c h1 g1 f1,u'E h2 g2 f2⟩
theorem k'H {e:Expr} {pe:PB'} {s1:List Stmt} {p:PS'} (hp:PassesOwn (model X.prog X.w) X.A X.env X.xe) (hc:QT X k e pe) (h:QB X k lo s1 p):QS X k lo (.While e s1 [] pos) (pWhl pe p):=by
 obtain⟨tc,h1,h2⟩:=hc.h
 obtain⟨ta,g1,g2⟩:=h.h
 exact⟨_,o'f hp h1 g1,s'H h2 g2⟩
theorem b'f {i:Nat} {x:Str} {e:Expr} {pe:PE'} {pos':Pos} (hN:X.N.Nodup) (hl:lo<=i) (hi:X.N[i]?=some x) (hx:Loc X.env.scope x) (h:QE X k e pe) (hs:swapsWith e (some (.Name x pos')) pos.line X.env=pure false:=by rfl) (hf:X.fn x=true\/X.env.scope.names.lookup x=some .local:=by first | exact .inl rfl | exact .inr rfl | assumption) :
  QS X k lo (.Assign [.Name x pos'] e pos) (pAsg i pe):=by
 obtain⟨te,h1,h2⟩:=h.h
 exact⟨_,g'y hN hi hx h1 hs hf,s'F hl h2⟩
end
section
variable {P:Program} {w:World} {K:W.Frag} {mg:Str->Option Value} {base:Heap}
theorem a'n {z:Bool} {lo:Nat} {x qual:Str} {st:Stmt} {f:Addr} {fd:FuncData} {N ps:List Str} {m n:Nat} {psp:PSp} (F:Fun K x qual st f fd) (S:FnScope N ps (defScope st)) (hn:ps.length=n) (hlo:lo<=n)
  (body:∀ (cdv:Value) (A:Around) (outer:List Env) (s:Shared) (H:Hp) (E:XK),Room m (A.deeper (PyProof.Rows.envOfC qual (defScope st) s.heap.objs.size f cdv))->
   ∃ pb,QB (cxOf CX0 P w K mg base N qual (defScope st) f cdv A outer s H E).nox (Md.base z) lo (defBody st) pb/\∀ xs Q',xs.length=n->psp xs Q'->pb { nx:=λρ=>Q' .non ρ,rt:=Q' } (xs++List.replicate (N.length - n) .hole)) :
  FnOk P w K mg base CX0 (m+1) f fd ps (spP K z lo n psp):=s'I F S hn hlo λcdv A outer s H E hr=>by
 obtain⟨pb,h,q⟩:=body cdv A outer s H E hr
 obtain⟨ts,h1,h2⟩:=h.h
 exact⟨ts,pb,h1,h2,q⟩
end
end Pu
namespace Pu
open PySem L2 Vc Sf
section
variable {K:W.Frag} {k:Md} {lo:Nat} {us:List V} {Fb Hb F H F' H':Hp} {σ:St} {ρ:List Tr} {cs:Nat->Cs}
theorem lay:∀ (c:Cs) {F:Hp},Gr Fb Hb F H->Cells F H c->New Hb c->Plain c->∃ F',Gr Fb Hb F' H/\(∀ S,Fz S F->Fz S F')/\Same F F'/\(∀ p∈c,F' p.1=some p.2)/\∀ a,a ∉ c.map (·.1)->F' a=F a
 | [], F, g, _, _, _ => ⟨F, g, λ_ h => h, Same.refl F, λ_ m => (nomatch m), λ_ _ => rfl⟩
 | (a, o) :: c, F, g, hc, n, pl => by
  obtain⟨F1,g1,z1,s1,e1,n1⟩:=Vc.frz g.toGr0 g.z (n _ (.head _)) (hc.f _ (.head _)) (hc.h _ (.head _)) (pl _ (.head _))
  have nd:=hc.nd
  rw [List.map_cons,List.nodup_cons] at nd
  have hc1:Cells F1 H c:=⟨λp m=>hc.h p (.tail _ m),λp m=>by rw [n1 p.1 (λz=>nd.1 (List.mem_map.mpr ⟨p,m,z⟩))];exact hc.f p (.tail _ m),nd.2⟩
  obtain⟨F2,g2,z2,s2,e2,n2⟩:=lay c ⟨g1,z1⟩ hc1 (λp m=>n p (.tail _ m)) λp m=>pl p (.tail _ m)
  refine⟨F2,g2,λS h=>z2 S λb x u e=>?_,s1.trans s2,λp m=>?_,λb hb=>?_⟩
  ·by_cases hb:b=a
   ·subst hb;rw [e1] at e;exact absurd (Option.some.inj e) (pl _ (.head _) x u)
   ·rw [n1 b hb] at e;exact h b x u e
  ·cases m with
   | head=>exact s2 _ _ e1
   | tail _ m=>exact e2 p m
  ·rw [List.map_cons,List.mem_cons] at hb
   rw [n2 b λz=>hb (.inr z),n1 b λz=>hb (.inl z)]
theorem Wld.lay {c:Cs} (W:Wld K k lo us Fb Hb F H σ ρ cs) (hc:Cells F H c) (n:New Hb c) (pl:Plain c) (d:∀ j,∀ p∈cs j,∀ q∈c,p.1≠q.1):∃ F',Wld K k lo us Fb Hb F' H σ ρ cs/\Same F F'/\∀ p∈c,F' p.1=some p.2:=by
 obtain⟨F1,g1,z1,s1,e1,n1⟩:=Pu.lay c W.g hc n pl
 refine⟨F1,⟨g1,λh=>z1 _ (W.z h),W.l,λi t h=>(W.e i t h).imp id λ⟨v,h1,h2⟩=>⟨v,h1,h2.mo (Le.of s1) (λ_=>Le.refl _) t⟩,λi=>⟨(W.c i).h,λp m=>?_,(W.c i).nd⟩,W.n,W.d,W.p,W.x⟩,s1,e1⟩
 rw [n1 p.1 λz=>?_]
 ·exact (W.c i).f p m
 ·obtain⟨q,mq,e⟩:=List.mem_map.mp z
  exact d i p m q mq e.symm
theorem Wld.fresh {t:Tr} {v:V} {c:Cs} {B:Bool->Hp} (W:Wld K k lo us Fb Hb F H σ ρ cs) (o:Out K F B H F' H' t v c):New Hb c/\∀ j,∀ p∈cs j,∀ q∈c,p.1≠q.1:=
 ⟨λp m=>W.g.h.free (o.n p m),λj p mp q mq e=>by
  have:=(W.c j).h p mp
  rw [e,o.n q mq] at this
  cases this⟩
theorem Wld.outF {i:Nat} {t:Tr} {v:V} {c:Cs} (W:Wld K k lo us Fb Hb F H σ ρ cs) (o:Out K F (Bq Hb H) H F' H' t v c) (hi:lo<=i) (n:nlt t=true) :
  ∃ F'' cs',Wld K k lo us Fb Hb F'' H' (σ.set i (some v)) (ρ.set i (frz t)) cs':=by
 obtain⟨n1,d1⟩:=W.fresh o
 obtain⟨F2,W2,s2,e2⟩:=(W.gr o.g).lay o.c n1 (o.r.plain t) d1
 exact⟨F2,_,W2.set hi ((R.low (B':=λ_=>Hb) t n rfl o.r).frz (Le.of s2) t e2) .nil .nil λ_ _ _ _ _ m=>nomatch m⟩
theorem Wld.held {t:Tr} {v:V} {c:Cs} (W:Wld K k lo us Fb Hb F H σ ρ cs) (o:Out K F (Bq Hb H) H F' H' t v c) (n:nlt t=true) :
  ∃ F'',Wld K k lo us Fb Hb F'' H' σ ρ cs/\R K F'' (λ_=>Hb) (frz t) v []:=by
 obtain⟨n1,d1⟩:=W.fresh o
 obtain⟨F2,W2,s2,e2⟩:=(W.gr o.g).lay o.c n1 (o.r.plain t) d1
 exact⟨F2,W2,(R.low (B':=λ_=>Hb) t n rfl o.r).frz (Le.of s2) t e2⟩
def pAsgF (i:Nat) (pe:PE'):PS':=λD ρ=>pe (ρ.map lend) λt=>nlt t=true/\D.nx (ρ.set i (frz t))
theorem h'b {i:Nat} {te:TE} {pe:PE'} (hi:lo<=i) (h:Sim K k te pe):SimS K k lo (tAsg te (gName i)) (pAsgF i pe):=λus Fb Hb F H σ ρ cs D D' W p L=>by
 refine h F (Bq Hb H) H σ _ _ _ W.cxt p λt v F1 H1 c q o=>?_
 obtain⟨F2,cs2,W2⟩:=W.outF o hi q.1
 exact L.nx F2 H1 _ _ _ W2 q.2
abbrev PG':=Tr->List Tr->(List Tr->Prop)->Prop
def SimG (K:W.Frag) (k:Md) (lo:Nat) (tg:TG) (pg:PG'):Prop:=∀ (us:List V) (Fb Hb F H:Hp) (σ:St) (ρ:List Tr) (cs:Nat->Cs) (x:V) (t:Tr) (Q:St->Hp->Prop) (Q':List Tr->Prop),Wld K k lo us Fb Hb F H σ ρ cs->R K F (λ_=>Hb) t x []->pg t ρ Q'->(∀ σ' ρ' cs',Wld K k lo us Fb Hb F H σ' ρ' cs'->Q' ρ'->Q σ' H)->tg x σ H Q
def pgN (i:Nat):PG':=λt ρ Q=>Q (ρ.set i t)
theorem u'F {i:Nat} (hi:lo<=i):SimG K k lo (gName i) (pgN i):=λus Fb Hb F H σ ρ cs x t Q Q' W r p q=>q _ _ _ (W.set hi r .nil .nil λ_ _ _ _ _ m=>nomatch m) p
def SimGs (K:W.Frag) (k:Md) (lo:Nat) (tg:TGs) (pg:List Tr->List Tr->(List Tr->Prop)->Prop):Prop:=∀ (us:List V) (Fb Hb F H:Hp) (σ:St) (ρ:List Tr) (cs:Nat->Cs) (xs:List V) (ts:List Tr) (Q:St->Hp->Prop) (Q':List Tr->Prop),Wld K k lo us Fb Hb F H σ ρ cs->Rs K F (λ_=>Hb) ts xs []->pg ts ρ Q'->(∀ σ' ρ' cs',Wld K k lo us Fb Hb F H σ' ρ' cs'->Q' ρ'->Q σ' H)->tg xs σ H Q
def pgsNil:List Tr->List Tr->(List Tr->Prop)->Prop:=λts ρ Q=>match ts with | []=>Q ρ | _=>False
def pgsCons (pg:PG') (pr:List Tr->List Tr->(List Tr->Prop)->Prop):List Tr->List Tr->(List Tr->Prop)->Prop:=λts ρ Q=>match ts with | t :: r=>pg t ρ λρ'=>pr r ρ' Q | []=>False
theorem m'd:SimGs K k lo gNil pgsNil:=λus Fb Hb F H σ ρ cs xs ts Q Q' W r p q=>by
 unfold pgsNil at p
 split at p
 ·exact⟨r.1,q σ ρ cs W p⟩
 ·exact p.elim
theorem k'I {tg:TG} {tr:TGs} {pg:PG'} {pr:List Tr->List Tr->(List Tr->Prop)->Prop} (h:SimG K k lo tg pg) (h':SimGs K k lo tr pr):SimGs K k lo (gCons tg tr) (pgsCons pg pr):=λus Fb Hb F H σ ρ cs xs ts Q Q' W r p q=>by
 unfold pgsCons at p
 split at p
 ·obtain⟨v,w,c,d,h1,h2,h3,h4⟩:=r
  have e:=List.append_eq_nil_iff.mp h2.symm
  rw [e.1] at h3
  rw [e.2] at h4
  exact⟨v,w,h1,h us Fb Hb F H σ ρ cs v _ _ _ W h3 p λσ' ρ' cs' W' p'=>h' us Fb Hb F H σ' ρ' cs' w _ Q Q' W' h4 p' q⟩
 ·exact p.elim
def pgT (n:Nat) (pr:List Tr->List Tr->(List Tr->Prop)->Prop):PG':=λt ρ Q=>match t with | .tup ts=>ts.length=n/\pr ts ρ Q | _=>False
theorem u'G {n:Nat} {tr:TGs} {pr:List Tr->List Tr->(List Tr->Prop)->Prop} (h:SimGs K k lo tr pr):SimG K k lo (gTup K n tr) (pgT n pr):=λus Fb Hb F H σ ρ cs x t Q Q' W r p q=>by
 unfold pgT at p
 split at p
 ·obtain⟨a,vs,rfl,h1,h2⟩:=r.tupH W.g.s
  exact⟨a,vs,rfl,h1,h2.length.trans p.1,h us Fb Hb F H σ ρ cs vs _ Q Q' W h2 p.2 q⟩
 ·exact p.elim
def pUnp (pe:PE') (pg:PG'):PS':=λD ρ=>pe (ρ.map lend) λt=>nlt t=true/\pg (frz t) ρ D.nx
theorem s'J {te:TE} {pe:PE'} {tg:TG} {pg:PG'} (h:Sim K k te pe) (hg:SimG K k lo tg pg):SimS K k lo (tAsg te tg) (pUnp pe pg):=λus Fb Hb F H σ ρ cs D D' W p L=>by
 refine h F (Bq Hb H) H σ _ _ _ W.cxt p λt v F1 H1 c q o=>?_
 obtain⟨F2,W2,r2⟩:=W.held o q.1
 exact hg us Fb Hb F2 H1 σ ρ cs v _ _ _ W2 r2 q.2 λσ' ρ' cs' W' q'=>L.nx F2 H1 σ' ρ' cs' W' q'
def pPar (i j:Nat) (pa:PA'):PS':=λD ρ=>pa (ρ.map lend) λts=>match ts with | [a,b]=>nlt a=true/\nlt b=true/\D.nx ((ρ.set i (frz a)).set j (frz b)) | _=>False
theorem s'K {i j:Nat} {ta:TA} {pa:PA'} (hi:lo<=i) (hj:lo<=j) (h:SimA K k ta pa):SimS K k lo (tPar i j ta) (pPar i j pa):=λus Fb Hb F H σ ρ cs D D' W p L=>by
 refine h F (Bq Hb H) H σ _ _ _ W.cxt p λts vs F1 H1 c q o=>?_
 split at q
 ·obtain⟨v,r,c1,d1,h1,h2,h3,v',r',c2,d2,g1,g2,g3,g4,g5⟩:=o.r
  have n1:New Hb c:=λp m=>W.g.h.free (o.n p m)
  have dj:∀ j,∀ p∈cs j,∀ q∈c,p.1≠q.1:=λj p mp q mq e=>by
   have:=(W.c j).h p mp
   rw [e,o.n q mq] at this
   cases this
  have pl:Plain c:=Rs.plain _ o.r
  obtain⟨F2,W2,s2,e2⟩:=(W.gr o.g).lay o.c n1 pl dj
  refine⟨v,v',by rw [h1,g1,g4],L.nx F2 H1 _ _ _ ((W2.set hi ((R.low (B':=λ_=>Hb) _ q.1 rfl h3).frz (Le.of s2) _ λp m=>e2 p (by rw [h2];exact List.mem_append.mpr (.inl m))) .nil .nil λ_ _ _ _ _ m=>nomatch m).set hj ((R.low (B':=λ_=>Hb) _ q.2.1 rfl g3).frz (Le.of s2) _ λp m=>e2 p (by rw [h2,g2];exact List.mem_append.mpr (.inr (List.mem_append.mpr (.inl m))))) .nil .nil λ_ _ _ _ _ m=>nomatch m) q.2.2⟩
 ·exact q.elim
end
end Pu
namespace Pu
open PySem L2 Vc Sf
def Runs (J:It) (n:Nat) (Kp:Hp->Prop) (Y:Nat->Hp->V->Hp->Prop):Prop:=∀ (g:TG) (tb:TS) (D:Ends) (σ:St) (H:Hp) (Pv:Nat->St->Hp->Prop),Pv 0 σ H->(∀ i σ H,i<=n->Pv i σ H->Kp H)->
 (∀ i x σ H H',i<n->Pv i σ H->Y i H x H'->g x σ H' λσ2 H2=>tb { D with nx:=Pv (i+1),ct:=Pv (i+1),bk:=D.nx } σ2 H2)->(∀ σ H,Pv n σ H->D.nx σ H)->
 ∃ W:Nat->Nat->St->Hp->Prop,(∃ m,W 0 m σ H)/\∀ i m σ H,W i m σ H->
  (J.stop i H/\D.nx σ H)\/(J.go i H/\∃ N:St->Hp->Prop,(∀ σ' H',N σ' H'->∃ m',m'<m/\W (i+1) m' σ' H')/\∀ x H',J.yld i H x H'->g x σ H' λσ2 H2=>tb { D with nx:=N,ct:=N,bk:=D.nx } σ2 H2)
theorem p'S {α:Type} {xs:List α} {i:Nat} {x:α} (h:xs[i]?=some x):i<xs.length:=(List.getElem?_eq_some_iff.mp h).1
structure ItOk (J:It) (n:Nat) (Kp:Hp->Prop) (Y:Nat->Hp->V->Hp->Prop):Prop where
 go:∀ i H,i<n->Kp H->J.go i H
 st:∀ H,Kp H->J.stop n H
 yl:∀ i H x H',i<n->Kp H->J.yld i H x H'->Y i H x H'
theorem ItOk.runs {J:It} {n:Nat} {Kp:Hp->Prop} {Y:Nat->Hp->V->Hp->Prop} (o:ItOk J n Kp Y):Runs J n Kp Y:=λg tb D σ H Pv h0 hk hs hd=>by
 refine⟨λi m σ H=>m=n - i/\i<=n/\Pv i σ H,⟨n,by simp,Nat.zero_le _,h0⟩,?_⟩
 rintro i m σ H ⟨rfl,hi,p⟩
 by_cases hlt:i<n
 ·exact .inr ⟨o.go i H hlt (hk i σ H hi p),Pv (i+1),λσ' H' p'=>⟨n - (i+1),by omega,rfl,hlt,p'⟩,λx H' y=>hs i x σ H H' hlt p (o.yl i H x H' hlt (hk i σ H hi p) y)⟩
 ·have e:i=n:=by omega
  subst e
  exact .inl ⟨o.st H (hk i σ H hi p),hd σ H p⟩
theorem k'J {α:Type} {xs:List α} {i:Nat} (h:i<xs.length):∃ x,xs[i]?=some x:=⟨_,List.getElem?_eq_getElem h⟩
theorem s'L {K:W.Frag} {a:Addr} {xs:List V}:ItOk (Itl K a) xs.length (λH=>SqL K H a xs) (λi H x H'=>xs[i]?=some x/\H'=H):=
 ⟨λi H h q=>by obtain⟨x,e⟩:=k'J h;exact⟨xs,x,q,e⟩,λH q=>⟨xs,q,Nat.le_refl _⟩,λi H x H' h q y=>⟨y.2 xs q,y.1⟩⟩
theorem u'H {K:W.Frag} {a:Addr} {xs:List V}:ItOk (Itt K a) xs.length (λH=>SqT K H a xs) (λi H x H'=>xs[i]?=some x/\H'=H):=
 ⟨λi H h q=>by obtain⟨x,e⟩:=k'J h;exact⟨xs,x,q,e⟩,λH q=>⟨xs,q,Nat.le_refl _⟩,λi H x H' h q y=>⟨y.2 xs q,y.1⟩⟩
theorem o'U {l:Int} {n:Nat}:ItOk (Itr l n) n (λ_=>True) (λi H x H'=>x=.int (l+i)/\H'=H):=⟨λi H h _=>h,λH _=>Nat.le_refl _,λi H x H' h _ y=>⟨y.2,y.1⟩⟩
def Src (K:W.Frag) (B:Bool->Hp) (F:Hp) (J:It) (ts:List Tr):Prop:=∃ (Kp:Hp->Prop) (Y:Nat->Hp->V->Hp->Prop),ItOk J ts.length Kp Y/\(∀ F' H',Le F F'->Same F' H'->(∀ k,Same (B k) H')->Kp H')/\
 ∀ i t F' H' x H'',ts[i]?=some t->Le F F'->Same F' H'->(∀ k,Same (B k) H')->Y i H' x H''->∃ F'',Gr F' H' F'' H''/\R K F'' B t x []
section
variable {K:W.Frag} {k:Md} {lo:Nat} {us:List V} {Fb Hb F H F' H' F1 H1:Hp} {σ:St} {ρ:List Tr} {cs:Nat->Cs}
abbrev PI':=List Tr->(List Tr->Bool->Prop)->Prop
def SimI (K:W.Frag) (k:Md) (wi:TI) (pi:PI'):Prop:=∀ (F:Hp) (B:Bool->Hp) (H:Hp) (σ:St) (ρ:List Tr) (R':It->Hp->Prop) (Q':List Tr->Bool->Prop),Cxt K k F B H σ ρ->pi ρ Q'->
 (∀ ts nl J F' H',Q' ts nl->Gr F H F' H'->Src K B F' J ts->(nl=true->∀ B':Bool->Hp,B' false=B false->Src K B' F' J ts)->R' J H')->wi σ H R'
theorem _root_.Vc.Gr.base (g:Gr Fb Hb F1 H1) (g':Gr F1 Hb F H):Gr Fb Hb F H:=
 Gr.of ⟨g'.h,g.f.trans g'.f,g'.s,λa u e z=>by
  cases q:F1 a with
  | some w=>exact g.n a w q z
  | none=>exact g'.n a u e q⟩ (g'.fz g.z)
theorem Wld.base {σ0:St} {ρ0:List Tr} {cs0:Nat->Cs} (W0:Wld K k lo us Fb Hb F1 H1 σ0 ρ0 cs0) (W:Wld K k lo us F1 Hb F H σ ρ cs):Wld K k lo us Fb Hb F H σ ρ cs:=⟨W0.g.base W.g,W.z,W.l,W.e,W.c,W.n,W.d,W.p,W0.x⟩
theorem Wld.rebase (W:Wld K k lo us Fb Hb F H σ ρ cs):Wld K k lo us F Hb F H σ ρ cs:=⟨⟨⟨W.g.h,Same.refl F,W.g.s,λa u e z=>by rw [e] at z;cases z⟩,Fz.refl F⟩,W.z,W.l,W.e,W.c,W.n,W.d,W.p,λcls σ' F' H' q g=>W.x cls σ' F' H' q (W.g.base g)⟩
theorem Lk.rebase {D:Ends} {D':Pd} {σ0:St} {ρ0:List Tr} {cs0:Nat->Cs} (W0:Wld K k lo us Fb Hb F1 H1 σ0 ρ0 cs0) (L:Lk K k lo us Fb Hb D D'):Lk K k lo us F1 Hb D D':=
 ⟨λF H σ ρ cs W=>L.nx F H σ ρ cs (W0.base W),λF H σ ρ cs v t c W=>L.rt F H σ ρ cs v t c (W0.base W),λF H σ ρ cs W=>L.bk F H σ ρ cs (W0.base W),λF H σ ρ cs W=>L.ct F H σ ρ cs (W0.base W)⟩
def pFor (pi:PI') (pg:PG') (pb:PS'):PS':=λD ρ=>pi (ρ.map lend) λts nl=>nl=true/\∃ I:Nat->List Tr->Prop,I 0 ρ/\(∀ i t ρ,ts[i]?=some t->I i ρ->pg t ρ λρ'=>pb { D with nx:=I (i+1),ct:=I (i+1),bk:=D.nx } ρ')/\∀ ρ,I ts.length ρ->D.nx ρ
theorem s'M {wi:TI} {pi:PI'} {tg:TG} {pg:PG'} {tb:TS} {pb:PS'} (hi:SimI K k wi pi) (hg:SimG K k lo tg pg) (hb:SimS K k lo tb pb):SimS K k lo (tFor wi tg tb) (pFor pi pg pb):=λus Fb Hb F H σ ρ cs D D' W p L=>by
 refine hi F (Bq Hb H) H σ _ _ _ W.cxt p λts nl J F1 H1 q g1 _ src=>?_
 have W1:=W.gr g1
 obtain⟨hnl,I,i0,step,fin⟩:=q
 obtain⟨Kp,Y,ito,kp,yl⟩:=src hnl (λ_=>Hb) rfl
 have run:=ito.runs
 have L1:=L.rebase W1
 refine run tg tb D σ H1 (λi σ H=>∃ F ρ cs,Wld K k lo us F1 Hb F H σ ρ cs/\I i ρ) ⟨F1,ρ,cs,W1.rebase,i0⟩ ?_ ?_ ?_
 ·rintro i σ H hi ⟨F,ρ,cs,W,_⟩
  exact kp F H (Le.of W.g.f) W.g.s λ_=>W.g.h
 ·rintro i x σ H H' hi ⟨F,ρ,cs,W,ii⟩ y
  have ht:ts[i]?=some (ts[i]'hi):=List.getElem?_eq_getElem hi
  obtain⟨F2,g2,r2⟩:=yl i _ F H x H' ht (Le.of W.g.f) W.g.s (λ_=>W.g.h) y
  refine hg us F1 Hb F2 H' σ ρ cs x _ _ _ (W.gr g2) r2 (step i _ ρ ht ii) λσ' ρ' cs' W' p'=>?_
  exact hb us F1 Hb F2 H' σ' ρ' cs' _ _ W' p' ⟨λF H σ ρ cs W q=>⟨F,ρ,cs,W,q⟩,L1.rt,L1.nx,λF H σ ρ cs W q=>⟨F,ρ,cs,W,q⟩⟩
 ·rintro σ H ⟨F,ρ,cs,W,q⟩
  exact L1.nx F H σ ρ cs W (fin ρ q)
theorem u'I {a:Addr} {vs:List V} {F':Hp} {H':Hp} (l:Le F F') (s:Same F' H') (h:SqL K F a vs):SqL K H' a vs:=s.seq (l.lst h)
variable {B:Bool->Hp}
theorem p'T {f:Fl} {xs:List Tr} {v:V} (r:R K F B (.lst f xs) v []):∃ a vs,v=.ref a/\Rs K F B xs vs []/\∀ F' H',Le F F'->Same F' H'->(∀ k,Same (B k) H')->SqL K H' a vs:=by
 cases f with
 | f => obtain ⟨_, a, vs, h1, h2, h3⟩ := r; exact ⟨a, vs, h1, h3, λF' H' l s b => u'I l s h2⟩
 | l q => obtain ⟨_, a, vs, h1, h2, h3⟩ := r; exact ⟨a, vs, h1, h3, λF' H' l s b => (b q).seq h2⟩
 | o => obtain ⟨a, vs, ds, h1, h2, h3⟩ := r; cases h2
theorem Rs.nil_at {xs:List Tr} {vs:List V} {i:Nat} {t:Tr} (r:Rs K F B xs vs []) (h:xs[i]?=some t):∃ u,vs[i]?=some u/\R K F B t u []:=by
 obtain⟨u,c,h1,h2,h3⟩:=r.at h
 have e:c=[]:=List.eq_nil_iff_forall_not_mem.mpr λp m=>nomatch h3 p m
 rw [e] at h2
 exact⟨u,h1,h2⟩
theorem h'c {a:Addr} {f:Fl} {xs:List Tr} (r:R K F B (.lst f xs) (.ref a) []):Src K B F (Itl K a) xs:=by
 obtain⟨a',vs,h1,h2,h3⟩:=p'T r
 cases h1
 refine⟨_,_,h2.length ▸ s'L (K:=K) (a:=a) (xs:=vs),h3,λi t F' H' x H'' ht l s b y=>?_⟩
 obtain⟨y1,rfl⟩:=y
 obtain⟨u,e1,e2⟩:=h2.nil_at ht
 rw [e1] at y1
 cases y1
 exact⟨F',Gr.refl' s,e2.mo l (λ_=>Le.refl _) t⟩
theorem i'E {a:Addr} {xs:List Tr} (r:R K F B (.tup xs) (.ref a) []):Src K B F (Itt K a) xs:=by
 obtain⟨a',vs,h1,h2,h3⟩:=r
 cases h1
 refine⟨_,_,h3.length ▸ u'H (K:=K) (a:=a) (xs:=vs),λF' H' l s b=>s.tup (l.tup h2),λi t F' H' x H'' ht l s b y=>?_⟩
 obtain⟨y1,rfl⟩:=y
 obtain⟨u,e1,e2⟩:=h3.nil_at ht
 rw [e1] at y1
 cases y1
 exact⟨F',Gr.refl' s,e2.mo l (λ_=>Le.refl _) t⟩
theorem m'e {l:Int} {n:Nat}:Src K B F (Itr l n) ((List.range n).map λ(i:Nat)=>.int (l+i)):=by
 refine⟨_,_,(by rw [List.length_map,List.length_range];exact o'U (l:=l) (n:=n)),λ_ _ _ _ _=>True.intro,λi t F' H' x H'' ht l' s b y=>?_⟩
 obtain⟨rfl,rfl⟩:=y
 rw [List.getElem?_map] at ht
 cases q:(List.range n)[i]? with
 | none => rw [q] at ht; cases ht
 | some u =>
  rw [q] at ht
  cases ht
  have hi:=p'S q
  rw [List.length_range] at hi
  rw [List.getElem?_range hi] at q
  cases q
  exact⟨F',Gr.refl' s,rfl,rfl⟩
theorem Out.held {t:Tr} {v:V} {c:Cs} (o:Out K F B H F' H' t v c):∃ F'',Gr F H F'' H'/\R K F'' B (frz t) v []:=by
 obtain⟨F2,g2,_,s2,e2,_⟩:=Pu.lay c o.g o.c o.n (o.r.plain t)
 exact⟨F2,g2,o.r.frz (Le.of s2) t e2⟩
theorem OutA.held {t:List Tr} {v:List V} {c:Cs} (o:OutA K F B H F' H' t v c):∃ F'',Gr F H F'' H'/\Rs K F'' B (frzs t) v []:=by
 obtain⟨F2,g2,_,s2,e2,_⟩:=Pu.lay c o.g o.c o.n (o.r.plain t)
 exact⟨F2,g2,o.r.frz (Le.of s2) t e2⟩
def wLst (t:Tr) (Q:List Tr->Prop):Prop:=match t with | .lst _ xs=>Q xs | _=>False
theorem s'N {t:Tr} {Q:List Tr->Prop} (h:wLst t Q):∃ f xs,t=.lst f xs/\Q xs:=by
 unfold wLst at h
 split at h
 ·exact⟨_,_,rfl,h⟩
 ·exact h.elim
def piL (pe:PE'):PI':=λρ Q=>pe ρ λt=>wLst (frz t) λxs=>Q xs (nlt (frz t))
theorem m'f {te:TE} {pe:PE'} (h:Sim K k te pe):SimI K k (iList K te) (piL pe):=λF B H σ ρ R' Q' c p q=>by
 refine h F B H σ ρ _ _ c p λt v F1 H1 c1 p1 o=>?_
 obtain⟨F2,g2,r2⟩:=o.held
 obtain⟨f,xs,e,p1⟩:=s'N p1
 rw [e] at r2 p1
 obtain⟨a,vs,rfl,_,h3⟩:=p'T r2
 exact⟨a,rfl,⟨vs,h3 F2 H1 (Le.refl _) g2.s λk=>(c.b k).trans g2.h⟩,q _ _ _ F2 H1 p1 g2 (h'c r2) λhn B' e'=>h'c (R.low _ hn e'.symm r2)⟩
def wTp (t:Tr) (Q:List Tr->Prop):Prop:=match t with | .tup xs=>Q xs | _=>False
def piT (pe:PE'):PI':=λρ Q=>pe ρ λt=>wTp (frz t) λxs=>Q xs (nlt (frz t))
theorem o'V {te:TE} {pe:PE'} (h:Sim K k te pe):SimI K k (iTup K te) (piT pe):=λF B H σ ρ R' Q' c p q=>by
 refine h F B H σ ρ _ _ c p λt v F1 H1 c1 p1 o=>?_
 obtain⟨F2,g2,r2⟩:=o.held
 generalize frz t=u at r2 p1
 unfold wTp at p1
 split at p1
 ·obtain⟨a,vs,rfl,h2,h3⟩:=r2.tupH g2.s
  exact⟨a,rfl,⟨vs,h2⟩,q _ _ _ F2 H1 p1 g2 (i'E r2) λhn B' e'=>i'E (R.low _ hn e'.symm r2)⟩
 ·exact p1.elim
def wOne (ts:List Tr) (Q:Tr->Prop):Prop:=match ts with | [t]=>Q t | _=>False
def piE (pa:PA'):PI':=λρ Q=>pa ρ λts=>wOne ts λt=>wLst (frz t) λxs=>Q (xs.mapIdx λi x=>.tup [.int i,x]) (nlt (frz t))
def piV (pa:PA'):PI':=λρ Q=>pa ρ λts=>wOne ts λt=>wLst (frz t) λxs=>Q xs.reverse (nlt (frz t))
def wTwo (ts:List Tr) (Q:Tr->Tr->Prop):Prop:=match ts with | [t,u]=>Q t u | _=>False
theorem Rs.two {t u:Tr} {xs:List V} {cs:Cs} (r:Rs K F B [t,u] xs cs):∃ v w c d,xs=[v,w]/\R K F B t v c/\R K F B u w d/\cs=c++d:=by
 obtain⟨v,r,c,d,h1,h2,h3,v',r',c',d',g1,g2,g3,rfl,rfl⟩:=r
 rw [List.append_nil] at g2
 exact⟨v,v',c,c',by rw [h1,g1],h3,g3,by rw [h2,g2]⟩
def piZ (pa:PA'):PI':=λρ Q=>pa ρ λts=>wTwo ts λt u=>wLst (frz t) λxs=>wLst (frz u) λys=>Q (xs.zipWith (λx y=>.tup [x,y]) ys) (nlt (frz t) && nlt (frz u))
def wInt1 (ts:List Tr) (Q:Int->Prop):Prop:=match ts with | [.int i]=>Q i | _=>False
def piR1 (pa:PA'):PI':=λρ Q=>pa ρ λts=>wInt1 ts λj=>-1000000<=j/\j<=1000000/\Q ((List.range j.toNat).map λ(i:Nat)=>.int i) true
theorem s'O {ta:TA} {pa:PA'} (h:SimA K k ta pa):SimI K k (iRng1 ta) (piR1 pa):=λF B H σ ρ R' Q' c p q=>by
 refine h F B H σ ρ _ _ c p λts vs F1 H1 c1 p1 o=>?_
 unfold wInt1 at p1
 split at p1
 ·rename_i j
  obtain⟨v,rfl,rfl,_⟩:=o.r.one
  have sr:∀ B,Src K B F1 (Itr 0 j.toNat) ((List.range j.toNat).map λ(i:Nat)=>.int i):=λB=>by
   have:=m'e (K:=K) (B:=B) (F:=F1) (l:=0) (n:=Int.toNat j)
   simp only [Int.zero_add] at this
   exact this
  exact⟨_,rfl,by omega,by omega,q _ _ _ F1 H1 p1.2.2 o.g (sr B) λ_ B' _=>sr B'⟩
 ·exact p1.elim
def wInt2s (ts:List Tr) (Q:Int->Int->Prop):Prop:=match ts with | [.int i,.int j]=>Q i j | _=>False
def piR2 (pa:PA'):PI':=λρ Q=>pa ρ λts=>wInt2s ts λi j=>(-1000000<=i/\i<=1000000/\-1000000<=j/\j<=1000000)/\Q ((List.range (j - i).toNat).map λ(n:Nat)=>.int (i+n)) true
end
end Pu
namespace Pu
open PySem L2 Vc Sf
section
variable {K:W.Frag} {k:Md} {lo:Nat} {us:List V} {Fb Hb F H F' H' F1 H1:Hp} {σ:St} {ρ:List Tr} {cs:Nat->Cs}
theorem Wld.mut {i:Nat} {a:Addr} {o o':HO} {ds':Cs} {t':Tr} {v:V} (W:Wld K k lo us Fb Hb F H σ ρ cs) (hv:σ[i]?=some (some v)) (e:(a,o)∈cs i) (hd:Cells F H ds') (hn:New Hb ds') (ha:∀ p∈ds',p.1≠a) (hj:∀ j,j≠i->∀ p∈ds',∀ q∈cs j,p.1≠q.1) {c':Cs} (hc:c'.Perm ((a,o') :: ds')) (r':R K F (λ_=>Hb) t' v c') :
  Wld K k lo us Fb Hb F (upd H a o') σ (ρ.set i t') (λj=>if j=i then c' else cs j):=by
 have hb:=W.n i _ e
 have fa:=(W.c i).f _ e
 have other:∀ j,j≠i->∀ p∈cs j,p.1≠a:=λj hj p m z=>W.d j i hj p m _ e z
 refine⟨⟨⟨W.g.h.updN hb,W.g.f,W.g.s.updN fa,W.g.n⟩,W.g.z⟩,W.z,by rw [List.length_set];exact W.l,λj u h=>?_,λj=>?_,λj=>?_,λx y ne p mp q mq=>?_,W.p,W.x⟩
 ·by_cases ej:j=i
  ·subst ej
   have hl:j<ρ.length:=by have:=(List.getElem?_eq_some_iff.mp h).1;rw [List.length_set] at this;exact this
   rw [List.getElem?_set_self hl] at h
   cases h
   exact .inr ⟨v,hv,by rw [if_pos rfl];exact r'⟩
  ·rw [List.getElem?_set_ne (λz=>ej z.symm)] at h
   rw [if_neg ej]
   exact W.e j u h
 ·split
  ·refine⟨λp m=>?_,λp m=>?_,?_⟩
   ·rcases List.mem_cons.mp (hc.mem_iff.mp m) with rfl | m
    ·exact a'm
    ·rw [a'f (ha p m)];exact hd.h p m
   ·rcases List.mem_cons.mp (hc.mem_iff.mp m) with rfl | m
    ·exact fa
    ·exact hd.f p m
   ·refine ((hc.map (·.1)).nodup_iff).mpr ?_
    rw [List.map_cons,List.nodup_cons]
    refine⟨λm=>?_,hd.nd⟩
    obtain⟨p,mp,e⟩:=List.mem_map.mp m
    exact ha p mp e
  ·rename_i ej
   exact⟨λp m=>by rw [a'f (other j ej p m)];exact (W.c j).h p m,(W.c j).f,(W.c j).nd⟩
 ·split
  ·intro p m
   rcases List.mem_cons.mp (hc.mem_iff.mp m) with rfl | m
   ·exact hb
   ·exact hn p m
  ·exact W.n j
 ·have key:∀ p,p∈c'->∀ y,y≠i->∀ q∈cs y,p.1≠q.1:=λp m y hy q mq=>by
   rcases List.mem_cons.mp (hc.mem_iff.mp m) with rfl | m
   ·exact (other y hy q mq).symm
   ·exact hj y hy p m q mq
  by_cases ex:x=i
  ·have ey:y≠i:=λz=>ne (ex.trans z.symm)
   rw [if_pos ex] at mp
   rw [if_neg ey] at mq
   exact key p mp y ey q mq
  ·rw [if_neg ex] at mp
   by_cases ey:y=i
   ·rw [if_pos ey] at mq
    exact (key q mq x ex p mp).symm
   ·rw [if_neg ey] at mq
    exact W.d x y ne p mp q mq
def updf (f:Str) (u:Tr):List (Str×Tr)->List (Str×Tr)
 | [] => []
 | (g, x) :: r => if g = f then (g, u) :: r else (g, x) :: updf f u r
def getR (t:Tr):List Str->Tr
 | [] => t
 | f :: r => match getR t r with | .ins .o _ fs => (fs.lookup f).getD .hole | _ => .hole
def setR (t:Tr):List Str->Tr->Tr
 | [], u => u
 | f :: r, u => setR t r (match getR t r with | .ins .o c fs => .ins .o c (updf f u fs) | y => y)
def okR (K:W.Frag) (t:Tr):List Str->Prop
 | [] => True
 | f :: r => okR K t r /\ (match getR t r with | .ins .o c fs => (Cls K c /\ NoAttr K c f) /\ (fs.lookup f).isSome = true | _ => False)
def tR (K:W.Frag) (i:Nat):List Str->TE
 | [] => tVar i
 | f :: r => tFldR K (tR K i r) f
theorem Rf.at {B:Bool->Hp}:∀ {fs:List (Str×Tr)} {vs:List (Str×V)} {ds:Cs} {f:Str} {x:Tr},Rf K F B fs vs ds->fs.lookup f=some x->∃ w c pre post,vs.lookup f=some w/\R K F B x w c/\ds=pre++c++post/\∀ F',Le F F'->∀ u d,R K F' B u w d->Rf K F' B (updf f u fs) vs (pre++d++post)
 | (g, y) :: fs, _, _, f, x, ⟨v, r, c, d, h1, h2, h3, h4⟩, h => by
  by_cases e:g=f
  ·subst e
   rw [List.lookup_cons_self] at h
   cases h
   refine⟨v,c,[],d,by rw [h1,List.lookup_cons_self],h3,by rw [h2];rfl,λF' l u d' ru=>?_⟩
   unfold updf
   rw [if_pos rfl]
   exact⟨v,r,d',d,h1,rfl,ru,h4.mo l (λ_=>Le.refl _) fs⟩
  ·have e':(f == g)=false:=by simpa using λz=>e z.symm
   rw [List.lookup_cons,e'] at h
   obtain⟨w,c',pre,post,a1,a2,a3,a4⟩:=Rf.at (fs:=fs) h4 h
   refine⟨w,c',c++pre,post,by rw [h1,List.lookup_cons,e'];exact a1,a2,by rw [h2,a3];simp only [List.append_assoc],λF' l u d' ru=>?_⟩
   unfold updf
   rw [if_neg e]
   exact⟨v,r,c,pre++d'++post,h1,by simp only [List.append_assoc],h3.mo l (λ_=>Le.refl _) y,a4 F' l u d' ru⟩
theorem place {B:Bool->Hp} {i:Nat} {t:Tr} {v:V} {c0:Cs} (s:Same F H) (b:∀ k,Same (B k) H) (hv:σ[i]?=some (some v)) (r0:R K F B t v c0) (hc:Cells F H c0):∀ (r:List Str),okR K t r->∃ w c rest,c0.Perm (c++rest)/\R K F B (getR t r) w c/\(∀ F',Le F F'->∀ u d,R K F' B u w d->∃ c1,R K F' B (setR t r u) v c1/\c1.Perm (d++rest))/\∀ Q:VK,Q w H->tR K i r σ H Q
 | [], _ => ⟨v, c0, [], by rw [List.append_nil], r0, λF' l u d ru => ⟨d, ru, by rw [List.append_nil]⟩, λQ q => ⟨v, hv, q⟩⟩
 | f :: r, ok => by
  obtain⟨w,c,rest,p1,r1,cl,rd⟩:=place s b hv r0 hc r ok.1
  have o2:=ok.2
  split at o2
  ·rename_i C fs eg
   obtain⟨⟨ok1,ok2⟩,ok3⟩:=o2
   obtain⟨x,hx⟩:=Option.isSome_iff_exists.mp ok3
   rw [eg] at r1
   obtain⟨a,dx,vs,ds,h1,h2,h3⟩:=r1
   obtain⟨w',c',pre,post,a1,a2,a3,a4⟩:=h3.at hx
   have hm:(a,HO.ins C dx vs)∈c0:=p1.mem_iff.mpr (List.mem_append.mpr (.inl (by rw [h2];exact .head _)))
   refine⟨w',c',(a,.ins C dx vs) :: (pre++post++rest),?_,?_,λF' l u d ru=>?_,λQ q=>?_⟩
   ·refine p1.trans ?_
    rw [h2,a3]
    show List.Perm ((a,HO.ins C dx vs) :: ((pre++c'++post)++rest)) _
    refine List.Perm.trans (List.Perm.cons _ ?_) (List.perm_middle.symm)
    rw [List.append_assoc pre c' post,<- List.append_assoc,<- List.append_assoc,<- List.append_assoc]
    refine List.Perm.append_right _ ?_
    refine List.Perm.append_right _ ?_
    exact List.perm_append_comm
   ·show R K F B (match getR t r with | .ins .o _ fs=>(fs.lookup f).getD .hole | _=>.hole) w' c'
    rw [eg]
    show R K F B ((fs.lookup f).getD .hole) w' c'
    rw [hx]
    exact a2
   ·obtain⟨c1,b1,b2⟩:=cl F' l (.ins .o C (updf f u fs)) ((a,.ins C dx vs) :: (pre++d++post)) ⟨a,dx,vs,_,h1,rfl,a4 F' l u d ru⟩
    refine⟨c1,?_,b2.trans ?_⟩
    ·show R K F' B (setR t r (match getR t r with | .ins .o c fs=>.ins .o c (updf f u fs) | y=>y)) v c1
     rw [eg]
     exact b1
    ·show List.Perm ((a,HO.ins C dx vs) :: ((pre++d++post)++rest)) _
     refine List.Perm.trans (List.Perm.cons _ ?_) (List.perm_middle.symm)
     rw [List.append_assoc pre d post,<- List.append_assoc,<- List.append_assoc,<- List.append_assoc]
     refine List.Perm.append_right _ ?_
     refine List.Perm.append_right _ ?_
     exact List.perm_append_comm
   ·exact rd _ ⟨a,C,dx,vs,w',h1,Rd.of (hc.h _ hm),ok1,ok2,a1,q⟩
  ·exact o2.elim
theorem Wld.at {i:Nat} {t:Tr} (W:Wld K k lo us Fb Hb F H σ ρ cs) (ht:ρ[i]?=some t) (hn:t≠.hole) (r:List Str) (ok:okR K t r):∃ w c,R K F (λ_=>Hb) (getR t r) w c/\(∀ p∈c,p∈cs i)/\Cells F H c/\(∀ Q:VK,Q w H->tR K i r σ H Q)/\
  ∀ F' H',Wld K k lo us Fb Hb F' H' σ ρ cs->Le F F'->∀ (a:Addr) (o o':HO) (ds ds' e:Cs) (u:Tr) (d:Cs),c=(a,o) :: ds->ds'.Sublist ds->Cells F' H' e->New Hb e->(∀ j,∀ p∈cs j,∀ q∈e,p.1≠q.1)->d.Perm ((a,o') :: (ds'++e))->R K F' (λ_=>Hb) u w d->∃ cs',Wld K k lo us Fb Hb F' (upd H' a o') σ (ρ.set i (setR t r u)) cs':=by
 rcases W.e i t ht with z | ⟨v,hv,rv⟩
 ·exact absurd z hn
 ·obtain⟨w,c,rest,p1,r1,cl,rd⟩:=place W.g.s (λ_=>W.g.h) hv rv (W.c i) r ok
  have sub:∀ {F H:Hp},Cells F H (cs i)->Cells F H (c++rest):=λh=>⟨λp m=>h.h p (p1.mem_iff.mpr m),λp m=>h.f p (p1.mem_iff.mpr m),((p1.map (·.1)).nodup_iff).mp h.nd⟩
  refine⟨w,c,r1,λp m=>p1.mem_iff.mpr (List.mem_append.mpr (.inl m)),(sub (W.c i)).left,rd,λF' H' W' l a o o' ds ds' e u d ec sl he hne hje pd ru=>?_⟩
  obtain⟨c1,b1,b2⟩:=cl F' l u d ru
  have ci:=sub (W'.c i)
  rw [ec] at ci
  have am:(a,o)∈cs i:=p1.mem_iff.mpr (List.mem_append.mpr (.inl (by rw [ec];exact .head _)))
  have nd':(a ∉ (ds++rest).map (·.1))/\((ds++rest).map (·.1)).Nodup:=List.nodup_cons.mp ci.nd
  have s2:(ds'++rest).Sublist (ds++rest):=sl.append_right rest
  have mm:∀ p∈ds'++rest,p∈cs i:=λp m=>p1.mem_iff.mpr (by rw [ec];exact .tail _ (s2.subset m))
  have c3:Cells F' H' (ds'++rest):=⟨λp m=>(W'.c i).h p (mm p m),λp m=>(W'.c i).f p (mm p m),List.Sublist.nodup (s2.map _) nd'.2⟩
  refine⟨_,W'.mut (o:=o) (o':=o') (ds':=(ds'++rest)++e) hv am (c3.app he λp mp q mq=>hje i p (mm p mp) q mq) ?_ ?_ ?_ (b2.trans ((pd.append_right rest).trans ?_)) b1⟩
  ·exact λp m=>(List.mem_append.mp m).elim (λm=>W'.n i p (mm p m)) (hne p)
  ·intro p m z
   rcases List.mem_append.mp m with m | m
   ·exact nd'.1 (List.mem_map.mpr ⟨p,s2.subset m,z⟩)
   ·exact hje i _ am p m z.symm
  ·intro j hj p m q mq
   rcases List.mem_append.mp m with m | m
   ·exact W'.d i j (λz=>hj z.symm) p (mm p m) q mq
   ·exact (hje j q mq p m).symm
  ·show List.Perm ((a,o') :: ((ds'++e)++rest)) ((a,o') :: ((ds'++rest)++e))
   refine List.Perm.cons _ ?_
   rw [List.append_assoc,List.append_assoc]
   exact List.Perm.append_left _ List.perm_append_comm
end
end Pu
namespace Pu
open PySem L2 Vc Sf
section
variable {K:W.Frag} {k:Md} {lo:Nat} {us:List V} {Fb Hb F H F' H' F1 H1:Hp} {σ:St} {ρ:List Tr} {cs:Nat->Cs} {B:Bool->Hp}
def wPl (K:W.Frag) (ρ:List Tr) (i:Nat) (r:List Str) (Q:Tr->(Tr->List Tr)->Prop):Prop:=match ρ[i]? with
 | some .hole => False
 | some t => okR K t r /\ Q (getR t r) λu => ρ.set i (setR t r u)
 | none => False
theorem e'G {i:Nat} {r:List Str} {Q:Tr->(Tr->List Tr)->Prop} (h:wPl K ρ i r Q):∃ t,ρ[i]?=some t/\t≠.hole/\okR K t r/\Q (getR t r) λu=>ρ.set i (setR t r u):=by
 unfold wPl at h
 split at h
 ·exact h.elim
 ·rename_i t ne e
  exact⟨t,e,ne,h.1,h.2⟩
 ·exact h.elim
theorem Rs.snoc {xs:List Tr} {vs:List V} {ds e:Cs} {t:Tr} {v:V} (h:Rs K F B xs vs ds) (rt:R K F B t v e):Rs K F B (xs++[t]) (vs++[v]) (ds++e):=h.append ⟨v,[],e,[],rfl,by rw [List.append_nil],rt,rfl,rfl⟩
theorem Wld.heldLe {t:Tr} {v:V} {c:Cs} (W:Wld K k lo us Fb Hb F H σ ρ cs) (o:Out K F (Bq Hb H) H F' H' t v c) (n:nlt t=true) :
  ∃ F'',Wld K k lo us Fb Hb F'' H' σ ρ cs/\R K F'' (λ_=>Hb) (frz t) v []/\Le F F'':=by
 obtain⟨n1,d1⟩:=W.fresh o
 obtain⟨F2,W2,s2,e2⟩:=(W.gr o.g).lay o.c n1 (o.r.plain t) d1
 exact⟨F2,W2,(R.low (B':=λ_=>Hb) t n rfl o.r).frz (Le.of s2) t e2,Le.trans o.g.le (Le.of s2)⟩
theorem d'v:New Hb []:=λ_ m=>nomatch m
theorem c'a {cs:Nat->Cs}:∀ (j:Nat),∀ p∈cs j,∀ q∈([]:Cs),p.1≠q.1:=λ_ _ _ _ m=>nomatch m
def wOwnL (u:Tr) (Q:List Tr->Prop):Prop:=match u with | .lst .o xs=>Q xs | _=>False
theorem c'E {u:Tr} {Q:List Tr->Prop} (h:wOwnL u Q):∃ xs,u=.lst .o xs/\Q xs:=by
 unfold wOwnL at h
 split at h
 ·exact⟨_,rfl,h⟩
 ·exact h.elim
def pApp (K:W.Frag) (i:Nat) (r:List Str) (pe:PE'):PS':=λD ρ=>wPl K ρ i r λu s=>wOwnL u λxs=>pe (ρ.map lend) λt=>nlt t=true/\xs.length<1000000/\D.nx (s (.lst .o (xs++[frz t])))
theorem s'P {i:Nat} {r:List Str} {te:TE} {pe:PE'} (h:Sim K k te pe):SimS K k lo (tDrop (tBM K "list" rAppend (tR K i r) (tCons te tNil))) (pApp K i r pe):=λus Fb Hb F H σ ρ cs D D' W p L=>by
 obtain⟨t,e1,e2,e3,p⟩:=e'G p
 obtain⟨xs,eg,p⟩:=c'E p
 obtain⟨w,c,r1,sub,hc,rd,cl⟩:=W.at e1 e2 r e3
 rw [eg] at r1
 obtain⟨a,vs,ds,rfl,h2,h3⟩:=r1
 have ha:H a=some (.lst vs):=hc.h (a,.lst vs) (by rw [h2];exact .head _)
 refine rd _ ⟨e'Z ha,h F (Bq Hb H) H σ _ _ _ W.cxt p λu v F1 H1 c1 q o=>?_⟩
 obtain⟨F2,W2,r2,l2⟩:=W.heldLe o q.1
 have ha1:H1 a=some (.lst vs):=o.g.h _ _ ha
 obtain⟨cs',W3⟩:=cl F2 H1 W2 l2 a (.lst vs) (.lst (vs++[v])) ds ds [] (.lst .o (xs++[frz u])) ((a,.lst (vs++[v])) :: (ds++[])) h2 (List.Sublist.refl _) .nil d'v c'a (List.Perm.refl _) ⟨a,vs++[v],ds++[],rfl,rfl,(h3.mo l2 (λ_=>Le.refl _) xs).snoc r2⟩
 exact⟨a,vs,v,rfl,rfl,ha1,Nat.lt_of_lt_of_le (by rw [h3.length];exact q.2.1) (by decide),L.nx F2 _ σ _ cs' W3 q.2.2⟩
def wSetL (xs:List Tr) (y t:Tr) (Q:List Tr->Prop):Prop:=match y with | .int j=>(match ixN xs.length j with | some n=>Q (xs.set n t) | none=>False) | _=>False
def pSetL (K:W.Frag) (i:Nat) (r:List Str) (pj pe:PE'):PS':=λD ρ=>pe (ρ.map lend) λt=>nlt t=true/\wPl K ρ i r λu s=>wOwnL u λxs=>pj (ρ.map lend) λy=>wSetL xs y (frz t) λxs'=>D.nx (s (.lst .o xs'))
def putT (m:List (Key×Tr)) (y:Key) (t:Tr):List (Key×Tr):=
 if (m.any λkv=>decide (kv.1=y))=true then m.map (λkv=>if kv.1=y then (kv.1,t) else kv) else m++[(y,t)]
theorem Rk.any:∀ {m:List (Key×Tr)} {vs:List (Key×V)} {ds:Cs} {y:Key},Rk K F B m vs ds->(vs.any λkv=>decide (kv.1=y))=m.any λkv=>decide (kv.1=y)
 | [], _, _, y, ⟨h, _⟩ => by rw [h]; rfl
 | (k, x) :: m, _, _, y, ⟨v, r, c, d, h1, h2, h3, h4⟩ => by rw [h1, List.any_cons, List.any_cons, Rk.any h4]
theorem Rk.rep:∀ {m:List (Key×Tr)} {vs:List (Key×V)} {ds:Cs} {y:Key} {t:Tr} {v:V},Rk K F B m vs ds->R K F B t v []->∃ ds',Rk K F B (m.map (λkv=>if kv.1=y then (kv.1,t) else kv)) (vs.map (λkv=>if kv.1=y then (kv.1,v) else kv)) ds'/\ds'.Sublist ds
 | [], _, _, y, _, _, ⟨h, h'⟩, _ => ⟨[], by rw [h]; exact ⟨rfl, rfl⟩, by rw [h']; exact List.Sublist.refl _⟩
 | (k, x) :: m, _, _, y, t, w, ⟨v, r, c, d, h1, h2, h3, h4⟩, rt => by
  obtain⟨d',a1,a2⟩:=Rk.rep (y:=y) h4 rt
  by_cases e:k=y
  ·refine⟨d',?_,by rw [h2];exact a2.trans (List.sublist_append_right c d)⟩
   rw [h1,List.map_cons,List.map_cons]
   show Rk K F B ((if k=y then (k,t) else (k,x)) :: _) ((if k=y then (k,w) else (k,v)) :: _) _
   rw [if_pos e,if_pos e]
   exact⟨w,_,[],d',rfl,rfl,rt,a1⟩
  ·refine⟨c++d',?_,by rw [h2];exact a2.append_left c⟩
   rw [h1,List.map_cons,List.map_cons]
   show Rk K F B ((if k=y then (k,t) else (k,x)) :: _) ((if k=y then (k,w) else (k,v)) :: _) _
   rw [if_neg e,if_neg e]
   exact⟨v,_,c,d',rfl,rfl,h3,a1⟩
theorem Rk.append:∀ {m n:List (Key×Tr)} {vs us:List (Key×V)} {c d:Cs},Rk K F B m vs c->Rk K F B n us d->Rk K F B (m++n) (vs++us) (c++d)
 | [], _, _, _, _, _, ⟨h1, h2⟩, h => by rw [h1, h2]; exact h
 | (k, x) :: m, _, _, _, _, _, ⟨v, r, c, d, h1, h2, h3, h4⟩, h => by rw [h1, h2]; exact ⟨v, r ++ _, c, d ++ _, rfl, by rw [List.append_assoc], h3, Rk.append h4 h⟩
theorem Rk.put {m:List (Key×Tr)} {vs:List (Key×V)} {ds:Cs} {y:Key} {t:Tr} {v:V} (h:Rk K F B m vs ds) (rt:R K F B t v []):∃ ds',Rk K F B (putT m y t) (putK vs y v) ds'/\ds'.Sublist ds:=by
 unfold putT putK
 rw [h.any]
 split
 ·exact h.rep rt
 ·exact⟨ds++[],h.append ⟨v,[],[],[],rfl,rfl,rt,rfl,rfl⟩,by rw [List.append_nil];exact List.Sublist.refl _⟩
theorem m'g {m:List (Key×Tr)} (n:(m.map (·.1)).Nodup) (y:Key) (t:Tr):((putT m y t).map (·.1)).Nodup:=by
 unfold putT
 split
 ·have e:(m.map λkv=>if kv.1=y then (kv.1,t) else kv).map (·.1)=m.map (·.1):=by
   rw [List.map_map]
   refine List.map_congr_left λp _=>?_
   show (if p.1=y then (p.1,t) else p).1=p.1
   split<;>rfl
  rw [e];exact n
 ·rename_i h
  rw [List.map_append,List.nodup_append]
  refine⟨n,List.nodup_cons.mpr ⟨λz=>(nomatch z),List.nodup_nil⟩,λa ma b mb e=>h ?_⟩
  obtain⟨p,mp,rfl⟩:=List.mem_map.mp ma
  rw [List.mem_singleton.mp mb] at e
  exact List.any_eq_true.mpr ⟨p,mp,decide_eq_true e⟩
def wOwnD (u:Tr) (Q:List (Key×Tr)->Prop):Prop:=match u with | .dic .o xs=>Q xs | _=>False
theorem o'W {u:Tr} {Q:List (Key×Tr)->Prop} (h:wOwnD u Q):∃ xs,u=.dic .o xs/\Q xs:=by
 unfold wOwnD at h
 split at h
 ·exact⟨_,rfl,h⟩
 ·exact h.elim
def wKey (y:Tr) (Q:Key->Prop):Prop:=match keyT y with | some y=>Q y | none=>False
def pPut (K:W.Frag) (i:Nat) (r:List Str) (pj pe:PE'):PS':=λD ρ=>pe (ρ.map lend) λt=>nlt t=true/\wPl K ρ i r λu s=>wOwnD u λm=>pj (ρ.map lend) λy=>wKey y λy=>m.length<1000000/\D.nx (s (.dic .o (putT m y (frz t))))
theorem s'Q {i:Nat} {r:List Str} {te tj:TE} {pe pj:PE'} (h:Sim K k te pe) (hj:Sim K k tj pj):SimS K k lo (sDPut (tR K i r) tj te) (pPut K i r pj pe):=λus Fb Hb F H σ ρ cs D D' W p L=>by
 refine h F (Bq Hb H) H σ _ _ _ W.cxt p λu v F1 H1 c1 q o=>?_
 obtain⟨F2,W2,r2,l2⟩:=W.heldLe o q.1
 obtain⟨t,e1,e2,e3,p⟩:=e'G q.2
 obtain⟨m,eg,p⟩:=o'W p
 obtain⟨w,c,r1,sub,hc,rd,cl⟩:=W2.at e1 e2 r e3
 rw [eg] at r1
 obtain⟨a,vs,ds,rfl,h2,h3,h4⟩:=r1
 have ha:H1 a=some (.dK vs):=hc.h (a,.dK vs) (by rw [h2];exact .head _)
 refine rd _ (hj F2 (Bq Hb H1) H1 σ _ _ _ W2.cxt p λy vy F3 H3 c3 q3 o3=>?_)
 unfold wKey at q3
 split at q3
 ·rename_i yk ey
  obtain rfl:=e'D o3.r ey
  obtain⟨ds',a1,a2⟩:=(h3.mo o3.g.le (λ_=>Le.refl _) m).put (y:=yk) (r2.mo o3.g.le (λ_=>Le.refl _) _)
  obtain⟨cs',W4⟩:=cl F3 H3 (W2.gr o3.g) o3.g.le a (.dK vs) (.dK (putK vs yk v)) ds ds' [] (.dic .o (putT m yk (frz u))) ((a,.dK (putK vs yk v)) :: (ds'++[])) h2 a2 .nil d'v c'a (List.Perm.refl _) ⟨a,_,ds'++[],rfl,rfl,by rw [List.append_nil];exact a1,m'g h4 _ _⟩
  exact⟨a,_,rfl,DPut.k (o3.g.h _ _ ha) (Nat.lt_of_lt_of_le (by rw [h3.length];exact q3.1) (by decide)),L.nx F3 _ σ _ cs' W4 q3.2⟩
 ·exact q3.elim
def pDnew:PE':=λ_ Q=>Q (.dic .o [])
theorem o'X:Sim K k tDNewK pDnew:=λF B H σ ρ Q Q' c p q a ha=>q _ _ F _ _ p ⟨Gr.own1 c.s ha,⟨a,[],[],rfl,rfl,⟨rfl,rfl⟩,List.nodup_nil⟩,c'm c.s .nil ha,λp m=>by
 cases m with
 | head => exact ha
 | tail _ m => nomatch m⟩
def putf (f:Str) (u:Tr):List (Str×Tr)->List (Str×Tr)
 | [] => [(f, u)]
 | (g, x) :: r => if g = f then (g, u) :: r else (g, x) :: putf f u r
theorem Rf.put:∀ {fs:List (Str×Tr)} {vs:List (Str×V)} {ds:Cs} {f:Str} {t:Tr} {v:V} {e:Cs},Rf K F B fs vs ds->R K F B t v e->∃ ds' d,Rf K F B (putf f t fs) (putF f v vs) d/\ds'.Sublist ds/\d.Perm (ds'++e)
 | [], _, _, f, t, v, e, ⟨h1, h2⟩, rt => ⟨[], e, by rw [h1]; exact ⟨v, [], e, [], rfl, by rw [List.append_nil], rt, rfl, rfl⟩, by rw [h2]; exact List.Sublist.refl _, List.Perm.refl _⟩
 | (g, x) :: fs, _, _, f, t, w, e, ⟨v, r, c, d, h1, h2, h3, h4⟩, rt => by
  by_cases z:g=f
  ·refine⟨d,e++d,?_,by rw [h2];exact List.sublist_append_right c d,List.perm_append_comm⟩
   rw [h1]
   show Rf K F B (if g=f then (g,t) :: fs else _) (if g=f then (g,w) :: r else _) _
   rw [if_pos z,if_pos z]
   exact⟨w,r,e,d,rfl,rfl,rt,h4⟩
  ·obtain⟨d',d2,a1,a2,a3⟩:=Rf.put (f:=f) h4 rt
   refine⟨c++d',c++d2,?_,by rw [h2];exact a2.append_left c,by rw [List.append_assoc];exact a3.append_left c⟩
   rw [h1]
   show Rf K F B (if g=f then _ else (g,x) :: putf f t fs) (if g=f then _ else (g,v) :: putF f w r) _
   rw [if_neg z,if_neg z]
   exact⟨v,_,c,d2,rfl,rfl,h3,a1⟩
theorem Rf.length:∀ {fs:List (Str×Tr)} {vs:List (Str×V)} {ds:Cs},Rf K F B fs vs ds->vs.length=fs.length
 | [], _, _, ⟨h, _⟩ => by rw [h]; rfl
 | (k, x) :: xs, _, _, ⟨v, r, c, d, h1, h2, h3, h4⟩ => by rw [h1, List.length_cons, List.length_cons, Rf.length h4]
def wOwnI (K:W.Frag) (f:Str) (u:Tr) (Q:Addr->List (Str×Tr)->Prop):Prop:=match u with | .ins .o c fs=>(Cls K c/\NoAttr K c f)/\fs.length<900/\Q c fs | _=>False
theorem o'Y {f:Str} {u:Tr} {Q:Addr->List (Str×Tr)->Prop} (h:wOwnI K f u Q):∃ c fs,u=.ins .o c fs/\(Cls K c/\NoAttr K c f)/\fs.length<900/\Q c fs:=by
 unfold wOwnI at h
 split at h
 ·exact⟨_,_,rfl,h⟩
 ·exact h.elim
def pFldS (K:W.Frag) (i:Nat) (r:List Str) (f:Str) (pe:PE'):PS':=λD ρ=>pe (ρ.map lend) λt=>nlt t=true/\wPl K ρ i r λu s=>wOwnI K f u λc fs=>D.nx (s (.ins .o c (putf f t fs)))
theorem o'Z {i:Nat} {r:List Str} {f:Str} {te:TE} {pe:PE'} (h:Sim K k te pe):SimS K k lo (sFld K (tR K i r) te f) (pFldS K i r f pe):=λus Fb Hb F H σ ρ cs D D' W p L=>by
 refine h F (Bq Hb H) H σ _ _ _ W.cxt p λu v F1 H1 c1 q o=>?_
 have W2:=W.gr o.g
 obtain⟨n1,d1⟩:=W.fresh o
 obtain⟨t,e1,e2,e3,p⟩:=e'G q.2
 obtain⟨C,fs,eg,ok,hl,p⟩:=o'Y p
 obtain⟨w,c,r1,sub,hc,rd,cl⟩:=W2.at e1 e2 r e3
 rw [eg] at r1
 obtain⟨a,dx,vs,ds,rfl,h2,h3⟩:=r1
 have ha:H1 a=some (.ins C dx vs):=hc.h (a,.ins C dx vs) (by rw [h2];exact .head _)
 obtain⟨ds',d,a1,a2,a3⟩:=h3.put (f:=f) (R.low (B':=λ_=>Hb) u q.1 rfl o.r)
 obtain⟨cs',W3⟩:=cl F1 H1 W2 (Le.refl _) a (.ins C dx vs) (.ins C dx (putF f v vs)) ds ds' c1 (.ins .o C (putf f u fs)) ((a,.ins C dx (putF f v vs)) :: d) h2 a2 o.c n1 d1 (List.Perm.cons _ a3) ⟨a,dx,_,d,rfl,rfl,a1⟩
 exact rd _ ⟨a,C,dx,vs,rfl,ha,ok.1,ok.2,Nat.lt_of_lt_of_le (by rw [h3.length];exact hl) (by decide),L.nx F1 _ σ _ cs' W3 p⟩
end
end Pu
namespace Pu
open PySem L2 Vc Sf
section
variable {K:W.Frag} {k:Md} {lo:Nat} {us:List V} {Fb Hb F H F' H' F1 H1:Hp} {σ:St} {ρ:List Tr} {cs:Nat->Cs}
theorem s'R {Hb:Hp} {a:Addr} {ob:Obj} {vs:List (Key×V)} (h:Hb a=none\/Hb a=some (.dK vs)):Le (fz Hb a (.frz ob (.dK vs))) Hb:=λb u n r=>by
 by_cases e:b=a
 ·subst e
  rcases h with h | h
  ·rcases r with r | ⟨o,r⟩<;>(rw [a'Q,if_pos h] at r;cases r)
  ·have z:fz Hb b (.frz ob (.dK vs)) b=some (.frz ob (.dK vs)):=by rw [a'Q,if_neg (by rw [h];intro z;cases z)]
   rcases r with r | ⟨o,r⟩
   ·rw [z] at r;cases r;exact absurd rfl (n _ _)
   ·rw [z] at r;cases r;exact .inl h
 ·rcases r with r | ⟨o,r⟩
  ·rw [a'u e] at r;exact .inl r
  ·rw [a'u e] at r;exact .inr ⟨o,r⟩
theorem Wld.walk {a:Addr} {ob:Obj} {vs:List (Key×V)} (W:Wld K k lo us F Hb F H σ ρ cs) (hF:F a=some (.dK vs)):Wld K k.walk lo us (fz F a (.frz ob (.dK vs))) (fz Hb a (.frz ob (.dK vs))) (fz F a (.frz ob (.dK vs))) (upd H a (.frz ob (.dK vs))) σ ρ cs:=by
 have hH:H a=some (.dK vs):=W.g.s _ _ hF
 have hB:Hb a=none\/Hb a=some (.dK vs):=by
  cases q:Hb a with
  | none=>exact .inl rfl
  | some u=>have:=W.g.h _ _ q;rw [hH] at this;exact .inr this.symm
 have ne:∀ i,∀ p∈cs i,p.1≠a:=λi p m e=>by have:=(W.c i).f p m;rw [e,hF] at this;cases this
 refine⟨⟨w'j _ W.g.toGr0,Fz.refl _⟩,λh=>(by cases h),W.l,λi t h=>(W.e i t h).imp id λ⟨v,h1,h2⟩=>⟨v,h1,h2.mo (g's (.inr hF)) (λ_=>g's hB) t⟩,λi=>⟨λp m=>?_,λp m=>?_,(W.c i).nd⟩,λi p m=>?_,W.d,W.p,λ_ _ _ _ h=>h.elim⟩
 ·rw [a'f (ne i p m)];exact (W.c i).h p m
 ·rw [a'u (ne i p m)];exact (W.c i).f p m
 ·rw [a'u (ne i p m)];exact W.n i p m
theorem Wld.thaw (hz:k.z=true) {a:Addr} {ob:Obj} {vs:List (Key×V)} (W0:Wld K k lo us F1 Hb F1 H1 σ ρ cs) (hF:F1 a=some (.dK vs)) {σ':St} {ρ':List Tr} {cs':Nat->Cs} (W:Wld K k.walk lo us (fz F1 a (.frz ob (.dK vs))) (fz Hb a (.frz ob (.dK vs))) F H σ' ρ' cs') :
  H a=some (.frz ob (.dK vs))/\∃ F'',Wld K k lo us F1 Hb F'' (upd H a (.dK vs)) σ' ρ' cs'/\Le F F''/\(∀ b,b≠a->F'' b=F b)/\(∀ b,F b=none->b≠a):=by
 have hH:H1 a=some (.dK vs):=W0.g.s _ _ hF
 have hB:Hb a=none\/Hb a=some (.dK vs):=by
  cases q:Hb a with
  | none=>exact .inl rfl
  | some u=>have:=W0.g.h _ _ q;rw [hH] at this;exact .inr this.symm
 have fa:fz F1 a (.frz ob (.dK vs)) a=some (.frz ob (.dK vs)):=by rw [a'Q,if_neg (by rw [hF];intro z;cases z)]
 have sF:F a=some (.frz ob (.dK vs)):=W.g.f _ _ fa
 have hHa:H a=some (.frz ob (.dK vs)):=W.g.s _ _ sF
 have cm:Fz (λb=>b=a\/S0 b) F:=λb o u e=>by
  obtain⟨o',u',e'⟩:=W.g.z b o u e
  by_cases eb:b=a
  ·exact .inl eb
  ·rw [a'u eb] at e';exact .inr (W0.z hz b o' u' e')
 obtain⟨F2,g2,z2,l2,e2,n2,b2,c2⟩:=w'K (Fb:=F1) (Hb:=Hb) (F:=F1) (H:=H1) (S:=S0) W0.g.toGr0 hH (.inr hF) W.g.toGr0 (sF.trans fa.symm) cm
 have ne:∀ i,∀ p∈cs' i,p.1≠a:=λi p m e=>by have:=(W.c i).f p m;rw [e,sF] at this;cases this
 refine⟨hHa,F2,⟨⟨g2,λb o u e=>(z2 b o u e).elim⟩,λ_=>z2,W.l,λi t h=>(W.e i t h).imp id λ⟨v,h1,h2⟩=>⟨v,h1,h2.mo l2 (λ_=>s'R hB) t⟩,λi=>⟨λp m=>?_,λp m=>?_,(W.c i).nd⟩,λi p m=>?_,W.d,W.p,W0.x⟩,l2,b2,λb e z=>?_⟩
 ·rw [a'f (ne i p m)];exact (W.c i).h p m
 ·rw [b2 _ (ne i p m)];exact (W.c i).f p m
 ·have:=W.n i p m;rw [a'u (ne i p m)] at this;exact this
 ·rw [z,sF] at e;cases e
def keyTr:Key->Tr | .inl n=>.int n | .inr s=>.str s
inductive Wm where | it | ks | vs
def wit:Wm->Key×Tr->Tr
 | .it, p => .tup [keyTr p.1, p.2]
 | .ks, p => keyTr p.1
 | .vs, p => p.2
def wDicF (t:Tr) (Q:List (Key×Tr)->Prop):Prop:=match t with | .dic .f m=>Q m | _=>False
def pForD (w:Wm) (pe:PE') (pg:PG') (pb:PS'):PS':=λD ρ=>pe (ρ.map lend) λt=>nlt t=true/\wDicF (frz t) λm=>∃ I:Nat->List Tr->Prop,I 0 ρ/\(∀ i p ρ,m[i]?=some p->I i ρ->pg (wit w p) ρ λρ'=>pb { D with nx:=I (i+1),ct:=I (i+1),bk:=D.nx } ρ')/\∀ ρ,I m.length ρ->D.nx ρ
theorem Rk.nil_at {B:Bool->Hp}:∀ {m:List (Key×Tr)} {vs:List (Key×V)} {i:Nat} {y:Key} {v:V},Rk K F B m vs []->vs[i]?=some (y,v)->∃ t,m[i]?=some (y,t)/\R K F B t v []
 | [], _, i, y, v, ⟨h, _⟩, e => by rw [h] at e; cases e
 | (y', x) :: m, _, 0, y, v, ⟨u, r, c, d, h1, h2, h3, h4⟩, e => by
  rw [h1] at e
  cases e
  have z:=List.append_eq_nil_iff.mp h2.symm
  rw [z.1] at h3
  exact⟨x,rfl,h3⟩
 | (y', x) :: m, _, i + 1, y, v, ⟨u, r, c, d, h1, h2, h3, h4⟩, e => by
  rw [h1] at e
  have z:=List.append_eq_nil_iff.mp h2.symm
  rw [z.2] at h4
  exact Rk.nil_at (i:=i) h4 e
theorem w's {B:Bool->Hp} {y:Key}:R K F B (keyTr y) (kV y) []:=by
 cases y with
 | inl n => exact ⟨rfl, rfl⟩
 | inr n => exact ⟨rfl, rfl⟩
theorem s'S (hz:k.z=true) {X:Cx} {a:Addr} {ob:Obj} {vs:List (Key×V)} {D:Ends} {D':Pd} (hna:∀ o u,X.H₀ a≠some (.frz o u)) (W0:Wld K k lo us F1 Hb F1 H1 σ ρ cs) (hF:F1 a=some (.dK vs)) (L:Lk K k lo us F1 Hb D D'):Lk K k.walk lo us (fz F1 a (.frz ob (.dK vs))) (fz Hb a (.frz ob (.dK vs))) (ThawD X D) D':=by
 refine⟨λF H σ ρ cs W q=>?_,λF H σ ρ cs v t c W r hc n d nl q=>?_,λF H σ ρ cs W q=>?_,λF H σ ρ cs W q=>?_⟩
 ·obtain⟨h1,F2,W2,_⟩:=W0.thaw hz hF W
  exact⟨a,ob,vs,h1,hna,L.nx F2 _ σ ρ cs W2 q⟩
 ·obtain⟨h1,F2,W2,l2,b2,f2⟩:=W0.thaw hz hF W
  refine⟨a,ob,vs,h1,hna,L.rt F2 _ σ ρ cs v t c W2 ((r.mo l2 (λ_=>Le.refl _) t).base t nl) ⟨λp m=>?_,λp m=>?_,hc.nd⟩ (λp m=>?_) d nl q⟩
  ·rw [a'f (f2 _ (hc.f p m))];exact hc.h p m
  ·rw [b2 _ (f2 _ (hc.f p m))];exact hc.f p m
  ·have:=n p m;rw [a'u (f2 _ (hc.f p m))] at this;exact this
 ·obtain⟨h1,F2,W2,_⟩:=W0.thaw hz hF W
  exact⟨a,ob,vs,h1,hna,L.bk F2 _ σ ρ cs W2 q⟩
 ·obtain⟨h1,F2,W2,_⟩:=W0.thaw hz hF W
  exact⟨a,ob,vs,h1,hna,L.ct F2 _ σ ρ cs W2 q⟩
theorem f'P {a:Addr} {ob:Obj} {vs:List (Key×V)} {m:List (Key×Tr)} (W0:Wld K k lo us F1 Hb F1 H1 σ ρ cs) (hF:F1 a=some (.dK vs)) (r:Rk K F1 (λ_=>Hb) m vs []) {σ':St} {ρ':List Tr} {cs':Nat->Cs} (W:Wld K k.walk lo us (fz F1 a (.frz ob (.dK vs))) (fz Hb a (.frz ob (.dK vs))) F H σ' ρ' cs') :
  H a=some (.frz ob (.dK vs))/\Rk K F (λ_=>fz Hb a (.frz ob (.dK vs))) m vs []:=by
 have hB:Hb a=none\/Hb a=some (.dK vs):=by
  cases q:Hb a with
  | none=>exact .inl rfl
  | some u=>have:=W0.g.h _ _ q;rw [W0.g.s _ _ hF] at this;exact .inr this.symm
 have fa:fz F1 a (.frz ob (.dK vs)) a=some (.frz ob (.dK vs)):=by rw [a'Q,if_neg (by rw [hF];intro z;cases z)]
 exact⟨W.g.s _ _ (W.g.f _ _ fa),r.mo (Le.trans (g's (.inr hF)) (Le.of W.g.f)) (λ_=>g's hB) m⟩
theorem p'a (hz:k.z=true) {X:Cx} {te:TE} {pe:PE'} {tg:TG} {pg:PG'} {tb:TS} {pb:PS'} (h:Sim K k te pe) (hg:SimG K k.walk lo tg pg) (hb:SimS K k.walk lo tb pb):SimS K k lo (tForD X te tg tb) (pForD .it pe pg pb):=λus Fb Hb F H σ ρ cs D D' W p L=>by
 refine h F (Bq Hb H) H σ _ _ _ W.cxt p λt v F1 H1 c p1 o=>?_
 obtain⟨F2,W2,r2⟩:=W.held o p1.1
 have p2:=p1.2
 unfold wDicF at p2
 split at p2
 ·rename_i m em
  rw [em] at r2
  obtain⟨_,a,vs,rfl,h2,h3,h4⟩:=r2
  have hF:=i't (W2.z hz) h2
  obtain⟨I,i0,step,fin⟩:=p2
  have W3:=W2.rebase
  have L1:=L.rebase W2
  refine⟨a,vs,rfl,W2.g.s _ _ hF,λob hna=>?_⟩
  have L2:=s'S hz (X:=X) (ob:=ob) hna W3 hF L1
  refine l'x (λi σ H=>∃ F ρ cs,Wld K k.walk lo us (fz F2 a (.frz ob (.dK vs))) (fz Hb a (.frz ob (.dK vs))) F H σ ρ cs/\I i ρ) ⟨_,ρ,cs,W3.walk hF,i0⟩ ?_ ?_ ?_
  ·rintro i σ H hi ⟨F,ρ,cs,W,_⟩
   exact (f'P W3 hF h3 W).1
  ·rintro i y u σ H p e ⟨F,ρ,cs,W,ii⟩ hp
   obtain⟨_,rk⟩:=f'P W3 hF h3 W
   obtain⟨tu,e1,e2⟩:=rk.nil_at e
   obtain⟨F4,g4,r4,_⟩:=d'q (xs:=[keyTr y,tu]) (cs:=[]) W.g.s ⟨kV y,[u],[],[],rfl,rfl,w's,u,[],[],[],rfl,rfl,e2,rfl,rfl⟩ .nil hp
   refine hg us _ _ F4 _ σ ρ cs _ _ _ _ (W.gr g4) r4 (step i (y,tu) ρ e1 ii) λσ' ρ' cs' W' p'=>?_
   exact hb us _ _ F4 _ σ' ρ' cs' _ _ W' p' ⟨λF H σ ρ cs W q=>⟨F,ρ,cs,W,q⟩,L2.rt,L2.nx,λF H σ ρ cs W q=>⟨F,ρ,cs,W,q⟩⟩
  ·rintro σ H ⟨F,ρ,cs,W,q⟩
   exact L2.nx F H σ ρ cs W (fin ρ (by rw [<- h3.length];exact q))
 ·exact p2.elim
end
end Pu
namespace Pu
open PySem L2 Vc Sf
section
variable {X:Cx}
def rLenU (K:W.Frag):List V->Hp->VK->Prop:=λxs H Q=>(λxs H Q=>∃ x n,xs=[x]/\LenV K x H n/\Q (.int n) H) xs H Q\/(λxs H Q=>∃ a kvs,xs=[V.ref a]/\H a=some (.dK kvs)/\Q (.int kvs.length) H) xs H Q
theorem b'L:CallR X (.builtin "len") (rLenU X.K):=call_len.or l'w
def rInU (K:W.Frag):R2:=λx y H Q=>rIn K false x y H Q\/rInD false x y H Q
theorem k'K (hu:X.A.units+1<cLine):OpR X (compareOp .In) (rInU X.K):=op_in_seq.or (u'z hu)
def rNotInU (K:W.Frag):R2:=λx y H Q=>rIn K true x y H Q\/rInD true x y H Q
theorem s'T (hu:X.A.units+1<cLine):OpR X (compareOp .NotIn) (rNotInU X.K):=op_notIn_seq.or (l'X hu)
def rSlU (K:W.Frag):V->Option Int->Option Int->Hp->VK->Prop:=λx l h H Q=>rSlL K x l h H Q\/rSlS x l h H Q
theorem w'L:SlR X (rSlU X.K):=sl_list.or u'o
end
section
variable {K:W.Frag} {k:Md} {lo:Nat} {us:List V} {Fb Hb F H F' H' F1 H1:Hp} {σ:St} {ρ:List Tr} {cs:Nat->Cs} {B:Bool->Hp}
def wLen (k:Bool) (ts:List Tr) (Q:Tr->Prop):Prop:=match ts with
 | [.str x] => x.length <= 1000000 /\ Q (.int x.length)
 | [.lst _ xs] => Q (.int xs.length)
 | [.tup xs] => Q (.int xs.length)
 | [.dic .f m] => k = true /\ Q (.int m.length)
 | [.dic .o m] => Q (.int m.length)
 | _ => False
theorem b'g:OpA K k (rLenU K) (wLen k.z):=λF B H xs ts cx Q Q' s b z r hc p q=>by
 unfold wLen at p
 split at p
 ·obtain⟨v,rfl,rfl,_⟩:=r.one
  exact .inl ⟨_,_,rfl,⟨b'u p.1,rfl⟩,q _ _ F H [] p.2 (Gr.refl' s) ⟨rfl,rfl⟩ .nil λ_ m=>nomatch m⟩
 ·obtain⟨v,rfl,r1⟩:=r.one
  obtain⟨a,vs,ds,rfl,h1,h2,_⟩:=r1.lstH s b hc
  exact .inl ⟨_,_,rfl,.inl ⟨vs,h1,rfl⟩,q (.int vs.length) _ F H [] (by rw [<- h2.length] at p;exact p) (Gr.refl' s) ⟨rfl,rfl⟩ .nil λ_ m=>nomatch m⟩
 ·obtain⟨v,rfl,r1⟩:=r.one
  obtain⟨a,vs,rfl,h1,h2⟩:=r1.tupH s
  exact .inl ⟨_,_,rfl,.inr ⟨vs,h1,rfl⟩,q (.int vs.length) _ F H [] (by rw [<- h2.length] at p;exact p) (Gr.refl' s) ⟨rfl,rfl⟩ .nil λ_ m=>nomatch m⟩
 ·obtain⟨v,rfl,r1⟩:=r.one
  obtain⟨_,a,vs,rfl,h2,h3,h4⟩:=r1
  exact .inr ⟨a,vs,rfl,s _ _ (i't (z p.1) h2),q (.int vs.length) _ F H [] (by rw [<- h3.length] at p;exact p.2) (Gr.refl' s) ⟨rfl,rfl⟩ .nil λ_ m=>nomatch m⟩
 ·obtain⟨v,rfl,r1⟩:=r.one
  obtain⟨a,vs,ds,rfl,h2,h3,h4⟩:=r1
  exact .inr ⟨a,vs,rfl,hc.h (a,.dK vs) (by rw [h2];exact .head _),q (.int vs.length) _ F H [] (by rw [<- h3.length] at p;exact p) (Gr.refl' s) ⟨rfl,rfl⟩ .nil λ_ m=>nomatch m⟩
 ·exact p.elim
def wList (ts:List Tr) (Q:Tr->Prop):Prop:=match ts with
 | [.lst _ xs] => Q (.lst .o xs)
 | [.tup xs] => Q (.lst .o xs)
 | [.dic _ m] => Q (.lst .o (m.map λp => keyTr p.1))
 | _ => False
def wDict (ts:List Tr) (Q:Tr->Prop):Prop:=match ts with
 | [.dic _ m] => Q (.dic .o m)
 | _ => False
theorem R.dicN {f:Fl} {xs:List (Key×Tr)} {v:V} {cs:Cs} (r:R K F B (.dic f xs) v cs):(xs.map (·.1)).Nodup:=by
 cases f with
 | f => obtain ⟨_, _, _, _, _, _, h⟩ := r; exact h
 | l q => obtain ⟨_, _, _, _, _, _, h⟩ := r; exact h
 | o => obtain ⟨_, _, _, _, _, _, h⟩ := r; exact h
theorem p'b:OpA K k (λxs H Q=>∃ a kvs,xs=[.ref a]/\Rd H a (.dK kvs)/\∀ p,H p=none->Q (.ref p) (upd H p (.dK kvs))) wDict:=λF B H xs ts cx Q Q' s b z r hc p q=>by
 unfold wDict at p
 split at p
 ·obtain⟨v,rfl,r1⟩:=r.one
  obtain⟨a,vs,ds,rfl,h1,h2,h3,h4⟩:=r1.dicH s b hc
  refine⟨_,_,rfl,h1,λl hl=>q _ _ F _ ((l,.dK vs) :: ds) p (Gr.own1 s hl) ⟨l,vs,ds,rfl,rfl,h2,r1.dicN⟩ (c'm s h3 hl) λp m=>?_⟩
  cases m with
  | head=>exact .inl hl
  | tail _ m=>exact .inr (h4 p m)
 ·exact p.elim
def wIntB (ts:List Tr) (Q:Tr->Prop):Prop:=match ts with
 | [.bl b] => Q (.int (if b = true then 1 else 0))
 | _ => False
theorem p'c:OpA K k (λxs H Q=>∃ b,xs=[.bl b]/\Q (.int (if b=true then 1 else 0)) H) wIntB:=λF B H xs ts cx Q Q' s b z r hc p q=>by
 unfold wIntB at p
 split at p
 ·obtain⟨v,rfl,rfl,_⟩:=r.one
  exact⟨_,rfl,q _ _ F H [] p (Gr.refl' s) ⟨rfl,rfl⟩ .nil λ_ m=>nomatch m⟩
 ·exact p.elim
def wMx (mx:Bool) (ts:List Tr) (Q:Tr->Prop):Prop:=match ts with
 | [.int i, .int j] => Q (.int (if mx = true then (if j > i then j else i) else (if j < i then j else i)))
 | _ => False
def tyT:Tr->Option String
 | .int _ => some "int" | .bl _ => some "bool" | .str _ => some "str" | .non => some "NoneType" | .tup _ => some "tuple" | .lst _ _ => some "list" | .dic _ _ => some "dict" | _ => none
def clT:Tr->Option Value
 | .ty n => some (.type n) | .cl a => some (.ref a) | _ => none
def wIs (K:W.Frag) (ts:List Tr) (Q:Tr->Prop):Prop:=match ts with
 | [x, c] => (match tyT x, clT c with | some t, some u => ∃ b, W.kitOne K (.type t) u = some b /\ Q (.bl b) | _, _ => False)
 | _ => False
theorem u'J:OpA K k (λxs H Q=>∃ x c t b u,xs=[x,c]/\TyX K H x t/\clsV c=some u/\W.kitOne K t u=some b/\Q (.bl b) H) (wIs K):=λF B H xs ts cx Q Q' s b z r hc p q=>by
 unfold wIs at p
 split at p
 ·rename_i x c
  obtain⟨v,w,c1,d1,rfl,r1,r2,e⟩:=r.two
  rw [e] at hc
  split at p
  ·rename_i t u e1 e2
   obtain⟨bb,hk,p⟩:=p
   have hw:clsV w=some u:=by
    cases c with
    | ty n=>cases e2;rw [r2.1];rfl
    | cl a=>cases e2;rw [r2.1];rfl
    | _=>cases e2
   have ht:TyX K H v (.type t):=by
    cases x with
    | int n=>cases e1;rw [r1.1];exact u'k
    | bl n=>cases e1;rw [r1.1];exact w'n
    | str n=>cases e1;rw [r1.1];exact u'l
    | non=>cases e1;rw [r1.1];exact u'm
    | tup xs=>cases e1;obtain⟨a,vs,rfl,h1,_⟩:=r1.tupH s;exact u'h h1
    | lst f xs=>cases e1;obtain⟨a,vs,ds,rfl,h1,_⟩:=r1.lstH s b hc.left;exact u'i h1
    | dic f xs=>cases e1;obtain⟨a,vs,ds,rfl,h1,_⟩:=r1.dicH s b hc.left;exact u'j h1
    | _=>cases e1
   exact⟨v,w,_,bb,u,rfl,ht,hw,hk,q _ _ F H [] p (Gr.refl' s) ⟨rfl,rfl⟩ .nil λ_ m=>nomatch m⟩
  ·exact p.elim
 ·exact p.elim
def flatT:Tr->Bool
 | .int _ => true | .bl _ => true | .str _ => true | .non => true | _ => false
def valT:Tr->V
 | .int n => .int n | .bl b => .bl b | .str x => .str x | _ => .non
theorem h'd {t:Tr} {v:V} {cs:Cs} (r:R K F B t v cs) (h:flatT t=true):v=valT t/\flatV v=true:=by
 cases t with
 | int n => rw [r.1]; exact ⟨rfl, rfl⟩
 | bl n => rw [r.1]; exact ⟨rfl, rfl⟩
 | str n => rw [r.1]; exact ⟨rfl, rfl⟩
 | non => rw [r.1]; exact ⟨rfl, rfl⟩
 | _ => cases h
theorem f'f:∀ {ts:List Tr} {vs:List V} {cs:Cs},Rs K F B ts vs cs->ts.all flatT=true->vs=ts.map valT/\vs.all flatV=true
 | [], _, _, ⟨h, _⟩, _ => by rw [h]; exact ⟨rfl, rfl⟩
 | x :: xs, _, _, ⟨v, r, c, d, h1, h2, h3, h4⟩, h => by
  rw [List.all_cons,Bool.and_eq_true] at h
  obtain⟨a1,a2⟩:=h'd h3 h.1
  obtain⟨b1,b2⟩:=f'f h4 h.2
  rw [h1,b1,a1]
  exact⟨rfl,by rw [List.all_cons,<- b1,b2,<- a1,a2];rfl⟩
def inT (x:Tr) (xs:List Tr):Bool:=inV (valT x) (xs.map valT)
def wIn (neg:Bool) (x y:Tr) (Q:Tr->Prop):Prop:=match y with
 | .lst _ xs => flatT x = true /\ xs.all flatT = true /\ Q (.bl (if neg = true then !inT x xs else inT x xs))
 | .tup xs => flatT x = true /\ xs.all flatT = true /\ Q (.bl (if neg = true then !inT x xs else inT x xs))
 | .dic _ m => wKey x λy => Q (.bl (if neg = true then !(look m y).isSome else (look m y).isSome))
 | _ => False
theorem i'F {neg:Bool}:Op2 K k (λx y H Q=>rIn K neg x y H Q\/rInD neg x y H Q) (wIn neg):=λF B H x y tx ty cx cy Q Q' s b z rx ry hx hy hd p q=>by
 unfold wIn at p
 split at p
 ·obtain⟨h1,h2,p⟩:=p
  obtain⟨a,vs,ds,rfl,g1,g2,_⟩:=ry.lstH s b hy
  obtain⟨a1,a2⟩:=h'd rx h1
  obtain⟨b1,b2⟩:=f'f g2 h2
  refine .inl ⟨a,vs,rfl,.inl g1,a2,b2,q _ _ F H [] p (Gr.refl' s) ⟨?_,rfl⟩ .nil λ_ m=>nomatch m⟩
  rw [a1,b1];cases neg<;>rfl
 ·obtain⟨h1,h2,p⟩:=p
  obtain⟨a,vs,rfl,g1,g2⟩:=ry.tupH s
  obtain⟨a1,a2⟩:=h'd rx h1
  obtain⟨b1,b2⟩:=f'f g2 h2
  refine .inl ⟨a,vs,rfl,.inr g1,a2,b2,q _ _ F H [] p (Gr.refl' s) ⟨?_,rfl⟩ .nil λ_ m=>nomatch m⟩
  rw [a1,b1];cases neg<;>rfl
 ·obtain⟨a,vs,ds,rfl,g1,g2,g3,_⟩:=ry.dicH s b hy
  unfold wKey at p
  split at p
  ·rename_i yk ey
   obtain rfl:=e'D rx ey
   rcases g2.look yk g3 with ⟨z1,z2⟩ | ⟨x,u,c,a1,a2,_⟩
   ·refine .inr ⟨a,none,rfl,.inl ⟨vs,yk,g1,rfl,z2.symm⟩,q _ _ F H [] p (Gr.refl' s) ⟨?_,rfl⟩ .nil λ_ m=>nomatch m⟩
    rw [z1];cases neg<;>rfl
   ·refine .inr ⟨a,some u,rfl,.inl ⟨vs,yk,g1,rfl,a2.symm⟩,q _ _ F H [] p (Gr.refl' s) ⟨?_,rfl⟩ .nil λ_ m=>nomatch m⟩
    rw [a1];cases neg<;>rfl
  ·exact p.elim
 ·exact p.elim
theorem e'H:Op2 K k (rInU K) (wIn false):=i'F
theorem m'h:Op2 K k (rNotInU K) (wIn true):=i'F
def wFld (K:W.Frag) (f:Str) (x:Tr) (Q:Tr->Prop):Prop:=match x with
 | .ins _ c fs => (Cls K c /\ NoAttr K c f) /\ (match fs.lookup f with | some t => Q t | none => False)
 | _ => False
theorem Rf.look:∀ {fs:List (Str×Tr)} {vs:List (Str×V)} {ds:Cs} {f:Str} {x:Tr},Rf K F B fs vs ds->Cells F H ds->fs.lookup f=some x->∃ u c,vs.lookup f=some u/\R K F B x u c/\Cells F H c/\∀ p∈c,p∈ds:=λ{fs vs ds f x} h hc e=>by
 obtain⟨w,c,pre,post,a1,a2,a3,_⟩:=h.at e
 rw [a3] at hc
 exact⟨w,c,a1,a2,hc.left.right,λp m=>by rw [a3];exact List.mem_append.mpr (.inl (List.mem_append.mpr (.inr m)))⟩
theorem s'U {te:TE} {pe:PE'} {f:Str} (h:Sim K k te pe):Sim K k (tFldR K te f) (p1 (wFld K f) pe):=λF B H σ ρ Q Q' c p q=>by
 refine h F B H σ ρ _ _ c p λx v F1 H1 c1 p1 o1=>?_
 unfold wFld at p1
 split at p1
 ·obtain⟨ok,p1⟩:=p1
  split at p1
  ·rename_i t et
   obtain⟨a,dx,vs,ds,rfl,h1,h2,h3,h4⟩:=o1.r.insH o1.g.s (λk=>(c.b k).trans o1.g.h) o1.c
   obtain⟨u,d,b1,b2,b3,b4⟩:=h2.look h3 et
   exact⟨a,_,dx,vs,u,rfl,h1,ok.1,ok.2,b1,q _ _ F1 H1 d p1 ⟨o1.g,b2,b3,λp m=>o1.n p (h4 p (b4 p m))⟩⟩
  ·exact p1.elim
 ·exact p1.elim
def wGet2 (x y z:Tr) (Q:Tr->Prop):Prop:=match x with
 | .dic _ m => wKey y λy => Q ((look m y).getD z)
 | _ => False
def p3 (pr:Tr->Tr->Tr->(Tr->Prop)->Prop) (pa pb pc:PE'):PE':=λρ Q=>pa ρ λx=>(match x with | .dic _ _=>True | _=>False)/\pb ρ λy=>pc ρ λz=>pr x y z Q
theorem p'd {ta tb tc:TE} {pa pb pc:PE'} (ha:Sim K k ta pa) (hb:Sim K k tb pb) (hc:Sim K k tc pc):Sim K k (tDGet2 ta tb tc) (p3 wGet2 pa pb pc):=λF B H σ ρ Q Q' c p q=>by
 refine ha F B H σ ρ _ _ c p λx v F1 H1 c1 p1 o1=>?_
 obtain⟨hx,p1⟩:=p1
 cases x with
 | dic f m =>
  have bB:∀ {H'},Same H H'->∀ k,Same (B k) H':=λs k=>(c.b k).trans s
  obtain⟨a,vs,ds,rfl,h1,h2,h3,h4⟩:=o1.r.dicH o1.g.s (bB o1.g.h) o1.c
  refine⟨a,rfl,.inl ⟨vs,h1⟩,hb F1 B H1 σ ρ _ _ (c.gr o1.g) p1 λy u F2 H2 c2 p2 o2=>?_⟩
  refine hc F2 B H2 σ ρ _ _ ((c.gr o1.g).gr o2.g) p2 λz w F3 H3 c3 p3 o3=>?_
  have g23:=o2.g.trans' o3.g
  unfold wGet2 wKey at p3
  dsimp only at p3
  split at p3
  ·rename_i yk ey
   obtain rfl:=e'D o2.r ey
   have rd3:Rd H3 a (.dK vs):=(g23.h).rd h1
   rcases (h2.mo g23.le (λk=>Le.refl _) m).look yk (h3.gr g23) with ⟨z1,z2⟩ | ⟨x,u,d,a1,a2,a3,a4,a5⟩
   ·rw [z1] at p3
    exact⟨none,.inl ⟨vs,yk,rd3,rfl,z2.symm⟩,q _ _ F3 H3 c3 p3 ⟨o1.g.trans' g23,o3.r,o3.c,o3.n.back (o1.g.h.trans o2.g.h)⟩⟩
   ·rw [a1] at p3
    exact⟨some u,.inl ⟨vs,yk,rd3,rfl,a2.symm⟩,q _ _ F3 H3 d p3 ⟨o1.g.trans' g23,a3,a4,λp m=>o1.n p (h4 p (a5 p m))⟩⟩
  ·exact p3.elim
 | _ => exact hx.elim
abbrev PO':=List Tr->(Option Int->Prop)->Prop
def SimO (K:W.Frag) (k:Md) (te:TO) (pe:PO'):Prop:=∀ (F:Hp) (B:Bool->Hp) (H:Hp) (σ:St) (ρ:List Tr) (Q:Option Int->Hp->Prop) (Q':Option Int->Prop),Cxt K k F B H σ ρ->pe ρ Q'->(∀ b F' H',Q' b->Gr F H F' H'->Q b H')->te σ H Q
def poN:PO':=λ_ Q=>Q none
def poS (pe:PE'):PO':=λρ Q=>pe ρ λx=>match x with | .int i=>Q (some i) | _=>False
theorem u'K:SimO K k tNoPart poN:=λF B H σ ρ Q Q' c p q=>q none F H p (Gr.refl' c.s)
theorem u'L {te:TE} {pe:PE'} (h:Sim K k te pe):SimO K k (tPart te) (poS pe):=λF B H σ ρ Q Q' c p q=>by
 refine h F B H σ ρ _ _ c p λx v F1 H1 c1 p1 o1=>?_
 split at p1
 ·obtain⟨rfl,_⟩:=o1.r
  exact⟨_,rfl,q _ F1 H1 p1 o1.g⟩
 ·exact p1.elim
def cutT {α:Type} (xs:List α) (l h:Option Int):List α:=(xs.drop (HT.sIx xs.length 0 l)).take (HT.sIx xs.length xs.length h - HT.sIx xs.length 0 l)
theorem Rs.drop:∀ (n:Nat) {xs:List Tr} {vs:List V} {ds:Cs},Rs K F B xs vs ds->Cells F H ds->∃ d,Rs K F B (xs.drop n) (vs.drop n) d/\Cells F H d/\∀ p∈d,p∈ds
 | 0, _, _, ds, h, hc => ⟨ds, h, hc, λ_ m => m⟩
 | n + 1, [], _, ds, ⟨h1, h2⟩, _ => ⟨[], by rw [h1]; exact ⟨rfl, rfl⟩, .nil, λ_ m => nomatch m⟩
 | n + 1, x :: xs, _, _, ⟨v, r, c, d, h1, h2, h3, h4⟩, hc => by
  rw [h2] at hc
  obtain⟨d',a1,a2,a3⟩:=Rs.drop n h4 hc.right
  exact⟨d',by rw [h1];exact a1,a2,λp m=>by rw [h2];exact List.mem_append.mpr (.inr (a3 p m))⟩
theorem Rs.take:∀ (n:Nat) {xs:List Tr} {vs:List V} {ds:Cs},Rs K F B xs vs ds->Cells F H ds->∃ d,Rs K F B (xs.take n) (vs.take n) d/\Cells F H d/\∀ p∈d,p∈ds
 | 0, _, _, ds, h, hc => ⟨[], ⟨rfl, rfl⟩, .nil, λ_ m => nomatch m⟩
 | n + 1, [], _, ds, ⟨h1, h2⟩, _ => ⟨[], by rw [h1]; exact ⟨rfl, rfl⟩, .nil, λ_ m => nomatch m⟩
 | n + 1, x :: xs, _, _, ⟨v, r, c, d, h1, h2, h3, h4⟩, hc => by
  rw [h2] at hc
  obtain⟨d',a1,a2,a3⟩:=Rs.take n h4 hc.right
  refine⟨c++d',by rw [h1];exact⟨v,_,c,d',rfl,rfl,h3,a1⟩,hc.left.app a2 λp mp q mq=>?_,λp m=>by rw [h2];exact (List.mem_append.mp m).elim (λm=>List.mem_append.mpr (.inl m)) λm=>List.mem_append.mpr (.inr (a3 p m))⟩
  have:=hc.nd
  rw [List.map_append,List.nodup_append] at this
  exact this.2.2 _ (List.mem_map.mpr ⟨p,mp,rfl⟩) _ (List.mem_map.mpr ⟨q,a3 q mq,rfl⟩)
def wSl (x:Tr) (l h:Option Int) (Q:Tr->Prop):Prop:=match x with
 | .lst _ xs => Q (.lst .o (cutT xs l h))
 | .str x => x.length <= 1000000 /\ Q (.str (Txt.slice x l h))
 | _ => False
def pSl (pe:PE') (pl ph:PO'):PE':=λρ Q=>pe ρ λx=>pl ρ λl=>ph ρ λh=>wSl x l h Q
theorem u'M {te:TE} {pe:PE'} {tl th:TO} {pl ph:PO'} (h:Sim K k te pe) (hl:SimO K k tl pl) (hh:SimO K k th ph):Sim K k (tSl (rSlU K) te tl th) (pSl pe pl ph):=λF B H σ ρ Q Q' c p q=>by
 refine h F B H σ ρ _ _ c p λx v F1 H1 c1 p1 o1=>?_
 refine hl F1 B H1 σ ρ _ _ (c.gr o1.g) p1 λl F2 H2 p2 g2=>?_
 refine hh F2 B H2 σ ρ _ _ ((c.gr o1.g).gr g2) p2 λh F3 H3 p3 g3=>?_
 have g23:=g2.trans' g3
 have c3:=(c.gr o1.g).gr g23
 have r3:=o1.r.mo g23.le (λk=>Le.refl (B k)) x
 have hc3:=o1.c.gr g23
 unfold wSl at p3
 split at p3
 ·obtain⟨a,vs,ds,rfl,h1,h2,h3,h4⟩:=r3.lstH c3.s c3.b hc3
  refine .inl ⟨a,vs,rfl,h1,λl' hl'=>?_⟩
  obtain⟨d1,a1,a2,a3⟩:=h2.drop (HT.sIx vs.length 0 l) h3
  obtain⟨d2,b1,b2,b3⟩:=a1.take (HT.sIx vs.length vs.length h - HT.sIx vs.length 0 l) a2
  obtain⟨n1,n2,n3⟩:=c'n c3.s b1 b2 hl'
  refine q _ _ F3 _ _ p3 ⟨(o1.g.trans' g23).trans' n1,?_,n3,λp m=>?_⟩
  ·unfold cutT;rw [<- h2.length];exact n2
  ·cases m with
   | head=>exact (o1.g.h.trans g23.h).free hl'
   | tail _ m=>exact o1.n p (h4 p (a3 p (b3 p m)))
 ·obtain⟨rfl,_⟩:=r3
  exact .inr ⟨_,rfl,b'u p3.1,q _ _ F3 H3 [] p3.2 ⟨o1.g.trans' g23,⟨rfl,rfl⟩,.nil,.nil⟩⟩
 ·exact p3.elim
end
end Pu
namespace Pu
open PySem L2 Vc Sf
section
variable {K:W.Frag} {k:Md} {F H F' H' F1 H1:Hp} {σ:St} {ρ:List Tr} {B:Bool->Hp}
def pickT (ix:List (Option Nat)) (ρ:List Tr):List Tr:=ix.map λo=>match o with | none=>.hole | some i=>(ρ[i]?).getD .hole
theorem EnvQ.pick {ix:List (Option Nat)} (e:EnvQ K F B σ ρ):EnvQ K F B (pickS ix σ) (pickT ix ρ):=λj t h=>by
 unfold pickT at h
 rw [List.getElem?_map] at h
 cases q:ix[j]? with
 | none => rw [q] at h; cases h
 | some o =>
  rw [q] at h
  cases o with
  | none=>cases h;exact .inl rfl
  | some i=>
   cases z:ρ[i]? with
   | none=>
    have h:some ((ρ[i]?).getD .hole)=some t:=h
    rw [z] at h
    cases h;exact .inl rfl
   | some u=>
    have h:some ((ρ[i]?).getD .hole)=some t:=h
    rw [z] at h
    cases h
    refine (e i u z).imp id λ⟨v,h1,h2⟩=>⟨v,?_,h2⟩
    unfold pickS
    rw [List.getElem?_map,q]
    show some ((σ[i]?).getD none)=_
    rw [h1];rfl
theorem k'L:∀ {a b:St},a.length=b.length->(∀ (i:Nat) (v:V),a[i]?=some (some v)->b[i]?=some (some v))->Wk a b
 | [], [], _, _ => .nil
 | [], _ :: _, h, _ => by cases h
 | _ :: _, [], h, _ => by cases h
 | none :: a, y :: b, h, g => .non (k'L (Nat.succ.inj h) λi v e => g (i + 1) v e)
 | some x :: a, y :: b, h, g => by
  have e:=g 0 x rfl
  cases e
  exact .som (k'L (Nat.succ.inj h) λi v e=>g (i+1) v e)
def SimQ (K:W.Frag) (js:List Nat) (tg:TG) (pg:PG'):Prop:=∀ (F:Hp) (B:Bool->Hp) (H:Hp) (σ:St) (ρ:List Tr) (x:V) (t:Tr) (Q:St->Hp->Prop) (Q':List Tr->Prop),Same F H->EnvQ K F B σ ρ->σ.length=ρ.length->R K F B t x []->pg t ρ Q'->(∀ σ' ρ',EnvQ K F B σ' ρ'->σ'.length=ρ'.length->σ'.length=σ.length->(∀ i,i ∉ js->σ'[i]?=σ[i]?)->Q' ρ'->Q σ' H)->tg x σ H Q
theorem EnvQ.set {i:Nat} {t:Tr} {x:V} (e:EnvQ K F B σ ρ) (hl:σ.length=ρ.length) (r:R K F B t x []):EnvQ K F B (σ.set i (some x)) (ρ.set i t):=λj u h=>by
 by_cases ej:j=i
 ·subst ej
  have hj:j<ρ.length:=by have:=p'S h;rw [List.length_set] at this;exact this
  rw [List.getElem?_set_self hj] at h
  cases h
  exact .inr ⟨x,List.getElem?_set_self (by rw [hl];exact hj),r⟩
 ·rw [List.getElem?_set_ne (λz=>ej z.symm)] at h
  exact (e j u h).imp id λ⟨v,h1,h2⟩=>⟨v,by rw [List.getElem?_set_ne (λz=>ej z.symm)];exact h1,h2⟩
theorem u'N {i:Nat}:SimQ K [i] (gName i) (pgN i):=λF B H σ ρ x t Q Q' s e hl r p q=>q _ _ (e.set hl r) (by rw [List.length_set,List.length_set];exact hl) (by rw [List.length_set]) (λj hj=>List.getElem?_set_ne λz=>hj (by rw [z];exact List.mem_singleton.mpr rfl)) p
def pYes:PB':=λ_ Q=>Q true
theorem s'V:SimT K k tYes pYes:=λF B H σ ρ Q Q' c p q=>q true F H p (Gr.refl' c.s)
def pComp (pi:PI') (pg:PG') (pt:PB') (pe:PE') (ix:List (Option Nat)):PE':=λρ Q=>pi ρ λts _=>∃ I:Nat->List Tr->Prop,I 0 []/\
 (∀ i t acc,ts[i]?=some t->I i acc->pg t (pickT ix ρ) λρ2=>pt ρ2 λb=>if b=true then pe ρ2 λx=>acc.length<1000000/\I (i+1) (acc++[x]) else I (i+1) acc)/\∀ acc,I ts.length acc->acc.length<=1000000/\Q (.lst .o acc)
theorem h'e {wi:TI} {pi:PI'} {js:List Nat} {tg:TG} {pg:PG'} {ti:TT} {pt:PB'} {te:TE} {pe:PE'} {ix:List (Option Nat)} (hi:SimI K k wi pi) (hg:SimQ K js tg pg) (ht:SimT K k.mute ti pt) (he:Sim K k.mute te pe) (hj:∀ j∈js,ix[j]?=some none):Sim K k (tComp wi tg ti te ix) (pComp pi pg pt pe ix):=λF B H σ ρ Q Q' c p q=>by
 refine hi F B H σ ρ _ _ c p λts nl J F1 H1 p1 g1 src _=>?_
 obtain⟨I,i0,step,fin⟩:=p1
 obtain⟨Kp,Y,ito,kp,yl⟩:=src
 have c1:=c.gr g1
 refine w'o (n:=ts.length) (λi acc H2=>∃ F2 us cells,Gr F1 H1 F2 H2/\Rs K F2 B us acc cells/\Cells F2 H2 cells/\New H1 cells/\I i us) ⟨F1,[],[],Gr.refl' g1.s,⟨rfl,rfl⟩,.nil,.nil,i0⟩ ?_ ?_ ?_ ?_
 ·rintro i acc H2 hlt ⟨F2,us,cells,g2,_⟩
  exact ito.go i H2 hlt (kp F2 H2 g2.le g2.s (c1.gr g2).b)
 ·rintro acc H2 ⟨F2,us,cells,g2,_⟩
  exact ito.st H2 (kp F2 H2 g2.le g2.s (c1.gr g2).b)
 ·rintro i x acc H2 H3 hlt ⟨F2,us,cells,g2,r2,hc2,n2,ii⟩ y
  have c2:=c1.gr g2
  obtain⟨t,et⟩:=k'J hlt
  obtain⟨F3,g3,r3⟩:=yl i t F2 H2 x H3 et g2.le g2.s c2.b (ito.yl i H2 x H3 hlt (kp F2 H2 g2.le g2.s c2.b) y)
  have c3:=c2.gr g3
  have hl0:(pickS ix σ).length=(pickT ix ρ).length:=by unfold pickS pickT;rw [List.length_map,List.length_map]
  refine hg F3 B H3 _ _ x t _ _ c3.s c3.e.pick hl0 r3 (step i t us et ii) λσ2 ρ2 e2 l2 l2' n3 p2=>⟨k'L l2'.symm λj v ej=>?_,?_⟩
  ·by_cases hjs:j∈js
   ·have z:=hj j hjs
    unfold pickS at ej
    rw [List.getElem?_map,z] at ej
    cases ej
   ·rw [n3 j hjs];exact ej
  ·have c3':Cxt K k.mute F3 B H3 σ2 ρ2:=⟨c3.s,c3.b,c3.z,e2,λ_ _ _ h=>h.elim⟩
   refine ht F3 B H3 σ2 ρ2 _ _ c3' p2 λb F4 H4 p4 g4=>?_
   have g24:=g3.trans' g4
   cases b with
   | false=>
    rw [if_neg (by decide)] at p4 ⊢
    exact⟨F4,us,cells,g2.trans' g24,r2.mo g24.le (λk=>Le.refl (B k)) us,hc2.gr g24,n2,p4⟩
   | true=>
    rw [if_pos rfl] at p4 ⊢
    refine he F4 B H4 σ2 ρ2 _ _ (c3'.gr g4) p4 λu v F5 H5 c5 p5 o5=>?_
    have g25:=g24.trans' o5.g
    refine⟨Nat.lt_of_lt_of_le (by rw [r2.length];exact p5.1) (by decide),F5,us++[u],cells++c5,g2.trans' g25,(r2.mo g25.le (λk=>Le.refl (B k)) us).snoc o5.r,(hc2.gr g25).app o5.c λp mp q mq e=>?_,λp m=>?_,p5.2⟩
    ·have:=(hc2.gr g24).h p mp
     rw [e,o5.n q mq] at this
     cases this
    ·rcases List.mem_append.mp m with m | m
     ·exact n2 p m
     ·exact (g2.h.trans g24.h).free (o5.n p m)
 ·rintro acc H2 ⟨F2,us,cells,g2,r2,hc2,n2,ii⟩
  obtain⟨hl,hq⟩:=fin us ii
  refine⟨by rw [r2.length];exact b'u hl,λa ha=>?_⟩
  obtain⟨m1,m2,m3⟩:=c'n g2.s r2 hc2 ha
  refine q _ _ F2 _ _ hq ⟨(g1.trans' g2).trans' m1,m2,m3,λp m=>?_⟩
  cases m with
  | head=>exact (g1.h.trans g2.h).free ha
  | tail _ m=>exact g1.h.free (n2 p m)
end
end Pu
namespace Pu
open PySem L2 Vc Sf
mutual
def eqd:Tr->Tr->Option Bool
 | .tup xs, .tup ys => if xs.length = ys.length then eqds xs ys else none
 | .lst _ xs, .lst _ ys => if xs.length = ys.length then eqds xs ys else some false
 | .int a, .int b => some (decide (a = b))
 | .str a, .str b => some (decide (a = b))
 | .bl a, .bl b => some (decide (a = b))
 | .non, .non => some true
 | _, _ => none
def eqds:List Tr->List Tr->Option Bool
 | [], [] => some true
 | x :: xs, y :: ys => (eqd x y).bind λa => (eqds xs ys).bind λb => some (a && b)
 | _, _ => none
end
mutual
def dep:Tr->Nat
 | .tup xs => deps xs + 1
 | .lst _ xs => deps xs + 1
 | _ => 0
def deps:List Tr->Nat
 | [] => 0
 | x :: xs => max (dep x) (deps xs)
end
section
variable {X:Cx} {pins:List (Addr×Obj)} {σ:St} {F H:Hp} {B:Bool->Hp} {s:Shared}
mutual
theorem h'f (I:Inv X pins σ H s) (sf:Same F H) (sb:∀ k,Same (B k) H):∀ (t:Tr) (t':Tr) (v:V) (c c':Cs) (b:Bool),eqd t t'=some b->R X.K F B t v c->R X.K F B t' v c'->Cells F H c->Cells F H c'->b=true
 | .tup xs => λt' v c c' b e r r' hc hc' => by
  cases t' with
  | tup ys=>
   unfold eqd at e
   split at e
   ·obtain⟨a,vs,rfl,h1,h2⟩:=r.tupH sf
    obtain⟨a',vs',e',g1,g2⟩:=r'.tupH sf
    cases e'
    have z:=r'R I h1 g1
    subst z
    exact eqds_fn I sf sb xs ys vs c c' b e h2 g2 hc hc'
   ·cases e
  | _=>cases e
 | .lst f xs => λt' v c c' b e r r' hc hc' => by
  cases t' with
  | lst f' ys=>
   unfold eqd at e
   obtain⟨a,vs,ds,rfl,h1,h2,h3,_⟩:=r.lstH sf sb hc
   obtain⟨a',vs',ds',e',g1,g2,g3,_⟩:=r'.lstH sf sb hc'
   cases e'
   have z:=r'S I h1 g1
   subst z
   split at e
   ·exact eqds_fn I sf sb xs ys vs ds ds' b e h2 g2 h3 g3
   ·rename_i hl
    exact absurd (h2.length.symm.trans g2.length) hl
  | _=>cases e
 | .int a => λt' v c c' b e r r' _ _ => by
  cases t' with
  | int a'=>cases e;have:=r.1.symm.trans r'.1;cases this;exact decide_eq_true rfl
  | _=>cases e
 | .str a => λt' v c c' b e r r' _ _ => by
  cases t' with
  | str a'=>cases e;have:=r.1.symm.trans r'.1;cases this;exact decide_eq_true rfl
  | _=>cases e
 | .bl a => λt' v c c' b e r r' _ _ => by
  cases t' with
  | bl a'=>cases e;have:=r.1.symm.trans r'.1;cases this;exact decide_eq_true rfl
  | _=>cases e
 | .non => λt' v c c' b e r r' _ _ => by
  cases t' with
  | non=>cases e;rfl
  | _=>cases e
 | .hole => λt' v c c' b e _ _ _ _ => by cases t' <;> cases e
 | .ty _ => λt' v c c' b e _ _ _ _ => by cases t' <;> cases e
 | .cl _ => λt' v c c' b e _ _ _ _ => by cases t' <;> cases e
 | .exc _ => λt' v c c' b e _ _ _ _ => by cases t' <;> cases e
 | .dic _ _ => λt' v c c' b e _ _ _ _ => by cases t' <;> cases e
 | .ins _ _ _ => λt' v c c' b e _ _ _ _ => by cases t' <;> cases e
theorem eqds_fn (I:Inv X pins σ H s) (sf:Same F H) (sb:∀ k,Same (B k) H):∀ (ts:List Tr) (ts':List Tr) (vs:List V) (c c':Cs) (b:Bool),eqds ts ts'=some b->Rs X.K F B ts vs c->Rs X.K F B ts' vs c'->Cells F H c->Cells F H c'->b=true
 | [] => λts' vs c c' b e _ _ _ _ => by
  cases ts' with
  | nil=>cases e;rfl
  | cons _ _=>cases e
 | x :: xs => λts' vs c c' b e r r' hc hc' => by
  cases ts' with
  | nil=>cases e
  | cons y ys=>
   obtain⟨v,r,c1,d1,h1,h2,h3,h4⟩:=r
   obtain⟨v',r',c2,d2,g1,g2,g3,g4⟩:=r'
   rw [h1] at g1
   cases g1
   rw [h2] at hc
   rw [g2] at hc'
   unfold eqds at e
   cases e1:eqd x y with
   | none=>rw [e1] at e;cases e
   | some a=>
    cases e2:eqds xs ys with
    | none=>rw [e1,e2] at e;cases e
    | some a'=>
     rw [e1,e2] at e
     cases e
     rw [h'f I sf sb x y v c1 c2 a e1 h3 g3 hc.left hc'.left,eqds_fn I sf sb xs ys r d1 d2 a' e2 h4 g4 hc.right hc'.right]
     rfl
end
def eqL (ts ts':List Tr) (j:Nat):Bool:=match ts[j]?,ts'[j]? with | some x,some y=>(eqd x y).getD false | _,_=>false
theorem b'B:∀ {ts ts':List Tr} {b:Bool},eqds ts ts'=some b->(List.range ts.length).all (eqL ts ts')=b/\∀ (j:Nat) (x y:Tr),ts[j]?=some x->ts'[j]?=some y->eqd x y=some (eqL ts ts' j)
 | [], [], b, e => by cases e; exact ⟨rfl, λj x y h => by cases h⟩
 | [], _ :: _, b, e => by cases e
 | _ :: _, [], b, e => by cases e
 | x :: xs, y :: ys, b, e => by
  unfold eqds at e
  cases e1:eqd x y with
  | none=>rw [e1] at e;cases e
  | some a=>
   cases e2:eqds xs ys with
   | none=>rw [e1,e2] at e;cases e
   | some a'=>
    rw [e1,e2] at e
    cases e
    obtain⟨h1,h2⟩:=b'B e2
    refine⟨?_,λj u w hu hw=>?_⟩
    ·rw [List.length_cons,List.range_succ_eq_map,List.all_cons,List.all_map]
     have z0:eqL (x :: xs) (y :: ys) 0=a:=by show (eqd x y).getD false=a;rw [e1];rfl
     rw [z0,<- h1]
     rfl
    ·cases j with
     | zero=>cases hu;cases hw;show eqd x y=some ((eqd x y).getD false);rw [e1];rfl
     | succ j=>exact h2 j u w hu hw
mutual
theorem u'O (I:Inv X pins σ H s) (sf:Same F H) (sb:∀ k,Same (B k) H):∀ (t:Tr) (t':Tr) (Au:Around) (v v':V) (c c':Cs) (b:Bool) (u u':Value),eqd t t'=some b->R X.K F B t v c->R X.K F B t' v' c'->Cells F H c->Cells F H c'->RelV v u->RelV v' u'->Au.units+dep t<cLine->SeqAt.EqAt Au s u u' b
 | .tup xs => λt' Au v v' c c' b u u' e r r' hc hc' ru ru' hu => by
  cases t' with
  | tup ys=>
   have fn:=λ(z:v=v')=>h'f I sf sb (.tup xs) (.tup ys) v' c c' b e (z ▸ r) r' hc hc'
   unfold eqd at e
   split at e
   ·rename_i hl
    obtain⟨a,vs,rfl,h1,h2⟩:=r.tupH sf
    obtain⟨a',vs',rfl,g1,g2⟩:=r'.tupH sf
    obtain rfl:u=Value.ref a:=ru
    obtain rfl:u'=Value.ref a':=ru'
    by_cases z:a=a'
    ·rw [fn (by rw [z]),z];exact SeqAt.EqAt.same _
    ·unfold dep at hu
     obtain⟨al,ix⟩:=b'B e
     have rc:=i'x (Au:=Au) I h1 g1 (by omega) (by rw [h2.length,g2.length];exact hl) (eqL xs ys) (λj x y p q ex ey rx ry=>eqds_at I sf sb xs ys (eqL xs ys) Au.in1 vs vs' c c' j x y p q ix h2 g2 hc hc' ex ey rx ry (by rw [a'T];omega))
     rw [h2.length,al] at rc
     exact SeqAt.EqAt.of_refs z rc
   ·cases e
  | _=>cases e
 | .lst f xs => λt' Au v v' c c' b u u' e r r' hc hc' ru ru' hu => by
  cases t' with
  | lst f' ys=>
   have fn:=λ(z:v=v')=>h'f I sf sb (.lst f xs) (.lst f' ys) v' c c' b e (z ▸ r) r' hc hc'
   unfold eqd at e
   obtain⟨a,vs,ds,rfl,h1,h2,h3,_⟩:=r.lstH sf sb hc
   obtain⟨a',vs',ds',rfl,g1,g2,g3,_⟩:=r'.lstH sf sb hc'
   obtain rfl:u=Value.ref a:=ru
   obtain rfl:u'=Value.ref a':=ru'
   unfold dep at hu
   by_cases z:a=a'
   ·rw [fn (by rw [z]),z];exact SeqAt.EqAt.same _
   ·split at e
    ·rename_i hl
     obtain⟨al,ix⟩:=b'B e
     have rc:=i'y (Au:=Au) I h1 g1 (by omega) (by rw [h2.length,g2.length];exact hl) (eqL xs ys) (λj x y p q ex ey rx ry=>eqds_at I sf sb xs ys (eqL xs ys) Au.in1 vs vs' ds ds' j x y p q ix h2 g2 h3 g3 ex ey rx ry (by rw [a'T];omega))
     rw [h2.length,al] at rc
     exact SeqAt.EqAt.of_refs z rc
    ·rename_i hl
     cases e
     obtain⟨us,r1,t1,_⟩:=I.list h1
     obtain⟨zs,r2,t2,_⟩:=I.list g1
     have m1:=r1.length
     have m2:=r2.length
     have l1:=h2.length
     have l2:=g2.length
     exact SeqAt.EqAt.of_refs z (SeqAt.RcAt.lists_lengths t1.isList t2.isList (by simp;omega) (by omega))
  | _=>cases e
 | .int a => λt' Au v v' c c' b u u' e r r' _ _ ru ru' _ => by
  cases t' with
  | int a'=>cases e;rw [r.1] at ru;rw [r'.1] at ru';exact o'v ru ru'
  | _=>cases e
 | .str a => λt' Au v v' c c' b u u' e r r' _ _ ru ru' _ => by
  cases t' with
  | str a'=>
   cases e
   rw [r.1] at ru
   rw [r'.1] at ru'
   have z:=b'P (A:=Au) (s:=s) ru ru' rfl rfl
   have e:eqV (.str a) (.str a')=decide (a=a'):=by show (a == a')=_;rw [Bool.beq_eq_decide_eq]
   rw [e] at z
   exact z
  | _=>cases e
 | .bl a => λt' Au v v' c c' b u u' e r r' _ _ ru ru' _ => by
  cases t' with
  | bl a'=>
   cases e
   rw [r.1] at ru
   rw [r'.1] at ru'
   have z:=b'P (A:=Au) (s:=s) ru ru' rfl rfl
   have e:eqV (.bl a) (.bl a')=decide (a=a'):=by show (a == a')=_;rw [Bool.beq_eq_decide_eq]
   rw [e] at z
   exact z
  | _=>cases e
 | .non => λt' Au v v' c c' b u u' e r r' _ _ ru ru' _ => by
  cases t' with
  | non=>cases e;rw [r.1] at ru;rw [r'.1] at ru';exact b'P (A:=Au) (s:=s) ru ru' rfl rfl
  | _=>cases e
 | .hole => λt' Au v v' c c' b u u' e _ _ _ _ _ _ _ => by cases t' <;> cases e
 | .ty _ => λt' Au v v' c c' b u u' e _ _ _ _ _ _ _ => by cases t' <;> cases e
 | .cl _ => λt' Au v v' c c' b u u' e _ _ _ _ _ _ _ => by cases t' <;> cases e
 | .exc _ => λt' Au v v' c c' b u u' e _ _ _ _ _ _ _ => by cases t' <;> cases e
 | .dic _ _ => λt' Au v v' c c' b u u' e _ _ _ _ _ _ _ => by cases t' <;> cases e
 | .ins _ _ _ => λt' Au v v' c c' b u u' e _ _ _ _ _ _ _ => by cases t' <;> cases e
theorem eqds_at (I:Inv X pins σ H s) (sf:Same F H) (sb:∀ k,Same (B k) H):∀ (ts:List Tr) (ts':List Tr) (e:Nat->Bool) (Au:Around) (vs vs':List V) (c c':Cs) (j:Nat) (x y:V) (u u':Value),(∀ (j:Nat) (x y:Tr),ts[j]?=some x->ts'[j]?=some y->eqd x y=some (e j))->Rs X.K F B ts vs c->Rs X.K F B ts' vs' c'->Cells F H c->Cells F H c'->vs[j]?=some x->vs'[j]?=some y->RelV x u->RelV y u'->Au.units+deps ts<cLine->SeqAt.EqAt Au s u u' (e j)
 | [] => λts' e Au vs vs' c c' j x y u u' _ r _ _ _ ex _ _ _ _ => by rw [r.1] at ex; cases ex
 | t :: ts => λts' e Au vs vs' c c' j x y u u' ix r r' hc hc' ex ey ru ru' hu => by
  cases ts' with
  | nil=>rw [r'.1] at ey;cases ey
  | cons t' ts'=>
   obtain⟨v,r,c1,d1,h1,h2,h3,h4⟩:=r
   obtain⟨v',r',c2,d2,g1,g2,g3,g4⟩:=r'
   rw [h1] at ex
   rw [g1] at ey
   rw [h2] at hc
   rw [g2] at hc'
   unfold deps at hu
   cases j with
   | zero=>
    cases ex
    cases ey
    exact u'O I sf sb t t' Au _ _ c1 c2 (e 0) u u' (ix 0 t t' rfl rfl) h3 g3 hc.left hc'.left ru ru' (by omega)
   | succ j=>exact eqds_at I sf sb ts ts' (λi=>e (i+1)) Au r r' d1 d2 j x y u u' (λi a b ha hb=>ix (i+1) a b ha hb) h4 g4 hc.right hc'.right ex ey ru ru' (by omega)
end
theorem s'W {Au:Around} {a b:Addr} {xs ys:List V} (I:Inv X pins σ H s) (h1:SqT X.K H a xs) (h2:SqT X.K H b ys) (hu:Au.units<cLine) (hl:xs.length=ys.length) (e:Nat->Bool)
  (he:∀ (j:Nat) x y u v,xs[j]?=some x->ys[j]?=some y->RelV x u->RelV y v->SeqAt.EqAt Au.in1 s u v (e j)):SeqAt.RcNeAt Au s (.ref a) (.ref b) (!(List.range xs.length).all e):=by
 obtain⟨us,r1,t1,_⟩:=I.tuple h1
 obtain⟨ws,r2,t2,_⟩:=I.tuple h2
 have l1:=r1.length
 have l2:=r2.length
 have z:=SeqAt.RcNeAt.tuples (A:=Au) (e:=e) t1 t2 hu (λj h1 h2=>?_)
 ·have e0:((List.range (min us.toArray.size ws.toArray.size)).all e && us.toArray.size == ws.toArray.size)=(List.range xs.length).all e:=by
   simp only [List.size_toArray]
   have e1:min us.length ws.length=xs.length:=by omega
   have e2:(us.length == ws.length)=true:=by simp;omega
   rw [e1,e2,Bool.and_true]
  rw [e0] at z
  exact z
 ·simp only [List.size_toArray] at h1 h2
  obtain⟨u,e1,ru⟩:=r1.get (i:=j) (x:=xs[j]'(by omega)) (by simp)
  obtain⟨v,e2,rv⟩:=r2.get (i:=j) (x:=ys[j]'(by omega)) (by simp)
  obtain⟨_,f1⟩:=List.getElem?_eq_some_iff.mp e1
  obtain⟨_,f2⟩:=List.getElem?_eq_some_iff.mp e2
  have g1:us.toArray[j]'(by simpa using h1)=u:=by simpa using f1
  have g2:ws.toArray[j]'(by simpa using h2)=v:=by simpa using f2
  rw [g1,g2]
  exact he j _ _ u v (by simp) (by simp) ru rv
def rEqU (K:W.Frag) (neg:Bool):R2:=λx y H Q=>∃ (F:Hp) (B:Bool->Hp) (t t':Tr) (c c':Cs) (b:Bool),Same F H/\(∀ k,Same (B k) H)/\R K F B t x c/\R K F B t' y c'/\Cells F H c/\Cells F H c'/\eqd t t'=some b/\dep t<=60/\1<=dep t/\Q (.bl (if neg=true then !b else b)) H
theorem u'P (hu:X.A.units+64<cLine):OpR X (compareOp .Eq) (rEqU X.K false):=by
 intro pins s σ H x y v u Q I rx ry h
 obtain⟨F,B,t,t',c,c',b,sf,sb,r,r',hc,hc',e,d,d1,q⟩:=h
 have fin:∀ {p p':Addr},SeqAt.RcAt X.A s (.ref p) (.ref p') b->wpAny (model X.prog X.w) X.A (compareOp .Eq (.ref p) (.ref p')) (EP X pins σ Q) X.xe s:=λrc=>rc X.prog X.w X.xe _ ⟨.bl b,H,I,rfl,q⟩
 cases t with
 | tup xs =>
  cases t' with
  | tup ys=>
   unfold eqd at e
   unfold dep at d
   split at e
   ·rename_i hl
    obtain⟨a,vs,rfl,h1,h2⟩:=r.tupH sf
    obtain⟨a',vs',rfl,g1,g2⟩:=r'.tupH sf
    obtain rfl:v=Value.ref a:=rx
    obtain rfl:u=Value.ref a':=ry
    obtain⟨al,ix⟩:=b'B e
    have rc:=i'x (Au:=X.A) I h1 g1 (by omega) (by rw [h2.length,g2.length];exact hl) (eqL xs ys) (λj x y p q ex ey rx ry=>eqds_at I sf sb xs ys (eqL xs ys) X.A.in1 vs vs' c c' j x y p q ix h2 g2 hc hc' ex ey rx ry (by rw [a'T];omega))
    rw [h2.length,al] at rc
    exact fin rc
   ·cases e
  | _=>cases e
 | lst f xs =>
  cases t' with
  | lst f' ys=>
   unfold eqd at e
   unfold dep at d
   obtain⟨a,vs,ds,rfl,h1,h2,h3,_⟩:=r.lstH sf sb hc
   obtain⟨a',vs',ds',rfl,g1,g2,g3,_⟩:=r'.lstH sf sb hc'
   obtain rfl:v=Value.ref a:=rx
   obtain rfl:u=Value.ref a':=ry
   split at e
   ·rename_i hl
    obtain⟨al,ix⟩:=b'B e
    have rc:=i'y (Au:=X.A) I h1 g1 (by omega) (by rw [h2.length,g2.length];exact hl) (eqL xs ys) (λj x y p q ex ey rx ry=>eqds_at I sf sb xs ys (eqL xs ys) X.A.in1 vs vs' ds ds' j x y p q ix h2 g2 h3 g3 ex ey rx ry (by rw [a'T];omega))
    rw [h2.length,al] at rc
    exact fin rc
   ·rename_i hl
    cases e
    obtain⟨us,r1,t1,_⟩:=I.list h1
    obtain⟨zs,r2,t2,_⟩:=I.list g1
    have m1:=r1.length
    have m2:=r2.length
    have l1:=h2.length
    have l2:=g2.length
    exact fin (SeqAt.RcAt.lists_lengths t1.isList t2.isList (by simp;omega) (by omega))
  | _=>cases e
 | _ => exact absurd d1 (by unfold dep; decide)
theorem u'Q (hu:X.A.units+64<cLine):OpR X (compareOp .NotEq) (rEqU X.K true):=by
 intro pins s σ H x y v u Q I rx ry h
 obtain⟨F,B,t,t',c,c',b,sf,sb,r,r',hc,hc',e,d,d1,q⟩:=h
 have fin:∀ {p p':Addr},SeqAt.RcNeAt X.A s (.ref p) (.ref p') (!b)->wpAny (model X.prog X.w) X.A (compareOp .NotEq (.ref p) (.ref p')) (EP X pins σ Q) X.xe s:=λrc=>rc X.prog X.w X.xe _ ⟨.bl (!b),H,I,rfl,q⟩
 cases t with
 | tup xs =>
  cases t' with
  | tup ys=>
   unfold eqd at e
   unfold dep at d
   split at e
   ·rename_i hl
    obtain⟨a,vs,rfl,h1,h2⟩:=r.tupH sf
    obtain⟨a',vs',rfl,g1,g2⟩:=r'.tupH sf
    obtain rfl:v=Value.ref a:=rx
    obtain rfl:u=Value.ref a':=ry
    obtain⟨al,ix⟩:=b'B e
    have rc:=s'W (Au:=X.A) I h1 g1 (by omega) (by rw [h2.length,g2.length];exact hl) (eqL xs ys) (λj x y p q ex ey rx ry=>eqds_at I sf sb xs ys (eqL xs ys) X.A.in1 vs vs' c c' j x y p q ix h2 g2 hc hc' ex ey rx ry (by rw [a'T];omega))
    rw [h2.length,al] at rc
    exact fin rc
   ·cases e
  | _=>cases e
 | lst f xs =>
  cases t' with
  | lst f' ys=>
   unfold eqd at e
   unfold dep at d
   obtain⟨a,vs,ds,rfl,h1,h2,h3,_⟩:=r.lstH sf sb hc
   obtain⟨a',vs',ds',rfl,g1,g2,g3,_⟩:=r'.lstH sf sb hc'
   obtain rfl:v=Value.ref a:=rx
   obtain rfl:u=Value.ref a':=ry
   split at e
   ·rename_i hl
    obtain⟨al,ix⟩:=b'B e
    have rc:=r'Z (Au:=X.A) I h1 g1 (by omega) (by rw [h2.length,g2.length];exact hl) (eqL xs ys) (λj x y p q ex ey rx ry=>eqds_at I sf sb xs ys (eqL xs ys) X.A.in1 vs vs' ds ds' j x y p q ix h2 g2 h3 g3 ex ey rx ry (by rw [a'T];omega))
    rw [h2.length,al] at rc
    exact fin rc
   ·rename_i hl
    cases e
    obtain⟨us,r1,t1,_⟩:=I.list h1
    obtain⟨zs,r2,t2,_⟩:=I.list g1
    have m1:=r1.length
    have m2:=r2.length
    have l1:=h2.length
    have l2:=g2.length
    exact fin (SeqAt.RcNeAt.lists_lengths (A:=X.A) t1.isList t2.isList (by simp;omega) (by omega))
  | _=>cases e
 | _ => exact absurd d1 (by unfold dep; decide)
def rEqA (K:W.Frag):R2:=λx y H Q=>rEq x y H Q\/rEqU K false x y H Q
theorem b'm (hu:X.A.units+64<cLine):OpR X (compareOp .Eq) (rEqA X.K):=op_eq.or (u'P hu)
def rNeA (K:W.Frag):R2:=λx y H Q=>rNe x y H Q\/rEqU K true x y H Q
theorem c'f (hu:X.A.units+64<cLine):OpR X (compareOp .NotEq) (rNeA X.K):=op_ne.or (u'Q hu)
def wEq (neg:Bool) (x y:Tr) (Q:Tr->Prop):Prop:=match x,y with
 | .int a, .int b => Q (.bl (if neg = true then !decide (a = b) else decide (a = b)))
 | .str a, .str b => Q (.bl (if neg = true then !decide (a = b) else decide (a = b)))
 | .bl a, .bl b => Q (.bl (if neg = true then !decide (a = b) else decide (a = b)))
 | x, y => wEqS neg x y Q \/ ∃ b, eqd x y = some b /\ dep x <= 60 /\ 1 <= dep x /\ Q (.bl (if neg = true then !b else b))
theorem a'y {K:W.Frag} {k:Md}:Op2 K k (rEqA K) (wEq false):=λF B H x y tx ty cx cy Q Q' s b z rx ry hx hy hd p q=>by
 unfold wEq at p
 split at p
 ·obtain⟨rfl,_⟩:=rx
  obtain⟨rfl,_⟩:=ry
  refine .inl ⟨rfl,q _ _ F H [] p (Gr.refl' s) ⟨?_,rfl⟩ .nil λ_ m=>nomatch m⟩
  exact congrArg V.bl (decide_eq_decide.mpr ⟨λh=>V.int.inj h,λh=>by rw [h]⟩)
 ·obtain⟨rfl,_⟩:=rx
  obtain⟨rfl,_⟩:=ry
  refine .inl ⟨rfl,q _ _ F H [] p (Gr.refl' s) ⟨?_,rfl⟩ .nil λ_ m=>nomatch m⟩
  exact congrArg V.bl (decide_eq_decide.mpr ⟨λh=>V.str.inj h,λh=>by rw [h]⟩)
 ·obtain⟨rfl,_⟩:=rx
  obtain⟨rfl,_⟩:=ry
  refine .inl ⟨rfl,q _ _ F H [] p (Gr.refl' s) ⟨?_,rfl⟩ .nil λ_ m=>nomatch m⟩
  exact congrArg V.bl (decide_eq_decide.mpr ⟨λh=>V.bl.inj h,λh=>by rw [h]⟩)
 ·rcases p with p | p
  ·exact .inl (s'z (k:=k) F B H x y tx ty cx cy Q Q' s b z rx ry hx hy hd p q)
  ·obtain⟨bb,e,d,d1,p⟩:=p
   exact .inr ⟨F,B,tx,ty,cx,cy,bb,s,b,rx,ry,hx,hy,e,d,d1,q _ _ F H [] p (Gr.refl' s) ⟨rfl,rfl⟩ .nil λ_ m=>nomatch m⟩
theorem b'a {K:W.Frag} {k:Md}:Op2 K k (rNeA K) (wEq true):=λF B H x y tx ty cx cy Q Q' s b z rx ry hx hy hd p q=>by
 unfold wEq at p
 split at p
 ·obtain⟨rfl,_⟩:=rx
  obtain⟨rfl,_⟩:=ry
  refine .inl ⟨rfl,q _ _ F H [] p (Gr.refl' s) ⟨?_,rfl⟩ .nil λ_ m=>nomatch m⟩
  exact congrArg (λb=>V.bl (!b)) (decide_eq_decide.mpr ⟨λh=>V.int.inj h,λh=>by rw [h]⟩)
 ·obtain⟨rfl,_⟩:=rx
  obtain⟨rfl,_⟩:=ry
  refine .inl ⟨rfl,q _ _ F H [] p (Gr.refl' s) ⟨?_,rfl⟩ .nil λ_ m=>nomatch m⟩
  exact congrArg (λb=>V.bl (!b)) (decide_eq_decide.mpr ⟨λh=>V.str.inj h,λh=>by rw [h]⟩)
 ·obtain⟨rfl,_⟩:=rx
  obtain⟨rfl,_⟩:=ry
  refine .inl ⟨rfl,q _ _ F H [] p (Gr.refl' s) ⟨?_,rfl⟩ .nil λ_ m=>nomatch m⟩
  exact congrArg (λb=>V.bl (!b)) (decide_eq_decide.mpr ⟨λh=>V.bl.inj h,λh=>by rw [h]⟩)
 ·rcases p with p | p
  ·exact .inl (s'A (k:=k) F B H x y tx ty cx cy Q Q' s b z rx ry hx hy hd p q)
  ·obtain⟨bb,e,d,d1,p⟩:=p
   exact .inr ⟨F,B,tx,ty,cx,cy,bb,s,b,rx,ry,hx,hy,e,d,d1,q _ _ F H [] p (Gr.refl' s) ⟨rfl,rfl⟩ .nil λ_ m=>nomatch m⟩
end
end Pu
namespace Pu
open PySem L2 Vc Sf
def tOf (K:W.Frag) (k:Md) (pe:PE'):TE:=λσ H Q=>∃ (F:Hp) (B:Bool->Hp) (ρ:List Tr) (Q':Tr->Prop),Cxt K k F B H σ ρ/\pe ρ Q'/\∀ t v F' H' cs,Q' t->Out K F B H F' H' t v cs->Q v H'
def tOfT (K:W.Frag) (k:Md) (pe:PB'):TT:=λσ H Q=>∃ (F:Hp) (B:Bool->Hp) (ρ:List Tr) (Q':Bool->Prop),Cxt K k F B H σ ρ/\pe ρ Q'/\∀ b F' H',Q' b->Gr F H F' H'->Q b H'
section
variable {X:Cx} {k:Md} {lo:Nat} {a b c:Expr} {pa pb pc:PE'} {pos:Pos}
theorem QE.of {e:Expr} {pe:PE'} (h:QE X k e pe):PE X e (tOf X.K k pe):=λpins s σ H Q I ⟨F,B,ρ,Q',h1,h2,h3⟩=>by
 obtain⟨te,g1,g2⟩:=h.h
 exact g1 pins s σ H Q I (g2 F B H σ ρ Q Q' h1 h2 h3)
theorem m'i {K:W.Frag} {pe:PE'}:Sim K k (tOf K k pe) pe:=λF B H σ ρ Q Q' h1 h2 h3=>⟨F,B,ρ,Q',h1,h2,h3⟩
theorem QT.of {e:Expr} {pe:PB'} (h:QT X k e pe):PT X e (tOfT X.K k pe):=λpins s σ H Q I ⟨F,B,ρ,Q',h1,h2,h3⟩=>by
 obtain⟨te,g1,g2⟩:=h.h
 exact g1 pins s σ H Q I (g2 F B H σ ρ Q Q' h1 h2 h3)
theorem i'G {K:W.Frag} {pe:PB'}:SimT K k (tOfT K k pe) pe:=λF B H σ ρ Q Q' h1 h2 h3=>⟨F,B,ρ,Q',h1,h2,h3⟩
theorem p'U (ha:QE X k a pa) (hb:QE X k b pb):QE X k (.BinOp a .Pow b pos) (p2 (wInt2 CPow λi j=>.int (i ^ j.toNat)) pa pb):=d't t'R (k'G λ_ _ _ _=>⟨rfl,rfl⟩) ha hb
theorem p'V {r:List V->Hp->VK->Prop} {pr:List Tr->(Tr->Prop)->Prop} {T:String} {x:Str} {p:Pos} {e:Expr} {es:List Expr} {ps:PA'} (hc:CallR X (.type T) r) (ho:OpA X.K k r pr) (hg:Gl X x) (hm:X.mg x=none) (hv:bootBuiltins x=some (.type T)) (ha:QA X k (e :: es) ps) (hn:x≠"__name__":=by decide) (hdb:(x == ("__debug__":Str))=false:=by decide) (he:starEach (e :: es) X.env=(false,eval e X.env) :: starEach es X.env:=by rfl) (hpl:(backTo pos (starEach es X.env)).any (·.1)=false:=by rfl) :
  QE X k (.Call (.Name x p) (e :: es) [] pos) (pB pr ps):=by
 obtain⟨ta,h1,h2⟩:=ha.h
 exact⟨_,f'E hc hg hm hv h1 hn hdb he hpl,m'c ho h2⟩
theorem c'o:QE X k (.Dict [] [] pos) pDnew:=⟨_,o'k,o'X⟩
theorem w't {f:Str} {e:Expr} {pe:PE'} (h:QE X k e pe) (hb:attributeBase e f X.env (eval e X.env)=eval e X.env:=by rfl):QE X k (.Attribute e f pos) (p1 (wFld X.K f) pe):=by
 obtain⟨te,h1,h2⟩:=h.h
 exact⟨_,s'l h1 hb,s'U h2⟩
theorem h'g {o e f:Expr} {po pe pf:PE'} {apos cpos:Pos} (hu:X.A.units+1<cLine) (ho:QE X k o po) (he:QE X k e pe) (hf:QE X k f pf) (hm:M2 X o "get" apos e f cpos):QE X k (.Call (.Attribute o "get" apos) [e,f] [] cpos) (p3 wGet2 po pe pf):=by
 obtain⟨te,h1,h2⟩:=ho.h
 obtain⟨tf,g1,g2⟩:=he.h
 obtain⟨tg,f1,f2⟩:=hf.h
 exact⟨_,o'm hu h1 g1 f1 hm,p'd h2 g2 f2⟩
structure QO (X:Cx) (k:Md) (e:Option Expr) (pe:PO'):Prop where
 h:∃ te,PO X e te/\SimO X.K k te pe
theorem u'R:QO X k none poN:=⟨_,r'K,u'K⟩
theorem k'M {e:Expr} {pe:PE'} (h:QE X k e pe):QO X k (some e) (poS pe):=by
 obtain⟨te,h1,h2⟩:=h.h
 exact⟨_,r'L h1,u'L h2⟩
theorem p'e {e:Expr} {pe:PE'} {l h:Option Expr} {pl ph:PO'} {p2:Pos} (he:QE X k e pe) (hl:QO X k l pl) (hh:QO X k h ph):QE X k (.Subscript e (.Slice l h none p2) pos) (pSl pe pl ph):=by
 obtain⟨te,h1,h2⟩:=he.h
 obtain⟨tf,g1,g2⟩:=hl.h
 obtain⟨tg,f1,f2⟩:=hh.h
 exact⟨_,o'o w'L h1 g1 f1,u'M h2 g2 f2⟩
structure QG (X:Cx) (k:Md) (lo:Nat) (e:Expr) (pg:PG'):Prop where
 h:∃ tg,PG X e tg/\SimG X.K k lo tg pg
structure QGs (X:Cx) (k:Md) (lo:Nat) (es:List Expr) (pg:List Tr->List Tr->(List Tr->Prop)->Prop):Prop where
 h:∃ tg,PGs X es tg/\SimGs X.K k lo tg pg
theorem a'W {i:Nat} {x:Str} (hN:X.N.Nodup) (hl:lo<=i) (hi:X.N[i]?=some x) (hx:Loc X.env.scope x) (hf:X.fn x=true\/X.env.scope.names.lookup x=some .local:=by first | exact .inl rfl | exact .inr rfl | assumption):QG X k lo (.Name x pos) (pgN i):=⟨_,i'i hN hi hx hf,u'F hl⟩
theorem b'C:QGs X k lo [] pgsNil:=⟨_,r'w,m'd⟩
theorem a't {e:Expr} {es:List Expr} {pg:PG'} {pr:List Tr->List Tr->(List Tr->Prop)->Prop} (h:QG X k lo e pg) (h':QGs X k lo es pr) (hs:(assignEach (e :: es) X.env).map (·.2)=assign e X.env :: (assignEach es X.env).map (·.2):=by rfl):QGs X k lo (e :: es) (pgsCons pg pr):=by
 obtain⟨te,h1,h2⟩:=h.h
 obtain⟨tf,g1,g2⟩:=h'.h
 exact⟨_,o'e h1 g1 hs,k'I h2 g2⟩
theorem e'a {es:List Expr} {n kk:Nat} {pr:List Tr->List Tr->(List Tr->Prop)->Prop} (hc:X.calm=true) (h:QGs X k lo es pr) (hn:(assignEach es X.env).length=n:=by rfl) (hf:(assignEach es X.env).findIdx? (·.1)=none:=by rfl):QG X k lo (.Tuple es kk pos) (pgT n pr):=by
 obtain⟨te,h1,h2⟩:=h.h
 exact⟨_,t'J hc h1 hn hf,u'G h2⟩
structure QI (X:Cx) (k:Md) (tg e:Expr) (pi:PI'):Prop where
 h:∃ ti,PI X tg e ti/\SimI X.K k ti pi
section
variable {tg:Expr} {p:Pos} {l m:Expr} {pl:PE'} {ps:PA'}
theorem e'b (h:QE X k l pl):QI X k tg l (piL pl):=by
 obtain⟨te,h1,h2⟩:=h.h
 exact⟨_,r'x h1,m'f h2⟩
theorem w'M (h:QE X k l pl):QI X k tg l (piT pl):=by
 obtain⟨te,h1,h2⟩:=h.h
 exact⟨_,t'M h1,o'V h2⟩
theorem w'u (hg:Gl X "range") (hm:X.mg "range"=none) (h:QA X k [l] ps) (hs:starEach [l] X.env=[(false,eval l X.env)]:=by rfl):QI X k tg (.Call (.Name "range" p) [l] [] pos) (piR1 ps):=by
 obtain⟨te,h1,h2⟩:=h.h
 exact⟨_,l'g hg hm h1 hs,s'O h2⟩
end
theorem a'p {i:Nat} {x:Str} {e:Expr} {pe:PE'} {pos':Pos} (hN:X.N.Nodup) (hl:lo<=i) (hi:X.N[i]?=some x) (hx:Loc X.env.scope x) (h:QE X k e pe) (hs:swapsWith e (some (.Name x pos')) pos.line X.env=pure false:=by rfl) (hf:X.fn x=true\/X.env.scope.names.lookup x=some .local:=by first | exact .inl rfl | exact .inr rfl | assumption) :
  QS X k lo (.Assign [.Name x pos'] e pos) (pAsgF i pe):=by
 obtain⟨te,h1,h2⟩:=h.h
 exact⟨_,g'y hN hi hx h1 hs hf,h'b hl h2⟩
theorem w'v {tg e:Expr} {pe:PE'} {pg:PG'} (h:QE X k e pe) (hg:QG X k lo tg pg) (h1:swapsWithSole [tg] e pos.line X.env=pure false:=by rfl) (h2:swappedStores [tg] e X.env=pure none:=by rfl) (h3:(assignEach [tg] X.env).map (·.2)=[assign tg X.env]:=by rfl):QS X k lo (.Assign [tg] e pos) (pUnp pe pg):=by
 obtain⟨te,f1,f2⟩:=h.h
 obtain⟨tf,g1,g2⟩:=hg.h
 exact⟨_,t'K f1 g1 h1 h2 h3,s'J f2 g2⟩
theorem w'w {i j:Nat} {x y:Str} {ps:PA'} {px py pt pt2:Pos} {kt k2:Nat} (hc:X.calm=true) (hN:X.N.Nodup) (hl:lo<=i) (hl':lo<=j) (hi:X.N[i]?=some x) (hj:X.N[j]?=some y) (hij:i≠j) (hx:X.env.scope.names.lookup x=some .local) (hy:X.env.scope.names.lookup y=some .local) (h:QA X k [a,b] ps)
  (hs:swappedStores [.Tuple [.Name x px,.Name y py] kt pt] (.Tuple [a,b] k2 pt2) X.env=pure (some [x,y])) (hw:swapsWithSole [.Tuple [.Name x px,.Name y py] kt pt] (.Tuple [a,b] k2 pt2) pos.line X.env=pure false:=by rfl):QS X k lo (.Assign [.Tuple [.Name x px,.Name y py] kt pt] (.Tuple [a,b] k2 pt2) pos) (pPar i j ps):=by
 obtain⟨te,h1,h2⟩:=h.h
 exact⟨_,t'L hc hN hi hj hij hx hy h1 hs hw,s'K hl hl' h2⟩
theorem d'w {tg iter:Expr} {body:List Stmt} {pi:PI'} {pg:PG'} {pb:PS'} (hp:PassesOwn (model X.prog X.w) X.A X.env X.xe) (hc:X.calm=true) (hi:QI X k tg iter pi) (hg:QG X k lo tg pg) (hb:QB X k lo body pb) (hs:∀ x,foldedSetIterable iter X.env x=pure x:=by intro _;rfl):QS X k lo (.For tg iter body [] pos) (pFor pi pg pb):=by
 obtain⟨te,h1,h2⟩:=hi.h
 obtain⟨tf,g1,g2⟩:=hg.h
 obtain⟨tb,b1,b2⟩:=hb.h
 exact⟨_,l'i hp hc h1 g1 b1 hs,s'M h2 g2 b2⟩
theorem e'I (hz:k.z=true) {o:Expr} {po:PE'} {elts:List Expr} {x1:Nat} {tpos apos cpos:Pos} {body:List Stmt} {pg:PG'} {pb:PS'} (hp:PassesOwn (model X.prog X.w) X.A X.env X.xe) (hc:X.calm=true) (ho:QE X k o po) (hg:QG X k.walk lo (.Tuple elts x1 tpos) pg) (hb:QB X k.walk lo body pb) (h1:attributeBase o "items" X.env (eval o X.env)=eval o X.env:=by rfl) (h2:(apos.endLine == cpos.line)=true:=by rfl) (h3:∀ x,foldedSetIterable (.Call (.Attribute o "items" apos) [] [] cpos) X.env x=pure x:=by intro _;rfl) :
  QS X k lo (.For (.Tuple elts x1 tpos) (.Call (.Attribute o "items" apos) [] [] cpos) body [] pos) (pForD .it po pg pb):=by
 obtain⟨te,e1,e2⟩:=ho.h
 obtain⟨tf,g1,g2⟩:=hg.h
 obtain⟨tb,b1,b2⟩:=hb.h
 exact⟨_,r'N hp hc e1 g1 b1 h1 h2 h3,p'a hz e2 g2 b2⟩
theorem a'r (i:Nat) {x:Str} (hN:X.N[i]?=some x:=by rfl) (hv:Vis X.env.scope x:=by first | exact Or.inl rfl | exact Or.inr (Or.inl rfl) | exact Or.inr (Or.inr rfl)) (hd:(x == ("__debug__":Str))=false:=by decide) (hcd:(x == ("__classdict__":Str))=false:=by decide):PE X (.Name x pos) (tR X.K i []):=c'i hN hv hd hcd
theorem b'v {o e:Expr} {i:Nat} {r:List Str} {pe:PE'} {apos cpos spos:Pos} (hp:PE X o (tR X.K i r)) (h:QE X k e pe) (h1:attributeBase o "append" X.env (eval o X.env)=eval o X.env:=by rfl)
  (h2:(((backTo cpos (starEach [e] X.env)).all (!·.1) && (backToKw cpos (keywordEach [] X.env)).all (·.1.isSome)) && decide (([e].length+([]:List Keyword).length+if ([]:List Keyword).isEmpty=true then 0 else 1)<30))=true:=by rfl)
  (h3:(apos.endLine == cpos.line)=true:=by rfl) (h4:starEach [e] X.env=(false,eval e X.env) :: starEach [] X.env:=by rfl) (hs:swapsWith (.Call (.Attribute o "append" apos) [e] [] cpos) none spos.line X.env=pure false:=by rfl) :
  QS X k lo (.Expr (.Call (.Attribute o "append" apos) [e] [] cpos) spos) (pApp X.K i r pe):=by
 obtain⟨te,e1,e2⟩:=h.h
 exact⟨_,d'l (p'J PySem.F.plainAttrs_list slot_list_append type_list_append f'G hp (b'q e1 b'O h4) h1 h2 h3 h4 rfl) hs,s'P e2⟩
theorem c'F {o j e:Expr} {i:Nat} {r:List Str} {pj pe:PE'} {pos':Pos} (hu:X.A.units+1<cLine) (hp:PE X o (tR X.K i r)) (hj:QE X k j pj) (h:QE X k e pe) (hs:swapsWith e (some (.Subscript o j pos')) pos.line X.env=pure false:=by rfl):QS X k lo (.Assign [.Subscript o j pos'] e pos) (pPut X.K i r pj pe):=by
 obtain⟨te,e1,e2⟩:=h.h
 obtain⟨tj,f1,f2⟩:=hj.h
 exact⟨_,r'H hu hp f1 e1 hs,s'Q e2 f2⟩
theorem b'w {o e:Expr} {f:Str} {i:Nat} {r:List Str} {pe:PE'} {pos':Pos} (hp:PE X o (tR X.K i r)) (h:QE X k e pe) (hs:swapsWith e (some (.Attribute o f pos')) pos.line X.env=pure false:=by rfl):QS X k lo (.Assign [.Attribute o f pos'] e pos) (pFldS X.K i r f pe):=by
 obtain⟨te,e1,e2⟩:=h.h
 exact⟨_,t'T hp e1 hs,o'Z e2⟩
structure QGq (X:Cx) (scope:Scope) (N:List Str) (js:List Nat) (e:Expr) (pg:PG'):Prop where
 h:∃ tg,(∀ C s H fp pl,PG (cxComp X scope N C s H fp pl) e tg)/\SimQ X.K js tg pg
section
variable {scope:Scope} {N:List Str}
theorem p'f {i:Nat} {x:Str} (hN:N.Nodup) (hi:N[i]?=some x) (hx:∀ C s H fp pl,(cxComp X scope N C s H fp pl).env.scope.names.lookup x=some .local:=by intros;rfl):QGq X scope N [i] (.Name x pos) (pgN i):=⟨_,λC s H fp pl=>i'i (X:=cxComp X scope N C s H fp pl) hN hi (.inl (hx C s H fp pl)) (.inr (hx C s H fp pl)),u'N⟩
structure QTs (Y:Cx) (k:Md) (es:List Expr) (pt:PB'):Prop where
 h:PTs Y es (tOfT Y.K k pt)
theorem s'X:QTs X k [] pYes:=⟨λpins s σ H Q I ⟨F,B,ρ,Q',h1,h2,h3⟩=>r'T pins s σ H Q I (s'V (k:=k) F B H σ ρ Q Q' h1 h2 h3)⟩
theorem i'H {e:Expr} {pt:PB'} (h:QT X k e pt):QTs X k [e] pt:=⟨r'U h.of⟩
variable {elt target iter:Expr} {ifs:List Expr} {ix:List (Option Nat)} {pi:PI'} {pg:PG'} {pt:PB'} {pe:PE'} {js:List Nat}
theorem m'j (hc:X.calm=true) (hi:QI X k target iter pi) (hg:QGq X scope N js target pg) (ht:∀ C s H fp pl,QTs (cxComp X scope N C s H fp pl) k.mute ifs pt) (he:∀ C s H fp pl,QE (cxComp X scope N C s H fp pl) k.mute elt pe) (hpk:PickOk X scope N ix) (hj:∀ j∈js,ix[j]?=some none:=by decide)
  (hkind:scope.kind=.function:=by rfl) (hcell:∀ y∈scope.names,y.2≠.cell:=by decide) (hnames:∀ x∈scope.names,x.2=.local->scope.names.lookup x.1=some .local:=by decide) (hall:clAll scope X.env=true:=by rfl) (hs:∀ x,foldedSetIterable iter X.env x=pure x:=by intro _;rfl) :
  QE X k (.ListComp elt [⟨target,iter,ifs,0⟩] scope pos) (pComp pi pg pt pe ix):=by
 obtain⟨te,h1,h2⟩:=hi.h
 obtain⟨tf,g1,g2⟩:=hg.h
 exact⟨_,r'W hc h1 g1 (λC s H fp pl=>(ht C s H fp pl).h) (λC s H fp pl=>(he C s H fp pl).of) hpk hkind hcell hnames hall hs,h'e h2 g2 i'G m'i hj⟩
theorem s'Y {i:Nat} {y:Str} {py spos:Pos} (hN:X.N.Nodup) (hl:lo<=i) (hyi:X.N[i]?=some y) (hy:Loc X.env.scope y) (hc:X.calm=true) (hi:QI X k target iter pi) (hg:QGq X scope N js target pg) (ht:∀ C s H fp pl,QTs (cxComp X scope N C s H fp pl) k.mute ifs pt) (he:∀ C s H fp pl,QE (cxComp X scope N C s H fp pl) k.mute elt pe) (hpk:PickOk X scope N ix) (hj:∀ j∈js,ix[j]?=some none:=by decide)
  (hsw:swapsWith (.ListComp elt [⟨target,iter,ifs,0⟩] scope pos) (some (.Name y py)) spos.line X.env=pure true:=by with_unfolding_all rfl) (hkind:scope.kind=.function:=by rfl) (hcell:∀ y∈scope.names,y.2≠.cell:=by decide) (hnames:∀ x∈scope.names,x.2=.local->scope.names.lookup x.1=some .local:=by decide) (hall:clAll scope X.env=true:=by rfl) (hs:∀ x,foldedSetIterable iter X.env x=pure x:=by intro _;rfl) (hf:X.fn y=true\/X.env.scope.names.lookup y=some .local:=by first | exact .inl rfl | exact .inr rfl | assumption) :
  QS X k lo (.Assign [.Name y py] (.ListComp elt [⟨target,iter,ifs,0⟩] scope pos) spos) (pAsgF i (pComp pi pg pt pe ix)):=by
 obtain⟨te,h1,h2⟩:=hi.h
 obtain⟨tf,g1,g2⟩:=hg.h
 exact⟨_,r'X hN hyi hy hc h1 g1 (λC s H fp pl=>(ht C s H fp pl).h) (λC s H fp pl=>(he C s H fp pl).of) hpk hsw hkind hcell hnames hall hs hf,h'b hl (h'e h2 g2 i'G m'i hj)⟩
end
end
end Pu
namespace Pu
open PySem L2 Vc Sf
section
variable {K:W.Frag} {k k':Md} {lo:Nat} {us:List V} {Fb Hb F H F' H':Hp} {σ:St} {ρ:List Tr} {cs:Nat->Cs}
def pRaise (q:Value->Prop) (C:Addr) (pe:PE'):PS':=λ_ ρ=>pe (ρ.map lend) λ_=>q (.ref C)
def Pd.less (D:Pd) (i:Nat):Pd:={ nx:=λρ=>D.nx (ρ.set i .hole),rt:=D.rt,bk:=λρ=>D.bk (ρ.set i .hole),ct:=λρ=>D.ct (ρ.set i .hole) }
@[reducible] def catT (K:W.Frag) (C:Addr) (cls:Value):Prop:=W.exmOne K cls (.ref C)=some true
def pTry (K:W.Frag) (C:Addr) (pS:PE'->PS') (pe:(Value->Prop)->PE') (ph:PS'):PS':=λD ρ=>pS (pe λcls=>catT K C cls/\ph D ρ) D ρ
def pTryAs (K:W.Frag) (C:Addr) (i:Nat) (pS:PE'->PS') (pe:(Value->Prop)->PE') (ph:PS'):PS':=λD ρ=>pS (pe λcls=>catT K C cls/\∃ B,cls=.ref B/\ph (D.less i) (ρ.set i (.exc B))) D ρ
end
section
variable {X:Cx} {k:Md} {lo:Nat} {a b c:Expr} {pa pb pc:PE'} {pos:Pos}
section
variable {st b₀:Stmt} {suite:List Stmt} {x n:Str} {np hpos:Pos} {C:Addr} {e:Expr} {tS:TE->TS} {pS:PE'->PS'} {pe:(Value->Prop)->PE'} {ph:PS'} {i:Nat}
end
end
end Pu
namespace Pu
open PySem L2 Vc Sf
section
variable {X:Cx}
end
section
variable {K:W.Frag} {k:Md} {F H F' H':Hp} {B:Bool->Hp} {σ:St} {ρ:List Tr}
def isT:Tr->Tr->Bool
 | .bl c, .bl d => c == d
 | .non, .non => true
 | _, _ => false
def wIsV (neg:Bool) (x y:Tr) (Q:Tr->Prop):Prop:=match y with
 | .bl d => Q (.bl (neg ^^ isT x (.bl d)))
 | .non => Q (.bl (neg ^^ isT x .non))
 | _ => False
theorem w'N {X:Cx} {x:Str} {c:Addr} {vs:List V} {pos:Pos} (ts:List Tr) (hg:Gl X x) (hm:X.mg x=some (.ref c)) (ht:∃ (o:Obj) (its:Array Value) (n:Nat),X.K.lookup c=some o/\o.cls=.type "tuple"/\o.data=.seq its n/\its.size<=sizeLine/\Vals vs its.toList) (hr:∀ F B,Rs X.K F B ts vs []) (hd:(x == ("__debug__":Str))=false:=by decide):QE X k (.Name x pos) (pC (.tup ts)):=
 e'F (.ref c) hg hm rfl (λF B=>⟨c,vs,rfl,.inr ht,hr F B⟩) hd
theorem i'I:∀ (is:List Int),Rs K F B (is.map .int) (is.map V.int) []
 | [] => ⟨rfl, rfl⟩
 | i :: is => ⟨.int i, is.map V.int, [], [], rfl, rfl, ⟨rfl, rfl⟩, i'I is⟩
theorem k'N {X:Cx} {x:Str} {c:Addr} {pos:Pos} (is:List Int) (hg:Gl X x) (hm:X.mg x=some (.ref c)) (ht:∃ (o:Obj) (its:Array Value) (n:Nat),X.K.lookup c=some o/\o.cls=.type "tuple"/\o.data=.seq its n/\its.size<=sizeLine/\Vals (is.map V.int) its.toList) (hd:(x == ("__debug__":Str))=false:=by decide):QE X k (.Name x pos) (pC (.tup (is.map .int))):=
 w'N _ hg hm ht (λ_ _=>i'I is) hd
theorem w'O {X:Cx} {x:Str} {i:Str} {t:Tok} {pos:Pos} (hg:Gl X x) (hm:X.mg x=some (.str i t)) (hd:(x == ("__debug__":Str))=false:=by decide):QE X k (.Name x pos) (pC (.str i)):=e'F (.str i) hg hm ⟨_,rfl⟩ (λ_ _=>⟨rfl,rfl⟩) hd
theorem f'g {X:Cx} {x:Str} {c:Addr} {pos:Pos} (hg:Gl X x) (hm:X.mg x=some (.ref c)) (hd:(x == ("__debug__":Str))=false:=by decide):QE X k (.Name x pos) (pC (.cl c)):=e'F (.ref c) hg hm rfl (λ_ _=>⟨rfl,rfl⟩) hd
def pPairs:List (PE'×PE')->List Tr->(List (Key×Tr)->Prop)->Prop
 | [], _, Q => Q []
 | (pk, pv) :: r, ρ, Q => pk ρ λx => wKey x λy => pv ρ λt => pPairs r ρ λm => Q ((y, t) :: m)
def SimP (K:W.Frag) (k:Md) (trs:List (TE×TE)) (ps:List (PE'×PE')):Prop:=∀ (F:Hp) (B:Bool->Hp) (H:Hp) (σ:St) (ρ:List Tr) (Q:List (V×V)->Hp->Prop) (Q':List (Key×Tr)->Prop),Cxt K k F B H σ ρ->pPairs ps ρ Q'->
 (∀ m vs F' H' cs,Q' m->m.length=ps.length->Gr F H F' H'->Rk K F' B m vs cs->Cells F' H' cs->New H cs->Q (vs.map λkv=>(kV kv.1,kv.2)) H')->tPairs trs σ H Q
theorem p'g:SimP K k [] []:=λF B H σ ρ Q Q' c p q=>q [] [] F H [] p rfl (Gr.refl' c.s) ⟨rfl,rfl⟩ .nil .nil
theorem w'x {t:Tr} {v:V} {c:Cs} {y:Key} (r:R K F B t v c) (h:keyT t=some y):v=kV y:=by
 unfold keyT at h
 split at h<;>cases h
 ·exact r.1
 ·exact r.1
theorem m'k {tk tv:TE} {trs:List (TE×TE)} {pk pv:PE'} {ps:List (PE'×PE')} (hk:Sim K k tk pk) (hv:Sim K k tv pv) (h:SimP K k trs ps):SimP K k ((tk,tv) :: trs) ((pk,pv) :: ps):=λF B H σ ρ Q Q' c p q=>by
 refine hk F B H σ ρ _ _ c p λx v F1 H1 c1 p1 o1=>?_
 unfold wKey at p1
 split at p1
 ·rename_i y hy
  refine hv F1 B H1 σ ρ _ _ (c.gr o1.g) p1 λt u F2 H2 c2 p2 o2=>?_
  refine h F2 B H2 σ ρ _ _ ((c.gr o1.g).gr o2.g) p2 λm vs F3 H3 c3 p3 hl g3 r3 d3 n3=>?_
  have e:=w'x o1.r hy
  rw [e]
  have:=q ((y,t) :: m) ((y,u) :: vs) F3 H3 (c2++c3) p3 (by rw [List.length_cons,List.length_cons,hl]) ((o1.g.trans' o2.g).trans' g3) ⟨u,vs,c2,c3,rfl,rfl,o2.r.mo g3.le (λk=>Le.refl (B k)) t,r3⟩ ((o2.c.gr g3).app d3 λp mp q mq z=>by have:=o2.c.h p mp;rw [z,n3 q mq] at this;cases this) (λp mp=>by
   rcases List.mem_append.mp mp with mp | mp
   ·exact o1.g.h.free (o2.n p mp)
   ·exact (o1.g.trans' o2.g).h.free (n3 p mp))
  exact this
 ·exact p1.elim
end
end Pu
namespace Pu
open PySem L2 Vc Sf
theorem p'h {acc:List (Key×V)} {y:Key} {v:V} (h:y ∉ acc.map (·.1)):putK acc y v=acc++[(y,v)]:=by
 unfold putK
 rw [if_neg]
 rw [List.any_eq_true]
 rintro⟨p,m,e⟩
 exact h (List.mem_map.mpr ⟨p,m,of_decide_eq_true e⟩)
theorem f'Q:∀ (more acc:List (Key×V)),((acc++more).map (·.1)).Nodup->mergeK acc more=acc++more
 | [], acc, _ => by rw [List.append_nil]; rfl
 | p :: r, acc, h => by
  have e:putK acc p.1 p.2=acc++[p]:=p'h λm=>by
   rw [List.map_append,List.nodup_append] at h
   exact h.2.2 _ m _ (List.mem_map.mpr ⟨p,.head _,rfl⟩) rfl
  show mergeK (putK acc p.1 p.2) r=_
  rw [e,f'Q r (acc++[p]) (by rw [List.append_assoc];exact h),List.append_assoc]
  rfl
section
variable {K:W.Frag} {k:Md} {F H F' H':Hp} {B:Bool->Hp} {σ:St} {ρ:List Tr}
theorem Rk.fst:∀ {m:List (Key×Tr)} {vs:List (Key×V)} {c:Cs},Rk K F B m vs c->vs.map (·.1)=m.map (·.1)
 | [], _, _, ⟨h, _⟩ => by rw [h]; rfl
 | (y, x) :: m, _, _, ⟨v, r, c, d, h1, h2, h3, h4⟩ => by rw [h1, List.map_cons, List.map_cons, Rk.fst h4]
def pDisp (ps:List (PE'×PE')):PE':=λρ Q=>pPairs ps ρ λm=>(m.map (·.1)).Nodup/\Q (.dic .o m)
theorem p'i {trs:List (TE×TE)} {ps:List (PE'×PE')} (h:SimP K k trs ps) (h15:ps.length<=15):Sim K k (tDisp trs) (pDisp ps):=λF B H σ ρ Q Q' c p q p0 hp=>by
 have g0:Gr F H F (upd H p0 (.dK [])):=Gr.own1 c.s hp
 refine h F B _ σ ρ _ _ (c.gr g0) p λm vs F1 H1 cs p1 hl g1 r1 d1 n1=>?_
 have e1:H1 p0=some (.dK []):=g1.h _ _ a'm
 have em:mergeK [] vs=vs:=f'Q vs [] (by rw [List.nil_append,r1.fst];exact p1.1)
 have lv:vs.length=m.length:=by have:=congrArg List.length r1.fst;rw [List.length_map,List.length_map] at this;exact this
 refine⟨e1,vs,rfl,by omega,?_⟩
 rw [em]
 have f1:F1 p0=none:=by
  cases z:F1 p0 with
  | none=>rfl
  | some u=>
   have y:=g1.n p0 u z (c.s.free hp)
   rw [a'm] at y
   cases y
 refine q (.dic .o m) (.ref p0) F1 (upd H1 p0 (.dK vs)) ((p0,.dK vs) :: cs) p1.2 ⟨Gr.of ⟨λa o e=>?_,g1.f,λa o e=>?_,λa u e z=>?_⟩ g1.z,⟨p0,vs,cs,rfl,rfl,r1,p1.1⟩,⟨λx mx=>?_,λx mx=>?_,?_⟩,λx mx=>?_⟩
 ·have ne:a≠p0:=λz=>by rw [z,hp] at e;cases e
  rw [a'f ne]
  exact g1.h a o (by rw [a'f ne];exact e)
 ·have ne:a≠p0:=λz=>by rw [z,f1] at e;cases e
  rw [a'f ne]
  exact g1.s a o e
 ·have y:=g1.n a u e z
  have ne:a≠p0:=λz=>by rw [z,f1] at e;cases e
  rw [a'f ne] at y
  exact y
 ·cases mx with
  | head=>exact a'm
  | tail _ mx=>
   have ne:x.1≠p0:=λz=>by have:=n1 x mx;rw [z,a'm] at this;cases this
   rw [a'f ne]
   exact d1.h x mx
 ·cases mx with
  | head=>exact f1
  | tail _ mx=>exact d1.f x mx
 ·rw [List.map_cons,List.nodup_cons]
  refine⟨λmm=>?_,d1.nd⟩
  obtain⟨x,mx,e⟩:=List.mem_map.mp mm
  have:=n1 x mx
  have e:x.1=p0:=e
  rw [e,a'm] at this
  cases this
 ·cases mx with
  | head=>exact hp
  | tail _ mx=>
   have ne:x.1≠p0:=λz=>by have:=n1 x mx;rw [z,a'm] at this;cases this
   have:=n1 x mx
   rw [a'f ne] at this
   exact this
end
section
variable {X:Cx} {k:Md} {lo:Nat} {a b c:Expr} {pa pb pc:PE'} {pos:Pos}
structure QP (X:Cx) (k:Md) (pos:Pos) (keys:List (Option Expr)) (values:List Expr) (ps:List (PE'×PE')):Prop where
 h:∃ trs,PPs X pos keys values trs/\SimP X.K k trs ps
theorem m'l:QP X k pos [] [] []:=⟨_,r'I,p'g⟩
theorem a'M {ks:List (Option Expr)} {vs:List Expr} {ps:List (PE'×PE')} (ha:QE X k a pa) (hb:QE X k b pb) (h:QP X k pos ks vs ps):QP X k pos (some a :: ks) (b :: vs) ((pa,pb) :: ps):=by
 obtain⟨ta,f1,f2⟩:=ha.h
 obtain⟨tb,g1,g2⟩:=hb.h
 obtain⟨tc,h1,h2⟩:=h.h
 exact⟨_,o'l f1 g1 h1,m'k f2 g2 h2⟩
theorem m'm {keys:List (Option Expr)} {values:List Expr} {ps:List (PE'×PE')} (h:QP X k pos keys values ps) (hall:keys.all (·.isSome)=true:=by rfl) (hl:keys.length=values.length:=by rfl) (h0:keys≠[]:=by intro z;cases z) (h15:keys.length<=15:=by decide) (hp:ps.length<=15:=by decide):QE X k (.Dict keys values pos) (pDisp ps):=by
 obtain⟨ta,f1,f2⟩:=h.h
 exact⟨_,r'J f1 hall hl h0 h15,p'i f2 hp⟩
theorem d'x (K:W.Frag) (hK:X.K=K) {x:Str} {p:Pos} {e:Expr} {es:List Expr} {ps:PA'} (hg:Gl X x) (hm:X.mg x=none) (hv:bootBuiltins x=some (.builtin "isinstance")) (ha:QA X k (e :: es) ps) (hn:x≠"__name__":=by decide) (hdb:(x == ("__debug__":Str))=false:=by decide) (he:starEach (e :: es) X.env=(false,eval e X.env) :: starEach es X.env:=by rfl) (hpl:(backTo pos (starEach es X.env)).any (·.1)=false:=by rfl) :
  QE X k (.Call (.Name x p) (e :: es) [] pos) (pB (wIs K) ps):=by
 subst hK
 exact b'p o'u u'J hg hm hv ha hn hdb he hpl
theorem a'C (K:W.Frag) (hK:X.K=K) {f:Str} {e:Expr} {pe:PE'} (h:QE X k e pe) (hb:attributeBase e f X.env (eval e X.env)=eval e X.env:=by rfl):QE X k (.Attribute e f pos) (p1 (wFld K f) pe):=by
 subst hK
 exact w't h hb
end
end Pu
namespace Pu
open PySem L2 Vc Sf
mutual
def Cl:Tr->Bool
 | .tup xs => Cls' xs
 | .lst .f xs => Cls' xs
 | .dic .f xs => Clk xs
 | .ins .f _ xs => Clf xs
 | .lst _ _ => false
 | .dic _ _ => false
 | .ins _ _ _ => false
 | _ => true
def Cls':List Tr->Bool
 | [] => true | x :: xs => Cl x && Cls' xs
def Clk:List (Key×Tr)->Bool
 | [] => true | (_, x) :: xs => Cl x && Clk xs
def Clf:List (Str×Tr)->Bool
 | [] => true | (_, x) :: xs => Cl x && Clf xs
end
structure Clo (t:Tr):Prop where
 l:lend t=t
 f:frz t=t
 d:dn t=t
 o:nol t=true
 t:nlt t=true
structure Clos (t:List Tr):Prop where
 l:lends t=t
 f:frzs t=t
 d:dns t=t
 o:nols t=true
 t:nlts t=true
structure Clok (t:List (Key×Tr)):Prop where
 l:lendk t=t
 f:frzk t=t
 d:dnk t=t
 o:nolk t=true
 t:nltk t=true
structure Clof (t:List (Str×Tr)):Prop where
 l:lendf t=t
 f:frzf t=t
 d:dnf t=t
 o:nolf t=true
 t:nltf t=true
mutual
theorem clo:∀ (t:Tr),Cl t=true->Clo t
 | .int _, _ => ⟨rfl, rfl, rfl, rfl, rfl⟩
 | .bl _, _ => ⟨rfl, rfl, rfl, rfl, rfl⟩
 | .str _, _ => ⟨rfl, rfl, rfl, rfl, rfl⟩
 | .non, _ => ⟨rfl, rfl, rfl, rfl, rfl⟩
 | .hole, _ => ⟨rfl, rfl, rfl, rfl, rfl⟩
 | .ty _, _ => ⟨rfl, rfl, rfl, rfl, rfl⟩
 | .cl _, _ => ⟨rfl, rfl, rfl, rfl, rfl⟩
 | .exc _, _ => ⟨rfl, rfl, rfl, rfl, rfl⟩
 | .tup xs, h => have c := clos xs h; ⟨by show Tr.tup (lends xs) = _; rw [c.l], by show Tr.tup (frzs xs) = _; rw [c.f], by show Tr.tup (dns xs) = _; rw [c.d], c.o, c.t⟩
 | .lst .f xs, h => have c := clos xs h; ⟨rfl, rfl, by show Tr.lst .f (dns xs) = _; rw [c.d], c.o, c.t⟩
 | .dic .f xs, h => have c := clok xs h; ⟨rfl, rfl, by show Tr.dic .f (dnk xs) = _; rw [c.d], c.o, c.t⟩
 | .ins .f a xs, h => have c := clof xs h; ⟨rfl, rfl, by show Tr.ins .f a (dnf xs) = _; rw [c.d], c.o, c.t⟩
theorem clos:∀ (t:List Tr),Cls' t=true->Clos t
 | [], _ => ⟨rfl, rfl, rfl, rfl, rfl⟩
 | x :: xs, h => by
  have h:(Cl x && Cls' xs)=true:=h
  rw [Bool.and_eq_true] at h
  have a:=clo x h.1
  have b:=clos xs h.2
  exact⟨by show lend x :: lends xs=_;rw [a.l,b.l],by show frz x :: frzs xs=_;rw [a.f,b.f],by show dn x :: dns xs=_;rw [a.d,b.d],by show (nol x && nols xs)=_;rw [a.o,b.o];rfl,by show (nlt x && nlts xs)=_;rw [a.t,b.t];rfl⟩
theorem clok:∀ (t:List (Key×Tr)),Clk t=true->Clok t
 | [], _ => ⟨rfl, rfl, rfl, rfl, rfl⟩
 | (k, x) :: xs, h => by
  have h:(Cl x && Clk xs)=true:=h
  rw [Bool.and_eq_true] at h
  have a:=clo x h.1
  have b:=clok xs h.2
  exact⟨by show (k,lend x) :: lendk xs=_;rw [a.l,b.l],by show (k,frz x) :: frzk xs=_;rw [a.f,b.f],by show (k,dn x) :: dnk xs=_;rw [a.d,b.d],by show (nol x && nolk xs)=_;rw [a.o,b.o];rfl,by show (nlt x && nltk xs)=_;rw [a.t,b.t];rfl⟩
theorem clof:∀ (t:List (Str×Tr)),Clf t=true->Clof t
 | [], _ => ⟨rfl, rfl, rfl, rfl, rfl⟩
 | (k, x) :: xs, h => by
  have h:(Cl x && Clf xs)=true:=h
  rw [Bool.and_eq_true] at h
  have a:=clo x h.1
  have b:=clof xs h.2
  exact⟨by show (k,lend x) :: lendf xs=_;rw [a.l,b.l],by show (k,frz x) :: frzf xs=_;rw [a.f,b.f],by show (k,dn x) :: dnf xs=_;rw [a.d,b.d],by show (nol x && nolf xs)=_;rw [a.o,b.o];rfl,by show (nlt x && nltf xs)=_;rw [a.t,b.t];rfl⟩
end
class Enc (α:Type) where
 t:α->Tr
 c:∀ a,Cl (t a)=true
 h:∀ a,t a≠.hole
theorem b'T {α:Type} [Enc α]:∀ xs:List α,Cls' (xs.map Enc.t)=true
 | [] => rfl
 | x :: xs => by show (Cl (Enc.t x) && Cls' (xs.map Enc.t)) = true; rw [Enc.c x, b'T xs]; rfl
theorem b'r {α:Type} [Enc α]:∀ xs:List (Key×α),Clk (xs.map λp=>(p.1,Enc.t p.2))=true
 | [] => rfl
 | x :: xs => by show (Cl (Enc.t x.2) && Clk (xs.map λp => (p.1, Enc.t p.2))) = true; rw [Enc.c x.2, b'r xs]; rfl
instance:Enc Int:=⟨.int,λ_=>rfl,λ_ z=>by cases z⟩
instance:Enc Str:=⟨.str,λ_=>rfl,λ_ z=>by cases z⟩
instance:Enc Bool:=⟨.bl,λ_=>rfl,λ_ z=>by cases z⟩
instance:Enc Rat:=⟨λq=>.tup [.int q.num,.int (q.den:Int)],λ_=>rfl,λ_ z=>by cases z⟩
instance {α:Type} [Enc α]:Enc (List α):=⟨λxs=>.lst .f (xs.map Enc.t),λxs=>b'T xs,λ_ z=>by cases z⟩
instance {α β:Type} [Enc α] [Enc β]:Enc (α ⊕ β):=⟨λx=>match x with | .inl a=>Enc.t a | .inr b=>Enc.t b,λx=>by cases x<;>exact Enc.c _,λx=>by cases x<;>exact Enc.h _⟩
instance {α β:Type} [Enc α] [Enc β]:Enc (α×β):=⟨λx=>.tup [Enc.t x.1,Enc.t x.2],λx=>by show (Cl _ && (Cl _ && true))=true;rw [Enc.c,Enc.c];rfl,λ_ z=>by cases z⟩
section
variable {α β:Type} [Enc α] [Enc β] (a:α) (xs:List α)
@[simp] theorem p'W (n:Int):Enc.t n=.int n:=rfl
@[simp] theorem p'X (n:Str):Enc.t n=.str n:=rfl
@[simp] theorem u'S (n:Bool):Enc.t n=.bl n:=rfl
theorem w'y (q:Rat):Enc.t q=.tup [.int q.num,.int (q.den:Int)]:=rfl
theorem e_l:lend (Enc.t a)=Enc.t a:=(clo _ (Enc.c a)).l
theorem e_f:frz (Enc.t a)=Enc.t a:=(clo _ (Enc.c a)).f
theorem e_d:dn (Enc.t a)=Enc.t a:=(clo _ (Enc.c a)).d
theorem e_o:nol (Enc.t a)=true:=(clo _ (Enc.c a)).o
theorem e_t:nlt (Enc.t a)=true:=(clo _ (Enc.c a)).t
theorem u'T:lends (xs.map Enc.t)=xs.map Enc.t:=(clos _ (b'T xs)).l
theorem h'h:frzs (xs.map Enc.t)=xs.map Enc.t:=(clos _ (b'T xs)).f
theorem p'j:dns (xs.map Enc.t)=xs.map Enc.t:=(clos _ (b'T xs)).d
theorem p'k:nols (xs.map Enc.t)=true:=(clos _ (b'T xs)).o
theorem e'c:nlts (xs.map Enc.t)=true:=(clos _ (b'T xs)).t
end
class inductive Fp:Fl->Prop where
 | f : Fp .f
 | l : Fp (.l false)
instance:Fp .f:=.f
instance:Fp (.l false):=.l
section
variable {f:Fl} [h:Fp f]
theorem p'Y {xs:List Tr}:lend (.lst f xs)=.lst f xs:=by cases h<;>rfl
theorem m'n {xs:List Tr}:frz (.lst f xs)=.lst f xs:=by cases h<;>rfl
theorem m'o {xs:List Tr}:dn (.lst f xs)=.lst f (dns xs):=by cases h<;>rfl
theorem m'p {α:Type} [Enc α] {xs:List α}:nlt (.lst f (xs.map Enc.t))=true:=by cases h<;>first | exact e'c xs | rfl
theorem k'O {xs:List (Key×Tr)}:lend (.dic f xs)=.dic f xs:=by cases h<;>rfl
theorem h'i {xs:List (Key×Tr)}:frz (.dic f xs)=.dic f xs:=by cases h<;>rfl
theorem h'j {xs:List (Key×Tr)}:dn (.dic f xs)=.dic f (dnk xs):=by cases h<;>rfl
theorem h'k {α:Type} [Enc α] {xs:List (Key×α)}:nlt (.dic f (xs.map λp=>(p.1,Enc.t p.2)))=true:=by cases h<;>first | exact (clok _ (b'r xs)).t | rfl
end
section
variable {α:Type} [Enc α] {xs:List (Key×α)}
theorem p'l:lendk (xs.map λp=>(p.1,Enc.t p.2))=xs.map λp=>(p.1,Enc.t p.2):=(clok _ (b'r xs)).l
theorem p'm:frzk (xs.map λp=>(p.1,Enc.t p.2))=xs.map λp=>(p.1,Enc.t p.2):=(clok _ (b'r xs)).f
theorem k'P:dnk (xs.map λp=>(p.1,Enc.t p.2))=xs.map λp=>(p.1,Enc.t p.2):=(clok _ (b'r xs)).d
theorem u'U:nolk (xs.map λp=>(p.1,Enc.t p.2))=true:=(clok _ (b'r xs)).o
theorem u'V:nltk (xs.map λp=>(p.1,Enc.t p.2))=true:=(clok _ (b'r xs)).t
end
section
variable {K:W.Frag} {k:Md}
def pCallF (psp:PSp) (pa:PA'):PE':=λρ Q=>pa ρ λts=>psp (dns (frzs ts)) λt _=>Q t
def pCallFX (q:Value->Prop) (psp:PSpX) (pa:PA'):PE':=λρ Q=>pa ρ λts=>psp (dns (frzs ts)) (λt _=>Q t) q
def pFrzA (pa:PA'):PA':=λρ Q=>pa ρ λts=>Q (frzs ts)
theorem p'n {ta:TA} {pa:PA'} (h:SimA K k ta pa):SimA K k ta (pFrzA pa):=λF B H σ ρ Q Q' c p q=>by
 refine h F B H σ ρ _ _ c p λts vs F1 H1 c1 p1 o1=>?_
 obtain⟨F2,g2,r2⟩:=o1.held
 exact q _ vs F2 H1 [] p1 ⟨g2,r2,.nil,.nil⟩
theorem QA.frz {X:Cx} {es:List Expr} {pa:PA'} (h:QA X k es pa):QA X k es (pFrzA pa):=by
 obtain⟨ta,h1,h2⟩:=h.h
 exact⟨ta,h1,p'n h2⟩
end
end Pu
namespace Pu
open PySem L2 Vc Sf
theorem at0 {α:Type} (x:α) (xs:List α):atI (x :: xs) 0=some x:=by unfold atI ixN;simp
theorem at1 {α:Type} (x y:α) (xs:List α):atI (x :: y :: xs) 1=some y:=by unfold atI ixN;rw [if_pos (by omega),if_pos (by simp only [List.length_cons];omega)];rfl
theorem at2 {α:Type} (x y z:α) (xs:List α):atI (x :: y :: z :: xs) 2=some z:=by unfold atI ixN;rw [if_pos (by omega),if_pos (by simp only [List.length_cons];omega)];rfl
theorem at3 {α:Type} (x y z a:α) (xs:List α):atI (x :: y :: z :: a :: xs) 3=some a:=by unfold atI ixN;rw [if_pos (by omega),if_pos (by simp only [List.length_cons];omega)];rfl
theorem at4 {α:Type} (x y z a b:α) (xs:List α):atI (x :: y :: z :: a :: b :: xs) 4=some b:=by unfold atI ixN;rw [if_pos (by omega),if_pos (by simp only [List.length_cons];omega)];rfl
def spec (n:Nat) (g:List Tr->(Tr->Prop)->Prop):PSp:=λxs Q=>xs.length=n/\g xs λt=>∀ ρ,Q t ρ
def g_gd:PSp:=spec 2 λxs Q=>∃ a b,xs=[.int a,.int b]/\0<=a/\0<=b/\Q (.int (gd a b))
def g_part:PSp:=spec 2 λxs Q=>∃ a b,xs=[.int a,.int b]/\b≠0/\bi b<=7990/\Q (Enc.t (Rat.divInt a b))
theorem p'Z {a b:Int} {k:Nat} (hb:b≠0) (h:bi b<=k):bi (gd a b)<=k:=by
 refine w'l ?_
 have h1:=c'B h
 have h2:(gd a b).natAbs<=b.natAbs:=Nat.le_of_dvd (by omega) (Int.natAbs_dvd_natAbs.mpr (d'W a b))
 omega
theorem d'y {a b x:Int} (hb:b≠0) (h:bi b<=7990):CDivB x (gd a b):=⟨by have:=c'U (a:=a) hb;omega,c'B (Nat.le_trans (p'Z hb h) (show 7990<=8000 by omega))⟩
theorem h'l {a b x:Int} (hb:b≠0) (h:bi b<=7990):CDivB x (-gd a b):=⟨by have:=c'U (a:=a) hb;omega,by rw [Int.natAbs_neg];exact c'B (Nat.le_trans (p'Z hb h) (show 7990<=8000 by omega))⟩
def g_two (f:Rat->Rat->Rat):PSp:=spec 2 λxs Q=>∃ a b:Rat,xs=[Enc.t a,Enc.t b]/\bs a+bs b<=7990/\Q (Enc.t (f a b))
theorem a'O {x y:Int} {n m:Nat} (h1:bi x<=n) (h2:bi y<=m) (h:n+m<=60000000):CMulX x y:=w'm (by omega) (by omega)
theorem i'J (a b:Rat) (h:bs a+bs b<=7990):bi ((a.den:Int)*b.den)<=7990:=Nat.le_trans (b'n _ _) (by have:=a'Z a;have:=a'Z b;omega)
theorem i'K {α β:Type} [Enc α] [Enc β] (ws:List α) (ns:List β):(ws.map Enc.t).zipWith (λx y=>Tr.tup [x,y]) (ns.map Enc.t)=(ws.zip ns).map λp=>Tr.tup [Enc.t p.1,Enc.t p.2]:=by
 rw [List.zipWith_map,List.zip_eq_zipWith,List.map_zipWith]
theorem i'L {α:Type} [Enc α] (ws:List α):(ws.map Enc.t).mapIdx (λi x=>Tr.tup [.int i,x])=ws.zipIdx.map λp=>Tr.tup [.int p.2,Enc.t p.1]:=by
 apply List.ext_getElem?
 intro i
 rw [List.getElem?_mapIdx,List.getElem?_map,List.getElem?_map,List.getElem?_zipIdx]
 cases ws[i]?<;>simp
end Pu
namespace Pu
open PySem L2 Vc Sf
theorem u'W (t:Tr) (ρ':List Tr) (Q:Tr->Prop):pC t ρ' Q=(Q t):=rfl
theorem u'X (pr:Tr->Tr->(Tr->Prop)->Prop) (pa pb:PE') (ρ:List Tr) (Q:Tr->Prop):p2 pr pa pb ρ Q=(pa ρ λx=>pb ρ λy=>pr x y Q):=rfl
theorem u'Y (pr:Tr->(Tr->Prop)->Prop) (pa:PE') (ρ:List Tr) (Q:Tr->Prop):Pu.p1 pr pa ρ Q=(pa ρ λx=>pr x Q):=rfl
theorem m'q  (ρ':List Tr) (Q:List Tr->Prop):pNil ρ' Q=(Q []):=rfl
theorem i'M (pe:PE') (pa:PA') (ρ:List Tr) (Q:List Tr->Prop):pCons pe pa ρ Q=(pe ρ λx=>pa ρ λxs=>Q (x :: xs)):=rfl
theorem m'r (pa:PA') (ρ:List Tr) (Q:Tr->Prop):pTup pa ρ Q=(pa ρ λxs=>xs.length<=10000/\Q (.tup xs)):=rfl
theorem m's (pa:PA') (ρ:List Tr) (Q:Tr->Prop):pLst pa ρ Q=(pa ρ λxs=>xs.length<=10000/\Q (.lst .o xs)):=rfl
theorem u'Z (pe:PE') (ρ:List Tr) (Q:Bool->Prop):pT pe ρ Q=(pe ρ λx=>wBl x Q):=rfl
theorem m't (pa pb:PB') (ρ:List Tr) (Q:Bool->Prop):pAnd pa pb ρ Q=(pa ρ λc=>if c=true then pb ρ Q else Q false):=rfl
theorem q'a (pa pb:PB') (ρ:List Tr) (Q:Bool->Prop):pOr pa pb ρ Q=(pa ρ λc=>if c=true then Q true else pb ρ Q):=rfl
theorem m'u (pa:PB') (ρ:List Tr) (Q:Bool->Prop):pNot pa ρ Q=(pa ρ λc=>Q (!c)):=rfl
theorem i'N (pa pb:PE') (ρ:List Tr) (Q:Tr->Prop):pAndV pa pb ρ Q=(pa ρ λx=>wBl x λc=>if c=true then pb ρ Q else Q (.bl false)):=rfl
theorem m'v (pa pb:PE') (ρ:List Tr) (Q:Tr->Prop):pOrV pa pb ρ Q=(pa ρ λx=>wBl x λc=>if c=true then Q (.bl true) else pb ρ Q):=rfl
theorem i'O (pa:PE') (ρ:List Tr) (Q:Tr->Prop):pNotV pa ρ Q=(pa ρ λx=>wBl x λc=>Q (.bl (!c))):=rfl
theorem q'b (pc:PB') (pa pb:PE') (ρ:List Tr) (Q:Tr->Prop):pIf pc pa pb ρ Q=(pc ρ λc=>if c=true then pa ρ Q else pb ρ Q):=rfl
theorem m'w (p q:PS') (D:Pd) (ρ:List Tr):pSeq p q D ρ=(p { D with nx:=q D } ρ):=rfl
theorem i'P  (D:Pd) (ρ:List Tr):pNext D ρ=(D.nx ρ):=rfl
theorem m'x  (D:Pd) (ρ:List Tr):pBrk D ρ=(D.bk ρ):=rfl
theorem m'y  (D:Pd) (ρ:List Tr):pCnt D ρ=(D.ct ρ):=rfl
theorem m'z (i:Nat) (pe:PE') (D:Pd) (ρ:List Tr):pAsg i pe D ρ=(pe (ρ.map lend) λt=>nlt t=true/\D.nx (ρ.set i t)):=rfl
theorem i'Q (pe:PE') (D:Pd) (ρ:List Tr):pDrop pe D ρ=(pe (ρ.map lend) λ_=>D.nx ρ):=rfl
theorem m'A (pe:PE') (D:Pd) (ρ:List Tr):pRet pe D ρ=(pe (ρ.map lend) λt=>nol t=true/\D.rt t ρ):=rfl
theorem v'a (pc:PB') (p q:PS') (D:Pd) (ρ:List Tr):pIfS pc p q D ρ=(pc (ρ.map lend) λb=>if b=true then p D ρ else q D ρ):=rfl
theorem h'm (q:Value->Prop) (psp:PSpX) (pa:PA') (ρ:List Tr) (Q:Tr->Prop):pCallX q psp pa ρ Q=(pa ρ λts=>psp (dns ts) (λt _=>Q t) q):=rfl
theorem i'R (psp:PSp) (pa:PA') (ρ:List Tr) (Q:Tr->Prop):pCall psp pa ρ Q=(pa ρ λts=>psp (dns ts) λt _=>Q t):=rfl
theorem v'b (pr:List Tr->(Tr->Prop)->Prop) (pa:PA') (ρ:List Tr) (Q:Tr->Prop):pB pr pa ρ Q=(pa ρ λts=>pr ts Q):=rfl
theorem h'n  (D':Pd) (ρ':List Tr):pNever D' ρ'=(False):=rfl
theorem i'S (i:Nat) (pe:PE') (D:Pd) (ρ:List Tr):pAsgF i pe D ρ=(pe (ρ.map lend) λt=>nlt t=true/\D.nx (ρ.set i (frz t))):=rfl
theorem q'c (i:Nat) (t:Tr) (ρ:List Tr) (Q:List Tr->Prop):pgN i t ρ Q=(Q (ρ.set i t)):=rfl
theorem h'o  (ts:List Tr) (ρ:List Tr) (Q:List Tr->Prop):pgsNil ts ρ Q=(match ts with | []=>Q ρ | _=>False):=rfl
theorem f'R (pg:PG') (pr:List Tr->List Tr->(List Tr->Prop)->Prop) (ts:List Tr) (ρ:List Tr) (Q:List Tr->Prop):pgsCons pg pr ts ρ Q=(match ts with | t :: r=>pg t ρ λρ'=>pr r ρ' Q | []=>False):=rfl
theorem q'd (n:Nat) (pr:List Tr->List Tr->(List Tr->Prop)->Prop) (t:Tr) (ρ:List Tr) (Q:List Tr->Prop):pgT n pr t ρ Q=(match t with | .tup ts=>ts.length=n/\pr ts ρ Q | _=>False):=rfl
theorem m'B (pe:PE') (pg:PG') (D:Pd) (ρ:List Tr):pUnp pe pg D ρ=(pe (ρ.map lend) λt=>nlt t=true/\pg (frz t) ρ D.nx):=rfl
theorem m'C (i j:Nat) (pa:PA') (D:Pd) (ρ:List Tr):pPar i j pa D ρ=(pa (ρ.map lend) λts=>match ts with | [a,b]=>nlt a=true/\nlt b=true/\D.nx ((ρ.set i (frz a)).set j (frz b)) | _=>False):=rfl
theorem q'e (pe:PE') (ρ:List Tr) (Q:List Tr->Bool->Prop):piL pe ρ Q=(pe ρ λt=>wLst (frz t) λxs=>Q xs (nlt (frz t))):=rfl
theorem q'f (pe:PE') (ρ:List Tr) (Q:List Tr->Bool->Prop):piT pe ρ Q=(pe ρ λt=>wTp (frz t) λxs=>Q xs (nlt (frz t))):=rfl
theorem q'g (pa:PA') (ρ:List Tr) (Q:List Tr->Bool->Prop):piE pa ρ Q=(pa ρ λts=>wOne ts λt=>wLst (frz t) λxs=>Q (xs.mapIdx λi x=>.tup [.int i,x]) (nlt (frz t))):=rfl
theorem q'h (pa:PA') (ρ:List Tr) (Q:List Tr->Bool->Prop):piV pa ρ Q=(pa ρ λts=>wOne ts λt=>wLst (frz t) λxs=>Q xs.reverse (nlt (frz t))):=rfl
theorem q'i (pa:PA') (ρ:List Tr) (Q:List Tr->Bool->Prop):piZ pa ρ Q=(pa ρ λts=>wTwo ts λt u=>wLst (frz t) λxs=>wLst (frz u) λys=>Q (xs.zipWith (λx y=>.tup [x,y]) ys) (nlt (frz t) && nlt (frz u))):=rfl
theorem m'D (pa:PA') (ρ:List Tr) (Q:List Tr->Bool->Prop):piR1 pa ρ Q=(pa ρ λts=>wInt1 ts λj=>-1000000<=j/\j<=1000000/\Q ((List.range j.toNat).map λ(i:Nat)=>.int i) true):=rfl
theorem m'E (pa:PA') (ρ:List Tr) (Q:List Tr->Bool->Prop):piR2 pa ρ Q=(pa ρ λts=>wInt2s ts λi j=>(-1000000<=i/\i<=1000000/\-1000000<=j/\j<=1000000)/\Q ((List.range (j - i).toNat).map λ(n:Nat)=>.int (i+n)) true):=rfl
theorem m'F (K:W.Frag) (i:Nat) (r:List Str) (pe:PE') (D:Pd) (ρ:List Tr):pApp K i r pe D ρ=(wPl K ρ i r λu s=>wOwnL u λxs=>pe (ρ.map lend) λt=>nlt t=true/\xs.length<1000000/\D.nx (s (.lst .o (xs++[frz t])))):=rfl
theorem i'T (K:W.Frag) (i:Nat) (r:List Str) (pj pe:PE') (D:Pd) (ρ:List Tr):pSetL K i r pj pe D ρ=(pe (ρ.map lend) λt=>nlt t=true/\wPl K ρ i r λu s=>wOwnL u λxs=>pj (ρ.map lend) λy=>wSetL xs y (frz t) λxs'=>D.nx (s (.lst .o xs'))):=rfl
theorem m'G (K:W.Frag) (i:Nat) (r:List Str) (pj pe:PE') (D:Pd) (ρ:List Tr):pPut K i r pj pe D ρ=(pe (ρ.map lend) λt=>nlt t=true/\wPl K ρ i r λu s=>wOwnD u λm=>pj (ρ.map lend) λy=>wKey y λy=>m.length<1000000/\D.nx (s (.dic .o (putT m y (frz t))))):=rfl
theorem i'U  (ρ':List Tr) (Q:Tr->Prop):pDnew ρ' Q=(Q (.dic .o [])):=rfl
theorem i'V (K:W.Frag) (i:Nat) (r:List Str) (f:Str) (pe:PE') (D:Pd) (ρ:List Tr):pFldS K i r f pe D ρ=(pe (ρ.map lend) λt=>nlt t=true/\wPl K ρ i r λu s=>wOwnI K f u λc fs=>D.nx (s (.ins .o c (putf f t fs)))):=rfl
theorem q'j  (ρ':List Tr) (Q:Option Int->Prop):poN ρ' Q=(Q none):=rfl
theorem q'k (pe:PE') (ρ:List Tr) (Q:Option Int->Prop):poS pe ρ Q=(pe ρ λx=>match x with | .int i=>Q (some i) | _=>False):=rfl
theorem q'l (pe:PE') (pl ph:PO') (ρ:List Tr) (Q:Tr->Prop):pSl pe pl ph ρ Q=(pe ρ λx=>pl ρ λl=>ph ρ λh=>wSl x l h Q):=rfl
theorem m'H  (ρ':List Tr) (Q:Bool->Prop):pYes ρ' Q=(Q true):=rfl
theorem h'p (q:Value->Prop) (C:Addr) (pe:PE') (D':Pd) (ρ:List Tr):pRaise q C pe D' ρ=(pe (ρ.map lend) λ_=>q (.ref C)):=rfl
theorem m'I (K:W.Frag) (C:Addr) (pS:PE'->PS') (pe:(Value->Prop)->PE') (ph:PS') (D:Pd) (ρ:List Tr):pTry K C pS pe ph D ρ=(pS (pe λcls=>catT K C cls/\ph D ρ) D ρ):=rfl
theorem h'q (K:W.Frag) (C:Addr) (i:Nat) (pS:PE'->PS') (pe:(Value->Prop)->PE') (ph:PS') (D:Pd) (ρ:List Tr):pTryAs K C i pS pe ph D ρ=(pS (pe λcls=>catT K C cls/\∃ B,cls=.ref B/\ph (D.less i) (ρ.set i (.exc B))) D ρ):=rfl
theorem i'W (ps:List (PE'×PE')) (ρ:List Tr) (Q:Tr->Prop):pDisp ps ρ Q=(pPairs ps ρ λm=>(m.map (·.1)).Nodup/\Q (.dic .o m)):=rfl
theorem h'r (psp:PSp) (pa:PA') (ρ:List Tr) (Q:Tr->Prop):pCallF psp pa ρ Q=(pa ρ λts=>psp (dns (frzs ts)) λt _=>Q t):=rfl
theorem f'S (q:Value->Prop) (psp:PSpX) (pa:PA') (ρ:List Tr) (Q:Tr->Prop):pCallFX q psp pa ρ Q=(pa ρ λts=>psp (dns (frzs ts)) (λt _=>Q t) q):=rfl
theorem i'X (pa:PA') (ρ:List Tr) (Q:List Tr->Prop):pFrzA pa ρ Q=(pa ρ λts=>Q (frzs ts)):=rfl
theorem i'Y (n:Int):lend (.int n)=(.int n):=rfl
theorem m'J (n:Bool):lend (.bl n)=(.bl n):=rfl
theorem i'Z (n:Str):lend (.str n)=(.str n):=rfl
theorem j'a :lend .non=.non:=rfl
theorem h's :lend .hole=.hole:=rfl
theorem m'K (n:String):lend (.ty n)=(.ty n):=rfl
theorem m'L (n:Addr):lend (.cl n)=(.cl n):=rfl
theorem j'b (n:Addr):lend (.exc n)=(.exc n):=rfl
theorem j'c (n:Int):Pu.frz (.int n)=(.int n):=rfl
theorem m'M (n:Bool):Pu.frz (.bl n)=(.bl n):=rfl
theorem d'z (n:Str):Pu.frz (.str n)=(.str n):=rfl
theorem j'd :Pu.frz .non=.non:=rfl
theorem h't :Pu.frz .hole=.hole:=rfl
theorem m'N (n:String):Pu.frz (.ty n)=(.ty n):=rfl
theorem m'O (n:Addr):Pu.frz (.cl n)=(.cl n):=rfl
theorem j'e (n:Addr):Pu.frz (.exc n)=(.exc n):=rfl
theorem j'f (n:Int):dn (.int n)=(.int n):=rfl
theorem m'P (n:Bool):dn (.bl n)=(.bl n):=rfl
theorem j'g (n:Str):dn (.str n)=(.str n):=rfl
theorem j'h :dn .non=.non:=rfl
theorem h'u :dn .hole=.hole:=rfl
theorem m'Q (n:String):dn (.ty n)=(.ty n):=rfl
theorem m'R (n:Addr):dn (.cl n)=(.cl n):=rfl
theorem j'i (n:Addr):dn (.exc n)=(.exc n):=rfl
theorem j'j (n:Int):nol (.int n)=true:=rfl
theorem m'S (n:Bool):nol (.bl n)=true:=rfl
theorem f'h (n:Str):nol (.str n)=true:=rfl
theorem j'k :nol .non=true:=rfl
theorem h'v :nol .hole=true:=rfl
theorem m'T (n:String):nol (.ty n)=true:=rfl
theorem m'U (n:Addr):nol (.cl n)=true:=rfl
theorem j'l (n:Addr):nol (.exc n)=true:=rfl
theorem j'm (n:Int):nlt (.int n)=true:=rfl
theorem m'V (n:Bool):nlt (.bl n)=true:=rfl
theorem d'A (n:Str):nlt (.str n)=true:=rfl
theorem j'n :nlt .non=true:=rfl
theorem h'w :nlt .hole=true:=rfl
theorem m'W (n:String):nlt (.ty n)=true:=rfl
theorem m'X (n:Addr):nlt (.cl n)=true:=rfl
theorem j'o (n:Addr):nlt (.exc n)=true:=rfl
theorem j'p (xs:List Tr):lend (.tup xs)=.tup (lends xs):=rfl
theorem f'i (xs:List Tr):Pu.frz (.tup xs)=.tup (frzs xs):=rfl
theorem j'q (xs:List Tr):dn (.tup xs)=.tup (dns xs):=rfl
theorem j'r (xs:List Tr):nol (.tup xs)=nols xs:=rfl
theorem f'j (xs:List Tr):nlt (.tup xs)=nlts xs:=rfl
theorem j's (xs:List Tr):lend (.lst .o xs)=.lst (.l true) (lends xs):=rfl
theorem d'B (xs:List Tr):Pu.frz (.lst .o xs)=.lst .f (frzs xs):=rfl
theorem j't (xs:List Tr):dn (.lst (.l true) xs)=.lst (.l false) (dns xs):=rfl
theorem m'Y (b:Bool) (xs:List Tr):Pu.frz (.lst (.l b) xs)=.lst (.l b) xs:=rfl
theorem m'Z (b:Bool) (xs:List Tr):lend (.lst (.l b) xs)=.lst (.l b) xs:=rfl
theorem j'u (xs:List Tr):nol (.lst .o xs)=nols xs:=rfl
theorem c'p (xs:List Tr):nlt (.lst .o xs)=nlts xs:=rfl
theorem q'm (xs:List Tr):nol (.lst .f xs)=nols xs:=rfl
theorem j'v (xs:List (Key×Tr)):lend (.dic .o xs)=.dic (.l true) (lendk xs):=rfl
theorem j'w (xs:List (Key×Tr)):Pu.frz (.dic .o xs)=.dic .f (frzk xs):=rfl
theorem j'x (xs:List (Key×Tr)):dn (.dic (.l true) xs)=.dic (.l false) (dnk xs):=rfl
theorem j'y (xs:List (Key×Tr)):nol (.dic .o xs)=nolk xs:=rfl
theorem j'z (xs:List (Key×Tr)):nlt (.dic .o xs)=nltk xs:=rfl
def Loop (ts:List Tr) (pg:PG') (pb:PS') (D:Pd) (ρ:List Tr):Prop:=∃ I:Nat->List Tr->Prop,I 0 ρ/\(∀ i t ρ,ts[i]?=some t->I i ρ->pg t ρ λρ'=>pb { D with nx:=I (i+1),ct:=I (i+1),bk:=D.nx } ρ')/\∀ ρ,I ts.length ρ->D.nx ρ
theorem n'a (pi:PI') (pg:PG') (pb:PS') (D:Pd) (ρ:List Tr):pFor pi pg pb D ρ=(pi (ρ.map lend) λts nl=>nl=true/\Loop ts pg pb D ρ):=rfl
theorem Loop.map {γ:Type} (ys:List γ) (g:γ->Tr) {D:Pd} {pg:PG'} {pb:PS'} {ρ:List Tr} (J:Nat->List Tr->Prop) (h0:J 0 ρ) (step:∀ i y ρ,ys[i]?=some y->J i ρ->pg (g y) ρ λρ'=>pb { D with nx:=J (i+1),ct:=J (i+1),bk:=D.nx } ρ') (fin:∀ ρ,J ys.length ρ->D.nx ρ):Loop (ys.map g) pg pb D ρ:=by
 refine⟨J,h0,λi t ρ h j=>?_,λρ h=>fin ρ (by rw [List.length_map] at h;exact h)⟩
 rw [List.getElem?_map] at h
 cases e:ys[i]? with
 | none => rw [e] at h; cases h
 | some y => rw [e] at h; cases h; exact step i y ρ e j
def pV (o:Option Tr) (Q:Tr->Prop):Prop:=match o with | some .hole=>False | some t=>Q t | none=>False
theorem n'b (i:Nat) (ρ:List Tr) (Q:Tr->Prop):pVar i ρ Q=pV ρ[i]? Q:=rfl
theorem d'C {α:Type} [Enc α] (a:α) (Q:Tr->Prop):pV (some (Enc.t a)) Q=Q (Enc.t a):=by
 have h:=Enc.h a
 generalize Enc.t a=t at h
 cases t with
 | hole => exact absurd rfl h
 | _ => rfl
theorem q'n (n:Int) (Q:Tr->Prop):pV (some (.int n)) Q=Q (.int n):=rfl
theorem v'c (n:Bool) (Q:Tr->Prop):pV (some (.bl n)) Q=Q (.bl n):=rfl
theorem q'o (n:Str) (Q:Tr->Prop):pV (some (.str n)) Q=Q (.str n):=rfl
theorem q'p (Q:Tr->Prop):pV (some .non) Q=Q .non:=rfl
theorem q'q (n:Addr) (Q:Tr->Prop):pV (some (.exc n)) Q=Q (.exc n):=rfl
theorem q'r (xs:List Tr) (Q:Tr->Prop):pV (some (.tup xs)) Q=Q (.tup xs):=rfl
theorem q's (f:Fl) (xs:List Tr) (Q:Tr->Prop):pV (some (.lst f xs)) Q=Q (.lst f xs):=rfl
theorem q't (f:Fl) (xs:List (Key×Tr)) (Q:Tr->Prop):pV (some (.dic f xs)) Q=Q (.dic f xs):=rfl
theorem q'u (f:Fl) (c:Addr) (xs:List (Str×Tr)) (Q:Tr->Prop):pV (some (.ins f c xs)) Q=Q (.ins f c xs):=rfl
theorem h'x (q:Rat) (Q:Tr->Prop):wIdx (Enc.t q) (.int 0) Q=Q (.int q.num):=rfl
theorem h'y (q:Rat) (Q:Tr->Prop):wIdx (Enc.t q) (.int 1) Q=Q (.int (q.den:Int)):=rfl
theorem n'c:Tr.tup [.int 0,.int 1]=Enc.t (0:Rat):=rfl
theorem q'v:Tr.tup [.int 1,.int 1]=Enc.t (1:Rat):=rfl
end Pu
namespace Pu
open PySem L2 Vc Sf
def CLoop (ts:List Tr) (pg:PG') (pt:PB') (pe:PE') (σ':List Tr) (Q:Tr->Prop):Prop:=∃ I:Nat->List Tr->Prop,I 0 []/\
 (∀ i t acc,ts[i]?=some t->I i acc->pg t σ' λρ2=>pt ρ2 λb=>if b=true then pe ρ2 λx=>acc.length<1000000/\I (i+1) (acc++[x]) else I (i+1) acc)/\∀ acc,I ts.length acc->acc.length<=1000000/\Q (.lst .o acc)
theorem j'A (pi:PI') (pg:PG') (pt:PB') (pe:PE') (ix:List (Option Nat)) (ρ:List Tr) (Q:Tr->Prop):pComp pi pg pt pe ix ρ Q=(pi ρ λts _=>CLoop ts pg pt pe (pickT ix ρ) Q):=rfl
theorem CLoop.mapT {γ:Type} (ys:List γ) (g:γ->Tr) (h:γ->Tr) {pg:PG'} {pe:PE'} {σ':List Tr} {Q:Tr->Prop} (hl:ys.length<=1000000) (step:∀ y∈ys,∀ R:Tr->Prop,R (h y)->pg (g y) σ' λρ2=>pe ρ2 R) (q:Q (.lst .o (ys.map h))):CLoop (ys.map g) pg pYes pe σ' Q:=by
 refine⟨λi acc=>acc=(ys.take i).map h,rfl,λi t acc e a=>?_,λacc a=>?_⟩
 ·rw [List.getElem?_map] at e
  cases e':ys[i]? with
  | none=>rw [e'] at e;cases e
  | some y=>
   rw [e'] at e
   cases e
   have l:=(List.getElem?_eq_some_iff.mp e').1
   refine step y (List.mem_of_getElem? e') _ ⟨?_,?_⟩
   ·rw [a,List.length_map,List.length_take];omega
   ·show acc++[h y]=(ys.take (i+1)).map h
    rw [a,List.take_add_one,e',List.map_append];rfl
 ·rw [List.length_map,List.take_length] at a
  rw [a,List.length_map]
  exact⟨hl,q⟩
theorem CLoop.map {γ β:Type} [Enc β] (ys:List γ) (g:γ->Tr) (h:γ->β) {pg:PG'} {pe:PE'} {σ':List Tr} {Q:Tr->Prop} (hl:ys.length<=1000000) (step:∀ y∈ys,∀ R:Tr->Prop,R (Enc.t (h y))->pg (g y) σ' λρ2=>pe ρ2 R) (q:Q (.lst .o ((ys.map h).map Enc.t))):CLoop (ys.map g) pg pYes pe σ' Q:=
 CLoop.mapT ys g (λy=>Enc.t (h y)) hl step (by rw [List.map_map] at q;exact q)
def dicS {α:Type} [Enc α] (f:Fl) (m:List (Str×α)):Tr:=.dic f (m.map λp=>(Sum.inr p.1,Enc.t p.2))
theorem b'x {α:Type} [Enc α] (m:List (Str×α)):(m.map λp=>((Sum.inr p.1:Key),Enc.t p.2))=(m.map λp=>((Sum.inr p.1:Key),p.2)).map λp=>(p.1,Enc.t p.2):=by rw [List.map_map];rfl
theorem j'B {α:Type} [Enc α] (m:List (Str×α)):Cl (dicS .f m)=true:=by
 show Clk (m.map λp=>((Sum.inr p.1:Key),Enc.t p.2))=true
 rw [b'x];exact b'r _
theorem d'a {α:Type} [Enc α] (m:List (Str×α)) (x:Str):look (m.map λp=>((Sum.inr p.1:Key),Enc.t p.2)) (Sum.inr x)=(gtd m x).map Enc.t:=by
 unfold look gtd
 induction m with
 | nil => rfl
 | cons p m ih =>
  rw [List.map_cons,List.find?_cons,List.find?_cons]
  by_cases h:p.1=x
  ·rw [decide_eq_true (by rw [h]),decide_eq_true h];rfl
  ·rw [decide_eq_false (λz=>h (Sum.inr.inj z)),decide_eq_false h];exact ih
theorem q'w {α:Type} [Enc α] (f:Fl) (m:List (Str×α)) (x:Str) (d:α) (Q:Tr->Prop):wGet2 (dicS f m) (.str x) (Enc.t d) Q=Q (Enc.t ((gtd m x).getD d)):=by
 show Q ((look (m.map λp=>((Sum.inr p.1:Key),Enc.t p.2)) (Sum.inr x)).getD (Enc.t d))=_
 rw [d'a]
 cases gtd m x<;>rfl
def isDic (x:Tr):Prop:=match x with | .dic _ _=>True | _=>False
theorem v'd (pr:Tr->Tr->Tr->(Tr->Prop)->Prop) (pa pb pc:PE') (ρ:List Tr) (Q:Tr->Prop):p3 pr pa pb pc ρ Q=(pa ρ λx=>isDic x/\pb ρ λy=>pc ρ λz=>pr x y z Q):=rfl
theorem q'x {α:Type} [Enc α] (f:Fl) (m:List (Str×α)):isDic (dicS f m)=True:=rfl
def oQ (o:Option Tr) (Q:Tr->Prop):Prop:=match o with | some t=>Q t | none=>False
theorem n'd (t:Tr) (Q:Tr->Prop):oQ (some t) Q=Q t:=rfl
section
variable (i j:Int) (x y:Str) (b c:Bool) (f g:Fl) (xs ys:List Tr) (Q:Tr->Prop)
theorem n'e:wIdx (.tup xs) (.int i) Q=oQ (atI xs i) Q:=rfl
theorem n'f:wIdx (.lst f xs) (.int i) Q=oQ (atI xs i) Q:=rfl
theorem n'g (C:Int->Int->Prop) (t:Int->Int->Tr):wInt2 C t (.int i) (.int j) Q=(C i j/\Q (t i j)):=rfl
theorem n'h:wAdd (.int i) (.int j) Q=Q (.int (i+j)):=rfl
theorem n'i:wAdd (.str x) (.str y) Q=(x.length+y.length<=1000000/\Q (.str (x++y))):=rfl
theorem n'j:wAdd (.lst f xs) (.lst g ys) Q=(xs.length+ys.length<=1000000/\Q (.lst .o (xs++ys))):=rfl
theorem q'y:wMul (.int i) (.int j) Q=(CMulX i j/\Q (.int (i*j))):=rfl
theorem w_lt:wLt (.int i) (.int j) Q=Q (.bl (decide (i<j))):=rfl
theorem v'e:wGt (.int i) (.int j) Q=Q (.bl (decide (j<i))):=rfl
theorem q'z:wNeg (.int i) Q=Q (.int (-i)):=rfl
theorem q'A:wAbs [.int i] Q=Q (.int (if i<0 then -i else i)):=rfl
theorem v'f (R:Bool->Prop):wBl (.bl b) R=R b:=rfl
theorem q'B:wEq false (.int i) (.int j) Q=Q (.bl (decide (i=j))):=rfl
theorem q'C:wEq false (.str x) (.str y) Q=Q (.bl (decide (x=y))):=rfl
theorem q'D:wEq false (.bl b) (.bl c) Q=Q (.bl (decide (b=c))):=rfl
theorem q'E:wEq true (.int i) (.int j) Q=Q (.bl (!decide (i=j))):=rfl
theorem q'F:wEq true (.str x) (.str y) Q=Q (.bl (!decide (x=y))):=rfl
theorem q'G:wEq true (.bl b) (.bl c) Q=Q (.bl (!decide (b=c))):=rfl
theorem n'k (k:Bool):wLen k [.lst f xs] Q=Q (.int xs.length):=rfl
theorem n'l (k:Bool):wLen k [.tup xs] Q=Q (.int xs.length):=rfl
theorem n'm:wList [.lst f xs] Q=Q (.lst .o xs):=rfl
theorem q'H (R:List Tr->Prop):wLst (.lst f xs) R=R xs:=rfl
theorem q'I (t:Tr):wOne [t] Q=Q t:=rfl
theorem q'J (t u:Tr) (R:Tr->Tr->Prop):wTwo [t,u] R=R t u:=rfl
theorem n'n (R:Int->Prop):wInt1 [.int i] R=R i:=rfl
theorem n'o (R:Int->Int->Prop):wInt2s [.int i,.int j] R=R i j:=rfl
theorem q'K:wIsV false (.bl b) (.bl c) Q=Q (.bl (b == c)):=by show Q (.bl (false ^^ (b == c)))=_;rw [Bool.false_xor]
theorem q'L:wMx true [.int i,.int j] Q=Q (.int (if j > i then j else i)):=rfl
theorem q'M:wMx false [.int i,.int j] Q=Q (.int (if j<i then j else i)):=rfl
theorem n'p:wIntB [.bl b] Q=Q (.int (if b=true then 1 else 0)):=rfl
end
theorem q'N (x y:Int ⊕ Str) (Q:Tr->Prop):wEq false (Enc.t x) (Enc.t y) Q=Q (.bl (decide (x=y))):=by
 cases x with
 | inl a => cases y with
  | inl b=>show Q (.bl (decide (a=b)))=_;rw [decide_eq_decide.mpr (show a=b↔(Sum.inl a:Int ⊕ Str)=.inl b from ⟨λh=>by rw [h],λh=>Sum.inl.inj h⟩)]
  | inr b=>
   refine propext ⟨λh=>?_,λh=>.inl ⟨rfl,h⟩⟩
   rcases h with h | ⟨_,h,_⟩
   ·exact h.2
   ·cases h
 | inr a => cases y with
  | inl b=>
   refine propext ⟨λh=>?_,λh=>.inl ⟨rfl,h⟩⟩
   rcases h with h | ⟨_,h,_⟩
   ·exact h.2
   ·cases h
  | inr b=>show Q (.bl (decide (a=b)))=_;rw [decide_eq_decide.mpr (show a=b↔(Sum.inr a:Int ⊕ Str)=.inr b from ⟨λh=>by rw [h],λh=>Sum.inr.inj h⟩)]
abbrev RowE:=List (Str×Rat)×Str×Rat×Int×Int
instance (priority:=high) rowEnc:Enc RowE:=⟨λr=>.tup [dicS .f r.1,.str r.2.1,Enc.t r.2.2.1,.int r.2.2.2.1,.int r.2.2.2.2],λr=>by show (Cl (dicS .f r.1) && _)=true;rw [j'B];rfl,λ_ z=>by cases z⟩
theorem q'O (r:RowE) (Q:Tr->Prop):wIdx (Enc.t r) (.int 0) Q=Q (dicS .f r.1):=rfl
theorem q'P (r:RowE) (Q:Tr->Prop):wIdx (Enc.t r) (.int 1) Q=Q (.str r.2.1):=rfl
theorem q'Q (r:RowE) (Q:Tr->Prop):wIdx (Enc.t r) (.int 2) Q=Q (Enc.t r.2.2.1):=rfl
theorem q'R (r:RowE) (Q:Tr->Prop):wIdx (Enc.t r) (.int 3) Q=Q (.int r.2.2.2.1):=rfl
theorem q'S (r:RowE) (Q:Tr->Prop):wIdx (Enc.t r) (.int 4) Q=Q (.int r.2.2.2.2):=rfl
theorem n'q {α β:Type} [Enc α] [Enc β] (r:α×β) (Q:Tr->Prop):wIdx (Enc.t r) (.int 0) Q=Q (Enc.t r.1):=rfl
theorem n'r {α β:Type} [Enc α] [Enc β] (r:α×β) (Q:Tr->Prop):wIdx (Enc.t r) (.int 1) Q=Q (Enc.t r.2):=rfl
end Pu
namespace Pu
open PySem L2 Vc Sf
section
variable {K:W.Frag}
def wP0 (o:Option Tr) (R:Tr->Prop):Prop:=match o with | some .hole=>False | some t=>R t | none=>False
theorem q'T (ρ:List Tr) (i:Nat) (Q:Tr->(Tr->List Tr)->Prop):wPl K ρ i [] Q=wP0 ρ[i]? λt=>Q t λu=>ρ.set i u:=by
 unfold wPl wP0
 cases ρ[i]? with
 | none => rfl
 | some t => cases t <;> first | rfl | exact propext ⟨λh => h.2, λh => ⟨trivial, h⟩⟩
theorem n's (f:Fl) (xs:List Tr) (R:Tr->Prop):wP0 (some (.lst f xs)) R=R (.lst f xs):=rfl
theorem n't (f:Fl) (xs:List (Key×Tr)) (R:Tr->Prop):wP0 (some (.dic f xs)) R=R (.dic f xs):=rfl
theorem n'u (xs:List Tr) (Q:List Tr->Prop):wOwnL (.lst .o xs) Q=Q xs:=rfl
theorem n'v (xs:List (Key×Tr)) (Q:List (Key×Tr)->Prop):wOwnD (.dic .o xs) Q=Q xs:=rfl
end
section
variable {α:Type} [Enc α]
theorem c'G (xs:List α) (a:α):xs.map Enc.t++[Enc.t a]=(xs++[a]).map Enc.t:=by rw [List.map_append];rfl
theorem h'z (xs:List Int) (a:Int):xs.map Enc.t++[Tr.int a]=(xs++[a]).map Enc.t:=c'G xs a
theorem h'A (xs:List Str) (a:Str):xs.map Enc.t++[Tr.str a]=(xs++[a]).map Enc.t:=c'G xs a
theorem j'C (xs:List α) (i:Int):atI (xs.map Enc.t) i=(atI xs i).map Enc.t:=by
 unfold atI
 rw [List.length_map]
 cases ixN xs.length i with
 | none => rfl
 | some n => exact List.getElem?_map ..
theorem n'w {β:Type} (xs:List β) {i:Int} (h0:0<=i) (h:i.toNat<xs.length):atI xs i=some (xs[i.toNat]'h):=by
 unfold atI ixN
 rw [if_pos h0,if_pos (by omega)]
 exact List.getElem?_eq_getElem h
theorem w'z {β:Type} [Enc β] (o:Option β) (Q:Tr->Prop) (x:β) (h:o=some x) (q:Q (Enc.t x)):oQ (o.map Enc.t) Q:=by rw [h];exact q
theorem j'D (xs:List α) (l h:Option Int):cutT (xs.map Enc.t) l h=(cutT xs l h).map Enc.t:=by
 unfold cutT
 rw [List.length_map,List.map_take,List.map_drop]
theorem q'U (f:Fl) (xs:List Tr) (l h:Option Int) (Q:Tr->Prop):wSl (.lst f xs) l h Q=Q (.lst .o (cutT xs l h)):=rfl
end
theorem c'g {p:PS'} {D:Pd} {ρ:List Tr} (J:List Tr->Prop) (h1:∀ N:List Tr->Prop,(∀ ρ,J ρ->N ρ)->p { D with nx:=N } ρ) (h2:∀ ρ,J ρ->D.nx ρ):p D ρ:=h1 D.nx h2
end Pu
namespace Pu
open PySem L2 Vc Sf
section
variable {K:W.Frag} {k:Md} {lo:Nat} {us:List V} {Fb Hb F H:Hp} {σ:St} {ρ:List Tr} {cs:Nat->Cs}
theorem Wld.hole {i:Nat} (W:Wld K k lo us Fb Hb F H σ ρ cs):Wld K k lo us Fb Hb F H σ (ρ.set i .hole) (λj=>if j=i then [] else cs j) where
 g:=W.g
 z:=W.z
 l:=by rw [List.length_set];exact W.l
 e:=λj u h=>by
  by_cases e:j=i
  ·subst e
   have hl:j<ρ.length:=by have:=(List.getElem?_eq_some_iff.mp h).1;rw [List.length_set] at this;exact this
   rw [List.getElem?_set_self hl] at h
   cases h
   exact .inl rfl
  ·rw [List.getElem?_set_ne (λz=>e z.symm)] at h
   rw [if_neg e]
   exact W.e j u h
 c:=λj=>by
  split
  ·exact .nil
  ·exact W.c j
 n:=λj=>by
  split
  ·exact .nil
  ·exact W.n j
 d:=λa b ne p mp q mq=>by
  by_cases ea:a=i
  ·rw [if_pos ea] at mp
   cases mp
  ·rw [if_neg ea] at mp
   by_cases eb:b=i
   ·rw [if_pos eb] at mq
    cases mq
   ·rw [if_neg eb] at mq
    exact W.d a b ne p mp q mq
 p:=W.p
 x:=W.x
theorem Wld.fz {i:Nat} {t:Tr} (W:Wld K k lo us Fb Hb F H σ ρ cs) (ht:ρ[i]?=some t) (hn:t≠.hole):∃ F',Wld K k lo us Fb Hb F' H σ (ρ.set i (Pu.frz t)) (λj=>if j=i then [] else cs j):=by
 rcases W.e i t ht with rfl | ⟨v,h1,r⟩
 ·exact absurd rfl hn
 obtain⟨F1,W2,s,e⟩:=(W.hole (i:=i)).lay (W.c i) (W.n i) (r.plain t) (λj p mp q mq=>by
  by_cases ej:j=i
  ·rw [if_pos ej] at mp;cases mp
  ·rw [if_neg ej] at mp;exact W.d j i ej p mp q mq)
 refine⟨F1,⟨W2.g,W2.z,by rw [List.length_set];exact W.l,λj u h=>?_,W2.c,W2.n,W2.d,W2.p,W2.x⟩⟩
 by_cases ej:j=i
 ·subst ej
  have hl:j<ρ.length:=by have:=(List.getElem?_eq_some_iff.mp h).1;rw [List.length_set] at this;exact this
  rw [List.getElem?_set_self hl] at h
  cases h
  exact .inr ⟨v,h1,by rw [if_pos rfl];exact r.frz (Le.of s) t e⟩
 ·exact W2.e j u (by rw [List.getElem?_set_ne (λz=>ej z.symm)] at h ⊢;exact h)
def pFz (i:Nat) (p:PS'):PS':=λD ρ=>pV ρ[i]? λt=>p D (ρ.set i (Pu.frz t))
theorem v'g {i:Nat} {ts:TS} {p:PS'} (h:SimS K k lo ts p):SimS K k lo ts (pFz i p):=λus Fb Hb F H σ ρ cs D D' W q L=>by
 unfold pFz pV at q
 split at q
 ·exact q.elim
 ·rename_i t hn e
  obtain⟨F1,W1⟩:=W.fz e (λz=>hn (by rw [z]))
  exact h us Fb Hb F1 H σ _ _ D D' W1 q L
 ·exact q.elim
theorem d'b {X:Cx} (i:Nat) {sts:List Stmt} {p:PS'} (h:QB X k lo sts p):QB X k lo sts (pFz i p):=by
 obtain⟨ts,h1,h2⟩:=h.h
 exact⟨ts,h1,v'g h2⟩
theorem q'V (i:Nat) (p:PS') (D:Pd) (ρ:List Tr):pFz i p D ρ=(pV ρ[i]? λt=>p D (ρ.set i (Pu.frz t))):=rfl
end
def LoopD (w:Wm) (m:List (Key×Tr)) (pg:PG') (pb:PS') (D:Pd) (ρ:List Tr):Prop:=∃ I:Nat->List Tr->Prop,I 0 ρ/\(∀ i p ρ,m[i]?=some p->I i ρ->pg (wit w p) ρ λρ'=>pb { D with nx:=I (i+1),ct:=I (i+1),bk:=D.nx } ρ')/\∀ ρ,I m.length ρ->D.nx ρ
theorem j'E (w:Wm) (pe:PE') (pg:PG') (pb:PS') (D:Pd) (ρ:List Tr):pForD w pe pg pb D ρ=(pe (ρ.map lend) λt=>nlt t=true/\wDicF (Pu.frz t) λm=>LoopD w m pg pb D ρ):=rfl
theorem LoopD.map {α:Type} [Enc α] (m:List (Str×α)) {w:Wm} {D:Pd} {pg:PG'} {pb:PS'} {ρ:List Tr} (J:Nat->List Tr->Prop) (h0:J 0 ρ) (step:∀ i x y ρ,m[i]?=some (x,y)->J i ρ->pg (wit w (Sum.inr x,Enc.t y)) ρ λρ'=>pb { D with nx:=J (i+1),ct:=J (i+1),bk:=D.nx } ρ') (fin:∀ ρ,J m.length ρ->D.nx ρ):LoopD w (m.map λp=>((Sum.inr p.1:Key),Enc.t p.2)) pg pb D ρ:=by
 refine⟨J,h0,λi t ρ h j=>?_,λρ h=>fin ρ (by rw [List.length_map] at h;exact h)⟩
 rw [List.getElem?_map] at h
 cases e:m[i]? with
 | none => rw [e] at h; cases h
 | some y => rw [e] at h; cases h; exact step i y.1 y.2 ρ e j
theorem v'h (x:Str) (t:Tr):wit .it (Sum.inr x,t)=.tup [.str x,t]:=rfl
theorem v'i (x:Str) (t:Tr):wit .ks (Sum.inr x,t)=.str x:=rfl
theorem v'j (x:Key) (t:Tr):wit .vs (x,t)=t:=rfl
section
variable {α:Type} [Enc α] (m:List (Str×α)) {f:Fl}
theorem n'x (Q:List (Key×Tr)->Prop):wDicF (dicS .f m) Q=Q (m.map λp=>((Sum.inr p.1:Key),Enc.t p.2)):=rfl
theorem s_l [h:Fp f]:lend (dicS f m)=dicS f m:=k'O
theorem s_f [h:Fp f]:Pu.frz (dicS f m)=dicS f m:=h'i
theorem s_d [h:Fp f]:dn (dicS f m)=dicS f m:=by
 unfold dicS
 rw [h'j,b'x,k'P]
theorem s_t [h:Fp f]:nlt (dicS f m)=true:=by
 unfold dicS
 rw [b'x]
 exact h'k
theorem s_o:nol (dicS .f m)=true:=(clo _ (j'B m)).o
theorem n'y (Q:Tr->Prop):pV (some (dicS f m)) Q=Q (dicS f m):=rfl
theorem q'W (x:Str) (Q:Tr->Prop):wIdx (dicS f m) (.str x) Q=oQ ((gtd m x).map Enc.t) Q:=by
 show (match look (m.map λp=>((Sum.inr p.1:Key),Enc.t p.2)) (Sum.inr x) with | some t=>Q t | none=>False)=_
 rw [d'a]
 cases gtd m x<;>rfl
theorem q'X:lend (dicS .o m)=dicS (.l true) m:=by
 show Tr.dic (.l true) (lendk _)=_
 rw [b'x,p'l]
 unfold dicS
 rw [<- b'x]
theorem h'B:Pu.frz (dicS .o m)=dicS .f m:=by
 show Tr.dic .f (frzk _)=_
 rw [b'x,p'm]
 unfold dicS
 rw [<- b'x]
theorem q'Y:dn (dicS (.l true) m)=dicS (.l false) m:=by
 show Tr.dic (.l false) (dnk _)=_
 rw [b'x,k'P]
 unfold dicS
 rw [<- b'x]
theorem v'k (x:Str) (Q:Tr->Prop):wIn false (.str x) (dicS f m) Q=Q (.bl (gtd m x).isSome):=by
 show Q (.bl (look (m.map λp=>((Sum.inr p.1:Key),Enc.t p.2)) (Sum.inr x)).isSome)=_
 rw [d'a,Option.isSome_map]
end
end Pu
namespace Pu
open PySem L2 Vc Sf
theorem CLoop.filter {γ β:Type} [Enc β] (ys:List γ) (g:γ->Tr) (p:γ->Bool) (h:γ->β) {pg:PG'} {pt:PB'} {pe:PE'} {σ':List Tr} {Q:Tr->Prop} (hl:ys.length<=1000000)
  (step:∀ y∈ys,∀ (A:Prop) (R:Tr->Prop),(p y=true->R (Enc.t (h y)))->(p y=false->A)->pg (g y) σ' λρ2=>pt ρ2 λb=>if b=true then pe ρ2 R else A) (q:Q (.lst .o (((ys.filter p).map h).map Enc.t))):CLoop (ys.map g) pg pt pe σ' Q:=by
 refine⟨λi acc=>acc=(((ys.take i).filter p).map h).map Enc.t,rfl,λi t acc e a=>?_,λacc a=>?_⟩
 ·rw [List.getElem?_map] at e
  cases e':ys[i]? with
  | none=>rw [e'] at e;cases e
  | some y=>
   rw [e'] at e
   cases e
   have l:=(List.getElem?_eq_some_iff.mp e').1
   have tk:ys.take (i+1)=ys.take i++[y]:=by rw [List.take_add_one,e'];rfl
   refine step y (List.mem_of_getElem? e') _ _ (λhp=>⟨?_,?_⟩) (λhp=>?_)
   ·rw [a,List.length_map,List.length_map]
    have:=List.length_filter_le p (ys.take i)
    rw [List.length_take] at this
    omega
   ·show acc++[Enc.t (h y)]=(((ys.take (i+1)).filter p).map h).map Enc.t
    rw [tk,List.filter_append,a,List.filter_cons_of_pos hp,List.map_append,List.map_append]
    rfl
   ·show acc=(((ys.take (i+1)).filter p).map h).map Enc.t
    rw [tk,List.filter_append,a,List.filter_cons_of_neg (by rw [hp];decide),List.filter_nil,List.append_nil]
 ·rw [List.length_map,List.take_length] at a
  rw [a,List.length_map,List.length_map]
  exact⟨Nat.le_trans (List.length_filter_le p ys) hl,q⟩
theorem v'l (f g:Fl) (xs:List Tr) (hd:deps xs<=59) (Q:Tr->Prop) (q:Q (.bl (!xs.isEmpty))):wEq true (.lst f xs) (.lst g []) Q:=by
 refine .inr ⟨xs.isEmpty,?_,by show deps xs+1<=60;omega,by show 1<=deps xs+1;omega,q⟩
 cases xs with
 | nil => rfl
 | cons x xs => rfl
section
variable {α:Type} [Enc α] (m:List (Str×α)) (f:Fl)
theorem w'A (x:Str):((m.map λp=>((Sum.inr p.1:Key),Enc.t p.2)).any λkv=>decide (kv.1=Sum.inr x))=m.any λp=>decide (p.1=x):=by
 induction m with
 | nil => rfl
 | cons p m ih =>
  rw [List.map_cons,List.any_cons,List.any_cons,ih,decide_eq_decide.mpr (show (Sum.inr p.1:Key)=Sum.inr x↔p.1=x from ⟨λh=>Sum.inr.inj h,λh=>by rw [h]⟩)]
theorem g'u (x:Str) (a:α):putT (m.map λp=>((Sum.inr p.1:Key),Enc.t p.2)) (Sum.inr x) (Enc.t a)=(ptd m x a).map λp=>((Sum.inr p.1:Key),Enc.t p.2):=by
 unfold putT ptd
 rw [w'A]
 split
 ·rw [List.map_map,List.map_map]
  refine List.map_congr_left λp _=>?_
  show (if (Sum.inr p.1:Key)=Sum.inr x then _ else _)=_
  by_cases h:p.1=x
  ·rw [if_pos (by rw [h])]
   show _=((Sum.inr (if p.1=x then (p.1,a) else p).1:Key),Enc.t (if p.1=x then (p.1,a) else p).2)
   rw [if_pos h]
  ·rw [if_neg (λz=>h (Sum.inr.inj z))]
   show _=((Sum.inr (if p.1=x then (p.1,a) else p).1:Key),Enc.t (if p.1=x then (p.1,a) else p).2)
   rw [if_neg h]
 ·rw [List.map_append];rfl
theorem j'F (R:Tr->Prop):wP0 (some (dicS f m)) R=R (dicS f m):=rfl
theorem j'G (Q:List (Key×Tr)->Prop):wOwnD (dicS .o m) Q=Q (m.map λp=>((Sum.inr p.1:Key),Enc.t p.2)):=rfl
theorem n'z (x:Str) (Q:Key->Prop):wKey (.str x) Q=Q (Sum.inr x):=rfl
theorem n'A (x:Int) (Q:Key->Prop):wKey (.int x) Q=Q (Sum.inl x):=rfl
end
end Pu
namespace Pu
open PySem L2 Vc Sf
mutual
def smT:Tr->Tr->Bool
 | .int a, .int b => decide (a = b)
 | .str a, .str b => decide (a = b)
 | .bl a, .bl b => decide (a = b)
 | .non, .non => true
 | .tup xs, .tup ys => smTs xs ys
 | .lst _ xs, .lst _ ys => smTs xs ys
 | _, _ => false
def smTs:List Tr->List Tr->Bool
 | [], [] => true
 | x :: xs, y :: ys => smT x y && smTs xs ys
 | _, _ => false
end
def smTk:List (Key×Tr)->List (Key×Tr)->Bool
 | [], [] => true
 | x :: xs, y :: ys => decide (x.1 = y.1) && (smT x.2 y.2 && smTk xs ys)
 | _, _ => false
def depk:List (Key×Tr)->Nat
 | [] => 0
 | x :: xs => max (dep x.2) (depk xs)
mutual
def smN:Tr->Tr->Bool
 | .int a, .int b => decide (a = b)
 | .str a, .str b => decide (a = b)
 | .bl a, .bl b => decide (a = b)
 | .non, .non => true
 | .tup xs, .tup ys => smNs xs ys
 | .lst _ xs, .lst _ ys => smNs xs ys
 | .dic _ xs, .dic _ ys => smTk xs ys
 | _, _ => false
def smNs:List Tr->List Tr->Bool
 | [], [] => true
 | x :: xs, y :: ys => smN x y && smNs xs ys
 | _, _ => false
end
mutual
def depN:Tr->Nat
 | .tup xs => depNs xs + 1
 | .lst _ xs => depNs xs + 1
 | .dic _ xs => depk xs + 1
 | _ => 0
def depNs:List Tr->Nat
 | [] => 0
 | x :: xs => max (depN x) (depNs xs)
end
section
variable {K:W.Frag} {F H:Hp} {B:Bool->Hp}
mutual
theorem n'B (sf:Same F H) (sb:∀ k,Same (B k) H):∀ (t t':Tr) (v v':V) (c c':Cs),smT t t'=true->R K F B t v c->R K F B t' v' c'->Cells F H c->Cells F H c'->EqT K H (dep t) v v'
 | .tup xs => λt' v v' c c' e r r' hc hc' => by
  cases t' with
  | tup ys=>
   unfold smT at e
   obtain⟨a,vs,rfl,h1,h2⟩:=r.tupH sf
   obtain⟨a',vs',rfl,g1,g2⟩:=r'.tupH sf
   exact .inr ⟨a,a',vs,vs',rfl,rfl,.inl ⟨h1,g1⟩,smTs_eq sf sb xs ys vs vs' c c' (deps xs) e h2 g2 hc hc' (Nat.le_refl _)⟩
  | _=>cases e
 | .lst f xs => λt' v v' c c' e r r' hc hc' => by
  cases t' with
  | lst f' ys=>
   unfold smT at e
   obtain⟨a,vs,ds,rfl,h1,h2,h3,_⟩:=r.lstH sf sb hc
   obtain⟨a',vs',ds',rfl,g1,g2,g3,_⟩:=r'.lstH sf sb hc'
   exact .inr ⟨a,a',vs,vs',rfl,rfl,.inr ⟨h1,g1⟩,smTs_eq sf sb xs ys vs vs' ds ds' (deps xs) e h2 g2 h3 g3 (Nat.le_refl _)⟩
  | _=>cases e
 | .int a => λt' v v' c c' e r r' _ _ => by
  cases t' with
  | int a'=>have:=of_decide_eq_true e;subst this;rw [r.1,r'.1];exact⟨rfl,rfl⟩
  | _=>cases e
 | .str a => λt' v v' c c' e r r' _ _ => by
  cases t' with
  | str a'=>have:=of_decide_eq_true e;subst this;rw [r.1,r'.1];exact⟨rfl,rfl⟩
  | _=>cases e
 | .bl a => λt' v v' c c' e r r' _ _ => by
  cases t' with
  | bl a'=>have:=of_decide_eq_true e;subst this;rw [r.1,r'.1];exact⟨rfl,rfl⟩
  | _=>cases e
 | .non => λt' v v' c c' e r r' _ _ => by
  cases t' with
  | non=>rw [r.1,r'.1];exact⟨rfl,rfl⟩
  | _=>cases e
 | .hole => λt' v v' c c' e _ _ _ _ => by cases t' <;> cases e
 | .ty _ => λt' v v' c c' e _ _ _ _ => by cases t' <;> cases e
 | .cl _ => λt' v v' c c' e _ _ _ _ => by cases t' <;> cases e
 | .exc _ => λt' v v' c c' e _ _ _ _ => by cases t' <;> cases e
 | .dic _ _ => λt' v v' c c' e _ _ _ _ => by cases t' <;> cases e
 | .ins _ _ _ => λt' v v' c c' e _ _ _ _ => by cases t' <;> cases e
theorem smTs_eq (sf:Same F H) (sb:∀ k,Same (B k) H):∀ (ts ts':List Tr) (vs vs':List V) (c c':Cs) (n:Nat),smTs ts ts'=true->Rs K F B ts vs c->Rs K F B ts' vs' c'->Cells F H c->Cells F H c'->deps ts<=n->All2 (EqT K H n) vs vs'
 | [] => λts' vs vs' c c' n e r r' _ _ _ => by
  cases ts' with
  | nil=>rw [r.1,r'.1];exact True.intro
  | cons _ _=>cases e
 | x :: xs => λts' vs vs' c c' n e r r' hc hc' hn => by
  cases ts' with
  | nil=>cases e
  | cons y ys=>
   obtain⟨v,q,c1,d1,h1,h2,h3,h4⟩:=r
   obtain⟨v',q',c2,d2,g1,g2,g3,g4⟩:=r'
   rw [h2] at hc
   rw [g2] at hc'
   rw [h1,g1]
   unfold smTs at e
   rw [Bool.and_eq_true] at e
   unfold deps at hn
   exact⟨o'w (n'B sf sb x y v v' c1 c2 e.1 h3 g3 hc.left hc'.left) (by omega),smTs_eq sf sb xs ys q q' d1 d2 n e.2 h4 g4 hc.right hc'.right (by omega)⟩
end
end
section
variable {X:Cx}
end
theorem v'm (q:Rat):smT (Enc.t q) (Enc.t q)=true:=by show (decide _ && (decide _ && true))=true;rw [decide_eq_true rfl,decide_eq_true rfl];rfl
end Pu
namespace Pu
open PySem L2 Vc Sf
section
variable {X:Cx}
def stW (a b:Str):Bool:=decide (0+b.length<=a.length) && Builtin.Str.subAt a b 0
end
def wTx (x:Tr) (R:Str->Prop):Prop:=match x with | .str a=>R a | _=>False
def pTm (pr:Str->Str->(Tr->Prop)->Prop) (pd py:PE'):PE':=λρ Q=>pd ρ λx=>wTx x λa=>py ρ λy=>wTx y λb=>pr a b Q
theorem n'C {x:Tr} {R:Str->Prop} (h:wTx x R):∃ a,x=.str a/\R a:=by
 unfold wTx at h
 split at h
 ·exact⟨_,rfl,h⟩
 ·exact h.elim
def wStarts (a b:Str) (Q:Tr->Prop):Prop:=Q (.bl (stW a b))
def wSplit (a b:Str) (Q:Tr->Prop):Prop:=(b.length == 0)=false/\a.length<=1000000/\(Txt.split a b).length<=1000000/\Q (.lst .o ((Txt.split a b).map Tr.str))
section
variable {K:W.Frag} {k:Md}
theorem j'H {F:Hp} {B:Bool->Hp}:∀ ps:List Str,Rs K F B (ps.map Tr.str) (ps.map V.str) []
 | [] => ⟨rfl, rfl⟩
 | p :: ps => ⟨_, _, [], [], rfl, rfl, ⟨rfl, rfl⟩, j'H ps⟩
end
section
variable {X:Cx} {k:Md}
end
def signs (x:Str):List Tr:=x.cps.toList.map λc=>.str ⟨#[c]⟩
def piS (pe:PE'):PI':=λρ Q=>pe ρ λt=>wTx t λx=>Q (signs x) true
section
variable {K:W.Frag} {k:Md} {F:Hp} {B:Bool->Hp}
end
section
variable {X:Cx} {k:Md}
end
def hasS (b a:Str):Bool:=!(Builtin.Str.occurrences b a 0 b.length 1).isEmpty
def wInS (neg:Bool) (x y:Tr) (Q:Tr->Prop):Prop:=wTx x λa=>wTx y λb=>Q (.bl (if neg=true then !hasS b a else hasS b a))
def wIntT (ts:List Tr) (Q:Tr->Prop):Prop:=match ts with
 | [.str x] => ∃ n, intText? x = some n /\ x.length <= 640 /\ Q (.int n)
 | _ => False
def SimJ (K:W.Frag) (k:Md) (tj:Str->TE) (pj:Str->PE'):Prop:=∀ out,Sim K k (tj out) (pj out)
def pjN:Str->PE':=λout _ Q=>out.length<=1000000/\Q (.str out)
def pjT (x:Str) (p:Str->PE'):Str->PE':=λout ρ Q=>(out++x).length<=1000000/\p (out++x) ρ Q
def pjV (pe:PE') (p:Str->PE'):Str->PE':=λout ρ Q=>pe ρ λt=>wTx t λy=>y.length<=1000000/\(out++y).length<=1000000/\p (out++y) ρ Q
def pFs (p:Str->PE'):PE':=p Str.empty
section
variable {K:W.Frag} {k:Md}
theorem e'J {n:Nat} (h:n<=1000000):n<=sizeLine:=by rw [sizeLine_eq];omega
theorem v'n:SimJ K k jNil pjN:=λout F B H σ ρ Q Q' c p q=>⟨e'J p.1,q _ _ F H [] p.2 (Out.same c.s ⟨rfl,rfl⟩)⟩
theorem v'o {x:Str} {t:Str->TE} {p:Str->PE'} (h:SimJ K k t p):SimJ K k (jTxt x t) (pjT x p):=λout F B H σ ρ Q Q' c pp q=>⟨e'J pp.1,h _ F B H σ ρ Q Q' c pp.2 q⟩
theorem v'p {te:TE} {pe:PE'} {t:Str->TE} {p:Str->PE'} (he:Sim K k te pe) (h:SimJ K k t p):SimJ K k (jVal te t) (pjV pe p):=λout F B H σ ρ Q Q' c pp q=>by
 refine he F B H σ ρ _ _ c pp λt v F1 H1 c1 p1 o1=>?_
 obtain⟨y,rfl,h1,h2,p1⟩:=n'C p1
 exact⟨y,o1.r.1,e'J h1,e'J h2,h _ F1 B H1 σ ρ Q Q' (c.gr o1.g) p1 λt v F2 H2 c2 qt o2=>q t v F2 H2 c2 qt ⟨o1.g.trans' o2.g,o2.r,o2.c,λp m=>o1.g.h.free (o2.n p m)⟩⟩
end
structure QJ (X:Cx) (k:Md) (es:List Expr) (pj:Str->PE'):Prop where
 h:∃ tj,PJ X es tj/\SimJ X.K k tj pj
section
variable {X:Cx} {k:Md}
theorem v'q:QJ X k [] pjN:=⟨_,u'p,v'n⟩
theorem v'r {x:Str} {j:Nat} {pos:Pos} {es:List Expr} {p:Str->PE'} (h:QJ X k es p):QJ X k (.Constant (.str x) j pos :: es) (pjT x p):=by
 obtain⟨t,h1,h2⟩:=h.h
 exact⟨_,u'q h1,v'o h2⟩
theorem n'D {e:Expr} {pos:Pos} {es:List Expr} {pe:PE'} {p:Str->PE'} (he:QE X k e pe) (h:QJ X k es p):QJ X k (.FormattedValue e (-1) none pos :: es) (pjV pe p):=by
 obtain⟨t,h1,h2⟩:=h.h
 obtain⟨te,g1,g2⟩:=he.h
 exact⟨_,u'r g1 h1,v'p g2 h2⟩
theorem v's {a b:Expr} {es:List Expr} {pos:Pos} {p:Str->PE'} (h:QJ X k (a :: b :: es) p):QE X k (.JoinedStr (a :: b :: es) pos) (pFs p):=by
 obtain⟨t,h1,h2⟩:=h.h
 exact⟨_,r'Y h1,h2 _⟩
end
theorem d'D {X:Cx} {k:Md} {x:Str} {n:String} {pos:Pos} (hg:Gl X x) (hm:X.mg x=none) (hv:bootBuiltins x=some (.type n)) (hn:x≠"__name__":=by decide) (hd:(x == ("__debug__":Str))=false:=by decide):QE X k (.Name x pos) (pC (.ty n)):=⟨_,r's (v:=.ty n) hg hm hv rfl hn hd,e'B λ_ _=>⟨rfl,rfl⟩⟩
end Pu
namespace Pu
open PySem L2 Vc Sf
theorem q'Z (pr:Str->Str->(Tr->Prop)->Prop) (pd py:PE') (ρ:List Tr) (Q:Tr->Prop):pTm pr pd py ρ Q=(pd ρ λx=>wTx x λa=>py ρ λy=>wTx y λb=>pr a b Q):=rfl
theorem v't (a:Str) (R:Str->Prop):wTx (.str a) R=R a:=rfl
theorem n'E (x:Str):signs x=x.cps.toList.map λc=>.str ⟨#[c]⟩:=rfl
theorem r'a (pe:PE') (ρ:List Tr) (Q:List Tr->Bool->Prop):piS pe ρ Q=(pe ρ λt=>wTx t λx=>Q (signs x) true):=rfl
theorem r'b (p:Str->PE') (ρ:List Tr) (Q:Tr->Prop):pFs p ρ Q=p Str.empty ρ Q:=rfl
theorem r'c (out:Str) (ρ:List Tr) (Q:Tr->Prop):pjN out ρ Q=(out.length<=1000000/\Q (.str out)):=rfl
theorem r'd (x:Str) (p:Str->PE') (out:Str) (ρ:List Tr) (Q:Tr->Prop):pjT x p out ρ Q=((out++x).length<=1000000/\p (out++x) ρ Q):=rfl
theorem r'e (pe:PE') (p:Str->PE') (out:Str) (ρ:List Tr) (Q:Tr->Prop):pjV pe p out ρ Q=(pe ρ λt=>wTx t λy=>y.length<=1000000/\(out++y).length<=1000000/\p (out++y) ρ Q):=rfl
theorem h'C (a b:Str) (Q:Tr->Prop):wStarts a b Q=Q (.bl (stW a b)):=rfl
theorem j'I (a b:Str) (Q:Tr->Prop):wSplit a b Q=((b.length == 0)=false/\a.length<=1000000/\(Txt.split a b).length<=1000000/\Q (.lst .o ((Txt.split a b).map (Enc.t (α:=Str))))):=rfl
theorem r'f (neg:Bool) (a b:Str) (Q:Tr->Prop):wInS neg (.str a) (.str b) Q=Q (.bl (if neg=true then !hasS b a else hasS b a)):=rfl
theorem n'F (x:Str) (Q:Tr->Prop):wIntT [.str x] Q=(∃ n,intText? x=some n/\x.length<=640/\Q (.int n)):=rfl
end Pu
namespace L2
open PySem PySem.Spec PyProof.Rows
def tMth (D:Addr->Nat->Prop) (m:Str) (sp:Nat->Sp) (R:St->XK) (ta:TE) (t:TA):TE:=λσ H Q=>ta σ H λx H1=>∃ a C dx fs g,x=.ref a/\Rd H1 a (.ins C dx fs)/\D C g/\fs.lookup m=none/\t σ H1 λvs H2=>sp g (x :: vs) H2 Q (R σ)
section
variable {X:Cx} {CX:CXT} {k:Nat} {m:Str} {ps:List Str} {pos apos:Pos} {o e:Expr} {es:List Expr} {ta:TE} {t:TA} {D:Addr->Nat->Prop} {sp:Nat->Sp} {R:St->XK}
theorem s'Z {pl:Sem Bool} (he:PE X o ta) (hD:∀ C g,D C g->MOkA X.prog X.w X.K X.mg X.base CX k m C ps (sp g)) (hr:Room k X.A) (hx:∀ σ,PassAt CX X σ (R σ))
  (ht:eval (.Call (.Attribute o m apos) [] [] pos) X.env=(do
   let ov <- eval o X.env
   standAt apos.atName
   let (f,first) <- holding [ov] (getMethod ov m pl)
   callWith pos f first (backTo pos (starEach [] X.env)) (backToKw pos (keywordEach [] X.env))):=by rfl) :
  PE X (.Call (.Attribute o m apos) [] [] pos) (tMth D m sp R ta tNil):=by
 intro pins s σ H Q I h
 refine W.methodCall_KW (pl:=pl) (thn (he pins s σ H _ I h) λu s1 ⟨x,H1,I1,rx,a,C,dx,fs,g,ex,ea,d,l,q⟩=>?_) ht
 subst ex
 obtain rfl:u=Value.ref a:=rx
 obtain⟨c,f,fd,hm,F,hb⟩:=hD C g d
 obtain⟨mA,O,r⟩:=g'Z I1.hok ea
 have hn:mA m=none:=RelO.none_of (by rw [<- l];exact r m)
 refine o'i I1.kIn O (c.get m) hm.at_ hm.fn hn ?_
 exact W.callWith_K0 (first:=[.ref a]) I1.kIn hm.kp (i'z (us:=[.ref a]) (vs:=[.ref a]) F hr hb .nil (hx σ) I1 (.cons rfl .nil) (by rw [List.append_nil];exact q))
theorem k'Q {E:XK} (h:Passes CX X E):∀ σ,PassAt CX X σ E:=λσ pins H s e s' I c=>h pins σ H s e s' I c
end
end L2
namespace Pu
open PySem L2 Vc Sf
section
variable {K:W.Frag} {k:Md} {F F' H H' F1 H1:Hp} {B:Bool->Hp}
theorem n'G:∀ (ts:List Tr) (i:Nat),(dns ts)[i]?=ts[i]?.map dn
 | [], _ => rfl
 | _ :: _, 0 => rfl
 | _ :: xs, i + 1 => n'G xs i
theorem e'd {lo n:Nat} {z:Bool} {psp:PSpX} {ts:List Tr} {vs:List V} {c1:Cs} {E:XK} {q':Value->Prop} {Q'':Tr->List Tr->Prop} {Q:VK} (hk:z=true->Fz S0 F) (hn:(dns ts).length=n) (bB:∀ k,Same (B k) H) (o1:OutA K F B H F1 H1 ts vs c1) (hE:∀ cls F' H',q' cls->Gr F H F' H'->E cls none H') (p1:psp (dns ts) Q'' q')
  (post:∀ F' H' σ' ρ' cs' v t c,Gr F H F' H'->(∀ c,New (hdn (c1.map (·.1)) H1) c->New H c)->Wld K ⟨z,λ_=>E,q'⟩ lo vs F1 (hdn (c1.map (·.1)) H1) F' H' σ' ρ' cs'->R K F' (λ_=>hdn (c1.map (·.1)) H1) t v c->Cells F' H' c->New H c->(∀ i,∀ p∈cs' i,∀ q∈c,p.1≠q.1)->nol t=true->Q'' t ρ'->Q v H'):spX K z lo n psp vs H1 Q E:=by
 obtain⟨cs,a1,a2,a3,a4⟩:=o1.r.split o1.c
 have hl:vs.length=n:=by rw [o1.r.length,<- hn,a'U]
 have hb:∀ k,Same (B k) (hdn (c1.map (·.1)) H1):=λk a o e=>c'Y (d'r o1.n (bB k a o e)) (o1.g.h _ _ (bB k a o e))
 have nw:∀ c,New (hdn (c1.map (·.1)) H1) c->New H c:=λc n p m=>by
  have z:=n p m
  by_cases mc:p.1∈c1.map (·.1)
  ·obtain⟨q,mq,e⟩:=List.mem_map.mp mc
   have e:q.1=p.1:=e
   rw [<- e]
   exact o1.n q mq
  ·unfold hdn at z
   rw [if_neg mc] at z
   exact o1.g.h.free z
 refine⟨hl,F1,hdn (c1.map (·.1)) H1,dns ts,cs,_,q',⟨⟨g'Y o1.g.s,Fz.refl F1⟩,λh=>o1.g.fz (hk h),by rw [List.length_map,a'U,o1.r.length],?_,a3,λi p m=>c'Z (a2 i p m),a4,λi _=>by rw [List.getElem?_map],λcls _ F' H' h g=>hE cls F' H' h (o1.g.hdn o1.n g)⟩,p1,?_⟩
 ·intro i t h
  rw [n'G] at h
  cases z:ts[i]? with
  | none=>rw [z] at h;cases h
  | some u=>
   rw [z] at h
   cases h
   obtain⟨v,b1,b2⟩:=a1 i u z
   exact .inr ⟨v,by rw [List.getElem?_map,b1];rfl,b2.dn (λk=>Le.of (hb k)) u⟩
 ·intro F' H' σ' ρ' cs' v t c' W r hc n dj nl qt
  exact post F' H' σ' ρ' cs' v t c' (o1.g.hdn o1.n W.g) nw W r hc (nw _ n) dj nl qt
theorem n'H {n:Nat} {z:Bool} {psp:PSpX} {ts:List Tr} {vs:List V} {c1:Cs} {E:XK} {q':Value->Prop} {Q':Tr->Prop} {Q:VK} (hk:z=true->Fz S0 F) (hn:(dns ts).length=n) (bB:∀ k,Same (B k) H) (o1:OutA K F B H F1 H1 ts vs c1) (hE:∀ cls F' H',q' cls->Gr F H F' H'->E cls none H') (p1:psp (dns ts) (λt _=>Q' t) q') (q:∀ t v F' H' cs,Q' t->Out K F B H F' H' t v cs->Q v H'):spX K z 0 n psp vs H1 Q E:=
 e'd hk hn bB o1 hE p1 λF' H' _ _ _ v t c g _ _ r hc n _ nl qt=>q t v F' H' c qt ⟨g,r.base t nl,hc,n⟩
theorem OutA.cons {F2 H2:Hp} {t:Tr} {v:V} {c:Cs} {ts:List Tr} {vs:List V} {d:Cs} (o:Out K F B H F1 H1 t v c) (a:OutA K F1 B H1 F2 H2 ts vs d):OutA K F B H F2 H2 (t :: ts) (v :: vs) (c++d) where
 g:=o.g.trans' a.g
 r:=⟨v,vs,c,d,rfl,rfl,o.r.mo a.g.le (λ_=>Le.refl _) t,a.r⟩
 c:=(o.c.gr a.g).app a.c λp mp q mq e=>by
  have:=o.c.h p mp
  rw [e,a.n q mq] at this
  cases this
 n:=λp m=>(List.mem_append.mp m).elim (o.n p) λm=>o.g.h.free (a.n p m)
def wIns (D:Addr->Nat->Prop) (m:Str) (x:Tr) (Q:Nat->Prop):Prop:=match x with | .ins _ c fs=>∃ g,D c g/\fs.lookup m=none/\Q g | _=>False
theorem t'a {D:Addr->Nat->Prop} {m:Str} {x:Tr} {Q:Nat->Prop} (h:wIns D m x Q):∃ f c fs g,x=.ins f c fs/\D c g/\fs.lookup m=none/\Q g:=by
 unfold wIns at h
 split at h
 ·obtain⟨g,h⟩:=h
  exact⟨_,_,_,g,rfl,h⟩
 ·exact h.elim
def pMthX (q:Value->Prop) (D:Addr->Nat->Prop) (m:Str) (psp:Nat->PSpX) (po:PE') (pa:PA'):PE':=λρ Q=>po ρ λx=>wIns D m x λc=>pa ρ λts=>psp c (dns (x :: ts)) (λt _=>Q t) q
def pMth (D:Addr->Nat->Prop) (m:Str) (psp:Nat->PSp) (po:PE') (pa:PA'):PE':=λρ Q=>po ρ λx=>wIns D m x λc=>pa ρ λts=>psp c (dns (x :: ts)) (λt _=>Q t)
theorem Rf.none_of:∀ {fs:List (Str×Tr)} {vs:List (Str×V)} {ds:Cs} {f:Str},Rf K F B fs vs ds->fs.lookup f=none->vs.lookup f=none
 | [], _, _, _, ⟨h, _⟩, _ => by rw [h]; rfl
 | (g, y) :: fs, _, _, f, ⟨v, r, c, d, h1, h2, h3, h4⟩, h => by
  rw [h1]
  rw [List.lookup_cons] at h ⊢
  cases e:f == g with
  | true=>rw [e] at h;cases h
  | false=>rw [e] at h;exact Rf.none_of h4 h
theorem p'o {D:Addr->Nat->Prop} {m:Str} {n:Nat} {z:Bool} {psp:Nat->PSpX} {te:TE} {po:PE'} {ta:TA} {pa:PA'} {R':St->XK} {q':Value->Prop} (hE:∀ (F:Hp) (B:Bool->Hp) (H:Hp) (σ:St) (ρ:List Tr),Cxt K k F B H σ ρ->∀ cls F' H',q' cls->Gr F H F' H'->R' σ cls none H') (hk:z=true->k.z=true) (hn:∀ C xs Q q,psp C xs Q q->xs.length=n) (h:Sim K k te po) (ha:SimA K k ta pa):Sim K k (tMth D m (λC=>spX K z 0 n (psp C)) R' te ta) (pMthX q' D m psp po pa):=λF B H σ ρ Q Q' c p q=>by
 refine h F B H σ ρ _ _ c p λx v F1 H1 c1 p1 o1=>?_
 obtain⟨f,C,fs,g,rfl,hD,hl,p1⟩:=t'a p1
 obtain⟨a,dx,vs,ds,rfl,h1,h2,_⟩:=o1.r.insH o1.g.s (λk=>(c.b k).trans o1.g.h) o1.c
 refine⟨a,C,dx,vs,g,rfl,h1,hD,h2.none_of hl,ha F1 B H1 σ ρ _ _ (c.gr o1.g) p1 λts us F2 H2 c2 p2 o2=>?_⟩
 exact n'H (λh=>c.z (hk h)) (hn _ _ _ _ p2) c.b (OutA.cons o1 o2) (λcls F' H' hq g=>hE F B H σ ρ c cls F' H' hq g) p2 q
theorem t'b {D:Addr->Nat->Prop} {m:Str} {n:Nat} {z:Bool} {psp:Nat->PSp} {te:TE} {po:PE'} {ta:TA} {pa:PA'} {E:XK} (hk:z=true->k.z=true) (hn:∀ C xs Q,psp C xs Q->xs.length=n) (h:Sim K k te po) (ha:SimA K k ta pa):Sim K k (tMth D m (λC=>spP K z 0 n (psp C)) (λ_=>E) te ta) (pMth D m psp po pa):=
 p'o (R':=λ_=>E) (q':=λ_=>False) (psp:=λC xs Q _=>psp C xs Q) (λ_ _ _ _ _ _ _ _ _ h=>h.elim) hk (λC xs Q _=>hn C xs Q) h ha
def wNew (o:Option Tr) (Q:Tr->Prop):Prop:=match o with | some (.ins f c fs)=>nol (.ins f c fs)=true/\Q (.ins f c fs) | _=>False
theorem t'c {o:Option Tr} {Q:Tr->Prop} (h:wNew o Q):∃ f c fs,o=some (.ins f c fs)/\nol (.ins f c fs)=true/\Q (.ins f c fs):=by
 unfold wNew at h
 split at h
 ·exact⟨_,_,_,rfl,h⟩
 ·exact h.elim
def pMakeX (q:Value->Prop) (C:Addr) (psp:PSpX) (pa:PA'):PE':=λρ Q=>pa ρ λts=>psp (dns (.ins .o C [] :: ts)) (λt ρ'=>t=.non/\wNew ρ'[0]? Q) q
def pMake (C:Addr) (psp:PSp) (pa:PA'):PE':=λρ Q=>pa ρ λts=>psp (dns (.ins .o C [] :: ts)) λt ρ'=>t=.non/\wNew ρ'[0]? Q
theorem t'd {C x dx:Addr} {ts:List Tr} {vs:List V} {c1:Cs} (o1:OutA K F B H F1 H1 ts vs c1) (hx:H1 x=none) (hd:H1 dx=none) (ne:dx≠x):∃ F2,OutA K F B H F2 (upd (upd H1 dx (.own x)) x (.ins C dx [])) (.ins .o C [] :: ts) (.ref x :: vs) ((x,.ins C dx []) :: c1):=by
 obtain⟨F2,g2,_⟩:=al2 (o:=.own x) o1.g.s (by intro _ _ z;cases z) hd
 have hx2:upd H1 dx (.own x) x=none:=by rw [a'f (Ne.symm ne)];exact hx
 have g3:Gr F2 (upd H1 dx (.own x)) F2 (upd (upd H1 dx (.own x)) x (.ins C dx [])):=Gr.own1 g2.s hx2
 have g:=g2.trans' g3
 refine⟨F2,o1.g.trans' g,⟨.ref x,vs,[(x,.ins C dx [])],c1,rfl,rfl,⟨x,dx,[],[],rfl,rfl,rfl,rfl⟩,o1.r.mo g.le (λ_=>Le.refl _) ts⟩,c'm g2.s (o1.c.gr g2) hx2,λp m=>?_⟩
 cases m with
 | head => exact o1.g.h.free hx
 | tail _ m => exact o1.n p m
theorem n'I {C:Addr} {n:Nat} {z:Bool} {psp:PSpX} {ta:TA} {pa:PA'} {R':St->XK} {q':Value->Prop} (hE:∀ (F:Hp) (B:Bool->Hp) (H:Hp) (σ:St) (ρ:List Tr),Cxt K k F B H σ ρ->∀ cls F' H',q' cls->Gr F H F' H'->R' σ cls none H') (hk:z=true->k.z=true) (hn:∀ xs Q q,psp xs Q q->xs.length=n) (ha:SimA K k ta pa):Sim K k (tMakeX C (spX K z 1 n psp) [] R' ta) (pMakeX q' C psp pa):=λF B H σ ρ Q Q' c p q=>by
 refine ha F B H σ ρ _ _ c p λts vs F1 H1 c1 p1 o1 x dx hx hd ne=>?_
 rw [List.append_nil]
 obtain⟨F2,o2⟩:=t'd (C:=C) o1 hx hd ne
 refine e'd (λh=>c.z (hk h)) (hn _ _ _ p1) c.b o2 (λcls F' H' hq g=>hE F B H σ ρ c cls F' H' hq g) p1 λF' H' σ' ρ' cs' v t c' g nw W r hc n dj nl qt=>?_
 obtain⟨rfl,qt⟩:=qt
 obtain⟨f,c,fs,e1,e2,e3⟩:=t'c qt
 refine⟨r.1,?_⟩
 rcases W.e 0 _ e1 with z | ⟨u,h1,h2⟩
 ·cases z
 ·have:=W.p 0 Nat.zero_lt_one
  rw [h1] at this
  cases this
  exact q _ _ F' H' (cs' 0) e3 ⟨g,h2.base _ e2,W.c 0,nw _ (W.n 0)⟩
theorem p'p {C:Addr} {n:Nat} {z:Bool} {psp:PSp} {ta:TA} {pa:PA'} {E:XK} (hk:z=true->k.z=true) (hn:∀ xs Q,psp xs Q->xs.length=n) (ha:SimA K k ta pa):Sim K k (tMakeX C (spP K z 1 n psp) [] (λ_=>E) ta) (pMake C psp pa):=
 n'I (R':=λ_=>E) (q':=λ_=>False) (psp:=λxs Q _=>psp xs Q) (λ_ _ _ _ _ _ _ _ _ h=>h.elim) hk (λxs Q _=>hn xs Q) ha
end
section
variable {X:Cx} {k:Md} {pos apos:Pos} {o e:Expr} {es:List Expr} {po:PE'} {pa:PA'} {m:Str} {ps:List Str} {km n:Nat} {z:Bool}
theorem a'S {D:Addr->Nat->Prop} {psp:Nat->PSp} (hD:∀ C g,D C g->MOkA X.prog X.w X.K X.mg X.base CX0 km m C ps (spP X.K z 0 n (psp g))) (hk:z=true->k.z=true) (hn:∀ C xs Q,psp C xs Q->xs.length=n) (hr:Room km X.A) (ho:QE X k o po) {pl:Sem Bool}
  (ht:eval (.Call (.Attribute o m apos) [] [] pos) X.env=(do
   let ov <- eval o X.env
   standAt apos.atName
   let (f,first) <- holding [ov] (getMethod ov m pl)
   callWith pos f first (backTo pos (starEach [] X.env)) (backToKw pos (keywordEach [] X.env))):=by rfl):QE X k (.Call (.Attribute o m apos) [] [] pos) (pMth D m psp po pNil):=by
 obtain⟨te,h1,h2⟩:=ho.h
 exact⟨_,s'Z (R:=λ_=>E0) h1 hD hr (k'Q g'q) ht,t'b hk hn h2 i'D⟩
section
variable {C f:Addr} {fd:FuncData} {x:Str} {p:Pos}
theorem d'c {psp:PSp} (M:Mk X.K C f) (G:FnOk X.prog X.w X.K X.mg X.base CX0 km f fd ps (spP X.K z 1 n psp)) (hk:z=true->k.z=true) (hn:∀ xs Q,psp xs Q->xs.length=n) (hr:Room (km+1) X.A) (hg:Gl X x) (hm:X.mg x=some (.ref C)) (hb:Binds X.K fd ps []) (ha:QA X k (e :: es) pa) (hdb:(x == ("__debug__":Str))=false:=by decide) (he:starEach (e :: es) X.env=(false,eval e X.env) :: starEach es X.env:=by rfl) (hpl:(backTo pos (starEach es X.env)).any (·.1)=false:=by rfl) :
  QE X k (.Call (.Name x p) (e :: es) [] pos) (pMake C psp pa):=by
 obtain⟨ta,g1,g2⟩:=ha.h
 exact⟨_,o'M (R:=λ_=>E0) M G hr hg hm hb .nil (k'Q g'q) g1 hdb he hpl,p'p hk hn g2⟩
end
end
end Pu
namespace Pu
open PySem L2 Vc Sf
abbrev PL':=List Tr->(Tr->List Tr->Prop)->Prop
abbrev PLA':=List Tr->(List Tr->List Tr->Prop)->Prop
structure OutL (K:PySem.W.Frag) (k:Md) (lo:Nat) (us:List V) (Fb Hb F F' H':Hp) (σ:St) (ρ:List Tr) (cs:Nat->Cs) (t:Tr) (v:V) (e:Cs):Prop where
 l:Le F F'
 W:Wld K k lo us Fb Hb F' H' σ ρ cs
 r:R K F' (λ_=>Hb) t v e
 c:Cells F' H' e
 n:New Hb e
 d:∀ i,∀ p∈cs i,∀ q∈e,p.1≠q.1
def SimL (K:W.Frag) (k:Md) (lo:Nat) (te:TE) (pl:PL'):Prop:=∀ (us:List V) (Fb Hb F H:Hp) (σ:St) (ρ:List Tr) (cs:Nat->Cs) (Q:VK) (Q':Tr->List Tr->Prop),Wld K k lo us Fb Hb F H σ ρ cs->pl ρ Q'->
 (∀ t v F' H' ρ' cs' c,OutL K k lo us Fb Hb F F' H' σ ρ' cs' t v c->Q' t ρ'->Q v H')->te σ H Q
def SimLA (K:W.Frag) (k:Md) (lo:Nat) (ta:TA) (pa:PLA'):Prop:=∀ (us:List V) (Fb Hb F H:Hp) (σ:St) (ρ:List Tr) (cs:Nat->Cs) (Q:List V->Hp->Prop) (Q':List Tr->List Tr->Prop),Wld K k lo us Fb Hb F H σ ρ cs->pa ρ Q'->
 (∀ ts vs F' H' ρ' cs',Le F F'->Wld K k lo us Fb Hb F' H' σ ρ' cs'->Rs K F' (λ_=>Hb) ts vs []->Q' ts ρ'->Q vs H')->ta σ H Q
section
variable {K:W.Frag} {k:Md} {lo:Nat} {us:List V} {Fb Hb F H F' H' F1 H1:Hp} {σ:St} {ρ:List Tr} {cs:Nat->Cs} {te tf:TE} {pe:PE'} {pl:PL'} {ta:TA} {pa:PA'} {pla:PLA'}
theorem OutL.held {t:Tr} {v:V} {c:Cs} (o:OutL K k lo us Fb Hb F F' H' σ ρ cs t v c):∃ F2,Le F F2/\Wld K k lo us Fb Hb F2 H' σ ρ cs/\R K F2 (λ_=>Hb) (frz t) v []:=by
 obtain⟨F2,W2,s2,e2⟩:=o.W.lay o.c o.n (o.r.plain t) o.d
 exact⟨F2,o.l.trans (Le.of s2),W2,o.r.frz (Le.of s2) t e2⟩
def plQ (pe:PE'):PL':=λρ Q=>pe (ρ.map lend) λt=>nlt t=true/\Q t ρ
theorem v'u (h:Sim K k te pe):SimL K k lo te (plQ pe):=λus Fb Hb F H σ ρ cs Q Q' W p q=>by
 refine h F (Bq Hb H) H σ _ _ _ W.cxt p λt v F1 H1 c1 q1 o=>?_
 obtain⟨n1,d1⟩:=W.fresh o
 exact q t v F1 H1 ρ cs c1 ⟨o.g.le,W.gr o.g,R.low (B':=λ_=>Hb) t q1.1 rfl o.r,o.c,n1,d1⟩ q1.2
def plNil:PLA':=λρ Q=>Q [] ρ
def plCons (pl:PL') (pa:PLA'):PLA':=λρ Q=>pl ρ λt ρ1=>pa ρ1 λts ρ2=>Q (frz t :: ts) ρ2
theorem p'q:SimLA K k lo tNil plNil:=λus Fb Hb F H σ ρ cs Q Q' W p q=>q [] [] F H ρ cs (Le.refl F) W ⟨rfl,rfl⟩ p
theorem n'J (h:SimL K k lo te pl) (h':SimLA K k lo ta pla):SimLA K k lo (tCons te ta) (plCons pl pla):=λus Fb Hb F H σ ρ cs Q Q' W p q=>by
 refine h us Fb Hb F H σ ρ cs _ _ W p λt v F1 H1 ρ1 cs1 c1 o p1=>?_
 obtain⟨F2,l2,W2,r2⟩:=o.held
 refine h' us Fb Hb F2 H1 σ ρ1 cs1 _ _ W2 p1 λts vs F3 H3 ρ3 cs3 l3 W3 r3 p3=>?_
 exact q (frz t :: ts) _ F3 H3 ρ3 cs3 (l2.trans l3) W3 ⟨v,vs,[],[],rfl,rfl,r2.mo l3 (λ_=>Le.refl _) _,r3⟩ p3
theorem Wld.outL {t:Tr} {v:V} {c:Cs} (W:Wld K k lo us Fb Hb F1 H1 σ ρ cs) (l:Le F F1) (o:Out K F1 (λ_=>Hb) H1 F' H' t v c):OutL K k lo us Fb Hb F F' H' σ ρ cs t v c:=by
 obtain⟨n1,d1⟩:=W.fresh o
 exact⟨l.trans o.g.le,W.gr o.g,o.r,o.c,n1,d1⟩
def plCallX (q:Value->Prop) (psp:PSpX) (pa:PLA'):PL':=λρ Q=>pa ρ λts ρ1=>psp (dns ts) (λt _=>Q t ρ1) q
def plMakeX (q:Value->Prop) (C:Addr) (psp:PSpX) (pa:PLA'):PL':=λρ Q=>pa ρ λts ρ1=>psp (dns (.ins .o C [] :: ts)) (λt ρ'=>t=.non/\wNew ρ'[0]? λx=>Q x ρ1) q
def plTup (pa:PLA'):PL':=λρ Q=>pa ρ λts ρ1=>ts.length<=10000/\Q (.tup ts) ρ1
theorem p'r (h:SimLA K k lo ta pla):SimL K k lo (tTup ta) (plTup pla):=λus Fb Hb F H σ ρ cs Q Q' W p q=>by
 refine h us Fb Hb F H σ ρ cs _ _ W p λts vs F1 H1 ρ1 cs1 l1 W1 r1 p1=>⟨by rw [r1.length];exact b'u (Nat.le_trans p1.1 (by decide)),λa ha=>?_⟩
 obtain⟨F2,g,r,c2⟩:=d'q W1.g.s r1 .nil ha
 exact q _ _ F2 _ ρ1 cs1 [] (W1.outL l1 ⟨g,r,c2,.nil⟩) p1.2
def pl2 (pr:Tr->Tr->(Tr->Prop)->Prop) (pa:PL') (pb:PL'):PL':=λρ Q=>pa ρ λx ρ1=>pb ρ1 λy ρ2=>pr (frz x) y λt=>Q t ρ2
def pAsgL (i:Nat) (pl:PL'):PS':=λD ρ=>pl ρ λt ρ1=>D.nx (ρ1.set i t)
def pAsgLF (i:Nat) (pl:PL'):PS':=λD ρ=>pl ρ λt ρ1=>D.nx (ρ1.set i (frz t))
theorem n'K {i:Nat} (hi:lo<=i) (h:SimL K k lo te pl):SimS K k lo (tAsg te (gName i)) (pAsgLF i pl):=λus Fb Hb F H σ ρ cs D D' W p L=>by
 refine h us Fb Hb F H σ ρ cs _ _ W p λt v F1 H1 ρ1 cs1 c1 o p1=>?_
 obtain⟨F2,l2,W2,r2⟩:=o.held
 exact L.nx F2 H1 _ _ _ (W2.set hi r2 .nil .nil λ_ _ _ _ _ m=>nomatch m) p1
def pDropL (pl:PL'):PS':=λD ρ=>pl ρ λ_ ρ1=>D.nx ρ1
theorem n'L (h:SimL K k lo te pl):SimS K k lo (tDrop te) (pDropL pl):=λus Fb Hb F H σ ρ cs D D' W p L=>
 h us Fb Hb F H σ ρ cs _ _ W p λt v F1 H1 ρ1 cs1 c1 o p1=>L.nx F1 H1 _ _ _ o.W p1
def pRetL (pl:PL'):PS':=λD ρ=>pl ρ λt ρ1=>nol t=true/\D.rt t ρ1
theorem p's (h:SimL K k lo te pl):SimS K k lo (tRet te) (pRetL pl):=λus Fb Hb F H σ ρ cs D D' W p L=>
 h us Fb Hb F H σ ρ cs _ _ W p λt v F1 H1 ρ1 cs1 c1 o p1=>L.rt F1 H1 σ ρ1 cs1 v t c1 o.W o.r o.c o.n o.d p1.1 p1.2
def pIfL (pl:PL') (p q:PS'):PS':=λD ρ=>pl ρ λt ρ1=>wBl t λb=>if b=true then p D ρ1 else q D ρ1
end
end Pu
namespace Pu
open PySem L2 Vc Sf
section
variable {K:W.Frag} {k:Md} {lo:Nat} {us:List V} {Fb Hb F H F' H' F1 H1:Hp} {σ:St} {ρ:List Tr} {cs:Nat->Cs} {te tf:TE} {pe:PE'} {ta:TA}
def HA (K:W.Frag) (F Hb:Hp) (σ:St) (ρ:List Tr):List (Option Nat)->List Tr->List V->Prop
 | [], ts, vs => ts = [] /\ vs = []
 | none :: hs, ts, vs => ∃ t v ts' vs', ts = t :: ts' /\ vs = v :: vs' /\ R K F (λ_ => Hb) t v [] /\ HA K F Hb σ ρ hs ts' vs'
 | some i :: hs, ts, vs => ∃ t v ts' vs', ts = t :: ts' /\ vs = v :: vs' /\ ρ[i]? = some t /\ t ≠ .hole /\ σ[i]? = some (some v) /\ HA K F Hb σ ρ hs ts' vs'
def SimH (K:W.Frag) (k:Md) (lo:Nat) (hs:List (Option Nat)) (ta:TA) (ph:PA'):Prop:=∀ (us:List V) (Fb Hb F H:Hp) (σ:St) (ρ:List Tr) (cs:Nat->Cs) (Q:List V->Hp->Prop) (Q':List Tr->Prop),Wld K k lo us Fb Hb F H σ ρ cs->ph ρ Q'->
 (∀ ts vs F' H',Le F F'->Wld K k lo us Fb Hb F' H' σ ρ cs->HA K F' Hb σ ρ hs ts vs->Q' ts->Q vs H')->ta σ H Q
def phN:PA':=λ_ Q=>Q []
def phO (i:Nat) (ph:PA'):PA':=λρ Q=>pV ρ[i]? λt=>ph ρ λts=>Q (t :: ts)
def phQ (pe:PE') (ph:PA'):PA':=λρ Q=>pe (ρ.map lend) λt=>nlt t=true/\ph ρ λts=>Q (Pu.frz t :: ts)
theorem p't:SimH K k lo [] tNil phN:=λus Fb Hb F H σ ρ cs Q Q' W p q=>q [] [] F H (Le.refl F) W ⟨rfl,rfl⟩ p
theorem d'E {o:Option Tr} {Q:Tr->Prop} (h:pV o Q):∃ t,o=some t/\t≠.hole/\Q t:=by
 unfold pV at h
 split at h
 ·exact h.elim
 ·rename_i t hn
  exact⟨t,rfl,λz=>hn (by rw [z]),h⟩
 ·exact h.elim
theorem p'u {i:Nat} {hs:List (Option Nat)} {ph:PA'} (h:SimH K k lo hs ta ph):SimH K k lo (some i :: hs) (tCons (tVar i) ta) (phO i ph):=λus Fb Hb F H σ ρ cs Q Q' W p q=>by
 obtain⟨t,e1,e2,p⟩:=d'E p
 rcases W.e i t e1 with z | ⟨v,h1,h2⟩
 ·exact absurd z e2
 ·exact⟨v,h1,h us Fb Hb F H σ ρ cs _ _ W p λts vs F1 H1 l W1 a p1=>q _ _ F1 H1 l W1 ⟨t,v,ts,vs,rfl,rfl,e1,e2,h1,a⟩ p1⟩
theorem v'v {hs:List (Option Nat)} {ph:PA'} (he:Sim K k te pe) (h:SimH K k lo hs ta ph):SimH K k lo (none :: hs) (tCons te ta) (phQ pe ph):=λus Fb Hb F H σ ρ cs Q Q' W p q=>by
 refine he F (Bq Hb H) H σ _ _ _ W.cxt p λt v F1 H1 c1 q1 o=>?_
 obtain⟨F2,W2,r2,l2⟩:=W.heldLe o q1.1
 exact h us Fb Hb F2 H1 σ ρ cs _ _ W2 q1.2 λts vs F3 H3 l3 W3 a p3=>q (Pu.frz t :: ts) _ F3 H3 (l2.trans l3) W3 ⟨Pu.frz t,v,ts,vs,rfl,rfl,r2.mo l3 (λ_=>Le.refl _) _,a⟩ p3
theorem HA.rs (W:Wld K k lo us Fb Hb F H σ ρ cs):∀ {hs:List (Option Nat)} {ts:List Tr} {vs:List V},(hs.filterMap id).Nodup->HA K F Hb σ ρ hs ts vs->∃ c,Rs K F (λ_=>Hb) ts vs c/\Cells F H c/\New Hb c/\(∀ p∈c,∃ i,some i∈hs/\p∈cs i)/\∀ i,some i∈hs->∀ p∈cs i,p∈c
 | [], _, _, _, ⟨h1, h2⟩ => ⟨[], by rw [h1, h2]; exact ⟨rfl, rfl⟩, .nil, .nil, (λ_ m => nomatch m), λ_ m => nomatch m⟩
 | none :: hs, _, _, nd, ⟨t, v, ts', vs', h1, h2, h3, h4⟩ => by
  obtain⟨c,a1,a2,a3,a4,a5⟩:=HA.rs W (hs:=hs) nd h4
  refine⟨c,by rw [h1,h2];exact⟨v,vs',[],c,rfl,rfl,h3,a1⟩,a2,a3,λp m=>?_,λi m p mp=>?_⟩
  ·obtain⟨i,b1,b2⟩:=a4 p m
   exact⟨i,.tail _ b1,b2⟩
  ·cases m with
   | tail _ m=>exact a5 i m p mp
 | some i :: hs, _, _, nd, ⟨t, v, ts', vs', h1, h2, h3, h4, h5, h6⟩ => by
  have nd:(i :: hs.filterMap id).Nodup:=nd
  rw [List.nodup_cons] at nd
  obtain⟨c,a1,a2,a3,a4,a5⟩:=HA.rs W (hs:=hs) nd.2 h6
  have ni:some i ∉ hs:=λm=>nd.1 (List.mem_filterMap.mpr ⟨_,m,rfl⟩)
  have rt:R K F (λ_=>Hb) t v (cs i):=by
   rcases W.e i t h3 with z | ⟨u,g1,g2⟩
   ·exact absurd z h4
   ·rw [h5] at g1;cases g1;exact g2
  refine⟨cs i++c,by rw [h1,h2];exact⟨v,vs',cs i,c,rfl,rfl,rt,a1⟩,(W.c i).app a2 λp mp q mq=>?_,λp m=>(List.mem_append.mp m).elim (W.n i p) (a3 p),λp m=>?_,λj m p mp=>?_⟩
  ·obtain⟨j,b1,b2⟩:=a4 q mq
   exact W.d i j (λz=>ni (by rw [z];exact b1)) p mp q b2
  ·rcases List.mem_append.mp m with m | m
   ·exact⟨i,.head _,m⟩
   ·obtain⟨j,b1,b2⟩:=a4 p m
    exact⟨j,.tail _ b1,b2⟩
  ·rcases List.mem_cons.mp m with e | m
   ·cases e;exact List.mem_append.mpr (.inl mp)
   ·exact List.mem_append.mpr (.inr (a5 j m p mp))
def holes:List (Option Nat)->List Tr->List Tr
 | [], ρ => ρ
 | none :: hs, ρ => holes hs ρ
 | some i :: hs, ρ => (holes hs ρ).set i .hole
theorem c'b:∀ (hs:List (Option Nat)) (ρ:List Tr),(holes hs ρ).length=ρ.length
 | [], _ => rfl
 | none :: hs, ρ => c'b hs ρ
 | some i :: hs, ρ => by show ((holes hs ρ).set i .hole).length = _; rw [List.length_set]; exact c'b hs ρ
theorem d'd {i:Nat} {t:Tr}:∀ (hs:List (Option Nat)) (ρ:List Tr),some i ∉ hs->(holes hs ρ).set i t=holes hs (ρ.set i t)
 | [], _, _ => rfl
 | none :: hs, ρ, h => d'd hs ρ λm => h (.tail _ m)
 | some j :: hs, ρ, h => by
  show ((holes hs ρ).set j .hole).set i t=(holes hs (ρ.set i t)).set j .hole
  rw [List.set_comm _ _ (λz=>h (by rw [z];exact .head _)),d'd hs ρ λm=>h (.tail _ m)]
theorem c'H {j:Nat} {t:Tr}:∀ (hs:List (Option Nat)) (ρ:List Tr),(holes hs ρ)[j]?=some t->t=.hole\/(some j ∉ hs/\ρ[j]?=some t)
 | [], _, h => .inr ⟨(λm => nomatch m), h⟩
 | none :: hs, ρ, h => (c'H hs ρ h).imp id λ⟨a, b⟩ => ⟨λm => by cases m with | tail _ m => exact a m, b⟩
 | some i :: hs, ρ, h => by
  have h:((holes hs ρ).set i .hole)[j]?=some t:=h
  by_cases e:i=j
  ·subst e
   have hl:=(List.getElem?_eq_some_iff.mp h).1
   rw [List.length_set] at hl
   rw [List.getElem?_set_self hl] at h
   cases h
   exact .inl rfl
  ·rw [List.getElem?_set_ne e] at h
   exact (c'H hs ρ h).imp id λ⟨a,b⟩=>⟨λm=>by
    rcases List.mem_cons.mp m with z | m
    ·cases z;exact e rfl
    ·exact a m,b⟩
theorem Wld.past {hs:List (Option Nat)} {c:Cs} (W:Wld K k lo us Fb Hb F H σ ρ cs) (n:New Hb c) (c4:∀ p∈c,∃ i,some i∈hs/\p∈cs i) (g:Gr F (hdn (c.map (·.1)) H) F' H'):Wld K k lo us Fb Hb F' H' σ (holes hs ρ) (λj=>if some j∈hs then [] else cs j)/\∀ j,some j ∉ hs->∀ p∈cs j,(hdn (c.map (·.1)) H) p.1=some p.2:=by
 have gb:Gr Fb Hb F' H':=W.g.hdn n g
 have keep:∀ j,some j ∉ hs->∀ p∈cs j,(hdn (c.map (·.1)) H) p.1=some p.2:=λj hj p mp=>by
  refine c'Y (λm=>?_) ((W.c j).h p mp)
  obtain⟨q,mq,e⟩:=List.mem_map.mp m
  obtain⟨i,b1,b2⟩:=c4 q mq
  exact W.d j i (λz=>hj (by rw [z];exact b1)) p mp q b2 e.symm
 refine⟨⟨gb,λh=>g.fz (W.z h),by rw [c'b];exact W.l,λj t h=>?_,λj=>?_,λj=>?_,λa b ne p mp q mq=>?_,W.p,W.x⟩,keep⟩
 ·rcases c'H hs ρ h with z | ⟨z,e⟩
  ·exact .inl z
  ·rw [if_neg z]
   exact (W.e j t e).imp id λ⟨v,h1,h2⟩=>⟨v,h1,h2.mo g.le (λ_=>Le.refl _) t⟩
 ·split
  ·exact .nil
  ·rename_i hj
   refine⟨λp m=>g.h _ _ (keep j hj p m),λp m=>?_,(W.c j).nd⟩
   cases z:F' p.1 with
   | none=>rfl
   | some u=>
    have:=g.n p.1 u z ((W.c j).f p m)
    rw [keep j hj p m] at this
    cases this
 ·split
  ·exact .nil
  ·exact W.n j
 ·split at mp
  ·cases mp
  ·split at mq
   ·cases mq
   ·exact W.d a b ne p mp q mq
theorem Wld.fill {i:Nat} {t:Tr} {v:V} {c:Cs} (W:Wld K k lo us Fb Hb F H σ ρ cs) (hv:σ[i]?=some (some v)) (r:R K F (λ_=>Hb) t v c) (hc:Cells F H c) (n:New Hb c) (d:∀ j,j≠i->∀ p∈cs j,∀ q∈c,p.1≠q.1) :
  Wld K k lo us Fb Hb F H σ (ρ.set i t) (λj=>if j=i then c else cs j) where
 g:=W.g
 z:=W.z
 l:=by rw [List.length_set];exact W.l
 e:=λj u h=>by
  by_cases e:j=i
  ·subst e
   have hl:j<ρ.length:=by have:=(List.getElem?_eq_some_iff.mp h).1;rw [List.length_set] at this;exact this
   rw [List.getElem?_set_self hl] at h
   cases h
   exact .inr ⟨v,hv,by rw [if_pos rfl];exact r⟩
  ·rw [List.getElem?_set_ne (λz=>e z.symm)] at h
   rw [if_neg e]
   exact W.e j u h
 c:=λj=>by
  split
  ·exact hc
  ·exact W.c j
 n:=λj=>by
  split
  ·exact n
  ·exact W.n j
 d:=λa b ne p mp q mq=>by
  by_cases ea:a=i
  ·rw [if_pos ea] at mp
   rw [if_neg (λz=>ne (ea.trans z.symm))] at mq
   exact (d b (λz=>ne (ea.trans z.symm)) q mq p mp).symm
  ·rw [if_neg ea] at mp
   by_cases eb:b=i
   ·rw [if_pos eb] at mq
    exact d a ea p mp q mq
   ·rw [if_neg eb] at mq
    exact W.d a b ne p mp q mq
 p:=W.p
 x:=W.x
def wBack:List (Option Nat)->Nat->List Tr->List Tr->(List Tr->Prop)->Prop
 | [], _, _, ρ, Q => Q ρ
 | none :: hs, j, ρ', ρ, Q => wBack hs (j + 1) ρ' ρ Q
 | some i :: hs, j, ρ', ρ, Q => pV ρ'[j]? λt => nol t = true /\ wBack hs (j + 1) ρ' (ρ.set i t) Q
theorem e'e {k':Md} {lo':Nat} {vs:List V} {Hc:Hp} {σ':St} {ρ':List Tr} {cs':Nat->Cs} {G:Prop} {Q':List Tr->Prop} (W':Wld K k' lo' vs F1 Hc F' H' σ' ρ' cs') (hb:Same Hb Hc):∀ (hs:List (Option Nat)) (j:Nat) (ρ:List Tr) (cx:Nat->Cs),(hs.filterMap id).Nodup->Wld K k lo us Fb Hb F' H' σ (holes hs ρ) cx->(∀ n i,hs[n]?=some (some i)->∃ v,σ[i]?=some (some v)/\vs[j+n]?=some v)->j+hs.length<=lo'->
  (∀ i m,(i<lo\/True)->j<=m->∀ p∈cx i,∀ q∈cs' m,p.1≠q.1)->wBack hs j ρ' ρ Q'->(∀ ρ2 cs2,Wld K k lo us Fb Hb F' H' σ ρ2 cs2->(∀ i,∀ p∈cs2 i,p∈cx i\/∃ m,p∈cs' m)->Q' ρ2->G)->G
 | [], j, ρ, cx, _, W, _, _, _, p, q => q ρ cx W (λi p m => .inl m) p
 | none :: hs, j, ρ, cx, nd, W, hv, hl, d, p, q => by
  refine e'e W' hb hs (j+1) ρ cx nd W (λn i e=>?_) (by rw [List.length_cons] at hl;omega) (λi m z hm=>d i m z (by omega)) p q
  obtain⟨v,h1,h2⟩:=hv (n+1) i e
  exact⟨v,h1,by rw [show j+1+n=j+(n+1) by omega];exact h2⟩
 | some i :: hs, j, ρ, cx, nd, W, hv, hl, d, p, q => by
  have nd:(i :: hs.filterMap id).Nodup:=nd
  rw [List.nodup_cons] at nd
  have ni:some i ∉ hs:=λm=>nd.1 (List.mem_filterMap.mpr ⟨_,m,rfl⟩)
  obtain⟨t,e1,e2,e3,p⟩:=d'E p
  obtain⟨v,h1,h2⟩:=hv 0 i rfl
  rw [List.length_cons] at hl
  have rt:R K F' (λ_=>Hb) t v (cs' j):=by
   rcases W'.e j t e1 with z | ⟨u,g1,g2⟩
   ·exact absurd z e2
   ·have:=W'.p j (by omega)
    rw [g1,show vs[j]?=some v from h2] at this
    cases this
    exact g2.base t e3
  have Wf:Wld K k lo us Fb Hb F' H' σ (holes hs (ρ.set i t)) (λm=>if m=i then cs' j else cx m):=by
   have:=W.fill (i:=i) h1 rt (W'.c j) (λp m=>hb.free (W'.n j p m)) λm _ p mp q mq=>d m j (.inr trivial) (Nat.le_refl j) p mp q mq
   rw [show (holes (some i :: hs) ρ).set i t=holes hs (ρ.set i t) by
    show ((holes hs ρ).set i .hole).set i t=_
    rw [List.set_set];exact d'd hs ρ ni] at this
   exact this
  refine e'e W' hb hs (j+1) (ρ.set i t) _ nd.2 Wf (λn i' e=>?_) (by omega) (λi' m z hm p mp q mq=>?_) p λρ2 cs2 W2 sub=>q ρ2 cs2 W2 λi' p m=>?_
  ·obtain⟨v,h1,h2⟩:=hv (n+1) i' e
   exact⟨v,h1,by rw [show j+1+n=j+(n+1) by omega];exact h2⟩
  ·by_cases ei:i'=i
   ·rw [if_pos ei] at mp
    exact W'.d j m (by omega) p mp q mq
   ·rw [if_neg ei] at mp
    exact d i' m z (by omega) p mp q mq
  ·rcases sub i' p m with z | z
   ·by_cases ei:i'=i
    ·rw [if_pos ei] at z
     exact .inr ⟨j,z⟩
    ·rw [if_neg ei] at z
     exact .inl z
   ·exact .inr z
theorem HA.at_:∀ {hs:List (Option Nat)} {ts:List Tr} {vs:List V} {n i:Nat},HA K F Hb σ ρ hs ts vs->hs[n]?=some (some i)->∃ v,σ[i]?=some (some v)/\vs[n]?=some v
 | none :: hs, _, _, n, i, ⟨t, v, ts', vs', h1, h2, h3, h4⟩, e => by
  cases n with
  | zero=>cases e
  | succ n=>obtain⟨u,a,b⟩:=HA.at_ (hs:=hs) h4 e;exact⟨u,a,by rw [h2];exact b⟩
 | some x :: hs, _, _, n, i, ⟨t, v, ts', vs', h1, h2, h3, h4, h5, h6⟩, e => by
  cases n with
  | zero=>cases e;exact⟨v,h5,by rw [h2];rfl⟩
  | succ n=>obtain⟨u,a,b⟩:=HA.at_ (hs:=hs) h6 e;exact⟨u,a,by rw [h2];exact b⟩
theorem HA.len:∀ {hs:List (Option Nat)} {ts:List Tr} {vs:List V},HA K F Hb σ ρ hs ts vs->ts.length=hs.length
 | [], _, _, ⟨h1, _⟩ => by rw [h1]; rfl
 | none :: hs, _, _, ⟨t, v, ts', vs', h1, h2, h3, h4⟩ => by rw [h1, List.length_cons, List.length_cons, HA.len h4]
 | some i :: hs, _, _, ⟨t, v, ts', vs', h1, h2, h3, h4, h5, h6⟩ => by rw [h1, List.length_cons, List.length_cons, HA.len h6]
theorem p'v {hs:List (Option Nat)} {n:Nat} {z:Bool} {psp:PSpX} {ts:List Tr} {vs:List V} {E:XK} {q':Value->Prop} {Q':Tr->List Tr->Prop} {Q:VK} (W:Wld K k lo us Fb Hb F1 H1 σ ρ cs) (l:Le F F1) (a:HA K F1 Hb σ ρ hs ts vs) (nd:(hs.filterMap id).Nodup) (hk:z=true->k.z=true) (hn:(dns ts).length=n) (hE:∀ cls F' H',q' cls->Gr Fb Hb F' H'->E cls none H')
  (p1:psp (dns ts) (λt ρ'=>wBack hs 0 ρ' ρ λρ2=>Q' t ρ2) q') (q:∀ t v F' H' ρ' cs' c,OutL K k lo us Fb Hb F F' H' σ ρ' cs' t v c->Q' t ρ'->Q v H'):spX K z n n psp vs H1 Q E:=by
 obtain⟨c1,a1,a2,a3,a4,a5⟩:=a.rs W nd
 have hb:Same Hb (hdn (c1.map (·.1)) H1):=λx o e=>c'Y (d'r a3 e) (W.g.h _ _ e)
 have o1:OutA K F1 (λ_=>Hb) (hdn (c1.map (·.1)) H1) F1 H1 ts vs c1:=⟨⟨g'Y W.g.s,Fz.refl F1⟩,a1,a2,λp m=>c'Z m⟩
 refine e'd (λh=>W.z (hk h)) hn (λ_=>hb) o1 (λcls F' H' hq g=>hE cls F' H' hq (W.g.hdn a3 g)) p1 λF' H' σ' ρ' cs' v t c g nw W' r hc nc dj nl qt=>?_
 obtain⟨W0,keep⟩:=W.past a3 a4 g
 have far:∀ (c':Cs),New (hdn (c1.map (·.1)) H1) c'->∀ i,∀ p∈(if some i∈hs then [] else cs i),∀ q∈c',p.1≠q.1:=λc' nc i p mp q mq e=>by
  split at mp
  ·cases mp
  ·rename_i hi
   have:=keep i hi p mp
   rw [e,nc q mq] at this
   cases this
 refine e'e W' hb hs 0 ρ _ nd W0 (λn i e=>?_) (by rw [<- hn,a'U,a.len];omega) (λi m _ _=>far (cs' m) (W'.n m) i) qt λρ2 cs2 W2 sub q2=>?_
 ·rw [Nat.zero_add];exact a.at_ e
 ·refine q t v F' H' ρ2 cs2 c ⟨l.trans g.le,W2,r.base t nl,hc,λp m=>hb.free (nc p m),λi p mp q mq=>?_⟩ q2
  rcases sub i p mp with z | ⟨m,z⟩
  ·exact far c nc i p z q mq
  ·exact dj m p z q mq
def plHandX (q:Value->Prop) (hs:List (Option Nat)) (psp:PSpX) (ph:PA'):PL':=λρ Q=>ph ρ λts=>psp (dns ts) (λt ρ'=>wBack hs 0 ρ' ρ λρ2=>Q t ρ2) q
theorem k'R {hs:List (Option Nat)} {n:Nat} {z:Bool} {psp:PSpX} {ph:PA'} {R':St->XK} {q':Value->Prop} (hE:∀ (us:List V) (Fb Hb F H:Hp) (σ:St) (ρ:List Tr) (cs:Nat->Cs),Wld K k lo us Fb Hb F H σ ρ cs->∀ cls F' H',q' cls->Gr Fb Hb F' H'->R' σ cls none H') (nd:(hs.filterMap id).Nodup) (hk:z=true->k.z=true) (hn:∀ xs Q q,psp xs Q q->xs.length=n) (h:SimH K k lo hs ta ph):SimL K k lo (tCallX (spX K z n n psp) [] R' ta) (plHandX q' hs psp ph):=λus Fb Hb F H σ ρ cs Q Q' W p q=>by
 refine h us Fb Hb F H σ ρ cs _ _ W p λts vs F1 H1 l1 W1 a p1=>?_
 rw [List.append_nil]
 exact p'v W1 l1 a nd hk (hn _ _ _ p1) (λcls F' H' hq g=>hE us Fb Hb F1 H1 σ ρ cs W1 cls F' H' hq g) p1 q
def plMthX (q:Value->Prop) (D:Addr->Nat->Prop) (m:Str) (i:Nat) (hs:List (Option Nat)) (psp:Nat->PSpX) (ph:PA'):PL':=λρ Q=>pV ρ[i]? λx=>wIns D m x λc=>ph ρ λts=>psp c (dns (x :: ts)) (λt ρ'=>wBack (some i :: hs) 0 ρ' ρ λρ2=>Q t ρ2) q
end
end Pu
namespace Pu
open PySem L2 Vc Sf
structure QL (X:Cx) (k:Md) (lo:Nat) (e:Expr) (pl:PL'):Prop where
 h:∃ te,PE X e te/\SimL X.K k lo te pl
structure QLA (X:Cx) (k:Md) (lo:Nat) (es:List Expr) (pa:PLA'):Prop where
 h:∃ ta,PA X es ta/\SimLA X.K k lo ta pa
structure QH (X:Cx) (k:Md) (lo:Nat) (es:List Expr) (hs:List (Option Nat)) (ph:PA'):Prop where
 h:∃ ta,PA X es ta/\SimH X.K k lo hs ta ph
section
variable {X:Cx} {k:Md} {lo:Nat} {a b c e o:Expr} {es:List Expr} {pa pb pc pe:PE'} {pl pl':PL'} {pla:PLA'} {ph:PA'} {hs:List (Option Nat)} {pos apos:Pos} {m:Str} {ps:List Str} {km n:Nat} {z:Bool}
theorem f'k (h:QE X k e pe):QL X k lo e (plQ pe):=by
 obtain⟨te,h1,h2⟩:=h.h
 exact⟨_,h1,v'u h2⟩
theorem f'l:QLA X k lo [] plNil:=⟨_,b'O,p'q⟩
theorem a'X (h:QL X k lo e pl) (h':QLA X k lo es pla) (hs:starEach (e :: es) X.env=(false,eval e X.env) :: starEach es X.env:=by rfl):QLA X k lo (e :: es) (plCons pl pla):=by
 obtain⟨te,h1,h2⟩:=h.h
 obtain⟨tf,g1,g2⟩:=h'.h
 exact⟨_,b'q h1 g1 hs,n'J h2 g2⟩
theorem d'e:QH X k lo [] [] phN:=⟨_,b'O,p't⟩
theorem b'y (i:Nat) {x:Str} {p:Pos} (h:QH X k lo es hs ph) (hN:X.N[i]?=some x:=by rfl) (hv:Vis X.env.scope x:=by first | exact Or.inl rfl | exact Or.inr (Or.inl rfl) | exact Or.inr (Or.inr rfl)) (hd:(x == ("__debug__":Str))=false:=by decide) (hcd:(x == ("__classdict__":Str))=false:=by decide) (hst:starEach (.Name x p :: es) X.env=(false,eval (.Name x p) X.env) :: starEach es X.env:=by rfl):QH X k lo (.Name x p :: es) (some i :: hs) (phO i ph):=by
 obtain⟨tf,g1,g2⟩:=h.h
 exact⟨_,b'q (c'i hN hv hd hcd) g1 hst,p'u g2⟩
theorem c'I (he:QE X k e pe) (h:QH X k lo es hs ph) (hst:starEach (e :: es) X.env=(false,eval e X.env) :: starEach es X.env:=by rfl):QH X k lo (e :: es) (none :: hs) (phQ pe ph):=by
 obtain⟨te,h1,h2⟩:=he.h
 obtain⟨tf,g1,g2⟩:=h.h
 exact⟨_,b'q h1 g1 hst,v'v h2 g2⟩
theorem h'D {x1} (h:QLA X k lo es pla):QL X k lo (.Tuple es x1 pos) (plTup pla):=by
 obtain⟨te,h1,h2⟩:=h.h
 exact⟨_,g'z h1,p'r h2⟩
section
variable {C f:Addr} {fd:FuncData} {x:Str} {p:Pos}
def plMake (C:Addr) (psp:PSp) (pa:PLA'):PL':=λρ Q=>pa ρ λts ρ1=>psp (dns (.ins .o C [] :: ts)) (λt ρ'=>t=.non/\wNew ρ'[0]? λx=>Q x ρ1)
def plHand (hs:List (Option Nat)) (psp:PSp) (ph:PA'):PL':=λρ Q=>ph ρ λts=>psp (dns ts) (λt ρ'=>wBack hs 0 ρ' ρ λρ2=>Q t ρ2)
theorem d'F {psp:PSp} (G:FnOk X.prog X.w X.K X.mg X.base CX0 km f fd ps (spP X.K z n n psp)) (hk:z=true->k.z=true) (hn:∀ xs Q,psp xs Q->xs.length=n) (hr:Room km X.A) (hg:Gl X x) (hm:X.mg x=some (.ref f)) (hkp:W.keepIn X.K (.ref f)=true) (hb:Binds X.K fd ps []) (ha:QH X k lo (e :: es) hs ph) (nd:(hs.filterMap id).Nodup:=by decide) (hdb:(x == ("__debug__":Str))=false:=by decide) (he:starEach (e :: es) X.env=(false,eval e X.env) :: starEach es X.env:=by rfl) (hpl:(backTo pos (starEach es X.env)).any (·.1)=false:=by rfl) :
  QL X k lo (.Call (.Name x p) (e :: es) [] pos) (plHand hs psp ph):=by
 obtain⟨ta,h1,h2⟩:=ha.h
 exact⟨_,o'y (R:=λ_=>E0) G hr hg hm hkp hb .nil (k'Q g'q) h1 hdb he hpl,k'R (q':=λ_=>False) (psp:=λxs Q _=>psp xs Q) (λ_ _ _ _ _ _ _ _ _ _ _ _ h=>h.elim) nd hk (λxs Q _=>hn xs Q) h2⟩
end
section
variable {i:Nat} {x:Str} {pos':Pos}
theorem j'J (hN:X.N.Nodup) (hl:lo<=i) (hi:X.N[i]?=some x) (hx:Loc X.env.scope x) (h:QL X k lo e pl) (hs:swapsWith e (some (.Name x pos')) pos.line X.env=pure false:=by rfl) (hf:X.fn x=true\/X.env.scope.names.lookup x=some .local:=by first | exact .inl rfl | exact .inr rfl | assumption) :
  QS X k lo (.Assign [.Name x pos'] e pos) (pAsgLF i pl):=by
 obtain⟨te,h1,h2⟩:=h.h
 exact⟨_,g'y hN hi hx h1 hs hf,n'K hl h2⟩
theorem d'G (h:QL X k lo e pl) (hs:swapsWith e none pos.line X.env=pure false:=by rfl):QS X k lo (.Expr e pos) (pDropL pl):=by
 obtain⟨te,h1,h2⟩:=h.h
 exact⟨_,d'l h1 hs,n'L h2⟩
theorem n'M (h:QL X k lo e pl):QS X k lo (.Return (some e) pos) (pRetL pl):=by
 obtain⟨te,h1,h2⟩:=h.h
 exact⟨_,l'e h1,p's h2⟩
end
end
mutual
theorem R.nil_of {K:W.Frag} {F:Hp} {B:Bool->Hp}:∀ (t:Tr) {v:V} {cs:Cs},frz t=t->R K F B t v cs->cs=[]
 | .int _, _, _, _, h => h.2
 | .bl _, _, _, _, h => h.2
 | .str _, _, _, _, h => h.2
 | .non, _, _, _, h => h.2
 | .hole, _, _, _, h => h.elim
 | .ty _, _, _, _, h => h.2
 | .cl _, _, _, _, h => h.2
 | .exc _, _, _, _, h => h.1
 | .tup xs, _, _, e, ⟨a, vs, h1, h2, h3⟩ => Rs.nil_of xs (by injection e) h3
 | .lst .f xs, _, _, _, h => h.1
 | .lst (.l k) xs, _, _, _, h => h.1
 | .lst .o xs, _, _, e, _ => by injection e with e; cases e
 | .dic .f xs, _, _, _, h => h.1
 | .dic (.l k) xs, _, _, _, h => h.1
 | .dic .o xs, _, _, e, _ => by injection e with e; cases e
 | .ins .f _ xs, _, _, _, h => h.1
 | .ins (.l k) _ xs, _, _, _, h => h.1
 | .ins .o _ xs, _, _, e, _ => by injection e with e; cases e
theorem Rs.nil_of {K:W.Frag} {F:Hp} {B:Bool->Hp}:∀ (t:List Tr) {v:List V} {cs:Cs},frzs t=t->Rs K F B t v cs->cs=[]
 | [], _, _, _, h => h.2
 | x :: xs, _, _, e, ⟨v, r, c, d, h1, h2, h3, h4⟩ => by
  have e:frz x :: frzs xs=x :: xs:=e
  injection e with e1 e2
  rw [h2,R.nil_of x e1 h3,Rs.nil_of xs e2 h4]
  rfl
end
theorem Rs.unsnoc {K:W.Frag} {F:Hp} {B:Bool->Hp}:∀ {ys:List Tr} {t:Tr} {vs:List V} {cs:Cs},Rs K F B (ys++[t]) vs cs->∃ us u c d,vs=us++[u]/\cs=c++d/\Rs K F B ys us c/\R K F B t u d
 | [], t, _, _, h => by
  obtain⟨v,rfl,r⟩:=h.one
  exact⟨[],v,[],_,rfl,rfl,⟨rfl,rfl⟩,r⟩
 | y :: ys, t, _, _, ⟨v, r, c, d, h1, h2, h3, h4⟩ => by
  obtain⟨us,u,c',d',a1,a2,a3,a4⟩:=Rs.unsnoc (ys:=ys) h4
  exact⟨v :: us,u,c++c',d',by rw [h1,a1];rfl,by rw [h2,a2,List.append_assoc],⟨v,us,c,c',rfl,rfl,h3,a3⟩,a4⟩
section
variable {K:W.Frag} {k:Md} {lo:Nat} {te:TE} {pl:PL'}
def plPop (K:W.Frag) (i:Nat) (r:List Str):PL':=λρ Q=>wPl K ρ i r λu s=>wOwnL u λxs=>∃ ys t,xs=ys++[t]/\Pu.frz t=t/\Q t (s (.lst .o ys))
theorem p'w {i:Nat} {r:List Str}:SimL K k lo (tBM0 K "list" rPop (tR K i r)) (plPop K i r):=λus Fb Hb F H σ ρ cs Q Q' W p q=>by
 obtain⟨t,e1,e2,e3,p⟩:=e'G p
 obtain⟨xs,eg,ys,u,rfl,ef,p⟩:=c'E p
 obtain⟨w,c,r1,sub,hc,rd,cl⟩:=W.at e1 e2 r e3
 rw [eg] at r1
 obtain⟨a,vs,ds,rfl,h2,h3⟩:=r1
 have ha:H a=some (.lst vs):=hc.h (a,.lst vs) (by rw [h2];exact .head _)
 obtain⟨us',x,c',d',rfl,b2,b3,b4⟩:=h3.unsnoc
 obtain rfl:=R.nil_of u ef b4
 rw [List.append_nil] at b2
 subst b2
 obtain⟨cs',W3⟩:=cl F H W (Le.refl _) a (.lst (us'++[x])) (.lst us') ds ds [] (.lst .o ys) ((a,.lst us') :: (ds++[])) h2 (List.Sublist.refl _) .nil d'v c'a (List.Perm.refl _) ⟨a,us',ds++[],rfl,rfl,by rw [List.append_nil];exact b3⟩
 refine rd _ ⟨e'Z ha,a,us'++[x],x,rfl,rfl,ha,by simp,?_⟩
 rw [List.dropLast_concat]
 exact q u x F _ _ cs' [] ⟨Le.refl _,W3,b4,.nil,.nil,λ_ _ _ _ m=>nomatch m⟩ p
def pAppL (K:W.Frag) (i:Nat) (pl:PL'):PS':=λD ρ=>(pV ρ[i]? λu=>wOwnL u λ_=>True)/\pl ρ λt ρ1=>pV ρ1[i]? λu=>wOwnL u λxs=>xs.length<1000000/\D.nx (ρ1.set i (.lst .o (xs++[Pu.frz t])))
theorem p'x {i:Nat} (h:SimL K k lo te pl):SimS K k lo (tDrop (tBM K "list" rAppend (tR K i []) (tCons te tNil))) (pAppL K i pl):=λus Fb Hb F H σ ρ cs D D' W p L=>by
 obtain⟨p0,p⟩:=p
 obtain⟨t0,e1,e2,p0⟩:=d'E p0
 obtain⟨xs0,rfl,_⟩:=c'E p0
 rcases W.e i _ e1 with z | ⟨v,h1,a,vs,ds,rfl,h2,h3⟩
 ·cases z
 have ha:H a=some (.lst vs):=(W.c i).h (a,.lst vs) (by rw [h2];exact .head _)
 refine⟨_,h1,e'Z ha,h us Fb Hb F H σ ρ cs _ _ W p λt x F1 H1 ρ1 cs1 c1 o p1=>?_⟩
 obtain⟨t1,g1,g2,p1⟩:=d'E p1
 obtain⟨xs,rfl,hl,p1⟩:=c'E p1
 obtain⟨F2,l2,W2,r2⟩:=o.held
 obtain⟨w,c,r1,sub,hc,rd,cl⟩:=W2.at g1 g2 [] trivial
 obtain⟨a',vs',ds',rfl,b2,b3⟩:=r1
 have ew:a'=a:=by
  obtain⟨u,y1,y2⟩:=rd (λw' _=>w'=.ref a') rfl
  rw [h1] at y1
  cases y1
  cases y2
  rfl
 subst ew
 have ha1:H1 a'=some (.lst vs'):=hc.h (a',.lst vs') (by rw [b2];exact .head _)
 obtain⟨cs',W3⟩:=cl F2 H1 W2 (Le.refl _) a' (.lst vs') (.lst (vs'++[x])) ds' ds' [] (.lst .o (xs++[Pu.frz t])) ((a',.lst (vs'++[x])) :: (ds'++[])) b2 (List.Sublist.refl _) .nil d'v c'a (List.Perm.refl _) ⟨a',vs'++[x],ds'++[],rfl,rfl,b3.snoc r2⟩
 exact⟨a',vs',x,rfl,rfl,ha1,Nat.lt_of_lt_of_le (by rw [b3.length];exact hl) (by decide),L.nx F2 _ σ _ cs' W3 p1⟩
end
section
variable {X:Cx} {k:Md} {lo:Nat} {pl:PL'}
theorem d'f {i:Nat} {o:Expr} {r:List Str} {apos cpos:Pos} (hp:PE X o (tR X.K i r)) (h1:attributeBase o "pop" X.env (eval o X.env)=eval o X.env:=by rfl) (h2:(apos.endLine == cpos.line)=true:=by rfl):QL X k lo (.Call (.Attribute o "pop" apos) [] [] cpos) (plPop X.K i r):=
 ⟨_,l't PySem.F.plainAttrs_list PySem.F.slot_list_pop PySem.F.type_list_pop t'Y hp h1 h2,p'w⟩
theorem h'E {o e:Expr} {i:Nat} {apos cpos spos:Pos} (hp:PE X o (tR X.K i [])) (h:QL X k lo e pl) (h1:attributeBase o "append" X.env (eval o X.env)=eval o X.env:=by rfl)
  (h2:(((backTo cpos (starEach [e] X.env)).all (!·.1) && (backToKw cpos (keywordEach [] X.env)).all (·.1.isSome)) && decide (([e].length+([]:List Keyword).length+if ([]:List Keyword).isEmpty=true then 0 else 1)<30))=true:=by rfl)
  (h3:(apos.endLine == cpos.line)=true:=by rfl) (h4:starEach [e] X.env=(false,eval e X.env) :: starEach [] X.env:=by rfl) (hs:swapsWith (.Call (.Attribute o "append" apos) [e] [] cpos) none spos.line X.env=pure false:=by rfl) :
  QS X k lo (.Expr (.Call (.Attribute o "append" apos) [e] [] cpos) spos) (pAppL X.K i pl):=by
 obtain⟨te,e1,e2⟩:=h.h
 exact⟨_,d'l (p'J PySem.F.plainAttrs_list slot_list_append type_list_append f'G hp (b'q e1 b'O h4) h1 h2 h3 h4 rfl) hs,p'x e2⟩
end
end Pu
namespace L2
open PySem PySem.Spec PyProof.Rows
def tLVr (td:TE):TE:=λσ H Q=>td σ H λx H1=>∃ a kvs,x=.ref a/\Rd H1 a (.dK kvs)/\∀ p,H1 p=none->Q (.ref p) (upd H1 p (.lst (kvs.map (·.2))))
theorem h'F {X:Cx} {o:Expr} {td:TE} {p apos cpos pos:Pos} (hc:X.calm=true) (hg:Gl X "list") (hm:X.mg "list"=none) (ho:PE X o td) (hbase:attributeBase o "values" X.env (eval o X.env)=eval o X.env) (hline:(apos.endLine == cpos.line)=true)
  (hs:starEach [.Call (.Attribute o "values" apos) [] [] cpos] X.env=[(false,eval (.Call (.Attribute o "values" apos) [] [] cpos) X.env)]:=by rfl) :
  PE X (.Call (.Name "list" p) [.Call (.Attribute o "values" apos) [] [] cpos] [] pos) (tLVr td):=by
 intro pins s σ H Q I h
 refine wpAny_Call_Name_kw (c'S I hg hm (u:=.type "list") rfl ?_)
 refine PyProof.Rows.callWith_type1 ?_ hs rfl
 rw [hs]
 show wpAny _ _ (spliced ((false,eval (.Call (.Attribute o "values" apos) [] [] cpos) X.env) :: backTo pos [])) _ _ s
 refine Calls.spliced_cons ?_
 refine wpAny_Call_method0_late hbase hline (thn (ho pins s σ H _ I h) λv s1 ⟨x,H1,I1,r1,a,kvs,ex,hH,q⟩=>?_)
 subst ex
 obtain rfl:v=Value.ref a:=r1
 obtain⟨t1,t2,hd⟩:=g'E I1 (.inl ⟨kvs,hH⟩)
 refine⟨"dict","dict.values",PySem.F.plainAttrs_dict,PySem.F.slot_dict_values,PySem.F.type_dict_values,t1,t2,Calls.callWith_builtin rfl (PySem.evalArgs_none ?_)⟩
 obtain⟨z,y,vs,r,dd⟩:=b'd I1.hok hH
 refine call_meetsIn PySem.F.slot_dict_values t1 PySem.F.entry_dict_values (PySem.F.args_dict_values_1 _) (meets_dict_values (mixKind X.prog X.w) a hd) ⟨⟨vs,dd⟩,?_⟩
 have I2:Inv X pins σ H1 { s1 with heap:=s1.heap.push { cls:=.type "dict_values",data:=.fields #[.ref a] } }:=I1.kept (t':=s1.toks) λb o e=>Heap.get?_push_of_some _ e
 obtain⟨ep,hat⟩:=dd.dictAt
 have hat2:=hat.push { cls:=.type "dict_values",data:=.fields #[.ref a] }
 have hl:kvs.length=vs.length:=KV.length r
 refine Calls.spliced_nil ?_
 refine W.kdl_call (s:={ s1 with heap:=s1.heap.push { cls:=.type "dict_values",data:=.fields #[.ref a] } }) (W.kdl_values (knd:=mixKind X.prog X.w) (kvs:=vs) (ep:=ep) (r:=s1.heap.objs.size) (d:=a)) (I.ok.hd hc) ⟨⟨_,Heap.get?_push_size _ rfl,rfl,rfl⟩,hat2⟩ (by rw [<- hl];exact z) λh' tk acc' c' hk hS hacc=>?_
 have hfr:H1 (s1.heap.push { cls:=.type "dict_values",data:=.fields #[.ref a] }).objs.size=none:=I2.hok.fresh (Nat.le_refl _)
 refine⟨.ref _,_,I2.laid (o:=.lst (kvs.map (·.2))) (h':=h') (t':=tk) hk (Nat.le_refl _) ⟨by rw [List.length_map];exact z,acc'.toList,c',?_,by rw [Array.toArray_toList];exact hS⟩,rfl,q _ hfr⟩
 refine l'I r (by rw [Array.length_toList,hacc.1,hl]) λj u hu=>?_
 exact hacc.2 j u (by rw [<- Array.getElem?_toList];exact hu)
end L2
namespace Pu
open PySem L2 Vc Sf
section
variable {K:W.Frag} {k:Md} {F H F1 H1:Hp} {B:Bool->Hp} {te:TE} {pe:PE'}
theorem Rk.snd:∀ {m:List (Key×Tr)} {vs:List (Key×V)} {c:Cs},Rk K F B m vs c->Rs K F B (m.map (·.2)) (vs.map (·.2)) c
 | [], _, _, ⟨h, h2⟩ => by rw [h, h2]; exact ⟨rfl, rfl⟩
 | (y, x) :: m, _, _, ⟨v, r, c, d, h1, h2, h3, h4⟩ => by rw [h1, h2]; exact ⟨v, _, c, d, rfl, rfl, h3, Rk.snd h4⟩
def wLV (t:Tr) (Q:Tr->Prop):Prop:=match t with | .dic _ m=>Q (.lst .o (m.map (·.2))) | _=>False
theorem v'w (h:Sim K k te pe):Sim K k (tLVr te) (p1 wLV pe):=λF B H σ ρ Q Q' c p q=>by
 refine h F B H σ ρ _ _ c p λx v F1 H1 c1 p1 o1=>?_
 unfold wLV at p1
 split at p1
 ·obtain⟨a,vs,ds,rfl,h1,h2,h3,h4⟩:=o1.r.dicH o1.g.s (λk=>(c.b k).trans o1.g.h) o1.c
  refine⟨a,vs,rfl,h1,λp hp=>?_⟩
  obtain⟨n1,n2,n3⟩:=c'n o1.g.s h2.snd h3 hp
  refine q _ _ F1 _ _ p1 ⟨o1.g.trans' n1,n2,n3,λy m=>?_⟩
  cases m with
  | head=>exact o1.g.h.free hp
  | tail _ m=>exact o1.n y (h4 y m)
 ·exact p1.elim
theorem j'K:∀ {ns:List Str} {vs:List V} {c:Cs},Rs K F B (ns.map (Enc.t (α:=Str))) vs c->vs=ns.map V.str/\c=[]
 | [], _, _, h => h
 | n :: ns, _, _, ⟨v, r, c, d, h1, h2, h3, h4⟩ => by
  obtain⟨e1,e2⟩:=j'K h4
  obtain⟨e3,e4⟩:=(show v=V.str n/\c=[] from h3)
  exact⟨by rw [h1,e1,e3];rfl,by rw [h2,e4,e2];rfl⟩
theorem j'L:∀ (ns:List Str),Rs K F B (ns.map (Enc.t (α:=Str))) (ns.map V.str) []
 | [] => ⟨rfl, rfl⟩
 | n :: ns => ⟨.str n, ns.map V.str, [], [], rfl, rfl, ⟨rfl, rfl⟩, j'L ns⟩
def wSS (t:Tr) (Q:Tr->Prop):Prop:=∃ (f:Fl) (ns:List Str),t=.lst f (ns.map Enc.t)/\ns.length<60/\Q (.lst .o ((srt (once ns)).map Enc.t))
theorem p'y {P:Program} {w:World} {f:Fl} {ns:List Str} {v:V} {c1:Cs} {Q:VK} (s:Same F H) (b:∀ k,Same (B k) H) (r:R K F B (.lst f (ns.map Enc.t)) v c1) (hc:Cells F H c1) (hl:ns.length<60) (q:∀ p,H p=none->Q (.ref p) (upd H p (SetC P w p ((once ns).map Sum.inr)))):rSetX P w K [v] H Q:=by
 obtain⟨a,vs,ds,rfl,h1,h2,h3,h4⟩:=r.lstH s b hc
 obtain⟨rfl,_⟩:=j'K h2
 refine⟨a,ns.map Sum.inr,rfl,?_,by rw [List.length_map];omega,λp hp=>?_⟩
 ·rw [List.map_map];exact h1
 ·rw [o'L (λx y e=>Sum.inr.inj e)];exact q p hp
theorem v'x {P:Program} {w:World} (h:Sim K k te pe):Sim K k (tCB (rSortT P w) (tCons (tCB (rSetX P w K) (tCons te tNil)) tNil)) (p1 wSS pe):=λF B H σ ρ Q Q' c p q=>by
 refine h F B H σ ρ _ _ c p λx v F1 H1 c1 p1 o1=>?_
 obtain⟨f,ns,rfl,hl,p1⟩:=p1
 have key:rSetX P w K [v] H1 (λx H2=>rSortT P w [x] H2 Q):=?_
 ·exact key
 refine p'y o1.g.s (λk=>(c.b k).trans o1.g.h) o1.r o1.c hl λp hp=>?_
 show rSortT P w [V.ref p] _ Q
 refine s'm a'm (Nat.lt_of_le_of_lt (d'Y _) (by omega)) λp2 hp2=>?_
 have g2:Gr F1 H1 F1 (upd H1 p (SetC P w p ((once ns).map Sum.inr))):=Gr.own1 o1.g.s hp
 obtain⟨n1,n2,n3⟩:=c'n (K:=K) (B:=B) g2.s (j'L (srt (once ns))) .nil hp2
 refine q _ _ F1 _ _ p1 ⟨(o1.g.trans' g2).trans' n1,n2,n3,λy m=>?_⟩
 cases m with
 | head => exact o1.g.h.free (g2.h.free hp2)
 | tail _ m => cases m
def wIsI (K:W.Frag) (ts:List Tr) (Q:Tr->Prop):Prop:=match ts with
 | [.ins _ C _, .cl D] => ∃ b, InsK K C /\ W.kitOne K (.ref C) (.ref D) = some b /\ Q (.bl b)
 | _ => False
theorem t'e:OpA K k (rIsR K) (wIsI K):=λF B H xs ts cx Q Q' s b z r hc p q=>by
 unfold wIsI at p
 split at p
 ·obtain⟨v,w,c1,d1,rfl,r1,r2,e⟩:=r.two
  rw [e] at hc
  obtain⟨bb,e1,e2,p⟩:=p
  obtain⟨a,dx,vs,ds,rfl,h1,_⟩:=r1.insH s b hc.left
  obtain⟨rfl,_⟩:=r2
  exact⟨_,_,_,bb,_,rfl,.inr ⟨a,_,dx,vs,rfl,rfl,h1,e1⟩,rfl,e2,q _ _ F H [] p (Gr.refl' s) ⟨rfl,rfl⟩ .nil λ_ m=>nomatch m⟩
 ·exact p.elim
def pGetC (tab:List (Str×Tr)) (py:PE'):PE':=λρ Q=>py ρ λy=>wTx y λx=>(match tab.lookup x with | some t=>Q t | none=>False)
theorem p'z {w:World} {c:Addr} {kvs:List (Str×Value)} {tab:List (Str×Tr)} {ty:TE} {py:PE'} {td:TE} (hd:∀ σ H (Q:VK),Q (.ref c) H->td σ H Q) (kd:KD w K c kvs) (ht:∀ x t,tab.lookup x=some t->∃ a,kvs.lookup x=some (.ref a)/\∀ F B,R K F B t (.ref a) []) (h:Sim K k ty py):Sim K k (tDGetC w K td ty) (pGetC tab py):=λF B H σ ρ Q Q' cx p q=>by
 refine hd _ _ _ (h F B H σ ρ _ _ cx p λy v F1 H1 c1 p1 o1=>?_)
 obtain⟨x,rfl,p2⟩:=n'C p1
 obtain⟨rfl,_⟩:=o1.r
 split at p2
 ·rename_i t et
  obtain⟨a,e1,e2⟩:=ht x t et
  exact⟨c,kvs,x,a,rfl,kd,rfl,e1,q t _ F1 H1 [] p2 ⟨o1.g,e2 F1 B,.nil,.nil⟩⟩
 ·exact p2.elim
def wEqD (neg:Bool) (x y:Tr) (Q:Tr->Prop):Prop:=∃ (f g:Fl) (m m':List (Key×Tr)) (n:Nat),x=.dic f m/\y=.dic g m'/\n<=20/\m.length=m'.length/\(∀ p∈m,∃ t,look m' p.1=some t/\smT p.2 t=true/\dep p.2=n)/\Q (.bl (!neg))
theorem Rk.mem:∀ {m:List (Key×Tr)} {vs:List (Key×V)} {c:Cs} {y:Key} {u:V},Rk K F B m vs c->Cells F H c->(y,u)∈vs->∃ x d,(y,x)∈m/\R K F B x u d/\Cells F H d
 | [], _, _, _, _, ⟨h, _⟩, _, m => by rw [h] at m; cases m
 | (k', x) :: xs, _, _, y, u, ⟨v, r, c, d, h1, h2, h3, h4⟩, hc, m => by
  rw [h2] at hc
  rw [h1] at m
  rcases List.mem_cons.mp m with e | m
  ·cases e;exact⟨x,c,.head _,h3,hc.left⟩
  ·obtain⟨x',d',a1,a2,a3⟩:=Rk.mem h4 hc.right m
   exact⟨x',d',.tail _ a1,a2,a3⟩
theorem p'A {neg:Bool}:Op2 K k (rEqD K (!neg)) (wEqD neg):=λF B H x y tx ty cx cy Q Q' s b z rx ry hx hy hd p q=>by
 obtain⟨f,g,m,m',n,rfl,rfl,hn,hl,al,p⟩:=p
 obtain⟨a,vs,ds,rfl,h1,h2,h3,_⟩:=rx.dicH s b hx
 obtain⟨a',us,es,rfl,g1,g2,g3,_⟩:=ry.dicH s b hy
 have l1:vs.length=m.length:=by have:=congrArg List.length h2.fst;rw [List.length_map,List.length_map] at this;exact this
 have l2:us.length=m'.length:=by have:=congrArg List.length g2.fst;rw [List.length_map,List.length_map] at this;exact this
 refine⟨n,a,a',vs,us,Nat.le_trans hn (by decide),rfl,rfl,h1,g1,⟨by rw [l1,l2];exact hl,λkk v mv=>?_⟩,q _ _ F H [] p (Gr.refl' s) ⟨rfl,rfl⟩ .nil λ_ m=>nomatch m⟩
 obtain⟨t,d,b1,b2,b3⟩:=h2.mem h3 mv
 obtain⟨t',e1,e2,e3⟩:=al _ b1
 rcases g2.look kk g3 with ⟨z1,_⟩ | ⟨t2,u,c,a1,a2,a3,a4,_⟩
 ·rw [e1] at z1;cases z1
 ·rw [e1] at a1
  cases a1
  refine⟨u,a2,?_⟩
  have:=n'B s b t t' v u d c e2 b2 a3 b3 a4
  rw [e3] at this
  exact this
theorem t'f:Op2 K k (rEqD K false) (wEqD true):=p'A (neg:=true)
end
section
variable {K:W.Frag} {k:Md} {lo:Nat} {us:List V} {Fb Hb F H:Hp} {σ:St} {ρ:List Tr} {cs:Nat->Cs}
theorem Wld.lose {i:Nat} {a:Addr} {o o':HO} (W:Wld K k lo us Fb Hb F H σ ρ cs) (e:(a,o)∈cs i):Wld K k lo us Fb Hb F (upd H a o') σ (ρ.set i .hole) (λj=>if j=i then [] else cs j):=by
 have hb:=W.n i _ e
 have fa:=(W.c i).f _ e
 have W0:=W.hole (i:=i)
 refine⟨⟨⟨W.g.h.updN hb,W.g.f,W.g.s.updN fa,W.g.n⟩,W.g.z⟩,W.z,W0.l,W0.e,λj=>?_,W0.n,W0.d,W0.p,W0.x⟩
 split
 ·exact .nil
 ·rename_i ej
  exact⟨λp m=>by rw [a'f (W.d j i ej p m _ e)];exact (W.c j).h p m,(W.c j).f,(W.c j).nd⟩
def wTD (t:Tr) (Q:Prop):Prop:=match t with | .tup (.dic .o _ :: _)=>Q | _=>False
theorem v'y {t:Tr} {Q:Prop} (h:wTD t Q):∃ m xs,t=.tup (.dic .o m :: xs)/\Q:=by
 unfold wTD at h
 split at h
 ·exact⟨_,_,rfl,h⟩
 ·exact h.elim
def pClr0 (i:Nat):PS':=λD ρ=>pV ρ[i]? λt=>wTD t (D.nx (ρ.set i .hole))
theorem p'B {i:Nat} {ti:TE} (hi:∀ σ H (Q:VK),Q (.int 0) H->ti σ H Q):SimS K k lo (tDrop (tBM0 K "dict" (λx xs H Q=>∃ a kvs,x=.ref a/\xs=[]/\H a=some (.dK kvs)/\Q .non (upd H a (.dK []))) (tOp (rIxU K) (tVar i) ti))) (pClr0 i):=λus Fb Hb F H σ ρ cs D D' W p L=>by
 obtain⟨t,e1,e2,p⟩:=d'E p
 obtain⟨m,xs,rfl,p⟩:=v'y p
 rcases W.e i _ e1 with z | ⟨v,h1,a,vs,rfl,h2,u,r,c,d,rfl,h3,⟨a',kv,ds,rfl,h5,h6,h7⟩,h8⟩
 ·cases z
 have am:(a',HO.dK kv)∈cs i:=by rw [h3,h5];exact .head _
 have ha:H a'=some (.dK kv):=(W.c i).h _ am
 refine⟨_,h1,hi _ _ _ (.inl (.inr (.inl ⟨_,_,0,_,rfl,rfl,W.g.s.tup h2,at0 _ _,?_⟩)))⟩
 exact⟨s'a ha,a',kv,rfl,rfl,ha,L.nx F _ σ _ _ (W.lose am) p⟩
end
section
variable {X:Cx} {k:Md} {lo:Nat} {e o:Expr} {pe po:PE'} {pos:Pos}
theorem w'P {p apos cpos:Pos} (hc:X.calm=true) (hg:Gl X "list") (hm:X.mg "list"=none) (h:QE X k o po) (h1:attributeBase o "values" X.env (eval o X.env)=eval o X.env:=by rfl) (h2:(apos.endLine == cpos.line)=true:=by rfl) (hs:starEach [.Call (.Attribute o "values" apos) [] [] cpos] X.env=[(false,eval (.Call (.Attribute o "values" apos) [] [] cpos) X.env)]:=by rfl) :
  QE X k (.Call (.Name "list" p) [.Call (.Attribute o "values" apos) [] [] cpos] [] pos) (p1 wLV po):=by
 obtain⟨te,g1,g2⟩:=h.h
 exact⟨_,h'F hc hg hm g1 h1 h2 hs,v'w g2⟩
theorem w'Q {p p2 pos2:Pos} (hc:X.calm=true) (hg:Gl X "sorted") (hm:X.mg "sorted"=none) (hg2:Gl X "set") (hm2:X.mg "set"=none) (h:QE X k e pe) (h1:starEach [e] X.env=[(false,eval e X.env)]:=by rfl) (h2:starEach [.Call (.Name "set" p2) [e] [] pos2] X.env=[(false,eval (.Call (.Name "set" p2) [e] [] pos2) X.env)]:=by rfl) :
  QE X k (.Call (.Name "sorted" p) [.Call (.Name "set" p2) [e] [] pos2] [] pos) (p1 wSS pe):=by
 obtain⟨te,g1,g2⟩:=h.h
 exact⟨_,g'B (g'X hc) hg hm rfl (b'q (f'E (l'V hc) hg2 hm2 rfl (b'q g1 b'O h1) (he:=h1)) b'O h2),v'x g2⟩
theorem d'H (K:W.Frag) (hK:X.K=K) {x:Str} {p:Pos} {e:Expr} {es:List Expr} {ps:PA'} (hg:Gl X x) (hm:X.mg x=none) (hv:bootBuiltins x=some (.builtin "isinstance")) (ha:QA X k (e :: es) ps) (hn:x≠"__name__":=by decide) (hdb:(x == ("__debug__":Str))=false:=by decide) (he:starEach (e :: es) X.env=(false,eval e X.env) :: starEach es X.env:=by rfl) (hpl:(backTo pos (starEach es X.env)).any (·.1)=false:=by rfl) :
  QE X k (.Call (.Name x p) (e :: es) [] pos) (pB (wIsI K) ps):=by
 subst hK
 exact b'p o'N t'e hg hm hv ha hn hdb he hpl
theorem v'z {x:Str} {c:Addr} {p:Pos} {kvs:List (Str×Value)} (tab:List (Str×Tr)) (hg:Gl X x) (hm:X.mg x=some (.ref c)) (kd:KD X.w X.K c kvs) (ht:∀ x t,tab.lookup x=some t->∃ a,kvs.lookup x=some (.ref a)/\∀ F B,R X.K F B t (.ref a) []) (h:QE X k e pe) (hs:NoSl e) (hd:(x == ("__debug__":Str))=false:=by decide):QE X k (.Subscript (.Name x p) e pos) (pGetC tab pe):=by
 obtain⟨te,g1,g2⟩:=h.h
 exact⟨_,o'O (i'h (v:=.ref c) hg hm rfl hd) g1 hs,p'z (λ_ _ _ q=>q) kd ht g2⟩
theorem v'A {i:Nat} {x:Str} {p p0 spos apos cpos:Pos} {j} (hu:X.A.units+1<cLine) (hN:X.N[i]?=some x:=by rfl) (hv:Vis X.env.scope x:=by first | exact Or.inl rfl | exact Or.inr (Or.inl rfl) | exact Or.inr (Or.inr rfl)) (hd:(x == ("__debug__":Str))=false:=by decide) (hcd:(x == ("__classdict__":Str))=false:=by decide)
  (h1:attributeBase (.Subscript (.Name x p) (.Constant (.int 0) j p0) pos) "clear" X.env (eval (.Subscript (.Name x p) (.Constant (.int 0) j p0) pos) X.env)=eval (.Subscript (.Name x p) (.Constant (.int 0) j p0) pos) X.env:=by rfl) (h2:(apos.endLine == cpos.line)=true:=by rfl) (hs:swapsWith (.Call (.Attribute (.Subscript (.Name x p) (.Constant (.int 0) j p0) pos) "clear" apos) [] [] cpos) none spos.line X.env=pure false:=by rfl) (hix:PlainIx (.Constant (.int 0) j p0):=by exact λ_ _=>rfl) :
  QS X k lo (.Expr (.Call (.Attribute (.Subscript (.Name x p) (.Constant (.int 0) j p0) pos) "clear" apos) [] [] cpos) spos) (pClr0 i):=
 ⟨_,d'l (l't PySem.F.plainAttrs_dict PySem.F.slot_dict_clear PySem.F.type_dict_clear l'y (p'I (u'A hu) (c'i hN hv hd hcd) l'd hix) h1 h2) hs,p'B (λ_ _ _ q=>q)⟩
end
end Pu
namespace Pu
open PySem L2 Vc Sf
theorem j'M (q:Value->Prop) (D:Addr->Nat->Prop) (m:Str) (psp:Nat->PSpX) (po:PE') (pa:PA') (ρ:List Tr) (Q:Tr->Prop):pMthX q D m psp po pa ρ Q=(po ρ λx=>wIns D m x λc=>pa ρ λts=>psp c (dns (x :: ts)) (λt _=>Q t) q):=rfl
theorem n'N (D:Addr->Nat->Prop) (m:Str) (psp:Nat->PSp) (po:PE') (pa:PA') (ρ:List Tr) (Q:Tr->Prop):pMth D m psp po pa ρ Q=(po ρ λx=>wIns D m x λc=>pa ρ λts=>psp c (dns (x :: ts)) (λt _=>Q t)):=rfl
theorem h'G (q:Value->Prop) (C:Addr) (psp:PSpX) (pa:PA') (ρ:List Tr) (Q:Tr->Prop):pMakeX q C psp pa ρ Q=(pa ρ λts=>psp (dns (.ins .o C [] :: ts)) (λt ρ'=>t=.non/\wNew ρ'[0]? Q) q):=rfl
theorem j'N (C:Addr) (psp:PSp) (pa:PA') (ρ:List Tr) (Q:Tr->Prop):pMake C psp pa ρ Q=(pa ρ λts=>psp (dns (.ins .o C [] :: ts)) λt ρ'=>t=.non/\wNew ρ'[0]? Q):=rfl
theorem r'g (pe:PE') (ρ:List Tr) (Q:Tr->List Tr->Prop):plQ pe ρ Q=(pe (ρ.map lend) λt=>nlt t=true/\Q t ρ):=rfl
theorem j'O  (ρ:List Tr) (Q:List Tr->List Tr->Prop):plNil ρ Q=(Q [] ρ):=rfl
theorem h'H (pl:PL') (pa:PLA') (ρ:List Tr) (Q:List Tr->List Tr->Prop):plCons pl pa ρ Q=(pl ρ λt ρ1=>pa ρ1 λts ρ2=>Q (frz t :: ts) ρ2):=rfl
theorem f'T (q:Value->Prop) (psp:PSpX) (pa:PLA') (ρ:List Tr) (Q:Tr->List Tr->Prop):plCallX q psp pa ρ Q=(pa ρ λts ρ1=>psp (dns ts) (λt _=>Q t ρ1) q):=rfl
theorem f'U (q:Value->Prop) (C:Addr) (psp:PSpX) (pa:PLA') (ρ:List Tr) (Q:Tr->List Tr->Prop):plMakeX q C psp pa ρ Q=(pa ρ λts ρ1=>psp (dns (.ins .o C [] :: ts)) (λt ρ'=>t=.non/\wNew ρ'[0]? λx=>Q x ρ1) q):=rfl
theorem j'P (pa:PLA') (ρ:List Tr) (Q:Tr->List Tr->Prop):plTup pa ρ Q=(pa ρ λts ρ1=>ts.length<=10000/\Q (.tup ts) ρ1):=rfl
theorem r'h (pr:Tr->Tr->(Tr->Prop)->Prop) (pa:PL') (pb:PL') (ρ:List Tr) (Q:Tr->List Tr->Prop):pl2 pr pa pb ρ Q=(pa ρ λx ρ1=>pb ρ1 λy ρ2=>pr (frz x) y λt=>Q t ρ2):=rfl
theorem j'Q (i:Nat) (pl:PL') (D:Pd) (ρ:List Tr):pAsgL i pl D ρ=(pl ρ λt ρ1=>D.nx (ρ1.set i t)):=rfl
theorem h'I (i:Nat) (pl:PL') (D:Pd) (ρ:List Tr):pAsgLF i pl D ρ=(pl ρ λt ρ1=>D.nx (ρ1.set i (frz t))):=rfl
theorem h'J (pl:PL') (D:Pd) (ρ:List Tr):pDropL pl D ρ=(pl ρ λ_ ρ1=>D.nx ρ1):=rfl
theorem j'R (pl:PL') (D:Pd) (ρ:List Tr):pRetL pl D ρ=(pl ρ λt ρ1=>nol t=true/\D.rt t ρ1):=rfl
theorem n'O (pl:PL') (p q:PS') (D:Pd) (ρ:List Tr):pIfL pl p q D ρ=(pl ρ λt ρ1=>wBl t λb=>if b=true then p D ρ1 else q D ρ1):=rfl
theorem r'i  (ρ':List Tr) (Q:List Tr->Prop):phN ρ' Q=(Q []):=rfl
theorem r'j (i:Nat) (ph:PA') (ρ:List Tr) (Q:List Tr->Prop):phO i ph ρ Q=(pV ρ[i]? λt=>ph ρ λts=>Q (t :: ts)):=rfl
theorem r'k (pe:PE') (ph:PA') (ρ:List Tr) (Q:List Tr->Prop):phQ pe ph ρ Q=(pe (ρ.map lend) λt=>nlt t=true/\ph ρ λts=>Q (Pu.frz t :: ts)):=rfl
theorem f'V (q:Value->Prop) (hs:List (Option Nat)) (psp:PSpX) (ph:PA') (ρ:List Tr) (Q:Tr->List Tr->Prop):plHandX q hs psp ph ρ Q=(ph ρ λts=>psp (dns ts) (λt ρ'=>wBack hs 0 ρ' ρ λρ2=>Q t ρ2) q):=rfl
theorem h'K (q:Value->Prop) (D:Addr->Nat->Prop) (m:Str) (i:Nat) (hs:List (Option Nat)) (psp:Nat->PSpX) (ph:PA') (ρ:List Tr) (Q:Tr->List Tr->Prop):plMthX q D m i hs psp ph ρ Q=(pV ρ[i]? λx=>wIns D m x λc=>ph ρ λts=>psp c (dns (x :: ts)) (λt ρ'=>wBack (some i :: hs) 0 ρ' ρ λρ2=>Q t ρ2) q):=rfl
theorem h'L (C:Addr) (psp:PSp) (pa:PLA') (ρ:List Tr) (Q:Tr->List Tr->Prop):plMake C psp pa ρ Q=(pa ρ λts ρ1=>psp (dns (.ins .o C [] :: ts)) (λt ρ'=>t=.non/\wNew ρ'[0]? λx=>Q x ρ1)):=rfl
theorem h'M (hs:List (Option Nat)) (psp:PSp) (ph:PA') (ρ:List Tr) (Q:Tr->List Tr->Prop):plHand hs psp ph ρ Q=(ph ρ λts=>psp (dns ts) (λt ρ'=>wBack hs 0 ρ' ρ λρ2=>Q t ρ2)):=rfl
theorem j'S (K:W.Frag) (i:Nat) (r:List Str) (ρ:List Tr) (Q:Tr->List Tr->Prop):plPop K i r ρ Q=(wPl K ρ i r λu s=>wOwnL u λxs=>∃ ys t,xs=ys++[t]/\Pu.frz t=t/\Q t (s (.lst .o ys))):=rfl
theorem j'T (K:W.Frag) (i:Nat) (pl:PL') (D:Pd) (ρ:List Tr):pAppL K i pl D ρ=((pV ρ[i]? λu=>wOwnL u λ_=>True)/\pl ρ λt ρ1=>pV ρ1[i]? λu=>wOwnL u λxs=>xs.length<1000000/\D.nx (ρ1.set i (.lst .o (xs++[Pu.frz t])))):=rfl
theorem j'U (tab:List (Str×Tr)) (py:PE') (ρ:List Tr) (Q:Tr->Prop):pGetC tab py ρ Q=(py ρ λy=>wTx y λx=>(match tab.lookup x with | some t=>Q t | none=>False)):=rfl
theorem j'V (i:Nat) (D:Pd) (ρ:List Tr):pClr0 i D ρ=(pV ρ[i]? λt=>wTD t (D.nx (ρ.set i .hole))):=rfl
theorem r'l (f:Fl) (c:Addr) (fs:List (Str×Tr)) (Q:Tr->Prop):wNew (some (.ins f c fs)) Q=(nol (.ins f c fs)=true/\Q (.ins f c fs)):=rfl
theorem h'N (j:Nat) (ρ' ρ:List Tr) (Q:List Tr->Prop):wBack [] j ρ' ρ Q=Q ρ:=rfl
theorem j'W (hs:List (Option Nat)) (j:Nat) (ρ' ρ:List Tr) (Q:List Tr->Prop):wBack (none :: hs) j ρ' ρ Q=wBack hs (j+1) ρ' ρ Q:=rfl
theorem h'O (i:Nat) (hs:List (Option Nat)) (j:Nat) (ρ' ρ:List Tr) (Q:List Tr->Prop):wBack (some i :: hs) j ρ' ρ Q=(pV ρ'[j]? λt=>nol t=true/\wBack hs (j+1) ρ' (ρ.set i t) Q):=rfl
theorem i_l (c:Addr) (fs:List (Str×Tr)):lend (.ins .o c fs)=.ins (.l true) c (lendf fs):=rfl
theorem i_f (c:Addr) (fs:List (Str×Tr)):Pu.frz (.ins .o c fs)=.ins .f c (frzf fs):=rfl
theorem i_d (c:Addr) (fs:List (Str×Tr)):dn (.ins .o c fs)=.ins .o c (dnf fs):=rfl
theorem v'B (b:Bool) (c:Addr) (fs:List (Str×Tr)):dn (.ins (.l b) c fs)=.ins (.l false) c (dnf fs):=rfl
theorem v'C (c:Addr) (fs:List (Str×Tr)):dn (.ins .f c fs)=.ins .f c (dnf fs):=rfl
theorem v'D (c:Addr) (fs:List (Str×Tr)):Pu.frz (.ins .f c fs)=.ins .f c fs:=rfl
theorem v'E (c:Addr) (fs:List (Str×Tr)):lend (.ins .f c fs)=.ins .f c fs:=rfl
theorem v'F (b:Bool) (c:Addr) (fs:List (Str×Tr)):lend (.ins (.l b) c fs)=.ins (.l b) c fs:=rfl
theorem v'G (b:Bool) (c:Addr) (fs:List (Str×Tr)):Pu.frz (.ins (.l b) c fs)=.ins (.l b) c fs:=rfl
theorem i_o (c:Addr) (fs:List (Str×Tr)):nol (.ins .o c fs)=nolf fs:=rfl
theorem v'H (c:Addr) (fs:List (Str×Tr)):nol (.ins .f c fs)=nolf fs:=rfl
theorem i_t (c:Addr) (fs:List (Str×Tr)):nlt (.ins .o c fs)=nltf fs:=rfl
theorem v'I (c:Addr) (fs:List (Str×Tr)):nlt (.ins .f c fs)=nltf fs:=rfl
theorem v'J (f:Fl) (m:List (Key×Tr)) (Q:Tr->Prop):wLV (.dic f m) Q=Q (.lst .o (m.map (·.2))):=rfl
theorem v'K (m:List (Key×Tr)) (xs:List Tr) (Q:Prop):wTD (.tup (.dic .o m :: xs)) Q=Q:=rfl
theorem r'm (K:W.Frag) (f:Fl) (C:Addr) (fs:List (Str×Tr)) (D:Addr) (Q:Tr->Prop):wIsI K [.ins f C fs,.cl D] Q=∃ b,InsK K C/\W.kitOne K (.ref C) (.ref D)=some b/\Q (.bl b):=rfl
theorem n'P (K:W.Frag) (f:Str) (c:Addr) (fs:List (Str×Tr)) (Q:Addr->List (Str×Tr)->Prop):wOwnI K f (.ins .o c fs) Q=((Cls K c/\NoAttr K c f)/\fs.length<900/\Q c fs):=rfl
theorem h'P (f:Str) (u:Tr):putf f u []=[(f,u)]:=rfl
theorem j'X (f:Fl) (c:Addr) (xs:List (Str×Tr)) (R:Tr->Prop):wP0 (some (.ins f c xs)) R=R (.ins f c xs):=rfl
section
variable {X:Cx} {k:Md} {pos:Pos}
theorem r'n {x:Str} {c:Addr} (xs:List Str) (hg:Gl X x) (hm:X.mg x=some (.ref c)) (ht:∃ (o:Obj) (its:Array Value) (n:Nat),X.K.lookup c=some o/\o.cls=.type "tuple"/\o.data=.seq its n/\its.size<=sizeLine/\Vals (xs.map V.str) its.toList) (hd:(x == ("__debug__":Str))=false:=by decide):QE X k (.Name x pos) (pC (.tup (xs.map Tr.str))):=
 e'F (.ref c) hg hm rfl (λF B=>⟨c,_,rfl,.inr ht,j'H xs⟩) hd
end
end Pu
namespace Pu
open PySem L2 Vc Sf
section
variable {K:W.Frag} {k:Md} {lo:Nat} {us:List V} {Fb Hb F H F' H' F1 H1:Hp} {σ:St} {ρ:List Tr} {cs:Nat->Cs} {ta:TA} {ph:PA'} {hs:List (Option Nat)}
theorem Wld.holes (W:Wld K k lo us Fb Hb F H σ ρ cs) (hs:List (Option Nat)):Wld K k lo us Fb Hb F H σ (Pu.holes hs ρ) (λj=>if some j∈hs then [] else cs j):=by
 refine⟨W.g,W.z,by rw [c'b];exact W.l,λj t h=>?_,λj=>?_,λj=>?_,λa b ne p mp q mq=>?_,W.p,W.x⟩
 ·rcases c'H hs ρ h with z | ⟨z,e⟩
  ·exact .inl z
  ·rw [if_neg z];exact W.e j t e
 ·split
  ·exact .nil
  ·exact W.c j
 ·split
  ·exact .nil
  ·exact W.n j
 ·split at mp
  ·cases mp
  ·split at mq
   ·cases mq
   ·exact W.d a b ne p mp q mq
def plTupM (hs:List (Option Nat)) (ph:PA'):PL':=λρ Q=>ph ρ λts=>ts.length<=10000/\Q (.tup ts) (holes hs ρ)
theorem n'Q (nd:(hs.filterMap id).Nodup) (h:SimH K k lo hs ta ph):SimL K k lo (tTup ta) (plTupM hs ph):=λus Fb Hb F H σ ρ cs Q Q' W p q=>by
 refine h us Fb Hb F H σ ρ cs _ _ W p λts vs F1 H1 l1 W1 a p1=>?_
 obtain⟨c1,a1,a2,a3,a4,a5⟩:=a.rs W1 nd
 refine⟨by rw [a1.length];exact b'u (Nat.le_trans p1.1 (by decide)),λx hx=>?_⟩
 obtain⟨F2,g,r,c2⟩:=d'q W1.g.s a1 a2 hx
 refine q _ _ F2 _ _ _ c1 ⟨l1.trans g.le,(W1.holes hs).gr g,r,c2,a3,λi p mp q mq=>?_⟩ p1.2
 split at mp
 ·cases mp
 ·rename_i hi
  obtain⟨j,b1,b2⟩:=a4 q mq
  exact W1.d i j (λz=>hi (by rw [z];exact b1)) p mp q b2
def plMv (i:Nat):PL':=λρ Q=>pV ρ[i]? λt=>Q t (ρ.set i .hole)
theorem t'g {i:Nat}:SimL K k lo (tVar i) (plMv i):=λus Fb Hb F H σ ρ cs Q Q' W p q=>by
 obtain⟨t,e1,e2,p⟩:=d'E p
 rcases W.e i t e1 with z | ⟨v,h1,h2⟩
 ·exact absurd z e2
 refine⟨v,h1,q t v F H _ _ (cs i) ⟨Le.refl _,W.hole (i:=i),h2,W.c i,W.n i,λj p mp q mq=>?_⟩ p⟩
 split at mp
 ·cases mp
 ·rename_i hj
  exact W.d j i hj p mp q mq
theorem h'Q (hs:List (Option Nat)) (ph:PA') (ρ:List Tr) (Q:Tr->List Tr->Prop):plTupM hs ph ρ Q=(ph ρ λts=>ts.length<=10000/\Q (.tup ts) (holes hs ρ)):=rfl
theorem n'R (i:Nat) (ρ:List Tr) (Q:Tr->List Tr->Prop):plMv i ρ Q=(pV ρ[i]? λt=>Q t (ρ.set i .hole)):=rfl
end
section
variable {X:Cx} {k:Md} {lo:Nat} {es:List Expr} {ph:PA'} {hs:List (Option Nat)} {pos:Pos}
theorem t'h {x1} (h:QH X k lo es hs ph) (nd:(hs.filterMap id).Nodup:=by decide):QL X k lo (.Tuple es x1 pos) (plTupM hs ph):=by
 obtain⟨te,h1,h2⟩:=h.h
 exact⟨_,g'z h1,n'Q nd h2⟩
theorem w'B (i:Nat) {x:Str} (hN:X.N[i]?=some x:=by rfl) (hv:Vis X.env.scope x:=by first | exact Or.inl rfl | exact Or.inr (Or.inl rfl) | exact Or.inr (Or.inr rfl)) (hd:(x == ("__debug__":Str))=false:=by decide) (hcd:(x == ("__classdict__":Str))=false:=by decide):QL X k lo (.Name x pos) (plMv i):=⟨_,c'i hN hv hd hcd,t'g⟩
end
theorem le_none {F:Hp}:Le (λ_=>none) F:=λa u _ h=>by
 rcases h with h | ⟨o,h⟩
 ·cases h
 ·cases h
theorem h'R {K:W.Frag} {F:Hp} {B:Bool->Hp}:∀ {vs:List V} {xs:List (Str×Rat)},Al (r2 K rS (rFr K)) (λ_=>none) vs xs->Rs K F B (xs.map Enc.t) vs []
 | [], [], _ => ⟨rfl, rfl⟩
 | v :: vs, (x, q) :: xs, h => by
  obtain⟨⟨a,u,f,h0,h1,h2,g,h5,h3⟩,h4⟩:=h
  subst h0
  subst h5
  exact⟨_,vs,[],[],rfl,rfl,⟨a,[u,.ref g],rfl,le_none.tup h1,u,[.ref g],[],[],rfl,rfl,⟨h2,rfl⟩,.ref g,[],[],[],rfl,rfl,⟨g,[.int q.num,.int (q.den:Int)],rfl,le_none.tup h3,_,_,[],[],rfl,rfl,⟨rfl,rfl⟩,_,_,[],[],rfl,rfl,⟨rfl,rfl⟩,rfl,rfl⟩,rfl,rfl⟩,h'R h4⟩
 | [], _ :: _, h => h.elim
 | _ :: _, [], h => h.elim
def tabT (m:List (Str×List (Str×Rat))):List (Str×Tr):=m.map λp=>(p.1,.tup (p.2.map Enc.t))
theorem p'C {m:List (Str×List (Str×Rat))} {x:Str} {t:Tr} (h:(tabT m).lookup x=some t):∃ xs,(x,xs)∈m/\t=.tup (xs.map Enc.t):=by
 induction m with
 | nil => cases h
 | cons p r ih =>
  have h:((p.1,Tr.tup (p.2.map Enc.t)) :: tabT r).lookup x=some t:=h
  rw [List.lookup_cons] at h
  cases e:x == p.1 with
  | true=>
   rw [e] at h
   cases h
   exact⟨p.2,by rw [eq_of_beq e];exact .head _,rfl⟩
  | false=>
   rw [e] at h
   obtain⟨xs,a,b⟩:=ih h
   exact⟨xs,.tail _ a,b⟩
theorem v'L {w:World} {K:W.Frag} {c:Addr} {m:List (Str×List (Str×Rat))} {X:Cx} {k:Md} {e:Expr} {pe:PE'} (h:∃ kvs,KD w K c kvs/\∀ x xs,(x,xs)∈m->∃ a vs,kvs.lookup x=some (.ref a)/\SqT K (λ_=>none) a vs/\Al (r2 K rS (rFr K)) (λ_=>none) vs xs)
  (f:∀ kvs,KD w K c kvs->(∀ x t,(tabT m).lookup x=some t->∃ a,kvs.lookup x=some (.ref a)/\∀ F B,R K F B t (.ref a) [])->QE X k e pe):QE X k e pe:=by
 obtain⟨kvs,kd,al⟩:=h
 refine f kvs kd λx t ht=>?_
 obtain⟨xs,mx,rfl⟩:=p'C ht
 obtain⟨a,vs,e1,e2,e3⟩:=al x xs mx
 exact⟨a,e1,λF B=>⟨a,vs,rfl,le_none.tup e2,h'R e3⟩⟩
end Pu
namespace Sf
open PySem L2 Vc Pu
def inClass (s:Stmt) (j:Nat):Stmt:=match s with
 | .ClassDef _ _ _ body _ _ _ _ _ _ _ => body.getD j (.Pass ⟨0, 0, 0, 0⟩)
 | _ => .Pass ⟨0, 0, 0, 0⟩
def top (i:Nat):Stmt:=PySem.Challenge.pw_springframe_k11_terms_as_sums.main.body.getD i (.Pass ⟨0,0,0,0⟩)
abbrev s_part:Stmt:=top 6
abbrev s_greatest_divisor:Stmt:=top 7
abbrev s_plus:Stmt:=top 8
abbrev s_times:Stmt:=top 9
abbrev s_made:Stmt:=top 12
abbrev s_added:Stmt:=top 13
abbrev s_reduced:Stmt:=top 14
abbrev s_scaled:Stmt:=top 15
abbrev s_unknown_of:Stmt:=top 21
abbrev s_way_of:Stmt:=top 22
abbrev s_law_cell_at:Stmt:=top 30
abbrev s_law_mixed:Stmt:=top 31
abbrev s_law_shared:Stmt:=top 32
abbrev s_law_lowest:Stmt:=top 33
abbrev s_law_number:Stmt:=top 34
abbrev s_law_name:Stmt:=top 35
abbrev s_law_edge:Stmt:=top 36
abbrev s_law_tree:Stmt:=top 37
abbrev s_law_term:Stmt:=top 38
abbrev s_law_unknowns:Stmt:=top 39
abbrev s_law_walk:Stmt:=top 40
abbrev s_law_due:Stmt:=top 41
abbrev s_law_one_class:Stmt:=top 42
abbrev s_law_right:Stmt:=top 43
abbrev s_law:Stmt:=top 44
abbrev s_Number___init__:Stmt:=inClass (top 24) 0
abbrev s_Term_edges:Stmt:=inClass (top 23) 0
abbrev s_Term_ways:Stmt:=inClass (top 23) 1
abbrev s_Number_worth:Stmt:=inClass (top 24) 1
abbrev s_Edge___init__:Stmt:=inClass (top 25) 0
abbrev s_Edge_edges:Stmt:=inClass (top 25) 1
abbrev s_Edge_worth:Stmt:=inClass (top 25) 2
abbrev s_Times___init__:Stmt:=inClass (top 26) 0
abbrev s_Times_edges:Stmt:=inClass (top 26) 1
abbrev s_Times_worth:Stmt:=inClass (top 26) 2
abbrev s_Plus___init__:Stmt:=inClass (top 27) 0
abbrev s_Plus_edges:Stmt:=inClass (top 27) 1
abbrev s_Plus_worth:Stmt:=inClass (top 27) 2
abbrev s_Minus___init__:Stmt:=inClass (top 28) 0
abbrev s_Minus_edges:Stmt:=inClass (top 28) 1
abbrev s_Minus_worth:Stmt:=inClass (top 28) 2
theorem sc_part:FnScope ["top","bottom","divisor"] ["top","bottom"] (defScope s_part):=⟨rfl,rfl,rfl,by decide +kernel,rfl,by decide +kernel,by decide +kernel⟩
theorem sc_greatest_divisor:FnScope ["one","other","remainder"] ["one","other"] (defScope s_greatest_divisor):=⟨rfl,rfl,rfl,by decide +kernel,rfl,by decide +kernel,by decide +kernel⟩
theorem t'i:FnScope ["one","other"] ["one","other"] (defScope s_plus):=⟨rfl,rfl,rfl,by decide +kernel,rfl,by decide +kernel,by decide +kernel⟩
theorem p'D:FnScope ["one","other"] ["one","other"] (defScope s_times):=⟨rfl,rfl,rfl,by decide +kernel,rfl,by decide +kernel,by decide +kernel⟩
theorem sc_made:FnScope ["parts","rest","kept","unknown","number"] ["parts","rest"] (defScope s_made):=⟨rfl,rfl,rfl,by decide +kernel,rfl,by decide +kernel,by decide +kernel⟩
theorem sc_added:FnScope ["one","other","together","unknown","number"] ["one","other"] (defScope s_added):=⟨rfl,rfl,rfl,by decide +kernel,rfl,by decide +kernel,by decide +kernel⟩
theorem k'S:FnScope ["one","other"] ["one","other"] (defScope s_reduced):=⟨rfl,rfl,rfl,by decide +kernel,rfl,by decide +kernel,by decide +kernel⟩
theorem sc_scaled:FnScope ["one","number","grown","unknown","fraction"] ["one","number"] (defScope s_scaled):=⟨rfl,rfl,rfl,by decide +kernel,rfl,by decide +kernel,by decide +kernel⟩
theorem g'd:FnScope ["word","name"] ["word","name"] (defScope s_unknown_of):=⟨rfl,rfl,rfl,by decide +kernel,rfl,by decide +kernel,by decide +kernel⟩
theorem n'S:FnScope ["word"] ["word"] (defScope s_way_of):=⟨rfl,rfl,rfl,by decide +kernel,rfl,by decide +kernel,by decide +kernel⟩
theorem f'm:FnScope ["_law_script","_law_k"] ["_law_script","_law_k"] (defScope s_law_cell_at):=⟨rfl,rfl,rfl,by decide +kernel,rfl,by decide +kernel,by decide +kernel⟩
theorem sc_law_mixed:FnScope ["_law_cell","_law_k","_law_number_here"] ["_law_cell","_law_k"] (defScope s_law_mixed):=⟨rfl,rfl,rfl,by decide +kernel,rfl,by decide +kernel,by decide +kernel⟩
theorem sc_law_shared:FnScope ["_law_one","_law_other"] ["_law_one","_law_other"] (defScope s_law_shared):=⟨rfl,rfl,rfl,by decide +kernel,rfl,by decide +kernel,by decide +kernel⟩
theorem sc_law_lowest:FnScope ["_law_top","_law_bottom","_law_shared_here"] ["_law_top","_law_bottom"] (defScope s_law_lowest):=⟨rfl,rfl,rfl,by decide +kernel,rfl,by decide +kernel,by decide +kernel⟩
theorem sc_law_number:FnScope ["_law_cell","_law_top"] ["_law_cell"] (defScope s_law_number):=⟨rfl,rfl,rfl,by decide +kernel,rfl,by decide +kernel,by decide +kernel⟩
theorem sc_law_name:FnScope ["_law_first","_law_k","_law_word","_law_at","_law_place"] ["_law_first","_law_k"] (defScope s_law_name):=⟨rfl,rfl,rfl,by decide +kernel,rfl,by decide +kernel,by decide +kernel⟩
theorem sc_law_edge:FnScope ["_law_cell","_law_first","_law_words","_law_way","_law_word"] ["_law_cell","_law_first"] (defScope s_law_edge):=⟨rfl,rfl,rfl,by decide +kernel,rfl,by decide +kernel,by decide +kernel⟩
theorem sc_law_tree:FnScope ["_law_cells","_law_first","_law_held","_law_cell","_law_way","_law_other"] ["_law_cells","_law_first"] (defScope s_law_tree):=⟨rfl,rfl,rfl,by decide +kernel,rfl,by decide +kernel,by decide +kernel⟩
theorem d'R:FnScope ["_law_tree_here"] ["_law_tree_here"] (defScope s_law_term):=⟨rfl,rfl,rfl,by decide +kernel,rfl,by decide +kernel,by decide +kernel⟩
theorem sc_law_unknowns:FnScope ["_law_word","_law_name_here","_law_begin","_law_size","_law_found"] ["_law_word","_law_name_here"] (defScope s_law_unknowns):=⟨rfl,rfl,rfl,by decide +kernel,rfl,by decide +kernel,by decide +kernel⟩
theorem sc_law_walk:FnScope ["_law_tree_here","_law_by","_law_parts","_law_words","_law_unknown","_law_many","_law_sign"] ["_law_tree_here","_law_by","_law_parts","_law_words"] (defScope s_law_walk):=⟨rfl,rfl,rfl,by decide +kernel,rfl,by decide +kernel,by decide +kernel⟩
theorem sc_law_due:FnScope ["_law_tree_here","_law_parts","_law_words","_law_due_here","_law_rest","_law_unknown","_law_some","_law_whole","_law_one","_law_down","_law_ways"] ["_law_tree_here"] (defScope s_law_due):=⟨rfl,rfl,rfl,by decide +kernel,rfl,by decide +kernel,by decide +kernel⟩
theorem sc_law_one_class:FnScope ["_law_term_here","_law_found"] ["_law_term_here"] (defScope s_law_one_class):=⟨rfl,rfl,rfl,by decide +kernel,rfl,by decide +kernel,by decide +kernel⟩
theorem sc_law_right:FnScope ["_law_term_here","_law_due_here","_law_rest","_law_ways","_law_found","_law_number_here","_law_told"] ["_law_term_here","_law_due_here","_law_rest","_law_ways"] (defScope s_law_right):=⟨rfl,rfl,rfl,by decide +kernel,rfl,by decide +kernel,by decide +kernel⟩
theorem sc_law:FnScope ["_law_script","_law_first","_law_tree_here","_law_term_here","_law_due_here","_law_rest","_law_ways"] ["_law_script"] (defScope s_law):=⟨rfl,rfl,rfl,by decide +kernel,rfl,by decide +kernel,by decide +kernel⟩
theorem d'g:FnScope ["self","number"] ["self","number"] (defScope s_Number___init__):=⟨rfl,rfl,rfl,by decide +kernel,rfl,by decide +kernel,by decide +kernel⟩
theorem g'e:FnScope ["self"] ["self"] (defScope s_Term_edges):=⟨rfl,rfl,rfl,by decide +kernel,rfl,by decide +kernel,by decide +kernel⟩
theorem h'S:FnScope ["self"] ["self"] (defScope s_Term_ways):=⟨rfl,rfl,rfl,by decide +kernel,rfl,by decide +kernel,by decide +kernel⟩
theorem e'K:FnScope ["self"] ["self"] (defScope s_Number_worth):=⟨rfl,rfl,rfl,by decide +kernel,rfl,by decide +kernel,by decide +kernel⟩
theorem e'f:FnScope ["self","word","name"] ["self","word","name"] (defScope s_Edge___init__):=⟨rfl,rfl,rfl,by decide +kernel,rfl,by decide +kernel,by decide +kernel⟩
theorem g'f:FnScope ["self"] ["self"] (defScope s_Edge_edges):=⟨rfl,rfl,rfl,by decide +kernel,rfl,by decide +kernel,by decide +kernel⟩
theorem sc_Edge_worth:FnScope ["self","parts","word","share"] ["self"] (defScope s_Edge_worth):=⟨rfl,rfl,rfl,by decide +kernel,rfl,by decide +kernel,by decide +kernel⟩
theorem d'L:FnScope ["self","number","inner"] ["self","number","inner"] (defScope s_Times___init__):=⟨rfl,rfl,rfl,by decide +kernel,rfl,by decide +kernel,by decide +kernel⟩
theorem c'q:FnScope ["self"] ["self"] (defScope s_Times_edges):=⟨rfl,rfl,rfl,by decide +kernel,rfl,by decide +kernel,by decide +kernel⟩
theorem c'r:FnScope ["self"] ["self"] (defScope s_Times_worth):=⟨rfl,rfl,rfl,by decide +kernel,rfl,by decide +kernel,by decide +kernel⟩
theorem e'g:FnScope ["self","one","other"] ["self","one","other"] (defScope s_Plus___init__):=⟨rfl,rfl,rfl,by decide +kernel,rfl,by decide +kernel,by decide +kernel⟩
theorem c'N:FnScope ["self"] ["self"] (defScope s_Plus_edges):=⟨rfl,rfl,rfl,by decide +kernel,rfl,by decide +kernel,by decide +kernel⟩
theorem c'O:FnScope ["self"] ["self"] (defScope s_Plus_worth):=⟨rfl,rfl,rfl,by decide +kernel,rfl,by decide +kernel,by decide +kernel⟩
theorem d'M:FnScope ["self","one","other"] ["self","one","other"] (defScope s_Minus___init__):=⟨rfl,rfl,rfl,by decide +kernel,rfl,by decide +kernel,by decide +kernel⟩
theorem c's:FnScope ["self"] ["self"] (defScope s_Minus_edges):=⟨rfl,rfl,rfl,by decide +kernel,rfl,by decide +kernel,by decide +kernel⟩
theorem c't:FnScope ["self"] ["self"] (defScope s_Minus_worth):=⟨rfl,rfl,rfl,by decide +kernel,rfl,by decide +kernel,by decide +kernel⟩
def shrT:List (Str×List (Str×Rat)):=[("left",[("left",Rat.divInt 1 1)]),("width",[("width",Rat.divInt 1 1)]),("right",[("left",Rat.divInt 1 1),("width",Rat.divInt 1 1)]),("middle",[("left",Rat.divInt 1 1),("width",Rat.divInt 1 2)]),("gap",[("gap",Rat.divInt 1 1)]),("top",[("top",Rat.divInt 1 1)]),("height",[("height",Rat.divInt 1 1)]),("bottom",[("top",Rat.divInt 1 1),("height",Rat.divInt 1 1)]),("centre",[("top",Rat.divInt 1 1),("height",Rat.divInt 1 2)]),("drop",[("drop",Rat.divInt 1 1)])]
def KD_WORTHS (w:World) (K:W.Frag) (c:Addr):Prop:=∃ kvs,KD w K c kvs/\∀ x xs,(x,xs)∈shrT->∃ a vs,kvs.lookup x=some (.ref a)/\SqT K (λ_=>none) a vs/\Al (r2 K rS (rFr K)) (λ_=>none) vs xs
theorem b'b {K:W.Frag} {a f:Addr} {y:Str} {t b:Int} {o p:Obj} {n m:Nat} {x u v:Tok} (h1:K.lookup a=some o) (c1:o.cls=.type "tuple") (d1:o.data=.seq #[Value.str y x,Value.ref f] n) (h2:K.lookup f=some p) (c2:p.cls=.type "tuple") (d2:p.data=.seq #[Value.int t u,Value.int b v] m) (e:fr (Rat.divInt t b)=[.int t,.int b]):r2 K rS (rFr K) (λ_=>none) (.ref a) (y,Rat.divInt t b):=
 ⟨a,.str y,.ref f,rfl,.inr ⟨_,_,_,h1,c1,d1,(by show 2<=sizeLine;decide),.cons ⟨_,rfl⟩ (.cons rfl .nil)⟩,rfl,⟨f,rfl,.inr ⟨_,_,_,h2,c2,d2,(by show 2<=sizeLine;decide),by rw [e];exact .cons ⟨_,rfl⟩ (.cons ⟨_,rfl⟩ .nil)⟩⟩⟩
theorem kd_WORTHS_mk {w:World} {K:W.Frag} {kc_WORTHS:Addr} {kp:Nat} {ka0:Addr} {kt0:Tok} {kd0:Option Addr} {ks0:Array (Option Value)} {kz0:Nat} {ka1:Addr} {kt1:Tok} {kd1:Option Addr} {ks1:Array (Option Value)} {kz1:Nat} {ka2:Addr} {kt2:Tok} {kd2:Option Addr} {ks2:Array (Option Value)} {kz2:Nat} {ka3:Addr} {kt3:Tok} {kd3:Option Addr} {ks3:Array (Option Value)} {kz3:Nat} {ka4:Addr} {kt4:Tok} {kd4:Option Addr} {ks4:Array (Option Value)} {kz4:Nat} {ka5:Addr} {kt5:Tok} {kd5:Option Addr} {ks5:Array (Option Value)} {kz5:Nat} {ka6:Addr} {kt6:Tok} {kd6:Option Addr} {ks6:Array (Option Value)} {kz6:Nat} {ka7:Addr} {kt7:Tok} {kd7:Option Addr} {ks7:Array (Option Value)} {kz7:Nat} {ka8:Addr} {kt8:Tok} {kd8:Option Addr} {ks8:Array (Option Value)} {kz8:Nat} {ka9:Addr} {kt9:Tok} {kd9:Option Addr} {ks9:Array (Option Value)} {kz9:Nat} {kb0_0 kf0_0:Addr} {kx0_0 ky0_0 kw0_0:Tok} {kg0_0 kh0_0:Option Addr} {kr0_0 kv0_0:Array (Option Value)} {ku0_0 ko0_0:Nat} {kb1_0 kf1_0:Addr} {kx1_0 ky1_0 kw1_0:Tok} {kg1_0 kh1_0:Option Addr} {kr1_0 kv1_0:Array (Option Value)} {ku1_0 ko1_0:Nat} {kb2_0 kf2_0:Addr} {kx2_0 ky2_0 kw2_0:Tok} {kg2_0 kh2_0:Option Addr} {kr2_0 kv2_0:Array (Option Value)} {ku2_0 ko2_0:Nat} {kb2_1 kf2_1:Addr} {kx2_1 ky2_1 kw2_1:Tok} {kg2_1 kh2_1:Option Addr} {kr2_1 kv2_1:Array (Option Value)} {ku2_1 ko2_1:Nat} {kb3_0 kf3_0:Addr} {kx3_0 ky3_0 kw3_0:Tok} {kg3_0 kh3_0:Option Addr} {kr3_0 kv3_0:Array (Option Value)} {ku3_0 ko3_0:Nat} {kb3_1 kf3_1:Addr} {kx3_1 ky3_1 kw3_1:Tok} {kg3_1 kh3_1:Option Addr} {kr3_1 kv3_1:Array (Option Value)} {ku3_1 ko3_1:Nat} {kb4_0 kf4_0:Addr} {kx4_0 ky4_0 kw4_0:Tok} {kg4_0 kh4_0:Option Addr} {kr4_0 kv4_0:Array (Option Value)} {ku4_0 ko4_0:Nat} {kb5_0 kf5_0:Addr} {kx5_0 ky5_0 kw5_0:Tok} {kg5_0 kh5_0:Option Addr} {kr5_0 kv5_0:Array (Option Value)} {ku5_0 ko5_0:Nat} {kb6_0 kf6_0:Addr} {kx6_0 ky6_0 kw6_0:Tok} {kg6_0 kh6_0:Option Addr} {kr6_0 kv6_0:Array (Option Value)} {ku6_0 ko6_0:Nat} {kb7_0 kf7_0:Addr} {kx7_0 ky7_0 kw7_0:Tok} {kg7_0 kh7_0:Option Addr} {kr7_0 kv7_0:Array (Option Value)} {ku7_0 ko7_0:Nat} {kb7_1 kf7_1:Addr} {kx7_1 ky7_1 kw7_1:Tok} {kg7_1 kh7_1:Option Addr} {kr7_1 kv7_1:Array (Option Value)} {ku7_1 ko7_1:Nat} {kb8_0 kf8_0:Addr} {kx8_0 ky8_0 kw8_0:Tok} {kg8_0 kh8_0:Option Addr} {kr8_0 kv8_0:Array (Option Value)} {ku8_0 ko8_0:Nat} {kb8_1 kf8_1:Addr} {kx8_1 ky8_1 kw8_1:Tok} {kg8_1 kh8_1:Option Addr} {kr8_1 kv8_1:Array (Option Value)} {ku8_1 ko8_1:Nat} {kb9_0 kf9_0:Addr} {kx9_0 ky9_0 kw9_0:Tok} {kg9_0 kh9_0:Option Addr} {kr9_0 kv9_0:Array (Option Value)} {ku9_0 ko9_0:Nat}
 (kl:K.lookup kc_WORTHS=some { cls:=.type "dict",data:=.dict #[⟨PyData.keyHash w.params "left",.str "left" kt0,.ref ka0⟩,⟨PyData.keyHash w.params "width",.str "width" kt1,.ref ka1⟩,⟨PyData.keyHash w.params "right",.str "right" kt2,.ref ka2⟩,⟨PyData.keyHash w.params "middle",.str "middle" kt3,.ref ka3⟩,⟨PyData.keyHash w.params "gap",.str "gap" kt4,.ref ka4⟩,⟨PyData.keyHash w.params "top",.str "top" kt5,.ref ka5⟩,⟨PyData.keyHash w.params "height",.str "height" kt6,.ref ka6⟩,⟨PyData.keyHash w.params "bottom",.str "bottom" kt7,.ref ka7⟩,⟨PyData.keyHash w.params "centre",.str "centre" kt8,.ref ka8⟩,⟨PyData.keyHash w.params "drop",.str "drop" kt9,.ref ka9⟩] kp })
 (kl0:K.lookup ka0=some ⟨.type "tuple",kd0,.seq #[Value.ref kb0_0] kz0,ks0⟩)
 (km0_0:K.lookup kb0_0=some ⟨.type "tuple",kg0_0,.seq #[Value.str "left" kx0_0,Value.ref kf0_0] ku0_0,kr0_0⟩)
 (kq0_0:K.lookup kf0_0=some ⟨.type "tuple",kh0_0,.seq #[Value.int 1 ky0_0,Value.int 1 kw0_0] ko0_0,kv0_0⟩)
 (kl1:K.lookup ka1=some ⟨.type "tuple",kd1,.seq #[Value.ref kb1_0] kz1,ks1⟩)
 (km1_0:K.lookup kb1_0=some ⟨.type "tuple",kg1_0,.seq #[Value.str "width" kx1_0,Value.ref kf1_0] ku1_0,kr1_0⟩)
 (kq1_0:K.lookup kf1_0=some ⟨.type "tuple",kh1_0,.seq #[Value.int 1 ky1_0,Value.int 1 kw1_0] ko1_0,kv1_0⟩)
 (kl2:K.lookup ka2=some ⟨.type "tuple",kd2,.seq #[Value.ref kb2_0,Value.ref kb2_1] kz2,ks2⟩)
 (km2_0:K.lookup kb2_0=some ⟨.type "tuple",kg2_0,.seq #[Value.str "left" kx2_0,Value.ref kf2_0] ku2_0,kr2_0⟩)
 (kq2_0:K.lookup kf2_0=some ⟨.type "tuple",kh2_0,.seq #[Value.int 1 ky2_0,Value.int 1 kw2_0] ko2_0,kv2_0⟩)
 (km2_1:K.lookup kb2_1=some ⟨.type "tuple",kg2_1,.seq #[Value.str "width" kx2_1,Value.ref kf2_1] ku2_1,kr2_1⟩)
 (kq2_1:K.lookup kf2_1=some ⟨.type "tuple",kh2_1,.seq #[Value.int 1 ky2_1,Value.int 1 kw2_1] ko2_1,kv2_1⟩)
 (kl3:K.lookup ka3=some ⟨.type "tuple",kd3,.seq #[Value.ref kb3_0,Value.ref kb3_1] kz3,ks3⟩)
 (km3_0:K.lookup kb3_0=some ⟨.type "tuple",kg3_0,.seq #[Value.str "left" kx3_0,Value.ref kf3_0] ku3_0,kr3_0⟩)
 (kq3_0:K.lookup kf3_0=some ⟨.type "tuple",kh3_0,.seq #[Value.int 1 ky3_0,Value.int 1 kw3_0] ko3_0,kv3_0⟩)
 (km3_1:K.lookup kb3_1=some ⟨.type "tuple",kg3_1,.seq #[Value.str "width" kx3_1,Value.ref kf3_1] ku3_1,kr3_1⟩)
 (kq3_1:K.lookup kf3_1=some ⟨.type "tuple",kh3_1,.seq #[Value.int 1 ky3_1,Value.int 2 kw3_1] ko3_1,kv3_1⟩)
 (kl4:K.lookup ka4=some ⟨.type "tuple",kd4,.seq #[Value.ref kb4_0] kz4,ks4⟩)
 (km4_0:K.lookup kb4_0=some ⟨.type "tuple",kg4_0,.seq #[Value.str "gap" kx4_0,Value.ref kf4_0] ku4_0,kr4_0⟩)
 (kq4_0:K.lookup kf4_0=some ⟨.type "tuple",kh4_0,.seq #[Value.int 1 ky4_0,Value.int 1 kw4_0] ko4_0,kv4_0⟩)
 (kl5:K.lookup ka5=some ⟨.type "tuple",kd5,.seq #[Value.ref kb5_0] kz5,ks5⟩)
 (km5_0:K.lookup kb5_0=some ⟨.type "tuple",kg5_0,.seq #[Value.str "top" kx5_0,Value.ref kf5_0] ku5_0,kr5_0⟩)
 (kq5_0:K.lookup kf5_0=some ⟨.type "tuple",kh5_0,.seq #[Value.int 1 ky5_0,Value.int 1 kw5_0] ko5_0,kv5_0⟩)
 (kl6:K.lookup ka6=some ⟨.type "tuple",kd6,.seq #[Value.ref kb6_0] kz6,ks6⟩)
 (km6_0:K.lookup kb6_0=some ⟨.type "tuple",kg6_0,.seq #[Value.str "height" kx6_0,Value.ref kf6_0] ku6_0,kr6_0⟩)
 (kq6_0:K.lookup kf6_0=some ⟨.type "tuple",kh6_0,.seq #[Value.int 1 ky6_0,Value.int 1 kw6_0] ko6_0,kv6_0⟩)
 (kl7:K.lookup ka7=some ⟨.type "tuple",kd7,.seq #[Value.ref kb7_0,Value.ref kb7_1] kz7,ks7⟩)
 (km7_0:K.lookup kb7_0=some ⟨.type "tuple",kg7_0,.seq #[Value.str "top" kx7_0,Value.ref kf7_0] ku7_0,kr7_0⟩)
 (kq7_0:K.lookup kf7_0=some ⟨.type "tuple",kh7_0,.seq #[Value.int 1 ky7_0,Value.int 1 kw7_0] ko7_0,kv7_0⟩)
 (km7_1:K.lookup kb7_1=some ⟨.type "tuple",kg7_1,.seq #[Value.str "height" kx7_1,Value.ref kf7_1] ku7_1,kr7_1⟩)
 (kq7_1:K.lookup kf7_1=some ⟨.type "tuple",kh7_1,.seq #[Value.int 1 ky7_1,Value.int 1 kw7_1] ko7_1,kv7_1⟩)
 (kl8:K.lookup ka8=some ⟨.type "tuple",kd8,.seq #[Value.ref kb8_0,Value.ref kb8_1] kz8,ks8⟩)
 (km8_0:K.lookup kb8_0=some ⟨.type "tuple",kg8_0,.seq #[Value.str "top" kx8_0,Value.ref kf8_0] ku8_0,kr8_0⟩)
 (kq8_0:K.lookup kf8_0=some ⟨.type "tuple",kh8_0,.seq #[Value.int 1 ky8_0,Value.int 1 kw8_0] ko8_0,kv8_0⟩)
 (km8_1:K.lookup kb8_1=some ⟨.type "tuple",kg8_1,.seq #[Value.str "height" kx8_1,Value.ref kf8_1] ku8_1,kr8_1⟩)
 (kq8_1:K.lookup kf8_1=some ⟨.type "tuple",kh8_1,.seq #[Value.int 1 ky8_1,Value.int 2 kw8_1] ko8_1,kv8_1⟩)
 (kl9:K.lookup ka9=some ⟨.type "tuple",kd9,.seq #[Value.ref kb9_0] kz9,ks9⟩)
 (km9_0:K.lookup kb9_0=some ⟨.type "tuple",kg9_0,.seq #[Value.str "drop" kx9_0,Value.ref kf9_0] ku9_0,kr9_0⟩)
 (kq9_0:K.lookup kf9_0=some ⟨.type "tuple",kh9_0,.seq #[Value.int 1 ky9_0,Value.int 1 kw9_0] ko9_0,kv9_0⟩)
 : KD_WORTHS w K kc_WORTHS:=by
 have f1_1:fr (Rat.divInt 1 1)=[.int 1,.int 1]:=by rw [l'F (t:=1) (b:=1) (by decide +kernel) (by decide +kernel)]
 have f1_2:fr (Rat.divInt 1 2)=[.int 1,.int 2]:=by rw [l'F (t:=1) (b:=2) (by decide +kernel) (by decide +kernel)]
 refine⟨_,⟨_,_,kl,(.cons (.cons (.cons (.cons (.cons (.cons (.cons (.cons (.cons (.cons .nil)))))))))),by show (["left","width","right","middle","gap","top","height","bottom","centre","drop"]:List Str).Nodup;decide +kernel⟩,λx xs h=>?_⟩
 simp only [shrT,List.mem_cons,List.not_mem_nil,or_false,Prod.mk.injEq] at h
 rcases h with ⟨rfl,rfl⟩ | ⟨rfl,rfl⟩ | ⟨rfl,rfl⟩ | ⟨rfl,rfl⟩ | ⟨rfl,rfl⟩ | ⟨rfl,rfl⟩ | ⟨rfl,rfl⟩ | ⟨rfl,rfl⟩ | ⟨rfl,rfl⟩ | ⟨rfl,rfl⟩
 ·exact⟨ka0,[V.ref kb0_0],rfl,.inr ⟨_,_,_,kl0,rfl,rfl,(by show 1<=sizeLine;decide),(.cons rfl .nil)⟩,⟨b'b km0_0 rfl rfl kq0_0 rfl rfl f1_1,True.intro⟩⟩
 ·exact⟨ka1,[V.ref kb1_0],rfl,.inr ⟨_,_,_,kl1,rfl,rfl,(by show 1<=sizeLine;decide),(.cons rfl .nil)⟩,⟨b'b km1_0 rfl rfl kq1_0 rfl rfl f1_1,True.intro⟩⟩
 ·exact⟨ka2,[V.ref kb2_0,V.ref kb2_1],rfl,.inr ⟨_,_,_,kl2,rfl,rfl,(by show 2<=sizeLine;decide),(.cons rfl (.cons rfl .nil))⟩,⟨b'b km2_0 rfl rfl kq2_0 rfl rfl f1_1,⟨b'b km2_1 rfl rfl kq2_1 rfl rfl f1_1,True.intro⟩⟩⟩
 ·exact⟨ka3,[V.ref kb3_0,V.ref kb3_1],rfl,.inr ⟨_,_,_,kl3,rfl,rfl,(by show 2<=sizeLine;decide),(.cons rfl (.cons rfl .nil))⟩,⟨b'b km3_0 rfl rfl kq3_0 rfl rfl f1_1,⟨b'b km3_1 rfl rfl kq3_1 rfl rfl f1_2,True.intro⟩⟩⟩
 ·exact⟨ka4,[V.ref kb4_0],rfl,.inr ⟨_,_,_,kl4,rfl,rfl,(by show 1<=sizeLine;decide),(.cons rfl .nil)⟩,⟨b'b km4_0 rfl rfl kq4_0 rfl rfl f1_1,True.intro⟩⟩
 ·exact⟨ka5,[V.ref kb5_0],rfl,.inr ⟨_,_,_,kl5,rfl,rfl,(by show 1<=sizeLine;decide),(.cons rfl .nil)⟩,⟨b'b km5_0 rfl rfl kq5_0 rfl rfl f1_1,True.intro⟩⟩
 ·exact⟨ka6,[V.ref kb6_0],rfl,.inr ⟨_,_,_,kl6,rfl,rfl,(by show 1<=sizeLine;decide),(.cons rfl .nil)⟩,⟨b'b km6_0 rfl rfl kq6_0 rfl rfl f1_1,True.intro⟩⟩
 ·exact⟨ka7,[V.ref kb7_0,V.ref kb7_1],rfl,.inr ⟨_,_,_,kl7,rfl,rfl,(by show 2<=sizeLine;decide),(.cons rfl (.cons rfl .nil))⟩,⟨b'b km7_0 rfl rfl kq7_0 rfl rfl f1_1,⟨b'b km7_1 rfl rfl kq7_1 rfl rfl f1_1,True.intro⟩⟩⟩
 ·exact⟨ka8,[V.ref kb8_0,V.ref kb8_1],rfl,.inr ⟨_,_,_,kl8,rfl,rfl,(by show 2<=sizeLine;decide),(.cons rfl (.cons rfl .nil))⟩,⟨b'b km8_0 rfl rfl kq8_0 rfl rfl f1_1,⟨b'b km8_1 rfl rfl kq8_1 rfl rfl f1_2,True.intro⟩⟩⟩
 ·exact⟨ka9,[V.ref kb9_0],rfl,.inr ⟨_,_,_,kl9,rfl,rfl,(by show 1<=sizeLine;decide),(.cons rfl .nil)⟩,⟨b'b km9_0 rfl rfl kq9_0 rfl rfl f1_1,True.intro⟩⟩
set_option genInjectivity false in
set_option genSizeOf false in
structure Tx (w:World) (K:W.Frag) (mg:Str->Option Value) where
 a_part:Addr
 d_part:FuncData
 F_part:Fun K "part" "part" s_part a_part d_part
 b_part:Binds K d_part ["top","bottom"] []
 m_part:mg "part"=some (.ref a_part)
 a_greatest_divisor:Addr
 d_greatest_divisor:FuncData
 F_greatest_divisor:Fun K "greatest_divisor" "greatest_divisor" s_greatest_divisor a_greatest_divisor d_greatest_divisor
 b_greatest_divisor:Binds K d_greatest_divisor ["one","other"] []
 m_greatest_divisor:mg "greatest_divisor"=some (.ref a_greatest_divisor)
 a_plus:Addr
 d_plus:FuncData
 F_plus:Fun K "plus" "plus" s_plus a_plus d_plus
 b_plus:Binds K d_plus ["one","other"] []
 m_plus:mg "plus"=some (.ref a_plus)
 a_times:Addr
 d_times:FuncData
 F_times:Fun K "times" "times" s_times a_times d_times
 b_times:Binds K d_times ["one","other"] []
 m_times:mg "times"=some (.ref a_times)
 a_made:Addr
 d_made:FuncData
 F_made:Fun K "made" "made" s_made a_made d_made
 b_made:Binds K d_made ["parts","rest"] []
 m_made:mg "made"=some (.ref a_made)
 a_added:Addr
 d_added:FuncData
 F_added:Fun K "added" "added" s_added a_added d_added
 b_added:Binds K d_added ["one","other"] []
 m_added:mg "added"=some (.ref a_added)
 a_reduced:Addr
 d_reduced:FuncData
 F_reduced:Fun K "reduced" "reduced" s_reduced a_reduced d_reduced
 b_reduced:Binds K d_reduced ["one","other"] []
 m_reduced:mg "reduced"=some (.ref a_reduced)
 a_scaled:Addr
 d_scaled:FuncData
 F_scaled:Fun K "scaled" "scaled" s_scaled a_scaled d_scaled
 b_scaled:Binds K d_scaled ["one","number"] []
 m_scaled:mg "scaled"=some (.ref a_scaled)
 a_unknown_of:Addr
 d_unknown_of:FuncData
 F_unknown_of:Fun K "unknown_of" "unknown_of" s_unknown_of a_unknown_of d_unknown_of
 b_unknown_of:Binds K d_unknown_of ["word","name"] []
 m_unknown_of:mg "unknown_of"=some (.ref a_unknown_of)
 a_way_of:Addr
 d_way_of:FuncData
 F_way_of:Fun K "way_of" "way_of" s_way_of a_way_of d_way_of
 b_way_of:Binds K d_way_of ["word"] []
 m_way_of:mg "way_of"=some (.ref a_way_of)
 a_law_cell_at:Addr
 d_law_cell_at:FuncData
 F_law_cell_at:Fun K "_law_cell_at" "_law_cell_at" s_law_cell_at a_law_cell_at d_law_cell_at
 b_law_cell_at:Binds K d_law_cell_at ["_law_script","_law_k"] []
 m_law_cell_at:mg "_law_cell_at"=some (.ref a_law_cell_at)
 a_law_mixed:Addr
 d_law_mixed:FuncData
 F_law_mixed:Fun K "_law_mixed" "_law_mixed" s_law_mixed a_law_mixed d_law_mixed
 b_law_mixed:Binds K d_law_mixed ["_law_cell","_law_k"] []
 m_law_mixed:mg "_law_mixed"=some (.ref a_law_mixed)
 a_law_shared:Addr
 d_law_shared:FuncData
 F_law_shared:Fun K "_law_shared" "_law_shared" s_law_shared a_law_shared d_law_shared
 b_law_shared:Binds K d_law_shared ["_law_one","_law_other"] []
 m_law_shared:mg "_law_shared"=some (.ref a_law_shared)
 a_law_lowest:Addr
 d_law_lowest:FuncData
 F_law_lowest:Fun K "_law_lowest" "_law_lowest" s_law_lowest a_law_lowest d_law_lowest
 b_law_lowest:Binds K d_law_lowest ["_law_top","_law_bottom"] []
 m_law_lowest:mg "_law_lowest"=some (.ref a_law_lowest)
 a_law_number:Addr
 d_law_number:FuncData
 F_law_number:Fun K "_law_number" "_law_number" s_law_number a_law_number d_law_number
 b_law_number:Binds K d_law_number ["_law_cell"] []
 m_law_number:mg "_law_number"=some (.ref a_law_number)
 a_law_name:Addr
 d_law_name:FuncData
 F_law_name:Fun K "_law_name" "_law_name" s_law_name a_law_name d_law_name
 b_law_name:Binds K d_law_name ["_law_first","_law_k"] []
 m_law_name:mg "_law_name"=some (.ref a_law_name)
 a_law_edge:Addr
 d_law_edge:FuncData
 F_law_edge:Fun K "_law_edge" "_law_edge" s_law_edge a_law_edge d_law_edge
 b_law_edge:Binds K d_law_edge ["_law_cell","_law_first"] []
 m_law_edge:mg "_law_edge"=some (.ref a_law_edge)
 a_law_tree:Addr
 d_law_tree:FuncData
 F_law_tree:Fun K "_law_tree" "_law_tree" s_law_tree a_law_tree d_law_tree
 b_law_tree:Binds K d_law_tree ["_law_cells","_law_first"] []
 m_law_tree:mg "_law_tree"=some (.ref a_law_tree)
 a_law_term:Addr
 d_law_term:FuncData
 F_law_term:Fun K "_law_term" "_law_term" s_law_term a_law_term d_law_term
 b_law_term:Binds K d_law_term ["_law_tree_here"] []
 m_law_term:mg "_law_term"=some (.ref a_law_term)
 a_law_unknowns:Addr
 d_law_unknowns:FuncData
 F_law_unknowns:Fun K "_law_unknowns" "_law_unknowns" s_law_unknowns a_law_unknowns d_law_unknowns
 b_law_unknowns:Binds K d_law_unknowns ["_law_word","_law_name_here"] []
 m_law_unknowns:mg "_law_unknowns"=some (.ref a_law_unknowns)
 a_law_walk:Addr
 d_law_walk:FuncData
 F_law_walk:Fun K "_law_walk" "_law_walk" s_law_walk a_law_walk d_law_walk
 b_law_walk:Binds K d_law_walk ["_law_tree_here","_law_by","_law_parts","_law_words"] []
 m_law_walk:mg "_law_walk"=some (.ref a_law_walk)
 a_law_due:Addr
 d_law_due:FuncData
 F_law_due:Fun K "_law_due" "_law_due" s_law_due a_law_due d_law_due
 b_law_due:Binds K d_law_due ["_law_tree_here"] []
 m_law_due:mg "_law_due"=some (.ref a_law_due)
 a_law_one_class:Addr
 d_law_one_class:FuncData
 F_law_one_class:Fun K "_law_one_class" "_law_one_class" s_law_one_class a_law_one_class d_law_one_class
 b_law_one_class:Binds K d_law_one_class ["_law_term_here"] []
 m_law_one_class:mg "_law_one_class"=some (.ref a_law_one_class)
 a_law_right:Addr
 d_law_right:FuncData
 F_law_right:Fun K "_law_right" "_law_right" s_law_right a_law_right d_law_right
 b_law_right:Binds K d_law_right ["_law_term_here","_law_due_here","_law_rest","_law_ways"] []
 m_law_right:mg "_law_right"=some (.ref a_law_right)
 a_law:Addr
 d_law:FuncData
 F_law:Fun K "law" "law" s_law a_law d_law
 b_law:Binds K d_law ["_law_script"] []
 m_law:mg "law"=some (.ref a_law)
 a_Number___init__:Addr
 d_Number___init__:FuncData
 F_Number___init__:Fun K "__init__" "Number.__init__" s_Number___init__ a_Number___init__ d_Number___init__
 b_Number___init__:Binds K d_Number___init__ ["self","number"] []
 a_Term_edges:Addr
 d_Term_edges:FuncData
 F_Term_edges:Fun K "edges" "Term.edges" s_Term_edges a_Term_edges d_Term_edges
 b_Term_edges:Binds K d_Term_edges ["self"] []
 a_Term_ways:Addr
 d_Term_ways:FuncData
 F_Term_ways:Fun K "ways" "Term.ways" s_Term_ways a_Term_ways d_Term_ways
 b_Term_ways:Binds K d_Term_ways ["self"] []
 a_Number_worth:Addr
 d_Number_worth:FuncData
 F_Number_worth:Fun K "worth" "Number.worth" s_Number_worth a_Number_worth d_Number_worth
 b_Number_worth:Binds K d_Number_worth ["self"] []
 a_Edge___init__:Addr
 d_Edge___init__:FuncData
 F_Edge___init__:Fun K "__init__" "Edge.__init__" s_Edge___init__ a_Edge___init__ d_Edge___init__
 b_Edge___init__:Binds K d_Edge___init__ ["self","word","name"] []
 a_Edge_edges:Addr
 d_Edge_edges:FuncData
 F_Edge_edges:Fun K "edges" "Edge.edges" s_Edge_edges a_Edge_edges d_Edge_edges
 b_Edge_edges:Binds K d_Edge_edges ["self"] []
 a_Edge_worth:Addr
 d_Edge_worth:FuncData
 F_Edge_worth:Fun K "worth" "Edge.worth" s_Edge_worth a_Edge_worth d_Edge_worth
 b_Edge_worth:Binds K d_Edge_worth ["self"] []
 a_Times___init__:Addr
 d_Times___init__:FuncData
 F_Times___init__:Fun K "__init__" "Times.__init__" s_Times___init__ a_Times___init__ d_Times___init__
 b_Times___init__:Binds K d_Times___init__ ["self","number","inner"] []
 a_Times_edges:Addr
 d_Times_edges:FuncData
 F_Times_edges:Fun K "edges" "Times.edges" s_Times_edges a_Times_edges d_Times_edges
 b_Times_edges:Binds K d_Times_edges ["self"] []
 a_Times_worth:Addr
 d_Times_worth:FuncData
 F_Times_worth:Fun K "worth" "Times.worth" s_Times_worth a_Times_worth d_Times_worth
 b_Times_worth:Binds K d_Times_worth ["self"] []
 a_Plus___init__:Addr
 d_Plus___init__:FuncData
 F_Plus___init__:Fun K "__init__" "Plus.__init__" s_Plus___init__ a_Plus___init__ d_Plus___init__
 b_Plus___init__:Binds K d_Plus___init__ ["self","one","other"] []
 a_Plus_edges:Addr
 d_Plus_edges:FuncData
 F_Plus_edges:Fun K "edges" "Plus.edges" s_Plus_edges a_Plus_edges d_Plus_edges
 b_Plus_edges:Binds K d_Plus_edges ["self"] []
 a_Plus_worth:Addr
 d_Plus_worth:FuncData
 F_Plus_worth:Fun K "worth" "Plus.worth" s_Plus_worth a_Plus_worth d_Plus_worth
 b_Plus_worth:Binds K d_Plus_worth ["self"] []
 a_Minus___init__:Addr
 d_Minus___init__:FuncData
 F_Minus___init__:Fun K "__init__" "Minus.__init__" s_Minus___init__ a_Minus___init__ d_Minus___init__
 b_Minus___init__:Binds K d_Minus___init__ ["self","one","other"] []
 a_Minus_edges:Addr
 d_Minus_edges:FuncData
 F_Minus_edges:Fun K "edges" "Minus.edges" s_Minus_edges a_Minus_edges d_Minus_edges
 b_Minus_edges:Binds K d_Minus_edges ["self"] []
 a_Minus_worth:Addr
 d_Minus_worth:FuncData
 F_Minus_worth:Fun K "worth" "Minus.worth" s_Minus_worth a_Minus_worth d_Minus_worth
 b_Minus_worth:Binds K d_Minus_worth ["self"] []
 c_NOUGHT:Addr
 m_NOUGHT:mg "NOUGHT"=some (.ref c_NOUGHT)
 t_NOUGHT:∃ (o:Obj) (its:Array Value) (n:Nat),K.lookup c_NOUGHT=some o/\o.cls=.type "tuple"/\o.data=.seq its n/\its.size<=sizeLine/\Vals (([0,1]:List Int).map V.int) its.toList
 c_MINUS_ONE:Addr
 m_MINUS_ONE:mg "MINUS_ONE"=some (.ref c_MINUS_ONE)
 t_MINUS_ONE:∃ (o:Obj) (its:Array Value) (n:Nat),K.lookup c_MINUS_ONE=some o/\o.cls=.type "tuple"/\o.data=.seq its n/\its.size<=sizeLine/\Vals (([-1,1]:List Int).map V.int) its.toList
 c_DOWN:Addr
 m_DOWN:mg "DOWN"=some (.ref c_DOWN)
 t_DOWN:∃ (o:Obj) (its:Array Value) (n:Nat),K.lookup c_DOWN=some o/\o.cls=.type "tuple"/\o.data=.seq its n/\its.size<=sizeLine/\Vals ((["top","height","bottom","centre","drop"]:List Str).map V.str) its.toList
 c_STARTS:Addr
 m_STARTS:mg "STARTS"=some (.ref c_STARTS)
 t_STARTS:∃ (o:Obj) (its:Array Value) (n:Nat),K.lookup c_STARTS=some o/\o.cls=.type "tuple"/\o.data=.seq its n/\its.size<=sizeLine/\Vals ((["left","top"]:List Str).map V.str) its.toList
 k_FRAME:Tok
 m_FRAME:mg "FRAME"=some (.str "frame" k_FRAME)
 c_Number:Addr
 m_Number:mg "Number"=some (.ref c_Number)
 cl_Number:Cls K c_Number
 nf_Number_number:NoAttr K c_Number "number"
 mk_Number:Mk K c_Number a_Number___init__
 mt_Number_edges:Meth K c_Number "edges" a_Term_edges
 mt_Number_ways:Meth K c_Number "ways" a_Term_ways
 mt_Number_worth:Meth K c_Number "worth" a_Number_worth
 c_Edge:Addr
 m_Edge:mg "Edge"=some (.ref c_Edge)
 cl_Edge:Cls K c_Edge
 nf_Edge_word:NoAttr K c_Edge "word"
 nf_Edge_name:NoAttr K c_Edge "name"
 mk_Edge:Mk K c_Edge a_Edge___init__
 mt_Edge_edges:Meth K c_Edge "edges" a_Edge_edges
 mt_Edge_ways:Meth K c_Edge "ways" a_Term_ways
 mt_Edge_worth:Meth K c_Edge "worth" a_Edge_worth
 c_Times:Addr
 m_Times:mg "Times"=some (.ref c_Times)
 cl_Times:Cls K c_Times
 nf_Times_number:NoAttr K c_Times "number"
 nf_Times_inner:NoAttr K c_Times "inner"
 mk_Times:Mk K c_Times a_Times___init__
 mt_Times_edges:Meth K c_Times "edges" a_Times_edges
 mt_Times_ways:Meth K c_Times "ways" a_Term_ways
 mt_Times_worth:Meth K c_Times "worth" a_Times_worth
 c_Plus:Addr
 m_Plus:mg "Plus"=some (.ref c_Plus)
 cl_Plus:Cls K c_Plus
 nf_Plus_one:NoAttr K c_Plus "one"
 nf_Plus_other:NoAttr K c_Plus "other"
 mk_Plus:Mk K c_Plus a_Plus___init__
 mt_Plus_edges:Meth K c_Plus "edges" a_Plus_edges
 mt_Plus_ways:Meth K c_Plus "ways" a_Term_ways
 mt_Plus_worth:Meth K c_Plus "worth" a_Plus_worth
 c_Minus:Addr
 m_Minus:mg "Minus"=some (.ref c_Minus)
 cl_Minus:Cls K c_Minus
 nf_Minus_one:NoAttr K c_Minus "one"
 nf_Minus_other:NoAttr K c_Minus "other"
 mk_Minus:Mk K c_Minus a_Minus___init__
 mt_Minus_edges:Meth K c_Minus "edges" a_Minus_edges
 mt_Minus_ways:Meth K c_Minus "ways" a_Term_ways
 mt_Minus_worth:Meth K c_Minus "worth" a_Minus_worth
 c_Term:Addr
 m_Term:mg "Term"=some (.ref c_Term)
 cl_Term:Cls K c_Term
 c_WORTHS:Addr
 m_WORTHS:mg "WORTHS"=some (.ref c_WORTHS)
 w_WORTHS:KD_WORTHS w K c_WORTHS
 ik_Number:InsK K c_Number
 ik_Edge:InsK K c_Edge
 ik_Times:InsK K c_Times
 ik_Plus:InsK K c_Plus
 ik_Minus:InsK K c_Minus
 kc_Number_Number:W.kitOne K (.ref c_Number) (.ref c_Number)=some true
 kc_Number_Edge:W.kitOne K (.ref c_Number) (.ref c_Edge)=some false
 kc_Number_Times:W.kitOne K (.ref c_Number) (.ref c_Times)=some false
 kc_Number_Plus:W.kitOne K (.ref c_Number) (.ref c_Plus)=some false
 kc_Number_Minus:W.kitOne K (.ref c_Number) (.ref c_Minus)=some false
 kc_Number_Term:W.kitOne K (.ref c_Number) (.ref c_Term)=some true
 kc_Edge_Number:W.kitOne K (.ref c_Edge) (.ref c_Number)=some false
 kc_Edge_Edge:W.kitOne K (.ref c_Edge) (.ref c_Edge)=some true
 kc_Edge_Times:W.kitOne K (.ref c_Edge) (.ref c_Times)=some false
 kc_Edge_Plus:W.kitOne K (.ref c_Edge) (.ref c_Plus)=some false
 kc_Edge_Minus:W.kitOne K (.ref c_Edge) (.ref c_Minus)=some false
 kc_Edge_Term:W.kitOne K (.ref c_Edge) (.ref c_Term)=some true
 kc_Times_Number:W.kitOne K (.ref c_Times) (.ref c_Number)=some false
 kc_Times_Edge:W.kitOne K (.ref c_Times) (.ref c_Edge)=some false
 kc_Times_Times:W.kitOne K (.ref c_Times) (.ref c_Times)=some true
 kc_Times_Plus:W.kitOne K (.ref c_Times) (.ref c_Plus)=some false
 kc_Times_Minus:W.kitOne K (.ref c_Times) (.ref c_Minus)=some false
 kc_Times_Term:W.kitOne K (.ref c_Times) (.ref c_Term)=some true
 kc_Plus_Number:W.kitOne K (.ref c_Plus) (.ref c_Number)=some false
 kc_Plus_Edge:W.kitOne K (.ref c_Plus) (.ref c_Edge)=some false
 kc_Plus_Times:W.kitOne K (.ref c_Plus) (.ref c_Times)=some false
 kc_Plus_Plus:W.kitOne K (.ref c_Plus) (.ref c_Plus)=some true
 kc_Plus_Minus:W.kitOne K (.ref c_Plus) (.ref c_Minus)=some false
 kc_Plus_Term:W.kitOne K (.ref c_Plus) (.ref c_Term)=some true
 kc_Minus_Number:W.kitOne K (.ref c_Minus) (.ref c_Number)=some false
 kc_Minus_Edge:W.kitOne K (.ref c_Minus) (.ref c_Edge)=some false
 kc_Minus_Times:W.kitOne K (.ref c_Minus) (.ref c_Times)=some false
 kc_Minus_Plus:W.kitOne K (.ref c_Minus) (.ref c_Plus)=some false
 kc_Minus_Minus:W.kitOne K (.ref c_Minus) (.ref c_Minus)=some true
 kc_Minus_Term:W.kitOne K (.ref c_Minus) (.ref c_Term)=some true
 z_abs:mg "abs"=none
 z_len:mg "len"=none
 z_range:mg "range"=none
 z_isinstance:mg "isinstance"=none
 z_tuple:mg "tuple"=none
 z_bool:mg "bool"=none
 z_dict:mg "dict"=none
 z_list:mg "list"=none
 z_set:mg "set"=none
 z_sorted:mg "sorted"=none
 z_int:mg "int"=none
theorem tx_mk {w:World} {K:W.Frag} {h:Heap} {mg:Str->Option Value} (X:K.In h) (G:h.Ns mainGlobals mg)
  {x_Number:Addr}
  {x_Edge:Addr}
  {x_Times:Addr}
  {x_Plus:Addr}
  {x_Minus:Addr}
  {x_Term:Addr}
  {kc_WORTHS:Addr}
  {f0:Addr}
  {f1:Addr}
  {f2:Addr}
  {f3:Addr}
  {f4:Addr}
  {f5:Addr}
  {f6:Addr}
  {f7:Addr}
  {f8:Addr}
  {f9:Addr}
  {f10:Addr}
  {f11:Addr}
  {f12:Addr}
  {f13:Addr}
  {f14:Addr}
  {f15:Addr}
  {f16:Addr}
  {f17:Addr}
  {f18:Addr}
  {f19:Addr}
  {f20:Addr}
  {f21:Addr}
  {f22:Addr}
  {f23:Addr}
  {f24:Addr}
  {f25:Addr}
  {f26:Addr}
  {f27:Addr}
  {f28:Addr}
  {f29:Addr}
  {f30:Addr}
  {f31:Addr}
  {f32:Addr}
  {f33:Addr}
  {f34:Addr}
  {f35:Addr}
  {f36:Addr}
  {f37:Addr}
  {f38:Addr}
  {f39:Addr}
  {f40:Addr}
  {sg_DOWN:Addr} {sgd_DOWN:Option Addr} {sgs_DOWN:Array (Option Value)} {sgn_DOWN:Nat} {st_DOWN_0 st_DOWN_1 st_DOWN_2 st_DOWN_3 st_DOWN_4:Tok}
  {sg_STARTS:Addr} {sgd_STARTS:Option Addr} {sgs_STARTS:Array (Option Value)} {sgn_STARTS:Nat} {st_STARTS_0 st_STARTS_1:Tok}
  {g0:Addr} {gd0:Option Addr} {gs0:Array (Option Value)} {gn0:Nat} {t0_0 t0_1:Tok}
  {g1:Addr} {gd1:Option Addr} {gs1:Array (Option Value)} {gn1:Nat} {t1_0 t1_1:Tok}
  {yk_FRAME:Tok}
  (wn_Number:W.nsIn K mainGlobals "Number"=some (some (.ref x_Number)))
  (wa_Number:W.plainGet K x_Number Str.empty=true)
  (wb_Number:W.hasDictIn K x_Number=true)
  (wc_Number:W.plainOver K x_Number=true)
  (wd_Number:W.findIn K (.ref x_Number) "__setattr__"=some (some (.builtin "object.__setattr__")))
  (wf_Number_number:W.findIn K (.ref x_Number) "number"=some none)
  (wn_Edge:W.nsIn K mainGlobals "Edge"=some (some (.ref x_Edge)))
  (wa_Edge:W.plainGet K x_Edge Str.empty=true)
  (wb_Edge:W.hasDictIn K x_Edge=true)
  (wc_Edge:W.plainOver K x_Edge=true)
  (wd_Edge:W.findIn K (.ref x_Edge) "__setattr__"=some (some (.builtin "object.__setattr__")))
  (wf_Edge_word:W.findIn K (.ref x_Edge) "word"=some none)
  (wf_Edge_name:W.findIn K (.ref x_Edge) "name"=some none)
  (wn_Times:W.nsIn K mainGlobals "Times"=some (some (.ref x_Times)))
  (wa_Times:W.plainGet K x_Times Str.empty=true)
  (wb_Times:W.hasDictIn K x_Times=true)
  (wc_Times:W.plainOver K x_Times=true)
  (wd_Times:W.findIn K (.ref x_Times) "__setattr__"=some (some (.builtin "object.__setattr__")))
  (wf_Times_number:W.findIn K (.ref x_Times) "number"=some none)
  (wf_Times_inner:W.findIn K (.ref x_Times) "inner"=some none)
  (wn_Plus:W.nsIn K mainGlobals "Plus"=some (some (.ref x_Plus)))
  (wa_Plus:W.plainGet K x_Plus Str.empty=true)
  (wb_Plus:W.hasDictIn K x_Plus=true)
  (wc_Plus:W.plainOver K x_Plus=true)
  (wd_Plus:W.findIn K (.ref x_Plus) "__setattr__"=some (some (.builtin "object.__setattr__")))
  (wf_Plus_one:W.findIn K (.ref x_Plus) "one"=some none)
  (wf_Plus_other:W.findIn K (.ref x_Plus) "other"=some none)
  (wn_Minus:W.nsIn K mainGlobals "Minus"=some (some (.ref x_Minus)))
  (wa_Minus:W.plainGet K x_Minus Str.empty=true)
  (wb_Minus:W.hasDictIn K x_Minus=true)
  (wc_Minus:W.plainOver K x_Minus=true)
  (wd_Minus:W.findIn K (.ref x_Minus) "__setattr__"=some (some (.builtin "object.__setattr__")))
  (wf_Minus_one:W.findIn K (.ref x_Minus) "one"=some none)
  (wf_Minus_other:W.findIn K (.ref x_Minus) "other"=some none)
  (wn_Term:W.nsIn K mainGlobals "Term"=some (some (.ref x_Term)))
  (wa_Term:W.plainGet K x_Term Str.empty=true)
  (wb_Term:W.hasDictIn K x_Term=true)
  (wc_Term:W.plainOver K x_Term=true)
  (wd_Term:W.findIn K (.ref x_Term) "__setattr__"=some (some (.builtin "object.__setattr__")))
  (wg_Number:W.findIn K (.ref x_Number) "__class__"=some (some (.builtin "object.__class__")))
  (wh_Number:W.mroIn K x_Number (.type "object")=some true)
  (wi_0:W.specialIn K (.builtin "object.__class__") "__get__"=some (some (.builtin "getset_descriptor.__get__")))
  (wj_0:W.takesIn K (.builtin "object.__class__")=some true)
  (wg_Edge:W.findIn K (.ref x_Edge) "__class__"=some (some (.builtin "object.__class__")))
  (wh_Edge:W.mroIn K x_Edge (.type "object")=some true)
  (wg_Times:W.findIn K (.ref x_Times) "__class__"=some (some (.builtin "object.__class__")))
  (wh_Times:W.mroIn K x_Times (.type "object")=some true)
  (wg_Plus:W.findIn K (.ref x_Plus) "__class__"=some (some (.builtin "object.__class__")))
  (wh_Plus:W.mroIn K x_Plus (.type "object")=some true)
  (wg_Minus:W.findIn K (.ref x_Minus) "__class__"=some (some (.builtin "object.__class__")))
  (wh_Minus:W.mroIn K x_Minus (.type "object")=some true)
  (wkc_Number_Number:W.kitOne K (.ref x_Number) (.ref x_Number)=some true)
  (wkc_Number_Edge:W.kitOne K (.ref x_Number) (.ref x_Edge)=some false)
  (wkc_Number_Times:W.kitOne K (.ref x_Number) (.ref x_Times)=some false)
  (wkc_Number_Plus:W.kitOne K (.ref x_Number) (.ref x_Plus)=some false)
  (wkc_Number_Minus:W.kitOne K (.ref x_Number) (.ref x_Minus)=some false)
  (wkc_Number_Term:W.kitOne K (.ref x_Number) (.ref x_Term)=some true)
  (wkc_Edge_Number:W.kitOne K (.ref x_Edge) (.ref x_Number)=some false)
  (wkc_Edge_Edge:W.kitOne K (.ref x_Edge) (.ref x_Edge)=some true)
  (wkc_Edge_Times:W.kitOne K (.ref x_Edge) (.ref x_Times)=some false)
  (wkc_Edge_Plus:W.kitOne K (.ref x_Edge) (.ref x_Plus)=some false)
  (wkc_Edge_Minus:W.kitOne K (.ref x_Edge) (.ref x_Minus)=some false)
  (wkc_Edge_Term:W.kitOne K (.ref x_Edge) (.ref x_Term)=some true)
  (wkc_Times_Number:W.kitOne K (.ref x_Times) (.ref x_Number)=some false)
  (wkc_Times_Edge:W.kitOne K (.ref x_Times) (.ref x_Edge)=some false)
  (wkc_Times_Times:W.kitOne K (.ref x_Times) (.ref x_Times)=some true)
  (wkc_Times_Plus:W.kitOne K (.ref x_Times) (.ref x_Plus)=some false)
  (wkc_Times_Minus:W.kitOne K (.ref x_Times) (.ref x_Minus)=some false)
  (wkc_Times_Term:W.kitOne K (.ref x_Times) (.ref x_Term)=some true)
  (wkc_Plus_Number:W.kitOne K (.ref x_Plus) (.ref x_Number)=some false)
  (wkc_Plus_Edge:W.kitOne K (.ref x_Plus) (.ref x_Edge)=some false)
  (wkc_Plus_Times:W.kitOne K (.ref x_Plus) (.ref x_Times)=some false)
  (wkc_Plus_Plus:W.kitOne K (.ref x_Plus) (.ref x_Plus)=some true)
  (wkc_Plus_Minus:W.kitOne K (.ref x_Plus) (.ref x_Minus)=some false)
  (wkc_Plus_Term:W.kitOne K (.ref x_Plus) (.ref x_Term)=some true)
  (wkc_Minus_Number:W.kitOne K (.ref x_Minus) (.ref x_Number)=some false)
  (wkc_Minus_Edge:W.kitOne K (.ref x_Minus) (.ref x_Edge)=some false)
  (wkc_Minus_Times:W.kitOne K (.ref x_Minus) (.ref x_Times)=some false)
  (wkc_Minus_Plus:W.kitOne K (.ref x_Minus) (.ref x_Plus)=some false)
  (wkc_Minus_Minus:W.kitOne K (.ref x_Minus) (.ref x_Minus)=some true)
  (wkc_Minus_Term:W.kitOne K (.ref x_Minus) (.ref x_Term)=some true)
  (kn_WORTHS:W.nsIn K mainGlobals "WORTHS"=some (some (.ref kc_WORTHS)))
  (kdh_WORTHS:KD_WORTHS w K kc_WORTHS)
  (e0:W.nsIn K mainGlobals "part"=some (some (.ref f0)))
  (F0:FnIn K "part" "part" s_part f0)
  (e1:W.nsIn K mainGlobals "greatest_divisor"=some (some (.ref f1)))
  (F1:FnIn K "greatest_divisor" "greatest_divisor" s_greatest_divisor f1)
  (e2:W.nsIn K mainGlobals "plus"=some (some (.ref f2)))
  (F2:FnIn K "plus" "plus" s_plus f2)
  (e3:W.nsIn K mainGlobals "times"=some (some (.ref f3)))
  (F3:FnIn K "times" "times" s_times f3)
  (e4:W.nsIn K mainGlobals "made"=some (some (.ref f4)))
  (F4:FnIn K "made" "made" s_made f4)
  (e5:W.nsIn K mainGlobals "added"=some (some (.ref f5)))
  (F5:FnIn K "added" "added" s_added f5)
  (e6:W.nsIn K mainGlobals "reduced"=some (some (.ref f6)))
  (F6:FnIn K "reduced" "reduced" s_reduced f6)
  (e7:W.nsIn K mainGlobals "scaled"=some (some (.ref f7)))
  (F7:FnIn K "scaled" "scaled" s_scaled f7)
  (e8:W.nsIn K mainGlobals "unknown_of"=some (some (.ref f8)))
  (F8:FnIn K "unknown_of" "unknown_of" s_unknown_of f8)
  (e9:W.nsIn K mainGlobals "way_of"=some (some (.ref f9)))
  (F9:FnIn K "way_of" "way_of" s_way_of f9)
  (e10:W.nsIn K mainGlobals "_law_cell_at"=some (some (.ref f10)))
  (F10:FnIn K "_law_cell_at" "_law_cell_at" s_law_cell_at f10)
  (e11:W.nsIn K mainGlobals "_law_mixed"=some (some (.ref f11)))
  (F11:FnIn K "_law_mixed" "_law_mixed" s_law_mixed f11)
  (e12:W.nsIn K mainGlobals "_law_shared"=some (some (.ref f12)))
  (F12:FnIn K "_law_shared" "_law_shared" s_law_shared f12)
  (e13:W.nsIn K mainGlobals "_law_lowest"=some (some (.ref f13)))
  (F13:FnIn K "_law_lowest" "_law_lowest" s_law_lowest f13)
  (e14:W.nsIn K mainGlobals "_law_number"=some (some (.ref f14)))
  (F14:FnIn K "_law_number" "_law_number" s_law_number f14)
  (e15:W.nsIn K mainGlobals "_law_name"=some (some (.ref f15)))
  (F15:FnIn K "_law_name" "_law_name" s_law_name f15)
  (e16:W.nsIn K mainGlobals "_law_edge"=some (some (.ref f16)))
  (F16:FnIn K "_law_edge" "_law_edge" s_law_edge f16)
  (e17:W.nsIn K mainGlobals "_law_tree"=some (some (.ref f17)))
  (F17:FnIn K "_law_tree" "_law_tree" s_law_tree f17)
  (e18:W.nsIn K mainGlobals "_law_term"=some (some (.ref f18)))
  (F18:FnIn K "_law_term" "_law_term" s_law_term f18)
  (e19:W.nsIn K mainGlobals "_law_unknowns"=some (some (.ref f19)))
  (F19:FnIn K "_law_unknowns" "_law_unknowns" s_law_unknowns f19)
  (e20:W.nsIn K mainGlobals "_law_walk"=some (some (.ref f20)))
  (F20:FnIn K "_law_walk" "_law_walk" s_law_walk f20)
  (e21:W.nsIn K mainGlobals "_law_due"=some (some (.ref f21)))
  (F21:FnIn K "_law_due" "_law_due" s_law_due f21)
  (e22:W.nsIn K mainGlobals "_law_one_class"=some (some (.ref f22)))
  (F22:FnIn K "_law_one_class" "_law_one_class" s_law_one_class f22)
  (e23:W.nsIn K mainGlobals "_law_right"=some (some (.ref f23)))
  (F23:FnIn K "_law_right" "_law_right" s_law_right f23)
  (e24:W.nsIn K mainGlobals "law"=some (some (.ref f24)))
  (F24:FnIn K "law" "law" s_law f24)
  (we_Number___init__:W.findIn K (.ref x_Number) "__init__"=some (some (.ref f25)))
  (F25:FnIn K "__init__" "Number.__init__" s_Number___init__ f25)
  (we_Number_edges:W.findIn K (.ref x_Number) "edges"=some (some (.ref f26)))
  (F26:FnIn K "edges" "Term.edges" s_Term_edges f26)
  (we_Number_ways:W.findIn K (.ref x_Number) "ways"=some (some (.ref f27)))
  (F27:FnIn K "ways" "Term.ways" s_Term_ways f27)
  (we_Number_worth:W.findIn K (.ref x_Number) "worth"=some (some (.ref f28)))
  (F28:FnIn K "worth" "Number.worth" s_Number_worth f28)
  (we_Edge___init__:W.findIn K (.ref x_Edge) "__init__"=some (some (.ref f29)))
  (F29:FnIn K "__init__" "Edge.__init__" s_Edge___init__ f29)
  (we_Edge_edges:W.findIn K (.ref x_Edge) "edges"=some (some (.ref f30)))
  (F30:FnIn K "edges" "Edge.edges" s_Edge_edges f30)
  (we_Edge_worth:W.findIn K (.ref x_Edge) "worth"=some (some (.ref f31)))
  (F31:FnIn K "worth" "Edge.worth" s_Edge_worth f31)
  (we_Times___init__:W.findIn K (.ref x_Times) "__init__"=some (some (.ref f32)))
  (F32:FnIn K "__init__" "Times.__init__" s_Times___init__ f32)
  (we_Times_edges:W.findIn K (.ref x_Times) "edges"=some (some (.ref f33)))
  (F33:FnIn K "edges" "Times.edges" s_Times_edges f33)
  (we_Times_worth:W.findIn K (.ref x_Times) "worth"=some (some (.ref f34)))
  (F34:FnIn K "worth" "Times.worth" s_Times_worth f34)
  (we_Plus___init__:W.findIn K (.ref x_Plus) "__init__"=some (some (.ref f35)))
  (F35:FnIn K "__init__" "Plus.__init__" s_Plus___init__ f35)
  (we_Plus_edges:W.findIn K (.ref x_Plus) "edges"=some (some (.ref f36)))
  (F36:FnIn K "edges" "Plus.edges" s_Plus_edges f36)
  (we_Plus_worth:W.findIn K (.ref x_Plus) "worth"=some (some (.ref f37)))
  (F37:FnIn K "worth" "Plus.worth" s_Plus_worth f37)
  (we_Minus___init__:W.findIn K (.ref x_Minus) "__init__"=some (some (.ref f38)))
  (F38:FnIn K "__init__" "Minus.__init__" s_Minus___init__ f38)
  (we_Minus_edges:W.findIn K (.ref x_Minus) "edges"=some (some (.ref f39)))
  (F39:FnIn K "edges" "Minus.edges" s_Minus_edges f39)
  (we_Minus_worth:W.findIn K (.ref x_Minus) "worth"=some (some (.ref f40)))
  (F40:FnIn K "worth" "Minus.worth" s_Minus_worth f40)
  (sn_DOWN:W.nsIn K mainGlobals "DOWN"=some (some (.ref sg_DOWN)))
  (so_DOWN:K.lookup sg_DOWN=some ⟨.type "tuple",sgd_DOWN,.seq #[Value.str "top" st_DOWN_0,Value.str "height" st_DOWN_1,Value.str "bottom" st_DOWN_2,Value.str "centre" st_DOWN_3,Value.str "drop" st_DOWN_4] sgn_DOWN,sgs_DOWN⟩)
  (sn_STARTS:W.nsIn K mainGlobals "STARTS"=some (some (.ref sg_STARTS)))
  (so_STARTS:K.lookup sg_STARTS=some ⟨.type "tuple",sgd_STARTS,.seq #[Value.str "left" st_STARTS_0,Value.str "top" st_STARTS_1] sgn_STARTS,sgs_STARTS⟩)
  (n0:W.nsIn K mainGlobals "NOUGHT"=some (some (.ref g0)))
  (o0:K.lookup g0=some ⟨.type "tuple",gd0,.seq #[Value.int (0) t0_0,Value.int (1) t0_1] gn0,gs0⟩)
  (n1:W.nsIn K mainGlobals "MINUS_ONE"=some (some (.ref g1)))
  (o1:K.lookup g1=some ⟨.type "tuple",gd1,.seq #[Value.int (-1) t1_0,Value.int (1) t1_1] gn1,gs1⟩)
  (yi_FRAME:W.nsIn K mainGlobals "FRAME"=some (some (.str "frame" yk_FRAME)))
  (z0:W.nsIn K mainGlobals "abs"=some none)
  (z1:W.nsIn K mainGlobals "len"=some none)
  (z2:W.nsIn K mainGlobals "range"=some none)
  (z3:W.nsIn K mainGlobals "isinstance"=some none)
  (z4:W.nsIn K mainGlobals "tuple"=some none)
  (z5:W.nsIn K mainGlobals "bool"=some none)
  (z6:W.nsIn K mainGlobals "dict"=some none)
  (z7:W.nsIn K mainGlobals "list"=some none)
  (z8:W.nsIn K mainGlobals "set"=some none)
  (z9:W.nsIn K mainGlobals "sorted"=some none)
  (z10:W.nsIn K mainGlobals "int"=some none)
  (ws_25:W.isFn K (.ref f25)=true)
  (wm_Number:W.makesIn K x_Number=true)
  (wk_Number:W.keepIn K (.ref x_Number)=true)
  (ws_26:W.isFn K (.ref f26)=true)
  (ws_27:W.isFn K (.ref f27)=true)
  (ws_28:W.isFn K (.ref f28)=true)
  (ws_29:W.isFn K (.ref f29)=true)
  (wm_Edge:W.makesIn K x_Edge=true)
  (wk_Edge:W.keepIn K (.ref x_Edge)=true)
  (ws_30:W.isFn K (.ref f30)=true)
  (we_Edge_ways:W.findIn K (.ref x_Edge) "ways"=some (some (.ref f27)))
  (ws_31:W.isFn K (.ref f31)=true)
  (ws_32:W.isFn K (.ref f32)=true)
  (wm_Times:W.makesIn K x_Times=true)
  (wk_Times:W.keepIn K (.ref x_Times)=true)
  (ws_33:W.isFn K (.ref f33)=true)
  (we_Times_ways:W.findIn K (.ref x_Times) "ways"=some (some (.ref f27)))
  (ws_34:W.isFn K (.ref f34)=true)
  (ws_35:W.isFn K (.ref f35)=true)
  (wm_Plus:W.makesIn K x_Plus=true)
  (wk_Plus:W.keepIn K (.ref x_Plus)=true)
  (ws_36:W.isFn K (.ref f36)=true)
  (we_Plus_ways:W.findIn K (.ref x_Plus) "ways"=some (some (.ref f27)))
  (ws_37:W.isFn K (.ref f37)=true)
  (ws_38:W.isFn K (.ref f38)=true)
  (wm_Minus:W.makesIn K x_Minus=true)
  (wk_Minus:W.keepIn K (.ref x_Minus)=true)
  (ws_39:W.isFn K (.ref f39)=true)
  (we_Minus_ways:W.findIn K (.ref x_Minus) "ways"=some (some (.ref f27)))
  (ws_40:W.isFn K (.ref f40)=true)
  : Nonempty (Tx w K mg):=by
 obtain⟨d0,F0⟩:=F0
 obtain⟨d1,F1⟩:=F1
 obtain⟨d2,F2⟩:=F2
 obtain⟨d3,F3⟩:=F3
 obtain⟨d4,F4⟩:=F4
 obtain⟨d5,F5⟩:=F5
 obtain⟨d6,F6⟩:=F6
 obtain⟨d7,F7⟩:=F7
 obtain⟨d8,F8⟩:=F8
 obtain⟨d9,F9⟩:=F9
 obtain⟨d10,F10⟩:=F10
 obtain⟨d11,F11⟩:=F11
 obtain⟨d12,F12⟩:=F12
 obtain⟨d13,F13⟩:=F13
 obtain⟨d14,F14⟩:=F14
 obtain⟨d15,F15⟩:=F15
 obtain⟨d16,F16⟩:=F16
 obtain⟨d17,F17⟩:=F17
 obtain⟨d18,F18⟩:=F18
 obtain⟨d19,F19⟩:=F19
 obtain⟨d20,F20⟩:=F20
 obtain⟨d21,F21⟩:=F21
 obtain⟨d22,F22⟩:=F22
 obtain⟨d23,F23⟩:=F23
 obtain⟨d24,F24⟩:=F24
 obtain⟨d25,F25⟩:=F25
 obtain⟨d26,F26⟩:=F26
 obtain⟨d27,F27⟩:=F27
 obtain⟨d28,F28⟩:=F28
 obtain⟨d29,F29⟩:=F29
 obtain⟨d30,F30⟩:=F30
 obtain⟨d31,F31⟩:=F31
 obtain⟨d32,F32⟩:=F32
 obtain⟨d33,F33⟩:=F33
 obtain⟨d34,F34⟩:=F34
 obtain⟨d35,F35⟩:=F35
 obtain⟨d36,F36⟩:=F36
 obtain⟨d37,F37⟩:=F37
 obtain⟨d38,F38⟩:=F38
 obtain⟨d39,F39⟩:=F39
 obtain⟨d40,F40⟩:=F40
 exact⟨{
 c_Number:=x_Number
 m_Number:=W.mg_of X G wn_Number
 cl_Number:=⟨wa_Number,wb_Number,wc_Number,wd_Number⟩
 nf_Number_number:=wf_Number_number
 c_Edge:=x_Edge
 m_Edge:=W.mg_of X G wn_Edge
 cl_Edge:=⟨wa_Edge,wb_Edge,wc_Edge,wd_Edge⟩
 nf_Edge_word:=wf_Edge_word
 nf_Edge_name:=wf_Edge_name
 c_Times:=x_Times
 m_Times:=W.mg_of X G wn_Times
 cl_Times:=⟨wa_Times,wb_Times,wc_Times,wd_Times⟩
 nf_Times_number:=wf_Times_number
 nf_Times_inner:=wf_Times_inner
 c_Plus:=x_Plus
 m_Plus:=W.mg_of X G wn_Plus
 cl_Plus:=⟨wa_Plus,wb_Plus,wc_Plus,wd_Plus⟩
 nf_Plus_one:=wf_Plus_one
 nf_Plus_other:=wf_Plus_other
 c_Minus:=x_Minus
 m_Minus:=W.mg_of X G wn_Minus
 cl_Minus:=⟨wa_Minus,wb_Minus,wc_Minus,wd_Minus⟩
 nf_Minus_one:=wf_Minus_one
 nf_Minus_other:=wf_Minus_other
 c_Term:=x_Term
 m_Term:=W.mg_of X G wn_Term
 cl_Term:=⟨wa_Term,wb_Term,wc_Term,wd_Term⟩
 ik_Number:=⟨⟨wa_Number,wb_Number,wc_Number,wd_Number⟩,wg_Number,wi_0,wj_0,wh_Number⟩
 ik_Edge:=⟨⟨wa_Edge,wb_Edge,wc_Edge,wd_Edge⟩,wg_Edge,wi_0,wj_0,wh_Edge⟩
 ik_Times:=⟨⟨wa_Times,wb_Times,wc_Times,wd_Times⟩,wg_Times,wi_0,wj_0,wh_Times⟩
 ik_Plus:=⟨⟨wa_Plus,wb_Plus,wc_Plus,wd_Plus⟩,wg_Plus,wi_0,wj_0,wh_Plus⟩
 ik_Minus:=⟨⟨wa_Minus,wb_Minus,wc_Minus,wd_Minus⟩,wg_Minus,wi_0,wj_0,wh_Minus⟩
 kc_Number_Number:=wkc_Number_Number
 kc_Number_Edge:=wkc_Number_Edge
 kc_Number_Times:=wkc_Number_Times
 kc_Number_Plus:=wkc_Number_Plus
 kc_Number_Minus:=wkc_Number_Minus
 kc_Number_Term:=wkc_Number_Term
 kc_Edge_Number:=wkc_Edge_Number
 kc_Edge_Edge:=wkc_Edge_Edge
 kc_Edge_Times:=wkc_Edge_Times
 kc_Edge_Plus:=wkc_Edge_Plus
 kc_Edge_Minus:=wkc_Edge_Minus
 kc_Edge_Term:=wkc_Edge_Term
 kc_Times_Number:=wkc_Times_Number
 kc_Times_Edge:=wkc_Times_Edge
 kc_Times_Times:=wkc_Times_Times
 kc_Times_Plus:=wkc_Times_Plus
 kc_Times_Minus:=wkc_Times_Minus
 kc_Times_Term:=wkc_Times_Term
 kc_Plus_Number:=wkc_Plus_Number
 kc_Plus_Edge:=wkc_Plus_Edge
 kc_Plus_Times:=wkc_Plus_Times
 kc_Plus_Plus:=wkc_Plus_Plus
 kc_Plus_Minus:=wkc_Plus_Minus
 kc_Plus_Term:=wkc_Plus_Term
 kc_Minus_Number:=wkc_Minus_Number
 kc_Minus_Edge:=wkc_Minus_Edge
 kc_Minus_Times:=wkc_Minus_Times
 kc_Minus_Plus:=wkc_Minus_Plus
 kc_Minus_Minus:=wkc_Minus_Minus
 kc_Minus_Term:=wkc_Minus_Term
 c_WORTHS:=kc_WORTHS
 m_WORTHS:=W.mg_of X G kn_WORTHS
 w_WORTHS:=kdh_WORTHS
 mk_Number:=⟨wm_Number,we_Number___init__,ws_25,wk_Number⟩
 mt_Number_edges:=⟨we_Number_edges,ws_26,F26.kp⟩
 mt_Number_ways:=⟨we_Number_ways,ws_27,F27.kp⟩
 mt_Number_worth:=⟨we_Number_worth,ws_28,F28.kp⟩
 mk_Edge:=⟨wm_Edge,we_Edge___init__,ws_29,wk_Edge⟩
 mt_Edge_edges:=⟨we_Edge_edges,ws_30,F30.kp⟩
 mt_Edge_ways:=⟨we_Edge_ways,ws_27,F27.kp⟩
 mt_Edge_worth:=⟨we_Edge_worth,ws_31,F31.kp⟩
 mk_Times:=⟨wm_Times,we_Times___init__,ws_32,wk_Times⟩
 mt_Times_edges:=⟨we_Times_edges,ws_33,F33.kp⟩
 mt_Times_ways:=⟨we_Times_ways,ws_27,F27.kp⟩
 mt_Times_worth:=⟨we_Times_worth,ws_34,F34.kp⟩
 mk_Plus:=⟨wm_Plus,we_Plus___init__,ws_35,wk_Plus⟩
 mt_Plus_edges:=⟨we_Plus_edges,ws_36,F36.kp⟩
 mt_Plus_ways:=⟨we_Plus_ways,ws_27,F27.kp⟩
 mt_Plus_worth:=⟨we_Plus_worth,ws_37,F37.kp⟩
 mk_Minus:=⟨wm_Minus,we_Minus___init__,ws_38,wk_Minus⟩
 mt_Minus_edges:=⟨we_Minus_edges,ws_39,F39.kp⟩
 mt_Minus_ways:=⟨we_Minus_ways,ws_27,F27.kp⟩
 mt_Minus_worth:=⟨we_Minus_worth,ws_40,F40.kp⟩
 a_part:=f0
 d_part:=d0
 F_part:=F0
 b_part:=F0.binds (ps:=["top","bottom"]) λ_ _ _ _ _ _ us hl=>match us,hl with | [_,_],_=>rfl
 m_part:=W.mg_of X G e0
 a_greatest_divisor:=f1
 d_greatest_divisor:=d1
 F_greatest_divisor:=F1
 b_greatest_divisor:=F1.binds (ps:=["one","other"]) λ_ _ _ _ _ _ us hl=>match us,hl with | [_,_],_=>rfl
 m_greatest_divisor:=W.mg_of X G e1
 a_plus:=f2
 d_plus:=d2
 F_plus:=F2
 b_plus:=F2.binds (ps:=["one","other"]) λ_ _ _ _ _ _ us hl=>match us,hl with | [_,_],_=>rfl
 m_plus:=W.mg_of X G e2
 a_times:=f3
 d_times:=d3
 F_times:=F3
 b_times:=F3.binds (ps:=["one","other"]) λ_ _ _ _ _ _ us hl=>match us,hl with | [_,_],_=>rfl
 m_times:=W.mg_of X G e3
 a_made:=f4
 d_made:=d4
 F_made:=F4
 b_made:=F4.binds (ps:=["parts","rest"]) λ_ _ _ _ _ _ us hl=>match us,hl with | [_,_],_=>rfl
 m_made:=W.mg_of X G e4
 a_added:=f5
 d_added:=d5
 F_added:=F5
 b_added:=F5.binds (ps:=["one","other"]) λ_ _ _ _ _ _ us hl=>match us,hl with | [_,_],_=>rfl
 m_added:=W.mg_of X G e5
 a_reduced:=f6
 d_reduced:=d6
 F_reduced:=F6
 b_reduced:=F6.binds (ps:=["one","other"]) λ_ _ _ _ _ _ us hl=>match us,hl with | [_,_],_=>rfl
 m_reduced:=W.mg_of X G e6
 a_scaled:=f7
 d_scaled:=d7
 F_scaled:=F7
 b_scaled:=F7.binds (ps:=["one","number"]) λ_ _ _ _ _ _ us hl=>match us,hl with | [_,_],_=>rfl
 m_scaled:=W.mg_of X G e7
 a_unknown_of:=f8
 d_unknown_of:=d8
 F_unknown_of:=F8
 b_unknown_of:=F8.binds (ps:=["word","name"]) λ_ _ _ _ _ _ us hl=>match us,hl with | [_,_],_=>rfl
 m_unknown_of:=W.mg_of X G e8
 a_way_of:=f9
 d_way_of:=d9
 F_way_of:=F9
 b_way_of:=F9.binds (ps:=["word"]) λ_ _ _ _ _ _ us hl=>match us,hl with | [_],_=>rfl
 m_way_of:=W.mg_of X G e9
 a_law_cell_at:=f10
 d_law_cell_at:=d10
 F_law_cell_at:=F10
 b_law_cell_at:=F10.binds (ps:=["_law_script","_law_k"]) λ_ _ _ _ _ _ us hl=>match us,hl with | [_,_],_=>rfl
 m_law_cell_at:=W.mg_of X G e10
 a_law_mixed:=f11
 d_law_mixed:=d11
 F_law_mixed:=F11
 b_law_mixed:=F11.binds (ps:=["_law_cell","_law_k"]) λ_ _ _ _ _ _ us hl=>match us,hl with | [_,_],_=>rfl
 m_law_mixed:=W.mg_of X G e11
 a_law_shared:=f12
 d_law_shared:=d12
 F_law_shared:=F12
 b_law_shared:=F12.binds (ps:=["_law_one","_law_other"]) λ_ _ _ _ _ _ us hl=>match us,hl with | [_,_],_=>rfl
 m_law_shared:=W.mg_of X G e12
 a_law_lowest:=f13
 d_law_lowest:=d13
 F_law_lowest:=F13
 b_law_lowest:=F13.binds (ps:=["_law_top","_law_bottom"]) λ_ _ _ _ _ _ us hl=>match us,hl with | [_,_],_=>rfl
 m_law_lowest:=W.mg_of X G e13
 a_law_number:=f14
 d_law_number:=d14
 F_law_number:=F14
 b_law_number:=F14.binds (ps:=["_law_cell"]) λ_ _ _ _ _ _ us hl=>match us,hl with | [_],_=>rfl
 m_law_number:=W.mg_of X G e14
 a_law_name:=f15
 d_law_name:=d15
 F_law_name:=F15
 b_law_name:=F15.binds (ps:=["_law_first","_law_k"]) λ_ _ _ _ _ _ us hl=>match us,hl with | [_,_],_=>rfl
 m_law_name:=W.mg_of X G e15
 a_law_edge:=f16
 d_law_edge:=d16
 F_law_edge:=F16
 b_law_edge:=F16.binds (ps:=["_law_cell","_law_first"]) λ_ _ _ _ _ _ us hl=>match us,hl with | [_,_],_=>rfl
 m_law_edge:=W.mg_of X G e16
 a_law_tree:=f17
 d_law_tree:=d17
 F_law_tree:=F17
 b_law_tree:=F17.binds (ps:=["_law_cells","_law_first"]) λ_ _ _ _ _ _ us hl=>match us,hl with | [_,_],_=>rfl
 m_law_tree:=W.mg_of X G e17
 a_law_term:=f18
 d_law_term:=d18
 F_law_term:=F18
 b_law_term:=F18.binds (ps:=["_law_tree_here"]) λ_ _ _ _ _ _ us hl=>match us,hl with | [_],_=>rfl
 m_law_term:=W.mg_of X G e18
 a_law_unknowns:=f19
 d_law_unknowns:=d19
 F_law_unknowns:=F19
 b_law_unknowns:=F19.binds (ps:=["_law_word","_law_name_here"]) λ_ _ _ _ _ _ us hl=>match us,hl with | [_,_],_=>rfl
 m_law_unknowns:=W.mg_of X G e19
 a_law_walk:=f20
 d_law_walk:=d20
 F_law_walk:=F20
 b_law_walk:=F20.binds (ps:=["_law_tree_here","_law_by","_law_parts","_law_words"]) λ_ _ _ _ _ _ us hl=>match us,hl with | [_,_,_,_],_=>rfl
 m_law_walk:=W.mg_of X G e20
 a_law_due:=f21
 d_law_due:=d21
 F_law_due:=F21
 b_law_due:=F21.binds (ps:=["_law_tree_here"]) λ_ _ _ _ _ _ us hl=>match us,hl with | [_],_=>rfl
 m_law_due:=W.mg_of X G e21
 a_law_one_class:=f22
 d_law_one_class:=d22
 F_law_one_class:=F22
 b_law_one_class:=F22.binds (ps:=["_law_term_here"]) λ_ _ _ _ _ _ us hl=>match us,hl with | [_],_=>rfl
 m_law_one_class:=W.mg_of X G e22
 a_law_right:=f23
 d_law_right:=d23
 F_law_right:=F23
 b_law_right:=F23.binds (ps:=["_law_term_here","_law_due_here","_law_rest","_law_ways"]) λ_ _ _ _ _ _ us hl=>match us,hl with | [_,_,_,_],_=>rfl
 m_law_right:=W.mg_of X G e23
 a_law:=f24
 d_law:=d24
 F_law:=F24
 b_law:=F24.binds (ps:=["_law_script"]) λ_ _ _ _ _ _ us hl=>match us,hl with | [_],_=>rfl
 m_law:=W.mg_of X G e24
 a_Number___init__:=f25
 d_Number___init__:=d25
 F_Number___init__:=F25
 b_Number___init__:=F25.binds (ps:=["self","number"]) λ_ _ _ _ _ _ us hl=>match us,hl with | [_,_],_=>rfl
 a_Term_edges:=f26
 d_Term_edges:=d26
 F_Term_edges:=F26
 b_Term_edges:=F26.binds (ps:=["self"]) λ_ _ _ _ _ _ us hl=>match us,hl with | [_],_=>rfl
 a_Term_ways:=f27
 d_Term_ways:=d27
 F_Term_ways:=F27
 b_Term_ways:=F27.binds (ps:=["self"]) λ_ _ _ _ _ _ us hl=>match us,hl with | [_],_=>rfl
 a_Number_worth:=f28
 d_Number_worth:=d28
 F_Number_worth:=F28
 b_Number_worth:=F28.binds (ps:=["self"]) λ_ _ _ _ _ _ us hl=>match us,hl with | [_],_=>rfl
 a_Edge___init__:=f29
 d_Edge___init__:=d29
 F_Edge___init__:=F29
 b_Edge___init__:=F29.binds (ps:=["self","word","name"]) λ_ _ _ _ _ _ us hl=>match us,hl with | [_,_,_],_=>rfl
 a_Edge_edges:=f30
 d_Edge_edges:=d30
 F_Edge_edges:=F30
 b_Edge_edges:=F30.binds (ps:=["self"]) λ_ _ _ _ _ _ us hl=>match us,hl with | [_],_=>rfl
 a_Edge_worth:=f31
 d_Edge_worth:=d31
 F_Edge_worth:=F31
 b_Edge_worth:=F31.binds (ps:=["self"]) λ_ _ _ _ _ _ us hl=>match us,hl with | [_],_=>rfl
 a_Times___init__:=f32
 d_Times___init__:=d32
 F_Times___init__:=F32
 b_Times___init__:=F32.binds (ps:=["self","number","inner"]) λ_ _ _ _ _ _ us hl=>match us,hl with | [_,_,_],_=>rfl
 a_Times_edges:=f33
 d_Times_edges:=d33
 F_Times_edges:=F33
 b_Times_edges:=F33.binds (ps:=["self"]) λ_ _ _ _ _ _ us hl=>match us,hl with | [_],_=>rfl
 a_Times_worth:=f34
 d_Times_worth:=d34
 F_Times_worth:=F34
 b_Times_worth:=F34.binds (ps:=["self"]) λ_ _ _ _ _ _ us hl=>match us,hl with | [_],_=>rfl
 a_Plus___init__:=f35
 d_Plus___init__:=d35
 F_Plus___init__:=F35
 b_Plus___init__:=F35.binds (ps:=["self","one","other"]) λ_ _ _ _ _ _ us hl=>match us,hl with | [_,_,_],_=>rfl
 a_Plus_edges:=f36
 d_Plus_edges:=d36
 F_Plus_edges:=F36
 b_Plus_edges:=F36.binds (ps:=["self"]) λ_ _ _ _ _ _ us hl=>match us,hl with | [_],_=>rfl
 a_Plus_worth:=f37
 d_Plus_worth:=d37
 F_Plus_worth:=F37
 b_Plus_worth:=F37.binds (ps:=["self"]) λ_ _ _ _ _ _ us hl=>match us,hl with | [_],_=>rfl
 a_Minus___init__:=f38
 d_Minus___init__:=d38
 F_Minus___init__:=F38
 b_Minus___init__:=F38.binds (ps:=["self","one","other"]) λ_ _ _ _ _ _ us hl=>match us,hl with | [_,_,_],_=>rfl
 a_Minus_edges:=f39
 d_Minus_edges:=d39
 F_Minus_edges:=F39
 b_Minus_edges:=F39.binds (ps:=["self"]) λ_ _ _ _ _ _ us hl=>match us,hl with | [_],_=>rfl
 a_Minus_worth:=f40
 d_Minus_worth:=d40
 F_Minus_worth:=F40
 b_Minus_worth:=F40.binds (ps:=["self"]) λ_ _ _ _ _ _ us hl=>match us,hl with | [_],_=>rfl
 c_DOWN:=sg_DOWN
 m_DOWN:=W.mg_of X G sn_DOWN
 t_DOWN:=⟨_,_,_,so_DOWN,rfl,rfl,(by show 5<=sizeLine;decide),(.cons ⟨_,rfl⟩ (.cons ⟨_,rfl⟩ (.cons ⟨_,rfl⟩ (.cons ⟨_,rfl⟩ (.cons ⟨_,rfl⟩ .nil)))))⟩
 c_STARTS:=sg_STARTS
 m_STARTS:=W.mg_of X G sn_STARTS
 t_STARTS:=⟨_,_,_,so_STARTS,rfl,rfl,(by show 2<=sizeLine;decide),(.cons ⟨_,rfl⟩ (.cons ⟨_,rfl⟩ .nil))⟩
 c_NOUGHT:=g0
 m_NOUGHT:=W.mg_of X G n0
 t_NOUGHT:=⟨_,_,_,o0,rfl,rfl,(by show 2<=sizeLine;decide),(.cons ⟨_,rfl⟩ (.cons ⟨_,rfl⟩ .nil))⟩
 c_MINUS_ONE:=g1
 m_MINUS_ONE:=W.mg_of X G n1
 t_MINUS_ONE:=⟨_,_,_,o1,rfl,rfl,(by show 2<=sizeLine;decide),(.cons ⟨_,rfl⟩ (.cons ⟨_,rfl⟩ .nil))⟩
 k_FRAME:=yk_FRAME
 m_FRAME:=W.mg_of X G yi_FRAME
 z_abs:=W.mg_none_of X G z0
 z_len:=W.mg_none_of X G z1
 z_range:=W.mg_none_of X G z2
 z_isinstance:=W.mg_none_of X G z3
 z_tuple:=W.mg_none_of X G z4
 z_bool:=W.mg_none_of X G z5
 z_dict:=W.mg_none_of X G z6
 z_list:=W.mg_none_of X G z7
 z_set:=W.mg_none_of X G z8
 z_sorted:=W.mg_none_of X G z9
 z_int:=W.mg_none_of X G z10
 }⟩
theorem t'j (m:List (Str×Rat)):keepS m=nz m:=by
 unfold keepS nz
 refine List.filter_congr λp _=>?_
 by_cases h:p.2=0
 ·simp [h]
 ·simp [h]
theorem v'M {m:List (Str×Rat)} {i:Nat} {x:Str} {q b:Rat} (n:(m.map (·.1)).Nodup) (h:m[i]?=some (x,q)):ptd (sc (m.take i) b) x (q*b)=sc (m.take (i+1)) b:=by
 rw [r'P b h]
 exact u'g _ (k'u b (g'M n h))
theorem t'k {m:List (Str×Rat)} {n:Nat} {x:Str} (h:∀ x q,gt m x=some q->bs q<=n) (hn:1<=n):bs ((gt m x).getD 0)<=n:=by
 cases e:gt m x with
 | none => exact Nat.le_trans (Nat.le_of_eq i'w) hn
 | some q => exact h x q e
theorem f'n {α:Type} (m:List (Str×α)) (x:Str) (y:α):(ptd m x y).length<=m.length+1:=by
 unfold ptd
 split
 ·rw [List.length_map];exact Nat.le_succ _
 ·rw [List.length_append];exact Nat.le_refl _
theorem g'v:bs (-1)=1:=by decide +kernel
theorem bsc {m:List (Str×Rat)} {n:Nat} {q:Rat} (nd:Nd m) (h:∀ x q,gt m x=some q->bs q<=n):∀ x y,gt (nz (sc m q)) x=some y->bs y<=n+bs q:=λx y e=>by
 rw [e'w (e't nd q),k'v] at e
 cases g:gt m x with
 | none => rw [g] at e; cases e
 | some z =>
  rw [g] at e
  simp only [Option.map_some] at e
  split at e
  ·cases e
  ·cases e
   exact Nat.le_trans (e'y _ _) (by have:=h x z g;omega)
inductive Tm where
 | num (q : Rat) | edge (w n : Str) | times (q : Rat) (t : Tm) | plus (a b : Tm) | minus (a b : Tm)
def Tm.tag:Tm->Nat
 | .num _ => 0 | .edge _ _ => 1 | .times _ _ => 2 | .plus _ _ => 3 | .minus _ _ => 4
def Tm.dep:Tm->Nat
 | .num _ => 0 | .edge _ _ => 0 | .times _ t => t.dep + 1 | .plus a b => max a.dep b.dep + 1 | .minus a b => max a.dep b.dep + 1
def edg:Tm->List (Str×Str)
 | .num _ => [] | .edge w n => [(w, n)] | .times _ t => edg t | .plus a b => edg a ++ edg b | .minus a b => edg a ++ edg b
/-- what an edge's word stands for: pieces, without the starts of the frame -/
def shr (w:Str):List (Str×Rat):=(shrT.lookup w).getD []
def isSt (w:Str):Bool:=decide (w="left") || decide (w="top")
def unkF (n:Str) (p:Str×Rat):Bool:=!decide (n="frame") || !isSt p.1
def joinU (w n:Str):Str:=w++(" ":Str)++n
def unk (w n:Str):List (Str×Rat):=((shr w).filter (unkF n)).map λp=>(joinU p.1 n,p.2)
def cof:Tm->Str->Rat
 | .num _, _ => 0 | .edge w n, u => (gtd (unk w n) u).getD 0 | .times q t, u => cof t u * q | .plus a b, u => cof a u + cof b u | .minus a b, u => cof a u + cof b u * (-1)
def rst:Tm->Rat
 | .num q => q | .edge _ _ => 0 | .times q t => rst t * q | .plus a b => rst a + rst b | .minus a b => rst a + rst b * (-1)
def wei:Tm->Nat
 | .num q => bs q + 1 | .edge _ _ => 4 | .times q t => wei t + bs q | .plus a b => wei a + wei b + 5 | .minus a b => wei a + wei b + 5
/-- how many leaves -/
def cnt:Tm->Nat
 | .num _ => 1 | .edge _ _ => 1 | .times _ t => cnt t | .plus a b => cnt a + cnt b | .minus a b => cnt a + cnt b
theorem b'h:∀ t:Tm,(edg t).length<=cnt t
 | .num _ => Nat.zero_le _
 | .edge _ _ => Nat.le_refl _
 | .times _ t => b'h t
 | .plus a b => by show (edg a ++ edg b).length <= cnt a + cnt b; rw [List.length_append]; exact Nat.add_le_add (b'h a) (b'h b)
 | .minus a b => by show (edg a ++ edg b).length <= cnt a + cnt b; rw [List.length_append]; exact Nat.add_le_add (b'h a) (b'h b)
def Tm.ok:Tm->Prop
 | .num _ => True | .edge w n => (shrT.lookup w).isSome = true /\ n.length <= 100 | .times _ t => t.ok | .plus a b => a.ok /\ b.ok | .minus a b => a.ok /\ b.ok
theorem w'T {t:Tm}:0<=(edg t).length:=Nat.zero_le _
/-- the dict is this sum of unknowns -/
structure IsS (m:List (Str×Rat)) (f:Str->Rat) (n l:Nat):Prop where
 nd:Nd m
 v:∀ u,gt m u=if f u=0 then none else some (f u)
 b:∀ x q,gt m x=some q->bs q<=n
 l:m.length<=l
theorem IsS.get {m:List (Str×Rat)} {f:Str->Rat} {n l:Nat} (h:IsS m f n l) (u:Str):(gt m u).getD 0=f u:=by
 rw [h.v]
 split
 ·rename_i e;rw [e];rfl
 ·rfl
theorem IsS.sc {m:List (Str×Rat)} {f:Str->Rat} {n l:Nat} (h:IsS m f n l) (q:Rat):IsS (nz (sc m q)) (λu=>f u*q) (n+bs q) l:=by
 refine⟨g'r (e't h.nd q),λu=>?_,bsc h.nd h.b,Nat.le_trans (e'u _) (by rw [e'v];exact h.l)⟩
 rw [e'w (e't h.nd q),k'v,h.v]
 by_cases e:f u=0
 ·rw [if_pos e,if_pos (by rw [e,Rat.zero_mul])];rfl
 ·rw [if_neg e];rfl
theorem e'h (b a:List (Str×Rat)):(addM a b).length<=a.length+b.length:=by
 induction b generalizing a with
 | nil => exact Nat.le_refl _
 | cons p r ih =>
  have:=ih (pt a p.1 ((gt a p.1).getD 0+p.2))
  have l:(pt a p.1 ((gt a p.1).getD 0+p.2)).length<=a.length+1:=f'n a p.1 _
  show (addM (pt a p.1 ((gt a p.1).getD 0+p.2)) r).length<=_
  rw [List.length_cons]
  omega
theorem IsS.add {m m':List (Str×Rat)} {f g:Str->Rat} {n n' l l':Nat} (h:IsS m f n l) (h':IsS m' g n' l'):IsS (nz (addM m m')) (λu=>f u+g u) (n+n'+1) (l+l'):=by
 have key:∀ u,gt (nz (addM m m')) u=if f u+g u=0 then none else some (f u+g u):=λu=>by
  rw [e'w (d'o _ _ h.nd),i's _ _ h'.nd,h'.v,h.v]
  by_cases e:g u=0
  ·rw [if_pos e,e,Rat.add_zero]
   dsimp only
   by_cases e2:f u=0
   ·rw [if_pos e2]
   ·rw [if_neg e2]
    dsimp only
    rw [if_neg e2]
  ·rw [if_neg e]
   dsimp only
   by_cases e2:f u=0
   ·rw [if_pos e2,e2];rfl
   ·rw [if_neg e2];rfl
 refine⟨g'r (d'o _ _ h.nd),key,λx q e=>?_,Nat.le_trans (e'u _) (Nat.le_trans (e'h _ _) (Nat.add_le_add h.l h'.l))⟩
 rw [key] at e
 split at e
 ·cases e
 ·cases e
  have z1:bs (f x)<=n\/f x=0:=by
   by_cases e2:f x=0
   ·exact .inr e2
   ·exact .inl (h.b x _ (by rw [h.v,if_neg e2]))
  have z2:bs (g x)<=n'\/g x=0:=by
   by_cases e2:g x=0
   ·exact .inr e2
   ·exact .inl (h'.b x _ (by rw [h'.v,if_neg e2]))
  rcases z1 with z1 | z1
  ·rcases z2 with z2 | z2
   ·exact Nat.le_trans (e'x _ _) (by omega)
   ·rw [z2,Rat.add_zero];omega
  ·rw [z1,Rat.zero_add]
   rcases z2 with z2 | z2
   ·omega
   ·rw [z2,i'w];omega
theorem e'L {α:Type} [DecidableEq α]:∀ {a b:List α},a.Nodup->(∀ k∈a,k∈b)->a.length<=b.length
 | [], _, _, _ => Nat.zero_le _
 | x :: a, b, nd, h => by
  have hx:=h x (.head _)
  rw [List.nodup_cons] at nd
  have:=e'L (b:=b.erase x) nd.2 λk mk=>(List.mem_erase_of_ne (λe=>nd.1 (by rw [<- e];exact mk))).mpr (h k (.tail _ mk))
  rw [List.length_erase_of_mem hx] at this
  have:=List.length_pos_of_mem hx
  rw [List.length_cons]
  omega
/-- two dicts of one sum are alike -/
theorem IsS.same {m m':List (Str×Rat)} {f:Str->Rat} {n n' l l':Nat} (h:IsS m f n l) (h':IsS m' f n' l'):m.length=m'.length/\∀ p∈m,gtd m' p.1=some p.2:=by
 have s:∀ {a b:List (Str×Rat)} {x y z t:Nat},IsS a f x y->IsS b f z t->∀ p∈a,gtd b p.1=some p.2:=λha hb p mp=>by
  rw [g'N,hb.v,<- ha.v]
  exact b'W ha.nd mp
 have le:∀ {a b:List (Str×Rat)} {x y z t:Nat},IsS a f x y->IsS b f z t->a.length<=b.length:=λ{a b _ _ _ _} ha hb=>by
  have sub:∀ k∈a.map (·.1),k∈b.map (·.1):=λk mk=>by
   obtain⟨p,mp,rfl⟩:=List.mem_map.mp mk
   exact List.mem_map.mpr ⟨_,b'z (s ha hb p mp),rfl⟩
  have:=e'L ha.nd sub
  rw [List.length_map,List.length_map] at this
  exact this
 exact⟨Nat.le_antisymm (le h h') (le h' h),s h h'⟩
section
variable {P:Program} {w:World} {K:W.Frag} {mg:Str->Option Value} {base:Heap}
local macro_rules | `(tactic| walk_at "p") => `(tactic| simp only [j'M, n'N, h'G, j'N, r'g, j'O, h'H, f'T, f'U, j'P, r'h, j'Q, h'I, h'J, j'R, n'O, r'i, r'j, r'k, f'V, h'K, h'L, h'M, j'S, j'T, j'U, j'V, r'l, h'N, j'W, h'O, i_l, i_f, i_d, v'B, v'C, v'D, v'E, v'F, v'G, i_o, v'H, i_t, v'I, v'J, v'K, r'm, n'P, h'P, j'X, h'Q, n'R, holes, lendf, frzf, dnf, nolf, nltf, q'Z, v't, n'E, r'a, r'b, r'c, r'd, r'e, h'C, j'I, r'f, n'F, u'W, u'X, u'Y, m'q, i'M, m'r, m's, u'Z, m't, q'a, m'u, i'N, m'v, i'O, q'b, m'w, i'P, m'x, m'y, m'z, i'Q, m'A, v'a, h'm, i'R, v'b, h'n, i'S, q'c, h'o, f'R, q'd, m'B, m'C, q'e, q'f, q'g, q'h, q'i, m'D, m'E, m'F, i'T, m'G, i'U, i'V, q'j, q'k, q'l, m'H, h'p, m'I, h'q, i'W, h'r, f'S, i'X, i'Y, m'J, i'Z, j'a, h's, m'K, m'L, j'b, j'c, m'M, d'z, j'd, h't, m'N, m'O, j'e, j'f, m'P, j'g, j'h, h'u, m'Q, m'R, j'i, j'j, m'S, f'h, j'k, h'v, m'T, m'U, j'l, j'm, m'V, d'A, j'n, h'w, m'W, m'X, j'o, j'p, f'i, j'q, j'r, f'j, j's, d'B, j't, m'Y, m'Z, j'u, c'p, q'm, j'v, j'w, j'x, j'y, j'z, n'a, v'd, j'A, q'w, q'x, q'O, q'P, q'Q, q'R, q'S, n'q, n'r, pickT, Option.getD_some, n'b, d'C, q'n, v'c, q'o, q'p, q'q, q'r, q's, q't, q'u, g'u, j'F, j'G, n'z, n'A, q'V, j'E, v'h, v'i, v'j, n'x, s_l, s_f, s_d, s_t, s_o, n'y, v'k, q'W, q'X, h'B, q'Y, List.length_map, q'T, n's, n't, n'u, n'v, c'G, h'z, h'A, j'C, j'D, q'U, n'd, n'e, n'f, n'g, n'h, n'i, n'j, q'y, w_lt, v'e, q'z, q'A, v'f, q'B, q'C, q'D, q'E, q'F, q'G, n'k, n'l, n'm, q'H, q'I, q'J, n'n, n'o, q'K, q'L, q'M, n'p, q'N, at0, at1, at2, at3, at4, List.map_cons, List.map_nil, List.getElem?_cons_succ, List.getElem?_cons_zero, List.set_cons_zero, List.set_cons_succ, lends, frzs, dns, nols, nlts, Bool.and_self, if_true, if_false, ite_true, ite_false, true_and, and_true, List.cons_append, List.nil_append, List.replicate, Nat.reduceSub, List.length_cons, List.length_nil, Nat.reduceAdd, Nat.reduceLeDiff, V.int.injEq, decide_not, decide_true, decide_false, Bool.not_true, Bool.not_false, Bool.false_eq_true, Bool.true_eq_false, h'x, h'y, n'c, q'v, p'W, p'X, u'S, e_l, e_f, e_d, e_o, e_t, u'T, h'h, p'j, p'k, e'c, p'Y, m'n, m'o, m'p, k'O, h'i, h'j, h'k, p'l, p'm, k'P, u'U, u'V, i'K, i'L, Tr.int.injEq, reduceCtorEq])
local macro_rules | `(tactic| walk_at "q") => `(tactic| simp only [j'M, n'N, h'G, j'N, r'g, j'O, h'H, f'T, f'U, j'P, r'h, j'Q, h'I, h'J, j'R, n'O, r'i, r'j, r'k, f'V, h'K, h'L, h'M, j'S, j'T, j'U, j'V, r'l, h'N, j'W, h'O, i_l, i_f, i_d, v'B, v'C, v'D, v'E, v'F, v'G, i_o, v'H, i_t, v'I, v'J, v'K, r'm, n'P, h'P, j'X, h'Q, n'R, holes, lendf, frzf, dnf, nolf, nltf, q'Z, v't, n'E, r'a, r'b, r'c, r'd, r'e, h'C, j'I, r'f, n'F, u'W, u'X, u'Y, m'q, i'M, m'r, m's, u'Z, m't, q'a, m'u, i'N, m'v, i'O, q'b, m'w, i'P, m'x, m'y, m'z, i'Q, m'A, h'm, i'R, v'b, h'n, i'S, q'c, h'o, f'R, q'd, m'B, m'C, q'e, q'f, q'g, q'h, q'i, m'D, m'E, m'F, i'T, m'G, i'U, i'V, q'j, q'k, q'l, m'H, h'p, m'I, h'q, i'W, h'r, f'S, i'X, i'Y, m'J, i'Z, j'a, h's, m'K, m'L, j'b, j'c, m'M, d'z, j'd, h't, m'N, m'O, j'e, j'f, m'P, j'g, j'h, h'u, m'Q, m'R, j'i, j'j, m'S, f'h, j'k, h'v, m'T, m'U, j'l, j'm, m'V, d'A, j'n, h'w, m'W, m'X, j'o, j'p, f'i, j'q, j'r, f'j, j's, d'B, j't, m'Y, m'Z, j'u, c'p, q'm, j'v, j'w, j'x, j'y, j'z, n'a, v'd, j'A, q'w, q'x, q'O, q'P, q'Q, q'R, q'S, n'q, n'r, pickT, Option.getD_some, n'b, d'C, q'n, v'c, q'o, q'p, q'q, q'r, q's, q't, q'u, g'u, j'F, j'G, n'z, n'A, q'V, j'E, v'h, v'i, v'j, n'x, s_l, s_f, s_d, s_t, s_o, n'y, v'k, q'W, q'X, h'B, q'Y, List.length_map, q'T, n's, n't, n'u, n'v, c'G, h'z, h'A, j'C, j'D, q'U, n'd, n'e, n'f, n'g, n'h, n'i, n'j, q'y, w_lt, v'e, q'z, q'A, v'f, q'B, q'C, q'D, q'E, q'F, q'G, n'k, n'l, n'm, q'H, q'I, q'J, n'n, n'o, q'K, q'L, q'M, n'p, q'N, at0, at1, at2, at3, at4, List.map_cons, List.map_nil, List.getElem?_cons_succ, List.getElem?_cons_zero, List.set_cons_zero, List.set_cons_succ, lends, frzs, dns, nols, nlts, Bool.and_self, if_true, if_false, ite_true, ite_false, true_and, and_true, List.cons_append, List.nil_append, List.replicate, Nat.reduceSub, List.length_cons, List.length_nil, Nat.reduceAdd, Nat.reduceLeDiff, V.int.injEq, decide_not, decide_true, decide_false, Bool.not_true, Bool.not_false, Bool.false_eq_true, Bool.true_eq_false, h'x, h'y, n'c, q'v, p'W, p'X, u'S, e_l, e_f, e_d, e_o, e_t, u'T, h'h, p'j, p'k, e'c, p'Y, m'n, m'o, m'p, k'O, h'i, h'j, h'k, p'l, p'm, k'P, u'U, u'V, i'K, i'L, Tr.int.injEq, reduceCtorEq])
theorem c'R (T:Tx w K mg) {z:Bool}:FnOk P w K mg base CX0 1 T.a_greatest_divisor T.d_greatest_divisor ["one","other"] (spP K z 0 2 g_gd):=by
 refine a'n T.F_greatest_divisor sc_greatest_divisor rfl (by decide) λcdv A outer s H E hr=>?_
 have hu:=a'l hr
 refine⟨_,(a'e (k'H PassesOwn.never (a'j (c'f hr.units) b'a (qv 1) a'b (by with_unfolding_all rfl)) (a'e (a'p (i:=2) sc_greatest_divisor.nd (by decide) rfl (Or.inl rfl) (a'B (qv 0) (qv 1)))
  (a'e (a'p (i:=0) sc_greatest_divisor.nd (by decide) rfl (Or.inl rfl) (qv 1))
  (a'd (a'p (i:=1) sc_greatest_divisor.nd (by decide) rfl (Or.inl rfl) (qv 2))))))
  (a'd (a'k (qv 0)))),?_⟩
 rintro xs Q' _ ⟨_,a,b,rfl,ha,hb,q⟩
 refine⟨λm ρ=>∃ x y z,ρ=[.int x,.int y,z]/\0<=x/\0<=y/\gd x y=gd a b/\m=y.toNat,⟨_,a,b,.hole,rfl,ha,hb,rfl,rfl⟩,?_⟩
 rintro m ρ ⟨x,y,z,rfl,hx,hy,e,rfl⟩
 walk_at "p"
 by_cases h0:y=0
 ·subst h0
  walk_at "p"
  rw [<- e,i'o x hx] at q
  exact q _
 ·rw [if_pos (by simp [h0])]
  refine⟨by omega,?_⟩
  refine⟨(x % y).toNat,?_,_,_,_,rfl,hy,Int.emod_nonneg _ h0,?_,rfl⟩
  ·have:=Int.emod_lt_of_pos x (show 0<y by omega)
   have:=Int.emod_nonneg x h0
   omega
  ·rw [l'A hx (by omega)];exact e
theorem j'Y (T:Tx w K mg) {z:Bool}:FnOk P w K mg base CX0 2 T.a_part T.d_part ["top","bottom"] (spP K z 0 2 g_part):=by
 refine a'n T.F_part sc_part rfl (by decide) λcdv A outer s H E hr=>?_
 have hu:=a'l hr
 refine⟨_,(a'e (a'v (a'j (b'm hr.units) a'y (qv 1) a'b (by with_unfolding_all rfl)) (a'd b'A) a'q)
  (a'e (a'p (i:=2) sc_part.nd (by decide) rfl (Or.inl rfl) (a'i ((c'R T).mono (by first | decide | omega)) (by first | exact id | exact λ_=>rfl) (λ_ _ h=>h.1) hr rfl T.m_greatest_divisor T.F_greatest_divisor.kp T.b_greatest_divisor (QA.frz (a'a (b'p c'z d's rfl T.z_abs rfl (a'a (qv 0) a'c)) (a'a (b'p c'z d's rfl T.z_abs rfl (a'a (qv 1) a'c)) a'c)))))
  (a'e (a'v (a'j d'Z b'R (qv 1) a'b (by with_unfolding_all rfl)) (a'd (a'p (i:=2) sc_part.nd (by decide) rfl (Or.inl rfl) (p'O (qv 2)))) a'q)
  (a'd (a'k (a'z (a'a (a'V (qv 0) (qv 2)) (a'a (a'V (qv 1) (qv 2)) a'c)))))))),?_⟩
 rintro xs Q' _ ⟨_,a,b,rfl,hb,h2,q⟩
 walk_at "p"
 rw [if_neg (by simp [hb])]
 refine⟨rfl,_,_,rfl,by split<;>omega,by split<;>omega,λρ=>?_⟩
 rw [r'O]
 rw [w'y,<- g'K hb,<- g'L hb] at q
 unfold dv at q
 by_cases h:b<0
 ·rw [if_pos h] at q
  rw [if_pos (decide_eq_true h)]
  walk_at "p"
  exact⟨h'l hb h2,h'l hb h2,q _⟩
 ·rw [if_neg h] at q
  rw [if_neg (by simp [h])]
  walk_at "p"
  exact⟨d'y hb h2,d'y hb h2,q _⟩
theorem j'Z (T:Tx w K mg) {z:Bool}:FnOk P w K mg base CX0 3 T.a_plus T.d_plus ["one","other"] (spP K z 0 2 (g_two (·+·))):=by
 refine a'n T.F_plus t'i rfl (by decide) λcdv A outer s H E hr=>?_
 have hu:=a'l hr
 refine⟨_,(a'd (a'k (a'i ((j'Y T).mono (by first | decide | omega)) (by first | exact id | exact λ_=>rfl) (λ_ _ h=>h.1) hr rfl T.m_part T.F_part.kp T.b_part (QA.frz (a'a (a'A (a'F (a'h hu (qv 0) a'b (λ_ _=>rfl)) (a'h hu (qv 1) a'b (λ_ _=>rfl))) (a'F (a'h hu (qv 1) a'b (λ_ _=>rfl)) (a'h hu (qv 0) a'b (λ_ _=>rfl)))) (a'a (a'F (a'h hu (qv 0) a'b (λ_ _=>rfl)) (a'h hu (qv 1) a'b (λ_ _=>rfl))) a'c)))))),?_⟩
 rintro xs Q' _ ⟨_,a,b,rfl,h1,q⟩
 walk_at "p"
 refine⟨a'O (b'F a) (a'Z b) (by omega),a'O (b'F b) (a'Z a) (by omega),a'O (a'Z a) (a'Z b) (by omega),rfl,_,_,rfl,d'n a b,i'J a b h1,λρ=>?_⟩
 rw [<- e'r]
 exact⟨e_o _,q _⟩
theorem h'T (T:Tx w K mg) {z:Bool}:FnOk P w K mg base CX0 3 T.a_times T.d_times ["one","other"] (spP K z 0 2 (g_two (·*·))):=by
 refine a'n T.F_times p'D rfl (by decide) λcdv A outer s H E hr=>?_
 have hu:=a'l hr
 refine⟨_,(a'd (a'k (a'i ((j'Y T).mono (by first | decide | omega)) (by first | exact id | exact λ_=>rfl) (λ_ _ h=>h.1) hr rfl T.m_part T.F_part.kp T.b_part (QA.frz (a'a (a'F (a'h hu (qv 0) a'b (λ_ _=>rfl)) (a'h hu (qv 1) a'b (λ_ _=>rfl))) (a'a (a'F (a'h hu (qv 0) a'b (λ_ _=>rfl)) (a'h hu (qv 1) a'b (λ_ _=>rfl))) a'c)))))),?_⟩
 rintro xs Q' _ ⟨_,a,b,rfl,h1,q⟩
 walk_at "p"
 refine⟨a'O (b'F a) (b'F b) (by omega),a'O (a'Z a) (a'Z b) (by omega),rfl,_,_,rfl,d'n a b,i'J a b h1,λρ=>?_⟩
 rw [<- e's]
 exact⟨e_o _,q _⟩
theorem k'a {a b:Rat} (h:bs a+bs b<=7990) {Q:Tr->List Tr->Prop} (q:∀ ρ,Q (Enc.t (a+b)) ρ):g_two (·+·) [Enc.t a,Enc.t b] Q:=⟨rfl,a,b,rfl,h,q⟩
theorem h'U {a b:Rat} (h:bs a+bs b<=7990) {Q:Tr->List Tr->Prop} (q:∀ ρ,Q (Enc.t (a*b)) ρ):g_two (·*·) [Enc.t a,Enc.t b] Q:=⟨rfl,a,b,rfl,h,q⟩
theorem r'o (m:List (Str×Rat)):nol (dicS .o m)=true:=s_o (m:=m)
theorem b's (m:List (Str×Rat)) (r:Rat):nol (.tup [dicS .o m,Enc.t r])=true:=by
 show (nol (dicS .o m) && (nol (Enc.t r) && true))=true
 rw [r'o,e_o];rfl
theorem r'p (m:List (Str×Rat)):nlt (.dic .o (m.map λp=>((Sum.inr p.1:Key),Enc.t p.2)))=true:=s_t (f:=.f) (m:=m)
theorem e'i (x:Str):∀ ns:List Str,inT (.str x) (ns.map Tr.str)=decide (x∈ns)
 | [] => rfl
 | n :: ns => by
  have ih:=e'i x ns
  unfold inT inV at ih ⊢
  rw [List.map_cons,List.map_cons,List.any_cons,ih]
  by_cases h:x=n
  ·simp [h,valT,eqV]
  ·simp [h,valT,eqV,Ne.symm h]
theorem flat_strs:∀ ns:List Str,(ns.map Tr.str).all flatT=true
 | [] => rfl
 | n :: ns => by rw [List.map_cons, List.all_cons, flat_strs ns]; rfl
theorem n'T {neg:Bool} {x:Str} {ns:List Str} {Q:Tr->Prop} (q:Q (.bl (if neg=true then !decide (x∈ns) else decide (x∈ns)))):wIn neg (.str x) (.tup (ns.map Tr.str)) Q:=⟨rfl,flat_strs ns,by rw [e'i];exact q⟩
theorem t'l (a:Str):Str.empty++a=a:=by
 cases a with | mk c=>show Str.mk (#[]++c)=_;rw [Array.empty_append]
theorem b'i (a b:Str):(a++b).length=a.length+b.length:=by
 show (a.cps++b.cps).size=_;rw [Array.size_append];rfl
def g_made:PSp:=spec 2 λxs Q=>∃ (m:List (Str×Rat)) (r:Rat),xs=[dicS .f m,Enc.t r]/\Nd m/\m.length<=200/\Q (.tup [dicS .o (nz m),Enc.t r])
theorem d'I (T:Tx w K mg):FnOk P w K mg base CX0 1 T.a_made T.d_made ["parts","rest"] (spP K true 0 2 g_made):=by
 refine a'n T.F_made sc_made rfl (by decide) λcdv A outer s H E hr=>?_
 have hu:=a'l hr
 refine⟨_,(a'e (b'f (i:=2) sc_made.nd (by decide) rfl (Or.inl rfl) c'o)
  (a'e (e'I rfl PassesOwn.never rfl (qv 0) (e'a (n:=2) rfl (a't (a'W (i:=3) sc_made.nd (by decide) rfl (Or.inl rfl)) (a't (a'W (i:=4) sc_made.nd (by decide) rfl (Or.inl rfl)) b'C))) (a'd (a'v (a'j (c'f hr.units) b'a (a'h hu (qv 4) a'b (λ_ _=>rfl)) a'b (by with_unfolding_all rfl)) (a'd (c'F hu (a'r 2) (qv 3) (qv 4))) a'q)))
  (a'd (n'M (t'h (b'y 2 (c'I (qv 1) d'e))))))),?_⟩
 rintro xs Q' _ ⟨_,m,r,rfl,nd,hl,q⟩
 walk_at "p"
 refine⟨rfl,LoopD.map m (λi ρ=>∃ (a b:Tr),ρ=[dicS .f m,Enc.t r,dicS .o (keepS (m.take i)),a,b]) ⟨.hole,.hole,rfl⟩ ?_ ?_⟩
 ·rintro i x y ρ hx ⟨a,b,rfl⟩
  walk_at "p"
  have kl:(keepS (m.take i)).length<=200:=Nat.le_trans (o'A _) (by rw [List.length_take];omega)
  by_cases h0:y.num=0
  ·rw [if_neg (by simp [h0])]
   exact⟨_,_,by rw [l'K hx h0]⟩
  ·rw [if_pos (by simp [h0])]
   rw [o'z nd hx h0]
   exact⟨by omega,_,_,rfl⟩
 ·rintro ρ ⟨a,b,rfl⟩
  rw [List.take_length,t'j]
  walk_at "p"
  exact⟨by rw [r'o];rfl,q _⟩
def g_scaled:PSp:=spec 2 λxs Q=>∃ (m:List (Str×Rat)) (r q:Rat) (n:Nat),xs=[.tup [dicS .f m,Enc.t r],Enc.t q]/\Nd m/\m.length<=100/\(∀ x q,gt m x=some q->bs q<=n)/\bs r<=n/\n+bs q<=7000/\Q (.tup [dicS .o (nz (sc m q)),Enc.t (r*q)])
theorem f'W (T:Tx w K mg):FnOk P w K mg base CX0 4 T.a_scaled T.d_scaled ["one","number"] (spP K true 0 2 g_scaled):=by
 refine a'n T.F_scaled sc_scaled rfl (by decide) λcdv A outer s H E hr=>?_
 have hu:=a'l hr
 refine⟨_,(a'e (b'f (i:=2) sc_scaled.nd (by decide) rfl (Or.inl rfl) c'o)
  (a'e (e'I rfl PassesOwn.never rfl (a'h hu (qv 0) a'b (λ_ _=>rfl)) (e'a (n:=2) rfl (a't (a'W (i:=3) sc_scaled.nd (by decide) rfl (Or.inl rfl)) (a't (a'W (i:=4) sc_scaled.nd (by decide) rfl (Or.inl rfl)) b'C))) (a'd (c'F hu (a'r 2) (qv 3) (a'i ((h'T T).mono (by first | decide | omega)) (by first | exact id | exact λ_=>rfl) (λ_ _ h=>h.1) hr rfl T.m_times T.F_times.kp T.b_times (QA.frz (a'a (qv 4) (a'a (qv 1) a'c)))))))
  (d'b 2 (a'd (a'k (a'i ((d'I T).mono (by first | decide | omega)) (by first | exact id | exact λ_=>rfl) (λ_ _ h=>h.1) hr rfl T.m_made T.F_made.kp T.b_made (QA.frz (a'a (qv 2) (a'a (a'i ((h'T T).mono (by first | decide | omega)) (by first | exact id | exact λ_=>rfl) (λ_ _ h=>h.1) hr rfl T.m_times T.F_times.kp T.b_times (QA.frz (a'a (a'h hu (qv 0) a'b (λ_ _=>rfl)) (a'a (qv 1) a'c)))) a'c))))))))),?_⟩
 rintro xs Q' _ ⟨_,m,r,b,n,rfl,nd,hl,hb,hr',hn,q⟩
 walk_at "p"
 refine⟨rfl,LoopD.map m (λi ρ=>∃ (x y:Tr),ρ=[.tup [dicS .f m,Enc.t r],Enc.t b,dicS .o (sc (m.take i) b),x,y]) ⟨.hole,.hole,rfl⟩ ?_ ?_⟩
 ·rintro i x y ρ hx ⟨a,c,rfl⟩
  have h1:=hb _ _ (b'W nd (List.mem_of_getElem? hx))
  walk_at "p"
  refine h'U (by omega) λρ=>?_
  walk_at "p"
  rw [v'M nd hx]
  exact⟨by rw [e'v,List.length_take];omega,_,_,rfl⟩
 ·rintro ρ ⟨a,c,rfl⟩
  rw [List.take_length]
  walk_at "p"
  refine h'U (by omega) λρ=>?_
  walk_at "p"
  exact⟨rfl,_,_,rfl,e't nd b,by rw [e'v];omega,λρ=>⟨b's _ _,q _⟩⟩
def g_added:PSp:=spec 2 λxs Q=>∃ (m m':List (Str×Rat)) (r r':Rat) (n n':Nat),xs=[.tup [dicS .f m,Enc.t r],.tup [dicS .f m',Enc.t r']]/\Nd m/\Nd m'/\m.length+m'.length<=100/\(∀ x q,gt m x=some q->bs q<=n)/\(∀ x q,gt m' x=some q->bs q<=n')/\bs r+bs r'<=7000/\1<=n/\n+n'<=7000/\Q (.tup [dicS .o (nz (addM m m')),Enc.t (r+r')])
theorem h'V (T:Tx w K mg):FnOk P w K mg base CX0 4 T.a_added T.d_added ["one","other"] (spP K true 0 2 g_added):=by
 refine a'n T.F_added sc_added rfl (by decide) λcdv A outer s H E hr=>?_
 have hu:=a'l hr
 refine⟨_,(a'e (b'f (i:=2) sc_added.nd (by decide) rfl (Or.inl rfl) (p'V k'q p'b rfl T.z_dict rfl (a'a (a'h hu (qv 0) a'b (λ_ _=>rfl)) a'c)))
  (a'e (e'I rfl PassesOwn.never rfl (a'h hu (qv 1) a'b (λ_ _=>rfl)) (e'a (n:=2) rfl (a't (a'W (i:=3) sc_added.nd (by decide) rfl (Or.inl rfl)) (a't (a'W (i:=4) sc_added.nd (by decide) rfl (Or.inl rfl)) b'C))) (a'd (c'F hu (a'r 2) (qv 3) (a'i ((j'Z T).mono (by first | decide | omega)) (by first | exact id | exact λ_=>rfl) (λ_ _ h=>h.1) hr rfl T.m_plus T.F_plus.kp T.b_plus (QA.frz (a'a (h'g hu (qv 2) (qv 3) (k'N [0,1] rfl T.m_NOUGHT T.t_NOUGHT) ⟨rfl,rfl,rfl,rfl⟩) (a'a (qv 4) a'c)))))))
  (d'b 2 (a'd (a'k (a'i ((d'I T).mono (by first | decide | omega)) (by first | exact id | exact λ_=>rfl) (λ_ _ h=>h.1) hr rfl T.m_made T.F_made.kp T.b_made (QA.frz (a'a (qv 2) (a'a (a'i ((j'Z T).mono (by first | decide | omega)) (by first | exact id | exact λ_=>rfl) (λ_ _ h=>h.1) hr rfl T.m_plus T.F_plus.kp T.b_plus (QA.frz (a'a (a'h hu (qv 0) a'b (λ_ _=>rfl)) (a'a (a'h hu (qv 1) a'b (λ_ _=>rfl)) a'c)))) a'c))))))))),?_⟩
 rintro xs Q' _ ⟨_,m,m',r,r',n,n',rfl,nd,nd',hl,hb,hb',hr',h1,hn,q⟩
 walk_at "p"
 refine⟨r'p m,LoopD.map m' (λi ρ=>∃ (x y:Tr),ρ=[.tup [dicS .f m,Enc.t r],.tup [dicS .f m',Enc.t r'],dicS .o (addM m (m'.take i)),x,y]) ⟨.hole,.hole,rfl⟩ ?_ ?_⟩
 ·rintro i x y ρ hx ⟨a,c,rfl⟩
  have b1:=hb' _ _ (b'W nd' (List.mem_of_getElem? hx))
  have b2:bs ((gtd (addM m (m'.take i)) x).getD 0)<=n:=by rw [g'N,g'b nd' hx];exact t'k hb h1
  have l1:=e'h (m'.take i) m
  rw [List.length_take] at l1
  walk_at "p"
  refine k'a (by omega) λρ=>?_
  walk_at "p"
  exact⟨by omega,_,_,by rw [l'E hx];rfl⟩
 ·rintro ρ ⟨a,c,rfl⟩
  rw [List.take_length]
  have l1:=e'h m' m
  walk_at "p"
  refine k'a (by omega) λρ=>?_
  walk_at "p"
  exact⟨rfl,_,_,rfl,d'o _ _ nd,by omega,λρ=>⟨b's _ _,q _⟩⟩
def g_reduced:PSp:=spec 2 λxs Q=>∃ (m m':List (Str×Rat)) (r r':Rat) (n n':Nat),xs=[.tup [dicS .f m,Enc.t r],.tup [dicS .f m',Enc.t r']]/\Nd m/\Nd m'/\m.length+m'.length<=100/\(∀ x q,gt m x=some q->bs q<=n)/\(∀ x q,gt m' x=some q->bs q<=n')/\bs r<=n/\bs r'<=n'/\1<=n/\n+n'<=6000/\Q (.tup [dicS .o (nz (addM m (nz (sc m' (-1))))),Enc.t (r+r'*(-1))])
theorem k'T (T:Tx w K mg):FnOk P w K mg base CX0 5 T.a_reduced T.d_reduced ["one","other"] (spP K true 0 2 g_reduced):=by
 refine a'n T.F_reduced k'S rfl (by decide) λcdv A outer s H E hr=>?_
 have hu:=a'l hr
 refine⟨_,(a'd (a'k (a'i ((h'V T).mono (by first | decide | omega)) (by first | exact id | exact λ_=>rfl) (λ_ _ h=>h.1) hr rfl T.m_added T.F_added.kp T.b_added (QA.frz (a'a (qv 0) (a'a (a'i ((f'W T).mono (by first | decide | omega)) (by first | exact id | exact λ_=>rfl) (λ_ _ h=>h.1) hr rfl T.m_scaled T.F_scaled.kp T.b_scaled (QA.frz (a'a (qv 1) (a'a (k'N [-1,1] rfl T.m_MINUS_ONE T.t_MINUS_ONE) a'c)))) a'c)))))),?_⟩
 rintro xs Q' _ ⟨_,m,m',r,r',n,n',rfl,nd,nd',hl,hb,hb',hr1,hr2,h1,hn,q⟩
 have e1:Tr.tup [.int (-1),.int 1]=Enc.t (-1:Rat):=rfl
 have b1:=e'y r' (-1)
 rw [g'v] at b1
 walk_at "p"
 simp only [e1]
 refine⟨rfl,m',r',-1,n',rfl,nd',by omega,hb',hr2,by rw [g'v];omega,λρ=>?_⟩
 walk_at "p"
 have l1:=e'u (sc m' (-1))
 rw [e'v] at l1
 refine⟨rfl,m,nz (sc m' (-1)),r,r'*(-1),n,n'+1,rfl,nd,g'r (e't nd' _),by omega,hb,λx q e=>by have:=bsc nd' hb' x q e;rw [g'v] at this;exact this,by omega,h1,by omega,λρ=>⟨b's _ _,q _⟩⟩
def dwn (x:Str):Bool:=decide (x∈([("top":Str),"height","bottom","centre","drop"]:List Str))
def wayS (x:Str):Str:=if dwn x=true then "down" else "across"
def g_way:PSp:=spec 1 λxs Q=>∃ x:Str,xs=[.str x]/\Q (.str (wayS x))
theorem n'U (T:Tx w K mg) {z:Bool}:FnOk P w K mg base CX0 1 T.a_way_of T.d_way_of ["word"] (spP K z 0 1 g_way):=by
 refine a'n T.F_way_of n'S rfl (by decide) λcdv A outer s H E hr=>?_
 have hu:=a'l hr
 refine⟨_,(a'd (a'k (w'r (a'j (k'K hu) e'H (qv 0) (r'n ["top","height","bottom","centre","drop"] rfl T.m_DOWN T.t_DOWN) (by with_unfolding_all rfl)) a'g a'g))),?_⟩
 rintro xs Q' _ ⟨_,x,rfl,q⟩
 walk_at "p"
 refine n'T (ns:=["top","height","bottom","centre","drop"]) ?_
 rw [show wayS x=(if decide (x∈([("top":Str),"height","bottom","centre","drop"]:List Str))=true then ("down":Str) else "across") from rfl] at q
 walk_at "p"
 by_cases h:x∈([("top":Str),"height","bottom","centre","drop"]:List Str)
 ·rw [if_pos (decide_eq_true h)] at q ⊢;exact q _
 ·rw [if_neg (by rw [decide_eq_true_eq];exact h)] at q ⊢;exact q _
def g_unk:PSp:=spec 2 λxs Q=>∃ a n:Str,xs=[.str a,.str n]/\a.length<=100/\n.length<=100/\Q (.str (joinU a n))
theorem g'g (T:Tx w K mg) {z:Bool}:FnOk P w K mg base CX0 1 T.a_unknown_of T.d_unknown_of ["word","name"] (spP K z 0 2 g_unk):=by
 refine a'n T.F_unknown_of g'd rfl (by decide) λcdv A outer s H E hr=>?_
 have hu:=a'l hr
 refine⟨_,(a'd (a'k (v's (n'D (qv 0) (v'r (n'D (qv 1) v'q)))))),?_⟩
 rintro xs Q' _ ⟨_,a,n,rfl,h1,h2,q⟩
 walk_at "p"
 have l1:(Str.ofString " ").length=1:=rfl
 simp only [t'l,b'i,l1]
 exact⟨by omega,by omega,by omega,by omega,by omega,by omega,q _⟩
/-- a thing of one's own gets its fields; what it is handed is closed -/
def g_in1 (C:Addr) (f:Str):PSp:=λxs Q=>xs.length=2/\∃ v:Tr,xs=[Tr.ins .o C [],v]/\Cl v=true/\v≠.hole/\∀ ρ:List Tr,ρ[0]?=some (Tr.ins .o C [(f,v)])->Q .non ρ
def g_in2 (C:Addr) (f g:Str):PSp:=λxs Q=>xs.length=3/\∃ v u:Tr,xs=[Tr.ins .o C [],v,u]/\Cl v=true/\v≠.hole/\Cl u=true/\u≠.hole/\∀ ρ:List Tr,ρ[0]?=some (Tr.ins .o C [(f,v),(g,u)])->Q .non ρ
theorem b'j {t:Tr} {Q:Tr->Prop} (h:t≠.hole) (q:Q t):pV (some t) Q:=by
 cases t with
 | hole => exact absurd rfl h
 | _ => exact q
theorem g'w {f g:Str} {v u:Tr} (h:¬ f=g):putf g u [(f,v)]=[(f,v),(g,u)]:=by
 show (if f=g then _ else _)=_
 rw [if_neg h];rfl
theorem d'h (T:Tx w K mg) {z:Bool}:FnOk P w K mg base CX0 1 T.a_Number___init__ T.d_Number___init__ ["self","number"] (spP K z 1 2 (g_in1 T.c_Number "number")):=by
 refine a'n T.F_Number___init__ d'g rfl (by decide) λcdv A outer s H E hr=>?_
 have hu:=a'l hr
 refine⟨_,(a'd (b'w (a'r 0) (qv 1))),?_⟩
 rintro xs Q' _ ⟨_,v,rfl,h1,h4,q⟩
 have c:=clo v h1
 walk_at "p"
 rw [c.l]
 exact b'j h4 ⟨c.t,⟨T.cl_Number,T.nf_Number_number⟩,by decide,q _ rfl⟩
theorem e'j (T:Tx w K mg) {z:Bool}:FnOk P w K mg base CX0 1 T.a_Edge___init__ T.d_Edge___init__ ["self","word","name"] (spP K z 1 3 (g_in2 T.c_Edge "word" "name")):=by
 refine a'n T.F_Edge___init__ e'f rfl (by decide) λcdv A outer s H E hr=>?_
 have hu:=a'l hr
 refine⟨_,(a'e (b'w (a'r 0) (qv 1))
  (a'd (b'w (a'r 0) (qv 2)))),?_⟩
 rintro xs Q' _ ⟨_,v,u,rfl,h1,h2,h3,h4,q⟩
 have c:=clo v h1
 have d:=clo u h3
 walk_at "p"
 rw [c.l,d.l]
 exact b'j h2 ⟨c.t,⟨T.cl_Edge,T.nf_Edge_word⟩,by decide,b'j h4 ⟨d.t,⟨T.cl_Edge,T.nf_Edge_name⟩,by decide,q _ (by rw [g'w (by decide +kernel)];rfl)⟩⟩
theorem d'N (T:Tx w K mg) {z:Bool}:FnOk P w K mg base CX0 1 T.a_Times___init__ T.d_Times___init__ ["self","number","inner"] (spP K z 1 3 (g_in2 T.c_Times "number" "inner")):=by
 refine a'n T.F_Times___init__ d'L rfl (by decide) λcdv A outer s H E hr=>?_
 have hu:=a'l hr
 refine⟨_,(a'e (b'w (a'r 0) (qv 1))
  (a'd (b'w (a'r 0) (qv 2)))),?_⟩
 rintro xs Q' _ ⟨_,v,u,rfl,h1,h2,h3,h4,q⟩
 have c:=clo v h1
 have d:=clo u h3
 walk_at "p"
 rw [c.l,d.l]
 exact b'j h2 ⟨c.t,⟨T.cl_Times,T.nf_Times_number⟩,by decide,b'j h4 ⟨d.t,⟨T.cl_Times,T.nf_Times_inner⟩,by decide,q _ (by rw [g'w (by decide +kernel)];rfl)⟩⟩
theorem e'k (T:Tx w K mg) {z:Bool}:FnOk P w K mg base CX0 1 T.a_Plus___init__ T.d_Plus___init__ ["self","one","other"] (spP K z 1 3 (g_in2 T.c_Plus "one" "other")):=by
 refine a'n T.F_Plus___init__ e'g rfl (by decide) λcdv A outer s H E hr=>?_
 have hu:=a'l hr
 refine⟨_,(a'e (b'w (a'r 0) (qv 1))
  (a'd (b'w (a'r 0) (qv 2)))),?_⟩
 rintro xs Q' _ ⟨_,v,u,rfl,h1,h2,h3,h4,q⟩
 have c:=clo v h1
 have d:=clo u h3
 walk_at "p"
 rw [c.l,d.l]
 exact b'j h2 ⟨c.t,⟨T.cl_Plus,T.nf_Plus_one⟩,by decide,b'j h4 ⟨d.t,⟨T.cl_Plus,T.nf_Plus_other⟩,by decide,q _ (by rw [g'w (by decide +kernel)];rfl)⟩⟩
theorem d'O (T:Tx w K mg) {z:Bool}:FnOk P w K mg base CX0 1 T.a_Minus___init__ T.d_Minus___init__ ["self","one","other"] (spP K z 1 3 (g_in2 T.c_Minus "one" "other")):=by
 refine a'n T.F_Minus___init__ d'M rfl (by decide) λcdv A outer s H E hr=>?_
 have hu:=a'l hr
 refine⟨_,(a'e (b'w (a'r 0) (qv 1))
  (a'd (b'w (a'r 0) (qv 2)))),?_⟩
 rintro xs Q' _ ⟨_,v,u,rfl,h1,h2,h3,h4,q⟩
 have c:=clo v h1
 have d:=clo u h3
 walk_at "p"
 rw [c.l,d.l]
 exact b'j h2 ⟨c.t,⟨T.cl_Minus,T.nf_Minus_one⟩,by decide,b'j h4 ⟨d.t,⟨T.cl_Minus,T.nf_Minus_other⟩,by decide,q _ (by rw [g'w (by decide +kernel)];rfl)⟩⟩
def tmT (T:Tx w K mg):Tm->Tr
 | .num q => .ins .f T.c_Number [("number", Enc.t q)]
 | .edge a n => .ins .f T.c_Edge [("word", .str a), ("name", .str n)]
 | .times q t => .ins .f T.c_Times [("number", Enc.t q), ("inner", tmT T t)]
 | .plus a b => .ins .f T.c_Plus [("one", tmT T a), ("other", tmT T b)]
 | .minus a b => .ins .f T.c_Minus [("one", tmT T a), ("other", tmT T b)]
theorem a'Y (T:Tx w K mg):∀ t:Tm,Cl (tmT T t)=true
 | .num q => by show (Cl (Enc.t q) && true) = true; rw [Enc.c]; rfl
 | .edge a n => rfl
 | .times q t => by show (Cl (Enc.t q) && (Cl (tmT T t) && true)) = true; rw [Enc.c, a'Y T t]; rfl
 | .plus a b => by show (Cl (tmT T a) && (Cl (tmT T b) && true)) = true; rw [a'Y T a, a'Y T b]; rfl
 | .minus a b => by show (Cl (tmT T a) && (Cl (tmT T b) && true)) = true; rw [a'Y T a, a'Y T b]; rfl
theorem e'M (T:Tx w K mg) (t:Tm):tmT T t≠.hole:=by cases t<;>exact λz=>by cases z
theorem m_l (T:Tx w K mg) (t:Tm):lend (tmT T t)=tmT T t:=(clo _ (a'Y T t)).l
theorem m_f (T:Tx w K mg) (t:Tm):Pu.frz (tmT T t)=tmT T t:=(clo _ (a'Y T t)).f
theorem m_d (T:Tx w K mg) (t:Tm):dn (tmT T t)=tmT T t:=(clo _ (a'Y T t)).d
theorem m_o (T:Tx w K mg) (t:Tm):nol (tmT T t)=true:=(clo _ (a'Y T t)).o
theorem m_t (T:Tx w K mg) (t:Tm):nlt (tmT T t)=true:=(clo _ (a'Y T t)).t
theorem m_v (T:Tx w K mg) (t:Tm) (Q:Tr->Prop):pV (some (tmT T t)) Q=Q (tmT T t):=by cases t<;>rfl
def DT (T:Tx w K mg) (C:Addr) (g:Nat):Prop:=(C=T.c_Number/\g=0)\/(C=T.c_Edge/\g=1)\/(C=T.c_Times/\g=2)\/(C=T.c_Plus/\g=3)\/(C=T.c_Minus/\g=4)
theorem lk1 {m f:Str} {v:Tr} (h:(m == f)=false):[(f,v)].lookup m=none:=by simp [List.lookup,h]
theorem lk2 {m f g:Str} {v u:Tr} (h:(m == f)=false) (h':(m == g)=false):[(f,v),(g,u)].lookup m=none:=by simp [List.lookup,h,h']
theorem h'W (T:Tx w K mg) {m:Str} {t:Tm} {Q:Nat->Prop} (h1:(m == ("number":Str))=false) (h2:(m == ("word":Str))=false) (h3:(m == ("name":Str))=false) (h4:(m == ("inner":Str))=false) (h5:(m == ("one":Str))=false) (h6:(m == ("other":Str))=false) (q:Q t.tag):wIns (DT T) m (tmT T t) Q:=by
 cases t with
 | num _ => exact ⟨0, .inl ⟨rfl, rfl⟩, lk1 h1, q⟩
 | edge _ _ => exact ⟨1, .inr (.inl ⟨rfl, rfl⟩), lk2 h2 h3, q⟩
 | times _ _ => exact ⟨2, .inr (.inr (.inl ⟨rfl, rfl⟩)), lk2 h1 h4, q⟩
 | plus _ _ => exact ⟨3, .inr (.inr (.inr (.inl ⟨rfl, rfl⟩))), lk2 h5 h6, q⟩
 | minus _ _ => exact ⟨4, .inr (.inr (.inr (.inr ⟨rfl, rfl⟩))), lk2 h5 h6, q⟩
theorem c'c {f g:Str} {c:Addr} {k:Fl} {x:Tr} {r:List (Str×Tr)} {Q:Tr->Prop} (h1:Cls K c) (h2:NoAttr K c f) (q:Q x):wFld K f (.ins k c ((f,x) :: r)) Q:=by
 refine⟨⟨h1,h2⟩,?_⟩
 rw [List.lookup_cons_self]
 exact q
theorem b'E {f g:Str} {c:Addr} {k:Fl} {x y:Tr} {Q:Tr->Prop} (h1:Cls K c) (h2:NoAttr K c f) (h:(f == g)=false) (q:Q x):wFld K f (.ins k c [(g,y),(f,x)]) Q:=by
 refine⟨⟨h1,h2⟩,?_⟩
 rw [List.lookup_cons,h,List.lookup_cons_self]
 exact q
theorem v'N {t:Tm} (h:t.tag=0):∃ q,t=.num q:=by cases t<;>first | exact⟨_,rfl⟩ | cases h
theorem v'O {t:Tm} (h:t.tag=1):∃ a b,t=.edge a b:=by cases t<;>first | exact⟨_,_,rfl⟩ | cases h
theorem k'U {t:Tm} (h:t.tag=2):∃ a b,t=.times a b:=by cases t<;>first | exact⟨_,_,rfl⟩ | cases h
theorem k'V {t:Tm} (h:t.tag=3):∃ a b,t=.plus a b:=by cases t<;>first | exact⟨_,_,rfl⟩ | cases h
theorem k'W {t:Tm} (h:t.tag=4):∃ a b,t=.minus a b:=by cases t<;>first | exact⟨_,_,rfl⟩ | cases h
def g_edges (T:Tx w K mg) (n g:Nat):PSp:=spec 1 λxs Q=>∃ t:Tm,xs=[tmT T t]/\t.tag=g/\t.dep<=n/\(edg t).length<=1000/\Q (.lst .o ((edg t).map Enc.t))
theorem b'k (T:Tx w K mg) {n:Nat} {t:Tm} (hd:t.dep<=n) (hl:(edg t).length<=1000) {Q:Tr->List Tr->Prop} (q:∀ ρ,Q (.lst .o ((edg t).map Enc.t)) ρ):wIns (DT T) "edges" (tmT T t) λg=>g_edges T n g [tmT T t] Q:=h'W T (by decide +kernel) (by decide +kernel) (by decide +kernel) (by decide +kernel) (by decide +kernel) (by decide +kernel) ⟨rfl,t,rfl,rfl,hd,hl,q⟩
theorem a'J {α:Type} [Enc α] (xs:List α):nols (xs.map Enc.t)=true:=p'k xs
theorem g'h (T:Tx w K mg) (n:Nat):FnOk P w K mg base CX0 1 T.a_Term_edges T.d_Term_edges ["self"] (spP K true 0 1 (g_edges T n 0)):=by
 refine a'n T.F_Term_edges g'e rfl (by decide) λcdv A outer s H E hr=>?_
 have hu:=a'l hr
 refine⟨_,(a'd (a'k (a'x a'c))),?_⟩
 rintro xs Q' _ ⟨_,t,rfl,ht,hd,hl,q⟩
 obtain⟨a,rfl⟩:=v'N ht
 rw [show tmT T (.num a)=.ins .f T.c_Number [("number",Enc.t a)] from rfl]
 walk_at "p"
 exact q _
theorem g'i (T:Tx w K mg) (n:Nat):FnOk P w K mg base CX0 1 T.a_Edge_edges T.d_Edge_edges ["self"] (spP K true 0 1 (g_edges T n 1)):=by
 refine a'n T.F_Edge_edges g'f rfl (by decide) λcdv A outer s H E hr=>?_
 have hu:=a'l hr
 refine⟨_,(a'd (a'k (a'x (a'a (a'z (a'a (a'C K rfl (qv 0)) (a'a (a'C K rfl (qv 0)) a'c))) a'c)))),?_⟩
 rintro xs Q' _ ⟨_,t,rfl,ht,hd,hl,q⟩
 obtain⟨a,b,rfl⟩:=v'O ht
 rw [show tmT T (.edge a b)=.ins .f T.c_Edge [("word",.str a),("name",.str b)] from rfl]
 walk_at "p"
 refine c'c (g:="name") T.cl_Edge T.nf_Edge_word ?_
 walk_at "p"
 refine b'E T.cl_Edge T.nf_Edge_name (by decide +kernel) ?_
 walk_at "p"
 exact q _
theorem f'o (T:Tx w K mg) (m:Nat) (ih:∀ C g,DT T C g->MOkA P w K mg base CX0 (m+1) "edges" C ["self"] (spP K true 0 1 (g_edges T m g))):FnOk P w K mg base CX0 (m+2) T.a_Times_edges T.d_Times_edges ["self"] (spP K true 0 1 (g_edges T (m+1) 2)):=by
 refine a'n T.F_Times_edges c'q rfl (by decide) λcdv A outer s H E hr=>?_
 have hu:=a'l hr
 refine⟨_,(a'd (a'k (a'S ((λC g d=>MOkA.mono (ih C g d) (by first | decide | omega))) (by first | exact id | exact λ_=>rfl) (λ_ _ _ h=>h.1) hr (a'C K rfl (qv 0))))),?_⟩
 rintro xs Q' _ ⟨_,t,rfl,ht,hd,hl,q⟩
 obtain⟨b,t,rfl⟩:=k'U ht
 rw [show tmT T (.times b t)=.ins .f T.c_Times [("number",Enc.t b),("inner",tmT T t)] from rfl]
 walk_at "p"
 refine b'E T.cl_Times T.nf_Times_inner (by decide +kernel) ?_
 simp only [m_l,m_d]
 exact b'k T (Nat.le_of_succ_le_succ hd) hl λρ=>⟨a'J (edg t),q _⟩
theorem g'j (T:Tx w K mg) (m:Nat) (ih:∀ C g,DT T C g->MOkA P w K mg base CX0 (m+1) "edges" C ["self"] (spP K true 0 1 (g_edges T m g))):FnOk P w K mg base CX0 (m+2) T.a_Plus_edges T.d_Plus_edges ["self"] (spP K true 0 1 (g_edges T (m+1) 3)):=by
 refine a'n T.F_Plus_edges c'N rfl (by decide) λcdv A outer s H E hr=>?_
 have hu:=a'l hr
 refine⟨_,(a'd (a'k (a'A (a'S ((λC g d=>MOkA.mono (ih C g d) (by first | decide | omega))) (by first | exact id | exact λ_=>rfl) (λ_ _ _ h=>h.1) hr (a'C K rfl (qv 0))) (a'S ((λC g d=>MOkA.mono (ih C g d) (by first | decide | omega))) (by first | exact id | exact λ_=>rfl) (λ_ _ _ h=>h.1) hr (a'C K rfl (qv 0)))))),?_⟩
 rintro xs Q' _ ⟨_,t,rfl,ht,hd,hl,q⟩
 obtain⟨a,b,rfl⟩:=k'V ht
 have hd:max a.dep b.dep+1<=m+1:=hd
 have hl:(edg a++edg b).length<=1000:=hl
 rw [List.length_append] at hl
 rw [show tmT T (.plus a b)=.ins .f T.c_Plus [("one",tmT T a),("other",tmT T b)] from rfl]
 walk_at "p"
 refine c'c (g:="other") T.cl_Plus T.nf_Plus_one ?_
 simp only [m_l,m_d]
 refine b'k T (by omega) (by omega) λρ=>?_
 try walk_at "p"
 refine b'E T.cl_Plus T.nf_Plus_other (by decide +kernel) ?_
 simp only [m_l,m_d]
 refine b'k T (by omega) (by omega) λρ=>?_
 walk_at "p"
 rw [<- List.map_append]
 exact⟨by omega,a'J _,q _⟩
theorem f'p (T:Tx w K mg) (m:Nat) (ih:∀ C g,DT T C g->MOkA P w K mg base CX0 (m+1) "edges" C ["self"] (spP K true 0 1 (g_edges T m g))):FnOk P w K mg base CX0 (m+2) T.a_Minus_edges T.d_Minus_edges ["self"] (spP K true 0 1 (g_edges T (m+1) 4)):=by
 refine a'n T.F_Minus_edges c's rfl (by decide) λcdv A outer s H E hr=>?_
 have hu:=a'l hr
 refine⟨_,(a'd (a'k (a'A (a'S ((λC g d=>MOkA.mono (ih C g d) (by first | decide | omega))) (by first | exact id | exact λ_=>rfl) (λ_ _ _ h=>h.1) hr (a'C K rfl (qv 0))) (a'S ((λC g d=>MOkA.mono (ih C g d) (by first | decide | omega))) (by first | exact id | exact λ_=>rfl) (λ_ _ _ h=>h.1) hr (a'C K rfl (qv 0)))))),?_⟩
 rintro xs Q' _ ⟨_,t,rfl,ht,hd,hl,q⟩
 obtain⟨a,b,rfl⟩:=k'W ht
 have hd:max a.dep b.dep+1<=m+1:=hd
 have hl:(edg a++edg b).length<=1000:=hl
 rw [List.length_append] at hl
 rw [show tmT T (.minus a b)=.ins .f T.c_Minus [("one",tmT T a),("other",tmT T b)] from rfl]
 walk_at "p"
 refine c'c (g:="other") T.cl_Minus T.nf_Minus_one ?_
 simp only [m_l,m_d]
 refine b'k T (by omega) (by omega) λρ=>?_
 try walk_at "p"
 refine b'E T.cl_Minus T.nf_Minus_other (by decide +kernel) ?_
 simp only [m_l,m_d]
 refine b'k T (by omega) (by omega) λρ=>?_
 walk_at "p"
 rw [<- List.map_append]
 exact⟨by omega,a'J _,q _⟩
theorem f'q (T:Tx w K mg):FnOk P w K mg base CX0 1 T.a_Times_edges T.d_Times_edges ["self"] (spP K true 0 1 (g_edges T 0 2)):=by
 refine a'n T.F_Times_edges c'q rfl (by decide) λcdv A outer s H E hr=>⟨_,a'd b'A,?_⟩
 rintro xs Q' _ ⟨_,t,rfl,ht,hd,_⟩
 obtain⟨a,b,rfl⟩:=k'U ht
 exact absurd hd (Nat.not_succ_le_zero _)
theorem g'k (T:Tx w K mg):FnOk P w K mg base CX0 1 T.a_Plus_edges T.d_Plus_edges ["self"] (spP K true 0 1 (g_edges T 0 3)):=by
 refine a'n T.F_Plus_edges c'N rfl (by decide) λcdv A outer s H E hr=>⟨_,a'd b'A,?_⟩
 rintro xs Q' _ ⟨_,t,rfl,ht,hd,_⟩
 obtain⟨a,b,rfl⟩:=k'V ht
 exact absurd hd (Nat.not_succ_le_zero _)
theorem f'r (T:Tx w K mg):FnOk P w K mg base CX0 1 T.a_Minus_edges T.d_Minus_edges ["self"] (spP K true 0 1 (g_edges T 0 4)):=by
 refine a'n T.F_Minus_edges c's rfl (by decide) λcdv A outer s H E hr=>⟨_,a'd b'A,?_⟩
 rintro xs Q' _ ⟨_,t,rfl,ht,hd,_⟩
 obtain⟨a,b,rfl⟩:=k'W ht
 exact absurd hd (Nat.not_succ_le_zero _)
theorem p'E (T:Tx w K mg):∀ n,∀ C g,DT T C g->MOkA P w K mg base CX0 (n+1) "edges" C ["self"] (spP K true 0 1 (g_edges T n g)):=λn=>by
 have leaf:∀ n C g,(C=T.c_Number/\g=0)\/(C=T.c_Edge/\g=1)->MOkA P w K mg base CX0 1 "edges" C ["self"] (spP K true 0 1 (g_edges T n g)):=λn C g h=>by
  rcases h with ⟨rfl,rfl⟩ | ⟨rfl,rfl⟩
  ·exact⟨T.cl_Number,_,_,T.mt_Number_edges,(g'h T n).mono (by decide),T.b_Term_edges⟩
  ·exact⟨T.cl_Edge,_,_,T.mt_Edge_edges,(g'i T n).mono (by decide),T.b_Edge_edges⟩
 induction n with
 | zero =>
  intro C g h
  rcases h with h | h | ⟨rfl,rfl⟩ | ⟨rfl,rfl⟩ | ⟨rfl,rfl⟩
  ·exact leaf 0 C g (.inl h)
  ·exact leaf 0 C g (.inr h)
  ·exact⟨T.cl_Times,_,_,T.mt_Times_edges,(f'q T).mono (by decide),T.b_Times_edges⟩
  ·exact⟨T.cl_Plus,_,_,T.mt_Plus_edges,(g'k T).mono (by decide),T.b_Plus_edges⟩
  ·exact⟨T.cl_Minus,_,_,T.mt_Minus_edges,(f'r T).mono (by decide),T.b_Minus_edges⟩
 | succ m ih =>
  intro C g h
  rcases h with h | h | ⟨rfl,rfl⟩ | ⟨rfl,rfl⟩ | ⟨rfl,rfl⟩
  ·exact (leaf (m+1) C g (.inl h)).mono (by omega)
  ·exact (leaf (m+1) C g (.inr h)).mono (by omega)
  ·exact⟨T.cl_Times,_,_,T.mt_Times_edges,(f'o T m ih).mono (by omega),T.b_Times_edges⟩
  ·exact⟨T.cl_Plus,_,_,T.mt_Plus_edges,(g'j T m ih).mono (by omega),T.b_Plus_edges⟩
  ·exact⟨T.cl_Minus,_,_,T.mt_Minus_edges,(f'p T m ih).mono (by omega),T.b_Minus_edges⟩
noncomputable def wys (t:Tm):List Str:=srt (once ((edg t).map λe=>wayS e.1))
def g_ways (T:Tx w K mg) (n:Nat):PSp:=spec 1 λxs Q=>∃ t:Tm,xs=[tmT T t]/\t.dep<=n/\(edg t).length<60/\Q (.lst .o ((wys t).map Enc.t))
theorem b'c (T:Tx w K mg) (n:Nat):FnOk P w K mg base CX0 (n+3) T.a_Term_ways T.d_Term_ways ["self"] (spP K true 0 1 (g_ways T n)):=by
 refine a'n T.F_Term_ways h'S rfl (by decide) λcdv A outer s H E hr=>?_
 have hu:=a'l hr
 refine⟨_,(a'd (a'k (w'Q rfl rfl T.z_sorted rfl T.z_set (m'j (N:=["edge"]) (ix:=[none]) rfl (e'b (a'S ((λC g d=>MOkA.mono (p'E T n C g d) (by first | decide | omega))) (by first | exact id | exact λ_=>rfl) (λ_ _ _ h=>h.1) hr (qv 0))) (p'f (i:=0) (by decide) rfl) (λ_ _ _ _ _=>s'X) (λ_ _ _ _ _=>(a'i ((n'U T).mono (by first | decide | omega)) (by first | exact id | exact λ_=>rfl) (λ_ _ h=>h.1) hr rfl T.m_way_of T.F_way_of.kp T.b_way_of (QA.frz (a'a (a'h hu (qv 0) a'b (λ_ _=>rfl)) a'c)))) True.intro)))),?_⟩
 rintro xs Q' _ ⟨_,t,rfl,hd,hl,q⟩
 simp only [List.cons_append,List.nil_append]
 walk_at "p"
 simp only [m_l,m_d,m_v]
 refine b'k T hd (by omega) λρ=>?_
 walk_at "p"
 refine CLoop.map (edg t) Enc.t (λe=>wayS e.1) (by omega) (λe he R hR=>?_) ?_
 ·rw [show (Enc.t e:Tr)=.tup [.str e.1,.str e.2] from rfl]
  walk_at "p"
  exact⟨rfl,e.1,rfl,λρ=>hR⟩
 ·exact⟨.o,_,rfl,by rw [List.length_map];exact hl,a'J _,q _⟩
theorem t'm (T:Tx w K mg) (n:Nat):∀ C g,DT T C g->MOkA P w K mg base CX0 (n+3) "ways" C ["self"] (spP K true 0 1 (g_ways T n)):=λC g h=>by
 rcases h with ⟨rfl,_⟩ | ⟨rfl,_⟩ | ⟨rfl,_⟩ | ⟨rfl,_⟩ | ⟨rfl,_⟩
 ·exact⟨T.cl_Number,_,_,T.mt_Number_ways,b'c T n,T.b_Term_ways⟩
 ·exact⟨T.cl_Edge,_,_,T.mt_Edge_ways,b'c T n,T.b_Term_ways⟩
 ·exact⟨T.cl_Times,_,_,T.mt_Times_ways,b'c T n,T.b_Term_ways⟩
 ·exact⟨T.cl_Plus,_,_,T.mt_Plus_ways,b'c T n,T.b_Term_ways⟩
 ·exact⟨T.cl_Minus,_,_,T.mt_Minus_ways,b'c T n,T.b_Term_ways⟩
theorem f'X {a b n:Str} (h:joinU a n=joinU b n):a=b:=by
 have h':(a.cps++(Str.ofString " ").cps++n.cps).toList=(b.cps++(Str.ofString " ").cps++n.cps).toList:=congrArg (λx:Str=>x.cps.toList) h
 rw [Array.toList_append,Array.toList_append,Array.toList_append,Array.toList_append] at h'
 have h2:=List.append_cancel_right (List.append_cancel_right h')
 cases a with | mk x=>cases b with | mk y=>exact congrArg Str.mk (Array.toList_inj.mp h2)
def unkL (n:Str) (l:List (Str×Rat)):List (Str×Rat):=(l.filter (unkF n)).map λp=>(joinU p.1 n,p.2)
theorem c'J {n:Str} {l:List (Str×Rat)} {p:Str×Rat} (h:p∈unkL n l):∃ y,(y,p.2)∈l/\p.1=joinU y n:=by
 obtain⟨q,mq,rfl⟩:=List.mem_map.mp h
 exact⟨q.1,(List.mem_filter.mp mq).1,rfl⟩
theorem c'u {α:Type} {l:List α} {i:Nat} {x:α} (h:l[i]?=some x):l.take (i+1)=l.take i++[x]:=by
 rw [List.take_add_one,h];rfl
theorem k'b {n:Str} {l:List (Str×Rat)} {i:Nat} {x:Str} {q:Rat} (nd:(l.map (·.1)).Nodup) (h:l[i]?=some (x,q)) (hf:unkF n (x,q)=true):ptd (unkL n (l.take i)) (joinU x n) q=unkL n (l.take (i+1)):=by
 have e:unkL n (l.take (i+1))=unkL n (l.take i)++[(joinU x n,q)]:=by
  unfold unkL
  rw [c'u h,List.filter_append,List.map_append,List.filter_cons_of_pos hf];rfl
 rw [e]
 refine f'a λp mp z=>?_
 obtain⟨y,my,ey⟩:=c'J mp
 exact f'b nd h _ my (f'X (ey.symm.trans z))
theorem p'F {n:Str} {l:List (Str×Rat)} {i:Nat} {x:Str} {q:Rat} (h:l[i]?=some (x,q)) (hf:unkF n (x,q)=false):unkL n (l.take i)=unkL n (l.take (i+1)):=by
 unfold unkL
 rw [c'u h,List.filter_append,List.filter_cons_of_neg (by rw [hf];exact Bool.false_ne_true)]
 simp
theorem e'N:∀ p∈shrT,(p.2.map (·.1)).Nodup/\p.2.length<=2/\∀ r∈p.2,bs r.2<=4/\r.2≠0/\r.1.length<=100:=by decide +kernel
theorem d'i {a:Str} (h:(shrT.lookup a).isSome=true):(a,shr a)∈shrT/\(tabT shrT).lookup a=some (.tup ((shr a).map Enc.t)):=by
 obtain⟨l,hl⟩:=Option.isSome_iff_exists.mp h
 have es:shr a=l:=by unfold shr;rw [hl];rfl
 rw [es]
 have gen:∀ (m:List (Str×List (Str×Rat))),m.lookup a=some l->(a,l)∈m/\(tabT m).lookup a=some (.tup (l.map Enc.t)):=λm=>by
  induction m with
  | nil=>intro h;cases h
  | cons p r ih=>
   intro h
   have et:tabT (p :: r)=(p.1,.tup (p.2.map Enc.t)) :: tabT r:=rfl
   rw [et]
   rw [List.lookup_cons] at h ⊢
   cases e:a == p.1 with
   | true=>
    rw [e] at h
    cases h
    exact⟨by rw [eq_of_beq e];exact .head _,rfl⟩
   | false=>
    rw [e] at h
    obtain⟨x,y⟩:=ih h
    exact⟨.tail _ x,y⟩
 exact gen shrT hl
theorem h'X {a n:Str} (h:(shrT.lookup a).isSome=true):Nd (unkL n (shr a)):=by
 have hn:=(e'N _ (d'i h).1).1
 unfold Nd unkL
 rw [List.map_map]
 have:((shr a).filter (unkF n)).Pairwise λp q=>p.1≠q.1:=(List.pairwise_map.mp hn).sublist List.filter_sublist
 refine List.pairwise_map.mpr (this.imp λ{p q} ne e=>ne (f'X e))
theorem t'n {a n:Str} (h:(shrT.lookup a).isSome=true):IsS (nz (unkL n (shr a))) (cof (.edge a n)) 4 2:=by
 have tb:=e'N _ (d'i h).1
 have nd:=h'X (n:=n) h
 have nzv:∀ x q,gt (unkL n (shr a)) x=some q->q≠0/\bs q<=4:=λx q e=>by
  obtain⟨y,my,_⟩:=c'J (b'z (show gtd (unkL n (shr a)) x=some q from e))
  exact⟨(tb.2.2 _ my).2.1,(tb.2.2 _ my).1⟩
 have key:∀ u,gt (nz (unkL n (shr a))) u=gt (unkL n (shr a)) u:=λu=>by
  rw [e'w nd]
  cases e:gt (unkL n (shr a)) u with
  | none=>rfl
  | some q=>dsimp only;rw [if_neg (nzv u q e).1]
 refine⟨g'r nd,λu=>?_,λx q e=>?_,Nat.le_trans (e'u _) ?_⟩
 ·rw [key]
  show _=if (gtd (unkL n (shr a)) u).getD 0=0 then none else some ((gtd (unkL n (shr a)) u).getD 0)
  rw [g'N]
  cases e:gt (unkL n (shr a)) u with
  | none=>show none=if (0:Rat)=0 then none else some 0;rw [if_pos rfl]
  | some q=>show some q=if q=0 then none else some q;rw [if_neg (nzv u q e).1]
 ·rw [key] at e
  exact (nzv x q e).2
 ·unfold unkL
  rw [List.length_map]
  exact Nat.le_trans (List.length_filter_le _ _) tb.2.1
theorem f's:∀ t:Tm,1<=wei t
 | .num q => Nat.le_add_left _ _
 | .edge _ _ => by show 1 <= 4; decide
 | .times q t => Nat.le_trans (f's t) (Nat.le_add_right _ _)
 | .plus a b => by show 1 <= wei a + wei b + 5; omega
 | .minus a b => by show 1 <= wei a + wei b + 5; omega
def g_worth (T:Tx w K mg) (n g:Nat):PSp:=spec 1 λxs Q=>∃ t:Tm,xs=[tmT T t]/\t.tag=g/\t.dep<=n/\t.ok/\wei t<=2000/\(edg t).length<=40/\∀ m,IsS m (cof t) (wei t) (2*(edg t).length)->bs (rst t)<=wei t->Q (.tup [dicS .o m,Enc.t (rst t)])
theorem b'l (T:Tx w K mg) {n:Nat} {t:Tm} (hd:t.dep<=n) (ho:t.ok) (hw:wei t<=2000) (hl:(edg t).length<=40) {Q:Tr->List Tr->Prop} (q:∀ m,IsS m (cof t) (wei t) (2*(edg t).length)->bs (rst t)<=wei t->∀ ρ,Q (.tup [dicS .o m,Enc.t (rst t)]) ρ):wIns (DT T) "worth" (tmT T t) λg=>g_worth T n g [tmT T t] Q:=h'W T (by decide +kernel) (by decide +kernel) (by decide +kernel) (by decide +kernel) (by decide +kernel) (by decide +kernel) ⟨rfl,t,rfl,rfl,hd,ho,hw,hl,q⟩
theorem e'O (m:List (Str×Rat)) (r:Rat):Pu.frz (.tup [dicS .o m,Enc.t r])=.tup [dicS .f m,Enc.t r]:=by
 show Tr.tup [Pu.frz (dicS .o m),Pu.frz (Enc.t r)]=_
 rw [e_f,show Pu.frz (dicS .o m)=dicS .f m from h'B m]
theorem e'P (m:List (Str×Rat)) (r:Rat):dn (.tup [dicS .f m,Enc.t r])=.tup [dicS .f m,Enc.t r]:=by
 show Tr.tup [dn (dicS .f m),dn (Enc.t r)]=_
 rw [e_d,s_d]
theorem e'Q (T:Tx w K mg) (n:Nat):FnOk P w K mg base CX0 8 T.a_Number_worth T.d_Number_worth ["self"] (spP K true 0 1 (g_worth T n 0)):=by
 refine a'n T.F_Number_worth e'K rfl (by decide) λcdv A outer s H E hr=>?_
 have hu:=a'l hr
 refine⟨_,(a'd (a'k (a'i ((d'I T).mono (by first | decide | omega)) (by first | exact id | exact λ_=>rfl) (λ_ _ h=>h.1) hr rfl T.m_made T.F_made.kp T.b_made (QA.frz (a'a c'o (a'a (a'C K rfl (qv 0)) a'c)))))),?_⟩
 rintro xs Q' _ ⟨_,t,rfl,ht,hd,ho,hw,hl,q⟩
 obtain⟨a,rfl⟩:=v'N ht
 rw [show tmT T (.num a)=.ins .f T.c_Number [("number",Enc.t a)] from rfl]
 walk_at "p"
 refine c'c (g:="name") T.cl_Number T.nf_Number_number ?_
 walk_at "p"
 exact⟨rfl,[],a,rfl,List.nodup_nil,by decide,λρ=>⟨b's _ _,q [] ⟨List.nodup_nil,λu=>by show none=if (0:Rat)=0 then none else _;rw [if_pos rfl],(λx q e=>by cases e),Nat.zero_le _⟩ (Nat.le_succ _) _⟩⟩
theorem IsS.mono {m:List (Str×Rat)} {f:Str->Rat} {n n' l l':Nat} (h:IsS m f n l) (hn:n<=n') (hl:l<=l'):IsS m f n' l':=⟨h.nd,h.v,λx q e=>Nat.le_trans (h.b x q e) hn,Nat.le_trans h.l hl⟩
theorem g'l (T:Tx w K mg) (n0:Nat):FnOk P w K mg base CX0 8 T.a_Edge_worth T.d_Edge_worth ["self"] (spP K true 0 1 (g_worth T n0 1)):=by
 refine a'n T.F_Edge_worth sc_Edge_worth rfl (by decide) λcdv A outer s H E hr=>?_
 have hu:=a'l hr
 refine⟨_,(a'e (b'f (i:=1) sc_Edge_worth.nd (by decide) rfl (Or.inl rfl) c'o)
  (a'e (d'w PassesOwn.never rfl (w'M (v'L T.w_WORTHS λkvs kd ht=>v'z (tabT shrT) rfl T.m_WORTHS kd ht (a'C K rfl (qv 0)) (λ_ _=>rfl))) (e'a (n:=2) rfl (a't (a'W (i:=2) sc_Edge_worth.nd (by decide) rfl (Or.inl rfl)) (a't (a'W (i:=3) sc_Edge_worth.nd (by decide) rfl (Or.inl rfl)) b'C))) (a'd (a'v (QW.t (b'K (a'j (c'f hr.units) b'a (a'C K rfl (qv 0)) (w'O rfl T.m_FRAME) (by with_unfolding_all rfl)) (b'S (a'j (s'T hu) m'h (qv 2) (r'n ["left","top"] rfl T.m_STARTS T.t_STARTS) (by with_unfolding_all rfl))))) (a'd (c'F hu (a'r 1) (a'i ((g'g T).mono (by first | decide | omega)) (by first | exact id | exact λ_=>rfl) (λ_ _ h=>h.1) hr rfl T.m_unknown_of T.F_unknown_of.kp T.b_unknown_of (QA.frz (a'a (qv 2) (a'a (a'C K rfl (qv 0)) a'c)))) (qv 3))) a'q)))
  (d'b 1 (a'd (a'k (a'i ((d'I T).mono (by first | decide | omega)) (by first | exact id | exact λ_=>rfl) (λ_ _ h=>h.1) hr rfl T.m_made T.F_made.kp T.b_made (QA.frz (a'a (qv 1) (a'a (k'N [0,1] rfl T.m_NOUGHT T.t_NOUGHT) a'c))))))))),?_⟩
 rintro xs Q' _ ⟨_,t,rfl,ht,hd,ho,hw,hl,q⟩
 obtain⟨a,n,rfl⟩:=v'O ht
 obtain⟨ho,hn⟩:=ho
 obtain⟨s1,s2⟩:=d'i ho
 have tb:=e'N _ s1
 have ft:Pu.frz (.tup ((shr a).map Enc.t))=.tup ((shr a).map Enc.t):=by rw [f'i,h'h]
 have tt:nlt (.tup ((shr a).map Enc.t))=true:=by rw [f'j];exact e'c _
 rw [show tmT T (.edge a n)=.ins .f T.c_Edge [("word",.str a),("name",.str n)] from rfl]
 walk_at "p"
 refine⟨rfl,c'c (g:="name") T.cl_Edge T.nf_Edge_word ?_⟩
 walk_at "p"
 simp only [s2,ft]
 unfold wTp
 dsimp only
 refine⟨tt,Loop.map (shr a) Enc.t (λi ρ=>∃ (x y:Tr),ρ=[.ins .f T.c_Edge [("word",.str a),("name",.str n)],dicS .o (unkL n ((shr a).take i)),x,y]) ⟨.hole,.hole,rfl⟩ ?_ ?_⟩
 ·rintro i ⟨x,b⟩ ρ hx ⟨u,v,rfl⟩
  have ul:(unkL n ((shr a).take i)).length<=2:=by
   unfold unkL
   rw [List.length_map]
   exact Nat.le_trans (List.length_filter_le _ _) (Nat.le_trans (by rw [List.length_take];exact Nat.min_le_right _ _) tb.2.1)
  have xl:=(tb.2.2 _ (List.mem_of_getElem? hx)).2.2
  rw [show (Enc.t (x,b):Tr)=.tup [.str x,Enc.t b] from rfl]
  walk_at "p"
  refine b'E T.cl_Edge T.nf_Edge_name (by decide +kernel) ?_
  walk_at "p"
  by_cases hfr:n="frame"
  ·rw [if_neg (by simp [hfr])]
   refine n'T (ns:=["left","top"]) ?_
   walk_at "p"
   by_cases hs:x∈([("left":Str),"top"]:List Str)
   ·rw [if_neg (by simp [hs])]
    have hF:unkF n (x,b)=false:=by
     unfold unkF isSt
     rcases List.mem_cons.mp hs with h | h
     ·simp [hfr,h]
     ·simp [hfr,List.mem_singleton.mp h]
    exact⟨_,_,by rw [p'F hx hF]⟩
   ·rw [if_pos (by simp [hs])]
    have hF:unkF n (x,b)=true:=by unfold unkF isSt;simpa [hfr] using hs
    refine b'E T.cl_Edge T.nf_Edge_name (by decide +kernel) ?_
    walk_at "p"
    refine⟨rfl,x,n,rfl,xl,hn,λρ=>?_⟩
    walk_at "p"
    rw [k'b tb.1 hx hF]
    exact⟨by omega,_,_,rfl⟩
  ·rw [if_pos (by simp [hfr])]
   have hF:unkF n (x,b)=true:=by unfold unkF;simp [hfr]
   refine b'E T.cl_Edge T.nf_Edge_name (by decide +kernel) ?_
   walk_at "p"
   refine⟨rfl,x,n,rfl,xl,hn,λρ=>?_⟩
   walk_at "p"
   rw [k'b tb.1 hx hF]
   exact⟨by omega,_,_,rfl⟩
 ·rintro ρ ⟨u,v,rfl⟩
  rw [List.take_length]
  walk_at "p"
  exact⟨rfl,_,_,rfl,h'X ho,by have t2:(shr a).length<=2:=tb.2.1;unfold unkL;rw [List.length_map];exact Nat.le_trans (List.length_filter_le _ _) (by omega),λρ=>⟨b's _ _,q _ (t'n ho) (by show bs 0<=4;decide +kernel) _⟩⟩
theorem f't (T:Tx w K mg) (m:Nat) (ih:∀ C g,DT T C g->MOkA P w K mg base CX0 (m+8) "worth" C ["self"] (spP K true 0 1 (g_worth T m g))):FnOk P w K mg base CX0 (m+9) T.a_Times_worth T.d_Times_worth ["self"] (spP K true 0 1 (g_worth T (m+1) 2)):=by
 refine a'n T.F_Times_worth c'r rfl (by decide) λcdv A outer s H E hr=>?_
 have hu:=a'l hr
 refine⟨_,(a'd (a'k (a'i ((f'W T).mono (by first | decide | omega)) (by first | exact id | exact λ_=>rfl) (λ_ _ h=>h.1) hr rfl T.m_scaled T.F_scaled.kp T.b_scaled (QA.frz (a'a (a'S ((λC g d=>MOkA.mono (ih C g d) (by first | decide | omega))) (by first | exact id | exact λ_=>rfl) (λ_ _ _ h=>h.1) hr (a'C K rfl (qv 0))) (a'a (a'C K rfl (qv 0)) a'c)))))),?_⟩
 rintro xs Q' _ ⟨_,t,rfl,ht,hd,ho,hw,hl,q⟩
 obtain⟨b,t,rfl⟩:=k'U ht
 have hw:wei t+bs b<=2000:=hw
 have hl:(edg t).length<=40:=hl
 rw [show tmT T (.times b t)=.ins .f T.c_Times [("number",Enc.t b),("inner",tmT T t)] from rfl]
 walk_at "p"
 refine b'E T.cl_Times T.nf_Times_inner (by decide +kernel) ?_
 simp only [m_l,m_d]
 refine b'l T (Nat.le_of_succ_le_succ hd) ho (by omega) hl λm' hm hr' ρ=>?_
 refine c'c (g:="inner") T.cl_Times T.nf_Times_number ?_
 rw [e'O,e'P,e_f,e_d]
 have hm2:IsS (nz (sc m' b)) (cof (.times b t)) (wei (.times b t)) (2*(edg (.times b t)).length):=hm.sc b
 exact⟨rfl,m',rst t,b,wei t,rfl,hm.nd,by have:=hm.l;omega,hm.b,hr',by omega,λρ=>⟨b's _ _,q _ hm2 (Nat.le_trans (e'y _ _) (by show _<=wei t+bs b;omega)) _⟩⟩
theorem g'm (T:Tx w K mg) (m:Nat) (ih:∀ C g,DT T C g->MOkA P w K mg base CX0 (m+8) "worth" C ["self"] (spP K true 0 1 (g_worth T m g))):FnOk P w K mg base CX0 (m+9) T.a_Plus_worth T.d_Plus_worth ["self"] (spP K true 0 1 (g_worth T (m+1) 3)):=by
 refine a'n T.F_Plus_worth c'O rfl (by decide) λcdv A outer s H E hr=>?_
 have hu:=a'l hr
 refine⟨_,(a'd (a'k (a'i ((h'V T).mono (by first | decide | omega)) (by first | exact id | exact λ_=>rfl) (λ_ _ h=>h.1) hr rfl T.m_added T.F_added.kp T.b_added (QA.frz (a'a (a'S ((λC g d=>MOkA.mono (ih C g d) (by first | decide | omega))) (by first | exact id | exact λ_=>rfl) (λ_ _ _ h=>h.1) hr (a'C K rfl (qv 0))) (a'a (a'S ((λC g d=>MOkA.mono (ih C g d) (by first | decide | omega))) (by first | exact id | exact λ_=>rfl) (λ_ _ _ h=>h.1) hr (a'C K rfl (qv 0))) a'c)))))),?_⟩
 rintro xs Q' _ ⟨_,t,rfl,ht,hd,ho,hw,hl,q⟩
 obtain⟨a,b,rfl⟩:=k'V ht
 have hd:max a.dep b.dep+1<=m+1:=hd
 have hw:wei a+wei b+5<=2000:=hw
 have hl:(edg a++edg b).length<=40:=hl
 rw [List.length_append] at hl
 obtain⟨o1,o2⟩:=ho
 rw [show tmT T (.plus a b)=.ins .f T.c_Plus [("one",tmT T a),("other",tmT T b)] from rfl]
 walk_at "p"
 refine c'c (g:="other") T.cl_Plus T.nf_Plus_one ?_
 simp only [m_l,m_d]
 refine b'l T (by omega) o1 (by omega) (by omega) λm1 h1 r1 ρ=>?_
 refine b'E T.cl_Plus T.nf_Plus_other (by decide +kernel) ?_
 simp only [m_l,m_d]
 refine b'l T (by omega) o2 (by omega) (by omega) λm2 h2 r2 ρ=>?_
 rw [e'O,e'O,e'P,e'P]
 have h3:IsS (nz (addM m1 m2)) (cof (.plus a b)) (wei a+wei b+5) (2*(edg a++edg b).length):=(h1.add h2).mono (by omega) (by rw [List.length_append];omega)
 have h4:=e'x (rst a) (rst b)
 exact⟨rfl,m1,m2,rst a,rst b,wei a,wei b,rfl,h1.nd,h2.nd,by have:=h1.l;have:=h2.l;omega,h1.b,h2.b,by omega,f's a,by omega,λρ=>⟨b's _ _,q _ h3 (Nat.le_trans h4 (by show _<=wei a+wei b+5;omega)) _⟩⟩
theorem f'u (T:Tx w K mg) (m:Nat) (ih:∀ C g,DT T C g->MOkA P w K mg base CX0 (m+8) "worth" C ["self"] (spP K true 0 1 (g_worth T m g))):FnOk P w K mg base CX0 (m+9) T.a_Minus_worth T.d_Minus_worth ["self"] (spP K true 0 1 (g_worth T (m+1) 4)):=by
 refine a'n T.F_Minus_worth c't rfl (by decide) λcdv A outer s H E hr=>?_
 have hu:=a'l hr
 refine⟨_,(a'd (a'k (a'i ((k'T T).mono (by first | decide | omega)) (by first | exact id | exact λ_=>rfl) (λ_ _ h=>h.1) hr rfl T.m_reduced T.F_reduced.kp T.b_reduced (QA.frz (a'a (a'S ((λC g d=>MOkA.mono (ih C g d) (by first | decide | omega))) (by first | exact id | exact λ_=>rfl) (λ_ _ _ h=>h.1) hr (a'C K rfl (qv 0))) (a'a (a'S ((λC g d=>MOkA.mono (ih C g d) (by first | decide | omega))) (by first | exact id | exact λ_=>rfl) (λ_ _ _ h=>h.1) hr (a'C K rfl (qv 0))) a'c)))))),?_⟩
 rintro xs Q' _ ⟨_,t,rfl,ht,hd,ho,hw,hl,q⟩
 obtain⟨a,b,rfl⟩:=k'W ht
 have hd:max a.dep b.dep+1<=m+1:=hd
 have hw:wei a+wei b+5<=2000:=hw
 have hl:(edg a++edg b).length<=40:=hl
 rw [List.length_append] at hl
 obtain⟨o1,o2⟩:=ho
 rw [show tmT T (.minus a b)=.ins .f T.c_Minus [("one",tmT T a),("other",tmT T b)] from rfl]
 walk_at "p"
 refine c'c (g:="other") T.cl_Minus T.nf_Minus_one ?_
 simp only [m_l,m_d]
 refine b'l T (by omega) o1 (by omega) (by omega) λm1 h1 r1 ρ=>?_
 refine b'E T.cl_Minus T.nf_Minus_other (by decide +kernel) ?_
 simp only [m_l,m_d]
 refine b'l T (by omega) o2 (by omega) (by omega) λm2 h2 r2 ρ=>?_
 rw [e'O,e'O,e'P,e'P]
 have e1:=g'v
 have h3:IsS (nz (addM m1 (nz (sc m2 (-1))))) (cof (.minus a b)) (wei a+wei b+5) (2*(edg a++edg b).length):=(h1.add (h2.sc (-1))).mono (by omega) (by rw [List.length_append];omega)
 have h4:=e'x (rst a) (rst b*(-1))
 have h5:=e'y (rst b) (-1)
 exact⟨rfl,m1,m2,rst a,rst b,wei a,wei b,rfl,h1.nd,h2.nd,by have:=h1.l;have:=h2.l;omega,h1.b,h2.b,r1,r2,f's a,by omega,λρ=>⟨b's _ _,q _ h3 (Nat.le_trans h4 (by show _<=wei a+wei b+5;omega)) _⟩⟩
theorem f'v (T:Tx w K mg):FnOk P w K mg base CX0 1 T.a_Times_worth T.d_Times_worth ["self"] (spP K true 0 1 (g_worth T 0 2)):=by
 refine a'n T.F_Times_worth c'r rfl (by decide) λcdv A outer s H E hr=>⟨_,a'd b'A,?_⟩
 rintro xs Q' _ ⟨_,t,rfl,ht,hd,_⟩
 obtain⟨a,b,rfl⟩:=k'U ht
 exact absurd hd (Nat.not_succ_le_zero _)
theorem g'n (T:Tx w K mg):FnOk P w K mg base CX0 1 T.a_Plus_worth T.d_Plus_worth ["self"] (spP K true 0 1 (g_worth T 0 3)):=by
 refine a'n T.F_Plus_worth c'O rfl (by decide) λcdv A outer s H E hr=>⟨_,a'd b'A,?_⟩
 rintro xs Q' _ ⟨_,t,rfl,ht,hd,_⟩
 obtain⟨a,b,rfl⟩:=k'V ht
 exact absurd hd (Nat.not_succ_le_zero _)
theorem f'w (T:Tx w K mg):FnOk P w K mg base CX0 1 T.a_Minus_worth T.d_Minus_worth ["self"] (spP K true 0 1 (g_worth T 0 4)):=by
 refine a'n T.F_Minus_worth c't rfl (by decide) λcdv A outer s H E hr=>⟨_,a'd b'A,?_⟩
 rintro xs Q' _ ⟨_,t,rfl,ht,hd,_⟩
 obtain⟨a,b,rfl⟩:=k'W ht
 exact absurd hd (Nat.not_succ_le_zero _)
theorem p'G (T:Tx w K mg):∀ n,∀ C g,DT T C g->MOkA P w K mg base CX0 (n+8) "worth" C ["self"] (spP K true 0 1 (g_worth T n g)):=λn=>by
 have leaf:∀ n C g,(C=T.c_Number/\g=0)\/(C=T.c_Edge/\g=1)->MOkA P w K mg base CX0 8 "worth" C ["self"] (spP K true 0 1 (g_worth T n g)):=λn C g h=>by
  rcases h with ⟨rfl,rfl⟩ | ⟨rfl,rfl⟩
  ·exact⟨T.cl_Number,_,_,T.mt_Number_worth,(e'Q T n).mono (by decide),T.b_Number_worth⟩
  ·exact⟨T.cl_Edge,_,_,T.mt_Edge_worth,(g'l T n).mono (by decide),T.b_Edge_worth⟩
 induction n with
 | zero =>
  intro C g h
  rcases h with h | h | ⟨rfl,rfl⟩ | ⟨rfl,rfl⟩ | ⟨rfl,rfl⟩
  ·exact leaf 0 C g (.inl h)
  ·exact leaf 0 C g (.inr h)
  ·exact⟨T.cl_Times,_,_,T.mt_Times_worth,(f'v T).mono (by decide),T.b_Times_worth⟩
  ·exact⟨T.cl_Plus,_,_,T.mt_Plus_worth,(g'n T).mono (by decide),T.b_Plus_worth⟩
  ·exact⟨T.cl_Minus,_,_,T.mt_Minus_worth,(f'w T).mono (by decide),T.b_Minus_worth⟩
 | succ m ih =>
  intro C g h
  rcases h with h | h | ⟨rfl,rfl⟩ | ⟨rfl,rfl⟩ | ⟨rfl,rfl⟩
  ·exact (leaf (m+1) C g (.inl h)).mono (by omega)
  ·exact (leaf (m+1) C g (.inr h)).mono (by omega)
  ·exact⟨T.cl_Times,_,_,T.mt_Times_worth,(f't T m ih).mono (by omega),T.b_Times_worth⟩
  ·exact⟨T.cl_Plus,_,_,T.mt_Plus_worth,(g'm T m ih).mono (by omega),T.b_Plus_worth⟩
  ·exact⟨T.cl_Minus,_,_,T.mt_Minus_worth,(f'u T m ih).mono (by omega),T.b_Minus_worth⟩
def g_cell_at:PSp:=spec 2 λxs Q=>∃ (f:Fl) (script:List Int) (k:Int),Fp f/\xs=[.lst f (script.map Enc.t),.int k]/\0<=k/\∀ c:Int,Q (.int c)
theorem c'v (T:Tx w K mg) {z:Bool}:FnOk P w K mg base CX0 1 T.a_law_cell_at T.d_law_cell_at ["_law_script","_law_k"] (spP K z 0 2 g_cell_at):=by
 refine a'n T.F_law_cell_at f'm rfl (by decide) λcdv A outer s H E hr=>?_
 have hu:=a'l hr
 refine⟨_,(a'e (a'v (a'j d'Z b'R (qv 1) (b'p b'L b'g rfl T.z_len rfl (a'a (qv 0) a'c)) (by with_unfolding_all rfl)) (a'd (a'k (a'h hu (qv 0) (qv 1) (λ_ _=>rfl)))) a'q)
  (a'd (a'k a'b))),?_⟩
 rintro xs Q' _ ⟨_,f,script,k,_,rfl,h0,q⟩
 walk_at "p"
 split
 ·rename_i c
  exact w'z _ _ _ (n'w script h0 (by have:=of_decide_eq_true c;omega)) ⟨e_o _,q _ _⟩
 ·exact q _ _
theorem cml {i j:Int} (h:-(2 ^ 64)<i/\i<2 ^ 64):CMulX i j:=.inl (.inl h)
theorem cmr {i j:Int} (h:-(2 ^ 64)<j/\j<2 ^ 64):CMulX i j:=.inl (.inr h)
theorem a'G {j:Int} (h:j.natAbs<2 ^ 100):j.natAbs<2 ^ 8000:=Nat.lt_of_lt_of_le h (Nat.pow_le_pow_right (by decide) (by omega))
def g_mixed:PSp:=spec 2 λxs Q=>∃ (c k:Int),xs=[.int c,.int k]/\∀ r:Int,0<=r->r<2147483647->Q (.int r)
theorem b'U (T:Tx w K mg) {z:Bool}:FnOk P w K mg base CX0 1 T.a_law_mixed T.d_law_mixed ["_law_cell","_law_k"] (spP K z 0 2 g_mixed):=by
 refine a'n T.F_law_mixed sc_law_mixed rfl (by decide) λcdv A outer s H E hr=>?_
 have hu:=a'l hr
 refine⟨_,(a'e (a'p (i:=2) sc_law_mixed.nd (by decide) rfl (Or.inl rfl) (a'B (a'F (a'A (a'A (qv 0) (a'F a'b (qv 1))) a'b) a'b) a'b))
  (a'd (a'k (a'B (a'F (qv 2) (a'A (a'V (qv 2) a'b) a'b)) a'b)))),?_⟩
 rintro xs Q' _ ⟨_,c,k,rfl,q⟩
 walk_at "p"
 have a0:=Int.emod_nonneg ((c+7919*k+1)*48271) (show (2147483647:Int)≠0 by decide)
 have a1:=Int.emod_lt_of_pos ((c+7919*k+1)*48271) (show (0:Int)<2147483647 by decide)
 exact⟨cml (by decide),cmr (by decide),by decide,⟨by decide,a'G (by decide)⟩,cml (by omega),by decide,q _ (Int.emod_nonneg _ (by decide)) (Int.emod_lt_of_pos _ (by decide)) _⟩
def g_shared:PSp:=spec 2 λxs Q=>∃ a b:Int,xs=[.int a,.int b]/\Q (.int (gd a b))
theorem g'o (T:Tx w K mg) {z:Bool}:FnOk P w K mg base CX0 1 T.a_law_shared T.d_law_shared ["_law_one","_law_other"] (spP K z 0 2 g_shared):=by
 refine a'n T.F_law_shared sc_law_shared rfl (by decide) λcdv A outer s H E hr=>?_
 have hu:=a'l hr
 refine⟨_,(a'e (a'p (i:=0) sc_law_shared.nd (by decide) rfl (Or.inl rfl) (b'p c'z d's rfl T.z_abs rfl (a'a (qv 0) a'c)))
  (a'e (a'p (i:=1) sc_law_shared.nd (by decide) rfl (Or.inl rfl) (b'p c'z d's rfl T.z_abs rfl (a'a (qv 1) a'c)))
  (a'e (k'H PassesOwn.never (a'j (c'f hr.units) b'a (qv 1) a'b (by with_unfolding_all rfl)) (a'd (w'w (i:=0) (j:=1) rfl sc_law_shared.nd (by decide) (by decide) rfl rfl (by decide) rfl rfl (a'a (qv 1) (a'a (a'B (qv 0) (qv 1)) a'c)) rfl)))
  (a'd (a'k (qv 0)))))),?_⟩
 rintro xs Q' _ ⟨_,a,b,rfl,q⟩
 walk_at "p"
 refine⟨λm ρ=>∃ x y,ρ=[.int x,.int y]/\0<=x/\0<=y/\gd x y=gd a b/\m=y.toNat,⟨_,_,_,rfl,by split<;>omega,by split<;>omega,by rw [e'q,e'q];exact l'B a b,rfl⟩,?_⟩
 rintro m ρ ⟨x,y,rfl,hx,hy,e,rfl⟩
 walk_at "p"
 by_cases h0:y=0
 ·subst h0
  rw [i'o x hx] at e
  subst e
  walk_at "p"
  exact q _
 ·rw [if_pos (by simp [h0])]
  refine⟨by omega,(x % y).toNat,?_,_,_,rfl,hy,Int.emod_nonneg _ h0,?_,rfl⟩
  ·have:=Int.emod_lt_of_pos x (show 0<y by omega)
   have:=Int.emod_nonneg x h0
   omega
  ·rw [l'A hx (by omega)];exact e
theorem w'C {a b:Int} (hb:0<b):a.fdiv (gd a b)=(Rat.divInt a b).num:=by
 have:=g'K (t:=a) (b:=b) (by omega)
 unfold dv at this
 rw [if_neg (by omega)] at this
 exact this
theorem w'D {a b:Int} (hb:0<b):b.fdiv (gd a b)=((Rat.divInt a b).den:Int):=by
 have:=g'L (t:=a) (b:=b) (by omega)
 unfold dv at this
 rw [if_neg (by omega)] at this
 exact this
def g_far:PSp:=spec 1 λxs Q=>∃ (f:Fl) (ns:List Int),Fp f/\xs=[.lst f (ns.map Enc.t)]/\Q (.bl true)
def g_lowest:PSp:=spec 2 λxs Q=>∃ a b:Int,xs=[.int a,.int b]/\0<b/\bi b<=7990/\Q (Enc.t (Rat.divInt a b))
theorem c'P (T:Tx w K mg) {z:Bool}:FnOk P w K mg base CX0 2 T.a_law_lowest T.d_law_lowest ["_law_top","_law_bottom"] (spP K z 0 2 g_lowest):=by
 refine a'n T.F_law_lowest sc_law_lowest rfl (by decide) λcdv A outer s H E hr=>?_
 have hu:=a'l hr
 refine⟨_,(a'e (a'p (i:=2) sc_law_lowest.nd (by decide) rfl (Or.inl rfl) (a'i ((g'o T).mono (by first | decide | omega)) (by first | exact id | exact λ_=>rfl) (λ_ _ h=>h.1) hr rfl T.m_law_shared T.F_law_shared.kp T.b_law_shared (QA.frz (a'a (qv 0) (a'a (qv 1) a'c)))))
  (a'd (a'k (a'z (a'a (a'V (qv 0) (qv 2)) (a'a (a'V (qv 1) (qv 2)) a'c)))))),?_⟩
 rintro xs Q' _ ⟨_,a,b,rfl,hb,h2,q⟩
 walk_at "p"
 refine⟨rfl,a,b,rfl,λρ=>?_⟩
 walk_at "p"
 rw [w'C hb,w'D hb]
 exact⟨d'y (by omega) h2,d'y (by omega) h2,q _⟩
theorem f'Y {a b:Int} (hb:0<b) (h:bi b<=7990) {Q:Tr->List Tr->Prop} (q:∀ ρ,Q (Enc.t (Rat.divInt a b)) ρ):g_lowest [.int a,.int b] Q:=⟨rfl,a,b,rfl,hb,h,q⟩
def g_number:PSp:=spec 1 λxs Q=>∃ c:Int,xs=[.int c]/\∀ q:Rat,bs q<=20->Q (Enc.t q)
theorem c'Q (T:Tx w K mg) {z:Bool}:FnOk P w K mg base CX0 3 T.a_law_number T.d_law_number ["_law_cell"] (spP K z 0 1 g_number):=by
 refine a'n T.F_law_number sc_law_number rfl (by decide) λcdv A outer s H E hr=>?_
 have hu:=a'l hr
 refine⟨_,(a'e (a'p (i:=1) sc_law_number.nd (by decide) rfl (Or.inl rfl) (a'B (a'i ((b'U T).mono (by first | decide | omega)) (by first | exact id | exact λ_=>rfl) (λ_ _ h=>h.1) hr rfl T.m_law_mixed T.F_law_mixed.kp T.b_law_mixed (QA.frz (a'a (qv 0) (a'a a'b a'c)))) (a'h hu (a'x (a'a a'b (a'a a'b (a'a (p'U a'b a'b) a'c)))) (a'B (qv 0) a'b) (λ_ _=>rfl))))
  (a'd (a'k (a'i ((c'P T).mono (by first | decide | omega)) (by first | exact id | exact λ_=>rfl) (λ_ _ h=>h.1) hr rfl T.m_law_lowest T.F_law_lowest.kp T.b_law_lowest (QA.frz (a'a (a'h hu (a'x (a'a (qv 1) (a'a (p'N a'b (qv 1)) a'c))) (a'B (a'V (qv 0) a'b) a'b) (λ_ _=>rfl)) (a'a (a'h hu (a'x (a'a a'b (a'a a'b (a'a a'b (a'a a'b a'c))))) (a'B (a'i ((b'U T).mono (by first | decide | omega)) (by first | exact id | exact λ_=>rfl) (λ_ _ h=>h.1) hr rfl T.m_law_mixed T.F_law_mixed.kp T.b_law_mixed (QA.frz (a'a (qv 0) (a'a a'b a'c)))) a'b) (λ_ _=>rfl)) a'c))))))),?_⟩
 rintro xs Q' _ ⟨_,c,rfl,q⟩
 walk_at "p"
 have hf:∃ n:Int,atI [Tr.int 7,.int 41,.int (10 ^ Int.toNat 6)] (c % 3)=some (.int n)/\0<n/\n<=1000000:=by
  have h4:c % 3=0\/c % 3=1\/c % 3=2:=by omega
  rcases h4 with h | h | h<;>rw [h]
  ·exact⟨7,at0 _ _,by decide,by decide⟩
  ·exact⟨41,at1 _ _ _,by decide,by decide⟩
  ·exact⟨_,at2 _ _ _ _,by decide,by decide⟩
 obtain⟨n,hn,n0,n1⟩:=hf
 refine⟨rfl,_,_,rfl,λr r0 r1 ρ=>?_⟩
 walk_at "p"
 refine⟨⟨by decide,by decide,by decide⟩,by decide,?_⟩
 rw [hn]
 walk_at "p"
 have t0:=Int.emod_nonneg r (show n≠0 by omega)
 have t1:=Int.emod_lt_of_pos r n0
 generalize r % n=t at t0 t1
 have hs:∃ m:Int,atI [Tr.int t,Tr.int (0 - t)] (c.fdiv 3 % 2)=some (.int m)/\m.natAbs<1000000:=by
  have h4:c.fdiv 3 % 2=0\/c.fdiv 3 % 2=1:=by omega
  rcases h4 with h | h<;>rw [h]
  ·exact⟨t,at0 _ _,by omega⟩
  ·exact⟨0 - t,at1 _ _ _,by omega⟩
 obtain⟨m,hm,m1⟩:=hs
 refine⟨n0,⟨by decide,a'G (by decide)⟩,by decide,?_⟩
 rw [hm]
 walk_at "p"
 refine⟨rfl,_,_,rfl,λr2 r20 r21 ρ=>?_⟩
 walk_at "p"
 have hd:∃ d:Int,atI [Tr.int 1,.int 2,.int 3,.int 60] (r2 % 4)=some (.int d)/\0<d/\d<=60:=by
  have h4:r2 % 4=0\/r2 % 4=1\/r2 % 4=2\/r2 % 4=3:=by omega
  rcases h4 with h | h | h | h<;>rw [h]
  ·exact⟨1,at0 _ _,by decide,by decide⟩
  ·exact⟨2,at1 _ _ _,by decide,by decide⟩
  ·exact⟨3,at2 _ _ _ _,by decide,by decide⟩
  ·exact⟨60,at3 _ _ _ _ _,by decide,by decide⟩
 obtain⟨d,hd,d0,d1⟩:=hd
 refine⟨by decide,?_⟩
 rw [hd]
 walk_at "p"
 have k1:bi m<=20:=g'O 20 (by omega)
 have k2:bi d<=20:=g'O 20 (by omega)
 exact f'Y d0 (by omega) λρ=>⟨e_o _,q _ (f'K (by omega) k1 k2) _⟩
theorem v'P {x:Str} {k:Int} (h0:0<=k) (h1:k<x.length) (h2:x.length<=1000000) {Q:Tr->Prop} (q:∀ y:Str,y.length=1->Q (.str y)):wIdx (.str x) (.int k) Q:=by
 refine⟨h2,?_⟩
 have e:=n'w x.cps.toList h0 (by rw [Array.length_toList];have:x.cps.size=x.length:=rfl;omega)
 rw [e]
 exact q _ rfl
theorem w'E (x:Str) (l h:Option Int) (Q:Tr->Prop):wSl (.str x) l h Q=(x.length<=1000000/\Q (.str (Txt.slice x l h))):=rfl
theorem v'Q {z:Bool} {x:Str} (h:x.length<=1000000) {Q:Tr->Prop} (q:Q (.int x.length)):wLen z [.str x] Q:=by
 first | exact q | exact⟨h,q⟩ | exact⟨b'u h,q⟩
def g_name:PSp:=spec 2 λxs Q=>∃ c k:Int,xs=[.int c,.int k]/\0<=k/\k<5/\∀ n:Str,n.length<=100->Q (.str n)
theorem i'f (T:Tx w K mg) {z:Bool}:FnOk P w K mg base CX0 2 T.a_law_name T.d_law_name ["_law_first","_law_k"] (spP K z 0 2 g_name):=by
 refine a'n T.F_law_name sc_law_name rfl (by decide) λcdv A outer s H E hr=>?_
 have hu:=a'l hr
 refine⟨_,(a'e (a'p (i:=2) sc_law_name.nd (by decide) rfl (Or.inl rfl) a'g)
  (a'e (d'w PassesOwn.never rfl (w'u rfl T.z_range (a'a (a'B (qv 0) a'b) a'c)) (a'W (i:=3) sc_law_name.nd (by decide) rfl (Or.inl rfl)) (a'd (a'p (i:=2) sc_law_name.nd (by decide) rfl (Or.inl rfl) (a'A (qv 2) (a'h hu a'g (a'B (a'i ((b'U T).mono (by first | decide | omega)) (by first | exact id | exact λ_=>rfl) (λ_ _ h=>h.1) hr rfl T.m_law_mixed T.F_law_mixed.kp T.b_law_mixed (QA.frz (a'a (qv 0) (a'a (qv 3) a'c)))) a'b) (λ_ _=>rfl))))))
  (a'e (a'p (i:=4) sc_law_name.nd (by decide) rfl (Or.inl rfl) (a'B (a'V (qv 0) a'b) (a'A (b'p b'L b'g rfl T.z_len rfl (a'a (qv 2) a'c)) a'b)))
  (a'd (a'k (a'A (a'A (p'e (qv 2) u'R (k'M (qv 4))) (a'h hu a'g (qv 1) (λ_ _=>rfl))) (p'e (qv 2) (k'M (qv 4)) u'R))))))),?_⟩
 rintro xs Q' _ ⟨_,c,k,rfl,k0,k1,q⟩
 walk_at "p"
 refine⟨by decide,by omega,by omega,Loop.map (List.range (c % 8).toNat) (λ(i:Nat)=>Tr.int i) (λi ρ=>∃ (wd:Str) (x:Tr),ρ=[.int c,.int k,.str wd,x,.hole]/\wd.length<=i) ⟨Str.ofString "",.hole,rfl,by decide⟩ ?_ ?_⟩
 ·rintro i y ρ hx ⟨wd,x,rfl,hl⟩
  have il:=(List.getElem?_eq_some_iff.mp hx).1
  rw [List.length_range] at il
  walk_at "p"
  refine⟨rfl,_,_,rfl,λr r0 r1 ρ=>?_⟩
  walk_at "p"
  refine⟨by decide,v'P (by omega) (by rw [show (Str.ofString "abcdefghijklmnopqrstuvwxyz").length=26 from by decide +kernel];omega) (by decide +kernel) λy hy=>?_⟩
  walk_at "p"
  exact⟨by omega,_,_,rfl,by rw [b'i];omega⟩
 ·rintro ρ ⟨wd,x,rfl,hl⟩
  rw [List.length_range] at hl
  walk_at "p"
  have l1:=λ(a b:Option Int)=>Txt.slice_le wd a b
  simp only [w'E]
  refine⟨⟨by decide,a'G (by decide)⟩,v'Q (by omega) ?_⟩
  walk_at "p"
  refine⟨by omega,by omega,v'P k0 (by rw [show (Str.ofString "pqxyz").length=5 from by decide +kernel];exact k1) (by decide +kernel) λy hy=>?_⟩
  have l2:=l1 none (some (c.fdiv 8 % ((wd.length:Int)+1)))
  have l3:=l1 (some (c.fdiv 8 % ((wd.length:Int)+1))) none
  walk_at "p"
  simp only [b'i]
  exact⟨by omega,by omega,by omega,q _ (by rw [b'i,b'i];omega) _⟩
def ltT:Tm->Tr
 | .num q => .tup [.str "number", Enc.t q]
 | .edge a n => .tup [.str "edge", .str a, .str n]
 | .times q t => .tup [.str "times", Enc.t q, ltT t]
 | .plus a b => .tup [.str "plus", ltT a, ltT b]
 | .minus a b => .tup [.str "minus", ltT a, ltT b]
theorem d'J:∀ t:Tm,Cl (ltT t)=true
 | .num q => by show (true && (Cl (Enc.t q) && true)) = true; rw [Enc.c]; rfl
 | .edge a n => rfl
 | .times q t => by show (true && (Cl (Enc.t q) && (Cl (ltT t) && true))) = true; rw [Enc.c, d'J t]; rfl
 | .plus a b => by show (true && (Cl (ltT a) && (Cl (ltT b) && true))) = true; rw [d'J a, d'J b]; rfl
 | .minus a b => by show (true && (Cl (ltT a) && (Cl (ltT b) && true))) = true; rw [d'J a, d'J b]; rfl
instance:Enc Tm:=⟨ltT,d'J,λt=>by cases t<;>exact λz=>by cases z⟩
def WL:List (List Str):=[["left","width","right","middle","gap"],["top","height","bottom","centre","drop"]]
theorem w'F {way k:Int} (h0:0<=way) (h1:way<2) (k0:0<=k) (k1:k<5):∃ (ws:List Str) (x:Str),atI (WL.map λl=>Tr.lst .f (l.map Enc.t)) way=some (.lst .f (ws.map Enc.t))/\atI ws k=some x/\(shrT.lookup x).isSome=true:=by
 have h:way=0\/way=1:=by omega
 have g:k=0\/k=1\/k=2\/k=3\/k=4:=by omega
 rcases h with rfl | rfl
 ·rcases g with rfl | rfl | rfl | rfl | rfl
  ·exact⟨_,_,at0 _ _,at0 _ _,by decide +kernel⟩
  ·exact⟨_,_,at0 _ _,at1 _ _ _,by decide +kernel⟩
  ·exact⟨_,_,at0 _ _,at2 _ _ _ _,by decide +kernel⟩
  ·exact⟨_,_,at0 _ _,at3 _ _ _ _ _,by decide +kernel⟩
  ·exact⟨_,_,at0 _ _,at4 _ _ _ _ _ _,by decide +kernel⟩
 ·rcases g with rfl | rfl | rfl | rfl | rfl
  ·exact⟨_,_,at1 _ _ _,at0 _ _,by decide +kernel⟩
  ·exact⟨_,_,at1 _ _ _,at1 _ _ _,by decide +kernel⟩
  ·exact⟨_,_,at1 _ _ _,at2 _ _ _ _,by decide +kernel⟩
  ·exact⟨_,_,at1 _ _ _,at3 _ _ _ _ _,by decide +kernel⟩
  ·exact⟨_,_,at1 _ _ _,at4 _ _ _ _ _ _,by decide +kernel⟩
def g_edge:PSp:=spec 2 λxs Q=>∃ c f:Int,xs=[.int c,.int f]/\∀ a n:Str,(Tm.edge a n).ok->Q (Enc.t (Tm.edge a n))
theorem d'S (T:Tx w K mg) {z:Bool}:FnOk P w K mg base CX0 3 T.a_law_edge T.d_law_edge ["_law_cell","_law_first"] (spP K z 0 2 g_edge):=by
 refine a'n T.F_law_edge sc_law_edge rfl (by decide) λcdv A outer s H E hr=>?_
 have hu:=a'l hr
 refine⟨_,(a'e (a'p (i:=2) sc_law_edge.nd (by decide) rfl (Or.inl rfl) (a'x (a'a (a'x (a'a a'g (a'a a'g (a'a a'g (a'a a'g (a'a a'g a'c)))))) (a'a (a'x (a'a a'g (a'a a'g (a'a a'g (a'a a'g (a'a a'g a'c)))))) a'c))))
  (a'e (a'p (i:=3) sc_law_edge.nd (by decide) rfl (Or.inl rfl) (a'B (a'V (qv 1) a'b) a'b))
  (a'e (a'v (a'j (b'm hr.units) a'y (a'B (a'V (qv 1) a'b) a'b) a'b (by with_unfolding_all rfl)) (a'd (a'p (i:=3) sc_law_edge.nd (by decide) rfl (Or.inl rfl) (a'B (a'V (qv 0) a'b) a'b))) a'q)
  (a'e (a'p (i:=4) sc_law_edge.nd (by decide) rfl (Or.inl rfl) (a'h hu (a'h hu (qv 2) (qv 3) (λ_ _=>rfl)) (a'B (qv 0) a'b) (λ_ _=>rfl)))
  (a'e (a'v (QW.t (h'a (a'j (b'm hr.units) a'y (a'B (a'V (qv 0) a'b) a'b) a'b (by with_unfolding_all rfl)) (f'e (a'j d'Z b'R (a'B (qv 0) a'b) a'b (by with_unfolding_all rfl))))) (a'd (a'k (a'z (a'a a'g (a'a (qv 4) (a'a a'g a'c)))))) a'q)
  (a'd (a'k (a'z (a'a a'g (a'a (qv 4) (a'a (a'i ((i'f T).mono (by first | decide | omega)) (by first | exact id | exact λ_=>rfl) (λ_ _ h=>h.1) hr rfl T.m_law_name T.F_law_name.kp T.b_law_name (QA.frz (a'a (qv 1) (a'a (a'B (a'V (qv 0) a'b) a'b) a'c)))) a'c))))))))))),?_⟩
 rintro xs Q' _ ⟨_,c,f,rfl,q⟩
 walk_at "q"
 refine⟨⟨by decide,a'G (by decide)⟩,by decide,?_⟩
 refine c'g (λρ=>∃ way:Int,ρ=[.int c,.int f,.lst .f (WL.map λl=>Tr.lst .f (l.map Enc.t)),.int way,.hole]/\0<=way/\way<2) (λN hN=>?_) ?_
 ·walk_at "p"
  refine⟨⟨by decide,a'G (by decide)⟩,by decide,?_⟩
  split
  ·exact⟨⟨by decide,a'G (by decide)⟩,by decide,hN _ ⟨_,rfl,by omega,by omega⟩⟩
  ·exact hN _ ⟨_,rfl,by omega,by omega⟩
 rintro ρ ⟨way,rfl,w0,w1⟩
 obtain⟨ws,x,e1,e2,e3⟩:=w'F w0 w1 (k:=c % 5) (by omega) (by omega)
 walk_at "p"
 rw [e1]
 walk_at "p"
 refine⟨by decide,?_⟩
 simp only [e2,Option.map_some]
 walk_at "p"
 refine⟨⟨by decide,a'G (by decide)⟩,by decide,?_⟩
 have fr:(Tm.edge x (Str.ofString "frame")).ok:=⟨e3,by decide +kernel⟩
 have nm:∀ n:Str,n.length<=100->(Tm.edge x n).ok:=λn h=>⟨e3,h⟩
 split
 ·refine⟨by decide,?_⟩
  split
  ·exact q x _ fr _
  ·exact⟨⟨by decide,a'G (by decide)⟩,by decide,rfl,_,_,rfl,by omega,by omega,λn hn ρ=>⟨rfl,q x n (nm n hn) _⟩⟩
 ·exact⟨⟨by decide,a'G (by decide)⟩,by decide,rfl,_,_,rfl,by omega,by omega,λn hn ρ=>⟨rfl,q x n (nm n hn) _⟩⟩
theorem h'Y {X:Cx} {k:Md} {lo:Nat} {sts:List Stmt}:QB X k lo sts pNever:=⟨λ_ _ _=>False,λ_ _ _ _ _ _ h=>h.elim,λ_ _ _ _ _ _ _ _ _ _ _ h _=>h⟩
def tmO (T:Tx w K mg):Tm->Tr
 | .num q => .ins .o T.c_Number [("number", Enc.t q)]
 | .edge a n => .ins .o T.c_Edge [("word", .str a), ("name", .str n)]
 | .times q t => .ins .o T.c_Times [("number", Enc.t q), ("inner", tmT T t)]
 | .plus a b => .ins .o T.c_Plus [("one", tmT T a), ("other", tmT T b)]
 | .minus a b => .ins .o T.c_Minus [("one", tmT T a), ("other", tmT T b)]
theorem o_f (T:Tx w K mg) (t:Tm):Pu.frz (tmO T t)=tmT T t:=by
 cases t<;>simp only [tmO,tmT,i_f,frzf,e_f,m_f,d'z]
theorem o_o (T:Tx w K mg) (t:Tm):nol (tmO T t)=true:=by
 cases t<;>simp only [tmO,i_o,nolf,e_o,m_o,f'h,Bool.and_self]
theorem o_t (T:Tx w K mg) (t:Tm):nlt (tmO T t)=true:=by
 cases t<;>simp only [tmO,i_t,nltf,e_t,m_t,d'A,Bool.and_self]
theorem v'R {C:Addr} {f:Str} {v:Tr} {P:Tr->Prop} (h1:Cl v=true) (h2:v≠.hole) (p:P (.ins .o C [(f,v)])):g_in1 C f [Tr.ins .o C [],v] λt ρ'=>t=.non/\wNew ρ'[0]? P:=
 ⟨rfl,v,rfl,h1,h2,λρ e=>⟨rfl,by rw [e];exact⟨by show (nol v && true)=true;rw [(clo v h1).o];rfl,p⟩⟩⟩
theorem e'R {C:Addr} {f g:Str} {v u:Tr} {P:Tr->Prop} (h1:Cl v=true) (h2:v≠.hole) (h3:Cl u=true) (h4:u≠.hole) (p:P (.ins .o C [(f,v),(g,u)])):g_in2 C f g [Tr.ins .o C [],v,u] λt ρ'=>t=.non/\wNew ρ'[0]? P:=
 ⟨rfl,v,u,rfl,h1,h2,h3,h4,λρ e=>⟨rfl,by rw [e];exact⟨by show (nol v && (nol u && true))=true;rw [(clo v h1).o,(clo u h3).o];rfl,p⟩⟩⟩
def g_term (T:Tx w K mg) (n:Nat):PSp:=spec 1 λxs Q=>∃ t:Tm,xs=[Enc.t t]/\t.dep<n/\Q (tmO T t)
theorem c'h (T:Tx w K mg):∀ n,FnOk P w K mg base CX0 (n+3) T.a_law_term T.d_law_term ["_law_tree_here"] (spP K true 0 1 (g_term T n))
 | 0 => by
  refine a'n T.F_law_term d'R rfl (by decide) λcdv A outer s H E hr=>⟨_,h'Y,?_⟩
  rintro xs Q' _ ⟨_,t,rfl,hd,_⟩
  exact absurd hd (Nat.not_lt_zero _)
 | m + 1 => by
  have ih:=c'h T m
  refine a'n T.F_law_term d'R rfl (by decide) λcdv A outer s H E hr=>?_
  have hu:=a'l hr
  refine⟨_,(a'e (a'v (a'j (b'm hr.units) a'y (a'h hu (qv 0) a'b (λ_ _=>rfl)) a'g (by with_unfolding_all rfl)) (a'd (a'k (d'c T.mk_Number ((d'h T).mono (by first | decide | omega)) (by first | exact id | exact λ_=>rfl) (λ_ _ h=>h.1) hr rfl T.m_Number T.b_Number___init__ (QA.frz (a'a (a'h hu (qv 0) a'b (λ_ _=>rfl)) a'c))))) a'q)
 (a'e (a'v (a'j (b'm hr.units) a'y (a'h hu (qv 0) a'b (λ_ _=>rfl)) a'g (by with_unfolding_all rfl)) (a'd (a'k (d'c T.mk_Edge ((e'j T).mono (by first | decide | omega)) (by first | exact id | exact λ_=>rfl) (λ_ _ h=>h.1) hr rfl T.m_Edge T.b_Edge___init__ (QA.frz (a'a (a'h hu (qv 0) a'b (λ_ _=>rfl)) (a'a (a'h hu (qv 0) a'b (λ_ _=>rfl)) a'c)))))) a'q)
 (a'e (a'v (a'j (b'm hr.units) a'y (a'h hu (qv 0) a'b (λ_ _=>rfl)) a'g (by with_unfolding_all rfl)) (a'd (a'k (d'c T.mk_Times ((d'N T).mono (by first | decide | omega)) (by first | exact id | exact λ_=>rfl) (λ_ _ h=>h.1) hr rfl T.m_Times T.b_Times___init__ (QA.frz (a'a (a'h hu (qv 0) a'b (λ_ _=>rfl)) (a'a (a'i ((ih).mono (by first | decide | omega)) (by first | exact id | exact λ_=>rfl) (λ_ _ h=>h.1) hr rfl T.m_law_term T.F_law_term.kp T.b_law_term (QA.frz (a'a (a'h hu (qv 0) a'b (λ_ _=>rfl)) a'c))) a'c)))))) a'q)
 (a'e (a'v (a'j (b'm hr.units) a'y (a'h hu (qv 0) a'b (λ_ _=>rfl)) a'g (by with_unfolding_all rfl)) (a'd (a'k (d'c T.mk_Plus ((e'k T).mono (by first | decide | omega)) (by first | exact id | exact λ_=>rfl) (λ_ _ h=>h.1) hr rfl T.m_Plus T.b_Plus___init__ (QA.frz (a'a (a'i ((ih).mono (by first | decide | omega)) (by first | exact id | exact λ_=>rfl) (λ_ _ h=>h.1) hr rfl T.m_law_term T.F_law_term.kp T.b_law_term (QA.frz (a'a (a'h hu (qv 0) a'b (λ_ _=>rfl)) a'c))) (a'a (a'i ((ih).mono (by first | decide | omega)) (by first | exact id | exact λ_=>rfl) (λ_ _ h=>h.1) hr rfl T.m_law_term T.F_law_term.kp T.b_law_term (QA.frz (a'a (a'h hu (qv 0) a'b (λ_ _=>rfl)) a'c))) a'c)))))) a'q)
 (a'd (a'k (d'c T.mk_Minus ((d'O T).mono (by first | decide | omega)) (by first | exact id | exact λ_=>rfl) (λ_ _ h=>h.1) hr rfl T.m_Minus T.b_Minus___init__ (QA.frz (a'a (a'i ((ih).mono (by first | decide | omega)) (by first | exact id | exact λ_=>rfl) (λ_ _ h=>h.1) hr rfl T.m_law_term T.F_law_term.kp T.b_law_term (QA.frz (a'a (a'h hu (qv 0) a'b (λ_ _=>rfl)) a'c))) (a'a (a'i ((ih).mono (by first | decide | omega)) (by first | exact id | exact λ_=>rfl) (λ_ _ h=>h.1) hr rfl T.m_law_term T.F_law_term.kp T.b_law_term (QA.frz (a'a (a'h hu (qv 0) a'b (λ_ _=>rfl)) a'c))) a'c)))))))))),?_⟩
  rintro xs Q' _ ⟨_,t,rfl,hd,q⟩
  cases t with
  | num b=>
   rw [show (Enc.t (Tm.num b):Tr)=.tup [.str "number",Enc.t b] from rfl]
   walk_at "p"
   exact v'R (Enc.c b) (Enc.h b) ⟨o_o T (.num b),q _⟩
  | edge a n=>
   rw [show (Enc.t (Tm.edge a n):Tr)=.tup [.str "edge",.str a,.str n] from rfl]
   walk_at "p"
   rw [if_neg (by decide +kernel)]
   exact e'R rfl (by intro z;cases z) rfl (by intro z;cases z) ⟨o_o T (.edge a n),q _⟩
  | times b t=>
   rw [show (Enc.t (Tm.times b t):Tr)=.tup [.str "times",Enc.t b,Enc.t t] from rfl]
   walk_at "p"
   rw [if_neg (by decide +kernel),if_neg (by decide +kernel)]
   refine⟨rfl,t,rfl,Nat.lt_of_succ_lt_succ hd,λρ=>?_⟩
   simp only [o_f,m_d]
   exact e'R (Enc.c b) (Enc.h b) (a'Y T t) (e'M T t) ⟨o_o T (.times b t),q _⟩
  | plus a b=>
   have hd:max a.dep b.dep+1<m+1:=hd
   rw [show (Enc.t (Tm.plus a b):Tr)=.tup [.str "plus",Enc.t a,Enc.t b] from rfl]
   walk_at "p"
   rw [if_neg (by decide +kernel),if_neg (by decide +kernel),if_neg (by decide +kernel)]
   refine⟨rfl,a,rfl,by omega,λρ=>?_⟩
   refine⟨rfl,b,rfl,by omega,λρ=>?_⟩
   simp only [o_f,m_d]
   exact e'R (a'Y T a) (e'M T a) (a'Y T b) (e'M T b) ⟨o_o T (.plus a b),q _⟩
  | minus a b=>
   have hd:max a.dep b.dep+1<m+1:=hd
   rw [show (Enc.t (Tm.minus a b):Tr)=.tup [.str "minus",Enc.t a,Enc.t b] from rfl]
   walk_at "p"
   rw [if_neg (by decide +kernel),if_neg (by decide +kernel),if_neg (by decide +kernel),if_neg (by decide +kernel)]
   refine⟨rfl,a,rfl,by omega,λρ=>?_⟩
   refine⟨rfl,b,rfl,by omega,λρ=>?_⟩
   simp only [o_f,m_d]
   exact e'R (a'Y T a) (e'M T a) (a'Y T b) (e'M T b) ⟨o_o T (.minus a b),q _⟩
def tot (f:Tm->Nat):List Tm->Nat
 | [] => 0
 | t :: ts => f t + tot f ts
theorem a'H (f:Tm->Nat):∀ (a b:List Tm),tot f (a++b)=tot f a+tot f b
 | [], b => by rw [List.nil_append]; show _ = 0 + _; omega
 | x :: a, b => by show f x + tot f (a ++ b) = f x + tot f a + tot f b; rw [a'H f a b]; omega
theorem a'I (f:Tm->Nat) (t:Tm):tot f [t]=f t:=rfl
structure HI (ts:List Tm) (b:Nat):Prop where
 ok:∀ t∈ts,t.ok
 d:tot (λt=>t.dep+1) ts<=b
 w:tot (λt=>wei t+5) ts<=26*b
 e:tot cnt ts<=b
 l:0<ts.length/\ts.length<=b
theorem HI.push {ts:List Tm} {b:Nat} (h:HI ts b) {t:Tm} (ho:t.ok) (hd:t.dep=0) (hw:wei t<=21) (he:cnt t<=1):HI (ts++[t]) (b+1):=by
 have:=h.l
 refine⟨λx m=>(List.mem_append.mp m).elim (h.ok x) λm=>by rw [List.mem_singleton.mp m];exact ho,?_,?_,?_,?_⟩
 ·rw [a'H,a'I];have:=h.d;omega
 ·rw [a'H,a'I];have:=h.w;omega
 ·rw [a'H,a'I];have:=h.e;omega
 ·rw [List.length_append,List.length_singleton];omega
theorem HI.times {ts:List Tm} {t:Tm} {b:Nat} (h:HI (ts++[t]) b) {q:Rat} (hq:bs q<=20):HI (ts++[.times q t]) (b+1):=by
 have hl:=h.l
 have hd:=h.d;have hw:=h.w;have he:=h.e
 rw [a'H,a'I] at hd hw he
 rw [List.length_append,List.length_singleton] at hl
 refine⟨λx m=>(List.mem_append.mp m).elim (λm=>h.ok x (List.mem_append.mpr (.inl m))) λm=>by rw [List.mem_singleton.mp m];exact h.ok t (List.mem_append.mpr (.inr (.head _))),?_,?_,?_,?_⟩
 ·rw [a'H,a'I];show _+(t.dep+1+1)<=_;omega
 ·rw [a'H,a'I];show _+(wei t+bs q+5)<=_;omega
 ·rw [a'H,a'I];show _+cnt t<=_;omega
 ·rw [List.length_append,List.length_singleton];omega
theorem HI.two {ts:List Tm} {x y r:Tm} {b:Nat} (h:HI (ts++[x]++[y]) b) (hr:r=.plus x y\/r=.minus x y):HI (ts++[r]) b:=by
 have hl:=h.l
 have hd:=h.d;have hw:=h.w;have he:=h.e
 rw [a'H,a'I,a'H,a'I] at hd hw he
 rw [List.length_append,List.length_singleton,List.length_append,List.length_singleton] at hl
 have o1:=h.ok x (List.mem_append.mpr (.inl (List.mem_append.mpr (.inr (.head _)))))
 have o2:=h.ok y (List.mem_append.mpr (.inr (.head _)))
 have r1:r.ok:=by rcases hr with rfl | rfl<;>exact⟨o1,o2⟩
 have r2:r.dep=max x.dep y.dep+1:=by rcases hr with rfl | rfl<;>rfl
 have r3:wei r=wei x+wei y+5:=by rcases hr with rfl | rfl<;>rfl
 have r4:cnt r=cnt x+cnt y:=by rcases hr with rfl | rfl<;>rfl
 refine⟨λz m=>(List.mem_append.mp m).elim (λm=>h.ok z (List.mem_append.mpr (.inl (List.mem_append.mpr (.inl m))))) λm=>by rw [List.mem_singleton.mp m];exact r1,?_,?_,?_,?_⟩
 ·rw [a'H,a'I,r2];omega
 ·rw [a'H,a'I,r3];omega
 ·rw [a'H,a'I,r4];omega
 ·rw [List.length_append,List.length_singleton];omega
theorem HI.up {ts:List Tm} {b:Nat} (h:HI ts b):HI ts (b+1):=⟨h.ok,Nat.le_succ_of_le h.d,by have:=h.w;omega,Nat.le_succ_of_le h.e,h.l.1,Nat.le_succ_of_le h.l.2⟩
theorem b'N {ts:List Tm} (h:0<ts.length):∃ us u,ts=us++[u]:=by
 have ne:ts≠[]:=λz=>by rw [z] at h;exact Nat.lt_irrefl _ h
 exact⟨ts.dropLast,ts.getLast ne,(List.dropLast_concat_getLast ne).symm⟩
def g_tree:PSp:=spec 2 λxs Q=>∃ (f:Fl) (cs:List Int) (c:Int),Fp f/\xs=[.lst f (cs.map Enc.t),.int c]/\cs.length<=14/\∀ t:Tm,t.ok->t.dep<15->wei t<=400->cnt t<=15->Q (Enc.t t)
theorem i'g (T:Tx w K mg) {z:Bool}:FnOk P w K mg base CX0 5 T.a_law_tree T.d_law_tree ["_law_cells","_law_first"] (spP K z 0 2 g_tree):=by
 refine a'n T.F_law_tree sc_law_tree rfl (by decide) λcdv A outer s H E hr=>?_
 have hu:=a'l hr
 refine⟨_,(a'e (b'f (i:=2) sc_law_tree.nd (by decide) rfl (Or.inl rfl) (a'x (a'a (a'i ((d'S T).mono (by first | decide | omega)) (by first | exact id | exact λ_=>rfl) (λ_ _ h=>h.1) hr rfl T.m_law_edge T.F_law_edge.kp T.b_law_edge (QA.frz (a'a (qv 1) (a'a (qv 1) a'c)))) a'c)))
  (a'e (d'w PassesOwn.never rfl (e'b (qv 0)) (a'W (i:=3) sc_law_tree.nd (by decide) rfl (Or.inl rfl)) (a'e (a'p (i:=4) sc_law_tree.nd (by decide) rfl (Or.inl rfl) (a'B (qv 3) a'b))
  (a'd (a'v (QW.t (b'K (a'j d'Z b'R (qv 4) a'b (by with_unfolding_all rfl)) (b'S (QW.t (h'a (a'j u'B l'Y (qv 4) a'b (by with_unfolding_all rfl)) (f'e (a'j (b'm hr.units) a'y (b'p b'L b'g rfl T.z_len rfl (a'a (qv 2) a'c)) a'b (by with_unfolding_all rfl)))))))) (a'd (b'v (a'r 2) (a'i ((d'S T).mono (by first | decide | omega)) (by first | exact id | exact λ_=>rfl) (λ_ _ h=>h.1) hr rfl T.m_law_edge T.F_law_edge.kp T.b_law_edge (QA.frz (a'a (a'V (qv 3) a'b) (a'a (qv 1) a'c)))))) (a'd (a'v (a'j d'Z b'R (qv 4) a'b (by with_unfolding_all rfl)) (a'd (b'v (a'r 2) (a'z (a'a a'g (a'a (a'i ((c'Q T).mono (by first | decide | omega)) (by first | exact id | exact λ_=>rfl) (λ_ _ h=>h.1) hr rfl T.m_law_number T.F_law_number.kp T.b_law_number (QA.frz (a'a (a'V (qv 3) a'b) a'c))) a'c))))) (a'd (a'v (a'j d'Z b'R (qv 4) a'b (by with_unfolding_all rfl)) (a'd (h'E (a'r 2) (h'D (a'X (f'k a'g) (a'X (f'k (a'i ((c'Q T).mono (by first | decide | omega)) (by first | exact id | exact λ_=>rfl) (λ_ _ h=>h.1) hr rfl T.m_law_number T.F_law_number.kp T.b_law_number (QA.frz (a'a (a'V (qv 3) a'b) a'c)))) (a'X (d'f (a'r 2)) f'l)))))) (a'e (j'J (i:=5) sc_law_tree.nd (by decide) rfl (Or.inl rfl) (d'f (a'r 2)))
  (a'd (h'E (a'r 2) (h'D (a'X (f'k (a'h hu (a'x (a'a a'g (a'a a'g a'c))) (p'N (qv 4) a'b) (λ_ _=>rfl))) (a'X (d'f (a'r 2)) (a'X (f'k (qv 5)) f'l)))))))))))))))
  (a'e (k'H PassesOwn.never (a'j u'B l'Y (b'p b'L b'g rfl T.z_len rfl (a'a (qv 2) a'c)) a'b (by with_unfolding_all rfl)) (a'e (j'J (i:=5) sc_law_tree.nd (by decide) rfl (Or.inl rfl) (d'f (a'r 2)))
  (a'd (h'E (a'r 2) (h'D (a'X (f'k (a'h hu (a'x (a'a a'g (a'a a'g a'c))) (a'B (b'p b'L b'g rfl T.z_len rfl (a'a (qv 2) a'c)) a'b) (λ_ _=>rfl))) (a'X (d'f (a'r 2)) (a'X (f'k (qv 5)) f'l))))))))
  (a'd (a'k (a'h hu (qv 2) a'b (λ_ _=>rfl))))))),?_⟩
 rintro xs Q' _ ⟨_,f,cells,c,_,rfl,hl,q⟩
 walk_at "p"
 refine⟨rfl,_,_,rfl,λa n ho ρ=>?_⟩
 walk_at "p"
 refine Loop.map cells Enc.t (λi ρ=>∃ (ts:List Tm) (x y z:Tr),ρ=[.lst f (cells.map Enc.t),.int c,.lst .o (ts.map Enc.t),x,y,z]/\HI ts (i+1)) ⟨[.edge a n],.hole,.hole,.hole,rfl,⟨λt m=>by rw [List.mem_singleton.mp m];exact ho,Nat.le_refl _,by show 4+5+0<=26*1;decide,Nat.le_refl _,Nat.zero_lt_one,Nat.le_refl _⟩⟩ ?_ ?_
 ·rintro i cell ρ hx ⟨ts,x,y,z,rfl,hi⟩
  have il:=(List.getElem?_eq_some_iff.mp hx).1
  have lt:=hi.l
  rw [show (Enc.t cell:Tr)=.int cell from rfl]
  walk_at "p"
  refine⟨by decide,?_⟩
  have wayR:0<=cell % 9/\cell % 9<9:=⟨by omega,by omega⟩
  have d9:CDivB cell 9:=⟨by decide,a'G (by decide)⟩
  have dt:∀ {p:Prop} [Decidable p],¬ decide p=true->¬ p:=λh z=>h (decide_eq_true z)
  split
  ·exact⟨d9,rfl,_,_,rfl,λa' n' ho' ρ=>⟨e_t _,by omega,ts++[.edge a' n'],.int cell,.int (cell % 9),z,by rw [e_f,List.map_append];rfl,hi.push ho' rfl (by show 4<=21;decide) (Nat.le_refl _)⟩⟩
  ·rename_i c0
   have c0:=dt c0
   split
   ·rename_i c1
    have c1:=of_decide_eq_true c1
    split
    ·exact⟨d9,rfl,_,_,rfl,λa' n' ho' ρ=>⟨e_t _,by omega,ts++[.edge a' n'],.int cell,.int (cell % 9),z,by rw [e_f,List.map_append];rfl,hi.push ho' rfl (by show 4<=21;decide) (Nat.le_refl _)⟩⟩
    ·rename_i c2
     have c2:=dt c2
     rw [if_neg (by rw [decide_eq_true_eq];omega),if_neg (by rw [decide_eq_true_eq];omega)]
     obtain⟨us,y',rfl⟩:=b'N lt.1
     rw [List.length_append,List.length_singleton] at lt
     obtain⟨vs,x',rfl⟩:=b'N (ts:=us) (by rw [List.length_append,List.length_singleton] at c2;omega)
     rw [List.length_append,List.length_singleton] at lt
     refine⟨(vs++[x']).map Enc.t,Enc.t y',List.map_append,e_f _,?_⟩
     have h78:cell % 9=7\/cell % 9=8:=by omega
     rcases h78 with h | h
     ·rw [show cell % 9 - 7=0 by omega,at0]
      refine⟨rfl,vs.map Enc.t,Enc.t x',List.map_append,e_f _,?_⟩
      rw [e_f,e_l,d'C]
      exact⟨e_t _,by rw [List.length_map];omega,vs++[.plus x' y'],.int cell,.int (cell % 9),Enc.t y',by rw [e_f,e_f,e_f,e_f,List.map_append];rfl,(hi.two (.inl rfl)).up⟩
     ·rw [show cell % 9 - 7=1 by omega,at1]
      refine⟨rfl,vs.map Enc.t,Enc.t x',List.map_append,e_f _,?_⟩
      rw [e_f,e_l,d'C]
      exact⟨e_t _,by rw [List.length_map];omega,vs++[.minus x' y'],.int cell,.int (cell % 9),Enc.t y',by rw [e_f,e_f,e_f,e_f,List.map_append];rfl,(hi.two (.inr rfl)).up⟩
   ·rename_i c1
    have c1:=dt c1
    split
    ·exact⟨d9,rfl,_,rfl,λb hb ρ=>⟨by rw [e_t];rfl,by omega,ts++[.num b],.int cell,.int (cell % 9),z,by rw [e_f,List.map_append];rfl,hi.push (show Tm.ok (.num b) from trivial) rfl (by show bs b+1<=21;omega) (Nat.le_refl _)⟩⟩
    ·rename_i c2
     have c2:=dt c2
     rw [if_pos (by rw [decide_eq_true_eq];omega)]
     obtain⟨us,u,rfl⟩:=b'N lt.1
     rw [List.length_append,List.length_singleton] at lt
     exact⟨d9,rfl,_,rfl,λb hb ρ=>⟨e_t _,us.map Enc.t,Enc.t u,List.map_append,e_f _,by rw [List.length_map];omega,us++[.times b u],.int cell,.int (cell % 9),z,by rw [e_f,e_f,e_f,e_f,List.map_append];rfl,hi.times hb⟩⟩
 ·rintro ρ ⟨ts,x,y,z,rfl,hi⟩
  walk_at "p"
  refine⟨λm ρ=>∃ (ts:List Tm) (x y z:Tr),ρ=[.lst f (cells.map Enc.t),.int c,.lst .o (ts.map Enc.t),x,y,z]/\HI ts (cells.length+1)/\m=ts.length,⟨_,ts,x,y,z,rfl,hi,rfl⟩,?_⟩
  rintro m ρ ⟨ts,x,y,z,rfl,hi,rfl⟩
  have lt:=hi.l
  walk_at "p"
  have dt:∀ {p:Prop} [Decidable p],¬ decide p=true->¬ p:=λh z=>h (decide_eq_true z)
  split
  ·rename_i c2
   have c2:=of_decide_eq_true c2
   obtain⟨us,y',rfl⟩:=b'N lt.1
   rw [List.length_append,List.length_singleton] at lt c2
   obtain⟨vs,x',rfl⟩:=b'N (ts:=us) (by omega)
   rw [List.length_append,List.length_singleton] at lt
   refine⟨(vs++[x']).map Enc.t,Enc.t y',List.map_append,e_f _,by decide,?_⟩
   have h78:((lends ((vs++[x']).map (Enc.t (α:=Tm)))).length:Int) % 2=0\/((lends ((vs++[x']).map (Enc.t (α:=Tm)))).length:Int) % 2=1:=by omega
   rcases h78 with h | h
   ·rw [h,at0]
    refine⟨rfl,vs.map Enc.t,Enc.t x',List.map_append,e_f _,?_⟩
    rw [e_f,e_l,d'C]
    refine⟨e_t _,by rw [List.length_map];omega,_,?_,vs++[.plus x' y'],x,y,Enc.t y',by rw [e_f,e_f,e_f,e_f,List.map_append];rfl,hi.two (.inl rfl),rfl⟩
    rw [List.length_append,List.length_append,List.length_append,List.length_singleton,List.length_singleton,List.length_singleton];omega
   ·rw [h,at1]
    refine⟨rfl,vs.map Enc.t,Enc.t x',List.map_append,e_f _,?_⟩
    rw [e_f,e_l,d'C]
    refine⟨e_t _,by rw [List.length_map];omega,_,?_,vs++[.minus x' y'],x,y,Enc.t y',by rw [e_f,e_f,e_f,e_f,List.map_append];rfl,hi.two (.inr rfl),rfl⟩
    rw [List.length_append,List.length_append,List.length_append,List.length_singleton,List.length_singleton,List.length_singleton];omega
  ·rename_i c2
   have c2:=dt c2
   obtain⟨us,u,rfl⟩:=b'N lt.1
   rw [List.length_append,List.length_singleton] at lt c2
   obtain rfl:us=[]:=List.eq_nil_of_length_eq_zero (by omega)
   rw [List.nil_append]
   rw [List.nil_append] at hi
   have hd:=hi.d
   have hw:=hi.w
   have he:=hi.e
   rw [a'I] at hd hw he
   try walk_at "p"
   show nol (Enc.t u)=true/\_
   exact⟨e_o _,q u (hi.ok u (.head _)) (by omega) (by omega) (by omega) _⟩
theorem st1:isSt (Str.ofString "left")=true:=by decide +kernel
theorem st2:isSt (Str.ofString "top")=true:=by decide +kernel
theorem st3:isSt (Str.ofString "width")=false:=by decide +kernel
theorem st4:isSt (Str.ofString "height")=false:=by decide +kernel
theorem st5:isSt (Str.ofString "gap")=false:=by decide +kernel
theorem st6:isSt (Str.ofString "drop")=false:=by decide +kernel
theorem r11:Rat.divInt 1 1=1:=by decide +kernel
def BEG:List (Str×Str):=[("left","left"),("right","left"),("middle","left"),("top","top"),("bottom","top"),("centre","top")]
def SIZ:List (Str×Str):=[("width","width"),("right","width"),("height","height"),("bottom","height"),("gap","gap"),("drop","drop")]
def addU (o:Option Str) (c:Bool) (n:Str):List (Str×Rat):=match o with | some a=>if c=true then [(joinU a n,1)] else [] | none=>[]
theorem t'o {a n:Str} (h:(shrT.lookup a).isSome=true):unkL n (shr a)=addU (gtd BEG a) (!decide (n="frame")) n++addU (gtd SIZ a) true n++(if a="middle" then [(joinU "width" n,Rat.divInt 1 2)] else [])++(if a="centre" then [(joinU "height" n,Rat.divInt 1 2)] else []):=by
 have hm:=(d'i h).1
 generalize hs:shr a=l at hm
 simp only [shrT,List.mem_cons,List.not_mem_nil,or_false,Prod.mk.injEq] at hm
 rcases hm with ⟨rfl,rfl⟩ | ⟨rfl,rfl⟩ | ⟨rfl,rfl⟩ | ⟨rfl,rfl⟩ | ⟨rfl,rfl⟩ | ⟨rfl,rfl⟩ | ⟨rfl,rfl⟩ | ⟨rfl,rfl⟩ | ⟨rfl,rfl⟩ | ⟨rfl,rfl⟩
 ·rw [show gtd BEG "left"=some "left" from by decide +kernel,show gtd SIZ "left"=none from by decide +kernel]
  unfold unkL addU
  rw [if_neg (by decide +kernel),if_neg (by decide +kernel)]
  by_cases hf:n="frame"
  ·simp [unkF,hf,r11,st1,st2,st3,st4,st5,st6]
  ·simp [unkF,hf,r11,st1,st2,st3,st4,st5,st6]
 ·rw [show gtd BEG "width"=none from by decide +kernel,show gtd SIZ "width"=some "width" from by decide +kernel]
  unfold unkL addU
  rw [if_neg (by decide +kernel),if_neg (by decide +kernel)]
  by_cases hf:n="frame"
  ·simp [unkF,hf,r11,st1,st2,st3,st4,st5,st6]
  ·simp [unkF,hf,r11,st1,st2,st3,st4,st5,st6]
 ·rw [show gtd BEG "right"=some "left" from by decide +kernel,show gtd SIZ "right"=some "width" from by decide +kernel]
  unfold unkL addU
  rw [if_neg (by decide +kernel),if_neg (by decide +kernel)]
  by_cases hf:n="frame"
  ·simp [unkF,hf,r11,st1,st2,st3,st4,st5,st6]
  ·simp [unkF,hf,r11,st1,st2,st3,st4,st5,st6]
 ·rw [show gtd BEG "middle"=some "left" from by decide +kernel,show gtd SIZ "middle"=none from by decide +kernel]
  unfold unkL addU
  rw [if_pos (by decide +kernel),if_neg (by decide +kernel)]
  by_cases hf:n="frame"
  ·simp [unkF,hf,r11,st1,st2,st3,st4,st5,st6]
  ·simp [unkF,hf,r11,st1,st2,st3,st4,st5,st6]
 ·rw [show gtd BEG "gap"=none from by decide +kernel,show gtd SIZ "gap"=some "gap" from by decide +kernel]
  unfold unkL addU
  rw [if_neg (by decide +kernel),if_neg (by decide +kernel)]
  by_cases hf:n="frame"
  ·simp [unkF,hf,r11,st1,st2,st3,st4,st5,st6]
  ·simp [unkF,hf,r11,st1,st2,st3,st4,st5,st6]
 ·rw [show gtd BEG "top"=some "top" from by decide +kernel,show gtd SIZ "top"=none from by decide +kernel]
  unfold unkL addU
  rw [if_neg (by decide +kernel),if_neg (by decide +kernel)]
  by_cases hf:n="frame"
  ·simp [unkF,hf,r11,st1,st2,st3,st4,st5,st6]
  ·simp [unkF,hf,r11,st1,st2,st3,st4,st5,st6]
 ·rw [show gtd BEG "height"=none from by decide +kernel,show gtd SIZ "height"=some "height" from by decide +kernel]
  unfold unkL addU
  rw [if_neg (by decide +kernel),if_neg (by decide +kernel)]
  by_cases hf:n="frame"
  ·simp [unkF,hf,r11,st1,st2,st3,st4,st5,st6]
  ·simp [unkF,hf,r11,st1,st2,st3,st4,st5,st6]
 ·rw [show gtd BEG "bottom"=some "top" from by decide +kernel,show gtd SIZ "bottom"=some "height" from by decide +kernel]
  unfold unkL addU
  rw [if_neg (by decide +kernel),if_neg (by decide +kernel)]
  by_cases hf:n="frame"
  ·simp [unkF,hf,r11,st1,st2,st3,st4,st5,st6]
  ·simp [unkF,hf,r11,st1,st2,st3,st4,st5,st6]
 ·rw [show gtd BEG "centre"=some "top" from by decide +kernel,show gtd SIZ "centre"=none from by decide +kernel]
  unfold unkL addU
  rw [if_neg (by decide +kernel),if_pos (by decide +kernel)]
  by_cases hf:n="frame"
  ·simp [unkF,hf,r11,st1,st2,st3,st4,st5,st6]
  ·simp [unkF,hf,r11,st1,st2,st3,st4,st5,st6]
 ·rw [show gtd BEG "drop"=none from by decide +kernel,show gtd SIZ "drop"=some "drop" from by decide +kernel]
  unfold unkL addU
  rw [if_neg (by decide +kernel),if_neg (by decide +kernel)]
  by_cases hf:n="frame"
  ·simp [unkF,hf,r11,st1,st2,st3,st4,st5,st6]
  ·simp [unkF,hf,r11,st1,st2,st3,st4,st5,st6]
theorem t'p:∀ p∈BEG,p.2.length<=10:=by decide +kernel
theorem t'q:∀ p∈SIZ,p.2.length<=10:=by decide +kernel
theorem r12:Tr.tup [.int 1,.int 2]=Enc.t (Rat.divInt 1 2):=by
 rw [show (Enc.t (Rat.divInt 1 2):Tr)=.tup [.int (Rat.divInt 1 2).num,.int ((Rat.divInt 1 2).den:Int)] from rfl,show (Rat.divInt 1 2).num=1 from by decide +kernel,show (Rat.divInt 1 2).den=2 from by decide +kernel]
 rfl
theorem w'G (n:Str):Tr.tup [Tr.str (Str.ofString "width "++n),Tr.tup [.int 1,.int 2]]=Enc.t ((joinU "width" n,Rat.divInt 1 2):Str×Rat):=by
 rw [r12,show Str.ofString "width "=Str.ofString "width"++Str.ofString " " from by decide +kernel];rfl
theorem w'H (n:Str):Tr.tup [Tr.str (Str.ofString "height "++n),Tr.tup [.int 1,.int 2]]=Enc.t ((joinU "height" n,Rat.divInt 1 2):Str×Rat):=by
 rw [r12,show Str.ofString "height "=Str.ofString "height"++Str.ofString " " from by decide +kernel];rfl
theorem c'K {α:Type} [Enc α] (xs:List α) (x:α):(xs++[x]).map (Enc.t (α:=α))=xs.map Enc.t++[Enc.t x]:=List.map_append
def g_unknowns:PSp:=spec 2 λxs Q=>∃ a n:Str,xs=[.str a,.str n]/\(shrT.lookup a).isSome=true/\n.length<=100/\Q (.lst .o ((unkL n (shr a)).map Enc.t))
theorem e'S (T:Tx w K mg) {z:Bool}:FnOk P w K mg base CX0 1 T.a_law_unknowns T.d_law_unknowns ["_law_word","_law_name_here"] (spP K z 0 2 g_unknowns):=by
 refine a'n T.F_law_unknowns sc_law_unknowns rfl (by decide) λcdv A outer s H E hr=>?_
 have hu:=a'l hr
 refine⟨_,(a'e (a'p (i:=2) sc_law_unknowns.nd (by decide) rfl (Or.inl rfl) (m'm (a'M a'g a'g (a'M a'g a'g (a'M a'g a'g (a'M a'g a'g (a'M a'g a'g (a'M a'g a'g m'l))))))))
  (a'e (a'p (i:=3) sc_law_unknowns.nd (by decide) rfl (Or.inl rfl) (m'm (a'M a'g a'g (a'M a'g a'g (a'M a'g a'g (a'M a'g a'g (a'M a'g a'g (a'M a'g a'g m'l))))))))
  (a'e (b'f (i:=4) sc_law_unknowns.nd (by decide) rfl (Or.inl rfl) (a'x a'c))
  (a'e (a'v (QW.t (h'a (a'j (k'K hu) e'H (qv 0) (qv 2) (by with_unfolding_all rfl)) (f'e (a'j (c'f hr.units) b'a (qv 1) a'g (by with_unfolding_all rfl))))) (a'd (b'v (a'r 4) (a'z (a'a (a'A (a'A (a'h hu (qv 2) (qv 0) (λ_ _=>rfl)) a'g) (qv 1)) (a'a (a'z (a'a a'b (a'a a'b a'c))) a'c))))) a'q)
  (a'e (a'v (a'j (k'K hu) e'H (qv 0) (qv 3) (by with_unfolding_all rfl)) (a'd (b'v (a'r 4) (a'z (a'a (a'A (a'A (a'h hu (qv 3) (qv 0) (λ_ _=>rfl)) a'g) (qv 1)) (a'a (a'z (a'a a'b (a'a a'b a'c))) a'c))))) a'q)
  (a'e (a'v (a'j (b'm hr.units) a'y (qv 0) a'g (by with_unfolding_all rfl)) (a'd (b'v (a'r 4) (a'z (a'a (a'A a'g (qv 1)) (a'a (a'z (a'a a'b (a'a a'b a'c))) a'c))))) a'q)
  (a'e (a'v (a'j (b'm hr.units) a'y (qv 0) a'g (by with_unfolding_all rfl)) (a'd (b'v (a'r 4) (a'z (a'a (a'A a'g (qv 1)) (a'a (a'z (a'a a'b (a'a a'b a'c))) a'c))))) a'q)
  (a'd (n'M (w'B 4)))))))))),?_⟩
 rintro xs Q' _ ⟨_,a,n,rfl,h1,h2,q⟩
 rw [t'o h1] at q
 generalize e1:addU (gtd BEG a) (!decide (n="frame")) n=u1 at q
 generalize e2:addU (gtd SIZ a) true n=u2 at q
 have k1:u1.length<=1:=by rw [<- e1];unfold addU;split;split<;>simp;simp
 have k2:u2.length<=1:=by rw [<- e2];unfold addU;split;split<;>simp;simp
 walk_at "q"
 simp only [pPairs]
 walk_at "q"
 simp only [frzk,nltk,d'z,d'A,Bool.and_self]
 refine⟨by decide +kernel,trivial,by decide +kernel,trivial,?_⟩
 show pIfS _ _ _ _ [Tr.str a,Tr.str n,dicS .f BEG,dicS .f SIZ,.lst .o []]
 refine c'g (λρ=>ρ=[.str a,.str n,dicS .f BEG,dicS .f SIZ,.lst .o (u1.map Enc.t)]) (λN hN=>?_) ?_
 ·walk_at "p"
  cases eb:gtd BEG a with
  | none=>
   rw [eb] at e1
   rw [if_neg (by rw [Option.isSome_none];exact Bool.false_ne_true)]
   exact hN _ (by rw [<- e1];rfl)
  | some b=>
   rw [eb] at e1
   have lb:b.length<=10:=t'p _ (b'z eb)
   rw [if_pos (by rw [Option.isSome_some])]
   by_cases hf:n="frame"
   ·rw [if_neg (by simp [hf])]
    exact hN _ (by rw [<- e1];unfold addU;dsimp only;rw [if_neg (by simp [hf])];rfl)
   ·rw [if_pos (by simp [hf])]
    simp only [Option.map_some]
    walk_at "p"
    simp only [b'i,show (Str.ofString " ").length=1 from rfl]
    have E:[Tr.str a,Tr.str n,dicS Fl.f BEG,dicS Fl.f SIZ,Tr.lst Fl.o [Tr.tup [Tr.str (b++Str.ofString " "++n),Enc.t (1:Rat)]]]=[Tr.str a,Tr.str n,dicS .f BEG,dicS .f SIZ,.lst .o (u1.map Enc.t)]:=by
     rw [<- e1];unfold addU;dsimp only;rw [if_pos (by simp [hf])];rfl
    first | exact⟨by omega,by omega,hN _ E⟩ | exact⟨by omega,by omega,by decide,hN _ E⟩
 rintro ρ rfl
 walk_at "q"
 refine c'g (λρ=>ρ=[.str a,.str n,dicS .f BEG,dicS .f SIZ,.lst .o ((u1++u2).map Enc.t)]) (λN hN=>?_) ?_
 ·walk_at "p"
  cases eb:gtd SIZ a with
  | none=>
   rw [eb] at e2
   rw [if_neg (by rw [Option.isSome_none];exact Bool.false_ne_true)]
   exact hN _ (by rw [<- e2];show _=[_,_,_,_,Tr.lst .o ((u1++[]).map Enc.t)];rw [List.append_nil])
  | some b=>
   rw [eb] at e2
   have lb:b.length<=10:=t'q _ (b'z eb)
   rw [if_pos (by rw [Option.isSome_some])]
   simp only [Option.map_some]
   walk_at "p"
   simp only [b'i,show (Str.ofString " ").length=1 from rfl]
   exact⟨by omega,by omega,by omega,hN _ (by rw [<- e2,List.map_append];rfl)⟩
 rintro ρ rfl
 walk_at "q"
 refine c'g (λρ=>ρ=[.str a,.str n,dicS .f BEG,dicS .f SIZ,.lst .o ((u1++u2++(if a="middle" then [(joinU "width" n,Rat.divInt 1 2)] else [])).map Enc.t)]) (λN hN=>?_) ?_
 ·walk_at "p"
  split
  ·rename_i c
   have c:=of_decide_eq_true c
   rw [if_pos c,c'K] at hN
   rw [w'G]
   exact⟨by rw [show (Str.ofString "width ").length=6 from by decide +kernel];omega,by rw [List.length_append];omega,hN _ rfl⟩
  ·rename_i c
   rw [if_neg (λz=>c (decide_eq_true z)),List.append_nil] at hN
   exact hN _ rfl
 rintro ρ rfl
 walk_at "q"
 have k3:(if a=Str.ofString "middle" then [(joinU "width" n,Rat.divInt 1 2)] else []).length<=1:=by split<;>simp
 generalize (if a=Str.ofString "middle" then [(joinU "width" n,Rat.divInt 1 2)] else [])=u3 at q k3
 refine c'g (λρ=>ρ=[.str a,.str n,dicS .f BEG,dicS .f SIZ,.lst .o ((u1++u2++u3++(if a="centre" then [(joinU "height" n,Rat.divInt 1 2)] else [])).map Enc.t)]) (λN hN=>?_) ?_
 ·walk_at "p"
  split
  ·rename_i c
   have c:=of_decide_eq_true c
   rw [if_pos c,c'K] at hN
   rw [w'H]
   exact⟨by rw [show (Str.ofString "height ").length=7 from by decide +kernel];omega,by rw [List.length_append,List.length_append];omega,hN _ rfl⟩
  ·rename_i c
   rw [if_neg (λz=>c (decide_eq_true z)),List.append_nil] at hN
   exact hN _ rfl
 rintro ρ rfl
 walk_at "p"
 first | exact q _ | exact⟨a'J _,q _⟩
def wby (p:Int×Int):Rat:=Rat.divInt p.1 p.2
def ttl:List (Int×Int)->Rat
 | [] => 0
 | p :: r => wby p + ttl r
theorem f'x:∀ (a b:List (Int×Int)),ttl (a++b)=ttl a+ttl b
 | [], b => by rw [List.nil_append]; show _ = 0 + _; rw [Rat.zero_add]
 | p :: a, b => by show wby p + ttl (a ++ b) = wby p + ttl a + ttl b; rw [f'x a b, Rat.add_assoc]
def gat (m:List (Str×List (Int×Int))) (u:Str):Rat:=ttl ((gtd m u).getD [])
/-- what is gathered: lists by g, numbers by b -/
structure PIf (m:List (Str×List (Int×Int))) (g:Str->Nat) (l b:Nat):Prop where
 nd:(m.map (·.1)).Nodup
 p:∀ u l,gtd m u=some l->l.length<=g u/\∀ x∈l,0<x.2/\bi x.1<=b/\bi x.2<=b
 l:m.length<=l
def itm (m:List (Str×List (Int×Int))) (u:Str) (p:Int×Int):List (Str×List (Int×Int)):=ptd m u ((gtd m u).getD []++[p])
theorem PIf.put {m:List (Str×List (Int×Int))} {g:Str->Nat} {l b:Nat} (h:PIf m g l b) {u:Str} {p:Int×Int} (hp:0<p.2/\bi p.1<=b/\bi p.2<=b):PIf (itm m u p) (λv=>if v=u then g u+1 else g v) (l+1) b:=by
 refine⟨u'n h.nd _ _,λv k e=>?_,Nat.le_trans (f'n _ _ _) (Nat.succ_le_succ h.l)⟩
 unfold itm at e
 rw [e'X] at e
 by_cases ev:v=u
 ·rw [if_pos ev] at e
  rw [if_pos ev]
  cases e
  cases eg:gtd m u with
  | none=>exact⟨by show 1<=_;omega,λx m=>by rw [List.mem_singleton.mp m];exact hp⟩
  | some k=>
   have hk:=h.p u k eg
   refine⟨by show (k++[p]).length<=_;rw [List.length_append,List.length_singleton];omega,λx m=>?_⟩
   rcases List.mem_append.mp m with m | m
   ·exact hk.2 x m
   ·rw [List.mem_singleton.mp m];exact hp
 ·rw [if_neg ev] at e
  rw [if_neg ev]
  exact h.p v k e
theorem PIf.mono {m:List (Str×List (Int×Int))} {g g':Str->Nat} {l l' b:Nat} (h:PIf m g l b) (hg:∀ u,g u<=g' u) (hl:l<=l'):PIf m g' l' b:=⟨h.nd,λu k e=>⟨Nat.le_trans (h.p u k e).1 (hg u),(h.p u k e).2⟩,Nat.le_trans h.l hl⟩
theorem k'c (m:List (Str×List (Int×Int))) (u v:Str) (p:Int×Int):gat (itm m u p) v=if v=u then gat m u+wby p else gat m v:=by
 unfold gat itm
 rw [e'X]
 by_cases e:v=u
 ·rw [if_pos e,if_pos e]
  show ttl (_++[p])=_
  rw [f'x]
  show _+(wby p+0)=_
  rw [Rat.add_zero]
 ·rw [if_neg e,if_neg e]
def full (t:Tm) (u:Str):Rat:=if u=Str.ofString "" then rst t else cof t u
theorem r'q {m:List (Str×List (Int×Int))} {f:Fl} {u:Str} {p:Int×Int} {A B:Prop} {R:Tr->Prop} (a:A) (b:B) (hl:∀ l,gtd m u=some l->l.length<1000) (hm:m.length<1000000) (q:R (.dic .o (putT (m.map λp=>((Sum.inr p.1:Key),Enc.t p.2)) (Sum.inr u) (Enc.t ((gtd m u).getD []++[p]))))) :
  wGet2 (dicS f m) (.str u) (.lst .o []) λx=>A/\B/\wAdd x (.lst .o [Enc.t p]) λt=>nlt t=true/\m.length<1000000/\R (.dic .o (putT (m.map λp=>((Sum.inr p.1:Key),Enc.t p.2)) (Sum.inr u) (Pu.frz t))):=by
 show (λx=>A/\B/\wAdd x (.lst .o [Enc.t p]) λt=>nlt t=true/\m.length<1000000/\R (.dic .o (putT (m.map λp=>((Sum.inr p.1:Key),Enc.t p.2)) (Sum.inr u) (Pu.frz t)))) ((look (m.map λp=>((Sum.inr p.1:Key),Enc.t p.2)) (Sum.inr u)).getD (.lst .o []))
 rw [d'a]
 have fin:∀ l:List (Int×Int),Pu.frz (.lst .o (l.map Enc.t++[Enc.t p]))=Enc.t (l++[p]):=λl=>by
  rw [<- c'K,d'B,h'h];rfl
 have nl:∀ l:List (Int×Int),nlt (.lst .o (l.map Enc.t++[Enc.t p]))=true:=λl=>by
  rw [<- c'K,c'p];exact e'c _
 cases e:gtd m u with
 | none =>
  rw [e] at q
  exact⟨a,b,(by show 0+1<=1000000;decide),nl [],hm,by rw [show Tr.lst .o ([]++[Enc.t p])=Tr.lst .o (([]:List (Int×Int)).map Enc.t++[Enc.t p]) from rfl,fin];exact q⟩
 | some l =>
  rw [e] at q
  have:=hl l e
  exact⟨a,b,by rw [List.length_map];show l.length+1<=_;omega,nl l,hm,by rw [fin];exact q⟩
theorem f'y (x y:Int) (hy:0<y) (v:Rat):wby (x*v.num,y*(v.den:Int))=Rat.divInt x y*v:=by
 conv=>rhs;rw [<- Rat.num_divInt_den v]
 rw [Rat.divInt_mul_divInt]
 rfl
theorem e'T (m:List (Str×List (Int×Int))):dn (dicS .o m)=dicS .o m:=by
 have h:Tr.dic .f (dnk (m.map λp=>((Sum.inr p.1:Key),Enc.t p.2)))=Tr.dic .f (m.map λp=>((Sum.inr p.1:Key),Enc.t p.2)):=s_d (f:=.f) (m:=m)
 injection h with _ h
 show Tr.dic .o (dnk (m.map λp=>((Sum.inr p.1:Key),Enc.t p.2)))=_
 rw [h]
 rfl
theorem e'U {α:Type} [Enc α] (xs:List α):dn (.lst .o (xs.map Enc.t))=.lst .o (xs.map Enc.t):=by
 show Tr.lst .o (dns _)=_
 rw [p'j]
/-- the shares of an unknown in a list -/
def su:List (Str×Rat)->Str->Rat
 | [], _ => 0
 | p :: r, u => (if p.1 = u then p.2 else 0) + su r u
theorem k'd:∀ (l:List (Str×Rat)) (x:Str) (q:Rat) (u:Str),su (l++[(x,q)]) u=su l u+(if x=u then q else 0)
 | [], x, q, u => by show (if x = u then q else 0) + 0 = 0 + _; rw [Rat.add_zero, Rat.zero_add]
 | p :: l, x, q, u => by show _ + su (l ++ [(x, q)]) u = _ + su l u + _; rw [k'd l x q u, Rat.add_assoc]
theorem k'e:∀ {l:List (Str×Rat)} {u:Str},(∀ p∈l,p.1≠u)->su l u=0
 | [], _, _ => rfl
 | p :: l, u, h => by
  show (if p.1=u then p.2 else 0)+su l u=0
  rw [if_neg (h p (.head _)),k'e λq m=>h q (.tail _ m),Rat.add_zero]
theorem n'V:∀ {l:List (Str×Rat)} (u:Str),Nd l->su l u=(gtd l u).getD 0
 | [], _, _ => rfl
 | p :: l, u, nd => by
  have nd':p.1 ∉ l.map (·.1)/\(l.map (·.1)).Nodup:=List.nodup_cons.mp nd
  show (if p.1=u then p.2 else 0)+su l u=_
  by_cases e:p.1=u
  ·rw [if_pos e,a'K e,k'e λq m z=>nd'.1 (List.mem_map.mpr ⟨q,m,z.trans e.symm⟩),Rat.add_zero];rfl
  ·rw [if_neg e,a'L e,Rat.zero_add,n'V u nd'.2]
def ct (l:List (Str×Rat)) (u:Str):Nat:=l.countP λp=>decide (p.1=u)
theorem w'I {l:List (Str×Rat)} (nd:Nd l) (u:Str):ct l u<=1:=by
 induction l with
 | nil => exact Nat.zero_le _
 | cons p l ih =>
  have nd':p.1 ∉ l.map (·.1)/\(l.map (·.1)).Nodup:=List.nodup_cons.mp nd
  unfold ct
  rw [List.countP_cons]
  by_cases e:p.1=u
  ·have z:l.countP (λp=>decide (p.1=u))=0:=by
    rw [List.countP_eq_zero]
    intro q m h
    exact nd'.1 (List.mem_map.mpr ⟨q,m,(of_decide_eq_true h).trans e.symm⟩)
   rw [z];split<;>omega
  ·rw [if_neg (by simpa using e)]
   exact ih nd'.2
theorem h'Z (a n:Str):joinU a n≠Str.ofString "":=λz=>by
 have:=congrArg Str.length z
 unfold joinU at this
 rw [b'i,b'i,show (Str.ofString "").length=0 from rfl,show (Str.length (" ":Str))=1 from rfl] at this
 omega
theorem t'r (l:List (Str×Rat)) (x:Str) (q:Rat) (v:Str):ct (l++[(x,q)]) v=ct l v+(if x=v then 1 else 0):=by
 unfold ct
 rw [List.countP_append,List.countP_singleton]
 by_cases e:x=v
 ·simp [e]
 ·simp [e]
theorem v'S (l:List (Str×Rat)) (v:Str):ct l v<=l.length:=List.countP_le_length
theorem c'w (m:List (Str×List (Int×Int))):nol (dicS .o m)=true:=s_o (m:=m)
theorem k'X (v:Rat) (t:Tm) (u:Str):full (.times v t) u=full t u*v:=by unfold full;split<;>rfl
theorem n'W (a b:Tm) (u:Str):full (.plus a b) u=full a u+full b u:=by unfold full;split<;>rfl
theorem k'Y (a b:Tm) (u:Str):full (.minus a b) u=full a u+full b u*(-1):=by unfold full;split<;>rfl
theorem t's (x y:Int):Rat.divInt ((-1)*x) y=Rat.divInt x y*(-1):=by
 rw [show (-1:Int)*x=-x by omega,<- Rat.neg_divInt,Rat.mul_neg,Rat.mul_one]
def g_walk (n:Nat):PSp:=λxs Q=>xs.length=4/\∃ (t:Tm) (x y:Int) (m:List (Str×List (Int×Int))) (ws:List Str) (k b:Nat),xs=[Enc.t t,.tup [.int x,.int y],dicS .o m,.lst .o (ws.map Enc.t)]/\t.dep<n/\t.ok/\0<y/\PIf m (λ_=>k) (2*k) b/\bi x+wei t<=b/\bi y+wei t<=b/\b<=2000/\ws.length+cnt t<=100/\k+cnt t<=100/\
 ∀ (m':List (Str×List (Int×Int))) (ρ:List Tr),PIf m' (λ_=>k+cnt t) (2*(k+cnt t)) b->(∀ u,gat m' u=gat m u+Rat.divInt x y*full t u)->ρ[2]?=some (dicS .o m')->ρ[3]?=some (.lst .o ((ws++(edg t).map (·.1)).map Enc.t))->Q .non ρ
theorem d'T (T:Tx w K mg):∀ n,FnOk P w K mg base CX0 (n+3) T.a_law_walk T.d_law_walk ["_law_tree_here","_law_by","_law_parts","_law_words"] (spP K true 4 4 (g_walk n))
 | 0 => by
  refine a'n T.F_law_walk sc_law_walk rfl (by decide) λcdv A outer s H E hr=>⟨_,h'Y,?_⟩
  rintro xs Q' _ ⟨_,t,x,y,m,ws,k,b,rfl,hd,_⟩
  exact absurd hd (Nat.not_lt_zero _)
 | n + 1 => by
  have ih:=d'T T n
  refine a'n T.F_law_walk sc_law_walk rfl (by decide) λcdv A outer s H E hr=>?_
  have hu:=a'l hr
  refine⟨_,(a'd (a'v (a'j (b'm hr.units) a'y (a'h hu (qv 0) a'b (λ_ _=>rfl)) a'g (by with_unfolding_all rfl)) (a'd (c'F hu (a'r 2) a'g (a'A (h'g hu (qv 2) a'g (a'x a'c) ⟨rfl,rfl,rfl,rfl⟩) (a'x (a'a (a'z (a'a (a'F (a'h hu (qv 1) a'b (λ_ _=>rfl)) (a'h hu (a'h hu (qv 0) a'b (λ_ _=>rfl)) a'b (λ_ _=>rfl))) (a'a (a'F (a'h hu (qv 1) a'b (λ_ _=>rfl)) (a'h hu (a'h hu (qv 0) a'b (λ_ _=>rfl)) a'b (λ_ _=>rfl))) a'c))) a'c))))) (a'd (a'v (a'j (b'm hr.units) a'y (a'h hu (qv 0) a'b (λ_ _=>rfl)) a'g (by with_unfolding_all rfl)) (a'e (b'v (a'r 3) (a'h hu (qv 0) a'b (λ_ _=>rfl)))
 (a'd (d'w PassesOwn.never rfl (e'b (a'i ((e'S T).mono (by first | decide | omega)) (by first | exact id | exact λ_=>rfl) (λ_ _ h=>h.1) hr rfl T.m_law_unknowns T.F_law_unknowns.kp T.b_law_unknowns (QA.frz (a'a (a'h hu (qv 0) a'b (λ_ _=>rfl)) (a'a (a'h hu (qv 0) a'b (λ_ _=>rfl)) a'c))))) (e'a (n:=2) rfl (a't (a'W (i:=4) sc_law_walk.nd (by decide) rfl (Or.inl rfl)) (a't (a'W (i:=5) sc_law_walk.nd (by decide) rfl (Or.inl rfl)) b'C))) (a'd (c'F hu (a'r 2) (qv 4) (a'A (h'g hu (qv 2) (qv 4) (a'x a'c) ⟨rfl,rfl,rfl,rfl⟩) (a'x (a'a (a'z (a'a (a'F (a'h hu (qv 1) a'b (λ_ _=>rfl)) (a'h hu (qv 5) a'b (λ_ _=>rfl))) (a'a (a'F (a'h hu (qv 1) a'b (λ_ _=>rfl)) (a'h hu (qv 5) a'b (λ_ _=>rfl))) a'c))) a'c)))))))) (a'd (a'v (a'j (b'm hr.units) a'y (a'h hu (qv 0) a'b (λ_ _=>rfl)) a'g (by with_unfolding_all rfl)) (a'd (d'G (d'F ((ih).mono (by first | decide | omega)) (by first | exact id | exact λ_=>rfl) (λ_ _ h=>h.1) hr rfl T.m_law_walk T.F_law_walk.kp T.b_law_walk (c'I (a'h hu (qv 0) a'b (λ_ _=>rfl)) (c'I (a'z (a'a (a'F (a'h hu (qv 1) a'b (λ_ _=>rfl)) (a'h hu (a'h hu (qv 0) a'b (λ_ _=>rfl)) a'b (λ_ _=>rfl))) (a'a (a'F (a'h hu (qv 1) a'b (λ_ _=>rfl)) (a'h hu (a'h hu (qv 0) a'b (λ_ _=>rfl)) a'b (λ_ _=>rfl))) a'c))) (b'y 2 (b'y 3 d'e))))))) (a'e (d'G (d'F ((ih).mono (by first | decide | omega)) (by first | exact id | exact λ_=>rfl) (λ_ _ h=>h.1) hr rfl T.m_law_walk T.F_law_walk.kp T.b_law_walk (c'I (a'h hu (qv 0) a'b (λ_ _=>rfl)) (c'I (qv 1) (b'y 2 (b'y 3 d'e))))))
 (a'e (a'p (i:=6) sc_law_walk.nd (by decide) rfl (Or.inl rfl) (a'h hu (a'x (a'a a'b (a'a (p'O a'b) a'c))) (p'V l'M p'c rfl T.z_int rfl (a'a (p'P (b'm hr.units) a'y (a'h hu (qv 0) a'b (λ_ _=>rfl)) a'g (by with_unfolding_all rfl)) a'c)) (λ_ _=>rfl)))
 (a'd (d'G (d'F ((ih).mono (by first | decide | omega)) (by first | exact id | exact λ_=>rfl) (λ_ _ h=>h.1) hr rfl T.m_law_walk T.F_law_walk.kp T.b_law_walk (c'I (a'h hu (qv 0) a'b (λ_ _=>rfl)) (c'I (a'z (a'a (a'F (qv 6) (a'h hu (qv 1) a'b (λ_ _=>rfl))) (a'a (a'h hu (qv 1) a'b (λ_ _=>rfl)) a'c))) (b'y 2 (b'y 3 d'e))))))))))))))),?_⟩
  rintro xs Q' _ ⟨_,t,x,y,m,ws,k,b,rfl,hd,ho,hy,hp,b1,b2,b3,l1,l2,q⟩
  have ll:∀ u l,gtd m u=some l->l.length<1000:=λu l e=>by have:=(hp.p u l e).1;omega
  have ml:=hp.l
  cases t with
  | num v=>
   have b1:bi x+(bs v+1)<=b:=b1
   have b2:bi y+(bs v+1)<=b:=b2
   have l2:k+1<=100:=l2
   have n1:=b'F v
   have n2:=a'Z v
   rw [show (Enc.t (Tm.num v):Tr)=.tup [.str "number",Enc.t v] from rfl]
   walk_at "p"
   refine r'q (p:=(x*v.num,y*(v.den:Int))) (R:=λd=>Q' .non [.tup [.str "number",Enc.t v],.tup [.int x,.int y],d,.lst .o (ws.map Enc.t),.hole,.hole,.hole]) (a'O (n:=b) (m:=b) (by omega) (by omega) (by omega)) (a'O (n:=b) (m:=b) (by omega) (by omega) (by omega)) (ll _) (by omega) ?_
   rw [g'u]
   have hn:=hp.put (u:=Str.ofString "") (p:=(x*v.num,y*(v.den:Int))) ⟨Int.mul_pos hy (by have:=v.den_nz;omega),Nat.le_trans (b'n x v.num) (by omega),Nat.le_trans (b'n y v.den) (by omega)⟩
   refine q (itm m (Str.ofString "") (x*v.num,y*(v.den:Int))) _ (hn.mono (λu=>by split<;>(show _<=k+1;omega)) (by show _<=2*(k+1);omega)) (λu=>?_) rfl (by show some (Tr.lst .o (ws.map Enc.t))=some (Tr.lst .o ((ws++[]).map Enc.t));rw [List.append_nil])
   rw [k'c]
   unfold full
   by_cases e:u=Str.ofString ""
   ·rw [if_pos e,if_pos e,e,f'y x y hy v];rfl
   ·rw [if_neg e,if_neg e]
    show gat m u=gat m u+Rat.divInt x y*0
    rw [Rat.mul_zero,Rat.add_zero]
  | edge a n=>
   rw [show (Enc.t (Tm.edge a n):Tr)=.tup [.str "edge",.str a,.str n] from rfl]
   walk_at "p"
   rw [if_neg (by decide +kernel)]
   have l1:ws.length+1<=100:=l1
   have l2:k+1<=100:=l2
   have b1:bi x+4<=b:=b1
   have b2:bi y+4<=b:=b2
   refine⟨by omega,rfl,a,n,rfl,ho.1,ho.2,λρ=>?_⟩
   have tb:=e'N _ (d'i ho.1).1
   have ndL:=h'X (n:=n) ho.1
   have lenL:(unkL n (shr a)).length<=2:=by
    unfold unkL
    rw [List.length_map]
    exact Nat.le_trans (List.length_filter_le _ _) tb.2.1
   have memL:∀ p∈unkL n (shr a),bs p.2<=4/\p.1≠Str.ofString "":=λp mp=>by
    obtain⟨yy,my,ey⟩:=c'J mp
    exact⟨(tb.2.2 _ my).1,by rw [ey];exact h'Z _ _⟩
   have c1:cof (.edge a n)=λu=>(gtd (unkL n (shr a)) u).getD 0:=rfl
   generalize unkL n (shr a)=L at ndL lenL memL c1
   simp only [d'B,h'h]
   show nlt (Enc.t L:Tr)=true/\_
   refine⟨e_t _,Loop.map L Enc.t (λi ρ=>∃ (m':List (Str×List (Int×Int))) (p r:Tr),ρ=[.tup [.str "edge",.str a,.str n],.tup [.int x,.int y],dicS .o m',.lst .o ((ws++[a]).map Enc.t),p,r,.hole]/\PIf m' (λv=>k+ct (L.take i) v) (2*k+i) b/\∀ u,gat m' u=gat m u+Rat.divInt x y*su (L.take i) u) ⟨m,.hole,.hole,rfl,hp.mono (λv=>Nat.le_add_right _ _) (Nat.le_refl _),λu=>by show _=_+_*0;rw [Rat.mul_zero,Rat.add_zero]⟩ ?_ ?_⟩
   ·rintro i ⟨uu,s⟩ ρ hx ⟨m',p,r,rfl,hp',hg⟩
    have il:=(List.getElem?_eq_some_iff.mp hx).1
    have hs:=memL _ (List.mem_of_getElem? hx)
    have hs1:bs s<=4:=hs.1
    have n1:=b'F s
    have n2:=a'Z s
    have ml':=hp'.l
    rw [show (Enc.t (uu,s):Tr)=.tup [.str uu,Enc.t s] from rfl]
    walk_at "p"
    refine r'q (p:=(x*s.num,y*(s.den:Int))) (R:=λd=>∃ (m'':List (Str×List (Int×Int))) (p r:Tr),[Tr.tup [.str "edge",.str a,.str n],.tup [.int x,.int y],d,.lst .o ((ws++[a]).map Enc.t),.str uu,Enc.t s,.hole]=[.tup [.str "edge",.str a,.str n],.tup [.int x,.int y],dicS .o m'',.lst .o ((ws++[a]).map Enc.t),p,r,.hole]/\PIf m'' (λv=>k+ct (L.take (i+1)) v) (2*k+(i+1)) b/\∀ u,gat m'' u=gat m u+Rat.divInt x y*su (L.take (i+1)) u) (a'O (n:=b) (m:=b) (by omega) (by omega) (by omega)) (a'O (n:=b) (m:=b) (by omega) (by omega) (by omega)) (λl e=>Nat.lt_of_le_of_lt (hp'.p uu l e).1 (by have:=v'S (L.take i) uu;rw [List.length_take] at this;omega)) (by omega) ?_
    rw [g'u]
    refine⟨itm m' uu (x*s.num,y*(s.den:Int)),_,_,rfl,(hp'.put (u:=uu) (p:=(x*s.num,y*(s.den:Int))) ⟨Int.mul_pos hy (by have:=s.den_nz;omega),Nat.le_trans (b'n x s.num) (by omega),Nat.le_trans (b'n y s.den) (by omega)⟩).mono (λv=>?_) (by omega),λu=>?_⟩
    ·rw [c'u hx,t'r]
     by_cases e:v=uu
     ·rw [if_pos e,if_pos e.symm,e];omega
     ·rw [if_neg e,if_neg (λz=>e z.symm)];omega
    ·rw [k'c,c'u hx,k'd]
     by_cases e:u=uu
     ·rw [if_pos e,if_pos e.symm,e,hg,f'y x y hy s,Rat.mul_add,Rat.add_assoc]
     ·rw [if_neg e,if_neg (λz=>e z.symm),hg,Rat.add_zero]
   ·rintro ρ ⟨m',p,r,rfl,hp',hg⟩
    rw [List.take_length] at hp' hg
    refine q m' _ (hp'.mono (λv=>by have:=w'I ndL v;show _<=k+1;omega) (by show _<=2*(k+1);omega)) (λu=>?_) rfl rfl
    rw [hg,n'V u ndL]
    unfold full
    by_cases e:u=Str.ofString ""
    ·rw [if_pos e,e]
     show _+_*_=_+_*0
     cases eg:gtd L (Str.ofString "") with
     | none=>rfl
     | some z=>exact absurd rfl (memL _ (b'z eg)).2
    ·rw [if_neg e,c1]
  | times v t=>
   have b1:bi x+(wei t+bs v)<=b:=b1
   have b2:bi y+(wei t+bs v)<=b:=b2
   have n1:=b'F v
   have n2:=a'Z v
   have m1:=b'n x v.num
   have m2:=b'n y v.den
   rw [show (Enc.t (Tm.times v t):Tr)=.tup [.str "times",Enc.t v,Enc.t t] from rfl]
   walk_at "p"
   rw [if_neg (by decide +kernel),if_neg (by decide +kernel),e'T,e'U]
   refine⟨a'O (n:=b) (m:=b) (by omega) (by omega) (by omega),a'O (n:=b) (m:=b) (by omega) (by omega) (by omega),rfl,t,_,_,m,ws,k,b,rfl,Nat.lt_of_succ_lt_succ hd,ho,Int.mul_pos hy (by have:=v.den_nz;omega),hp,by omega,by omega,b3,l1,l2,λm' ρ p1 p2 p3 p4=>?_⟩
   dsimp only
   rw [p3,p4]
   refine⟨c'w m',a'J _,q m' _ p1 (λu=>?_) rfl rfl⟩
   rw [p2,k'X,show Rat.divInt (x*v.num) (y*(v.den:Int))=Rat.divInt x y*v from f'y x y hy v,Rat.mul_assoc,Rat.mul_comm v]
  | plus a c=>
   have b1:bi x+(wei a+wei c+5)<=b:=b1
   have b2:bi y+(wei a+wei c+5)<=b:=b2
   have l1:ws.length+(cnt a+cnt c)<=100:=l1
   have l2:k+(cnt a+cnt c)<=100:=l2
   have hd:max a.dep c.dep+1<n+1:=hd
   have ea:=b'h a
   have m1:=b'n (1) x
   have m0:bi (1)<=1:=by decide +kernel
   rw [show (Enc.t (Tm.plus a c):Tr)=.tup [.str "plus",Enc.t a,Enc.t c] from rfl]
   walk_at "p"
   rw [if_neg (by decide +kernel),if_neg (by decide +kernel),if_neg (by decide +kernel),e'T,e'U]
   refine⟨rfl,a,x,y,m,ws,k,b,rfl,by omega,ho.1,hy,hp,by omega,by omega,b3,by omega,by omega,λm' ρ p1 p2 p3 p4=>?_⟩
   dsimp only
   rw [p3,p4]
   refine⟨c'w m',a'J _,?_⟩
   rw [if_neg (by decide +kernel),at0]
   walk_at "p"
   rw [e'T,e'U]
   refine⟨cml (by decide),rfl,c,1*x,y,m',_,k+cnt a,b,rfl,by omega,ho.2,hy,p1,by omega,by omega,b3,by rw [List.length_append,List.length_map];omega,by omega,λm2 ρ r1 r2 r3 r4=>?_⟩
   dsimp only
   rw [r3,r4]
   refine⟨c'w m2,a'J _,q m2 _ (r1.mono (λu=>by show _<=k+(cnt a+cnt c);omega) (by show _<=2*(k+(cnt a+cnt c));omega)) (λu=>?_) rfl (by show some (Tr.lst .o ((ws++(edg a).map (·.1)++(edg c).map (·.1)).map Enc.t))=some (Tr.lst .o ((ws++(edg a++edg c).map (·.1)).map Enc.t));rw [List.map_append (l₁:=edg a),List.append_assoc])⟩
   rw [r2,p2,n'W,Int.one_mul,Rat.mul_add,Rat.add_assoc]
  | minus a c=>
   have b1:bi x+(wei a+wei c+5)<=b:=b1
   have b2:bi y+(wei a+wei c+5)<=b:=b2
   have l1:ws.length+(cnt a+cnt c)<=100:=l1
   have l2:k+(cnt a+cnt c)<=100:=l2
   have hd:max a.dep c.dep+1<n+1:=hd
   have ea:=b'h a
   have m1:=b'n ((-1)) x
   have m0:bi ((-1))<=1:=by decide +kernel
   rw [show (Enc.t (Tm.minus a c):Tr)=.tup [.str "minus",Enc.t a,Enc.t c] from rfl]
   walk_at "p"
   rw [if_neg (by decide +kernel),if_neg (by decide +kernel),if_neg (by decide +kernel),e'T,e'U]
   refine⟨rfl,a,x,y,m,ws,k,b,rfl,by omega,ho.1,hy,hp,by omega,by omega,b3,by omega,by omega,λm' ρ p1 p2 p3 p4=>?_⟩
   dsimp only
   rw [p3,p4]
   refine⟨c'w m',a'J _,?_⟩
   walk_at "p"
   rw [e'T,e'U]
   refine⟨cml (by decide),rfl,c,(-1)*x,y,m',_,k+cnt a,b,rfl,by omega,ho.2,hy,p1,by omega,by omega,b3,by rw [List.length_append,List.length_map];omega,by omega,λm2 ρ r1 r2 r3 r4=>?_⟩
   dsimp only
   rw [r3,r4]
   refine⟨c'w m2,a'J _,q m2 _ (r1.mono (λu=>by show _<=k+(cnt a+cnt c);omega) (by show _<=2*(k+(cnt a+cnt c));omega)) (λu=>?_) rfl (by show some (Tr.lst .o ((ws++(edg a).map (·.1)++(edg c).map (·.1)).map Enc.t))=some (Tr.lst .o ((ws++(edg a++edg c).map (·.1)).map Enc.t));rw [List.map_append (l₁:=edg a),List.append_assoc])⟩
   rw [r2,p2,k'Y,t's x y,Rat.mul_assoc,Rat.mul_comm (-1:Rat),Rat.mul_add,Rat.add_assoc]
def g_one (T:Tx w K mg):PSp:=spec 1 λxs Q=>∃ t:Tm,xs=[tmT T t]/\Q (.bl true)
theorem e'l (T:Tx w K mg) {z:Bool}:FnOk P w K mg base CX0 1 T.a_law_one_class T.d_law_one_class ["_law_term_here"] (spP K z 0 1 (g_one T)):=by
 refine a'n T.F_law_one_class sc_law_one_class rfl (by decide) λcdv A outer s H E hr=>?_
 have hu:=a'l hr
 refine⟨_,(a'e (b'f (i:=1) sc_law_one_class.nd (by decide) rfl (Or.inl rfl) (a'x (a'a (d'H K rfl rfl T.z_isinstance rfl (a'a (qv 0) (a'a (f'g rfl T.m_Number) a'c))) (a'a (d'H K rfl rfl T.z_isinstance rfl (a'a (qv 0) (a'a (f'g rfl T.m_Edge) a'c))) (a'a (d'H K rfl rfl T.z_isinstance rfl (a'a (qv 0) (a'a (f'g rfl T.m_Times) a'c))) (a'a (d'H K rfl rfl T.z_isinstance rfl (a'a (qv 0) (a'a (f'g rfl T.m_Plus) a'c))) a'c))))))
  (a'e (b'v (a'r 1) (d'H K rfl rfl T.z_isinstance rfl (a'a (qv 0) (a'a (f'g rfl T.m_Minus) a'c))))
  (d'b 1 (a'd (a'k (p'R (d'H K rfl rfl T.z_isinstance rfl (a'a (qv 0) (a'a (f'g rfl T.m_Term) a'c))) (p'Q (p'P (b'm hr.units) a'y (b'p b'L b'g rfl T.z_len rfl (a'a (m'j (N:=["_law_one"]) (ix:=[none]) rfl (e'b (qv 1)) (p'f (i:=0) (by decide) rfl) (λ_ _ _ _ _=>(i'H (b'J (qv 0)))) (λ_ _ _ _ _=>(qv 0)) True.intro) a'c)) a'b (by with_unfolding_all rfl))))))))),?_⟩
 rintro xs Q' _ ⟨_,t,rfl,q⟩
 cases t with
 | num b =>
  rw [show tmT T (.num b)=.ins .f T.c_Number [("number",Enc.t b)] from rfl]
  walk_at "p"
  refine⟨true,T.ik_Number,T.kc_Number_Number,false,T.ik_Number,T.kc_Number_Edge,false,T.ik_Number,T.kc_Number_Times,false,T.ik_Number,T.kc_Number_Plus,false,T.ik_Number,T.kc_Number_Minus,by decide,true,T.ik_Number,T.kc_Number_Term,?_⟩
  rw [if_pos rfl]
  refine CLoop.filter [true,false,false,false,false] Enc.t (λb=>b) (λb=>b) (by decide) (λb hb A R hR hA=>?_) ?_
  ·rw [show (Enc.t b:Tr)=.bl b from rfl]
   walk_at "p"
   cases b with
   | true=>exact hR rfl
   | false=>exact hA rfl
  ·walk_at "p"
   first | exact q _ | exact⟨rfl,q _⟩
 | edge a n =>
  rw [show tmT T (.edge a n)=.ins .f T.c_Edge [("word",.str a),("name",.str n)] from rfl]
  walk_at "p"
  refine⟨false,T.ik_Edge,T.kc_Edge_Number,true,T.ik_Edge,T.kc_Edge_Edge,false,T.ik_Edge,T.kc_Edge_Times,false,T.ik_Edge,T.kc_Edge_Plus,false,T.ik_Edge,T.kc_Edge_Minus,by decide,true,T.ik_Edge,T.kc_Edge_Term,?_⟩
  rw [if_pos rfl]
  refine CLoop.filter [false,true,false,false,false] Enc.t (λb=>b) (λb=>b) (by decide) (λb hb A R hR hA=>?_) ?_
  ·rw [show (Enc.t b:Tr)=.bl b from rfl]
   walk_at "p"
   cases b with
   | true=>exact hR rfl
   | false=>exact hA rfl
  ·walk_at "p"
   first | exact q _ | exact⟨rfl,q _⟩
 | times b t =>
  rw [show tmT T (.times b t)=.ins .f T.c_Times [("number",Enc.t b),("inner",tmT T t)] from rfl]
  walk_at "p"
  refine⟨false,T.ik_Times,T.kc_Times_Number,false,T.ik_Times,T.kc_Times_Edge,true,T.ik_Times,T.kc_Times_Times,false,T.ik_Times,T.kc_Times_Plus,false,T.ik_Times,T.kc_Times_Minus,by decide,true,T.ik_Times,T.kc_Times_Term,?_⟩
  rw [if_pos rfl]
  refine CLoop.filter [false,false,true,false,false] Enc.t (λb=>b) (λb=>b) (by decide) (λb hb A R hR hA=>?_) ?_
  ·rw [show (Enc.t b:Tr)=.bl b from rfl]
   walk_at "p"
   cases b with
   | true=>exact hR rfl
   | false=>exact hA rfl
  ·walk_at "p"
   first | exact q _ | exact⟨rfl,q _⟩
 | plus a b =>
  rw [show tmT T (.plus a b)=.ins .f T.c_Plus [("one",tmT T a),("other",tmT T b)] from rfl]
  walk_at "p"
  refine⟨false,T.ik_Plus,T.kc_Plus_Number,false,T.ik_Plus,T.kc_Plus_Edge,false,T.ik_Plus,T.kc_Plus_Times,true,T.ik_Plus,T.kc_Plus_Plus,false,T.ik_Plus,T.kc_Plus_Minus,by decide,true,T.ik_Plus,T.kc_Plus_Term,?_⟩
  rw [if_pos rfl]
  refine CLoop.filter [false,false,false,true,false] Enc.t (λb=>b) (λb=>b) (by decide) (λb hb A R hR hA=>?_) ?_
  ·rw [show (Enc.t b:Tr)=.bl b from rfl]
   walk_at "p"
   cases b with
   | true=>exact hR rfl
   | false=>exact hA rfl
  ·walk_at "p"
   first | exact q _ | exact⟨rfl,q _⟩
 | minus a b =>
  rw [show tmT T (.minus a b)=.ins .f T.c_Minus [("one",tmT T a),("other",tmT T b)] from rfl]
  walk_at "p"
  refine⟨false,T.ik_Minus,T.kc_Minus_Number,false,T.ik_Minus,T.kc_Minus_Edge,false,T.ik_Minus,T.kc_Minus_Times,false,T.ik_Minus,T.kc_Minus_Plus,true,T.ik_Minus,T.kc_Minus_Minus,by decide,true,T.ik_Minus,T.kc_Minus_Term,?_⟩
  rw [if_pos rfl]
  refine CLoop.filter [false,false,false,false,true] Enc.t (λb=>b) (λb=>b) (by decide) (λb hb A R hR hA=>?_) ?_
  ·rw [show (Enc.t b:Tr)=.bl b from rfl]
   walk_at "p"
   cases b with
   | true=>exact hR rfl
   | false=>exact hA rfl
  ·walk_at "p"
   first | exact q _ | exact⟨rfl,q _⟩
theorem n'X (T:Tx w K mg) {n:Nat} {t:Tm} (hd:t.dep<=n) (hl:(edg t).length<60) {Q:Tr->List Tr->Prop} (q:∀ ρ,Q (.lst .o ((wys t).map Enc.t)) ρ):wIns (DT T) "ways" (tmT T t) λ_=>g_ways T n [tmT T t] Q:=h'W T (by decide +kernel) (by decide +kernel) (by decide +kernel) (by decide +kernel) (by decide +kernel) (by decide +kernel) ⟨rfl,t,rfl,hd,hl,q⟩
theorem w'R {f:Fl} {m:List (Str×Rat)} (Q:Tr->Prop):wLV (dicS f m) Q=Q (.lst .o ((m.map (·.2)).map Enc.t)):=by
 show Q (.lst .o ((m.map λp=>((Sum.inr p.1:Key),Enc.t p.2)).map (·.2)))=_
 rw [List.map_map,List.map_map];rfl
theorem w'S {m:List (Str×Rat)} {xs:List Tr} (Q:Prop):wTD (.tup (dicS .o m :: xs)) Q=Q:=rfl
theorem v'T (a:Rat) {Q:Tr->Prop} (q:Q (.bl false)):wEq true (Enc.t a) (Enc.t a) Q:=by
 refine .inr ⟨true,?_,show (1:Nat)<=60 by decide,Nat.le_refl 1,q⟩
 show (if 2=2 then (some (decide (a.num=a.num))).bind λx=>((some (decide ((a.den:Int)=a.den))).bind λy=>(some true).bind λz=>some (y && z)).bind λy=>some (x && y) else none)=_
 rw [if_pos rfl,decide_eq_true rfl,decide_eq_true rfl];rfl
theorem f'Z:∀ xs:List Str,eqds (xs.map Enc.t) (xs.map Enc.t)=some true
 | [] => by simp [eqds]
 | x :: xs => by
  have:=f'Z xs
  rw [List.map_cons]
  simp [eqds,eqd,this,show (Enc.t x:Tr)=.str x from rfl]
theorem d'j:∀ xs:List Str,deps (xs.map Enc.t)=0
 | [] => rfl
 | x :: xs => by show max (dep (.str x)) (deps (xs.map Enc.t)) = 0; rw [d'j xs]; rfl
theorem t't (f g:Fl) (xs:List Str) {Q:Tr->Prop} (q:Q (.bl false)):wEq true (.lst f (xs.map Enc.t)) (.lst g (xs.map Enc.t)) Q:=
 .inr ⟨true,by simp [eqd,f'Z],by show deps (xs.map Enc.t)+1<=60;rw [d'j];decide,by show 1<=deps (xs.map Enc.t)+1;omega,q⟩
theorem t'u (m:List (Str×Rat)) (r:Rat):nlt (.tup [dicS .o m,Enc.t r])=true:=by
 show (nlt (dicS .o m) && (nlt (Enc.t r) && true))=true
 rw [show nlt (dicS .o m)=true from r'p m,e_t];rfl
theorem v'U {f g:Fl} {m m':List (Str×Rat)} {F:Str->Rat} {a b c d:Nat} (h:IsS m F a b) (h':IsS m' F c d) {Q:Tr->Prop} (q:Q (.bl false)):wEqD true (dicS f m) (dicS g m') Q:=by
 obtain⟨e1,e2⟩:=h.same h'
 refine⟨f,g,_,_,1,rfl,rfl,by decide,by rw [List.length_map,List.length_map];exact e1,λp mp=>?_,q⟩
 obtain⟨r,mr,rfl⟩:=List.mem_map.mp mp
 exact⟨Enc.t r.2,by rw [d'a,e2 r mr];rfl,v'm r.2,rfl⟩
def g_right (T:Tx w K mg):PSp:=spec 4 λxs Q=>∃ (t:Tm) (m:List (Str×Rat)),xs=[tmT T t,dicS .f m,Enc.t (rst t),.lst .f ((wys t).map Enc.t)]/\t.ok/\t.dep<=14/\wei t<=400/\cnt t<=15/\IsS m (cof t) 8000 1000/\Q (.bl true)
theorem b'V (T:Tx w K mg):FnOk P w K mg base CX0 24 T.a_law_right T.d_law_right ["_law_term_here","_law_due_here","_law_rest","_law_ways"] (spP K true 0 4 (g_right T)):=by
 refine a'n T.F_law_right sc_law_right rfl (by decide) λcdv A outer s H E hr=>?_
 have hu:=a'l hr
 refine⟨_,(a'e (b'f (i:=4) sc_law_right.nd (by decide) rfl (Or.inl rfl) (a'S ((λC g d=>MOkA.mono (p'G T 14 C g d) (by first | decide | omega))) (by first | exact id | exact λ_=>rfl) (λ_ _ _ h=>h.1) hr (qv 0)))
  (a'e (a'v (QW.t (b'K (d'u (b'J (d'x K rfl rfl T.z_isinstance rfl (a'a (qv 4) (a'a (d'D rfl T.z_tuple rfl) a'c))))) (b'K (a'j (c'f hr.units) b'a (b'p b'L b'g rfl T.z_len rfl (a'a (qv 4) a'c)) a'b (by with_unfolding_all rfl)) (b'S (d'u (b'J (d'x K rfl rfl T.z_isinstance rfl (a'a (a'h hu (qv 4) a'b (λ_ _=>rfl)) (a'a (d'D rfl T.z_dict rfl) a'c))))))))) (a'd (a'k f'd)) a'q)
  (a'e (d'w PassesOwn.never rfl (e'b (a'A (w'P rfl rfl T.z_list (a'h hu (qv 4) a'b (λ_ _=>rfl))) (a'x (a'a (a'h hu (qv 4) a'b (λ_ _=>rfl)) a'c)))) (a'W (i:=5) sc_law_right.nd (by decide) rfl (Or.inl rfl)) (a'd (a'v (QW.t (b'K (d'u (b'J (d'x K rfl rfl T.z_isinstance rfl (a'a (qv 5) (a'a (d'D rfl T.z_tuple rfl) a'c))))) (b'K (b'J (d'x K rfl rfl T.z_isinstance rfl (a'a (a'h hu (qv 5) a'b (λ_ _=>rfl)) (a'a (d'D rfl T.z_bool rfl) a'c)))) (b'S (b'J (d'x K rfl rfl T.z_isinstance rfl (a'a (a'h hu (qv 5) a'b (λ_ _=>rfl)) (a'a (d'D rfl T.z_bool rfl) a'c)))))))) (a'd (a'k f'd)) a'q)))
  (a'e (a'v (QW.t (b'K (a'j (u'b hr.units) t'f (a'h hu (qv 4) a'b (λ_ _=>rfl)) (qv 1) (by with_unfolding_all rfl)) (b'S (a'j (c'f hr.units) b'a (a'h hu (qv 4) a'b (λ_ _=>rfl)) (qv 2) (by with_unfolding_all rfl))))) (a'd (a'k f'd)) a'q)
  (a'e (v'A (i:=4) hu)
  (a'e (b'f (i:=6) sc_law_right.nd (by decide) rfl (Or.inl rfl) (a'S ((λC g d=>MOkA.mono (t'm T 14 C g d) (by first | decide | omega))) (by first | exact id | exact λ_=>rfl) (λ_ _ _ h=>h.1) hr (qv 0)))
  (a'e (a'v (QW.t (b'K (d'u (b'J (d'x K rfl rfl T.z_isinstance rfl (a'a (qv 6) (a'a (d'D rfl T.z_list rfl) a'c))))) (b'S (a'j (c'f hr.units) b'a (qv 6) (qv 3) (by with_unfolding_all rfl))))) (a'd (a'k f'd)) a'q)
  (a'e (b'v (a'r 6) a'g)
  (a'd (a'k f'd)))))))))),?_⟩
 rintro xs Q' _ ⟨_,t,m,rfl,ho,hd,hw,hc,hm,q⟩
 have ec:=b'h t
 walk_at "q"
 simp only [m_l,m_v,m_d]
 refine b'l T hd ho (by omega) (by omega) λm' h' hb' ρ=>?_
 refine⟨t'u m' _,?_⟩
 refine c'g (λρ=>ρ=[tmT T t,dicS .f m,Enc.t (rst t),.lst .f ((wys t).map Enc.t),.tup [dicS .o m',Enc.t (rst t)],.hole,.hole]) (λN hN=>?_) ?_
 ·walk_at "p"
  refine⟨true,rfl,?_⟩
  walk_at "p"
  refine⟨true,rfl,?_⟩
  walk_at "p"
  exact hN _ rfl
 rintro ρ rfl
 walk_at "q"
 simp only [w'R]
 walk_at "q"
 have l':=h'.l
 refine⟨by omega,Loop.map (m'.map (·.2)++[rst t]) Enc.t (λ_ ρ=>∃ x:Tr,ρ=[tmT T t,dicS .f m,Enc.t (rst t),.lst .f ((wys t).map Enc.t),.tup [dicS .o m',Enc.t (rst t)],x,.hole]) ⟨.hole,rfl⟩ ?_ ?_⟩
 ·rintro i y ρ hx ⟨x,rfl⟩
  rw [show (Enc.t y:Tr)=.tup [.int y.num,.int (y.den:Int)] from rfl]
  walk_at "p"
  refine⟨true,rfl,?_⟩
  walk_at "p"
  refine⟨false,rfl,?_⟩
  walk_at "p"
  refine⟨false,rfl,?_⟩
  try walk_at "p"
  exact⟨_,rfl⟩
 ·rintro ρ ⟨x,rfl⟩
  walk_at "q"
  refine c'g (λρ=>ρ=[tmT T t,dicS .f m,Enc.t (rst t),.lst .f ((wys t).map Enc.t),.tup [dicS .o m',Enc.t (rst t)],x,.hole]) (λN hN=>?_) ?_
  ·walk_at "p"
   refine v'U h' hm ?_
   walk_at "p"
   refine v'T _ ?_
   try walk_at "p"
   exact hN _ rfl
  rintro ρ rfl
  walk_at "q"
  simp only [w'S,m_l,m_v,m_d]
  try walk_at "q"
  refine n'X T hd (by omega) λρ=>?_
  have wl:(wys t).length<=15:=by
   unfold wys
   rw [s'b]
   exact Nat.le_trans (d'Y _) (by rw [List.length_map];omega)
  refine⟨by rw [c'p];exact e'c _,?_⟩
  refine c'g (λρ=>ρ=[tmT T t,dicS .f m,Enc.t (rst t),.lst .f ((wys t).map Enc.t),.hole,x,.lst .o ((wys t).map Enc.t)]) (λN hN=>?_) ?_
  ·walk_at "p"
   refine⟨true,rfl,?_⟩
   walk_at "p"
   refine t't _ _ _ ?_
   try walk_at "p"
   exact hN _ rfl
  rintro ρ rfl
  walk_at "p"
  exact⟨by omega,q _⟩
def g_due:PSp:=spec 1 λxs Q=>∃ t:Tm,xs=[Enc.t t]/\t.ok/\t.dep<15/\wei t<=400/\cnt t<=15/\∀ m:List (Str×Rat),IsS m (cof t) 8000 1000->Q (.tup [dicS .f m,Enc.t (rst t),.lst .f ((wys t).map Enc.t)])
theorem t'v (q:Rat) (p:Int×Int) (h:0<p.2):Rat.divInt (q.num*p.2+p.1*(q.den:Int)) ((q.den:Int)*p.2)=q+wby p:=by
 conv=>rhs;rw [<- Rat.num_divInt_den q]
 unfold wby
 rw [Rat.divInt_add_divInt _ _ (by have:=q.den_nz;omega) (by omega)]
theorem v'V {neg:Bool} {f:Fl} {x:Str} {ns:List Str} {Q:Tr->Prop} (q:Q (.bl (if neg=true then !decide (x∈ns) else decide (x∈ns)))):wIn neg (.str x) (.lst f (ns.map Tr.str)) Q:=⟨rfl,flat_strs ns,by rw [e'i];exact q⟩
theorem k'f {α:Type} [DecidableEq α]:∀ {a b:List α},a.Nodup->b.Nodup->(∀ x,x∈a↔x∈b)->a.Perm b
 | [], b, _, _, h => by
  cases b with
  | nil=>exact .refl _
  | cons y b=>exact absurd ((h y).mpr (.head _)) (λz=>nomatch z)
 | x :: a, b, na, nb, h => by
  have na':=List.nodup_cons.mp na
  have hx:x∈b:=(h x).mp (.head _)
  refine List.Perm.trans (List.Perm.cons x (k'f na'.2 (nb.erase x) λy=>?_)) (List.perm_cons_erase hx).symm
  rw [nb.mem_erase_iff]
  constructor
  ·intro my
   exact⟨λe=>na'.1 (by rw [<- e];exact my),(h y).mp (.tail _ my)⟩
  ·rintro⟨ne,my⟩
   rcases List.mem_cons.mp ((h y).mpr my) with e | m
   ·exact absurd e ne
   ·exact m
theorem e'V {α:Type} (p:α->Bool):∀ l:List α,(l.filter p).length<l.length↔∃ x∈l,p x=false
 | [] => ⟨λh => absurd h (Nat.lt_irrefl _), λ⟨_, m, _⟩ => nomatch m⟩
 | x :: l => by
  have ih:=e'V p l
  have le:=List.length_filter_le p l
  cases e:p x with
  | true=>
   rw [List.filter_cons_of_pos e,List.length_cons,List.length_cons]
   constructor
   ·intro h
    obtain⟨y,m,z⟩:=ih.mp (by omega)
    exact⟨y,.tail _ m,z⟩
   ·rintro⟨y,m,z⟩
    rcases List.mem_cons.mp m with rfl | m
    ·rw [e] at z;cases z
    ·have:=ih.mpr ⟨y,m,z⟩;omega
  | false=>
   rw [List.filter_cons_of_neg (by rw [e];exact Bool.false_ne_true),List.length_cons]
   exact⟨λ_=>⟨x,.head _,e⟩,λ_=>by omega⟩
theorem v'W (W:List Str):(if (W.filter dwn).length<W.length then [("across":Str)] else [])++(if (W.filter dwn).isEmpty=true then [] else [("down":Str)])=srt (once (W.map wayS)):=by
 have dn:¬ ("down":Str)="across":=by decide +kernel
 have on:=k'F (W.map wayS)
 have mem:∀ x,x∈once (W.map wayS)↔(x="across"/\∃ y∈W,dwn y=false)\/(x="down"/\∃ y∈W,dwn y=true):=λx=>by
  rw [on.2,List.mem_map]
  constructor
  ·rintro⟨y,my,rfl⟩
   unfold wayS
   cases e:dwn y with
   | true=>exact .inr ⟨if_pos rfl,y,my,e⟩
   | false=>exact .inl ⟨if_neg Bool.false_ne_true,y,my,e⟩
  ·rintro (⟨rfl,y,my,e⟩ | ⟨rfl,y,my,e⟩)
   ·exact⟨y,my,by unfold wayS;rw [e];exact if_neg Bool.false_ne_true⟩
   ·exact⟨y,my,by unfold wayS;rw [e];exact if_pos rfl⟩
 have fe:(W.filter dwn).isEmpty=true↔¬ ∃ y∈W,dwn y=true:=by
  rw [List.isEmpty_iff,List.filter_eq_nil_iff]
  exact⟨λh ⟨y,m,e⟩=>h y m e,λh y m e=>h ⟨y,m,e⟩⟩
 refine l'J (k'f ?_ on.1 λx=>?_) ?_
 ·split<;>split<;>simp [dn,Ne.symm dn,eq_comm]
 ·rw [mem,List.mem_append]
  by_cases h1:(W.filter dwn).length<W.length
  ·by_cases h2:(W.filter dwn).isEmpty=true
   ·rw [if_pos h1,if_pos h2]
    have a:=(e'V dwn W).mp h1
    have b:=fe.mp h2
    simp [a,b]
   ·rw [if_pos h1,if_neg h2]
    have a:=(e'V dwn W).mp h1
    have b:∃ y∈W,dwn y=true:=Classical.byContradiction λz=>h2 (fe.mpr z)
    simp only [List.mem_singleton]
    exact⟨λh=>h.imp (λe=>⟨e,a⟩) λe=>⟨e,b⟩,λh=>h.imp (λe=>e.1) λe=>e.1⟩
  ·have a:¬ ∃ y∈W,dwn y=false:=λz=>h1 ((e'V dwn W).mpr z)
   by_cases h2:(W.filter dwn).isEmpty=true
   ·rw [if_neg h1,if_pos h2]
    have b:=fe.mp h2
    exact⟨(λh=>by rcases h with h | h<;>cases h),λh=>h.elim (λe=>absurd e.2 a) λe=>absurd e.2 b⟩
   ·rw [if_neg h1,if_neg h2]
    have b:∃ y∈W,dwn y=true:=Classical.byContradiction λz=>h2 (fe.mpr z)
    simp only [List.mem_singleton]
    exact⟨λh=>h.elim (λe=>nomatch e) λe=>.inr ⟨e,b⟩,λh=>h.elim (λe=>absurd e.2 a) λe=>.inr e.1⟩
 ·split<;>split<;>decide +kernel
structure DI (P:List (Str×List (Int×Int))) (d:List (Str×Rat)) (r:Rat):Prop where
 nd:Nd d
 v:∀ u,gt d u=if u=Str.ofString ""\/gat P u=0 then none else some (gat P u)
 r:r=gat P (Str.ofString "")
 l:d.length<=P.length
 b:∀ x q,gt d x=some q->bs q<=8000
theorem b'D {P:List (Str×List (Int×Int))} {x:Str} {l:List (Int×Int)} (h:∀ p∈P,p.1≠x) (u:Str):gat (P++[(x,l)]) u=if u=x then ttl l else gat P u:=by
 unfold gat
 rw [<- f'a h,e'X]
 by_cases e:u=x
 ·rw [if_pos e,if_pos e];rfl
 ·rw [if_neg e,if_neg e]
theorem DI.same {P:List (Str×List (Int×Int))} {d:List (Str×Rat)} {r:Rat} (h:DI P d r) {x:Str} {l:List (Int×Int)} (hf:∀ p∈P,p.1≠x) (hx:x≠Str.ofString "") (h0:ttl l=0) (hg:gat P x=0):DI (P++[(x,l)]) d r:=by
 refine⟨h.nd,λu=>?_,?_,by rw [List.length_append];exact Nat.le_add_right_of_le h.l,h.b⟩
 ·rw [h.v,b'D hf]
  by_cases e:u=x
  ·rw [if_pos e,e,hg,h0]
  ·rw [if_neg e]
 ·rw [h.r,b'D hf,if_neg (λz=>hx z.symm)]
theorem n'Y {P:List (Str×List (Int×Int))} {x:Str} (h:∀ p∈P,p.1≠x):gat P x=0:=by
 unfold gat
 cases e:gtd P x with
 | none => rfl
 | some l => exact absurd rfl (h _ (b'z e))
theorem DI.rest {P:List (Str×List (Int×Int))} {d:List (Str×Rat)} {r:Rat} (h:DI P d r) {x:Str} {l:List (Int×Int)} (hf:∀ p∈P,p.1≠x) (hx:x=Str.ofString ""):DI (P++[(x,l)]) d (ttl l):=by
 refine⟨h.nd,λu=>?_,?_,by rw [List.length_append];exact Nat.le_add_right_of_le h.l,h.b⟩
 ·rw [h.v,b'D hf]
  by_cases e:u=x
  ·rw [if_pos (.inl (e.trans hx)),if_pos (.inl (e.trans hx))]
  ·rw [if_neg e]
 ·rw [b'D hf,if_pos hx.symm]
theorem DI.put {P:List (Str×List (Int×Int))} {d:List (Str×Rat)} {r:Rat} (h:DI P d r) {x:Str} {l:List (Int×Int)} (hf:∀ p∈P,p.1≠x) (hx:x≠Str.ofString "") (h0:ttl l≠0) (hb:bs (ttl l)<=8000):DI (P++[(x,l)]) (ptd d x (ttl l)) r:=by
 have gp:∀ z,gt (ptd d x (ttl l)) z=if z=x then some (ttl l) else gt d z:=λz=>k't d x z _
 refine⟨p'M h.nd x _,λu=>?_,?_,by rw [List.length_append];exact Nat.le_trans (f'n _ _ _) (Nat.succ_le_succ h.l),λz q e=>?_⟩
 ·rw [gp,b'D hf]
  by_cases e:u=x
  ·rw [if_pos e,if_pos e,if_neg (λz=>z.elim (λz=>hx (e.symm.trans z)) h0)]
  ·rw [if_neg e,if_neg e,h.v]
 ·rw [h.r,b'D hf,if_neg (λz=>hx z.symm)]
 ·rw [gp] at e
  split at e
  ·cases e;exact hb
  ·exact h.b z q e
theorem b't:∀ {t:Tm},t.ok->cof t (Str.ofString "")=0
 | .num _, _ => rfl
 | .edge a n, h => by
  show (gtd (unkL n (shr a)) (Str.ofString "")).getD 0=0
  cases e:gtd (unkL n (shr a)) (Str.ofString "") with
  | none=>rfl
  | some q=>
   obtain⟨y,_,ey⟩:=c'J (b'z e)
   exact absurd ey.symm (h'Z _ _)
 | .times q t, h => by show cof t _ * q = 0; rw [b't (t := t) h, Rat.zero_mul]
 | .plus a b, h => by show cof a _ + cof b _ = 0; rw [b't h.1, b't h.2, Rat.add_zero]
 | .minus a b, h => by show cof a _ + cof b _ * (-1) = 0; rw [b't h.1, b't h.2, Rat.zero_mul, Rat.add_zero]
theorem k'Z (T:Tx w K mg):FnOk P w K mg base CX0 19 T.a_law_due T.d_law_due ["_law_tree_here"] (spP K true 0 1 g_due):=by
 refine a'n T.F_law_due sc_law_due rfl (by decide) λcdv A outer s H E hr=>?_
 have hu:=a'l hr
 refine⟨_,(a'e (b'f (i:=1) sc_law_due.nd (by decide) rfl (Or.inl rfl) c'o)
  (a'e (b'f (i:=2) sc_law_due.nd (by decide) rfl (Or.inl rfl) (a'x a'c))
  (a'e (d'G (d'F ((d'T T 15).mono (by first | decide | omega)) (by first | exact id | exact λ_=>rfl) (λ_ _ h=>h.1) hr rfl T.m_law_walk T.F_law_walk.kp T.b_law_walk (c'I (qv 0) (c'I (a'z (a'a a'b (a'a a'b a'c))) (b'y 1 (b'y 2 d'e))))))
  (a'e (b'f (i:=3) sc_law_due.nd (by decide) rfl (Or.inl rfl) c'o)
  (a'e (a'p (i:=4) sc_law_due.nd (by decide) rfl (Or.inl rfl) (a'z (a'a a'b (a'a a'b a'c))))
  (d'b 2 (d'b 1 (a'e (e'I rfl PassesOwn.never rfl (qv 1) (e'a (n:=2) rfl (a't (a'W (i:=5) sc_law_due.nd (by decide) rfl (Or.inl rfl)) (a't (a'W (i:=6) sc_law_due.nd (by decide) rfl (Or.inl rfl)) b'C))) (a'e (a'p (i:=7) sc_law_due.nd (by decide) rfl (Or.inl rfl) (a'z (a'a a'b (a'a a'b a'c))))
  (a'e (d'w PassesOwn.never rfl (e'b (qv 6)) (a'W (i:=8) sc_law_due.nd (by decide) rfl (Or.inl rfl)) (a'd (a'p (i:=7) sc_law_due.nd (by decide) rfl (Or.inl rfl) (a'i ((c'P T).mono (by first | decide | omega)) (by first | exact id | exact λ_=>rfl) (λ_ _ h=>h.1) hr rfl T.m_law_lowest T.F_law_lowest.kp T.b_law_lowest (QA.frz (a'a (a'A (a'F (a'h hu (qv 7) a'b (λ_ _=>rfl)) (a'h hu (qv 8) a'b (λ_ _=>rfl))) (a'F (a'h hu (qv 8) a'b (λ_ _=>rfl)) (a'h hu (qv 7) a'b (λ_ _=>rfl)))) (a'a (a'F (a'h hu (qv 7) a'b (λ_ _=>rfl)) (a'h hu (qv 8) a'b (λ_ _=>rfl))) a'c)))))))
  (a'd (a'v (a'j (b'm hr.units) a'y (qv 5) a'g (by with_unfolding_all rfl)) (a'd (a'p (i:=4) sc_law_due.nd (by decide) rfl (Or.inl rfl) (qv 7))) (a'd (a'v (a'j (c'f hr.units) b'a (a'h hu (qv 7) a'b (λ_ _=>rfl)) a'b (by with_unfolding_all rfl)) (a'd (c'F hu (a'r 3) (qv 5) (qv 7))) a'q)))))))
  (a'e (s'Y (i:=9) (N:=["_law_word"]) (ix:=[none]) sc_law_due.nd (by decide) rfl (Or.inl rfl) rfl (e'b (qv 2)) (p'f (i:=0) (by decide) rfl) (λ_ _ _ _ _=>(i'H (a'j (k'K hu) e'H (qv 0) (a'x (a'a a'g (a'a a'g (a'a a'g (a'a a'g (a'a a'g a'c)))))) (by with_unfolding_all rfl)))) (λ_ _ _ _ _=>(qv 0)) True.intro)
  (a'e (b'f (i:=10) sc_law_due.nd (by decide) rfl (Or.inl rfl) (a'x a'c))
  (a'e (a'v (a'j d'Z b'R (b'p b'L b'g rfl T.z_len rfl (a'a (qv 9) a'c)) (b'p b'L b'g rfl T.z_len rfl (a'a (qv 2) a'c)) (by with_unfolding_all rfl)) (a'd (b'v (a'r 10) a'g)) a'q)
  (a'e (a'v (a'j (c'f hr.units) b'a (qv 9) (a'x a'c) (by with_unfolding_all rfl)) (a'd (b'v (a'r 10) a'g)) a'q)
  (d'b 10 (d'b 3 (a'd (a'k (a'z (a'a (qv 3) (a'a (qv 4) (a'a (qv 10) a'c)))))))))))))))))))),?_⟩
 rintro xs Q' _ ⟨_,t,rfl,ho,hd,hw,hc,q⟩
 have bi1:bi 1<=1:=by decide +kernel
 walk_at "q"
 refine⟨rfl,rfl,t,1,1,[],[],0,402,rfl,hd,ho,by decide,⟨List.nodup_nil,(λu l e=>by cases e),Nat.zero_le _⟩,by omega,by omega,by decide,by show 0+cnt t<=100;omega,by omega,λm' ρ p1 p2 p3 p4=>?_⟩
 dsimp only
 rw [p3,p4]
 refine⟨c'w m',a'J _,rfl,?_⟩
 rw [List.nil_append]
 have gm:∀ u,gat m' u=full t u:=λu=>by
  rw [p2]
  show 0+Rat.divInt 1 1*full t u=full t u
  rw [r11,Rat.one_mul,Rat.zero_add]
 have we:wys t=srt (once (((edg t).map (·.1)).map wayS)):=by unfold wys;rw [List.map_map];rfl
 have wl:((edg t).map (·.1)).length<=15:=by rw [List.length_map];exact Nat.le_trans (b'h t) hc
 generalize (edg t).map (·.1)=W at we wl
 walk_at "q"
 refine LoopD.map m' (λi ρ=>∃ (d:List (Str×Rat)) (r:Rat) (x5 x6 x7 x8:Tr),ρ=[Enc.t t,dicS .f m',.lst .f (W.map Enc.t),dicS .o d,Enc.t r,x5,x6,x7,x8,.hole,.hole]/\DI (m'.take i) d r) ⟨[],0,.hole,.hole,.hole,.hole,rfl,⟨List.nodup_nil,(λu=>by rw [if_pos (.inr rfl)];rfl),rfl,Nat.le_refl _,(λx q e=>by cases e)⟩⟩ ?_ ?_
 ·rintro i x l ρ hx ⟨d,r,x5,x6,x7,x8,rfl,hD⟩
  have fr:∀ p∈m'.take i,p.1≠x:=f'b p1.nd hx
  have hl:=p1.p x l (u's p1.nd (List.mem_of_getElem? hx))
  have ml:=p1.l
  have il:=(List.getElem?_eq_some_iff.mp hx).1
  have dl:=hD.l
  rw [List.length_take] at dl
  walk_at "q"
  refine Loop.map l Enc.t (λj ρ=>∃ x8:Tr,ρ=[Enc.t t,dicS .f m',.lst .f (W.map Enc.t),dicS .o d,Enc.t r,.str x,Enc.t l,Enc.t (ttl (l.take j)),x8,.hole,.hole]/\bs (ttl (l.take j))<=403*j+1) ⟨x8,rfl,(by show bs 0<=1;decide +kernel)⟩ ?_ ?_
  ·rintro j ⟨a,b⟩ ρ hj ⟨x8,rfl,hb⟩
   have jl:=(List.getElem?_eq_some_iff.mp hj).1
   have pk:=hl.2 _ (List.mem_of_getElem? hj)
   have n1:=b'F (ttl (l.take j))
   have n2:=a'Z (ttl (l.take j))
   rw [show (Enc.t (a,b):Tr)=.tup [.int a,.int b] from rfl]
   walk_at "p"
   obtain⟨k0,k1,k2⟩:0<b/\bi a<=402/\bi b<=402:=pk
   have m2:=b'n ((ttl (l.take j)).den:Int) b
   have tj:ttl (l.take (j+1))=ttl (l.take j)+wby (a,b):=by
    rw [c'u hj,f'x]
    show _+(wby (a,b)+0)=_
    rw [Rat.add_zero]
   have bw:bs (wby (a,b))<=402:=f'K (by omega) k1 k2
   have ba:=e'x (ttl (l.take j)) (wby (a,b))
   refine⟨a'O (n:=7000) (m:=7000) (by omega) (by omega) (by omega),a'O (n:=7000) (m:=7000) (by omega) (by omega) (by omega),a'O (n:=7000) (m:=7000) (by omega) (by omega) (by omega),f'Y (Int.mul_pos (by have:=(ttl (l.take j)).den_nz;omega) k0) (by omega) λρ=>⟨e_t _,.tup [.int a,.int b],?_,by rw [tj];omega⟩⟩
   rw [e_f,show Rat.divInt ((ttl (l.take j)).num*b+a*((ttl (l.take j)).den:Int)) (((ttl (l.take j)).den:Int)*b)=_ from t'v (ttl (l.take j)) (a,b) k0,tj]
  ·rintro ρ ⟨x8,rfl,hb⟩
   rw [List.take_length] at hb ⊢
   have tk:m'.take (i+1)=m'.take i++[(x,l)]:=c'u hx
   walk_at "p"
   split
   ·rename_i c
    exact⟨d,ttl l,_,_,_,_,rfl,by rw [tk];exact hD.rest fr (of_decide_eq_true c)⟩
   ·rename_i c
    have c:x≠Str.ofString "":=λz=>c (decide_eq_true z)
    split
    ·rename_i c2
     exact⟨by omega,ptd d x (ttl l),r,_,_,_,_,rfl,by rw [tk];exact hD.put fr c (λz=>by rw [z] at c2;exact absurd c2 (by decide)) (by omega)⟩
    ·rename_i c2
     have c2:(ttl l).num=0:=by simpa using c2
     exact⟨d,r,_,_,_,_,rfl,by rw [tk];exact hD.same fr c (Rat.num_eq_zero.mp c2) (n'Y fr)⟩
 ·rintro ρ ⟨d,r,x5,x6,x7,x8,rfl,hD⟩
  rw [List.take_length] at hD
  walk_at "q"
  have ml:=p1.l
  have dl:=hD.l
  refine CLoop.filter W Enc.t dwn (λx=>x) (by omega) (λx hx A R hR hA=>?_) ?_
  ·rw [show (Enc.t x:Tr)=.str x from rfl]
   walk_at "p"
   refine v'V (ns:=["top","height","bottom","centre","drop"]) ?_
   walk_at "p"
   by_cases h:x∈([("top":Str),"height","bottom","centre","drop"]:List Str)
   ·rw [if_pos (decide_eq_true h)];exact hR (decide_eq_true h)
   ·rw [if_neg (by rw [decide_eq_true_eq];exact h)];exact hA (decide_eq_false h)
  have we2:=we.trans (v'W W).symm
  rw [List.map_id']
  generalize W.filter dwn=D at we2
  have hI:IsS d (cof t) 8000 1000:=by
   refine⟨hD.nd,λu=>?_,hD.b,by omega⟩
   rw [hD.v,gm]
   unfold full
   by_cases e:u=Str.ofString ""
   ·rw [if_pos (.inl e),e,b't ho,if_pos rfl]
   ·rw [if_neg e]
    by_cases e2:cof t u=0
    ·rw [if_pos (.inr e2),if_pos e2]
    ·rw [if_neg (λz=>z.elim e e2),if_neg e2]
  have hr':r=rst t:=by rw [hD.r,gm];unfold full;rw [if_pos rfl]
  have hq:=q d hI
  rw [we2,<- hr'] at hq
  refine⟨by rw [c'p];exact e'c _,?_⟩
  refine c'g (λρ=>ρ=[Enc.t t,dicS .f m',.lst .f (W.map Enc.t),dicS .o d,Enc.t r,x5,x6,x7,x8,.lst .f (D.map Enc.t),.lst .o ((if D.length<W.length then [("across":Str)] else []).map Enc.t)]) (λN hN=>?_) ?_
  ·walk_at "p"
   split
   ·rename_i c
    have c:=of_decide_eq_true c
    rw [if_pos (by omega)] at hN
    first | exact hN _ rfl | exact⟨by decide,hN _ rfl⟩
   ·rename_i c
    rw [if_neg (λz=>c (decide_eq_true (by omega)))] at hN
    exact hN _ rfl
  rintro ρ rfl
  have k1:(if D.length<W.length then [("across":Str)] else []).length<=1:=by split<;>simp
  generalize (if D.length<W.length then [("across":Str)] else [])=A1 at k1 hq
  walk_at "q"
  refine c'g (λρ=>ρ=[Enc.t t,dicS .f m',.lst .f (W.map Enc.t),dicS .o d,Enc.t r,x5,x6,x7,x8,.lst .f (D.map Enc.t),.lst .o ((A1++(if D.isEmpty=true then [] else [("down":Str)])).map Enc.t)]) (λN hN=>?_) ?_
  ·walk_at "p"
   refine v'l _ _ _ (by rw [d'j];decide) _ ?_
   walk_at "p"
   cases D with
   | nil=>
    rw [show (([]:List Str).map (Enc.t (α:=Str))).isEmpty=true from rfl]
    rw [show ([]:List Str).isEmpty=true from rfl,if_pos rfl,List.append_nil] at hN
    exact hN _ rfl
   | cons y D=>
    rw [show ((y :: D).map (Enc.t (α:=Str))).isEmpty=false from rfl]
    rw [show (y :: D).isEmpty=false from rfl,if_neg Bool.false_ne_true] at hN
    exact⟨by omega,hN _ rfl⟩
  rintro ρ rfl
  walk_at "p"
  exact hq _
def sp_law (K:W.Frag):Sp:=λvs H Q _=>∃ (a:Addr) (ns:List Int),vs=[.ref a]/\SqL K H a (ns.map V.int)/\ns.length<=63/\∀ H',Q (.bl true) H'
def g_law:PSp:=spec 1 λxs Q=>∃ ns:List Int,xs=[.lst (.l false) (ns.map Enc.t)]/\ns.length<=63/\Q (.bl true)
theorem k'g {K:W.Frag} {F:Hp} {B:Bool->Hp}:∀ ns:List Int,Rs K F B (ns.map Enc.t) (ns.map V.int) []
 | [] => ⟨rfl, rfl⟩
 | n :: ns => ⟨_, _, [], [], rfl, rfl, ⟨rfl, rfl⟩, k'g ns⟩
theorem v'X {K:W.Frag} (vs:List V) (H:Hp) (Q:VK) (E:XK) (h:sp_law K vs H Q E):spP K true 0 1 g_law vs H Q E:=by
 obtain⟨a,ns,rfl,hS,hl,k⟩:=h
 refine⟨rfl,λ_=>none,H,[.lst (.l false) (ns.map Enc.t)],λ_=>[],λt _=>t=.bl true,λ_=>False,⟨?_,(λ_ _ _ _ z=>by cases z),rfl,?_,(λ_=>.nil),(λ_ _ m=>nomatch m),(λ_ _ _ _ m=>nomatch m),(λi h=>absurd h (Nat.not_lt_zero i)),λ_ _ _ _ z=>z.elim⟩,⟨rfl,ns,rfl,hl,λ_=>rfl⟩,?_⟩
 ·exact Gr.refl' (λ_ _ z=>by cases z)
 ·intro i t e
  cases i with
  | zero=>cases e;exact .inr ⟨.ref a,rfl,rfl,a,_,rfl,hS,k'g ns⟩
  | succ i=>cases e
 ·intro F' H' σ' ρ' cs' v t c _ r _ _ _ _ e
  subst e
  rw [r.1]
  exact k _
theorem n'Z (n d:Nat) (k:Int) (h:0<=k):HT.sIx n d (some k)=min k.toNat n:=by unfold HT.sIx;dsimp only;rw [if_neg (by omega)]
theorem t'w {α:Type} (xs:List α):(cutT xs (some 2) (some 16)).length<=14:=by
 unfold cutT
 rw [n'Z _ _ 2 (by decide),n'Z _ _ 16 (by decide),List.length_take,List.length_drop]
 simp only [show Int.toNat 2=2 from rfl,show Int.toNat 16=16 from rfl]
 omega
theorem t'x (T:Tx w K mg):FnOk P w K mg base CX0 30 T.a_law T.d_law ["_law_script"] (spP K true 0 1 g_law):=by
 refine a'n T.F_law sc_law rfl (by decide) λcdv A outer s H E hr=>?_
 have hu:=a'l hr
 refine⟨_,(a'e (a'p (i:=1) sc_law.nd (by decide) rfl (Or.inl rfl) (a'A (a'i ((c'v T).mono (by first | decide | omega)) (by first | exact id | exact λ_=>rfl) (λ_ _ h=>h.1) hr rfl T.m_law_cell_at T.F_law_cell_at.kp T.b_law_cell_at (QA.frz (a'a (qv 0) (a'a a'b a'c)))) (a'F a'b (a'B (a'i ((c'v T).mono (by first | decide | omega)) (by first | exact id | exact λ_=>rfl) (λ_ _ h=>h.1) hr rfl T.m_law_cell_at T.F_law_cell_at.kp T.b_law_cell_at (QA.frz (a'a (qv 0) (a'a a'b a'c)))) (p'U a'b a'b)))))
  (a'e (a'p (i:=2) sc_law.nd (by decide) rfl (Or.inl rfl) (a'i ((i'g T).mono (by first | decide | omega)) (by first | exact id | exact λ_=>rfl) (λ_ _ h=>h.1) hr rfl T.m_law_tree T.F_law_tree.kp T.b_law_tree (QA.frz (a'a (p'e (qv 0) (k'M a'b) (k'M a'b)) (a'a (qv 1) a'c)))))
  (a'e (a'p (i:=3) sc_law.nd (by decide) rfl (Or.inl rfl) (a'i ((c'h T 15).mono (by first | decide | omega)) (by first | exact id | exact λ_=>rfl) (λ_ _ h=>h.1) hr rfl T.m_law_term T.F_law_term.kp T.b_law_term (QA.frz (a'a (qv 2) a'c))))
  (a'e (w'v (a'i ((k'Z T).mono (by first | decide | omega)) (by first | exact id | exact λ_=>rfl) (λ_ _ h=>h.1) hr rfl T.m_law_due T.F_law_due.kp T.b_law_due (QA.frz (a'a (qv 2) a'c))) (e'a (n:=3) rfl (a't (a'W (i:=4) sc_law.nd (by decide) rfl (Or.inl rfl)) (a't (a'W (i:=5) sc_law.nd (by decide) rfl (Or.inl rfl)) (a't (a'W (i:=6) sc_law.nd (by decide) rfl (Or.inl rfl)) b'C)))))
  (a'e (a'v (QW.t (b'K (d'u (b'J (a'i ((e'l T).mono (by first | decide | omega)) (by first | exact id | exact λ_=>rfl) (λ_ _ h=>h.1) hr rfl T.m_law_one_class T.F_law_one_class.kp T.b_law_one_class (QA.frz (a'a (qv 3) a'c))))) (b'S (d'u (b'J (a'i ((b'V T).mono (by first | decide | omega)) (by first | exact id | exact λ_=>rfl) (λ_ _ h=>h.1) hr rfl T.m_law_right T.F_law_right.kp T.b_law_right (QA.frz (a'a (qv 3) (a'a (qv 4) (a'a (qv 5) (a'a (qv 6) a'c))))))))))) (a'd (a'k f'd)) a'q)
  (a'd (a'k (p'R (a'i ((b'V T).mono (by first | decide | omega)) (by first | exact id | exact λ_=>rfl) (λ_ _ h=>h.1) hr rfl T.m_law_right T.F_law_right.kp T.b_law_right (QA.frz (a'a (qv 3) (a'a (qv 4) (a'a (qv 5) (a'a (qv 6) a'c)))))) (p'Q (a'i ((b'V T).mono (by first | decide | omega)) (by first | exact id | exact λ_=>rfl) (λ_ _ h=>h.1) hr rfl T.m_law_right T.F_law_right.kp T.b_law_right (QA.frz (a'a (a'i ((c'h T 15).mono (by first | decide | omega)) (by first | exact id | exact λ_=>rfl) (λ_ _ h=>h.1) hr rfl T.m_law_term T.F_law_term.kp T.b_law_term (QA.frz (a'a (qv 2) a'c))) (a'a (qv 4) (a'a (qv 5) (a'a (qv 6) a'c))))))))))))))),?_⟩
 rintro xs Q' _ ⟨_,ns,rfl,hl,q⟩
 walk_at "p"
 refine⟨rfl,_,ns,0,inferInstance,rfl,by decide,λc0 ρ=>?_⟩
 walk_at "p"
 refine⟨rfl,_,ns,1,inferInstance,rfl,by decide,λc1 ρ=>?_⟩
 walk_at "p"
 refine⟨⟨by decide,by decide,by decide⟩,by decide,cml (by decide),rfl,_,_,_,inferInstance,rfl,t'w ns,λt ho hd hw hc ρ=>?_⟩
 try walk_at "p"
 try simp only [o_f,m_l,m_v,m_d,m_f,m_t,o_t,true_and]
 try walk_at "p"
 try simp only [o_f,m_l,m_v,m_d,m_f,m_t,o_t,true_and]
 refine⟨rfl,t,rfl,hd,λρ=>?_⟩
 try walk_at "p"
 try simp only [o_f,m_l,m_v,m_d,m_f,m_t,o_t,true_and]
 try walk_at "p"
 try simp only [o_f,m_l,m_v,m_d,m_f,m_t,o_t,true_and]
 refine⟨rfl,t,rfl,ho,hd,hw,hc,λm hm ρ=>?_⟩
 try walk_at "p"
 try simp only [o_f,m_l,m_v,m_d,m_f,m_t,o_t,true_and]
 try walk_at "p"
 try simp only [o_f,m_l,m_v,m_d,m_f,m_t,o_t,true_and]
 refine⟨rfl,t,rfl,λρ=>?_⟩
 try walk_at "p"
 try simp only [o_f,m_l,m_v,m_d,m_f,m_t,o_t,true_and]
 try walk_at "p"
 try simp only [o_f,m_l,m_v,m_d,m_f,m_t,o_t,true_and]
 refine⟨rfl,t,m,rfl,ho,by omega,hw,hc,hm,λρ=>?_⟩
 try walk_at "p"
 try simp only [o_f,m_l,m_v,m_d,m_f,m_t,o_t,true_and]
 try walk_at "p"
 try simp only [o_f,m_l,m_v,m_d,m_f,m_t,o_t,true_and]
 refine⟨rfl,t,m,rfl,ho,by omega,hw,hc,hm,λρ=>?_⟩
 try walk_at "p"
 try simp only [o_f,m_l,m_v,m_d,m_f,m_t,o_t,true_and]
 try walk_at "p"
 try simp only [o_f,m_l,m_v,m_d,m_f,m_t,o_t,true_and]
 refine⟨rfl,t,rfl,hd,λρ=>?_⟩
 try walk_at "p"
 try simp only [o_f,m_l,m_v,m_d,m_f,m_t,o_t,true_and]
 try walk_at "p"
 try simp only [o_f,m_l,m_v,m_d,m_f,m_t,o_t,true_and]
 refine⟨rfl,t,m,rfl,ho,by omega,hw,hc,hm,λρ=>?_⟩
 try walk_at "p"
 try simp only [o_f,m_l,m_v,m_d,m_f,m_t,o_t,true_and]
 try walk_at "p"
 try simp only [o_f,m_l,m_v,m_d,m_f,m_t,o_t,true_and]
 first | exact q _ | exact⟨rfl,q _⟩
theorem v'Y (T:Tx w K mg):FnOk P w K mg base CX0 30 T.a_law T.d_law ["_law_script"] (sp_law K):=(t'x T).imp v'X
end
theorem walk {l:W.OpenLaw} {q:Program} {loose:List Str} {XP:(Str->Option Value)->Heap->Prop} {YP:World->Heap->Prop} {d:DefRec} {K:Params->W.Frag} (hn:l.most=some 63) (hdf:d.params.defaults=[]) (hnm:d.name="law")
  (hY:∀ (w:World) (h:Heap),YP w h->(K w.params).In h)
  (F:∀ (w:World) (mg:Str->Option Value) (h:Heap),(K w.params).In h->h.Ns mainGlobals mg->Nonempty (Tx w (K w.params) mg)) :
  W.WalkO q loose XP YP l.row.toRowW d [] (λf vs=>PySem.call f vs):=by
 refine L2.walk_of (n:=63) (k:=30) (x:="_law_script") (CX:=λ_=>CX0) (sp:=λw=>sp_law (K w.params)) hn (by decide) hdf ⟨rfl,by decide,by decide⟩ hY ?_ (λ_ _ a ns hl _ hS=>⟨a,ns,rfl,hS,hl,λ_=>rfl⟩) λ_ _ _ _ _ z=>z
 intro w mg fa h KX G hmg
 obtain⟨T⟩:=F w mg h KX G
 rw [hnm] at hmg
 have e:=hmg.symm.trans T.m_law
 cases e
 refine⟨T.d_law,λs v=>?_,λbase _ _=>v'Y T⟩
 obtain⟨oc,od,kV,doc,pm,an,cdv,ct,osl,hfd,lk,hcd⟩:=T.F_law.ex
 rw [hfd]
 exact .of_eq rfl
end Sf
/-! no twins of the start-up's heaps: their names are taken -/
def PySem.W.Fast.tw14513424124387254415:Unit:=()
def PySem.W.Fast.tw2117850183372225743:Unit:=()
def PySem.W.Fast.tw12114284969012906395:Unit:=()
def PySem.W.Fast.tw11738960686823144899:Unit:=()
def PySem.W.Fast.tw1951749550040330382:Unit:=()
def PySem.W.Fast.tw8226203353724009699:Unit:=()
def PySem.W.Fast.tw5851012544297836938:Unit:=()
def PySem.W.Fast.tw18163931032244049584:Unit:=()
def PySem.W.Fast.tw7043397390678285232:Unit:=()
def PySem.W.Fast.tw13307760250058169516:Unit:=()
def PySem.W.Fast.tw8458250191843807130:Unit:=()
def PySem.W.Fast.tw17637386724549654359:Unit:=()
def PySem.W.Fast.tw9759543852856525389:Unit:=()
def PySem.W.Fast.tw11514572749333186033:Unit:=()
def PySem.W.Fast.tw6761545639053025332:Unit:=()
def PySem.W.Fast.tw2639600904493294308:Unit:=()
def PySem.W.Fast.tw4790010262839459501:Unit:=()
def PySem.W.Fast.tw15709203758084175948:Unit:=()
def PySem.W.Fast.tw8859934529607655068:Unit:=()
def PySem.W.Fast.tw8548114980227592028:Unit:=()
def PySem.W.Fast.tw11383778111757805509:Unit:=()
def PySem.W.Fast.tw5907945848311530278:Unit:=()
def PySem.W.Fast.tw5998712830971227958:Unit:=()
def PySem.W.Fast.tw8789058259164889111:Unit:=()
def PySem.W.Fast.tw16495265647314289053:Unit:=()
def PySem.W.Fast.tw14932397196549538530:Unit:=()
def PySem.W.Fast.tw12171357592908541542:Unit:=()
def PySem.W.Fast.tw6512657847500733052:Unit:=()
def PySem.W.Fast.tw3675690134593147118:Unit:=()
def PySem.W.Fast.tw2023194168445556643:Unit:=()
def PySem.W.Fast.tw17187445873569663985:Unit:=()
def PySem.W.Fast.tw17625065486814007739:Unit:=()
def PySem.W.Fast.tw11182694253878097169:Unit:=()
def PySem.W.Fast.tw9778541027086548480:Unit:=()
def PySem.W.Fast.tw5863638624577460338:Unit:=()
def PySem.W.Fast.tw14792413286607209049:Unit:=()
def PySem.W.Fast.tw7221370878719642747:Unit:=()
def PySem.W.Fast.tw14332557755339893990:Unit:=()
def PySem.W.Fast.tw10681042948490714799:Unit:=()
def PySem.W.Fast.tw15308171063303965536:Unit:=()
def PySem.W.Fast.tw11148224578308171183:Unit:=()
def PySem.W.Fast.tw8774340450256540693:Unit:=()
def PySem.W.Fast.tw7958256090783662920:Unit:=()
def PySem.W.Fast.tw12967520151423303010:Unit:=()
def PySem.W.Fast.tw1508253127973668172:Unit:=()
def PySem.W.Fast.tw4065655972295498638:Unit:=()
def PySem.W.Fast.tw14328763105021056669:Unit:=()
def PySem.W.Fast.tw2052225362146912838:Unit:=()
open PySem PySem.W PyProof.Rows
set_option maxRecDepth 100000 in
set_option maxHeartbeats 0 in
theorem PySem.Challenge.cw_springframe_k11_terms_as_sums_holds : PySem.Challenge.rw_springframe_k11_terms_as_sums.Holds := by
 w_on;o_law;k_head;(case hw=>w_witness2)
 k_fill
 refine Sf.walk (l:=PySem.Challenge.rw_springframe_k11_terms_as_sums) rfl rfl rfl (λw h Y=>PySem.W.kIn_of Y) ?F
 case F=>
  intro w mg h KX G
  refine' Sf.tx_mk KX G ?_ ?_ ?_ ?_ ?_ ?_ ?_ ?_ ?_ ?_ ?_ ?_ ?_ ?_ ?_ ?_ ?_ ?_ ?_ ?_ ?_ ?_ ?_ ?_ ?_ ?_ ?_ ?_ ?_ ?_ ?_ ?_ ?_ ?_ ?_ ?_ ?_ ?_ ?_ ?_ ?_ ?_ ?_ ?_ ?_ ?_ ?_ ?_ ?_ ?_ ?_ ?_ ?_ ?_ ?_ ?_ ?_ ?_ ?_ ?_ ?_ ?_ ?_ ?_ ?_ ?_ ?_ ?_ ?_ ?_ ?_ ?_ ?_ ?_ ?_ ?_ ?_ ?_ ?_ ?_ ?_ ?_ ?_ ?_ ?_ ?_ ?_ ?_ ?_ ?_ ?_ ?_ ?_ ?_ ?_ ?_ ?_ ?_ ?_ ?_ ?_ ?_ ?_ ?_ ?_ ?_ ?_ ?_ ?_ ?_ ?_ ?_ ?_ ?_ ?_ ?_ ?_ ?_ ?_ ?_ ?_ ?_ ?_ ?_ ?_ ?_ ?_ ?_ ?_ ?_ ?_ ?_ ?_ ?_ ?_ ?_ ?_ ?_ ?_ ?_ ?_ ?_ ?_ ?_ ?_ ?_ ?_ ?_ ?_ ?_ ?_ ?_ ?_ ?_ ?_ ?_ ?_ ?_ ?_ ?_ ?_ ?_ ?_ ?_ ?_ ?_ ?_ ?_ ?_ ?_ ?_ ?_ ?_ ?_ ?_ ?_ ?_ ?_ ?_ ?_ ?_ ?_ ?_ ?_ ?_ ?_ ?_ ?_ ?_ ?_ ?_ ?_ ?_ ?_ ?_ ?_ ?_ ?_ ?_ ?_ ?_ ?_ ?_ ?_ ?_ ?_ ?_ ?_ ?_ ?_ ?_ ?_ ?_ ?_ ?_
  all_goals try first | k_is | kit_is | k_exc | kts_exm | exact L2.fnin (by k_is) (by k_is) (by k_is)
  exact Sf.kd_WORTHS_mk (by k_is) (by k_is) (by k_is) (by k_is) (by k_is) (by k_is) (by k_is) (by k_is) (by k_is) (by k_is) (by k_is) (by k_is) (by k_is) (by k_is) (by k_is) (by k_is) (by k_is) (by k_is) (by k_is) (by k_is) (by k_is) (by k_is) (by k_is) (by k_is) (by k_is) (by k_is) (by k_is) (by k_is) (by k_is) (by k_is) (by k_is) (by k_is) (by k_is) (by k_is) (by k_is) (by k_is) (by k_is) (by k_is) (by k_is)
#print axioms PySem.Challenge.cw_springframe_k11_terms_as_sums_holds

