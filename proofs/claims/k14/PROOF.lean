import PyProof.Rows.All
import Wide.All
import OpenK.AllK
import Wide.FinOn
import Lean
import PyProof.EqAt
import PyProof.EqKinds
import PyProof.TupleCall
import PySem.Challenge.RW_springframe_k14_numbers_written
set_option Elab.async false
set_option linter.all false
set_option maxRecDepth 100000
namespace L2
open PySem PySem.Spec PyProof.Rows
abbrev Key:=Sum Int Str
def keyIs:Key→Value→Bool
  | .inl k, v => Value.isInt k v
  | .inr x, v => Value.isStrOf x v
def keyH (w:World):Key→Int
  | .inl k => hashInt k
  | .inr x => hashStr w x
theorem a'r:∀ {k:Key} {v:Value},keyIs k v=true→(∃ i t,k=Sum.inl i∧v=Value.int i t)∨(∃ x t,k=Sum.inr x∧v=Value.str x t)
  | .inl i, v, h => by
    obtain⟨t,e⟩:=Value.isInt_shape (k:=i) (v:=v) h
    exact .inl ⟨i,t,rfl,e⟩
  | .inr x, v, h => by
    obtain⟨t,e⟩:=Value.isStrOf_shape (x:=x) (v:=v) h
    exact .inr ⟨x,t,rfl,e⟩
theorem g'r (i:Int) (t:Tok):keyIs (.inl i) (.int i t)=true:=by simp [keyIs,Value.isInt]
theorem g's (x:Str) (t:Tok):keyIs (.inr x) (.str x t)=true:=by simp [keyIs,Value.isStrOf]
theorem m'F (a b:Int):decide ((Sum.inl a:Key)=Sum.inl b)=(a == b):=by
  by_cases e:a=b
  · subst e;simp
  · have h:¬ (Sum.inl a:Key)=Sum.inl b:=fun q=>e (Sum.inl.inj q)
    rw [decide_eq_false h]
    exact (beq_eq_false_iff_ne.mpr e).symm
theorem m'G (a b:Str):decide ((Sum.inr a:Key)=Sum.inr b)=decide (a=b):=by
  by_cases e:a=b
  · subst e;simp
  · have h:¬ (Sum.inr a:Key)=Sum.inr b:=fun q=>e (Sum.inr.inj q)
    rw [decide_eq_false h,decide_eq_false e]
theorem m'H (a:Int) (b:Str):decide ((Sum.inl a:Key)=Sum.inr b)=false:=decide_eq_false (fun q=>nomatch q)
theorem m'I (a:Str) (b:Int):decide ((Sum.inr a:Key)=Sum.inl b)=false:=decide_eq_false (fun q=>nomatch q)
def mixKind (prog:Program) (w:World):PySem.KeyKind prog w Key where
  is:=keyIs
  hash:=keyH w
  inj:=fun v a b ha hb=>by
    rcases a'r ha with ⟨i,t,rfl,rfl⟩ | ⟨x,t,rfl,rfl⟩
    · rcases a'r hb with ⟨j,u,rfl,e⟩ | ⟨y,u,rfl,e⟩
      · injection e with e1 _;rw [e1]
      · exact nomatch e
    · rcases a'r hb with ⟨j,u,rfl,e⟩ | ⟨y,u,rfl,e⟩
      · exact nomatch e
      · injection e with e1 _;rw [e1]
  byValue:=fun k v h=>by
    rcases a'r h with ⟨i,t,rfl,rfl⟩ | ⟨x,t,rfl,rfl⟩<;>rfl
  pyHash:=fun hv h=>by
    rcases a'r hv with ⟨i,t,rfl,rfl⟩ | ⟨x,t,rfl,rfl⟩
    · exact wpAny_pyHash_int h
    · exact wpAny_pyHash_str h
  eqBool:=fun hu hv h=>by
    rcases a'r hu with ⟨i,t,rfl,rfl⟩ | ⟨x,t,rfl,rfl⟩
    · rcases a'r hv with ⟨j,u,rfl,rfl⟩ | ⟨y,u,rfl,rfl⟩
      · rw [m'F] at h;exact wpAny_eqBool_int h
      · rw [m'H] at h;exact SeqAt.EqAt.int_str i t y u _ _ _ _ h
    · rcases a'r hv with ⟨j,u,rfl,rfl⟩ | ⟨y,u,rfl,rfl⟩
      · rw [m'I] at h;exact SeqAt.EqAt.str_int x t j u _ _ _ _ h
      · rw [m'G] at h;exact wpAny_eqBool_str h
  «strs»:=fun k x t v h=>by
    rcases a'r h with ⟨i,u,rfl,e⟩ | ⟨y,u,rfl,e⟩
    · exact nomatch e
    · injection e with e1 _
      subst e1
      cases v<;>rfl
theorem e'c (prog:Program) (w:World) (i:Int) (t:Tok):(mixKind prog w).is (.inl i) (.int i t)=true:=g'r i t
theorem e'd (prog:Program) (w:World) (x:Str) (t:Tok):(mixKind prog w).is (.inr x) (.str x t)=true:=g's x t
end L2
namespace L2
open PySem PySem.Spec PyProof.Rows
inductive V where
  | non | bl (b : Bool) | int (i : Int) | str (x : Str) | byt (b : Array UInt8) | flt (b : UInt64) | ref (a : Addr) | ty (n : String)
  deriving DecidableEq
def RelV:V→Value→Prop
  | .non, u => u = Value.none
  | .bl b, u => u = Value.bool b
  | .int i, u => ∃ t, u = Value.int i t
  | .str x, u => ∃ t, u = Value.str x t
  | .byt b, u => ∃ t, u = Value.bytes b t
  | .flt b, u => ∃ t, u = Value.float b t
  | .ref a, u => u = Value.ref a
  | .ty n, u => u = Value.type n
abbrev Vals:List V→List Value→Prop:=Paired RelV
theorem Vals.length {xs:List V} {us:List Value} (r:Vals xs us):xs.length=us.length:=Paired.length r
theorem Vals.get:∀ {xs:List V} {us:List Value} {i:Nat} {x:V},Vals xs us→xs[i]?=some x→∃ u,us[i]?=some u∧RelV x u
  | _, _, _, _, .nil, e => by simp at e
  | _, _, 0, _, .cons r _, e => by simp at e; subst e; exact ⟨_, rfl, r⟩
  | _, _, i + 1, x, .cons _ t, e => by
    obtain⟨u,h1,h2⟩:=Vals.get (i:=i) (x:=x) t (by simpa using e)
    exact⟨u,by simpa using h1,h2⟩
theorem Vals.set {x:V} {u:Value} (r:RelV x u):∀ {xs:List V} {us:List Value} (i:Nat),Vals xs us→Vals (xs.set i x) (us.set i u)
  | _, _, _, .nil => .nil
  | _, _, 0, .cons _ t => .cons r t
  | _, _, i + 1, .cons q t => .cons q (Vals.set r i t)
theorem Vals.append:∀ {xs ys:List V} {us ws:List Value},Vals xs us→Vals ys ws→Vals (xs++ys) (us++ws)
  | _, _, _, _, .nil, s => s
  | _, _, _, _, .cons r t, s => .cons r (Vals.append t s)
theorem Vals.take:∀ {xs:List V} {us:List Value} (n:Nat),Vals xs us→Vals (xs.take n) (us.take n)
  | _, _, 0, _ => .nil
  | _, _, _ + 1, .nil => .nil
  | _, _, n + 1, .cons r t => .cons r (Vals.take n t)
theorem Vals.drop:∀ {xs:List V} {us:List Value} (n:Nat),Vals xs us→Vals (xs.drop n) (us.drop n)
  | _, _, 0, r => r
  | _, _, _ + 1, .nil => .nil
  | _, _, n + 1, .cons _ t => Vals.drop n t
def RelO:Option V→Option Value→Prop
  | some v, some u => RelV v u
  | none, none => True
  | _, _ => False
def KV {κ:Type}:List (κ×V)→List (κ×Value)→Prop:=Paired fun (p:κ×V) (q:κ×Value)=>p.1=q.1∧RelV p.2 q.2
def kV:Key→V
  | .inl i => .int i
  | .inr x => .str x
inductive HO where
  /-- a list -/
  | lst (xs : List V)
  /-- a tuple (never changes) -/
  | tup (xs : List V)
  /-- a dict whose keys are ints and texts; one whose keys are tuples of ints and texts (the empty one is both) -/
  | dK (kvs : List (Key × V)) | dT (kvs : List (List Key × V))
  /-- a set of ints: its members, its size -/
  | set (S : Int → Bool) (n : Nat)
  /-- an instance of the class at C, its dict at dx, its attributes -/
  | ins (C dx : Addr) (fs : List (Str × V))
  /-- the dict of the instance at x -/
  | own (x : Addr)
  /-- the dict of an exception -/
  | xd (fs : List (Str × V))
  /-- a bound method, f of x -/
  | met (f x : Addr)
  /-- a range object lo, lo + 1, .. below hi -/
  | rng (lo hi : Int)
  /-- a thing that is known to the object (the script; a dict while a loop walks it): read, never written while it is so -/
  | frz (o : Obj) (u : HO)
  /-- a code object's table -/
  | tbl (ps : Array Value)
  /-- any other thing, by what is true of its one object (a def of one's own: SetO a S n := HO.ext fun h => ..) -/
  | ext (φ : Heap → Prop)
abbrev Hp:=Addr→Option HO
def upd (H:Hp) (a:Addr) (o:HO):Hp:=fun b=>if b=a then some o else H b
theorem a'u {H:Hp} {a:Addr} {o:HO}:upd H a o a=some o:=by unfold upd;rw [if_pos rfl]
theorem a'h {H:Hp} {a b:Addr} {o:HO} (h:b≠a):upd H a o b=H b:=by unfold upd;rw [if_neg h]
theorem a'q {H:Hp} {a b:Addr} {o:HO} (h:H a=some o) (h':H b=none):a≠b:=by
  intro e;subst e;rw [h] at h';cases h'
section
variable (P:Program) (w:World)
def ObjOk (H:Hp) (h:Heap) (a:Addr):HO→Prop
  | .lst xs => xs.length ≤ sizeLine ∧ ∃ (its : List Value) (n : Nat), Vals xs its ∧ h.get? a = some { cls := .type "list", data := .seq its.toArray n }
  | .tup xs => xs.length ≤ sizeLine ∧ ∃ its : List Value, Vals xs its ∧ IsTup h a its.toArray
  | .dK kvs => kvs.length ≤ sizeLine ∧ (a == sysModules) = false ∧ ∃ vs, KV kvs vs ∧ h.DictOf (mixKind P w) a vs
  | .dT kvs => kvs.length ≤ sizeLine ∧ (a == sysModules) = false ∧ ∃ xs : List (List Key × Addr × Value),
      Paired (fun (p:List Key×V) (q:List Key×Addr×Value)=>p.1=q.1∧H q.2.1=some (.tup (p.1.map kV))∧RelV p.2 q.2.2) kvs xs∧
      ∃ o es ep,h.get? a=some o∧o.ExactDict∧o.data=.dict es ep∧es.toList=xs.map (entryOfKey (tupleKind (mixKind P w)))∧(xs.map (·.1)).Nodup
  | .set S n => h.SetOf (intKind P w) a S n
  | .ins C dx fs => H dx = some (.own a) ∧ fs.length ≤ 1000 ∧ dx ≠ a ∧ h.get? a = some (PySem.W.instObj C dx) ∧
      ∃ mA,h.Ns1 dx mA∧(∀ f,RelO (fs.lookup f) (mA f))∧PySem.Within mA (fs.map (·.1))
  | .own _ => ∃ o, h.get? a = some o
  | .xd fs => ∃ mA, h.Ns1 a mA ∧ ∀ f, RelO (fs.lookup f) (mA f)
  | .rng lo hi => ∃ t u v, h.get? a = some { cls := .type "range", data := .fields #[.int lo t, .int hi u, .int 1 v] }
  | .frz o u => h.get? a = some o ∧ ObjOk H h a u
  | .tbl ps => h.get? a = some { cls := .none, data := .fields ps }
  | .met f x => h.get? a = some (PySem.W.methodObj (.ref f) (.ref x))
  | .ext φ => φ h ∧ (∃ o, h.get? a = some o) ∧ ∀ h1 h2 : Heap, φ h1 → (∀ o, h1.get? a = some o → h2.get? a = some o) → φ h2
def HOk (H:Hp) (h:Heap):Prop:=∀ a o,H a=some o→ObjOk P w H h a o
end
section
variable {P:Program} {w:World} {H H':Hp} {h h':Heap} {a:Addr} {o:HO}
theorem ObjOk.lt (x:ObjOk P w H h a o):a<h.objs.size:=by
  cases o with
  | lst xs => obtain ⟨_, _, _, _, e⟩ := x; exact Heap.lt_size e
  | tup xs => obtain ⟨_, _, _, p⟩ := x; exact p.lt
  | dK kvs => obtain ⟨_, _, _, _, o, _, _, e, _⟩ := x; exact Heap.lt_size e
  | dT kvs => obtain ⟨_, _, _, _, o, _, _, e, _⟩ := x; exact Heap.lt_size e
  | set S n => obtain ⟨o, _, _, _, e, _⟩ := x; exact Heap.lt_size e
  | ins C dx fs => obtain ⟨_, _, _, e, _⟩ := x; exact Heap.lt_size e
  | own y => obtain ⟨_, e⟩ := x; exact Heap.lt_size e
  | xd fs => obtain ⟨_, ⟨_, _, _, e, _⟩, _⟩ := x; exact Heap.lt_size e
  | rng lo hi => obtain ⟨_, _, _, e⟩ := x; exact Heap.lt_size e
  | frz ob u => obtain ⟨e, _⟩ := x; exact Heap.lt_size e
  | tbl ps => exact Heap.lt_size (show h.get? a = some _ from x)
  | met f y => exact Heap.lt_size (show h.get? a = some _ from x)
  | ext φ => obtain ⟨_, ⟨_, e⟩, _⟩ := x; exact Heap.lt_size e
theorem Paired.mapP {α β:Type} {F G:α→β→Prop}:∀ {l₁:List α} {l₂:List β},Paired F l₁ l₂→(∀ a b,F a b→G a b)→Paired G l₁ l₂
  | _, _, .nil, _ => .nil
  | _, _, .cons r t, f => .cons (f _ _ r) (Paired.mapP t f)
theorem ObjOk.stay (x:ObjOk P w H h a o) (k:∀ b u,(b=a∨H b=some (.own a))→h.get? b=some u→h'.get? b=some u)
    (ho:∀ b,H b=some (.own a)→H' b=some (.own a)) (ht:∀ b xs,H b=some (.tup xs)→H' b=some (.tup xs)):ObjOk P w H' h' a o:=by
  induction o with
  | lst xs => obtain ⟨z, its, n, r, e⟩ := x; exact ⟨z, its, n, r, k _ _ (.inl rfl) e⟩
  | tup xs => obtain ⟨z, its, r, ob, e, c⟩ := x; exact ⟨z, its, r, ob, k _ _ (.inl rfl) e, c⟩
  | dK kvs => obtain ⟨z, y, vs, r, ob, es, ep, e, c⟩ := x; exact ⟨z, y, vs, r, ob, es, ep, k _ _ (.inl rfl) e, c⟩
  | dT kvs =>
    obtain⟨z,y,xs,r,ob,es,ep,e,c⟩:=x
    exact⟨z,y,xs,Paired.mapP r fun p q z=>⟨z.1,ht _ _ z.2.1,z.2.2⟩,ob,es,ep,k _ _ (.inl rfl) e,c⟩
  | set S n => obtain ⟨ob, es, ep, t, e, c⟩ := x; exact ⟨ob, es, ep, t, k _ _ (.inl rfl) e, c⟩
  | ins C dx fs =>
    obtain⟨d,z,ne,e,mA,⟨od,es,ep,e2,c⟩,r⟩:=x
    exact⟨ho _ d,z,ne,k _ _ (.inl rfl) e,mA,⟨od,es,ep,k _ _ (.inr d) e2,c⟩,r⟩
  | own y => obtain ⟨ob, e⟩ := x; exact ⟨ob, k _ _ (.inl rfl) e⟩
  | xd fs => obtain ⟨mA, ⟨od, es, ep, e, c⟩, r⟩ := x; exact ⟨mA, ⟨od, es, ep, k _ _ (.inl rfl) e, c⟩, r⟩
  | rng lo hi => obtain ⟨t, u, v, e⟩ := x; exact ⟨t, u, v, k _ _ (.inl rfl) e⟩
  | frz ob u ih => obtain ⟨e, q⟩ := x; exact ⟨k _ _ (.inl rfl) e, ih q⟩
  | tbl ps =>
    have e:h.get? a=some { cls:=.none,data:=.fields ps }:=x
    show h'.get? a=some { cls:=.none,data:=.fields ps }
    exact k a _ (.inl rfl) e
  | met f y =>
    have e:h.get? a=some (PySem.W.methodObj (.ref f) (.ref y)):=x
    show h'.get? a=some (PySem.W.methodObj (.ref f) (.ref y))
    exact k a _ (.inl rfl) e
  | ext φ => obtain ⟨p, ⟨o, e⟩, st⟩ := x; exact ⟨st _ _ p fun o q => k _ _ (.inl rfl) q, ⟨o, k _ _ (.inl rfl) e⟩, st⟩
theorem HOk.lt (x:HOk P w H h) (e:H a=some o):a<h.objs.size:=(x a o e).lt
theorem HOk.fresh (x:HOk P w H h) (e:h.objs.size≤a):H a=none:=by
  cases q:H a with
  | none => rfl
  | some u => exact absurd (Nat.lt_of_lt_of_le (x.lt q) e) (Nat.lt_irrefl _)
theorem HOk.kept (x:HOk P w H h) (k:∀ b u,h.get? b=some u→h'.get? b=some u):HOk P w H h':=fun a o e=>
  (x a o e).stay (fun b u _ q=>k b u q) (fun _ q=>q) fun _ _ q=>q
theorem HOk.laid (x:HOk P w H h) (k:∀ b u,h.get? b=some u→h'.get? b=some u) (hp:h.objs.size≤a) (new:ObjOk P w (upd H a o) h' a o):HOk P w (upd H a o) h':=fun b u e=>by
  have hn:=x.fresh hp
  by_cases hb:b=a
  · subst hb;rw [a'u] at e;cases e;exact new
  · rw [a'h hb] at e
    exact (x b u e).stay (fun c v _ q=>k c v q) (fun c q=>by rw [a'h (a'q q hn)];exact q) fun c xs q=>by rw [a'h (a'q q hn)];exact q
end
def Rd (H:Hp) (a:Addr) (u:HO):Prop:=H a=some u∨∃ o,H a=some (.frz o u)
theorem Rd.of {H:Hp} {a:Addr} {u:HO} (h:H a=some u):Rd H a u:=.inl h
theorem Rd.ok {P:Program} {w:World} {H:Hp} {h:Heap} {a:Addr} {u:HO} (r:Rd H a u) (x:HOk P w H h):ObjOk P w H h a u:=by
  rcases r with r | ⟨o,r⟩
  · exact x a u r
  · obtain⟨_,q⟩:=x a _ r
    exact q
def Mut:Option HO→Prop
  | some (.lst _) => True
  | some (.dK _) => True
  | some (.dT _) => True
  | some (.set _ _) => True
  | some (.ins _ _ _) => True
  | some (.ext _) => True
  | _ => False
section
variable {P:Program} {w:World} {H:Hp} {h h':Heap} {x e:Addr} {o':HO}
theorem HOk.write (ok:HOk P w H h) (mu:Mut (H x)) (he:e=x∨H e=some (.own x)) (k:∀ b u,b≠e→h.get? b=some u→h'.get? b=some u) (heo:∃ u,h'.get? e=some u)
    (new:ObjOk P w (upd H x o') h' x o'):HOk P w (upd H x o') h':=fun b u q=>by
  have nown:∀ c y,H c=some (.own y)→c≠x:=fun c y r z=>by subst z;rw [r] at mu;exact mu
  have ntup:∀ c xs,H c=some (.tup xs)→c≠x:=fun c xs r z=>by subst z;rw [r] at mu;exact mu
  by_cases hb:b=x
  · subst hb;rw [a'u] at q;cases q;exact new
  · rw [a'h hb] at q
    by_cases hbe:b=e
    · have q':H b=some (.own x):=by
        rcases he with z | z
        · exact absurd (hbe.trans z) hb
        · rw [hbe];exact z
      rw [q] at q';cases q'
      obtain⟨v,hv⟩:=heo
      exact⟨v,by rw [hbe];exact hv⟩
    · refine (ok b u q).stay (fun c v hc r=>k c v ?_ r) (fun c r=>by rw [a'h (nown c b r)];exact r) fun c xs r=>by rw [a'h (ntup c xs r)];exact r
      rcases hc with rfl | hc
      · exact hbe
      · rintro rfl
        rcases he with z | z
        · exact nown c b hc z
        · rw [hc] at z;cases z;exact hb rfl
end
structure Un (fs ex:List Addr) (H H':Hp) (h h':Heap):Prop where
  keep:∀ b o,h.get? b=some o→H b=none→b ∉ fs→b ∉ ex→h'.get? b=some o
  slot:∀ b o,h.get? b=some o→H b=none→b∈fs→b ∉ ex→∃ sl,h'.get? b=some { o with slots:=sl }
  free:∀ b o,h.get? b=some o→H b=none→b ∉ ex→H' b=none
  there:∀ b o,h.get? b=some o→b ∉ ex→∃ o',h'.get? b=some o'
  tups:∀ b xs,H b=some (.tup xs)→H' b=some (.tup xs)
  frzs:∀ b o u,H b=some (.frz o u)→H' b=some (.frz o u)
  tbls:∀ b ps,H b=some (.tbl ps)→∃ more,H' b=some (.tbl (ps++more))
section
variable {fs fs' ex ex':List Addr} {H H1 H2:Hp} {h h1 h2 h':Heap} {a x e:Addr} {o:HO}
theorem Un.any (u:Un fs ex H H1 h h1) {b:Addr} {ob:Obj} (q:h.get? b=some ob) (n:H b=none) (hx:b ∉ ex):∃ sl,h1.get? b=some { ob with slots:=sl }:=by
  by_cases hb:b∈fs
  · exact u.slot b ob q n hb hx
  · exact⟨ob.slots,u.keep b ob q n hb hx⟩
theorem Un.kept (k:∀ b u,h.get? b=some u→h'.get? b=some u):Un fs ex H H h h':=
  ⟨fun b ob q _ _ _=>k b ob q,fun b ob q _ _ _=>⟨ob.slots,k b ob q⟩,fun _ _ _ n _=>n,fun b ob q _=>⟨ob,k b ob q⟩,fun _ _ q=>q,fun _ _ _ q=>q,fun _ ps q=>⟨#[],by rw [q];simp⟩⟩
theorem Un.refl:Un fs ex H H h h:=Un.kept fun _ _ q=>q
theorem Un.laid (k:∀ b u,h.get? b=some u→h'.get? b=some u) (hp:h.objs.size≤a) (hn:H a=none):Un fs ex H (upd H a o) h h' where
  keep:=fun b u q _ _ _=>k b u q
  slot:=fun b u q _ _ _=>⟨u.slots,k b u q⟩
  free:=fun b u q n _=>by rw [a'h (Nat.ne_of_lt (Nat.lt_of_lt_of_le (Heap.lt_size q) hp))];exact n
  there:=fun b u q _=>⟨u,k b u q⟩
  tups:=fun b xs q=>by rw [a'h (a'q q hn)];exact q
  frzs:=fun b u xs q=>by rw [a'h (a'q q hn)];exact q
  tbls:=fun b ps q=>⟨#[],by rw [a'h (a'q q hn),q];simp⟩
theorem Un.write (mu:Mut (H x)) (he:e=x∨H e=some (.own x)) (k:∀ b u,b≠e→h.get? b=some u→h'.get? b=some u) (heo:∃ u,h'.get? e=some u):Un fs ex H (upd H x o) h h':=by
  have hx:∀ b,H b=none→b≠x:=fun b n z=>by subst z;rw [n] at mu;exact mu
  have hb:∀ b,H b=none→b≠e:=fun b n z=>by
    subst z
    rcases he with r | r
    · exact hx b n r
    · rw [n] at r;cases r
  have hm:∀ b u,H b=some u→¬ Mut (some u)→b≠x:=fun b u q nm z=>by subst z;rw [q] at mu;exact nm mu
  refine⟨fun b u q n _ _=>k b u (hb b n) q,fun b u q n _ _=>⟨u.slots,k b u (hb b n) q⟩,fun b u q n _=>by rw [a'h (hx b n)];exact n,fun b u q _=>?_,
    fun b xs q=>by rw [a'h (hm b _ q fun z=>z)];exact q,fun b u xs q=>by rw [a'h (hm b _ q fun z=>z)];exact q,fun b ps q=>⟨#[],by rw [a'h (hm b _ q fun z=>z),q];simp⟩⟩
  by_cases hbe:b=e
  · subst hbe;exact heo
  · exact⟨u,k b u hbe q⟩
end
def trk (h:Heap) (H:Hp):List Addr:=(List.range h.objs.size).filter fun a=>(H a).isSome
def hidT (h:Heap) (H:Hp):Heap:=PySem.W.hideAll h (trk h H)
theorem g't (h:Heap) (H:Hp):(hidT h H).objs.size=h.objs.size:=PySem.W.hideAll_size _ _
theorem i'F {h:Heap} {H:Hp} {b:Addr} {o:Obj} (e:h.get? b=some o) (n:H b=none):(hidT h H).get? b=some o:=
  PySem.W.hideAll_get _ e fun hm=>by
    have q:(H b).isSome=true:=(List.mem_filter.mp hm).2
    rw [n] at q;simp at q
theorem l'g {h:Heap} {H:Hp} {b:Addr} {o:Obj} (e:(hidT h H).get? b=some o):h.get? b=some o∧H b=none:=by
  have e':h.get? b=some o:=PySem.W.of_hideAll (trk h H) e
  refine⟨e',?_⟩
  cases q:H b with
  | none => rfl
  | some x =>
    have hm:b∈trk h H:=List.mem_filter.mpr ⟨List.mem_range.mpr (Heap.lt_size e'),by simp [q]⟩
    have z:(hidT h H).get? b=none:=PySem.W.hideAll_none (trk h H) hm
    rw [z] at e;cases e
end L2
namespace L2
open PySem PySem.Spec PyProof.Rows
structure Mod (K:PySem.W.Frag) (mg:Str→Option Value) (base:Heap):Prop where
  kin:K.In base
  glob:base.Ns mainGlobals mg
  blt:∃ mb,base.Ns builtinsNs mb∧∀ x:Str,x≠"__name__"→mb x=bootBuiltins x
  nolimit:base.NoLimit
structure Cx where
  prog:Program
  w:World
  K:PySem.W.Frag
  mg:Str→Option Value
  base:Heap
  A:Around
  N:List Str
  s₀:Shared
  H₀:Hp
  env:Env
  outer:List Env
  stack:List Env
  ex:List Addr
  fn:Str→Bool
  calm:Bool
  pn:List (Addr×Obj)
  xe:Value→Shared→Prop
def frs (l:List Env):List Addr:=l.filterMap (·.frame)
abbrev Cx.fs (X:Cx):List Addr:=frs X.outer
def Vis (sc:Scope) (x:Str):Prop:=sc.names.lookup x=some .local∨sc.names.lookup x=some .cell∨sc.names.lookup x=some .free
def Loc (sc:Scope) (x:Str):Prop:=sc.names.lookup x=some .local∨sc.names.lookup x=some .cell
def Look (env:Env) (h:Heap) (m:Str→Option Value) (x:Str) (u:Value):Prop:=
  (env.kindOf x=some .local∧m x=some u)∨((env.kindOf x=some .cell∨env.kindOf x=some .free)∧∃ c,env.cells.lookup x=some c∧h.IsCell c (some u))
structure Cx.Ok (X:Cx):Prop where
  mod:Mod X.K X.mg X.base
  kind:X.env.scope.kind=.function
  glob:X.env.globals=mainGlobals
  blt:X.env.builtins=builtinsNs
  above:X.s₀.heap.objs.size≤X.env.locals
  inj:∀ x y c,X.env.cells.lookup x=some c→X.env.cells.lookup y=some c→x=y
  has:∀ x,(X.env.kindOf x=some .cell∨X.env.kindOf x=some .free)→∃ c,X.env.cells.lookup x=some c
  cab:∀ x c,X.fn x=true→X.env.cells.lookup x=some c→X.s₀.heap.objs.size≤c
  hd:X.calm=true→X.A.handled=none
  frames:X.A.frames=some X.stack
  stk:X.stack=X.outer∨(X.stack=X.env :: X.outer∧X.env.frame=some X.env.locals)
  exf:∀ b∈X.ex,b≠X.env.locals∧∀ x c,X.env.cells.lookup x=some c→c≠b
  bs:∀ b o,X.base.get? b=some o→X.s₀.heap.get? b=some o∧X.H₀ b=none
  bsz:X.base.objs.size≤X.s₀.heap.objs.size
  noex:∀ b o,X.base.get? b=some o→b ∉ X.ex
  exfs:∀ b∈X.ex,b ∉ X.fs
  funs:X.s₀.heap.FunFrames X.base X.outer
  frf:∀ b∈X.fs,X.H₀ b=none
structure Inv (X:Cx) (pins:List (Addr×Obj)) (σ:List (Option V)) (H:Hp) (s:Shared):Prop where
  ok:X.Ok
  os:s.os=X.s₀.os
  bare:AllBare s.gens
  base:Un X.fs X.ex X.H₀ H X.s₀.heap s.heap
  loc:∃ m,s.heap.Ns X.env.locals m∧∀ (i:Nat) (x:Str) (v:V),X.N[i]?=some x→σ[i]?=some (some v)→Vis X.env.scope x→∃ u,RelV v u∧Look X.env s.heap m x u
  cell:∀ x c,X.env.cells.lookup x=some c→∃ v,s.heap.IsCell c v
  free:H X.env.locals=none
  freeC:∀ x c,X.env.cells.lookup x=some c→H c=none
  pin:∀ p∈X.pn++pins,s.heap.get? p.1=some p.2∧H p.1=none∧p.1≠X.env.locals∧p.1 ∉ X.fs∧∀ v,p.2.data≠.cell v
  hok:HOk X.prog X.w H s.heap
  len:σ.length=X.N.length
section
variable {X:Cx} {pins:List (Addr×Obj)} {σ:List (Option V)} {H H':Hp} {s:Shared} {h':Heap}
theorem Cx.Ok.nofr (ok:X.Ok) {b:Addr} {o:Obj} (e:X.base.get? b=some o):b ∉ X.fs:=fun hb=>by
  have:=(ok.funs.mem hb).1
  rw [e] at this;cases this
theorem Inv.bs (I:Inv X pins σ H s):∀ b o,X.base.get? b=some o→s.heap.get? b=some o∧H b=none:=fun b o e=>
  ⟨I.base.keep b o (I.ok.bs b o e).1 (I.ok.bs b o e).2 (I.ok.nofr e) (I.ok.noex b o e),I.base.free b o (I.ok.bs b o e).1 (I.ok.bs b o e).2 (I.ok.noex b o e)⟩
theorem Inv.bk (I:Inv X pins σ H s):∀ b o,X.base.get? b=some o→s.heap.get? b=some o:=fun b o e=>(I.bs b o e).1
theorem Inv.mod (I:Inv X pins σ H s):Mod X.K X.mg X.base:=I.ok.mod
theorem Inv.kIn (I:Inv X pins σ H s):X.K.In s.heap:=I.ok.mod.kin.keeps I.bk
theorem Inv.lt (I:Inv X pins σ H s):X.env.locals<s.heap.objs.size:=let ⟨_,hn,_⟩:=I.loc;hn.lt
theorem Inv.sz (I:Inv X pins σ H s):X.s₀.heap.objs.size≤s.heap.objs.size:=Nat.le_trans I.ok.above (Nat.le_of_lt I.lt)
theorem Inv.nofs (I:Inv X pins σ H s) {a:Addr} (h:s.heap.objs.size≤a):a ∉ X.fs:=fun hb=>by
  obtain⟨_,o,ho,_⟩:=I.ok.funs.mem hb
  exact absurd (Nat.lt_of_lt_of_le (Heap.lt_size ho) (Nat.le_trans I.sz h)) (Nat.lt_irrefl _)
theorem Inv.cne (I:Inv X pins σ H s):∀ x c,X.env.cells.lookup x=some c→c≠X.env.locals:=fun x c e z=>by
  obtain⟨v,o,ho,hd⟩:=I.cell x c e
  obtain⟨m,⟨o',es,ep,ho',hd',_⟩,_⟩:=I.loc
  rw [z,ho'] at ho;cases ho;rw [hd'] at hd;cases hd
theorem Inv.funs (I:Inv X pins σ H s):s.heap.FunFrames X.base X.outer:=by
  have all:∀ (l:List Env),(∀ b∈frs l,b∈X.fs)→X.s₀.heap.FunFrames X.base l→s.heap.FunFrames X.base l:=by
    intro l
    induction l with
    | nil=>intro _ _;trivial
    | cons env r ih=>
      intro hs hl
      obtain⟨hk,⟨L,o,hf,hn,ho,hd⟩,hr⟩:=hl
      have hL:L∈X.fs:=hs L (by unfold frs;rw [List.filterMap_cons,hf];exact List.mem_cons_self)
      obtain⟨sl,e⟩:=I.base.slot L o ho (I.ok.frf L hL) hL fun z=>I.ok.exfs L z hL
      exact⟨hk,⟨L,_,hf,hn,e,hd⟩,ih (fun b hb=>hs b (by unfold frs;rw [List.filterMap_cons,hf];exact List.mem_cons_of_mem _ hb)) hr⟩
  exact all X.outer (fun _ hb=>hb) I.ok.funs
theorem Inv.stack (I:Inv X pins σ H s):s.heap.FunFrames X.base X.stack:=by
  rcases I.ok.stk with e | ⟨e,hf⟩
  · rw [e];exact I.funs
  · rw [e]
    obtain⟨m,hn,_⟩:=I.loc
    refine .cons (by rw [I.ok.kind];decide) hf hn ?_ I.funs
    exact Heap.get?_none_of_le (Nat.le_trans I.ok.bsz I.ok.above)
theorem Inv.stkSub (I:Inv X pins σ H s):∀ b∈frs X.stack,b∈X.env.locals :: X.fs:=fun b hb=>by
  rcases I.ok.stk with e | ⟨e,hf⟩
  · rw [e] at hb;exact List.mem_cons_of_mem _ hb
  · rw [e] at hb
    unfold frs at hb
    rw [List.filterMap_cons,hf] at hb
    exact hb
theorem Inv.stkFree (I:Inv X pins σ H s):∀ b∈frs X.stack,H b=none:=fun b hb=>by
  rcases List.mem_cons.mp (I.stkSub b hb) with e | hb
  · rw [e];exact I.free
  · obtain⟨_,o,ho,_⟩:=I.ok.funs.mem hb
    exact I.base.free b o ho (I.ok.frf b hb) fun z=>I.ok.exfs b z hb
theorem Inv.step {g':Array GenState} {t':Nat} {d':Drawn} {ch:List Addr} (I:Inv X pins σ H s)
    (hch:∀ b∈ch,(b∈X.ex∨X.s₀.heap.objs.size≤b)∧b≠X.env.locals∧(∀ x c,X.env.cells.lookup x=some c→c≠b)∧∀ p∈X.pn++pins,p.1≠b)
    (keep:∀ b o,b≠X.env.locals→b ∉ X.fs→b ∉ ch→s.heap.get? b=some o→H b=none→h'.get? b=some o)
    (slot:∀ b o,b≠X.env.locals→b∈X.fs→b ∉ ch→s.heap.get? b=some o→H b=none→∃ sl,h'.get? b=some { o with slots:=sl }) (free:∀ b o,b ∉ ch→s.heap.get? b=some o→H b=none→H' b=none)
    (there:∀ b o,b ∉ ch→s.heap.get? b=some o→∃ o',h'.get? b=some o')
    (tups:∀ b xs,H b=some (.tup xs)→H' b=some (.tup xs)) (frzs:∀ b o u,H b=some (.frz o u)→H' b=some (.frz o u)) (tbls:∀ b ps,H b=some (.tbl ps)→∃ more,H' b=some (.tbl (ps++more)))
    (ns:∀ m,s.heap.Ns X.env.locals m→h'.Ns X.env.locals m) (hok:HOk X.prog X.w H' h') (hg:AllBare g') :
    Inv X pins σ H' { s with heap:=h',gens:=g',drawn:=d',toks:=t' }:=by
  have neL:∀ b o,X.s₀.heap.get? b=some o→b≠X.env.locals:=fun b o e=>Nat.ne_of_lt (Nat.lt_of_lt_of_le (Heap.lt_size e) I.ok.above)
  have neC:∀ b o,X.s₀.heap.get? b=some o→b ∉ X.ex→b ∉ ch:=fun b o e hx hb=>by
    rcases (hch b hb).1 with z | z
    · exact hx z
    · exact absurd (Nat.lt_of_lt_of_le (Heap.lt_size e) z) (Nat.lt_irrefl _)
  have cellK:∀ x c,X.env.cells.lookup x=some c→∀ v,s.heap.IsCell c v→h'.IsCell c v:=fun x c e v ⟨o,ho,hd⟩=>by
    have nch:c ∉ ch:=fun z=>(hch c z).2.2.1 x c e rfl
    by_cases hc:c∈X.fs
    · obtain⟨sl,q⟩:=slot c o (I.cne x c e) hc nch ho (I.freeC x c e)
      exact⟨_,q,hd⟩
    · exact⟨o,keep c o (I.cne x c e) hc nch ho (I.freeC x c e),hd⟩
  refine⟨I.ok,I.os,hg,⟨fun b o e n hb hx=>?_,fun b o e n hb hx=>?_,fun b o e n hx=>?_,fun b o e hx=>?_,fun b xs e=>tups b xs (I.base.tups b xs e),fun b o xs e=>frzs b o xs (I.base.frzs b o xs e),fun b ps e=>?_⟩,?_,fun x c e=>?_,?_,fun x c e=>?_,fun p hp=>?_,hok,I.len⟩
  · exact keep b o (neL b o e) hb (neC b o e hx) (I.base.keep b o e n hb hx) (I.base.free b o e n hx)
  · obtain⟨sl,e1⟩:=I.base.slot b o e n hb hx
    obtain⟨sl',e2⟩:=slot b _ (neL b o e) hb (neC b o e hx) e1 (I.base.free b o e n hx)
    exact⟨sl',e2⟩
  · obtain⟨o',e1⟩:=I.base.there b o e hx
    exact free b o' (neC b o e hx) e1 (I.base.free b o e n hx)
  · obtain⟨o',e1⟩:=I.base.there b o e hx
    exact there b o' (neC b o e hx) e1
  · obtain⟨m1,e1⟩:=I.base.tbls b ps e
    obtain⟨m2,e2⟩:=tbls b _ e1
    exact⟨m1++m2,by rw [e2,Array.append_assoc]⟩
  · obtain⟨m,hn,hl⟩:=I.loc
    refine⟨m,ns m hn,fun i x v e1 e2 e3=>?_⟩
    obtain⟨u,r,l⟩:=hl i x v e1 e2 e3
    refine⟨u,r,?_⟩
    rcases l with l | ⟨k,c,e,z⟩
    · exact .inl l
    · exact .inr ⟨k,c,e,cellK x c e _ z⟩
  · obtain⟨v,z⟩:=I.cell x c e
    exact⟨v,cellK x c e v z⟩
  · obtain⟨m,⟨o,_,_,ho,_⟩,_⟩:=I.loc
    exact free _ o (fun z=>(hch _ z).2.1 rfl) ho I.free
  · obtain⟨v,o,ho,hd⟩:=I.cell x c e
    exact free c o (fun z=>(hch c z).2.2.1 x c e rfl) ho (I.freeC x c e)
  · obtain⟨e,n,ne,nf,d⟩:=I.pin p hp
    have nch:p.1 ∉ ch:=fun z=>(hch p.1 z).2.2.2 p hp rfl
    exact⟨keep p.1 p.2 ne nf nch e n,free p.1 p.2 nch e n,ne,nf,d⟩
theorem Inv.un {t':Nat} (I:Inv X pins σ H s) (u:Un X.fs [] H H' s.heap h') (hok:HOk X.prog X.w H' h'):Inv X pins σ H' { s with heap:=h',toks:=t' }:=by
  obtain⟨m,⟨o,es,ep,ho,r⟩,_⟩:=id I.loc
  obtain⟨sl,hL⟩:=u.any ho I.free (by simp)
  exact I.step (g':=s.gens) (d':=s.drawn) (ch:=[]) (fun _ z=>nomatch z) (fun b o _ hb _ e n=>u.keep b o e n hb (by simp)) (fun b o _ hb _ e n=>u.slot b o e n hb (by simp)) (fun b o _ e n=>u.free b o e n (by simp)) (fun b o _ e=>u.there b o e (by simp)) u.tups u.frzs u.tbls (fun m' hm=>by
    obtain⟨o',es',ep',ho',r'⟩:=hm
    rw [ho] at ho';cases ho'
    exact⟨_,es',ep',hL,r'⟩) hok I.bare
theorem Inv.call {g':Array GenState} {t':Nat} {d':Drawn} {ch:List Addr} (I:Inv X pins σ H s) (u:Un (frs X.stack) ch H H' s.heap h') (hok:HOk X.prog X.w H' h') (hg:AllBare g')
    (hch:∀ b∈ch,(b∈X.ex∨X.s₀.heap.objs.size≤b)∧b≠X.env.locals∧(∀ x c,X.env.cells.lookup x=some c→c≠b)∧∀ p∈X.pn++pins,p.1≠b) :
    Inv X pins σ H' { s with heap:=h',gens:=g',drawn:=d',toks:=t' }:=by
  obtain⟨m,⟨o,es,ep,ho,r⟩,_⟩:=id I.loc
  obtain⟨sl,hL⟩:=u.any ho I.free fun z=>(hch _ z).2.1 rfl
  exact I.step (ch:=ch) hch (fun b o hL hb hc e n=>u.keep b o e n (fun z=>(List.mem_cons.mp (I.stkSub b z)).elim hL hb) hc) (fun b o _ _ hc e n=>u.any e n hc) (fun b o hc e n=>u.free b o e n hc) (fun b o hc e=>u.there b o e hc) u.tups u.frzs u.tbls (fun m' hm=>by
    obtain⟨o',es',ep',ho',r'⟩:=hm
    rw [ho] at ho';cases ho'
    exact⟨_,es',ep',hL,r'⟩) hok hg
theorem Inv.turned {t':Nat} {it:Addr} (I:Inv X pins σ H s) (k:∀ b o,b≠it→s.heap.get? b=some o→h'.get? b=some o) (hn:H it=none) (hL:it≠X.env.locals)
    (h1:it∈X.ex∨X.s₀.heap.objs.size≤it) (h2:∀ x c,X.env.cells.lookup x=some c→c≠it) (h3:∀ p∈X.pn++pins,p.1≠it):Inv X pins σ H { s with heap:=h',toks:=t' }:=by
  have nit:∀ b u,H b=some u→b≠it:=fun b u e z=>by rw [z,hn] at e;cases e
  refine I.step (g':=s.gens) (d':=s.drawn) (ch:=[it]) (fun b hb=>?_) (fun b o _ _ hc e _=>k b o (fun z=>hc (by simp [z])) e) (fun b o _ _ hc e _=>⟨o.slots,k b o (fun z=>hc (by simp [z])) e⟩) (fun _ _ _ _ n=>n)
    (fun b o hc e=>⟨o,k b o (fun z=>hc (by simp [z])) e⟩) (fun _ _ e=>e) (fun _ _ _ e=>e) (fun b ps e=>⟨#[],by rw [e];simp⟩) (fun m hm=>?_) (fun b u e=>?_) I.bare
  · have e:b=it:=by simpa using hb
    subst e
    exact⟨h1,hL,h2,h3⟩
  · obtain⟨o,es,ep,ho,r⟩:=hm
    exact⟨o,es,ep,k _ o (Ne.symm hL) ho,r⟩
  · refine (I.hok b u e).stay (fun c v hc q=>k c v ?_ q) (fun _ q=>q) fun _ _ q=>q
    rcases hc with z | z
    · rw [z];exact nit b u e
    · exact nit c _ z
theorem Inv.tok (I:Inv X pins σ H s) (t:Nat):Inv X pins σ H { s with toks:=t }:=I.un (h':=s.heap) (t':=t) Un.refl I.hok
theorem Inv.kept {t':Nat} (I:Inv X pins σ H s) (k:∀ b u,s.heap.get? b=some u→h'.get? b=some u):Inv X pins σ H { s with heap:=h',toks:=t' }:=I.un (Un.kept k) (I.hok.kept k)
theorem Inv.laid {a:Addr} {o:HO} {t':Nat} (I:Inv X pins σ H s) (k:∀ b u,s.heap.get? b=some u→h'.get? b=some u) (hp:s.heap.objs.size≤a) (new:ObjOk X.prog X.w (upd H a o) h' a o) :
    Inv X pins σ (upd H a o) { s with heap:=h',toks:=t' }:=I.un (Un.laid k hp (I.hok.fresh hp)) (I.hok.laid k hp new)
theorem Inv.write {x e:Addr} {o:HO} {t':Nat} (I:Inv X pins σ H s) (mu:Mut (H x)) (he:e=x∨H e=some (.own x)) (k:∀ b u,b≠e→s.heap.get? b=some u→h'.get? b=some u) (heo:∃ u,h'.get? e=some u)
    (new:ObjOk X.prog X.w (upd H x o) h' x o):Inv X pins σ (upd H x o) { s with heap:=h',toks:=t' }:=I.un (Un.write mu he k heo) (I.hok.write mu he k heo new)
theorem Inv.weak {σ':List (Option V)} (I:Inv X pins σ H s) (hl:σ'.length=σ.length) (w:∀ (i:Nat) v,σ'[i]?=some (some v)→σ[i]?=some (some v)):Inv X pins σ' H s:=
  ⟨I.ok,I.os,I.bare,I.base,let ⟨m,hn,hl'⟩:=I.loc;⟨m,hn,fun i x v e1 e2 e3=>hl' i x v e1 (w i v e2) e3⟩,I.cell,I.free,I.freeC,I.pin,I.hok,hl.trans I.len⟩
theorem Inv.pins_of {pins':List (Addr×Obj)} (I:Inv X pins σ H s) (h:∀ p∈pins',s.heap.get? p.1=some p.2∧H p.1=none∧p.1≠X.env.locals∧p.1 ∉ X.fs∧∀ v,p.2.data≠.cell v):Inv X pins' σ H s:=
  ⟨I.ok,I.os,I.bare,I.base,I.loc,I.cell,I.free,I.freeC,fun p hp=>(List.mem_append.mp hp).elim (fun z=>I.pin p (List.mem_append_left _ z)) (h p),I.hok,I.len⟩
theorem c'a {N:List Str} (hN:N.Nodup) {i j:Nat} {x:Str} (a:N[i]?=some x) (b:N[j]?=some x):i=j:=by
  obtain⟨h1,e1⟩:=List.getElem?_eq_some_iff.mp a
  obtain⟨h2,e2⟩:=List.getElem?_eq_some_iff.mp b
  exact (List.getElem_inj hN).mp (e1.trans e2.symm)
theorem g'u {M:Model} {A:Around} {E:Value→Shared→Prop} {i:Nat} {x:Str} {v:V} {u:Value} {Q:Unit→Shared→Prop} (I:Inv X pins σ H s) (hN:X.N.Nodup) (hi:X.N[i]?=some x) (hx:Loc X.env.scope x) (r:RelV v u)
    (h:∀ s',Inv X pins (σ.set i (some v)) H s'→(∃ a,Heap.SameBut a s.heap s'.heap∧(a=X.env.locals∨X.env.cells.lookup x=some a))→Q () s') (hf:X.fn x=true∨X.env.scope.names.lookup x=some .local:=by first | exact .inl rfl | exact .inr rfl | assumption):wpAny M A (storeName X.env x u) Q E s:=by
  obtain⟨m,hn,hl⟩:=id I.loc
  have hcls:(X.env.scope.kind == .class || (X.env.scope.kind == .module && X.env.locals != X.env.globals))=false:=by rw [I.ok.kind];rfl
  have hiσ:i<σ.length:=by rw [I.len];exact (List.getElem?_eq_some_iff.mp hi).1
  have cne:=I.cne
  have tracked:∀ {a:Addr} {h':Heap},(∃ o,s.heap.get? a=some o∧H a=none)→Heap.SameBut a s.heap h'→HOk X.prog X.w H h':=fun {a h'} ha hs b ob e=>by
    obtain⟨_,_,hfree⟩:=ha
    refine (I.hok b ob e).stay (fun c w' hc q=>(hs.2 c ?_).trans q) (fun _ q=>q) fun _ _ q=>q
    rintro rfl
    rcases hc with rfl | hc
    · rw [hfree] at e;cases e
    · rw [hfree] at hc;cases hc
  rcases hx with hk | hk
  · refine wpAny_storeName_local hk hn (fun h' hn' hs=>?_) hcls
    obtain⟨oL,_,_,hoL,_⟩:=id hn
    refine h _ ⟨I.ok,I.os,I.bare,⟨fun b o e n hb hx=>?_,fun b o e n hb hx=>?_,I.base.free,fun b o e hx=>?_,I.base.tups,I.base.frzs,I.base.tbls⟩,⟨_,hn',fun j y v' e1 e2 e3=>?_⟩,fun y c e=>?_,I.free,I.freeC,fun p hp=>?_,tracked ⟨oL,hoL,I.free⟩ hs,by simpa using I.len⟩ ⟨_,hs,.inl rfl⟩
    · exact (hs.2 b (Nat.ne_of_lt (Nat.lt_of_lt_of_le (Heap.lt_size e) I.ok.above))).trans (I.base.keep b o e n hb hx)
    · obtain⟨sl,e1⟩:=I.base.slot b o e n hb hx
      exact⟨sl,(hs.2 b (Nat.ne_of_lt (Nat.lt_of_lt_of_le (Heap.lt_size e) I.ok.above))).trans e1⟩
    · obtain⟨o',e1⟩:=I.base.there b o e hx
      exact⟨o',(hs.2 b (Nat.ne_of_lt (Nat.lt_of_lt_of_le (Heap.lt_size e) I.ok.above))).trans e1⟩
    · by_cases hj:j=i
      · subst hj
        rw [hi] at e1;cases e1
        rw [List.getElem?_set_self hiσ] at e2
        cases e2
        exact⟨u,r,.inl ⟨hk,by simp⟩⟩
      · rw [List.getElem?_set_ne (Ne.symm hj)] at e2
        obtain⟨u',r',q⟩:=hl j y v' e1 e2 e3
        refine⟨u',r',?_⟩
        rcases q with ⟨k,e⟩ | ⟨k,c,e,z⟩
        · refine .inl ⟨k,?_⟩
          have:y≠x:=fun e=>hj (c'a hN e1 (e ▸ hi))
          simp [this,e]
        · exact .inr ⟨k,c,e,z.sameBut hs (cne y c e)⟩
    · obtain⟨w',z⟩:=I.cell y c e
      exact⟨w',z.sameBut hs (cne y c e)⟩
    · obtain⟨e,n,ne,nf,d⟩:=I.pin p hp
      exact⟨(hs.2 p.1 ne).trans e,n,ne,nf,d⟩
  · have hfn:X.fn x=true:=by
      rcases hf with z | z
      · exact z
      · rw [z] at hk;cases hk
    obtain⟨c,hc⟩:=I.ok.has x (.inl hk)
    obtain⟨w',z⟩:=I.cell x c hc
    refine wpAny_storeName_cell I.ok.kind hk hc z (fun h' hc' hs=>?_)
    obtain⟨oc,hoc,hocd⟩:=id z
    refine h { s with heap:=h' } ⟨I.ok,I.os,I.bare,⟨fun b o e n hb hx=>?_,fun b o e n hb hx=>?_,I.base.free,fun b o e hx=>?_,I.base.tups,I.base.frzs,I.base.tbls⟩,⟨m,hn.sameBut hs (Ne.symm (cne x c hc)),fun j y v' e1 e2 e3=>?_⟩,fun y c' e=>?_,I.free,I.freeC,fun p hp=>?_,tracked ⟨oc,hoc,I.freeC x c hc⟩ hs,by simpa using I.len⟩ ⟨c,hs,.inr hc⟩
    · exact (hs.2 b (Nat.ne_of_lt (Nat.lt_of_lt_of_le (Heap.lt_size e) (I.ok.cab x c hfn hc)))).trans (I.base.keep b o e n hb hx)
    · obtain⟨sl,e1⟩:=I.base.slot b o e n hb hx
      exact⟨sl,(hs.2 b (Nat.ne_of_lt (Nat.lt_of_lt_of_le (Heap.lt_size e) (I.ok.cab x c hfn hc)))).trans e1⟩
    · obtain⟨o',e1⟩:=I.base.there b o e hx
      exact⟨o',(hs.2 b (Nat.ne_of_lt (Nat.lt_of_lt_of_le (Heap.lt_size e) (I.ok.cab x c hfn hc)))).trans e1⟩
    · by_cases hj:j=i
      · subst hj
        rw [hi] at e1;cases e1
        rw [List.getElem?_set_self hiσ] at e2
        cases e2
        exact⟨u,r,.inr ⟨.inl hk,c,hc,hc'⟩⟩
      · rw [List.getElem?_set_ne (Ne.symm hj)] at e2
        obtain⟨u',r',q⟩:=hl j y v' e1 e2 e3
        refine⟨u',r',?_⟩
        rcases q with q | ⟨k,c',e,z'⟩
        · exact .inl q
        · refine .inr ⟨k,c',e,z'.sameBut hs ?_⟩
          rintro rfl
          exact hj (c'a hN e1 (I.ok.inj _ _ _ e hc ▸ hi))
    · by_cases hcc:c'=c
      · subst hcc;exact⟨_,hc'⟩
      · obtain⟨w2,z2⟩:=I.cell y c' e
        exact⟨w2,z2.sameBut hs hcc⟩
    · obtain⟨e,n,ne,nf,d⟩:=I.pin p hp
      refine⟨(hs.2 p.1 ?_).trans e,n,ne,nf,d⟩
      intro q
      rw [q,hoc] at e
      have q':oc=p.2:=Option.some.inj e
      exact d w' (by rw [← q'];exact hocd)
theorem b'j {M:Model} {A:Around} {E:Value→Shared→Prop} {i:Nat} {x:Str} {v:V} {u:Value} {Q:Unit→Shared→Prop} (I:Inv X pins σ H s) (hN:X.N.Nodup) (hi:X.N[i]?=some x) (hx:Loc X.env.scope x) (r:RelV v u)
    (h:∀ s',Inv X pins (σ.set i (some v)) H s'→Q () s') (hf:X.fn x=true∨X.env.scope.names.lookup x=some .local:=by first | exact .inl rfl | exact .inr rfl | assumption):wpAny M A (storeName X.env x u) Q E s:=
  g'u I hN hi hx r (fun s' I' _=>h s' I') hf
theorem Inv.call' {s':Shared} {ch:List Addr} (I:Inv X pins σ H s) (ho:s'.os=s.os) (u:Un (frs X.stack) ch H H' s.heap s'.heap) (hok:HOk X.prog X.w H' s'.heap) (hg:AllBare s'.gens)
    (hch:∀ b∈ch,(b∈X.ex∨X.s₀.heap.objs.size≤b)∧b≠X.env.locals∧(∀ x c,X.env.cells.lookup x=some c→c≠b)∧∀ p∈X.pn++pins,p.1≠b):Inv X pins σ H' s':=by
  obtain⟨h',g',d',t',o'⟩:=s'
  have e:o'=s.os:=ho
  subst e
  exact I.call (g':=g') (t':=t') (d':=d') u hok hg hch
end
abbrev XK:=Value→Option Addr→Hp→Prop
abbrev St:=List (Option V)
abbrev VK:=V→Hp→Prop
abbrev TE:=St→Hp→VK→Prop
abbrev TT:=St→Hp→(Bool→Hp→Prop)→Prop
abbrev TA:=St→Hp→(List V→Hp→Prop)→Prop
structure Ends where
  nx:St→Hp→Prop
  rt:VK
  bk:St→Hp→Prop:=fun _ _=>False
  ct:St→Hp→Prop:=fun _ _=>False
abbrev TS:=Ends→St→Hp→Prop
def EP (X:Cx) (pins:List (Addr×Obj)) (σ:St) (Q:VK) (u:Value) (s':Shared):Prop:=∃ v H',Inv X pins σ H' s'∧RelV v u∧Q v H'
def TP (X:Cx) (pins:List (Addr×Obj)) (σ:St) (Q:Bool→Hp→Prop) (b:Bool) (s':Shared):Prop:=∃ H',Inv X pins σ H' s'∧Q b H'
def AP (X:Cx) (pins:List (Addr×Obj)) (σ:St) (Q:List V→Hp→Prop) (us:List Value) (s':Shared):Prop:=∃ vs H',Inv X pins σ H' s'∧Vals vs us∧Q vs H'
def SP (X:Cx) (pins:List (Addr×Obj)) (D:Ends) (f:Flow) (s':Shared):Prop:=
  match f with
  | .next => ∃ σ' H', Inv X pins σ' H' s' ∧ D.nx σ' H'
  | .brk => ∃ σ' H', Inv X pins σ' H' s' ∧ D.bk σ' H'
  | .cont => ∃ σ' H', Inv X pins σ' H' s' ∧ D.ct σ' H'
  | .ret u => ∃ v σ' H', Inv X pins σ' H' s' ∧ RelV v u ∧ D.rt v H'
def PE (X:Cx) (e:Expr) (t:TE):Prop:=
  ∀ (pins:List (Addr×Obj)) (s:Shared) (σ:St) (H:Hp) (Q:VK),Inv X pins σ H s→t σ H Q→wpAny (model X.prog X.w) X.A (eval e X.env) (EP X pins σ Q) X.xe s
def PT (X:Cx) (e:Expr) (t:TT):Prop:=
  ∀ (pins:List (Addr×Obj)) (s:Shared) (σ:St) (H:Hp) (Q:Bool→Hp→Prop),Inv X pins σ H s→t σ H Q→wpAny (model X.prog X.w) X.A (isTrue e X.env (eval e X.env)) (TP X pins σ Q) X.xe s
def PW (X:Cx) (e:Expr) (t:TT):Prop:=
  ∀ (whole:Sem Value) (pins:List (Addr×Obj)) (s:Shared) (σ:St) (H:Hp) (Q:Bool→Hp→Prop),Inv X pins σ H s→t σ H Q→wpAny (model X.prog X.w) X.A (isTrue e X.env whole) (TP X pins σ Q) X.xe s
theorem PW.pt {X:Cx} {e:Expr} {t:TT} (h:PW X e t):PT X e t:=h _
def PA (X:Cx) (es:List Expr) (t:TA):Prop:=
  ∀ (pos:Pos) (pins:List (Addr×Obj)) (s:Shared) (σ:St) (H:Hp) (Q:List V→Hp→Prop),Inv X pins σ H s→t σ H Q→wpAny (model X.prog X.w) X.A (spliced (backTo pos (starEach es X.env))) (AP X pins σ Q) X.xe s
def PS (X:Cx) (st:Stmt) (t:TS):Prop:=
  ∀ (pins:List (Addr×Obj)) (s:Shared) (σ:St) (H:Hp) (D:Ends),Inv X pins σ H s→t D σ H→wpAny (model X.prog X.w) X.A (exec st X.env) (SP X pins D) X.xe s
def PSs (X:Cx) (st:List Stmt) (t:TS):Prop:=
  ∀ (pins:List (Addr×Obj)) (s:Shared) (σ:St) (H:Hp) (D:Ends),Inv X pins σ H s→t D σ H→wpAny (model X.prog X.w) X.A (execs st X.env) (SP X pins D) X.xe s
theorem thn {α:Type} {t:Sem α} {Q Q':α→Shared→Prop} {M:Model} {A:Around} {E:Value→Shared→Prop} {s:Shared} (h:wpAny M A t Q E s) (hQ:∀ a s,Q a s→Q' a s):wpAny M A t Q' E s:=wpAny_mono h hQ fun _ _ x=>x
end L2
namespace L2
open PySem PySem.Spec PyProof.Rows
section
variable {X:Cx}
def tVar (i:Nat):TE:=fun σ H Q=>∃ v,σ[i]?=some (some v)∧Q v H
def tC (v:V):TE:=fun _ H Q=>Q v H
theorem g'v {i:Nat} {x:Str} {pos:Pos} (hN:X.N[i]?=some x) (hv:Vis X.env.scope x) (hd:(x == ("__debug__":Str))=false:=by decide) (hcd:(x == ("__classdict__":Str))=false:=by decide):PE X (.Name x pos) (tVar i):=by
  intro pins s σ H Q I h
  obtain⟨v,e,h⟩:=h
  obtain⟨m,hn,hl⟩:=I.loc
  obtain⟨u,r,l⟩:=hl i x v hN e hv
  have fin:EP X pins σ Q u s:=⟨v,H,I,r,h⟩
  rcases l with ⟨hk,hm⟩ | ⟨hk,c,hc,hcell⟩
  · exact wpAny_Name (wpAny_loadName_local I.ok.kind hk hn hm fin) hd
  · rcases hk with hk | hk
    · exact wpAny_Name (wpAny_loadName_cell I.ok.kind hk hc hcell fin) hd
    · exact wpAny_Name (wpAny_loadName_free I.ok.kind hk hc hcell fin hcd) hd
theorem m'J {i j pos}:PE X (.Constant (.int i) j pos) (tC (.int i)):=fun _ _ _ H _ I h=>wpAny_Constant_int ⟨.int i,H,I.tok _,⟨_,rfl⟩,h⟩
theorem o'K {b j pos}:PE X (.Constant (.bool b) j pos) (tC (.bl b)):=fun _ _ _ H _ I h=>Constant_bool ⟨.bl b,H,I,rfl,h⟩
theorem m'K {j pos}:PE X (.Constant .none j pos) (tC .non):=fun _ _ _ H _ I h=>Constant_none ⟨.non,H,I,rfl,h⟩
theorem m'L {x j pos}:PE X (.Constant (.str x) j pos) (tC (.str x)):=fun _ _ _ H _ I h=>Calls.Constant_str ⟨.str x,H,I.tok _,⟨_,rfl⟩,h⟩
def Gl (X:Cx) (x:Str):Prop:=X.env.kindOf x=some .globalImplicit
theorem b'A {E:Value→Shared→Prop} {pins:List (Addr×Obj)} {s:Shared} {σ:St} {H:Hp} {x:Str} {u:Value} {pos:Pos} {Q:Value→Shared→Prop} (I:Inv X pins σ H s) (hg:Gl X x) (hm:X.mg x=some u) (h:Q u s)
    (hd:(x == ("__debug__":Str))=false:=by decide):wpAny (model X.prog X.w) X.A (eval (.Name x pos) X.env) Q E s:=
  Calls.Name_function_global I.ok.kind hg (Calls.loadGlobal_global (by rw [I.ok.glob];exact I.mod.glob.keeps I.bk) hm h) hd
theorem d'e {E:Value→Shared→Prop} {pins:List (Addr×Obj)} {s:Shared} {σ:St} {H:Hp} {x:Str} {u:Value} {pos:Pos} {Q:Value→Shared→Prop} (I:Inv X pins σ H s) (hg:Gl X x) (hm:X.mg x=none) (hv:bootBuiltins x=some u) (h:Q u s)
    (hn:x≠"__name__":=by decide) (hd:(x == ("__debug__":Str))=false:=by decide):wpAny (model X.prog X.w) X.A (eval (.Name x pos) X.env) Q E s:=by
  obtain⟨mb,h1,h2⟩:=I.mod.blt
  exact Calls.Name_function_global I.ok.kind hg (Calls.loadGlobal_builtin (by rw [I.ok.glob];exact I.mod.glob.keeps I.bk) hm (by rw [I.ok.blt];exact h1.keeps I.bk) ((h2 x hn).trans hv) h) hd
theorem l'h {x:Str} {v:V} {u:Value} {pos:Pos} (hg:Gl X x) (hm:X.mg x=some u) (r:RelV v u) (hd:(x == ("__debug__":Str))=false:=by decide):PE X (.Name x pos) (tC v):=
  fun _ _ _ H _ I h=>b'A I hg hm ⟨v,H,I,r,h⟩ hd
theorem l'i {x:Str} {v:V} {u:Value} {pos:Pos} (hg:Gl X x) (hm:X.mg x=none) (hv:bootBuiltins x=some u) (r:RelV v u) (hn:x≠"__name__":=by decide) (hd:(x == ("__debug__":Str))=false:=by decide):PE X (.Name x pos) (tC v):=
  fun _ _ _ H _ I h=>d'e I hg hm hv ⟨v,H,I,r,h⟩ hn hd
variable {a b:Expr} {ta tb:TE} {pos:Pos}
def tB (t:TE):TT:=fun σ H Q=>t σ H fun x H1=>∃ c,x=.bl c∧Q c H1
theorem m'M {e:Expr} {t:TE} (h:PE X e t) (he:∀ whole,isTrue e X.env whole=(do let v ← whole;standAt e.pos;holding [v] (truthy v)):=by intro _;rfl):PT X e (tB t):=by
  intro pins s σ H Q I hw
  refine isTrue_plain (thn (h pins s σ H _ I hw) fun v s1 ⟨x,H1,I1,r1,q1⟩=>?_) (he _)
  obtain⟨d,rfl,q⟩:=q1
  cases r1
  exact wpAny_truthy_bool ⟨H1,I1,q⟩
variable {tA tB':TT} {rest:List Expr}
def tAnd (t u:TT):TT:=fun σ H Q=>t σ H fun c H1=>if c=true then u σ H1 Q else Q false H1
def tOr (t u:TT):TT:=fun σ H Q=>t σ H fun c H1=>if c=true then Q true H1 else u σ H1 Q
def tNot (t:TT):TT:=fun σ H Q=>t σ H fun c H1=>Q (!c) H1
theorem l'j (ha:PT X a tA):PW X (.BoolOp .And [a] pos) tA:=by
  intro wh pins s σ H Q I h
  refine isTrue_and (thn (ha pins s σ H Q I h) fun c s1 e=>?_)
  cases c with
  | true => exact isTrue_and_nil e
  | false => exact e
theorem m'N (ha:PT X a tA):PW X (.BoolOp .Or [a] pos) tA:=by
  intro wh pins s σ H Q I h
  refine isTrue_or (thn (ha pins s σ H Q I h) fun c s1 e=>?_)
  cases c with
  | false => exact isTrue_or_nil e
  | true => exact e
theorem m'O (ha:PT X a tA) (hb:PW X (.BoolOp .And (b :: rest) pos) tB'):PW X (.BoolOp .And (a :: b :: rest) pos) (tAnd tA tB'):=by
  intro wh pins s σ H Q I h
  refine isTrue_and (thn (ha pins s σ H _ I h) fun c s1 ⟨H1,I1,q1⟩=>?_)
  cases c with
  | true => exact hb wh pins s1 σ H1 Q I1 q1
  | false => exact ⟨H1, I1, q1⟩
theorem o'L (ha:PT X a tA) (hb:PW X (.BoolOp .Or (b :: rest) pos) tB'):PW X (.BoolOp .Or (a :: b :: rest) pos) (tOr tA tB'):=by
  intro wh pins s σ H Q I h
  refine isTrue_or (thn (ha pins s σ H _ I h) fun c s1 ⟨H1,I1,q1⟩=>?_)
  cases c with
  | true => exact ⟨H1, I1, q1⟩
  | false => exact hb wh pins s1 σ H1 Q I1 q1
theorem m'P (ha:PT X a tA):PT X (.UnaryOp .Not a pos) (tNot tA):=by
  intro pins s σ H Q I h
  exact isTrue_not (ha pins s σ H (fun c H1=>Q (!c) H1) I h)
def tAndV (ta tb:TE):TE:=fun σ H Q=>ta σ H fun x H1=>∃ c,x=.bl c∧if c=true then tb σ H1 Q else Q (.bl false) H1
def tOrV (ta tb:TE):TE:=fun σ H Q=>ta σ H fun x H1=>∃ c,x=.bl c∧if c=true then Q (.bl true) H1 else tb σ H1 Q
def tNotV (ta:TE):TE:=fun σ H Q=>ta σ H fun x H1=>∃ c,x=.bl c∧Q (.bl (!c)) H1
theorem m'Q {op} {t:TE} (h:PE X a t):PE X (.BoolOp op [a] pos) t:=fun pins s σ H Q I hw=>BoolOp_one (h pins s σ H Q I hw)
theorem m'R (ha:PE X a ta) (hb:PE X (.BoolOp .And (b :: rest) pos) tb):PE X (.BoolOp .And (a :: b :: rest) pos) (tAndV ta tb):=by
  intro pins s σ H Q I h
  refine BoolOp_and (thn (ha pins s σ H _ I h) fun v s1 ⟨x,H1,I1,r1,q1⟩=>?_)
  obtain⟨c,rfl,q1⟩:=q1
  cases r1
  refine wpAny_truthy_bool ?_
  cases c with
  | true => exact hb pins s1 σ H1 Q I1 q1
  | false => exact ⟨.bl false, H1, I1, rfl, q1⟩
theorem o'M (ha:PE X a ta) (hb:PE X (.BoolOp .Or (b :: rest) pos) tb):PE X (.BoolOp .Or (a :: b :: rest) pos) (tOrV ta tb):=by
  intro pins s σ H Q I h
  refine BoolOp_or (thn (ha pins s σ H _ I h) fun v s1 ⟨x,H1,I1,r1,q1⟩=>?_)
  obtain⟨c,rfl,q1⟩:=q1
  cases r1
  refine wpAny_truthy_bool ?_
  cases c with
  | false => exact hb pins s1 σ H1 Q I1 q1
  | true => exact ⟨.bl true, H1, I1, rfl, q1⟩
theorem m'S (ha:PE X a ta):PE X (.UnaryOp .Not a pos) (tNotV ta):=by
  intro pins s σ H Q I h
  refine UnaryOp_ (thn (ha pins s σ H _ I h) fun v s1 ⟨x,H1,I1,r1,q1⟩=>?_)
  obtain⟨c,rfl,q1⟩:=q1
  cases r1
  exact not_of (wpAny_truthy_bool ⟨.bl (!c),H1,I1,rfl,q1⟩)
def tIf (t:TT) (ta tb:TE):TE:=fun σ H Q=>t σ H fun c H1=>if c=true then ta σ H1 Q else tb σ H1 Q
theorem i'G {c:Expr} (hc:PT X c tA) (ha:PE X a ta) (hb:PE X b tb):PE X (.IfExp c a b pos) (tIf tA ta tb):=by
  intro pins s σ H Q I h
  refine wpAny_IfExp (thn (hc pins s σ H _ I h) fun d s1 ⟨H1,I1,q1⟩=>?_)
  cases d with
  | true => exact ha pins s1 σ H1 Q I1 q1
  | false => exact hb pins s1 σ H1 Q I1 q1
end
end L2
namespace L2
open PySem PySem.Spec PyProof.Rows
def SqL (K:PySem.W.Frag) (H:Hp) (a:Addr) (xs:List V):Prop:=
  Rd H a (.lst xs)∨
    ∃ (o:Obj) (its:Array Value) (n:Nat),K.lookup a=some o∧o.cls=.type "list"∧o.dict=none∧o.data=.seq its n∧its.size≤sizeLine∧Vals xs its.toList
def SqT (K:PySem.W.Frag) (H:Hp) (a:Addr) (xs:List V):Prop:=
  Rd H a (.tup xs)∨
    ∃ (o:Obj) (its:Array Value) (n:Nat),K.lookup a=some o∧o.cls=.type "tuple"∧o.data=.seq its n∧its.size≤sizeLine∧Vals xs its.toList
def absV:Value→Option V
  | .none => some .non
  | .bool b => some (.bl b)
  | .int i _ => some (.int i)
  | .str x _ => some (.str x)
  | .bytes b _ => some (.byt b)
  | .float b _ => some (.flt b)
  | .ref a => some (.ref a)
  | .type n => some (.ty n)
  | _ => none
theorem RelV.abs {x:V} {u:Value} (r:RelV x u):absV u=some x:=by
  cases x with
  | non => cases r; rfl
  | bl _ => cases r; rfl
  | int _ => obtain ⟨t, rfl⟩ := r; rfl
  | str _ => obtain ⟨t, rfl⟩ := r; rfl
  | byt _ => obtain ⟨t, rfl⟩ := r; rfl
  | flt _ => obtain ⟨t, rfl⟩ := r; rfl
  | ref _ => cases r; rfl
  | ty _ => cases r; rfl
theorem RelV.inj {x y:V} {u:Value} (r:RelV x u) (q:RelV y u):x=y:=Option.some.inj (r.abs.symm.trans q.abs)
theorem Vals.inj:∀ {xs ys:List V} {us:List Value},Vals xs us→Vals ys us→xs=ys
  | _, _, _, .nil, .nil => rfl
  | _, _, _, .cons r t, .cons r' t' => by rw [r.inj r', Vals.inj t t']
section
variable {X:Cx} {pins:List (Addr×Obj)} {σ:St} {H:Hp} {s:Shared} {a:Addr} {xs ys:List V}
theorem SqL.of {K:PySem.W.Frag} (h:H a=some (.lst xs)):SqL K H a xs:=.inl (.inl h)
theorem SqT.of {K:PySem.W.Frag} (h:H a=some (.tup xs)):SqT K H a xs:=.inl (.inl h)
theorem Inv.list (I:Inv X pins σ H s) (h:SqL X.K H a xs):∃ its:List Value,Vals xs its∧PlainL s.heap a its.toArray∧xs.length≤sizeLine:=by
  rcases h with h | ⟨o,its,n,hk,hc,hd,hs,hz,r⟩
  · obtain⟨z,its,n,r,e⟩:=h.ok I.hok
    exact⟨its,r,⟨_,n,e,rfl,rfl,rfl⟩,z⟩
  · refine⟨its.toList,r,⟨o,n,I.kIn a o hk,hc,hd,by simpa using hs⟩,?_⟩
    have e:=r.length
    simp only [Array.length_toList] at e
    omega
theorem Inv.tuple (I:Inv X pins σ H s) (h:SqT X.K H a xs):∃ its:List Value,Vals xs its∧IsTup s.heap a its.toArray∧xs.length≤sizeLine:=by
  rcases h with h | ⟨o,its,n,hk,hc,hs,hz,r⟩
  · obtain⟨z,its,r,p⟩:=h.ok I.hok
    exact⟨its,r,p,z⟩
  · refine⟨its.toList,r,⟨o,I.kIn a o hk,hc,n,by simpa using hs⟩,?_⟩
    have e:=r.length
    simp only [Array.length_toList] at e
    omega
theorem Inv.list_inj (I:Inv X pins σ H s) (h:SqL X.K H a xs) (h':SqL X.K H a ys):xs=ys:=by
  obtain⟨its,r,⟨o,n,e,_,_,d⟩,_⟩:=I.list h
  obtain⟨its',r',⟨o',n',e',_,_,d'⟩,_⟩:=I.list h'
  rw [e] at e';cases e'
  rw [d] at d'
  injection d' with d1 _
  have:its=its':=by simpa using congrArg Array.toList d1
  subst this
  exact r.inj r'
end
abbrev Cx.wish (X:Cx) (E:Value→Shared→Prop):Cx:={ X with xe:=E }
abbrev Cx.nox (X:Cx):Cx:=X.wish fun _ _=>False
theorem Cx.Ok.wish {X:Cx} (ok:X.Ok) (E:Value→Shared→Prop):(X.wish E).Ok:=
  ⟨ok.mod,ok.kind,ok.glob,ok.blt,ok.above,ok.inj,ok.has,ok.cab,ok.hd,ok.frames,ok.stk,ok.exf,ok.bs,ok.bsz,ok.noex,ok.exfs,ok.funs,ok.frf⟩
theorem Cx.Ok.unwish {X:Cx} {E:Value→Shared→Prop} (ok:(X.wish E).Ok):X.Ok:=
  ⟨ok.mod,ok.kind,ok.glob,ok.blt,ok.above,ok.inj,ok.has,ok.cab,ok.hd,ok.frames,ok.stk,ok.exf,ok.bs,ok.bsz,ok.noex,ok.exfs,ok.funs,ok.frf⟩
section
variable {X:Cx} {pins:List (Addr×Obj)} {σ:St} {H:Hp} {s:Shared} {E:Value→Shared→Prop}
theorem Inv.wish (I:Inv X pins σ H s) (E:Value→Shared→Prop):Inv (X.wish E) pins σ H s:=⟨I.ok.wish E,I.os,I.bare,I.base,I.loc,I.cell,I.free,I.freeC,I.pin,I.hok,I.len⟩
theorem Inv.unwish (I:Inv (X.wish E) pins σ H s):Inv X pins σ H s:=⟨I.ok.unwish,I.os,I.bare,I.base,I.loc,I.cell,I.free,I.freeC,I.pin,I.hok,I.len⟩
theorem SP.unwish {D:Ends} {f:Flow} {s':Shared} (h:SP (X.wish E) pins D f s'):SP X pins D f s':=by
  cases f with
  | next => obtain ⟨σ', H', I, q⟩ := h; exact ⟨σ', H', I.unwish, q⟩
  | brk => obtain ⟨σ', H', I, q⟩ := h; exact ⟨σ', H', I.unwish, q⟩
  | cont => obtain ⟨σ', H', I, q⟩ := h; exact ⟨σ', H', I.unwish, q⟩
  | ret u => obtain ⟨v, σ', H', I, r, q⟩ := h; exact ⟨v, σ', H', I.unwish, r, q⟩
theorem PSs.nox {st:List Stmt} {t:TS} (h:PSs X.nox st t):PSs X st t:=fun pins s σ H D I hw=>
  wpAny_mono (h pins s σ H D (I.wish _) hw) (fun _ _ q=>q.unwish) fun _ _ z=>False.elim z
end
section
variable {X:Cx} {st:Stmt} {rest:List Stmt} {t u:TS} {e:Expr} {te:TE} {pos:Pos}
def tNext:TS:=fun D σ H=>D.nx σ H
def tSeq (t u:TS):TS:=fun D σ H=>t { D with nx:=u D } σ H
theorem l'k:PSs X [] tNext:=fun _ _ σ H _ I h=>wpAny_execs_nil ⟨σ,H,I,h⟩
theorem i'H (h1:PS X st t) (h2:PSs X rest u):PSs X (st :: rest) (tSeq t u):=by
  intro pins s σ H D I h
  refine wpAny_execs_cons (thn (h1 pins s σ H { D with nx:=u D } I h) fun f s1 q=>?_)
  cases f with
  | next =>
    obtain⟨σ',H',I',q⟩:=q
    exact h2 pins s1 σ' H' D I' q
  | ret v => exact q
  | brk => exact q
  | cont => exact q
theorem e'l (h1:PS X st t):PSs X [st] t:=by
  intro pins s σ H D I h
  refine wpAny_execs_cons (thn (h1 pins s σ H D I h) fun f s1 q=>?_)
  cases f with
  | next => exact wpAny_execs_nil q
  | ret v => exact q
  | brk => exact q
  | cont => exact q
def tRet (te:TE):TS:=fun D σ H=>te σ H D.rt
theorem m'T (he:PE X e te):PS X (.Return (some e) pos) (tRet te):=by
  intro pins s σ H D I h
  exact wpAny_Return_some (thn (he pins s σ H _ I h) fun v s1 ⟨x,H1,I1,r1,q1⟩=>⟨x,σ,H1,I1,r1,q1⟩)
def tIfS (c:TT) (t u:TS):TS:=fun D σ H=>c σ H fun b H1=>if b=true then t D σ H1 else u D σ H1
theorem o'N {c:Expr} {a b:List Stmt} {tc:TT} (hc:PT X c tc) (ha:PSs X a t) (hb:PSs X b u):PS X (.If c a b pos) (tIfS tc t u):=by
  intro pins s σ H D I h
  refine wpAny_If (thn (hc pins s σ H _ I h) fun d s1 ⟨H1,I1,q1⟩=>?_)
  cases d with
  | true => exact ha pins s1 σ H1 D I1 q1
  | false => exact hb pins s1 σ H1 D I1 q1
def tNever:TS:=fun _ _ _=>False
theorem i'I:PS X st tNever:=fun _ _ _ _ _ _ h=>h.elim
end
abbrev TG:=V→St→Hp→(St→Hp→Prop)→Prop
def PG (X:Cx) (target:Expr) (t:TG):Prop:=
  ∀ (pins:List (Addr×Obj)) (s:Shared) (σ:St) (H:Hp) (v:V) (u:Value) (Q:St→Hp→Prop),Inv X pins σ H s→RelV v u→t v σ H Q→
    wpAny (model X.prog X.w) X.A (assign target X.env u) (fun _ s'=>∃ σ' H',Inv X pins σ' H' s'∧Q σ' H') X.xe s
abbrev TSet:=V→V→V→Hp→(Hp→Prop)→Prop
def PSet (X:Cx) (t:TSet):Prop:=
  ∀ (pins:List (Addr×Obj)) (s:Shared) (σ:St) (H:Hp) (o i v:V) (ov iv u:Value) (Q:Hp→Prop),Inv X pins σ H s→RelV o ov→RelV i iv→RelV v u→t o i v H Q→
    wpAny (model X.prog X.w) X.A (setItem ov iv u) (fun _ s'=>∃ H',Inv X pins σ H' s'∧Q H') X.xe s
section
variable {X:Cx} {pos:Pos}
def gName (i:Nat):TG:=fun v σ H Q=>Q (σ.set i (some v)) H
theorem e'm {i:Nat} {x:Str} (hN:X.N.Nodup) (hi:X.N[i]?=some x) (hx:Loc X.env.scope x) (hf:X.fn x=true∨X.env.scope.names.lookup x=some .local:=by first | exact .inl rfl | exact .inr rfl | assumption):PG X (.Name x pos) (gName i):=by
  intro pins s σ H v u Q I r h
  exact wpAny_assign_Name (b'j I hN hi hx r (fun s' I'=>⟨_,H,I',h⟩) hf)
def gSub (to ti:TE) (t:TSet):TG:=fun v σ H Q=>to σ H fun o H1=>ti σ H1 fun i H2=>t o i v H2 fun H3=>Q σ H3
theorem m'U {o i:Expr} {to ti:TE} {t:TSet} (ho:PE X o to) (hi:PE X i ti) (hs:PSet X t)
    (ha:∀ v,assign (.Subscript o i pos) X.env v=(do
      let ov ← holding [v] (eval o X.env)
      let iv ← holding [v,ov] (eval i X.env)
      standAt pos
      holding [v,ov,iv] (setItem ov iv v)
      release [v,ov,iv] []):=by intro _;rfl):PG X (.Subscript o i pos) (gSub to ti t):=by
  intro pins s σ H v u Q I r h
  rw [ha]
  refine wpAny_bind (wpAny_holding (thn (ho pins s σ H _ I h) fun ov s1 ⟨x,H1,I1,r1,q1⟩=>?_))
  refine wpAny_bind (wpAny_holding (thn (hi pins s1 σ H1 _ I1 q1) fun iv s2 ⟨y,H2,I2,r2,q2⟩=>?_))
  refine wpAny_bind (wpAny_standAt (wpAny_bind (wpAny_holding (thn (hs pins s2 σ H2 x y v ov iv u _ I2 r1 r2 r q2) fun _ s3 ⟨H3,I3,q3⟩=>?_))))
  exact wpAny_release ⟨σ,H3,I3,q3⟩
def tAsg (te:TE) (g:TG):TS:=fun D σ H=>te σ H fun x H1=>g x σ H1 D.nx
theorem m'V {tg e:Expr} {te:TE} {g:TG} (he:PE X e te) (hg:PG X tg g) (hs:swapsWithSole [tg] e pos.line X.env=pure false:=by rfl) (hw:swappedStores [tg] e X.env=pure none:=by rfl)
    (h1:(assignEach [tg] X.env).map (·.2)=[assign tg X.env]:=by rfl):PS X (.Assign [tg] e pos) (tAsg te g):=by
  intro pins s σ H D I h
  refine wpAny_Assign_stores (thn (he pins s σ H _ I h) fun v s1 ⟨x,H1,I1,r1,q1⟩=>?_) hs hw
  rw [h1]
  exact thn (hg pins s1 σ H1 x v _ I1 r1 q1) fun _ s2 q=>q
theorem d'f {i:Nat} {x:Str} {e:Expr} {te:TE} {pos':Pos} (hN:X.N.Nodup) (hi:X.N[i]?=some x) (hx:Loc X.env.scope x) (he:PE X e te) (hs:swapsWith e (some (.Name x pos')) pos.line X.env=pure false:=by rfl) (hf:X.fn x=true∨X.env.scope.names.lookup x=some .local:=by first | exact .inl rfl | exact .inr rfl | assumption) :
    PS X (.Assign [.Name x pos'] e pos) (tAsg te (gName i)):=by
  intro pins s σ H D I h
  refine wpAny_Assign_Name (thn (he pins s σ H _ I h) fun v s1 ⟨y,H1,I1,r1,q1⟩=>?_) hs
  exact b'j I1 hN hi hx r1 (fun s2 I2=>⟨_,H1,I2,q1⟩) hf
def tPar (i j:Nat) (ta:TA):TS:=fun D σ H=>ta σ H fun vs H1=>∃ v w,vs=[v,w]∧D.nx ((σ.set i (some v)).set j (some w)) H1
theorem m'W {i j:Nat} {x y:Str} {a b:Expr} {ta:TA} {px py pt:Pos} {kt k2 pt2} (hc:X.calm=true) (hN:X.N.Nodup) (hi:X.N[i]?=some x) (hj:X.N[j]?=some y) (hij:i≠j)
    (hx:X.env.scope.names.lookup x=some .local) (hy:X.env.scope.names.lookup y=some .local) (ha:PA X [a,b] ta)
    (hw:swappedStores [.Tuple [.Name x px,.Name y py] kt pt] (.Tuple [a,b] k2 pt2) X.env=pure (some [x,y]))
    (hs:swapsWithSole [.Tuple [.Name x px,.Name y py] kt pt] (.Tuple [a,b] k2 pt2) pos.line X.env=pure false:=by rfl) :
    PS X (.Assign [.Tuple [.Name x px,.Name y py] kt pt] (.Tuple [a,b] k2 pt2) pos) (tPar i j ta):=by
  intro pins s σ H D I h
  rw [exec_Assign_arm]
  refine wpAny_bind (wpAny_standAt ?_)
  rw [hs]
  refine wpAny_bind (wpAny_pure ?_)
  rw [if_neg (by decide)]
  refine wpAny_bind (Tuple_ (thn (ha _ pins s σ H _ I h) fun us s1 ⟨vs,H1,I1,r1,q1⟩=>?_))
  obtain⟨v,w,e1,q1⟩:=q1
  subst e1
  obtain⟨u1,u2,rfl,rv,rw'⟩:∃ u1 u2,us=[u1,u2]∧RelV v u1∧RelV w u2:=by
    cases r1 with
    | cons p q=>
      cases q with
      | cons p' q'=>
        cases q'
        exact⟨_,_,rfl,p,p'⟩
  refine wpAny_newObj_type ?_ (by show 2≤sizeLine;decide)
  have I2:Inv X pins σ H1 { s1 with heap:=s1.heap.push { cls:=.type "tuple",data:=.seq [u1,u2].toArray } }:=I1.kept (t':=s1.toks) fun b o e=>Heap.get?_push_of_some _ e
  rw [hw]
  refine wpAny_bind (wpAny_pure ?_)
  show wpAny (model X.prog X.w) X.A (do rule "assign.swapped-stores";let items ← unpackItems (.ref s1.heap.objs.size) 2 none;assignInOrder [fun v=>bindName X.env y v,fun v=>bindName X.env x v] items.reverse;pure Flow.next) _ _ _
  refine wpAny_bind (wpAny_rule (wpAny_bind (unpackItems_tuple (items:=#[u1,u2]) (I.ok.hd hc) (IsTup.new s1.heap _) fun h' hx'=>?_)))
  have I3:=I2.kept (h':=h') (t':=s1.toks) fun b o e=>hx' b o (Nat.ne_of_lt (Heap.lt_size e)) e
  show wpAny _ _ (assignInOrder [fun v=>bindName X.env y v,fun v=>bindName X.env x v] [u2,u1] >>= fun _=>pure Flow.next) _ _ _
  refine wpAny_bind (assignInOrder_cons (wpAny_bindName (b'j I3 hN hj (.inl hy) rw' (fun s2 I4=>?_) (.inr hy))))
  refine assignInOrder_cons (wpAny_bindName (b'j I4 hN hi (.inl hx) rv (fun s3 I5=>assignInOrder_nil (wpAny_pure ?_)) (.inr hx)))
  rw [List.set_comm _ _ (Ne.symm hij)] at I5
  exact⟨_,H1,I5,q1⟩
end
section
variable {X:Cx} {pos:Pos}
def tWhile (c:TT) (tb:TS):TS:=fun D σ H=>∃ W:Nat→St→Hp→Prop,(∃ m,W m σ H)∧∀ m σ H,W m σ H→
  c σ H fun b H1=>if b=true then ∃ N:St→Hp→Prop,(∀ σ' H',N σ' H'→∃ m',m'<m∧W m' σ' H')∧tb { D with nx:=N,ct:=N,bk:=D.nx } σ H1 else D.nx σ H1
theorem i'J {c:Expr} {body:List Stmt} {tc:TT} {tb:TS} (hp:PassesOwn (model X.prog X.w) X.A X.env X.xe) (hc:PT X c tc) (hb:PSs X body tb):PS X (.While c body [] pos) (tWhile tc tb):=by
  intro pins s σ H D I h
  obtain⟨W,⟨m0,w0⟩,turn⟩:=h
  refine wpAny_While (codeAny_whileLoop (fun n s'=>∃ σ' H',Inv X pins σ' H' s'∧W n σ' H') ?_ m0 ⟨σ,H,I,w0⟩)
  rintro n s1 ⟨σ1,H1,I1,w1⟩
  refine wpAny_passesOwn hp (thn (hc pins s1 σ1 H1 _ I1 (turn n σ1 H1 w1)) fun b s2 ⟨H2,I2,q2⟩=>?_)
  cases b with
  | true =>
    obtain⟨N,hN,q2⟩:=q2
    rw [if_pos rfl]
    refine wpAny_passesOwn hp (thn (hb pins s2 σ1 H2 _ I2 q2) fun f s3 q3=>?_)
    cases f with
    | next=>
      obtain⟨σ3,H3,I3,n3⟩:=q3
      obtain⟨m',hm,w3⟩:=hN σ3 H3 n3
      exact⟨m',hm,σ3,H3,I3,w3⟩
    | cont=>
      obtain⟨σ3,H3,I3,n3⟩:=q3
      obtain⟨m',hm,w3⟩:=hN σ3 H3 n3
      exact⟨m',hm,σ3,H3,I3,w3⟩
    | brk=>exact q3
    | ret v=>exact q3
  | false =>
    rw [if_neg Bool.false_ne_true]
    exact wpAny_execs_nil ⟨σ1,H2,I2,q2⟩
end
structure It where
  go:Nat→Hp→Prop
  yld:Nat→Hp→V→Hp→Prop
  stop:Nat→Hp→Prop
def FpOk (X:Cx) (pins:List (Addr×Obj)) (H:Hp) (b:Addr):Prop:=
  H b=none∧b≠X.env.locals∧b ∉ X.fs∧(b∈X.ex∨X.s₀.heap.objs.size≤b)∧(∀ x c,X.env.cells.lookup x=some c→c≠b)∧∀ p∈X.pn++pins,p.1≠b
theorem Inv.fpOk {X:Cx} {pins:List (Addr×Obj)} {σ:St} {H H':Hp} {s:Shared} {b:Addr} (I:Inv X pins σ H s) (hb:s.heap.objs.size≤b) (hn:H' b=none):FpOk X pins H' b:=by
  refine⟨hn,Nat.ne_of_gt (Nat.lt_of_lt_of_le I.lt hb),I.nofs hb,.inr (Nat.le_trans I.sz hb),fun x c e z=>?_,fun p hp z=>?_⟩
  · obtain⟨v,q⟩:=I.cell x c e
    exact absurd (Nat.lt_of_lt_of_le q.lt (by rw [z];exact hb)) (Nat.lt_irrefl _)
  · exact absurd (Nat.lt_of_lt_of_le (Heap.lt_size (I.pin p hp).1) (by rw [z];exact hb)) (Nat.lt_irrefl _)
structure Turn (P:Program) (w:World) (K:PySem.W.Frag) (tg:Expr) (J:It) (fp:List Addr) (it:Addr) (tn:Nat→Heap→Prop):Prop where
  mem:it∈fp
  obj:∀ i h,tn i h→∀ b∈fp,∃ o,h.get? b=some o∧∀ v,o.data≠.cell v
  keep:∀ i h h',tn i h→(∀ b∈fp,∀ o,h.get? b=some o→h'.get? b=some o)→tn i h'
  item:∀ (X:Cx),X.prog=P→X.w=w→X.K=K→X.calm=true→∀ (i:Nat) (pins:List (Addr×Obj)) (s:Shared) (σ:St) (H:Hp) (E:Value→Shared→Prop),Inv X pins σ H s→(∀ b∈fp,FpOk X pins H b)→tn i s.heap→J.go i H→
    wpAny (model P w) X.A (pyNext (.ref it)) (fun r s1=>∃ u,r=some u∧
      wpAny (model P w) X.A (letOwnedTupleGo tg (.ref it) u) (fun _ s2=>∃ x H',Inv X pins σ H' s2∧RelV x u∧J.yld i H x H'∧tn (i+1) s2.heap∧∀ b∈fp,H' b=none) E s1) E s
  done:∀ (X:Cx),X.prog=P→X.w=w→X.K=K→X.calm=true→∀ (i:Nat) (pins:List (Addr×Obj)) (s:Shared) (σ:St) (H:Hp) (E:Value→Shared→Prop),Inv X pins σ H s→(∀ b∈fp,FpOk X pins H b)→tn i s.heap→J.stop i H→
    wpAny (model P w) X.A (pyNext (.ref it)) (fun r s1=>r=none∧Inv X pins σ H s1) E s
  self:∀ (A:Around) (i:Nat) (s:Shared) (Q:Value→Shared→Prop) (E:Value→Shared→Prop),tn i s.heap→Q (.ref it) s→wpAny (model P w) A (pyIter (.ref it)) Q E s
abbrev TI:=St→Hp→(It→Hp→Prop)→Prop
def PIE (X:Cx) (pins:List (Addr×Obj)) (σ:St) (tg:Expr) (R:It→Hp→Prop) (itv:Value) (s2:Shared):Prop:=
  ∃ (it:Addr) (fp:List Addr) (tn:Nat→Heap→Prop) (J:It) (H':Hp),itv=.ref it∧Inv X pins σ H' s2∧Turn X.prog X.w X.K tg J fp it tn∧tn 0 s2.heap∧(∀ b∈fp,FpOk X pins H' b)∧R J H'
def PI (X:Cx) (tg iter:Expr) (wi:TI):Prop:=
  ∀ (pins:List (Addr×Obj)) (s:Shared) (σ:St) (H:Hp) (R:It→Hp→Prop),Inv X pins σ H s→wi σ H R→
    wpAny (model X.prog X.w) X.A (eval iter X.env) (fun v s1=>wpAny (model X.prog X.w) X.A (pyIter v) (PIE X pins σ tg R) X.xe s1) X.xe s
theorem j'F {M:Model} {A:Around} {E:Value→Shared→Prop} {s:Shared} {tg:Expr} {it:Addr} {u:Value} {o:Obj} {n:String} {vs:Array Value} {Q:Unit→Shared→Prop} (ho:s.heap.get? it=some o) (hc:o.cls=.type n) (hd:o.data=.fields vs)
    (hn:["enumerate","zip","dict_itemiterator","dict_reverseitemiterator","odict_iterator","itertools.zip_longest","itertools.pairwise"].contains n=false) (hQ:Q () s):wpAny M A (letOwnedTupleGo tg (.ref it) u) Q E s:=by
  unfold letOwnedTupleGo
  cases tg<;>first
    | exact wpAny_pure hQ
    | (cases u<;>first
        | exact wpAny_pure hQ
        | (refine wpAny_bind (wpAny_load ho ?_)
           rw [hc,hd]
           show wpAny M A (if (["enumerate","zip","dict_itemiterator","dict_reverseitemiterator","odict_iterator","itertools.zip_longest","itertools.pairwise"].contains n && vs[0]? == some (rawInt _))=true then _ else _) Q E s
           rw [if_neg (by intro h;rw [hn,Bool.false_and] at h;cases h)]
           exact wpAny_pure hQ))
def Itl (K:PySem.W.Frag) (a:Addr):It:=
  ⟨fun i H=>∃ xs x,SqL K H a xs∧xs[i]?=some x,fun i H x H'=>H'=H∧∀ xs,SqL K H a xs→xs[i]?=some x,fun i H=>∃ xs,SqL K H a xs∧xs.length≤i⟩
theorem g'w {P:Program} {w:World} {K:PySem.W.Frag} {tg:Expr} (a it:Addr):Turn P w K tg (Itl K a) [it] it (fun i h=>h.IsListIter it a i) where
  mem:=by simp
  obj:=fun i h st b hb=>by
    have e:b=it:=by simpa using hb
    subst e
    obtain⟨o,e,c,d⟩:=st
    exact⟨o,e,fun v z=>by rw [d] at z;cases z⟩
  keep:=fun i h h' st k=>st.at fun o e=>k it (by simp) o e
  item:=by
    intro X hP hw hK hc i pins s σ H E I hf st hg
    subst hP hw hK
    obtain⟨xs,x,hq,hx⟩:=hg
    obtain⟨its,rv,p,hz⟩:=I.list hq
    obtain⟨u,hu,ru⟩:=rv.get hx
    obtain⟨f0,f1,f2,f3,f4,f5⟩:=hf it (by simp)
    refine wpAny_pyNext_list_item st p.isList (x:=u) (by simpa using hu) fun h' st' sb=>?_
    have I1:Inv X pins σ H { s with heap:=h' }:=I.turned (t':=s.toks) (fun b o hb e=>(sb.2 b hb).trans e) f0 f1 f3 f4 f5
    obtain⟨o,e,c,d⟩:=id st'
    exact⟨u,rfl,j'F (s:={ s with heap:=h' }) e c d (by decide) ⟨x,H,I1,ru,⟨rfl,fun ys hy=>by rw [I.list_inj hy hq];exact hx⟩,st',fun b hb=>(hf b hb).1⟩⟩
  done:=by
    intro X hP hw hK hc i pins s σ H E I hf st hg
    subst hP hw hK
    obtain⟨xs,hq,hx⟩:=hg
    obtain⟨its,rv,p,hz⟩:=I.list hq
    obtain⟨f0,f1,f2,f3,f4,f5⟩:=hf it (by simp)
    have hl:=rv.length
    exact wpAny_pyNext_list_end (I.ok.hd hc) st p.isList (by simp;omega) fun h' eb=>⟨rfl,I.turned (t':=s.toks) (fun b o hb e=>eb b o hb e) f0 f1 f3 f4 f5⟩
  self:=fun _ _ _ _ _ st h=>wpAny_pyIter_listiter st h
end L2
namespace L2
open PySem PySem.Spec PyProof.Rows
section
variable {X:Cx} {tg:Expr}
def iList (K:PySem.W.Frag) (tl:TE):TI:=fun σ H R=>tl σ H fun x H1=>∃ a,x=.ref a∧(∃ xs,SqL K H1 a xs)∧R (Itl K a) H1
theorem l'l {l:Expr} {tl:TE} (hl:PE X l tl):PI X tg l (iList X.K tl):=by
  intro pins s σ H R I h
  refine thn (hl pins s σ H _ I h) fun v s1 ⟨x,H1,I1,r1,q1⟩=>?_
  obtain⟨a,e,⟨xs,hq⟩,q⟩:=q1
  subst e
  cases r1
  obtain⟨its,rv,p,hz⟩:=I1.list hq
  refine wpAny_pyIter_list p.isList ?_
  refine⟨s1.heap.objs.size,[s1.heap.objs.size],_,_,H1,rfl,I1.kept (t':=s1.toks) fun b o e=>Heap.get?_push_of_some _ e,g'w a _,⟨_,Heap.get?_push_size _ rfl,rfl,rfl⟩,fun b hb=>?_,q⟩
  have e:b=s1.heap.objs.size:=by simpa using hb
  subst e
  exact I1.fpOk (Nat.le_refl _) (I1.hok.fresh (Nat.le_refl _))
def tFor (wi:TI) (g:TG) (tb:TS):TS:=fun D σ H=>wi σ H fun J H1=>∃ W:Nat→Nat→St→Hp→Prop,(∃ m,W 0 m σ H1)∧∀ i m σ H,W i m σ H→
  (J.stop i H∧D.nx σ H)∨(J.go i H∧∃ N:St→Hp→Prop,(∀ σ' H',N σ' H'→∃ m',m'<m∧W (i+1) m' σ' H')∧∀ x H',J.yld i H x H'→g x σ H' fun σ2 H2=>tb { D with nx:=N,ct:=N,bk:=D.nx } σ2 H2)
def pinsAt (fp:List Addr) (h:Heap):List (Addr×Obj):=fp.filterMap fun b=>(h.get? b).map fun o=>(b,o)
theorem b'd {fp:List Addr} {h:Heap} {b:Addr} {o:Obj} (hb:b∈fp) (e:h.get? b=some o):(b,o)∈pinsAt fp h:=List.mem_filterMap.mpr ⟨b,hb,by rw [e];rfl⟩
theorem g'x {fp:List Addr} {h:Heap} {p:Addr×Obj} (hp:p∈pinsAt fp h):p.1∈fp∧h.get? p.1=some p.2:=by
  obtain⟨b,hb,e⟩:=List.mem_filterMap.mp hp
  cases q:h.get? b with
  | none => rw [q] at e; cases e
  | some o =>
    rw [q] at e
    have e':(b,o)=p:=Option.some.inj e
    subst e'
    exact⟨hb,q⟩
theorem Inv.pinned {pins:List (Addr×Obj)} {σ:St} {H:Hp} {s:Shared} {fp:List Addr} (I:Inv X pins σ H s) (hf:∀ b∈fp,FpOk X pins H b) (ho:∀ b∈fp,∃ o,s.heap.get? b=some o∧∀ v,o.data≠.cell v):Inv X (pins++pinsAt fp s.heap) σ H s:=
  I.pins_of fun p hp=>(List.mem_append.mp hp).elim (fun z=>I.pin p (List.mem_append_right _ z)) fun z=>by
    obtain⟨hb,e⟩:=g'x z
    obtain⟨f0,f1,f2,_⟩:=hf p.1 hb
    obtain⟨o,e',d⟩:=ho p.1 hb
    rw [e] at e';cases e'
    exact⟨e,f0,f1,f2,d⟩
theorem Inv.unpinned {pins pl:List (Addr×Obj)} {σ:St} {H:Hp} {s:Shared} (I:Inv X (pins++pl) σ H s):Inv X pins σ H s:=I.pins_of fun p hp=>I.pin p (List.mem_append_right _ (List.mem_append_left _ hp))
theorem m'X {iter:Expr} {body:List Stmt} {wi:TI} {g:TG} {tb:TS} {pos:Pos} (hp:PassesOwn (model X.prog X.w) X.A X.env X.xe) (hc:X.calm=true) (hi:PI X tg iter wi) (hg:PG X tg g) (hb:PSs X body tb)
    (hs:∀ x,foldedSetIterable iter X.env x=pure x:=by intro _;rfl):PS X (.For tg iter body [] pos) (tFor wi g tb):=by
  intro pins s σ H D I h
  refine wpAny_For (thn (hi pins s σ H _ I h) fun v s1 h1=>thn h1 fun itv s2 h2=>?_) hs
  obtain⟨it,fp,tn,J,H2,e,I2,T,st2,f2,W,⟨m0,w0⟩,turn⟩:=h2
  subst e
  have stat:∀ {H':Hp},(∀ b∈fp,H' b=none)→∀ b∈fp,FpOk X pins H' b:=fun hn b hb=>⟨hn b hb,(f2 b hb).2⟩
  refine codeAny_forLoop_any (fun n s'=>∃ i σ' H',Inv X pins σ' H' s'∧tn i s'.heap∧(∀ b∈fp,H' b=none)∧W i n σ' H') ?_ m0 ⟨0,σ,H2,I2,st2,fun b hb=>(f2 b hb).1,w0⟩
  rintro n s3 ⟨i,σ3,H3,I3,st3,fr3,w3⟩
  rcases turn i n σ3 H3 w3 with ⟨stop,qn⟩ | ⟨go,N,hN,step⟩
  · refine wpAny_passesOwn hp (thn (T.done X rfl rfl rfl hc i pins s3 σ3 H3 X.xe I3 (stat fr3) st3 stop) fun r s4 ⟨hr,I4⟩=>?_)
    subst hr
    exact wpAny_execs_nil ⟨σ3,H3,I4,qn⟩
  · refine wpAny_passesOwn hp (thn (T.item X rfl rfl rfl hc i pins s3 σ3 H3 X.xe I3 (stat fr3) st3 go) fun r s4 ⟨u,hr,h4⟩=>?_)
    subst hr
    refine wpAny_passesOwn hp (thn h4 fun _ s5 ⟨x,H5,I5,r5,y5,st5,fr5⟩=>?_)
    have I5':=I5.pinned (stat fr5) (T.obj _ _ st5)
    refine wpAny_passesOwn hp (thn (hg _ s5 σ3 H5 x u _ I5' r5 (step x H5 y5)) fun _ s6 ⟨σ6,H6,I6,q6⟩=>?_)
    refine wpAny_passesOwn hp (thn (hb _ s6 σ6 H6 _ I6 q6) fun f s7 q7=>?_)
    have again:∀ {σ7:St} {H7:Hp},Inv X (pins++pinsAt fp s5.heap) σ7 H7 s7→N σ7 H7→∃ m,m<n∧∃ i σ' H',Inv X pins σ' H' s7∧tn i s7.heap∧(∀ b∈fp,H' b=none)∧W i m σ' H':=fun {σ7 H7} I7 n7=>by
      obtain⟨m',hm,w7⟩:=hN σ7 H7 n7
      refine⟨m',hm,i+1,σ7,H7,I7.unpinned,T.keep _ _ _ st5 fun b hb o e=>(I7.pin (b,o) (List.mem_append_right _ (List.mem_append_right _ (b'd hb e)))).1,fun b hb=>?_,w7⟩
      obtain⟨o,e,d⟩:=T.obj _ _ st5 b hb
      exact (I7.pin (b,o) (List.mem_append_right _ (List.mem_append_right _ (b'd hb e)))).2.1
    cases f with
    | next=>obtain⟨σ7,H7,I7,n7⟩:=q7;exact again I7 n7
    | cont=>obtain⟨σ7,H7,I7,n7⟩:=q7;exact again I7 n7
    | brk=>obtain⟨σ7,H7,I7,q7⟩:=q7;exact⟨σ7,H7,I7.unpinned,q7⟩
    | ret v=>obtain⟨x7,σ7,H7,I7,r7,q7⟩:=q7;exact⟨x7,σ7,H7,I7.unpinned,r7,q7⟩
end
end L2
namespace L2
open PySem PySem.Spec PyProof.Rows
abbrev R2:=V→V→Hp→VK→Prop
def OpR (X:Cx) (f:Value→Value→Sem Value) (r:R2):Prop:=
  ∀ (pins:List (Addr×Obj)) (s:Shared) (σ:St) (H:Hp) (x y:V) (v u:Value) (Q:VK),Inv X pins σ H s→RelV x v→RelV y u→r x y H Q→
    wpAny (model X.prog X.w) X.A (f v u) (EP X pins σ Q) X.xe s
def UnR (X:Cx) (f:Value→Sem Value) (r:V→Hp→VK→Prop):Prop:=
  ∀ (pins:List (Addr×Obj)) (s:Shared) (σ:St) (H:Hp) (x:V) (v:Value) (Q:VK),Inv X pins σ H s→RelV x v→r x H Q→
    wpAny (model X.prog X.w) X.A (f v) (EP X pins σ Q) X.xe s
def CallR (X:Cx) (f:Value) (r:List V→Hp→VK→Prop):Prop:=
  ∀ (pins:List (Addr×Obj)) (s:Shared) (σ:St) (H:Hp) (xs:List V) (us:List Value) (Q:VK),Inv X pins σ H s→Vals xs us→r xs H Q→
    wpAny (model X.prog X.w) X.A (call f us) (EP X pins σ Q) X.xe s
def tOp (r:R2) (ta tb:TE):TE:=fun σ H Q=>ta σ H fun x H1=>tb σ H1 fun y H2=>r x y H2 Q
def tUn (r:V→Hp→VK→Prop) (ta:TE):TE:=fun σ H Q=>ta σ H fun x H1=>r x H1 Q
def rI (C:Int→Int→Prop) (g:Int→Int→V):R2:=fun x y H Q=>∃ i j,x=.int i∧y=.int j∧C i j∧Q (g i j) H
def rI0 (g:Int→Int→V):R2:=fun x y H Q=>∃ i j,x=.int i∧y=.int j∧Q (g i j) H
def rU (g:Int→V):V→Hp→VK→Prop:=fun x H Q=>∃ i,x=.int i∧Q (g i) H
section
variable {X:Cx} {a b c:Expr} {ta tb tc:TE} {pos:Pos}
theorem i'K (ha:PE X a ta) (hb:PE X b tb) {pins:List (Addr×Obj)} {s:Shared} {σ:St} {H:Hp} {R:V→V→Hp→Prop} (I:Inv X pins σ H s)
    (h:ta σ H fun x H1=>tb σ H1 fun y H2=>R x y H2) {Q:Value→Shared→Prop} {f:Value→Value→Sem Value}
    (hf:∀ v u s2 x y H2,Inv X pins σ H2 s2→RelV x v→RelV y u→R x y H2→wpAny (model X.prog X.w) X.A (f v u) Q X.xe s2) :
    wpAny (model X.prog X.w) X.A (eval a X.env) (fun v s₁=>wpAny (model X.prog X.w) X.A (eval b X.env) (fun u s₂=>wpAny (model X.prog X.w) X.A (f v u) Q X.xe s₂) X.xe s₁) X.xe s:=by
  refine thn (ha pins s σ H _ I h) fun v s1 ⟨x,H1,I1,r1,q1⟩=>?_
  refine thn (hb pins s1 σ H1 _ I1 q1) fun u s2 ⟨y,H2,I2,r2,q2⟩=>?_
  exact hf v u s2 x y H2 I2 r1 r2 q2
theorem o'O {op:Operator} {r:R2} (ho:OpR X (binaryOp op) r) (ha:PE X a ta) (hb:PE X b tb):PE X (.BinOp a op b pos) (tOp r ta tb):=by
  intro pins s σ H Q I h
  exact wpAny_BinOp (i'K ha hb I h fun v u s2 x y H2 I2 rx ry q=>ho pins s2 σ H2 x y v u Q I2 rx ry q)
theorem o'P {op:UnaryOp} {r:V→Hp→VK→Prop} (ho:UnR X (unaryOp op) r) (ha:PE X a ta):PE X (.UnaryOp op a pos) (tUn r ta):=by
  intro pins s σ H Q I h
  exact UnaryOp_ (thn (ha pins s σ H _ I h) fun v s1 ⟨x,H1,I1,r1,q1⟩=>ho pins s1 σ H1 x v Q I1 r1 q1)
theorem opI {f:Value→Value→Sem Value} {C:Int→Int→Prop} {g:Int→Int→Int}
    (rule:∀ (i j:Int) (t u:Tok) (s:Shared) (Q:Value→Shared→Prop) (E:Value→Shared→Prop),C i j→Q (.int (g i j) s.toks) { s with toks:=s.toks+1 }→wpAny (model X.prog X.w) X.A (f (.int i t) (.int j u)) Q E s) :
    OpR X f (rI C fun i j=>.int (g i j)):=by
  intro pins s σ H x y v u Q I rx ry h
  obtain⟨i,j,rfl,rfl,hc,q⟩:=h
  obtain⟨t,rfl⟩:=rx
  obtain⟨t',rfl⟩:=ry
  exact rule i j t t' s _ _ hc ⟨.int (g i j),H,I.tok _,⟨_,rfl⟩,q⟩
theorem m'Y {f:Value→Value→Sem Value} {g:Int→Int→Int}
    (rule:∀ (i j:Int) (t u:Tok) (s:Shared) (Q:Value→Shared→Prop) (E:Value→Shared→Prop),Q (.int (g i j) s.toks) { s with toks:=s.toks+1 }→wpAny (model X.prog X.w) X.A (f (.int i t) (.int j u)) Q E s) :
    OpR X f (rI0 fun i j=>.int (g i j)):=by
  intro pins s σ H x y v u Q I rx ry h
  obtain⟨i,j,rfl,rfl,q⟩:=h
  obtain⟨t,rfl⟩:=rx
  obtain⟨t',rfl⟩:=ry
  exact rule i j t t' s _ _ ⟨.int (g i j),H,I.tok _,⟨_,rfl⟩,q⟩
theorem m'Z {f:Value→Value→Sem Value} {g:Int→Int→Bool}
    (rule:∀ (i j:Int) (t u:Tok) (s:Shared) (Q:Value→Shared→Prop) (E:Value→Shared→Prop),Q (.bool (g i j)) s→wpAny (model X.prog X.w) X.A (f (.int i t) (.int j u)) Q E s) :
    OpR X f (rI0 fun i j=>.bl (g i j)):=by
  intro pins s σ H x y v u Q I rx ry h
  obtain⟨i,j,rfl,rfl,q⟩:=h
  obtain⟨t,rfl⟩:=rx
  obtain⟨t',rfl⟩:=ry
  exact rule i j t t' s _ _ ⟨.bl (g i j),H,I,rfl,q⟩
def CPow (i j:Int):Prop:=0≤j∧j≤1000000∧i.natAbs<2 ^ 64
def CMul (i j:Int):Prop:=(-(2 ^ 64)<i∧i<2 ^ 64)∨(-(2 ^ 64)<j∧j<2 ^ 64)
theorem CMul.ok {i j:Int} (h:CMul i j):IntMulOk i j:=by
  rcases h with ⟨h1,h2⟩ | ⟨h1,h2⟩
  · exact .of_left (intBits_le_64 h1 h2)
  · exact .of_right (intBits_le_64 h1 h2)
theorem op_add:OpR X (binaryOp .Add) (rI0 fun i j=>.int (i+j)):=m'Y fun _ _ _ _ _ _ _ q=>add_int q
theorem n'a:OpR X (binaryOp .Sub) (rI0 fun i j=>.int (i - j)):=m'Y fun _ _ _ _ _ _ _ q=>sub_int q
theorem n'b:OpR X (binaryOp .Mod) (rI (fun _ j=>0<j) fun i j=>.int (i % j)):=opI fun i j _ _ _ _ _ hc q=>by
  have h1:(0:Int)<j:=hc
  exact mod_int' (by omega) (by rw [Int.fmod_eq_emod_of_nonneg i (by omega)];exact q)
theorem n'c:OpR X (binaryOp .Pow) (rI CPow fun i j=>.int (i ^ j.toNat)):=opI fun _ _ _ _ _ _ _ hc q=>pow_int_small hc.1 hc.2.1 hc.2.2 q
theorem unI {f:Value→Sem Value} {g:Int→Int}
    (rule:∀ (i:Int) (t:Tok) (s:Shared) (Q:Value→Shared→Prop) (E:Value→Shared→Prop),Q (.int (g i) s.toks) { s with toks:=s.toks+1 }→wpAny (model X.prog X.w) X.A (f (.int i t)) Q E s) :
    UnR X f (rU fun i=>.int (g i)):=by
  intro pins s σ H x v Q I rx h
  obtain⟨i,rfl,q⟩:=h
  obtain⟨t,rfl⟩:=rx
  exact rule i t s _ _ ⟨.int (g i),H,I.tok _,⟨_,rfl⟩,q⟩
theorem n'd:UnR X (unaryOp .USub) (rU fun i=>.int (-i)):=unI fun _ _ _ _ _ q=>neg_int q
end
def scal:V→V→Bool
  | .non, .non => true | .non, .int _ => true | .int _, .non => true | .non, .bl _ => true | .bl _, .non => true | .non, .str _ => true | .str _, .non => true
  | .int _, .int _ => true | .bl _, .bl _ => true | .str _, .str _ => true | .byt _, .byt _ => true
  | .int _, .str _ => true | .str _, .int _ => true | .bl _, .str _ => true | .str _, .bl _ => true
  | _, _ => false
def rEq:R2:=fun x y H Q=>scal x y=true∧Q (.bl (decide (x=y))) H
def rNe:R2:=fun x y H Q=>scal x y=true∧Q (.bl (!decide (x=y))) H
theorem e'n {i j:Int}:decide (V.int i=V.int j)=(i == j):=by
  rw [Bool.eq_iff_iff]
  simp
theorem g'y {i j:Bool}:decide (V.bl i=V.bl j)=(i == j):=by
  rw [Bool.eq_iff_iff]
  simp
theorem e'o {i j:Str}:decide (V.str i=V.str j)=(i == j):=by
  rw [Bool.eq_iff_iff]
  simp
theorem e'p {i j:Array UInt8}:decide (V.byt i=V.byt j)=(i.toList == j.toList):=by
  rw [Bool.eq_iff_iff]
  cases i
  cases j
  simp
section
variable {X:Cx} {a b c:Expr} {ta tb tc:TE} {pos:Pos}
theorem a'j {pins:List (Addr×Obj)} {σ:St} {H:Hp} {s:Shared} {Q:VK} {k k':Bool} (I:Inv X pins σ H s) (q:Q (.bl k) H) (e:k=k'):EP X pins σ Q (.bool k') s:=by
  subst e
  exact⟨.bl k,H,I,rfl,q⟩
theorem op_eq:OpR X (compareOp .Eq) rEq:=by
  intro pins s σ H x y v u Q I rx ry h
  obtain⟨hs,q⟩:=h
  cases x with
  | non =>
    cases rx
    cases y with
    | non=>cases ry;exact PySem.EqNone.eq_none_none (a'j I q (by simp))
    | bl j=>cases ry;exact PySem.EqNone.eq_none_bool (a'j I q (by simp))
    | int j=>obtain⟨t',rfl⟩:=ry;exact PySem.EqNone.eq_none_int (a'j I q (by simp))
    | str j=>obtain⟨t',rfl⟩:=ry;exact PySem.EqNone.eq_none_str (a'j I q (by simp))
    | _=>exact absurd (show false=true from hs) Bool.false_ne_true
  | bl i =>
    cases rx
    cases y with
    | non=>cases ry;exact PySem.EqNone.eq_bool_none (a'j I q (by simp))
    | bl j=>cases ry;exact eq_bool (a'j I q g'y)
    | str j=>obtain⟨t',rfl⟩:=ry;exact PySem.EqMixed.eq_bool_str (a'j I q (by simp))
    | _=>exact absurd (show false=true from hs) Bool.false_ne_true
  | int i =>
    obtain⟨t,rfl⟩:=rx
    cases y with
    | non=>cases ry;exact PySem.EqNone.eq_int_none (a'j I q (by simp))
    | int j=>obtain⟨t',rfl⟩:=ry;exact eq_int (a'j I q e'n)
    | str j=>obtain⟨t',rfl⟩:=ry;exact PySem.EqMixed.eq_int_str (a'j I q (by simp))
    | _=>exact absurd (show false=true from hs) Bool.false_ne_true
  | str i =>
    obtain⟨t,rfl⟩:=rx
    cases y with
    | non=>cases ry;exact PySem.EqNone.eq_str_none (a'j I q (by simp))
    | bl j=>cases ry;exact PySem.EqMixed.eq_str_bool (a'j I q (by simp))
    | int j=>obtain⟨t',rfl⟩:=ry;exact PySem.EqMixed.eq_str_int (a'j I q (by simp))
    | str j=>obtain⟨t',rfl⟩:=ry;exact eq_str (a'j I q e'o)
    | _=>exact absurd (show false=true from hs) Bool.false_ne_true
  | byt i =>
    obtain⟨t,rfl⟩:=rx
    cases y with
    | byt j=>obtain⟨t',rfl⟩:=ry;exact PySem.W.eq_bytes (a'j I q e'p)
    | _=>exact absurd (show false=true from hs) Bool.false_ne_true
  | _ => cases y <;> exact absurd (show false = true from hs) Bool.false_ne_true
theorem op_ne:OpR X (compareOp .NotEq) rNe:=by
  intro pins s σ H x y v u Q I rx ry h
  obtain⟨hs,q⟩:=h
  cases x with
  | non =>
    cases rx
    cases y with
    | non=>cases ry;exact PySem.EqNone.ne_none_none (a'j I q (by simp))
    | bl j=>cases ry;exact PySem.EqNone.ne_none_bool (a'j I q (by simp))
    | int j=>obtain⟨t',rfl⟩:=ry;exact PySem.EqNone.ne_none_int (a'j I q (by simp))
    | str j=>obtain⟨t',rfl⟩:=ry;exact PySem.EqNone.ne_none_str (a'j I q (by simp))
    | _=>exact absurd (show false=true from hs) Bool.false_ne_true
  | bl i =>
    cases rx
    cases y with
    | non=>cases ry;exact PySem.EqNone.ne_bool_none (a'j I q (by simp))
    | bl j=>cases ry;exact ne_bool (a'j I q (congrArg not g'y))
    | str j=>obtain⟨t',rfl⟩:=ry;exact PySem.EqMixed.ne_bool_str (a'j I q (by simp))
    | _=>exact absurd (show false=true from hs) Bool.false_ne_true
  | int i =>
    obtain⟨t,rfl⟩:=rx
    cases y with
    | non=>cases ry;exact PySem.EqNone.ne_int_none (a'j I q (by simp))
    | int j=>obtain⟨t',rfl⟩:=ry;exact ne_int (a'j I q (congrArg not e'n))
    | str j=>obtain⟨t',rfl⟩:=ry;exact PySem.EqMixed.ne_int_str (a'j I q (by simp))
    | _=>exact absurd (show false=true from hs) Bool.false_ne_true
  | str i =>
    obtain⟨t,rfl⟩:=rx
    cases y with
    | non=>cases ry;exact PySem.EqNone.ne_str_none (a'j I q (by simp))
    | bl j=>cases ry;exact PySem.EqMixed.ne_str_bool (a'j I q (by simp))
    | int j=>obtain⟨t',rfl⟩:=ry;exact PySem.EqMixed.ne_str_int (a'j I q (by simp))
    | str j=>obtain⟨t',rfl⟩:=ry;exact ne_str (a'j I q (congrArg not e'o))
    | _=>exact absurd (show false=true from hs) Bool.false_ne_true
  | byt i =>
    obtain⟨t,rfl⟩:=rx
    cases y with
    | byt j=>obtain⟨t',rfl⟩:=ry;exact PySem.W.ne_bytes (a'j I q (congrArg not e'p))
    | _=>exact absurd (show false=true from hs) Bool.false_ne_true
  | _ => cases y <;> exact absurd (show false = true from hs) Bool.false_ne_true
theorem op_lt:OpR X (compareOp .Lt) (rI0 fun i j=>.bl (decide (i<j))):=m'Z fun _ _ _ _ _ _ _ q=>lt_int q
theorem op_gt:OpR X (compareOp .Gt) (rI0 fun i j=>.bl (decide (j<i))):=m'Z fun _ _ _ _ _ _ _ q=>gt_int q
theorem g'z:OpR X (compareOp .Lt) (fun x y H Q=>∃ i j,x=.str i∧y=.str j∧Q (.bl (decide (i.cps.toList<j.cps.toList))) H):=by
  intro pins s σ H x y v u Q I rx ry h
  obtain⟨i,j,rfl,rfl,q⟩:=h
  obtain⟨t,rfl⟩:=rx
  obtain⟨t',rfl⟩:=ry
  exact lt_str (a'j I q rfl)
theorem c'F:OpR X (compareOp .In) (fun x y H Q=>∃ i j,x=.str i∧y=.str j∧Q (.bl (!(Builtin.Str.occurrences j i 0 j.length 1).isEmpty)) H):=by
  intro pins s σ H x y v u Q I rx ry h
  obtain⟨i,j,rfl,rfl,q⟩:=h
  obtain⟨t,rfl⟩:=rx
  obtain⟨t',rfl⟩:=ry
  exact in_str (a'j I q rfl)
theorem n'e:OpR X (compareOp .Is) (fun x y H Q=>y=.non∧Q (.bl (decide (x=.non))) H):=by
  intro pins s σ H x y v u Q I rx ry h
  obtain⟨rfl,q⟩:=h
  cases ry
  refine is_none_gen (a'j I q ?_)
  cases x<;>first
    | (cases rx;rfl)
    | (obtain⟨t,rfl⟩:=rx;rfl)
theorem OpR.or {f:Value→Value→Sem Value} {r r':R2} (h:OpR X f r) (h':OpR X f r'):OpR X f (fun x y H Q=>r x y H Q∨r' x y H Q):=by
  intro pins s σ H x y v u Q I rx ry q
  rcases q with q | q
  · exact h pins s σ H x y v u Q I rx ry q
  · exact h' pins s σ H x y v u Q I rx ry q
theorem l'm {op:CmpOp} {r:R2} (ho:OpR X (compareOp op) r) (ha:PE X a ta) (hb:PE X b tb) (hm:behindInMarks op b=false):PE X (.Compare a [op] [b] pos) (tOp r ta tb):=by
  intro pins s σ H Q I h
  exact wpAny_Compare1 (i'K ha hb I h fun v u s2 x y H2 I2 rx ry q=>ho pins s2 σ H2 x y v u Q I2 rx ry q) hm
def tTest (t:TE):TT:=fun σ H Q=>t σ H fun x H'=>∃ k,x=.bl k∧Q k H'
theorem l'n {op:CmpOp} {r:R2} (ho:OpR X (compareOp op) r) (ha:PE X a ta) (hb:PE X b tb) (hm:behindInMarks op b=false):PT X (.Compare a [op] [b] pos) (tTest (tOp r ta tb)):=by
  intro pins s σ H Q I h
  refine wpAny_isTrue_Compare1 (thn (ha pins s σ H _ I h) fun v s1 ⟨x,H1,I1,r1,q1⟩=>thn (hb pins s1 σ H1 _ I1 q1) fun u s2 ⟨y,H2,I2,r2,q2⟩=>
    thn (ho pins s2 σ H2 x y v u _ I2 r1 r2 q2) fun c s3 ⟨z,H3,I3,r3,k,e,q3⟩=>?_) hm
  subst e
  cases r3
  exact wpAny_truthy_bool ⟨H3,I3,q3⟩
theorem b'L:(sizeLine:Nat)<2 ^ 63:=by rw [sizeLine_eq];decide
theorem op_add_str:OpR X (binaryOp .Add) (fun x y H Q=>∃ i j,x=.str i∧y=.str j∧i.length+j.length≤sizeLine∧Q (.str (i++j)) H):=by
  intro pins s σ H x y v u Q I rx ry h
  obtain⟨i,j,rfl,rfl,hz,q⟩:=h
  obtain⟨t,rfl⟩:=rx
  obtain⟨t',rfl⟩:=ry
  exact add_str (fun t' tk=>⟨.str (i++j),H,I.tok _,⟨_,rfl⟩,q⟩) hz
theorem b't {x:V} {us:List Value} (r:Vals [x] us):∃ u,us=[u]∧RelV x u:=by
  cases r with
  | cons r1 r2 => cases r2; exact ⟨_, rfl, r1⟩
theorem c'Y {x y:V} {us:List Value} (r:Vals [x,y] us):∃ u w',us=[u,w']∧RelV x u∧RelV y w':=by
  cases r with
  | cons r1 r2 =>
    cases r2 with
    | cons r3 r4=>cases r4;exact⟨_,_,rfl,r1,r3⟩
theorem b'E:CallR X (.builtin "abs") (fun xs H Q=>∃ i,xs=[.int i]∧Q (.int (if i<0 then -i else i)) H):=by
  intro pins s σ H xs us Q I r h
  obtain⟨i,rfl,q⟩:=h
  obtain⟨u,rfl,t,rfl⟩:=b't r
  exact call_abs_int fun u tk=>⟨.int (if i<0 then -i else i),H,I.tok _,⟨_,rfl⟩,q⟩
theorem a'z:CallR X (.type "str") (fun xs H Q=>∃ i,xs=[.int i]∧i.natAbs.log2<1920∧Q (.str (toString i)) H):=by
  intro pins s σ H xs us Q I r h
  obtain⟨i,rfl,hz,q⟩:=h
  obtain⟨u,rfl,t,rfl⟩:=b't r
  exact PySem.P.str_of_int hz ⟨.str _,H,I.tok _,⟨_,rfl⟩,q⟩
def LenV (K:PySem.W.Frag) (x:V) (H:Hp) (n:Nat):Prop:=
  match x with
  | .str y => y.length ≤ sizeLine ∧ n = y.length
  | .byt y => y.size ≤ sizeLine ∧ n = y.size
  | .ref p => (∃ xs, SqL K H p xs ∧ n = xs.length) ∨ ∃ xs, SqT K H p xs ∧ n = xs.length
  | _ => False
theorem call_len:CallR X (.builtin "len") (fun xs H Q=>∃ x n,xs=[x]∧LenV X.K x H n∧Q (.int n) H):=by
  intro pins s σ H xs us Q I r h
  obtain⟨x,n,rfl,e,q⟩:=h
  obtain⟨u,rfl,rx⟩:=b't r
  have hl:=b'L
  have hs:sizeLine=16777216:=sizeLine_eq
  cases x with
  | str y =>
    obtain⟨t,rfl⟩:=rx
    obtain⟨hy,e'⟩:y.length≤sizeLine∧n=y.length:=e
    subst e'
    exact len_str (by omega) ⟨.int _,H,I.tok _,⟨_,rfl⟩,q⟩
  | byt y =>
    obtain⟨t,rfl⟩:=rx
    obtain⟨hy,e'⟩:y.size≤sizeLine∧n=y.size:=e
    subst e'
    exact PySem.W.len_bytes (by omega) ⟨.int _,H,I.tok _,⟨_,rfl⟩,q⟩
  | ref p =>
    cases rx
    have e':(∃ xs,SqL X.K H p xs∧n=xs.length)∨∃ xs,SqT X.K H p xs∧n=xs.length:=e
    rcases e' with ⟨xs,hx,e'⟩ | ⟨xs,hx,e'⟩
    · subst e'
      obtain⟨its,r',pl,hz⟩:=I.list hx
      have hlen:=r'.length
      exact Calls.call_len_list pl.isList (by simp only [List.size_toArray];omega) ⟨.int xs.length,H,I.tok _,⟨_,by simp only [List.size_toArray];rw [hlen]⟩,q⟩
    · subst e'
      obtain⟨its,r',pl,hz⟩:=I.tuple hx
      have hlen:=r'.length
      exact len_tuple pl (by simp only [List.size_toArray];omega) ⟨.int xs.length,H,I.tok _,⟨_,by simp only [List.size_toArray];rw [hlen]⟩,q⟩
  | _ => exact (show False from e).elim
end
end L2
namespace L2
open PySem PySem.Spec PyProof.Rows
structure ObjM (h:Heap) (x dx C:Addr) (mA:Str→Option Value):Prop where
  obj:h.get? x=some (PySem.W.instObj C dx)
  ns:h.Ns1 dx mA
  ne:dx≠x
theorem g'A {h:Heap} {dx:Addr} {mA:Str→Option Value} (n:h.Ns1 dx mA):∃ od,h.get? dx=some od∧∀ name,PySem.W.lookIn name od=some (mA name):=by
  obtain⟨o,es,ep,ho,hd,hk,_,hm⟩:=n
  refine⟨o,ho,fun name=>?_⟩
  have e:=hm name
  unfold nsFind findBy at e
  rw [← Array.find?_toList] at e
  unfold PySem.W.lookIn
  rw [hd]
  dsimp only
  split
  · rename_i y q
    rw [q] at e
    exact congrArg some e
  · rename_i q
    rw [q] at e
    have a:es.toList.any (·.refKey)=false:=by
      rw [List.any_eq_false]
      intro y hy
      obtain⟨z,t,hkey⟩:=hk y (Array.mem_toList_iff.mp hy)
      simp [DictEntry.refKey,hkey]
    have a':¬ es.toList.any (·.refKey)=true:=by rw [a];exact Bool.false_ne_true
    rw [if_neg a']
    exact congrArg some e
theorem ObjM.look {h:Heap} {x dx C:Addr} {mA:Str→Option Value} (I:ObjM h x dx C mA):∃ od,PySem.W.InstAt h x (PySem.W.instObj C dx) C (some od)∧∀ name,PySem.W.lookIn name od=some (mA name):=
  let ⟨od,ho,hl⟩:=g'A I.ns
  ⟨od,⟨I.obj,rfl,rfl,ho⟩,hl⟩
section
variable {prog:Program} {w:World} {A:Around} {E:Value→Shared→Prop} {s:Shared} {K:PySem.W.Frag} {x dx C f:Addr} {mA:Str→Option Value} {name:Str} {v:Value}
end
theorem RelO.some_of {v:V} {o:Option Value} (r:RelO (some v) o):∃ u,o=some u∧RelV v u:=by
  cases o with
  | none => exact (show False from r).elim
  | some u => exact ⟨u, rfl, r⟩
section
variable {P:Program} {w:World} {H H':Hp} {h h':Heap} {a C dx:Addr} {fs fs':List (Str×V)}
theorem l'o (hok:HOk P w H h) (e:H a=some (.ins C dx fs)):∃ mA,ObjM h a dx C mA∧(∀ f,RelO (fs.lookup f) (mA f))∧PySem.Within mA (fs.map (·.1))∧fs.length≤1000∧H dx=some (.own a):=by
  obtain⟨d,z,ne,ob,mA,n,r,q⟩:=(show ObjOk P w H h a (.ins C dx fs) from hok a _ e)
  exact⟨mA,⟨ob,n,ne⟩,r,q,z,d⟩
end
structure Cls (K:PySem.W.Frag) (C:Addr):Prop where
  pg:PySem.W.plainGet K C Str.empty=true
  hd:PySem.W.hasDictIn K C=true
  po:PySem.W.plainOver K C=true
  sa:PySem.W.findIn K (.ref C) "__setattr__"=some (some (.builtin "object.__setattr__"))
theorem Cls.get {K:PySem.W.Frag} {C:Addr} (c:Cls K C) (f:Str):PySem.W.plainGet K C f=true:=c.pg
def NoAttr (K:PySem.W.Frag) (C:Addr) (f:Str):Prop:=PySem.W.findIn K (.ref C) f=some none
section
variable {X:Cx} {pins:List (Addr×Obj)} {σ:St} {H:Hp} {s:Shared} {a C dx:Addr} {fs:List (Str×V)} {f:Str} {v:V} {A:Around} {E:Value→Shared→Prop}
end
section
variable {X:Cx} {o e value:Expr} {f:Str} {pos pos' tpos:Pos} {ta tv:TE}
end
section
variable {X:Cx} {pins:List (Addr×Obj)} {σ:St} {H:Hp} {s:Shared} {A:Around} {E:Value→Shared→Prop} {Q:Value→Shared→Prop} {c:Value} {b:Bool}
inductive TyOf (K:PySem.W.Frag) (H:Hp):V→Value→Prop where
  | non : TyOf K H .non (.type "NoneType")
  | bl (x : Bool) : TyOf K H (.bl x) (.type "bool")
  | int (i : Int) : TyOf K H (.int i) (.type "int")
  | str (x : Str) : TyOf K H (.str x) (.type "str")
  | flt (x : UInt64) : TyOf K H (.flt x) (.type "float")
  | lst {a : Addr} {xs : List V} (e : H a = some (.lst xs)) : TyOf K H (.ref a) (.type "list")
  | frz {a : Addr} {o : Obj} {xs : List V} (e : H a = some (.frz o (.lst xs))) : TyOf K H (.ref a) (.type "list")
  | tup {a : Addr} {xs : List V} (e : H a = some (.tup xs)) : TyOf K H (.ref a) (.type "tuple")
  | dK {a : Addr} {kvs : List (Key × V)} (e : H a = some (.dK kvs)) : TyOf K H (.ref a) (.type "dict")
  | dT {a : Addr} {kvs : List (List Key × V)} (e : H a = some (.dT kvs)) : TyOf K H (.ref a) (.type "dict")
  | ins {a C dx : Addr} {fs : List (Str × V)} (e : H a = some (.ins C dx fs)) (cl : Cls K C) (ha : PySem.W.findIn K (.ref C) "__class__" = some (some (.builtin "object.__class__")))
      (hn:PySem.W.specialIn K (.builtin "object.__class__") "__get__"=some (some (.builtin "getset_descriptor.__get__"))) (htk:PySem.W.takesIn K (.builtin "object.__class__")=some true)
      (hm:PySem.W.mroIn K C (.type "object")=some true):TyOf K H (.ref a) (.ref C)
theorem g'B {x:V} {u t:Value} (I:Inv X pins σ H s) (rx:RelV x u) (ty:TyOf X.K H x t) (e:PySem.W.kitOne X.K t c=some b) (h:∀ tk,Q (.bool b) { s with toks:=tk }) :
    wpAny (model X.prog X.w) A (call (.builtin "isinstance") [u,c]) Q E s:=by
  cases ty with
  | non => cases (show u = Value.none from rx); exact PySem.W.kia_one PySem.W.kitx_none I.kIn True.intro e (fun z => nomatch z) h
  | bl y => cases (show u = Value.bool y from rx); exact PySem.W.kia_one PySem.W.kitx_bool I.kIn True.intro e (fun z => nomatch z) h
  | int i => obtain ⟨t, q⟩ := (show ∃ t, u = Value.int i t from rx); cases q; exact PySem.W.kia_one PySem.W.kitx_int I.kIn True.intro e (fun z => nomatch z) h
  | str y => obtain ⟨t, q⟩ := (show ∃ t, u = Value.str y t from rx); cases q; exact PySem.W.kia_one PySem.W.kitx_str I.kIn True.intro e (fun z => nomatch z) h
  | flt y => obtain ⟨t, q⟩ := (show ∃ t, u = Value.float y t from rx); cases q; exact PySem.W.kia_one PySem.W.kitx_float I.kIn True.intro e (fun z => nomatch z) h
  | @lst a xs ea =>
    cases (show u=Value.ref a from rx)
    obtain⟨_,_,n,_,h1⟩:=(show ObjOk X.prog X.w H s.heap a (.lst xs) from I.hok a _ ea)
    exact PySem.W.kia_one PySem.W.kitx_list I.kIn ⟨_,h1,rfl⟩ e (fun z=>nomatch z) h
  | @frz a ob xs ea =>
    cases (show u=Value.ref a from rx)
    obtain⟨_,_,_,n,_,h1⟩:=(show ObjOk X.prog X.w H s.heap a (.frz ob (.lst xs)) from I.hok a _ ea)
    exact PySem.W.kia_one PySem.W.kitx_list I.kIn ⟨_,h1,rfl⟩ e (fun z=>nomatch z) h
  | @tup a xs ea =>
    cases (show u=Value.ref a from rx)
    obtain⟨_,_,_,p⟩:=(show ObjOk X.prog X.w H s.heap a (.tup xs) from I.hok a _ ea)
    obtain⟨o,h1,h2,_⟩:=p
    exact PySem.W.kia_one PySem.W.kitx_tuple I.kIn ⟨o,h1,h2⟩ e (fun z=>nomatch z) h
  | @dK a kvs ea =>
    cases (show u=Value.ref a from rx)
    obtain⟨_,_,vs,_,p⟩:=(show ObjOk X.prog X.w H s.heap a (.dK kvs) from I.hok a _ ea)
    obtain⟨o,es,ep,h1,h2,_⟩:=p
    exact PySem.W.kia_one PySem.W.kitx_dict I.kIn ⟨o,h1,h2.1⟩ e (fun z=>nomatch z) h
  | @dT a kvs ea =>
    cases (show u=Value.ref a from rx)
    obtain⟨_,_,xs,_,o,es,ep,h1,h2,_⟩:=(show ObjOk X.prog X.w H s.heap a (.dT kvs) from I.hok a _ ea)
    exact PySem.W.kia_one PySem.W.kitx_dict I.kIn ⟨o,h1,h2.1⟩ e (fun z=>nomatch z) h
  | @ins a C dx fs ea cl ha hn htk hm =>
    cases (show u=Value.ref a from rx)
    obtain⟨mA,O,_⟩:=l'o I.hok ea
    obtain⟨od,J,_⟩:=O.look
    exact PySem.W.kia_one (PySem.W.kitx_own (cl.get _) cl.hd ha hn htk hm) I.kIn J e (fun z=>nomatch z) h
end
end L2
namespace L2
open PySem PySem.Spec PyProof.Rows
structure Room (k:Nat) (A:Around):Prop where
  hd:A.handled=none
  dp:A.depth+3*k+5<recursionLimit
  un:A.units+16*k+200<cLine
theorem Room.mono {j k:Nat} {A:Around} (r:Room k A) (h:j≤k):Room j A:=⟨r.hd,by have:=r.dp;omega,by have:=r.un;omega⟩
theorem Room.deeper {k:Nat} {A:Around} (r:Room (k+1) A) (env:Env):Room k (A.deeper env):=
  ⟨r.hd,by have:=r.dp;show A.depth+1+3*k+5<_;omega,by have:=r.un;show A.units+3+16*k+200<_;omega⟩
theorem Room.depth {k:Nat} {A:Around} (r:Room k A):A.depth<recursionLimit:=by have:=r.dp;omega
theorem Room.units {k:Nat} {A:Around} (r:Room k A):A.units+64<cLine:=by have:=r.un;omega
def tNil:TA:=fun _ H Q=>Q [] H
def tCons (ta:TE) (tr:TA):TA:=fun σ H Q=>ta σ H fun x H1=>tr σ H1 fun xs H2=>Q (x :: xs) H2
section
variable {X:Cx} {e:Expr} {es:List Expr} {te:TE} {t:TA} {pos:Pos}
theorem n'f:PA X [] tNil:=fun _ _ _ _ H Q I h=>Calls.spliced_nil ⟨[],H,I,.nil,h⟩
theorem l'p (ha:PE X e te) (hr:PA X es t) (hs:starEach (e :: es) X.env=(false,eval e X.env) :: starEach es X.env:=by rfl):PA X (e :: es) (tCons te t):=by
  intro pos pins s σ H Q I h
  rw [hs]
  show wpAny _ _ (spliced ((false,eval e X.env) :: backTo pos (starEach es X.env))) _ _ s
  refine Calls.spliced_cons (thn (ha pins s σ H _ I h) fun u s1 ⟨x,H1,I1,r1,q1⟩=>?_)
  exact thn (hr pos pins s1 σ H1 _ I1 q1) fun us s2 ⟨xs,H2,I2,r2,q2⟩=>⟨x :: xs,H2,I2,.cons r1 r2,q2⟩
def tTup (t:TA):TE:=fun σ H Q=>t σ H fun xs H1=>xs.length≤sizeLine∧∀ p,H1 p=none→Q (.ref p) (upd H1 p (.tup xs))
def tLst (t:TA):TE:=fun σ H Q=>t σ H fun xs H1=>xs.length≤sizeLine∧∀ p,H1 p=none→Q (.ref p) (upd H1 p (.lst xs))
theorem n'g {x1} (h:PA X es t):PE X (.Tuple es x1 pos) (tTup t):=by
  intro pins s σ H Q I hq
  refine wpAny_Tuple_spliced (thn (h pos pins s σ H _ I hq) fun us s1 ⟨xs,H1,I1,r,z,q⟩=>⟨by rw [← r.length];exact z,?_⟩)
  have hf:H1 s1.heap.objs.size=none:=I1.hok.fresh (Nat.le_refl _)
  refine⟨.ref s1.heap.objs.size,upd H1 s1.heap.objs.size (.tup xs),I1.laid (t':=s1.toks) (fun b u e=>Heap.get?_push_of_some _ e) (Nat.le_refl _) ?_,rfl,q _ hf⟩
  exact⟨z,us,r,⟨_,Heap.get?_push_size _ rfl,rfl,_,rfl⟩⟩
theorem n'h (h:PA X es t):PE X (.List es pos) (tLst t):=by
  intro pins s σ H Q I hq
  refine wpAny_List_spliced (thn (h pos pins s σ H _ I hq) fun us s1 ⟨xs,H1,I1,r,z,q⟩=>⟨by rw [← r.length];exact z,?_⟩)
  have hf:H1 s1.heap.objs.size=none:=I1.hok.fresh (Nat.le_refl _)
  refine⟨.ref s1.heap.objs.size,upd H1 s1.heap.objs.size (.lst xs),I1.laid (t':=s1.toks) (fun b u e=>Heap.get?_push_of_some _ e) (Nat.le_refl _) ?_,rfl,q _ hf⟩
  exact⟨z,us,0,r,Heap.get?_push_size _ rfl⟩
end
abbrev Sp:=List V→Hp→VK→XK→Prop
abbrev CXT:=List Env→Hp→Shared→XK→Value→Shared→Prop
structure Env0 (P:Program) (w:World) (K:PySem.W.Frag) (mg:Str→Option Value) (base:Heap) (A:Around) (outer:List Env) (s:Shared) (H:Hp):Prop where
  frames:A.frames=some outer
  mod:Mod K mg base
  bs:∀ b o,base.get? b=some o→s.heap.get? b=some o∧H b=none
  bsz:base.objs.size≤s.heap.objs.size
  funs:s.heap.FunFrames base outer
  frf:∀ b∈frs outer,H b=none
  hok:HOk P w H s.heap
  bare:AllBare s.gens
def CE (outer:List Env) (P:Program) (w:World) (H:Hp) (s:Shared) (Q:VK) (u:Value) (s':Shared):Prop:=
  ∃ v H',s'.os=s.os∧AllBare s'.gens∧Un (frs outer) [] H H' s.heap s'.heap∧HOk P w H' s'.heap∧RelV v u∧Q v H'
def CR (CX:CXT) (outer:List Env) (P:Program) (w:World) (H:Hp) (s:Shared) (Q:VK) (E:XK) (r:Result) (s':Shared):Prop:=
  match r with
  | .ok (.ret u) => CE outer P w H s Q u s'
  | .ok _ => False
  | .error e => CX outer H s E e s'
structure FnOk (P:Program) (w:World) (K:PySem.W.Frag) (mg:Str→Option Value) (base:Heap) (CX:CXT) (k:Nat) (f:Addr) (fd:FuncData) (ps:List Str) (sp:Sp):Prop where
  len:∀ vs H Q E,sp vs H Q E→vs.length=ps.length
  run:∀ (A:Around) (outer:List Env) (s:Shared) (H:Hp) (args:Args) (us:List Value) (vs:List V) (Q:VK) (E:XK),Room k A→Env0 P w K mg base A outer s H→BindsTo s fd args (ps.zip us)→Vals vs us→sp vs H Q E→
    codeAny (model P w) A (.call (.ref f) args) (CR CX outer P w H s Q E) s
theorem FnOk.mono {P:Program} {w:World} {K:PySem.W.Frag} {mg:Str→Option Value} {base:Heap} {CX:CXT} {j k:Nat} {f:Addr} {fd:FuncData} {ps:List Str} {sp:Sp} (F:FnOk P w K mg base CX j f fd ps sp) (h:j≤k) :
    FnOk P w K mg base CX k f fd ps sp:=⟨F.len,fun A outer s H args us vs Q E hr=>F.run A outer s H args us vs Q E (hr.mono h)⟩
theorem FnOk.imp {P:Program} {w:World} {K:PySem.W.Frag} {mg:Str→Option Value} {base:Heap} {CX:CXT} {k:Nat} {f:Addr} {fd:FuncData} {ps:List Str} {sp sp':Sp} (F:FnOk P w K mg base CX k f fd ps sp)
    (h:∀ vs H Q E,sp' vs H Q E→sp vs H Q E):FnOk P w K mg base CX k f fd ps sp':=
  ⟨fun vs H Q E q=>F.len vs H Q E (h _ _ _ _ q),fun A outer s H args us vs Q E hr he hb hv hs=>F.run A outer s H args us vs Q E hr he hb hv (h _ _ _ _ hs)⟩
section
variable {X:Cx} {pins:List (Addr×Obj)} {σ:St} {H:Hp} {s s':Shared}
theorem Inv.env0 (I:Inv X pins σ H s):Env0 X.prog X.w X.K X.mg X.base X.A X.stack s H:=
  ⟨I.ok.frames,I.ok.mod,I.bs,Nat.le_trans I.ok.bsz I.sz,I.stack,I.stkFree,I.hok,I.bare⟩
theorem Inv.after {Q:VK} {u:Value} (I:Inv X pins σ H s) (h:CE X.stack X.prog X.w H s Q u s'):EP X pins σ Q u s':=by
  obtain⟨v,H',os,bare,un,hok,r,q⟩:=h
  obtain⟨hh,g,d,t,os'⟩:=s'
  obtain rfl:os'=s.os:=os
  exact⟨v,H',I.call (h':=hh) (g':=g) (d':=d) (t':=t) (ch:=[]) un hok bare (fun b z=>absurd z (by simp)),r,q⟩
end
def tCall (sp:Sp) (dvs:List V) (E:XK) (t:TA):TE:=fun σ H Q=>t σ H fun vs H1=>sp (vs++dvs) H1 Q E
def Binds (K:PySem.W.Frag) (fd:FuncData) (ps:List Str) (ds:List Value):Prop:=
  ∀ (s:Shared) (us:List Value),K.In s.heap→(us++ds).length=ps.length→BindsTo s fd ⟨us,[]⟩ (ps.zip (us++ds))
theorem Binds.all {K:PySem.W.Frag} {fd:FuncData} {ps:List Str} (h:∀ us:List Value,us.length=ps.length→bindArgs fd ⟨us,[]⟩=pure (ps.zip us)):Binds K fd ps []:=fun s us _ hl=>by
  rw [List.append_nil] at hl ⊢
  exact .of_eq (h us hl)
def Passes (CX:CXT) (X:Cx) (E:XK):Prop:=∀ (pins:List (Addr×Obj)) (σ:St) (H:Hp) (s:Shared) (e:Value) (s':Shared),Inv X pins σ H s→CX X.stack H s E e s'→X.xe e s'
section
variable {X:Cx} {CX:CXT} {k:Nat} {f C:Addr} {fd:FuncData} {ps:List Str} {sp:Sp} {dvs:List V} {ds:List Value} {E:XK} {x m:Str} {p pos apos:Pos} {e o:Expr} {es:List Expr} {ta:TE} {t:TA}
theorem n'i {pins:List (Addr×Obj)} {σ:St} {H:Hp} {s:Shared} {Q:VK} {us:List Value} {vs:List V} (F:FnOk X.prog X.w X.K X.mg X.base CX k f fd ps sp) (hr:Room k X.A) (hb:Binds X.K fd ps ds) (hd:Vals dvs ds) (hx:Passes CX X E)
    (I:Inv X pins σ H s) (r:Vals vs us) (h:sp (vs++dvs) H Q E):wpAny (model X.prog X.w) X.A (call (.ref f) us) (EP X pins σ Q) X.xe s:=by
  have r2:Vals (vs++dvs) (us++ds):=r.append hd
  have hl:(us++ds).length=ps.length:=by rw [← r2.length];exact F.len _ _ _ _ h
  refine wpAny_call (codeAny_mono (F.run X.A X.stack s H ⟨us,[]⟩ (us++ds) (vs++dvs) Q E hr I.env0 (hb s us I.kIn hl) r2 h) fun r s' hq=>?_)
  cases r with
  | error e => exact hx pins σ H s e s' I hq
  | ok fl =>
    cases fl with
    | ret u=>exact I.after hq
    | next=>exact False.elim hq
    | brk=>exact False.elim hq
    | cont=>exact False.elim hq
theorem l'q (F:FnOk X.prog X.w X.K X.mg X.base CX k f fd ps sp) (hr:Room k X.A) (hg:Gl X x) (hm:X.mg x=some (.ref f)) (hk:PySem.W.keepIn X.K (.ref f)=true) (hb:Binds X.K fd ps ds) (hd:Vals dvs ds) (hx:Passes CX X E)
    (ha:PA X (e :: es) t) (hdb:(x == ("__debug__":Str))=false:=by decide) (he:starEach (e :: es) X.env=(false,eval e X.env) :: starEach es X.env:=by rfl) (hpl:(backTo pos (starEach es X.env)).any (·.1)=false:=by rfl) :
    PE X (.Call (.Name x p) (e :: es) [] pos) (tCall sp dvs E t):=by
  intro pins s σ H Q I h
  refine wpAny_Call_Name_kw (b'A I hg hm ?_ hdb)
  refine PySem.W.callWith_K (h₀:=X.base) I.ok.mod.kin hk (thn (ha pos pins s σ H _ I h) fun us s1 ⟨vs,H1,I1,r,q⟩=>⟨I1.kIn,?_⟩) he hpl
  exact n'i F hr hb hd hx I1 r q
end
section
variable {X:Cx} {CX:CXT} {k:Nat} {f C:Addr} {fd:FuncData} {ps ks:List Str} {sp:Sp} {E:XK} {x m:Str} {p pos apos kpos:Pos} {e o:Expr} {es:List Expr} {kws:List Keyword} {te ta:TE} {t tk:TA} {nm:Option Str}
variable {g:List Value→List Value→List Value} {gV:List V→List V→List V}
end
structure FnScope (N P:List Str) (sc:Scope):Prop where
  kind:sc.kind=.function
  co:sc.isCoroutine=false
  gen:sc.isGenerator=false
  nd:N.Nodup
  pre:N.take P.length=P
  par:∀ x∈P,sc.names.lookup x=some .local∨sc.names.lookup x=some .cell
  nofree:∀ y∈sc.names,y.2≠.free
theorem c'G {kindOf:Str→Option NameKind} {x:Str}:∀ {binds:List (Str×Value)} {m:Str→Option Value},(∀ v,(x,v) ∉ binds)→bindL kindOf binds m x=m x
  | [], _, _ => rfl
  | (n, v) :: r, m, h => by
    unfold bindL
    rw [c'G fun w hw=>h w (List.mem_cons_of_mem _ hw)]
    split
    · have:x≠n:=by rintro rfl;exact h v List.mem_cons_self
      simp [this]
    · rfl
theorem c'H {kindOf:Str→Option NameKind} {x:Str}:∀ {binds:List (Str×Value)} {m:Str→Option Value},(∀ v,(x,v) ∉ binds)→bindC kindOf binds m x=m x
  | [], _, _ => rfl
  | (n, v) :: r, m, h => by
    unfold bindC
    rw [c'H fun w hw=>h w (List.mem_cons_of_mem _ hw)]
    split
    · rfl
    · have:x≠n:=by rintro rfl;exact h v List.mem_cons_self
      simp [this]
theorem c'I {kindOf:Str→Option NameKind} {x:Str} {v:Value}:∀ {P:List Str} {vs:List Value} {i:Nat} {m:Str→Option Value},P.Nodup→P[i]?=some x→vs[i]?=some v→kindOf x=some .local→
    bindL kindOf (P.zip vs) m x=some v
  | [], _, _, _, _, h, _, _ => by simp at h
  | _ :: _, [], _, _, _, _, h, _ => by simp at h
  | p :: P, w :: vs, 0, m, nd, h1, h2, hk => by
    simp at h1 h2;subst h1;subst h2
    show bindL kindOf ((p,w) :: P.zip vs) m p=_
    unfold bindL
    rw [c'G fun v hv=>(List.nodup_cons.mp nd).1 (List.of_mem_zip hv).1,if_pos hk]
    simp
  | p :: P, w :: vs, i + 1, m, nd, h1, h2, hk => by
    show bindL kindOf ((p,w) :: P.zip vs) m x=_
    unfold bindL
    exact c'I (i:=i) (List.nodup_cons.mp nd).2 (by simpa using h1) (by simpa using h2) hk
theorem c'J {kindOf:Str→Option NameKind} {x:Str} {v:Value}:∀ {P:List Str} {vs:List Value} {i:Nat} {m:Str→Option Value},P.Nodup→P[i]?=some x→vs[i]?=some v→kindOf x≠some .local→
    bindC kindOf (P.zip vs) m x=some v
  | [], _, _, _, _, h, _, _ => by simp at h
  | _ :: _, [], _, _, _, _, h, _ => by simp at h
  | p :: P, w :: vs, 0, m, nd, h1, h2, hk => by
    simp at h1 h2;subst h1;subst h2
    show bindC kindOf ((p,w) :: P.zip vs) m p=_
    unfold bindC
    rw [c'H fun v hv=>(List.nodup_cons.mp nd).1 (List.of_mem_zip hv).1,if_neg hk]
    simp
  | p :: P, w :: vs, i + 1, m, nd, h1, h2, hk => by
    show bindC kindOf ((p,w) :: P.zip vs) m x=_
    unfold bindC
    exact c'J (i:=i) (List.nodup_cons.mp nd).2 (by simpa using h1) (by simpa using h2) hk
def start (N:List Str) (vs:List V):St:=vs.map some++List.replicate (N.length - vs.length) none
def cxOf (CX:CXT) (P:Program) (w:World) (K:PySem.W.Frag) (mg:Str→Option Value) (base:Heap) (N:List Str) (qual:Str) (scope:Scope) (f:Addr) (cd:Value) (A:Around) (outer:List Env) (s:Shared) (H:Hp) (E:XK):Cx where
  prog:=P
  w:=w
  K:=K
  mg:=mg
  base:=base
  A:=A.deeper (envOfC qual scope s.heap.objs.size f cd)
  N:=N
  s₀:=s
  H₀:=H
  env:=envOfC qual scope s.heap.objs.size f cd
  outer:=outer
  stack:=envOfC qual scope s.heap.objs.size f cd :: outer
  ex:=[]
  calm:=true
  fn:=fun _=>true
  pn:=[]
  xe:=fun e s'=>wpAny (model P w) (A.deeper (envOfC qual scope s.heap.objs.size f cd)) (leaving (envOfC qual scope s.heap.objs.size f cd) e) (fun _ s''=>CX outer H s E e s'') (fun e' s''=>CX outer H s E e' s'') s'
theorem d'g {sc:Scope} {n:Nat} {x:Str} (h:sc.names.lookup x=some .cell):∃ c,(cellsFrom n sc.names []).lookup x=some c:=by
  have q:=PySem.W.cellsFrom_some sc.names n [] (.inl h)
  exact Option.isSome_iff_exists.mp q
theorem g'C {CX:CXT} {P:Program} {w:World} {K:PySem.W.Frag} {mg:Str→Option Value} {base:Heap} {N ps:List Str} {qual:Str} {scope:Scope} {f:Addr} {cd:Value} {A:Around} {outer:List Env} {s s1:Shared} {H:Hp} {E:XK} {us:List Value} {vs:List V}
    (S:FnScope N ps scope) (hd:A.handled=none) (e0:Env0 P w K mg base A outer s H) (hl:vs.length=ps.length) (r:Vals vs us)
    (x:InCallC s s.heap.objs.size (bindL (envOfC qual scope s.heap.objs.size f cd).kindOf (ps.zip us) fun _=>none) (cellsFrom (s.heap.objs.size+1) scope.names []) (bindC (envOfC qual scope s.heap.objs.size f cd).kindOf (ps.zip us) fun _=>none) s1) :
    Inv (cxOf CX P w K mg base N qual scope f cd A outer s H E) [] (start N vs) H s1:=by
  have hpl:ps.length≤N.length:=by have:=congrArg List.length S.pre;rw [List.length_take] at this;omega
  obtain⟨h1,tk,rfl,hk⟩:=x.done
  have noA:∀ b:Addr,b ∉ (cxOf CX P w K mg base N qual scope f cd A outer s H E).ex:=fun b z=>absurd (show b∈([]:List Addr) from z) (by simp)
  refine⟨⟨e0.mod,S.kind,rfl,rfl,Nat.le_refl _,fun y z c h1 h2=>?_,fun y hy=>?_,fun y c _ h=>?_,fun _=>hd,Around.frames_deeper e0.frames,.inr ⟨rfl,rfl⟩,fun b z=>absurd z (noA b),e0.bs,e0.bsz,fun b _ _=>noA b,fun b z=>absurd z (noA b),e0.funs,e0.frf⟩,
    rfl,e0.bare,Un.kept hk,⟨_,x.toInCall.ns,fun i y v h1 h2 h3=>?_⟩,fun y c h=>⟨_,x.cell y c h⟩,e0.hok.fresh (Nat.le_refl _),fun y c h=>?_,fun p hp=>absurd (show p∈([]:List (Addr×Obj)) from hp) (by simp),e0.hok.kept hk,?_⟩
  · exact name_of_addr x.apart (PySem.mem_of_lookup h1) (PySem.mem_of_lookup h2)
  · have hy:scope.names.lookup y=some .cell∨scope.names.lookup y=some .free:=hy
    rcases hy with hy | hy
    · exact d'g hy
    · exact absurd rfl (S.nofree _ (PySem.mem_of_lookup hy))
  · exact Nat.le_of_lt (x.above y c (PySem.mem_of_lookup h))
  · have hi:i<vs.length:=by
      unfold start at h2
      by_cases hi:i<vs.length
      · exact hi
      · rw [List.getElem?_append_right (by simpa using hi)] at h2
        rw [List.getElem?_replicate] at h2
        split at h2<;>cases h2
    have ha:vs[i]?=some v:=by
      unfold start at h2
      rw [List.getElem?_append_left (by simpa using hi),List.getElem?_map] at h2
      cases e:vs[i]? with
      | none=>rw [e] at h2;cases h2
      | some a=>rw [e] at h2;cases h2;rfl
    obtain⟨u,hu,rv⟩:=r.get ha
    have hp:ps[i]?=some y:=by
      rw [← S.pre,List.getElem?_take_of_lt (by omega)];exact h1
    have ndP:ps.Nodup:=by rw [← S.pre];exact S.nd.sublist (List.take_sublist _ _)
    refine⟨u,rv,?_⟩
    rcases S.par y (List.mem_of_getElem? hp) with k | k
    · exact .inl ⟨k,c'I ndP hp hu k⟩
    · obtain⟨c,e⟩:=d'g (n:=s.heap.objs.size+1) k
      refine .inr ⟨.inl k,c,e,?_⟩
      have q:=x.cell y c e
      rw [c'J ndP hp hu (by show scope.names.lookup y≠_;rw [k];decide)] at q
      exact q
  · exact e0.hok.fresh (Nat.le_of_lt (x.above y c (PySem.mem_of_lookup h)))
  · unfold start
    show _=N.length
    rw [List.length_append,List.length_map,List.length_replicate]
    omega
theorem j'G {CX:CXT} {P:Program} {w:World} {K:PySem.W.Frag} {mg:Str→Option Value} {base:Heap} {k:Nat} {f:Addr} {name qual:Str} {params:Arguments} {body:List Stmt} {scope:Scope} {dV kV doc pm cdv ct oc:Value} {an od:Option Addr}
    {osl:Array (Option Value)} {N ps:List Str} {sp:Sp} (lk:K.lookup f=some ⟨oc,od,.func (PySem.W.fnOf name qual params body scope dV kV doc pm an cdv ct),osl⟩) (hcd:PySem.W.codeIn K cdv qual=true) (S:FnScope N ps scope)
    (len:∀ vs H Q E,sp vs H Q E→vs.length=ps.length)
    (hbody:∀ (A:Around) (outer:List Env) (s:Shared) (H:Hp) (vs:List V) (Q:VK) (E:XK),Room k (A.deeper (envOfC qual scope s.heap.objs.size f cdv))→sp vs H Q E→
      ∃ t,PSs (cxOf CX P w K mg base N qual scope f cdv A outer s H E) body t∧t { nx:=fun _ H'=>Q .non H',rt:=Q } (start N vs) H) :
    FnOk P w K mg base CX (k+1) f (PySem.W.fnOf name qual params body scope dV kV doc pm an cdv ct) ps sp:=by
  refine⟨len,fun A outer s H args us vs Q E hr e0 hb r hsp=>?_⟩
  have hl:=len _ _ _ _ hsp
  have KX:K.In s.heap:=e0.mod.kin.keeps fun b o e=>(e0.bs b o e).1
  have lim:s.heap.NoLimit:=e0.mod.nolimit.keeps fun b o e=>(e0.bs b o e).1
  have hkind:∀ y∈ps.zip us,scope.names.lookup y.1=some .local∨(scope.names.lookup y.1=some .cell∧((cellsFrom (s.heap.objs.size+1) scope.names []).lookup y.1).isSome=true):=fun ⟨n,v⟩ hy=>by
    rcases S.par n (List.of_mem_zip hy).1 with q | q
    · exact .inl q
    · exact .inr ⟨q,PySem.W.cellsFrom_some _ _ _ (.inl q)⟩
  refine codeAny_call_function hr.depth (KX _ _ lk) rfl S.co S.gen rfl (PySem.W.codeRec_of KX hcd) (hb _ _ _ _ ?_)
  refine wpAny_newFunctionEnv_cells S.kind hkind fun env he s1 x=>?_
  subst he
  refine⟨lim.keeps x.toInCall.keep,codeAny_func ?_⟩
  obtain⟨t,ht,hq⟩:=hbody A outer s H vs Q E (hr.deeper _) hsp
  have I:Inv (cxOf CX P w K mg base N qual scope f cdv A outer s H E) [] (start N vs) H s1:=g'C S hr.hd e0 hl r x
  refine wpAny_mono (ht [] s1 (start N vs) H _ I hq) (fun fl s' hs=>?_) fun e s' hs=>hs
  have fin:∀ {σ':St} {H':Hp} {v:V} {u:Value},Inv (cxOf CX P w K mg base N qual scope f cdv A outer s H E) [] σ' H' s'→RelV v u→Q v H'→CE outer P w H s Q u s':=
    fun {σ' H' v u} J rv q=>⟨v,H',J.os,J.bare,J.base,J.hok,rv,q⟩
  cases fl with
  | ret u =>
    obtain⟨v,σ',H',J,rv,q⟩:=hs
    exact fin J rv q
  | next =>
    obtain⟨σ',H',J,q⟩:=hs
    exact fin (v:=V.non) (u:=Value.none) J rfl q
  | brk =>
    obtain⟨_,_,_,q⟩:=hs
    exact False.elim q
  | cont =>
    obtain⟨_,_,_,q⟩:=hs
    exact False.elim q
end L2
namespace L2
open PySem PySem.Spec PyProof.Rows
section
variable {X:Cx} {x:Str} {p pos:Pos} {e:Expr} {es:List Expr} {t:TA} {id T:String} {r:List V→Hp→VK→Prop}
def tCB (r:List V→Hp→VK→Prop) (t:TA):TE:=fun σ H Q=>t σ H fun vs H1=>r vs H1 Q
theorem i'L (hc:CallR X (.builtin id) r) (hg:Gl X x) (hm:X.mg x=none) (hv:bootBuiltins x=some (.builtin id)) (ha:PA X (e :: es) t) (hn:x≠"__name__":=by decide) (hdb:(x == ("__debug__":Str))=false:=by decide)
    (he:starEach (e :: es) X.env=(false,eval e X.env) :: starEach es X.env:=by rfl) (hpl:(backTo pos (starEach es X.env)).any (·.1)=false:=by rfl):PE X (.Call (.Name x p) (e :: es) [] pos) (tCB r t):=by
  intro pins s σ H Q I h
  refine wpAny_Call_Name_kw (d'e I hg hm hv ?_ hn hdb)
  exact PyProof.Rows.callWith_builtin1 (thn (ha pos pins s σ H _ I h) fun us s1 ⟨vs,H1,I1,r1,q1⟩=>hc pins s1 σ H1 vs us Q I1 r1 q1) he hpl
theorem g'D (hc:CallR X (.type T) r) (hg:Gl X x) (hm:X.mg x=none) (hv:bootBuiltins x=some (.type T)) (ha:PA X (e :: es) t) (hn:x≠"__name__":=by decide) (hdb:(x == ("__debug__":Str))=false:=by decide)
    (he:starEach (e :: es) X.env=(false,eval e X.env) :: starEach es X.env:=by rfl) (hpl:(backTo pos (starEach es X.env)).any (·.1)=false:=by rfl):PE X (.Call (.Name x p) (e :: es) [] pos) (tCB r t):=by
  intro pins s σ H Q I h
  refine wpAny_Call_Name_kw (d'e I hg hm hv ?_ hn hdb)
  exact PyProof.Rows.callWith_type1 (thn (ha pos pins s σ H _ I h) fun us s1 ⟨vs,H1,I1,r1,q1⟩=>hc pins s1 σ H1 vs us Q I1 r1 q1) he hpl
end
end L2
namespace L2
open PySem PySem.Spec PyProof.Rows
section
variable {κ:Type} [DecidableEq κ]
def valV (kvs:List (κ×V)) (k:κ):Option V:=(kvs.find? fun kv=>decide (kv.1=k)).map (·.2)
theorem d'h {p:κ×V} {r:List (κ×V)} {k:κ} (e:p.1=k):valV (p :: r) k=some p.2:=by simp [valV,List.find?_cons,e]
theorem d'i {p:κ×V} {r:List (κ×V)} {k:κ} (e:¬ p.1=k):valV (p :: r) k=valV r k:=by simp [valV,List.find?_cons,e]
theorem KV.val {kvs:List (κ×V)} {vs:List (κ×Value)} (r:KV kvs vs) (k:κ):RelO (valV kvs k) (valueAt vs k):=by
  unfold KV at r
  induction r with
  | nil => exact True.intro
  | @cons p q ps qs h t ih =>
    obtain⟨h1,h2⟩:=h
    by_cases e:p.1=k
    · have e':q.1=k:=h1.symm.trans e
      have b:valueAt (q :: qs) k=some q.2:=by simp [valueAt,List.find?_cons,e']
      rw [d'h e,b];exact h2
    · have e':¬ q.1=k:=fun z=>e (h1.trans z)
      have b:valueAt (q :: qs) k=valueAt qs k:=by simp [valueAt,List.find?_cons,e']
      rw [d'i e,b];exact ih
theorem KV.length {kvs:List (κ×V)} {vs:List (κ×Value)} (r:KV kvs vs):kvs.length=vs.length:=Paired.length r
end
theorem j'H {P:Program} {w:World} {k:Key} {u:Value} (r:RelV (kV k) u):(mixKind P w).is k u=true:=by
  cases k with
  | inl i => obtain ⟨t, e⟩ := (show ∃ t, u = Value.int i t from r); subst e; exact e'c P w i t
  | inr x => obtain ⟨t, e⟩ := (show ∃ t, u = Value.str x t from r); subst e; exact e'd P w x t
theorem c'K {P:Program} {w:World}:∀ {ks:List Key} {us:List Value},Vals (ks.map kV) us→ItemsAre (mixKind P w) ks us
  | [], _, r => by rw [List.map_nil] at r; cases r; exact .nil
  | k :: ks, _, r => by
    rw [List.map_cons] at r
    cases r with
    | cons h t=>exact .cons (j'H h) (c'K t)
abbrev KT (H:Hp):List (List Key×V)→List (List Key×Addr×Value)→Prop:=Paired fun p q=>p.1=q.1∧H q.2.1=some (.tup (p.1.map kV))∧RelV p.2 q.2.2
theorem KT.val {H:Hp} {kvs:List (List Key×V)} {xs:List (List Key×Addr×Value)} (r:KT H kvs xs) (k:List Key):RelO (valV kvs k) ((atKey xs k).map (·.2)):=by
  induction r with
  | nil => exact True.intro
  | @cons p q ps qs h t ih =>
    obtain⟨h1,_,h2⟩:=h
    by_cases e:p.1=k
    · have e':q.1=k:=h1.symm.trans e
      have b:atKey (q :: qs) k=some q.2:=by simp [atKey,List.find?_cons,e']
      rw [d'h e,b];exact h2
    · have e':¬ q.1=k:=fun z=>e (h1.trans z)
      have b:atKey (q :: qs) k=atKey qs k:=by simp [atKey,List.find?_cons,e']
      rw [d'i e,b];exact ih
section
variable {P:Program} {w:World} {H:Hp} {h:Heap} {a:Addr}
theorem j'I {u:HO} (ok:HOk P w H h) (e:Rd H a u):ObjOk P w H h a u:=e.ok ok
theorem c'j {kvs:List (Key×V)} (ok:HOk P w H h) (e:Rd H a (.dK kvs)):kvs.length≤sizeLine∧(a == sysModules)=false∧∃ vs,KV kvs vs∧h.DictOf (mixKind P w) a vs:=
  show ObjOk P w H h a (.dK kvs) from j'I ok e
theorem g'E {ks:List Key} (ok:HOk P w H h) (e:H a=some (.tup (ks.map kV))):(tupleKind (mixKind P w)).is h ks a:=by
  obtain⟨_,its,r,o,h1,h2,n,h3⟩:=(show ObjOk P w H h a (.tup (ks.map kV)) from ok a _ e)
  exact⟨o,its.toArray,n,h1,h2,h3,by simpa using c'K r⟩
theorem j'J {kvs:List (List Key×V)} (ok:HOk P w H h) (e:Rd H a (.dT kvs)):kvs.length≤sizeLine∧(a == sysModules)=false∧
    ∃ xs,KT H kvs xs∧h.DictOfH (tupleKind (mixKind P w)) a xs:=by
  obtain⟨z,y,xs,r,o,es,ep,h1,h2,h3,h4,h5⟩:=(show ObjOk P w H h a (.dT kvs) from j'I ok e)
  refine⟨z,y,xs,r,o,es,ep,h1,h2,h3,h4,fun x hx=>?_,h5⟩
  have all:∀ {l:List (List Key×V)} {m:List (List Key×Addr×Value)},KT H l m→∀ x∈m,(tupleKind (mixKind P w)).is h x.1 x.2.1:=by
    intro l m q
    induction q with
    | nil=>intro x hx;exact nomatch hx
    | @cons p q ps qs hq t ih=>
      intro x hx
      rcases List.mem_cons.mp hx with e | hx
      · subst e
        exact g'E ok (by rw [← hq.1];exact hq.2.1)
      · exact ih x hx
  exact all r x hx
end
def DGet (H:Hp) (a:Addr) (y:V) (r:Option V):Prop:=
  (∃ kvs k,Rd H a (.dK kvs)∧y=kV k∧r=valV kvs k)∨∃ kvs k b,Rd H a (.dT kvs)∧y=.ref b∧H b=some (.tup (k.map kV))∧r=valV kvs k
section
variable {X:Cx} {pins:List (Addr×Obj)} {σ:St} {H:Hp} {s:Shared} {a:Addr} {y v:V} {u r:Value} {o:Option V} {A:Around} {E:Value→Shared→Prop}
theorem g'F {Q:Value→Shared→Prop} (hu:A.units+1<cLine) (I:Inv X pins σ H s) (g:DGet H a y (some v)) (ry:RelV y u) (h:∀ w' s',Inv X pins σ H s'→RelV v w'→Q w' s') :
    wpAny (model X.prog X.w) A (getItem (.ref a) u) Q E s:=by
  rcases g with ⟨kvs,k,e,ey,l⟩ | ⟨kvs,k,b,e,ey,eb,l⟩
  · subst ey
    obtain⟨z,hd,vs,rel,dd⟩:=c'j I.hok e
    obtain⟨w',hw,rw'⟩:=RelO.some_of (v:=v) (o:=valueAt vs k) (by rw [l];exact rel.val k)
    exact wpAny_getItem_of (j'H ry) dd.mapOf hw (h w' _ (I.tok _) rw')
  · subst ey
    cases (show u=Value.ref b from ry)
    obtain⟨z,hd,xs,rel,dd⟩:=j'J I.hok e
    obtain⟨w',hw,rw'⟩:=RelO.some_of (v:=v) (o:=(atKey xs k).map (·.2)) (by rw [l];exact rel.val k)
    obtain⟨p,hp,hp2⟩:=Option.map_eq_some_iff.mp hw
    refine wpAny_getItem_heap (tupleKind_room_in1 hu) (g'E I.hok eb) dd hp ?_
    rw [hp2]
    exact h w' _ (I.tok _) rw'
end
section
variable {X:Cx} {pins:List (Addr×Obj)} {σ:St} {H:Hp} {s:Shared} {a:Addr} {kvs:List (Key×V)} {k:Key} {u:Value} {A:Around} {E:Value→Shared→Prop}
theorem o'Q {Q:Value→Shared→Prop} (I:Inv X pins σ H s) (e:Rd H a (.dK kvs)) (h:∀ t s',Inv X pins σ H s'→Q (.int kvs.length t) s'):wpAny (model X.prog X.w) A (call (.builtin "len") [.ref a]) Q E s:=by
  obtain⟨z,hd,vs,rel,dd⟩:=c'j I.hok e
  refine call_len_dict hd dd (by rw [← rel.length];rw [sizeLine_eq] at z;omega) ?_
  rw [← rel.length]
  exact h _ _ (I.tok _)
end
theorem e'e {X:Cx} {pins:List (Addr×Obj)} {σ:St} {H:Hp} {s:Shared} {a:Addr} {y:V} {o:Option V} (I:Inv X pins σ H s) (g:DGet H a y o):s.TypeIs (.ref a) "dict":=by
  rcases g with ⟨kvs,k,e,_,_⟩ | ⟨kvs,k,b,e,_,_,_⟩
  · obtain⟨_,_,vs,_,dd⟩:=c'j I.hok e
    exact dd.typeIs
  · obtain⟨_,_,xs,_,dd⟩:=j'J I.hok e
    exact dd.typeIs
section
variable {X:Cx} {o i e value:Expr} {pos pos' tpos:Pos} {td ty tv:TE}
end
section
variable {X:Cx} {pos:Pos}
end
structure M1 (X:Cx) (o:Expr) (m:Str) (apos:Pos) (e:Expr) (cpos:Pos):Prop where
  base:attributeBase o m X.env (eval o X.env)=eval o X.env
  few:((backTo cpos (starEach [e] X.env)).all (fun x=>!x.1) && (backToKw cpos (keywordEach [] X.env)).all (fun x=>x.1.isSome)
    && decide (([e]:List Expr).length+([]:List Keyword).length+(if ([]:List Keyword).isEmpty then 0 else 1)<30))=true
  line:(apos.endLine == cpos.line)=true
  trees:backTo cpos (starEach [e] X.env)=[(false,eval e X.env)]
section
variable {X:Cx} {pins:List (Addr×Obj)} {σ:St} {H:Hp} {s:Shared} {a:Addr} {y d:V} {u r:Value} {o:Option V} {A:Around} {E:Value→Shared→Prop}
end
section
variable {X:Cx} {o e f:Expr} {apos cpos:Pos} {td ty tx:TE}
end
section
variable {X:Cx} {pins:List (Addr×Obj)} {σ:St} {H:Hp} {s:Shared} {a:Addr} {kvs:List (Key×V)} {A:Around} {E:Value→Shared→Prop}
end
section
variable {X:Cx} {pins:List (Addr×Obj)} {σ:St} {H:Hp} {s:Shared} {a:Addr} {y:V} {u:Value} {A:Around} {E:Value→Shared→Prop}
end
end L2
namespace HT
open PySem PyProof.Rows
section
open PySem.SeqAt
open PySem.AutoSeq1 (wpAny_loadPart')
open PySem.MeetsSeq PySem.MeetsSeq2 PySem.MeetsSeq3
end
section
variable {prog:Program} {w:World} {A:Around} {E:Value→Shared→Prop} {s:Shared}
def sIx (n d:Nat):Option Int→Nat
  | none => d
  | some v => if v < 0 then (v + (n : Int)).toNat else min v.toNat n
end
end HT
namespace L2
open PySem PySem.Spec PyProof.Rows
abbrev TO:=St→Hp→(Option Int→Hp→Prop)→Prop
def PO (X:Cx) (e:Option Expr) (t:TO):Prop:=
  ∀ (pins:List (Addr×Obj)) (s:Shared) (σ:St) (H:Hp) (Q:Option Int→Hp→Prop),Inv X pins σ H s→t σ H Q→
    wpAny (model X.prog X.w) X.A (evalPart e X.env) (fun u s'=>∃ o H',Inv X pins σ H' s'∧IsPart u o∧Q o H') X.xe s
def tNoPart:TO:=fun _ H Q=>Q none H
def tPart (t:TE):TO:=fun σ H Q=>t σ H fun x H1=>∃ i,x=.int i∧Q (some i) H1
section
variable {X:Cx} {e:Expr} {te:TE} {lo hi:Option Expr} {tl th:TO} {pos p2:Pos}
theorem l'r:PO X none tNoPart:=by
  intro pins s σ H Q I h
  rw [evalPart_none]
  exact wpAny_pure ⟨none,H,I,.none,h⟩
theorem l's (h:PE X e te):PO X (some e) (tPart te):=by
  intro pins s σ H Q I hw
  rw [evalPart_some]
  refine thn (h pins s σ H _ I hw) fun u s1 ⟨x,H1,I1,r1,q1⟩=>?_
  obtain⟨i,rfl,q⟩:=q1
  obtain⟨t,rfl⟩:=r1
  exact⟨some i,H1,I1,.int i t,q⟩
def SlR (X:Cx) (r:V→Option Int→Option Int→Hp→VK→Prop):Prop:=
  ∀ (pins:List (Addr×Obj)) (s:Shared) (σ:St) (H:Hp) (x:V) (v vl vu:Value) (lo hi:Option Int) (sl:Addr) (Q:VK),Inv X pins σ H s→RelV x v→s.heap.IsSliceOf sl vl vu .none→IsPart vl lo→IsPart vu hi→r x lo hi H Q→
    ∃ T id,typeLookup (.type T) "__getitem__"=pure (some (.builtin id))∧s.TypeIs v T∧wpAny (model X.prog X.w) X.A (getItem v (.ref sl)) (EP X pins σ Q) X.xe s
theorem SlR.or {r r':V→Option Int→Option Int→Hp→VK→Prop} (h:SlR X r) (h':SlR X r'):SlR X (fun x lo hi H Q=>r x lo hi H Q∨r' x lo hi H Q):=by
  intro pins s σ H x v vl vu lo hi sl Q I rx hs pl pu q
  rcases q with q | q
  · exact h pins s σ H x v vl vu lo hi sl Q I rx hs pl pu q
  · exact h' pins s σ H x v vl vu lo hi sl Q I rx hs pl pu q
def tSl (r:V→Option Int→Option Int→Hp→VK→Prop) (te:TE) (tl th:TO):TE:=fun σ H Q=>te σ H fun x H1=>tl σ H1 fun l H2=>th σ H2 fun u H3=>r x l u H3 Q
theorem i'M {r:V→Option Int→Option Int→Hp→VK→Prop} (hr:SlR X r) (he:PE X e te) (hl:PO X lo tl) (hu:PO X hi th):PE X (.Subscript e (.Slice lo hi none p2) pos) (tSl r te tl th):=by
  intro pins s σ H Q I h
  refine Subscript_ (thn (he pins s σ H _ I h) fun v s1 ⟨x,H1,I1,r1,q1⟩=>?_)
  refine wpAny_Slice (thn (hl pins s1 σ H1 _ I1 q1) fun vl s2 ⟨l,H2,I2,pl,q2⟩=>thn (hu pins s2 σ H2 _ I2 q2) fun vu s3 ⟨u,H3,I3,pu,q3⟩=>?_)
  rw [evalPart_none]
  refine wpAny_pure ?_
  have I4:Inv X pins σ H3 { s3 with heap:=s3.heap.push { cls:=.type "slice",data:=.fields #[vl,vu,.none] } }:=I3.kept (t':=s3.toks) fun b ob q=>Heap.get?_push_of_some _ q
  obtain⟨T,id,hT,ht,hg⟩:=hr pins { s3 with heap:=s3.heap.push { cls:=.type "slice",data:=.fields #[vl,vu,.none] } } σ H3 x v vl vu l u s3.heap.objs.size Q I4 r1 (Heap.IsSliceOf.new ..) pl pu q3
  show wpAny (model X.prog X.w) X.A (subscriptTail e (.Slice lo hi none p2) v (.ref s3.heap.objs.size)) (EP X pins σ Q) X.xe { s3 with heap:=s3.heap.push { cls:=.type "slice",data:=.fields #[vl,vu,.none] } }
  exact tail_any (ops:=[.ref s3.heap.objs.size,v]) ht hT hg (by with_unfolding_all rfl)
def cutV (xs:List V) (lo hi:Option Int):List V:=(xs.drop (HT.sIx xs.length 0 lo)).take (HT.sIx xs.length xs.length hi - HT.sIx xs.length 0 lo)
theorem e'f (xs:List V) (lo hi:Option Int):(cutV xs lo hi).length≤xs.length:=by
  unfold cutV
  rw [List.length_take,List.length_drop]
  omega
end
end L2
namespace L2
open PySem PySem.Spec PyProof.Rows
def ixN (n:Nat) (i:Int):Option Nat:=if 0≤i then (if i<n then some i.toNat else none) else if -(n:Int)≤i then some (i+n).toNat else none
def atI {α:Type} (xs:List α) (i:Int):Option α:=(ixN xs.length i).bind fun j=>xs[j]?
theorem e'q {n:Nat} {i:Int} {j:Nat} (h:ixN n i=some j):seqIndex? i n=some j∧j<n∧-(n:Int)≤i∧i<n:=by
  unfold ixN at h
  by_cases h0:0≤i
  · rw [if_pos h0] at h
    by_cases h1:i<n
    · rw [if_pos h1] at h
      have e:i.toNat=j:=Option.some.inj h
      exact⟨by rw [seqIndex_of h0 h1,e],by omega,by omega,h1⟩
    · rw [if_neg h1] at h;cases h
  · rw [if_neg h0] at h
    by_cases h1:-(n:Int)≤i
    · rw [if_pos h1] at h
      have e:(i+n).toNat=j:=Option.some.inj h
      exact⟨by rw [seqIndex_neg (by omega) h1,e],by omega,h1,by omega⟩
    · rw [if_neg h1] at h;cases h
theorem c'x {α:Type} {xs:List α} {i:Int} {v:α} (h:atI xs i=some v):∃ j,seqIndex? i xs.length=some j∧xs[j]?=some v∧j<xs.length∧-(xs.length:Int)≤i∧i<xs.length:=by
  unfold atI at h
  cases e:ixN xs.length i with
  | none => rw [e] at h; cases h
  | some j =>
    rw [e] at h
    obtain⟨h1,h2,h3,h4⟩:=e'q e
    exact⟨j,h1,h,h2,h3,h4⟩
def PlainIx (b:Expr):Prop:=∀ o i,subscripted b false o i=operate [o,i] (getItem o i)
def IxR (X:Cx) (r:R2):Prop:=
  ∀ (value slice:Expr) (pins:List (Addr×Obj)) (s:Shared) (σ:St) (H:Hp) (x y:V) (v u:Value) (Q:VK),Inv X pins σ H s→RelV x v→RelV y u→r x y H Q→
    subscripted slice false v u=operate [v,u] (getItem v u)→wpAny (model X.prog X.w) X.A (subscriptTail value slice v u) (EP X pins σ Q) X.xe s
section
variable {X:Cx} {a b:Expr} {ta tb:TE} {pos:Pos}
theorem IxR.or {r r':R2} (h:IxR X r) (h':IxR X r'):IxR X (fun x y H Q=>r x y H Q∨r' x y H Q):=by
  intro value slice pins s σ H x y v u Q I rx ry q hs
  rcases q with q | q
  · exact h value slice pins s σ H x y v u Q I rx ry q hs
  · exact h' value slice pins s σ H x y v u Q I rx ry q hs
theorem o'R {r:R2} (hr:IxR X r) (ha:PE X a ta) (hb:PE X b tb) (hs:PlainIx b):PE X (.Subscript a b pos) (tOp r ta tb):=by
  intro pins s σ H Q I h
  exact Subscript_ (i'K ha hb I h fun v u s2 x y H2 I2 rx ry q=>hr a b pins s2 σ H2 x y v u Q I2 rx ry q (hs _ _))
def rIxL (K:PySem.W.Frag):R2:=fun x y H Q=>∃ p xs i v,x=.ref p∧y=.int i∧SqL K H p xs∧atI xs i=some v∧Q v H
def rIxT (K:PySem.W.Frag):R2:=fun x y H Q=>∃ p xs i v,x=.ref p∧y=.int i∧SqT K H p xs∧atI xs i=some v∧Q v H
def rIxS:R2:=fun x y H Q=>∃ z i c,x=.str z∧y=.int i∧z.length≤sizeLine∧atI z.cps.toList i=some c∧Q (.str ⟨#[c]⟩) H
theorem ix_list:IxR X (rIxL X.K):=by
  intro value slice pins s σ H x y v u Q I rx ry h hs
  obtain⟨p,xs,i,z,rfl,rfl,hq,he,q⟩:=h
  cases rx
  obtain⟨t,rfl⟩:=ry
  obtain⟨its,r,pl,hz⟩:=I.list hq
  obtain⟨j,h1,h2,h3,h4,h5⟩:=c'x he
  obtain⟨w,ew,rw'⟩:=r.get h2
  have hl:=r.length
  have hn:=b'L
  have fin:EP X pins σ Q w s:=⟨z,H,I,rw',q⟩
  by_cases h0:0≤i
  · have hj:i.toNat=j:=by
      rw [seqIndex_of h0 h5] at h1
      exact Option.some.inj h1
    exact item_listR pl.isList h0 (by omega) (by rw [hj];simpa using ew) fin hs
  · have hj:(i+(its.toArray.size:Int)).toNat=j:=by
      rw [seqIndex_neg (by omega) h4] at h1
      rw [List.size_toArray,← hl]
      exact Option.some.inj h1
    exact subscriptTail_builtinR (x:=w) pl.isList.typeIs slot_list_getitem.lookup
      (wpAny_getItem_list_neg (Q:=fun r s'=>r=w∧EP X pins σ Q r s') pl.isList (by omega) (by rw [List.size_toArray]<;>omega) (by omega) (by rw [hj];simpa using ew) ⟨rfl,fin⟩) hs
theorem ix_tup:IxR X (rIxT X.K):=by
  intro value slice pins s σ H x y v u Q I rx ry h hs
  obtain⟨p,xs,i,z,rfl,rfl,hq,he,q⟩:=h
  cases rx
  obtain⟨t,rfl⟩:=ry
  obtain⟨its,r,pl,hz⟩:=I.tuple hq
  obtain⟨j,h1,h2,h3,h4,h5⟩:=c'x he
  obtain⟨w,ew,rw'⟩:=r.get h2
  have hl:=r.length
  have hn:=b'L
  have fin:EP X pins σ Q w s:=⟨z,H,I,rw',q⟩
  exact subscriptTail_builtinR (x:=w) pl.typeIs slot_tuple_getitem.lookup
    (getItem_tuple (j:=j) (Q:=fun r s'=>r=w∧EP X pins σ Q r s') pl (by omega) (by omega) (by rw [List.size_toArray,← hl];exact h1) (by simpa using ew) ⟨rfl,fin⟩) hs
theorem n'j:IxR X rIxS:=by
  intro value slice pins s σ H x y v u Q I rx ry h hs
  obtain⟨z,i,c,rfl,rfl,hz,he,q⟩:=h
  obtain⟨t,rfl⟩:=rx
  obtain⟨t',rfl⟩:=ry
  obtain⟨j,h1,h2,h3,h4,h5⟩:=c'x he
  have hl:z.cps.toList.length=z.length:=by simp [Str.length]
  rw [hl] at h1 h4 h5
  have hn:=b'L
  exact tail_any (typeIs_str s z t) slot_str_getitem.lookup (getItem_str (c:=c) (by
    have e1:decide (i < -(2 ^ 63:Int))=false:=decide_eq_false (by omega)
    have e2:decide (i ≥ 2 ^ 63)=false:=decide_eq_false (by omega)
    rw [e1,e2,Bool.or_false]) (by rw [h1];simpa using h2) ⟨.str ⟨#[c]⟩,H,I.tok _,⟨_,rfl⟩,q⟩) hs
def rIx (K:PySem.W.Frag):R2:=fun x y H Q=>rIxL K x y H Q∨rIxT K x y H Q∨rIxS x y H Q
theorem ix_seq:IxR X (rIx X.K):=ix_list.or (ix_tup.or n'j)
theorem f'Q (its:List Value) (n j:Nat) (u:Value):Obj.mapSeq (·.setIfInBounds j u) { cls:=.type "list",data:=.seq its.toArray n }={ cls:=.type "list",data:=.seq (its.set j u).toArray n }:=by
  simp [Obj.mapSeq]
theorem Inv.lst {pins:List (Addr×Obj)} {σ:St} {H:Hp} {s:Shared} {p:Addr} {xs:List V} (I:Inv X pins σ H s) (h:H p=some (.lst xs)) :
    ∃ (its:List Value) (n:Nat),Vals xs its∧s.heap.get? p=some { cls:=.type "list",data:=.seq its.toArray n }∧xs.length≤sizeLine:=by
  obtain⟨z,its,n,r,e⟩:=I.hok p _ h
  exact⟨its,n,r,e,z⟩
theorem Inv.lstUpd {pins:List (Addr×Obj)} {σ:St} {H:Hp} {s:Shared} {p:Addr} {xs ys:List V} {its its':List Value} {n n':Nat} {f:Obj→Obj} (I:Inv X pins σ H s) (h:H p=some (.lst xs))
    (ho:s.heap.get? p=some { cls:=.type "list",data:=.seq its.toArray n }) (hf:f { cls:=.type "list",data:=.seq its.toArray n }={ cls:=.type "list",data:=.seq its'.toArray n' }) (r:Vals ys its') (hz:ys.length≤sizeLine) (t:Nat) :
    Inv X pins σ (upd H p (.lst ys)) { s with heap:=s.heap.update p f,toks:=t }:=by
  have e:(s.heap.update p f).get? p=some { cls:=.type "list",data:=.seq its'.toArray n' }:=by
    rw [Heap.get?_update_self f ho (by rw [hf]<;>rfl),hf]
  refine I.write (x:=p) (e:=p) (by rw [h];trivial) (.inl rfl) (fun b u hb q=>(Heap.get?_update_other _ _ (Ne.symm hb)).trans q) ⟨_,e⟩ ?_
  exact⟨hz,its',n',r,e⟩
def rSetL:V→V→V→Hp→(Hp→Prop)→Prop:=fun o i v H Q=>∃ p xs k j,o=.ref p∧i=.int k∧H p=some (.lst xs)∧ixN xs.length k=some j∧Q (upd H p (.lst (xs.set j v)))
theorem i'N:PSet X rSetL:=by
  intro pins s σ H o i v ov iv u Q I ro ri rv h
  obtain⟨p,xs,k,j,rfl,rfl,hp,hj,q⟩:=h
  cases ro
  obtain⟨t,rfl⟩:=ri
  obtain⟨its,n,r,ho,hz⟩:=I.lst hp
  obtain⟨h1,h2,h3,h4⟩:=e'q hj
  have hl:=r.length
  have hn:=b'L
  have I':Inv X pins σ (upd H p (.lst (xs.set j v))) { s with heap:=s.heap.update p (Obj.mapSeq (·.setIfInBounds j u)) }:=
    I.lstUpd hp ho (f'Q its n j u) (r.set rv j) (by rw [List.length_set];exact hz) s.toks
  by_cases h0:0≤k
  · have hk:k.toNat=j:=by
      rw [seqIndex_of h0 h4] at h1
      exact Option.some.inj h1
    exact PySem.W.ki_setAt ho h0 (by omega) (by rw [List.size_toArray,← hl];exact h4) (by rw [hk];exact⟨_,I',q⟩)
  · have hk:(k+(its.toArray.size:Int)).toNat=j:=by
      rw [seqIndex_neg (by omega) h3] at h1
      rw [List.size_toArray,← hl]
      exact Option.some.inj h1
    exact PySem.W.ki_setBack ho (by omega) (by rw [List.size_toArray,← hl];exact h3) (by omega) (by rw [hk];exact⟨_,I',q⟩)
theorem d'j (lo hi:Option Int) (n:Nat):(sliceBounds lo hi none n).1=((HT.sIx n 0 lo:Nat):Int)∧(sliceBounds lo hi none n).2.1=((HT.sIx n n hi:Nat):Int)∧(sliceBounds lo hi none n).2.2=1:=by
  refine⟨?_,?_,rfl⟩
  · cases lo with
    | none=>simp [sliceBounds,HT.sIx]
    | some i=>
      simp only [sliceBounds,HT.sIx,Option.getD_none,show (1:Int) > 0 by decide,if_true]
      by_cases h:i<0
      · simp only [h,if_true]<;>omega
      · simp only [h,if_false]<;>omega
  · cases hi with
    | none=>simp [sliceBounds,HT.sIx]
    | some i=>
      simp only [sliceBounds,HT.sIx,Option.getD_none,show (1:Int) > 0 by decide,if_true]
      by_cases h:i<0
      · simp only [h,if_true]<;>omega
      · simp only [h,if_false]<;>omega
theorem c'X (its:List Value) (lo hi:Option Int):slicePick its.toArray lo hi none=((its.drop (HT.sIx its.length 0 lo)).take (HT.sIx its.length its.length hi - HT.sIx its.length 0 lo)).toArray:=by
  obtain⟨h1,h2,h3⟩:=d'j lo hi its.toArray.size
  unfold slicePick
  rw [h1,h2,h3]
  simp only [sliceRange_one,pick_run,List.size_toArray]<;>rfl
def rSlL (K:PySem.W.Frag):V→Option Int→Option Int→Hp→VK→Prop:=fun x lo hi H Q=>∃ a xs,x=.ref a∧SqL K H a xs∧∀ p,H p=none→Q (.ref p) (upd H p (.lst (cutV xs lo hi)))
theorem sl_list:SlR X (rSlL X.K):=by
  intro pins s σ H x v vl vu lo hi sl Q I rx hs pl pu h
  obtain⟨a,xs,rfl,hx,q⟩:=h
  cases rx
  obtain⟨its,r,ht,hz⟩:=I.list hx
  have hlen:=r.length
  refine⟨"list",_,slot_list_getitem.lookup,ht.isList.typeIs,?_⟩
  refine wpAny_getItem_list_slice ht.isList hs pl pu .none (by simp) ?_ (by rw [List.size_toArray]<;>omega)
  rw [c'X,← hlen]
  refine⟨.ref s.heap.objs.size,_,I.laid (t':=s.toks) (o:=.lst (cutV xs lo hi)) (fun b ob q=>Heap.get?_push_of_some _ q) (Nat.le_refl _) ?_,rfl,q _ (I.hok.fresh (Nat.le_refl _))⟩
  exact⟨Nat.le_trans (e'f xs lo hi) hz,_,0,(r.drop (HT.sIx xs.length 0 lo)).take (HT.sIx xs.length xs.length hi - HT.sIx xs.length 0 lo),Heap.get?_push_size _ rfl⟩
def flatV:V→Bool
  | .non => true
  | .bl _ => true
  | .int _ => true
  | .str _ => true
  | _ => false
def eqV:V→V→Bool
  | .non, .non => true
  | .bl a, .bl b => a == b
  | .bl a, .int b => (if a then 1 else 0) == b
  | .int a, .bl b => a == (if b then 1 else 0)
  | .int a, .int b => a == b
  | .str a, .str b => a == b
  | _, _ => false
theorem c'k {A:Around} {s:Shared} {y x:V} {u v:Value} (ry:RelV y u) (rx:RelV x v) (fy:flatV y=true) (fx:flatV x=true):SeqAt.EqAt A s u v (eqV y x):=by
  cases y with
  | non =>
    cases ry
    cases x with
    | non=>cases rx;exact SeqAt.EqAt.same _
    | bl b=>cases rx;exact SeqAt.EqAt.none_bool b
    | int b=>obtain⟨t,rfl⟩:=rx;exact SeqAt.EqAt.none_int b t
    | str b=>obtain⟨t,rfl⟩:=rx;exact SeqAt.EqAt.none_str b t
    | _=>exact absurd (show false=true from fx) Bool.false_ne_true
  | bl a =>
    cases ry
    cases x with
    | non=>cases rx;exact SeqAt.EqAt.bool_none a
    | bl b=>cases rx;exact SeqAt.EqAt.bool_bool a b
    | int b=>obtain⟨t,rfl⟩:=rx;exact SeqAt.EqAt.bool_int a b t
    | str b=>obtain⟨t,rfl⟩:=rx;exact SeqAt.EqAt.bool_str a b t
    | _=>exact absurd (show false=true from fx) Bool.false_ne_true
  | int a =>
    obtain⟨t',rfl⟩:=ry
    cases x with
    | non=>cases rx;exact SeqAt.EqAt.int_none a t'
    | bl b=>cases rx;exact SeqAt.EqAt.int_bool a t' b
    | int b=>obtain⟨t,rfl⟩:=rx;exact SeqAt.EqAt.int_int a t' b t
    | str b=>obtain⟨t,rfl⟩:=rx;exact SeqAt.EqAt.int_str a t' b t
    | _=>exact absurd (show false=true from fx) Bool.false_ne_true
  | str a =>
    obtain⟨t',rfl⟩:=ry
    cases x with
    | non=>cases rx;exact SeqAt.EqAt.str_none a t'
    | bl b=>cases rx;exact SeqAt.EqAt.str_bool a t' b
    | int b=>obtain⟨t,rfl⟩:=rx;exact SeqAt.EqAt.str_int a t' b t
    | str b=>obtain⟨t,rfl⟩:=rx;exact SeqAt.EqAt.str_str a t' b t
    | _=>exact absurd (show false=true from fx) Bool.false_ne_true
  | _ => exact absurd (show false = true from fy) Bool.false_ne_true
def inV (x:V) (xs:List V):Bool:=xs.any fun y=>eqV y x
theorem d'k:OpR X (compareOp .NotIn) (fun x y H Q=>∃ i j,x=.str i∧y=.str j∧Q (.bl (!(!(Builtin.Str.occurrences j i 0 j.length 1).isEmpty))) H):=by
  intro pins s σ H x y v u Q I rx ry h
  obtain⟨i,j,rfl,rfl,q⟩:=h
  obtain⟨t,rfl⟩:=rx
  obtain⟨t',rfl⟩:=ry
  exact notIn_str ⟨.bl _,H,I,rfl,q⟩
theorem CallR.or {f:Value} {r r':List V→Hp→VK→Prop} (h:CallR X f r) (h':CallR X f r'):CallR X f (fun xs H Q=>r xs H Q∨r' xs H Q):=by
  intro pins s σ H xs us Q I rs q
  rcases q with q | q
  · exact h pins s σ H xs us Q I rs q
  · exact h' pins s σ H xs us Q I rs q
theorem call_list_of:CallR X (.type "list") (fun xs H Q=>∃ p ys,xs=[.ref p]∧(SqL X.K H p ys∨SqT X.K H p ys)∧∀ l,H l=none→Q (.ref l) (upd H l (.lst ys))):=by
  intro pins s σ H xs us Q I r h
  obtain⟨p,ys,rfl,hq,q⟩:=h
  obtain⟨u,rfl,rx⟩:=b't r
  cases rx
  have fin:∀ (its:List Value),Vals ys its→ys.length≤sizeLine→∀ (h':Heap) (c':Nat),(∀ b o',s.heap.get? b=some o'→h'.get? b=some o')→
      h'.get? s.heap.objs.size=some { cls:=.type "list",dict:=none,data:=.seq its.toArray c',slots:=#[] }→EP X pins σ Q (.ref s.heap.objs.size) { s with heap:=h' }:=fun its r' hz h' c' kp e=>
    ⟨.ref s.heap.objs.size,_,I.laid (t':=s.toks) kp (Nat.le_refl _) (show ObjOk X.prog X.w _ h' _ (.lst ys) from ⟨hz,its,c',r',e⟩),rfl,q _ (I.hok.fresh (Nat.le_refl _))⟩
  rcases hq with hq | hq
  · obtain⟨its,r',pl,hz⟩:=I.list hq
    have hlen:=r'.length
    obtain⟨o,ho,hc,n,hd⟩:=pl.isList
    exact call_list_seq p (.inl rfl) ho hc hd (fun h' c' kp e=>fin its r' hz h' c' kp e) (by simp only [List.size_toArray]<;>omega)
  · obtain⟨its,r',pl,hz⟩:=I.tuple hq
    have hlen:=r'.length
    obtain⟨o,ho,hc,n,hd⟩:=pl
    exact call_list_seq p (.inr rfl) ho hc hd (fun h' c' kp e=>fin its r' hz h' c' kp e) (by simp only [List.size_toArray]<;>omega)
variable {o e:Expr} {es:List Expr} {to:TE} {t:TA} {name:Str} {apos cpos:Pos} {T id:String} {r:V→List V→Hp→VK→Prop}
end
end L2
namespace L2
open PySem PySem.Spec PyProof.Rows
section
variable {X:Cx} {pins:List (Addr×Obj)} {σ:St} {H:Hp} {s:Shared} {l b:Addr} {xs ys zs:List V}
theorem Inv.lnew {its:List Value} {t':Nat} (I:Inv X pins σ H s) (hv:Vals ys its) (hz:ys.length≤sizeLine) :
    Inv X pins σ (upd H s.heap.objs.size (.lst ys)) { s with heap:=s.heap.push { cls:=.type "list",data:=.seq its.toArray },toks:=t' }:=
  I.laid (fun _ _ q=>Heap.get?_push_of_some _ q) (Nat.le_refl _) ⟨hz,its,0,hv,Heap.get?_push_size _ rfl⟩
theorem Inv.fresh (I:Inv X pins σ H s):H s.heap.objs.size=none:=I.hok.fresh (Nat.le_refl _)
end
section
variable {X:Cx}
end
section
variable {prog:Program} {w:World} {A:Around} {E:Value→Shared→Prop} {s:Shared}
end
section
variable {X:Cx}
end
end L2
namespace Att
open PySem PySem.W PySem.Calls PyProof.Rows
theorem c'l {P:Params} {h:Heap}:∀ (ns:List Int) (vs:List Value),WellAll P h vs (ns.map WData.int)→IntsAre vs ns:=by
  intro ns
  induction ns with
  | nil =>
    intro vs w
    rw [List.map_nil] at w
    cases w
    exact .nil
  | cons n ns ih =>
    intro vs w
    rw [List.map_cons] at w
    cases w with
    | cons a b=>
      cases a
      exact .cons _ _ (ih _ b)
theorem g'G {l:OpenLaw} {n:Nat} (hn:l.most=some n) {P:Params} {h:Heap} {args:List WData} {vals:List Value}
    (hpre:l.row.toRowW.claim.pre args=true) (hwl:WellAll P h vals args) :
    ∃ a vs ns,vals=[Value.ref a]∧args=[WData.list (ns.map WData.int)]∧h.get? a=some { cls:=.type "list",data:=.seq vs.toArray }∧IntsAre vs ns∧ns.length≤n:=by
  have hsh:WShape.hasAll [] args [.list .int]=true:=(pre_splitW hpre).1
  have hc:l.pre.holds [] { args:=args }=true:=(pre_splitW hpre).2
  obtain⟨d,r,rfl,h1,h2⟩:=hasAllW_cons hsh
  obtain rfl:=hasAllW_nil h2
  obtain⟨xs,rfl,h3⟩:=hasW_list h1
  obtain⟨ns,rfl⟩:=items_int h3
  have hlen:ns.length≤n:=by
    unfold OpenLaw.pre at hc
    have h4:(WTm.not (.lt (.lit (.int (n:Int))) (.len (.arg 0)))).holds [] { args:=[.list (ns.map .int)] }=true:=by
      have h4:=(holds_andW hc).1
      rw [hn] at h4
      exact h4
    have h5:=condW_of h4 (w_not (w_lt w_lit (w_len_list (w_arg rfl))))
    rw [List.length_map] at h5
    refine Nat.le_of_not_lt fun q=>?_
    have q':(n:Int)<((ns.length:Nat):Int):=by omega
    first
      | (rw [decide_eq_true q'] at h5;exact absurd h5 (by decide))
      | (simp at h5;omega)
  cases hwl with
  | cons w1 w2 =>
    cases w2
    cases w1 with
    | list ho hall=>exact⟨_,_,ns,rfl,rfl,ho,c'l ns _ hall,hlen⟩
theorem g'H (l:OpenLaw) (args:List WData):l.row.toRowW.claim.post args (.bool true) args=true:=
  postW_of (r:=l.row.toRowW) (X:=(true == true))
    (show WShape.has [] (.bool true) .bool=true by first | rfl | decide | simp [WShape.has,WShape.arms,WShape.armsAll])
    (show (WTm.eq .res (.lit (.bool true))).value [] { args:=args,res:=some (.bool true),after:=args }=some (.bool (true == true)) from w_eq_bool (w_res rfl) w_lit) rfl
theorem attach_call {l:OpenLaw} {n:Nat} {q:Program} {loose:List Str} {XP:(Str→Option Value)→Heap→Prop} {YP:World→Heap→Prop} {d:DefRec}
    (hn:l.most=some n) (hdf:d.params.defaults=[])
    (call:∀ (w:World) (s₀ s₁:Shared) (mg mb:Str→Option Value) (fa:Addr) (o:Obj) (pm cd doc:Value) (a:Addr) (vs:List Value) (ns:List Int),
      Ground q loose [] XP w s₀ mg mb s₁.heap→YP w s₁.heap→
      s₁.heap.get? fa=some o→o.data=.func (docDef d.name d.params d.body d.scope pm cd doc)→s₁.heap.CodeRec cd d.name→mg d.name=some (.ref fa)→
      s₁.heap.get? a=some { cls:=.type "list",data:=.seq vs.toArray }→IntsAre vs ns→ns.length≤n→s₁.gens=#[]→
      codeAny (model l.prog w) callerA (.call (.ref fa) ⟨[.ref a],[]⟩) (fun r s'=>r=.ok (.ret (.bool true))∧OldK s₁.heap s'.heap∧s'.os=s₁.os∧AllBare s'.gens) s₁) :
    WalkO q loose XP YP l.row.toRowW d [] (fun f vs=>PySem.call f vs):=by
  intro w s₀ s₁ mg mb G Y fa o pm cd doc dV kV ho hd hcd hD hmg hg args vals as hpre hlay hrd hwl hlo
  obtain rfl:dV=.none:=Dflts.none hD hdf
  obtain rfl:kV=.none:=Dflts.noKw hD
  obtain⟨a,vs,ns,rfl,rfl,hobj,hints,hlen⟩:=g'G hn hpre hwl
  refine enter_call (codeAny_mono (call w s₀ s₁ mg mb fa o pm cd doc a vs ns G Y ho (fd_plain hd) hcd hmg hobj hints hlen hg) fun r s' hq=>?_)
  obtain⟨rfl,h2,h3,h4⟩:=hq
  exact⟨.inl ⟨.bool true,.bool true,[],rfl,fun _=>rfl,.bool true,g'H l _,fun _=>⟨List.Pairwise.nil,fun _ hm=>(nomatch hm)⟩⟩,h2,h3,h4⟩
section
variable {prog:Program} {w:World} {A:Around} {E:Value→Shared→Prop} {s:Shared} {K:Frag}
end
end Att
namespace L2
open PySem PySem.Spec PyProof.Rows
theorem c'L:∀ {vs:List Value} {ns:List Int},IntsAre vs ns→Vals (ns.map V.int) vs
  | _, _, .nil => .nil
  | _, _, .cons n t h => .cons ⟨t, rfl⟩ (c'L h)
def Only (H:Hp):Prop:=∀ b,H b=none∨∃ o xs,H b=some (.frz o (.lst xs))
theorem i'O {P:Program} {w:World} {K:PySem.W.Frag} {mg mb:Str→Option Value} {CX:CXT} {k:Nat} {fa a:Addr} {fd:FuncData} {x:Str} {sp:Sp} {s₁:Shared} {vs:List Value} {ns:List Int}
    (KX:K.In s₁.heap) (hns:s₁.heap.Ns mainGlobals mg) (hb:s₁.heap.Ns builtinsNs mb) (hbb:∀ x:Str,x≠"__name__"→mb x=bootBuiltins x) (hlim:s₁.heap.NoLimit) (hg:s₁.gens=#[])
    (ha:s₁.heap.get? a=some { cls:=.type "list",data:=.seq vs.toArray }) (hi:IntsAre vs ns) (hl:ns.length≤sizeLine) (hr:Room k callerA)
    (F:∀ base:Heap,K.In base→base.Ns mainGlobals mg→FnOk P w K mg base CX k fa fd [x] sp) (hbind:∀ (s:Shared) (u:Value),BindsTo s fd ⟨[u],[]⟩ [(x,u)])
    (hsp:∀ H:Hp,Only H→SqL K H a (ns.map V.int)→sp [.ref a] H (fun v _=>v=.bl true) fun _ _ _=>False)
    (hCX:∀ H e s',CX [] H s₁ (fun _ _ _=>False) e s'→False) :
    codeAny (model P w) callerA (.call (.ref fa) ⟨[.ref a],[]⟩) (fun r s'=>r=.ok (.ret (.bool true))∧OldK s₁.heap s'.heap∧s'.os=s₁.os∧AllBare s'.gens) s₁:=by
  have rv:=c'L hi
  have lenV:=hi.length
  have core:∀ H:Hp,Only H→SqL K H a (ns.map V.int)→HOk P w H s₁.heap→(∀ b,H b≠none→b=a)→(H a≠none→K.lookup a=none)→
      codeAny (model P w) callerA (.call (.ref fa) ⟨[.ref a],[]⟩) (fun r s'=>r=.ok (.ret (.bool true))∧OldK s₁.heap s'.heap∧s'.os=s₁.os∧AllBare s'.gens) s₁:=by
    intro H hO hS hok hA hK
    have base_of:∀ {b:Addr} {o:Obj},s₁.heap.get? b=some o→H b=none→(hidT s₁.heap H).get? b=some o:=fun e n=>i'F e n
    have noA:∀ {b:Addr} {o:Obj} {es:Array DictEntry} {ep:Nat},s₁.heap.get? b=some o→o.data=.dict es ep→H b=none:=fun {b o es ep} e d=>by
      cases q:H b with
      | none=>rfl
      | some u=>
        have e':b=a:=hA b (by rw [q];simp)
        subst e'
        rw [ha] at e;cases e
        have d':Data.seq vs.toArray _=Data.dict es ep:=d
        cases d'
    have nsK:∀ {b:Addr} {m:Str→Option Value},s₁.heap.Ns b m→(hidT s₁.heap H).Ns b m:=fun {b m} ⟨o,es,ep,e,d,r⟩=>⟨o,es,ep,base_of e (noA e d),d,r⟩
    have hKb:K.In (hidT s₁.heap H):=fun b o e=>base_of (KX b o e) (by
      cases q:H b with
      | none=>rfl
      | some u=>
        have e':b=a:=hA b (by rw [q];simp)
        subst e'
        rw [hK (by rw [q];simp)] at e;cases e)
    have hM:Mod K mg (hidT s₁.heap H):=⟨hKb,nsK hns,⟨mb,nsK hb,hbb⟩,let ⟨mc,h1,h2⟩:=hlim;⟨mc,nsK h1,h2⟩⟩
    have e0:Env0 P w K mg (hidT s₁.heap H) callerA [] s₁ H:=⟨rfl,hM,fun b o e=>l'g e,Nat.le_of_eq (g't _ _),trivial,fun b hb=>absurd (show b∈([]:List Addr) from hb) (by simp),hok,.of_eq hg⟩
    refine codeAny_mono ((F _ hKb (nsK hns)).run callerA [] s₁ H ⟨[.ref a],[]⟩ [.ref a] [.ref a] _ _ hr e0 (hbind s₁ (.ref a)) (.cons rfl .nil) (hsp H hO hS)) fun r s' h=>?_
    cases r with
    | error e=>exact (hCX H e s' h).elim
    | ok fl=>
      cases fl with
      | next=>exact False.elim h
      | brk=>exact False.elim h
      | cont=>exact False.elim h
      | ret u=>
        obtain⟨v,H',os,bare,un,hok',r',q⟩:=h
        have q':v=.bl true:=q
        subst q'
        obtain rfl:u=Value.bool true:=r'
        refine⟨rfl,OldK.of_keep fun b o e=>?_,os,bare⟩
        cases q:H b with
        | none=>exact un.keep b o e q (by intro z;exact absurd (show b∈([]:List Addr) from z) (by simp)) (by simp)
        | some u=>
          rcases hO b with z | ⟨ob,xs,z⟩
          · rw [q] at z;cases z
          · have z2:=un.frzs b ob _ z
            obtain⟨e1,_⟩:=hok b _ z
            obtain⟨e2,_⟩:=hok' b _ z2
            rw [e] at e1;cases e1
            exact e2
  cases hk:K.lookup a with
  | some o =>
    have e:=KX a o hk
    rw [ha] at e
    cases e
    refine core (fun _=>none) (fun _=>.inl rfl) (.inr ⟨_,vs.toArray,_,hk,rfl,rfl,rfl,by rw [List.size_toArray,lenV];exact hl,by simpa using rv⟩) (fun b u z=>by have z':(none:Option HO)=some u:=z;cases z') (fun b z=>absurd rfl z) fun z=>absurd rfl z
  | none =>
    refine core (fun b=>if b=a then some (.frz { cls:=.type "list",data:=.seq vs.toArray } (.lst (ns.map V.int))) else none) (fun b=>?_) (.inl (.inr ⟨{ cls:=.type "list",data:=.seq vs.toArray },if_pos rfl⟩)) (fun b u z=>?_) (fun b z=>?_) fun _=>hk
    · by_cases hb:b=a
      · exact .inr ⟨_,_,if_pos hb⟩
      · exact .inl (if_neg hb)
    · by_cases hb:b=a
      · have z':=(if_pos hb).symm.trans z
        cases z'
        subst hb
        exact⟨ha,by rw [List.length_map];exact hl,vs,_,rv,ha⟩
      · have z':=(if_neg hb).symm.trans z
        cases z'
    · by_cases hb:b=a
      · exact hb
      · exact absurd (if_neg hb) z
end L2
namespace L2
open PySem PySem.Spec PyProof.Rows
theorem walk_of {l:PySem.W.OpenLaw} {n k:Nat} {q:Program} {loose:List Str} {XP:(Str→Option Value)→Heap→Prop} {YP:World→Heap→Prop} {d:DefRec} {K:Params→PySem.W.Frag} {CX:World→CXT} {sp:World→Sp} {x:Str}
    (hn:l.most=some n) (hn2:n≤sizeLine) (hdf:d.params.defaults=[]) (hr:Room k callerA)
    (hY:∀ (w:World) (h:Heap),YP w h→(K w.params).In h)
    (F:∀ (w:World) (mg:Str→Option Value) (fa:Addr) (h:Heap),(K w.params).In h→h.Ns mainGlobals mg→mg d.name=some (.ref fa)→
      ∃ fd:FuncData,(∀ (s:Shared) (u:Value),BindsTo s fd ⟨[u],[]⟩ [(x,u)])∧
        ∀ base:Heap,(K w.params).In base→base.Ns mainGlobals mg→FnOk l.prog w (K w.params) mg base (CX w) k fa fd [x] (sp w))
    (hsp:∀ (w:World) (H:Hp) (a:Addr) (ns:List Int),ns.length≤n→Only H→SqL (K w.params) H a (ns.map V.int)→sp w [.ref a] H (fun v _=>v=.bl true) fun _ _ _=>False)
    (hCX:∀ (w:World) (H:Hp) (s:Shared) (e:Value) (s':Shared),CX w [] H s (fun _ _ _=>False) e s'→False) :
    PySem.W.WalkO q loose XP YP l.row.toRowW d [] (fun f vs=>PySem.call f vs):=by
  refine Att.attach_call hn hdf fun w s₀ s₁ mg mb fa o pm cd doc a vs ns G Y ho hd hcd hmg hobj hints hlen hg=>?_
  have KX:=hY w _ Y
  obtain⟨fd,hb,hF⟩:=F w mg fa _ KX G.T.g hmg
  exact i'O KX G.T.g G.T.b G.T.builtins G.T.nolimit hg hobj hints (Nat.le_trans hlen hn2) hr hF hb (fun H hO hS=>hsp w H a ns hlen hO hS) fun H e s'=>hCX w H s₁ e s'
end L2
namespace L2
open PySem PySem.Spec PyProof.Rows
def defArgs (s:Stmt):Arguments:=match s with
  | .FunctionDef _ a _ _ _ _ _ _ _ _ => a
  | _ => { posonlyargs := [], args := [], vararg := none, kwonlyargs := [], kw_defaults := [], kwarg := none, defaults := [] }
def defBody (s:Stmt):List Stmt:=match s with
  | .FunctionDef _ _ b _ _ _ _ _ _ _ => b
  | _ => []
def defScope (s:Stmt):Scope:=match s with
  | .FunctionDef _ _ _ _ _ _ sc _ _ _ => sc
  | _ => { kind := .function, names := [], isGenerator := false, isCoroutine := false }
abbrev CX0:CXT:=fun _ _ _ _ _ _=>False
abbrev E0:XK:=fun _ _ _=>False
theorem o'S {X:Cx}:Passes CX0 X E0:=fun _ _ _ _ _ _ _ h=>h.elim
structure Fun (K:PySem.W.Frag) (x qual:Str) (st:Stmt) (f:Addr) (fd:FuncData):Prop where
  ex:∃ (oc:Value) (od:Option Addr) (kV doc pm:Value) (an:Option Addr) (cdv ct:Value) (osl:Array (Option Value)),
    fd=PySem.W.fnOf x qual (defArgs st) (defBody st) (defScope st) .none kV doc pm an cdv ct∧K.lookup f=some ⟨oc,od,.func fd,osl⟩∧PySem.W.codeIn K cdv qual=true
  kp:PySem.W.keepIn K (.ref f)=true
section
variable {P:Program} {w:World} {K:PySem.W.Frag} {mg:Str→Option Value} {base:Heap}
theorem Fun.ok {x qual:Str} {st:Stmt} {f:Addr} {fd:FuncData} {N ps:List Str} {k:Nat} {sp:Sp} (F:Fun K x qual st f fd) (S:FnScope N ps (defScope st)) (len:∀ vs H Q E,sp vs H Q E→vs.length=ps.length)
    (hbody:∀ (cdv:Value) (A:Around) (outer:List Env) (s:Shared) (H:Hp) (vs:List V) (Q:VK) (E:XK),Room k (A.deeper (envOfC qual (defScope st) s.heap.objs.size f cdv))→sp vs H Q E→
      ∃ t,PSs (cxOf CX0 P w K mg base N qual (defScope st) f cdv A outer s H E).nox (defBody st) t∧t { nx:=fun _ H'=>Q .non H',rt:=Q } (start N vs) H):FnOk P w K mg base CX0 (k+1) f fd ps sp:=by
  obtain⟨oc,od,kV,doc,pm,an,cdv,ct,osl,rfl,lk,hcd⟩:=F.ex
  refine j'G lk hcd S len fun A outer s H vs Q E hr hsp=>?_
  obtain⟨t,h,q⟩:=hbody cdv A outer s H vs Q E hr hsp
  exact⟨t,h.nox,q⟩
theorem Fun.binds {x qual:Str} {st:Stmt} {f:Addr} {fd:FuncData} {ps:List Str} (F:Fun K x qual st f fd)
    (h:∀ (kV doc pm:Value) (an:Option Addr) (cdv ct:Value) (us:List Value),us.length=ps.length→bindArgs (PySem.W.fnOf x qual (defArgs st) (defBody st) (defScope st) .none kV doc pm an cdv ct) ⟨us,[]⟩=pure (ps.zip us)):Binds K fd ps []:=by
  obtain⟨oc,od,kV,doc,pm,an,cdv,ct,osl,rfl,lk,hcd⟩:=F.ex
  exact .all (h kV doc pm an cdv ct)
theorem a'k {x qual:Str} {st:Stmt} {f:Addr} {oc:Value} {od an:Option Addr} {osl:Array (Option Value)} {kV doc pm cdv ct:Value} (l:K.lookup f=some ⟨oc,od,.func (PySem.W.fnOf x qual (defArgs st) (defBody st) (defScope st) .none kV doc pm an cdv ct),osl⟩)
    (c:PySem.W.codeIn K cdv qual=true) (k:PySem.W.keepIn K (.ref f)=true):Fun K x qual st f (PySem.W.fnOf x qual (defArgs st) (defBody st) (defScope st) .none kV doc pm an cdv ct):=⟨⟨oc,od,kV,doc,pm,an,cdv,ct,osl,rfl,l,c⟩,k⟩
end
theorem a'B {A:Around} {k:Nat} (hr:Room k A):A.units+1<cLine:=Nat.lt_of_le_of_lt (Nat.add_le_add_left (by decide:1≤64) _) hr.units
section
variable {X:Cx}
end
def Same (H H':Hp):Prop:=∀ b o,H b=some o→H' b=some o
theorem Same.refl (H:Hp):Same H H:=fun _ _ h=>h
theorem Same.trans {H H1 H2:Hp} (a:Same H H1) (b:Same H1 H2):Same H H2:=fun c o h=>b c o (a c o h)
theorem Same.free {H H':Hp} (e:Same H H') {l:Addr} (h:H' l=Option.none):H l=Option.none:=by
  cases q:H l with
  | none => rfl
  | some o =>
    rw [e l o q] at h
    cases h
theorem Same.seq {K:PySem.W.Frag} {H H':Hp} {a:Addr} {xs:List V} (e:Same H H') (h:SqL K H a xs):SqL K H' a xs:=by
  rcases h with (h | ⟨o,h⟩) | h
  · exact .inl (.inl (e _ _ h))
  · exact .inl (.inr ⟨o,e _ _ h⟩)
  · exact .inr h
end L2
namespace L2
open PySem PySem.Spec PyProof.Rows
section
variable {X:Cx}
theorem g'I:CallR X (.builtin "len") (fun xs H Q=>∃ a kvs,xs=[V.ref a]∧H a=some (.dK kvs)∧Q (.int kvs.length) H):=by
  intro pins s σ H xs us Q I r h
  obtain⟨a,kvs,rfl,ha,q⟩:=h
  obtain⟨u,rfl,ru⟩:=b't r
  cases ru
  exact o'Q I (.inl ha) fun t s' I'=>⟨.int kvs.length,H,I',⟨t,rfl⟩,q⟩
end
section
variable {κ:Type} [DecidableEq κ]
end
end L2
set_option Elab.async false
set_option linter.all false
set_option maxRecDepth 100000
set_option maxHeartbeats 4000000
namespace L2
open PySem PySem.Spec PyProof.Rows
def CMulB (i j:Int):Prop:=∃ n:Nat,n≤60000000∧i.natAbs<2 ^ n∧j.natAbs<2 ^ n
theorem e'r {x:Int} {n:Nat} (h:x.natAbs<2 ^ n):Builtin.Int.intBits x≤n:=by
  unfold Builtin.Int.intBits
  by_cases e:(x == 0)=true
  · rw [if_pos e];exact Nat.zero_le _
  · rw [if_neg e]
    have hx:x.natAbs≠0:=by
      intro z
      have:x=0:=by omega
      rw [this] at e
      exact e rfl
    exact (Nat.log2_lt hx).mpr h
theorem CMulB.ok {i j:Int} (h:CMulB i j):IntMulOk i j:=by
  obtain⟨n,hn,h1,h2⟩:=h
  have b1:=e'r h1
  have b2:=e'r h2
  intro z
  simp only [Bool.and_eq_true,Builtin.Int.intTooBig,decide_eq_true_eq] at z
  have e:(bitsLine:Nat)=134217728:=by decide
  have z2:=z.2
  rw [e] at z2
  omega
def CMulX (i j:Int):Prop:=CMul i j∨CMulB i j
def CDivB (_ j:Int):Prop:=j≠0∧j.natAbs<2 ^ 8000
theorem CDivB.ok {i j:Int} (h:CDivB i j):Builtin.divisionGoesByPylong i j=false:=by
  refine PyProof.noPylong_of_log2 ?_
  have hx:j.natAbs≠0:=by have:=h.1;omega
  have:=(Nat.log2_lt hx).mpr h.2
  omega
section
variable {X:Cx}
theorem op_mulB:OpR X (binaryOp .Mult) (rI CMulX fun i j=>.int (i*j)):=opI fun _ _ _ _ _ _ _ hc q=>mul_int q (hc.elim CMul.ok CMulB.ok)
theorem i'P:OpR X (binaryOp .FloorDiv) (rI CDivB fun i j=>.int (i.fdiv j)):=opI fun _ _ _ _ _ _ _ hc q=>floordiv_int hc.1 q (.inl hc.ok)
end
section
variable {X:Cx} {pins:List (Addr×Obj)} {σ:St} {H:Hp} {s:Shared} {a:Addr} {kvs:List (Key×V)}
end
theorem i'Q {P:Program} {w:World} {k:Key} {u:Value} (h:(mixKind P w).is k u=true):RelV (kV k) u:=by
  rcases a'r (k:=k) (v:=u) h with ⟨i,t,rfl,rfl⟩ | ⟨x,t,rfl,rfl⟩
  · exact⟨t,rfl⟩
  · exact⟨t,rfl⟩
theorem KV.at {kvs:List (Key×V)} {vs:List (Key×Value)} (r:KV kvs vs):∀ {i:Nat} {k:Key} {v:V},kvs[i]?=some (k,v)→∃ u,vs[i]?=some (k,u)∧RelV v u:=by
  unfold KV at r
  induction r with
  | nil => intro i k v h; simp at h
  | @cons p q ps qs h t ih =>
    intro i k v e
    cases i with
    | zero=>
      simp at e
      subst e
      have e1:k=q.1:=h.1
      exact⟨q.2,by rw [e1];rfl,h.2⟩
    | succ i=>simpa using ih (i:=i) (k:=k) (v:=v) (by simpa using e)
section
variable {X:Cx}
end
section
variable {X:Cx}
theorem f'R (hc:X.calm=true):CallR X (.type "list") (fun xs H Q=>∃ a kvs,xs=[.ref a]∧Rd H a (.dK kvs)∧∀ p,H p=none→Q (.ref p) (upd H p (.lst (kvs.map fun kv=>kV kv.1)))):=by
  intro pins s σ H xs us Q I r h
  obtain⟨a,kvs,rfl,ha,q⟩:=h
  obtain⟨u,rfl,ru⟩:=b't r
  cases ru
  obtain⟨z,y,vs,rel,dd⟩:=c'j I.hok ha
  obtain⟨ep,hat⟩:=dd.dictAt
  have hl:kvs.length=vs.length:=KV.length rel
  refine PySem.W.kdl_call (PySem.W.kdl_dict (knd:=mixKind X.prog X.w) (kvs:=vs) (ep:=ep) y) (I.ok.hd hc) hat (by rw [← hl];exact z) fun h' tk acc' c' hk hS hacc=>?_
  have hfr:H s.heap.objs.size=none:=I.hok.fresh (Nat.le_refl _)
  refine⟨.ref s.heap.objs.size,_,I.laid (a:=s.heap.objs.size) (o:=.lst (kvs.map fun kv=>kV kv.1)) (h':=h') (t':=tk) hk (Nat.le_refl _) ⟨by rw [List.length_map];exact z,acc'.toList,c',?_,by simpa using hS⟩,rfl,q _ hfr⟩
  have hn:acc'.toList.length=vs.length:=by rw [Array.length_toList];exact hacc.1
  have gen:∀ (kvs:List (Key×V)) (us:List Value),us.length=kvs.length→(∀ (j:Nat) k v u,kvs[j]?=some (k,v)→us[j]?=some u→RelV (kV k) u)→Vals (kvs.map fun kv=>kV kv.1) us:=by
    intro kvs
    induction kvs with
    | nil=>intro us e _;cases us with
      | nil=>exact .nil
      | cons _ _=>simp at e
    | cons p r ih=>
      intro us e f
      cases us with
      | nil=>simp at e
      | cons u us=>
        refine .cons (f 0 p.1 p.2 u rfl rfl) (ih us (by simpa using e) fun j k v w h1 h2=>f (j+1) k v w (by simpa using h1) (by simpa using h2))
  refine gen kvs acc'.toList (by rw [hn,hl]) fun j k v u h1 h2=>?_
  obtain⟨k',x,hx,hkey⟩:=hacc.2 j u (by rw [← Array.getElem?_toList];exact h2)
  obtain⟨u',hu',_⟩:=rel.at h1
  rw [hu'] at hx
  cases hx
  exact i'Q hkey
def clsV:V→Option Value
  | .ty n => some (.type n)
  | .ref a => some (.ref a)
  | _ => none
theorem i'R:CallR X (.builtin "isinstance") (fun xs H Q=>∃ x c t b u,xs=[x,c]∧TyOf X.K H x t∧clsV c=some u∧PySem.W.kitOne X.K t u=some b∧Q (.bl b) H):=by
  intro pins s σ H xs us Q I r h
  obtain⟨x,c,t,b,u,rfl,ty,rc,e,q⟩:=h
  obtain⟨v,w',rfl,rx,rw'⟩:=c'Y r
  have ew:w'=u:=by
    cases c with
    | ref a=>cases rc;exact rw'
    | ty n=>cases rc;exact rw'
    | non=>cases rc
    | bl n=>cases rc
    | int i=>cases rc
    | str i=>cases rc
    | byt i=>cases rc
    | flt i=>cases rc
  subst ew
  exact g'B I rx ty e fun tk=>⟨.bl b,H,I.tok tk,rfl,q⟩
end
theorem a'N (A:Around):A.in1.units=A.units+1:=rfl
section
variable {X:Cx} {pins:List (Addr×Obj)} {σ:St} {H:Hp} {s:Shared}
end
section
variable {X:Cx}
end
end L2
namespace L2
open PySem PySem.Spec PyProof.Rows
section
variable {σ:St} {H:Hp} {Q:VK} {D:Ends} {K:PySem.W.Frag}
theorem Same.upd {a:Addr} {o:HO} (h:H a=none):Same H (upd H a o):=fun b u e=>by rw [a'h (a'q e h)];exact e
theorem Same.tup {H':Hp} {a:Addr} {xs:List V} (e:Same H H') (h:SqT K H a xs):SqT K H' a xs:=by
  rcases h with (h | ⟨o,h⟩) | h
  · exact .inl (.inl (e _ _ h))
  · exact .inl (.inr ⟨o,e _ _ h⟩)
  · exact .inr h
theorem Same.rd {H':Hp} {a:Addr} {u:HO} (e:Same H H') (h:Rd H a u):Rd H' a u:=by
  rcases h with h | ⟨o,h⟩
  · exact .inl (e _ _ h)
  · exact .inr ⟨o,e _ _ h⟩
end
end L2
namespace L2
open PySem PySem.Spec PyProof.Rows
section
variable {σ:St} {H:Hp} {Q:VK} {D:Ends} {K:PySem.W.Frag} {X:Cx}
theorem Same.updN {H':Hp} {a:Addr} {o:HO} (e:Same H H') (n:H a=none):Same H (L2.upd H' a o):=fun b u q=>by rw [a'h (a'q q n)];exact e b u q
end
end L2
namespace L2
open PySem PySem.Spec PyProof.Rows
section
variable {P:Program} {w:World} {A:Around} {s:Shared}
section
open PySem.AutoSeq1 (wpAny_loadPart')
end
section
open PySem.AutoSeq1 (wpAny_loadPart')
open PySem.MeetsSeq PySem.MeetsSeq2 PySem.MeetsSeq3 PySem.SeqRoads2 PySem.SeqAt
end
end
section
variable {X:Cx} {pins:List (Addr×Obj)} {σ:St} {H:Hp} {s:Shared}
end
section
variable {X:Cx}
end
end L2
namespace Sf
def gd (a b:Int):Int:=(Int.gcd a b:Nat)
theorem e's (a:Int) (h:0≤a):gd a 0=a:=by
  unfold gd;rw [Int.gcd_zero_right];omega
theorem g'J {a b:Int} (ha:0≤a) (hb:0<b):gd b (a % b)=gd a b:=by
  unfold gd Int.gcd
  have e:(a % b).natAbs=a.natAbs % b.natAbs:=by
    obtain⟨m,rfl⟩:=Int.eq_ofNat_of_zero_le ha
    obtain⟨n,rfl⟩:=Int.eq_ofNat_of_zero_le (Int.le_of_lt hb)
    simp only [Int.natAbs_natCast]
    rw [← Int.natCast_emod,Int.natAbs_natCast]
  rw [e,Nat.gcd_comm b.natAbs,Nat.gcd_comm a.natAbs,Nat.gcd_rec b.natAbs a.natAbs]
theorem b'k {a b:Int} (h:b≠0):0<gd a b:=by
  unfold gd
  have:=Int.gcd_pos_of_ne_zero_right a h
  omega
theorem g'K (a b:Int):gd (a.natAbs:Int) (b.natAbs:Int)=gd a b:=by
  unfold gd;simp [Int.gcd]
theorem c'm (a:Int):(if a<0 then -a else a)=(a.natAbs:Int):=by split<;>omega
theorem l't (a b:Int):gd (if a<0 then -a else a) (if b<0 then -b else b)=gd a b:=by
  rw [c'm,c'm,g'K]
def dv (t b:Int):Int:=if b<0 then -(gd t b) else gd t b
theorem j'K {t b:Int} (h:b≠0):dv t b≠0:=by
  have:=b'k (a:=t) h
  unfold dv;split<;>omega
theorem d'l (t b:Int):gd t b ∣ t:=Int.gcd_dvd_left ..
theorem c'b (t b:Int):gd t b ∣ b:=Int.gcd_dvd_right ..
theorem i'S (t b:Int):dv t b ∣ t:=by
  unfold dv;split
  · exact Int.neg_dvd.mpr (d'l t b)
  · exact d'l t b
theorem i'T (t b:Int):dv t b ∣ b:=by
  unfold dv;split
  · exact Int.neg_dvd.mpr (c'b t b)
  · exact c'b t b
theorem j'L {x d:Int} (h:d ∣ x):x.fdiv d*d=x:=by
  rw [Int.fdiv_mul_cancel h]
theorem d'm {t b:Int} (h:b≠0):t.fdiv (dv t b)=(Rat.divInt t b).num:=by
  have hd:=j'K (t:=t) h
  refine Int.eq_of_mul_eq_mul_right hd ?_
  rw [j'L (i'S t b),Rat.num_divInt]
  have e:b.gcd t=t.gcd b:=Int.gcd_comm ..
  rw [e]
  have hg:((t.gcd b:Nat):Int) ∣ t:=Int.gcd_dvd_left ..
  have hp:=b'k (a:=t) h
  unfold gd at hp
  unfold dv gd
  rw [Int.mul_ediv_assoc _ hg]
  obtain⟨k,hk⟩:=hg
  generalize hG:((t.gcd b:Nat):Int)=g at *
  have hk2:t / g=k:=by rw [hk];exact Int.mul_ediv_cancel_left k (by omega)
  rw [hk2]
  split
  · rename_i hb
    rw [Int.sign_eq_neg_one_of_neg hb];grind
  · rename_i hb
    rw [Int.sign_eq_one_of_pos (by omega)];grind
theorem d'n {t b:Int} (h:b≠0):b.fdiv (dv t b)=((Rat.divInt t b).den:Int):=by
  have hd:=j'K (t:=t) h
  refine Int.eq_of_mul_eq_mul_right hd ?_
  rw [j'L (i'T t b),Rat.den_divInt,if_neg h]
  have e:b.gcd t=t.gcd b:=Int.gcd_comm ..
  rw [e]
  have hg:(t.gcd b) ∣ b.natAbs:=by rw [← Int.ofNat_dvd_left];exact Int.gcd_dvd_right ..
  have hp:=b'k (a:=t) h
  unfold gd at hp
  unfold dv gd
  obtain⟨k,hk⟩:=hg
  have hk2:b.natAbs / t.gcd b=k:=by rw [hk];exact Nat.mul_div_cancel_left k (by omega)
  rw [hk2]
  generalize t.gcd b=g at *
  have hk3:(b.natAbs:Int)=(g:Int)*(k:Int):=by rw [hk];exact Int.natCast_mul ..
  split<;>grind
end Sf
namespace Sf
def Sm (n:Nat) (q:Rat):Prop:=q.num.natAbs<2 ^ n∧q.den<2 ^ n
theorem c'M {t b:Int} (h:b≠0):(Rat.divInt t b).num.natAbs≤t.natAbs∧(Rat.divInt t b).den≤b.natAbs:=by
  obtain⟨m,hm,e1,e2⟩:=Rat.divInt_num_den (n:=t) (d:=b) h (n':=(Rat.divInt t b).num) (d':=(Rat.divInt t b).den) (z':=(Rat.divInt t b).den_nz) (c:=(Rat.divInt t b).reduced) rfl
  have hm1:1≤m.natAbs:=by omega
  have a1:=congrArg Int.natAbs e1
  have a2:=congrArg Int.natAbs e2
  rw [Int.natAbs_mul] at a1 a2
  rw [Int.natAbs_natCast] at a2
  constructor
  · rw [a1];exact Nat.le_mul_of_pos_right _ hm1
  · rw [a2];exact Nat.le_mul_of_pos_right _ hm1
theorem g'L {n:Nat} {t b:Int} (h:b≠0) (h1:t.natAbs<2 ^ n) (h2:b.natAbs<2 ^ n):Sm n (Rat.divInt t b):=
  ⟨Nat.lt_of_le_of_lt (c'M h).1 h1,Nat.lt_of_le_of_lt (c'M h).2 h2⟩
end Sf
namespace Sf
section
variable {κ:Type} [DecidableEq κ]
end
end Sf
namespace Sf
section
variable {κ:Type} [DecidableEq κ]
end
end Sf
namespace Sf
section
variable {κ:Type} [DecidableEq κ]
end
end Sf
namespace Sf
section
variable {κ:Type} [DecidableEq κ]
end
end Sf
namespace Sf
section
variable {κ:Type} [DecidableEq κ]
end
end Sf
namespace Sf
section
variable {κ:Type} [DecidableEq κ]
end
end Sf
namespace Sf
open PySem L2
end Sf
namespace Vc
open PySem L2 Sf
def Le (F F':Hp):Prop:=∀ a u,(∀ o w,u≠.frz o w)→Rd F a u→Rd F' a u
theorem Le.refl (F:Hp):Le F F:=fun _ _ _ h=>h
theorem Le.trans {F G H:Hp} (a:Le F G) (b:Le G H):Le F H:=fun x u n h=>b x u n (a x u n h)
theorem Le.of {F F':Hp} (e:Same F F'):Le F F':=fun a u _ h=>e.rd h
theorem Le.tup {K:PySem.W.Frag} {F F':Hp} {a:Addr} {xs:List V} (e:Le F F') (h:SqT K F a xs):SqT K F' a xs:=by
  rcases h with h | h
  · exact .inl (e _ _ (by intro o w z;cases z) h)
  · exact .inr h
theorem Le.lst {K:PySem.W.Frag} {F F':Hp} {a:Addr} {xs:List V} (e:Le F F') (h:SqL K F a xs):SqL K F' a xs:=by
  rcases h with h | h
  · exact .inl (e _ _ (by intro o w z;cases z) h)
  · exact .inr h
theorem Le.dic {F F':Hp} {a:Addr} {kvs:List (Key×V)} (e:Le F F') (h:Rd F a (.dK kvs)):Rd F' a (.dK kvs):=e _ _ (by intro o w z;cases z) h
def Fz (S:Addr→Prop) (F:Hp):Prop:=∀ a o u,F a=some (.frz o u)→S a
abbrev S0:Addr→Prop:=fun _=>False
def frzd (F:Hp):Addr→Prop:=fun a=>∃ o u,F a=some (.frz o u)
structure Gr0 (F H F' H':Hp):Prop where
  h:Same H H'
  f:Same F F'
  s:Same F' H'
  n:∀ a u,F' a=some u→F a=none→H a=none
structure Gr (F H F' H':Hp):Prop extends Gr0 F H F' H' where
  z:Fz (frzd F) F'
theorem Gr0.refl {F H:Hp} (s:Same F H):Gr0 F H F H:=⟨Same.refl _,Same.refl _,s,(fun a u h e=>by rw [h] at e;cases e)⟩
theorem Fz.refl (F:Hp):Fz (frzd F) F:=fun _ o u h=>⟨o,u,h⟩
theorem Gr.of {F H F' H':Hp} (g:Gr0 F H F' H') (z:Fz (frzd F) F'):Gr F H F' H':=⟨g,z⟩
theorem Gr.le {F H F' H':Hp} (g:Gr F H F' H'):Le F F':=.of g.f
theorem Gr.fz {F H F' H':Hp} {S:Addr→Prop} (g:Gr F H F' H') (c:Fz S F):Fz S F':=fun a o u h=>by
  obtain⟨o',u',e⟩:=g.z a o u h
  exact c a o' u' e
theorem Gr0.trans {F H F1 H1 F2 H2:Hp} (a:Gr0 F H F1 H1) (b:Gr0 F1 H1 F2 H2):Gr0 F H F2 H2:=
  ⟨a.h.trans b.h,a.f.trans b.f,b.s,(fun x u h e=>match q:F1 x with
    | none=>a.h.free (b.n x u h q)
    | some w=>a.n x w q e)⟩
theorem Gr0.tr {F H F1 H1 F2 H2:Hp} (a:Gr0 F H F1 H1) (b:Gr F1 H1 F2 H2):Gr0 F H F2 H2:=a.trans b.toGr0
theorem Gr.own {F H F' H':Hp} (g:Gr F H F' H') {o:Addr} {u:HO} (eF:F o=none) (eH:H o=some u):F' o=none:=by
  cases q:F' o with
  | none => rfl
  | some w => have := g.n o w q eF; rw [eH] at this; cases this
theorem al {F H:Hp} {o:HO} {R:V→Hp→Prop} (wd:Same F H) (nf:∀ x u,o≠.frz x u) (h:∀ (p:Addr) (F' H':Hp),Gr F H F' H'→F' p=some o→R (.ref p) H'):∀ p,H p=none→R (.ref p) (upd H p o):=fun p hp=>by
  have fp:F p=none:=wd.free hp
  refine h p (upd F p o) (upd H p o) ⟨⟨Same.upd hp,Same.upd fp,?_,fun a u e q=>?_⟩,fun a x u e=>?_⟩ a'u
  · intro b u e
    by_cases hb:b=p
    · subst hb;rw [a'u] at e ⊢;exact e
    · rw [a'h hb] at e ⊢;exact wd b u e
  · by_cases hb:a=p
    · subst hb;exact hp
    · rw [a'h hb,q] at e;cases e
  · by_cases hb:a=p
    · subst hb;rw [a'u] at e;exact absurd (Option.some.inj e) (nf x u)
    · rw [a'h hb] at e;exact⟨_,_,e⟩
theorem al1 {F H:Hp} {o:HO} {p:Addr} {R:Hp→Prop} (wd:Same F H) (nf:∀ x u,o≠.frz x u) (hp:H p=none) (h:∀ F' H':Hp,Gr F H F' H'→F' p=some o→R H'):R (upd H p o):=by
  have:=al (R:=fun v H'=>∀ q,v=.ref q→q=p→R H') wd nf (fun q F' H' g e z hz hq=>by cases hz;subst hq;exact h F' H' g e) p hp
  exact this p rfl rfl
theorem al2 {F H:Hp} {o:HO} {p:Addr} (wd:Same F H) (nf:∀ x u,o≠.frz x u) (hp:H p=none):∃ F',Gr F H F' (upd H p o)∧F' p=some o:=
  al1 (R:=fun H'=>∃ F',Gr F H F' H'∧F' p=some o) wd nf hp fun F' _ g e=>⟨F',g,e⟩
theorem frz {Fb Hb F H:Hp} {S:Addr→Prop} {p:Addr} {o:HO} (gb:Gr0 Fb Hb F H) (cm:Fz S F) (hb:Hb p=none) (hf:F p=none) (hH:H p=some o) (nf:∀ x u,o≠.frz x u):∃ F',Gr0 Fb Hb F' H∧Fz S F'∧Same F F'∧F' p=some o∧∀ a,a≠p→F' a=F a:=by
  refine⟨upd F p o,⟨gb.h,gb.f.trans (Same.upd hf),?_,fun a u e q=>?_⟩,fun a x u e=>?_,Same.upd hf,a'u,fun _ e=>a'h e⟩
  · intro b u e
    by_cases hb:b=p
    · subst hb;rw [a'u] at e;cases e;exact hH
    · rw [a'h hb] at e;exact gb.s b u e
  · by_cases hb':a=p
    · subst hb';exact hb
    · rw [a'h hb'] at e;exact gb.n a u e q
  · by_cases hb':a=p
    · subst hb';rw [a'u] at e;exact absurd (Option.some.inj e) (nf x u)
    · rw [a'h hb'] at e;exact cm a x u e
theorem l'u {F:Hp} {a:Addr} {kvs:List (Key×V)} (c:Fz S0 F) (h:Rd F a (.dK kvs)):F a=some (.dK kvs):=by
  rcases h with h | ⟨o,h⟩
  · exact h
  · exact (c _ _ _ h).elim
section
variable {α:Type}
def gtd (m:List (Str×α)) (k:Str):Option α:=(m.find? fun p=>decide (p.1=k)).map (·.2)
def ptd (m:List (Str×α)) (k:Str) (y:α):List (Str×α):=if (m.any fun p=>decide (p.1=k))=true then m.map (fun p=>if p.1=k then (p.1,y) else p) else m++[(k,y)]
end
def bl (n:Nat):Nat:=if n=0 then 0 else Nat.log2 n+1
theorem bl_lt {n k:Nat}:n<2 ^ k↔bl n≤k:=by
  unfold bl
  by_cases h:n=0
  · subst h;simp [Nat.two_pow_pos]
  · rw [if_neg h,← Nat.log2_lt h];omega
def bi (x:Int):Nat:=bl x.natAbs
def bs (q:Rat):Nat:=max (bl q.num.natAbs) (bl q.den)
theorem o'T {q:Rat} {n:Nat} (h:Sm n q):bs q≤n:=by
  have h1:=bl_lt.mp h.1
  have h2:=bl_lt.mp h.2
  unfold bs
  omega
theorem o'U {x:Int} {k:Nat} (h:x.natAbs<2 ^ k):bi x≤k:=bl_lt.mp h
theorem b'R {x:Int} {k:Nat} (h:bi x≤k):x.natAbs<2 ^ k:=bl_lt.mpr h
theorem a'G {x:Int} (k:Nat) (h:x.natAbs<2 ^ k):bi x≤k:=bl_lt.mp h
theorem n'k (q:Rat):bi q.num≤bs q:=by unfold bi bs;omega
theorem d'o (q:Rat):bi (q.den:Int)≤bs q:=by unfold bi bs;rw [Int.natAbs_natCast];omega
theorem a'O {t b:Int} (h:b≠0) {k:Nat} (h1:bi t≤k) (h2:bi b≤k):bs (Rat.divInt t b)≤k:=o'T (g'L h (b'R h1) (b'R h2))
theorem o'V {x y:Int} (h1:-18446744073709551616<x) (h2:x<18446744073709551616):CMulX x y:=.inl (.inl ⟨by omega,by omega⟩)
section
variable {σ:St} {H:Hp} {Q:VK} {D:Ends} {K:PySem.W.Frag}
end
def TyX (K:PySem.W.Frag) (H:Hp) (x:V) (t:Value):Prop:=TyOf K H x t∨(t=.type "tuple"∧∃ a xs,x=.ref a∧SqT K H a xs)∨(t=.type "list"∧∃ a xs,x=.ref a∧SqL K H a xs)∨(t=.type "dict"∧∃ a kvs,x=.ref a∧Rd H a (.dK kvs))
section
variable {K:PySem.W.Frag} {H:Hp}
theorem n'l {a:Addr} {xs:List V} (h:SqT K H a xs):TyX K H (.ref a) (.type "tuple"):=.inr (.inl ⟨rfl,a,xs,rfl,h⟩)
theorem n'm {a:Addr} {xs:List V} (h:SqL K H a xs):TyX K H (.ref a) (.type "list"):=.inr (.inr (.inl ⟨rfl,a,xs,rfl,h⟩))
theorem n'n {a:Addr} {kvs:List (Key×V)} (h:Rd H a (.dK kvs)):TyX K H (.ref a) (.type "dict"):=.inr (.inr (.inr ⟨rfl,a,kvs,rfl,h⟩))
theorem n'o {i:Int}:TyX K H (.int i) (.type "int"):=.inl (.int i)
theorem n'p {i:Str}:TyX K H (.str i) (.type "str"):=.inl (.str i)
theorem o'W {i:Bool}:TyX K H (.bl i) (.type "bool"):=.inl (.bl i)
theorem n'q:TyX K H .non (.type "NoneType"):=.inl .non
end
section
open PySem.Spec PyProof.Rows
variable {X:Cx}
theorem i'U:CallR X (.builtin "isinstance") (fun xs H Q=>∃ x c t b u,xs=[x,c]∧TyX X.K H x t∧clsV c=some u∧PySem.W.kitOne X.K t u=some b∧Q (.bl b) H):=by
  intro pins s σ H xs us Q I r h
  obtain⟨x,c,t,b,u,rfl,ty,rc,e,q⟩:=h
  rcases ty with ty | ⟨rfl,a,ys,rfl,hs⟩ | ⟨rfl,a,ys,rfl,hs⟩ | ⟨rfl,a,kvs,rfl,hs⟩
  · exact i'R pins s σ H [x,c] us Q I r ⟨x,c,t,b,u,rfl,ty,rc,e,q⟩
  all_goals
    obtain⟨v,w',rfl,rx,rw'⟩:=c'Y r
    have ew:w'=u:=by
      cases c with
      | ref a=>cases rc;exact rw'
      | ty n=>cases rc;exact rw'
      | non=>cases rc
      | bl n=>cases rc
      | int i=>cases rc
      | str i=>cases rc
      | byt i=>cases rc
      | flt i=>cases rc
    subst ew
    cases (show v=Value.ref a from rx)
  · obtain⟨its,_,p,_⟩:=I.tuple hs
    obtain⟨o,h1,h2,_⟩:=p
    exact PySem.W.kia_one PySem.W.kitx_tuple I.kIn ⟨o,h1,h2⟩ e (fun z=>nomatch z) fun tk=>⟨.bl b,H,I.tok tk,rfl,q⟩
  · obtain⟨its,_,p,_⟩:=I.list hs
    obtain⟨o,h1,h2,_⟩:=p.isList
    exact PySem.W.kia_one PySem.W.kitx_list I.kIn ⟨o,h1,h2⟩ e (fun z=>nomatch z) fun tk=>⟨.bl b,H,I.tok tk,rfl,q⟩
  · obtain⟨_,_,vs,_,p⟩:=c'j I.hok hs
    obtain⟨o,es,ep,h1,h2,_⟩:=p
    exact PySem.W.kia_one PySem.W.kitx_dict I.kIn ⟨o,h1,h2.1⟩ e (fun z=>nomatch z) fun tk=>⟨.bl b,H,I.tok tk,rfl,q⟩
end
end Vc
namespace Vc
open PySem L2 Sf
section
variable {X:Cx} {pins:List (Addr×Obj)} {σ:St} {F H:Hp} {s:Shared} {Au:Around}
theorem l'v:∀ {x y:V} {u:Value},RelV x u→RelV y u→x=y:=by
  intro x y u h1 h2
  cases x<;>cases y<;>simp only [RelV] at h1 h2<;>first
    | rfl
    | (subst h1;simp at h2;subst h2;rfl)
    | (subst h1;simp at h2;done)
    | (obtain⟨t,rfl⟩:=h1;obtain⟨t',e⟩:=h2;simp at e;rw [e.1])
    | (obtain⟨t,rfl⟩:=h1;simp at h2;done)
    | (obtain⟨t,rfl⟩:=h2;simp at h1;done)
theorem c'c:∀ {xs ys:List V} {us:List Value},Vals xs us→Vals ys us→xs=ys
  | [], [], _, _, _ => rfl
  | _ :: _, _ :: _, _, .cons h t, .cons h' t' => by rw [l'v h h', c'c t t']
  | [], _ :: _, _, h, h' => by cases h; cases h'
  | _ :: _, [], _, h, h' => by cases h'; cases h
theorem l'w {a:Addr} {xs ys:List V} (I:Inv X pins σ H s) (h1:SqT X.K H a xs) (h2:SqT X.K H a ys):xs=ys:=by
  obtain⟨us,r1,⟨o1,g1,c1,n1,d1⟩,_⟩:=I.tuple h1
  obtain⟨ws,r2,⟨o2,g2,c2,n2,d2⟩,_⟩:=I.tuple h2
  rw [g1] at g2
  cases g2
  rw [d1] at d2
  injection d2 with e _
  have:us=ws:=by simpa using e
  subst this
  exact c'c r1 r2
theorem l'x {a:Addr} {xs ys:List V} (I:Inv X pins σ H s) (h1:SqL X.K H a xs) (h2:SqL X.K H a ys):xs=ys:=by
  obtain⟨us,r1,p1,_⟩:=I.list h1
  obtain⟨ws,r2,p2,_⟩:=I.list h2
  obtain⟨o1,g1,c1,n1,d1⟩:=p1.isList
  obtain⟨o2,g2,c2,n2,d2⟩:=p2.isList
  rw [g1] at g2
  cases g2
  rw [d1] at d2
  injection d2 with e _
  have:us=ws:=by simpa using e
  subst this
  exact c'c r1 r2
theorem e't {a b:Addr} {xs ys:List V} (I:Inv X pins σ H s) (h1:SqT X.K H a xs) (h2:SqT X.K H b ys) (hu:Au.units<cLine) (hl:xs.length=ys.length) (e:Nat→Bool)
    (he:∀ (j:Nat) x y u v,xs[j]?=some x→ys[j]?=some y→RelV x u→RelV y v→SeqAt.EqAt Au.in1 s u v (e j)):SeqAt.RcAt Au s (.ref a) (.ref b) ((List.range xs.length).all e):=by
  obtain⟨us,r1,t1,_⟩:=I.tuple h1
  obtain⟨ws,r2,t2,_⟩:=I.tuple h2
  have l1:=r1.length
  have l2:=r2.length
  have z:=SeqAt.RcAt.tuples (A:=Au) (e:=e) t1 t2 hu (fun j h1 h2=>?_)
  · have e0:((List.range (min us.toArray.size ws.toArray.size)).all e && us.toArray.size == ws.toArray.size)=(List.range xs.length).all e:=by
      simp only [List.size_toArray]
      have e1:min us.length ws.length=xs.length:=by omega
      have e2:(us.length == ws.length)=true:=by simp;omega
      rw [e1,e2,Bool.and_true]
    rw [e0] at z
    exact z
  · simp only [List.size_toArray] at h1 h2
    obtain⟨u,e1,ru⟩:=r1.get (i:=j) (x:=xs[j]'(by omega)) (by simp)
    obtain⟨v,e2,rv⟩:=r2.get (i:=j) (x:=ys[j]'(by omega)) (by simp)
    obtain⟨_,f1⟩:=List.getElem?_eq_some_iff.mp e1
    obtain⟨_,f2⟩:=List.getElem?_eq_some_iff.mp e2
    have g1:us.toArray[j]'(by simpa using h1)=u:=by simpa using f1
    have g2:ws.toArray[j]'(by simpa using h2)=v:=by simpa using f2
    rw [g1,g2]
    exact he j _ _ u v (by simp) (by simp) ru rv
theorem e'u {a b:Addr} {xs ys:List V} (I:Inv X pins σ H s) (h1:SqL X.K H a xs) (h2:SqL X.K H b ys) (hu:Au.units<cLine) (hl:xs.length=ys.length) (e:Nat→Bool)
    (he:∀ (j:Nat) x y u v,xs[j]?=some x→ys[j]?=some y→RelV x u→RelV y v→SeqAt.EqAt Au.in1 s u v (e j)):SeqAt.RcAt Au s (.ref a) (.ref b) ((List.range xs.length).all e):=by
  obtain⟨us,r1,t1,_⟩:=I.list h1
  obtain⟨ws,r2,t2,_⟩:=I.list h2
  have l1:=r1.length
  have l2:=r2.length
  have z:=SeqAt.RcAt.lists (A:=Au) (e:=e) t1.isList t2.isList (by simp;omega) hu (fun j h1 h2=>?_)
  · have e0:(List.range us.toArray.size).all e=(List.range xs.length).all e:=by
      simp only [List.size_toArray]
      rw [← l1]
    rw [e0] at z
    exact z
  · simp only [List.size_toArray] at h1 h2
    obtain⟨u,e1,ru⟩:=r1.get (i:=j) (x:=xs[j]'(by omega)) (by simp)
    obtain⟨v,e2,rv⟩:=r2.get (i:=j) (x:=ys[j]'(by omega)) (by simp)
    obtain⟨_,f1⟩:=List.getElem?_eq_some_iff.mp e1
    obtain⟨_,f2⟩:=List.getElem?_eq_some_iff.mp e2
    have g1:us.toArray[j]'(by simpa using h1)=u:=by simpa using f1
    have g2:ws.toArray[j]'(by simpa using h2)=v:=by simpa using f2
    rw [g1,g2]
    exact he j _ _ u v (by simp) (by simp) ru rv
end
theorem i'V {Au:Around} {s:Shared} {i j:Int} {u v:Value} (r1:RelV (.int i) u) (r2:RelV (.int j) v):SeqAt.EqAt Au s u v (decide (i=j)):=by
  have z:=c'k (A:=Au) (s:=s) r1 r2 rfl rfl
  have e:eqV (.int i) (.int j)=decide (i=j):=by show (i == j)=_;rw [Bool.beq_eq_decide_eq]
  rw [e] at z
  exact z
section
variable {X:Cx}
end
section
variable {K:PySem.W.Frag} {F H:Hp} {Q:VK}
end
end Vc
namespace L2
open PySem PySem.Spec PyProof.Rows
def clStep (env:Env) (cs:List (Str×Addr)) (y:Str×NameKind):List (Str×Addr):=if (y.2 == .free)=true then (match env.cells.lookup y.1 with | some a=>(y.1,a) :: cs | none=>cs) else cs
def clOf (scope:Scope) (env:Env):List (Str×Addr):=scope.names.foldl (clStep env) []
def clAll (scope:Scope) (env:Env):Bool:=scope.names.all fun y=>!(y.2 == .free) || (env.cells.lookup y.1).isSome
theorem c'n {scope:Scope} {env:Env} (h:clAll scope env=true):closureFor scope env=pure (clOf scope env):=by
  unfold closureFor clOf
  unfold clAll at h
  have gen:∀ (l:List (Str×NameKind)) (cs:List (Str×Addr)),(l.all fun y=>!(y.2 == .free) || (env.cells.lookup y.1).isSome)=true→
      (forIn l cs fun x r=>match x with | (name,kind)=>if (kind == NameKind.free)=true then (do let a ← cellOf env name;pure (ForInStep.yield ((name,a) :: r))) else pure (ForInStep.yield r):Sem (List (Str×Addr)))=pure (l.foldl (clStep env) cs):=by
    intro l
    induction l with
    | nil=>intro cs _;rfl
    | cons y r ih=>
      intro cs ha
      rw [List.all_cons,Bool.and_eq_true] at ha
      obtain⟨n,k⟩:=y
      rw [List.forIn_cons,List.foldl_cons]
      by_cases hk:(k == NameKind.free)=true
      · have h1:=ha.1
        simp only [hk,Bool.not_true,Bool.false_or] at h1
        obtain⟨a,e⟩:=Option.isSome_iff_exists.mp h1
        have e1:clStep env cs (n,k)=(n,a) :: cs:=by unfold clStep;simp [hk,e]
        have e2:cellOf env n=pure a:=by unfold cellOf;rw [e]
        rw [e1,← ih _ ha.2]
        simp only [hk,if_true,e2,pure_bind]
      · have e1:clStep env cs (n,k)=cs:=by unfold clStep;simp [hk]
        rw [e1,← ih _ ha.2]
        simp only [hk,if_false,pure_bind,Bool.false_eq_true]
  have:=gen scope.names [] h
  simp only [this,pure_bind]
theorem a'M {scope:Scope} {env:Env} {x:Str} {c:Addr} (h:(clOf scope env).lookup x=some c):env.cells.lookup x=some c:=by
  unfold clOf at h
  have gen:∀ (l:List (Str×NameKind)) (cs:List (Str×Addr)),(cs.lookup x=some c→env.cells.lookup x=some c)→(l.foldl (clStep env) cs).lookup x=some c→env.cells.lookup x=some c:=by
    intro l
    induction l with
    | nil=>intro cs f g;exact f g
    | cons y r ih=>
      intro cs f g
      rw [List.foldl_cons] at g
      refine ih _ (fun z=>?_) g
      unfold clStep at z
      split at z
      · split at z
        · rename_i a e
          rw [List.lookup_cons] at z
          by_cases hx:(x == y.1)=true
          · rw [hx] at z
            have:=eq_of_beq hx
            subst this
            simp at z
            rw [← z];exact e
          · simp only [hx] at z
            exact f z
        · exact f z
      · exact f z
  exact gen scope.names [] (fun z=>by cases z) h
theorem d'p {scope:Scope} {env:Env} {x:Str} (ha:clAll scope env=true) (h:scope.names.lookup x=some .free):∃ c,(clOf scope env).lookup x=some c:=by
  unfold clOf
  unfold clAll at ha
  have keep:∀ (l:List (Str×NameKind)) (cs:List (Str×Addr)),(∃ c,cs.lookup x=some c)→∃ c,(l.foldl (clStep env) cs).lookup x=some c:=by
    intro l
    induction l with
    | nil=>intro cs f;exact f
    | cons y r ih=>
      intro cs f
      rw [List.foldl_cons]
      refine ih _ ?_
      unfold clStep
      split
      · split
        · rw [List.lookup_cons]
          by_cases hx:(x == y.1)=true
          · rw [hx];exact⟨_,rfl⟩
          · simp only [hx];exact f
        · exact f
      · exact f
  have gen:∀ (l:List (Str×NameKind)) (cs:List (Str×Addr)),(l.all fun y=>!(y.2 == .free) || (env.cells.lookup y.1).isSome)=true→l.lookup x=some .free→∃ c,(l.foldl (clStep env) cs).lookup x=some c:=by
    intro l
    induction l with
    | nil=>intro cs _ f;cases f
    | cons y r ih=>
      intro cs ha f
      rw [List.all_cons,Bool.and_eq_true] at ha
      obtain⟨n,k⟩:=y
      rw [List.foldl_cons]
      rw [List.lookup_cons] at f
      by_cases hx:(x == n)=true
      · rw [hx] at f
        have:=eq_of_beq hx
        subst this
        simp at f
        subst f
        refine keep r _ ?_
        have h1:(env.cells.lookup x).isSome=true:=ha.1
        obtain⟨a,e⟩:=Option.isSome_iff_exists.mp h1
        refine⟨a,?_⟩
        unfold clStep
        rw [if_pos (show ((NameKind.free) == NameKind.free)=true from rfl)]
        dsimp only
        rw [e]
        dsimp only
        rw [List.lookup_cons,hx]
      · simp only [hx] at f
        exact ih _ ha.2 f
  exact gen scope.names [] ha h
theorem e'g {scope:Scope} {env:Env} {x:Str} (hcell:∀ y∈scope.names,y.2≠.cell) (h:(relabel scope env).names.lookup x=some .cell∨(relabel scope env).names.lookup x=some .free):scope.names.lookup x=some .free:=by
  unfold relabel at h
  dsimp only at h
  have gen:∀ l:List (Str×NameKind),(∀ y∈l,y.2≠.cell)→((l.map fun (n,k)=>if (k == NameKind.free && env.scope.kind == .function && env.kindOf n == some .cell) then (n,NameKind.cell) else (n,k)).lookup x=some .cell∨(l.map fun (n,k)=>if (k == NameKind.free && env.scope.kind == .function && env.kindOf n == some .cell) then (n,NameKind.cell) else (n,k)).lookup x=some .free)→l.lookup x=some .free:=by
    intro l
    induction l with
    | nil=>intro _ f;rcases f with f | f<;>cases f
    | cons y r ih=>
      intro hc f
      obtain⟨n,k⟩:=y
      have hk:k≠.cell:=hc (n,k) (List.mem_cons_self ..)
      rw [List.map_cons] at f
      rw [List.lookup_cons]
      by_cases hx:(x == n)=true
      · rw [hx]
        dsimp only at f ⊢
        by_cases hf:(k == NameKind.free && env.scope.kind == .function && env.kindOf n == some .cell)=true
        · have:k=.free:=by
            simp only [Bool.and_eq_true] at hf
            exact eq_of_beq hf.1.1
          rw [this]
        · rw [if_neg hf,List.lookup_cons,hx] at f
          simp only [Option.some.injEq] at f
          rcases f with f | f
          · exact absurd f hk
          · rw [f]
      · simp only [hx]
        refine ih (fun y hy=>hc y (List.mem_cons_of_mem _ hy)) ?_
        dsimp only at f
        split at f<;>(rw [List.lookup_cons] at f;simp only [hx] at f;exact f)
  exact gen scope.names hcell h
inductive Wk:St→St→Prop
  | nil : Wk [] []
  | non {a b : St} {x : Option V} : Wk a b → Wk (none :: a) (x :: b)
  | som {a b : St} {v : V} : Wk a b → Wk (some v :: a) (some v :: b)
theorem Wk.length {a b:St} (h:Wk a b):b.length=a.length:=by
  induction h with
  | nil => rfl
  | non _ ih => simp [ih]
  | som _ ih => simp [ih]
theorem Wk.get {a b:St} (h:Wk a b):∀ {i:Nat} {v:V},a[i]?=some (some v)→b[i]?=some (some v):=by
  induction h with
  | nil => intro i v e; simp at e
  | non _ ih =>
    intro i v e
    cases i with
    | zero=>simp at e
    | succ i=>simpa using ih (i:=i) (v:=v) (by simpa using e)
  | som _ ih =>
    intro i v e
    cases i with
    | zero=>simpa using e
    | succ i=>simpa using ih (i:=i) (v:=v) (by simpa using e)
theorem c'y:∀ a:St,Wk a a
  | [] => .nil
  | none :: a => .non (c'y a)
  | some _ :: a => .som (c'y a)
def pickS (ix:List (Option Nat)) (σ:St):St:=ix.map fun o=>match o with | none=>none | some i=>(σ[i]?).getD none
def PickOk (X:Cx) (sc:Scope):List Str→List (Option Nat)→Prop
  | [], [] => True
  | _ :: N, none :: ix => PickOk X sc N ix
  | x :: N, some i :: ix => X.N[i]? = some x ∧ X.env.kindOf x = some .cell ∧ sc.names.lookup x = some .free ∧ PickOk X sc N ix
  | _, _ => False
theorem PickOk.length {X:Cx} {sc:Scope}:∀ {N:List Str} {ix:List (Option Nat)},PickOk X sc N ix→ix.length=N.length
  | [], [], _ => rfl
  | _ :: N, none :: ix, h => by rw [List.length_cons, List.length_cons, PickOk.length (X := X) (sc := sc) (N := N) (ix := ix) h]
  | _ :: N, some i :: ix, h => by rw [List.length_cons, List.length_cons, PickOk.length (X := X) (sc := sc) (N := N) (ix := ix) h.2.2.2]
  | [], _ :: _, h => h.elim
  | _ :: _, [], h => h.elim
theorem PickOk.get {X:Cx} {sc:Scope} {σ:St}:∀ {N:List Str} {ix:List (Option Nat)} {j:Nat} {x:Str} {v:V},PickOk X sc N ix→N[j]?=some x→(pickS ix σ)[j]?=some (some v)→∃ i:Nat,X.N[i]?=some x∧X.env.kindOf x=some .cell∧sc.names.lookup x=some .free∧σ[i]?=some (some v)
  | _ :: N, none :: ix, 0, x, v, h, e1, e2 => by simp [pickS] at e2
  | _ :: N, none :: ix, j + 1, x, v, h, e1, e2 => PickOk.get (N := N) (ix := ix) (j := j) h (by simpa using e1) (by simpa [pickS] using e2)
  | y :: N, some i :: ix, 0, x, v, h, e1, e2 => by
    simp at e1
    subst e1
    refine⟨i,h.1,h.2.1,h.2.2.1,?_⟩
    simp [pickS] at e2
    cases q:σ[i]? with
    | none=>rw [q] at e2;simp at e2
    | some o=>rw [q] at e2;simp at e2;rw [e2]
  | y :: N, some i :: ix, j + 1, x, v, h, e1, e2 => PickOk.get (N := N) (ix := ix) (j := j) h.2.2.2 (by simpa using e1) (by simpa [pickS] using e2)
  | [], [], _, _, _, _, e1, _ => by simp at e1
  | [], _ :: _, _, _, _, h, _, _ => h.elim
  | _ :: _, [], _, _, _, h, _, _ => h.elim
theorem d'q {scope:Scope} {env:Env} {x:Str} (h:scope.names.lookup x=some .free):(relabel scope env).names.lookup x=some .cell∨(relabel scope env).names.lookup x=some .free:=by
  unfold relabel
  dsimp only
  have gen:∀ l:List (Str×NameKind),l.lookup x=some .free→((l.map fun (n,k)=>if (k == NameKind.free && env.scope.kind == .function && env.kindOf n == some .cell) then (n,NameKind.cell) else (n,k)).lookup x=some .cell∨(l.map fun (n,k)=>if (k == NameKind.free && env.scope.kind == .function && env.kindOf n == some .cell) then (n,NameKind.cell) else (n,k)).lookup x=some .free):=by
    intro l
    induction l with
    | nil=>intro f;cases f
    | cons y r ih=>
      intro f
      obtain⟨n,k⟩:=y
      rw [List.lookup_cons] at f
      rw [List.map_cons]
      by_cases hx:(x == n)=true
      · rw [hx] at f
        simp at f
        subst f
        dsimp only
        split
        · left;rw [List.lookup_cons,hx]
        · right;rw [List.lookup_cons,hx]
      · simp only [hx] at f
        dsimp only
        split<;>(rw [List.lookup_cons];simp only [hx];exact ih f)
  exact gen scope.names h
def cxComp (X:Cx) (scope:Scope) (N:List Str) (C:Addr) (s:Shared) (H:Hp) (fp:List Addr) (pl:List (Addr×Obj)):Cx where
  prog:=X.prog
  w:=X.w
  K:=X.K
  mg:=X.mg
  base:=X.base
  A:=X.A
  N:=N
  s₀:=s
  H₀:=H
  env:=compEnvC scope (clOf scope X.env) C X.env
  outer:=X.stack
  stack:=X.stack
  ex:=fp
  fn:=fun _=>false
  calm:=X.calm
  pn:=X.pn++pl
  xe:=fun _ _=>False
def PTs (Y:Cx) (ifs:List Expr) (t:TT):Prop:=
  ∀ (pins:List (Addr×Obj)) (s:Shared) (σ:St) (H:Hp) (Q:Bool→Hp→Prop),Inv Y pins σ H s→t σ H Q→
    wpAny (model Y.prog Y.w) Y.A (forIn ifs true fun c r=>if r=true then do let ok ← isTrue c Y.env (eval c Y.env);pure (ForInStep.yield ok) else pure (ForInStep.yield r)) (TP Y pins σ Q) Y.xe s
def tYes:TT:=fun _ H Q=>Q true H
theorem l'y {Y:Cx}:PTs Y [] tYes:=fun _ _ _ H _ I h=>wpAny_tests_nil ⟨H,I,h⟩
theorem d'r {prog:Program} {w:World} {A:Around} {R:Result→Shared→Prop} {s:Shared} {elt target iter:Expr} {ifs:List Expr} {scope:Scope} {pos:Pos} {it acc:Value} {env:Env} (I:Nat→Shared→Prop)
    (turn:∀ n s,I n s→wpAny (model prog w) A (pyNext it) (fun r s₁=>match r with
      | none=>R (.ok .next) s₁
      | some v=>wpAny (model prog w) A (letOwnedTupleGo target it v) (fun _ s₀=>wpAny (model prog w) A (assign target env v) (fun _ s₂=>
          wpAny (model prog w) A (forIn ifs true fun c r=>if r=true then do let ok ← isTrue c env (eval c env);pure (ForInStep.yield ok) else pure (ForInStep.yield r)) (fun ok s₃=>
            if ok=true then wpAny (model prog w) A (eval elt env) (fun x s₄=>
              wpAny (model prog w) A (call (.builtin "list.append") [acc,x]) (fun _ s₅=>∃ m,m<n∧I m s₅) (notedBy (model prog w) A env fun e s'=>R (.error e) s') s₄) (notedBy (model prog w) A env fun e s'=>R (.error e) s') s₃
            else ∃ m,m<n∧I m s₃) (notedBy (model prog w) A env fun e s'=>R (.error e) s') s₂) (notedBy (model prog w) A env fun e s'=>R (.error e) s') s₀) (notedBy (model prog w) A env fun e s'=>R (.error e) s') s₁) (notedBy (model prog w) A env fun e s'=>R (.error e) s') s)
    (n:Nat) (h:I n s):codeAny (model prog w) A (.compLoop (.ListComp elt [⟨target,iter,ifs,0⟩] scope pos) 0 it acc env) R s:=by
  refine codeAny_loop rfl I (fun n s hI=>?_) n h
  show wpAny _ A ((compTurn (.ListComp elt [⟨target,iter,ifs,0⟩] scope pos) 0 it acc env).onRaise (fun x=>do noteFrame x env;theTreesLotGoes x)) _ _ s
  refine wpAny_noted ?_
  rw [compTurn_list]
  refine wpAny_bind (wpAny_standAt (wpAny_bind (wpAny_mono (turn n s hI) (fun r s₁ h₁=>?_) fun _ _ h'=>h')))
  cases r with
  | none => exact wpAny_pure h₁
  | some v =>
    refine wpAny_bind (wpAny_mono h₁ (fun _ s₀ h₀=>?_) fun _ _ h'=>h')
    refine wpAny_bind (wpAny_mono h₀ (fun _ s₂ h₂=>wpAny_bind (wpAny_mono h₂ (fun ok s₃ h₃=>?_) fun _ _ h'=>h')) fun _ _ h'=>h')
    cases ok with
    | false=>exact wpAny_pure ⟨rfl,h₃⟩
    | true=>
      exact wpAny_bind (wpAny_bind (wpAny_mono h₃ (fun x s₄ h₄=>wpAny_bind (wpAny_mono h₄ (fun _ s₅ h₅=>wpAny_pure (wpAny_pure ⟨rfl,h₅⟩)) fun _ _ h'=>h')) fun _ _ h'=>h'))
end L2
namespace L2
open PySem PySem.Spec PyProof.Rows
section
variable {X:Cx} {pins:List (Addr×Obj)} {σ:St} {H:Hp} {s:Shared} {scope:Scope} {N:List Str} {fp:List Addr} {C:Addr}
theorem l'z (I:Inv X pins σ H s) (hC:s.heap.objs.size≤C) (hf:∀ b∈fp,FpOk X pins H b) (hfo:∀ b∈fp,∃ o,s.heap.get? b=some o) (hkind:scope.kind=.function) (hcell:∀ y∈scope.names,y.2≠.cell) (hall:clAll scope X.env=true) :
    (cxComp X scope N C s H fp pins).Ok where
  mod:=I.ok.mod
  kind:=hkind
  glob:=I.ok.glob
  blt:=I.ok.blt
  above:=hC
  inj:=fun x y c h1 h2=>I.ok.inj x y c (a'M h1) (a'M h2)
  has:=fun x h=>d'p hall (e'g hcell h)
  cab:=fun x c h=>by cases h
  hd:=I.ok.hd
  frames:=I.ok.frames
  stk:=.inl rfl
  exf:=fun b hb=>⟨fun z=>by obtain⟨o,e⟩:=hfo b hb;have:=Heap.lt_size e;subst z;exact absurd (Nat.lt_of_lt_of_le this hC) (Nat.lt_irrefl _),fun x c e=>(hf b hb).2.2.2.2.1 x c (a'M e)⟩
  bs:=I.bs
  bsz:=Nat.le_trans I.ok.bsz I.sz
  noex:=fun b o e hb=>by
    rcases (hf b hb).2.2.2.1 with z | z
    · exact I.ok.noex b o e z
    · exact absurd (Nat.lt_of_lt_of_le (Heap.lt_size e) (Nat.le_trans I.ok.bsz z)) (Nat.lt_irrefl _)
  exfs:=fun b hb hm=>by
    rcases List.mem_cons.mp (I.stkSub b hm) with z | z
    · exact (hf b hb).2.1 z
    · exact (hf b hb).2.2.1 z
  funs:=I.stack
  frf:=I.stkFree
theorem i'W {h':Heap} {m:Str→Option Value} {t':Nat} {ix:List (Option Nat)} (I:Inv X pins σ H s) (ok:(cxComp X scope N C s H fp pins).Ok) (hC:s.heap.objs.size≤C) (k:∀ b o,s.heap.get? b=some o→h'.get? b=some o) (hn:h'.Ns C m) (hpk:PickOk X scope N ix) (hall:clAll scope X.env=true) :
    Inv (cxComp X scope N C s H fp pins) [] (pickS ix σ) H { s with heap:=h',toks:=t' } where
  ok:=ok
  os:=rfl
  bare:=I.bare
  base:=Un.kept k
  loc:=⟨m,hn,fun i x v e1 e2 e3=>by
    obtain⟨i',hN,hk,hfr,hσ⟩:=hpk.get e1 e2
    obtain⟨m0,_,hl⟩:=I.loc
    obtain⟨u,r,look⟩:=hl i' x v hN hσ (.inr (.inl hk))
    rcases look with ⟨z,_⟩ | ⟨_,c,hc,o,ho,hd⟩
    · rw [hk] at z;cases z
    · obtain⟨c',hc'⟩:=d'p hall hfr
      have e:=a'M hc'
      rw [hc] at e
      cases e
      exact⟨u,r,.inr ⟨d'q hfr,c,hc',o,k _ _ ho,hd⟩⟩⟩
  cell:=fun x c e=>by
    obtain⟨v,o,ho,hd⟩:=I.cell x c (a'M e)
    exact⟨v,o,k _ _ ho,hd⟩
  free:=I.hok.fresh hC
  freeC:=fun x c e=>I.freeC x c (a'M e)
  pin:=fun p hp=>by
    have hp':p∈X.pn++pins:=by simpa [cxComp] using hp
    obtain⟨e,n,ne,nf,d⟩:=I.pin p hp'
    refine⟨k _ _ e,n,fun z=>?_,fun z=>?_,d⟩
    · have:=Heap.lt_size e
      have z':p.1=C:=z
      rw [z'] at this
      exact absurd (Nat.lt_of_lt_of_le this hC) (Nat.lt_irrefl _)
    · rcases List.mem_cons.mp (I.stkSub p.1 z) with q | q
      · exact ne q
      · exact nf q
  hok:=I.hok.kept k
  len:=by
    have:=hpk.length
    simp [pickS,cxComp,this]
theorem g'M {σ':St} {H':Hp} {s':Shared} {D:Addr} {acc:List V} {its:List Value} {pl:List (Addr×Obj)} (I:Inv X pins σ H s) (J:Inv (cxComp X scope N C s H fp pins) pl σ' H' s') (hD:D=s.heap.objs.size) (hf:∀ b∈fp,FpOk X pins H b)
    (hl:s'.heap.PlainList D its.toArray) (hv:Vals acc its) (hz:acc.length≤sizeLine) (hn:H' D=none):Inv X pins σ (upd H' D (.lst acc)) s':=by
  have hDn:∀ b o,s.heap.get? b=some o→b≠D:=fun b o e z=>by rw [z,hD] at e;exact absurd (Heap.lt_size e) (Nat.lt_irrefl _)
  have hHD:H D=none:=I.hok.fresh (by rw [hD];exact Nat.le_refl _)
  refine I.call' (ch:=fp) J.os ⟨J.base.keep,J.base.slot,fun b o e n hx=>?_,J.base.there,fun b xs e=>?_,fun b o u e=>?_,fun b ps e=>?_⟩ (fun b u e=>?_) J.bare fun b hb=>⟨(hf b hb).2.2.2.1,(hf b hb).2.1,(hf b hb).2.2.2.2.1,(hf b hb).2.2.2.2.2⟩
  · rw [a'h (hDn b o e)];exact J.base.free b o e n hx
  · rw [a'h (a'q e hHD)];exact J.base.tups b xs e
  · rw [a'h (a'q e hHD)];exact J.base.frzs b o u e
  · obtain⟨mo,e2⟩:=J.base.tbls b ps e
    exact⟨mo,by rw [a'h (a'q e hHD)];exact e2⟩
  · by_cases hb:b=D
    · subst hb
      rw [a'u] at e
      cases e
      obtain⟨n,g⟩:=hl
      exact⟨hz,its,n,hv,g⟩
    · rw [a'h hb] at e
      exact (J.hok b u e).stay (fun _ _ _ q=>q) (fun c q=>by rw [a'h (a'q q hn)];exact q) fun c xs q=>by rw [a'h (a'q q hn)];exact q
end
def tComp (wi:TI) (g:TG) (ti:TT) (te:TE) (ix:List (Option Nat)):TE:=fun σ H Q=>wi σ H fun J H1=>∃ W:Nat→Nat→List V→Hp→Prop,(∃ m,W 0 m [] H1)∧∀ i m acc H,W i m acc H→
  (J.stop i H∧acc.length≤sizeLine∧∀ p,H p=none→Q (.ref p) (upd H p (.lst acc)))∨
  (J.go i H∧∃ N:List V→Hp→Prop,(∀ acc' H',N acc' H'→∃ m',m'<m∧W (i+1) m' acc' H')∧∀ x H',J.yld i H x H'→g x (pickS ix σ) H' fun σ2 H2=>Wk (pickS ix σ) σ2∧ti σ2 H2 fun b H3=>if b=true then te σ2 H3 fun v H4=>acc.length<sizeLine∧N (acc++[v]) H4 else N acc H3)
section
variable {X:Cx} {elt target iter:Expr} {ifs:List Expr} {scope:Scope} {pos:Pos} {N:List Str} {ix:List (Option Nat)} {wi:TI} {g:TG} {ti:TT} {te:TE}
theorem i'X {pins:List (Addr×Obj)} {σ:St} {H2:Hp} {s2:Shared} {Q:VK} {RR:Value→Addr→Result→Shared→Prop} {E:Value→Shared→Prop} {it:Addr} {fp:List Addr} {tn:Nat→Heap→Prop} {J:It}
    (hc:X.calm=true) (hg:∀ C s H fp pl,PG (cxComp X scope N C s H fp pl) target g) (ht:∀ C s H fp pl,PTs (cxComp X scope N C s H fp pl) ifs ti) (he:∀ C s H fp pl,PE (cxComp X scope N C s H fp pl) elt te)
    (hkind:scope.kind=.function) (hcell:∀ y∈scope.names,y.2≠.cell) (hall:clAll scope X.env=true) (hpk:PickOk X scope N ix)
    (I2:Inv X pins σ H2 s2) (T:Turn X.prog X.w X.K target J fp it tn) (st2:tn 0 s2.heap) (f2:∀ b∈fp,FpOk X pins H2 b)
    (h:∃ W:Nat→Nat→List V→Hp→Prop,(∃ m,W 0 m [] H2)∧∀ i m acc H,W i m acc H→
      (J.stop i H∧acc.length≤sizeLine∧∀ p,H p=none→Q (.ref p) (upd H p (.lst acc)))∨
      (J.go i H∧∃ N:List V→Hp→Prop,(∀ acc' H',N acc' H'→∃ m',m'<m∧W (i+1) m' acc' H')∧∀ x H',J.yld i H x H'→g x (pickS ix σ) H' fun σ2 H2=>Wk (pickS ix σ) σ2∧ti σ2 H2 fun b H3=>if b=true then te σ2 H3 fun v H4=>acc.length<sizeLine∧N (acc++[v]) H4 else N acc H3))
    (hR:∀ (D C:Addr) (s':Shared) (H':Hp) (m:Str→Option Value),Inv X pins σ H' s'→s'.heap.Ns C m→H' C=none→s2.heap.objs.size≤C→Q (.ref D) H'→RR (.ref D) C (.ok .next) s') :
    wpAny (model X.prog X.w) X.A (newList []) (fun acc s₃=>wpAny (model X.prog X.w) X.A (newFunctionEnv scope X.env.globals (clOf scope X.env) [] X.env.qual none .none (some X.env)) (fun cenv s₄=>
      codeAny (model X.prog X.w) X.A (.compStart (.ListComp elt [⟨target,iter,ifs,0⟩] scope pos) 0 (.ref it) acc { cenv with scope:=relabel scope X.env }) (RR acc cenv.locals) s₄) E s₃) E s2:=by
  obtain⟨W,⟨m0,w0⟩,turn⟩:=h
  refine wpAny_newObj_type (wpAny_newFunctionEnv hcell (by intro y hy;simp at hy) (fun h₁ hns₁ hsb₁=>?_) hkind)
  dsimp only at hns₁ hsb₁ ⊢
  generalize hH2:s2.heap.push { cls:=.type "list",dict:=none,data:=.seq ([]:List Value).toArray }=P2 at hns₁ hsb₁ ⊢
  have hC:P2.objs.size=s2.heap.objs.size+1:=by rw [← hH2,Heap.size_push]
  have hDC:s2.heap.objs.size≠P2.objs.size:=by rw [hC];exact Nat.ne_of_lt (Nat.lt_succ_self _)
  have hCle:s2.heap.objs.size≤P2.objs.size:=by rw [hC];exact Nat.le_succ _
  have below:∀ b,b<s2.heap.objs.size→b≠P2.objs.size∧b≠s2.heap.objs.size:=fun b hb=>⟨by rw [hC];exact Nat.ne_of_lt (Nat.lt_succ_of_lt hb),Nat.ne_of_lt hb⟩
  have old:∀ b o,s2.heap.get? b=some o→h₁.get? b=some o:=fun b o e=>hsb₁.extBut b o (below b (Heap.lt_size e)).1 (Heap.get?_push_of_some _ (hH2 ▸ Heap.get?_push_of_some _ e))
  have hacc:h₁.PlainList s2.heap.objs.size #[]:=⟨_,hsb₁.extBut _ _ hDC (Heap.get?_push_of_some _ (hH2 ▸ Heap.get?_push_size _ rfl))⟩
  have hfo:∀ b∈fp,∃ o,s2.heap.get? b=some o:=fun b hb=>let ⟨o,e,_⟩:=T.obj 0 _ st2 b hb;⟨o,e⟩
  have hfD:s2.heap.objs.size ∉ fp:=fun hm=>by obtain⟨o,e⟩:=hfo _ hm;exact absurd (Heap.lt_size e) (Nat.lt_irrefl _)
  have ok:=l'z (N:=N) (C:=P2.objs.size) I2 hCle f2 hfo hkind hcell hall
  have st1:tn 0 h₁:=T.keep 0 _ _ st2 fun b _ o e=>old b o e
  have J0:=i'W (t':=s2.toks+([]:List (Str×Value)).length) (ix:=ix) I2 ok hCle old hns₁ hpk hall
  have pnD:∀ p∈X.pn++pins,p.1≠s2.heap.objs.size:=fun p hp=>(below _ (Heap.lt_size (I2.pin p hp).1)).2
  have cellD:∀ x c,(clOf scope X.env).lookup x=some c→c≠s2.heap.objs.size:=fun x c e=>by
    obtain⟨v,o,ho,_⟩:=I2.cell x c (a'M e)
    exact (below _ (Heap.lt_size ho)).2
  have stat:∀ {pl:List (Addr×Obj)} {H':Hp},(∀ b∈fp,H' b=none)→(∀ p∈pl,p.1=s2.heap.objs.size)→∀ b∈fp,FpOk (cxComp X scope N P2.objs.size s2 H2 fp pins) pl H' b:=fun {pl H'} hn hp b hb=>by
    refine⟨hn b hb,(ok.exf b hb).1,ok.exfs b hb,.inl hb,(ok.exf b hb).2,fun p hm=>?_⟩
    rcases List.mem_append.mp hm with z | z
    · exact (f2 b hb).2.2.2.2.2 p z
    · rw [hp p z];intro q;rw [q] at hfD;exact hfD hb
  have loop:∀ s₃:Shared,s₃={ s2 with heap:=h₁,toks:=s2.toks+([]:List (Str×Value)).length }→
      codeAny (model X.prog X.w) X.A (.compLoop (.ListComp elt [⟨target,iter,ifs,0⟩] scope pos) 0 (.ref it) (.ref s2.heap.objs.size) (compEnvC scope (clOf scope X.env) P2.objs.size X.env)) (RR (.ref s2.heap.objs.size) P2.objs.size) s₃:=by
    rintro s₃ rfl
    refine d'r (fun n s'=>∃ i acc its σ' H',Inv (cxComp X scope N P2.objs.size s2 H2 fp pins) [] σ' H' s'∧Wk (pickS ix σ) σ'∧tn i s'.heap∧(∀ b∈fp,H' b=none)∧s'.heap.PlainList s2.heap.objs.size (List.toArray its)∧Vals acc its∧H' s2.heap.objs.size=none∧W i n acc H') ?_ m0
      ⟨0,[],[],_,H2,J0,c'y _,st1,fun b hb=>(f2 b hb).1,hacc,.nil,I2.hok.fresh (Nat.le_refl _),w0⟩
    rintro n s3 ⟨i,acc,its,σ3,H3,I3,wk3,st3,fr3,pl3,va3,nd3,w3⟩
    obtain⟨kk,g3⟩:=id pl3
    have I3':Inv (cxComp X scope N P2.objs.size s2 H2 fp pins) [(s2.heap.objs.size,⟨.type "list",none,.seq (List.toArray its) kk,#[]⟩)] σ3 H3 s3:=I3.pins_of fun p hp=>by
      have e:=List.mem_singleton.mp hp
      subst e
      refine⟨g3,nd3,hDC,fun z=>?_,fun v q=>by cases q⟩
      obtain⟨_,o,ho,_⟩:=(I2.stack).mem z
      exact absurd (Heap.lt_size ho) (Nat.lt_irrefl _)
    have onlyD:∀ p∈[((s2.heap.objs.size,⟨.type "list",none,.seq (List.toArray its) kk,#[]⟩):Addr×Obj)],p.1=s2.heap.objs.size:=fun p hp=>by
      rw [List.mem_singleton.mp hp]
    rcases turn i n acc H3 w3 with ⟨stop,hlen,fin⟩ | ⟨go,NN,hNN,step⟩
    · refine wpAny_mono (T.done (cxComp X scope N P2.objs.size s2 H2 fp pins) rfl rfl rfl hc i _ s3 σ3 H3 _ I3' (stat fr3 onlyD) st3 stop) (fun r s4 h4=>?_) fun _ _ z=>z
      obtain⟨hr,I4⟩:=h4
      subst hr
      have g4:=(I4.pin (s2.heap.objs.size,_) (List.mem_append_right _ (List.mem_singleton.mpr rfl))).1
      obtain⟨mm,hnm,_⟩:=I4.loc
      have B:=g'M I2 I4 rfl f2 ⟨kk,g4⟩ va3 hlen nd3
      refine hR _ _ s4 _ mm B hnm ?_ hCle (fin _ nd3)
      rw [a'h (Ne.symm hDC)]
      exact I4.free
    · refine wpAny_mono (T.item (cxComp X scope N P2.objs.size s2 H2 fp pins) rfl rfl rfl hc i _ s3 σ3 H3 _ I3' (stat fr3 onlyD) st3 go) (fun r s4 h4=>?_) fun _ _ z=>z
      obtain⟨u,hr,h4⟩:=h4
      subst hr
      refine wpAny_mono h4 (fun _ s5 h5=>?_) fun _ _ z=>z
      obtain⟨x,H5,I5,r5,y5,st5,fr5⟩:=h5
      have I5w:=I5.weak wk3.length.symm (fun i v e=>wk3.get e)
      have I5':=I5w.pinned (fp:=fp) (stat fr5 onlyD) (T.obj _ _ st5)
      refine wpAny_mono (hg P2.objs.size s2 H2 fp pins _ s5 _ H5 x u _ I5' r5 (step x H5 y5)) (fun _ s6 h6=>?_) fun _ _ z=>z.elim
      obtain⟨σ6,H6,I6,wk6,q6⟩:=h6
      refine wpAny_mono (ht P2.objs.size s2 H2 fp pins _ s6 σ6 H6 _ I6 q6) (fun ok s7 h7=>?_) fun _ _ z=>z.elim
      obtain⟨H7,I7,q7⟩:=h7
      have keepT:∀ {σ8:St} {H8:Hp} {s8:Shared},Inv (cxComp X scope N P2.objs.size s2 H2 fp pins) ([((s2.heap.objs.size,⟨.type "list",none,.seq (List.toArray its) kk,#[]⟩):Addr×Obj)]++pinsAt fp s5.heap) σ8 H8 s8→
          (∀ b∈fp,∀ o,s5.heap.get? b=some o→s8.heap.get? b=some o)∧(∀ b∈fp,H8 b=none):=fun {σ8 H8 s8} I8=>by
        refine⟨fun b hb o e=>(I8.pin (b,o) (List.mem_append_right _ (List.mem_append_right _ (b'd hb e)))).1,fun b hb=>?_⟩
        obtain⟨o,e,d⟩:=T.obj _ _ st5 b hb
        exact (I8.pin (b,o) (List.mem_append_right _ (List.mem_append_right _ (b'd hb e)))).2.1
      have unpin:∀ {σ8:St} {H8:Hp} {s8:Shared} {pl:List (Addr×Obj)},Inv (cxComp X scope N P2.objs.size s2 H2 fp pins) pl σ8 H8 s8→Inv (cxComp X scope N P2.objs.size s2 H2 fp pins) [] σ8 H8 s8:=fun I8=>I8.pins_of fun p hp=>by cases hp
      cases ok with
      | false=>
        simp only [Bool.false_eq_true,if_false] at q7 ⊢
        obtain⟨m',hm,w7⟩:=hNN _ _ q7
        have p7:=I7.pin (s2.heap.objs.size,_) (List.mem_append_right _ (List.mem_append_left _ (List.mem_singleton.mpr rfl)))
        obtain⟨k1,k2⟩:=keepT I7
        exact⟨m',hm,i+1,acc,its,σ6,H7,unpin I7,wk6,T.keep _ _ _ st5 k1,k2,⟨kk,p7.1⟩,va3,p7.2.1,w7⟩
      | true=>
        simp only [if_true] at q7 ⊢
        refine wpAny_mono (he P2.objs.size s2 H2 fp pins _ s7 σ6 H7 _ I7 q7) (fun y s8 h8=>?_) fun _ _ z=>z.elim
        obtain⟨v,H8,I8,r8,hlt,q8⟩:=h8
        obtain⟨m',hm,w8⟩:=hNN _ _ q8
        have p8:=I8.pin (s2.heap.objs.size,_) (List.mem_append_right _ (List.mem_append_left _ (List.mem_singleton.mpr rfl)))
        obtain⟨k1,k2⟩:=keepT I8
        have hl:=va3.length
        refine wpAny_list_append_plain (items:=List.toArray its) (hsz:=by rw [List.size_toArray,← hl];exact Nat.le_of_lt hlt) ⟨kk,p8.1⟩ fun h₅ hl₅ hs₅=>?_
        have I9:Inv (cxComp X scope N P2.objs.size s2 H2 fp pins) [] σ6 H8 { s8 with heap:=h₅ }:=(unpin I8).turned (t':=s8.toks) (it:=s2.heap.objs.size) (fun b o hb e=>hs₅.extBut b o hb e) p8.2.1 hDC (.inr (Nat.le_refl _)) cellD (fun p hp=>by
          have hp':p∈X.pn++pins:=by simpa [cxComp] using hp
          exact pnD p hp')
        refine⟨m',hm,i+1,acc++[v],its++[y],σ6,H8,I9,wk6,T.keep _ _ _ st5 fun b hb o e=>hs₅.extBut b o (fun z=>hfD (z ▸ hb)) (k1 b hb o e),k2,?_,va3.append (.cons r8 .nil),p8.2.1,w8⟩
        have e:(its++[y]).toArray=its.toArray.push y:=by simp
        rw [e]
        exact hl₅
  exact codeAny_compStart_list (loop _ rfl) (T.self X.A 0 _ _ _ st1 (loop _ rfl))
theorem l'A (hc:X.calm=true) (hi:PI X target iter wi) (hg:∀ C s H fp pl,PG (cxComp X scope N C s H fp pl) target g) (ht:∀ C s H fp pl,PTs (cxComp X scope N C s H fp pl) ifs ti) (he:∀ C s H fp pl,PE (cxComp X scope N C s H fp pl) elt te)
    (hpk:PickOk X scope N ix) (hkind:scope.kind=.function:=by rfl) (hcell:∀ y∈scope.names,y.2≠.cell:=by decide) (hnames:∀ x∈scope.names,x.2=.local→scope.names.lookup x.1=some .local:=by decide) (hall:clAll scope X.env=true:=by rfl)
    (hs:∀ x,foldedSetIterable iter X.env x=pure x:=by intro _;rfl):PE X (.ListComp elt [⟨target,iter,ifs,0⟩] scope pos) (tComp wi g ti te ix):=by
  intro pins s σ H Q I h
  rw [eval_ListComp]
  refine wpAny_comprehension_free (use:=none) rfl hs (c'n hall) hkind hnames ?_
  refine thn (hi pins s σ H _ I h) fun v s1 h1=>thn h1 fun itv s2 h2=>?_
  obtain⟨it,fp,tn,J,H2,e,I2,T,st2,f2,h⟩:=h2
  subst e
  refine i'X (RR:=fun acc C=>compPost (model X.prog X.w) X.A X.xe none (EP X pins σ Q) acc C) hc hg ht he hkind hcell hall hpk I2 T st2 f2 h ?_
  intro D C s' H' m B hn hHC hle q
  refine⟨m,hn,fun h' hs'=>⟨.ref D,H',B.turned (t':=s'.toks) (it:=C) (fun b o hb e=>hs'.extBut b o hb e) hHC (Nat.ne_of_gt (Nat.lt_of_lt_of_le I2.lt hle)) (.inr (Nat.le_trans I2.sz hle)) (fun x c e=>?_) (fun p hp=>?_),rfl,q⟩⟩
  · obtain⟨v,o,ho,_⟩:=I2.cell x c e
    exact Nat.ne_of_lt (Nat.lt_of_lt_of_le (Heap.lt_size ho) hle)
  · exact Nat.ne_of_lt (Nat.lt_of_lt_of_le (Heap.lt_size (I2.pin p hp).1) hle)
end
section
variable {g:TG} {ti:TT} {te:TE} {ix:List (Option Nat)} {σ:St} {Q:VK}
def CompW (J:It) (g:TG) (ti:TT) (te:TE) (ix:List (Option Nat)) (σ:St) (Q:VK) (H1:Hp):Prop:=∃ W:Nat→Nat→List V→Hp→Prop,(∃ m,W 0 m [] H1)∧∀ i m acc H,W i m acc H→
  (J.stop i H∧acc.length≤sizeLine∧∀ p,H p=none→Q (.ref p) (upd H p (.lst acc)))∨
  (J.go i H∧∃ N:List V→Hp→Prop,(∀ acc' H',N acc' H'→∃ m',m'<m∧W (i+1) m' acc' H')∧∀ x H',J.yld i H x H'→g x (pickS ix σ) H' fun σ2 H2=>Wk (pickS ix σ) σ2∧ti σ2 H2 fun b H3=>if b=true then te σ2 H3 fun v H4=>acc.length<sizeLine∧N (acc++[v]) H4 else N acc H3)
theorem o'X {J:It} {n:Nat} {H1:Hp} (Pv:Nat→List V→Hp→Prop) (h0:Pv 0 [] H1) (hgo:∀ i acc H,i<n→Pv i acc H→J.go i H) (hst:∀ acc H,Pv n acc H→J.stop n H)
    (hs:∀ i x acc H H',i<n→Pv i acc H→J.yld i H x H'→g x (pickS ix σ) H' fun σ2 H2=>Wk (pickS ix σ) σ2∧ti σ2 H2 fun b H3=>if b=true then te σ2 H3 fun v H4=>acc.length<sizeLine∧Pv (i+1) (acc++[v]) H4 else Pv (i+1) acc H3)
    (hd:∀ acc H,Pv n acc H→acc.length≤sizeLine∧∀ p,H p=none→Q (.ref p) (upd H p (.lst acc))):CompW J g ti te ix σ Q H1:=by
  refine⟨fun i m acc H=>m=n - i∧i≤n∧Pv i acc H,⟨n,by simp,Nat.zero_le _,h0⟩,?_⟩
  rintro i m acc H ⟨rfl,hi,p⟩
  by_cases hlt:i<n
  · exact .inr ⟨hgo i acc H hlt p,Pv (i+1),fun acc' H' p'=>⟨n - (i+1),by omega,rfl,hlt,p'⟩,fun x H' y=>hs i x acc H H' hlt p y⟩
  · have e:i=n:=by omega
    subst e
    exact .inl ⟨hst acc H p,hd acc H p⟩
end
end L2
namespace L2
open PySem PySem.Spec PyProof.Rows
section
variable {X:Cx}
def rSlS:V→Option Int→Option Int→Hp→VK→Prop:=fun x lo hi H Q=>∃ z,x=.str z∧z.length≤sizeLine∧Q (.str (Txt.slice z lo hi)) H
theorem n'r:SlR X rSlS:=by
  intro pins s σ H x v vl vu lo hi sl Q I rx hs pl pu h
  obtain⟨z,rfl,hz,q⟩:=h
  obtain⟨t,rfl⟩:=(show ∃ t,v=Value.str z t from rx)
  refine⟨"str",_,F.slot_str_getitem.lookup,typeIs_str _ _ _,?_⟩
  have fin:∀ (tk:Tok) (k:Nat),EP X pins σ Q (.str (Txt.slice z lo hi) tk) { s with toks:=k }:=fun tk k=>⟨.str _,H,I.tok k,⟨tk,rfl⟩,q⟩
  cases pl with
  | none =>
    cases pu with
    | none=>exact wpAny_getItem_str_slice (l:=none) (u:=none) (st:=none) hs rfl (post_val_or_str ⟨Nat.le_trans (Txt.slice_le z _ _) hz,fun t' k=>fin t' k⟩)
    | int j tj=>exact wpAny_getItem_str_slice (l:=none) (u:=some (j,tj)) (st:=none) hs rfl (post_val_or_str ⟨Nat.le_trans (Txt.slice_le z _ _) hz,fun t' k=>fin t' k⟩)
  | int i ti =>
    cases pu with
    | none=>exact wpAny_getItem_str_slice (l:=some (i,ti)) (u:=none) (st:=none) hs rfl (post_val_or_str ⟨Nat.le_trans (Txt.slice_le z _ _) hz,fun t' k=>fin t' k⟩)
    | int j tj=>exact wpAny_getItem_str_slice (l:=some (i,ti)) (u:=some (j,tj)) (st:=none) hs rfl (post_val_or_str ⟨Nat.le_trans (Txt.slice_le z _ _) hz,fun t' k=>fin t' k⟩)
end
section
variable {X:Cx} {tg:Expr}
end
section
variable {σ:St} {H:Hp} {R:It→Hp→Prop} {K:PySem.W.Frag}
end
end L2
namespace L2
open PySem PySem.Spec PyProof.Rows
def Fly (h0 h:Heap) (H:Hp) (x:Addr) (cls:Value):Prop:=
  h0.get? x=none∧H x=none∧∃ a0 oe vs T oT ts,h0.get? T=none∧H T=none∧h.get? x=some oe∧oe.cls=cls∧vs[0]?=some a0∧oe.data=.fields vs∧vs[1]?=some (.ref T)∧T≠x∧h.get? T=some oT∧oT.data=.fields ts∧ts[3]?=some .none
def CX1 (P:Program) (w:World):CXT:=fun outer H s E e s'=>∃ x cls H',e=.ref x∧s'.os=s.os∧AllBare s'.gens∧Un (frs outer) [] H H' s.heap s'.heap∧HOk P w H' s'.heap∧Fly s.heap s'.heap H' x cls∧E cls none H'
theorem ObjOk.has {P:Program} {w:World} {H:Hp} {h:Heap} {a:Addr} {o:HO} (x:ObjOk P w H h a o):∃ u,h.get? a=some u:=by
  cases o with
  | lst xs => obtain ⟨_, _, _, _, e⟩ := x; exact ⟨_, e⟩
  | tup xs => obtain ⟨_, _, _, u, e, _⟩ := x; exact ⟨_, e⟩
  | dK kvs => obtain ⟨_, _, _, _, u, _, _, e, _⟩ := x; exact ⟨_, e⟩
  | dT kvs => obtain ⟨_, _, _, _, u, _, _, e, _⟩ := x; exact ⟨_, e⟩
  | set S n => obtain ⟨u, _, _, _, e, _⟩ := x; exact ⟨_, e⟩
  | ins C dx fs => obtain ⟨_, _, _, e, _⟩ := x; exact ⟨_, e⟩
  | own y => exact x
  | xd fs => obtain ⟨_, ⟨u, _, _, e, _⟩, _⟩ := x; exact ⟨_, e⟩
  | rng lo hi => obtain ⟨_, _, _, e⟩ := x; exact ⟨_, e⟩
  | frz ob u => obtain ⟨e, _⟩ := x; exact ⟨_, e⟩
  | tbl ps => exact ⟨_, x⟩
  | met f y => exact ⟨_, x⟩
  | ext φ => exact x.2.1
theorem g'N {P:Program} {w:World} {fs fr l bad:List Addr} {H H':Hp} {h h1 h2:Heap} (u:Un fs [] H H' h h1) (hok:HOk P w H' h1) (hl:∀ b∈l,b∈bad∨b∈fr) (hb:∀ b∈bad,h.get? b=none∧H' b=none)
    (hfr:∀ b∈fr,(b∈fs∨h.get? b=none)∧H' b=none∧∃ o,h1.get? b=some o∧∀ vs,o.data≠.fields vs) (hfs:∀ b∈fs,b∈fr) (k:(PySem.W.hideAll h1 l).StaysIn h2) (sm:h1.UpToSlots h2) :
    Un fs [] H H' h h2∧HOk P w H' h2∧∀ x cls a0,h2.TracedW (PySem.W.hideAll h1 l) x cls a0→h.get? x=none→H' x=none→Fly h h2 H' x cls:=by
  have gt:∀ b o,h1.get? b=some o→b ∉ bad→b ∉ fr→h2.get? b=some o:=fun b o e n1 n2=>k b o (PySem.W.hideAll_get _ e fun z=>(hl b z).elim n1 n2)
  have nb:∀ b o,h.get? b=some o→b ∉ bad:=fun b o e z=>by rw [(hb b z).1] at e;cases e
  have slots:∀ b o,b∈fr→h1.get? b=some o→∃ sl,h2.get? b=some { o with slots:=sl }:=fun b o hf e=>by
    obtain⟨_,_,o',e',d⟩:=hfr b hf
    rw [e] at e'
    cases e'
    exact sm b o e d
  have tr:∀ b u,H' b=some u→b ∉ bad∧b ∉ fr:=fun b u e=>⟨fun z=>(by rw [(hb b z).2] at e;cases e),fun z=>(by rw [(hfr b z).2.1] at e;cases e)⟩
  refine⟨⟨fun b o e n hf hx=>?_,fun b o e n hf hx=>?_,fun b o e n hx=>u.free b o e n hx,fun b o e hx=>?_,u.tups,u.frzs,u.tbls⟩,fun b v e=>?_,fun x cls a0 ht hx hHx=>?_⟩
  · refine gt b o (u.keep b o e n hf hx) (nb b o e) fun z=>?_
    rcases (hfr b z).1 with q | q
    · exact hf q
    · rw [e] at q;cases q
  · obtain⟨sl,e1⟩:=u.slot b o e n hf hx
    obtain⟨sl',e2⟩:=slots b _ (hfs b hf) e1
    exact⟨sl',e2⟩
  · obtain⟨o',e1⟩:=u.there b o e hx
    by_cases hf:b∈fr
    · obtain⟨sl,e2⟩:=slots b o' hf e1
      exact⟨_,e2⟩
    · exact⟨o',gt b o' e1 (nb b o e) hf⟩
  · refine (hok b v e).stay (fun c o hc q=>?_) (fun _ q=>q) fun _ _ q=>q
    rcases hc with rfl | hc
    · exact gt c o q (tr c v e).1 (tr c v e).2
    · exact gt c o q (tr c _ hc).1 (tr c _ hc).2
  · obtain⟨oe,vs,T,oT,ts,t1,⟨t2,t3⟩,t4,t5,t6,t7,t8,t9,t10⟩:=ht
    have hT:h.get? T=none∧H' T=none:=by
      cases q:h1.get? T with
      | none=>
        refine⟨?_,?_⟩
        · cases r:h.get? T with
          | none=>rfl
          | some o=>obtain⟨o',e'⟩:=u.there T o r (by simp);rw [q] at e';cases e'
        · cases r:H' T with
          | none=>rfl
          | some v=>obtain⟨o',e'⟩:=(hok T v r).has;rw [q] at e';cases e'
      | some o=>
        by_cases hm:T∈l
        · rcases hl T hm with z | z
          · exact hb T z
          · obtain⟨sl,e2⟩:=slots T o z q
            obtain⟨_,_,o',e',d⟩:=hfr T z
            rw [q] at e'
            cases e'
            rw [t8] at e2
            cases e2
            exact absurd t9 (d ts)
        · have:=PySem.W.hideAll_get _ q hm
          rw [t6] at this;cases this
    exact⟨hx,hHx,a0,oe,vs,T,oT,ts,hT.1,hT.2,t1,t2,t3,t4,t5,t7,t8,t9,t10⟩
theorem Fly.traced {h0 h:Heap} {H:Hp} {x:Addr} {cls:Value} (f:Fly h0 h H x cls):∃ T a0,h0.get? T=none∧H T=none∧∀ l:List Addr,T∈l→h.TracedW (PySem.W.hideAll h l) x cls a0:=by
  obtain⟨_,_,a0,oe,vs,T,oT,ts,t1,t2,t3,t4,t5,t6,t7,t8,t9,t10,t11⟩:=f
  exact⟨T,a0,t1,t2,fun l hl=>⟨oe,vs,T,oT,ts,t3,⟨t4,t5⟩,t6,t7,PySem.W.hideAll_none _ hl,t8,t9,t10,t11⟩⟩
section
variable {X:Cx} {pins:List (Addr×Obj)} {σ:St} {H:Hp} {s:Shared}
theorem e'v {l:List Env}:∀ env∈l,∀ a,env.frame=some a→a∈frs l:=fun env he a hf=>List.mem_filterMap.mpr ⟨env,he,hf⟩
theorem Inv.frm (I:Inv X pins σ H s):∀ b∈frs X.stack,(b∈X.fs∨X.s₀.heap.get? b=none)∧H b=none∧∃ o,s.heap.get? b=some o∧∀ vs,o.data≠.fields vs:=fun b hb=>by
  refine⟨?_,I.stkFree b hb,(I.stack.mem hb).2⟩
  rcases List.mem_cons.mp (I.stkSub b hb) with e | e
  · exact .inr (by rw [e];exact Heap.get?_none_of_le I.ok.above)
  · exact .inl e
theorem n's {E:XK} {x:Addr} {cls:Value} (hs:X.stack=X.env :: X.outer) (hf:X.env.frame=some X.env.locals) (hex:X.ex=[]) (I:Inv X pins σ H s) {l bad:List Addr} {h1:Heap}
    (hl:∀ b∈l,b∈bad∨b∈frs X.stack) (hb:∀ b∈bad,X.s₀.heap.get? b=none∧H b=none) (k:(PySem.W.hideAll s.heap l).StaysIn h1) (sm:s.heap.UpToSlots h1) {a0:Value} (ht:h1.TracedW (PySem.W.hideAll s.heap l) x cls a0)
    (hx:X.s₀.heap.get? x=none) (hHx:H x=none) (e:E cls none H):CX1 X.prog X.w X.outer X.H₀ X.s₀ E (.ref x) { s with heap:=h1 }:=by
  have ub:=I.base
  rw [hex] at ub
  obtain⟨u,ok,fl⟩:=g'N ub I.hok hl hb I.frm (fun b hb=>by rw [hs];unfold frs;rw [List.filterMap_cons,hf];exact List.mem_cons_of_mem _ hb) k sm
  exact⟨x,cls,H,rfl,I.os,I.bare,u,ok,fl x cls a0 ht hx hHx,e⟩
def Xe1 (X:Cx) (E:XK):Prop:=X.xe=fun e s'=>wpAny (model X.prog X.w) X.A (leaving X.env e) (fun _ s''=>CX1 X.prog X.w X.outer X.H₀ X.s₀ E e s'') (fun e' s''=>CX1 X.prog X.w X.outer X.H₀ X.s₀ E e' s'') s'
end
theorem l'B {K:PySem.W.Frag} {h:Heap} {C:Addr} {bmB:List Value} {newId:String} (X:K.In h) (q:PySem.W.excIn K C bmB newId=true) :
    ∃ bm N nm qn bs hd sn sub ab col dd k0 k1 k2 k3 k5 mN,h.get? C=some (excClassObj nm qn C N bs bm hd sn sub ab col dd k0 k1 k2 k3 k5 newId)∧h.Ns N mN∧mN "__init__"=none∧OwnTail h bmB bm:=by
  unfold PySem.W.excIn at q
  split at q
  case h_2=>cases q
  case h_1 ddc cdc slc hlook=>
    split at q
    case h_2=>cases q
    case h_1 Cc bmc k0 k1 k2 k3 nn k5 hmro hslots=>
      simp only [Bool.and_eq_true,beq_iff_eq,Bool.not_eq_true'] at q
      obtain⟨⟨⟨⟨⟨e1,e2⟩,e3⟩,e4⟩,e5⟩,e6⟩:=q
      obtain⟨nm,bs,mro,ns,qn,hd,sn,sub,ab,col,del⟩:=cdc
      dsimp only at hmro e3 e5 e6
      obtain⟨ll⟩:=slc
      simp only at hslots
      subst e1 e2 e3 hmro hslots
      exact⟨_,_,_,_,_,_,_,_,_,_,_,_,_,_,_,_,_,X _ _ hlook,.of_isNs (PySem.W.isNs_of_in X e5),PySem.W.nsMap_none_of_in X e5 e6,PySem.W.tail_of_in X e4⟩
def tRaise (C:Addr) (E:XK) (te:TE):TS:=fun _ σ H=>te σ H fun _ H'=>E (.ref C) none H'
section
variable {X:Cx}
theorem i'Y {E:XK} {x:Str} {np cpos pos:Pos} {e₀:Expr} {te:TE} {C:Addr} {B newId initId:String} {bmB:List Value} (hs:X.stack=X.env :: X.outer) (hf:X.env.frame=some X.env.locals) (hex:X.ex=[]) (hxe:Xe1 X E)
    (hcalm:X.calm=true) (hg:Gl X x) (hm:X.mg x=some (.ref C)) (FB:ExcBaseFacts B newId initId bmB) (hq:PySem.W.excIn X.K C bmB newId=true) (he:PE X e₀ te) (hdb:(x == ("__debug__":Str))=false:=by decide)
    (hst:starEach [e₀] X.env=(false,eval e₀ X.env) :: starEach [] X.env:=by rfl) (hpl:(backTo cpos (starEach [] X.env)).any (·.1)=false:=by rfl) :
    PS X (.Raise (some (.Call (.Name x np) [e₀] [] cpos)) none pos) (tRaise C E te):=by
  intro pins s σ H D I h
  obtain⟨bm,N,nm,qn,bs,hd,sn,sub,ab,col,dd,k0,k1,k2,k3,k5,mN,hC,hN,hni,T⟩:=l'B I.ok.mod.kin hq
  refine wpAny_Raise_call_subT (C:=C) (nm:=nm) (q:=qn) (N:=N) (bs:=bs) (bm:=bm) (hdct:=hd) (sn:=sn) (sub:=sub) (ab:=ab) (col:=col) (dd:=dd) (k0:=k0) (k1:=k1) (k2:=k2) (k3:=k3) (k5:=k5)
    FB (mN:=mN) (T.hasType FB.hasBase) (I.ok.hd hcalm) (by rw [hst];show (false || (backTo cpos (starEach [] X.env)).any (·.1))=false;rw [hpl];rfl) hni (b'A I hg hm ⟨rfl,?_⟩ hdb)
  rw [hst]
  refine Calls.evalArgs_plain ?_
  refine Calls.spliced_cons ?_
  refine thn (he pins s σ H _ I h) fun u s1 ⟨v,H1,I1,_,q1⟩=>?_
  refine Calls.spliced_nil ?_
  refine⟨rfl,by show (1:Nat)≤sizeLine;decide,I1.bk _ _ hC,hN.keeps I1.bk,T.keeps I1.bk,fun h' e hmade=>?_⟩
  obtain⟨t,ht,ht0,htt⟩:=hmade.there
  have J:Inv X pins σ H1 { s1 with heap:=h' }:=I1.call' (ch:=[]) rfl (Un.kept hmade.keeps) (I1.hok.kept hmade.keeps) I1.bare (fun b z=>absurd z (by simp))
  have up:∀ b,s1.heap.get? b=none→X.s₀.heap.get? b=none:=fun b z=>by
    cases q:X.s₀.heap.get? b with
    | none=>rfl
    | some o=>obtain⟨o',e'⟩:=I1.base.there b o q (by rw [hex];simp);rw [z] at e';cases e'
  have hHe:H1 e=none:=by
    cases r:H1 e with
    | none=>rfl
    | some v=>obtain⟨o',e'⟩:=(I1.hok e v r).has;rw [hmade.new] at e';cases e'
  rw [hxe]
  have hin:∀ env∈X.env :: X.outer,∀ a,env.frame=some a→a∈e :: frs X.stack:=fun env he a hf=>.tail _ (by rw [hs];exact e'v env he a hf)
  refine wpAny_leaving_firstW (base:=PySem.W.hideAll h' (e :: frs X.stack)) (a0:=.ref t) (by rw [J.ok.frames,hs]) (PySem.W.funFrames_hide (hs ▸ J.stack) hin) hf ht (fun b o q=>PySem.W.of_hideAll _ q)
    (PySem.W.hideAll_none _ (.head _)) rfl rfl rfl fun h2 hL=>?_
  obtain⟨l1,_,l3,l4⟩:=hL
  exact n's hs hf hex J (bad:=[e]) (fun b hb=>by
    rcases List.mem_cons.mp hb with z | hb
    · exact .inl (by rw [z];exact .head _)
    · exact .inr hb) (fun b hb=>by
    have z:b=e:=by simpa using hb
    rw [z];exact⟨up _ hmade.new,hHe⟩) l1 l4 l3 (up _ hmade.new) hHe q1
end
end L2
namespace L2
open PySem PySem.Spec PyProof.Rows
section
variable {P:Program} {w:World} {K:PySem.W.Frag} {mg:Str→Option Value} {base:Heap}
theorem Fun.ok1 {x qual:Str} {st:Stmt} {f:Addr} {fd:FuncData} {N ps:List Str} {k:Nat} {sp:Sp} (F:Fun K x qual st f fd) (S:FnScope N ps (defScope st)) (len:∀ vs H Q E,sp vs H Q E→vs.length=ps.length)
    (hbody:∀ (cdv:Value) (A:Around) (outer:List Env) (s:Shared) (H:Hp) (vs:List V) (Q:VK) (E:XK),Room k (A.deeper (envOfC qual (defScope st) s.heap.objs.size f cdv))→sp vs H Q E→
      ∃ t,PSs (cxOf (CX1 P w) P w K mg base N qual (defScope st) f cdv A outer s H E) (defBody st) t∧t { nx:=fun _ H'=>Q .non H',rt:=Q } (start N vs) H):FnOk P w K mg base (CX1 P w) (k+1) f fd ps sp:=by
  obtain⟨oc,od,kV,doc,pm,an,cdv,ct,osl,rfl,lk,hcd⟩:=F.ex
  exact j'G lk hcd S len fun A outer s H vs Q E hr hsp=>hbody cdv A outer s H vs Q E hr hsp
end
section
variable {X:Cx}
def PassAt (CX:CXT) (X:Cx) (σ:St) (E:XK):Prop:=∀ (pins:List (Addr×Obj)) (H:Hp) (s:Shared) (e:Value) (s':Shared),Inv X pins σ H s→CX X.stack H s E e s'→X.xe e s'
def tCallX (sp:Sp) (dvs:List V) (R:St→XK) (t:TA):TE:=fun σ H Q=>t σ H fun vs H1=>sp (vs++dvs) H1 Q (R σ)
variable {CX:CXT} {k:Nat} {f:Addr} {fd:FuncData} {ps:List Str} {sp:Sp} {dvs:List V} {ds:List Value} {x:Str} {p pos:Pos} {e:Expr} {es:List Expr} {t:TA}
theorem l'C {E:XK} {pins:List (Addr×Obj)} {σ:St} {H:Hp} {s:Shared} {Q:VK} {us:List Value} {vs:List V} (F:FnOk X.prog X.w X.K X.mg X.base CX k f fd ps sp) (hr:Room k X.A) (hb:Binds X.K fd ps ds) (hd:Vals dvs ds)
    (hx:PassAt CX X σ E) (I:Inv X pins σ H s) (r:Vals vs us) (h:sp (vs++dvs) H Q E):wpAny (model X.prog X.w) X.A (call (.ref f) us) (EP X pins σ Q) X.xe s:=by
  have r2:=r.append hd
  have hl:(us++ds).length=ps.length:=r2.length ▸ F.len _ _ _ _ h
  refine wpAny_call (codeAny_mono (F.run X.A X.stack s H ⟨us,[]⟩ (us++ds) (vs++dvs) Q E hr I.env0 (hb s us I.kIn hl) r2 h) fun r s' hq=>?_)
  match r,hq with
  | .error e, hq => exact hx pins H s e s' I hq
  | .ok (.ret u), hq => exact I.after hq
  | .ok .next, hq => exact hq.elim
  | .ok .brk, hq => exact hq.elim
  | .ok .cont, hq => exact hq.elim
theorem i'Z {R:St→XK} (F:FnOk X.prog X.w X.K X.mg X.base CX k f fd ps sp) (hr:Room k X.A) (hg:Gl X x) (hm:X.mg x=some (.ref f)) (hk:PySem.W.keepIn X.K (.ref f)=true) (hb:Binds X.K fd ps ds) (hd:Vals dvs ds)
    (hx:∀ σ,PassAt CX X σ (R σ)) (ha:PA X (e :: es) t) (hdb:(x == ("__debug__":Str))=false:=by decide) (he:starEach (e :: es) X.env=(false,eval e X.env) :: starEach es X.env:=by rfl)
    (hpl:(backTo pos (starEach es X.env)).any (·.1)=false:=by rfl):PE X (.Call (.Name x p) (e :: es) [] pos) (tCallX sp dvs R t):=by
  intro pins s σ H Q I h
  refine wpAny_Call_Name_kw (b'A I hg hm ?_ hdb)
  exact PySem.W.callWith_K (h₀:=X.base) I.ok.mod.kin hk (thn (ha pos pins s σ H _ I h) fun us s1 ⟨vs,H1,I1,r,q⟩=>⟨I1.kIn,l'C F hr hb hd (hx σ) I1 r q⟩) he hpl
abbrev Cx.kept2 (X:Cx) (pn:List (Addr×Obj)) (xe:Value→Shared→Prop):Cx:={ X with pn:=pn,xe:=xe }
theorem Cx.Ok.kept2 (ok:X.Ok) (pn:List (Addr×Obj)) (xe:Value→Shared→Prop):(X.kept2 pn xe).Ok:=
  ⟨ok.mod,ok.kind,ok.glob,ok.blt,ok.above,ok.inj,ok.has,ok.cab,ok.hd,ok.frames,ok.stk,ok.exf,ok.bs,ok.bsz,ok.noex,ok.exfs,ok.funs,ok.frf⟩
theorem Inv.keep2 {pins:List (Addr×Obj)} {σ:St} {H:Hp} {s:Shared} (I:Inv X pins σ H s) (xe:Value→Shared→Prop):Inv (X.kept2 (X.pn++pins) xe) [] σ H s:=
  ⟨I.ok.kept2 _ xe,I.os,I.bare,I.base,I.loc,I.cell,I.free,I.freeC,by rw [List.append_nil];exact I.pin,I.hok,I.len⟩
theorem Inv.unkeep2 {pins more:List (Addr×Obj)} {xe:Value→Shared→Prop} {σ:St} {H:Hp} {s:Shared} (ok:X.Ok) (I:Inv (X.kept2 (X.pn++pins) xe) more σ H s):Inv X pins σ H s:=
  ⟨ok,I.os,I.bare,I.base,I.loc,I.cell,I.free,I.freeC,fun p hp=>I.pin p (List.mem_append_left _ hp),I.hok,I.len⟩
abbrev Cx.inHandler (X:Cx) (v:Value):Cx:={ X with A:=X.A.mark (some v),calm:=false,xe:=fun _ _=>False }
theorem Inv.inHandler {pins:List (Addr×Obj)} {σ:St} {H:Hp} {s:Shared} (I:Inv X pins σ H s) (v:Value):Inv (X.inHandler v) pins σ H s:=
  ⟨⟨I.ok.mod,I.ok.kind,I.ok.glob,I.ok.blt,I.ok.above,I.ok.inj,I.ok.has,I.ok.cab,fun z=>Bool.noConfusion z,I.ok.frames,I.ok.stk,I.ok.exf,I.ok.bs,I.ok.bsz,I.ok.noex,I.ok.exfs,I.ok.funs,I.ok.frf⟩,
    I.os,I.bare,I.base,I.loc,I.cell,I.free,I.freeC,I.pin,I.hok,I.len⟩
theorem Inv.outHandler {pins:List (Addr×Obj)} {σ:St} {H:Hp} {s:Shared} {v:Value} (ok:X.Ok) (I:Inv (X.inHandler v) pins σ H s):Inv X pins σ H s:=
  ⟨ok,I.os,I.bare,I.base,I.loc,I.cell,I.free,I.freeC,I.pin,I.hok,I.len⟩
theorem SP.imp {Y:Cx} {pins pins':List (Addr×Obj)} {D:Ends} {fl:Flow} {s:Shared} (q:SP Y pins' D fl s) (h:∀ σ H,Inv Y pins' σ H s→Inv X pins σ H s):SP X pins D fl s:=by
  cases fl with
  | next => obtain ⟨σ', H', I, q⟩ := q; exact ⟨σ', H', h _ _ I, q⟩
  | brk => obtain ⟨σ', H', I, q⟩ := q; exact ⟨σ', H', h _ _ I, q⟩
  | cont => obtain ⟨σ', H', I, q⟩ := q; exact ⟨σ', H', h _ _ I, q⟩
  | ret u => obtain ⟨v, σ', H', I, r, q⟩ := q; exact ⟨v, σ', H', h _ _ I, r, q⟩
end
end L2
namespace L2
open PySem PySem.Spec PyProof.Rows PySem.W Builtin Builtin.ObjectAttr Builtin.Getset_descriptor
structure ExcK (K:Frag) (C:Addr):Prop where
  fg:findIn K (.ref C) "__getattribute__"=some (some (.builtin "BaseException.__getattribute__"))
  fn:findIn K (.ref C) "__getattr__"=some none
  fc:findIn K (.ref C) "__class__"=some (some (.builtin "object.__class__"))
  mo:mroIn K C (.type "object")=some true
  sb:subIn K (.ref C) (.type "BaseException")=some true
def ExAt (x C:Addr) (h:Heap):Prop:=∃ o,h.get? x=some o∧o.cls=.ref C
theorem ExAt.ty {M:Model} {x C:Addr} {h:Heap} (p:ExAt x C h):Looks M h (typeOf (.ref x)) (.ref C):=by
  obtain⟨o,h1,h2⟩:=p
  rw [← h2]
  exact (Looks.ld h1).andThen .now
section
variable {prog:Program} {w:World} {A:Around} {E:Value→Shared→Prop} {K:Frag} {h:Heap} {g:Array GenState} {d:Drawn} {t:Nat} {os:OsState} {x C:Addr}
theorem g'O {M:Model} {nameV:Value} {Q:Unit→Shared→Prop} (Z:ExcK K C) (X:K.In h) (I:ExAt x C h) (hq:Q () ⟨h,g,d,t,os⟩) :
    wpAny M A (checkBuiltinCall "BaseException.__getattribute__" ⟨[.ref x,nameV],[]⟩) Q E ⟨h,g,d,t,os⟩:=by
  have hk:builtinKind "BaseException.__getattribute__"=some .slot:=by decide +kernel
  have hsp:splitId "BaseException.__getattribute__"=some ("BaseException","__getattribute__"):=by decide +kernel
  have ha:=F.args_bexc_ga (.ref x) nameV
  have L0:=I.ty (M:=M)
  have L1:=looks_subIn (M:=M) X Z.sb
  simp only [checkBuiltinCall,hk,hsp]
  refine wpAny_bind ?_
  unfold isInstance
  refine wpAny_bind (L0.at (L1.at ?_))
  repeat (any_goals (first | assumption | wp_step))
theorem l'D {tp:Value} {R:Result→Shared→Prop} (Z:ExcK K C) (X:K.In h) (I:ExAt x C h) (hq:R (.ok (.ret (.ref C))) ⟨h,g,d,t,os⟩) :
    codeAny (model prog w) A (.call (.builtin "getset_descriptor.__get__") ⟨[.builtin "object.__class__",.ref x,tp],[]⟩) R ⟨h,g,d,t,os⟩:=by
  have hT5:(⟨h,g,d,t,os⟩:Shared).TypeIs (.builtin "object.__class__") "getset_descriptor":=F.typeOf_object_class
  have L0:=I.ty (M:=model prog w)
  have L1:=looks_mroIn (M:=model prog w) X Z.mo
  refine codeAny_call_builtin (KF.slot_gs).plain (KF.entry_gs) ((KF.slot_gs).check _ _ _ _ _ _ _ _ (KF.type_class) ((KF.args_gs) _ _ _) ?_)
  (unfold Builtin.«getset_descriptor.__get__» descrGet;rw [dga_obj];refine wpAny_bind (wpAny_pure ?_);unfold descrGetter descrCheckInstance descrNameAndClass isInstance;simp only [KF.owner_class])
  repeat (any_goals (first | assumption | with_reducible refine Looks.at L0 ?_ | with_reducible refine Looks.at L1 ?_ | wp_step))
  (refine⟨Code.quiet_builtin _ (by decide +kernel),codeAny_builtin KF.entry_class ?_⟩;unfold Builtin.«object.__class__» shownTypeOf)
  repeat (any_goals (first | assumption | with_reducible refine Looks.at L0 ?_ | wp_step))
theorem g'P {tk:Tok} {Q:Fin→Shared→Prop} (Z:ExcK K C) (X:K.In h) (I:ExAt x C h) (hq:Q (.done (.ret (.ref C))) ⟨h,g,d,t,os⟩) :
    wpAny (model prog w) A (Builtin.«object.__getattribute__» ⟨[.ref x,.str "__class__" tk],[]⟩) Q E ⟨h,g,d,t,os⟩:=by
  have hT5:(⟨h,g,d,t,os⟩:Shared).TypeIs (.builtin "object.__class__") "getset_descriptor":=F.typeOf_object_class
  have f5:=F.typeOf_object_class
  have f6:=F.slot_gs_get.lookup
  have f7:=F.slot_gs_set.lookup
  have L0:=I.ty (M:=model prog w)
  have L1:=looks_findIn (M:=model prog w) X Z.fc
  repeat (any_goals (first | assumption | with_reducible refine Looks.at L0 ?_ | with_reducible refine Looks.at L1 ?_ | wp_step))
  refine l'D Z X I ?_
  repeat (any_goals (first | assumption | wp_step))
theorem n't {tk:Tok} {Q:Value→Shared→Prop} (Z:ExcK K C) (X:K.In h) (I:ExAt x C h) (hq:Q (.ref C) ⟨h,g,d,t,os⟩) :
    wpAny (model prog w) A (getAttrBy (.ref x) (.str "__class__" tk) false) Q E ⟨h,g,d,t,os⟩:=by
  have f3:=F.excAttr_ValueError.ga.bind (.ref x)
  have L0:=I.ty (M:=model prog w)
  have L1:=looks_findIn (M:=model prog w) X Z.fg
  have L2:=looks_findIn (M:=model prog w) X Z.fn
  have hx2:(Value.builtin "BaseException.__getattribute__" == Value.builtin "object.__getattribute__")=false:=by decide +kernel
  have hx1:(onTheHeap (Value.ref C) && Value.builtin "BaseException.__getattribute__" == Value.builtin "object.__getattribute__")=false:=by rw [hx2];rfl
  repeat (any_goals (first | assumption | with_reducible refine Looks.at L0 ?_ | with_reducible refine Looks.at L1 ?_ | with_reducible refine Looks.at L2 ?_ | wp_step))
  refine codeAny_call_builtin F.excAttr_ValueError.ga.plain F.entry_bexc_ga (g'O Z X I (g'P Z X I ?_))
  repeat (any_goals (first | assumption | wp_step))
theorem g'Q {Q:Option Value→Shared→Prop} (Z:ExcK K C) (X:K.In h) (I:ExAt x C h) (hq:Q (some (.ref C)) ⟨h,g,d,t+1,os⟩):wpAny (model prog w) A (getAttr? (.ref x) "__class__") Q E ⟨h,g,d,t,os⟩:=by
  unfold getAttr? getAttrBy?
  repeat (any_goals (first | assumption | with_reducible apply n't Z X I | wp_step))
theorem d's (Z:ExcK K C):KitX K (.ref x) (.ref C) (ExAt x C) where
  ty:=fun _ _ _ I=>I.ty
  it:=fun _ _ X _=>by
    have e:=Z.fn
    unfold findIn at e
    dsimp only at e
    split at e
    · rename_i ho
      intro A' Q' E' s' k q
      unfold isType loadHead
      exact wpAny_bind (wpAny_loadPart (k _ _ (X _ _ ho)) (wpAny_pure q))
    · cases e
  ne:=fun h tp dd its n sl X htp=>by
    have e:=Z.fn
    unfold findIn at e
    dsimp only at e
    split at e
    · rename_i ho
      refine Bool.eq_false_iff.mpr fun q=>?_
      have e:C=tp:=Value.ref.inj (beq_iff_eq.mp q)
      subst e
      have z:=(X _ _ ho).symm.trans htp
      cases z
    · cases e
  ca:=fun {_ _ _ _ _ s} X I k=>by
    obtain⟨hh,gg,dd,tt,oo⟩:=s
    exact g'Q Z X I k
end
def exO (x C:Addr):HO:=.ext (ExAt x C)
theorem n'u {P:Program} {w:World} {H:Hp} {h:Heap} {x C:Addr} (p:ExAt x C h):ObjOk P w H h x (exO x C):=by
  refine⟨p,?_,fun h1 h2 q k=>?_⟩
  · obtain⟨o,e,_⟩:=p
    exact⟨o,e⟩
  · obtain⟨o,e,c⟩:=q
    exact⟨o,k o e,c⟩
section
variable {X:Cx}
theorem j'a:CallR X (.builtin "isinstance") (fun xs H Q=>∃ x D c b u,xs=[.ref x,c]∧Rd H x (exO x D)∧ExcK X.K D∧clsV c=some u∧kitOne X.K (.ref D) u=some b∧Q (.bl b) H):=by
  intro pins s σ H xs us Q I r h
  obtain⟨x,D,c,b,u,rfl,hx,Z,rc,e,q⟩:=h
  obtain⟨v,w',rfl,rx,rw'⟩:=c'Y r
  have ew:w'=u:=by
    cases c with
    | ref a=>cases rc;exact rw'
    | ty n=>cases rc;exact rw'
    | non=>cases rc
    | bl n=>cases rc
    | int i=>cases rc
    | str i=>cases rc
    | byt i=>cases rc
    | flt i=>cases rc
  subst ew
  cases (show v=Value.ref x from rx)
  have hx:ExAt x D s.heap:=by
    rcases hx with hx | ⟨o,hx⟩
    · exact (I.hok x _ hx).1
    · exact (I.hok x _ hx).2.1
  exact kia_one (d's Z) I.kIn hx e (fun z=>nomatch z) fun tk=>⟨.bl b,H,I.tok tk,rfl,q⟩
end
end L2
namespace L2
open PySem PySem.Spec PyProof.Rows
section
variable {P:Program} {w:World} {K:PySem.W.Frag} {mg:Str→Option Value} {base:Heap}
end
section
variable {X:Cx} {k:Nat} {f:Addr} {fd:FuncData} {ps:List Str} {sp:Sp} {x:Str} {p pos:Pos} {e:Expr} {es:List Expr} {t:TA}
end
section
variable {X:Cx}
theorem Inv.gone {pins:List (Addr×Obj)} {σ:St} {H:Hp} {s:Shared} {i:Nat} {n:Str} {m:Str→Option Value} {v:Option Value} {h':Heap} {tk:Nat} (I:Inv X pins σ H s) (hN:X.N.Nodup) (hi:X.N[i]?=some n)
    (hm:s.heap.Ns X.env.locals m) (hl:∀ (j:Nat) (x:Str) (v:V),X.N[j]?=some x→σ[j]?=some (some v)→Vis X.env.scope x→∃ u,RelV v u∧Look X.env s.heap m x u)
    (hn:h'.Ns X.env.locals (fun x=>if x=n then v else m x)) (hs:Heap.SameBut X.env.locals s.heap h'):Inv X pins (σ.set i none) H { s with heap:=h',toks:=tk }:=by
  have apart:∀ b o,X.s₀.heap.get? b=some o→b≠X.env.locals:=fun b o e=>Nat.ne_of_lt (Nat.lt_of_lt_of_le (Heap.lt_size e) I.ok.above)
  refine⟨I.ok,I.os,I.bare,⟨fun b o e q hb hx=>(hs.2 b (apart b o e)).trans (I.base.keep b o e q hb hx),fun b o e q hb hx=>?_,I.base.free,fun b o e hx=>?_,I.base.tups,I.base.frzs,I.base.tbls⟩,
    ⟨_,hn,fun j y w' e1 e2 e3=>?_⟩,fun y c e=>?_,I.free,I.freeC,fun p hp=>?_,fun b u e=>?_,by rw [List.length_set];exact I.len⟩
  · obtain⟨sl,z⟩:=I.base.slot b o e q hb hx
    exact⟨sl,(hs.2 b (apart b o e)).trans z⟩
  · obtain⟨o',z⟩:=I.base.there b o e hx
    exact⟨o',(hs.2 b (apart b o e)).trans z⟩
  · have hj:i≠j:=fun z=>by
      subst z
      rw [List.getElem?_set] at e2
      split at e2
      · split at e2<;>cases e2
      · rename_i q;exact q rfl
    rw [List.getElem?_set_ne hj] at e2
    obtain⟨u,r,q⟩:=hl j y w' e1 e2 e3
    refine⟨u,r,q.imp (fun q=>⟨q.1,?_⟩) fun ⟨k,c,e,z⟩=>⟨k,c,e,z.sameBut hs (I.cne y c e)⟩⟩
    have ny:y≠n:=fun z=>hj (c'a hN hi (z ▸ e1))
    show (if y=n then v else m y)=_
    rw [if_neg ny]
    exact q.2
  · obtain⟨u,z⟩:=I.cell y c e
    exact⟨u,z.sameBut hs (I.cne y c e)⟩
  · obtain⟨e,q,ne,r⟩:=I.pin p hp
    exact⟨(hs.2 p.1 ne).trans e,q,ne,r⟩
  · refine (I.hok b u e).stay (fun c o hc q=>(hs.2 c ?_).trans q) (fun _ q=>q) fun _ _ q=>q
    rintro rfl
    rcases hc with z | z
    · rw [← z,I.free] at e;cases e
    · rw [I.free] at z;cases z
def Ends.less (D:Ends) (i:Nat):Ends:={ nx:=fun σ H=>D.nx (σ.set i none) H,rt:=D.rt,bk:=fun σ H=>D.bk (σ.set i none) H,ct:=fun σ H=>D.ct (σ.set i none) H }
def CatAs (K:PySem.W.Frag) (C:Addr) (i:Nat) (th:TS) (D:Ends):St→XK:=fun σ cls _ H=>PySem.W.exmOne K cls (.ref C)=some true∧∃ B,cls=.ref B∧∀ y,H y=none→th (D.less i) (σ.set i (some (.ref y))) (upd H y (exO y B))
def tTryAs (K:PySem.W.Frag) (C:Addr) (i:Nat) (tb:(St→XK)→TS) (th:TS):TS:=fun D σ H=>tb (CatAs K C i th D) D σ H
theorem j'b {body suite:List Stmt} {b₀:Stmt} {x n:Str} {np hpos pos:Pos} {C:Addr} {i:Nat} {tb:(St→XK)→TS} {th:TS} (hs:X.stack=X.env :: X.outer) (hf:X.env.frame=some X.env.locals) (hg:Gl X x) (hm:X.mg x=some (.ref C))
    (hN:X.N.Nodup) (hi:X.N[i]?=some n) (hn:X.env.scope.names.lookup n=some .local)
    (hb:∀ (pn:List (Addr×Obj)) (xe:Value→Shared→Prop) (R:St→XK),(∀ σ,PassAt (CX1 X.prog X.w) (X.kept2 pn xe) σ (R σ))→PSs (X.kept2 pn xe) body (tb R))
    (hh:∀ v:Value,PSs (X.inHandler v) (b₀ :: suite) th) (hdb:(x == ("__debug__":Str))=false:=by decide) :
    PS X (.Try body [.ExceptHandler (some (.Name x np)) (some n) (b₀ :: suite) hpos] [] [] pos) (tTryAs X.K C i tb th):=by
  intro pins s σ H D I h
  refine wpAny_Try_except ?_
  have land:∀ σ',PassAt (CX1 X.prog X.w) (X.kept2 (X.pn++pins) fun e s₁=>wpAny (model X.prog X.w) X.A (noteFrame e X.env) (fun _ s₂=>wpAny (model X.prog X.w) X.A (setFlight e none)
      (fun _ s₃=>wpAny (model X.prog X.w) X.A (handleBy e X.env [.ExceptHandler (some (.Name x np)) (some n) (b₀ :: suite) hpos]) (SP X pins D) X.xe s₃) X.xe s₂) X.xe s₁) σ' (CatAs X.K C i th D σ'):=by
    intro σ' pins' H1 s1 e s2 I1 hc
    obtain⟨y,cls,H2,rfl,os,bare,un,hok,fly,hcat,B,rfl,hth⟩:=hc
    have J1:Inv X pins σ' H1 s1:=Inv.unkeep2 I.ok I1
    have J2:Inv X pins σ' H2 s2:=J1.call' (ch:=[]) os un hok bare (fun b z=>absurd z (by simp))
    obtain⟨T,a0,hT0,hT,htr⟩:=fly.traced
    have hin:∀ env∈X.env :: X.outer,∀ a,env.frame=some a→a∈y :: T :: frs X.stack:=fun env he a hf=>.tail _ (.tail _ (by rw [hs];exact e'v env he a hf))
    have fl0:Heap.FlyingW (PySem.W.hideAll s2.heap (y :: T :: frs X.stack)) (X.env :: X.outer) y (.ref B) a0 s2.heap:=
      ⟨fun b o q=>PySem.W.of_hideAll _ q,PySem.W.hideAll_none _ (.head _),PySem.W.funFrames_hide (hs ▸ J2.stack) hin,htr _ (.tail _ (.head _))⟩
    have on:∀ h2:Heap,(PySem.W.hideAll s2.heap (y :: T :: frs X.stack)).StaysIn h2→s2.heap.UpToSlots h2→Un (frs X.stack) [] H1 H2 s1.heap h2∧HOk X.prog X.w H2 h2:=fun h2 k sm=>by
      obtain⟨u,ok,_⟩:=g'N (fs:=frs X.stack) (fr:=frs X.stack) (bad:=[y,T]) un hok (fun b hb=>by
        rcases List.mem_cons.mp hb with z | hb
        · exact .inl (by rw [z];exact .head _)
        · rcases List.mem_cons.mp hb with z | hb
          · exact .inl (by rw [z];exact .tail _ (.head _))
          · exact .inr hb) (fun b hb=>by
        rcases List.mem_cons.mp hb with z | hb
        · rw [z];exact⟨fly.1,fly.2.1⟩
        · have z:b=T:=by simpa using hb
          rw [z];exact⟨hT0,hT⟩) (fun b hb=>⟨.inl hb,(J2.frm b hb).2⟩) (fun _ hb=>hb) k sm
      exact⟨u,ok⟩
    refine wpAny_looks_onW (by rw [I.ok.frames,hs]) hf fl0 fun h4 held4 sm4=>?_
    refine wpAny_landsW held4 fun h5 fl5 sm5=>?_
    have o5:=on h5 fl5.1 (sm4.trans sm5)
    have J5:Inv X pins σ' H2 { s2 with heap:=h5 }:=J1.call' (s':={ s2 with heap:=h5 }) (ch:=[]) os o5.1 o5.2 bare (fun b z=>absurd z (by simp))
    refine wpAny_handleBy_cons (codeAny_handlers_test ?_) (by intro q;cases q)
    refine b'A (X:=X.inHandler (.ref y)) (J5.inHandler (.ref y)) hg hm ?_ hdb
    obtain⟨ob,hob,hoc⟩:=fl5.there
    refine (PySem.W.exm_one (M:=model X.prog X.w) J5.kIn (show PySem.W.Looks _ h5 (typeOf (.ref y)) (.ref B) from ExAt.ty ⟨ob,hob,hoc⟩) hcat).here ?_
    refine codeAny_handlers_suite_as (lands_againW fl5 fun h6 fl6 sm6=>?_)
    have o6:=on h6 fl6.1 ((sm4.trans sm5).trans sm6)
    obtain⟨ob6,hob6,hoc6⟩:=fl6.there
    have ne:∀ b o,H2 b=some o→b≠y:=fun b o q z=>by rw [z,fly.2.1] at q;cases q
    have un6:Un (frs X.stack) [] H1 (upd H2 y (exO y B)) s1.heap h6:=
      ⟨o6.1.keep,o6.1.slot,fun b o e q hx=>by rw [a'h (fun z=>by rw [z,fly.1] at e;cases e)];exact o6.1.free b o e q hx,o6.1.there,fun b xs q=>by rw [a'h (ne b _ (o6.1.tups b xs q))];exact o6.1.tups b xs q,
        fun b o u q=>by rw [a'h (ne b _ (o6.1.frzs b o u q))];exact o6.1.frzs b o u q,fun b ps q=>by
          obtain⟨more,z⟩:=o6.1.tbls b ps q
          exact⟨more,by rw [a'h (ne b _ z)];exact z⟩⟩
    have ok6:HOk X.prog X.w (upd H2 y (exO y B)) h6:=fun b o q=>by
      by_cases z:b=y
      · subst z
        rw [a'u] at q
        cases q
        exact n'u ⟨ob6,hob6,hoc6⟩
      · rw [a'h z] at q
        exact (o6.2 b o q).stay (fun _ _ _ e=>e) (fun c e=>by rw [a'h (ne c _ e)];exact e) fun c xs e=>by rw [a'h (ne c _ e)];exact e
    have J6:Inv X pins σ' (upd H2 y (exO y B)) { s2 with heap:=h6 }:=J1.call' (s':={ s2 with heap:=h6 }) (ch:=[]) os un6 ok6 bare (fun b z=>absurd z (by simp))
    refine b'j (X:=X.inHandler (.ref y)) (v:=.ref y) (J6.inHandler (.ref y)) hN hi (.inl hn) rfl (fun s7 J7=>?_) (.inr hn)
    refine wpAny_mono (hh (.ref y) pins s7 _ _ _ J7 (hth y fly.2.1)) (fun fl s8 q=>?_) fun _ _ z=>z.elim
    have go:∀ {σ8:St} {H8:Hp} {R:Unit→Shared→Prop},Inv (X.inHandler (.ref y)) pins σ8 H8 s8→(∀ s9,Inv X pins (σ8.set i none) H8 s9→R () s9)→wpAny (model X.prog X.w) X.A (do bindName X.env n .none;unbindBehindTheSuite X.env n hpos) R X.xe s8:=by
      intro σ8 H8 R J8 hR
      have J:=Inv.outHandler I.ok J8
      obtain⟨m,hm8,hl8⟩:=J.loc
      exact wpAny_nameGoes_keeps hn hm8 (by rw [I.ok.kind];rfl) fun h9 v hn9 hs9=>hR _ (J.gone hN hi hm8 hl8 hn9 hs9)
    match fl,q with
    | .next,⟨σ8,H8,J8,q⟩=>exact go J8 fun s9 J9=>⟨_,_,J9,q⟩
    | .brk,⟨σ8,H8,J8,q⟩=>exact go J8 fun s9 J9=>⟨_,_,J9,q⟩
    | .cont,⟨σ8,H8,J8,q⟩=>exact go J8 fun s9 J9=>⟨_,_,J9,q⟩
    | .ret u,⟨v,σ8,H8,J8,rv,q⟩=>exact go J8 fun s9 J9=>⟨v,_,_,J9,rv,q⟩
  refine wpAny_mono (hb _ _ _ land [] s σ H D (I.keep2 _) h) (fun fl s1 q=>?_) fun _ _ z=>z
  have q':SP X pins D fl s1:=q.imp fun σ H J=>Inv.unkeep2 I.ok J
  cases fl with
  | next => exact wpAny_execs_nil q'
  | brk => exact q'
  | cont => exact q'
  | ret u => exact q'
end
end L2
namespace Vc
open PySem L2 Sf
theorem Le.exc {F F':Hp} {a B:Addr} (e:Le F F') (h:Rd F a (exO a B)):Rd F' a (exO a B):=e _ _ (by intro o w z;cases z) h
end Vc
namespace L2
open PySem PySem.Spec PyProof.Rows
section
variable {X:Cx}
end
end L2
namespace L2
open PySem PySem.Spec PyProof.Rows
theorem c'o:∀ {bs:List Bool} {us:List Value},Vals (bs.map V.bl) us→us=bs.map Value.bool
  | [], _, .nil => rfl
  | b :: r, _, .cons h t => by
    have e:=c'o (bs:=r) t
    subst e
    cases h
    rfl
theorem g'R (bs:List Bool):(List.range bs.length).all (fun i=>bs.getD i false)=bs.all id:=by
  rw [Bool.eq_iff_iff,List.all_eq_true,List.all_eq_true]
  constructor
  · intro h b hb
    obtain⟨i,hi,rfl⟩:=List.getElem_of_mem hb
    have z:=h i (List.mem_range.mpr hi)
    rw [List.getD_eq_getElem?_getD,List.getElem?_eq_getElem hi] at z
    exact z
  · intro h i hi
    rw [List.mem_range] at hi
    rw [List.getD_eq_getElem?_getD,List.getElem?_eq_getElem hi]
    exact h _ (List.getElem_mem hi)
theorem e'h {prog:Program} {w:World} {A:Around} (bs:List Bool):TruthOf prog w A (fun i v=>(bs.map Value.bool).toArray[i]?=some v) (fun i=>bs.getD i false):=by
  intro i v s Q E hP hQ
  simp only [List.getElem?_toArray,List.getElem?_map] at hP
  cases q:bs[i]? with
  | none => rw [q] at hP; cases hP
  | some b =>
    rw [q] at hP
    cases hP
    have hQ:Q (bs.getD i false) s:=hQ
    rw [List.getD_eq_getElem?_getD,q] at hQ
    exact wpAny_pure hQ
section
variable {X:Cx}
theorem c'N (hc:X.calm=true):CallR X (.builtin "all") (fun xs H Q=>∃ (a:Addr) (bs:List Bool),xs=[.ref a]∧SqL X.K H a (bs.map V.bl)∧Q (.bl (bs.all id)) H):=by
  intro pins s σ H xs us Q I r h
  obtain⟨a,bs,rfl,hq,q⟩:=h
  obtain⟨u,rfl,ru⟩:=b't r
  cases ru
  obtain⟨its,rv,p,hz⟩:=I.list hq
  obtain rfl:=c'o rv
  have hL:=p.isList
  have la:a<s.heap.objs.size:=(let ⟨_,e,_⟩:=hL;Heap.lt_size e)
  refine call_all_walk (wpAny_pyIter_list hL ?_)
  refine⟨s.heap.objs.size,_,_,_,_,_,_,rfl,Walks.list (by exact I.ok.hd hc) _ a (Nat.ne_of_lt la) _,⟨⟨_,Heap.get?_push_size _ rfl,rfl,rfl⟩,(let ⟨o,e,c⟩:=hL;⟨o,Heap.get?_push_of_some _ e,c⟩)⟩,e'h bs,fun h' tk hk=>?_⟩
  refine⟨.bl (bs.all id),H,I.kept fun b o e=>hk b o (fun z=>absurd (Heap.lt_size e) (by rw [show b=s.heap.objs.size from by simpa using z];exact Nat.lt_irrefl _)) (Heap.get?_push_of_some _ e),?_,q⟩
  rw [← g'R]
  show _=_
  simp
end
end L2
namespace L2
end L2
namespace Vc
open PySem L2 Sf
end Vc
namespace L2
open PySem PySem.Spec PyProof.Rows
section
variable {X:Cx}
end
section
variable {g:TG} {ti:TT} {te:TE} {ix:List (Option Nat)} {σ:St} {Q:VK}
end
end L2
namespace L2
open PySem PySem.Spec PyProof.Rows
section
variable {X:Cx}
end
end L2
namespace Vc
open PySem L2 Sf
end Vc
namespace L2
end L2
namespace L2
open PySem PySem.Spec PyProof.Rows
section
variable {X:Cx}
def PJ (X:Cx) (es:List Expr) (t:Str→TE):Prop:=
  ∀ (out:Str) (pins:List (Addr×Obj)) (s:Shared) (σ:St) (H:Hp) (Q:VK),Inv X pins σ H s→t out σ H Q→wpAny (model X.prog X.w) X.A (joinParts out (evalEach es X.env)) (EP X pins σ Q) X.xe s
def jNil:Str→TE:=fun out _ H Q=>out.length≤sizeLine∧Q (.str out) H
def jTxt (x:Str) (t:Str→TE):Str→TE:=fun out σ H Q=>(out++x).length≤sizeLine∧t (out++x) σ H Q
def jVal (te:TE) (t:Str→TE):Str→TE:=fun out σ H Q=>te σ H fun v H1=>∃ y,v=.str y∧y.length≤sizeLine∧(out++y).length≤sizeLine∧t (out++y) σ H1 Q
theorem n'v:PJ X [] jNil:=fun out pins s σ H Q I h=>joinParts_nil ⟨.str out,H,I.tok _,⟨_,rfl⟩,h.2⟩ h.1
theorem n'w {x:Str} {j:Nat} {pos:Pos} {es:List Expr} {t:Str→TE} (hr:PJ X es t):PJ X (.Constant (.str x) j pos :: es) (jTxt x t):=fun out pins s σ H Q I h=>
  joinParts_cons (rest:=evalEach es X.env) (Calls.Constant_str ⟨h.1,hr (out++x) pins _ σ H Q (I.tok _) h.2⟩)
theorem n'x {e:Expr} {pos:Pos} {es:List Expr} {te:TE} {t:Str→TE} (he:PE X e te) (hr:PJ X es t):PJ X (.FormattedValue e (-1) none pos :: es) (jVal te t):=fun out pins s σ H Q I h=>
  joinParts_cons (rest:=evalEach es X.env) (FormattedValue_plain (thn (he pins s σ H _ I h) fun v s1 ⟨x,H1,I1,r1,y,e1,hz,hq,q1⟩=>by
    subst e1
    obtain⟨t',rfl⟩:=r1
    exact formatField_str (fun t' tk=>⟨hq,hr (out++y) pins _ σ H1 Q (I1.tok _) q1⟩) hz))
def tJ (t:Str→TE):TE:=t Str.empty
theorem l'E {a b:Expr} {es:List Expr} {pos:Pos} {t:Str→TE} (h:PJ X (a :: b :: es) t):PE X (.JoinedStr (a :: b :: es) pos) (tJ t):=fun pins s σ H Q I q=>
  JoinedStr_many (h Str.empty pins s σ H Q I q)
end
section
variable {σ:St} {H:Hp} {Q:VK}
end
section
variable {g:TG} {ti:TT} {te:TE} {ix:List (Option Nat)} {σ:St} {Q:VK}
end
end L2
namespace Vc
open PySem L2 Sf
section
variable {X:Cx} {pins:List (Addr×Obj)} {σ:St} {H:Hp} {s:Shared} {Au:Around}
theorem l'F {a b:Addr} {xs ys:List V} (I:Inv X pins σ H s) (h1:SqL X.K H a xs) (h2:SqL X.K H b ys) (hu:Au.units<cLine) (hl:xs.length=ys.length) (e:Nat→Bool)
    (he:∀ (j:Nat) x y u v,xs[j]?=some x→ys[j]?=some y→RelV x u→RelV y v→SeqAt.EqAt Au.in1 s u v (e j)):SeqAt.RcNeAt Au s (.ref a) (.ref b) (!(List.range xs.length).all e):=by
  obtain⟨us,r1,t1,_⟩:=I.list h1
  obtain⟨ws,r2,t2,_⟩:=I.list h2
  have l1:=r1.length
  have l2:=r2.length
  have z:=SeqAt.RcNeAt.lists (A:=Au) (e:=e) t1.isList t2.isList (by simp;omega) hu (fun j h1 h2=>?_)
  · have e0:(List.range us.toArray.size).all e=(List.range xs.length).all e:=by
      simp only [List.size_toArray]
      rw [← l1]
    rw [e0] at z
    exact z
  · simp only [List.size_toArray] at h1 h2
    obtain⟨u,e1,ru⟩:=r1.get (i:=j) (x:=xs[j]'(by omega)) (by simp)
    obtain⟨v,e2,rv⟩:=r2.get (i:=j) (x:=ys[j]'(by omega)) (by simp)
    obtain⟨_,f1⟩:=List.getElem?_eq_some_iff.mp e1
    obtain⟨_,f2⟩:=List.getElem?_eq_some_iff.mp e2
    have g1:us.toArray[j]'(by simpa using h1)=u:=by simpa using f1
    have g2:ws.toArray[j]'(by simpa using h2)=v:=by simpa using f2
    rw [g1,g2]
    exact he j _ _ u v (by simp) (by simp) ru rv
end
section
variable {X:Cx}
end
end Vc
namespace Vc
open PySem L2 Sf
end Vc
namespace L2
open PySem PySem.Spec PyProof.Rows
def rRepS:R2:=fun x y H Q=>∃ z n,x=.str z∧y=.int n∧z.length≤100∧0≤n∧n≤1000∧Q (.str (Txt.mul z n)) H
theorem f'S {X:Cx}:OpR X (binaryOp .Mult) rRepS:=by
  intro pins s σ H x y v u Q I rx ry h
  obtain⟨z,n,rfl,rfl,hz,h0,h1,q⟩:=h
  obtain⟨t,rfl⟩:=rx
  obtain⟨t',rfl⟩:=ry
  exact SB.mul (mulOk_of 100 1000 hz (by omega) (by omega) (by decide) (by decide)) fun t' k=>⟨.str _,H,I.tok _,⟨_,rfl⟩,q⟩
end L2
namespace Vc
open PySem L2 Sf
end Vc
namespace L2
open PySem PySem.Spec PyProof.Rows
section
variable {X:Cx}
end
section
variable {X:Cx}
end
section
variable {X:Cx}
end
end L2
namespace Vc
open PySem L2 Sf
section
variable {K:PySem.W.Frag} {F H:Hp} {Q:VK}
end
end Vc
namespace Vc
open PySem L2 Sf
end Vc
namespace L2
open PySem PySem.Spec PyProof.Rows
section
variable {P:Program} {w:World} {K:PySem.W.Frag} {mg:Str→Option Value} {base:Heap}
end
section
variable {g:TG} {ti:TT} {te:TE} {ix:List (Option Nat)} {σ:St} {Q:VK}
end
end L2
namespace Vc
open PySem L2 Sf
section
variable {K:PySem.W.Frag} {F H:Hp} {Q:VK}
end
end Vc
namespace L2
open PySem PySem.Spec PyProof.Rows
section
variable {P:Program} {w:World} {A:Around} {s:Shared}
section
open PySem.AutoSeq1 (wpAny_loadPart')
end
section
open PySem.AutoSeq1 (wpAny_loadPart')
open PySem.MeetsSeq PySem.MeetsSeq2 PySem.MeetsSeq3 PySem.SeqRoads2 PySem.SeqAt
end
end
section
variable {X:Cx} {pins:List (Addr×Obj)} {σ:St} {H:Hp} {s:Shared}
end
section
variable {X:Cx}
end
end L2
namespace Vc
open PySem L2 Sf
section
variable {K:PySem.W.Frag} {F H:Hp} {Q:VK}
end
end Vc
namespace L2
open PySem PySem.Spec PyProof.Rows
section
variable {X:Cx}
end
section
variable {X:Cx}
theorem g'S:OpR X (compareOp .Gt) (fun x y H Q=>∃ i j,x=.str i∧y=.str j∧Q (.bl (decide (j.cps.toList<i.cps.toList))) H):=by
  intro pins s σ H x y v u Q I rx ry h
  obtain⟨i,j,rfl,rfl,q⟩:=h
  obtain⟨t,rfl⟩:=rx
  obtain⟨t',rfl⟩:=ry
  exact PySem.P.gt_str (a'j I q rfl)
end
end L2
namespace Vc
open PySem L2 Sf
end Vc
namespace L2
open PySem PySem.Spec PyProof.Rows
section
variable {prog:Program} {w:World} {κ:Type} [DecidableEq κ] {kn:KeyKind prog w κ} {A:Around} {E:Value→Shared→Prop} {s:Shared}
end
section
variable {X:Cx}
end
end L2
namespace L2
open PySem PySem.Spec PyProof.Rows
section
variable {prog:Program} {w:World} {A:Around} {E:Value→Shared→Prop} {s:Shared}
end
section
variable {X:Cx}
end
section
variable {X:Cx}
end
end L2
namespace Vc
open PySem L2
section
variable {X:Cx} {pins:List (Addr×Obj)} {σ:St} {H:Hp} {s:Shared} {Au:Around}
open Sf in
end
section
variable {X:Cx}
end
end Vc
namespace L2
open PySem PySem.Spec PyProof.Rows
section
variable {X:Cx}
def rCatS (K:PySem.W.Frag):R2:=fun x y H Q=>∃ l b xs zs,x=.ref l∧y=.ref b∧SqL K H l xs∧SqL K H b zs∧xs.length+zs.length≤sizeLine∧∀ p,H p=none→Q (.ref p) (upd H p (.lst (xs++zs)))
theorem l'G:OpR X (binaryOp .Add) (rCatS X.K):=by
  intro pins s σ H x y v u Q I rx ry h
  obtain⟨l,b,xs,zs,rfl,rfl,hH,hB,hz,q⟩:=h
  cases rx
  cases ry
  obtain⟨its,r,p1,z1⟩:=I.list hH
  obtain⟨its2,r2,p2,z2⟩:=I.list hB
  have n1:=r.length
  have n2:=r2.length
  obtain⟨⟨c1,d1,t1,sl1⟩,ho,hc,n,hd⟩:=p1.isList
  obtain⟨⟨c2,d2,t2,sl2⟩,ho2,hc2,m,hd2⟩:=p2.isList
  simp only at hc hd hc2 hd2
  subst hc hd hc2 hd2
  refine concat_meets ⟨_,ho,rfl⟩ ⟨_,ho2,rfl⟩ noFill_list_add seq_list_add PySem.F.slot_list_add PySem.F.entry_list_add (PySem.F.args_list_add_2 _ _) (list_addW l b its.toArray its2.toArray n m d1 d2 sl1 sl2 (by simp;omega)) ⟨ho,ho2,?_⟩
  rw [show its.toArray++its2.toArray=(its++its2).toArray by simp]
  exact⟨.ref _,_,I.lnew (t':=s.toks) (r.append r2) (by rw [List.length_append];omega),rfl,q _ I.fresh⟩
def rIseT (K:PySem.W.Frag):List V→Hp→VK→Prop:=fun xs H Q=>∃ (x D t:Addr) (cs:List Addr) (b:Bool),xs=[.ref x,.ref t]∧Rd H x (exO x D)∧ExcK K D∧SqT K H t (cs.map V.ref)∧PySem.W.kitAny K (.ref D) (cs.map Value.ref)=some b∧Q (.bl b) H
theorem g'T:CallR X (.builtin "isinstance") (rIseT X.K):=by
  intro pins s σ H xs us Q I r h
  obtain⟨x,D,t,cs,b,rfl,hx,Z,ht,e,q⟩:=h
  obtain⟨v,w',rfl,rx,rw'⟩:=c'Y r
  cases (show v=Value.ref x from rx)
  cases (show w'=Value.ref t from rw')
  have hx:ExAt x D s.heap:=by
    rcases hx with hx | ⟨o,hx⟩
    · exact (I.hok x _ hx).1
    · exact (I.hok x _ hx).2.1
  obtain⟨us,r1,pt,hsz⟩:=I.tuple ht
  have eu:us=cs.map Value.ref:=by
    clear e ht q pt hsz
    induction cs generalizing us with
    | nil=>cases r1;rfl
    | cons c cs ih=>cases r1 with
      | cons a b=>rw [List.map_cons,ih _ b];exact congrArg (· :: _) a
  subst eu
  obtain⟨⟨c1,d1,t1,sl1⟩,ho,hc,n,hd⟩:=pt
  simp only at hc hd
  subst hc hd
  exact PySem.W.kia_tup (d's Z) I.kIn hx ho e (fun z=>nomatch z) fun tk=>⟨.bl b,H,I.tok tk,rfl,q⟩
end
end L2
namespace L2
open PySem
end L2
namespace Vc
open PySem L2
section
variable {X:Cx}
end
end Vc
namespace Vc
open PySem L2
end Vc
namespace L2
end L2
namespace Vc
open PySem L2 Sf
end Vc
namespace L2
open PySem
end L2
namespace L2
open PySem
section
variable {prog:Program} {w:World} {K:Type} [DecidableEq K]
variable {knd:KeyKind prog w K}
variable {A:Around} {E:Value→Shared→Prop} {s:Shared}
end
end L2
namespace L2
open PySem
section
variable {prog:Program} {w:World} {A:Around} {E:Value→Shared→Prop} {s:Shared}
end
end L2
namespace L2
open PySem
section
variable {prog:Program} {w:World} {A:Around} {E:Value→Shared→Prop} {s:Shared}
variable {a ep:Nat} {o:Obj} {es:Array (Int×Value)} {t:SetTable}
end
end L2
namespace L2
open PySem
section
variable {prog:Program} {w:World} {K:Type} [DecidableEq K] {knd:KeyKind prog w K} {A:Around} {E:Value→Shared→Prop} {s:Shared}
section
variable {R:Result→Shared→Prop} {I:Addr} {fp wr:List Addr} {G:Array GenState→Array GenState→Prop} {n:Nat} {P:Nat→Value→Prop} {St:Nat→Shared→Prop}
end
end
end L2
namespace L2
open PySem PySem.Spec PyProof.Rows
section
variable {X:Cx}
end
end L2
namespace Vc
open PySem L2 Sf
def hdn (l:List Addr) (H:Hp):Hp:=fun x=>if x∈l then none else H x
theorem g'U {l:List Addr} {x:Addr} {H:Hp} {o:HO} (h1:x ∉ l) (h:H x=some o):hdn l H x=some o:=by unfold hdn;rw [if_neg h1];exact h
theorem n'y {l:List Addr} {x:Addr} {H:Hp} (h:x∈l):hdn l H x=none:=if_pos h
theorem j'c {l:List Addr} {x:Addr} {H:Hp} {o:HO} (h:hdn l H x=some o):x ∉ l∧H x=some o:=by
  unfold hdn at h
  by_cases z:x∈l
  · rw [if_pos z] at h;cases h
  · rw [if_neg z] at h;exact⟨z,h⟩
theorem n'z {l:List Addr} {F H:Hp} (wd:Same F H):Gr0 F (hdn l H) F H:=⟨fun _ _ e=>(j'c e).2,Same.refl _,wd,fun x u h e=>by rw [h] at e;cases e⟩
end Vc
namespace L2
open PySem PySem.Spec PyProof.Rows
section
variable {P:Program} {w:World} {K:PySem.W.Frag}
end
end L2
namespace Vc
open PySem L2 Sf
section
variable {P:Program} {w:World} {K:PySem.W.Frag} {F H:Hp} {Q:VK}
end
end Vc
namespace L2
open PySem PySem.Spec PyProof.Rows
def tFldR (K:PySem.W.Frag) (ta:TE) (f:Str):TE:=fun σ H Q=>ta σ H fun x H1=>∃ a C dx fs v,x=.ref a∧Rd H1 a (.ins C dx fs)∧Cls K C∧NoAttr K C f∧fs.lookup f=some v∧Q v H1
section
variable {X:Cx} {CX:CXT} {k:Nat} {E:XK} {m f:Str} {pos apos:Pos} {o e:Expr} {ta:TE} {D:Addr→Nat→Prop} {sp:Nat→Sp}
end
end L2
namespace Vc
open PySem L2 Sf
end Vc
namespace L2
open PySem PySem.Spec PyProof.Rows
end L2
namespace Vc
open PySem L2 Sf
section
variable {P:Program} {w:World} {K:PySem.W.Frag} {F H:Hp} {Q:VK}
end
end Vc
namespace Vc
open PySem L2 Sf PyProof.Rows
end Vc
namespace L2
open PySem PySem.Spec PyProof.Rows
section
variable {X:Cx} {CX:CXT} {k:Nat} {f C:Addr} {fd:FuncData} {ps:List Str} {sp:Sp} {dvs:List V} {ds:List Value} {x:Str} {p pos:Pos} {e:Expr} {es:List Expr} {t:TA}
end
end L2
namespace Vc
open PySem L2 Sf
end Vc
namespace L2
open PySem PySem.Spec PyProof.Rows
section
variable {X:Cx} {o i:Expr} {pos:Pos} {td ty:TE}
end
end L2
namespace Vc
open PySem L2 Sf
end Vc
namespace L2
open PySem PySem.Spec PyProof.Rows
section
variable {X:Cx} {CX:CXT} {k:Nat} {E:XK} {m:Str} {ps:List Str} {pos apos:Pos} {o e:Expr} {es:List Expr} {ta:TE} {t:TA} {D:Addr→Nat→Prop} {sp:Nat→Sp}
end
end L2
namespace Vc
open PySem L2 Sf
section
variable {H:Hp} {Q:VK} {l:Addr}
end
end Vc
namespace L2
open PySem PySem.Spec PyProof.Rows
section
variable {g:TG} {ti:TT} {te:TE} {ix:List (Option Nat)} {σ:St} {Q:VK}
end
end L2
namespace Vc
open PySem L2 Sf
end Vc
namespace Vc
open PySem L2 Sf
end Vc
namespace L2
open PySem PySem.Spec PyProof.Rows
end L2
namespace Pu
open PySem L2 Vc Sf
inductive Fl where | f | o | l (k:Bool)
  deriving DecidableEq
inductive Tr where
  | int (n : Int) | bl (b : Bool) | str (s : Str) | non | hole | ty (n : String) | cl (a : Addr) | exc (b : Addr)
  | tup (xs : List Tr) | lst (f : Fl) (xs : List Tr) | dic (f : Fl) (kvs : List (Key × Tr)) | ins (f : Fl) (c : Addr) (fs : List (Str × Tr))
abbrev Cs:=List (Addr×HO)
mutual
/-- v stands for the tree: its frozen parts in F, its lent ones in B, its own ones are the cells -/
def R (K:PySem.W.Frag) (F:Hp) (B:Bool→Hp):Tr→V→Cs→Prop
  | .int n, v, cs => v = .int n ∧ cs = []
  | .bl b, v, cs => v = .bl b ∧ cs = []
  | .str s, v, cs => v = .str s ∧ cs = []
  | .non, v, cs => v = .non ∧ cs = []
  | .hole, _, _ => False
  | .ty n, v, cs => v = .ty n ∧ cs = []
  | .cl a, v, cs => v = .ref a ∧ cs = []
  | .exc b, v, cs => cs = [] ∧ ∃ a, v = .ref a ∧ Rd F a (exO a b)
  | .tup xs, v, cs => ∃ a vs, v = .ref a ∧ SqT K F a vs ∧ Rs K F B xs vs cs
  | .lst .f xs, v, cs => cs = [] ∧ ∃ a vs, v = .ref a ∧ SqL K F a vs ∧ Rs K F B xs vs []
  | .lst (.l k) xs, v, cs => cs = [] ∧ ∃ a vs, v = .ref a ∧ SqL K (B k) a vs ∧ Rs K F B xs vs []
  | .lst .o xs, v, cs => ∃ a vs ds, v = .ref a ∧ cs = (a, .lst vs) :: ds ∧ Rs K F B xs vs ds
  | .dic .f xs, v, cs => cs = [] ∧ ∃ a vs, v = .ref a ∧ Rd F a (.dK vs) ∧ Rk K F B xs vs [] ∧ (xs.map (·.1)).Nodup
  | .dic (.l k) xs, v, cs => cs = [] ∧ ∃ a vs, v = .ref a ∧ Rd (B k) a (.dK vs) ∧ Rk K F B xs vs [] ∧ (xs.map (·.1)).Nodup
  | .dic .o xs, v, cs => ∃ a vs ds, v = .ref a ∧ cs = (a, .dK vs) :: ds ∧ Rk K F B xs vs ds ∧ (xs.map (·.1)).Nodup
  | .ins .f c xs, v, cs => cs = [] ∧ ∃ a dx vs, v = .ref a ∧ Rd F a (.ins c dx vs) ∧ Rf K F B xs vs []
  | .ins (.l k) c xs, v, cs => cs = [] ∧ ∃ a dx vs, v = .ref a ∧ Rd (B k) a (.ins c dx vs) ∧ Rf K F B xs vs []
  | .ins .o c xs, v, cs => ∃ a dx vs ds, v = .ref a ∧ cs = (a, .ins c dx vs) :: ds ∧ Rf K F B xs vs ds
def Rs (K:PySem.W.Frag) (F:Hp) (B:Bool→Hp):List Tr→List V→Cs→Prop
  | [], vs, cs => vs = [] ∧ cs = []
  | x :: xs, vs, cs => ∃ v r c d, vs = v :: r ∧ cs = c ++ d ∧ R K F B x v c ∧ Rs K F B xs r d
def Rk (K:PySem.W.Frag) (F:Hp) (B:Bool→Hp):List (Key×Tr)→List (Key×V)→Cs→Prop
  | [], vs, cs => vs = [] ∧ cs = []
  | (k, x) :: xs, vs, cs => ∃ v r c d, vs = (k, v) :: r ∧ cs = c ++ d ∧ R K F B x v c ∧ Rk K F B xs r d
def Rf (K:PySem.W.Frag) (F:Hp) (B:Bool→Hp):List (Str×Tr)→List (Str×V)→Cs→Prop
  | [], vs, cs => vs = [] ∧ cs = []
  | (k, x) :: xs, vs, cs => ∃ v r c d, vs = (k, v) :: r ∧ cs = c ++ d ∧ R K F B x v c ∧ Rf K F B xs r d
end
mutual
def lend:Tr→Tr
  | .tup xs => .tup (lends xs)
  | .lst .o xs => .lst (.l true) (lends xs)
  | .dic .o xs => .dic (.l true) (lendk xs)
  | .ins .o c xs => .ins (.l true) c (lendf xs)
  | t => t
def lends:List Tr→List Tr
  | [] => [] | x :: xs => lend x :: lends xs
def lendk:List (Key×Tr)→List (Key×Tr)
  | [] => [] | (k, x) :: xs => (k, lend x) :: lendk xs
def lendf:List (Str×Tr)→List (Str×Tr)
  | [] => [] | (k, x) :: xs => (k, lend x) :: lendf xs
end
mutual
/-- no one changes it any more -/
def frz:Tr→Tr
  | .tup xs => .tup (frzs xs)
  | .lst .o xs => .lst .f (frzs xs)
  | .dic .o xs => .dic .f (frzk xs)
  | .ins .o c xs => .ins .f c (frzf xs)
  | t => t
def frzs:List Tr→List Tr
  | [] => [] | x :: xs => frz x :: frzs xs
def frzk:List (Key×Tr)→List (Key×Tr)
  | [] => [] | (k, x) :: xs => (k, frz x) :: frzk xs
def frzf:List (Str×Tr)→List (Str×Tr)
  | [] => [] | (k, x) :: xs => (k, frz x) :: frzf xs
end
mutual
/-- nothing lent in it -/
def nol:Tr→Bool
  | .tup xs => nols xs
  | .lst (.l _) _ => false
  | .dic (.l _) _ => false
  | .ins (.l _) _ _ => false
  | .lst _ xs => nols xs
  | .dic _ xs => nolk xs
  | .ins _ _ xs => nolf xs
  | _ => true
def nols:List Tr→Bool
  | [] => true | x :: xs => nol x && nols xs
def nolk:List (Key×Tr)→Bool
  | [] => true | (_, x) :: xs => nol x && nolk xs
def nolf:List (Str×Tr)→Bool
  | [] => true | (_, x) :: xs => nol x && nolf xs
end
mutual
/-- nothing lent for now in it -/
def nlt:Tr→Bool
  | .tup xs => nlts xs
  | .lst (.l true) _ => false
  | .dic (.l true) _ => false
  | .ins (.l true) _ _ => false
  | .lst _ xs => nlts xs
  | .dic _ xs => nltk xs
  | .ins _ _ xs => nltf xs
  | _ => true
def nlts:List Tr→Bool
  | [] => true | x :: xs => nlt x && nlts xs
def nltk:List (Key×Tr)→Bool
  | [] => true | (_, x) :: xs => nlt x && nltk xs
def nltf:List (Str×Tr)→Bool
  | [] => true | (_, x) :: xs => nlt x && nltf xs
end
mutual
/-- as a callee has it: what is lent is lent to it -/
def dn:Tr→Tr
  | .tup xs => .tup (dns xs)
  | .lst (.l _) xs => .lst (.l false) (dns xs)
  | .dic (.l _) xs => .dic (.l false) (dnk xs)
  | .ins (.l _) c xs => .ins (.l false) c (dnf xs)
  | .lst .o xs => .lst .o (dns xs)
  | .dic .o xs => .dic .o (dnk xs)
  | .ins .o c xs => .ins .o c (dnf xs)
  | .lst .f xs => .lst .f (dns xs)
  | .dic .f xs => .dic .f (dnk xs)
  | .ins .f c xs => .ins .f c (dnf xs)
  | t => t
def dns:List Tr→List Tr
  | [] => [] | x :: xs => dn x :: dns xs
def dnk:List (Key×Tr)→List (Key×Tr)
  | [] => [] | (k, x) :: xs => (k, dn x) :: dnk xs
def dnf:List (Str×Tr)→List (Str×Tr)
  | [] => [] | (k, x) :: xs => (k, dn x) :: dnf xs
end
mutual
theorem R.mo {K:PySem.W.Frag} {F F':Hp} {B B':Bool→Hp} (e:Le F F') (b:∀ k,Le (B k) (B' k)):∀ (t:Tr) {v:V} {cs:Cs},R K F B t v cs→R K F' B' t v cs
  | .int _, _, _, h => h
  | .bl _, _, _, h => h
  | .str _, _, _, h => h
  | .non, _, _, h => h
  | .hole, _, _, h => h
  | .ty _, _, _, h => h
  | .cl _, _, _, h => h
  | .exc _, _, _, ⟨z, a, h1, h2⟩ => ⟨z, a, h1, Le.exc e h2⟩
  | .tup xs, _, _, ⟨a, vs, h1, h2, h3⟩ => ⟨a, vs, h1, e.tup h2, Rs.mo e b xs h3⟩
  | .lst .f xs, _, _, ⟨z, a, vs, h1, h2, h3⟩ => ⟨z, a, vs, h1, e.lst h2, Rs.mo e b xs h3⟩
  | .lst (.l k) xs, _, _, ⟨z, a, vs, h1, h2, h3⟩ => ⟨z, a, vs, h1, (b k).lst h2, Rs.mo e b xs h3⟩
  | .lst .o xs, _, _, ⟨a, vs, ds, h1, h2, h3⟩ => ⟨a, vs, ds, h1, h2, Rs.mo e b xs h3⟩
  | .dic .f xs, _, _, ⟨z, a, vs, h1, h2, h3, h4⟩ => ⟨z, a, vs, h1, e.dic h2, Rk.mo e b xs h3, h4⟩
  | .dic (.l k) xs, _, _, ⟨z, a, vs, h1, h2, h3, h4⟩ => ⟨z, a, vs, h1, (b k).dic h2, Rk.mo e b xs h3, h4⟩
  | .dic .o xs, _, _, ⟨a, vs, ds, h1, h2, h3, h4⟩ => ⟨a, vs, ds, h1, h2, Rk.mo e b xs h3, h4⟩
  | .ins .f _ xs, _, _, ⟨z, a, dx, vs, h1, h2, h3⟩ => ⟨z, a, dx, vs, h1, e _ _ (by intro _ _ z; cases z) h2, Rf.mo e b xs h3⟩
  | .ins (.l k) _ xs, _, _, ⟨z, a, dx, vs, h1, h2, h3⟩ => ⟨z, a, dx, vs, h1, b k _ _ (by intro _ _ z; cases z) h2, Rf.mo e b xs h3⟩
  | .ins .o _ xs, _, _, ⟨a, dx, vs, ds, h1, h2, h3⟩ => ⟨a, dx, vs, ds, h1, h2, Rf.mo e b xs h3⟩
theorem Rs.mo {K:PySem.W.Frag} {F F':Hp} {B B':Bool→Hp} (e:Le F F') (b:∀ k,Le (B k) (B' k)):∀ (t:List Tr) {v:List V} {cs:Cs},Rs K F B t v cs→Rs K F' B' t v cs
  | [], _, _, h => h
  | x :: xs, _, _, ⟨v, r, c, d, h1, h2, h3, h4⟩ => ⟨v, r, c, d, h1, h2, R.mo e b x h3, Rs.mo e b xs h4⟩
theorem Rk.mo {K:PySem.W.Frag} {F F':Hp} {B B':Bool→Hp} (e:Le F F') (b:∀ k,Le (B k) (B' k)):∀ (t:List (Key×Tr)) {v:List (Key×V)} {cs:Cs},Rk K F B t v cs→Rk K F' B' t v cs
  | [], _, _, h => h
  | (_, x) :: xs, _, _, ⟨v, r, c, d, h1, h2, h3, h4⟩ => ⟨v, r, c, d, h1, h2, R.mo e b x h3, Rk.mo e b xs h4⟩
theorem Rf.mo {K:PySem.W.Frag} {F F':Hp} {B B':Bool→Hp} (e:Le F F') (b:∀ k,Le (B k) (B' k)):∀ (t:List (Str×Tr)) {v:List (Str×V)} {cs:Cs},Rf K F B t v cs→Rf K F' B' t v cs
  | [], _, _, h => h
  | (_, x) :: xs, _, _, ⟨v, r, c, d, h1, h2, h3, h4⟩ => ⟨v, r, c, d, h1, h2, R.mo e b x h3, Rf.mo e b xs h4⟩
end
end Pu
namespace Pu
open PySem L2 Vc Sf
section
variable {K:PySem.W.Frag} {F F' H H':Hp} {B B':Bool→Hp}
mutual
theorem R.lend (b:∀ k,Le (B k) (B' k)):∀ (t:Tr) {v:V} {cs:Cs},R K F B t v cs→(∀ p∈cs,B' true p.1=some p.2)→R K F B' (lend t) v []
  | .int _, _, _, ⟨h, _⟩, _ => ⟨h, rfl⟩
  | .bl _, _, _, ⟨h, _⟩, _ => ⟨h, rfl⟩
  | .str _, _, _, ⟨h, _⟩, _ => ⟨h, rfl⟩
  | .non, _, _, ⟨h, _⟩, _ => ⟨h, rfl⟩
  | .hole, _, _, h, _ => h.elim
  | .ty _, _, _, ⟨h, _⟩, _ => ⟨h, rfl⟩
  | .cl _, _, _, ⟨h, _⟩, _ => ⟨h, rfl⟩
  | .exc _, _, _, ⟨_, a, h, h'⟩, _ => ⟨rfl, a, h, h'⟩
  | .tup xs, _, _, ⟨a, vs, h1, h2, h3⟩, m => ⟨a, vs, h1, h2, Rs.lend b xs h3 m⟩
  | .lst .f xs, _, _, ⟨z, a, vs, h1, h2, h3⟩, _ => ⟨rfl, a, vs, h1, h2, Rs.mo (Le.refl F) b xs h3⟩
  | .lst (.l k) xs, _, _, ⟨z, a, vs, h1, h2, h3⟩, _ => ⟨rfl, a, vs, h1, (b k).lst h2, Rs.mo (Le.refl F) b xs h3⟩
  | .lst .o xs, _, _, ⟨a, vs, ds, h1, h2, h3⟩, m => ⟨rfl, a, vs, h1, SqL.of (m (a, .lst vs) (by rw [h2]; exact .head _)), Rs.lend b xs h3 fun p q => m p (by rw [h2]; exact .tail _ q)⟩
  | .dic .f xs, _, _, ⟨z, a, vs, h1, h2, h3, h4⟩, _ => ⟨rfl, a, vs, h1, h2, Rk.mo (Le.refl F) b xs h3, h4⟩
  | .dic (.l k) xs, _, _, ⟨z, a, vs, h1, h2, h3, h4⟩, _ => ⟨rfl, a, vs, h1, (b k).dic h2, Rk.mo (Le.refl F) b xs h3, h4⟩
  | .dic .o xs, _, _, ⟨a, vs, ds, h1, h2, h3, h4⟩, m => ⟨rfl, a, vs, h1, Rd.of (m (a, .dK vs) (by rw [h2]; exact .head _)), Rk.lend b xs h3 fun p q => m p (by rw [h2]; exact .tail _ q), by rw [lendk_keys]; exact h4⟩
  | .ins .f _ xs, _, _, ⟨z, a, dx, vs, h1, h2, h3⟩, _ => ⟨rfl, a, dx, vs, h1, h2, Rf.mo (Le.refl F) b xs h3⟩
  | .ins (.l k) _ xs, _, _, ⟨z, a, dx, vs, h1, h2, h3⟩, _ => ⟨rfl, a, dx, vs, h1, b k _ _ (by intro _ _ z; cases z) h2, Rf.mo (Le.refl F) b xs h3⟩
  | .ins .o _ xs, _, _, ⟨a, dx, vs, ds, h1, h2, h3⟩, m => ⟨rfl, a, dx, vs, h1, Rd.of (m (a, .ins _ dx vs) (by rw [h2]; exact .head _)), Rf.lend b xs h3 fun p q => m p (by rw [h2]; exact .tail _ q)⟩
theorem Rs.lend (b:∀ k,Le (B k) (B' k)):∀ (t:List Tr) {v:List V} {cs:Cs},Rs K F B t v cs→(∀ p∈cs,B' true p.1=some p.2)→Rs K F B' (lends t) v []
  | [], _, _, ⟨h, _⟩, _ => ⟨h, rfl⟩
  | x :: xs, _, _, ⟨v, r, c, d, h1, h2, h3, h4⟩, m => ⟨v, r, [], [], h1, rfl, R.lend b x h3 fun p q => m p (by rw [h2]; exact List.mem_append.mpr (.inl q)), Rs.lend b xs h4 fun p q => m p (by rw [h2]; exact List.mem_append.mpr (.inr q))⟩
theorem Rk.lend (b:∀ k,Le (B k) (B' k)):∀ (t:List (Key×Tr)) {v:List (Key×V)} {cs:Cs},Rk K F B t v cs→(∀ p∈cs,B' true p.1=some p.2)→Rk K F B' (lendk t) v []
  | [], _, _, ⟨h, _⟩, _ => ⟨h, rfl⟩
  | (_, x) :: xs, _, _, ⟨v, r, c, d, h1, h2, h3, h4⟩, m => ⟨v, r, [], [], h1, rfl, R.lend b x h3 fun p q => m p (by rw [h2]; exact List.mem_append.mpr (.inl q)), Rk.lend b xs h4 fun p q => m p (by rw [h2]; exact List.mem_append.mpr (.inr q))⟩
theorem Rf.lend (b:∀ k,Le (B k) (B' k)):∀ (t:List (Str×Tr)) {v:List (Str×V)} {cs:Cs},Rf K F B t v cs→(∀ p∈cs,B' true p.1=some p.2)→Rf K F B' (lendf t) v []
  | [], _, _, ⟨h, _⟩, _ => ⟨h, rfl⟩
  | (_, x) :: xs, _, _, ⟨v, r, c, d, h1, h2, h3, h4⟩, m => ⟨v, r, [], [], h1, rfl, R.lend b x h3 fun p q => m p (by rw [h2]; exact List.mem_append.mpr (.inl q)), Rf.lend b xs h4 fun p q => m p (by rw [h2]; exact List.mem_append.mpr (.inr q))⟩
theorem lendk_keys:∀ (xs:List (Key×Tr)),(lendk xs).map (·.1)=xs.map (·.1)
  | [] => rfl
  | (_, _) :: xs => by show _ :: _ = _ :: _; rw [lendk_keys xs]
end
theorem c'O:∀ (xs:List (Key×Tr)),(frzk xs).map (·.1)=xs.map (·.1)
  | [] => rfl
  | (_, _) :: xs => by show _ :: _ = _ :: _; rw [c'O xs]
mutual
/-- without lent parts B is not asked -/
theorem R.base:∀ (t:Tr) {v:V} {cs:Cs},nol t=true→R K F B t v cs→R K F B' t v cs
  | .int _, _, _, _, h => h
  | .bl _, _, _, _, h => h
  | .str _, _, _, _, h => h
  | .non, _, _, _, h => h
  | .hole, _, _, _, h => h
  | .ty _, _, _, _, h => h
  | .cl _, _, _, _, h => h
  | .exc _, _, _, _, h => h
  | .tup xs, _, _, n, ⟨a, vs, h1, h2, h3⟩ => ⟨a, vs, h1, h2, Rs.base xs n h3⟩
  | .lst .f xs, _, _, n, ⟨z, a, vs, h1, h2, h3⟩ => ⟨z, a, vs, h1, h2, Rs.base xs n h3⟩
  | .lst (.l k) xs, _, _, n, _ => by cases n
  | .lst .o xs, _, _, n, ⟨a, vs, ds, h1, h2, h3⟩ => ⟨a, vs, ds, h1, h2, Rs.base xs n h3⟩
  | .dic .f xs, _, _, n, ⟨z, a, vs, h1, h2, h3, h4⟩ => ⟨z, a, vs, h1, h2, Rk.base xs n h3, h4⟩
  | .dic (.l k) xs, _, _, n, _ => by cases n
  | .dic .o xs, _, _, n, ⟨a, vs, ds, h1, h2, h3, h4⟩ => ⟨a, vs, ds, h1, h2, Rk.base xs n h3, h4⟩
  | .ins .f _ xs, _, _, n, ⟨z, a, dx, vs, h1, h2, h3⟩ => ⟨z, a, dx, vs, h1, h2, Rf.base xs n h3⟩
  | .ins (.l k) _ xs, _, _, n, _ => by cases n
  | .ins .o _ xs, _, _, n, ⟨a, dx, vs, ds, h1, h2, h3⟩ => ⟨a, dx, vs, ds, h1, h2, Rf.base xs n h3⟩
theorem Rs.base:∀ (t:List Tr) {v:List V} {cs:Cs},nols t=true→Rs K F B t v cs→Rs K F B' t v cs
  | [], _, _, _, h => h
  | x :: xs, _, _, n, ⟨v, r, c, d, h1, h2, h3, h4⟩ => by
    rw [nols,Bool.and_eq_true] at n
    exact⟨v,r,c,d,h1,h2,R.base x n.1 h3,Rs.base xs n.2 h4⟩
theorem Rk.base:∀ (t:List (Key×Tr)) {v:List (Key×V)} {cs:Cs},nolk t=true→Rk K F B t v cs→Rk K F B' t v cs
  | [], _, _, _, h => h
  | (_, x) :: xs, _, _, n, ⟨v, r, c, d, h1, h2, h3, h4⟩ => by
    rw [nolk,Bool.and_eq_true] at n
    exact⟨v,r,c,d,h1,h2,R.base x n.1 h3,Rk.base xs n.2 h4⟩
theorem Rf.base:∀ (t:List (Str×Tr)) {v:List (Str×V)} {cs:Cs},nolf t=true→Rf K F B t v cs→Rf K F B' t v cs
  | [], _, _, _, h => h
  | (_, x) :: xs, _, _, n, ⟨v, r, c, d, h1, h2, h3, h4⟩ => by
    rw [nolf,Bool.and_eq_true] at n
    exact⟨v,r,c,d,h1,h2,R.base x n.1 h3,Rf.base xs n.2 h4⟩
end
mutual
theorem R.frz (b:Le F F'):∀ (t:Tr) {v:V} {cs:Cs},R K F B t v cs→(∀ p∈cs,F' p.1=some p.2)→R K F' B (frz t) v []
  | .int _, _, _, ⟨h, _⟩, _ => ⟨h, rfl⟩
  | .bl _, _, _, ⟨h, _⟩, _ => ⟨h, rfl⟩
  | .str _, _, _, ⟨h, _⟩, _ => ⟨h, rfl⟩
  | .non, _, _, ⟨h, _⟩, _ => ⟨h, rfl⟩
  | .hole, _, _, h, _ => h.elim
  | .ty _, _, _, ⟨h, _⟩, _ => ⟨h, rfl⟩
  | .cl _, _, _, ⟨h, _⟩, _ => ⟨h, rfl⟩
  | .exc _, _, _, ⟨_, a, h, h'⟩, _ => ⟨rfl, a, h, Le.exc b h'⟩
  | .tup xs, _, _, ⟨a, vs, h1, h2, h3⟩, m => ⟨a, vs, h1, b.tup h2, Rs.frz b xs h3 m⟩
  | .lst .f xs, _, _, ⟨z, a, vs, h1, h2, h3⟩, _ => ⟨rfl, a, vs, h1, b.lst h2, Rs.mo b (fun k => Le.refl (B k)) xs h3⟩
  | .lst (.l k) xs, _, _, ⟨z, a, vs, h1, h2, h3⟩, _ => ⟨rfl, a, vs, h1, h2, Rs.mo b (fun k => Le.refl (B k)) xs h3⟩
  | .lst .o xs, _, _, ⟨a, vs, ds, h1, h2, h3⟩, m => ⟨rfl, a, vs, h1, SqL.of (m (a, .lst vs) (by rw [h2]; exact .head _)), Rs.frz b xs h3 fun p q => m p (by rw [h2]; exact .tail _ q)⟩
  | .dic .f xs, _, _, ⟨z, a, vs, h1, h2, h3, h4⟩, _ => ⟨rfl, a, vs, h1, b.dic h2, Rk.mo b (fun k => Le.refl (B k)) xs h3, h4⟩
  | .dic (.l k) xs, _, _, ⟨z, a, vs, h1, h2, h3, h4⟩, _ => ⟨rfl, a, vs, h1, h2, Rk.mo b (fun k => Le.refl (B k)) xs h3, h4⟩
  | .dic .o xs, _, _, ⟨a, vs, ds, h1, h2, h3, h4⟩, m => ⟨rfl, a, vs, h1, Rd.of (m (a, .dK vs) (by rw [h2]; exact .head _)), Rk.frz b xs h3 fun p q => m p (by rw [h2]; exact .tail _ q), by rw [c'O]; exact h4⟩
  | .ins .f _ xs, _, _, ⟨z, a, dx, vs, h1, h2, h3⟩, _ => ⟨rfl, a, dx, vs, h1, b _ _ (by intro _ _ z; cases z) h2, Rf.mo b (fun k => Le.refl (B k)) xs h3⟩
  | .ins (.l k) _ xs, _, _, ⟨z, a, dx, vs, h1, h2, h3⟩, _ => ⟨rfl, a, dx, vs, h1, h2, Rf.mo b (fun k => Le.refl (B k)) xs h3⟩
  | .ins .o _ xs, _, _, ⟨a, dx, vs, ds, h1, h2, h3⟩, m => ⟨rfl, a, dx, vs, h1, Rd.of (m (a, .ins _ dx vs) (by rw [h2]; exact .head _)), Rf.frz b xs h3 fun p q => m p (by rw [h2]; exact .tail _ q)⟩
theorem Rs.frz (b:Le F F'):∀ (t:List Tr) {v:List V} {cs:Cs},Rs K F B t v cs→(∀ p∈cs,F' p.1=some p.2)→Rs K F' B (frzs t) v []
  | [], _, _, ⟨h, _⟩, _ => ⟨h, rfl⟩
  | x :: xs, _, _, ⟨v, r, c, d, h1, h2, h3, h4⟩, m => ⟨v, r, [], [], h1, rfl, R.frz b x h3 fun p q => m p (by rw [h2]; exact List.mem_append.mpr (.inl q)), Rs.frz b xs h4 fun p q => m p (by rw [h2]; exact List.mem_append.mpr (.inr q))⟩
theorem Rk.frz (b:Le F F'):∀ (t:List (Key×Tr)) {v:List (Key×V)} {cs:Cs},Rk K F B t v cs→(∀ p∈cs,F' p.1=some p.2)→Rk K F' B (frzk t) v []
  | [], _, _, ⟨h, _⟩, _ => ⟨h, rfl⟩
  | (_, x) :: xs, _, _, ⟨v, r, c, d, h1, h2, h3, h4⟩, m => ⟨v, r, [], [], h1, rfl, R.frz b x h3 fun p q => m p (by rw [h2]; exact List.mem_append.mpr (.inl q)), Rk.frz b xs h4 fun p q => m p (by rw [h2]; exact List.mem_append.mpr (.inr q))⟩
theorem Rf.frz (b:Le F F'):∀ (t:List (Str×Tr)) {v:List (Str×V)} {cs:Cs},Rf K F B t v cs→(∀ p∈cs,F' p.1=some p.2)→Rf K F' B (frzf t) v []
  | [], _, _, ⟨h, _⟩, _ => ⟨h, rfl⟩
  | (_, x) :: xs, _, _, ⟨v, r, c, d, h1, h2, h3, h4⟩, m => ⟨v, r, [], [], h1, rfl, R.frz b x h3 fun p q => m p (by rw [h2]; exact List.mem_append.mpr (.inl q)), Rf.frz b xs h4 fun p q => m p (by rw [h2]; exact List.mem_append.mpr (.inr q))⟩
end
def Plain (cs:Cs):Prop:=∀ p∈cs,∀ x u,p.2≠HO.frz x u
theorem Plain.nil:Plain []:=fun _ h=>nomatch h
theorem Plain.cons {a:Addr} {o:HO} {cs:Cs} (h:∀ x u,o≠HO.frz x u) (t:Plain cs):Plain ((a,o) :: cs):=fun p m=>by
  cases m with
  | head => exact h
  | tail _ m => exact t p m
theorem Plain.app {c d:Cs} (h:Plain c) (t:Plain d):Plain (c++d):=fun p m=>(List.mem_append.mp m).elim (h p) (t p)
mutual
theorem R.plain:∀ (t:Tr) {v:V} {cs:Cs},R K F B t v cs→Plain cs
  | .int _, _, _, ⟨_, h⟩ => by rw [h]; exact .nil
  | .bl _, _, _, ⟨_, h⟩ => by rw [h]; exact .nil
  | .str _, _, _, ⟨_, h⟩ => by rw [h]; exact .nil
  | .non, _, _, ⟨_, h⟩ => by rw [h]; exact .nil
  | .hole, _, _, h => h.elim
  | .ty _, _, _, ⟨_, h⟩ => by rw [h]; exact .nil
  | .cl _, _, _, ⟨_, h⟩ => by rw [h]; exact .nil
  | .exc _, _, _, ⟨h, _⟩ => by rw [h]; exact .nil
  | .tup xs, _, _, ⟨a, vs, h1, h2, h3⟩ => Rs.plain xs h3
  | .lst .f xs, _, _, ⟨z, _⟩ => by rw [z]; exact .nil
  | .lst (.l k) xs, _, _, ⟨z, _⟩ => by rw [z]; exact .nil
  | .lst .o xs, _, _, ⟨a, vs, ds, h1, h2, h3⟩ => by rw [h2]; exact .cons (by intro _ _ z; cases z) (Rs.plain xs h3)
  | .dic .f xs, _, _, ⟨z, _⟩ => by rw [z]; exact .nil
  | .dic (.l k) xs, _, _, ⟨z, _⟩ => by rw [z]; exact .nil
  | .dic .o xs, _, _, ⟨a, vs, ds, h1, h2, h3, _⟩ => by rw [h2]; exact .cons (by intro _ _ z; cases z) (Rk.plain xs h3)
  | .ins .f _ xs, _, _, ⟨z, _⟩ => by rw [z]; exact .nil
  | .ins (.l k) _ xs, _, _, ⟨z, _⟩ => by rw [z]; exact .nil
  | .ins .o _ xs, _, _, ⟨a, dx, vs, ds, h1, h2, h3⟩ => by rw [h2]; exact .cons (by intro _ _ z; cases z) (Rf.plain xs h3)
theorem Rs.plain:∀ (t:List Tr) {v:List V} {cs:Cs},Rs K F B t v cs→Plain cs
  | [], _, _, ⟨_, h⟩ => by rw [h]; exact .nil
  | x :: xs, _, _, ⟨v, r, c, d, h1, h2, h3, h4⟩ => by rw [h2]; exact (R.plain x h3).app (Rs.plain xs h4)
theorem Rk.plain:∀ (t:List (Key×Tr)) {v:List (Key×V)} {cs:Cs},Rk K F B t v cs→Plain cs
  | [], _, _, ⟨_, h⟩ => by rw [h]; exact .nil
  | (_, x) :: xs, _, _, ⟨v, r, c, d, h1, h2, h3, h4⟩ => by rw [h2]; exact (R.plain x h3).app (Rk.plain xs h4)
theorem Rf.plain:∀ (t:List (Str×Tr)) {v:List (Str×V)} {cs:Cs},Rf K F B t v cs→Plain cs
  | [], _, _, ⟨_, h⟩ => by rw [h]; exact .nil
  | (_, x) :: xs, _, _, ⟨v, r, c, d, h1, h2, h3, h4⟩ => by rw [h2]; exact (R.plain x h3).app (Rf.plain xs h4)
end
structure Cells (F H:Hp) (cs:Cs):Prop where
  h:∀ p∈cs,H p.1=some p.2
  f:∀ p∈cs,F p.1=none
  nd:(cs.map (·.1)).Nodup
theorem Cells.nil:Cells F H []:=⟨fun _ h=>(nomatch h),fun _ h=>(nomatch h),List.nodup_nil⟩
theorem Cells.gr {cs:Cs} (c:Cells F H cs) (g:Gr F H F' H'):Cells F' H' cs:=⟨fun p m=>g.h _ _ (c.h p m),fun p m=>g.own (c.f p m) (c.h p m),c.nd⟩
def New (H:Hp) (cs:Cs):Prop:=∀ p∈cs,H p.1=none
theorem New.nil:New H []:=fun _ h=>nomatch h
theorem New.back {cs:Cs} (s:Same H H') (n:New H' cs):New H cs:=fun p m=>s.free (n p m)
theorem Cells.app {c d:Cs} (h:Cells F H c) (t:Cells F H d) (n:∀ p∈c,∀ q∈d,p.1≠q.1):Cells F H (c++d):=
  ⟨fun p m=>(List.mem_append.mp m).elim (h.h p) (t.h p),fun p m=>(List.mem_append.mp m).elim (h.f p) (t.f p),by
    rw [List.map_append,List.nodup_append]
    refine⟨h.nd,t.nd,fun a ma b mb=>?_⟩
    obtain⟨p,mp,rfl⟩:=List.mem_map.mp ma
    obtain⟨q,mq,rfl⟩:=List.mem_map.mp mb
    exact n p mp q mq⟩
theorem Cells.left {c d:Cs} (h:Cells F H (c++d)):Cells F H c:=⟨fun p m=>h.h p (List.mem_append.mpr (.inl m)),fun p m=>h.f p (List.mem_append.mpr (.inl m)),by have:=h.nd;rw [List.map_append,List.nodup_append] at this;exact this.1⟩
theorem Cells.right {c d:Cs} (h:Cells F H (c++d)):Cells F H d:=⟨fun p m=>h.h p (List.mem_append.mpr (.inr m)),fun p m=>h.f p (List.mem_append.mpr (.inr m)),by have:=h.nd;rw [List.map_append,List.nodup_append] at this;exact this.2.1⟩
structure Out (K:PySem.W.Frag) (F:Hp) (B:Bool→Hp) (H F' H':Hp) (t:Tr) (v:V) (cs:Cs):Prop where
  g:Gr F H F' H'
  r:R K F' B t v cs
  c:Cells F' H' cs
  n:New H cs
structure OutA (K:PySem.W.Frag) (F:Hp) (B:Bool→Hp) (H F' H':Hp) (t:List Tr) (v:List V) (cs:Cs):Prop where
  g:Gr F H F' H'
  r:Rs K F' B t v cs
  c:Cells F' H' cs
  n:New H cs
def EnvQ (K:PySem.W.Frag) (F:Hp) (B:Bool→Hp) (σ:St) (ρ:List Tr):Prop:=∀ (i:Nat) (t:Tr),ρ[i]?=some t→t=.hole∨∃ v,σ[i]?=some (some v)∧R K F B t v []
theorem EnvQ.mo {σ:St} {ρ:List Tr} (e:EnvQ K F B σ ρ) (l:Le F F') (b:∀ k,Le (B k) (B' k)):EnvQ K F' B' σ ρ:=fun i t h=>(e i t h).imp id fun ⟨v,h1,h2⟩=>⟨v,h1,h2.mo l b t⟩
abbrev PE':=List Tr→(Tr→Prop)→Prop
abbrev PA':=List Tr→(List Tr→Prop)→Prop
abbrev PB':=List Tr→(Bool→Prop)→Prop
structure Md where
  z:Bool
  E:St→XK
  q:Value→Prop
def Md.mute (k:Md):Md:=⟨k.z,k.E,fun _=>False⟩
def Md.base (b:Bool):Md:=⟨b,fun _=>E0,fun _=>False⟩
structure Cxt (K:PySem.W.Frag) (k:Md) (F:Hp) (B:Bool→Hp) (H:Hp) (σ:St) (ρ:List Tr):Prop where
  s:Same F H
  b:∀ k,Same (B k) H
  z:k.z=true→Fz S0 F
  e:EnvQ K F B σ ρ
  x:∀ cls F' H',k.q cls→Gr F H F' H'→k.E σ cls none H'
theorem _root_.Vc.Gr.refl' (s:Same F H):Gr F H F H:=Gr.of (Gr0.refl s) (Fz.refl F)
theorem _root_.Vc.Gr.trans' {F2 H2:Hp} (a:Gr F H F' H') (b:Gr F' H' F2 H2):Gr F H F2 H2:=Gr.of (a.toGr0.tr b) (b.fz a.z)
theorem Cxt.gr {k:Md} {σ:St} {ρ:List Tr} (c:Cxt K k F B H σ ρ) (g:Gr F H F' H'):Cxt K k F' B H' σ ρ:=⟨g.s,fun k=>(c.b k).trans g.h,fun h=>g.fz (c.z h),c.e.mo g.le (fun k=>Le.refl (B k)),fun cls F' H' q g'=>c.x cls F' H' q (g.trans' g')⟩
def Sim (K:PySem.W.Frag) (k:Md) (te:TE) (pe:PE'):Prop:=∀ (F:Hp) (B:Bool→Hp) (H:Hp) (σ:St) (ρ:List Tr) (Q:VK) (Q':Tr→Prop),Cxt K k F B H σ ρ→pe ρ Q'→(∀ t v F' H' cs,Q' t→Out K F B H F' H' t v cs→Q v H')→te σ H Q
def SimA (K:PySem.W.Frag) (k:Md) (te:TA) (pe:PA'):Prop:=∀ (F:Hp) (B:Bool→Hp) (H:Hp) (σ:St) (ρ:List Tr) (Q:List V→Hp→Prop) (Q':List Tr→Prop),Cxt K k F B H σ ρ→pe ρ Q'→(∀ t v F' H' cs,Q' t→OutA K F B H F' H' t v cs→Q v H')→te σ H Q
def SimT (K:PySem.W.Frag) (k:Md) (te:TT) (pe:PB'):Prop:=∀ (F:Hp) (B:Bool→Hp) (H:Hp) (σ:St) (ρ:List Tr) (Q:Bool→Hp→Prop) (Q':Bool→Prop),Cxt K k F B H σ ρ→pe ρ Q'→(∀ b F' H',Q' b→Gr F H F' H'→Q b H')→te σ H Q
theorem Out.same {t:Tr} {v:V} (s:Same F H) (r:R K F B t v []):Out K F B H F H t v []:=⟨Gr.refl' s,r,.nil,.nil⟩
def pVar (i:Nat):PE':=fun ρ Q=>match ρ[i]? with | some .hole=>False | some t=>Q t | none=>False
theorem l'H {k:Md} (i:Nat):Sim K k (tVar i) (pVar i):=fun F B H σ ρ Q Q' c p q=>by
  unfold pVar at p
  cases h:ρ[i]? with
  | none => rw [h] at p; exact p.elim
  | some t =>
    rcases c.e i t h with rfl | ⟨v,h1,h2⟩
    · rw [h] at p;exact p.elim
    · refine⟨v,h1,q t v F H [] ?_ (Out.same c.s h2)⟩
      rw [h] at p
      cases t with
      | hole=>exact p.elim
      | _=>exact p
def pC (t:Tr):PE':=fun _ Q=>Q t
theorem b'S {k:Md} {v:V} {t:Tr} (h:∀ F B,R K F B t v []):Sim K k (tC v) (pC t):=fun F B H σ ρ Q Q' c p q=>q t v F H [] p (Out.same c.s (h F B))
theorem l'I {k:Md} {n:Int}:Sim K k (tC (.int n)) (pC (.int n)):=b'S fun _ _=>⟨rfl,rfl⟩
theorem l'J {k:Md} {n:Str}:Sim K k (tC (.str n)) (pC (.str n)):=b'S fun _ _=>⟨rfl,rfl⟩
theorem n'A {k:Md} {n:Bool}:Sim K k (tC (.bl n)) (pC (.bl n)):=b'S fun _ _=>⟨rfl,rfl⟩
theorem l'K {k:Md}:Sim K k (tC .non) (pC .non):=b'S fun _ _=>⟨rfl,rfl⟩
def p2 (pr:Tr→Tr→(Tr→Prop)→Prop) (pa pb:PE'):PE':=fun ρ Q=>pa ρ fun x=>pb ρ fun y=>pr x y Q
def Op2 (K:PySem.W.Frag) (k:Md) (r:R2) (pr:Tr→Tr→(Tr→Prop)→Prop):Prop:=∀ (F:Hp) (B:Bool→Hp) (H:Hp) (x y:V) (tx ty:Tr) (cx cy:Cs) (Q:VK) (Q':Tr→Prop),Same F H→(∀ k,Same (B k) H)→(k.z=true→Fz S0 F)→R K F B tx x cx→R K F B ty y cy→Cells F H cx→Cells F H cy→(∀ p∈cx,∀ q∈cy,p.1≠q.1)→pr tx ty Q'→
  (∀ t v F' H' cs,Q' t→Gr F H F' H'→R K F' B t v cs→Cells F' H' cs→(∀ p∈cs,H p.1=none∨p∈cx∨p∈cy)→Q v H')→r x y H Q
theorem c'p {k:Md} {r:R2} {pr:Tr→Tr→(Tr→Prop)→Prop} {ta tb:TE} {pa pb:PE'} (o:Op2 K k r pr) (ha:Sim K k ta pa) (hb:Sim K k tb pb):Sim K k (tOp r ta tb) (p2 pr pa pb):=fun F B H σ ρ Q Q' c p q=>by
  refine ha F B H σ ρ _ _ c p fun x v F1 H1 c1 p1 o1=>?_
  refine hb F1 B H1 σ ρ _ _ (c.gr o1.g) p1 fun y u F2 H2 c2 p2 o2=>?_
  refine o F2 B H2 v u x y c1 c2 Q Q' o2.g.s (fun k=>((c.b k).trans o1.g.h).trans o2.g.h) (fun h=>o2.g.fz (o1.g.fz (c.z h))) (o1.r.mo o2.g.le (fun k=>Le.refl (B k)) x) o2.r (o1.c.gr o2.g) o2.c (fun p mp q mq e=>by have:=o1.c.h p mp;rw [e,o2.n q mq] at this;cases this) p2 fun t v' F3 H3 cs qt g r' c' n=>?_
  refine q t v' F3 H3 cs qt ⟨(o1.g.trans' o2.g).trans' g,r',c',fun p m=>?_⟩
  rcases n p m with z | z | z
  · exact (o1.g.h.trans o2.g.h).free z
  · exact o1.n p z
  · exact o1.g.h.free (o2.n p z)
def p1 (pr:Tr→(Tr→Prop)→Prop) (pa:PE'):PE':=fun ρ Q=>pa ρ fun x=>pr x Q
def Op1 (K:PySem.W.Frag) (k:Md) (r:V→Hp→VK→Prop) (pr:Tr→(Tr→Prop)→Prop):Prop:=∀ (F:Hp) (B:Bool→Hp) (H:Hp) (x:V) (tx:Tr) (cx:Cs) (Q:VK) (Q':Tr→Prop),Same F H→(∀ k,Same (B k) H)→(k.z=true→Fz S0 F)→R K F B tx x cx→Cells F H cx→pr tx Q'→
  (∀ t v F' H' cs,Q' t→Gr F H F' H'→R K F' B t v cs→Cells F' H' cs→(∀ p∈cs,H p.1=none∨p∈cx)→Q v H')→r x H Q
theorem n'B {k:Md} {r:V→Hp→VK→Prop} {pr:Tr→(Tr→Prop)→Prop} {ta:TE} {pa:PE'} (o:Op1 K k r pr) (ha:Sim K k ta pa):Sim K k (tUn r ta) (p1 pr pa):=fun F B H σ ρ Q Q' c p q=>by
  refine ha F B H σ ρ _ _ c p fun x v F1 H1 c1 p1 o1=>?_
  refine o F1 B H1 v x c1 Q Q' o1.g.s (fun k=>(c.b k).trans o1.g.h) (fun h=>o1.g.fz (c.z h)) o1.r o1.c p1 fun t v' F3 H3 cs qt g r' c' n=>?_
  refine q t v' F3 H3 cs qt ⟨o1.g.trans' g,r',c',fun p m=>?_⟩
  rcases n p m with z | z
  · exact o1.g.h.free z
  · exact o1.n p z
def pNil:PA':=fun _ Q=>Q []
def pCons (pe:PE') (pa:PA'):PA':=fun ρ Q=>pe ρ fun x=>pa ρ fun xs=>Q (x :: xs)
theorem l'L {k:Md}:SimA K k tNil pNil:=fun F B H σ ρ Q Q' c p q=>q [] [] F H [] p ⟨Gr.refl' c.s,⟨rfl,rfl⟩,.nil,.nil⟩
theorem j'd {k:Md} {te:TE} {ta:TA} {pe:PE'} {pa:PA'} (h:Sim K k te pe) (ha:SimA K k ta pa):SimA K k (tCons te ta) (pCons pe pa):=fun F B H σ ρ Q Q' c p q=>by
  refine h F B H σ ρ _ _ c p fun x v F1 H1 c1 p1 o1=>?_
  refine ha F1 B H1 σ ρ _ _ (c.gr o1.g) p1 fun xs vs F2 H2 c2 p2 o2=>?_
  refine q (x :: xs) (v :: vs) F2 H2 (c1++c2) p2 ⟨o1.g.trans' o2.g,⟨v,vs,c1,c2,rfl,rfl,o1.r.mo o2.g.le (fun k=>Le.refl (B k)) x,o2.r⟩,(o1.c.gr o2.g).app o2.c fun p mp q mq e=>?_,fun p m=>?_⟩
  · have:=o1.c.h p mp
    rw [e,o2.n q mq] at this
    cases this
  · rcases List.mem_append.mp m with m | m
    · exact o1.n p m
    · exact o1.g.h.free (o2.n p m)
theorem Rs.length:∀ {t:List Tr} {v:List V} {cs:Cs},Rs K F B t v cs→v.length=t.length
  | [], _, _, ⟨h, _⟩ => by rw [h]; rfl
  | x :: xs, _, _, ⟨v, r, c, d, h1, h2, h3, h4⟩ => by rw [h1, List.length_cons, List.length_cons, Rs.length h4]
theorem Rs.at:∀ {t:List Tr} {v:List V} {cs:Cs} {i:Nat} {x:Tr},Rs K F B t v cs→t[i]?=some x→∃ u c,v[i]?=some u∧R K F B x u c∧∀ p∈c,p∈cs
  | x :: xs, _, _, 0, y, ⟨v, r, c, d, h1, h2, h3, h4⟩, h => by
    cases h
    exact⟨v,c,by rw [h1];rfl,h3,fun p m=>by rw [h2];exact List.mem_append.mpr (.inl m)⟩
  | x :: xs, _, _, i + 1, y, ⟨v, r, c, d, h1, h2, h3, h4⟩, h => by
    obtain⟨u,e,a1,a2,a3⟩:=Rs.at (i:=i) h4 h
    exact⟨u,e,by rw [h1];exact a1,a2,fun p m=>by rw [h2];exact List.mem_append.mpr (.inr (a3 p m))⟩
theorem Rs.at':∀ {t:List Tr} {v:List V} {cs:Cs} {i:Nat} {x:Tr},Rs K F B t v cs→Cells F H cs→t[i]?=some x→∃ u c,v[i]?=some u∧R K F B x u c∧Cells F H c∧∀ p∈c,p∈cs
  | x :: xs, _, _, 0, y, ⟨v, r, c, d, h1, h2, h3, h4⟩, hc, h => by
    cases h
    rw [h2] at hc
    exact⟨v,c,by rw [h1];rfl,h3,hc.left,fun p m=>by rw [h2];exact List.mem_append.mpr (.inl m)⟩
  | x :: xs, _, _, i + 1, y, ⟨v, r, c, d, h1, h2, h3, h4⟩, hc, h => by
    rw [h2] at hc
    obtain⟨u,e,a1,a2,a3,a4⟩:=Rs.at' (i:=i) h4 hc.right h
    exact⟨u,e,by rw [h1];exact a1,a2,a3,fun p m=>by rw [h2];exact List.mem_append.mpr (.inr (a4 p m))⟩
theorem Rk.keys:∀ {t:List (Key×Tr)} {v:List (Key×V)} {cs:Cs},Rk K F B t v cs→v.map (·.1)=t.map (·.1)
  | [], _, _, ⟨h, _⟩ => by rw [h]; rfl
  | (k, x) :: xs, _, _, ⟨v, r, c, d, h1, h2, h3, h4⟩ => by rw [h1, List.map_cons, List.map_cons, Rk.keys h4]
theorem Rk.length {t:List (Key×Tr)} {v:List (Key×V)} {cs:Cs} (h:Rk K F B t v cs):v.length=t.length:=by have:=congrArg List.length h.keys;simpa using this
def look (m:List (Key×Tr)) (k:Key):Option Tr:=(m.find? fun p=>decide (p.1=k)).map (·.2)
theorem Rk.look:∀ {t:List (Key×Tr)} {v:List (Key×V)} {cs:Cs} (k:Key),Rk K F B t v cs→Cells F H cs→(look t k=none∧valV v k=none)∨∃ x u c,look t k=some x∧valV v k=some u∧R K F B x u c∧Cells F H c∧∀ p∈c,p∈cs
  | [], _, _, k, ⟨h, _⟩, _ => .inl ⟨rfl, by rw [h]; rfl⟩
  | (k', x) :: xs, _, _, k, ⟨v, r, c, d, h1, h2, h3, h4⟩, hc => by
    rw [h2] at hc
    by_cases e:k'=k
    · refine .inr ⟨x,v,c,?_,?_,h3,hc.left,fun p m=>by rw [h2];exact List.mem_append.mpr (.inl m)⟩
      · unfold Pu.look;rw [List.find?_cons_of_pos (by simpa using e)];rfl
      · unfold valV;rw [h1,List.find?_cons_of_pos (by simpa using e)];rfl
    · have e1:Pu.look ((k',x) :: xs) k=Pu.look xs k:=by unfold Pu.look;rw [List.find?_cons_of_neg (by simpa using e)]
      have e2:valV ((k',v) :: r) k=valV r k:=by unfold valV;rw [List.find?_cons_of_neg (by simpa using e)]
      rw [h1,e1,e2]
      rcases Rk.look (t:=xs) (v:=r) (cs:=d) k h4 hc.right with z | ⟨y,u,c',a1,a2,a3,a4,a5⟩
      · exact .inl z
      · exact .inr ⟨y,u,c',a1,a2,a3,a4,fun p m=>by rw [h2];exact List.mem_append.mpr (.inr (a5 p m))⟩
theorem R.lstH {f:Fl} {xs:List Tr} {v:V} {cs:Cs} (s:Same F H) (b:∀ k,Same (B k) H) (r:R K F B (.lst f xs) v cs) (c:Cells F H cs):∃ a vs ds,v=.ref a∧SqL K H a vs∧Rs K F B xs vs ds∧Cells F H ds∧∀ p∈ds,p∈cs:=by
  cases f with
  | f => obtain ⟨z, a, vs, h1, h2, h3⟩ := r; exact ⟨a, vs, [], h1, s.seq h2, h3, .nil, fun _ m => nomatch m⟩
  | l k => obtain ⟨z, a, vs, h1, h2, h3⟩ := r; exact ⟨a, vs, [], h1, (b k).seq h2, h3, .nil, fun _ m => nomatch m⟩
  | o =>
    obtain⟨a,vs,ds,h1,h2,h3⟩:=r
    rw [h2] at c
    exact⟨a,vs,ds,h1,SqL.of (c.h _ (.head _)),h3,Cells.right (c:=[_]) c,fun p m=>by rw [h2];exact .tail _ m⟩
theorem R.tupH {xs:List Tr} {v:V} {cs:Cs} (s:Same F H) (r:R K F B (.tup xs) v cs):∃ a vs,v=.ref a∧SqT K H a vs∧Rs K F B xs vs cs:=by
  obtain⟨a,vs,h1,h2,h3⟩:=r
  exact⟨a,vs,h1,s.tup h2,h3⟩
theorem R.dicH {f:Fl} {xs:List (Key×Tr)} {v:V} {cs:Cs} (s:Same F H) (b:∀ k,Same (B k) H) (r:R K F B (.dic f xs) v cs) (c:Cells F H cs):∃ a vs ds,v=.ref a∧Rd H a (.dK vs)∧Rk K F B xs vs ds∧Cells F H ds∧∀ p∈ds,p∈cs:=by
  cases f with
  | f => obtain ⟨z, a, vs, h1, h2, h3, _⟩ := r; exact ⟨a, vs, [], h1, s.rd h2, h3, .nil, fun _ m => nomatch m⟩
  | l k => obtain ⟨z, a, vs, h1, h2, h3, _⟩ := r; exact ⟨a, vs, [], h1, (b k).rd h2, h3, .nil, fun _ m => nomatch m⟩
  | o =>
    obtain⟨a,vs,ds,h1,h2,h3,_⟩:=r
    rw [h2] at c
    exact⟨a,vs,ds,h1,Rd.of (c.h _ (.head _)),h3,Cells.right (c:=[_]) c,fun p m=>by rw [h2];exact .tail _ m⟩
theorem l'M {xs:List Tr} {vs:List V} {cs:Cs} {p:Addr} (s:Same F H) (r:Rs K F B xs vs cs) (c:Cells F H cs) (hp:H p=none):∃ F',Gr F H F' (upd H p (.tup vs))∧R K F' B (.tup xs) (.ref p) cs∧Cells F' (upd H p (.tup vs)) cs:=by
  obtain⟨F',g,e⟩:=al2 (o:=.tup vs) s (by intro _ _ z;cases z) hp
  exact⟨F',g,⟨p,vs,rfl,SqT.of e,r.mo g.le (fun k=>Le.refl (B k)) xs⟩,c.gr g⟩
theorem Gr.own1 {o:HO} {p:Addr} (s:Same F H) (hp:H p=none):Gr F H F (upd H p o):=⟨⟨Same.upd hp,Same.refl F,s.updN (s.free hp),fun a u h e=>by rw [h] at e;cases e⟩,Fz.refl F⟩
theorem e'w {o:HO} {cs:Cs} {p:Addr} (s:Same F H) (c:Cells F H cs) (hp:H p=none):Cells F (upd H p o) ((p,o) :: cs):=
  ⟨fun q m=>by
    cases m with
    | head=>exact a'u
    | tail _ m=>show upd H p o q.1=_;rw [a'h (a'q (c.h q m) hp)];exact c.h q m,
   fun q m=>by
    cases m with
    | head=>exact s.free hp
    | tail _ m=>exact c.f q m,
   by
    rw [List.map_cons,List.nodup_cons]
    refine⟨fun m=>?_,c.nd⟩
    obtain⟨q,mq,e⟩:=List.mem_map.mp m
    have e:q.1=p:=e
    have:=c.h q mq
    rw [e,hp] at this
    cases this⟩
def pTup (pa:PA'):PE':=fun ρ Q=>pa ρ fun xs=>xs.length≤10000∧Q (.tup xs)
def pLst (pa:PA'):PE':=fun ρ Q=>pa ρ fun xs=>xs.length≤10000∧Q (.lst .o xs)
theorem b'u {n:Nat} (h:n≤1000000):n≤sizeLine:=Nat.le_trans h (by decide)
theorem l'N {k:Md} {ta:TA} {pa:PA'} (h:SimA K k ta pa):Sim K k (tTup ta) (pTup pa):=fun F B H σ ρ Q Q' c p q=>by
  refine h F B H σ ρ _ _ c p fun xs vs F1 H1 c1 p1 o1=>⟨by rw [o1.r.length];exact b'u (Nat.le_trans p1.1 (by decide)),fun a ha=>?_⟩
  obtain⟨F2,g,r,c2⟩:=l'M o1.g.s o1.r o1.c ha
  exact q (.tup xs) (.ref a) F2 _ c1 p1.2 ⟨o1.g.trans' g,r,c2,o1.n⟩
theorem l'O {k:Md} {ta:TA} {pa:PA'} (h:SimA K k ta pa):Sim K k (tLst ta) (pLst pa):=fun F B H σ ρ Q Q' c p q=>by
  refine h F B H σ ρ _ _ c p fun xs vs F1 H1 c1 p1 o1=>⟨by rw [o1.r.length];exact b'u (Nat.le_trans p1.1 (by decide)),fun a ha=>?_⟩
  refine q (.lst .o xs) (.ref a) F1 _ ((a,.lst vs) :: c1) p1.2 ⟨o1.g.trans' (Gr.own1 o1.g.s ha),⟨a,vs,c1,rfl,rfl,o1.r⟩,e'w o1.g.s o1.c ha,fun p m=>?_⟩
  cases m with
  | head => exact o1.g.h.free ha
  | tail _ m => exact o1.n p m
end
end Pu
namespace Pu
open PySem PySem.Spec PyProof.Rows L2 Vc Sf
section
variable {X:Cx}
def rIxD:R2:=fun x y H Q=>∃ a v,x=.ref a∧DGet H a y (some v)∧Q v H
theorem l'P (hu:X.A.units+1<cLine):IxR X rIxD:=by
  intro value slice pins s σ H x y v u Q I rx ry h hs
  obtain⟨a,z,rfl,g,q⟩:=h
  obtain rfl:v=Value.ref a:=rx
  have hT:=e'e I g
  unfold subscriptTail
  refine wpAny_bind ?_
  rw [getitemInPython_of_ne hT.not_modules]
  refine wpAny_bind (wpAny_specialOf hT PySem.F.slot_dict_getitem.lookup ?_)
  have fin:wpAny (model X.prog X.w) X.A (subscripted slice false (.ref a) u) (fun r s₃=>wpAny (model X.prog X.w) X.A (letTemporaryGo value (.ref a) r >>= fun _=>pure r) (EP X pins σ Q) X.xe s₃) X.xe s:=by
    rw [hs]
    exact wpAny_operating (g'F hu I g ry fun w' s3 I3 rw'=>wpAny_bind (wpAny_letTemporaryGo (wpAny_pure ⟨z,H,I3,rw',q⟩)))
  first
    | exact wpAny_pure (wpAny_bind fin)
    | exact wpAny_bind (wpAny_pure (wpAny_bind fin))
    | exact wpAny_bind fin
def rAddU (K:PySem.W.Frag):R2:=fun x y H Q=>rI0 (fun i j=>.int (i+j)) x y H Q∨(fun x y H Q=>(fun x y H Q=>∃ i j,x=.str i∧y=.str j∧i.length+j.length≤sizeLine∧Q (.str (i++j)) H) x y H Q∨rCatS K x y H Q) x y H Q
theorem o'Y:OpR X (binaryOp .Add) (rAddU X.K):=op_add.or (op_add_str.or l'G)
def rMulU:R2:=fun x y H Q=>rI CMulX (fun i j=>.int (i*j)) x y H Q∨rRepS x y H Q
theorem o'Z:OpR X (binaryOp .Mult) rMulU:=op_mulB.or f'S
def rIxU (K:PySem.W.Frag):R2:=fun x y H Q=>rIx K x y H Q∨rIxD x y H Q
theorem p't (hu:X.A.units+1<cLine):IxR X (rIxU X.K):=ix_seq.or (l'P hu)
def rLtU:R2:=fun x y H Q=>rI0 (fun i j=>.bl (decide (i<j))) x y H Q∨(fun x y H Q=>∃ i j,x=.str i∧y=.str j∧Q (.bl (decide (i.cps.toList<j.cps.toList))) H) x y H Q
theorem j'e:OpR X (compareOp .Lt) rLtU:=op_lt.or g'z
def rGtU:R2:=fun x y H Q=>rI0 (fun i j=>.bl (decide (j<i))) x y H Q∨(fun x y H Q=>∃ i j,x=.str i∧y=.str j∧Q (.bl (decide (j.cps.toList<i.cps.toList))) H) x y H Q
theorem c'd:OpR X (compareOp .Gt) rGtU:=op_gt.or g'S
end
section
variable {K:PySem.W.Frag} {F F' H H':Hp} {B B':Bool→Hp} {k:Md}
def wInt2 (C:Int→Int→Prop) (g:Int→Int→Tr) (x y:Tr) (Q:Tr→Prop):Prop:=match x,y with
  | .int i, .int j => C i j ∧ Q (g i j)
  | _, _ => False
theorem f'T {C:Int→Int→Prop} {g:Int→Int→V} {t:Int→Int→Tr} (h:∀ i j F B,R K F B (t i j) (g i j) []):Op2 K k (rI C g) (wInt2 C t):=fun F B H x y tx ty cx cy Q Q' s b z rx ry hx hy hd p q=>by
  unfold wInt2 at p
  split at p
  · obtain⟨rfl,_⟩:=rx
    obtain⟨rfl,_⟩:=ry
    exact⟨_,_,rfl,rfl,p.1,q _ _ F H [] p.2 (Gr.refl' s) (h _ _ F B) .nil fun _ m=>nomatch m⟩
  · exact p.elim
theorem n'C {g:Int→Int→V} {t:Int→Int→Tr} (h:∀ i j F B,R K F B (t i j) (g i j) []):Op2 K k (rI0 g) (wInt2 (fun _ _=>True) t):=fun F B H x y tx ty cx cy Q Q' s b z rx ry hx hy hd p q=>by
  unfold wInt2 at p
  split at p
  · obtain⟨rfl,_⟩:=rx
    obtain⟨rfl,_⟩:=ry
    exact⟨_,_,rfl,rfl,q _ _ F H [] p.2 (Gr.refl' s) (h _ _ F B) .nil fun _ m=>nomatch m⟩
  · exact p.elim
def wAdd (x y:Tr) (Q:Tr→Prop):Prop:=match x,y with
  | .int i, .int j => Q (.int (i + j))
  | .str i, .str j => i.length + j.length ≤ 1000000 ∧ Q (.str (i ++ j))
  | .lst _ xs, .lst _ ys => xs.length + ys.length ≤ 1000000 ∧ Q (.lst .o (xs ++ ys))
  | _, _ => False
theorem Rs.append:∀ {xs ys:List Tr} {vs us:List V} {c d:Cs},Rs K F B xs vs c→Rs K F B ys us d→Rs K F B (xs++ys) (vs++us) (c++d)
  | [], _, _, _, _, _, ⟨h1, h2⟩, h => by rw [h1, h2]; exact h
  | x :: xs, _, _, _, _, _, ⟨v, r, c, d, h1, h2, h3, h4⟩, h => by rw [h1, h2]; exact ⟨v, r ++ _, c, d ++ _, rfl, by rw [List.append_assoc], h3, Rs.append h4 h⟩
theorem b'B {xs:List Tr} {vs:List V} {cs:Cs} {p:Addr} (s:Same F H) (r:Rs K F B xs vs cs) (c:Cells F H cs) (hp:H p=none):Gr F H F (upd H p (.lst vs))∧R K F B (.lst .o xs) (.ref p) ((p,.lst vs) :: cs)∧Cells F (upd H p (.lst vs)) ((p,.lst vs) :: cs):=
  ⟨Gr.own1 s hp,⟨p,vs,cs,rfl,rfl,r⟩,e'w s c hp⟩
theorem l'Q:Op2 K k (rAddU K) wAdd:=fun F B H x y tx ty cx cy Q Q' s b z rx ry hx hy hd p q=>by
  unfold wAdd at p
  split at p
  · obtain⟨rfl,_⟩:=rx
    obtain⟨rfl,_⟩:=ry
    exact .inl ⟨_,_,rfl,rfl,q _ _ F H [] p (Gr.refl' s) ⟨rfl,rfl⟩ .nil fun _ m=>nomatch m⟩
  · obtain⟨rfl,_⟩:=rx
    obtain⟨rfl,_⟩:=ry
    exact .inr (.inl ⟨_,_,rfl,rfl,b'u p.1,q _ _ F H [] p.2 (Gr.refl' s) ⟨rfl,rfl⟩ .nil fun _ m=>nomatch m⟩)
  · obtain⟨a,vs,ds,rfl,h1,h2,h3,h4⟩:=rx.lstH s b hx
    obtain⟨a',us,es,rfl,g1,g2,g3,g4⟩:=ry.lstH s b hy
    refine .inr (.inr ⟨_,_,_,_,rfl,rfl,h1,g1,b'u (by rw [h2.length,g2.length];exact p.1),fun l hl=>?_⟩)
    obtain⟨n1,n2,n3⟩:=b'B s (h2.append g2) (h3.app g3 fun p mp q mq=>hd p (h4 p mp) q (g4 q mq)) hl
    refine q _ _ F _ _ p.2 n1 n2 n3 fun p m=>?_
    cases m with
    | head=>exact .inl hl
    | tail _ m=>exact (List.mem_append.mp m).elim (fun m=>.inr (.inl (h4 p m))) (fun m=>.inr (.inr (g4 p m)))
  · exact p.elim
def wMul (x y:Tr) (Q:Tr→Prop):Prop:=match x,y with
  | .int i, .int j => CMulX i j ∧ Q (.int (i * j))
  | _, _ => False
theorem l'R:Op2 K k rMulU wMul:=fun F B H x y tx ty cx cy Q Q' s b z rx ry hx hy hd p q=>by
  unfold wMul at p
  split at p
  · obtain⟨rfl,_⟩:=rx
    obtain⟨rfl,_⟩:=ry
    exact .inl ⟨_,_,rfl,rfl,p.1,q _ _ F H [] p.2 (Gr.refl' s) ⟨rfl,rfl⟩ .nil fun _ m=>nomatch m⟩
  · exact p.elim
def keyT:Tr→Option Key
  | .int n => some (.inl n)
  | .str x => some (.inr x)
  | _ => none
theorem n'D {t:Tr} {v:V} {cs:Cs} {y:Key} (r:R K F B t v cs) (h:keyT t=some y):v=kV y:=by
  cases t with
  | int n => cases h; exact r.1
  | str n => cases h; exact r.1
  | _ => cases h
def wIdx (x y:Tr) (Q:Tr→Prop):Prop:=match x,y with
  | .tup xs, .int i => (match atI xs i with | some t => Q t | none => False)
  | .lst _ xs, .int i => (match atI xs i with | some t => Q t | none => False)
  | .str x, .int i => x.length ≤ 1000000 ∧ (match atI x.cps.toList i with | some c => Q (.str ⟨#[c]⟩) | none => False)
  | .dic _ m, y => (match keyT y with | some y => (match look m y with | some t => Q t | none => False) | none => False)
  | _, _ => False
theorem Rs.atI {xs:List Tr} {vs:List V} {cs:Cs} {i:Int} {t:Tr} (r:Rs K F B xs vs cs) (c:Cells F H cs) (h:L2.atI xs i=some t):∃ u d,L2.atI vs i=some u∧R K F B t u d∧Cells F H d∧∀ p∈d,p∈cs:=by
  unfold L2.atI at h ⊢
  rw [r.length]
  cases e:ixN xs.length i with
  | none => rw [e] at h; cases h
  | some j => rw [e] at h; exact r.at' c h
theorem l'S:Op2 K k (rIxU K) wIdx:=fun F B H x y tx ty cx cy Q Q' s b z rx ry hx hy hd p q=>by
  unfold wIdx at p
  split at p
  · obtain⟨rfl,_⟩:=ry
    split at p
    · rename_i e
      obtain⟨a,vs,rfl,h1,h2⟩:=rx.tupH s
      obtain⟨u,d,e1,e2,e3,e4⟩:=h2.atI hx e
      exact .inl (.inr (.inl ⟨_,_,_,_,rfl,rfl,h1,e1,q _ _ F H d p (Gr.refl' s) e2 e3 fun p m=>.inr (.inl (e4 p m))⟩))
    · exact p.elim
  · obtain⟨rfl,_⟩:=ry
    split at p
    · rename_i e
      obtain⟨a,vs,ds,rfl,h1,h2,h3,h4⟩:=rx.lstH s b hx
      obtain⟨u,d,e1,e2,e3,e4⟩:=h2.atI h3 e
      exact .inl (.inl ⟨_,_,_,_,rfl,rfl,h1,e1,q _ _ F H d p (Gr.refl' s) e2 e3 fun p m=>.inr (.inl (h4 p (e4 p m)))⟩)
    · exact p.elim
  · obtain⟨rfl,_⟩:=ry
    obtain⟨rfl,_⟩:=rx
    obtain⟨hl,p⟩:=p
    split at p
    · rename_i e
      exact .inl (.inr (.inr ⟨_,_,_,rfl,rfl,b'u hl,e,q _ _ F H [] p (Gr.refl' s) ⟨rfl,rfl⟩ .nil fun _ m=>nomatch m⟩))
    · exact p.elim
  · split at p
    · rename_i e
      split at p
      · rename_i e'
        obtain⟨a,vs,ds,rfl,h1,h2,h3,h4⟩:=rx.dicH s b hx
        obtain rfl:=n'D ry e
        rcases h2.look _ h3 with ⟨z,_⟩ | ⟨x,u,c,a1,a2,a3,a4,a5⟩
        · rw [z] at e';cases e'
        · rw [a1] at e'
          cases e'
          exact .inr ⟨a,u,rfl,.inl ⟨vs,_,h1,rfl,a2.symm⟩,q _ _ F H c p (Gr.refl' s) a3 a4 fun p m=>.inr (.inl (h4 p (a5 p m)))⟩
      · exact p.elim
    · exact p.elim
  · exact p.elim
def wLt (x y:Tr) (Q:Tr→Prop):Prop:=match x,y with
  | .int i, .int j => Q (.bl (decide (i < j)))
  | .str i, .str j => Q (.bl (decide (i.cps.toList < j.cps.toList)))
  | _, _ => False
theorem d't:Op2 K k rLtU wLt:=fun F B H x y tx ty cx cy Q Q' s b z rx ry hx hy hd p q=>by
  unfold wLt at p
  split at p
  · obtain⟨rfl,_⟩:=rx
    obtain⟨rfl,_⟩:=ry
    exact .inl ⟨_,_,rfl,rfl,q _ _ F H [] p (Gr.refl' s) ⟨rfl,rfl⟩ .nil fun _ m=>nomatch m⟩
  · obtain⟨rfl,_⟩:=rx
    obtain⟨rfl,_⟩:=ry
    exact .inr ⟨_,_,rfl,rfl,q _ _ F H [] p (Gr.refl' s) ⟨rfl,rfl⟩ .nil fun _ m=>nomatch m⟩
  · exact p.elim
def wGt (x y:Tr) (Q:Tr→Prop):Prop:=match x,y with
  | .int i, .int j => Q (.bl (decide (j < i)))
  | .str i, .str j => Q (.bl (decide (j.cps.toList < i.cps.toList)))
  | _, _ => False
theorem b'l:Op2 K k rGtU wGt:=fun F B H x y tx ty cx cy Q Q' s b z rx ry hx hy hd p q=>by
  unfold wGt at p
  split at p
  · obtain⟨rfl,_⟩:=rx
    obtain⟨rfl,_⟩:=ry
    exact .inl ⟨_,_,rfl,rfl,q _ _ F H [] p (Gr.refl' s) ⟨rfl,rfl⟩ .nil fun _ m=>nomatch m⟩
  · obtain⟨rfl,_⟩:=rx
    obtain⟨rfl,_⟩:=ry
    exact .inr ⟨_,_,rfl,rfl,q _ _ F H [] p (Gr.refl' s) ⟨rfl,rfl⟩ .nil fun _ m=>nomatch m⟩
  · exact p.elim
theorem l'T:Op2 K k (rI0 fun i j=>.int (i - j)) (wInt2 (fun _ _=>True) fun i j=>.int (i - j)):=n'C fun _ _ _ _=>⟨rfl,rfl⟩
theorem j'f:Op2 K k (rI CDivB fun i j=>.int (i.fdiv j)) (wInt2 CDivB fun i j=>.int (i.fdiv j)):=f'T fun _ _ _ _=>⟨rfl,rfl⟩
theorem l'U:Op2 K k (rI (fun _ j=>0<j) fun i j=>.int (i % j)) (wInt2 (fun _ j=>0<j) fun i j=>.int (i % j)):=f'T fun _ _ _ _=>⟨rfl,rfl⟩
def wNeg (x:Tr) (Q:Tr→Prop):Prop:=match x with
  | .int i => Q (.int (-i))
  | _ => False
theorem l'V:Op1 K k (L2.rU fun i=>.int (-i)) wNeg:=fun F B H x tx cx Q Q' s b z rx hx p q=>by
  unfold wNeg at p
  split at p
  · obtain⟨rfl,_⟩:=rx
    exact⟨_,rfl,q _ _ F H [] p (Gr.refl' s) ⟨rfl,rfl⟩ .nil fun _ m=>nomatch m⟩
  · exact p.elim
def scalT:Tr→Option V
  | .int n => some (.int n) | .bl b => some (.bl b) | .str x => some (.str x) | .non => some .non | _ => none
theorem c'q {t:Tr} {v u:V} {cs:Cs} (r:R K F B t v cs) (h:scalT t=some u):v=u:=by
  cases t with
  | int n => cases h; exact r.1
  | bl n => cases h; exact r.1
  | str n => cases h; exact r.1
  | non => cases h; exact r.1
  | _ => cases h
def wEqS (neg:Bool) (x y:Tr) (Q:Tr→Prop):Prop:=match scalT x,scalT y with
  | some u, some v => scal u v = true ∧ Q (.bl (if neg then !decide (u = v) else decide (u = v)))
  | _, _ => False
theorem l'W:Op2 K k rEq (wEqS false):=fun F B H x y tx ty cx cy Q Q' s b z rx ry hx hy hd p q=>by
  unfold wEqS at p
  split at p
  · rename_i e1 e2
    obtain rfl:=c'q rx e1
    obtain rfl:=c'q ry e2
    exact⟨p.1,q _ _ F H [] p.2 (Gr.refl' s) ⟨rfl,rfl⟩ .nil fun _ m=>nomatch m⟩
  · exact p.elim
theorem l'X:Op2 K k rNe (wEqS true):=fun F B H x y tx ty cx cy Q Q' s b z rx ry hx hy hd p q=>by
  unfold wEqS at p
  split at p
  · rename_i e1 e2
    obtain rfl:=c'q rx e1
    obtain rfl:=c'q ry e2
    exact⟨p.1,q _ _ F H [] p.2 (Gr.refl' s) ⟨rfl,rfl⟩ .nil fun _ m=>nomatch m⟩
  · exact p.elim
def wBl (x:Tr) (Q:Bool→Prop):Prop:=match x with
  | .bl b => Q b
  | _ => False
def pT (pe:PE'):PB':=fun ρ Q=>pe ρ fun x=>wBl x Q
theorem g'V {te:TE} {pe:PE'} (h:Sim K k te pe):SimT K k (tB te) (pT pe):=fun F B H σ ρ Q Q' c p q=>by
  refine h F B H σ ρ _ _ c p fun t v F1 H1 c1 p1 o1=>?_
  unfold wBl at p1
  split at p1
  · obtain⟨rfl,_⟩:=o1.r
    exact⟨_,rfl,q _ F1 H1 p1 o1.g⟩
  · exact p1.elim
theorem g'W {te:TE} {pe:PE'} (h:Sim K k te pe):SimT K k (tTest te) (pT pe):=g'V h
def pAnd (pa pb:PB'):PB':=fun ρ Q=>pa ρ fun c=>if c=true then pb ρ Q else Q false
def pOr (pa pb:PB'):PB':=fun ρ Q=>pa ρ fun c=>if c=true then Q true else pb ρ Q
def pNot (pa:PB'):PB':=fun ρ Q=>pa ρ fun c=>Q (!c)
theorem l'Y {ta tb:TT} {pa pb:PB'} (ha:SimT K k ta pa) (hb:SimT K k tb pb):SimT K k (tAnd ta tb) (pAnd pa pb):=fun F B H σ ρ Q Q' c p q=>by
  refine ha F B H σ ρ _ _ c p fun b F1 H1 p1 g1=>?_
  cases b with
  | true => rw [if_pos rfl]; exact hb F1 B H1 σ ρ _ _ (c.gr g1) p1 fun b F2 H2 p2 g2 => q b F2 H2 p2 (g1.trans' g2)
  | false => exact q false F1 H1 p1 g1
theorem n'E {ta tb:TT} {pa pb:PB'} (ha:SimT K k ta pa) (hb:SimT K k tb pb):SimT K k (tOr ta tb) (pOr pa pb):=fun F B H σ ρ Q Q' c p q=>by
  refine ha F B H σ ρ _ _ c p fun b F1 H1 p1 g1=>?_
  cases b with
  | false => exact hb F1 B H1 σ ρ _ _ (c.gr g1) p1 fun b F2 H2 p2 g2 => q b F2 H2 p2 (g1.trans' g2)
  | true => exact q true F1 H1 p1 g1
theorem l'Z {ta:TT} {pa:PB'} (ha:SimT K k ta pa):SimT K k (tNot ta) (pNot pa):=fun F B H σ ρ Q Q' c p q=>ha F B H σ ρ _ _ c p fun b F1 H1 p1 g1=>q (!b) F1 H1 p1 g1
def pAndV (pa pb:PE'):PE':=fun ρ Q=>pa ρ fun x=>wBl x fun c=>if c=true then pb ρ Q else Q (.bl false)
def pOrV (pa pb:PE'):PE':=fun ρ Q=>pa ρ fun x=>wBl x fun c=>if c=true then Q (.bl true) else pb ρ Q
def pNotV (pa:PE'):PE':=fun ρ Q=>pa ρ fun x=>wBl x fun c=>Q (.bl (!c))
theorem Out.bl {F1 H1:Hp} {b:Bool} (g:Gr F H F1 H1):Out K F B H F1 H1 (.bl b) (.bl b) []:=⟨g,⟨rfl,rfl⟩,.nil,.nil⟩
theorem Out.tr {F1 H1 F2 H2:Hp} {t:Tr} {v:V} {cs:Cs} (g:Gr F H F1 H1) (o:Out K F1 B H1 F2 H2 t v cs):Out K F B H F2 H2 t v cs:=⟨g.trans' o.g,o.r,o.c,o.n.back g.h⟩
theorem j'g {ta tb:TE} {pa pb:PE'} (ha:Sim K k ta pa) (hb:Sim K k tb pb):Sim K k (tAndV ta tb) (pAndV pa pb):=fun F B H σ ρ Q Q' c p q=>by
  refine ha F B H σ ρ _ _ c p fun t v F1 H1 c1 p1 o1=>?_
  unfold wBl at p1
  split at p1
  · rename_i b
    obtain⟨rfl,_⟩:=o1.r
    refine⟨b,rfl,?_⟩
    cases b with
    | true=>exact hb F1 B H1 σ ρ _ _ (c.gr o1.g) p1 fun t v F2 H2 cs p2 o2=>q t v F2 H2 cs p2 (.tr o1.g o2)
    | false=>exact q _ _ F1 H1 [] p1 (.bl o1.g)
  · exact p1.elim
theorem m'a {ta tb:TE} {pa pb:PE'} (ha:Sim K k ta pa) (hb:Sim K k tb pb):Sim K k (tOrV ta tb) (pOrV pa pb):=fun F B H σ ρ Q Q' c p q=>by
  refine ha F B H σ ρ _ _ c p fun t v F1 H1 c1 p1 o1=>?_
  unfold wBl at p1
  split at p1
  · rename_i b
    obtain⟨rfl,_⟩:=o1.r
    refine⟨b,rfl,?_⟩
    cases b with
    | false=>exact hb F1 B H1 σ ρ _ _ (c.gr o1.g) p1 fun t v F2 H2 cs p2 o2=>q t v F2 H2 cs p2 (.tr o1.g o2)
    | true=>exact q _ _ F1 H1 [] p1 (.bl o1.g)
  · exact p1.elim
theorem j'h {ta:TE} {pa:PE'} (ha:Sim K k ta pa):Sim K k (tNotV ta) (pNotV pa):=fun F B H σ ρ Q Q' c p q=>by
  refine ha F B H σ ρ _ _ c p fun t v F1 H1 c1 p1 o1=>?_
  unfold wBl at p1
  split at p1
  · obtain⟨rfl,_⟩:=o1.r
    exact⟨_,rfl,q _ _ F1 H1 [] p1 (.bl o1.g)⟩
  · exact p1.elim
def pIf (pc:PB') (pa pb:PE'):PE':=fun ρ Q=>pc ρ fun c=>if c=true then pa ρ Q else pb ρ Q
theorem m'b {tc:TT} {ta tb:TE} {pc:PB'} {pa pb:PE'} (hc:SimT K k tc pc) (ha:Sim K k ta pa) (hb:Sim K k tb pb):Sim K k (tIf tc ta tb) (pIf pc pa pb):=fun F B H σ ρ Q Q' c p q=>by
  refine hc F B H σ ρ _ _ c p fun b F1 H1 p1 g1=>?_
  cases b with
  | true => rw [if_pos rfl] at p1 ⊢; exact ha F1 B H1 σ ρ _ _ (c.gr g1) p1 fun t v F2 H2 cs p2 o2 => q t v F2 H2 cs p2 (.tr g1 o2)
  | false => rw [if_neg (by decide)] at p1 ⊢; exact hb F1 B H1 σ ρ _ _ (c.gr g1) p1 fun t v F2 H2 cs p2 o2 => q t v F2 H2 cs p2 (.tr g1 o2)
end
end Pu
namespace Pu
open PySem L2 Vc Sf
section
variable {K:PySem.W.Frag} {F F' H H':Hp} {B B':Bool→Hp} {k:Md}
mutual
theorem R.low:∀ (t:Tr) {v:V} {cs:Cs},nlt t=true→B false=B' false→R K F B t v cs→R K F B' t v cs
  | .int _, _, _, _, _, h => h
  | .bl _, _, _, _, _, h => h
  | .str _, _, _, _, _, h => h
  | .non, _, _, _, _, h => h
  | .hole, _, _, _, _, h => h
  | .ty _, _, _, _, _, h => h
  | .cl _, _, _, _, _, h => h
  | .exc _, _, _, _, _, h => h
  | .tup xs, _, _, n, e, ⟨a, vs, h1, h2, h3⟩ => ⟨a, vs, h1, h2, Rs.low xs n e h3⟩
  | .lst .f xs, _, _, n, e, ⟨z, a, vs, h1, h2, h3⟩ => ⟨z, a, vs, h1, h2, Rs.low xs n e h3⟩
  | .lst (.l true) xs, _, _, n, _, _ => by cases n
  | .lst (.l false) xs, _, _, n, e, ⟨z, a, vs, h1, h2, h3⟩ => ⟨z, a, vs, h1, by rw [← e]; exact h2, Rs.low xs n e h3⟩
  | .lst .o xs, _, _, n, e, ⟨a, vs, ds, h1, h2, h3⟩ => ⟨a, vs, ds, h1, h2, Rs.low xs n e h3⟩
  | .dic .f xs, _, _, n, e, ⟨z, a, vs, h1, h2, h3, h4⟩ => ⟨z, a, vs, h1, h2, Rk.low xs n e h3, h4⟩
  | .dic (.l true) xs, _, _, n, _, _ => by cases n
  | .dic (.l false) xs, _, _, n, e, ⟨z, a, vs, h1, h2, h3, h4⟩ => ⟨z, a, vs, h1, by rw [← e]; exact h2, Rk.low xs n e h3, h4⟩
  | .dic .o xs, _, _, n, e, ⟨a, vs, ds, h1, h2, h3, h4⟩ => ⟨a, vs, ds, h1, h2, Rk.low xs n e h3, h4⟩
  | .ins .f _ xs, _, _, n, e, ⟨z, a, dx, vs, h1, h2, h3⟩ => ⟨z, a, dx, vs, h1, h2, Rf.low xs n e h3⟩
  | .ins (.l true) _ xs, _, _, n, _, _ => by cases n
  | .ins (.l false) _ xs, _, _, n, e, ⟨z, a, dx, vs, h1, h2, h3⟩ => ⟨z, a, dx, vs, h1, by rw [← e]; exact h2, Rf.low xs n e h3⟩
  | .ins .o _ xs, _, _, n, e, ⟨a, dx, vs, ds, h1, h2, h3⟩ => ⟨a, dx, vs, ds, h1, h2, Rf.low xs n e h3⟩
theorem Rs.low:∀ (t:List Tr) {v:List V} {cs:Cs},nlts t=true→B false=B' false→Rs K F B t v cs→Rs K F B' t v cs
  | [], _, _, _, _, h => h
  | x :: xs, _, _, n, e, ⟨v, r, c, d, h1, h2, h3, h4⟩ => by
    rw [nlts,Bool.and_eq_true] at n
    exact⟨v,r,c,d,h1,h2,R.low x n.1 e h3,Rs.low xs n.2 e h4⟩
theorem Rk.low:∀ (t:List (Key×Tr)) {v:List (Key×V)} {cs:Cs},nltk t=true→B false=B' false→Rk K F B t v cs→Rk K F B' t v cs
  | [], _, _, _, _, h => h
  | (_, x) :: xs, _, _, n, e, ⟨v, r, c, d, h1, h2, h3, h4⟩ => by
    rw [nltk,Bool.and_eq_true] at n
    exact⟨v,r,c,d,h1,h2,R.low x n.1 e h3,Rk.low xs n.2 e h4⟩
theorem Rf.low:∀ (t:List (Str×Tr)) {v:List (Str×V)} {cs:Cs},nltf t=true→B false=B' false→Rf K F B t v cs→Rf K F B' t v cs
  | [], _, _, _, _, h => h
  | (_, x) :: xs, _, _, n, e, ⟨v, r, c, d, h1, h2, h3, h4⟩ => by
    rw [nltf,Bool.and_eq_true] at n
    exact⟨v,r,c,d,h1,h2,R.low x n.1 e h3,Rf.low xs n.2 e h4⟩
end
mutual
/-- what is lent is lent to the callee -/
theorem R.dn {G:Hp} (b:∀ k,Le (B k) G):∀ (t:Tr) {v:V} {cs:Cs},R K F B t v cs→R K F (fun _=>G) (dn t) v cs
  | .int _, _, _, h => h
  | .bl _, _, _, h => h
  | .str _, _, _, h => h
  | .non, _, _, h => h
  | .hole, _, _, h => h
  | .ty _, _, _, h => h
  | .cl _, _, _, h => h
  | .exc _, _, _, h => h
  | .tup xs, _, _, ⟨a, vs, h1, h2, h3⟩ => ⟨a, vs, h1, h2, Rs.dn b xs h3⟩
  | .lst .f xs, _, _, ⟨z, a, vs, h1, h2, h3⟩ => ⟨z, a, vs, h1, h2, Rs.dn b xs h3⟩
  | .lst (.l k) xs, _, _, ⟨z, a, vs, h1, h2, h3⟩ => ⟨z, a, vs, h1, (b k).lst h2, Rs.dn b xs h3⟩
  | .lst .o xs, _, _, ⟨a, vs, ds, h1, h2, h3⟩ => ⟨a, vs, ds, h1, h2, Rs.dn b xs h3⟩
  | .dic .f xs, _, _, ⟨z, a, vs, h1, h2, h3, h4⟩ => ⟨z, a, vs, h1, h2, Rk.dn b xs h3, by rw [dnk_keys]; exact h4⟩
  | .dic (.l k) xs, _, _, ⟨z, a, vs, h1, h2, h3, h4⟩ => ⟨z, a, vs, h1, (b k).dic h2, Rk.dn b xs h3, by rw [dnk_keys]; exact h4⟩
  | .dic .o xs, _, _, ⟨a, vs, ds, h1, h2, h3, h4⟩ => ⟨a, vs, ds, h1, h2, Rk.dn b xs h3, by rw [dnk_keys]; exact h4⟩
  | .ins .f _ xs, _, _, ⟨z, a, dx, vs, h1, h2, h3⟩ => ⟨z, a, dx, vs, h1, h2, Rf.dn b xs h3⟩
  | .ins (.l k) _ xs, _, _, ⟨z, a, dx, vs, h1, h2, h3⟩ => ⟨z, a, dx, vs, h1, b k _ _ (by intro _ _ z; cases z) h2, Rf.dn b xs h3⟩
  | .ins .o _ xs, _, _, ⟨a, dx, vs, ds, h1, h2, h3⟩ => ⟨a, dx, vs, ds, h1, h2, Rf.dn b xs h3⟩
theorem Rs.dn {G:Hp} (b:∀ k,Le (B k) G):∀ (t:List Tr) {v:List V} {cs:Cs},Rs K F B t v cs→Rs K F (fun _=>G) (dns t) v cs
  | [], _, _, h => h
  | x :: xs, _, _, ⟨v, r, c, d, h1, h2, h3, h4⟩ => ⟨v, r, c, d, h1, h2, R.dn b x h3, Rs.dn b xs h4⟩
theorem Rk.dn {G:Hp} (b:∀ k,Le (B k) G):∀ (t:List (Key×Tr)) {v:List (Key×V)} {cs:Cs},Rk K F B t v cs→Rk K F (fun _=>G) (dnk t) v cs
  | [], _, _, h => h
  | (_, x) :: xs, _, _, ⟨v, r, c, d, h1, h2, h3, h4⟩ => ⟨v, r, c, d, h1, h2, R.dn b x h3, Rk.dn b xs h4⟩
theorem Rf.dn {G:Hp} (b:∀ k,Le (B k) G):∀ (t:List (Str×Tr)) {v:List (Str×V)} {cs:Cs},Rf K F B t v cs→Rf K F (fun _=>G) (dnf t) v cs
  | [], _, _, h => h
  | (_, x) :: xs, _, _, ⟨v, r, c, d, h1, h2, h3, h4⟩ => ⟨v, r, c, d, h1, h2, R.dn b x h3, Rf.dn b xs h4⟩
theorem dnk_keys:∀ (xs:List (Key×Tr)),(dnk xs).map (·.1)=xs.map (·.1)
  | [] => rfl
  | (_, _) :: xs => by show _ :: _ = _ :: _; rw [dnk_keys xs]
end
theorem b'e:∀ (xs:List Tr),(dns xs).length=xs.length
  | [] => rfl
  | _ :: xs => by show (dns xs).length + 1 = _; rw [b'e xs]; rfl
end
structure Wld (K:PySem.W.Frag) (k:Md) (lo:Nat) (us:List V) (Fb Hb F H:Hp) (σ:St) (ρ:List Tr) (cs:Nat→Cs):Prop where
  g:Gr Fb Hb F H
  z:k.z=true→Fz S0 F
  l:σ.length=ρ.length
  e:∀ (i:Nat) (t:Tr),ρ[i]?=some t→t=.hole∨∃ v,σ[i]?=some (some v)∧R K F (fun _=>Hb) t v (cs i)
  c:∀ i,Cells F H (cs i)
  n:∀ i,New Hb (cs i)
  d:∀ i j,i≠j→∀ p∈cs i,∀ q∈cs j,p.1≠q.1
  p:∀ i,i<lo→σ[i]?=(us[i]?).map some
  x:∀ cls σ' F' H',k.q cls→Gr Fb Hb F' H'→k.E σ' cls none H'
section
variable {K:PySem.W.Frag} {k:Md} {lo:Nat} {us:List V} {Fb Hb F H F' H':Hp} {σ:St} {ρ:List Tr} {cs:Nat→Cs}
def Bq (Hb H:Hp):Bool→Hp:=fun b=>if b then H else Hb
theorem Wld.cxt (W:Wld K k lo us Fb Hb F H σ ρ cs):Cxt K k F (Bq Hb H) H σ (ρ.map lend) where
  s:=W.g.s
  b:=fun b=>by
    cases b with
    | true=>exact Same.refl H
    | false=>exact W.g.h
  z:=W.z
  e:=fun i t h=>by
    rw [List.getElem?_map] at h
    cases q:ρ[i]? with
    | none=>rw [q] at h;cases h
    | some u=>
      rw [q] at h
      cases h
      rcases W.e i u q with rfl | ⟨v,h1,h2⟩
      · exact .inl rfl
      · refine .inr ⟨v,h1,h2.lend (fun b=>?_) u fun p m=>(W.c i).h p m⟩
        cases b with
        | true=>exact Le.of W.g.h
        | false=>exact Le.refl _
  x:=fun cls F' H' q g=>W.x cls σ F' H' q (W.g.trans' g)
theorem Wld.gr (W:Wld K k lo us Fb Hb F H σ ρ cs) (g:Gr F H F' H'):Wld K k lo us Fb Hb F' H' σ ρ cs:=
  ⟨W.g.trans' g,fun h=>g.fz (W.z h),W.l,fun i t h=>(W.e i t h).imp id fun ⟨v,h1,h2⟩=>⟨v,h1,h2.mo g.le (fun _=>Le.refl _) t⟩,fun i=>(W.c i).gr g,W.n,W.d,W.p,W.x⟩
theorem Wld.set {i:Nat} {t:Tr} {v:V} {c:Cs} (W:Wld K k lo us Fb Hb F H σ ρ cs) (hi:lo≤i) (r:R K F (fun _=>Hb) t v c) (hc:Cells F H c) (n:New Hb c) (d:∀ j,j≠i→∀ p∈cs j,∀ q∈c,p.1≠q.1) :
    Wld K k lo us Fb Hb F H (σ.set i (some v)) (ρ.set i t) (fun j=>if j=i then c else cs j) where
  g:=W.g
  z:=W.z
  l:=by rw [List.length_set,List.length_set];exact W.l
  e:=fun j u h=>by
    by_cases e:j=i
    · subst e
      have hl:j<ρ.length:=by have:=(List.getElem?_eq_some_iff.mp h).1;rw [List.length_set] at this;exact this
      rw [List.getElem?_set_self hl] at h
      cases h
      exact .inr ⟨v,List.getElem?_set_self (by rw [W.l];exact hl),by rw [if_pos rfl];exact r⟩
    · rw [List.getElem?_set_ne (fun z=>e z.symm)] at h
      rw [if_neg e]
      exact (W.e j u h).imp id fun ⟨v,h1,h2⟩=>⟨v,by rw [List.getElem?_set_ne (fun z=>e z.symm)];exact h1,h2⟩
  c:=fun j=>by
    split
    · exact hc
    · exact W.c j
  n:=fun j=>by
    split
    · exact n
    · exact W.n j
  d:=fun a b ne p mp q mq=>by
    by_cases ea:a=i
    · rw [if_pos ea] at mp
      rw [if_neg (fun z=>ne (ea.trans z.symm))] at mq
      exact (d b (fun z=>ne (ea.trans z.symm)) q mq p mp).symm
    · rw [if_neg ea] at mp
      by_cases eb:b=i
      · rw [if_pos eb] at mq
        exact d a ea p mp q mq
      · rw [if_neg eb] at mq
        exact W.d a b ne p mp q mq
  p:=fun j h=>by rw [List.getElem?_set_ne (by omega)];exact W.p j h
  x:=W.x
theorem Wld.out {i:Nat} {t:Tr} {v:V} {c:Cs} (W:Wld K k lo us Fb Hb F H σ ρ cs) (o:Out K F (Bq Hb H) H F' H' t v c) (hi:lo≤i) (n:nlt t=true) :
    Wld K k lo us Fb Hb F' H' (σ.set i (some v)) (ρ.set i t) (fun j=>if j=i then c else cs j):=
  (W.gr o.g).set hi (o.r.low t n rfl) o.c (fun p m=>W.g.h.free (o.n p m)) fun j _ p mp q mq e=>by
    have:=(W.c j).h p mp
    rw [e,o.n q mq] at this
    cases this
end
structure Pd where
  nx:List Tr→Prop
  rt:Tr→List Tr→Prop
  bk:List Tr→Prop:=fun _=>False
  ct:List Tr→Prop:=fun _=>False
abbrev PS':=Pd→List Tr→Prop
structure Lk (K:PySem.W.Frag) (k:Md) (lo:Nat) (us:List V) (Fb Hb:Hp) (D:Ends) (D':Pd):Prop where
  nx:∀ F H σ ρ cs,Wld K k lo us Fb Hb F H σ ρ cs→D'.nx ρ→D.nx σ H
  rt:∀ F H σ ρ cs v t c,Wld K k lo us Fb Hb F H σ ρ cs→R K F (fun _=>Hb) t v c→Cells F H c→New Hb c→(∀ i,∀ p∈cs i,∀ q∈c,p.1≠q.1)→nol t=true→D'.rt t ρ→D.rt v H
  bk:∀ F H σ ρ cs,Wld K k lo us Fb Hb F H σ ρ cs→D'.bk ρ→D.bk σ H
  ct:∀ F H σ ρ cs,Wld K k lo us Fb Hb F H σ ρ cs→D'.ct ρ→D.ct σ H
def SimS (K:PySem.W.Frag) (k:Md) (lo:Nat) (ts:TS) (ps:PS'):Prop:=∀ (us:List V) (Fb Hb F H:Hp) (σ:St) (ρ:List Tr) (cs:Nat→Cs) (D:Ends) (D':Pd),Wld K k lo us Fb Hb F H σ ρ cs→ps D' ρ→Lk K k lo us Fb Hb D D'→ts D σ H
section
variable {K:PySem.W.Frag} {k:Md} {lo:Nat}
def pSeq (p q:PS'):PS':=fun D ρ=>p { D with nx:=q D } ρ
def pNext:PS':=fun D ρ=>D.nx ρ
theorem m'c {t u:TS} {p q:PS'} (h:SimS K k lo t p) (h':SimS K k lo u q):SimS K k lo (tSeq t u) (pSeq p q):=fun us Fb Hb F H σ ρ cs D D' W p L=>
  h us Fb Hb F H σ ρ cs _ _ W p ⟨fun F H σ ρ cs W q=>h' us Fb Hb F H σ ρ cs D D' W q L,L.rt,L.bk,L.ct⟩
theorem j'i:SimS K k lo tNext pNext:=fun us Fb Hb F H σ ρ cs D D' W p L=>L.nx F H σ ρ cs W p
def pBrk:PS':=fun D ρ=>D.bk ρ
def pCnt:PS':=fun D ρ=>D.ct ρ
def pAsg (i:Nat) (pe:PE'):PS':=fun D ρ=>pe (ρ.map lend) fun t=>nlt t=true∧D.nx (ρ.set i t)
theorem m'd {i:Nat} {te:TE} {pe:PE'} (hi:lo≤i) (h:Sim K k te pe):SimS K k lo (tAsg te (gName i)) (pAsg i pe):=fun us Fb Hb F H σ ρ cs D D' W p L=>by
  refine h F (Bq Hb H) H σ _ _ _ W.cxt p fun t v F1 H1 c q o=>?_
  exact L.nx F1 H1 _ _ _ (W.out o hi q.1) q.2
def pDrop (pe:PE'):PS':=fun D ρ=>pe (ρ.map lend) fun _=>D.nx ρ
def pRet (pe:PE'):PS':=fun D ρ=>pe (ρ.map lend) fun t=>nol t=true∧D.rt t ρ
theorem m'e {te:TE} {pe:PE'} (h:Sim K k te pe):SimS K k lo (tRet te) (pRet pe):=fun us Fb Hb F H σ ρ cs D D' W p L=>by
  refine h F (Bq Hb H) H σ _ _ _ W.cxt p fun t v F1 H1 c q o=>?_
  refine L.rt F1 H1 σ ρ cs v t c (W.gr o.g) (o.r.base t q.1) o.c (fun p m=>W.g.h.free (o.n p m)) (fun i p mp q mq e=>?_) q.1 q.2
  have:=(W.c i).h p mp
  rw [e,o.n q mq] at this
  cases this
def pIfS (pc:PB') (p q:PS'):PS':=fun D ρ=>pc (ρ.map lend) fun b=>if b=true then p D ρ else q D ρ
theorem n'F {tc:TT} {t u:TS} {pc:PB'} {p q:PS'} (hc:SimT K k tc pc) (h:SimS K k lo t p) (h':SimS K k lo u q):SimS K k lo (tIfS tc t u) (pIfS pc p q):=fun us Fb Hb F H σ ρ cs D D' W p L=>by
  refine hc F (Bq Hb H) H σ _ _ _ W.cxt p fun b F1 H1 q g=>?_
  cases b with
  | true => exact h us Fb Hb F1 H1 σ ρ cs D D' (W.gr g) q L
  | false => exact h' us Fb Hb F1 H1 σ ρ cs D D' (W.gr g) q L
def pWhl (pc:PB') (pb:PS'):PS':=fun D ρ=>∃ I:Nat→List Tr→Prop,(∃ m,I m ρ)∧∀ m ρ,I m ρ→pc (ρ.map lend) fun b=>if b=true then pb { D with nx:=fun ρ'=>∃ m',m'<m∧I m' ρ',ct:=fun ρ'=>∃ m',m'<m∧I m' ρ',bk:=D.nx } ρ else D.nx ρ
theorem m'f {tc:TT} {tb:TS} {pc:PB'} {pb:PS'} (hc:SimT K k tc pc) (hb:SimS K k lo tb pb):SimS K k lo (tWhile tc tb) (pWhl pc pb):=fun us Fb Hb F H σ ρ cs D D' W p L=>by
  obtain⟨I,⟨m0,i0⟩,step⟩:=p
  refine⟨fun m σ H=>∃ F ρ cs,Wld K k lo us Fb Hb F H σ ρ cs∧I m ρ,⟨m0,F,ρ,cs,W,i0⟩,?_⟩
  rintro m σ H ⟨F,ρ,cs,W,i⟩
  refine hc F (Bq Hb H) H σ _ _ _ W.cxt (step m ρ i) fun b F1 H1 q g=>?_
  cases b with
  | false => exact L.nx F1 H1 σ ρ cs (W.gr g) q
  | true =>
    refine⟨fun σ' H'=>∃ m',m'<m∧∃ F ρ cs,Wld K k lo us Fb Hb F H' σ' ρ cs∧I m' ρ,fun σ' H' h=>h,?_⟩
    refine hb us Fb Hb F1 H1 σ ρ cs _ _ (W.gr g) q ⟨?_,L.rt,?_,?_⟩
    · exact fun F H σ ρ cs W ⟨m',l,i⟩=>⟨m',l,F,ρ,cs,W,i⟩
    · exact L.nx
    · exact fun F H σ ρ cs W ⟨m',l,i⟩=>⟨m',l,F,ρ,cs,W,i⟩
end
end Pu
namespace Pu
open PySem L2 Vc Sf
abbrev PSp:=List Tr→(Tr→List Tr→Prop)→Prop
abbrev PSpX:=List Tr→(Tr→List Tr→Prop)→(Value→Prop)→Prop
def spX (K:PySem.W.Frag) (z:Bool) (lo n:Nat) (ps:PSpX):Sp:=fun vs H Q E=>vs.length=n∧∃ (F Hb:Hp) (ts:List Tr) (cs:Nat→Cs) (Q':Tr→List Tr→Prop) (q:Value→Prop),Wld K ⟨z,fun _=>E,q⟩ lo vs F Hb F H (vs.map some) ts cs∧ps ts Q' q∧
  ∀ F' H' σ' ρ' cs' v t c,Wld K ⟨z,fun _=>E,q⟩ lo vs F Hb F' H' σ' ρ' cs'→R K F' (fun _=>Hb) t v c→Cells F' H' c→New Hb c→(∀ i,∀ p∈cs' i,∀ q∈c,p.1≠q.1)→nol t=true→Q' t ρ'→Q v H'
def spP (K:PySem.W.Frag) (z:Bool) (lo n:Nat) (ps:PSp):Sp:=spX K z lo n fun xs Q _=>ps xs Q
theorem Wld.md {K:PySem.W.Frag} {k k':Md} {lo:Nat} {us:List V} {Fb Hb F H:Hp} {σ:St} {ρ:List Tr} {cs:Nat→Cs} (W:Wld K k lo us Fb Hb F H σ ρ cs) (hz:k'.z=true→k.z=true) (x:∀ cls σ' F' H',k'.q cls→Gr Fb Hb F' H'→k'.E σ' cls none H'):Wld K k' lo us Fb Hb F H σ ρ cs:=⟨W.g,fun h=>W.z (hz h),W.l,W.e,W.c,W.n,W.d,W.p,x⟩
section
variable {K:PySem.W.Frag} {k:Md} {lo:Nat} {us:List V} {Fb Hb F H F' H':Hp} {σ:St} {ρ:List Tr} {cs:Nat→Cs}
theorem Wld.start {vs:List V} (N:List Str) (hlo:lo≤vs.length) (W:Wld K k lo us Fb Hb F H (vs.map some) ρ cs):Wld K k lo us Fb Hb F H (start N vs) (ρ++List.replicate (N.length - ρ.length) .hole) cs where
  g:=W.g
  z:=W.z
  l:=by
    have:=W.l
    rw [List.length_map] at this
    show (vs.map some++List.replicate (N.length - vs.length) none).length=_
    rw [List.length_append,List.length_append,List.length_replicate,List.length_replicate,List.length_map,this]
  e:=fun i t h=>by
    have hl:=W.l
    rcases Nat.lt_or_ge i ρ.length with z | z
    · rw [List.getElem?_append_left z] at h
      exact (W.e i t h).imp id fun ⟨v,h1,h2⟩=>⟨v,by show (vs.map some++List.replicate (N.length - vs.length) none)[i]?=_;rw [List.getElem?_append_left (by rw [hl];exact z)];exact h1,h2⟩
    · rw [List.getElem?_append_right z] at h
      have m:=List.mem_of_getElem? h
      exact .inl (List.mem_replicate.mp m).2
  c:=W.c
  n:=W.n
  d:=W.d
  p:=fun i h=>by
    have e:=W.p i h
    show (vs.map some++List.replicate (N.length - vs.length) none)[i]?=_
    rw [List.getElem?_append_left (by rw [List.length_map];omega)];exact e
  x:=W.x
end
theorem Rs.split {K:PySem.W.Frag} {F H:Hp} {B:Bool→Hp}:∀ {ts:List Tr} {vs:List V} {c:Cs},Rs K F B ts vs c→Cells F H c→∃ cs:Nat→Cs,(∀ (i:Nat) (t:Tr),ts[i]?=some t→∃ v,vs[i]?=some v∧R K F B t v (cs i))∧(∀ i,∀ p∈cs i,p∈c)∧(∀ i,Cells F H (cs i))∧∀ i j,i≠j→∀ p∈cs i,∀ q∈cs j,p.1≠q.1
  | [], _, _, _, _ => ⟨fun _ => [], fun i t h => (by cases h), fun _ _ m => (nomatch m), fun _ => .nil, fun _ _ _ _ m => nomatch m⟩
  | x :: xs, _, _, ⟨v, r, c, d, h1, h2, h3, h4⟩, hc => by
    rw [h2] at hc
    obtain⟨cs,a1,a2,a3,a4⟩:=Rs.split h4 hc.right
    have dj:∀ p∈c,∀ q∈d,p.1≠q.1:=fun p mp q mq=>by
      have:=hc.nd
      rw [List.map_append,List.nodup_append] at this
      exact this.2.2 _ (List.mem_map.mpr ⟨p,mp,rfl⟩) _ (List.mem_map.mpr ⟨q,mq,rfl⟩)
    refine⟨fun i=>match i with | 0=>c | j+1=>cs j,fun i t h=>?_,fun i p m=>?_,fun i=>?_,fun i j ne p mp q mq=>?_⟩
    · cases i with
      | zero=>cases h;exact⟨v,by rw [h1];rfl,h3⟩
      | succ j=>obtain⟨u,b1,b2⟩:=a1 j t h;exact⟨u,by rw [h1];exact b1,b2⟩
    · rw [h2]
      cases i with
      | zero=>exact List.mem_append.mpr (.inl m)
      | succ j=>exact List.mem_append.mpr (.inr (a2 j p m))
    · cases i with
      | zero=>exact hc.left
      | succ j=>exact a3 j
    · cases i with
      | zero=>
        cases j with
        | zero=>exact absurd rfl ne
        | succ j=>exact dj p mp q (a2 j q mq)
      | succ i=>
        cases j with
        | zero=>exact (dj q mq p (a2 i p mp)).symm
        | succ j=>exact a4 i j (fun z=>ne (by rw [z])) p mp q mq
section
variable {P:Program} {w:World} {K:PySem.W.Frag} {mg:Str→Option Value} {base:Heap}
theorem m'g {z:Bool} {lo:Nat} {x qual:Str} {st:Stmt} {f:Addr} {fd:FuncData} {N ps:List Str} {m n:Nat} {psp:PSp} (F:Fun K x qual st f fd) (S:FnScope N ps (defScope st)) (hn:ps.length=n) (hlo:lo≤n)
    (body:∀ (cdv:Value) (A:Around) (outer:List Env) (s:Shared) (H:Hp) (E:XK),Room m (A.deeper (PyProof.Rows.envOfC qual (defScope st) s.heap.objs.size f cdv))→
      ∃ ts pb,PSs (cxOf CX0 P w K mg base N qual (defScope st) f cdv A outer s H E).nox (defBody st) ts∧SimS K (Md.base z) lo ts pb∧∀ xs Q',xs.length=n→psp xs Q'→pb { nx:=fun ρ=>Q' .non ρ,rt:=Q' } (xs++List.replicate (N.length - n) .hole)) :
    FnOk P w K mg base CX0 (m+1) f fd ps (spP K z lo n psp):=by
  refine F.ok S (fun vs H Q E h=>h.1.trans hn.symm) (fun cdv A outer s H vs Q E hr h=>?_)
  obtain⟨hl,F0,Hb,ts,cs,Q',q,W,p,post⟩:=h
  obtain⟨tS,pb,hP,hS,hp⟩:=body cdv A outer s H E hr
  have hlt:ts.length=n:=by have:=W.l;rw [List.length_map] at this;omega
  refine⟨tS,hP,hS vs F0 Hb F0 H _ _ cs _ { nx:=fun ρ=>Q' .non ρ,rt:=Q' } ((W.start N (by omega)).md id fun _ _ _ _ h=>h.elim) (by rw [hlt];exact hp ts Q' hlt p) ⟨?_,?_,fun _ _ _ _ _ _ (h:False)=>h.elim,fun _ _ _ _ _ _ (h:False)=>h.elim⟩⟩
  · exact fun F H σ ρ cs W' q=>post F H σ ρ cs .non .non [] (W'.md id W.x) ⟨rfl,rfl⟩ .nil .nil (fun _ _ _ _ m=>nomatch m) rfl q
  · exact fun F H σ ρ cs v t c W' r hc n d nl q=>post F H σ ρ cs v t c (W'.md id W.x) r hc n d nl q
theorem j'j {z:Bool} {lo:Nat} {x qual:Str} {st:Stmt} {f:Addr} {fd:FuncData} {N ps:List Str} {m n:Nat} {psp:PSpX} (F:Fun K x qual st f fd) (S:FnScope N ps (defScope st)) (hn:ps.length=n) (hlo:lo≤n)
    (body:∀ (cdv:Value) (A:Around) (outer:List Env) (s:Shared) (H:Hp) (E:XK) (q:Value→Prop),Room m (A.deeper (PyProof.Rows.envOfC qual (defScope st) s.heap.objs.size f cdv))→
      ∃ ts pb,PSs (cxOf (CX1 P w) P w K mg base N qual (defScope st) f cdv A outer s H E) (defBody st) ts∧SimS K ⟨z,fun _=>E,q⟩ lo ts pb∧∀ xs Q',xs.length=n→psp xs Q' q→pb { nx:=fun ρ=>Q' .non ρ,rt:=Q' } (xs++List.replicate (N.length - n) .hole)) :
    FnOk P w K mg base (CX1 P w) (m+1) f fd ps (spX K z lo n psp):=by
  refine F.ok1 S (fun vs H Q E h=>h.1.trans hn.symm) (fun cdv A outer s H vs Q E hr h=>?_)
  obtain⟨hl,F0,Hb,ts,cs,Q',q,W,p,post⟩:=h
  obtain⟨tS,pb,hP,hS,hp⟩:=body cdv A outer s H E q hr
  have hlt:ts.length=n:=by have:=W.l;rw [List.length_map] at this;omega
  refine⟨tS,hP,hS vs F0 Hb F0 H _ _ cs _ { nx:=fun ρ=>Q' .non ρ,rt:=Q' } (W.start N (by omega)) (by rw [hlt];exact hp ts Q' hlt p) ⟨?_,?_,fun _ _ _ _ _ _ (h:False)=>h.elim,fun _ _ _ _ _ _ (h:False)=>h.elim⟩⟩
  · exact fun F H σ ρ cs W' q=>post F H σ ρ cs .non .non [] W' ⟨rfl,rfl⟩ .nil .nil (fun _ _ _ _ m=>nomatch m) rfl q
  · exact fun F H σ ρ cs v t c W' r hc n d nl q=>post F H σ ρ cs v t c W' r hc n d nl q
end
section
variable {K:PySem.W.Frag} {k k':Md} {F F' H H' H1 F1:Hp}
theorem g'X {c:Cs} {p:Addr×HO} (m:p∈c):hdn (c.map (·.1)) H p.1=none:=n'y (List.mem_map.mpr ⟨p,m,rfl⟩)
theorem e'x {c:Cs} {a:Addr} {o:HO} (n:New H c) (h:H a=some o):a ∉ c.map (·.1):=fun m=>by
  obtain⟨p,mp,rfl⟩:=List.mem_map.mp m
  rw [n p mp] at h
  cases h
theorem _root_.Vc.Gr.hdn {c:Cs} (g:Gr F H F1 H1) (n:New H c) (g':Gr F1 (hdn (c.map (·.1)) H1) F' H'):Gr F H F' H':=
  Gr.of ⟨fun a u e=>g'.h a u (g'U (e'x n e) (g.h a u e)),g.f.trans g'.f,g'.s,fun a u e z=>by
    cases q:F1 a with
    | some y=>exact g.n a y q z
    | none=>
      have h:=g'.n a u e q
      by_cases m:a∈c.map (·.1)
      · obtain⟨p,mp,rfl⟩:=List.mem_map.mp m
        exact n p mp
      · unfold Vc.hdn at h
        rw [if_neg m] at h
        exact g.h.free h⟩ (g'.fz g.z)
def pCallX (q:Value→Prop) (psp:PSpX) (pa:PA'):PE':=fun ρ Q=>pa ρ fun ts=>psp (dns ts) (fun t _=>Q t) q
def pCall (psp:PSp) (pa:PA'):PE':=fun ρ Q=>pa ρ fun ts=>psp (dns ts) fun t _=>Q t
theorem c'P {n:Nat} {z:Bool} {psp:PSpX} {ta:TA} {pa:PA'} {R':St→XK} {q':Value→Prop} (hE:∀ (F:Hp) (B:Bool→Hp) (H:Hp) (σ:St) (ρ:List Tr),Cxt K k F B H σ ρ→∀ cls F' H',q' cls→Gr F H F' H'→R' σ cls none H') (hk:z=true→k.z=true) (hn:∀ xs Q q,psp xs Q q→xs.length=n) (h:SimA K k ta pa):Sim K k (tCallX (spX K z 0 n psp) [] R' ta) (pCallX q' psp pa):=fun F B H σ ρ Q Q' c p q=>by
  refine h F B H σ ρ _ _ c p fun ts vs F1 H1 c1 p1 o1=>?_
  rw [List.append_nil]
  obtain⟨cs,a1,a2,a3,a4⟩:=o1.r.split o1.c
  have hl:vs.length=n:=by rw [o1.r.length,← hn _ _ _ p1,b'e]
  have hb:∀ k,Same (B k) (hdn (c1.map (·.1)) H1):=fun k a o e=>g'U (e'x o1.n (c.b k a o e)) (o1.g.h _ _ (c.b k a o e))
  refine⟨hl,F1,hdn (c1.map (·.1)) H1,dns ts,cs,_,q',⟨⟨n'z o1.g.s,Fz.refl F1⟩,fun h=>o1.g.fz (c.z (hk h)),by rw [List.length_map,b'e,o1.r.length],?_,a3,fun i p m=>g'X (a2 i p m),a4,fun i h=>absurd h (Nat.not_lt_zero i),fun cls _ F' H' h g=>hE F B H σ ρ c cls F' H' h (o1.g.hdn o1.n g)⟩,p1,?_⟩
  · intro i t h
    have hi:i<ts.length:=by have:=(List.getElem?_eq_some_iff.mp h).1;rw [b'e] at this;exact this
    have e:∀ (ts:List Tr) (i:Nat),(dns ts)[i]?=ts[i]?.map dn:=by
      intro ts
      induction ts with
      | nil=>intro i;rfl
      | cons x xs ih=>intro i;cases i with
        | zero=>rfl
        | succ j=>exact ih j
    rw [e] at h
    cases z:ts[i]? with
    | none=>rw [z] at h;cases h
    | some u=>
      rw [z] at h
      cases h
      obtain⟨v,b1,b2⟩:=a1 i u z
      exact .inr ⟨v,by rw [List.getElem?_map,b1];rfl,b2.dn (fun k=>Le.of (hb k)) u⟩
  · intro F' H' σ' ρ' cs' v t c' W r hc nw dj nl qt
    refine q t v F' H' c' qt ⟨o1.g.hdn o1.n W.g,r.base t nl,hc,fun p m=>?_⟩
    have z:=nw p m
    by_cases mc:p.1∈c1.map (·.1)
    · obtain⟨q,mq,e⟩:=List.mem_map.mp mc
      have e:q.1=p.1:=e
      rw [← e]
      exact o1.n q mq
    · unfold hdn at z
      rw [if_neg mc] at z
      exact o1.g.h.free z
theorem j'k {n:Nat} {z:Bool} {psp:PSp} {ta:TA} {pa:PA'} {E:XK} (hk:z=true→k.z=true) (hn:∀ xs Q,psp xs Q→xs.length=n) (h:SimA K k ta pa):Sim K k (tCall (spP K z 0 n psp) [] E ta) (pCall psp pa):=
  c'P (R':=fun _=>E) (q':=fun _=>False) (psp:=fun xs Q _=>psp xs Q) (fun _ _ _ _ _ _ _ _ _ h=>h.elim) hk (fun xs Q _=>hn xs Q) h
def OpA (K:PySem.W.Frag) (k:Md) (r:List V→Hp→VK→Prop) (pr:List Tr→(Tr→Prop)→Prop):Prop:=∀ (F:Hp) (B:Bool→Hp) (H:Hp) (xs:List V) (ts:List Tr) (cx:Cs) (Q:VK) (Q':Tr→Prop),Same F H→(∀ k,Same (B k) H)→(k.z=true→Fz S0 F)→Rs K F B ts xs cx→Cells F H cx→pr ts Q'→
  (∀ t v F' H' cs,Q' t→Gr F H F' H'→R K F' B t v cs→Cells F' H' cs→(∀ p∈cs,H p.1=none∨p∈cx)→Q v H')→r xs H Q
def pB (pr:List Tr→(Tr→Prop)→Prop) (pa:PA'):PE':=fun ρ Q=>pa ρ fun ts=>pr ts Q
theorem g'Y {r:List V→Hp→VK→Prop} {pr:List Tr→(Tr→Prop)→Prop} {ta:TA} {pa:PA'} (o:OpA K k r pr) (h:SimA K k ta pa):Sim K k (tCB r ta) (pB pr pa):=fun F B H σ ρ Q Q' c p q=>by
  refine h F B H σ ρ _ _ c p fun ts vs F1 H1 c1 p1 o1=>?_
  refine o F1 B H1 vs ts c1 Q Q' o1.g.s (fun k=>(c.b k).trans o1.g.h) (fun h=>o1.g.fz (c.z h)) o1.r o1.c p1 fun t v F2 H2 cs qt g r' c' n=>?_
  refine q t v F2 H2 cs qt ⟨o1.g.trans' g,r',c',fun p m=>?_⟩
  rcases n p m with z | z
  · exact o1.g.h.free z
  · exact o1.n p z
theorem Rs.one {F:Hp} {B:Bool→Hp} {t:Tr} {xs:List V} {cs:Cs} (r:Rs K F B [t] xs cs):∃ v,xs=[v]∧R K F B t v cs:=by
  obtain⟨v,r,c,d,h1,h2,h3,rfl,rfl⟩:=r
  rw [List.append_nil] at h2
  exact⟨v,h1,by rw [h2];exact h3⟩
def wAbs (ts:List Tr) (Q:Tr→Prop):Prop:=match ts with
  | [.int i] => Q (.int (if i < 0 then -i else i))
  | _ => False
theorem b'T:OpA K k (fun xs H Q=>∃ i,xs=[.int i]∧Q (.int (if i<0 then -i else i)) H) wAbs:=fun F B H xs ts cx Q Q' s b z r hc p q=>by
  unfold wAbs at p
  split at p
  · obtain⟨v,rfl,rfl,_⟩:=r.one
    exact⟨_,rfl,q _ _ F H [] p (Gr.refl' s) ⟨rfl,rfl⟩ .nil fun _ m=>nomatch m⟩
  · exact p.elim
end
end Pu
namespace Pu
open PySem L2 Vc Sf
structure QE (X:Cx) (k:Md) (e:Expr) (pe:PE'):Prop where
  h:∃ te,PE X e te∧Sim X.K k te pe
structure QT (X:Cx) (k:Md) (e:Expr) (pe:PB'):Prop where
  h:∃ te,PT X e te∧SimT X.K k te pe
structure QW (X:Cx) (k:Md) (e:Expr) (pe:PB'):Prop where
  h:∃ te,PW X e te∧SimT X.K k te pe
structure QA (X:Cx) (k:Md) (es:List Expr) (pa:PA'):Prop where
  h:∃ ta,PA X es ta∧SimA X.K k ta pa
structure QS (X:Cx) (k:Md) (lo:Nat) (st:Stmt) (ps:PS'):Prop where
  h:∃ ts,PS X st ts∧SimS X.K k lo ts ps
structure QB (X:Cx) (k:Md) (lo:Nat) (sts:List Stmt) (ps:PS'):Prop where
  h:∃ ts,PSs X sts ts∧SimS X.K k lo ts ps
section
variable {X:Cx} {k:Md} {lo:Nat} {a b c:Expr} {pa pb pc:PE'} {pos:Pos}
theorem qv (i:Nat) {x:Str} (hN:X.N[i]?=some x:=by rfl) (hv:Vis X.env.scope x:=by first | exact Or.inl rfl | exact Or.inr (Or.inl rfl) | exact Or.inr (Or.inr rfl)) (hd:(x == ("__debug__":Str))=false:=by decide) (hcd:(x == ("__classdict__":Str))=false:=by decide):QE X k (.Name x pos) (pVar i):=⟨_,g'v hN hv hd hcd,l'H i⟩
theorem a'c {i j}:QE X k (.Constant (.int i) j pos) (pC (.int i)):=⟨_,m'J,l'I⟩
theorem a'g {i j}:QE X k (.Constant (.str i) j pos) (pC (.str i)):=⟨_,m'L,l'J⟩
theorem d'u {i j}:QE X k (.Constant (.bool i) j pos) (pC (.bl i)):=⟨_,o'K,n'A⟩
theorem b'F {j}:QE X k (.Constant .none j pos) (pC .non):=⟨_,m'K,l'K⟩
theorem d'v {x:Str} {u:Value} {t:Tr} (v:V) (hg:Gl X x) (hm:X.mg x=some u) (r:RelV v u) (ht:∀ F B,R X.K F B t v []) (hd:(x == ("__debug__":Str))=false:=by decide):QE X k (.Name x pos) (pC t):=⟨_,l'h hg hm r hd,b'S ht⟩
theorem b'U {op:Operator} {r:R2} {pr:Tr→Tr→(Tr→Prop)→Prop} (ho:OpR X (binaryOp op) r) (hs:Op2 X.K k r pr) (ha:QE X k a pa) (hb:QE X k b pb):QE X k (.BinOp a op b pos) (p2 pr pa pb):=by
  obtain⟨ta,h1,h2⟩:=ha.h
  obtain⟨tb,g1,g2⟩:=hb.h
  exact⟨_,o'O ho h1 g1,c'p hs h2 g2⟩
theorem a'v (ha:QE X k a pa) (hb:QE X k b pb):QE X k (.BinOp a .Add b pos) (p2 wAdd pa pb):=b'U o'Y l'Q ha hb
theorem c'Z (ha:QE X k a pa) (hb:QE X k b pb):QE X k (.BinOp a .Sub b pos) (p2 (wInt2 (fun _ _=>True) fun i j=>.int (i - j)) pa pb):=b'U n'a l'T ha hb
theorem p'a (ha:QE X k a pa) (hb:QE X k b pb):QE X k (.BinOp a .Mult b pos) (p2 wMul pa pb):=b'U o'Z l'R ha hb
theorem a'C (ha:QE X k a pa) (hb:QE X k b pb):QE X k (.BinOp a .FloorDiv b pos) (p2 (wInt2 CDivB fun i j=>.int (i.fdiv j)) pa pb):=b'U i'P j'f ha hb
theorem a'w (ha:QE X k a pa) (hb:QE X k b pb):QE X k (.BinOp a .Mod b pos) (p2 (wInt2 (fun _ j=>0<j) fun i j=>.int (i % j)) pa pb):=b'U n'b l'U ha hb
theorem p'b (ha:QE X k a pa):QE X k (.UnaryOp .USub a pos) (p1 wNeg pa):=by
  obtain⟨ta,h1,h2⟩:=ha.h
  exact⟨_,o'P n'd h1,n'B l'V h2⟩
theorem a'D (hu:X.A.units+1<cLine) (ha:QE X k a pa) (hb:QE X k b pb) (hs:PlainIx b):QE X k (.Subscript a b pos) (p2 wIdx pa pb):=by
  obtain⟨ta,h1,h2⟩:=ha.h
  obtain⟨tb,g1,g2⟩:=hb.h
  exact⟨_,o'R (p't hu) h1 g1 hs,c'p l'S h2 g2⟩
theorem b'G {op:CmpOp} {r:R2} {pr:Tr→Tr→(Tr→Prop)→Prop} (ho:OpR X (compareOp op) r) (hs:Op2 X.K k r pr) (ha:QE X k a pa) (hb:QE X k b pb) (hm:behindInMarks op b=false):QE X k (.Compare a [op] [b] pos) (p2 pr pa pb):=by
  obtain⟨ta,h1,h2⟩:=ha.h
  obtain⟨tb,g1,g2⟩:=hb.h
  exact⟨_,l'm ho h1 g1 hm,c'p hs h2 g2⟩
theorem a'i {op:CmpOp} {r:R2} {pr:Tr→Tr→(Tr→Prop)→Prop} (ho:OpR X (compareOp op) r) (hs:Op2 X.K k r pr) (ha:QE X k a pa) (hb:QE X k b pb) (hm:behindInMarks op b=false):QT X k (.Compare a [op] [b] pos) (pT (p2 pr pa pb)):=by
  obtain⟨ta,h1,h2⟩:=ha.h
  obtain⟨tb,g1,g2⟩:=hb.h
  exact⟨_,l'n ho h1 g1 hm,g'W (c'p hs h2 g2)⟩
theorem c'r {e:Expr} {pe:PE'} (h:QE X k e pe) (he:∀ whole,isTrue e X.env whole=(do let v ← whole;standAt e.pos;holding [v] (truthy v)):=by intro _;rfl):QT X k e (pT pe):=by
  obtain⟨te,h1,h2⟩:=h.h
  exact⟨_,m'M h1 he,g'V h2⟩
theorem d'a {e:Expr} {pe:PB'} (h:QT X k e pe):QT X k (.UnaryOp .Not e pos) (pNot pe):=by
  obtain⟨te,h1,h2⟩:=h.h
  exact⟨_,m'P h1,l'Z h2⟩
theorem QW.t {e:Expr} {pe:PB'} (h:QW X k e pe):QT X k e pe:=by
  obtain⟨te,h1,h2⟩:=h.h
  exact⟨_,h1.pt,h2⟩
theorem e'y {e:Expr} {pe:PB'} (h:QT X k e pe):QW X k (.BoolOp .And [e] pos) pe:=by
  obtain⟨te,h1,h2⟩:=h.h
  exact⟨_,l'j h1,h2⟩
theorem b'm {e:Expr} {pe:PB'} (h:QT X k e pe):QW X k (.BoolOp .Or [e] pos) pe:=by
  obtain⟨te,h1,h2⟩:=h.h
  exact⟨_,m'N h1,h2⟩
theorem g'Z {e f:Expr} {r:List Expr} {pe pf:PB'} (h:QT X k e pe) (h':QW X k (.BoolOp .And (f :: r) pos) pf):QW X k (.BoolOp .And (e :: f :: r) pos) (pAnd pe pf):=by
  obtain⟨te,h1,h2⟩:=h.h
  obtain⟨tf,g1,g2⟩:=h'.h
  exact⟨_,m'O h1 g1,l'Y h2 g2⟩
theorem a'S {e f:Expr} {r:List Expr} {pe pf:PB'} (h:QT X k e pe) (h':QW X k (.BoolOp .Or (f :: r) pos) pf):QW X k (.BoolOp .Or (e :: f :: r) pos) (pOr pe pf):=by
  obtain⟨te,h1,h2⟩:=h.h
  obtain⟨tf,g1,g2⟩:=h'.h
  exact⟨_,o'L h1 g1,n'E h2 g2⟩
theorem d'b {op} {e:Expr} {pe:PE'} (h:QE X k e pe):QE X k (.BoolOp op [e] pos) pe:=by
  obtain⟨te,h1,h2⟩:=h.h
  exact⟨_,m'Q h1,h2⟩
theorem d'c {e f:Expr} {r:List Expr} {pe pf:PE'} (h:QE X k e pe) (h':QE X k (.BoolOp .And (f :: r) pos) pf):QE X k (.BoolOp .And (e :: f :: r) pos) (pAndV pe pf):=by
  obtain⟨te,h1,h2⟩:=h.h
  obtain⟨tf,g1,g2⟩:=h'.h
  exact⟨_,m'R h1 g1,j'g h2 g2⟩
theorem p'u {e f:Expr} {r:List Expr} {pe pf:PE'} (h:QE X k e pe) (h':QE X k (.BoolOp .Or (f :: r) pos) pf):QE X k (.BoolOp .Or (e :: f :: r) pos) (pOrV pe pf):=by
  obtain⟨te,h1,h2⟩:=h.h
  obtain⟨tf,g1,g2⟩:=h'.h
  exact⟨_,o'M h1 g1,m'a h2 g2⟩
theorem d'w {e:Expr} {pe:PE'} (h:QE X k e pe):QE X k (.UnaryOp .Not e pos) (pNotV pe):=by
  obtain⟨te,h1,h2⟩:=h.h
  exact⟨_,m'S h1,j'h h2⟩
theorem p'c {pt:PB'} (hc:QT X k c pt) (ha:QE X k a pa) (hb:QE X k b pb):QE X k (.IfExp c a b pos) (pIf pt pa pb):=by
  obtain⟨tc,h1,h2⟩:=hc.h
  obtain⟨ta,g1,g2⟩:=ha.h
  obtain⟨tb,f1,f2⟩:=hb.h
  exact⟨_,i'G h1 g1 f1,m'b h2 g2 f2⟩
theorem a'd:QA X k [] pNil:=⟨_,n'f,l'L⟩
theorem a'a {es:List Expr} {ps:PA'} (h:QE X k a pa) (h':QA X k es ps) (hs:starEach (a :: es) X.env=(false,eval a X.env) :: starEach es X.env:=by rfl):QA X k (a :: es) (pCons pa ps):=by
  obtain⟨te,h1,h2⟩:=h.h
  obtain⟨tf,g1,g2⟩:=h'.h
  exact⟨_,l'p h1 g1 hs,j'd h2 g2⟩
theorem a'T {es:List Expr} {ps:PA'} {x1} (h:QA X k es ps):QE X k (.Tuple es x1 pos) (pTup ps):=by
  obtain⟨te,h1,h2⟩:=h.h
  exact⟨_,n'g h1,l'N h2⟩
theorem f'U {es:List Expr} {ps:PA'} (h:QA X k es ps):QE X k (.List es pos) (pLst ps):=by
  obtain⟨te,h1,h2⟩:=h.h
  exact⟨_,n'h h1,l'O h2⟩
theorem a'n {z:Bool} {n m:Nat} {psp:PSp} {f:Addr} {fd:FuncData} {pn:List Str} {e:Expr} {es:List Expr} {ps:PA'} {x:Str} {p:Pos} (G:FnOk X.prog X.w X.K X.mg X.base CX0 m f fd pn (spP X.K z 0 n psp)) (hk:z=true→k.z=true) (hn:∀ xs Q,psp xs Q→xs.length=n) (hr:Room m X.A) (hg:Gl X x) (hm:X.mg x=some (.ref f)) (hkp:PySem.W.keepIn X.K (.ref f)=true) (hb:Binds X.K fd pn []) (ha:QA X k (e :: es) ps) (hdb:(x == ("__debug__":Str))=false:=by decide) (he:starEach (e :: es) X.env=(false,eval e X.env) :: starEach es X.env:=by rfl) (hpl:(backTo pos (starEach es X.env)).any (·.1)=false:=by rfl) :
    QE X k (.Call (.Name x p) (e :: es) [] pos) (pCall psp ps):=by
  obtain⟨ta,h1,h2⟩:=ha.h
  exact⟨_,l'q (E:=E0) G hr hg hm hkp hb .nil o'S h1 hdb he hpl,j'k hk hn h2⟩
theorem a'H {r:List V→Hp→VK→Prop} {pr:List Tr→(Tr→Prop)→Prop} {id:String} {x:Str} {p:Pos} {e:Expr} {es:List Expr} {ps:PA'} (hc:CallR X (.builtin id) r) (ho:OpA X.K k r pr) (hg:Gl X x) (hm:X.mg x=none) (hv:bootBuiltins x=some (.builtin id)) (ha:QA X k (e :: es) ps) (hn:x≠"__name__":=by decide) (hdb:(x == ("__debug__":Str))=false:=by decide) (he:starEach (e :: es) X.env=(false,eval e X.env) :: starEach es X.env:=by rfl) (hpl:(backTo pos (starEach es X.env)).any (·.1)=false:=by rfl) :
    QE X k (.Call (.Name x p) (e :: es) [] pos) (pB pr ps):=by
  obtain⟨ta,h1,h2⟩:=ha.h
  exact⟨_,i'L hc hg hm hv h1 hn hdb he hpl,g'Y ho h2⟩
theorem a'm:QB X k lo [] pNext:=⟨_,l'k,j'i⟩
theorem a'b {st:Stmt} {r:List Stmt} {p q:PS'} (h:QS X k lo st p) (h':QB X k lo r q):QB X k lo (st :: r) (pSeq p q):=by
  obtain⟨te,h1,h2⟩:=h.h
  obtain⟨tf,g1,g2⟩:=h'.h
  exact⟨_,i'H h1 g1,m'c h2 g2⟩
theorem a'e {st:Stmt} {p:PS'} (h:QS X k lo st p):QB X k lo [st] p:=by
  obtain⟨te,h1,h2⟩:=h.h
  exact⟨_,e'l h1,h2⟩
def pNever:PS':=fun _ _=>False
theorem m'h {st:Stmt}:QS X k lo st pNever:=⟨_,i'I,fun _ _ _ _ _ _ _ _ _ _ _ h _=>h⟩
theorem a'o {e:Expr} {pe:PE'} (h:QE X k e pe):QS X k lo (.Return (some e) pos) (pRet pe):=by
  obtain⟨te,h1,h2⟩:=h.h
  exact⟨_,m'T h1,m'e h2⟩
theorem a's {e:Expr} {pe:PB'} {s1 s2:List Stmt} {p q:PS'} (hc:QT X k e pe) (h:QB X k lo s1 p) (h':QB X k lo s2 q):QS X k lo (.If e s1 s2 pos) (pIfS pe p q):=by
  obtain⟨tc,h1,h2⟩:=hc.h
  obtain⟨ta,g1,g2⟩:=h.h
  obtain⟨tb,f1,f2⟩:=h'.h
  exact⟨_,o'N h1 g1 f1,n'F h2 g2 f2⟩
theorem j'M {e:Expr} {pe:PB'} {s1:List Stmt} {p:PS'} (hp:PassesOwn (model X.prog X.w) X.A X.env X.xe) (hc:QT X k e pe) (h:QB X k lo s1 p):QS X k lo (.While e s1 [] pos) (pWhl pe p):=by
  obtain⟨tc,h1,h2⟩:=hc.h
  obtain⟨ta,g1,g2⟩:=h.h
  exact⟨_,i'J hp h1 g1,m'f h2 g2⟩
theorem p'd {i:Nat} {x:Str} {e:Expr} {pe:PE'} {pos':Pos} (hN:X.N.Nodup) (hl:lo≤i) (hi:X.N[i]?=some x) (hx:Loc X.env.scope x) (h:QE X k e pe) (hs:swapsWith e (some (.Name x pos')) pos.line X.env=pure false:=by rfl) (hf:X.fn x=true∨X.env.scope.names.lookup x=some .local:=by first | exact .inl rfl | exact .inr rfl | assumption) :
    QS X k lo (.Assign [.Name x pos'] e pos) (pAsg i pe):=by
  obtain⟨te,h1,h2⟩:=h.h
  exact⟨_,d'f hN hi hx h1 hs hf,m'd hl h2⟩
end
section
variable {P:Program} {w:World} {K:PySem.W.Frag} {mg:Str→Option Value} {base:Heap}
theorem a'U {z:Bool} {lo:Nat} {x qual:Str} {st:Stmt} {f:Addr} {fd:FuncData} {N ps:List Str} {m n:Nat} {psp:PSp} (F:Fun K x qual st f fd) (S:FnScope N ps (defScope st)) (hn:ps.length=n) (hlo:lo≤n)
    (body:∀ (cdv:Value) (A:Around) (outer:List Env) (s:Shared) (H:Hp) (E:XK),Room m (A.deeper (PyProof.Rows.envOfC qual (defScope st) s.heap.objs.size f cdv))→
      ∃ pb,QB (cxOf CX0 P w K mg base N qual (defScope st) f cdv A outer s H E).nox (Md.base z) lo (defBody st) pb∧∀ xs Q',xs.length=n→psp xs Q'→pb { nx:=fun ρ=>Q' .non ρ,rt:=Q' } (xs++List.replicate (N.length - n) .hole)) :
    FnOk P w K mg base CX0 (m+1) f fd ps (spP K z lo n psp):=m'g F S hn hlo fun cdv A outer s H E hr=>by
  obtain⟨pb,h,q⟩:=body cdv A outer s H E hr
  obtain⟨ts,h1,h2⟩:=h.h
  exact⟨ts,pb,h1,h2,q⟩
theorem p'e {z:Bool} {lo:Nat} {x qual:Str} {st:Stmt} {f:Addr} {fd:FuncData} {N ps:List Str} {m n:Nat} {psp:PSpX} (F:Fun K x qual st f fd) (S:FnScope N ps (defScope st)) (hn:ps.length=n) (hlo:lo≤n)
    (body:∀ (cdv:Value) (A:Around) (outer:List Env) (s:Shared) (H:Hp) (E:XK) (q:Value→Prop),Room m (A.deeper (PyProof.Rows.envOfC qual (defScope st) s.heap.objs.size f cdv))→
      ∃ pb,QB (cxOf (CX1 P w) P w K mg base N qual (defScope st) f cdv A outer s H E) ⟨z,fun _=>E,q⟩ lo (defBody st) pb∧∀ xs Q',xs.length=n→psp xs Q' q→pb { nx:=fun ρ=>Q' .non ρ,rt:=Q' } (xs++List.replicate (N.length - n) .hole)) :
    FnOk P w K mg base (CX1 P w) (m+1) f fd ps (spX K z lo n psp):=j'j F S hn hlo fun cdv A outer s H E q hr=>by
  obtain⟨pb,h,q⟩:=body cdv A outer s H E q hr
  obtain⟨ts,h1,h2⟩:=h.h
  exact⟨ts,pb,h1,h2,q⟩
end
end Pu
namespace Pu
open PySem L2 Vc Sf
section
variable {K:PySem.W.Frag} {k:Md} {lo:Nat} {us:List V} {Fb Hb F H F' H':Hp} {σ:St} {ρ:List Tr} {cs:Nat→Cs}
theorem lay:∀ (c:Cs) {F:Hp},Gr Fb Hb F H→Cells F H c→New Hb c→Plain c→∃ F',Gr Fb Hb F' H∧(∀ S,Fz S F→Fz S F')∧Same F F'∧(∀ p∈c,F' p.1=some p.2)∧∀ a,a ∉ c.map (·.1)→F' a=F a
  | [], F, g, _, _, _ => ⟨F, g, fun _ h => h, Same.refl F, fun _ m => (nomatch m), fun _ _ => rfl⟩
  | (a, o) :: c, F, g, hc, n, pl => by
    obtain⟨F1,g1,z1,s1,e1,n1⟩:=Vc.frz g.toGr0 g.z (n _ (.head _)) (hc.f _ (.head _)) (hc.h _ (.head _)) (pl _ (.head _))
    have nd:=hc.nd
    rw [List.map_cons,List.nodup_cons] at nd
    have hc1:Cells F1 H c:=⟨fun p m=>hc.h p (.tail _ m),fun p m=>by rw [n1 p.1 (fun z=>nd.1 (List.mem_map.mpr ⟨p,m,z⟩))];exact hc.f p (.tail _ m),nd.2⟩
    obtain⟨F2,g2,z2,s2,e2,n2⟩:=lay c ⟨g1,z1⟩ hc1 (fun p m=>n p (.tail _ m)) fun p m=>pl p (.tail _ m)
    refine⟨F2,g2,fun S h=>z2 S fun b x u e=>?_,s1.trans s2,fun p m=>?_,fun b hb=>?_⟩
    · by_cases hb:b=a
      · subst hb;rw [e1] at e;exact absurd (Option.some.inj e) (pl _ (.head _) x u)
      · rw [n1 b hb] at e;exact h b x u e
    · cases m with
      | head=>exact s2 _ _ e1
      | tail _ m=>exact e2 p m
    · rw [List.map_cons,List.mem_cons] at hb
      rw [n2 b fun z=>hb (.inr z),n1 b fun z=>hb (.inl z)]
theorem Wld.lay {c:Cs} (W:Wld K k lo us Fb Hb F H σ ρ cs) (hc:Cells F H c) (n:New Hb c) (pl:Plain c) (d:∀ j,∀ p∈cs j,∀ q∈c,p.1≠q.1):∃ F',Wld K k lo us Fb Hb F' H σ ρ cs∧Same F F'∧∀ p∈c,F' p.1=some p.2:=by
  obtain⟨F1,g1,z1,s1,e1,n1⟩:=Pu.lay c W.g hc n pl
  refine⟨F1,⟨g1,fun h=>z1 _ (W.z h),W.l,fun i t h=>(W.e i t h).imp id fun ⟨v,h1,h2⟩=>⟨v,h1,h2.mo (Le.of s1) (fun _=>Le.refl _) t⟩,fun i=>⟨(W.c i).h,fun p m=>?_,(W.c i).nd⟩,W.n,W.d,W.p,W.x⟩,s1,e1⟩
  rw [n1 p.1 fun z=>?_]
  · exact (W.c i).f p m
  · obtain⟨q,mq,e⟩:=List.mem_map.mp z
    exact d i p m q mq e.symm
theorem Wld.fresh {t:Tr} {v:V} {c:Cs} {B:Bool→Hp} (W:Wld K k lo us Fb Hb F H σ ρ cs) (o:Out K F B H F' H' t v c):New Hb c∧∀ j,∀ p∈cs j,∀ q∈c,p.1≠q.1:=
  ⟨fun p m=>W.g.h.free (o.n p m),fun j p mp q mq e=>by
    have:=(W.c j).h p mp
    rw [e,o.n q mq] at this
    cases this⟩
theorem Wld.outF {i:Nat} {t:Tr} {v:V} {c:Cs} (W:Wld K k lo us Fb Hb F H σ ρ cs) (o:Out K F (Bq Hb H) H F' H' t v c) (hi:lo≤i) (n:nlt t=true) :
    ∃ F'' cs',Wld K k lo us Fb Hb F'' H' (σ.set i (some v)) (ρ.set i (frz t)) cs':=by
  obtain⟨n1,d1⟩:=W.fresh o
  obtain⟨F2,W2,s2,e2⟩:=(W.gr o.g).lay o.c n1 (o.r.plain t) d1
  exact⟨F2,_,W2.set hi ((R.low (B':=fun _=>Hb) t n rfl o.r).frz (Le.of s2) t e2) .nil .nil fun _ _ _ _ _ m=>nomatch m⟩
def pAsgF (i:Nat) (pe:PE'):PS':=fun D ρ=>pe (ρ.map lend) fun t=>nlt t=true∧D.nx (ρ.set i (frz t))
theorem j'l {i:Nat} {te:TE} {pe:PE'} (hi:lo≤i) (h:Sim K k te pe):SimS K k lo (tAsg te (gName i)) (pAsgF i pe):=fun us Fb Hb F H σ ρ cs D D' W p L=>by
  refine h F (Bq Hb H) H σ _ _ _ W.cxt p fun t v F1 H1 c q o=>?_
  obtain⟨F2,cs2,W2⟩:=W.outF o hi q.1
  exact L.nx F2 H1 _ _ _ W2 q.2
abbrev PG':=Tr→List Tr→(List Tr→Prop)→Prop
def SimG (K:PySem.W.Frag) (k:Md) (lo:Nat) (tg:TG) (pg:PG'):Prop:=∀ (us:List V) (Fb Hb F H:Hp) (σ:St) (ρ:List Tr) (cs:Nat→Cs) (x:V) (t:Tr) (Q:St→Hp→Prop) (Q':List Tr→Prop),Wld K k lo us Fb Hb F H σ ρ cs→R K F (fun _=>Hb) t x []→pg t ρ Q'→(∀ σ' ρ' cs',Wld K k lo us Fb Hb F H σ' ρ' cs'→Q' ρ'→Q σ' H)→tg x σ H Q
def pgN (i:Nat):PG':=fun t ρ Q=>Q (ρ.set i t)
theorem n'G {i:Nat} (hi:lo≤i):SimG K k lo (gName i) (pgN i):=fun us Fb Hb F H σ ρ cs x t Q Q' W r p q=>q _ _ _ (W.set hi r .nil .nil fun _ _ _ _ _ m=>nomatch m) p
def pgsNil:List Tr→List Tr→(List Tr→Prop)→Prop:=fun ts ρ Q=>match ts with | []=>Q ρ | _=>False
def pgsCons (pg:PG') (pr:List Tr→List Tr→(List Tr→Prop)→Prop):List Tr→List Tr→(List Tr→Prop)→Prop:=fun ts ρ Q=>match ts with | t :: r=>pg t ρ fun ρ'=>pr r ρ' Q | []=>False
def pgT (n:Nat) (pr:List Tr→List Tr→(List Tr→Prop)→Prop):PG':=fun t ρ Q=>match t with | .tup ts=>ts.length=n∧pr ts ρ Q | _=>False
def pUnp (pe:PE') (pg:PG'):PS':=fun D ρ=>pe (ρ.map lend) fun t=>nlt t=true∧pg (frz t) ρ D.nx
def pPar (i j:Nat) (pa:PA'):PS':=fun D ρ=>pa (ρ.map lend) fun ts=>match ts with | [a,b]=>nlt a=true∧nlt b=true∧D.nx ((ρ.set i (frz a)).set j (frz b)) | _=>False
theorem m'i {i j:Nat} {ta:TA} {pa:PA'} (hi:lo≤i) (hj:lo≤j) (h:SimA K k ta pa):SimS K k lo (tPar i j ta) (pPar i j pa):=fun us Fb Hb F H σ ρ cs D D' W p L=>by
  refine h F (Bq Hb H) H σ _ _ _ W.cxt p fun ts vs F1 H1 c q o=>?_
  split at q
  · obtain⟨v,r,c1,d1,h1,h2,h3,v',r',c2,d2,g1,g2,g3,g4,g5⟩:=o.r
    have n1:New Hb c:=fun p m=>W.g.h.free (o.n p m)
    have dj:∀ j,∀ p∈cs j,∀ q∈c,p.1≠q.1:=fun j p mp q mq e=>by
      have:=(W.c j).h p mp
      rw [e,o.n q mq] at this
      cases this
    have pl:Plain c:=Rs.plain _ o.r
    obtain⟨F2,W2,s2,e2⟩:=(W.gr o.g).lay o.c n1 pl dj
    refine⟨v,v',by rw [h1,g1,g4],L.nx F2 H1 _ _ _ ((W2.set hi ((R.low (B':=fun _=>Hb) _ q.1 rfl h3).frz (Le.of s2) _ fun p m=>e2 p (by rw [h2];exact List.mem_append.mpr (.inl m))) .nil .nil fun _ _ _ _ _ m=>nomatch m).set hj ((R.low (B':=fun _=>Hb) _ q.2.1 rfl g3).frz (Le.of s2) _ fun p m=>e2 p (by rw [h2,g2];exact List.mem_append.mpr (.inr (List.mem_append.mpr (.inl m))))) .nil .nil fun _ _ _ _ _ m=>nomatch m) q.2.2⟩
  · exact q.elim
end
end Pu
namespace Pu
open PySem L2 Vc Sf
def Runs (J:It) (n:Nat) (Kp:Hp→Prop) (Y:Nat→Hp→V→Hp→Prop):Prop:=∀ (g:TG) (tb:TS) (D:Ends) (σ:St) (H:Hp) (Pv:Nat→St→Hp→Prop),Pv 0 σ H→(∀ i σ H,i≤n→Pv i σ H→Kp H)→
  (∀ i x σ H H',i<n→Pv i σ H→Y i H x H'→g x σ H' fun σ2 H2=>tb { D with nx:=Pv (i+1),ct:=Pv (i+1),bk:=D.nx } σ2 H2)→(∀ σ H,Pv n σ H→D.nx σ H)→
  ∃ W:Nat→Nat→St→Hp→Prop,(∃ m,W 0 m σ H)∧∀ i m σ H,W i m σ H→
    (J.stop i H∧D.nx σ H)∨(J.go i H∧∃ N:St→Hp→Prop,(∀ σ' H',N σ' H'→∃ m',m'<m∧W (i+1) m' σ' H')∧∀ x H',J.yld i H x H'→g x σ H' fun σ2 H2=>tb { D with nx:=N,ct:=N,bk:=D.nx } σ2 H2)
theorem p'f {α:Type} {xs:List α} {i:Nat} {x:α} (h:xs[i]?=some x):i<xs.length:=(List.getElem?_eq_some_iff.mp h).1
structure ItOk (J:It) (n:Nat) (Kp:Hp→Prop) (Y:Nat→Hp→V→Hp→Prop):Prop where
  go:∀ i H,i<n→Kp H→J.go i H
  st:∀ H,Kp H→J.stop n H
  yl:∀ i H x H',i<n→Kp H→J.yld i H x H'→Y i H x H'
theorem ItOk.runs {J:It} {n:Nat} {Kp:Hp→Prop} {Y:Nat→Hp→V→Hp→Prop} (o:ItOk J n Kp Y):Runs J n Kp Y:=fun g tb D σ H Pv h0 hk hs hd=>by
  refine⟨fun i m σ H=>m=n - i∧i≤n∧Pv i σ H,⟨n,by simp,Nat.zero_le _,h0⟩,?_⟩
  rintro i m σ H ⟨rfl,hi,p⟩
  by_cases hlt:i<n
  · exact .inr ⟨o.go i H hlt (hk i σ H hi p),Pv (i+1),fun σ' H' p'=>⟨n - (i+1),by omega,rfl,hlt,p'⟩,fun x H' y=>hs i x σ H H' hlt p (o.yl i H x H' hlt (hk i σ H hi p) y)⟩
  · have e:i=n:=by omega
    subst e
    exact .inl ⟨o.st H (hk i σ H hi p),hd σ H p⟩
theorem j'N {α:Type} {xs:List α} {i:Nat} (h:i<xs.length):∃ x,xs[i]?=some x:=⟨_,List.getElem?_eq_getElem h⟩
theorem m'j {K:PySem.W.Frag} {a:Addr} {xs:List V}:ItOk (Itl K a) xs.length (fun H=>SqL K H a xs) (fun i H x H'=>xs[i]?=some x∧H'=H):=
  ⟨fun i H h q=>by obtain⟨x,e⟩:=j'N h;exact⟨xs,x,q,e⟩,fun H q=>⟨xs,q,Nat.le_refl _⟩,fun i H x H' h q y=>⟨y.2 xs q,y.1⟩⟩
def Src (K:PySem.W.Frag) (B:Bool→Hp) (F:Hp) (J:It) (ts:List Tr):Prop:=∃ (Kp:Hp→Prop) (Y:Nat→Hp→V→Hp→Prop),ItOk J ts.length Kp Y∧(∀ F' H',Le F F'→Same F' H'→(∀ k,Same (B k) H')→Kp H')∧
  ∀ i t F' H' x H'',ts[i]?=some t→Le F F'→Same F' H'→(∀ k,Same (B k) H')→Y i H' x H''→∃ F'',Gr F' H' F'' H''∧R K F'' B t x []
section
variable {K:PySem.W.Frag} {k:Md} {lo:Nat} {us:List V} {Fb Hb F H F' H' F1 H1:Hp} {σ:St} {ρ:List Tr} {cs:Nat→Cs}
abbrev PI':=List Tr→(List Tr→Bool→Prop)→Prop
def SimI (K:PySem.W.Frag) (k:Md) (wi:TI) (pi:PI'):Prop:=∀ (F:Hp) (B:Bool→Hp) (H:Hp) (σ:St) (ρ:List Tr) (R':It→Hp→Prop) (Q':List Tr→Bool→Prop),Cxt K k F B H σ ρ→pi ρ Q'→
  (∀ ts nl J F' H',Q' ts nl→Gr F H F' H'→Src K B F' J ts→(nl=true→∀ B':Bool→Hp,B' false=B false→Src K B' F' J ts)→R' J H')→wi σ H R'
theorem _root_.Vc.Gr.base (g:Gr Fb Hb F1 H1) (g':Gr F1 Hb F H):Gr Fb Hb F H:=
  Gr.of ⟨g'.h,g.f.trans g'.f,g'.s,fun a u e z=>by
    cases q:F1 a with
    | some w=>exact g.n a w q z
    | none=>exact g'.n a u e q⟩ (g'.fz g.z)
theorem Wld.base {σ0:St} {ρ0:List Tr} {cs0:Nat→Cs} (W0:Wld K k lo us Fb Hb F1 H1 σ0 ρ0 cs0) (W:Wld K k lo us F1 Hb F H σ ρ cs):Wld K k lo us Fb Hb F H σ ρ cs:=⟨W0.g.base W.g,W.z,W.l,W.e,W.c,W.n,W.d,W.p,W0.x⟩
theorem Wld.rebase (W:Wld K k lo us Fb Hb F H σ ρ cs):Wld K k lo us F Hb F H σ ρ cs:=⟨⟨⟨W.g.h,Same.refl F,W.g.s,fun a u e z=>by rw [e] at z;cases z⟩,Fz.refl F⟩,W.z,W.l,W.e,W.c,W.n,W.d,W.p,fun cls σ' F' H' q g=>W.x cls σ' F' H' q (W.g.base g)⟩
theorem Lk.rebase {D:Ends} {D':Pd} {σ0:St} {ρ0:List Tr} {cs0:Nat→Cs} (W0:Wld K k lo us Fb Hb F1 H1 σ0 ρ0 cs0) (L:Lk K k lo us Fb Hb D D'):Lk K k lo us F1 Hb D D':=
  ⟨fun F H σ ρ cs W=>L.nx F H σ ρ cs (W0.base W),fun F H σ ρ cs v t c W=>L.rt F H σ ρ cs v t c (W0.base W),fun F H σ ρ cs W=>L.bk F H σ ρ cs (W0.base W),fun F H σ ρ cs W=>L.ct F H σ ρ cs (W0.base W)⟩
def pFor (pi:PI') (pg:PG') (pb:PS'):PS':=fun D ρ=>pi (ρ.map lend) fun ts nl=>nl=true∧∃ I:Nat→List Tr→Prop,I 0 ρ∧(∀ i t ρ,ts[i]?=some t→I i ρ→pg t ρ fun ρ'=>pb { D with nx:=I (i+1),ct:=I (i+1),bk:=D.nx } ρ')∧∀ ρ,I ts.length ρ→D.nx ρ
theorem m'k {wi:TI} {pi:PI'} {tg:TG} {pg:PG'} {tb:TS} {pb:PS'} (hi:SimI K k wi pi) (hg:SimG K k lo tg pg) (hb:SimS K k lo tb pb):SimS K k lo (tFor wi tg tb) (pFor pi pg pb):=fun us Fb Hb F H σ ρ cs D D' W p L=>by
  refine hi F (Bq Hb H) H σ _ _ _ W.cxt p fun ts nl J F1 H1 q g1 _ src=>?_
  have W1:=W.gr g1
  obtain⟨hnl,I,i0,step,fin⟩:=q
  obtain⟨Kp,Y,ito,kp,yl⟩:=src hnl (fun _=>Hb) rfl
  have run:=ito.runs
  have L1:=L.rebase W1
  refine run tg tb D σ H1 (fun i σ H=>∃ F ρ cs,Wld K k lo us F1 Hb F H σ ρ cs∧I i ρ) ⟨F1,ρ,cs,W1.rebase,i0⟩ ?_ ?_ ?_
  · rintro i σ H hi ⟨F,ρ,cs,W,_⟩
    exact kp F H (Le.of W.g.f) W.g.s fun _=>W.g.h
  · rintro i x σ H H' hi ⟨F,ρ,cs,W,ii⟩ y
    have ht:ts[i]?=some (ts[i]'hi):=List.getElem?_eq_getElem hi
    obtain⟨F2,g2,r2⟩:=yl i _ F H x H' ht (Le.of W.g.f) W.g.s (fun _=>W.g.h) y
    refine hg us F1 Hb F2 H' σ ρ cs x _ _ _ (W.gr g2) r2 (step i _ ρ ht ii) fun σ' ρ' cs' W' p'=>?_
    exact hb us F1 Hb F2 H' σ' ρ' cs' _ _ W' p' ⟨fun F H σ ρ cs W q=>⟨F,ρ,cs,W,q⟩,L1.rt,L1.nx,fun F H σ ρ cs W q=>⟨F,ρ,cs,W,q⟩⟩
  · rintro σ H ⟨F,ρ,cs,W,q⟩
    exact L1.nx F H σ ρ cs W (fin ρ q)
theorem n'H {a:Addr} {vs:List V} {F':Hp} {H':Hp} (l:Le F F') (s:Same F' H') (h:SqL K F a vs):SqL K H' a vs:=s.seq (l.lst h)
variable {B:Bool→Hp}
theorem j'O {f:Fl} {xs:List Tr} {v:V} (r:R K F B (.lst f xs) v []):∃ a vs,v=.ref a∧Rs K F B xs vs []∧∀ F' H',Le F F'→Same F' H'→(∀ k,Same (B k) H')→SqL K H' a vs:=by
  cases f with
  | f => obtain ⟨_, a, vs, h1, h2, h3⟩ := r; exact ⟨a, vs, h1, h3, fun F' H' l s b => n'H l s h2⟩
  | l q => obtain ⟨_, a, vs, h1, h2, h3⟩ := r; exact ⟨a, vs, h1, h3, fun F' H' l s b => (b q).seq h2⟩
  | o => obtain ⟨a, vs, ds, h1, h2, h3⟩ := r; cases h2
theorem Rs.nil_at {xs:List Tr} {vs:List V} {i:Nat} {t:Tr} (r:Rs K F B xs vs []) (h:xs[i]?=some t):∃ u,vs[i]?=some u∧R K F B t u []:=by
  obtain⟨u,c,h1,h2,h3⟩:=r.at h
  have e:c=[]:=List.eq_nil_iff_forall_not_mem.mpr fun p m=>nomatch h3 p m
  rw [e] at h2
  exact⟨u,h1,h2⟩
theorem d'x {a:Addr} {f:Fl} {xs:List Tr} (r:R K F B (.lst f xs) (.ref a) []):Src K B F (Itl K a) xs:=by
  obtain⟨a',vs,h1,h2,h3⟩:=j'O r
  cases h1
  refine⟨_,_,h2.length ▸ m'j (K:=K) (a:=a) (xs:=vs),h3,fun i t F' H' x H'' ht l s b y=>?_⟩
  obtain⟨y1,rfl⟩:=y
  obtain⟨u,e1,e2⟩:=h2.nil_at ht
  rw [e1] at y1
  cases y1
  exact⟨F',Gr.refl' s,e2.mo l (fun _=>Le.refl _) t⟩
theorem Out.held {t:Tr} {v:V} {c:Cs} (o:Out K F B H F' H' t v c):∃ F'',Gr F H F'' H'∧R K F'' B (frz t) v []:=by
  obtain⟨F2,g2,_,s2,e2,_⟩:=Pu.lay c o.g o.c o.n (o.r.plain t)
  exact⟨F2,g2,o.r.frz (Le.of s2) t e2⟩
theorem OutA.held {t:List Tr} {v:List V} {c:Cs} (o:OutA K F B H F' H' t v c):∃ F'',Gr F H F'' H'∧Rs K F'' B (frzs t) v []:=by
  obtain⟨F2,g2,_,s2,e2,_⟩:=Pu.lay c o.g o.c o.n (o.r.plain t)
  exact⟨F2,g2,o.r.frz (Le.of s2) t e2⟩
def wLst (t:Tr) (Q:List Tr→Prop):Prop:=match t with | .lst _ xs=>Q xs | _=>False
theorem m'l {t:Tr} {Q:List Tr→Prop} (h:wLst t Q):∃ f xs,t=.lst f xs∧Q xs:=by
  unfold wLst at h
  split at h
  · exact⟨_,_,rfl,h⟩
  · exact h.elim
def piL (pe:PE'):PI':=fun ρ Q=>pe ρ fun t=>wLst (frz t) fun xs=>Q xs (nlt (frz t))
theorem h'a {te:TE} {pe:PE'} (h:Sim K k te pe):SimI K k (iList K te) (piL pe):=fun F B H σ ρ R' Q' c p q=>by
  refine h F B H σ ρ _ _ c p fun t v F1 H1 c1 p1 o=>?_
  obtain⟨F2,g2,r2⟩:=o.held
  obtain⟨f,xs,e,p1⟩:=m'l p1
  rw [e] at r2 p1
  obtain⟨a,vs,rfl,_,h3⟩:=j'O r2
  exact⟨a,rfl,⟨vs,h3 F2 H1 (Le.refl _) g2.s fun k=>(c.b k).trans g2.h⟩,q _ _ _ F2 H1 p1 g2 (d'x r2) fun hn B' e'=>d'x (R.low _ hn e'.symm r2)⟩
def wTp (t:Tr) (Q:List Tr→Prop):Prop:=match t with | .tup xs=>Q xs | _=>False
def piT (pe:PE'):PI':=fun ρ Q=>pe ρ fun t=>wTp (frz t) fun xs=>Q xs (nlt (frz t))
def wOne (ts:List Tr) (Q:Tr→Prop):Prop:=match ts with | [t]=>Q t | _=>False
def piE (pa:PA'):PI':=fun ρ Q=>pa ρ fun ts=>wOne ts fun t=>wLst (frz t) fun xs=>Q (xs.mapIdx fun i x=>.tup [.int i,x]) (nlt (frz t))
def piV (pa:PA'):PI':=fun ρ Q=>pa ρ fun ts=>wOne ts fun t=>wLst (frz t) fun xs=>Q xs.reverse (nlt (frz t))
def wTwo (ts:List Tr) (Q:Tr→Tr→Prop):Prop:=match ts with | [t,u]=>Q t u | _=>False
theorem Rs.two {t u:Tr} {xs:List V} {cs:Cs} (r:Rs K F B [t,u] xs cs):∃ v w c d,xs=[v,w]∧R K F B t v c∧R K F B u w d∧cs=c++d:=by
  obtain⟨v,r,c,d,h1,h2,h3,v',r',c',d',g1,g2,g3,rfl,rfl⟩:=r
  rw [List.append_nil] at g2
  exact⟨v,v',c,c',by rw [h1,g1],h3,g3,by rw [h2,g2]⟩
def piZ (pa:PA'):PI':=fun ρ Q=>pa ρ fun ts=>wTwo ts fun t u=>wLst (frz t) fun xs=>wLst (frz u) fun ys=>Q (xs.zipWith (fun x y=>.tup [x,y]) ys) (nlt (frz t) && nlt (frz u))
def wInt1 (ts:List Tr) (Q:Int→Prop):Prop:=match ts with | [.int i]=>Q i | _=>False
def piR1 (pa:PA'):PI':=fun ρ Q=>pa ρ fun ts=>wInt1 ts fun j=>-1000000≤j∧j≤1000000∧Q ((List.range j.toNat).map fun (i:Nat)=>.int i) true
def wInt2s (ts:List Tr) (Q:Int→Int→Prop):Prop:=match ts with | [.int i,.int j]=>Q i j | _=>False
def piR2 (pa:PA'):PI':=fun ρ Q=>pa ρ fun ts=>wInt2s ts fun i j=>(-1000000≤i∧i≤1000000∧-1000000≤j∧j≤1000000)∧Q ((List.range (j - i).toNat).map fun (n:Nat)=>.int (i+n)) true
end
end Pu
namespace Pu
open PySem L2 Vc Sf
section
variable {K:PySem.W.Frag} {k:Md} {lo:Nat} {us:List V} {Fb Hb F H F' H' F1 H1:Hp} {σ:St} {ρ:List Tr} {cs:Nat→Cs}
theorem Wld.mut {i:Nat} {a:Addr} {o o':HO} {ds':Cs} {t':Tr} {v:V} (W:Wld K k lo us Fb Hb F H σ ρ cs) (hv:σ[i]?=some (some v)) (e:(a,o)∈cs i) (hd:Cells F H ds') (hn:New Hb ds') (ha:∀ p∈ds',p.1≠a) (hj:∀ j,j≠i→∀ p∈ds',∀ q∈cs j,p.1≠q.1) {c':Cs} (hc:c'.Perm ((a,o') :: ds')) (r':R K F (fun _=>Hb) t' v c') :
    Wld K k lo us Fb Hb F (upd H a o') σ (ρ.set i t') (fun j=>if j=i then c' else cs j):=by
  have hb:=W.n i _ e
  have fa:=(W.c i).f _ e
  have other:∀ j,j≠i→∀ p∈cs j,p.1≠a:=fun j hj p m z=>W.d j i hj p m _ e z
  refine⟨⟨⟨W.g.h.updN hb,W.g.f,W.g.s.updN fa,W.g.n⟩,W.g.z⟩,W.z,by rw [List.length_set];exact W.l,fun j u h=>?_,fun j=>?_,fun j=>?_,fun x y ne p mp q mq=>?_,W.p,W.x⟩
  · by_cases ej:j=i
    · subst ej
      have hl:j<ρ.length:=by have:=(List.getElem?_eq_some_iff.mp h).1;rw [List.length_set] at this;exact this
      rw [List.getElem?_set_self hl] at h
      cases h
      exact .inr ⟨v,hv,by rw [if_pos rfl];exact r'⟩
    · rw [List.getElem?_set_ne (fun z=>ej z.symm)] at h
      rw [if_neg ej]
      exact W.e j u h
  · split
    · refine⟨fun p m=>?_,fun p m=>?_,?_⟩
      · rcases List.mem_cons.mp (hc.mem_iff.mp m) with rfl | m
        · exact a'u
        · rw [a'h (ha p m)];exact hd.h p m
      · rcases List.mem_cons.mp (hc.mem_iff.mp m) with rfl | m
        · exact fa
        · exact hd.f p m
      · refine ((hc.map (·.1)).nodup_iff).mpr ?_
        rw [List.map_cons,List.nodup_cons]
        refine⟨fun m=>?_,hd.nd⟩
        obtain⟨p,mp,e⟩:=List.mem_map.mp m
        exact ha p mp e
    · rename_i ej
      exact⟨fun p m=>by rw [a'h (other j ej p m)];exact (W.c j).h p m,(W.c j).f,(W.c j).nd⟩
  · split
    · intro p m
      rcases List.mem_cons.mp (hc.mem_iff.mp m) with rfl | m
      · exact hb
      · exact hn p m
    · exact W.n j
  · have key:∀ p,p∈c'→∀ y,y≠i→∀ q∈cs y,p.1≠q.1:=fun p m y hy q mq=>by
      rcases List.mem_cons.mp (hc.mem_iff.mp m) with rfl | m
      · exact (other y hy q mq).symm
      · exact hj y hy p m q mq
    by_cases ex:x=i
    · have ey:y≠i:=fun z=>ne (ex.trans z.symm)
      rw [if_pos ex] at mp
      rw [if_neg ey] at mq
      exact key p mp y ey q mq
    · rw [if_neg ex] at mp
      by_cases ey:y=i
      · rw [if_pos ey] at mq
        exact (key q mq x ex p mp).symm
      · rw [if_neg ey] at mq
        exact W.d x y ne p mp q mq
def updf (f:Str) (u:Tr):List (Str×Tr)→List (Str×Tr)
  | [] => []
  | (g, x) :: r => if g = f then (g, u) :: r else (g, x) :: updf f u r
def getR (t:Tr):List Str→Tr
  | [] => t
  | f :: r => match getR t r with | .ins .o _ fs => (fs.lookup f).getD .hole | _ => .hole
def setR (t:Tr):List Str→Tr→Tr
  | [], u => u
  | f :: r, u => setR t r (match getR t r with | .ins .o c fs => .ins .o c (updf f u fs) | y => y)
def okR (K:PySem.W.Frag) (t:Tr):List Str→Prop
  | [] => True
  | f :: r => okR K t r ∧ (match getR t r with | .ins .o c fs => (Cls K c ∧ NoAttr K c f) ∧ (fs.lookup f).isSome = true | _ => False)
def tR (K:PySem.W.Frag) (i:Nat):List Str→TE
  | [] => tVar i
  | f :: r => tFldR K (tR K i r) f
theorem Rf.at {B:Bool→Hp}:∀ {fs:List (Str×Tr)} {vs:List (Str×V)} {ds:Cs} {f:Str} {x:Tr},Rf K F B fs vs ds→fs.lookup f=some x→∃ w c pre post,vs.lookup f=some w∧R K F B x w c∧ds=pre++c++post∧∀ F',Le F F'→∀ u d,R K F' B u w d→Rf K F' B (updf f u fs) vs (pre++d++post)
  | (g, y) :: fs, _, _, f, x, ⟨v, r, c, d, h1, h2, h3, h4⟩, h => by
    by_cases e:g=f
    · subst e
      rw [List.lookup_cons_self] at h
      cases h
      refine⟨v,c,[],d,by rw [h1,List.lookup_cons_self],h3,by rw [h2];rfl,fun F' l u d' ru=>?_⟩
      unfold updf
      rw [if_pos rfl]
      exact⟨v,r,d',d,h1,rfl,ru,h4.mo l (fun _=>Le.refl _) fs⟩
    · have e':(f == g)=false:=by simpa using fun z=>e z.symm
      rw [List.lookup_cons,e'] at h
      obtain⟨w,c',pre,post,a1,a2,a3,a4⟩:=Rf.at (fs:=fs) h4 h
      refine⟨w,c',c++pre,post,by rw [h1,List.lookup_cons,e'];exact a1,a2,by rw [h2,a3];simp only [List.append_assoc],fun F' l u d' ru=>?_⟩
      unfold updf
      rw [if_neg e]
      exact⟨v,r,c,pre++d'++post,h1,by simp only [List.append_assoc],h3.mo l (fun _=>Le.refl _) y,a4 F' l u d' ru⟩
theorem j'P {B:Bool→Hp} {i:Nat} {t:Tr} {v:V} {c0:Cs} (s:Same F H) (b:∀ k,Same (B k) H) (hv:σ[i]?=some (some v)) (r0:R K F B t v c0) (hc:Cells F H c0):∀ (r:List Str),okR K t r→∃ w c rest,c0.Perm (c++rest)∧R K F B (getR t r) w c∧(∀ F',Le F F'→∀ u d,R K F' B u w d→∃ c1,R K F' B (setR t r u) v c1∧c1.Perm (d++rest))∧∀ Q:VK,Q w H→tR K i r σ H Q
  | [], _ => ⟨v, c0, [], by rw [List.append_nil], r0, fun F' l u d ru => ⟨d, ru, by rw [List.append_nil]⟩, fun Q q => ⟨v, hv, q⟩⟩
  | f :: r, ok => by
    obtain⟨w,c,rest,p1,r1,cl,rd⟩:=j'P s b hv r0 hc r ok.1
    have o2:=ok.2
    split at o2
    · rename_i C fs eg
      obtain⟨⟨ok1,ok2⟩,ok3⟩:=o2
      obtain⟨x,hx⟩:=Option.isSome_iff_exists.mp ok3
      rw [eg] at r1
      obtain⟨a,dx,vs,ds,h1,h2,h3⟩:=r1
      obtain⟨w',c',pre,post,a1,a2,a3,a4⟩:=h3.at hx
      have hm:(a,HO.ins C dx vs)∈c0:=p1.mem_iff.mpr (List.mem_append.mpr (.inl (by rw [h2];exact .head _)))
      refine⟨w',c',(a,.ins C dx vs) :: (pre++post++rest),?_,?_,fun F' l u d ru=>?_,fun Q q=>?_⟩
      · refine p1.trans ?_
        rw [h2,a3]
        show List.Perm ((a,HO.ins C dx vs) :: ((pre++c'++post)++rest)) _
        refine List.Perm.trans (List.Perm.cons _ ?_) (List.perm_middle.symm)
        rw [List.append_assoc pre c' post,← List.append_assoc,← List.append_assoc,← List.append_assoc]
        refine List.Perm.append_right _ ?_
        refine List.Perm.append_right _ ?_
        exact List.perm_append_comm
      · show R K F B (match getR t r with | .ins .o _ fs=>(fs.lookup f).getD .hole | _=>.hole) w' c'
        rw [eg]
        show R K F B ((fs.lookup f).getD .hole) w' c'
        rw [hx]
        exact a2
      · obtain⟨c1,b1,b2⟩:=cl F' l (.ins .o C (updf f u fs)) ((a,.ins C dx vs) :: (pre++d++post)) ⟨a,dx,vs,_,h1,rfl,a4 F' l u d ru⟩
        refine⟨c1,?_,b2.trans ?_⟩
        · show R K F' B (setR t r (match getR t r with | .ins .o c fs=>.ins .o c (updf f u fs) | y=>y)) v c1
          rw [eg]
          exact b1
        · show List.Perm ((a,HO.ins C dx vs) :: ((pre++d++post)++rest)) _
          refine List.Perm.trans (List.Perm.cons _ ?_) (List.perm_middle.symm)
          rw [List.append_assoc pre d post,← List.append_assoc,← List.append_assoc,← List.append_assoc]
          refine List.Perm.append_right _ ?_
          refine List.Perm.append_right _ ?_
          exact List.perm_append_comm
      · exact rd _ ⟨a,C,dx,vs,w',h1,Rd.of (hc.h _ hm),ok1,ok2,a1,q⟩
    · exact o2.elim
theorem Wld.at {i:Nat} {t:Tr} (W:Wld K k lo us Fb Hb F H σ ρ cs) (ht:ρ[i]?=some t) (hn:t≠.hole) (r:List Str) (ok:okR K t r):∃ w c,R K F (fun _=>Hb) (getR t r) w c∧(∀ p∈c,p∈cs i)∧Cells F H c∧(∀ Q:VK,Q w H→tR K i r σ H Q)∧
    ∀ F' H',Wld K k lo us Fb Hb F' H' σ ρ cs→Le F F'→∀ (a:Addr) (o o':HO) (ds ds' e:Cs) (u:Tr) (d:Cs),c=(a,o) :: ds→ds'.Sublist ds→Cells F' H' e→New Hb e→(∀ j,∀ p∈cs j,∀ q∈e,p.1≠q.1)→d.Perm ((a,o') :: (ds'++e))→R K F' (fun _=>Hb) u w d→∃ cs',Wld K k lo us Fb Hb F' (upd H' a o') σ (ρ.set i (setR t r u)) cs':=by
  rcases W.e i t ht with z | ⟨v,hv,rv⟩
  · exact absurd z hn
  · obtain⟨w,c,rest,p1,r1,cl,rd⟩:=j'P W.g.s (fun _=>W.g.h) hv rv (W.c i) r ok
    have sub:∀ {F H:Hp},Cells F H (cs i)→Cells F H (c++rest):=fun h=>⟨fun p m=>h.h p (p1.mem_iff.mpr m),fun p m=>h.f p (p1.mem_iff.mpr m),((p1.map (·.1)).nodup_iff).mp h.nd⟩
    refine⟨w,c,r1,fun p m=>p1.mem_iff.mpr (List.mem_append.mpr (.inl m)),(sub (W.c i)).left,rd,fun F' H' W' l a o o' ds ds' e u d ec sl he hne hje pd ru=>?_⟩
    obtain⟨c1,b1,b2⟩:=cl F' l u d ru
    have ci:=sub (W'.c i)
    rw [ec] at ci
    have am:(a,o)∈cs i:=p1.mem_iff.mpr (List.mem_append.mpr (.inl (by rw [ec];exact .head _)))
    have nd':(a ∉ (ds++rest).map (·.1))∧((ds++rest).map (·.1)).Nodup:=List.nodup_cons.mp ci.nd
    have s2:(ds'++rest).Sublist (ds++rest):=sl.append_right rest
    have mm:∀ p∈ds'++rest,p∈cs i:=fun p m=>p1.mem_iff.mpr (by rw [ec];exact .tail _ (s2.subset m))
    have c3:Cells F' H' (ds'++rest):=⟨fun p m=>(W'.c i).h p (mm p m),fun p m=>(W'.c i).f p (mm p m),List.Sublist.nodup (s2.map _) nd'.2⟩
    refine⟨_,W'.mut (o:=o) (o':=o') (ds':=(ds'++rest)++e) hv am (c3.app he fun p mp q mq=>hje i p (mm p mp) q mq) ?_ ?_ ?_ (b2.trans ((pd.append_right rest).trans ?_)) b1⟩
    · exact fun p m=>(List.mem_append.mp m).elim (fun m=>W'.n i p (mm p m)) (hne p)
    · intro p m z
      rcases List.mem_append.mp m with m | m
      · exact nd'.1 (List.mem_map.mpr ⟨p,s2.subset m,z⟩)
      · exact hje i _ am p m z.symm
    · intro j hj p m q mq
      rcases List.mem_append.mp m with m | m
      · exact W'.d i j (fun z=>hj z.symm) p (mm p m) q mq
      · exact (hje j q mq p m).symm
    · show List.Perm ((a,o') :: ((ds'++e)++rest)) ((a,o') :: ((ds'++rest)++e))
      refine List.Perm.cons _ ?_
      rw [List.append_assoc,List.append_assoc]
      exact List.Perm.append_left _ List.perm_append_comm
end
end Pu
namespace Pu
open PySem L2 Vc Sf
section
variable {K:PySem.W.Frag} {k:Md} {lo:Nat} {us:List V} {Fb Hb F H F' H' F1 H1:Hp} {σ:St} {ρ:List Tr} {cs:Nat→Cs} {B:Bool→Hp}
def wPl (K:PySem.W.Frag) (ρ:List Tr) (i:Nat) (r:List Str) (Q:Tr→(Tr→List Tr)→Prop):Prop:=match ρ[i]? with
  | some .hole => False
  | some t => okR K t r ∧ Q (getR t r) fun u => ρ.set i (setR t r u)
  | none => False
theorem n'I {i:Nat} {r:List Str} {Q:Tr→(Tr→List Tr)→Prop} (h:wPl K ρ i r Q):∃ t,ρ[i]?=some t∧t≠.hole∧okR K t r∧Q (getR t r) fun u=>ρ.set i (setR t r u):=by
  unfold wPl at h
  split at h
  · exact h.elim
  · rename_i t ne e
    exact⟨t,e,ne,h.1,h.2⟩
  · exact h.elim
theorem Rs.set:∀ {xs:List Tr} {vs:List V} {ds:Cs} (n:Nat) {t:Tr} {v:V},Rs K F B xs vs ds→R K F B t v []→∃ ds',Rs K F B (xs.set n t) (vs.set n v) ds'∧ds'.Sublist ds
  | [], _, ds, n, _, _, ⟨h1, h2⟩, _ => ⟨[], by rw [h1]; exact ⟨rfl, rfl⟩, by rw [h2]; exact List.Sublist.refl _⟩
  | x :: xs, _, _, 0, _, _, ⟨v, r, c, d, h1, h2, h3, h4⟩, rt => ⟨d, by rw [h1]; exact ⟨_, r, [], d, rfl, rfl, rt, h4⟩, by rw [h2]; exact List.sublist_append_right c d⟩
  | x :: xs, _, _, n + 1, _, _, ⟨v, r, c, d, h1, h2, h3, h4⟩, rt => by
    obtain⟨d',a1,a2⟩:=Rs.set (xs:=xs) n h4 rt
    exact⟨c++d',by rw [h1];exact⟨v,_,c,d',rfl,rfl,h3,a1⟩,by rw [h2];exact a2.append_left c⟩
theorem Rs.snoc {xs:List Tr} {vs:List V} {ds e:Cs} {t:Tr} {v:V} (h:Rs K F B xs vs ds) (rt:R K F B t v e):Rs K F B (xs++[t]) (vs++[v]) (ds++e):=h.append ⟨v,[],e,[],rfl,by rw [List.append_nil],rt,rfl,rfl⟩
theorem Wld.heldLe {t:Tr} {v:V} {c:Cs} (W:Wld K k lo us Fb Hb F H σ ρ cs) (o:Out K F (Bq Hb H) H F' H' t v c) (n:nlt t=true) :
    ∃ F'',Wld K k lo us Fb Hb F'' H' σ ρ cs∧R K F'' (fun _=>Hb) (frz t) v []∧Le F F'':=by
  obtain⟨n1,d1⟩:=W.fresh o
  obtain⟨F2,W2,s2,e2⟩:=(W.gr o.g).lay o.c n1 (o.r.plain t) d1
  exact⟨F2,W2,(R.low (B':=fun _=>Hb) t n rfl o.r).frz (Le.of s2) t e2,Le.trans o.g.le (Le.of s2)⟩
theorem m'm:New Hb []:=fun _ m=>nomatch m
theorem h'b {cs:Nat→Cs}:∀ (j:Nat),∀ p∈cs j,∀ q∈([]:Cs),p.1≠q.1:=fun _ _ _ _ m=>nomatch m
def wOwnL (u:Tr) (Q:List Tr→Prop):Prop:=match u with | .lst .o xs=>Q xs | _=>False
theorem j'm {u:Tr} {Q:List Tr→Prop} (h:wOwnL u Q):∃ xs,u=.lst .o xs∧Q xs:=by
  unfold wOwnL at h
  split at h
  · exact⟨_,rfl,h⟩
  · exact h.elim
def pApp (K:PySem.W.Frag) (i:Nat) (r:List Str) (pe:PE'):PS':=fun D ρ=>wPl K ρ i r fun u s=>wOwnL u fun xs=>pe (ρ.map lend) fun t=>nlt t=true∧xs.length<1000000∧D.nx (s (.lst .o (xs++[frz t])))
def wSetL (xs:List Tr) (y t:Tr) (Q:List Tr→Prop):Prop:=match y with | .int j=>(match ixN xs.length j with | some n=>Q (xs.set n t) | none=>False) | _=>False
def pSetL (K:PySem.W.Frag) (i:Nat) (r:List Str) (pj pe:PE'):PS':=fun D ρ=>pe (ρ.map lend) fun t=>nlt t=true∧wPl K ρ i r fun u s=>wOwnL u fun xs=>pj (ρ.map lend) fun y=>wSetL xs y (frz t) fun xs'=>D.nx (s (.lst .o xs'))
theorem j'n {i:Nat} {r:List Str} {te tj:TE} {pe pj:PE'} (h:Sim K k te pe) (hj:Sim K k tj pj):SimS K k lo (tAsg te (gSub (tR K i r) tj rSetL)) (pSetL K i r pj pe):=fun us Fb Hb F H σ ρ cs D D' W p L=>by
  refine h F (Bq Hb H) H σ _ _ _ W.cxt p fun u v F1 H1 c1 q o=>?_
  obtain⟨F2,W2,r2,l2⟩:=W.heldLe o q.1
  obtain⟨t,e1,e2,e3,p⟩:=n'I q.2
  obtain⟨xs,eg,p⟩:=j'm p
  obtain⟨w,c,r1,sub,hc,rd,cl⟩:=W2.at e1 e2 r e3
  rw [eg] at r1
  obtain⟨a,vs,ds,rfl,h2,h3⟩:=r1
  have ha:H1 a=some (.lst vs):=hc.h (a,.lst vs) (by rw [h2];exact .head _)
  refine rd _ (hj F2 (Bq Hb H1) H1 σ _ _ _ W2.cxt p fun y vy F3 H3 c3 q3 o3=>?_)
  unfold wSetL at q3
  split at q3
  · obtain⟨rfl,_⟩:=o3.r
    split at q3
    · rename_i n en
      obtain⟨ds',a1,a2⟩:=(h3.mo o3.g.le (fun _=>Le.refl _) xs).set n (r2.mo o3.g.le (fun _=>Le.refl _) _)
      obtain⟨cs',W4⟩:=cl F3 H3 (W2.gr o3.g) o3.g.le a (.lst vs) (.lst (vs.set n v)) ds ds' [] (.lst .o (xs.set n (frz u))) ((a,.lst (vs.set n v)) :: (ds'++[])) h2 a2 .nil m'm h'b (List.Perm.refl _) ⟨a,_,ds'++[],rfl,rfl,by rw [List.append_nil];exact a1⟩
      exact⟨a,vs,_,n,rfl,rfl,o3.g.h _ _ ha,by rw [h3.length];exact en,L.nx F3 _ σ _ cs' W4 q3⟩
    · exact q3.elim
  · exact q3.elim
def putT (m:List (Key×Tr)) (y:Key) (t:Tr):List (Key×Tr):=
  if (m.any fun kv=>decide (kv.1=y))=true then m.map (fun kv=>if kv.1=y then (kv.1,t) else kv) else m++[(y,t)]
def wOwnD (u:Tr) (Q:List (Key×Tr)→Prop):Prop:=match u with | .dic .o xs=>Q xs | _=>False
def wKey (y:Tr) (Q:Key→Prop):Prop:=match keyT y with | some y=>Q y | none=>False
def pPut (K:PySem.W.Frag) (i:Nat) (r:List Str) (pj pe:PE'):PS':=fun D ρ=>pe (ρ.map lend) fun t=>nlt t=true∧wPl K ρ i r fun u s=>wOwnD u fun m=>pj (ρ.map lend) fun y=>wKey y fun y=>m.length<1000000∧D.nx (s (.dic .o (putT m y (frz t))))
def pDnew:PE':=fun _ Q=>Q (.dic .o [])
def putf (f:Str) (u:Tr):List (Str×Tr)→List (Str×Tr)
  | [] => [(f, u)]
  | (g, x) :: r => if g = f then (g, u) :: r else (g, x) :: putf f u r
def wOwnI (K:PySem.W.Frag) (f:Str) (u:Tr) (Q:Addr→List (Str×Tr)→Prop):Prop:=match u with | .ins .o c fs=>(Cls K c∧NoAttr K c f)∧fs.length<900∧Q c fs | _=>False
def pFldS (K:PySem.W.Frag) (i:Nat) (r:List Str) (f:Str) (pe:PE'):PS':=fun D ρ=>pe (ρ.map lend) fun t=>nlt t=true∧wPl K ρ i r fun u s=>wOwnI K f u fun c fs=>D.nx (s (.ins .o c (putf f t fs)))
end
end Pu
namespace Pu
open PySem L2 Vc Sf
section
variable {K:PySem.W.Frag} {k:Md} {lo:Nat} {us:List V} {Fb Hb F H F' H' F1 H1:Hp} {σ:St} {ρ:List Tr} {cs:Nat→Cs}
def keyTr:Key→Tr | .inl n=>.int n | .inr s=>.str s
inductive Wm where | it | ks | vs
def wit:Wm→Key×Tr→Tr
  | .it, p => .tup [keyTr p.1, p.2]
  | .ks, p => keyTr p.1
  | .vs, p => p.2
def wDicF (t:Tr) (Q:List (Key×Tr)→Prop):Prop:=match t with | .dic .f m=>Q m | _=>False
def pForD (w:Wm) (pe:PE') (pg:PG') (pb:PS'):PS':=fun D ρ=>pe (ρ.map lend) fun t=>nlt t=true∧wDicF (frz t) fun m=>∃ I:Nat→List Tr→Prop,I 0 ρ∧(∀ i p ρ,m[i]?=some p→I i ρ→pg (wit w p) ρ fun ρ'=>pb { D with nx:=I (i+1),ct:=I (i+1),bk:=D.nx } ρ')∧∀ ρ,I m.length ρ→D.nx ρ
theorem p'g {B:Bool→Hp} {y:Key}:R K F B (keyTr y) (kV y) []:=by
  cases y with
  | inl n => exact ⟨rfl, rfl⟩
  | inr n => exact ⟨rfl, rfl⟩
end
end Pu
namespace Pu
open PySem L2 Vc Sf
section
variable {X:Cx}
def rLenU (K:PySem.W.Frag):List V→Hp→VK→Prop:=fun xs H Q=>(fun xs H Q=>∃ x n,xs=[x]∧LenV K x H n∧Q (.int n) H) xs H Q∨(fun xs H Q=>∃ a kvs,xs=[V.ref a]∧H a=some (.dK kvs)∧Q (.int kvs.length) H) xs H Q
theorem b'v:CallR X (.builtin "len") (rLenU X.K):=call_len.or g'I
def rListU (K:PySem.W.Frag):List V→Hp→VK→Prop:=fun xs H Q=>(fun xs H Q=>∃ p ys,xs=[.ref p]∧(SqL K H p ys∨SqT K H p ys)∧∀ l,H l=none→Q (.ref l) (upd H l (.lst ys))) xs H Q∨(fun xs H Q=>∃ a kvs,xs=[.ref a]∧Rd H a (.dK kvs)∧∀ p,H p=none→Q (.ref p) (upd H p (.lst (kvs.map fun kv=>kV kv.1)))) xs H Q
theorem n'J (hc:X.calm=true):CallR X (.type "list") (rListU X.K):=call_list_of.or (f'R hc)
def rSlU (K:PySem.W.Frag):V→Option Int→Option Int→Hp→VK→Prop:=fun x l h H Q=>rSlL K x l h H Q∨rSlS x l h H Q
theorem p'v:SlR X (rSlU X.K):=sl_list.or n'r
end
section
variable {K:PySem.W.Frag} {k:Md} {lo:Nat} {us:List V} {Fb Hb F H F' H' F1 H1:Hp} {σ:St} {ρ:List Tr} {cs:Nat→Cs} {B:Bool→Hp}
def wLen (k:Bool) (ts:List Tr) (Q:Tr→Prop):Prop:=match ts with
  | [.str x] => x.length ≤ 1000000 ∧ Q (.int x.length)
  | [.lst _ xs] => Q (.int xs.length)
  | [.tup xs] => Q (.int xs.length)
  | [.dic .f m] => k = true ∧ Q (.int m.length)
  | [.dic .o m] => Q (.int m.length)
  | _ => False
theorem a'P:OpA K k (rLenU K) (wLen k.z):=fun F B H xs ts cx Q Q' s b z r hc p q=>by
  unfold wLen at p
  split at p
  · obtain⟨v,rfl,rfl,_⟩:=r.one
    exact .inl ⟨_,_,rfl,⟨b'u p.1,rfl⟩,q _ _ F H [] p.2 (Gr.refl' s) ⟨rfl,rfl⟩ .nil fun _ m=>nomatch m⟩
  · obtain⟨v,rfl,r1⟩:=r.one
    obtain⟨a,vs,ds,rfl,h1,h2,_⟩:=r1.lstH s b hc
    exact .inl ⟨_,_,rfl,.inl ⟨vs,h1,rfl⟩,q (.int vs.length) _ F H [] (by rw [← h2.length] at p;exact p) (Gr.refl' s) ⟨rfl,rfl⟩ .nil fun _ m=>nomatch m⟩
  · obtain⟨v,rfl,r1⟩:=r.one
    obtain⟨a,vs,rfl,h1,h2⟩:=r1.tupH s
    exact .inl ⟨_,_,rfl,.inr ⟨vs,h1,rfl⟩,q (.int vs.length) _ F H [] (by rw [← h2.length] at p;exact p) (Gr.refl' s) ⟨rfl,rfl⟩ .nil fun _ m=>nomatch m⟩
  · obtain⟨v,rfl,r1⟩:=r.one
    obtain⟨_,a,vs,rfl,h2,h3,h4⟩:=r1
    exact .inr ⟨a,vs,rfl,s _ _ (l'u (z p.1) h2),q (.int vs.length) _ F H [] (by rw [← h3.length] at p;exact p.2) (Gr.refl' s) ⟨rfl,rfl⟩ .nil fun _ m=>nomatch m⟩
  · obtain⟨v,rfl,r1⟩:=r.one
    obtain⟨a,vs,ds,rfl,h2,h3,h4⟩:=r1
    exact .inr ⟨a,vs,rfl,hc.h (a,.dK vs) (by rw [h2];exact .head _),q (.int vs.length) _ F H [] (by rw [← h3.length] at p;exact p) (Gr.refl' s) ⟨rfl,rfl⟩ .nil fun _ m=>nomatch m⟩
  · exact p.elim
theorem Rk.keysV:∀ {m:List (Key×Tr)} {vs:List (Key×V)} {ds:Cs},Rk K F B m vs ds→Rs K F B (m.map fun p=>keyTr p.1) (vs.map fun kv=>kV kv.1) []
  | [], _, _, ⟨h, _⟩ => by rw [h]; exact ⟨rfl, rfl⟩
  | (y, x) :: m, _, _, ⟨v, r, c, d, h1, h2, h3, h4⟩ => by rw [h1]; exact ⟨kV y, _, [], [], rfl, rfl, p'g, Rk.keysV h4⟩
theorem c'e {xs:List Tr} {vs:List V} {cs cx:Cs} {p:Addr} {Q:VK} {Q':Tr→Prop} (s:Same F H) (r:Rs K F B xs vs cs) (c:Cells F H cs) (sub:∀ p∈cs,p∈cx) (hp:H p=none) (h:Q' (.lst .o xs)) (q:∀ t v F' H' cs,Q' t→Gr F H F' H'→R K F' B t v cs→Cells F' H' cs→(∀ p∈cs,H p.1=none∨p∈cx)→Q v H'):Q (.ref p) (upd H p (.lst vs)):=by
  obtain⟨n1,n2,n3⟩:=b'B s r c hp
  refine q _ _ F _ _ h n1 n2 n3 fun p m=>?_
  cases m with
  | head => exact .inl hp
  | tail _ m => exact .inr (sub p m)
def wList (ts:List Tr) (Q:Tr→Prop):Prop:=match ts with
  | [.lst _ xs] => Q (.lst .o xs)
  | [.tup xs] => Q (.lst .o xs)
  | [.dic _ m] => Q (.lst .o (m.map fun p => keyTr p.1))
  | _ => False
theorem j'o:OpA K k (rListU K) wList:=fun F B H xs ts cx Q Q' s b z r hc p q=>by
  unfold wList at p
  split at p
  · obtain⟨v,rfl,r1⟩:=r.one
    obtain⟨a,vs,ds,rfl,h1,h2,h3,h4⟩:=r1.lstH s b hc
    exact .inl ⟨_,_,rfl,.inl h1,fun l hl=>c'e s h2 h3 h4 hl p q⟩
  · obtain⟨v,rfl,r1⟩:=r.one
    obtain⟨a,vs,rfl,h1,h2⟩:=r1.tupH s
    exact .inl ⟨_,_,rfl,.inr h1,fun l hl=>c'e s h2 hc (fun _ m=>m) hl p q⟩
  · obtain⟨v,rfl,r1⟩:=r.one
    obtain⟨a,vs,ds,rfl,h1,h2,h3,h4⟩:=r1.dicH s b hc
    exact .inr ⟨_,_,rfl,h1,fun l hl=>c'e s h2.keysV .nil (fun _ m=>nomatch m) hl p q⟩
  · exact p.elim
def wStr (ts:List Tr) (Q:Tr→Prop):Prop:=match ts with
  | [.int i] => i.natAbs.log2 < 1920 ∧ Q (.str (toString i))
  | _ => False
theorem b'f:OpA K k (fun xs H Q=>∃ i,xs=[.int i]∧i.natAbs.log2<1920∧Q (.str (toString i)) H) wStr:=fun F B H xs ts cx Q Q' s b z r hc p q=>by
  unfold wStr at p
  split at p
  · obtain⟨v,rfl,rfl,_⟩:=r.one
    exact⟨_,rfl,p.1,q _ _ F H [] p.2 (Gr.refl' s) ⟨rfl,rfl⟩ .nil fun _ m=>nomatch m⟩
  · exact p.elim
def wIntB (ts:List Tr) (Q:Tr→Prop):Prop:=match ts with
  | [.bl b] => Q (.int (if b = true then 1 else 0))
  | _ => False
def wMx (mx:Bool) (ts:List Tr) (Q:Tr→Prop):Prop:=match ts with
  | [.int i, .int j] => Q (.int (if mx = true then (if j > i then j else i) else (if j < i then j else i)))
  | _ => False
def tyT:Tr→Option String
  | .int _ => some "int" | .bl _ => some "bool" | .str _ => some "str" | .non => some "NoneType" | .tup _ => some "tuple" | .lst _ _ => some "list" | .dic _ _ => some "dict" | _ => none
def clT:Tr→Option Value
  | .ty n => some (.type n) | .cl a => some (.ref a) | _ => none
def wIs (K:PySem.W.Frag) (ts:List Tr) (Q:Tr→Prop):Prop:=match ts with
  | [x, c] => (match tyT x, clT c with | some t, some u => ∃ b, PySem.W.kitOne K (.type t) u = some b ∧ Q (.bl b) | _, _ => False)
  | _ => False
theorem n'K:OpA K k (fun xs H Q=>∃ x c t b u,xs=[x,c]∧TyX K H x t∧clsV c=some u∧PySem.W.kitOne K t u=some b∧Q (.bl b) H) (wIs K):=fun F B H xs ts cx Q Q' s b z r hc p q=>by
  unfold wIs at p
  split at p
  · rename_i x c
    obtain⟨v,w,c1,d1,rfl,r1,r2,e⟩:=r.two
    rw [e] at hc
    split at p
    · rename_i t u e1 e2
      obtain⟨bb,hk,p⟩:=p
      have hw:clsV w=some u:=by
        cases c with
        | ty n=>cases e2;rw [r2.1];rfl
        | cl a=>cases e2;rw [r2.1];rfl
        | _=>cases e2
      have ht:TyX K H v (.type t):=by
        cases x with
        | int n=>cases e1;rw [r1.1];exact n'o
        | bl n=>cases e1;rw [r1.1];exact o'W
        | str n=>cases e1;rw [r1.1];exact n'p
        | non=>cases e1;rw [r1.1];exact n'q
        | tup xs=>cases e1;obtain⟨a,vs,rfl,h1,_⟩:=r1.tupH s;exact n'l h1
        | lst f xs=>cases e1;obtain⟨a,vs,ds,rfl,h1,_⟩:=r1.lstH s b hc.left;exact n'm h1
        | dic f xs=>cases e1;obtain⟨a,vs,ds,rfl,h1,_⟩:=r1.dicH s b hc.left;exact n'n h1
        | _=>cases e1
      exact⟨v,w,_,bb,u,rfl,ht,hw,hk,q _ _ F H [] p (Gr.refl' s) ⟨rfl,rfl⟩ .nil fun _ m=>nomatch m⟩
    · exact p.elim
  · exact p.elim
def flatT:Tr→Bool
  | .int _ => true | .bl _ => true | .str _ => true | .non => true | _ => false
def valT:Tr→V
  | .int n => .int n | .bl b => .bl b | .str x => .str x | _ => .non
def inT (x:Tr) (xs:List Tr):Bool:=inV (valT x) (xs.map valT)
def wIn (neg:Bool) (x y:Tr) (Q:Tr→Prop):Prop:=match y with
  | .lst _ xs => flatT x = true ∧ xs.all flatT = true ∧ Q (.bl (if neg = true then !inT x xs else inT x xs))
  | .tup xs => flatT x = true ∧ xs.all flatT = true ∧ Q (.bl (if neg = true then !inT x xs else inT x xs))
  | .dic _ m => wKey x fun y => Q (.bl (if neg = true then !(look m y).isSome else (look m y).isSome))
  | _ => False
def wGet2 (x y z:Tr) (Q:Tr→Prop):Prop:=match x with
  | .dic _ m => wKey y fun y => Q ((look m y).getD z)
  | _ => False
def p3 (pr:Tr→Tr→Tr→(Tr→Prop)→Prop) (pa pb pc:PE'):PE':=fun ρ Q=>pa ρ fun x=>(match x with | .dic _ _=>True | _=>False)∧pb ρ fun y=>pc ρ fun z=>pr x y z Q
abbrev PO':=List Tr→(Option Int→Prop)→Prop
def SimO (K:PySem.W.Frag) (k:Md) (te:TO) (pe:PO'):Prop:=∀ (F:Hp) (B:Bool→Hp) (H:Hp) (σ:St) (ρ:List Tr) (Q:Option Int→Hp→Prop) (Q':Option Int→Prop),Cxt K k F B H σ ρ→pe ρ Q'→(∀ b F' H',Q' b→Gr F H F' H'→Q b H')→te σ H Q
def poN:PO':=fun _ Q=>Q none
def poS (pe:PE'):PO':=fun ρ Q=>pe ρ fun x=>match x with | .int i=>Q (some i) | _=>False
theorem n'L:SimO K k tNoPart poN:=fun F B H σ ρ Q Q' c p q=>q none F H p (Gr.refl' c.s)
theorem n'M {te:TE} {pe:PE'} (h:Sim K k te pe):SimO K k (tPart te) (poS pe):=fun F B H σ ρ Q Q' c p q=>by
  refine h F B H σ ρ _ _ c p fun x v F1 H1 c1 p1 o1=>?_
  split at p1
  · obtain⟨rfl,_⟩:=o1.r
    exact⟨_,rfl,q _ F1 H1 p1 o1.g⟩
  · exact p1.elim
def cutT {α:Type} (xs:List α) (l h:Option Int):List α:=(xs.drop (HT.sIx xs.length 0 l)).take (HT.sIx xs.length xs.length h - HT.sIx xs.length 0 l)
theorem Rs.drop:∀ (n:Nat) {xs:List Tr} {vs:List V} {ds:Cs},Rs K F B xs vs ds→Cells F H ds→∃ d,Rs K F B (xs.drop n) (vs.drop n) d∧Cells F H d∧∀ p∈d,p∈ds
  | 0, _, _, ds, h, hc => ⟨ds, h, hc, fun _ m => m⟩
  | n + 1, [], _, ds, ⟨h1, h2⟩, _ => ⟨[], by rw [h1]; exact ⟨rfl, rfl⟩, .nil, fun _ m => nomatch m⟩
  | n + 1, x :: xs, _, _, ⟨v, r, c, d, h1, h2, h3, h4⟩, hc => by
    rw [h2] at hc
    obtain⟨d',a1,a2,a3⟩:=Rs.drop n h4 hc.right
    exact⟨d',by rw [h1];exact a1,a2,fun p m=>by rw [h2];exact List.mem_append.mpr (.inr (a3 p m))⟩
theorem Rs.take:∀ (n:Nat) {xs:List Tr} {vs:List V} {ds:Cs},Rs K F B xs vs ds→Cells F H ds→∃ d,Rs K F B (xs.take n) (vs.take n) d∧Cells F H d∧∀ p∈d,p∈ds
  | 0, _, _, ds, h, hc => ⟨[], ⟨rfl, rfl⟩, .nil, fun _ m => nomatch m⟩
  | n + 1, [], _, ds, ⟨h1, h2⟩, _ => ⟨[], by rw [h1]; exact ⟨rfl, rfl⟩, .nil, fun _ m => nomatch m⟩
  | n + 1, x :: xs, _, _, ⟨v, r, c, d, h1, h2, h3, h4⟩, hc => by
    rw [h2] at hc
    obtain⟨d',a1,a2,a3⟩:=Rs.take n h4 hc.right
    refine⟨c++d',by rw [h1];exact⟨v,_,c,d',rfl,rfl,h3,a1⟩,hc.left.app a2 fun p mp q mq=>?_,fun p m=>by rw [h2];exact (List.mem_append.mp m).elim (fun m=>List.mem_append.mpr (.inl m)) fun m=>List.mem_append.mpr (.inr (a3 p m))⟩
    have:=hc.nd
    rw [List.map_append,List.nodup_append] at this
    exact this.2.2 _ (List.mem_map.mpr ⟨p,mp,rfl⟩) _ (List.mem_map.mpr ⟨q,a3 q mq,rfl⟩)
def wSl (x:Tr) (l h:Option Int) (Q:Tr→Prop):Prop:=match x with
  | .lst _ xs => Q (.lst .o (cutT xs l h))
  | .str x => x.length ≤ 1000000 ∧ Q (.str (Txt.slice x l h))
  | _ => False
def pSl (pe:PE') (pl ph:PO'):PE':=fun ρ Q=>pe ρ fun x=>pl ρ fun l=>ph ρ fun h=>wSl x l h Q
theorem n'N {te:TE} {pe:PE'} {tl th:TO} {pl ph:PO'} (h:Sim K k te pe) (hl:SimO K k tl pl) (hh:SimO K k th ph):Sim K k (tSl (rSlU K) te tl th) (pSl pe pl ph):=fun F B H σ ρ Q Q' c p q=>by
  refine h F B H σ ρ _ _ c p fun x v F1 H1 c1 p1 o1=>?_
  refine hl F1 B H1 σ ρ _ _ (c.gr o1.g) p1 fun l F2 H2 p2 g2=>?_
  refine hh F2 B H2 σ ρ _ _ ((c.gr o1.g).gr g2) p2 fun h F3 H3 p3 g3=>?_
  have g23:=g2.trans' g3
  have c3:=(c.gr o1.g).gr g23
  have r3:=o1.r.mo g23.le (fun k=>Le.refl (B k)) x
  have hc3:=o1.c.gr g23
  unfold wSl at p3
  split at p3
  · obtain⟨a,vs,ds,rfl,h1,h2,h3,h4⟩:=r3.lstH c3.s c3.b hc3
    refine .inl ⟨a,vs,rfl,h1,fun l' hl'=>?_⟩
    obtain⟨d1,a1,a2,a3⟩:=h2.drop (HT.sIx vs.length 0 l) h3
    obtain⟨d2,b1,b2,b3⟩:=a1.take (HT.sIx vs.length vs.length h - HT.sIx vs.length 0 l) a2
    obtain⟨n1,n2,n3⟩:=b'B c3.s b1 b2 hl'
    refine q _ _ F3 _ _ p3 ⟨(o1.g.trans' g23).trans' n1,?_,n3,fun p m=>?_⟩
    · unfold cutT;rw [← h2.length];exact n2
    · cases m with
      | head=>exact (o1.g.h.trans g23.h).free hl'
      | tail _ m=>exact o1.n p (h4 p (a3 p (b3 p m)))
  · obtain⟨rfl,_⟩:=r3
    exact .inr ⟨_,rfl,b'u p3.1,q _ _ F3 H3 [] p3.2 ⟨o1.g.trans' g23,⟨rfl,rfl⟩,.nil,.nil⟩⟩
  · exact p3.elim
end
end Pu
namespace Pu
open PySem L2 Vc Sf
section
variable {K:PySem.W.Frag} {k:Md} {F H F' H' F1 H1:Hp} {σ:St} {ρ:List Tr} {B:Bool→Hp}
def pickT (ix:List (Option Nat)) (ρ:List Tr):List Tr:=ix.map fun o=>match o with | none=>.hole | some i=>(ρ[i]?).getD .hole
theorem EnvQ.pick {ix:List (Option Nat)} (e:EnvQ K F B σ ρ):EnvQ K F B (pickS ix σ) (pickT ix ρ):=fun j t h=>by
  unfold pickT at h
  rw [List.getElem?_map] at h
  cases q:ix[j]? with
  | none => rw [q] at h; cases h
  | some o =>
    rw [q] at h
    cases o with
    | none=>cases h;exact .inl rfl
    | some i=>
      cases z:ρ[i]? with
      | none=>
        have h:some ((ρ[i]?).getD .hole)=some t:=h
        rw [z] at h
        cases h;exact .inl rfl
      | some u=>
        have h:some ((ρ[i]?).getD .hole)=some t:=h
        rw [z] at h
        cases h
        refine (e i u z).imp id fun ⟨v,h1,h2⟩=>⟨v,?_,h2⟩
        unfold pickS
        rw [List.getElem?_map,q]
        show some ((σ[i]?).getD none)=_
        rw [h1];rfl
theorem f'V:∀ {a b:St},a.length=b.length→(∀ (i:Nat) (v:V),a[i]?=some (some v)→b[i]?=some (some v))→Wk a b
  | [], [], _, _ => .nil
  | [], _ :: _, h, _ => by cases h
  | _ :: _, [], h, _ => by cases h
  | none :: a, y :: b, h, g => .non (f'V (Nat.succ.inj h) fun i v e => g (i + 1) v e)
  | some x :: a, y :: b, h, g => by
    have e:=g 0 x rfl
    cases e
    exact .som (f'V (Nat.succ.inj h) fun i v e=>g (i+1) v e)
def SimQ (K:PySem.W.Frag) (js:List Nat) (tg:TG) (pg:PG'):Prop:=∀ (F:Hp) (B:Bool→Hp) (H:Hp) (σ:St) (ρ:List Tr) (x:V) (t:Tr) (Q:St→Hp→Prop) (Q':List Tr→Prop),Same F H→EnvQ K F B σ ρ→σ.length=ρ.length→R K F B t x []→pg t ρ Q'→(∀ σ' ρ',EnvQ K F B σ' ρ'→σ'.length=ρ'.length→σ'.length=σ.length→(∀ i,i ∉ js→σ'[i]?=σ[i]?)→Q' ρ'→Q σ' H)→tg x σ H Q
theorem EnvQ.set {i:Nat} {t:Tr} {x:V} (e:EnvQ K F B σ ρ) (hl:σ.length=ρ.length) (r:R K F B t x []):EnvQ K F B (σ.set i (some x)) (ρ.set i t):=fun j u h=>by
  by_cases ej:j=i
  · subst ej
    have hj:j<ρ.length:=by have:=p'f h;rw [List.length_set] at this;exact this
    rw [List.getElem?_set_self hj] at h
    cases h
    exact .inr ⟨x,List.getElem?_set_self (by rw [hl];exact hj),r⟩
  · rw [List.getElem?_set_ne (fun z=>ej z.symm)] at h
    exact (e j u h).imp id fun ⟨v,h1,h2⟩=>⟨v,by rw [List.getElem?_set_ne (fun z=>ej z.symm)];exact h1,h2⟩
theorem n'O {i:Nat}:SimQ K [i] (gName i) (pgN i):=fun F B H σ ρ x t Q Q' s e hl r p q=>q _ _ (e.set hl r) (by rw [List.length_set,List.length_set];exact hl) (by rw [List.length_set]) (fun j hj=>List.getElem?_set_ne fun z=>hj (by rw [z];exact List.mem_singleton.mpr rfl)) p
def pYes:PB':=fun _ Q=>Q true
theorem m'n:SimT K k tYes pYes:=fun F B H σ ρ Q Q' c p q=>q true F H p (Gr.refl' c.s)
def pComp (pi:PI') (pg:PG') (pt:PB') (pe:PE') (ix:List (Option Nat)):PE':=fun ρ Q=>pi ρ fun ts _=>∃ I:Nat→List Tr→Prop,I 0 []∧
  (∀ i t acc,ts[i]?=some t→I i acc→pg t (pickT ix ρ) fun ρ2=>pt ρ2 fun b=>if b=true then pe ρ2 fun x=>acc.length<1000000∧I (i+1) (acc++[x]) else I (i+1) acc)∧∀ acc,I ts.length acc→acc.length≤1000000∧Q (.lst .o acc)
theorem j'p {wi:TI} {pi:PI'} {js:List Nat} {tg:TG} {pg:PG'} {ti:TT} {pt:PB'} {te:TE} {pe:PE'} {ix:List (Option Nat)} (hi:SimI K k wi pi) (hg:SimQ K js tg pg) (ht:SimT K k.mute ti pt) (he:Sim K k.mute te pe) (hj:∀ j∈js,ix[j]?=some none):Sim K k (tComp wi tg ti te ix) (pComp pi pg pt pe ix):=fun F B H σ ρ Q Q' c p q=>by
  refine hi F B H σ ρ _ _ c p fun ts nl J F1 H1 p1 g1 src _=>?_
  obtain⟨I,i0,step,fin⟩:=p1
  obtain⟨Kp,Y,ito,kp,yl⟩:=src
  have c1:=c.gr g1
  refine o'X (n:=ts.length) (fun i acc H2=>∃ F2 us cells,Gr F1 H1 F2 H2∧Rs K F2 B us acc cells∧Cells F2 H2 cells∧New H1 cells∧I i us) ⟨F1,[],[],Gr.refl' g1.s,⟨rfl,rfl⟩,.nil,.nil,i0⟩ ?_ ?_ ?_ ?_
  · rintro i acc H2 hlt ⟨F2,us,cells,g2,_⟩
    exact ito.go i H2 hlt (kp F2 H2 g2.le g2.s (c1.gr g2).b)
  · rintro acc H2 ⟨F2,us,cells,g2,_⟩
    exact ito.st H2 (kp F2 H2 g2.le g2.s (c1.gr g2).b)
  · rintro i x acc H2 H3 hlt ⟨F2,us,cells,g2,r2,hc2,n2,ii⟩ y
    have c2:=c1.gr g2
    obtain⟨t,et⟩:=j'N hlt
    obtain⟨F3,g3,r3⟩:=yl i t F2 H2 x H3 et g2.le g2.s c2.b (ito.yl i H2 x H3 hlt (kp F2 H2 g2.le g2.s c2.b) y)
    have c3:=c2.gr g3
    have hl0:(pickS ix σ).length=(pickT ix ρ).length:=by unfold pickS pickT;rw [List.length_map,List.length_map]
    refine hg F3 B H3 _ _ x t _ _ c3.s c3.e.pick hl0 r3 (step i t us et ii) fun σ2 ρ2 e2 l2 l2' n3 p2=>⟨f'V l2'.symm fun j v ej=>?_,?_⟩
    · by_cases hjs:j∈js
      · have z:=hj j hjs
        unfold pickS at ej
        rw [List.getElem?_map,z] at ej
        cases ej
      · rw [n3 j hjs];exact ej
    · have c3':Cxt K k.mute F3 B H3 σ2 ρ2:=⟨c3.s,c3.b,c3.z,e2,fun _ _ _ h=>h.elim⟩
      refine ht F3 B H3 σ2 ρ2 _ _ c3' p2 fun b F4 H4 p4 g4=>?_
      have g24:=g3.trans' g4
      cases b with
      | false=>
        rw [if_neg (by decide)] at p4 ⊢
        exact⟨F4,us,cells,g2.trans' g24,r2.mo g24.le (fun k=>Le.refl (B k)) us,hc2.gr g24,n2,p4⟩
      | true=>
        rw [if_pos rfl] at p4 ⊢
        refine he F4 B H4 σ2 ρ2 _ _ (c3'.gr g4) p4 fun u v F5 H5 c5 p5 o5=>?_
        have g25:=g24.trans' o5.g
        refine⟨Nat.lt_of_lt_of_le (by rw [r2.length];exact p5.1) (by decide),F5,us++[u],cells++c5,g2.trans' g25,(r2.mo g25.le (fun k=>Le.refl (B k)) us).snoc o5.r,(hc2.gr g25).app o5.c fun p mp q mq e=>?_,fun p m=>?_,p5.2⟩
        · have:=(hc2.gr g24).h p mp
          rw [e,o5.n q mq] at this
          cases this
        · rcases List.mem_append.mp m with m | m
          · exact n2 p m
          · exact (g2.h.trans g24.h).free (o5.n p m)
  · rintro acc H2 ⟨F2,us,cells,g2,r2,hc2,n2,ii⟩
    obtain⟨hl,hq⟩:=fin us ii
    refine⟨by rw [r2.length];exact b'u hl,fun a ha=>?_⟩
    obtain⟨m1,m2,m3⟩:=b'B g2.s r2 hc2 ha
    refine q _ _ F2 _ _ hq ⟨(g1.trans' g2).trans' m1,m2,m3,fun p m=>?_⟩
    cases m with
    | head=>exact (g1.h.trans g2.h).free ha
    | tail _ m=>exact g1.h.free (n2 p m)
end
end Pu
namespace Pu
open PySem L2 Vc Sf
mutual
def eqd:Tr→Tr→Option Bool
  | .tup xs, .tup ys => if xs.length = ys.length then eqds xs ys else none
  | .lst _ xs, .lst _ ys => if xs.length = ys.length then eqds xs ys else some false
  | .int a, .int b => some (decide (a = b))
  | .str a, .str b => some (decide (a = b))
  | .bl a, .bl b => some (decide (a = b))
  | .non, .non => some true
  | _, _ => none
def eqds:List Tr→List Tr→Option Bool
  | [], [] => some true
  | x :: xs, y :: ys => (eqd x y).bind fun a => (eqds xs ys).bind fun b => some (a && b)
  | _, _ => none
end
mutual
def dep:Tr→Nat
  | .tup xs => deps xs + 1
  | .lst _ xs => deps xs + 1
  | _ => 0
def deps:List Tr→Nat
  | [] => 0
  | x :: xs => max (dep x) (deps xs)
end
section
variable {X:Cx} {pins:List (Addr×Obj)} {σ:St} {F H:Hp} {B:Bool→Hp} {s:Shared}
mutual
theorem d'y (I:Inv X pins σ H s) (sf:Same F H) (sb:∀ k,Same (B k) H):∀ (t:Tr) (t':Tr) (v:V) (c c':Cs) (b:Bool),eqd t t'=some b→R X.K F B t v c→R X.K F B t' v c'→Cells F H c→Cells F H c'→b=true
  | .tup xs => fun t' v c c' b e r r' hc hc' => by
    cases t' with
    | tup ys=>
      unfold eqd at e
      split at e
      · obtain⟨a,vs,rfl,h1,h2⟩:=r.tupH sf
        obtain⟨a',vs',e',g1,g2⟩:=r'.tupH sf
        cases e'
        have z:=l'w I h1 g1
        subst z
        exact eqds_fn I sf sb xs ys vs c c' b e h2 g2 hc hc'
      · cases e
    | _=>cases e
  | .lst f xs => fun t' v c c' b e r r' hc hc' => by
    cases t' with
    | lst f' ys=>
      unfold eqd at e
      obtain⟨a,vs,ds,rfl,h1,h2,h3,_⟩:=r.lstH sf sb hc
      obtain⟨a',vs',ds',e',g1,g2,g3,_⟩:=r'.lstH sf sb hc'
      cases e'
      have z:=l'x I h1 g1
      subst z
      split at e
      · exact eqds_fn I sf sb xs ys vs ds ds' b e h2 g2 h3 g3
      · rename_i hl
        exact absurd (h2.length.symm.trans g2.length) hl
    | _=>cases e
  | .int a => fun t' v c c' b e r r' _ _ => by
    cases t' with
    | int a'=>cases e;have:=r.1.symm.trans r'.1;cases this;exact decide_eq_true rfl
    | _=>cases e
  | .str a => fun t' v c c' b e r r' _ _ => by
    cases t' with
    | str a'=>cases e;have:=r.1.symm.trans r'.1;cases this;exact decide_eq_true rfl
    | _=>cases e
  | .bl a => fun t' v c c' b e r r' _ _ => by
    cases t' with
    | bl a'=>cases e;have:=r.1.symm.trans r'.1;cases this;exact decide_eq_true rfl
    | _=>cases e
  | .non => fun t' v c c' b e r r' _ _ => by
    cases t' with
    | non=>cases e;rfl
    | _=>cases e
  | .hole => fun t' v c c' b e _ _ _ _ => by cases t' <;> cases e
  | .ty _ => fun t' v c c' b e _ _ _ _ => by cases t' <;> cases e
  | .cl _ => fun t' v c c' b e _ _ _ _ => by cases t' <;> cases e
  | .exc _ => fun t' v c c' b e _ _ _ _ => by cases t' <;> cases e
  | .dic _ _ => fun t' v c c' b e _ _ _ _ => by cases t' <;> cases e
  | .ins _ _ _ => fun t' v c c' b e _ _ _ _ => by cases t' <;> cases e
theorem eqds_fn (I:Inv X pins σ H s) (sf:Same F H) (sb:∀ k,Same (B k) H):∀ (ts:List Tr) (ts':List Tr) (vs:List V) (c c':Cs) (b:Bool),eqds ts ts'=some b→Rs X.K F B ts vs c→Rs X.K F B ts' vs c'→Cells F H c→Cells F H c'→b=true
  | [] => fun ts' vs c c' b e _ _ _ _ => by
    cases ts' with
    | nil=>cases e;rfl
    | cons _ _=>cases e
  | x :: xs => fun ts' vs c c' b e r r' hc hc' => by
    cases ts' with
    | nil=>cases e
    | cons y ys=>
      obtain⟨v,r,c1,d1,h1,h2,h3,h4⟩:=r
      obtain⟨v',r',c2,d2,g1,g2,g3,g4⟩:=r'
      rw [h1] at g1
      cases g1
      rw [h2] at hc
      rw [g2] at hc'
      unfold eqds at e
      cases e1:eqd x y with
      | none=>rw [e1] at e;cases e
      | some a=>
        cases e2:eqds xs ys with
        | none=>rw [e1,e2] at e;cases e
        | some a'=>
          rw [e1,e2] at e
          cases e
          rw [d'y I sf sb x y v c1 c2 a e1 h3 g3 hc.left hc'.left,eqds_fn I sf sb xs ys r d1 d2 a' e2 h4 g4 hc.right hc'.right]
          rfl
end
def eqL (ts ts':List Tr) (j:Nat):Bool:=match ts[j]?,ts'[j]? with | some x,some y=>(eqd x y).getD false | _,_=>false
theorem a'Y:∀ {ts ts':List Tr} {b:Bool},eqds ts ts'=some b→(List.range ts.length).all (eqL ts ts')=b∧∀ (j:Nat) (x y:Tr),ts[j]?=some x→ts'[j]?=some y→eqd x y=some (eqL ts ts' j)
  | [], [], b, e => by cases e; exact ⟨rfl, fun j x y h => by cases h⟩
  | [], _ :: _, b, e => by cases e
  | _ :: _, [], b, e => by cases e
  | x :: xs, y :: ys, b, e => by
    unfold eqds at e
    cases e1:eqd x y with
    | none=>rw [e1] at e;cases e
    | some a=>
      cases e2:eqds xs ys with
      | none=>rw [e1,e2] at e;cases e
      | some a'=>
        rw [e1,e2] at e
        cases e
        obtain⟨h1,h2⟩:=a'Y e2
        refine⟨?_,fun j u w hu hw=>?_⟩
        · rw [List.length_cons,List.range_succ_eq_map,List.all_cons,List.all_map]
          have z0:eqL (x :: xs) (y :: ys) 0=a:=by show (eqd x y).getD false=a;rw [e1];rfl
          rw [z0,← h1]
          rfl
        · cases j with
          | zero=>cases hu;cases hw;show eqd x y=some ((eqd x y).getD false);rw [e1];rfl
          | succ j=>exact h2 j u w hu hw
mutual
theorem n'P (I:Inv X pins σ H s) (sf:Same F H) (sb:∀ k,Same (B k) H):∀ (t:Tr) (t':Tr) (Au:Around) (v v':V) (c c':Cs) (b:Bool) (u u':Value),eqd t t'=some b→R X.K F B t v c→R X.K F B t' v' c'→Cells F H c→Cells F H c'→RelV v u→RelV v' u'→Au.units+dep t<cLine→SeqAt.EqAt Au s u u' b
  | .tup xs => fun t' Au v v' c c' b u u' e r r' hc hc' ru ru' hu => by
    cases t' with
    | tup ys=>
      have fn:=fun (z:v=v')=>d'y I sf sb (.tup xs) (.tup ys) v' c c' b e (z ▸ r) r' hc hc'
      unfold eqd at e
      split at e
      · rename_i hl
        obtain⟨a,vs,rfl,h1,h2⟩:=r.tupH sf
        obtain⟨a',vs',rfl,g1,g2⟩:=r'.tupH sf
        obtain rfl:u=Value.ref a:=ru
        obtain rfl:u'=Value.ref a':=ru'
        by_cases z:a=a'
        · rw [fn (by rw [z]),z];exact SeqAt.EqAt.same _
        · unfold dep at hu
          obtain⟨al,ix⟩:=a'Y e
          have rc:=e't (Au:=Au) I h1 g1 (by omega) (by rw [h2.length,g2.length];exact hl) (eqL xs ys) (fun j x y p q ex ey rx ry=>eqds_at I sf sb xs ys (eqL xs ys) Au.in1 vs vs' c c' j x y p q ix h2 g2 hc hc' ex ey rx ry (by rw [a'N];omega))
          rw [h2.length,al] at rc
          exact SeqAt.EqAt.of_refs z rc
      · cases e
    | _=>cases e
  | .lst f xs => fun t' Au v v' c c' b u u' e r r' hc hc' ru ru' hu => by
    cases t' with
    | lst f' ys=>
      have fn:=fun (z:v=v')=>d'y I sf sb (.lst f xs) (.lst f' ys) v' c c' b e (z ▸ r) r' hc hc'
      unfold eqd at e
      obtain⟨a,vs,ds,rfl,h1,h2,h3,_⟩:=r.lstH sf sb hc
      obtain⟨a',vs',ds',rfl,g1,g2,g3,_⟩:=r'.lstH sf sb hc'
      obtain rfl:u=Value.ref a:=ru
      obtain rfl:u'=Value.ref a':=ru'
      unfold dep at hu
      by_cases z:a=a'
      · rw [fn (by rw [z]),z];exact SeqAt.EqAt.same _
      · split at e
        · rename_i hl
          obtain⟨al,ix⟩:=a'Y e
          have rc:=e'u (Au:=Au) I h1 g1 (by omega) (by rw [h2.length,g2.length];exact hl) (eqL xs ys) (fun j x y p q ex ey rx ry=>eqds_at I sf sb xs ys (eqL xs ys) Au.in1 vs vs' ds ds' j x y p q ix h2 g2 h3 g3 ex ey rx ry (by rw [a'N];omega))
          rw [h2.length,al] at rc
          exact SeqAt.EqAt.of_refs z rc
        · rename_i hl
          cases e
          obtain⟨us,r1,t1,_⟩:=I.list h1
          obtain⟨zs,r2,t2,_⟩:=I.list g1
          have m1:=r1.length
          have m2:=r2.length
          have l1:=h2.length
          have l2:=g2.length
          exact SeqAt.EqAt.of_refs z (SeqAt.RcAt.lists_lengths t1.isList t2.isList (by simp;omega) (by omega))
    | _=>cases e
  | .int a => fun t' Au v v' c c' b u u' e r r' _ _ ru ru' _ => by
    cases t' with
    | int a'=>cases e;rw [r.1] at ru;rw [r'.1] at ru';exact i'V ru ru'
    | _=>cases e
  | .str a => fun t' Au v v' c c' b u u' e r r' _ _ ru ru' _ => by
    cases t' with
    | str a'=>
      cases e
      rw [r.1] at ru
      rw [r'.1] at ru'
      have z:=c'k (A:=Au) (s:=s) ru ru' rfl rfl
      have e:eqV (.str a) (.str a')=decide (a=a'):=by show (a == a')=_;rw [Bool.beq_eq_decide_eq]
      rw [e] at z
      exact z
    | _=>cases e
  | .bl a => fun t' Au v v' c c' b u u' e r r' _ _ ru ru' _ => by
    cases t' with
    | bl a'=>
      cases e
      rw [r.1] at ru
      rw [r'.1] at ru'
      have z:=c'k (A:=Au) (s:=s) ru ru' rfl rfl
      have e:eqV (.bl a) (.bl a')=decide (a=a'):=by show (a == a')=_;rw [Bool.beq_eq_decide_eq]
      rw [e] at z
      exact z
    | _=>cases e
  | .non => fun t' Au v v' c c' b u u' e r r' _ _ ru ru' _ => by
    cases t' with
    | non=>cases e;rw [r.1] at ru;rw [r'.1] at ru';exact c'k (A:=Au) (s:=s) ru ru' rfl rfl
    | _=>cases e
  | .hole => fun t' Au v v' c c' b u u' e _ _ _ _ _ _ _ => by cases t' <;> cases e
  | .ty _ => fun t' Au v v' c c' b u u' e _ _ _ _ _ _ _ => by cases t' <;> cases e
  | .cl _ => fun t' Au v v' c c' b u u' e _ _ _ _ _ _ _ => by cases t' <;> cases e
  | .exc _ => fun t' Au v v' c c' b u u' e _ _ _ _ _ _ _ => by cases t' <;> cases e
  | .dic _ _ => fun t' Au v v' c c' b u u' e _ _ _ _ _ _ _ => by cases t' <;> cases e
  | .ins _ _ _ => fun t' Au v v' c c' b u u' e _ _ _ _ _ _ _ => by cases t' <;> cases e
theorem eqds_at (I:Inv X pins σ H s) (sf:Same F H) (sb:∀ k,Same (B k) H):∀ (ts:List Tr) (ts':List Tr) (e:Nat→Bool) (Au:Around) (vs vs':List V) (c c':Cs) (j:Nat) (x y:V) (u u':Value),(∀ (j:Nat) (x y:Tr),ts[j]?=some x→ts'[j]?=some y→eqd x y=some (e j))→Rs X.K F B ts vs c→Rs X.K F B ts' vs' c'→Cells F H c→Cells F H c'→vs[j]?=some x→vs'[j]?=some y→RelV x u→RelV y u'→Au.units+deps ts<cLine→SeqAt.EqAt Au s u u' (e j)
  | [] => fun ts' e Au vs vs' c c' j x y u u' _ r _ _ _ ex _ _ _ _ => by rw [r.1] at ex; cases ex
  | t :: ts => fun ts' e Au vs vs' c c' j x y u u' ix r r' hc hc' ex ey ru ru' hu => by
    cases ts' with
    | nil=>rw [r'.1] at ey;cases ey
    | cons t' ts'=>
      obtain⟨v,r,c1,d1,h1,h2,h3,h4⟩:=r
      obtain⟨v',r',c2,d2,g1,g2,g3,g4⟩:=r'
      rw [h1] at ex
      rw [g1] at ey
      rw [h2] at hc
      rw [g2] at hc'
      unfold deps at hu
      cases j with
      | zero=>
        cases ex
        cases ey
        exact n'P I sf sb t t' Au _ _ c1 c2 (e 0) u u' (ix 0 t t' rfl rfl) h3 g3 hc.left hc'.left ru ru' (by omega)
      | succ j=>exact eqds_at I sf sb ts ts' (fun i=>e (i+1)) Au r r' d1 d2 j x y u u' (fun i a b ha hb=>ix (i+1) a b ha hb) h4 g4 hc.right hc'.right ex ey ru ru' (by omega)
end
theorem m'o {Au:Around} {a b:Addr} {xs ys:List V} (I:Inv X pins σ H s) (h1:SqT X.K H a xs) (h2:SqT X.K H b ys) (hu:Au.units<cLine) (hl:xs.length=ys.length) (e:Nat→Bool)
    (he:∀ (j:Nat) x y u v,xs[j]?=some x→ys[j]?=some y→RelV x u→RelV y v→SeqAt.EqAt Au.in1 s u v (e j)):SeqAt.RcNeAt Au s (.ref a) (.ref b) (!(List.range xs.length).all e):=by
  obtain⟨us,r1,t1,_⟩:=I.tuple h1
  obtain⟨ws,r2,t2,_⟩:=I.tuple h2
  have l1:=r1.length
  have l2:=r2.length
  have z:=SeqAt.RcNeAt.tuples (A:=Au) (e:=e) t1 t2 hu (fun j h1 h2=>?_)
  · have e0:((List.range (min us.toArray.size ws.toArray.size)).all e && us.toArray.size == ws.toArray.size)=(List.range xs.length).all e:=by
      simp only [List.size_toArray]
      have e1:min us.length ws.length=xs.length:=by omega
      have e2:(us.length == ws.length)=true:=by simp;omega
      rw [e1,e2,Bool.and_true]
    rw [e0] at z
    exact z
  · simp only [List.size_toArray] at h1 h2
    obtain⟨u,e1,ru⟩:=r1.get (i:=j) (x:=xs[j]'(by omega)) (by simp)
    obtain⟨v,e2,rv⟩:=r2.get (i:=j) (x:=ys[j]'(by omega)) (by simp)
    obtain⟨_,f1⟩:=List.getElem?_eq_some_iff.mp e1
    obtain⟨_,f2⟩:=List.getElem?_eq_some_iff.mp e2
    have g1:us.toArray[j]'(by simpa using h1)=u:=by simpa using f1
    have g2:ws.toArray[j]'(by simpa using h2)=v:=by simpa using f2
    rw [g1,g2]
    exact he j _ _ u v (by simp) (by simp) ru rv
def rEqU (K:PySem.W.Frag) (neg:Bool):R2:=fun x y H Q=>∃ (F:Hp) (B:Bool→Hp) (t t':Tr) (c c':Cs) (b:Bool),Same F H∧(∀ k,Same (B k) H)∧R K F B t x c∧R K F B t' y c'∧Cells F H c∧Cells F H c'∧eqd t t'=some b∧dep t≤60∧1≤dep t∧Q (.bl (if neg=true then !b else b)) H
theorem n'Q (hu:X.A.units+64<cLine):OpR X (compareOp .Eq) (rEqU X.K false):=by
  intro pins s σ H x y v u Q I rx ry h
  obtain⟨F,B,t,t',c,c',b,sf,sb,r,r',hc,hc',e,d,d1,q⟩:=h
  have fin:∀ {p p':Addr},SeqAt.RcAt X.A s (.ref p) (.ref p') b→wpAny (model X.prog X.w) X.A (compareOp .Eq (.ref p) (.ref p')) (EP X pins σ Q) X.xe s:=fun rc=>rc X.prog X.w X.xe _ ⟨.bl b,H,I,rfl,q⟩
  cases t with
  | tup xs =>
    cases t' with
    | tup ys=>
      unfold eqd at e
      unfold dep at d
      split at e
      · rename_i hl
        obtain⟨a,vs,rfl,h1,h2⟩:=r.tupH sf
        obtain⟨a',vs',rfl,g1,g2⟩:=r'.tupH sf
        obtain rfl:v=Value.ref a:=rx
        obtain rfl:u=Value.ref a':=ry
        obtain⟨al,ix⟩:=a'Y e
        have rc:=e't (Au:=X.A) I h1 g1 (by omega) (by rw [h2.length,g2.length];exact hl) (eqL xs ys) (fun j x y p q ex ey rx ry=>eqds_at I sf sb xs ys (eqL xs ys) X.A.in1 vs vs' c c' j x y p q ix h2 g2 hc hc' ex ey rx ry (by rw [a'N];omega))
        rw [h2.length,al] at rc
        exact fin rc
      · cases e
    | _=>cases e
  | lst f xs =>
    cases t' with
    | lst f' ys=>
      unfold eqd at e
      unfold dep at d
      obtain⟨a,vs,ds,rfl,h1,h2,h3,_⟩:=r.lstH sf sb hc
      obtain⟨a',vs',ds',rfl,g1,g2,g3,_⟩:=r'.lstH sf sb hc'
      obtain rfl:v=Value.ref a:=rx
      obtain rfl:u=Value.ref a':=ry
      split at e
      · rename_i hl
        obtain⟨al,ix⟩:=a'Y e
        have rc:=e'u (Au:=X.A) I h1 g1 (by omega) (by rw [h2.length,g2.length];exact hl) (eqL xs ys) (fun j x y p q ex ey rx ry=>eqds_at I sf sb xs ys (eqL xs ys) X.A.in1 vs vs' ds ds' j x y p q ix h2 g2 h3 g3 ex ey rx ry (by rw [a'N];omega))
        rw [h2.length,al] at rc
        exact fin rc
      · rename_i hl
        cases e
        obtain⟨us,r1,t1,_⟩:=I.list h1
        obtain⟨zs,r2,t2,_⟩:=I.list g1
        have m1:=r1.length
        have m2:=r2.length
        have l1:=h2.length
        have l2:=g2.length
        exact fin (SeqAt.RcAt.lists_lengths t1.isList t2.isList (by simp;omega) (by omega))
    | _=>cases e
  | _ => exact absurd d1 (by unfold dep; decide)
theorem n'R (hu:X.A.units+64<cLine):OpR X (compareOp .NotEq) (rEqU X.K true):=by
  intro pins s σ H x y v u Q I rx ry h
  obtain⟨F,B,t,t',c,c',b,sf,sb,r,r',hc,hc',e,d,d1,q⟩:=h
  have fin:∀ {p p':Addr},SeqAt.RcNeAt X.A s (.ref p) (.ref p') (!b)→wpAny (model X.prog X.w) X.A (compareOp .NotEq (.ref p) (.ref p')) (EP X pins σ Q) X.xe s:=fun rc=>rc X.prog X.w X.xe _ ⟨.bl (!b),H,I,rfl,q⟩
  cases t with
  | tup xs =>
    cases t' with
    | tup ys=>
      unfold eqd at e
      unfold dep at d
      split at e
      · rename_i hl
        obtain⟨a,vs,rfl,h1,h2⟩:=r.tupH sf
        obtain⟨a',vs',rfl,g1,g2⟩:=r'.tupH sf
        obtain rfl:v=Value.ref a:=rx
        obtain rfl:u=Value.ref a':=ry
        obtain⟨al,ix⟩:=a'Y e
        have rc:=m'o (Au:=X.A) I h1 g1 (by omega) (by rw [h2.length,g2.length];exact hl) (eqL xs ys) (fun j x y p q ex ey rx ry=>eqds_at I sf sb xs ys (eqL xs ys) X.A.in1 vs vs' c c' j x y p q ix h2 g2 hc hc' ex ey rx ry (by rw [a'N];omega))
        rw [h2.length,al] at rc
        exact fin rc
      · cases e
    | _=>cases e
  | lst f xs =>
    cases t' with
    | lst f' ys=>
      unfold eqd at e
      unfold dep at d
      obtain⟨a,vs,ds,rfl,h1,h2,h3,_⟩:=r.lstH sf sb hc
      obtain⟨a',vs',ds',rfl,g1,g2,g3,_⟩:=r'.lstH sf sb hc'
      obtain rfl:v=Value.ref a:=rx
      obtain rfl:u=Value.ref a':=ry
      split at e
      · rename_i hl
        obtain⟨al,ix⟩:=a'Y e
        have rc:=l'F (Au:=X.A) I h1 g1 (by omega) (by rw [h2.length,g2.length];exact hl) (eqL xs ys) (fun j x y p q ex ey rx ry=>eqds_at I sf sb xs ys (eqL xs ys) X.A.in1 vs vs' ds ds' j x y p q ix h2 g2 h3 g3 ex ey rx ry (by rw [a'N];omega))
        rw [h2.length,al] at rc
        exact fin rc
      · rename_i hl
        cases e
        obtain⟨us,r1,t1,_⟩:=I.list h1
        obtain⟨zs,r2,t2,_⟩:=I.list g1
        have m1:=r1.length
        have m2:=r2.length
        have l1:=h2.length
        have l2:=g2.length
        exact fin (SeqAt.RcNeAt.lists_lengths (A:=X.A) t1.isList t2.isList (by simp;omega) (by omega))
    | _=>cases e
  | _ => exact absurd d1 (by unfold dep; decide)
def rEqA (K:PySem.W.Frag):R2:=fun x y H Q=>rEq x y H Q∨rEqU K false x y H Q
theorem a'A (hu:X.A.units+64<cLine):OpR X (compareOp .Eq) (rEqA X.K):=op_eq.or (n'Q hu)
def rNeA (K:PySem.W.Frag):R2:=fun x y H Q=>rNe x y H Q∨rEqU K true x y H Q
theorem b'y (hu:X.A.units+64<cLine):OpR X (compareOp .NotEq) (rNeA X.K):=op_ne.or (n'R hu)
def wEq (neg:Bool) (x y:Tr) (Q:Tr→Prop):Prop:=match x,y with
  | .int a, .int b => Q (.bl (if neg = true then !decide (a = b) else decide (a = b)))
  | .str a, .str b => Q (.bl (if neg = true then !decide (a = b) else decide (a = b)))
  | .bl a, .bl b => Q (.bl (if neg = true then !decide (a = b) else decide (a = b)))
  | x, y => wEqS neg x y Q ∨ ∃ b, eqd x y = some b ∧ dep x ≤ 60 ∧ 1 ≤ dep x ∧ Q (.bl (if neg = true then !b else b))
theorem a'p {K:PySem.W.Frag} {k:Md}:Op2 K k (rEqA K) (wEq false):=fun F B H x y tx ty cx cy Q Q' s b z rx ry hx hy hd p q=>by
  unfold wEq at p
  split at p
  · obtain⟨rfl,_⟩:=rx
    obtain⟨rfl,_⟩:=ry
    refine .inl ⟨rfl,q _ _ F H [] p (Gr.refl' s) ⟨?_,rfl⟩ .nil fun _ m=>nomatch m⟩
    exact congrArg V.bl (decide_eq_decide.mpr ⟨fun h=>V.int.inj h,fun h=>by rw [h]⟩)
  · obtain⟨rfl,_⟩:=rx
    obtain⟨rfl,_⟩:=ry
    refine .inl ⟨rfl,q _ _ F H [] p (Gr.refl' s) ⟨?_,rfl⟩ .nil fun _ m=>nomatch m⟩
    exact congrArg V.bl (decide_eq_decide.mpr ⟨fun h=>V.str.inj h,fun h=>by rw [h]⟩)
  · obtain⟨rfl,_⟩:=rx
    obtain⟨rfl,_⟩:=ry
    refine .inl ⟨rfl,q _ _ F H [] p (Gr.refl' s) ⟨?_,rfl⟩ .nil fun _ m=>nomatch m⟩
    exact congrArg V.bl (decide_eq_decide.mpr ⟨fun h=>V.bl.inj h,fun h=>by rw [h]⟩)
  · rcases p with p | p
    · exact .inl (l'W (k:=k) F B H x y tx ty cx cy Q Q' s b z rx ry hx hy hd p q)
    · obtain⟨bb,e,d,d1,p⟩:=p
      exact .inr ⟨F,B,tx,ty,cx,cy,bb,s,b,rx,ry,hx,hy,e,d,d1,q _ _ F H [] p (Gr.refl' s) ⟨rfl,rfl⟩ .nil fun _ m=>nomatch m⟩
theorem a'F {K:PySem.W.Frag} {k:Md}:Op2 K k (rNeA K) (wEq true):=fun F B H x y tx ty cx cy Q Q' s b z rx ry hx hy hd p q=>by
  unfold wEq at p
  split at p
  · obtain⟨rfl,_⟩:=rx
    obtain⟨rfl,_⟩:=ry
    refine .inl ⟨rfl,q _ _ F H [] p (Gr.refl' s) ⟨?_,rfl⟩ .nil fun _ m=>nomatch m⟩
    exact congrArg (fun b=>V.bl (!b)) (decide_eq_decide.mpr ⟨fun h=>V.int.inj h,fun h=>by rw [h]⟩)
  · obtain⟨rfl,_⟩:=rx
    obtain⟨rfl,_⟩:=ry
    refine .inl ⟨rfl,q _ _ F H [] p (Gr.refl' s) ⟨?_,rfl⟩ .nil fun _ m=>nomatch m⟩
    exact congrArg (fun b=>V.bl (!b)) (decide_eq_decide.mpr ⟨fun h=>V.str.inj h,fun h=>by rw [h]⟩)
  · obtain⟨rfl,_⟩:=rx
    obtain⟨rfl,_⟩:=ry
    refine .inl ⟨rfl,q _ _ F H [] p (Gr.refl' s) ⟨?_,rfl⟩ .nil fun _ m=>nomatch m⟩
    exact congrArg (fun b=>V.bl (!b)) (decide_eq_decide.mpr ⟨fun h=>V.bl.inj h,fun h=>by rw [h]⟩)
  · rcases p with p | p
    · exact .inl (l'X (k:=k) F B H x y tx ty cx cy Q Q' s b z rx ry hx hy hd p q)
    · obtain⟨bb,e,d,d1,p⟩:=p
      exact .inr ⟨F,B,tx,ty,cx,cy,bb,s,b,rx,ry,hx,hy,e,d,d1,q _ _ F H [] p (Gr.refl' s) ⟨rfl,rfl⟩ .nil fun _ m=>nomatch m⟩
end
end Pu
namespace Pu
open PySem L2 Vc Sf
def tOf (K:PySem.W.Frag) (k:Md) (pe:PE'):TE:=fun σ H Q=>∃ (F:Hp) (B:Bool→Hp) (ρ:List Tr) (Q':Tr→Prop),Cxt K k F B H σ ρ∧pe ρ Q'∧∀ t v F' H' cs,Q' t→Out K F B H F' H' t v cs→Q v H'
def tOfT (K:PySem.W.Frag) (k:Md) (pe:PB'):TT:=fun σ H Q=>∃ (F:Hp) (B:Bool→Hp) (ρ:List Tr) (Q':Bool→Prop),Cxt K k F B H σ ρ∧pe ρ Q'∧∀ b F' H',Q' b→Gr F H F' H'→Q b H'
section
variable {X:Cx} {k:Md} {lo:Nat} {a b c:Expr} {pa pb pc:PE'} {pos:Pos}
theorem QE.of {e:Expr} {pe:PE'} (h:QE X k e pe):PE X e (tOf X.K k pe):=fun pins s σ H Q I ⟨F,B,ρ,Q',h1,h2,h3⟩=>by
  obtain⟨te,g1,g2⟩:=h.h
  exact g1 pins s σ H Q I (g2 F B H σ ρ Q Q' h1 h2 h3)
theorem n'S {K:PySem.W.Frag} {pe:PE'}:Sim K k (tOf K k pe) pe:=fun F B H σ ρ Q Q' h1 h2 h3=>⟨F,B,ρ,Q',h1,h2,h3⟩
theorem m'p {K:PySem.W.Frag} {pe:PB'}:SimT K k (tOfT K k pe) pe:=fun F B H σ ρ Q Q' h1 h2 h3=>⟨F,B,ρ,Q',h1,h2,h3⟩
theorem f'W (ha:QE X k a pa) (hb:QE X k b pb):QE X k (.BinOp a .Pow b pos) (p2 (wInt2 CPow fun i j=>.int (i ^ j.toNat)) pa pb):=b'U n'c (f'T fun _ _ _ _=>⟨rfl,rfl⟩) ha hb
theorem b'a {r:List V→Hp→VK→Prop} {pr:List Tr→(Tr→Prop)→Prop} {T:String} {x:Str} {p:Pos} {e:Expr} {es:List Expr} {ps:PA'} (hc:CallR X (.type T) r) (ho:OpA X.K k r pr) (hg:Gl X x) (hm:X.mg x=none) (hv:bootBuiltins x=some (.type T)) (ha:QA X k (e :: es) ps) (hn:x≠"__name__":=by decide) (hdb:(x == ("__debug__":Str))=false:=by decide) (he:starEach (e :: es) X.env=(false,eval e X.env) :: starEach es X.env:=by rfl) (hpl:(backTo pos (starEach es X.env)).any (·.1)=false:=by rfl) :
    QE X k (.Call (.Name x p) (e :: es) [] pos) (pB pr ps):=by
  obtain⟨ta,h1,h2⟩:=ha.h
  exact⟨_,g'D hc hg hm hv h1 hn hdb he hpl,g'Y ho h2⟩
structure QO (X:Cx) (k:Md) (e:Option Expr) (pe:PO'):Prop where
  h:∃ te,PO X e te∧SimO X.K k te pe
theorem b'n:QO X k none poN:=⟨_,l'r,n'L⟩
theorem b'o {e:Expr} {pe:PE'} (h:QE X k e pe):QO X k (some e) (poS pe):=by
  obtain⟨te,h1,h2⟩:=h.h
  exact⟨_,l's h1,n'M h2⟩
theorem b'p {e:Expr} {pe:PE'} {l h:Option Expr} {pl ph:PO'} {p2:Pos} (he:QE X k e pe) (hl:QO X k l pl) (hh:QO X k h ph):QE X k (.Subscript e (.Slice l h none p2) pos) (pSl pe pl ph):=by
  obtain⟨te,h1,h2⟩:=he.h
  obtain⟨tf,g1,g2⟩:=hl.h
  obtain⟨tg,f1,f2⟩:=hh.h
  exact⟨_,i'M p'v h1 g1 f1,n'N h2 g2 f2⟩
structure QG (X:Cx) (k:Md) (lo:Nat) (e:Expr) (pg:PG'):Prop where
  h:∃ tg,PG X e tg∧SimG X.K k lo tg pg
theorem p'w {i:Nat} {x:Str} (hN:X.N.Nodup) (hl:lo≤i) (hi:X.N[i]?=some x) (hx:Loc X.env.scope x) (hf:X.fn x=true∨X.env.scope.names.lookup x=some .local:=by first | exact .inl rfl | exact .inr rfl | assumption):QG X k lo (.Name x pos) (pgN i):=⟨_,e'm hN hi hx hf,n'G hl⟩
structure QI (X:Cx) (k:Md) (tg e:Expr) (pi:PI'):Prop where
  h:∃ ti,PI X tg e ti∧SimI X.K k ti pi
section
variable {tg:Expr} {p:Pos} {l m:Expr} {pl:PE'} {ps:PA'}
theorem p'x (h:QE X k l pl):QI X k tg l (piL pl):=by
  obtain⟨te,h1,h2⟩:=h.h
  exact⟨_,l'l h1,h'a h2⟩
end
theorem a'f {i:Nat} {x:Str} {e:Expr} {pe:PE'} {pos':Pos} (hN:X.N.Nodup) (hl:lo≤i) (hi:X.N[i]?=some x) (hx:Loc X.env.scope x) (h:QE X k e pe) (hs:swapsWith e (some (.Name x pos')) pos.line X.env=pure false:=by rfl) (hf:X.fn x=true∨X.env.scope.names.lookup x=some .local:=by first | exact .inl rfl | exact .inr rfl | assumption) :
    QS X k lo (.Assign [.Name x pos'] e pos) (pAsgF i pe):=by
  obtain⟨te,h1,h2⟩:=h.h
  exact⟨_,d'f hN hi hx h1 hs hf,j'l hl h2⟩
theorem p'h {i j:Nat} {x y:Str} {ps:PA'} {px py pt pt2:Pos} {kt k2:Nat} (hc:X.calm=true) (hN:X.N.Nodup) (hl:lo≤i) (hl':lo≤j) (hi:X.N[i]?=some x) (hj:X.N[j]?=some y) (hij:i≠j) (hx:X.env.scope.names.lookup x=some .local) (hy:X.env.scope.names.lookup y=some .local) (h:QA X k [a,b] ps)
    (hs:swappedStores [.Tuple [.Name x px,.Name y py] kt pt] (.Tuple [a,b] k2 pt2) X.env=pure (some [x,y])) (hw:swapsWithSole [.Tuple [.Name x px,.Name y py] kt pt] (.Tuple [a,b] k2 pt2) pos.line X.env=pure false:=by rfl):QS X k lo (.Assign [.Tuple [.Name x px,.Name y py] kt pt] (.Tuple [a,b] k2 pt2) pos) (pPar i j ps):=by
  obtain⟨te,h1,h2⟩:=h.h
  exact⟨_,m'W hc hN hi hj hij hx hy h1 hs hw,m'i hl hl' h2⟩
theorem p'i {tg iter:Expr} {body:List Stmt} {pi:PI'} {pg:PG'} {pb:PS'} (hp:PassesOwn (model X.prog X.w) X.A X.env X.xe) (hc:X.calm=true) (hi:QI X k tg iter pi) (hg:QG X k lo tg pg) (hb:QB X k lo body pb) (hs:∀ x,foldedSetIterable iter X.env x=pure x:=by intro _;rfl):QS X k lo (.For tg iter body [] pos) (pFor pi pg pb):=by
  obtain⟨te,h1,h2⟩:=hi.h
  obtain⟨tf,g1,g2⟩:=hg.h
  obtain⟨tb,b1,b2⟩:=hb.h
  exact⟨_,m'X hp hc h1 g1 b1 hs,m'k h2 g2 b2⟩
theorem p'y (i:Nat) {x:Str} (hN:X.N[i]?=some x:=by rfl) (hv:Vis X.env.scope x:=by first | exact Or.inl rfl | exact Or.inr (Or.inl rfl) | exact Or.inr (Or.inr rfl)) (hd:(x == ("__debug__":Str))=false:=by decide) (hcd:(x == ("__classdict__":Str))=false:=by decide):PE X (.Name x pos) (tR X.K i []):=g'v hN hv hd hcd
theorem n'T {o j e:Expr} {i:Nat} {r:List Str} {pj pe:PE'} {pos':Pos} (hp:PE X o (tR X.K i r)) (hj:QE X k j pj) (h:QE X k e pe) (ha:∀ v,assign (.Subscript o j pos') X.env v=(do
      let ov ← holding [v] (eval o X.env)
      let iv ← holding [v,ov] (eval j X.env)
      standAt pos'
      holding [v,ov,iv] (setItem ov iv v)
      release [v,ov,iv] []):=by intro _;rfl) (h1:swapsWithSole [.Subscript o j pos'] e pos.line X.env=pure false:=by rfl) (h2:swappedStores [.Subscript o j pos'] e X.env=pure none:=by rfl) (h3:(assignEach [.Subscript o j pos'] X.env).map (·.2)=[assign (.Subscript o j pos') X.env]:=by rfl) :
    QS X k lo (.Assign [.Subscript o j pos'] e pos) (pSetL X.K i r pj pe):=by
  obtain⟨te,e1,e2⟩:=h.h
  obtain⟨tj,f1,f2⟩:=hj.h
  exact⟨_,m'V e1 (m'U hp f1 i'N ha) h1 h2 h3,j'n e2 f2⟩
structure QGq (X:Cx) (scope:Scope) (N:List Str) (js:List Nat) (e:Expr) (pg:PG'):Prop where
  h:∃ tg,(∀ C s H fp pl,PG (cxComp X scope N C s H fp pl) e tg)∧SimQ X.K js tg pg
section
variable {scope:Scope} {N:List Str}
theorem n'U {i:Nat} {x:Str} (hN:N.Nodup) (hi:N[i]?=some x) (hx:∀ C s H fp pl,(cxComp X scope N C s H fp pl).env.scope.names.lookup x=some .local:=by intros;rfl):QGq X scope N [i] (.Name x pos) (pgN i):=⟨_,fun C s H fp pl=>e'm (X:=cxComp X scope N C s H fp pl) hN hi (.inl (hx C s H fp pl)) (.inr (hx C s H fp pl)),n'O⟩
structure QTs (Y:Cx) (k:Md) (es:List Expr) (pt:PB'):Prop where
  h:PTs Y es (tOfT Y.K k pt)
theorem e'z:QTs X k [] pYes:=⟨fun pins s σ H Q I ⟨F,B,ρ,Q',h1,h2,h3⟩=>l'y pins s σ H Q I (m'n (k:=k) F B H σ ρ Q Q' h1 h2 h3)⟩
variable {elt target iter:Expr} {ifs:List Expr} {ix:List (Option Nat)} {pi:PI'} {pg:PG'} {pt:PB'} {pe:PE'} {js:List Nat}
theorem h'c (hc:X.calm=true) (hi:QI X k target iter pi) (hg:QGq X scope N js target pg) (ht:∀ C s H fp pl,QTs (cxComp X scope N C s H fp pl) k.mute ifs pt) (he:∀ C s H fp pl,QE (cxComp X scope N C s H fp pl) k.mute elt pe) (hpk:PickOk X scope N ix) (hj:∀ j∈js,ix[j]?=some none:=by decide)
    (hkind:scope.kind=.function:=by rfl) (hcell:∀ y∈scope.names,y.2≠.cell:=by decide) (hnames:∀ x∈scope.names,x.2=.local→scope.names.lookup x.1=some .local:=by decide) (hall:clAll scope X.env=true:=by rfl) (hs:∀ x,foldedSetIterable iter X.env x=pure x:=by intro _;rfl) :
    QE X k (.ListComp elt [⟨target,iter,ifs,0⟩] scope pos) (pComp pi pg pt pe ix):=by
  obtain⟨te,h1,h2⟩:=hi.h
  obtain⟨tf,g1,g2⟩:=hg.h
  exact⟨_,l'A hc h1 g1 (fun C s H fp pl=>(ht C s H fp pl).h) (fun C s H fp pl=>(he C s H fp pl).of) hpk hkind hcell hnames hall hs,j'p h2 g2 m'p n'S hj⟩
end
end
end Pu
namespace Pu
open PySem L2 Vc Sf
section
variable {K:PySem.W.Frag} {k k':Md} {lo:Nat} {us:List V} {Fb Hb F H F' H':Hp} {σ:St} {ρ:List Tr} {cs:Nat→Cs}
theorem Lk.md {D:Ends} {D':Pd} (L:Lk K k lo us Fb Hb D D') (hz:k.z=true→k'.z=true) (x:∀ cls σ' F' H',k.q cls→Gr Fb Hb F' H'→k.E σ' cls none H'):Lk K k' lo us Fb Hb D D':=
  ⟨fun F H σ ρ cs W=>L.nx F H σ ρ cs (W.md hz x),fun F H σ ρ cs v t c W=>L.rt F H σ ρ cs v t c (W.md hz x),fun F H σ ρ cs W=>L.bk F H σ ρ cs (W.md hz x),fun F H σ ρ cs W=>L.ct F H σ ρ cs (W.md hz x)⟩
def pRaise (q:Value→Prop) (C:Addr) (pe:PE'):PS':=fun _ ρ=>pe (ρ.map lend) fun _=>q (.ref C)
theorem h'd {z:Bool} {E:XK} {q:Value→Prop} {C:Addr} {te:TE} {pe:PE'} (h:Sim K ⟨z,fun _=>E,q⟩ te pe):SimS K ⟨z,fun _=>E,q⟩ lo (tRaise C E te) (pRaise q C pe):=fun us Fb Hb F H σ ρ cs D D' W p L=>
  h F (Bq Hb H) H σ _ _ _ W.cxt p fun t v F1 H1 c q o=>W.x (.ref C) σ F1 H1 q (W.g.trans' o.g)
theorem Wld.unset {i:Nat} (W:Wld K k lo us Fb Hb F H σ ρ cs) (hi:lo≤i):Wld K k lo us Fb Hb F H (σ.set i none) (ρ.set i .hole) (fun j=>if j=i then [] else cs j) where
  g:=W.g
  z:=W.z
  l:=by rw [List.length_set,List.length_set];exact W.l
  e:=fun j u h=>by
    by_cases e:j=i
    · subst e
      have hl:j<ρ.length:=by have:=(List.getElem?_eq_some_iff.mp h).1;rw [List.length_set] at this;exact this
      rw [List.getElem?_set_self hl] at h
      cases h
      exact .inl rfl
    · rw [List.getElem?_set_ne (fun z=>e z.symm)] at h
      rw [if_neg e]
      exact (W.e j u h).imp id fun ⟨v,h1,h2⟩=>⟨v,by rw [List.getElem?_set_ne (fun z=>e z.symm)];exact h1,h2⟩
  c:=fun j=>by
    split
    · exact .nil
    · exact W.c j
  n:=fun j=>by
    split
    · exact .nil
    · exact W.n j
  d:=fun a b ne p mp q mq=>by
    by_cases ea:a=i
    · rw [if_pos ea] at mp
      cases mp
    · rw [if_neg ea] at mp
      by_cases eb:b=i
      · rw [if_pos eb] at mq
        cases mq
      · rw [if_neg eb] at mq
        exact W.d a b ne p mp q mq
  p:=fun j h=>by rw [List.getElem?_set_ne (by omega)];exact W.p j h
  x:=W.x
def Pd.less (D:Pd) (i:Nat):Pd:={ nx:=fun ρ=>D.nx (ρ.set i .hole),rt:=D.rt,bk:=fun ρ=>D.bk (ρ.set i .hole),ct:=fun ρ=>D.ct (ρ.set i .hole) }
theorem Lk.less {D:Ends} {D':Pd} {i:Nat} (hi:lo≤i) (L:Lk K k lo us Fb Hb D D'):Lk K k lo us Fb Hb (D.less i) (D'.less i):=
  ⟨fun F H σ ρ cs W q=>L.nx F H _ _ _ (W.unset hi) q,fun F H σ ρ cs v t c W r hc n d nl q=>L.rt F H σ ρ cs v t c W r hc n d nl q,fun F H σ ρ cs W q=>L.bk F H _ _ _ (W.unset hi) q,fun F H σ ρ cs W q=>L.ct F H _ _ _ (W.unset hi) q⟩
def tOfS (K:PySem.W.Frag) (k:Md) (lo:Nat) (ps:PS'):TS:=fun D σ H=>∃ (us:List V) (Fb Hb F:Hp) (ρ:List Tr) (cs:Nat→Cs) (D':Pd),Wld K k lo us Fb Hb F H σ ρ cs∧ps D' ρ∧Lk K k lo us Fb Hb D D'
theorem QB.of {X:Cx} {sts:List Stmt} {ps:PS'} (h:QB X k lo sts ps):PSs X sts (tOfS X.K k lo ps):=fun pins s σ H D I ⟨us,Fb,Hb,F,ρ,cs,D',h1,h2,h3⟩=>by
  obtain⟨te,g1,g2⟩:=h.h
  exact g1 pins s σ H D I (g2 us Fb Hb F H σ ρ cs D D' h1 h2 h3)
theorem m'q {ps:PS'}:SimS K k lo (tOfS K k lo ps) ps:=fun us Fb Hb F H σ ρ cs D D' h1 h2 h3=>⟨us,Fb,Hb,F,ρ,cs,D',h1,h2,h3⟩
def Snd (K:PySem.W.Frag) (k:Md) (lo:Nat) (tS:TE→TS) (pS:PE'→PS'):Prop:=∀ (us:List V) (Fb Hb F H:Hp) (σ:St) (ρ:List Tr) (cs:Nat→Cs) (D:Ends) (D':Pd) (te:TE) (pe:PE'),Wld K k lo us Fb Hb F H σ ρ cs→Lk K k lo us Fb Hb D D'→(∀ Q Q',pe (ρ.map lend) Q'→(∀ t v F' H' c,Q' t→Out K F (Bq Hb H) H F' H' t v c→Q v H')→te σ H Q)→pS pe D' ρ→tS te D σ H
theorem j'q {i:Nat} (hi:lo≤i):Snd K k lo (fun te=>tAsg te (gName i)) (pAsgF i):=fun us Fb Hb F H σ ρ cs D D' te pe W L h p=>h _ _ p fun t v F1 H1 c q o=>by
  obtain⟨F2,cs2,W2⟩:=W.outF o hi q.1
  exact L.nx F2 H1 _ _ _ W2 q.2
def tTr (K:PySem.W.Frag) (z:Bool) (pe:(Value→Prop)→PE') (R':St→XK):TE:=fun σ H Q=>∃ q,tOf K ⟨z,R',q⟩ (pe q) σ H Q
theorem p'j {X:Cx} {z:Bool} {pe:(Value→Prop)→PE'} {R':St→XK} {e:Expr} (h:∀ q,QE X ⟨z,R',q⟩ e (pe q)):PE X e (tTr X.K z pe R'):=fun pins s σ H Q I ⟨q,h'⟩=>(h q).of pins s σ H Q I h'
@[reducible] def catT (K:PySem.W.Frag) (C:Addr) (cls:Value):Prop:=PySem.W.exmOne K cls (.ref C)=some true
def pTry (K:PySem.W.Frag) (C:Addr) (pS:PE'→PS') (pe:(Value→Prop)→PE') (ph:PS'):PS':=fun D ρ=>pS (pe fun cls=>catT K C cls∧ph D ρ) D ρ
def pTryAs (K:PySem.W.Frag) (C:Addr) (i:Nat) (pS:PE'→PS') (pe:(Value→Prop)→PE') (ph:PS'):PS':=fun D ρ=>pS (pe fun cls=>catT K C cls∧∃ B,cls=.ref B∧ph (D.less i) (ρ.set i (.exc B))) D ρ
theorem h'e {C:Addr} {i:Nat} {tS:TE→TS} {pS:PE'→PS'} {pe:(Value→Prop)→PE'} {th:TS} {ph:PS'} (hi:lo≤i) (hS:Snd K k lo tS pS) (hh:SimS K k.mute lo th ph):SimS K k lo (tTryAs K C i (fun R'=>tS (tTr K k.z pe R')) th) (pTryAs K C i pS pe ph):=fun us Fb Hb F H σ ρ cs D D' W p L=>
  hS us Fb Hb F H σ ρ cs D D' _ _ W L (fun Q Q' pq q=>⟨_,F,Bq Hb H,_,Q',⟨W.cxt.s,W.cxt.b,W.cxt.z,W.cxt.e,fun cls F' H' hq g=>⟨hq.1,by
    obtain⟨_,B,rfl,h3⟩:=hq
    refine⟨B,rfl,fun y hy=>?_⟩
    obtain⟨F2,g2,e2⟩:=al2 (o:=exO y B) g.s (by intro _ _ z;cases z) hy
    have W2:=((W.gr g).gr g2).set hi (t:=.exc B) (v:=.ref y) (c:=[]) ⟨rfl,y,rfl,.inl e2⟩ .nil .nil fun _ _ _ _ _ m=>nomatch m
    exact hh us Fb Hb F2 _ _ _ _ _ _ (W2.md id fun _ _ _ _ h=>h.elim) h3 ((L.less hi).md id W.x)⟩⟩,pq,q⟩) p
end
section
variable {X:Cx} {k:Md} {lo:Nat} {a b c:Expr} {pa pb pc:PE'} {pos:Pos}
theorem m'r {z:Bool} {n m:Nat} {psp:PSpX} {f:Addr} {fd:FuncData} {pn:List Str} {e:Expr} {es:List Expr} {ps:PA'} {x:Str} {p:Pos} (G:FnOk X.prog X.w X.K X.mg X.base (CX1 X.prog X.w) m f fd pn (spX X.K z 0 n psp)) (hx:∀ σ,PassAt (CX1 X.prog X.w) X σ (k.E σ)) (hk:z=true→k.z=true) (hn:∀ xs Q q,psp xs Q q→xs.length=n) (hr:Room m X.A) (hg:Gl X x) (hm:X.mg x=some (.ref f)) (hkp:PySem.W.keepIn X.K (.ref f)=true) (hb:Binds X.K fd pn []) (ha:QA X k (e :: es) ps) (hdb:(x == ("__debug__":Str))=false:=by decide) (he:starEach (e :: es) X.env=(false,eval e X.env) :: starEach es X.env:=by rfl) (hpl:(backTo pos (starEach es X.env)).any (·.1)=false:=by rfl) :
    QE X k (.Call (.Name x p) (e :: es) [] pos) (pCallX k.q psp ps):=by
  obtain⟨ta,h1,h2⟩:=ha.h
  exact⟨_,i'Z G hr hg hm hkp hb .nil hx h1 hdb he hpl,c'P (fun F B H σ ρ c cls F' H' hq g=>c.x cls F' H' hq g) hk hn h2⟩
theorem c'z {z:Bool} {E:XK} {q:Value→Prop} {x:Str} {np cpos:Pos} {e₀:Expr} {pe:PE'} {C:Addr} {B newId initId:String} {bmB:List Value} (hs:X.stack=X.env :: X.outer) (hf:X.env.frame=some X.env.locals) (hex:X.ex=[]) (hxe:Xe1 X E)
    (hcalm:X.calm=true) (hg:Gl X x) (hm:X.mg x=some (.ref C)) (FB:ExcBaseFacts B newId initId bmB) (hq:PySem.W.excIn X.K C bmB newId=true) (he:QE X ⟨z,fun _=>E,q⟩ e₀ pe) (hdb:(x == ("__debug__":Str))=false:=by decide)
    (hst:starEach [e₀] X.env=(false,eval e₀ X.env) :: starEach [] X.env:=by rfl) (hpl:(backTo cpos (starEach [] X.env)).any (·.1)=false:=by rfl) :
    QS X ⟨z,fun _=>E,q⟩ lo (.Raise (some (.Call (.Name x np) [e₀] [] cpos)) none pos) (pRaise q C pe):=by
  obtain⟨te,h1,h2⟩:=he.h
  exact⟨_,i'Y hs hf hex hxe hcalm hg hm FB hq h1 hdb hst hpl,h'd h2⟩
section
variable {st b₀:Stmt} {suite:List Stmt} {x n:Str} {np hpos:Pos} {C:Addr} {e:Expr} {tS:TE→TS} {pS:PE'→PS'} {pe:(Value→Prop)→PE'} {ph:PS'} {i:Nat}
theorem m's (hs:X.stack=X.env :: X.outer) (hf:X.env.frame=some X.env.locals) (hg:Gl X x) (hm:X.mg x=some (.ref C)) (hN:X.N.Nodup) (hl:lo≤i) (hi:X.N[i]?=some n) (hn:X.env.scope.names.lookup n=some .local) (hS:Snd X.K k lo tS pS) (hb:∀ pn xe te,PE (X.kept2 pn xe) e te→PS (X.kept2 pn xe) st (tS te))
    (he:∀ (pn:List (Addr×Obj)) (xe:Value→Shared→Prop) (R':St→XK),(∀ σ,PassAt (CX1 X.prog X.w) (X.kept2 pn xe) σ (R' σ))→∀ q,QE (X.kept2 pn xe) ⟨k.z,R',q⟩ e (pe q)) (hh:∀ v:Value,QB (X.inHandler v) k.mute lo (b₀ :: suite) ph) (hdb:(x == ("__debug__":Str))=false:=by decide) :
    QS X k lo (.Try [st] [.ExceptHandler (some (.Name x np)) (some n) (b₀ :: suite) hpos] [] [] pos) (pTryAs X.K C i pS pe ph):=
  ⟨_,j'b hs hf hg hm hN hi hn (fun pn xe R' hx=>e'l (hb pn xe _ (p'j (he pn xe R' hx)))) (fun v=>(hh v).of) hdb,h'e hl hS m'q⟩
end
theorem d'z:OpR X (compareOp .Is) (fun x y H Q=>((∃ d,y=.bl d)∨y=.non)∧Q (.bl (decide (x=y))) H):=by
  intro pins s σ H x y v u Q I rx ry h
  obtain⟨hy,q⟩:=h
  rcases hy with ⟨d,rfl⟩ | rfl
  · cases ry
    cases x with
    | bl c=>cases rx;exact PyProof.Rows.is_bool (a'j I q (by cases c<;>cases d<;>rfl))
    | _=>first
      | (cases rx;exact wpAny_pure (a'j I q rfl))
      | (obtain⟨t,rfl⟩:=rx;exact wpAny_pure (a'j I q rfl))
  · exact n'e pins s σ H x _ v u Q I rx ry ⟨rfl,q⟩
end
end Pu
namespace Pu
open PySem L2 Vc Sf
section
variable {X:Cx}
end
section
variable {K:PySem.W.Frag} {k:Md} {F H F' H':Hp} {B:Bool→Hp} {σ:St} {ρ:List Tr}
def isT:Tr→Tr→Bool
  | .bl c, .bl d => c == d
  | .non, .non => true
  | _, _ => false
def wIsV (neg:Bool) (x y:Tr) (Q:Tr→Prop):Prop:=match y with
  | .bl d => Q (.bl (neg ^^ isT x (.bl d)))
  | .non => Q (.bl (neg ^^ isT x .non))
  | _ => False
theorem R.ref {t:Tr} {v:V} {c:Cs} (r:R K F B t v c):(∃ b,t=.bl b∧v=.bl b)∨(t=.non∧v=.non)∨(∀ d,isT t (.bl d)=false∧isT t .non=false∧v≠.bl d∧v≠.non):=by
  cases t with
  | bl b => exact .inl ⟨b, rfl, r.1⟩
  | non => exact .inr (.inl ⟨rfl, r.1⟩)
  | hole => exact (show False from r).elim
  | int n => exact .inr (.inr fun d => ⟨rfl, rfl, (by rw [r.1]; intro z; cases z), (by rw [r.1]; intro z; cases z)⟩)
  | str n => exact .inr (.inr fun d => ⟨rfl, rfl, (by rw [r.1]; intro z; cases z), (by rw [r.1]; intro z; cases z)⟩)
  | ty n => exact .inr (.inr fun d => ⟨rfl, rfl, (by rw [r.1]; intro z; cases z), (by rw [r.1]; intro z; cases z)⟩)
  | cl n => exact .inr (.inr fun d => ⟨rfl, rfl, (by rw [r.1]; intro z; cases z), (by rw [r.1]; intro z; cases z)⟩)
  | exc n => obtain ⟨_, a, rfl, _⟩ := r; exact .inr (.inr fun d => ⟨rfl, rfl, (by intro z; cases z), (by intro z; cases z)⟩)
  | tup xs => obtain ⟨a, vs, rfl, _⟩ := r; exact .inr (.inr fun d => ⟨rfl, rfl, (by intro z; cases z), (by intro z; cases z)⟩)
  | lst f xs =>
    cases f with
    | o=>obtain⟨a,vs,ds,rfl,_⟩:=r;exact .inr (.inr fun d=>⟨rfl,rfl,(by intro z;cases z),(by intro z;cases z)⟩)
    | f=>obtain⟨_,a,vs,rfl,_⟩:=r;exact .inr (.inr fun d=>⟨rfl,rfl,(by intro z;cases z),(by intro z;cases z)⟩)
    | l b=>obtain⟨_,a,vs,rfl,_⟩:=r;exact .inr (.inr fun d=>⟨rfl,rfl,(by intro z;cases z),(by intro z;cases z)⟩)
  | dic f xs =>
    cases f with
    | o=>obtain⟨a,vs,ds,rfl,_⟩:=r;exact .inr (.inr fun d=>⟨rfl,rfl,(by intro z;cases z),(by intro z;cases z)⟩)
    | f=>obtain⟨_,a,vs,rfl,_⟩:=r;exact .inr (.inr fun d=>⟨rfl,rfl,(by intro z;cases z),(by intro z;cases z)⟩)
    | l b=>obtain⟨_,a,vs,rfl,_⟩:=r;exact .inr (.inr fun d=>⟨rfl,rfl,(by intro z;cases z),(by intro z;cases z)⟩)
  | ins f c xs =>
    cases f with
    | o=>obtain⟨a,dx,vs,ds,rfl,_⟩:=r;exact .inr (.inr fun d=>⟨rfl,rfl,(by intro z;cases z),(by intro z;cases z)⟩)
    | f=>obtain⟨_,a,dx,vs,rfl,_⟩:=r;exact .inr (.inr fun d=>⟨rfl,rfl,(by intro z;cases z),(by intro z;cases z)⟩)
    | l b=>obtain⟨_,a,dx,vs,rfl,_⟩:=r;exact .inr (.inr fun d=>⟨rfl,rfl,(by intro z;cases z),(by intro z;cases z)⟩)
theorem n'V {t:Tr} {v:V} {c:Cs} (r:R K F B t v c) (d:Bool):decide (v=.bl d)=isT t (.bl d):=by
  rcases r.ref with ⟨b,rfl,rfl⟩ | ⟨rfl,rfl⟩ | h
  · cases b<;>cases d<;>rfl
  · rfl
  · rw [(h d).1];exact decide_eq_false (h d).2.2.1
theorem m't {t:Tr} {v:V} {c:Cs} (r:R K F B t v c):decide (v=.non)=isT t .non:=by
  rcases r.ref with ⟨b,rfl,rfl⟩ | ⟨rfl,rfl⟩ | h
  · rfl
  · rfl
  · rw [(h true).2.1];exact decide_eq_false (h true).2.2.2
theorem d'A:Op2 K k (fun x y H Q=>((∃ d,y=.bl d)∨y=.non)∧Q (.bl (decide (x=y))) H) (wIsV false):=fun F B H x y tx ty cx cy Q Q' s b z rx ry hx hy hd p q=>by
  unfold wIsV at p
  split at p
  · obtain⟨rfl,_⟩:=ry
    refine⟨.inl ⟨_,rfl⟩,?_⟩
    rw [n'V rx]
    rw [Bool.false_xor] at p
    exact q _ _ F H [] p (Gr.refl' s) ⟨rfl,rfl⟩ .nil fun _ m=>nomatch m
  · obtain⟨rfl,_⟩:=ry
    refine⟨.inr rfl,?_⟩
    rw [m't rx]
    rw [Bool.false_xor] at p
    exact q _ _ F H [] p (Gr.refl' s) ⟨rfl,rfl⟩ .nil fun _ m=>nomatch m
  · exact p.elim
theorem Rs.bls:∀ {bs:List Bool} {vs:List V} {c:Cs},Rs K F B (bs.map .bl) vs c→vs=bs.map V.bl
  | [], _, _, ⟨h, _⟩ => h
  | b :: bs, _, _, ⟨v, r, c, d, h1, h2, h3, h4⟩ => by rw [h1, Rs.bls h4, h3.1]; rfl
def wAny (all:Bool) (ts:List Tr) (Q:Tr→Prop):Prop:=match ts with
  | [.lst _ xs] => ∃ bs : List Bool, xs = bs.map .bl ∧ Q (.bl (if all = true then bs.all id else bs.any id))
  | _ => False
theorem e'A:OpA K k (fun xs H Q=>∃ (a:Addr) (bs:List Bool),xs=[.ref a]∧SqL K H a (bs.map V.bl)∧Q (.bl (bs.all id)) H) (wAny true):=fun F B H xs ts cx Q Q' s b z r hc p q=>by
  unfold wAny at p
  split at p
  · obtain⟨v,rfl,r1⟩:=r.one
    obtain⟨a,vs,ds,rfl,h1,h2,_⟩:=r1.lstH s b hc
    obtain⟨bs,rfl,p⟩:=p
    rw [h2.bls] at h1
    exact⟨a,bs,rfl,h1,q _ _ F H [] p (Gr.refl' s) ⟨rfl,rfl⟩ .nil fun _ m=>nomatch m⟩
  · exact p.elim
def wIsX (K:PySem.W.Frag) (ts:List Tr) (Q:Tr→Prop):Prop:=match ts with
  | [.exc D, c] => (match clT c with | some u => ∃ b, ExcK K D ∧ PySem.W.kitOne K (.ref D) u = some b ∧ Q (.bl b) | none => False)
  | _ => False
theorem p'k {t:Tr} {v:V} {c:Cs} {u:Value} (r:R K F B t v c) (h:clT t=some u):clsV v=some u:=by
  unfold clT at h
  split at h
  · cases h;rw [r.1];rfl
  · cases h;rw [r.1];rfl
  · cases h
theorem m'u:OpA K k (fun xs H Q=>∃ x D c b u,xs=[.ref x,c]∧Rd H x (exO x D)∧ExcK K D∧clsV c=some u∧PySem.W.kitOne K (.ref D) u=some b∧Q (.bl b) H) (wIsX K):=fun F B H xs ts cx Q Q' s b z r hc p q=>by
  unfold wIsX at p
  split at p
  · split at p
    · rename_i D c _ u hu
      obtain⟨v,w,c1,d1,rfl,r1,r2,rfl⟩:=r.two
      obtain⟨_,a,rfl,h2⟩:=r1
      obtain⟨b',hb,hk,p⟩:=p
      exact⟨a,D,w,b',u,rfl,(Le.of s).exc h2,hb,p'k r2 hu,hk,q _ _ F H [] p (Gr.refl' s) ⟨rfl,rfl⟩ .nil fun _ m=>nomatch m⟩
    · exact p.elim
  · exact p.elim
theorem p'z {X:Cx} {x:Str} {i:Int} {t:Tok} {pos:Pos} (hg:Gl X x) (hm:X.mg x=some (.int i t)) (hd:(x == ("__debug__":Str))=false:=by decide):QE X k (.Name x pos) (pC (.int i)):=d'v (.int i) hg hm ⟨_,rfl⟩ (fun _ _=>⟨rfl,rfl⟩) hd
theorem p'A {X:Cx} {x:Str} {i:Str} {t:Tok} {pos:Pos} (hg:Gl X x) (hm:X.mg x=some (.str i t)) (hd:(x == ("__debug__":Str))=false:=by decide):QE X k (.Name x pos) (pC (.str i)):=d'v (.str i) hg hm ⟨_,rfl⟩ (fun _ _=>⟨rfl,rfl⟩) hd
theorem f'X {X:Cx} {x:Str} {c:Addr} {pos:Pos} (hg:Gl X x) (hm:X.mg x=some (.ref c)) (hd:(x == ("__debug__":Str))=false:=by decide):QE X k (.Name x pos) (pC (.cl c)):=d'v (.ref c) hg hm rfl (fun _ _=>⟨rfl,rfl⟩) hd
def pPairs:List (PE'×PE')→List Tr→(List (Key×Tr)→Prop)→Prop
  | [], _, Q => Q []
  | (pk, pv) :: r, ρ, Q => pk ρ fun x => wKey x fun y => pv ρ fun t => pPairs r ρ fun m => Q ((y, t) :: m)
end
end Pu
namespace Pu
open PySem L2 Vc Sf
section
variable {K:PySem.W.Frag} {k:Md} {F H F' H':Hp} {B:Bool→Hp} {σ:St} {ρ:List Tr}
def pDisp (ps:List (PE'×PE')):PE':=fun ρ Q=>pPairs ps ρ fun m=>(m.map (·.1)).Nodup∧Q (.dic .o m)
end
section
variable {X:Cx} {k:Md} {lo:Nat} {a b c:Expr} {pa pb pc:PE'} {pos:Pos}
theorem p'l (K:PySem.W.Frag) (hK:X.K=K) {x:Str} {p:Pos} {e:Expr} {es:List Expr} {ps:PA'} (hg:Gl X x) (hm:X.mg x=none) (hv:bootBuiltins x=some (.builtin "isinstance")) (ha:QA X k (e :: es) ps) (hn:x≠"__name__":=by decide) (hdb:(x == ("__debug__":Str))=false:=by decide) (he:starEach (e :: es) X.env=(false,eval e X.env) :: starEach es X.env:=by rfl) (hpl:(backTo pos (starEach es X.env)).any (·.1)=false:=by rfl) :
    QE X k (.Call (.Name x p) (e :: es) [] pos) (pB (wIsX K) ps):=by
  subst hK
  exact a'H j'a m'u hg hm hv ha hn hdb he hpl
theorem f'Y (K:PySem.W.Frag) (hK:X.K=K) {x:Str} {p:Pos} {e:Expr} {es:List Expr} {ps:PA'} (hg:Gl X x) (hm:X.mg x=none) (hv:bootBuiltins x=some (.builtin "isinstance")) (ha:QA X k (e :: es) ps) (hn:x≠"__name__":=by decide) (hdb:(x == ("__debug__":Str))=false:=by decide) (he:starEach (e :: es) X.env=(false,eval e X.env) :: starEach es X.env:=by rfl) (hpl:(backTo pos (starEach es X.env)).any (·.1)=false:=by rfl) :
    QE X k (.Call (.Name x p) (e :: es) [] pos) (pB (wIs K) ps):=by
  subst hK
  exact a'H i'U n'K hg hm hv ha hn hdb he hpl
end
end Pu
namespace Pu
open PySem L2 Vc Sf
mutual
def Cl:Tr→Bool
  | .tup xs => Cls' xs
  | .lst .f xs => Cls' xs
  | .dic .f xs => Clk xs
  | .ins .f _ xs => Clf xs
  | .lst _ _ => false
  | .dic _ _ => false
  | .ins _ _ _ => false
  | _ => true
def Cls':List Tr→Bool
  | [] => true | x :: xs => Cl x && Cls' xs
def Clk:List (Key×Tr)→Bool
  | [] => true | (_, x) :: xs => Cl x && Clk xs
def Clf:List (Str×Tr)→Bool
  | [] => true | (_, x) :: xs => Cl x && Clf xs
end
structure Clo (t:Tr):Prop where
  l:lend t=t
  f:frz t=t
  d:dn t=t
  o:nol t=true
  t:nlt t=true
structure Clos (t:List Tr):Prop where
  l:lends t=t
  f:frzs t=t
  d:dns t=t
  o:nols t=true
  t:nlts t=true
structure Clok (t:List (Key×Tr)):Prop where
  l:lendk t=t
  f:frzk t=t
  d:dnk t=t
  o:nolk t=true
  t:nltk t=true
structure Clof (t:List (Str×Tr)):Prop where
  l:lendf t=t
  f:frzf t=t
  d:dnf t=t
  o:nolf t=true
  t:nltf t=true
mutual
theorem clo:∀ (t:Tr),Cl t=true→Clo t
  | .int _, _ => ⟨rfl, rfl, rfl, rfl, rfl⟩
  | .bl _, _ => ⟨rfl, rfl, rfl, rfl, rfl⟩
  | .str _, _ => ⟨rfl, rfl, rfl, rfl, rfl⟩
  | .non, _ => ⟨rfl, rfl, rfl, rfl, rfl⟩
  | .hole, _ => ⟨rfl, rfl, rfl, rfl, rfl⟩
  | .ty _, _ => ⟨rfl, rfl, rfl, rfl, rfl⟩
  | .cl _, _ => ⟨rfl, rfl, rfl, rfl, rfl⟩
  | .exc _, _ => ⟨rfl, rfl, rfl, rfl, rfl⟩
  | .tup xs, h => have c := clos xs h; ⟨by show Tr.tup (lends xs) = _; rw [c.l], by show Tr.tup (frzs xs) = _; rw [c.f], by show Tr.tup (dns xs) = _; rw [c.d], c.o, c.t⟩
  | .lst .f xs, h => have c := clos xs h; ⟨rfl, rfl, by show Tr.lst .f (dns xs) = _; rw [c.d], c.o, c.t⟩
  | .dic .f xs, h => have c := clok xs h; ⟨rfl, rfl, by show Tr.dic .f (dnk xs) = _; rw [c.d], c.o, c.t⟩
  | .ins .f a xs, h => have c := clof xs h; ⟨rfl, rfl, by show Tr.ins .f a (dnf xs) = _; rw [c.d], c.o, c.t⟩
theorem clos:∀ (t:List Tr),Cls' t=true→Clos t
  | [], _ => ⟨rfl, rfl, rfl, rfl, rfl⟩
  | x :: xs, h => by
    have h:(Cl x && Cls' xs)=true:=h
    rw [Bool.and_eq_true] at h
    have a:=clo x h.1
    have b:=clos xs h.2
    exact⟨by show lend x :: lends xs=_;rw [a.l,b.l],by show frz x :: frzs xs=_;rw [a.f,b.f],by show dn x :: dns xs=_;rw [a.d,b.d],by show (nol x && nols xs)=_;rw [a.o,b.o];rfl,by show (nlt x && nlts xs)=_;rw [a.t,b.t];rfl⟩
theorem clok:∀ (t:List (Key×Tr)),Clk t=true→Clok t
  | [], _ => ⟨rfl, rfl, rfl, rfl, rfl⟩
  | (k, x) :: xs, h => by
    have h:(Cl x && Clk xs)=true:=h
    rw [Bool.and_eq_true] at h
    have a:=clo x h.1
    have b:=clok xs h.2
    exact⟨by show (k,lend x) :: lendk xs=_;rw [a.l,b.l],by show (k,frz x) :: frzk xs=_;rw [a.f,b.f],by show (k,dn x) :: dnk xs=_;rw [a.d,b.d],by show (nol x && nolk xs)=_;rw [a.o,b.o];rfl,by show (nlt x && nltk xs)=_;rw [a.t,b.t];rfl⟩
theorem clof:∀ (t:List (Str×Tr)),Clf t=true→Clof t
  | [], _ => ⟨rfl, rfl, rfl, rfl, rfl⟩
  | (k, x) :: xs, h => by
    have h:(Cl x && Clf xs)=true:=h
    rw [Bool.and_eq_true] at h
    have a:=clo x h.1
    have b:=clof xs h.2
    exact⟨by show (k,lend x) :: lendf xs=_;rw [a.l,b.l],by show (k,frz x) :: frzf xs=_;rw [a.f,b.f],by show (k,dn x) :: dnf xs=_;rw [a.d,b.d],by show (nol x && nolf xs)=_;rw [a.o,b.o];rfl,by show (nlt x && nltf xs)=_;rw [a.t,b.t];rfl⟩
end
class Enc (α:Type) where
  t:α→Tr
  c:∀ a,Cl (t a)=true
  h:∀ a,t a≠.hole
theorem b'q {α:Type} [Enc α]:∀ xs:List α,Cls' (xs.map Enc.t)=true
  | [] => rfl
  | x :: xs => by show (Cl (Enc.t x) && Cls' (xs.map Enc.t)) = true; rw [Enc.c x, b'q xs]; rfl
theorem a'Q {α:Type} [Enc α]:∀ xs:List (Key×α),Clk (xs.map fun p=>(p.1,Enc.t p.2))=true
  | [] => rfl
  | x :: xs => by show (Cl (Enc.t x.2) && Clk (xs.map fun p => (p.1, Enc.t p.2))) = true; rw [Enc.c x.2, a'Q xs]; rfl
instance:Enc Int:=⟨.int,fun _=>rfl,fun _ z=>by cases z⟩
instance:Enc Str:=⟨.str,fun _=>rfl,fun _ z=>by cases z⟩
instance:Enc Bool:=⟨.bl,fun _=>rfl,fun _ z=>by cases z⟩
instance:Enc Rat:=⟨fun q=>.tup [.int q.num,.int (q.den:Int)],fun _=>rfl,fun _ z=>by cases z⟩
instance {α:Type} [Enc α]:Enc (List α):=⟨fun xs=>.lst .f (xs.map Enc.t),fun xs=>b'q xs,fun _ z=>by cases z⟩
instance {α β:Type} [Enc α] [Enc β]:Enc (α ⊕ β):=⟨fun x=>match x with | .inl a=>Enc.t a | .inr b=>Enc.t b,fun x=>by cases x<;>exact Enc.c _,fun x=>by cases x<;>exact Enc.h _⟩
instance {α β:Type} [Enc α] [Enc β]:Enc (α×β):=⟨fun x=>.tup [Enc.t x.1,Enc.t x.2],fun x=>by show (Cl _ && (Cl _ && true))=true;rw [Enc.c,Enc.c];rfl,fun _ z=>by cases z⟩
section
variable {α β:Type} [Enc α] [Enc β] (a:α) (xs:List α)
@[simp] theorem j'Q (n:Int):Enc.t n=.int n:=rfl
@[simp] theorem j'R (n:Str):Enc.t n=.str n:=rfl
@[simp] theorem n'W (n:Bool):Enc.t n=.bl n:=rfl
theorem p'm (q:Rat):Enc.t q=.tup [.int q.num,.int (q.den:Int)]:=rfl
theorem e_l:lend (Enc.t a)=Enc.t a:=(clo _ (Enc.c a)).l
theorem e_f:frz (Enc.t a)=Enc.t a:=(clo _ (Enc.c a)).f
theorem e_d:dn (Enc.t a)=Enc.t a:=(clo _ (Enc.c a)).d
theorem e_o:nol (Enc.t a)=true:=(clo _ (Enc.c a)).o
theorem e_t:nlt (Enc.t a)=true:=(clo _ (Enc.c a)).t
theorem n'X:lends (xs.map Enc.t)=xs.map Enc.t:=(clos _ (b'q xs)).l
theorem n'Y:frzs (xs.map Enc.t)=xs.map Enc.t:=(clos _ (b'q xs)).f
theorem n'Z:dns (xs.map Enc.t)=xs.map Enc.t:=(clos _ (b'q xs)).d
theorem o'a:nols (xs.map Enc.t)=true:=(clos _ (b'q xs)).o
theorem j'r:nlts (xs.map Enc.t)=true:=(clos _ (b'q xs)).t
end
class inductive Fp:Fl→Prop where
  | f : Fp .f
  | l : Fp (.l false)
instance:Fp .f:=.f
instance:Fp (.l false):=.l
section
variable {f:Fl} [h:Fp f]
theorem j'S {xs:List Tr}:lend (.lst f xs)=.lst f xs:=by cases h<;>rfl
theorem h'f {xs:List Tr}:frz (.lst f xs)=.lst f xs:=by cases h<;>rfl
theorem h'g {xs:List Tr}:dn (.lst f xs)=.lst f (dns xs):=by cases h<;>rfl
theorem h'h {α:Type} [Enc α] {xs:List α}:nlt (.lst f (xs.map Enc.t))=true:=by cases h<;>first | exact j'r xs | rfl
theorem f'Z {xs:List (Key×Tr)}:lend (.dic f xs)=.dic f xs:=by cases h<;>rfl
theorem d'B {xs:List (Key×Tr)}:frz (.dic f xs)=.dic f xs:=by cases h<;>rfl
theorem d'C {xs:List (Key×Tr)}:dn (.dic f xs)=.dic f (dnk xs):=by cases h<;>rfl
theorem d'D {α:Type} [Enc α] {xs:List (Key×α)}:nlt (.dic f (xs.map fun p=>(p.1,Enc.t p.2)))=true:=by cases h<;>first | exact (clok _ (a'Q xs)).t | rfl
end
section
variable {α:Type} [Enc α] {xs:List (Key×α)}
theorem j's:lendk (xs.map fun p=>(p.1,Enc.t p.2))=xs.map fun p=>(p.1,Enc.t p.2):=(clok _ (a'Q xs)).l
theorem j't:frzk (xs.map fun p=>(p.1,Enc.t p.2))=xs.map fun p=>(p.1,Enc.t p.2):=(clok _ (a'Q xs)).f
theorem g'a:dnk (xs.map fun p=>(p.1,Enc.t p.2))=xs.map fun p=>(p.1,Enc.t p.2):=(clok _ (a'Q xs)).d
theorem o'b:nolk (xs.map fun p=>(p.1,Enc.t p.2))=true:=(clok _ (a'Q xs)).o
theorem o'c:nltk (xs.map fun p=>(p.1,Enc.t p.2))=true:=(clok _ (a'Q xs)).t
end
section
variable {K:PySem.W.Frag} {k:Md}
def pCallF (psp:PSp) (pa:PA'):PE':=fun ρ Q=>pa ρ fun ts=>psp (dns (frzs ts)) fun t _=>Q t
def pCallFX (q:Value→Prop) (psp:PSpX) (pa:PA'):PE':=fun ρ Q=>pa ρ fun ts=>psp (dns (frzs ts)) (fun t _=>Q t) q
def pFrzA (pa:PA'):PA':=fun ρ Q=>pa ρ fun ts=>Q (frzs ts)
theorem j'u {ta:TA} {pa:PA'} (h:SimA K k ta pa):SimA K k ta (pFrzA pa):=fun F B H σ ρ Q Q' c p q=>by
  refine h F B H σ ρ _ _ c p fun ts vs F1 H1 c1 p1 o1=>?_
  obtain⟨F2,g2,r2⟩:=o1.held
  exact q _ vs F2 H1 [] p1 ⟨g2,r2,.nil,.nil⟩
theorem QA.frz {X:Cx} {es:List Expr} {pa:PA'} (h:QA X k es pa):QA X k es (pFrzA pa):=by
  obtain⟨ta,h1,h2⟩:=h.h
  exact⟨ta,h1,j'u h2⟩
end
end Pu
namespace Pu
open PySem L2 Vc Sf
theorem at0 {α:Type} (x:α) (xs:List α):atI (x :: xs) 0=some x:=by unfold atI ixN;simp
theorem at1 {α:Type} (x y:α) (xs:List α):atI (x :: y :: xs) 1=some y:=by unfold atI ixN;rw [if_pos (by omega),if_pos (by simp only [List.length_cons];omega)];rfl
theorem at2 {α:Type} (x y z:α) (xs:List α):atI (x :: y :: z :: xs) 2=some z:=by unfold atI ixN;rw [if_pos (by omega),if_pos (by simp only [List.length_cons];omega)];rfl
theorem at3 {α:Type} (x y z a:α) (xs:List α):atI (x :: y :: z :: a :: xs) 3=some a:=by unfold atI ixN;rw [if_pos (by omega),if_pos (by simp only [List.length_cons];omega)];rfl
theorem at4 {α:Type} (x y z a b:α) (xs:List α):atI (x :: y :: z :: a :: b :: xs) 4=some b:=by unfold atI ixN;rw [if_pos (by omega),if_pos (by simp only [List.length_cons];omega)];rfl
def spec (n:Nat) (g:List Tr→(Tr→Prop)→Prop):PSp:=fun xs Q=>xs.length=n∧g xs fun t=>∀ ρ,Q t ρ
def g_gd:PSp:=spec 2 fun xs Q=>∃ a b,xs=[.int a,.int b]∧0≤a∧0≤b∧Q (.int (gd a b))
def g_part:PSp:=spec 2 fun xs Q=>∃ a b,xs=[.int a,.int b]∧b≠0∧bi b≤7990∧Q (Enc.t (Rat.divInt a b))
theorem j'T {a b:Int} {k:Nat} (hb:b≠0) (h:bi b≤k):bi (gd a b)≤k:=by
  refine o'U ?_
  have h1:=b'R h
  have h2:(gd a b).natAbs≤b.natAbs:=Nat.le_of_dvd (by omega) (Int.natAbs_dvd_natAbs.mpr (c'b a b))
  omega
theorem b'V {a b x:Int} (hb:b≠0) (h:bi b≤7990):CDivB x (gd a b):=⟨by have:=b'k (a:=a) hb;omega,b'R (Nat.le_trans (j'T hb h) (show 7990≤8000 by omega))⟩
theorem d'E {a b x:Int} (hb:b≠0) (h:bi b≤7990):CDivB x (-gd a b):=⟨by have:=b'k (a:=a) hb;omega,by rw [Int.natAbs_neg];exact b'R (Nat.le_trans (j'T hb h) (show 7990≤8000 by omega))⟩
theorem e'B {α β:Type} [Enc α] [Enc β] (ws:List α) (ns:List β):(ws.map Enc.t).zipWith (fun x y=>Tr.tup [x,y]) (ns.map Enc.t)=(ws.zip ns).map fun p=>Tr.tup [Enc.t p.1,Enc.t p.2]:=by
  rw [List.zipWith_map,List.zip_eq_zipWith,List.map_zipWith]
theorem e'C {α:Type} [Enc α] (ws:List α):(ws.map Enc.t).mapIdx (fun i x=>Tr.tup [.int i,x])=ws.zipIdx.map fun p=>Tr.tup [.int p.2,Enc.t p.1]:=by
  apply List.ext_getElem?
  intro i
  rw [List.getElem?_mapIdx,List.getElem?_map,List.getElem?_map,List.getElem?_zipIdx]
  cases ws[i]?<;>simp
end Pu
namespace Pu
open PySem L2 Vc Sf
theorem o'd (t:Tr) (ρ':List Tr) (Q:Tr→Prop):pC t ρ' Q=(Q t):=rfl
theorem o'e (pr:Tr→Tr→(Tr→Prop)→Prop) (pa pb:PE') (ρ:List Tr) (Q:Tr→Prop):p2 pr pa pb ρ Q=(pa ρ fun x=>pb ρ fun y=>pr x y Q):=rfl
theorem o'f (pr:Tr→(Tr→Prop)→Prop) (pa:PE') (ρ:List Tr) (Q:Tr→Prop):Pu.p1 pr pa ρ Q=(pa ρ fun x=>pr x Q):=rfl
theorem h'i  (ρ':List Tr) (Q:List Tr→Prop):pNil ρ' Q=(Q []):=rfl
theorem e'D (pe:PE') (pa:PA') (ρ:List Tr) (Q:List Tr→Prop):pCons pe pa ρ Q=(pe ρ fun x=>pa ρ fun xs=>Q (x :: xs)):=rfl
theorem h'j (pa:PA') (ρ:List Tr) (Q:Tr→Prop):pTup pa ρ Q=(pa ρ fun xs=>xs.length≤10000∧Q (.tup xs)):=rfl
theorem h'k (pa:PA') (ρ:List Tr) (Q:Tr→Prop):pLst pa ρ Q=(pa ρ fun xs=>xs.length≤10000∧Q (.lst .o xs)):=rfl
theorem o'g (pe:PE') (ρ:List Tr) (Q:Bool→Prop):pT pe ρ Q=(pe ρ fun x=>wBl x Q):=rfl
theorem h'l (pa pb:PB') (ρ:List Tr) (Q:Bool→Prop):pAnd pa pb ρ Q=(pa ρ fun c=>if c=true then pb ρ Q else Q false):=rfl
theorem j'U (pa pb:PB') (ρ:List Tr) (Q:Bool→Prop):pOr pa pb ρ Q=(pa ρ fun c=>if c=true then Q true else pb ρ Q):=rfl
theorem h'm (pa:PB') (ρ:List Tr) (Q:Bool→Prop):pNot pa ρ Q=(pa ρ fun c=>Q (!c)):=rfl
theorem e'E (pa pb:PE') (ρ:List Tr) (Q:Tr→Prop):pAndV pa pb ρ Q=(pa ρ fun x=>wBl x fun c=>if c=true then pb ρ Q else Q (.bl false)):=rfl
theorem h'n (pa pb:PE') (ρ:List Tr) (Q:Tr→Prop):pOrV pa pb ρ Q=(pa ρ fun x=>wBl x fun c=>if c=true then Q (.bl true) else pb ρ Q):=rfl
theorem e'F (pa:PE') (ρ:List Tr) (Q:Tr→Prop):pNotV pa ρ Q=(pa ρ fun x=>wBl x fun c=>Q (.bl (!c))):=rfl
theorem j'V (pc:PB') (pa pb:PE') (ρ:List Tr) (Q:Tr→Prop):pIf pc pa pb ρ Q=(pc ρ fun c=>if c=true then pa ρ Q else pb ρ Q):=rfl
theorem h'o (p q:PS') (D:Pd) (ρ:List Tr):pSeq p q D ρ=(p { D with nx:=q D } ρ):=rfl
theorem e'G  (D:Pd) (ρ:List Tr):pNext D ρ=(D.nx ρ):=rfl
theorem h'p  (D:Pd) (ρ:List Tr):pBrk D ρ=(D.bk ρ):=rfl
theorem h'q  (D:Pd) (ρ:List Tr):pCnt D ρ=(D.ct ρ):=rfl
theorem h'r (i:Nat) (pe:PE') (D:Pd) (ρ:List Tr):pAsg i pe D ρ=(pe (ρ.map lend) fun t=>nlt t=true∧D.nx (ρ.set i t)):=rfl
theorem e'H (pe:PE') (D:Pd) (ρ:List Tr):pDrop pe D ρ=(pe (ρ.map lend) fun _=>D.nx ρ):=rfl
theorem h's (pe:PE') (D:Pd) (ρ:List Tr):pRet pe D ρ=(pe (ρ.map lend) fun t=>nol t=true∧D.rt t ρ):=rfl
theorem o'h (pc:PB') (p q:PS') (D:Pd) (ρ:List Tr):pIfS pc p q D ρ=(pc (ρ.map lend) fun b=>if b=true then p D ρ else q D ρ):=rfl
theorem d'F (q:Value→Prop) (psp:PSpX) (pa:PA') (ρ:List Tr) (Q:Tr→Prop):pCallX q psp pa ρ Q=(pa ρ fun ts=>psp (dns ts) (fun t _=>Q t) q):=rfl
theorem e'I (psp:PSp) (pa:PA') (ρ:List Tr) (Q:Tr→Prop):pCall psp pa ρ Q=(pa ρ fun ts=>psp (dns ts) fun t _=>Q t):=rfl
theorem o'i (pr:List Tr→(Tr→Prop)→Prop) (pa:PA') (ρ:List Tr) (Q:Tr→Prop):pB pr pa ρ Q=(pa ρ fun ts=>pr ts Q):=rfl
theorem d'G  (D':Pd) (ρ':List Tr):pNever D' ρ'=(False):=rfl
theorem e'J (i:Nat) (pe:PE') (D:Pd) (ρ:List Tr):pAsgF i pe D ρ=(pe (ρ.map lend) fun t=>nlt t=true∧D.nx (ρ.set i (frz t))):=rfl
theorem j'W (i:Nat) (t:Tr) (ρ:List Tr) (Q:List Tr→Prop):pgN i t ρ Q=(Q (ρ.set i t)):=rfl
theorem d'H  (ts:List Tr) (ρ:List Tr) (Q:List Tr→Prop):pgsNil ts ρ Q=(match ts with | []=>Q ρ | _=>False):=rfl
theorem c'Q (pg:PG') (pr:List Tr→List Tr→(List Tr→Prop)→Prop) (ts:List Tr) (ρ:List Tr) (Q:List Tr→Prop):pgsCons pg pr ts ρ Q=(match ts with | t :: r=>pg t ρ fun ρ'=>pr r ρ' Q | []=>False):=rfl
theorem j'X (n:Nat) (pr:List Tr→List Tr→(List Tr→Prop)→Prop) (t:Tr) (ρ:List Tr) (Q:List Tr→Prop):pgT n pr t ρ Q=(match t with | .tup ts=>ts.length=n∧pr ts ρ Q | _=>False):=rfl
theorem h't (pe:PE') (pg:PG') (D:Pd) (ρ:List Tr):pUnp pe pg D ρ=(pe (ρ.map lend) fun t=>nlt t=true∧pg (frz t) ρ D.nx):=rfl
theorem h'u (i j:Nat) (pa:PA') (D:Pd) (ρ:List Tr):pPar i j pa D ρ=(pa (ρ.map lend) fun ts=>match ts with | [a,b]=>nlt a=true∧nlt b=true∧D.nx ((ρ.set i (frz a)).set j (frz b)) | _=>False):=rfl
theorem j'Y (pe:PE') (ρ:List Tr) (Q:List Tr→Bool→Prop):piL pe ρ Q=(pe ρ fun t=>wLst (frz t) fun xs=>Q xs (nlt (frz t))):=rfl
theorem j'Z (pe:PE') (ρ:List Tr) (Q:List Tr→Bool→Prop):piT pe ρ Q=(pe ρ fun t=>wTp (frz t) fun xs=>Q xs (nlt (frz t))):=rfl
theorem k'a (pa:PA') (ρ:List Tr) (Q:List Tr→Bool→Prop):piE pa ρ Q=(pa ρ fun ts=>wOne ts fun t=>wLst (frz t) fun xs=>Q (xs.mapIdx fun i x=>.tup [.int i,x]) (nlt (frz t))):=rfl
theorem k'b (pa:PA') (ρ:List Tr) (Q:List Tr→Bool→Prop):piV pa ρ Q=(pa ρ fun ts=>wOne ts fun t=>wLst (frz t) fun xs=>Q xs.reverse (nlt (frz t))):=rfl
theorem k'c (pa:PA') (ρ:List Tr) (Q:List Tr→Bool→Prop):piZ pa ρ Q=(pa ρ fun ts=>wTwo ts fun t u=>wLst (frz t) fun xs=>wLst (frz u) fun ys=>Q (xs.zipWith (fun x y=>.tup [x,y]) ys) (nlt (frz t) && nlt (frz u))):=rfl
theorem h'v (pa:PA') (ρ:List Tr) (Q:List Tr→Bool→Prop):piR1 pa ρ Q=(pa ρ fun ts=>wInt1 ts fun j=>-1000000≤j∧j≤1000000∧Q ((List.range j.toNat).map fun (i:Nat)=>.int i) true):=rfl
theorem h'w (pa:PA') (ρ:List Tr) (Q:List Tr→Bool→Prop):piR2 pa ρ Q=(pa ρ fun ts=>wInt2s ts fun i j=>(-1000000≤i∧i≤1000000∧-1000000≤j∧j≤1000000)∧Q ((List.range (j - i).toNat).map fun (n:Nat)=>.int (i+n)) true):=rfl
theorem h'x (K:PySem.W.Frag) (i:Nat) (r:List Str) (pe:PE') (D:Pd) (ρ:List Tr):pApp K i r pe D ρ=(wPl K ρ i r fun u s=>wOwnL u fun xs=>pe (ρ.map lend) fun t=>nlt t=true∧xs.length<1000000∧D.nx (s (.lst .o (xs++[frz t])))):=rfl
theorem e'K (K:PySem.W.Frag) (i:Nat) (r:List Str) (pj pe:PE') (D:Pd) (ρ:List Tr):pSetL K i r pj pe D ρ=(pe (ρ.map lend) fun t=>nlt t=true∧wPl K ρ i r fun u s=>wOwnL u fun xs=>pj (ρ.map lend) fun y=>wSetL xs y (frz t) fun xs'=>D.nx (s (.lst .o xs'))):=rfl
theorem h'y (K:PySem.W.Frag) (i:Nat) (r:List Str) (pj pe:PE') (D:Pd) (ρ:List Tr):pPut K i r pj pe D ρ=(pe (ρ.map lend) fun t=>nlt t=true∧wPl K ρ i r fun u s=>wOwnD u fun m=>pj (ρ.map lend) fun y=>wKey y fun y=>m.length<1000000∧D.nx (s (.dic .o (putT m y (frz t))))):=rfl
theorem e'L  (ρ':List Tr) (Q:Tr→Prop):pDnew ρ' Q=(Q (.dic .o [])):=rfl
theorem e'M (K:PySem.W.Frag) (i:Nat) (r:List Str) (f:Str) (pe:PE') (D:Pd) (ρ:List Tr):pFldS K i r f pe D ρ=(pe (ρ.map lend) fun t=>nlt t=true∧wPl K ρ i r fun u s=>wOwnI K f u fun c fs=>D.nx (s (.ins .o c (putf f t fs)))):=rfl
theorem k'd  (ρ':List Tr) (Q:Option Int→Prop):poN ρ' Q=(Q none):=rfl
theorem k'e (pe:PE') (ρ:List Tr) (Q:Option Int→Prop):poS pe ρ Q=(pe ρ fun x=>match x with | .int i=>Q (some i) | _=>False):=rfl
theorem k'f (pe:PE') (pl ph:PO') (ρ:List Tr) (Q:Tr→Prop):pSl pe pl ph ρ Q=(pe ρ fun x=>pl ρ fun l=>ph ρ fun h=>wSl x l h Q):=rfl
theorem h'z  (ρ':List Tr) (Q:Bool→Prop):pYes ρ' Q=(Q true):=rfl
theorem d'I (q:Value→Prop) (C:Addr) (pe:PE') (D':Pd) (ρ:List Tr):pRaise q C pe D' ρ=(pe (ρ.map lend) fun _=>q (.ref C)):=rfl
theorem h'A (K:PySem.W.Frag) (C:Addr) (pS:PE'→PS') (pe:(Value→Prop)→PE') (ph:PS') (D:Pd) (ρ:List Tr):pTry K C pS pe ph D ρ=(pS (pe fun cls=>catT K C cls∧ph D ρ) D ρ):=rfl
theorem d'J (K:PySem.W.Frag) (C:Addr) (i:Nat) (pS:PE'→PS') (pe:(Value→Prop)→PE') (ph:PS') (D:Pd) (ρ:List Tr):pTryAs K C i pS pe ph D ρ=(pS (pe fun cls=>catT K C cls∧∃ B,cls=.ref B∧ph (D.less i) (ρ.set i (.exc B))) D ρ):=rfl
theorem e'N (ps:List (PE'×PE')) (ρ:List Tr) (Q:Tr→Prop):pDisp ps ρ Q=(pPairs ps ρ fun m=>(m.map (·.1)).Nodup∧Q (.dic .o m)):=rfl
theorem d'K (psp:PSp) (pa:PA') (ρ:List Tr) (Q:Tr→Prop):pCallF psp pa ρ Q=(pa ρ fun ts=>psp (dns (frzs ts)) fun t _=>Q t):=rfl
theorem c'R (q:Value→Prop) (psp:PSpX) (pa:PA') (ρ:List Tr) (Q:Tr→Prop):pCallFX q psp pa ρ Q=(pa ρ fun ts=>psp (dns (frzs ts)) (fun t _=>Q t) q):=rfl
theorem e'O (pa:PA') (ρ:List Tr) (Q:List Tr→Prop):pFrzA pa ρ Q=(pa ρ fun ts=>Q (frzs ts)):=rfl
theorem e'P (n:Int):lend (.int n)=(.int n):=rfl
theorem h'B (n:Bool):lend (.bl n)=(.bl n):=rfl
theorem e'Q (n:Str):lend (.str n)=(.str n):=rfl
theorem e'R :lend .non=.non:=rfl
theorem d'L :lend .hole=.hole:=rfl
theorem h'C (n:String):lend (.ty n)=(.ty n):=rfl
theorem h'D (n:Addr):lend (.cl n)=(.cl n):=rfl
theorem e'S (n:Addr):lend (.exc n)=(.exc n):=rfl
theorem e'T (n:Int):Pu.frz (.int n)=(.int n):=rfl
theorem h'E (n:Bool):Pu.frz (.bl n)=(.bl n):=rfl
theorem e'U (n:Str):Pu.frz (.str n)=(.str n):=rfl
theorem e'V :Pu.frz .non=.non:=rfl
theorem d'M :Pu.frz .hole=.hole:=rfl
theorem h'F (n:String):Pu.frz (.ty n)=(.ty n):=rfl
theorem h'G (n:Addr):Pu.frz (.cl n)=(.cl n):=rfl
theorem e'W (n:Addr):Pu.frz (.exc n)=(.exc n):=rfl
theorem e'X (n:Int):dn (.int n)=(.int n):=rfl
theorem h'H (n:Bool):dn (.bl n)=(.bl n):=rfl
theorem e'Y (n:Str):dn (.str n)=(.str n):=rfl
theorem e'Z :dn .non=.non:=rfl
theorem d'N :dn .hole=.hole:=rfl
theorem h'I (n:String):dn (.ty n)=(.ty n):=rfl
theorem h'J (n:Addr):dn (.cl n)=(.cl n):=rfl
theorem f'a (n:Addr):dn (.exc n)=(.exc n):=rfl
theorem f'b (n:Int):nol (.int n)=true:=rfl
theorem h'K (n:Bool):nol (.bl n)=true:=rfl
theorem f'c (n:Str):nol (.str n)=true:=rfl
theorem f'd :nol .non=true:=rfl
theorem d'O :nol .hole=true:=rfl
theorem h'L (n:String):nol (.ty n)=true:=rfl
theorem h'M (n:Addr):nol (.cl n)=true:=rfl
theorem f'e (n:Addr):nol (.exc n)=true:=rfl
theorem f'f (n:Int):nlt (.int n)=true:=rfl
theorem h'N (n:Bool):nlt (.bl n)=true:=rfl
theorem f'g (n:Str):nlt (.str n)=true:=rfl
theorem f'h :nlt .non=true:=rfl
theorem d'P :nlt .hole=true:=rfl
theorem h'O (n:String):nlt (.ty n)=true:=rfl
theorem h'P (n:Addr):nlt (.cl n)=true:=rfl
theorem f'i (n:Addr):nlt (.exc n)=true:=rfl
theorem f'j (xs:List Tr):lend (.tup xs)=.tup (lends xs):=rfl
theorem f'k (xs:List Tr):Pu.frz (.tup xs)=.tup (frzs xs):=rfl
theorem f'l (xs:List Tr):dn (.tup xs)=.tup (dns xs):=rfl
theorem f'm (xs:List Tr):nol (.tup xs)=nols xs:=rfl
theorem f'n (xs:List Tr):nlt (.tup xs)=nlts xs:=rfl
theorem f'o (xs:List Tr):lend (.lst .o xs)=.lst (.l true) (lends xs):=rfl
theorem f'p (xs:List Tr):Pu.frz (.lst .o xs)=.lst .f (frzs xs):=rfl
theorem f'q (xs:List Tr):dn (.lst (.l true) xs)=.lst (.l false) (dns xs):=rfl
theorem h'Q (b:Bool) (xs:List Tr):Pu.frz (.lst (.l b) xs)=.lst (.l b) xs:=rfl
theorem h'R (b:Bool) (xs:List Tr):lend (.lst (.l b) xs)=.lst (.l b) xs:=rfl
theorem f'r (xs:List Tr):nol (.lst .o xs)=nols xs:=rfl
theorem f's (xs:List Tr):nlt (.lst .o xs)=nlts xs:=rfl
theorem k'g (xs:List Tr):nol (.lst .f xs)=nols xs:=rfl
theorem f't (xs:List (Key×Tr)):lend (.dic .o xs)=.dic (.l true) (lendk xs):=rfl
theorem f'u (xs:List (Key×Tr)):Pu.frz (.dic .o xs)=.dic .f (frzk xs):=rfl
theorem f'v (xs:List (Key×Tr)):dn (.dic (.l true) xs)=.dic (.l false) (dnk xs):=rfl
theorem f'w (xs:List (Key×Tr)):nol (.dic .o xs)=nolk xs:=rfl
theorem f'x (xs:List (Key×Tr)):nlt (.dic .o xs)=nltk xs:=rfl
def Loop (ts:List Tr) (pg:PG') (pb:PS') (D:Pd) (ρ:List Tr):Prop:=∃ I:Nat→List Tr→Prop,I 0 ρ∧(∀ i t ρ,ts[i]?=some t→I i ρ→pg t ρ fun ρ'=>pb { D with nx:=I (i+1),ct:=I (i+1),bk:=D.nx } ρ')∧∀ ρ,I ts.length ρ→D.nx ρ
theorem h'S (pi:PI') (pg:PG') (pb:PS') (D:Pd) (ρ:List Tr):pFor pi pg pb D ρ=(pi (ρ.map lend) fun ts nl=>nl=true∧Loop ts pg pb D ρ):=rfl
theorem Loop.map {γ:Type} (ys:List γ) (g:γ→Tr) {D:Pd} {pg:PG'} {pb:PS'} {ρ:List Tr} (J:Nat→List Tr→Prop) (h0:J 0 ρ) (step:∀ i y ρ,ys[i]?=some y→J i ρ→pg (g y) ρ fun ρ'=>pb { D with nx:=J (i+1),ct:=J (i+1),bk:=D.nx } ρ') (fin:∀ ρ,J ys.length ρ→D.nx ρ):Loop (ys.map g) pg pb D ρ:=by
  refine⟨J,h0,fun i t ρ h j=>?_,fun ρ h=>fin ρ (by rw [List.length_map] at h;exact h)⟩
  rw [List.getElem?_map] at h
  cases e:ys[i]? with
  | none => rw [e] at h; cases h
  | some y => rw [e] at h; cases h; exact step i y ρ e j
def pV (o:Option Tr) (Q:Tr→Prop):Prop:=match o with | some .hole=>False | some t=>Q t | none=>False
theorem h'T (i:Nat) (ρ:List Tr) (Q:Tr→Prop):pVar i ρ Q=pV ρ[i]? Q:=rfl
theorem k'h {α:Type} [Enc α] (a:α) (Q:Tr→Prop):pV (some (Enc.t a)) Q=Q (Enc.t a):=by
  have h:=Enc.h a
  generalize Enc.t a=t at h
  cases t with
  | hole => exact absurd rfl h
  | _ => rfl
theorem k'i (n:Int) (Q:Tr→Prop):pV (some (.int n)) Q=Q (.int n):=rfl
theorem o'j (n:Bool) (Q:Tr→Prop):pV (some (.bl n)) Q=Q (.bl n):=rfl
theorem k'j (n:Str) (Q:Tr→Prop):pV (some (.str n)) Q=Q (.str n):=rfl
theorem k'k (Q:Tr→Prop):pV (some .non) Q=Q .non:=rfl
theorem k'l (n:Addr) (Q:Tr→Prop):pV (some (.exc n)) Q=Q (.exc n):=rfl
theorem k'm (xs:List Tr) (Q:Tr→Prop):pV (some (.tup xs)) Q=Q (.tup xs):=rfl
theorem k'n (f:Fl) (xs:List Tr) (Q:Tr→Prop):pV (some (.lst f xs)) Q=Q (.lst f xs):=rfl
theorem k'o (f:Fl) (xs:List (Key×Tr)) (Q:Tr→Prop):pV (some (.dic f xs)) Q=Q (.dic f xs):=rfl
theorem k'p (f:Fl) (c:Addr) (xs:List (Str×Tr)) (Q:Tr→Prop):pV (some (.ins f c xs)) Q=Q (.ins f c xs):=rfl
theorem d'Q (q:Rat) (Q:Tr→Prop):wIdx (Enc.t q) (.int 0) Q=Q (.int q.num):=rfl
theorem d'R (q:Rat) (Q:Tr→Prop):wIdx (Enc.t q) (.int 1) Q=Q (.int (q.den:Int)):=rfl
theorem h'U:Tr.tup [.int 0,.int 1]=Enc.t (0:Rat):=rfl
theorem k'q:Tr.tup [.int 1,.int 1]=Enc.t (1:Rat):=rfl
end Pu
namespace Pu
open PySem L2 Vc Sf
def CLoop (ts:List Tr) (pg:PG') (pt:PB') (pe:PE') (σ':List Tr) (Q:Tr→Prop):Prop:=∃ I:Nat→List Tr→Prop,I 0 []∧
  (∀ i t acc,ts[i]?=some t→I i acc→pg t σ' fun ρ2=>pt ρ2 fun b=>if b=true then pe ρ2 fun x=>acc.length<1000000∧I (i+1) (acc++[x]) else I (i+1) acc)∧∀ acc,I ts.length acc→acc.length≤1000000∧Q (.lst .o acc)
theorem f'y (pi:PI') (pg:PG') (pt:PB') (pe:PE') (ix:List (Option Nat)) (ρ:List Tr) (Q:Tr→Prop):pComp pi pg pt pe ix ρ Q=(pi ρ fun ts _=>CLoop ts pg pt pe (pickT ix ρ) Q):=rfl
theorem CLoop.mapT {γ:Type} (ys:List γ) (g:γ→Tr) (h:γ→Tr) {pg:PG'} {pe:PE'} {σ':List Tr} {Q:Tr→Prop} (hl:ys.length≤1000000) (step:∀ y∈ys,∀ R:Tr→Prop,R (h y)→pg (g y) σ' fun ρ2=>pe ρ2 R) (q:Q (.lst .o (ys.map h))):CLoop (ys.map g) pg pYes pe σ' Q:=by
  refine⟨fun i acc=>acc=(ys.take i).map h,rfl,fun i t acc e a=>?_,fun acc a=>?_⟩
  · rw [List.getElem?_map] at e
    cases e':ys[i]? with
    | none=>rw [e'] at e;cases e
    | some y=>
      rw [e'] at e
      cases e
      have l:=(List.getElem?_eq_some_iff.mp e').1
      refine step y (List.mem_of_getElem? e') _ ⟨?_,?_⟩
      · rw [a,List.length_map,List.length_take];omega
      · show acc++[h y]=(ys.take (i+1)).map h
        rw [a,List.take_add_one,e',List.map_append];rfl
  · rw [List.length_map,List.take_length] at a
    rw [a,List.length_map]
    exact⟨hl,q⟩
theorem CLoop.map {γ β:Type} [Enc β] (ys:List γ) (g:γ→Tr) (h:γ→β) {pg:PG'} {pe:PE'} {σ':List Tr} {Q:Tr→Prop} (hl:ys.length≤1000000) (step:∀ y∈ys,∀ R:Tr→Prop,R (Enc.t (h y))→pg (g y) σ' fun ρ2=>pe ρ2 R) (q:Q (.lst .o ((ys.map h).map Enc.t))):CLoop (ys.map g) pg pYes pe σ' Q:=
  CLoop.mapT ys g (fun y=>Enc.t (h y)) hl step (by rw [List.map_map] at q;exact q)
def dicS {α:Type} [Enc α] (f:Fl) (m:List (Str×α)):Tr:=.dic f (m.map fun p=>(Sum.inr p.1,Enc.t p.2))
theorem a'V {α:Type} [Enc α] (m:List (Str×α)):(m.map fun p=>((Sum.inr p.1:Key),Enc.t p.2))=(m.map fun p=>((Sum.inr p.1:Key),p.2)).map fun p=>(p.1,Enc.t p.2):=by rw [List.map_map];rfl
theorem f'z {α:Type} [Enc α] (m:List (Str×α)):Cl (dicS .f m)=true:=by
  show Clk (m.map fun p=>((Sum.inr p.1:Key),Enc.t p.2))=true
  rw [a'V];exact a'Q _
theorem d'S {α:Type} [Enc α] (m:List (Str×α)) (x:Str):look (m.map fun p=>((Sum.inr p.1:Key),Enc.t p.2)) (Sum.inr x)=(gtd m x).map Enc.t:=by
  unfold look gtd
  induction m with
  | nil => rfl
  | cons p m ih =>
    rw [List.map_cons,List.find?_cons,List.find?_cons]
    by_cases h:p.1=x
    · rw [decide_eq_true (by rw [h]),decide_eq_true h];rfl
    · rw [decide_eq_false (fun z=>h (Sum.inr.inj z)),decide_eq_false h];exact ih
theorem k'r {α:Type} [Enc α] (f:Fl) (m:List (Str×α)) (x:Str) (d:α) (Q:Tr→Prop):wGet2 (dicS f m) (.str x) (Enc.t d) Q=Q (Enc.t ((gtd m x).getD d)):=by
  show Q ((look (m.map fun p=>((Sum.inr p.1:Key),Enc.t p.2)) (Sum.inr x)).getD (Enc.t d))=_
  rw [d'S]
  cases gtd m x<;>rfl
def isDic (x:Tr):Prop:=match x with | .dic _ _=>True | _=>False
theorem o'k (pr:Tr→Tr→Tr→(Tr→Prop)→Prop) (pa pb pc:PE') (ρ:List Tr) (Q:Tr→Prop):p3 pr pa pb pc ρ Q=(pa ρ fun x=>isDic x∧pb ρ fun y=>pc ρ fun z=>pr x y z Q):=rfl
theorem k's {α:Type} [Enc α] (f:Fl) (m:List (Str×α)):isDic (dicS f m)=True:=rfl
def oQ (o:Option Tr) (Q:Tr→Prop):Prop:=match o with | some t=>Q t | none=>False
theorem h'V (t:Tr) (Q:Tr→Prop):oQ (some t) Q=Q t:=rfl
section
variable (i j:Int) (x y:Str) (b c:Bool) (f g:Fl) (xs ys:List Tr) (Q:Tr→Prop)
theorem h'W:wIdx (.tup xs) (.int i) Q=oQ (atI xs i) Q:=rfl
theorem h'X:wIdx (.lst f xs) (.int i) Q=oQ (atI xs i) Q:=rfl
theorem h'Y (C:Int→Int→Prop) (t:Int→Int→Tr):wInt2 C t (.int i) (.int j) Q=(C i j∧Q (t i j)):=rfl
theorem h'Z:wAdd (.int i) (.int j) Q=Q (.int (i+j)):=rfl
theorem i'a:wAdd (.str x) (.str y) Q=(x.length+y.length≤1000000∧Q (.str (x++y))):=rfl
theorem i'b:wAdd (.lst f xs) (.lst g ys) Q=(xs.length+ys.length≤1000000∧Q (.lst .o (xs++ys))):=rfl
theorem k't:wMul (.int i) (.int j) Q=(CMulX i j∧Q (.int (i*j))):=rfl
theorem w_lt:wLt (.int i) (.int j) Q=Q (.bl (decide (i<j))):=rfl
theorem o'l:wGt (.int i) (.int j) Q=Q (.bl (decide (j<i))):=rfl
theorem k'u:wNeg (.int i) Q=Q (.int (-i)):=rfl
theorem k'v:wAbs [.int i] Q=Q (.int (if i<0 then -i else i)):=rfl
theorem o'm (R:Bool→Prop):wBl (.bl b) R=R b:=rfl
theorem k'w:wEq false (.int i) (.int j) Q=Q (.bl (decide (i=j))):=rfl
theorem k'x:wEq false (.str x) (.str y) Q=Q (.bl (decide (x=y))):=rfl
theorem k'y:wEq false (.bl b) (.bl c) Q=Q (.bl (decide (b=c))):=rfl
theorem k'z:wEq true (.int i) (.int j) Q=Q (.bl (!decide (i=j))):=rfl
theorem k'A:wEq true (.str x) (.str y) Q=Q (.bl (!decide (x=y))):=rfl
theorem k'B:wEq true (.bl b) (.bl c) Q=Q (.bl (!decide (b=c))):=rfl
theorem i'c (k:Bool):wLen k [.lst f xs] Q=Q (.int xs.length):=rfl
theorem i'd (k:Bool):wLen k [.tup xs] Q=Q (.int xs.length):=rfl
theorem i'e:wList [.lst f xs] Q=Q (.lst .o xs):=rfl
theorem k'C (R:List Tr→Prop):wLst (.lst f xs) R=R xs:=rfl
theorem k'D (t:Tr):wOne [t] Q=Q t:=rfl
theorem k'E (t u:Tr) (R:Tr→Tr→Prop):wTwo [t,u] R=R t u:=rfl
theorem i'f (R:Int→Prop):wInt1 [.int i] R=R i:=rfl
theorem i'g (R:Int→Int→Prop):wInt2s [.int i,.int j] R=R i j:=rfl
theorem k'F:wIsV false (.bl b) (.bl c) Q=Q (.bl (b == c)):=by show Q (.bl (false ^^ (b == c)))=_;rw [Bool.false_xor]
theorem k'G:wMx true [.int i,.int j] Q=Q (.int (if j > i then j else i)):=rfl
theorem k'H:wMx false [.int i,.int j] Q=Q (.int (if j<i then j else i)):=rfl
theorem i'h:wIntB [.bl b] Q=Q (.int (if b=true then 1 else 0)):=rfl
end
theorem k'I (x y:Int ⊕ Str) (Q:Tr→Prop):wEq false (Enc.t x) (Enc.t y) Q=Q (.bl (decide (x=y))):=by
  cases x with
  | inl a => cases y with
    | inl b=>show Q (.bl (decide (a=b)))=_;rw [decide_eq_decide.mpr (show a=b↔(Sum.inl a:Int ⊕ Str)=.inl b from ⟨fun h=>by rw [h],fun h=>Sum.inl.inj h⟩)]
    | inr b=>
      refine propext ⟨fun h=>?_,fun h=>.inl ⟨rfl,h⟩⟩
      rcases h with h | ⟨_,h,_⟩
      · exact h.2
      · cases h
  | inr a => cases y with
    | inl b=>
      refine propext ⟨fun h=>?_,fun h=>.inl ⟨rfl,h⟩⟩
      rcases h with h | ⟨_,h,_⟩
      · exact h.2
      · cases h
    | inr b=>show Q (.bl (decide (a=b)))=_;rw [decide_eq_decide.mpr (show a=b↔(Sum.inr a:Int ⊕ Str)=.inr b from ⟨fun h=>by rw [h],fun h=>Sum.inr.inj h⟩)]
abbrev RowE:=List (Str×Rat)×Str×Rat×Int×Int
instance (priority:=high) rowEnc:Enc RowE:=⟨fun r=>.tup [dicS .f r.1,.str r.2.1,Enc.t r.2.2.1,.int r.2.2.2.1,.int r.2.2.2.2],fun r=>by show (Cl (dicS .f r.1) && _)=true;rw [f'z];rfl,fun _ z=>by cases z⟩
theorem k'J (r:RowE) (Q:Tr→Prop):wIdx (Enc.t r) (.int 0) Q=Q (dicS .f r.1):=rfl
theorem k'K (r:RowE) (Q:Tr→Prop):wIdx (Enc.t r) (.int 1) Q=Q (.str r.2.1):=rfl
theorem k'L (r:RowE) (Q:Tr→Prop):wIdx (Enc.t r) (.int 2) Q=Q (Enc.t r.2.2.1):=rfl
theorem k'M (r:RowE) (Q:Tr→Prop):wIdx (Enc.t r) (.int 3) Q=Q (.int r.2.2.2.1):=rfl
theorem k'N (r:RowE) (Q:Tr→Prop):wIdx (Enc.t r) (.int 4) Q=Q (.int r.2.2.2.2):=rfl
theorem i'i {α β:Type} [Enc α] [Enc β] (r:α×β) (Q:Tr→Prop):wIdx (Enc.t r) (.int 0) Q=Q (Enc.t r.1):=rfl
theorem i'j {α β:Type} [Enc α] [Enc β] (r:α×β) (Q:Tr→Prop):wIdx (Enc.t r) (.int 1) Q=Q (Enc.t r.2):=rfl
end Pu
namespace Pu
open PySem L2 Vc Sf
section
variable {K:PySem.W.Frag}
def wP0 (o:Option Tr) (R:Tr→Prop):Prop:=match o with | some .hole=>False | some t=>R t | none=>False
theorem k'O (ρ:List Tr) (i:Nat) (Q:Tr→(Tr→List Tr)→Prop):wPl K ρ i [] Q=wP0 ρ[i]? fun t=>Q t fun u=>ρ.set i u:=by
  unfold wPl wP0
  cases ρ[i]? with
  | none => rfl
  | some t => cases t <;> first | rfl | exact propext ⟨fun h => h.2, fun h => ⟨trivial, h⟩⟩
theorem i'k (f:Fl) (xs:List Tr) (R:Tr→Prop):wP0 (some (.lst f xs)) R=R (.lst f xs):=rfl
theorem i'l (f:Fl) (xs:List (Key×Tr)) (R:Tr→Prop):wP0 (some (.dic f xs)) R=R (.dic f xs):=rfl
theorem i'm (xs:List Tr) (Q:List Tr→Prop):wOwnL (.lst .o xs) Q=Q xs:=rfl
theorem i'n (xs:List (Key×Tr)) (Q:List (Key×Tr)→Prop):wOwnD (.dic .o xs) Q=Q xs:=rfl
end
section
variable {α:Type} [Enc α]
theorem b'H (xs:List α) (a:α):xs.map Enc.t++[Enc.t a]=(xs++[a]).map Enc.t:=by rw [List.map_append];rfl
theorem d'T (xs:List Int) (a:Int):xs.map Enc.t++[Tr.int a]=(xs++[a]).map Enc.t:=b'H xs a
theorem d'U (xs:List Str) (a:Str):xs.map Enc.t++[Tr.str a]=(xs++[a]).map Enc.t:=b'H xs a
theorem f'A (xs:List α) (i:Int):atI (xs.map Enc.t) i=(atI xs i).map Enc.t:=by
  unfold atI
  rw [List.length_map]
  cases ixN xs.length i with
  | none => rfl
  | some n => exact List.getElem?_map ..
theorem d'V {β:Type} (xs:List β) {i:Int} (h0:0≤i) (h:i.toNat<xs.length):atI xs i=some (xs[i.toNat]'h):=by
  unfold atI ixN
  rw [if_pos h0,if_pos (by omega)]
  exact List.getElem?_eq_getElem h
theorem k'P {β:Type} [Enc β] (o:Option β) (Q:Tr→Prop) (x:β) (h:o=some x) (q:Q (Enc.t x)):oQ (o.map Enc.t) Q:=by rw [h];exact q
theorem f'B (xs:List α) (l h:Option Int):cutT (xs.map Enc.t) l h=(cutT xs l h).map Enc.t:=by
  unfold cutT
  rw [List.length_map,List.map_take,List.map_drop]
theorem k'Q (f:Fl) (xs:List Tr) (l h:Option Int) (Q:Tr→Prop):wSl (.lst f xs) l h Q=Q (.lst .o (cutT xs l h)):=rfl
end
theorem c'A {p:PS'} {D:Pd} {ρ:List Tr} (J:List Tr→Prop) (h1:∀ N:List Tr→Prop,(∀ ρ,J ρ→N ρ)→p { D with nx:=N } ρ) (h2:∀ ρ,J ρ→D.nx ρ):p D ρ:=h1 D.nx h2
end Pu
namespace Pu
open PySem L2 Vc Sf
section
variable {K:PySem.W.Frag} {k:Md} {lo:Nat} {us:List V} {Fb Hb F H:Hp} {σ:St} {ρ:List Tr} {cs:Nat→Cs}
def pFz (i:Nat) (p:PS'):PS':=fun D ρ=>pV ρ[i]? fun t=>p D (ρ.set i (Pu.frz t))
theorem k'R (i:Nat) (p:PS') (D:Pd) (ρ:List Tr):pFz i p D ρ=(pV ρ[i]? fun t=>p D (ρ.set i (Pu.frz t))):=rfl
end
def LoopD (w:Wm) (m:List (Key×Tr)) (pg:PG') (pb:PS') (D:Pd) (ρ:List Tr):Prop:=∃ I:Nat→List Tr→Prop,I 0 ρ∧(∀ i p ρ,m[i]?=some p→I i ρ→pg (wit w p) ρ fun ρ'=>pb { D with nx:=I (i+1),ct:=I (i+1),bk:=D.nx } ρ')∧∀ ρ,I m.length ρ→D.nx ρ
theorem f'C (w:Wm) (pe:PE') (pg:PG') (pb:PS') (D:Pd) (ρ:List Tr):pForD w pe pg pb D ρ=(pe (ρ.map lend) fun t=>nlt t=true∧wDicF (Pu.frz t) fun m=>LoopD w m pg pb D ρ):=rfl
theorem o'n (x:Str) (t:Tr):wit .it (Sum.inr x,t)=.tup [.str x,t]:=rfl
theorem o'o (x:Str) (t:Tr):wit .ks (Sum.inr x,t)=.str x:=rfl
theorem o'p (x:Key) (t:Tr):wit .vs (x,t)=t:=rfl
section
variable {α:Type} [Enc α] (m:List (Str×α)) {f:Fl}
theorem i'o (Q:List (Key×Tr)→Prop):wDicF (dicS .f m) Q=Q (m.map fun p=>((Sum.inr p.1:Key),Enc.t p.2)):=rfl
theorem s_l [h:Fp f]:lend (dicS f m)=dicS f m:=f'Z
theorem s_f [h:Fp f]:Pu.frz (dicS f m)=dicS f m:=d'B
theorem s_d [h:Fp f]:dn (dicS f m)=dicS f m:=by
  unfold dicS
  rw [d'C,a'V,g'a]
theorem s_t [h:Fp f]:nlt (dicS f m)=true:=by
  unfold dicS
  rw [a'V]
  exact d'D
theorem s_o:nol (dicS .f m)=true:=(clo _ (f'z m)).o
theorem i'p (Q:Tr→Prop):pV (some (dicS f m)) Q=Q (dicS f m):=rfl
theorem k'S (x:Str) (Q:Tr→Prop):wIdx (dicS f m) (.str x) Q=oQ ((gtd m x).map Enc.t) Q:=by
  show (match look (m.map fun p=>((Sum.inr p.1:Key),Enc.t p.2)) (Sum.inr x) with | some t=>Q t | none=>False)=_
  rw [d'S]
  cases gtd m x<;>rfl
theorem k'T:lend (dicS .o m)=dicS (.l true) m:=by
  show Tr.dic (.l true) (lendk _)=_
  rw [a'V,j's]
  unfold dicS
  rw [← a'V]
theorem i'q:Pu.frz (dicS .o m)=dicS .f m:=by
  show Tr.dic .f (frzk _)=_
  rw [a'V,j't]
  unfold dicS
  rw [← a'V]
theorem k'U:dn (dicS (.l true) m)=dicS (.l false) m:=by
  show Tr.dic (.l false) (dnk _)=_
  rw [a'V,g'a]
  unfold dicS
  rw [← a'V]
theorem o'q (x:Str) (Q:Tr→Prop):wIn false (.str x) (dicS f m) Q=Q (.bl (gtd m x).isSome):=by
  show Q (.bl (look (m.map fun p=>((Sum.inr p.1:Key),Enc.t p.2)) (Sum.inr x)).isSome)=_
  rw [d'S,Option.isSome_map]
end
end Pu
namespace Pu
open PySem L2 Vc Sf
section
variable {α:Type} [Enc α] (m:List (Str×α)) (f:Fl)
theorem p'n (x:Str):((m.map fun p=>((Sum.inr p.1:Key),Enc.t p.2)).any fun kv=>decide (kv.1=Sum.inr x))=m.any fun p=>decide (p.1=x):=by
  induction m with
  | nil => rfl
  | cons p m ih =>
    rw [List.map_cons,List.any_cons,List.any_cons,ih,decide_eq_decide.mpr (show (Sum.inr p.1:Key)=Sum.inr x↔p.1=x from ⟨fun h=>Sum.inr.inj h,fun h=>by rw [h]⟩)]
theorem k'V (x:Str) (a:α):putT (m.map fun p=>((Sum.inr p.1:Key),Enc.t p.2)) (Sum.inr x) (Enc.t a)=(ptd m x a).map fun p=>((Sum.inr p.1:Key),Enc.t p.2):=by
  unfold putT ptd
  rw [p'n]
  split
  · rw [List.map_map,List.map_map]
    refine List.map_congr_left fun p _=>?_
    show (if (Sum.inr p.1:Key)=Sum.inr x then _ else _)=_
    by_cases h:p.1=x
    · rw [if_pos (by rw [h])]
      show _=((Sum.inr (if p.1=x then (p.1,a) else p).1:Key),Enc.t (if p.1=x then (p.1,a) else p).2)
      rw [if_pos h]
    · rw [if_neg (fun z=>h (Sum.inr.inj z))]
      show _=((Sum.inr (if p.1=x then (p.1,a) else p).1:Key),Enc.t (if p.1=x then (p.1,a) else p).2)
      rw [if_neg h]
  · rw [List.map_append];rfl
theorem f'D (R:Tr→Prop):wP0 (some (dicS f m)) R=R (dicS f m):=rfl
theorem f'E (Q:List (Key×Tr)→Prop):wOwnD (dicS .o m) Q=Q (m.map fun p=>((Sum.inr p.1:Key),Enc.t p.2)):=rfl
theorem i'r (x:Str) (Q:Key→Prop):wKey (.str x) Q=Q (Sum.inr x):=rfl
theorem i's (x:Int) (Q:Key→Prop):wKey (.int x) Q=Q (Sum.inl x):=rfl
end
end Pu
namespace Pu
open PySem L2 Vc Sf
def TM (X:Cx) (id:String) (r:Str→Str→Hp→VK→Prop):Prop:=∀ (pins:List (Addr×Obj)) (s:Shared) (σ:St) (H:Hp) (a b:Str) (t u:Tok) (Q:VK),Inv X pins σ H s→r a b H Q→wpAny (model X.prog X.w) X.A (call (.builtin id) [.str a t,.str b u]) (EP X pins σ Q) X.xe s
def tTm (r:Str→Str→Hp→VK→Prop) (td ty:TE):TE:=fun σ H Q=>td σ H fun x H1=>∃ a,x=.str a∧ty σ H1 fun y H2=>∃ b,y=.str b∧r a b H2 Q
section
variable {X:Cx}
theorem g'b {o e:Expr} {name:Str} {id:String} {apos cpos:Pos} {td ty:TE} {r:Str→Str→Hp→VK→Prop} (sl:Slot "str" name id) (tp:typeOf (.builtin id)=pure (.type "method_descriptor")) (hT:TM X id r) (ho:PE X o td) (he:PE X e ty) (m:M1 X o name apos e cpos):PE X (.Call (.Attribute o name apos) [e] [] cpos) (tTm r td ty):=by
  intro pins s σ H Q I h
  refine wpAny_Call_method m.base m.few m.line PySem.F.plainAttrs_str sl tp (thn (ho pins s σ H _ I h) fun u s1 ⟨x,H1,I1,rx,a,ex,q1⟩=>?_)
  subst ex
  obtain⟨t,rfl⟩:=(show ∃ t,u=Value.str a t from rx)
  refine⟨typeIs_str s1 a t,(fun b z=>by cases z),?_⟩
  rw [m.trees]
  refine Calls.callWith_builtin rfl (Calls.evalArgs_plain (Calls.spliced_cons (thn (he pins s1 σ H1 _ I1 q1) fun iv s2 ⟨y,H2,I2,ry,b,ey,q2⟩=>Calls.spliced_nil ?_)))
  subst ey
  obtain⟨t',rfl⟩:=(show ∃ t,iv=Value.str b t from ry)
  exact hT pins s2 σ H2 a b t t' Q I2 q2
def stW (a b:Str):Bool:=decide (0+b.length≤a.length) && Builtin.Str.subAt a b 0
theorem i't:TM X "str.startswith" fun a b H Q=>Q (.bl (stW a b)) H:=fun pins s σ H a b t u Q I q=>
  call_gives F.slot_str_startswith (typeIs_str s a t) F.entry_str_startswith (F.args_str_startswith_2 _ _) (gives_str_startswith a b t u) ⟨.bl _,H,I,rfl,q⟩
theorem j'v:TM X "str.index" fun a b H Q=>∃ i rest,Builtin.Str.occurrences a b 0 a.length 1=i :: rest∧Q (.int i) H:=fun pins s σ H a b t u Q I ⟨i,rest,e,q⟩=>
  call_gives F.slot_str_index (typeIs_str s a t) F.entry_str_index (F.args_str_index_2 _ _) (gives_str_index a b t u i rest e) ⟨.int _,H,I.tok _,⟨_,rfl⟩,q⟩
theorem c's:∀ (ps:List Str) (n:Nat),Vals (ps.map V.str) (strsFrom n ps)
  | [], _ => .nil
  | p :: ps, n => .cons ⟨n, rfl⟩ (c's ps (n + 1))
theorem c'f {pins:List (Addr×Obj)} {σ:St} {H:Hp} {s:Shared} {Q:VK} {t':Nat} (I:Inv X pins σ H s) {xs:List V} {its:List Value} (rv:Vals xs its) (hl:xs.length≤sizeLine) (q:Q (.ref s.heap.objs.size) (upd H s.heap.objs.size (.lst xs))):EP X pins σ Q (.ref s.heap.objs.size) { s with heap:=s.heap.push { cls:=.type "list",data:=.seq its.toArray },toks:=t' }:=
  ⟨.ref _,_,I.laid (a:=s.heap.objs.size) (o:=.lst xs) (t':=t') (fun b o e=>Heap.get?_push_of_some _ e) (Nat.le_refl _) ⟨hl,its,0,rv,Heap.get?_push_size _ rfl⟩,rfl,q⟩
theorem j'w:TM X "str.split" fun a b H Q=>(b.length == 0)=false∧a.length≤1000000∧(Txt.split a b).length≤1000000∧∀ p,H p=none→Q (.ref p) (upd H p (.lst ((Txt.split a b).map V.str))):=fun pins s σ H a b t u Q I ⟨h0,h1,h2,q⟩=>by
  have fr:H s.heap.objs.size=none:=I.hok.fresh (Nat.le_refl _)
  have q:=q _ fr
  have sz:=sizeLine_eq
  unfold Txt.split at h2 q
  by_cases c1:(decide (a.length<b.length) || decide (Builtin.Str.strKind a<Builtin.Str.strKind b))=true
  · rw [if_pos c1] at h2 q
    refine call_meets F.slot_str_split (typeIs_str s a t) F.entry_str_split (F.args_str_split_2 _ _) (meets_str_split_cannot_occur a b t u c1) ?_
    exact c'f (t':=s.toks) I (xs:=[.str a]) (its:=[.str a t]) (.cons ⟨t,rfl⟩ .nil) (show (1:Nat)≤sizeLine by rw [sz];decide) q
  · rw [if_neg c1] at h2 q
    have c1:=Bool.eq_false_iff.mpr c1
    by_cases c2:(Builtin.Str.occurrences a b 0 a.length (a.length+1)).isEmpty=true
    · rw [if_pos c2] at h2 q
      refine call_meets F.slot_str_split (typeIs_str s a t) F.entry_str_split (F.args_str_split_2 _ _) (meets_str_split_not_found a b t u c1 h0 c2) ?_
      exact c'f (t':=s.toks) I (xs:=[.str a]) (its:=[.str a t]) (.cons ⟨t,rfl⟩ .nil) (show (1:Nat)≤sizeLine by rw [sz];decide) q
    · rw [if_neg c2] at h2 q
      refine call_meets F.slot_str_split (typeIs_str s a t) F.entry_str_split (F.args_str_split_2 _ _) (meets_str_split_sep a b t u c1 h0 (Bool.eq_false_iff.mpr c2) (by rw [sz];omega) (by rw [sz];omega)) ?_
      exact c'f I (c's _ _) (by rw [List.length_map,sz];omega) q
end
def wTx (x:Tr) (R:Str→Prop):Prop:=match x with | .str a=>R a | _=>False
def pTm (pr:Str→Str→(Tr→Prop)→Prop) (pd py:PE'):PE':=fun ρ Q=>pd ρ fun x=>wTx x fun a=>py ρ fun y=>wTx y fun b=>pr a b Q
theorem b'b {x:Tr} {R:Str→Prop} (h:wTx x R):∃ a,x=.str a∧R a:=by
  unfold wTx at h
  split at h
  · exact⟨_,rfl,h⟩
  · exact h.elim
def wStarts (a b:Str) (Q:Tr→Prop):Prop:=Q (.bl (stW a b))
def wIndex (a b:Str) (Q:Tr→Prop):Prop:=∃ i rest,Builtin.Str.occurrences a b 0 a.length 1=i :: rest∧Q (.int (i:Nat))
def wSplit (a b:Str) (Q:Tr→Prop):Prop:=(b.length == 0)=false∧a.length≤1000000∧(Txt.split a b).length≤1000000∧Q (.lst .o ((Txt.split a b).map Tr.str))
section
variable {K:PySem.W.Frag} {k:Md}
def OkT (K:PySem.W.Frag) (r:Str→Str→Hp→VK→Prop) (pr:Str→Str→(Tr→Prop)→Prop):Prop:=∀ (F:Hp) (B:Bool→Hp) (H:Hp) (a b:Str) (Q:VK) (Q':Tr→Prop),Same F H→(∀ k,Same (B k) H)→pr a b Q'→(∀ t v F' H' c,Q' t→Out K F B H F' H' t v c→Q v H')→r a b H Q
theorem d'W {r:Str→Str→Hp→VK→Prop} {pr:Str→Str→(Tr→Prop)→Prop} {td ty:TE} {pd py:PE'} (o:OkT K r pr) (hd:Sim K k td pd) (hy:Sim K k ty py):Sim K k (tTm r td ty) (pTm pr pd py):=fun F B H σ ρ Q Q' c p q=>by
  refine hd F B H σ ρ _ _ c p fun x v F1 H1 c1 p1 o1=>?_
  obtain⟨a,rfl,p1⟩:=b'b p1
  refine⟨a,o1.r.1,?_⟩
  refine hy F1 B H1 σ ρ _ _ (c.gr o1.g) p1 fun y u F2 H2 c2 p2 o2=>?_
  obtain⟨b,rfl,p2⟩:=b'b p2
  refine⟨b,o2.r.1,?_⟩
  exact o F2 B H2 a b Q Q' o2.g.s (fun k=>((c.b k).trans o1.g.h).trans o2.g.h) p2 fun t v F3 H3 c' qt ot=>q t v F3 H3 c' qt ⟨(o1.g.trans' o2.g).trans' ot.g,ot.r,ot.c,fun p m=>(o1.g.h.trans o2.g.h).free (ot.n p m)⟩
theorem g'c:OkT K (fun a b H Q=>Q (.bl (stW a b)) H) wStarts:=fun F B H a b Q Q' s _ p q=>q _ _ F H [] p (Out.same s ⟨rfl,rfl⟩)
theorem i'u:OkT K (fun a b H Q=>∃ i rest,Builtin.Str.occurrences a b 0 a.length 1=i :: rest∧Q (.int i) H) wIndex:=fun F B H a b Q Q' s _ ⟨i,rest,e,p⟩ q=>⟨i,rest,e,q _ _ F H [] p (Out.same s ⟨rfl,rfl⟩)⟩
theorem f'F {F:Hp} {B:Bool→Hp}:∀ ps:List Str,Rs K F B (ps.map Tr.str) (ps.map V.str) []
  | [] => ⟨rfl, rfl⟩
  | p :: ps => ⟨_, _, [], [], rfl, rfl, ⟨rfl, rfl⟩, f'F ps⟩
theorem i'v:OkT K (fun a b H Q=>(b.length == 0)=false∧a.length≤1000000∧(Txt.split a b).length≤1000000∧∀ p,H p=none→Q (.ref p) (upd H p (.lst ((Txt.split a b).map V.str)))) wSplit:=fun F B H a b Q Q' s _ ⟨h0,h1,h2,p⟩ q=>⟨h0,h1,h2,fun l hl=>by
  obtain⟨n1,n2,n3⟩:=b'B (K:=K) (B:=B) s (f'F (Txt.split a b)) .nil hl
  exact q _ _ F _ _ p ⟨n1,n2,n3,fun p m=>by cases m with | head=>exact hl | tail _ m=>cases m⟩⟩
end
section
variable {X:Cx} {k:Md}
theorem j'x {o e:Expr} {po pe:PE'} {apos cpos:Pos} (ho:QE X k o po) (he:QE X k e pe) (m:M1 X o "startswith" apos e cpos):QE X k (.Call (.Attribute o "startswith" apos) [e] [] cpos) (pTm wStarts po pe):=by
  obtain⟨te,h1,h2⟩:=ho.h
  obtain⟨tf,g1,g2⟩:=he.h
  exact⟨_,g'b F.slot_str_startswith F.type_str_startswith i't h1 g1 m,d'W g'c h2 g2⟩
theorem m'v {o e:Expr} {po pe:PE'} {apos cpos:Pos} (ho:QE X k o po) (he:QE X k e pe) (m:M1 X o "index" apos e cpos):QE X k (.Call (.Attribute o "index" apos) [e] [] cpos) (pTm wIndex po pe):=by
  obtain⟨te,h1,h2⟩:=ho.h
  obtain⟨tf,g1,g2⟩:=he.h
  exact⟨_,g'b F.slot_str_index F.type_str_index j'v h1 g1 m,d'W i'u h2 g2⟩
theorem m'w {o e:Expr} {po pe:PE'} {apos cpos:Pos} (ho:QE X k o po) (he:QE X k e pe) (m:M1 X o "split" apos e cpos):QE X k (.Call (.Attribute o "split" apos) [e] [] cpos) (pTm wSplit po pe):=by
  obtain⟨te,h1,h2⟩:=ho.h
  obtain⟨tf,g1,g2⟩:=he.h
  exact⟨_,g'b F.slot_str_split F.type_str_split j'w h1 g1 m,d'W i'v h2 g2⟩
end
def Itc (x:Str):It:=⟨fun i _=>i<x.cps.size,fun i H v H'=>H'=H∧∃ c,x.cps[i]?=some c∧v=.str ⟨#[c]⟩,fun i _=>x.cps.size≤i⟩
theorem c'S {prog:Program} {w:World} {A:Around} (hh:A.handled=none) (it:Addr) (x:Str) (t:Tok):Walks prog w A it [it] [it] x.cps.size (SignAt x) (fun i h=>h.IsStrIter it (strIterType x) x t i):=by
  cases e:x.cps.all (·<128)
  · have z:strIterType x="str_iterator":=by unfold strIterType;rw [e];rfl
    rw [z];exact Walks.strWide hh it x t
  · have z:strIterType x="str_ascii_iterator":=by unfold strIterType;rw [e];rfl
    rw [z];exact Walks.strAscii hh it x t
theorem j'y {P:Program} {w:World} {K:PySem.W.Frag} {tg:Expr} (x:Str) (t:Tok) (it:Addr):Turn P w K tg (Itc x) [it] it (fun i h=>i≤x.cps.size∧h.IsStrIter it (strIterType x) x t i) where
  mem:=by simp
  obj:=fun i h st b hb=>by
    have e:b=it:=by simpa using hb
    subst e
    obtain⟨_,o,e,c,d⟩:=st
    exact⟨o,e,fun v z=>by rw [d] at z;cases z⟩
  keep:=fun i h h' st k=>by
    obtain⟨h0,o,e,c,d⟩:=st
    exact⟨h0,o,k it (by simp) o e,c,d⟩
  item:=by
    intro X hP hw hK hc i pins s σ H E I hf st hg
    subst hP hw hK
    obtain⟨f0,f1,f2,f3,f4,f5⟩:=hf it (by simp)
    refine (c'S (prog:=X.prog) (w:=X.w) (I.ok.hd hc) it x t).item i s _ _ hg st.2 fun v h' tk hv st' kk=>?_
    have I1:Inv X pins σ H { s with heap:=h',toks:=tk }:=I.turned (fun b o hb e=>kk b o (by simpa using hb) e) f0 f1 f3 f4 f5
    obtain⟨c,u,hx,rfl⟩:=(show ∃ c u,x.cps[i]?=some c∧v=Value.str ⟨#[c]⟩ u from hv)
    obtain⟨o,e,c1,d⟩:=id st'
    refine⟨_,rfl,j'F (s:={ s with heap:=h',toks:=tk }) e c1 d ?_ ⟨.str ⟨#[c]⟩,H,I1,⟨u,rfl⟩,⟨rfl,c,hx,rfl⟩,⟨hg,st'⟩,fun b hb=>(hf b hb).1⟩⟩
    unfold strIterType
    split<;>decide
  done:=by
    intro X hP hw hK hc i pins s σ H E I hf st hg
    subst hP hw hK
    obtain⟨f0,f1,f2,f3,f4,f5⟩:=hf it (by simp)
    have e:i=x.cps.size:=Nat.le_antisymm st.1 hg
    subst e
    exact (c'S (prog:=X.prog) (w:=X.w) (I.ok.hd hc) it x t).done s _ _ st.2 fun h' tk kk=>⟨rfl,I.turned (fun b o hb e=>kk b o (by simpa using hb) e) f0 f1 f3 f4 f5⟩
  self:=fun A i s Q E st q=>by
    obtain⟨h0,st⟩:=st
    cases e:x.cps.all (·<128)
    · have z:strIterType x="str_iterator":=by unfold strIterType;rw [e];rfl
      rw [z] at st;exact wpAny_pyIter_striter_wide st q
    · have z:strIterType x="str_ascii_iterator":=by unfold strIterType;rw [e];rfl
      rw [z] at st;exact wpAny_pyIter_striter_ascii st q
def iStr (tl:TE):TI:=fun σ H R=>tl σ H fun x H1=>∃ a,x=.str a∧R (Itc a) H1
theorem o'r {X:Cx} {tg l:Expr} {tl:TE} (hl:PE X l tl):PI X tg l (iStr tl):=by
  intro pins s σ H R I h
  refine thn (hl pins s σ H _ I h) fun v s1 ⟨x,H1,I1,r1,q1⟩=>?_
  obtain⟨a,e,q⟩:=q1
  subst e
  obtain⟨t,rfl⟩:=(show ∃ t,v=Value.str a t from r1)
  refine wpAny_pyIter_strU ?_
  refine⟨s1.heap.objs.size,[s1.heap.objs.size],_,_,H1,rfl,I1.kept (t':=s1.toks) fun b o e=>Heap.get?_push_of_some _ e,j'y a t _,⟨Nat.zero_le _,_,Heap.get?_push_size _ rfl,rfl,rfl⟩,fun b hb=>?_,q⟩
  have e:b=s1.heap.objs.size:=by simpa using hb
  subst e
  exact I1.fpOk (Nat.le_refl _) (I1.hok.fresh (Nat.le_refl _))
def signs (x:Str):List Tr:=x.cps.toList.map fun c=>.str ⟨#[c]⟩
def piS (pe:PE'):PI':=fun ρ Q=>pe ρ fun t=>wTx t fun x=>Q (signs x) true
theorem o's {x:Str}:ItOk (Itc x) (signs x).length (fun _=>True) (fun i H v H'=>(∃ c,x.cps[i]?=some c∧v=.str ⟨#[c]⟩)∧H'=H):=by
  have e:(signs x).length=x.cps.size:=by unfold signs;rw [List.length_map,Array.length_toList]
  rw [e]
  exact⟨fun i H h _=>h,fun H _=>Nat.le_refl _,fun i H x H' h _ y=>⟨y.2,y.1⟩⟩
section
variable {K:PySem.W.Frag} {k:Md} {F:Hp} {B:Bool→Hp}
theorem f'G {x:Str}:Src K B F (Itc x) (signs x):=by
  refine⟨_,_,o's,fun _ _ _ _ _=>True.intro,fun i t F' H' v H'' ht l' s b y=>?_⟩
  obtain⟨⟨c,hc,rfl⟩,rfl⟩:=y
  unfold signs at ht
  rw [List.getElem?_map,Array.getElem?_toList,hc] at ht
  cases ht
  exact⟨F',Gr.refl' s,rfl,rfl⟩
theorem j'z {te:TE} {pe:PE'} (h:Sim K k te pe):SimI K k (iStr te) (piS pe):=fun F B H σ ρ R' Q' c p q=>by
  refine h F B H σ ρ _ _ c p fun t v F1 H1 c1 p1 o=>?_
  obtain⟨a,rfl,p1⟩:=b'b p1
  exact⟨a,o.r.1,q _ _ _ F1 H1 p1 o.g f'G fun _ B' _=>f'G⟩
end
section
variable {X:Cx} {k:Md}
theorem o't {tg l:Expr} {pl:PE'} (h:QE X k l pl):QI X k tg l (piS pl):=by
  obtain⟨te,h1,h2⟩:=h.h
  exact⟨_,o'r h1,j'z h2⟩
end
def hasS (b a:Str):Bool:=!(Builtin.Str.occurrences b a 0 b.length 1).isEmpty
def wInS (neg:Bool) (x y:Tr) (Q:Tr→Prop):Prop:=wTx x fun a=>wTx y fun b=>Q (.bl (if neg=true then !hasS b a else hasS b a))
theorem f'H {K:PySem.W.Frag} {k:Md}:Op2 K k (fun x y H Q=>∃ i j,x=.str i∧y=.str j∧Q (.bl (!(Builtin.Str.occurrences j i 0 j.length 1).isEmpty)) H) (wInS false):=fun F B H x y tx ty cx cy Q Q' s b z rx ry hx hy hd p q=>by
  obtain⟨i,rfl,p1⟩:=b'b p
  obtain⟨j,rfl,p2⟩:=b'b p1
  exact⟨i,j,rx.1,ry.1,q _ _ F H [] p2 (Gr.refl' s) ⟨rfl,rfl⟩ .nil fun _ m=>nomatch m⟩
theorem g'd {K:PySem.W.Frag} {k:Md}:Op2 K k (fun x y H Q=>∃ i j,x=.str i∧y=.str j∧Q (.bl (!(!(Builtin.Str.occurrences j i 0 j.length 1).isEmpty))) H) (wInS true):=fun F B H x y tx ty cx cy Q Q' s b z rx ry hx hy hd p q=>by
  obtain⟨i,rfl,p1⟩:=b'b p
  obtain⟨j,rfl,p2⟩:=b'b p1
  exact⟨i,j,rx.1,ry.1,q _ _ F H [] p2 (Gr.refl' s) ⟨rfl,rfl⟩ .nil fun _ m=>nomatch m⟩
theorem b'M {X:Cx}:CallR X (.type "int") (fun xs H Q=>∃ x n,xs=[.str x]∧intText? x=some n∧x.length≤640∧Q (.int n) H):=by
  intro pins s σ H xs us Q I r h
  obtain⟨x,n,rfl,e,hl,q⟩:=h
  obtain⟨u,rfl,ru⟩:=b't r
  obtain⟨t,rfl⟩:=(show ∃ t,u=Value.str x t from ru)
  exact PySem.W.KIN.call_text e hl ⟨.int _,H,I.tok _,⟨_,rfl⟩,q⟩
def wIntT (ts:List Tr) (Q:Tr→Prop):Prop:=match ts with
  | [.str x] => ∃ n, intText? x = some n ∧ x.length ≤ 640 ∧ Q (.int n)
  | _ => False
theorem c'g {K:PySem.W.Frag} {k:Md}:OpA K k (fun xs H Q=>∃ x n,xs=[.str x]∧intText? x=some n∧x.length≤640∧Q (.int n) H) wIntT:=fun F B H xs ts cx Q Q' s b z r hc p q=>by
  unfold wIntT at p
  split at p
  · obtain⟨v,rfl,rfl,_⟩:=r.one
    obtain⟨n,e,hl,p⟩:=p
    exact⟨_,n,rfl,e,hl,q _ _ F H [] p (Gr.refl' s) ⟨rfl,rfl⟩ .nil fun _ m=>nomatch m⟩
  · exact p.elim
def SimJ (K:PySem.W.Frag) (k:Md) (tj:Str→TE) (pj:Str→PE'):Prop:=∀ out,Sim K k (tj out) (pj out)
def pjN:Str→PE':=fun out _ Q=>out.length≤1000000∧Q (.str out)
def pjT (x:Str) (p:Str→PE'):Str→PE':=fun out ρ Q=>(out++x).length≤1000000∧p (out++x) ρ Q
def pjV (pe:PE') (p:Str→PE'):Str→PE':=fun out ρ Q=>pe ρ fun t=>wTx t fun y=>y.length≤1000000∧(out++y).length≤1000000∧p (out++y) ρ Q
def pFs (p:Str→PE'):PE':=p Str.empty
section
variable {K:PySem.W.Frag} {k:Md}
theorem c't {n:Nat} (h:n≤1000000):n≤sizeLine:=by rw [sizeLine_eq];omega
theorem o'u:SimJ K k jNil pjN:=fun out F B H σ ρ Q Q' c p q=>⟨c't p.1,q _ _ F H [] p.2 (Out.same c.s ⟨rfl,rfl⟩)⟩
theorem o'v {x:Str} {t:Str→TE} {p:Str→PE'} (h:SimJ K k t p):SimJ K k (jTxt x t) (pjT x p):=fun out F B H σ ρ Q Q' c pp q=>⟨c't pp.1,h _ F B H σ ρ Q Q' c pp.2 q⟩
theorem o'w {te:TE} {pe:PE'} {t:Str→TE} {p:Str→PE'} (he:Sim K k te pe) (h:SimJ K k t p):SimJ K k (jVal te t) (pjV pe p):=fun out F B H σ ρ Q Q' c pp q=>by
  refine he F B H σ ρ _ _ c pp fun t v F1 H1 c1 p1 o1=>?_
  obtain⟨y,rfl,h1,h2,p1⟩:=b'b p1
  exact⟨y,o1.r.1,c't h1,c't h2,h _ F1 B H1 σ ρ Q Q' (c.gr o1.g) p1 fun t v F2 H2 c2 qt o2=>q t v F2 H2 c2 qt ⟨o1.g.trans' o2.g,o2.r,o2.c,fun p m=>o1.g.h.free (o2.n p m)⟩⟩
end
structure QJ (X:Cx) (k:Md) (es:List Expr) (pj:Str→PE'):Prop where
  h:∃ tj,PJ X es tj∧SimJ X.K k tj pj
section
variable {X:Cx} {k:Md}
theorem o'x:QJ X k [] pjN:=⟨_,n'v,o'u⟩
theorem o'y {x:Str} {j:Nat} {pos:Pos} {es:List Expr} {p:Str→PE'} (h:QJ X k es p):QJ X k (.Constant (.str x) j pos :: es) (pjT x p):=by
  obtain⟨t,h1,h2⟩:=h.h
  exact⟨_,n'w h1,o'v h2⟩
theorem i'w {e:Expr} {pos:Pos} {es:List Expr} {pe:PE'} {p:Str→PE'} (he:QE X k e pe) (h:QJ X k es p):QJ X k (.FormattedValue e (-1) none pos :: es) (pjV pe p):=by
  obtain⟨t,h1,h2⟩:=h.h
  obtain⟨te,g1,g2⟩:=he.h
  exact⟨_,n'x g1 h1,o'w g2 h2⟩
theorem o'z {a b:Expr} {es:List Expr} {pos:Pos} {p:Str→PE'} (h:QJ X k (a :: b :: es) p):QE X k (.JoinedStr (a :: b :: es) pos) (pFs p):=by
  obtain⟨t,h1,h2⟩:=h.h
  exact⟨_,l'E h1,h2 _⟩
end
def wIsXT (K:PySem.W.Frag) (ts:List Tr) (Q:Tr→Prop):Prop:=match ts with
  | [.exc D, .tup cs] => ∃ (as : List Addr) (b : Bool), cs = as.map Tr.cl ∧ ExcK K D ∧ PySem.W.kitAny K (.ref D) (as.map Value.ref) = some b ∧ Q (.bl b)
  | _ => False
theorem i'x {K:PySem.W.Frag} {F:Hp} {B:Bool→Hp}:∀ {as:List Addr} {vs:List V} {c:Cs},Rs K F B (as.map Tr.cl) vs c→vs=as.map V.ref
  | [], _, _, h => h.1
  | a :: as, _, _, ⟨v, r, c, d, h1, _, h3, h4⟩ => by rw [h1, h3.1, i'x h4]; rfl
theorem j'A {K:PySem.W.Frag} {k:Md}:OpA K k (rIseT K) (wIsXT K):=fun F B H xs ts cx Q Q' s b z r hc p q=>by
  unfold wIsXT at p
  split at p
  · obtain⟨v,us,c,d,rfl,rfl,h3,h4⟩:=r
    obtain⟨v',us',c',d',rfl,rfl,g3,g4⟩:=h4
    obtain⟨rfl,_⟩:=g4
    obtain⟨as,bb,rfl,e1,e2,p⟩:=p
    obtain⟨_,a,rfl,ha⟩:=h3
    obtain⟨t,vs,rfl,ht,h5⟩:=g3.tupH s
    rw [i'x h5] at ht
    exact⟨a,_,t,as,bb,rfl,s.rd ha,e1,ht,e2,q _ _ F H [] p (Gr.refl' s) ⟨rfl,rfl⟩ .nil fun _ m=>nomatch m⟩
  · exact p.elim
theorem o'A {X:Cx} {k:Md} {pos:Pos} (K:PySem.W.Frag) (hK:X.K=K) {x:Str} {p:Pos} {e:Expr} {es:List Expr} {ps:PA'} (hg:Gl X x) (hm:X.mg x=none) (hv:bootBuiltins x=some (.builtin "isinstance")) (ha:QA X k (e :: es) ps) (hn:x≠"__name__":=by decide) (hdb:(x == ("__debug__":Str))=false:=by decide) (he:starEach (e :: es) X.env=(false,eval e X.env) :: starEach es X.env:=by rfl) (hpl:(backTo pos (starEach es X.env)).any (·.1)=false:=by rfl) :
    QE X k (.Call (.Name x p) (e :: es) [] pos) (pB (wIsXT K) ps):=by
  subst hK
  exact a'H g'T j'A hg hm hv ha hn hdb he hpl
theorem g'e {X:Cx} {k:Md} {x:Str} {n:String} {pos:Pos} (hg:Gl X x) (hm:X.mg x=none) (hv:bootBuiltins x=some (.type n)) (hn:x≠"__name__":=by decide) (hd:(x == ("__debug__":Str))=false:=by decide):QE X k (.Name x pos) (pC (.ty n)):=⟨_,l'i (v:=.ty n) hg hm hv rfl hn hd,b'S fun _ _=>⟨rfl,rfl⟩⟩
end Pu
namespace Pu
open PySem L2 Vc Sf
theorem k'W (pr:Str→Str→(Tr→Prop)→Prop) (pd py:PE') (ρ:List Tr) (Q:Tr→Prop):pTm pr pd py ρ Q=(pd ρ fun x=>wTx x fun a=>py ρ fun y=>wTx y fun b=>pr a b Q):=rfl
theorem o'B (a:Str) (R:Str→Prop):wTx (.str a) R=R a:=rfl
theorem i'y (x:Str):signs x=x.cps.toList.map fun c=>.str ⟨#[c]⟩:=rfl
theorem k'X (pe:PE') (ρ:List Tr) (Q:List Tr→Bool→Prop):piS pe ρ Q=(pe ρ fun t=>wTx t fun x=>Q (signs x) true):=rfl
theorem k'Y (p:Str→PE') (ρ:List Tr) (Q:Tr→Prop):pFs p ρ Q=p Str.empty ρ Q:=rfl
theorem k'Z (out:Str) (ρ:List Tr) (Q:Tr→Prop):pjN out ρ Q=(out.length≤1000000∧Q (.str out)):=rfl
theorem l'a (x:Str) (p:Str→PE') (out:Str) (ρ:List Tr) (Q:Tr→Prop):pjT x p out ρ Q=((out++x).length≤1000000∧p (out++x) ρ Q):=rfl
theorem l'b (pe:PE') (p:Str→PE') (out:Str) (ρ:List Tr) (Q:Tr→Prop):pjV pe p out ρ Q=(pe ρ fun t=>wTx t fun y=>y.length≤1000000∧(out++y).length≤1000000∧p (out++y) ρ Q):=rfl
theorem d'X (a b:Str) (Q:Tr→Prop):wStarts a b Q=Q (.bl (stW a b)):=rfl
theorem f'I (a b:Str) (Q:Tr→Prop):wSplit a b Q=((b.length == 0)=false∧a.length≤1000000∧(Txt.split a b).length≤1000000∧Q (.lst .o ((Txt.split a b).map (Enc.t (α:=Str))))):=rfl
theorem l'c (neg:Bool) (a b:Str) (Q:Tr→Prop):wInS neg (.str a) (.str b) Q=Q (.bl (if neg=true then !hasS b a else hasS b a)):=rfl
theorem i'z (x:Str) (Q:Tr→Prop):wIntT [.str x] Q=(∃ n,intText? x=some n∧x.length≤640∧Q (.int n)):=rfl
end Pu
namespace Sf
open PySem L2 Vc Pu
def top (i:Nat):Stmt:=PySem.Challenge.pw_springframe_k14_numbers_written.main.body.getD i (.Pass ⟨0,0,0,0⟩)
abbrev s_part:Stmt:=top 7
abbrev s_greatest_divisor:Stmt:=top 8
abbrev s_is_whole:Stmt:=top 12
abbrev s_read_number:Stmt:=top 13
abbrev s_show_number:Stmt:=top 14
abbrev s_law_cell_at:Stmt:=top 16
abbrev s_law_shared:Stmt:=top 17
abbrev s_law_odd:Stmt:=top 18
abbrev s_law_changed:Stmt:=top 19
abbrev s_law_whole:Stmt:=top 20
abbrev s_law_due:Stmt:=top 21
abbrev s_law_told:Stmt:=top 22
abbrev s_law_kinds:Stmt:=top 23
abbrev s_law_far:Stmt:=top 24
abbrev s_law:Stmt:=top 25
theorem sc_part:FnScope ["top","bottom","divisor"] ["top","bottom"] (defScope s_part):=⟨rfl,rfl,rfl,by decide +kernel,rfl,by decide +kernel,by decide +kernel⟩
theorem sc_greatest_divisor:FnScope ["one","other","remainder"] ["one","other"] (defScope s_greatest_divisor):=⟨rfl,rfl,rfl,by decide +kernel,rfl,by decide +kernel,by decide +kernel⟩
theorem e'i:FnScope ["word","most"] ["word","most"] (defScope s_is_whole):=⟨rfl,rfl,rfl,by decide +kernel,rfl,by decide +kernel,by decide +kernel⟩
theorem sc_read_number:FnScope ["word","pieces","figures","bottom","number"] ["word"] (defScope s_read_number):=⟨rfl,rfl,rfl,by decide +kernel,rfl,by decide +kernel,by decide +kernel⟩
theorem sc_show_number:FnScope ["number","top","bottom"] ["number"] (defScope s_show_number):=⟨rfl,rfl,rfl,by decide +kernel,rfl,by decide +kernel,by decide +kernel⟩
theorem c'B:FnScope ["_law_script","_law_k"] ["_law_script","_law_k"] (defScope s_law_cell_at):=⟨rfl,rfl,rfl,by decide +kernel,rfl,by decide +kernel,by decide +kernel⟩
theorem sc_law_shared:FnScope ["_law_one","_law_other"] ["_law_one","_law_other"] (defScope s_law_shared):=⟨rfl,rfl,rfl,by decide +kernel,rfl,by decide +kernel,by decide +kernel⟩
theorem sc_law_odd:FnScope ["_law_cell","_law_some"] ["_law_cell"] (defScope s_law_odd):=⟨rfl,rfl,rfl,by decide +kernel,rfl,by decide +kernel,by decide +kernel⟩
theorem sc_law_changed:FnScope ["_law_word","_law_cell","_law_at"] ["_law_word","_law_cell"] (defScope s_law_changed):=⟨rfl,rfl,rfl,by decide +kernel,rfl,by decide +kernel,by decide +kernel⟩
theorem sc_law_whole:FnScope ["_law_word","_law_sign"] ["_law_word"] (defScope s_law_whole):=⟨rfl,rfl,rfl,by decide +kernel,rfl,by decide +kernel,by decide +kernel⟩
theorem sc_law_due:FnScope ["_law_word","_law_plain","_law_top","_law_bottom","_law_at"] ["_law_word"] (defScope s_law_due):=⟨rfl,rfl,rfl,by decide +kernel,rfl,by decide +kernel,by decide +kernel⟩
theorem sc_law_told:FnScope ["_law_word","_law_found","e"] ["_law_word"] (defScope s_law_told):=⟨rfl,rfl,rfl,by decide +kernel,rfl,by decide +kernel,by decide +kernel⟩
theorem d'Y:FnScope ["_law_one"] ["_law_one"] (defScope s_law_kinds):=⟨rfl,rfl,rfl,by decide +kernel,rfl,by decide +kernel,by decide +kernel⟩
theorem sc_law_far:FnScope ["_law_script","_law_top","_law_bottom","_law_shared_here","_law_text"] ["_law_script"] (defScope s_law_far):=⟨rfl,rfl,rfl,by decide +kernel,rfl,by decide +kernel,by decide +kernel⟩
theorem sc_law:FnScope ["_law_script","_law_top","_law_bottom","_law_shared_here","_law_one","_law_word","_law_cell","_law_due_here","_law_found"] ["_law_script"] (defScope s_law):=⟨rfl,rfl,rfl,by decide +kernel,rfl,by decide +kernel,by decide +kernel⟩
set_option genInjectivity false in
set_option genSizeOf false in
structure Tx (K:PySem.W.Frag) (mg:Str→Option Value) where
  a_part:Addr
  d_part:FuncData
  F_part:Fun K "part" "part" s_part a_part d_part
  b_part:Binds K d_part ["top","bottom"] []
  m_part:mg "part"=some (.ref a_part)
  a_greatest_divisor:Addr
  d_greatest_divisor:FuncData
  F_greatest_divisor:Fun K "greatest_divisor" "greatest_divisor" s_greatest_divisor a_greatest_divisor d_greatest_divisor
  b_greatest_divisor:Binds K d_greatest_divisor ["one","other"] []
  m_greatest_divisor:mg "greatest_divisor"=some (.ref a_greatest_divisor)
  a_is_whole:Addr
  d_is_whole:FuncData
  F_is_whole:Fun K "is_whole" "is_whole" s_is_whole a_is_whole d_is_whole
  b_is_whole:Binds K d_is_whole ["word","most"] []
  m_is_whole:mg "is_whole"=some (.ref a_is_whole)
  a_read_number:Addr
  d_read_number:FuncData
  F_read_number:Fun K "read_number" "read_number" s_read_number a_read_number d_read_number
  b_read_number:Binds K d_read_number ["word"] []
  m_read_number:mg "read_number"=some (.ref a_read_number)
  a_show_number:Addr
  d_show_number:FuncData
  F_show_number:Fun K "show_number" "show_number" s_show_number a_show_number d_show_number
  b_show_number:Binds K d_show_number ["number"] []
  m_show_number:mg "show_number"=some (.ref a_show_number)
  a_law_cell_at:Addr
  d_law_cell_at:FuncData
  F_law_cell_at:Fun K "_law_cell_at" "_law_cell_at" s_law_cell_at a_law_cell_at d_law_cell_at
  b_law_cell_at:Binds K d_law_cell_at ["_law_script","_law_k"] []
  m_law_cell_at:mg "_law_cell_at"=some (.ref a_law_cell_at)
  a_law_shared:Addr
  d_law_shared:FuncData
  F_law_shared:Fun K "_law_shared" "_law_shared" s_law_shared a_law_shared d_law_shared
  b_law_shared:Binds K d_law_shared ["_law_one","_law_other"] []
  m_law_shared:mg "_law_shared"=some (.ref a_law_shared)
  a_law_odd:Addr
  d_law_odd:FuncData
  F_law_odd:Fun K "_law_odd" "_law_odd" s_law_odd a_law_odd d_law_odd
  b_law_odd:Binds K d_law_odd ["_law_cell"] []
  m_law_odd:mg "_law_odd"=some (.ref a_law_odd)
  a_law_changed:Addr
  d_law_changed:FuncData
  F_law_changed:Fun K "_law_changed" "_law_changed" s_law_changed a_law_changed d_law_changed
  b_law_changed:Binds K d_law_changed ["_law_word","_law_cell"] []
  m_law_changed:mg "_law_changed"=some (.ref a_law_changed)
  a_law_whole:Addr
  d_law_whole:FuncData
  F_law_whole:Fun K "_law_whole" "_law_whole" s_law_whole a_law_whole d_law_whole
  b_law_whole:Binds K d_law_whole ["_law_word"] []
  m_law_whole:mg "_law_whole"=some (.ref a_law_whole)
  a_law_due:Addr
  d_law_due:FuncData
  F_law_due:Fun K "_law_due" "_law_due" s_law_due a_law_due d_law_due
  b_law_due:Binds K d_law_due ["_law_word"] []
  m_law_due:mg "_law_due"=some (.ref a_law_due)
  a_law_told:Addr
  d_law_told:FuncData
  F_law_told:Fun K "_law_told" "_law_told" s_law_told a_law_told d_law_told
  b_law_told:Binds K d_law_told ["_law_word"] []
  m_law_told:mg "_law_told"=some (.ref a_law_told)
  a_law_kinds:Addr
  d_law_kinds:FuncData
  F_law_kinds:Fun K "_law_kinds" "_law_kinds" s_law_kinds a_law_kinds d_law_kinds
  b_law_kinds:Binds K d_law_kinds ["_law_one"] []
  m_law_kinds:mg "_law_kinds"=some (.ref a_law_kinds)
  a_law_far:Addr
  d_law_far:FuncData
  F_law_far:Fun K "_law_far" "_law_far" s_law_far a_law_far d_law_far
  b_law_far:Binds K d_law_far ["_law_script"] []
  m_law_far:mg "_law_far"=some (.ref a_law_far)
  a_law:Addr
  d_law:FuncData
  F_law:Fun K "law" "law" s_law a_law d_law
  b_law:Binds K d_law ["_law_script"] []
  m_law:mg "law"=some (.ref a_law)
  k_FIGURES:Tok
  m_FIGURES:mg "FIGURES"=some (.str "0123456789" k_FIGURES)
  k_MOST_FIGURES:Tok
  m_MOST_FIGURES:mg "MOST_FIGURES"=some (.int (6) k_MOST_FIGURES)
  c_NoWish:Addr
  m_NoWish:mg "NoWish"=some (.ref c_NoWish)
  q_NoWish:PySem.W.excIn K c_NoWish [.type "ValueError",.type "Exception",.type "BaseException",.type "object"] "ValueError.__new__"=true
  c_FrameError:Addr
  m_FrameError:mg "FrameError"=some (.ref c_FrameError)
  q_FrameError:PySem.W.excIn K c_FrameError [.type "ValueError",.type "Exception",.type "BaseException",.type "object"] "ValueError.__new__"=true
  c_Mixed:Addr
  m_Mixed:mg "Mixed"=some (.ref c_Mixed)
  q_Mixed:PySem.W.excIn K c_Mixed [.type "ValueError",.type "Exception",.type "BaseException",.type "object"] "ValueError.__new__"=true
  c_NoLine:Addr
  m_NoLine:mg "NoLine"=some (.ref c_NoLine)
  q_NoLine:PySem.W.excIn K c_NoLine [.type "ValueError",.type "Exception",.type "BaseException",.type "object"] "ValueError.__new__"=true
  c_NoPart:Addr
  m_NoPart:mg "NoPart"=some (.ref c_NoPart)
  q_NoPart:PySem.W.excIn K c_NoPart [.type "ValueError",.type "Exception",.type "BaseException",.type "object"] "ValueError.__new__"=true
  x_NoWish:ExcK K c_NoWish
  ki_NoWish_FrameError:PySem.W.kitOne K (.ref c_NoWish) (.ref c_FrameError)=some true
  kt_NoWish_Mixed_NoLine_NoPart:PySem.W.kitAny K (.ref c_NoWish) [.ref c_Mixed,.ref c_NoLine,.ref c_NoPart]=some false
  em_NoWish_NoWish:PySem.W.exmOne K (.ref c_NoWish) (.ref c_NoWish)=some true
  z_abs:mg "abs"=none
  z_len:mg "len"=none
  z_all:mg "all"=none
  z_list:mg "list"=none
  z_int:mg "int"=none
  z_str:mg "str"=none
  z_isinstance:mg "isinstance"=none
  z_tuple:mg "tuple"=none
  z_bool:mg "bool"=none
def tx_mk {K:PySem.W.Frag} {h:Heap} {mg:Str→Option Value} (X:K.In h) (G:h.Ns mainGlobals mg)
    {f0:Addr} {od0 an0:Option Addr} {sl0:Array (Option Value)} {oc0 kV0 dc0 pm0 cd0 ct0:Value}
    {f1:Addr} {od1 an1:Option Addr} {sl1:Array (Option Value)} {oc1 kV1 dc1 pm1 cd1 ct1:Value}
    {f2:Addr} {od2 an2:Option Addr} {sl2:Array (Option Value)} {oc2 kV2 dc2 pm2 cd2 ct2:Value}
    {f3:Addr} {od3 an3:Option Addr} {sl3:Array (Option Value)} {oc3 kV3 dc3 pm3 cd3 ct3:Value}
    {f4:Addr} {od4 an4:Option Addr} {sl4:Array (Option Value)} {oc4 kV4 dc4 pm4 cd4 ct4:Value}
    {f5:Addr} {od5 an5:Option Addr} {sl5:Array (Option Value)} {oc5 kV5 dc5 pm5 cd5 ct5:Value}
    {f6:Addr} {od6 an6:Option Addr} {sl6:Array (Option Value)} {oc6 kV6 dc6 pm6 cd6 ct6:Value}
    {f7:Addr} {od7 an7:Option Addr} {sl7:Array (Option Value)} {oc7 kV7 dc7 pm7 cd7 ct7:Value}
    {f8:Addr} {od8 an8:Option Addr} {sl8:Array (Option Value)} {oc8 kV8 dc8 pm8 cd8 ct8:Value}
    {f9:Addr} {od9 an9:Option Addr} {sl9:Array (Option Value)} {oc9 kV9 dc9 pm9 cd9 ct9:Value}
    {f10:Addr} {od10 an10:Option Addr} {sl10:Array (Option Value)} {oc10 kV10 dc10 pm10 cd10 ct10:Value}
    {f11:Addr} {od11 an11:Option Addr} {sl11:Array (Option Value)} {oc11 kV11 dc11 pm11 cd11 ct11:Value}
    {f12:Addr} {od12 an12:Option Addr} {sl12:Array (Option Value)} {oc12 kV12 dc12 pm12 cd12 ct12:Value}
    {f13:Addr} {od13 an13:Option Addr} {sl13:Array (Option Value)} {oc13 kV13 dc13 pm13 cd13 ct13:Value}
    {f14:Addr} {od14 an14:Option Addr} {sl14:Array (Option Value)} {oc14 kV14 dc14 pm14 cd14 ct14:Value}
    {yk_FIGURES:Tok}
    {yk_MOST_FIGURES:Tok}
    {x_NoWish:Addr}
    {x_FrameError:Addr}
    {x_Mixed:Addr}
    {x_NoLine:Addr}
    {x_NoPart:Addr}
    (e0:PySem.W.nsIn K mainGlobals "part"=some (some (.ref f0)))
    (l0:K.lookup f0=some ⟨oc0,od0,.func (PySem.W.fnOf "part" "part" (defArgs s_part) (defBody s_part) (defScope s_part) .none kV0 dc0 pm0 an0 cd0 ct0),sl0⟩)
    (c0:PySem.W.codeIn K cd0 "part"=true)
    (k0:PySem.W.keepIn K (.ref f0)=true)
    (e1:PySem.W.nsIn K mainGlobals "greatest_divisor"=some (some (.ref f1)))
    (l1:K.lookup f1=some ⟨oc1,od1,.func (PySem.W.fnOf "greatest_divisor" "greatest_divisor" (defArgs s_greatest_divisor) (defBody s_greatest_divisor) (defScope s_greatest_divisor) .none kV1 dc1 pm1 an1 cd1 ct1),sl1⟩)
    (c1:PySem.W.codeIn K cd1 "greatest_divisor"=true)
    (k1:PySem.W.keepIn K (.ref f1)=true)
    (e2:PySem.W.nsIn K mainGlobals "is_whole"=some (some (.ref f2)))
    (l2:K.lookup f2=some ⟨oc2,od2,.func (PySem.W.fnOf "is_whole" "is_whole" (defArgs s_is_whole) (defBody s_is_whole) (defScope s_is_whole) .none kV2 dc2 pm2 an2 cd2 ct2),sl2⟩)
    (c2:PySem.W.codeIn K cd2 "is_whole"=true)
    (k2:PySem.W.keepIn K (.ref f2)=true)
    (e3:PySem.W.nsIn K mainGlobals "read_number"=some (some (.ref f3)))
    (l3:K.lookup f3=some ⟨oc3,od3,.func (PySem.W.fnOf "read_number" "read_number" (defArgs s_read_number) (defBody s_read_number) (defScope s_read_number) .none kV3 dc3 pm3 an3 cd3 ct3),sl3⟩)
    (c3:PySem.W.codeIn K cd3 "read_number"=true)
    (k3:PySem.W.keepIn K (.ref f3)=true)
    (e4:PySem.W.nsIn K mainGlobals "show_number"=some (some (.ref f4)))
    (l4:K.lookup f4=some ⟨oc4,od4,.func (PySem.W.fnOf "show_number" "show_number" (defArgs s_show_number) (defBody s_show_number) (defScope s_show_number) .none kV4 dc4 pm4 an4 cd4 ct4),sl4⟩)
    (c4:PySem.W.codeIn K cd4 "show_number"=true)
    (k4:PySem.W.keepIn K (.ref f4)=true)
    (e5:PySem.W.nsIn K mainGlobals "_law_cell_at"=some (some (.ref f5)))
    (l5:K.lookup f5=some ⟨oc5,od5,.func (PySem.W.fnOf "_law_cell_at" "_law_cell_at" (defArgs s_law_cell_at) (defBody s_law_cell_at) (defScope s_law_cell_at) .none kV5 dc5 pm5 an5 cd5 ct5),sl5⟩)
    (c5:PySem.W.codeIn K cd5 "_law_cell_at"=true)
    (k5:PySem.W.keepIn K (.ref f5)=true)
    (e6:PySem.W.nsIn K mainGlobals "_law_shared"=some (some (.ref f6)))
    (l6:K.lookup f6=some ⟨oc6,od6,.func (PySem.W.fnOf "_law_shared" "_law_shared" (defArgs s_law_shared) (defBody s_law_shared) (defScope s_law_shared) .none kV6 dc6 pm6 an6 cd6 ct6),sl6⟩)
    (c6:PySem.W.codeIn K cd6 "_law_shared"=true)
    (k6:PySem.W.keepIn K (.ref f6)=true)
    (e7:PySem.W.nsIn K mainGlobals "_law_odd"=some (some (.ref f7)))
    (l7:K.lookup f7=some ⟨oc7,od7,.func (PySem.W.fnOf "_law_odd" "_law_odd" (defArgs s_law_odd) (defBody s_law_odd) (defScope s_law_odd) .none kV7 dc7 pm7 an7 cd7 ct7),sl7⟩)
    (c7:PySem.W.codeIn K cd7 "_law_odd"=true)
    (k7:PySem.W.keepIn K (.ref f7)=true)
    (e8:PySem.W.nsIn K mainGlobals "_law_changed"=some (some (.ref f8)))
    (l8:K.lookup f8=some ⟨oc8,od8,.func (PySem.W.fnOf "_law_changed" "_law_changed" (defArgs s_law_changed) (defBody s_law_changed) (defScope s_law_changed) .none kV8 dc8 pm8 an8 cd8 ct8),sl8⟩)
    (c8:PySem.W.codeIn K cd8 "_law_changed"=true)
    (k8:PySem.W.keepIn K (.ref f8)=true)
    (e9:PySem.W.nsIn K mainGlobals "_law_whole"=some (some (.ref f9)))
    (l9:K.lookup f9=some ⟨oc9,od9,.func (PySem.W.fnOf "_law_whole" "_law_whole" (defArgs s_law_whole) (defBody s_law_whole) (defScope s_law_whole) .none kV9 dc9 pm9 an9 cd9 ct9),sl9⟩)
    (c9:PySem.W.codeIn K cd9 "_law_whole"=true)
    (k9:PySem.W.keepIn K (.ref f9)=true)
    (e10:PySem.W.nsIn K mainGlobals "_law_due"=some (some (.ref f10)))
    (l10:K.lookup f10=some ⟨oc10,od10,.func (PySem.W.fnOf "_law_due" "_law_due" (defArgs s_law_due) (defBody s_law_due) (defScope s_law_due) .none kV10 dc10 pm10 an10 cd10 ct10),sl10⟩)
    (c10:PySem.W.codeIn K cd10 "_law_due"=true)
    (k10:PySem.W.keepIn K (.ref f10)=true)
    (e11:PySem.W.nsIn K mainGlobals "_law_told"=some (some (.ref f11)))
    (l11:K.lookup f11=some ⟨oc11,od11,.func (PySem.W.fnOf "_law_told" "_law_told" (defArgs s_law_told) (defBody s_law_told) (defScope s_law_told) .none kV11 dc11 pm11 an11 cd11 ct11),sl11⟩)
    (c11:PySem.W.codeIn K cd11 "_law_told"=true)
    (k11:PySem.W.keepIn K (.ref f11)=true)
    (e12:PySem.W.nsIn K mainGlobals "_law_kinds"=some (some (.ref f12)))
    (l12:K.lookup f12=some ⟨oc12,od12,.func (PySem.W.fnOf "_law_kinds" "_law_kinds" (defArgs s_law_kinds) (defBody s_law_kinds) (defScope s_law_kinds) .none kV12 dc12 pm12 an12 cd12 ct12),sl12⟩)
    (c12:PySem.W.codeIn K cd12 "_law_kinds"=true)
    (k12:PySem.W.keepIn K (.ref f12)=true)
    (e13:PySem.W.nsIn K mainGlobals "_law_far"=some (some (.ref f13)))
    (l13:K.lookup f13=some ⟨oc13,od13,.func (PySem.W.fnOf "_law_far" "_law_far" (defArgs s_law_far) (defBody s_law_far) (defScope s_law_far) .none kV13 dc13 pm13 an13 cd13 ct13),sl13⟩)
    (c13:PySem.W.codeIn K cd13 "_law_far"=true)
    (k13:PySem.W.keepIn K (.ref f13)=true)
    (e14:PySem.W.nsIn K mainGlobals "law"=some (some (.ref f14)))
    (l14:K.lookup f14=some ⟨oc14,od14,.func (PySem.W.fnOf "law" "law" (defArgs s_law) (defBody s_law) (defScope s_law) .none kV14 dc14 pm14 an14 cd14 ct14),sl14⟩)
    (c14:PySem.W.codeIn K cd14 "law"=true)
    (k14:PySem.W.keepIn K (.ref f14)=true)
    (yi_FIGURES:PySem.W.nsIn K mainGlobals "FIGURES"=some (some (.str "0123456789" yk_FIGURES)))
    (yi_MOST_FIGURES:PySem.W.nsIn K mainGlobals "MOST_FIGURES"=some (some (.int (6) yk_MOST_FIGURES)))
    (xn_NoWish:PySem.W.nsIn K mainGlobals "NoWish"=some (some (.ref x_NoWish)))
    (xq_NoWish:PySem.W.excIn K x_NoWish [.type "ValueError",.type "Exception",.type "BaseException",.type "object"] "ValueError.__new__"=true)
    (xn_FrameError:PySem.W.nsIn K mainGlobals "FrameError"=some (some (.ref x_FrameError)))
    (xq_FrameError:PySem.W.excIn K x_FrameError [.type "ValueError",.type "Exception",.type "BaseException",.type "object"] "ValueError.__new__"=true)
    (xn_Mixed:PySem.W.nsIn K mainGlobals "Mixed"=some (some (.ref x_Mixed)))
    (xq_Mixed:PySem.W.excIn K x_Mixed [.type "ValueError",.type "Exception",.type "BaseException",.type "object"] "ValueError.__new__"=true)
    (xn_NoLine:PySem.W.nsIn K mainGlobals "NoLine"=some (some (.ref x_NoLine)))
    (xq_NoLine:PySem.W.excIn K x_NoLine [.type "ValueError",.type "Exception",.type "BaseException",.type "object"] "ValueError.__new__"=true)
    (xn_NoPart:PySem.W.nsIn K mainGlobals "NoPart"=some (some (.ref x_NoPart)))
    (xq_NoPart:PySem.W.excIn K x_NoPart [.type "ValueError",.type "Exception",.type "BaseException",.type "object"] "ValueError.__new__"=true)
    (yfg_NoWish:PySem.W.findIn K (.ref x_NoWish) "__getattribute__"=some (some (.builtin "BaseException.__getattribute__")))
    (yfn_NoWish:PySem.W.findIn K (.ref x_NoWish) "__getattr__"=some none)
    (yfc_NoWish:PySem.W.findIn K (.ref x_NoWish) "__class__"=some (some (.builtin "object.__class__")))
    (ymo_NoWish:PySem.W.mroIn K x_NoWish (.type "object")=some true)
    (ysb_NoWish:PySem.W.subIn K (.ref x_NoWish) (.type "BaseException")=some true)
    (xk_NoWish_FrameError:PySem.W.kitOne K (.ref x_NoWish) (.ref x_FrameError)=some true)
    (xkt_NoWish_Mixed_NoLine_NoPart:PySem.W.kitAny K (.ref x_NoWish) [.ref x_Mixed,.ref x_NoLine,.ref x_NoPart]=some false)
    (xm_NoWish_NoWish:PySem.W.exmOne K (.ref x_NoWish) (.ref x_NoWish)=some true)
    (z0:PySem.W.nsIn K mainGlobals "abs"=some none)
    (z1:PySem.W.nsIn K mainGlobals "len"=some none)
    (z2:PySem.W.nsIn K mainGlobals "all"=some none)
    (z3:PySem.W.nsIn K mainGlobals "list"=some none)
    (z4:PySem.W.nsIn K mainGlobals "int"=some none)
    (z5:PySem.W.nsIn K mainGlobals "str"=some none)
    (z6:PySem.W.nsIn K mainGlobals "isinstance"=some none)
    (z7:PySem.W.nsIn K mainGlobals "tuple"=some none)
    (z8:PySem.W.nsIn K mainGlobals "bool"=some none)
    : Tx K mg where
  a_part:=f0
  d_part:=_
  F_part:=a'k (st:=s_part) l0 c0 k0
  b_part:=(a'k (st:=s_part) l0 c0 k0).binds (ps:=["top","bottom"]) fun _ _ _ _ _ _ us hl=>match us,hl with | [_,_],_=>rfl
  m_part:=PySem.W.mg_of X G e0
  a_greatest_divisor:=f1
  d_greatest_divisor:=_
  F_greatest_divisor:=a'k (st:=s_greatest_divisor) l1 c1 k1
  b_greatest_divisor:=(a'k (st:=s_greatest_divisor) l1 c1 k1).binds (ps:=["one","other"]) fun _ _ _ _ _ _ us hl=>match us,hl with | [_,_],_=>rfl
  m_greatest_divisor:=PySem.W.mg_of X G e1
  a_is_whole:=f2
  d_is_whole:=_
  F_is_whole:=a'k (st:=s_is_whole) l2 c2 k2
  b_is_whole:=(a'k (st:=s_is_whole) l2 c2 k2).binds (ps:=["word","most"]) fun _ _ _ _ _ _ us hl=>match us,hl with | [_,_],_=>rfl
  m_is_whole:=PySem.W.mg_of X G e2
  a_read_number:=f3
  d_read_number:=_
  F_read_number:=a'k (st:=s_read_number) l3 c3 k3
  b_read_number:=(a'k (st:=s_read_number) l3 c3 k3).binds (ps:=["word"]) fun _ _ _ _ _ _ us hl=>match us,hl with | [_],_=>rfl
  m_read_number:=PySem.W.mg_of X G e3
  a_show_number:=f4
  d_show_number:=_
  F_show_number:=a'k (st:=s_show_number) l4 c4 k4
  b_show_number:=(a'k (st:=s_show_number) l4 c4 k4).binds (ps:=["number"]) fun _ _ _ _ _ _ us hl=>match us,hl with | [_],_=>rfl
  m_show_number:=PySem.W.mg_of X G e4
  a_law_cell_at:=f5
  d_law_cell_at:=_
  F_law_cell_at:=a'k (st:=s_law_cell_at) l5 c5 k5
  b_law_cell_at:=(a'k (st:=s_law_cell_at) l5 c5 k5).binds (ps:=["_law_script","_law_k"]) fun _ _ _ _ _ _ us hl=>match us,hl with | [_,_],_=>rfl
  m_law_cell_at:=PySem.W.mg_of X G e5
  a_law_shared:=f6
  d_law_shared:=_
  F_law_shared:=a'k (st:=s_law_shared) l6 c6 k6
  b_law_shared:=(a'k (st:=s_law_shared) l6 c6 k6).binds (ps:=["_law_one","_law_other"]) fun _ _ _ _ _ _ us hl=>match us,hl with | [_,_],_=>rfl
  m_law_shared:=PySem.W.mg_of X G e6
  a_law_odd:=f7
  d_law_odd:=_
  F_law_odd:=a'k (st:=s_law_odd) l7 c7 k7
  b_law_odd:=(a'k (st:=s_law_odd) l7 c7 k7).binds (ps:=["_law_cell"]) fun _ _ _ _ _ _ us hl=>match us,hl with | [_],_=>rfl
  m_law_odd:=PySem.W.mg_of X G e7
  a_law_changed:=f8
  d_law_changed:=_
  F_law_changed:=a'k (st:=s_law_changed) l8 c8 k8
  b_law_changed:=(a'k (st:=s_law_changed) l8 c8 k8).binds (ps:=["_law_word","_law_cell"]) fun _ _ _ _ _ _ us hl=>match us,hl with | [_,_],_=>rfl
  m_law_changed:=PySem.W.mg_of X G e8
  a_law_whole:=f9
  d_law_whole:=_
  F_law_whole:=a'k (st:=s_law_whole) l9 c9 k9
  b_law_whole:=(a'k (st:=s_law_whole) l9 c9 k9).binds (ps:=["_law_word"]) fun _ _ _ _ _ _ us hl=>match us,hl with | [_],_=>rfl
  m_law_whole:=PySem.W.mg_of X G e9
  a_law_due:=f10
  d_law_due:=_
  F_law_due:=a'k (st:=s_law_due) l10 c10 k10
  b_law_due:=(a'k (st:=s_law_due) l10 c10 k10).binds (ps:=["_law_word"]) fun _ _ _ _ _ _ us hl=>match us,hl with | [_],_=>rfl
  m_law_due:=PySem.W.mg_of X G e10
  a_law_told:=f11
  d_law_told:=_
  F_law_told:=a'k (st:=s_law_told) l11 c11 k11
  b_law_told:=(a'k (st:=s_law_told) l11 c11 k11).binds (ps:=["_law_word"]) fun _ _ _ _ _ _ us hl=>match us,hl with | [_],_=>rfl
  m_law_told:=PySem.W.mg_of X G e11
  a_law_kinds:=f12
  d_law_kinds:=_
  F_law_kinds:=a'k (st:=s_law_kinds) l12 c12 k12
  b_law_kinds:=(a'k (st:=s_law_kinds) l12 c12 k12).binds (ps:=["_law_one"]) fun _ _ _ _ _ _ us hl=>match us,hl with | [_],_=>rfl
  m_law_kinds:=PySem.W.mg_of X G e12
  a_law_far:=f13
  d_law_far:=_
  F_law_far:=a'k (st:=s_law_far) l13 c13 k13
  b_law_far:=(a'k (st:=s_law_far) l13 c13 k13).binds (ps:=["_law_script"]) fun _ _ _ _ _ _ us hl=>match us,hl with | [_],_=>rfl
  m_law_far:=PySem.W.mg_of X G e13
  a_law:=f14
  d_law:=_
  F_law:=a'k (st:=s_law) l14 c14 k14
  b_law:=(a'k (st:=s_law) l14 c14 k14).binds (ps:=["_law_script"]) fun _ _ _ _ _ _ us hl=>match us,hl with | [_],_=>rfl
  m_law:=PySem.W.mg_of X G e14
  k_FIGURES:=yk_FIGURES
  m_FIGURES:=PySem.W.mg_of X G yi_FIGURES
  k_MOST_FIGURES:=yk_MOST_FIGURES
  m_MOST_FIGURES:=PySem.W.mg_of X G yi_MOST_FIGURES
  c_NoWish:=x_NoWish
  m_NoWish:=PySem.W.mg_of X G xn_NoWish
  q_NoWish:=xq_NoWish
  c_FrameError:=x_FrameError
  m_FrameError:=PySem.W.mg_of X G xn_FrameError
  q_FrameError:=xq_FrameError
  c_Mixed:=x_Mixed
  m_Mixed:=PySem.W.mg_of X G xn_Mixed
  q_Mixed:=xq_Mixed
  c_NoLine:=x_NoLine
  m_NoLine:=PySem.W.mg_of X G xn_NoLine
  q_NoLine:=xq_NoLine
  c_NoPart:=x_NoPart
  m_NoPart:=PySem.W.mg_of X G xn_NoPart
  q_NoPart:=xq_NoPart
  x_NoWish:=⟨yfg_NoWish,yfn_NoWish,yfc_NoWish,ymo_NoWish,ysb_NoWish⟩
  ki_NoWish_FrameError:=xk_NoWish_FrameError
  kt_NoWish_Mixed_NoLine_NoPart:=xkt_NoWish_Mixed_NoLine_NoPart
  em_NoWish_NoWish:=xm_NoWish_NoWish
  z_abs:=PySem.W.mg_none_of X G z0
  z_len:=PySem.W.mg_none_of X G z1
  z_all:=PySem.W.mg_none_of X G z2
  z_list:=PySem.W.mg_none_of X G z3
  z_int:=PySem.W.mg_none_of X G z4
  z_str:=PySem.W.mg_none_of X G z5
  z_isinstance:=PySem.W.mg_none_of X G z6
  z_tuple:=PySem.W.mg_none_of X G z7
  z_bool:=PySem.W.mg_none_of X G z8
def tx (L:List Nat):Str:=⟨L.toArray⟩
theorem c'C (x:Str):tx x.cps.toList=x:=by cases x;rfl
theorem a'y (L:List Nat):(tx L).cps.toList=L:=rfl
theorem o'C {L M:List Nat}:tx L=tx M↔L=M:=⟨fun h=>by rw [← a'y L,h,a'y],fun h=>by rw [h]⟩
theorem b'r (L M:List Nat):tx L++tx M=tx (L++M):=by
  show (⟨L.toArray++M.toArray⟩:Str)=⟨(L++M).toArray⟩
  rw [List.append_toArray]
theorem a'l (L:List Nat):(tx L).length=L.length:=by show L.toArray.size=_;rw [List.size_toArray]
def dig (L:List Nat):Bool:=L.all fun c=>decide (48≤c) && decide (c≤57)
def whole (n:Nat) (L:List Nat):Bool:=!decide (L=[]) && (decide (L.length≤n) && (dig L && (decide (L=[48]) || !decide (L.head?=some 48))))
abbrev vl (L:List Nat):Nat:=NumText.digitsVal L
def dgs (n:Nat):List Nat:=(Nat.toDigits 10 n).map Char.toNat
theorem b'W {L:List Nat} (h:dig L=true):NumText.AllDigits L:=fun c m=>by
  have:=List.all_eq_true.mp h c m
  simpa using this
theorem g'f {L:List Nat} (h:NumText.AllDigits L):(L.map Char.ofNat).map Char.toNat=L:=by
  rw [List.map_map]
  conv=>rhs;rw [← List.map_id L]
  refine List.map_congr_left fun c m=>?_
  have:=h c m
  show (Char.ofNat c).toNat=c
  have h4:c=48∨c=49∨c=50∨c=51∨c=52∨c=53∨c=54∨c=55∨c=56∨c=57:=by omega
  rcases h4 with h | h | h | h | h | h | h | h | h | h<;>subst h<;>rfl
theorem a'I {n:Nat} {L:List Nat} (h:whole n L=true):L≠[]∧L.length≤n∧dig L=true∧(L=[48]∨¬ L.head?=some 48):=by
  unfold whole at h
  simpa using h
theorem c'u {n:Nat} {L:List Nat} (h:whole n L=true):dgs (vl L)=L:=by
  obtain⟨h1,_,h3,h4⟩:=a'I h
  have a:=b'W h3
  unfold dgs vl
  rw [NumText.toDigits_digitsVal (L.length - 1) L (by have:=List.length_pos_iff.mpr h1;omega) a ?_,g'f a]
  rcases h4 with h4 | h4
  · left;rw [h4];rfl
  · right
    cases L with
    | nil=>exact absurd rfl h1
    | cons c r=>
      refine⟨c,r,rfl,?_⟩
      have:=a c List.mem_cons_self
      have:¬ c=48:=fun z=>h4 (by rw [z];rfl)
      omega
theorem a'W (n:Nat):vl (dgs n)=n:=W.KIN.val_back n
theorem p'D {n m:Nat} (h:dgs n=dgs m):n=m:=by rw [← a'W n,h,a'W]
theorem b'g (n:Nat):∀ c∈dgs n,48≤c∧c≤57:=fun c m=>by
  unfold dgs at m
  obtain⟨d,hd,rfl⟩:=List.mem_map.mp m
  have:=Nat.isDigit_of_mem_toDigits (by decide) (by decide) hd
  unfold Char.isDigit at this
  simp at this
  have h1:=this.1
  have h2:=this.2
  constructor
  · exact h1
  · exact h2
def dec (a:Int):List Nat:=if a<0 then 45 :: dgs a.natAbs else dgs a.natAbs
theorem f'J (m:Nat):Str.ofString (toString (m:Int))=tx (dgs m):=by
  rw [← c'C (Str.ofString (toString (m:Int))),W.KIN.signs_num];rfl
theorem i'A (s:String):Str.ofString ("-"++s)=tx (45 :: (Str.ofString s).cps.toList):=by
  unfold Str.ofString
  rw [String.toByteArray_append]
  simp
  have e:"-".toByteArray.data.toList=[45]:=by decide
  rw [e]
  show (⟨(cpsOfBytes 0 0 (45 :: s.toByteArray.data.toList)).toArray⟩:Str)=⟨(45 :: cpsOfBytes 0 0 s.toByteArray.data.toList).toArray⟩
  congr 2
theorem m'x (a:Int):Str.ofString (toString a)=tx (dec a):=by
  unfold dec
  by_cases h:a<0
  · rw [if_pos h,PyProof.Rows.toString_neg h,i'A]
    have e:0 - a=(a.natAbs:Int):=by omega
    rw [e,f'J,a'y]
  · rw [if_neg h]
    have e:a=(a.natAbs:Int):=by omega
    conv=>lhs;rw [e]
    exact f'J _

def splitL (c:Nat):List Nat→List (List Nat)
  | [] => [[]]
  | x :: r => if x = c then [] :: splitL c r else match splitL c r with | [] => [[x]] | p :: ps => (x :: p) :: ps
def inter (c:Nat):List (List Nat)→List Nat
  | [] => []
  | [p] => p
  | p :: ps => p ++ c :: inter c ps
theorem a'J (c:Nat) (L:List Nat):splitL c L≠[]:=by
  cases L with
  | nil => exact fun z => nomatch z
  | cons x r =>
    unfold splitL
    split
    · exact fun z=>nomatch z
    · split<;>exact fun z=>nomatch z
theorem a'K {c:Nat}:∀ {p r:List Nat},c ∉ p→splitL c (p++c :: r)=p :: splitL c r
  | [], r, _ => by
    have e:splitL c (c :: r)=if c=c then [] :: splitL c r else match splitL c r with | []=>[[c]] | p :: ps=>(c :: p) :: ps:=rfl
    show splitL c (c :: r)=_
    rw [e,if_pos rfl]
  | x :: p, r, h => by
    have hx:¬ x=c:=fun z=>h (by rw [z];exact List.mem_cons_self)
    have ih:=a'K (p:=p) (r:=r) fun z=>h (List.mem_cons_of_mem _ z)
    have e:splitL c (x :: (p++c :: r))=if x=c then [] :: splitL c (p++c :: r) else match splitL c (p++c :: r) with | []=>[[x]] | p :: ps=>(x :: p) :: ps:=rfl
    show splitL c (x :: (p++c :: r))=_
    rw [e,if_neg hx,ih]
theorem a'x {c:Nat}:∀ {p:List Nat},c ∉ p→splitL c p=[p]
  | [], _ => rfl
  | x :: p, h => by
    have hx:¬ x=c:=fun z=>h (by rw [z];exact List.mem_cons_self)
    have e:splitL c (x :: p)=if x=c then [] :: splitL c p else match splitL c p with | []=>[[x]] | p :: ps=>(x :: p) :: ps:=rfl
    rw [e,if_neg hx,a'x (p:=p) fun z=>h (List.mem_cons_of_mem _ z)]
theorem b'N {c:Nat}:∀ {ps:List (List Nat)},ps≠[]→(∀ p∈ps,c ∉ p)→splitL c (inter c ps)=ps
  | [], h, _ => absurd rfl h
  | [p], _, h => a'x (h p List.mem_cons_self)
  | p :: q :: ps, _, h => by
    show splitL c (p++c :: inter c (q :: ps))=_
    rw [a'K (h p List.mem_cons_self),b'N (ps:=q :: ps) (fun z=>nomatch z) fun r m=>h r (List.mem_cons_of_mem _ m)]
theorem c'v (c:Nat):∀ (ps:List (List Nat)) (a:List Nat),(ps.foldl (fun acc p=>acc++[c]++p) a)=inter c (a :: ps)
  | [], a => rfl
  | p :: ps, a => by
    rw [List.foldl_cons,c'v c ps (a++[c]++p)]
    show inter c ((a++[c]++p) :: ps)=a++c :: inter c (p :: ps)
    cases ps with
    | nil=>show a++[c]++p=a++c :: p;simp
    | cons q ps=>show a++[c]++p++c :: inter c (q :: ps)=a++c :: (p++c :: inter c (q :: ps));simp
theorem g'g (c:Nat):∀ (ps:List Str) (a:Array Nat),(ps.foldl (fun acc p=>acc++(tx [c]).cps++p.cps) a).toList=inter c (a.toList :: ps.map (·.cps.toList)):=by
  intro ps a
  rw [← c'v]
  induction ps generalizing a with
  | nil => rfl
  | cons p ps ih =>
    rw [List.foldl_cons,List.map_cons,List.foldl_cons,ih]
    simp [tx]
theorem j'B (x:Str) (c:Nat):Txt.split x (tx [c])=(splitL c x.cps.toList).map tx:=by
  have ne:Txt.split x (tx [c])≠[]:=by
    unfold Txt.split
    split
    · exact fun z=>nomatch z
    · split
      · exact fun z=>nomatch z
      · rw [StrLaws.partsBetween_eq]
        unfold StrLaws.partsFrom
        split<;>exact fun z=>nomatch z
  have gl:inter c ((Txt.split x (tx [c])).map (·.cps.toList))=x.cps.toList:=by
    unfold Txt.split
    split
    · rfl
    · split
      · rfl
      · have g:=StrLaws.glued_between_self x (tx [c]) (x.length+1)
        have hl:(tx [c]).length=1:=rfl
        generalize Builtin.Str.partsBetween x (Builtin.Str.occurrences x (tx [c]) 0 x.length (x.length+1)) (tx [c]).length=ps at g
        unfold Builtin.Str.glued at g
        cases ps with
        | nil=>rw [← g];rfl
        | cons p ps=>
          have g2:=g'g c ps p.cps
          rw [← g]
          exact g2.symm
  have fr:∀ p∈(Txt.split x (tx [c])).map (·.cps.toList),c ∉ p:=fun p m=>by
    obtain⟨q,hq,rfl⟩:=List.mem_map.mp m
    exact StrLaws.split_free x c q hq
  have e:=b'N (by intro z;exact ne (List.map_eq_nil_iff.mp z)) fr
  rw [gl] at e
  rw [e,List.map_map]
  conv=>lhs;rw [← List.map_id (Txt.split x (tx [c]))]
  exact List.map_congr_left fun q _=>(c'C q).symm

def neg (L:List Nat):Bool:=decide (L.head?=some 45)
def strip (L:List Nat):List Nat:=if L.head?=some 45 then L.tail else L
def sgn (L:List Nat) (n:Nat):Int:=if L.head?=some 45 then -(n:Int) else n
/-- the fraction that a word writes -/
def dueR (L:List Nat):Option (Int×Int):=match splitL 47 (strip L) with
  | [t] => if whole 6 t = true ∧ ¬ (vl t = 0 ∧ L.head? = some 45) then some (sgn L (vl t), 1) else none
  | [t, b] => if whole 6 t = true ∧ whole 6 b = true ∧ 2 ≤ vl b ∧ Nat.gcd (vl t) (vl b) = 1 ∧ ¬ (vl t = 0 ∧ L.head? = some 45) then some (sgn L (vl t), vl b) else none
  | _ => none
def shw (q:Rat):List Nat:=if q.den=1 then dec q.num else dec q.num++47 :: dgs q.den
theorem b'I (a:Int):47 ∉ dec a:=fun m=>by
  unfold dec at m
  split at m
  · rcases List.mem_cons.mp m with h | h
    · cases h
    · have:=b'g _ _ h;omega
  · have:=b'g _ _ m;omega
theorem d'Z (n:Nat):47 ∉ dgs n:=fun m=>by have:=b'g _ _ m;omega
theorem i'B (n:Nat):dgs n≠[]:=fun h=>by
  have e:=a'W n
  rw [h] at e
  have e:0=n:=e
  subst e
  exact absurd h (by decide)
theorem j'C (n:Nat):¬ (dgs n).head?=some 45:=fun h=>by
  have:=b'g n 45 (List.mem_of_mem_head? h)
  omega
/-- a number's text, taken apart -/
theorem a'Z (a:Int):(dec a).head?=some 45↔a<0:=by
  unfold dec
  split
  · exact⟨fun _=>by assumption,fun _=>rfl⟩
  · rename_i h
    exact⟨fun z=>absurd z (j'C _),fun z=>absurd z h⟩
theorem b'O (a:Int):strip (dec a)=dgs a.natAbs:=by
  unfold strip
  by_cases h:a<0
  · rw [if_pos ((a'Z a).mpr h)]
    unfold dec
    rw [if_pos h];rfl
  · rw [if_neg (fun z=>h ((a'Z a).mp z))]
    unfold dec
    rw [if_neg h]
/-- the pieces of a word are those of what is behind its sign, with the sign -/
theorem e'j (L:List Nat):∃ p ps,splitL 47 L=p :: ps∧splitL 47 (strip L)=strip p :: ps∧p.head?=L.head?∨(splitL 47 L=p :: ps∧p=[]∧splitL 47 (strip L)=p :: ps∧¬ L.head?=some 45):=by
  cases L with
  | nil => exact ⟨[], [], .inr ⟨rfl, rfl, rfl, fun z => nomatch z⟩⟩
  | cons x r =>
    have e:splitL 47 (x :: r)=if x=47 then [] :: splitL 47 r else match splitL 47 r with | []=>[[x]] | p :: ps=>(x :: p) :: ps:=rfl
    by_cases h:x=47
    · rw [if_pos h] at e
      refine⟨[],splitL 47 r,.inr ⟨e,rfl,?_,?_⟩⟩
      · have hn:¬ (x :: r).head?=some 45:=fun z=>by rw [h] at z;cases z
        unfold strip
        rw [if_neg hn,e]
      · intro z;rw [h] at z;cases z
    · rw [if_neg h] at e
      cases hs:splitL 47 r with
      | nil=>exact absurd hs (a'J _ _)
      | cons p ps=>
        rw [hs] at e
        refine⟨x :: p,ps,.inl ⟨e,?_,rfl⟩⟩
        by_cases h5:x=45
        · subst h5
          show splitL 47 r=p :: ps
          exact hs
        · have hn:¬ (x :: r).head?=some 45:=fun z=>h5 (by simpa using z)
          have hn':¬ (x :: p).head?=some 45:=fun z=>h5 (by simpa using z)
          unfold strip
          rw [if_neg hn,if_neg hn']
          exact e

theorem fig {L p:List Nat} {ps:List (List Nat)} (h:splitL 47 L=p :: ps):splitL 47 (strip L)=strip p :: ps∧(p.head?=some 45↔L.head?=some 45):=by
  obtain⟨p',ps',h' | h'⟩:=e'j L
  · rw [h] at h'
    obtain⟨e,e2,e3⟩:=h'
    cases e
    exact⟨e2,by rw [e3]⟩
  · rw [h] at h'
    obtain⟨e,e1,e2,e3⟩:=h'
    cases e
    subst e1
    exact⟨e2,⟨(fun z=>nomatch z),fun z=>absurd z e3⟩⟩
theorem b'z (c:Nat):∀ L:List Nat,inter c (splitL c L)=L
  | [] => rfl
  | x :: r => by
    have ih:=b'z c r
    have e:splitL c (x :: r)=if x=c then [] :: splitL c r else match splitL c r with | []=>[[x]] | p :: ps=>(x :: p) :: ps:=rfl
    rw [e]
    by_cases h:x=c
    · rw [if_pos h]
      cases hs:splitL c r with
      | nil=>exact absurd hs (a'J _ _)
      | cons p ps=>
        rw [hs] at ih
        show []++c :: inter c (p :: ps)=x :: r
        rw [ih,h];rfl
    · rw [if_neg h]
      cases hs:splitL c r with
      | nil=>exact absurd hs (a'J _ _)
      | cons p ps=>
        rw [hs] at ih
        cases ps with
        | nil=>
          have ih:p=r:=ih
          show x :: p=x :: r
          rw [ih]
        | cons q ps=>
          have ih:p++c :: inter c (q :: ps)=r:=ih
          show (x :: p)++c :: inter c (q :: ps)=x :: r
          rw [← ih];rfl
theorem b's {p:List Nat} (h:¬ p.head?=some 45):strip p=p:=if_neg h
theorem c'h {p:List Nat} (h:p.head?=some 45):p=45 :: strip p:=by
  unfold strip
  rw [if_pos h]
  cases p with
  | nil => cases h
  | cons x r => cases h; rfl
theorem f'K {L p:List Nat} (e:p.head?=some 45↔L.head?=some 45) (hw:whole 6 (strip p)=true) (h0:¬ (vl (strip p)=0∧L.head?=some 45)):dec (sgn L (vl (strip p)))=p:=by
  unfold sgn
  by_cases h:L.head?=some 45
  · rw [if_pos h]
    have hv:¬ vl (strip p)=0:=fun z=>h0 ⟨z,h⟩
    unfold dec
    rw [if_pos (by omega),show (-((vl (strip p):Nat):Int)).natAbs=vl (strip p) by omega,c'u hw]
    exact (c'h (e.mpr h)).symm
  · rw [if_neg h]
    unfold dec
    rw [if_neg (by omega),Int.natAbs_natCast,c'u hw]
    exact b's (fun z=>h (e.mp z))
theorem b'C (L:List Nat) (n:Nat):(sgn L n).natAbs=n:=by unfold sgn;split<;>omega
theorem g'h {L p:List Nat} (hs:splitL 47 L=[p]) (hw:whole 6 (strip p)=true):(shw (Rat.divInt (sgn L (vl (strip p))) 1)=L→dueR L=some (sgn L (vl (strip p)),1))∧(¬ shw (Rat.divInt (sgn L (vl (strip p))) 1)=L→dueR L=none):=by
  obtain⟨f1,f2⟩:=fig hs
  have eL:L=p:=by have:=b'z 47 L;rw [hs] at this;exact this.symm
  have eq:Rat.divInt (sgn L (vl (strip p))) 1=((sgn L (vl (strip p)):Int):Rat):=by rw [← Rat.num_divInt_den ((sgn L (vl (strip p)):Int):Rat),Rat.num_intCast,Rat.den_intCast];rfl
  have es:shw (Rat.divInt (sgn L (vl (strip p))) 1)=dec (sgn L (vl (strip p))):=by
    rw [eq]
    unfold shw
    rw [Rat.den_intCast,Rat.num_intCast,if_pos rfl]
  rw [es]
  unfold dueR
  rw [f1]
  dsimp only
  constructor
  · intro h
    refine if_pos ⟨hw,fun z=>?_⟩
    have e0:sgn L (vl (strip p))=0:=by have:=b'C L (vl (strip p));omega
    rw [e0] at h
    have:(dec 0).head?=some 45:=by rw [h];exact z.2
    exact absurd ((a'Z 0).mp this) (by decide)
  · intro h
    rw [if_neg]
    rintro⟨_,z⟩
    exact h ((f'K f2 hw z).trans eL.symm)
theorem g'i {L p b:List Nat} (hs:splitL 47 L=[p,b]) (hw:whole 6 (strip p)=true) (hb:whole 6 b=true) (h0:¬ vl b=0):(shw (Rat.divInt (sgn L (vl (strip p))) (vl b))=L→dueR L=some ((Rat.divInt (sgn L (vl (strip p))) (vl b)).num,(((Rat.divInt (sgn L (vl (strip p))) (vl b)).den:Nat):Int)))∧(¬ shw (Rat.divInt (sgn L (vl (strip p))) (vl b))=L→dueR L=none):=by
  obtain⟨f1,f2⟩:=fig hs
  have eL:p++47 :: b=L:=by have:=b'z 47 L;rw [hs] at this;exact this
  have full:Nat.gcd (vl (strip p)) (vl b)=1→(Rat.divInt (sgn L (vl (strip p))) (vl b)).num=sgn L (vl (strip p))∧(Rat.divInt (sgn L (vl (strip p))) (vl b)).den=vl b:=fun g=>by
    have e:Rat.divInt (sgn L (vl (strip p))) (vl b)=⟨sgn L (vl (strip p)),vl b,h0,by rw [b'C];exact g⟩:=by
      conv=>rhs;rw [← Rat.num_divInt_den (⟨sgn L (vl (strip p)),vl b,h0,by rw [b'C];exact g⟩:Rat)]
    rw [e]
    exact⟨rfl,rfl⟩
  have hu:dueR L=if whole 6 (strip p)=true∧whole 6 b=true∧2≤vl b∧Nat.gcd (vl (strip p)) (vl b)=1∧¬ (vl (strip p)=0∧L.head?=some 45) then some (sgn L (vl (strip p)),((vl b:Nat):Int)) else none:=by
    unfold dueR
    rw [f1]
  rw [hu]
  constructor
  · intro h
    generalize hq:Rat.divInt (sgn L (vl (strip p))) (vl b)=q at h full
    have hsp:splitL 47 (shw q)=[p,b]:=by rw [h];exact hs
    unfold shw at hsp
    by_cases hd:q.den=1
    · rw [if_pos hd,a'x (b'I _)] at hsp
      cases hsp
    · rw [if_neg hd,a'K (b'I _),a'x (d'Z _)] at hsp
      obtain⟨e1,e2⟩:=List.cons.inj hsp
      obtain⟨e2,_⟩:=List.cons.inj e2
      have ed:q.den=vl b:=by rw [← e2,a'W]
      have en:q.num.natAbs=vl (strip p):=by rw [← e1,b'O,a'W]
      have g:Nat.gcd (vl (strip p)) (vl b)=1:=by rw [← en,← ed];exact q.reduced
      have dp:=q.den_pos
      obtain⟨f3,f4⟩:=full g
      rw [f3,f4]
      refine if_pos ⟨hw,hb,by omega,g,fun z=>?_⟩
      · have hl:p.head?=some 45:=f2.mpr z.2
        rw [← e1] at hl
        have:=(a'Z _).mp hl
        have:=z.1
        omega
  · intro h
    rw [if_neg]
    rintro⟨_,_,h2,g,z⟩
    obtain⟨f3,f4⟩:=full g
    apply h
    unfold shw
    rw [f3,f4,if_neg (by omega),f'K f2 hw z,c'u hb]
    exact eL
theorem b'w {L p:List Nat} {ps:List (List Nat)} (hs:splitL 47 L=p :: ps) (h:2<(p :: ps).length∨((strip p :: ps).all (whole 6))=false):dueR L=none:=by
  obtain⟨f1,f2⟩:=fig hs
  unfold dueR
  rw [f1]
  cases ps with
  | nil =>
    rcases h with h | h
    · exact absurd h (by show ¬ 2<1;omega)
    · refine if_neg ?_
      rintro⟨z,_⟩
      rw [List.all_cons,z] at h
      cases h
  | cons b ps =>
    cases ps with
    | nil=>
      rcases h with h | h
      · exact absurd h (by show ¬ 2<2;omega)
      · refine if_neg ?_
        rintro⟨z,z2,_⟩
        rw [List.all_cons,z,List.all_cons,z2] at h
        cases h
    | cons c ps=>rfl
theorem c'T {L p b:List Nat} (hs:splitL 47 L=[p,b]) (h0:vl b=0):dueR L=none:=by
  obtain⟨f1,f2⟩:=fig hs
  unfold dueR
  rw [f1]
  dsimp only
  rw [if_neg]
  rintro⟨_,_,z,_⟩
  omega
section
variable {P:Program} {w:World} {K:PySem.W.Frag} {mg:Str→Option Value} {base:Heap}
local macro_rules | `(tactic| walk_at "p") => `(tactic| simp only [k'W, o'B, i'y, k'X, k'Y, k'Z, l'a, l'b, d'X, f'I, l'c, i'z, o'd, o'e, o'f, h'i, e'D, h'j, h'k, o'g, h'l, j'U, h'm, e'E, h'n, e'F, j'V, h'o, e'G, h'p, h'q, h'r, e'H, h's, o'h, d'F, e'I, o'i, d'G, e'J, j'W, d'H, c'Q, j'X, h't, h'u, j'Y, j'Z, k'a, k'b, k'c, h'v, h'w, h'x, e'K, h'y, e'L, e'M, k'd, k'e, k'f, h'z, d'I, h'A, d'J, e'N, d'K, c'R, e'O, e'P, h'B, e'Q, e'R, d'L, h'C, h'D, e'S, e'T, h'E, e'U, e'V, d'M, h'F, h'G, e'W, e'X, h'H, e'Y, e'Z, d'N, h'I, h'J, f'a, f'b, h'K, f'c, f'd, d'O, h'L, h'M, f'e, f'f, h'N, f'g, f'h, d'P, h'O, h'P, f'i, f'j, f'k, f'l, f'm, f'n, f'o, f'p, f'q, h'Q, h'R, f'r, f's, k'g, f't, f'u, f'v, f'w, f'x, h'S, o'k, f'y, k'r, k's, k'J, k'K, k'L, k'M, k'N, i'i, i'j, pickT, Option.getD_some, h'T, k'h, k'i, o'j, k'j, k'k, k'l, k'm, k'n, k'o, k'p, k'V, f'D, f'E, i'r, i's, k'R, f'C, o'n, o'o, o'p, i'o, s_l, s_f, s_d, s_t, s_o, i'p, o'q, k'S, k'T, i'q, k'U, List.length_map, k'O, i'k, i'l, i'm, i'n, b'H, d'T, d'U, f'A, f'B, k'Q, h'V, h'W, h'X, h'Y, h'Z, i'a, i'b, k't, w_lt, o'l, k'u, k'v, o'm, k'w, k'x, k'y, k'z, k'A, k'B, i'c, i'd, i'e, k'C, k'D, k'E, i'f, i'g, k'F, k'G, k'H, i'h, k'I, at0, at1, at2, at3, at4, List.map_cons, List.map_nil, List.getElem?_cons_succ, List.getElem?_cons_zero, List.set_cons_zero, List.set_cons_succ, lends, frzs, dns, nols, nlts, Bool.and_self, if_true, if_false, ite_true, ite_false, true_and, and_true, List.cons_append, List.nil_append, List.replicate, Nat.reduceSub, List.length_cons, List.length_nil, Nat.reduceAdd, Nat.reduceLeDiff, V.int.injEq, decide_not, decide_true, decide_false, Bool.not_true, Bool.not_false, Bool.false_eq_true, Bool.true_eq_false, d'Q, d'R, h'U, k'q, j'Q, j'R, n'W, e_l, e_f, e_d, e_o, e_t, n'X, n'Y, n'Z, o'a, j'r, j'S, h'f, h'g, h'h, f'Z, d'B, d'C, d'D, j's, j't, g'a, o'b, o'c, e'B, e'C, Tr.int.injEq, reduceCtorEq])
local macro_rules | `(tactic| walk_at "q") => `(tactic| simp only [k'W, o'B, i'y, k'X, k'Y, k'Z, l'a, l'b, d'X, f'I, l'c, i'z, o'd, o'e, o'f, h'i, e'D, h'j, h'k, o'g, h'l, j'U, h'm, e'E, h'n, e'F, j'V, h'o, e'G, h'p, h'q, h'r, e'H, h's, d'F, e'I, o'i, d'G, e'J, j'W, d'H, c'Q, j'X, h't, h'u, j'Y, j'Z, k'a, k'b, k'c, h'v, h'w, h'x, e'K, h'y, e'L, e'M, k'd, k'e, k'f, h'z, d'I, h'A, d'J, e'N, d'K, c'R, e'O, e'P, h'B, e'Q, e'R, d'L, h'C, h'D, e'S, e'T, h'E, e'U, e'V, d'M, h'F, h'G, e'W, e'X, h'H, e'Y, e'Z, d'N, h'I, h'J, f'a, f'b, h'K, f'c, f'd, d'O, h'L, h'M, f'e, f'f, h'N, f'g, f'h, d'P, h'O, h'P, f'i, f'j, f'k, f'l, f'm, f'n, f'o, f'p, f'q, h'Q, h'R, f'r, f's, k'g, f't, f'u, f'v, f'w, f'x, h'S, o'k, f'y, k'r, k's, k'J, k'K, k'L, k'M, k'N, i'i, i'j, pickT, Option.getD_some, h'T, k'h, k'i, o'j, k'j, k'k, k'l, k'm, k'n, k'o, k'p, k'V, f'D, f'E, i'r, i's, k'R, f'C, o'n, o'o, o'p, i'o, s_l, s_f, s_d, s_t, s_o, i'p, o'q, k'S, k'T, i'q, k'U, List.length_map, k'O, i'k, i'l, i'm, i'n, b'H, d'T, d'U, f'A, f'B, k'Q, h'V, h'W, h'X, h'Y, h'Z, i'a, i'b, k't, w_lt, o'l, k'u, k'v, o'm, k'w, k'x, k'y, k'z, k'A, k'B, i'c, i'd, i'e, k'C, k'D, k'E, i'f, i'g, k'F, k'G, k'H, i'h, k'I, at0, at1, at2, at3, at4, List.map_cons, List.map_nil, List.getElem?_cons_succ, List.getElem?_cons_zero, List.set_cons_zero, List.set_cons_succ, lends, frzs, dns, nols, nlts, Bool.and_self, if_true, if_false, ite_true, ite_false, true_and, and_true, List.cons_append, List.nil_append, List.replicate, Nat.reduceSub, List.length_cons, List.length_nil, Nat.reduceAdd, Nat.reduceLeDiff, V.int.injEq, decide_not, decide_true, decide_false, Bool.not_true, Bool.not_false, Bool.false_eq_true, Bool.true_eq_false, d'Q, d'R, h'U, k'q, j'Q, j'R, n'W, e_l, e_f, e_d, e_o, e_t, n'X, n'Y, n'Z, o'a, j'r, j'S, h'f, h'g, h'h, f'Z, d'B, d'C, d'D, j's, j't, g'a, o'b, o'c, e'B, e'C, Tr.int.injEq, reduceCtorEq])
theorem b'K (T:Tx K mg) {z:Bool}:FnOk P w K mg base CX0 1 T.a_greatest_divisor T.d_greatest_divisor ["one","other"] (spP K z 0 2 g_gd):=by
  refine a'U T.F_greatest_divisor sc_greatest_divisor rfl (by decide) fun cdv A outer s H E hr=>?_
  have hu:=a'B hr
  refine⟨_,(a'b (j'M PassesOwn.never (a'i (b'y hr.units) a'F (qv 1) a'c (by with_unfolding_all rfl)) (a'b (a'f (i:=2) sc_greatest_divisor.nd (by decide) rfl (Or.inl rfl) (a'w (qv 0) (qv 1)))
   (a'b (a'f (i:=0) sc_greatest_divisor.nd (by decide) rfl (Or.inl rfl) (qv 1))
   (a'e (a'f (i:=1) sc_greatest_divisor.nd (by decide) rfl (Or.inl rfl) (qv 2))))))
   (a'e (a'o (qv 0)))),?_⟩
  rintro xs Q' _ ⟨_,a,b,rfl,ha,hb,q⟩
  refine⟨fun m ρ=>∃ x y z,ρ=[.int x,.int y,z]∧0≤x∧0≤y∧gd x y=gd a b∧m=y.toNat,⟨_,a,b,.hole,rfl,ha,hb,rfl,rfl⟩,?_⟩
  rintro m ρ ⟨x,y,z,rfl,hx,hy,e,rfl⟩
  walk_at "p"
  by_cases h0:y=0
  · subst h0
    walk_at "p"
    rw [← e,e's x hx] at q
    exact q _
  · rw [if_pos (by simp [h0])]
    refine⟨by omega,?_⟩
    refine⟨(x % y).toNat,?_,_,_,_,rfl,hy,Int.emod_nonneg _ h0,?_,rfl⟩
    · have:=Int.emod_lt_of_pos x (show 0<y by omega)
      have:=Int.emod_nonneg x h0
      omega
    · rw [g'J hx (by omega)];exact e
theorem m'y (T:Tx K mg) {z:Bool}:FnOk P w K mg base CX0 2 T.a_part T.d_part ["top","bottom"] (spP K z 0 2 g_part):=by
  refine a'U T.F_part sc_part rfl (by decide) fun cdv A outer s H E hr=>?_
  have hu:=a'B hr
  refine⟨_,(a'b (a's (a'i (a'A hr.units) a'p (qv 1) a'c (by with_unfolding_all rfl)) (a'e m'h) a'm)
   (a'b (a'f (i:=2) sc_part.nd (by decide) rfl (Or.inl rfl) (a'n ((b'K T).mono (by decide)) (by first | exact id | exact fun _=>rfl) (fun _ _ h=>h.1) hr rfl T.m_greatest_divisor T.F_greatest_divisor.kp T.b_greatest_divisor (QA.frz (a'a (a'H b'E b'T rfl T.z_abs rfl (a'a (qv 0) a'd)) (a'a (a'H b'E b'T rfl T.z_abs rfl (a'a (qv 1) a'd)) a'd)))))
   (a'b (a's (a'i j'e d't (qv 1) a'c (by with_unfolding_all rfl)) (a'e (a'f (i:=2) sc_part.nd (by decide) rfl (Or.inl rfl) (p'b (qv 2)))) a'm)
   (a'e (a'o (a'T (a'a (a'C (qv 0) (qv 2)) (a'a (a'C (qv 1) (qv 2)) a'd)))))))),?_⟩
  rintro xs Q' _ ⟨_,a,b,rfl,hb,h2,q⟩
  walk_at "p"
  rw [if_neg (by simp [hb])]
  refine⟨rfl,_,_,rfl,by split<;>omega,by split<;>omega,fun ρ=>?_⟩
  rw [l't]
  rw [p'm,← d'm hb,← d'n hb] at q
  unfold dv at q
  by_cases h:b<0
  · rw [if_pos h] at q
    rw [if_pos (decide_eq_true h)]
    walk_at "p"
    exact⟨d'E hb h2,d'E hb h2,q _⟩
  · rw [if_neg h] at q
    rw [if_neg (by simp [h])]
    walk_at "p"
    exact⟨b'V hb h2,b'V hb h2,q _⟩
theorem f'L (c:Nat):hasS (Str.ofString "0123456789") ⟨#[c]⟩=(decide (48≤c) && decide (c≤57)):=by
  unfold hasS
  rw [StrLaws.found_one]
  have e:(Str.ofString "0123456789").cps.toList=[48,49,50,51,52,53,54,55,56,57]:=by decide +kernel
  rw [e,Bool.eq_iff_iff]
  simp
  omega
theorem i'C:Str.ofString ""=tx []:=by decide +kernel
theorem s_0:Str.ofString "0"=tx [48]:=by decide +kernel
theorem s_m:Str.ofString "-"=tx [45]:=by decide +kernel
theorem c'i:Str.ofString "/"=tx [47]:=by decide +kernel
theorem e'a (k:Bool) (x:Str) (Q:Tr→Prop):wLen k [.str x] Q=(x.length≤1000000∧Q (.int x.length)):=rfl
theorem a'E (L M:List Nat):decide (tx L=tx M)=decide (L=M):=decide_eq_decide.mpr o'C
theorem i'D {c:Nat} {r:List Nat} {Q:Tr→Prop} (h:(c :: r).length≤1000000) (q:Q (.str (tx [c]))):wIdx (.str (tx (c :: r))) (.int 0) Q:=by
  refine⟨by rw [a'l];exact h,?_⟩
  rw [a'y,at0]
  exact q
def g_whole:PSp:=spec 2 fun xs Q=>∃ (L:List Nat) (n:Nat),xs=[.str (tx L),.int n]∧L.length≤100000∧Q (.bl (whole n L))
theorem e'k (T:Tx K mg) {z:Bool}:FnOk P w K mg base CX0 1 T.a_is_whole T.d_is_whole ["word","most"] (spP K z 0 2 g_whole):=by
  refine a'U T.F_is_whole e'i rfl (by decide) fun cdv A outer s H E hr=>?_
  have hu:=a'B hr
  refine⟨_,(a'b (a's (QW.t (a'S (a'i (a'A hr.units) a'p (qv 0) a'g (by with_unfolding_all rfl)) (a'S (a'i c'd b'l (a'H b'v a'P rfl T.z_len rfl (a'a (qv 0) a'd)) (qv 1) (by with_unfolding_all rfl)) (b'm (d'a (c'r (a'H (c'N rfl) e'A rfl T.z_all rfl (a'a (h'c (N:=["sign"]) (ix:=[none]) rfl (o't (qv 0)) (n'U (i:=0) (by decide) rfl) (fun _ _ _ _ _=>e'z) (fun _ _ _ _ _=>(b'G c'F f'H (qv 0) (p'A rfl T.m_FIGURES) (by with_unfolding_all rfl))) True.intro) a'd)))))))) (a'e (a'o d'u)) a'm)
   (a'e (a'o (p'u (b'G (a'A hr.units) a'p (qv 0) a'g (by with_unfolding_all rfl)) (d'b (b'G (b'y hr.units) a'F (a'D hu (qv 0) a'c (fun _ _=>rfl)) a'g (by with_unfolding_all rfl))))))),?_⟩
  rintro xs Q' _ ⟨_,L,n,rfl,h1,q⟩
  walk_at "p"
  rw [i'C,s_0,a'E,a'E]
  split
  · rename_i c
    have c:L=[]:=of_decide_eq_true c
    subst c
    exact q _
  rename_i c1
  have c1:¬ L=[]:=fun z=>c1 (decide_eq_true z)
  rw [e'a]
  refine⟨by rw [a'l];omega,?_⟩
  walk_at "p"
  rw [a'l]
  have q0:(¬ L.length≤n∨dig L=false∨(¬ L=[48]∧L.head?=some 48))→∀ ρ,Q' (.bl false) ρ:=fun h=>by
    have e:whole n L=false:=by
      cases e:whole n L with
      | false=>rfl
      | true=>
        obtain⟨_,a,b,d⟩:=a'I e
        rcases h with h | h | h
        · exact absurd a h
        · rw [h] at b;cases b
        · rcases d with d | d
          · exact absurd d h.1
          · exact absurd h.2 d
    rw [e] at q
    exact q
  have q1:L.length≤n→dig L=true→(L=[48]∨¬ L.head?=some 48)→∀ ρ,Q' (.bl true) ρ:=fun a b d=>by
    have e:whole n L=true:=by unfold whole;rw [decide_eq_false c1,decide_eq_true a,b];simpa using d
    rw [e] at q
    exact q
  split
  · rename_i c
    have c:=of_decide_eq_true c
    exact q0 (.inl (by omega)) _
  rename_i c2
  have c2:L.length≤n:=by
    have:¬ ((n:Int)<L.length):=fun z=>c2 (decide_eq_true z)
    omega
  rw [a'y]
  refine CLoop.map L _ (fun c=>decide (48≤c) && decide (c≤57)) (by omega) (fun c hc R hR=>?_) ?_
  · walk_at "p"
    rw [f'L]
    exact hR
  refine⟨_,rfl,?_⟩
  walk_at "p"
  have ed:(L.map fun c=>decide (48≤c) && decide (c≤57)).all id=dig L:=by unfold dig;rw [List.all_map];rfl
  rw [ed]
  split
  · rename_i c
    exact q0 (.inr (.inl (by simpa using c))) _
  rename_i c3
  have c3:dig L=true:=by simpa using c3
  split
  · rename_i c
    exact q1 c2 c3 (.inl (of_decide_eq_true c)) _
  rename_i c4
  have c4:¬ L=[48]:=fun z=>c4 (decide_eq_true z)
  cases L with
  | nil => exact absurd rfl c1
  | cons c r =>
    refine i'D (by omega) ?_
    walk_at "p"
    rw [a'E]
    by_cases h:c=48
    · subst h
      rw [decide_eq_true rfl]
      exact q0 (.inr (.inr ⟨c4,rfl⟩)) _
    · rw [decide_eq_false (fun z=>h (by simpa using z))]
      exact q1 c2 c3 (.inr fun z=>h (by simpa using z)) _
theorem b'P {q:Rat} {k:Nat} (h:bs q≤k):bi q.num≤k:=Nat.le_trans (n'k q) h
def g_show:PSp:=spec 1 fun xs Q=>∃ q:Rat,xs=[Enc.t q]∧bs q≤400∧Q (.str (tx (shw q)))
theorem m'z {n k:Nat} (h:n<2 ^ k):(dgs n).length≤k+1:=by
  unfold dgs
  rw [List.length_map]
  refine (Nat.length_toDigits_le_iff (by decide) (Nat.succ_pos k)).mpr (Nat.lt_of_lt_of_le h ?_)
  exact Nat.le_trans (Nat.pow_le_pow_left (by decide) k) (Nat.pow_le_pow_right (by decide) (Nat.le_succ k))
theorem b'h {a:Int} {k:Nat} (h:bi a≤k):(dec a).length≤k+2:=by
  have:=m'z (b'R h)
  unfold dec
  split
  · rw [List.length_cons];omega
  · omega
theorem b'D {a:Int} {k:Nat} (h:bi a≤k) (hk:k≤1900):a.natAbs.log2<1920:=by
  unfold bi bl at h
  split at h
  · rename_i z;rw [z];decide
  · omega
theorem b'X (i:Int) (Q:Tr→Prop) (h:i.natAbs.log2<1920) (q:Q (.str (tx (dec i)))):wStr [.int i] Q:=⟨h,by rw [m'x];exact q⟩
theorem b'Y (q:Rat):dec (q.den:Int)=dgs q.den:=by unfold dec;rw [if_neg (by omega),Int.natAbs_natCast]
theorem a'L (T:Tx K mg) {z:Bool}:FnOk P w K mg base CX0 1 T.a_show_number T.d_show_number ["number"] (spP K z 0 1 g_show):=by
  refine a'U T.F_show_number sc_show_number rfl (by decide) fun cdv A outer s H E hr=>?_
  have hu:=a'B hr
  refine⟨_,(a'b (a'f (i:=1) sc_show_number.nd (by decide) rfl (Or.inl rfl) (b'a a'z b'f rfl T.z_str rfl (a'a (a'D hu (qv 0) a'c (fun _ _=>rfl)) a'd)))
   (a'b (a's (a'i (a'A hr.units) a'p (a'D hu (qv 0) a'c (fun _ _=>rfl)) a'c (by with_unfolding_all rfl)) (a'e (a'o (qv 1))) a'm)
   (a'b (a'f (i:=2) sc_show_number.nd (by decide) rfl (Or.inl rfl) (b'a a'z b'f rfl T.z_str rfl (a'a (a'D hu (qv 0) a'c (fun _ _=>rfl)) a'd)))
   (a'e (a'o (o'z (i'w (qv 1) (o'y (i'w (qv 2) o'x))))))))),?_⟩
  rintro xs Q' _ ⟨_,q,rfl,h1,k⟩
  walk_at "p"
  have b1:=b'P h1
  have b2:=Nat.le_trans (d'o q) h1
  have l1:=b'h b1
  have l2:=b'h b2
  refine b'X _ _ (b'D b1 (by decide)) ?_
  walk_at "p"
  unfold shw at k
  split
  · rename_i c
    have c:(q.den:Int)=1:=of_decide_eq_true c
    rw [if_pos (by omega)] at k
    exact k _
  · rename_i c
    have c:¬ (q.den:Int)=1:=fun z=>c (decide_eq_true z)
    rw [if_neg (by omega),← b'Y] at k
    refine b'X _ _ (b'D b2 (by decide)) ?_
    walk_at "p"
    have e:Str.empty=tx []:=rfl
    rw [e,c'i,b'r,b'r,b'r,a'l,a'l,a'l,a'l,a'l]
    have k:∀ ρ,Q' (.str (tx ([]++dec q.num++[47]++dec q.den))) ρ:=by rw [show []++dec q.num++[47]++dec (q.den:Int)=dec q.num++47 :: dec (q.den:Int) by simp];exact k
    simp only [List.length_append,List.length_nil,List.length_cons]
    exact⟨by omega,by omega,by omega,by omega,by omega,by omega,k _⟩
def g_read (C:Addr):PSpX:=fun xs Q q=>xs.length=1∧∃ L:List Nat,xs=[.str (tx L)]∧L.length≤600∧(∀ a b,dueR L=some (a,b)→∀ ρ,Q (.tup [.int a,.int b]) ρ)∧(dueR L=none→q (.ref C))
theorem c'w (c:Nat):∀ L:List Nat,(splitL c L).length≤L.length+1
  | [] => Nat.le_refl _
  | x :: r => by
    have ih:=c'w c r
    have e:splitL c (x :: r)=if x=c then [] :: splitL c r else match splitL c r with | []=>[[x]] | p :: ps=>(x :: p) :: ps:=rfl
    rw [e]
    split
    · rw [List.length_cons,List.length_cons];omega
    · cases hs:splitL c r with
      | nil=>show 1≤_;omega
      | cons p ps=>rw [hs] at ih;show ps.length+1≤_;rw [List.length_cons] at ih ⊢;omega
theorem b'J {c:Nat}:∀ {L p:List Nat},p∈splitL c L→p.length≤L.length
  | [], p, m => by rw [List.mem_singleton.mp m]; exact Nat.le_refl _
  | x :: r, p, m => by
    have e:splitL c (x :: r)=if x=c then [] :: splitL c r else match splitL c r with | []=>[[x]] | p :: ps=>(x :: p) :: ps:=rfl
    rw [e] at m
    have ih:=fun {p:List Nat} (m:p∈splitL c r)=>b'J m
    split at m
    · rcases List.mem_cons.mp m with m | m
      · rw [m];exact Nat.zero_le _
      · exact Nat.le_succ_of_le (ih m)
    · cases hs:splitL c r with
      | nil=>exact absurd hs (a'J _ _)
      | cons q ps=>
        rw [hs] at m ih
        rcases List.mem_cons.mp m with m | m
        · rw [m];exact Nat.succ_le_succ (ih List.mem_cons_self)
        · exact Nat.le_succ_of_le (ih (List.mem_cons_of_mem _ m))
theorem p'B (L:List Nat):stW (tx L) (tx [45])=decide (L.head?=some 45):=by
  unfold stW
  cases L with
  | nil => rfl
  | cons c r =>
    have h:=StrLaws.subAt_one (tx (c :: r)) 45 0
    rw [a'y] at h
    have h:0+(tx [45]).length≤(tx (c :: r)).length∧Builtin.Str.subAt (tx (c :: r)) (tx [45]) 0=true↔(c :: r)[0]?=some 45:=h
    rw [Bool.eq_iff_iff,Bool.and_eq_true,decide_eq_true_eq,decide_eq_true_eq,h]
    rfl
theorem o'D {L:List Nat}:Txt.slice (tx L) (some 1) none=tx L.tail:=by
  show StrLaws.sliceText (tx L) (some 1) none=_
  cases L with
  | nil => rfl
  | cons c r =>
    rw [StrLaws.sliceText_from ⟨by decide,by rw [a'y,List.length_cons];omega⟩]
    rw [a'y]
    show tx (List.take ((((c :: r).length:Nat):Int) - 1).toNat (List.drop 1 (c :: r)))=tx r
    rw [List.drop_one,List.tail_cons,List.take_of_length_le (by rw [List.length_cons];omega)]
theorem d'd {L:List Nat} (h:whole 6 L=true):vl L<1000000:=by
  have e:=c'u h
  have l:=(a'I h).2.1
  rw [← e] at l
  unfold dgs at l
  rw [List.length_map] at l
  exact (Nat.length_toDigits_le_iff (by decide) (by decide)).mp l
theorem g'j {b:List Nat} (h:whole 6 b=true):intText? (tx b)=some (vl b:Int):=by
  obtain⟨h1,h2,h3,_⟩:=a'I h
  exact intText_digits (b'W h3) h1 (by rw [a'l];omega)
theorem p'o {L p:List Nat} (f:p.head?=some 45↔L.head?=some 45) (h:whole 6 (strip p)=true):intText? (tx p)=some (sgn L (vl (strip p))):=by
  obtain⟨h1,h2,h3,_⟩:=a'I h
  unfold sgn
  by_cases c:L.head?=some 45
  · rw [if_pos c]
    have e:=c'h (f.mpr c)
    exact intText_neg (cs:=strip p) e (b'W h3) h1 (by rw [a'l,e,List.length_cons];omega)
  · rw [if_neg c]
    have e:=b's (fun z=>c (f.mp z))
    rw [e] at h ⊢
    exact g'j h
theorem c'U (p:List Nat):(strip p).length≤p.length:=by
  unfold strip
  split
  · rw [List.length_tail];omega
  · exact Nat.le_refl _
theorem c'V (ps:List (List Nat)):((ps.map tx).map fun x:Str=>whole 6 x.cps.toList).all id=ps.all (whole 6):=by
  rw [List.map_map,List.all_map];rfl
theorem p'C (x t:Tr) (xs:List Tr) (Q:List Tr→Prop):wSetL (x :: xs) (.int 0) t Q=Q (t :: xs):=by
  have e:ixN (x :: xs).length 0=some 0:=by unfold ixN;rw [if_pos (by decide),if_pos (by rw [List.length_cons];omega)];rfl
  unfold wSetL
  dsimp only
  rw [e]
  rfl
theorem b'x (x:Str) (l h:Option Int) (Q:Tr→Prop):wSl (.str x) l h Q=(x.length≤1000000∧Q (.str (Txt.slice x l h))):=rfl
theorem b'i {q:Rat} (h:bs q≤400) {Q:Tr→List Tr→Prop} (k:∀ ρ,Q (.str (tx (shw q))) ρ):g_show [Enc.t q] Q:=⟨rfl,q,rfl,h,k⟩
theorem f'M {a b:Int} (h0:b≠0) (h:bi b≤7990) {Q:Tr→List Tr→Prop} (k:∀ ρ,Q (Enc.t (Rat.divInt a b)) ρ):g_part [.int a,.int b] Q:=⟨rfl,a,b,rfl,h0,h,k⟩
theorem c'D (T:Tx K mg) {z:Bool}:FnOk P w K mg base (CX1 P w) 3 T.a_read_number T.d_read_number ["word"] (spX K z 0 1 (g_read T.c_NoWish)):=by
  refine p'e T.F_read_number sc_read_number rfl (by decide) fun cdv A outer s H E qx hr=>?_
  have hu:=a'B hr
  refine⟨_,(a'b (a'f (i:=1) sc_read_number.nd (by decide) rfl (Or.inl rfl) (m'w (qv 0) a'g ⟨rfl,rfl,rfl,rfl⟩))
   (a'b (p'd (i:=2) sc_read_number.nd (by decide) rfl (Or.inl rfl) (b'a (n'J rfl) j'o rfl T.z_list rfl (a'a (qv 1) a'd)))
   (a'b (a's (c'r (j'x (qv 0) a'g ⟨rfl,rfl,rfl,rfl⟩)) (a'e (n'T (p'y 2) a'c (b'p (a'D hu (qv 1) a'c (fun _ _=>rfl)) (b'o a'c) b'n))) a'm)
   (a'b (a's (QW.t (a'S (a'i c'd b'l (a'H b'v a'P rfl T.z_len rfl (a'a (qv 1) a'd)) a'c (by with_unfolding_all rfl)) (b'm (d'a (c'r (a'H (c'N rfl) e'A rfl T.z_all rfl (a'a (h'c (N:=["piece"]) (ix:=[none]) rfl (p'x (qv 2)) (n'U (i:=0) (by decide) rfl) (fun _ _ _ _ _=>e'z) (fun _ _ _ _ _=>(a'n ((e'k T).mono (by decide)) (by first | exact id | exact fun _=>rfl) (fun _ _ h=>h.1) hr rfl T.m_is_whole T.F_is_whole.kp T.b_is_whole (QA.frz (a'a (qv 0) (a'a (p'z rfl T.m_MOST_FIGURES) a'd))))) True.intro) a'd))))))) (a'e (c'z rfl rfl rfl rfl rfl rfl T.m_NoWish PySem.F.excBase_ValueError T.q_NoWish a'g)) a'm)
   (a'b (a'f (i:=3) sc_read_number.nd (by decide) rfl (Or.inl rfl) (p'c (a'i (a'A hr.units) a'p (a'H b'v a'P rfl T.z_len rfl (a'a (qv 1) a'd)) a'c (by with_unfolding_all rfl)) (b'a b'M c'g rfl T.z_int rfl (a'a (a'D hu (qv 1) a'c (fun _ _=>rfl)) a'd)) a'c))
   (a'b (a's (a'i (a'A hr.units) a'p (qv 3) a'c (by with_unfolding_all rfl)) (a'e (c'z rfl rfl rfl rfl rfl rfl T.m_NoWish PySem.F.excBase_ValueError T.q_NoWish a'g)) a'm)
   (a'b (a'f (i:=4) sc_read_number.nd (by decide) rfl (Or.inl rfl) (a'n ((m'y T).mono (by decide)) (by first | exact id | exact fun _=>rfl) (fun _ _ h=>h.1) hr rfl T.m_part T.F_part.kp T.b_part (QA.frz (a'a (b'a b'M c'g rfl T.z_int rfl (a'a (a'D hu (qv 1) a'c (fun _ _=>rfl)) a'd)) (a'a (qv 3) a'd)))))
   (a'b (a's (a'i (b'y hr.units) a'F (a'n ((a'L T).mono (by decide)) (by first | exact id | exact fun _=>rfl) (fun _ _ h=>h.1) hr rfl T.m_show_number T.F_show_number.kp T.b_show_number (QA.frz (a'a (qv 4) a'd))) (qv 0) (by with_unfolding_all rfl)) (a'e (c'z rfl rfl rfl rfl rfl rfl T.m_NoWish PySem.F.excBase_ValueError T.q_NoWish a'g)) a'm)
   (a'e (a'o (qv 4))))))))))),?_⟩
  rintro xs Q' _ ⟨_,L,rfl,h1,q,q'⟩
  walk_at "p"
  rw [c'i,s_m,p'B,j'B,a'y]
  have n1:=c'w 47 L
  cases hs:splitL 47 L with
  | nil => exact absurd hs (a'J _ _)
  | cons p ps =>
    rw [hs] at n1
    obtain⟨f1,f2⟩:=fig hs
    have pl:=b'J (c:=47) (L:=L) (p:=p) (by rw [hs];exact List.mem_cons_self)
    have bl:∀ b∈ps,b.length≤600:=fun b m=>Nat.le_trans (b'J (c:=47) (L:=L) (by rw [hs];exact List.mem_cons_of_mem _ m)) h1
    have sl:=c'U p
    rw [List.length_map]
    refine⟨rfl,by rw [a'l];omega,by omega,?_⟩
    walk_at "p"
    simp only [Option.map_some]
    have e3:¬ ((2:Int)<((ps.length+1:Nat):Int))→ps=[]∨∃ b,ps=[b]:=fun h=>by
      cases ps with
      | nil=>exact .inl rfl
      | cons b ps=>cases ps with
        | nil=>exact .inr ⟨b,rfl⟩
        | cons c ps=>exact absurd (by simp only [List.length_cons];omega) h
    have wl:∀ x∈(strip p :: ps).map tx,∃ M:List Nat,x=tx M∧M.length≤600:=fun x m=>by
      obtain⟨M,hM,rfl⟩:=List.mem_map.mp m
      refine⟨M,rfl,?_⟩
      rcases List.mem_cons.mp hM with rfl | hM
      · omega
      · exact bl M hM
    split
    case' isTrue=>
      rename_i c
      have c:=of_decide_eq_true c
      walk_at "p"
      rw [b'x]
      refine⟨by rw [a'l];omega,?_⟩
      rw [o'D,show p.tail=strip p by unfold strip;rw [if_pos (f2.mpr c)]]
      walk_at "p"
      rw [p'C]
    case' isFalse=>
      rename_i c
      have c:¬ L.head?=some 45:=fun z=>c (decide_eq_true z)
      have es:strip p=p:=b's (fun z=>c (f2.mp z))
    all_goals
      split
      · rename_i c2
        exact q' (b'w hs (.inl (by have:=of_decide_eq_true c2;rw [List.length_cons];omega)))
      rename_i c2
      have c3:=e3 (fun z=>c2 (decide_eq_true z))
      walk_at "p"
    case' isTrue.isFalse=>
      refine CLoop.map ((strip p :: ps).map tx) Enc.t (fun x=>whole 6 x.cps.toList) (by rw [List.length_map,List.length_cons];rw [List.length_cons] at n1;omega) (fun x hx R hR=>?_) ?_
    case' isFalse.isFalse=>
      refine CLoop.map ((p :: ps).map tx) Enc.t (fun x=>whole 6 x.cps.toList) (by rw [List.length_map];omega) (fun x hx R hR=>?_) ?_
    case isTrue.isFalse.refine_1=>
      obtain⟨M,rfl,hM⟩:=wl x hx
      walk_at "p"
      exact⟨rfl,M,6,rfl,by omega,fun ρ=>hR⟩
    case isFalse.isFalse.refine_1=>
      rw [es] at wl
      obtain⟨M,rfl,hM⟩:=wl x hx
      walk_at "p"
      exact⟨rfl,M,6,rfl,by omega,fun ρ=>hR⟩
    case' isTrue.isFalse.refine_2=>
      refine⟨_,rfl,?_⟩
      rw [if_pos rfl,c'V]
    case' isFalse.isFalse.refine_2=>
      refine⟨_,rfl,?_⟩
      rw [if_pos rfl,c'V,show (p :: ps).all (whole 6)=(strip p :: ps).all (whole 6) by rw [es]]
    all_goals
      walk_at "p"
      split
      · rename_i c5
        exact q' (b'w hs (.inr (by rw [Bool.not_eq_true'] at c5;exact c5)))
      rename_i c5
      have c5:(strip p :: ps).all (whole 6)=true:=by simpa using c5
      rw [List.all_cons,Bool.and_eq_true] at c5
      have hw:=c5.1
      have hv:=d'd hw
      have ip:=p'o (L:=L) f2 hw
      have ba:bi (sgn L (vl (strip p)))≤20:=a'G 20 (by rw [b'C];omega)
      rcases c3 with rfl | ⟨b,rfl⟩
      · split
        · rename_i z
          exact absurd (of_decide_eq_true z) (show ¬ ((1:Nat):Int)=2 by decide)
        rw [if_neg (by decide)]
        refine⟨_,ip,by rw [a'l];omega,f'M (by decide) (by decide +kernel) fun ρ=>?_⟩
        obtain⟨r1,r2⟩:=g'h hs hw
        walk_at "p"
        refine b'i (Nat.le_trans (a'O (k:=20) (by decide) ba (by decide +kernel)) (by decide)) fun ρ=>?_
        walk_at "p"
        rw [a'E]
        split
        · rename_i c6
          exact q' (r2 (by simpa using c6))
        · rename_i c6
          have d:=q _ _ (r1 (by simpa using c6))
          have eq:Rat.divInt (sgn L (vl (strip p))) 1=((sgn L (vl (strip p)):Int):Rat):=by rw [← Rat.num_divInt_den ((sgn L (vl (strip p)):Int):Rat),Rat.num_intCast,Rat.den_intCast];rfl
          rw [eq]
          exact d _
      · have hb:whole 6 b=true:=by simpa using c5.2
        have hbv:=d'd hb
        have bb:bi (vl b:Int)≤20:=a'G 20 (by omega)
        have lb:=(a'I hb).2.1
        split
        rotate_left
        · rename_i z
          exact absurd (decide_eq_true (show ((2:Nat):Int)=2 by decide)) z
        refine k'P _ _ (tx b) (at1 _ _ _) ?_
        walk_at "p"
        refine⟨_,g'j hb,by rw [a'l];omega,?_⟩
        split
        · rename_i c6
          have c6:((vl b:Nat):Int)=0:=of_decide_eq_true c6
          exact q' (c'T hs (by omega))
        rename_i c6
        have c6:¬ ((vl b:Nat):Int)=0:=fun z=>c6 (decide_eq_true z)
        refine⟨_,ip,by rw [a'l];omega,f'M c6 (by omega) fun ρ=>?_⟩
        obtain⟨r1,r2⟩:=g'i hs hw hb (by omega)
        walk_at "p"
        refine b'i (Nat.le_trans (a'O (k:=20) c6 ba bb) (by decide)) fun ρ=>?_
        walk_at "p"
        rw [a'E]
        split
        · rename_i c7
          exact q' (r2 (by simpa using c7))
        · rename_i c7
          exact q _ _ (r1 (by simpa using c7)) _
def g_cell_at:PSp:=spec 2 fun xs Q=>∃ (f:Fl) (script:List Int) (k:Int),Fp f∧xs=[.lst f (script.map Enc.t),.int k]∧0≤k∧∀ c:Int,Q (.int c)
theorem a't (T:Tx K mg) {z:Bool}:FnOk P w K mg base CX0 1 T.a_law_cell_at T.d_law_cell_at ["_law_script","_law_k"] (spP K z 0 2 g_cell_at):=by
  refine a'U T.F_law_cell_at c'B rfl (by decide) fun cdv A outer s H E hr=>?_
  have hu:=a'B hr
  refine⟨_,(a'b (a's (a'i j'e d't (qv 1) (a'H b'v a'P rfl T.z_len rfl (a'a (qv 0) a'd)) (by with_unfolding_all rfl)) (a'e (a'o (a'D hu (qv 0) (qv 1) (fun _ _=>rfl)))) a'm)
   (a'e (a'o a'c))),?_⟩
  rintro xs Q' _ ⟨_,f,script,k,_,rfl,h0,q⟩
  walk_at "p"
  split
  · rename_i c
    exact k'P _ _ _ (d'V script h0 (by have:=of_decide_eq_true c;omega)) ⟨e_o _,q _ _⟩
  · exact q _ _
theorem a'R {j:Int} (h:j.natAbs<2 ^ 100):j.natAbs<2 ^ 8000:=Nat.lt_of_lt_of_le h (Nat.pow_le_pow_right (by decide) (by omega))
def g_shared:PSp:=spec 2 fun xs Q=>∃ a b:Int,xs=[.int a,.int b]∧Q (.int (gd a b))
theorem b'c (T:Tx K mg) {z:Bool}:FnOk P w K mg base CX0 1 T.a_law_shared T.d_law_shared ["_law_one","_law_other"] (spP K z 0 2 g_shared):=by
  refine a'U T.F_law_shared sc_law_shared rfl (by decide) fun cdv A outer s H E hr=>?_
  have hu:=a'B hr
  refine⟨_,(a'b (a'f (i:=0) sc_law_shared.nd (by decide) rfl (Or.inl rfl) (a'H b'E b'T rfl T.z_abs rfl (a'a (qv 0) a'd)))
   (a'b (a'f (i:=1) sc_law_shared.nd (by decide) rfl (Or.inl rfl) (a'H b'E b'T rfl T.z_abs rfl (a'a (qv 1) a'd)))
   (a'b (j'M PassesOwn.never (a'i (b'y hr.units) a'F (qv 1) a'c (by with_unfolding_all rfl)) (a'e (p'h (i:=0) (j:=1) rfl sc_law_shared.nd (by decide) (by decide) rfl rfl (by decide) rfl rfl (a'a (qv 1) (a'a (a'w (qv 0) (qv 1)) a'd)) rfl)))
   (a'e (a'o (qv 0)))))),?_⟩
  rintro xs Q' _ ⟨_,a,b,rfl,q⟩
  walk_at "p"
  refine⟨fun m ρ=>∃ x y,ρ=[.int x,.int y]∧0≤x∧0≤y∧gd x y=gd a b∧m=y.toNat,⟨_,_,_,rfl,by split<;>omega,by split<;>omega,by rw [c'm,c'm];exact g'K a b,rfl⟩,?_⟩
  rintro m ρ ⟨x,y,rfl,hx,hy,e,rfl⟩
  walk_at "p"
  by_cases h0:y=0
  · subst h0
    rw [e's x hx] at e
    subst e
    walk_at "p"
    exact q _
  · rw [if_pos (by simp [h0])]
    refine⟨by omega,(x % y).toNat,?_,_,_,rfl,hy,Int.emod_nonneg _ h0,?_,rfl⟩
    · have:=Int.emod_lt_of_pos x (show 0<y by omega)
      have:=Int.emod_nonneg x h0
      omega
    · rw [g'J hx (by omega)];exact e
def L25 : List Str := [Str.ofString "", Str.ofString "-", Str.ofString "0", Str.ofString "-0", Str.ofString "00", Str.ofString "1/1", Str.ofString "2/4", Str.ofString "3/", Str.ofString "/3", Str.ofString "3//2", Str.ofString "1/-2", Str.ofString "--1", Str.ofString "1.5", Str.ofString "+1", Str.ofString "1_0", Str.ofString "1000000", Str.ofString "1/1000000", Str.ofString "0/5", Str.ofString "-3/2", Str.ofString "999999/2", Str.ofString "1/0", Str.ofString "x", Str.ofString "1 2", Str.ofString "01/2", Str.ofString "1/02"]
theorem pick {xs:List Str} {k:Int} (h0:0≤k) (h1:k<xs.length) (hl:xs.all (fun x=>decide (x.length≤20))=true):∃ y,atI (xs.map Tr.str) k=some (.str y)∧y.length≤20:=by
  refine⟨xs[k.toNat]'(by omega),?_,?_⟩
  · rw [d'V _ h0 (by rw [List.length_map];omega),List.getElem_map]
  · have:=List.all_eq_true.mp hl _ (List.getElem_mem (l:=xs) (n:=k.toNat) (by omega))
    simpa using this
theorem a'X (x y:Str):(x++y).length=x.length+y.length:=by show (x.cps++y.cps).size=_;rw [Array.size_append];rfl
theorem o'E {x:Str} {k:Int} (h0:0≤k) (h1:k<x.length) (h2:x.length≤1000000) {Q:Tr→Prop} (q:∀ y:Str,y.length=1→Q (.str y)):wIdx (.str x) (.int k) Q:=by
  refine⟨h2,?_⟩
  have e:=d'V x.cps.toList h0 (by rw [Array.length_toList];have:x.cps.size=x.length:=rfl;omega)
  rw [e]
  exact q _ rfl
def g_odd:PSp:=spec 1 fun xs Q=>∃ c:Int,xs=[.int c]∧∀ y:Str,y.length≤20→Q (.str y)
theorem g'k (T:Tx K mg) {z:Bool}:FnOk P w K mg base CX0 1 T.a_law_odd T.d_law_odd ["_law_cell"] (spP K z 0 1 g_odd):=by
  refine a'U T.F_law_odd sc_law_odd rfl (by decide) fun cdv A outer s H E hr=>?_
  have hu:=a'B hr
  refine⟨_,(a'b (a'f (i:=1) sc_law_odd.nd (by decide) rfl (Or.inl rfl) (f'U (a'a a'g (a'a a'g (a'a a'g (a'a a'g (a'a a'g (a'a a'g (a'a a'g (a'a a'g (a'a a'g (a'a a'g (a'a a'g (a'a a'g (a'a a'g (a'a a'g (a'a a'g a'd)))))))))))))))))
   (a'b (a'f (i:=1) sc_law_odd.nd (by decide) rfl (Or.inl rfl) (a'v (qv 1) (f'U (a'a a'g (a'a a'g (a'a a'g (a'a a'g (a'a a'g (a'a a'g (a'a a'g (a'a a'g (a'a a'g (a'a a'g a'd)))))))))))))
   (a'e (a'o (a'D hu (qv 1) (a'w (qv 0) a'c) (fun _ _=>rfl)))))),?_⟩
  rintro xs Q' _ ⟨_,c,rfl,q⟩
  walk_at "p"
  refine⟨by decide,?_⟩
  obtain⟨y,hy,ly⟩:=pick (xs:=L25) (k:=c % 25) (by omega) (by show c % 25<25;omega) (by decide +kernel)
  show oQ (atI (L25.map Tr.str) (c % 25)) _
  rw [hy]
  exact⟨rfl,q y ly _⟩
def g_changed:PSp:=spec 2 fun xs Q=>∃ (x:Str) (c:Int),xs=[.str x,.int c]∧x.length≤200∧∀ y:Str,y.length≤500→Q (.str y)
theorem c'E (T:Tx K mg) {z:Bool}:FnOk P w K mg base CX0 1 T.a_law_changed T.d_law_changed ["_law_word","_law_cell"] (spP K z 0 2 g_changed):=by
  refine a'U T.F_law_changed sc_law_changed rfl (by decide) fun cdv A outer s H E hr=>?_
  have hu:=a'B hr
  refine⟨_,(a'b (a'f (i:=2) sc_law_changed.nd (by decide) rfl (Or.inl rfl) (a'w (a'C (qv 1) a'c) (a'v (a'H b'v a'P rfl T.z_len rfl (a'a (qv 0) a'd)) a'c)))
   (a'b (a's (a'i (a'A hr.units) a'p (a'w (qv 1) a'c) a'c (by with_unfolding_all rfl)) (a'e (a'o (a'v (a'v (b'p (qv 0) b'n (b'o (qv 2))) (a'D hu a'g (a'w (a'C (qv 1) a'c) a'c) (fun _ _=>rfl))) (b'p (qv 0) (b'o (qv 2)) b'n)))) a'm)
   (a'b (a's (a'i (a'A hr.units) a'p (a'w (qv 1) a'c) a'c (by with_unfolding_all rfl)) (a'e (a'o (a'v (b'p (qv 0) b'n (b'o (qv 2))) (b'p (qv 0) (b'o (a'v (qv 2) a'c)) b'n)))) a'm)
   (a'b (a's (a'i (a'A hr.units) a'p (a'w (qv 1) a'c) a'c (by with_unfolding_all rfl)) (a'e (a'o (a'v a'g (qv 0)))) a'm)
   (a'b (a's (a'i (a'A hr.units) a'p (a'w (qv 1) a'c) a'c (by with_unfolding_all rfl)) (a'e (a'o (a'v (a'v (b'p (qv 0) b'n (b'o (qv 2))) (a'D hu a'g (a'w (a'C (qv 1) a'c) a'c) (fun _ _=>rfl))) (b'p (qv 0) (b'o (a'v (qv 2) a'c)) b'n)))) a'm)
   (a'b (a's (a'i (a'A hr.units) a'p (a'w (qv 1) a'c) a'c (by with_unfolding_all rfl)) (a'e (a'o (a'v a'g (qv 0)))) a'm)
   (a'e (a'o (qv 0))))))))),?_⟩
  rintro xs Q' _ ⟨_,x,c,rfl,h1,q⟩
  walk_at "p"
  refine⟨⟨by decide,a'R (by decide)⟩,?_⟩
  rw [e'a]
  refine⟨by omega,?_⟩
  walk_at "p"
  have hn:0<(x.length:Int)+1:=by omega
  have a0:=Int.emod_nonneg (c.fdiv 8) (show (x.length:Int)+1≠0 by omega)
  generalize c.fdiv 8 % ((x.length:Int)+1)=at0 at a0
  have sl:=fun l h=>Txt.slice_le x l h
  have z1:(Str.ofString "0").length=1:=by decide +kernel
  have z2:(Str.ofString "-").length=1:=by decide +kernel
  have z3 : (Str.ofString "0123456789-/+ .").length = 15 := by decide +kernel
  have z4 : (Str.ofString "0123456789-/").length = 12 := by decide +kernel
  refine⟨hn,by decide,?_⟩
  split
  · have s1:=sl none (some at0)
    have s2:=sl (some at0) none
    simp only [b'x]
    refine⟨by omega,⟨by decide,a'R (by decide)⟩,by decide,o'E (by omega) (by omega) (by omega) fun y hy=>?_⟩
    walk_at "p"
    rw [a'X]
    refine⟨by omega,by omega,by omega,q _ ?_ _⟩
    rw [a'X,a'X];omega
  refine⟨by decide,?_⟩
  split
  · have s1:=sl none (some at0)
    have s2:=sl (some (at0+1)) none
    simp only [b'x]
    walk_at "p"
    refine⟨by omega,by omega,by omega,q _ ?_ _⟩
    rw [a'X];omega
  refine⟨by decide,?_⟩
  split
  · exact⟨by omega,q _ (by rw [a'X];omega) _⟩
  refine⟨by decide,?_⟩
  split
  · have s1:=sl none (some at0)
    have s2:=sl (some (at0+1)) none
    simp only [b'x]
    refine⟨by omega,⟨by decide,a'R (by decide)⟩,by decide,o'E (by omega) (by omega) (by omega) fun y hy=>?_⟩
    walk_at "p"
    rw [a'X]
    refine⟨by omega,by omega,by omega,q _ ?_ _⟩
    rw [a'X,a'X];omega
  refine⟨by decide,?_⟩
  split
  · exact⟨by omega,q _ (by rw [a'X];omega) _⟩
  · exact q _ (by omega) _
def oW (L:List Nat):Tr:=if whole 6 L=true then .int (vl L) else .non
def g_lwhole:PSp:=spec 1 fun xs Q=>∃ L:List Nat,xs=[.str (tx L)]∧L.length≤1000∧Q (oW L)
theorem m'A {L:List Nat} (c1:¬ L=[]) (c2:L.length≤6) (c3:¬ (1<L.length∧L.head?=some 48)):whole 6 L=dig L:=by
  unfold whole
  rw [decide_eq_false c1,decide_eq_true c2]
  have:(decide (L=[48]) || !decide (L.head?=some 48))=true:=by
    cases L with
    | nil=>exact absurd rfl c1
    | cons c r=>
      by_cases h:c=48
      · subst h
        cases r with
        | nil=>rfl
        | cons _ _=>exact absurd ⟨by simp only [List.length_cons];omega,rfl⟩ c3
      · simp [h]
  rw [this]
  simp
theorem b'Q (T:Tx K mg) {z:Bool}:FnOk P w K mg base CX0 1 T.a_law_whole T.d_law_whole ["_law_word"] (spP K z 0 1 g_lwhole):=by
  refine a'U T.F_law_whole sc_law_whole rfl (by decide) fun cdv A outer s H E hr=>?_
  have hu:=a'B hr
  refine⟨_,(a'b (a's (QW.t (a'S (a'i (a'A hr.units) a'p (qv 0) a'g (by with_unfolding_all rfl)) (a'S (a'i c'd b'l (a'H b'v a'P rfl T.z_len rfl (a'a (qv 0) a'd)) a'c (by with_unfolding_all rfl)) (b'm (QW.t (g'Z (a'i c'd b'l (a'H b'v a'P rfl T.z_len rfl (a'a (qv 0) a'd)) a'c (by with_unfolding_all rfl)) (e'y (a'i (a'A hr.units) a'p (a'D hu (qv 0) a'c (fun _ _=>rfl)) a'g (by with_unfolding_all rfl))))))))) (a'e (a'o b'F)) a'm)
   (a'b (p'i PassesOwn.never rfl (o't (qv 0)) (p'w (i:=1) sc_law_whole.nd (by decide) rfl (Or.inl rfl)) (a'e (a's (a'i d'k g'd (qv 1) a'g (by with_unfolding_all rfl)) (a'e (a'o b'F)) a'm)))
   (a'e (a'o (b'a b'M c'g rfl T.z_int rfl (a'a (qv 0) a'd)))))),?_⟩
  rintro xs Q' _ ⟨_,L,rfl,h1,q⟩
  have q0:whole 6 L=false→∀ ρ,Q' .non ρ:=fun e=>by unfold oW at q;rw [e] at q;exact q
  have q1:whole 6 L=true→∀ ρ,Q' (.int (vl L)) ρ:=fun e=>by unfold oW at q;rw [e] at q;exact q
  have qn:(L=[]∨¬ L.length≤6∨(1<L.length∧L.head?=some 48))→∀ ρ,Q' .non ρ:=fun h=>q0 (by
    cases e:whole 6 L with
    | false=>rfl
    | true=>
      obtain⟨a,b,_,d⟩:=a'I e
      rcases h with h | h | h
      · exact absurd h a
      · exact absurd b h
      · rcases d with d | d
        · rw [d] at h;exact absurd h.1 (by decide)
        · exact absurd h.2 d)
  walk_at "p"
  rw [i'C,a'E]
  split
  · rename_i c
    exact qn (.inl (of_decide_eq_true c)) _
  rename_i c1
  have c1:¬ L=[]:=fun z=>c1 (decide_eq_true z)
  simp only [e'a,a'l]
  refine⟨by omega,?_⟩
  walk_at "p"
  split
  · rename_i c
    have:=of_decide_eq_true c
    exact qn (.inr (.inl (by omega))) _
  rename_i c2
  have c2:L.length≤6:=by
    have:¬ ((6:Int)<L.length):=fun z=>c2 (decide_eq_true z)
    omega
  refine⟨by omega,?_⟩
  have lp:¬ (1<L.length∧L.head?=some 48)→Loop (List.map (fun c=>Tr.str ⟨#[c]⟩) L) (pgN 1) (pIfS (pT (p2 (wInS true) (pVar 1) (pC (.str (Str.ofString "0123456789"))))) (pRet (pC .non)) pNext) { nx:=pRet (pB wIntT (pCons (pVar 0) pNil)) { nx:=fun ρ=>Q' Tr.non ρ,rt:=Q' },rt:=Q' } [.str (tx L),.hole]:=fun c3=>by
    have ew:=m'A c1 c2 c3
    refine Loop.map L _ (fun i ρ=>∃ a:Tr,ρ=[.str (tx L),a]∧dig (L.take i)=true) ⟨.hole,rfl,rfl⟩ ?_ ?_
    · rintro i c ρ hx ⟨a,rfl,e⟩
      walk_at "p"
      rw [f'L]
      split
      · rename_i c4
        refine q0 ?_ _
        rw [ew]
        exact List.all_eq_false.mpr ⟨c,List.mem_of_getElem? hx,by intro z;rw [z] at c4;cases c4⟩
      · rename_i c4
        refine⟨_,rfl,?_⟩
        unfold dig at e ⊢
        rw [List.take_add_one,hx,List.all_append,e]
        simpa using c4
    · rintro ρ ⟨a,rfl,e⟩
      rw [List.take_length] at e
      rw [e] at ew
      walk_at "p"
      exact⟨_,g'j ew,by rw [a'l];omega,q1 ew _⟩
  split
  · rename_i c4
    have c4:(1:Int)<L.length:=of_decide_eq_true c4
    cases L with
    | nil=>exact absurd rfl c1
    | cons c r=>
      refine i'D (by omega) ?_
      rw [s_0]
      walk_at "p"
      rw [a'E]
      split
      · rename_i c5
        have c5:[c]=[48]:=of_decide_eq_true c5
        exact qn (.inr (.inr ⟨by omega,by rw [(List.cons.inj c5).1];rfl⟩)) _
      · rename_i c5
        exact lp fun z=>c5 (decide_eq_true (by rw [Option.some.inj z.2]))
  · rename_i c4
    exact lp fun z=>c4 (decide_eq_true (by have:=z.1;omega))
theorem l'd {L:List Nat} {i:Nat} (h:i≤L.length):Txt.slice (tx L) none (some (i:Int))=tx (L.take i):=by
  show StrLaws.sliceText (tx L) none (some (i:Int))=_
  rw [StrLaws.sliceText_to ⟨by omega,by rw [a'y];omega⟩,a'y,List.drop_zero,show ((i:Int) - 0).toNat=i by omega]
  rfl
theorem m'B {L:List Nat} {i:Nat} (h:i≤L.length):Txt.slice (tx L) (some (i:Int)) none=tx (L.drop i):=by
  show StrLaws.sliceText (tx L) (some (i:Int)) none=_
  rw [StrLaws.sliceText_from ⟨by omega,by rw [a'y];omega⟩,a'y,Int.toNat_natCast,List.take_of_length_le (by rw [List.length_drop];omega)]
  rfl
theorem o'F (L:List Nat):decide (Txt.slice (tx L) none (some 1)=tx [45])=decide (L.head?=some 45):=by
  cases L with
  | nil => decide +kernel
  | cons c r =>
    have e:=l'd (L:=c :: r) (i:=1) (by rw [List.length_cons];omega)
    rw [show Txt.slice (tx (c :: r)) none (some 1)=tx ((c :: r).take 1) from e,a'E,decide_eq_decide]
    simp
theorem m'C {s t:List Nat} (h:47 ∉ s):∃ rest,Builtin.Str.occurrences (tx (s++47 :: t)) (tx [47]) 0 (tx (s++47 :: t)).length 1=s.length :: rest:=by
  have at_iff:∀ i,StrLaws.At (tx (s++47 :: t)) (tx [47]) (tx (s++47 :: t)).length i↔(s++47 :: t)[i]?=some 47:=fun i=>StrLaws.subAt_one (tx (s++47 :: t)) 47 i
  have here:(s++47 :: t)[s.length]?=some 47:=by rw [List.getElem?_append_right (Nat.le_refl _),Nat.sub_self];rfl
  rcases StrLaws.occ_head (tx (s++47 :: t)) (tx [47]) 1 (Nat.le_refl _) with ⟨_,h2⟩ | ⟨i,r,e,h2,h3⟩
  · exact absurd ((at_iff _).mpr here) (h2 _)
  · have a1:¬ s.length<i:=fun z=>h3 _ z ((at_iff _).mpr here)
    have a2:¬ i<s.length:=fun z=>by
      have:=(at_iff i).mp h2
      rw [List.getElem?_append_left z] at this
      exact h (List.mem_of_getElem? this)
    have:i=s.length:=by omega
    subst this
    exact⟨r,e⟩
theorem p'p {t:List Nat} (h:47∈t):whole 6 t=false:=by
  cases e:whole 6 t with
  | false => rfl
  | true => have := b'W (a'I e).2.2.1 47 h; omega
theorem p'q {L:List Nat} (h:47 ∉ strip L):dueR L=if whole 6 (strip L)=true∧¬ (vl (strip L)=0∧L.head?=some 45) then some (sgn L (vl (strip L)),1) else none:=by
  unfold dueR
  rw [a'x h]
theorem p'r {L s t:List Nat} (e:strip L=s++47 :: t) (h:47 ∉ s):dueR L=if whole 6 s=true∧whole 6 t=true∧2≤vl t∧Nat.gcd (vl s) (vl t)=1∧¬ (vl s=0∧L.head?=some 45) then some (sgn L (vl s),((vl t:Nat):Int)) else none:=by
  unfold dueR
  rw [e,a'K h]
  by_cases h2:47∈t
  · have hw:=p'p h2
    rw [if_neg (fun z=>by rw [hw] at z;exact absurd z.2.1 (by decide))]
    obtain⟨a,b,rfl,ha⟩:=List.eq_append_cons_of_mem h2
    rw [a'K ha]
    cases hs:splitL 47 b with
    | nil=>exact absurd hs (a'J _ _)
    | cons p ps=>rfl
  · rw [a'x h2]
theorem g'l (Q:Tr→Prop):wIsV false .non .non Q=Q (.bl true):=rfl
theorem l'e (n:Int) (Q:Tr→Prop):wIsV false (.int n) .non Q=Q (.bl false):=rfl
theorem o'G (a b:Nat):decide (gd (a:Int) (b:Int)=1)=decide (Nat.gcd a b=1):=by
  have e:gd (a:Int) (b:Int)=((Nat.gcd a b:Nat):Int):=rfl
  rw [e,decide_eq_decide]
  omega
theorem l'f {L:List Nat} (h:L.length≤1000) {Q:Tr→List Tr→Prop} (q1:whole 6 L=true→∀ ρ,Q (.int (vl L)) ρ) (q0:whole 6 L=false→∀ ρ,Q .non ρ):g_lwhole [.str (tx L)] Q:=⟨rfl,L,rfl,h,by
  unfold oW
  cases e:whole 6 L with
  | true => exact q1 e
  | false => exact q0 e⟩
theorem g'm {a b:Int} {Q:Tr→List Tr→Prop} (q:∀ ρ,Q (.int (gd a b)) ρ):g_shared [.int a,.int b] Q:=⟨rfl,a,b,rfl,q⟩
def oD (L:List Nat):Tr:=match dueR L with | some (a,b)=>.tup [.int a,.int b] | none=>.non
def g_due:PSp:=spec 1 fun xs Q=>∃ L:List Nat,xs=[.str (tx L)]∧L.length≤600∧Q (oD L)
theorem g'n (T:Tx K mg) {z:Bool}:FnOk P w K mg base CX0 2 T.a_law_due T.d_law_due ["_law_word"] (spP K z 0 1 g_due):=by
  refine a'U T.F_law_due sc_law_due rfl (by decide) fun cdv A outer s H E hr=>?_
  have hu:=a'B hr
  refine⟨_,(a'b (a'f (i:=1) sc_law_due.nd (by decide) rfl (Or.inl rfl) (qv 0))
   (a'b (a's (a'i (a'A hr.units) a'p (b'p (qv 0) b'n (b'o a'c)) a'g (by with_unfolding_all rfl)) (a'e (a'f (i:=1) sc_law_due.nd (by decide) rfl (Or.inl rfl) (b'p (qv 0) (b'o a'c) b'n))) a'm)
   (a'b (a'f (i:=2) sc_law_due.nd (by decide) rfl (Or.inl rfl) (qv 1))
   (a'b (a'f (i:=3) sc_law_due.nd (by decide) rfl (Or.inl rfl) a'c)
   (a'b (a's (a'i c'F f'H a'g (qv 1) (by with_unfolding_all rfl)) (a'b (a'f (i:=4) sc_law_due.nd (by decide) rfl (Or.inl rfl) (m'v (qv 1) a'g ⟨rfl,rfl,rfl,rfl⟩))
   (a'b (a'f (i:=2) sc_law_due.nd (by decide) rfl (Or.inl rfl) (b'p (qv 1) b'n (b'o (qv 4))))
   (a'b (a'f (i:=3) sc_law_due.nd (by decide) rfl (Or.inl rfl) (a'n ((b'Q T).mono (by decide)) (by first | exact id | exact fun _=>rfl) (fun _ _ h=>h.1) hr rfl T.m_law_whole T.F_law_whole.kp T.b_law_whole (QA.frz (a'a (b'p (qv 1) (b'o (a'v (qv 4) a'c)) b'n) a'd))))
   (a'e (a's (QW.t (a'S (a'i d'z d'A (qv 3) b'F (by with_unfolding_all rfl)) (b'm (a'i j'e d't (qv 3) a'c (by with_unfolding_all rfl))))) (a'e (a'o b'F)) a'm))))) a'm)
   (a'b (a'f (i:=2) sc_law_due.nd (by decide) rfl (Or.inl rfl) (a'n ((b'Q T).mono (by decide)) (by first | exact id | exact fun _=>rfl) (fun _ _ h=>h.1) hr rfl T.m_law_whole T.F_law_whole.kp T.b_law_whole (QA.frz (a'a (qv 2) a'd))))
   (a'b (a's (QW.t (a'S (a'i d'z d'A (qv 2) b'F (by with_unfolding_all rfl)) (a'S (a'i (b'y hr.units) a'F (a'n ((b'c T).mono (by decide)) (by first | exact id | exact fun _=>rfl) (fun _ _ h=>h.1) hr rfl T.m_law_shared T.F_law_shared.kp T.b_law_shared (QA.frz (a'a (qv 2) (a'a (qv 3) a'd)))) a'c (by with_unfolding_all rfl)) (b'm (QW.t (g'Z (a'i (a'A hr.units) a'p (qv 2) a'c (by with_unfolding_all rfl)) (e'y (a'i (b'y hr.units) a'F (qv 1) (qv 0) (by with_unfolding_all rfl))))))))) (a'e (a'o b'F)) a'm)
   (a'b (a's (a'i (b'y hr.units) a'F (qv 1) (qv 0) (by with_unfolding_all rfl)) (a'e (a'f (i:=2) sc_law_due.nd (by decide) rfl (Or.inl rfl) (c'Z a'c (qv 2)))) a'm)
   (a'e (a'o (a'T (a'a (qv 2) (a'a (qv 3) a'd))))))))))))),?_⟩
  rintro xs Q' _ ⟨_,L,rfl,h1,q⟩
  have qn:dueR L=none→∀ ρ,Q' .non ρ:=fun e=>by unfold oD at q;rw [e] at q;exact q
  have qs:∀ a b,dueR L=some (a,b)→∀ ρ,Q' (.tup [.int a,.int b]) ρ:=fun a b e=>by unfold oD at q;rw [e] at q;exact q
  have ls:=c'U L
  have hhas:∀ M:List Nat,hasS (tx M) (tx [47])=decide (47∈M):=fun M=>StrLaws.found_one (tx M) 47
  have neL:L.head?=some 45→¬ strip L=L:=fun c z=>by
    have:=congrArg List.length ((c'h c).symm.trans z.symm)
    rw [List.length_cons] at this
    omega
  walk_at "q"
  refine c'A (fun ρ=>ρ=[.str (tx L),.str (tx (strip L)),.hole,.hole,.hole]) (fun N hN=>?_) ?_
  · walk_at "p"
    rw [b'x,s_m]
    refine⟨by rw [a'l];omega,?_⟩
    walk_at "p"
    rw [o'F]
    split
    · rename_i c
      have c:L.head?=some 45:=of_decide_eq_true c
      rw [b'x,o'D,show L.tail=strip L by unfold strip;rw [if_pos c]]
      refine⟨by rw [a'l];omega,rfl,?_⟩
      exact hN _ rfl
    · rename_i c
      have c:¬ L.head?=some 45:=fun z=>c (decide_eq_true z)
      exact hN _ (by rw [b's c])
  rintro ρ rfl
  walk_at "q"
  refine c'A (fun ρ=>∃ (s:List Nat) (b:Nat) (x:Tr),ρ=[.str (tx L),.str (tx (strip L)),.str (tx s),.int b,x]∧s.length≤600∧dueR L=if whole 6 s=true∧Nat.gcd (vl s) b=1∧¬ (vl s=0∧L.head?=some 45) then some (sgn L (vl s),((b:Nat):Int)) else none) (fun N hN=>?_) ?_
  · walk_at "p"
    rw [c'i,hhas]
    split
    · rename_i h47
      obtain⟨s,t,e,hs⟩:=List.eq_append_cons_of_mem (of_decide_eq_true h47)
      have db:=p'r e hs
      rw [e] at ls
      rw [List.length_append,List.length_cons] at ls
      obtain⟨rest,hi⟩:=m'C (t:=t) hs
      rw [e]
      refine⟨_,rest,hi,?_⟩
      walk_at "p"
      rw [b'x,l'd (by rw [List.length_append];omega),List.take_left]
      refine⟨by rw [a'l,List.length_append,List.length_cons];omega,?_⟩
      walk_at "p"
      have e1:((s.length:Int)+1)=((s.length+1:Nat):Int):=by omega
      rw [b'x,e1,m'B (by rw [List.length_append,List.length_cons];omega),show List.drop (s.length+1) (s++47 :: t)=t by rw [← List.drop_drop,List.drop_left];rfl]
      refine⟨by rw [a'l,List.length_append,List.length_cons];omega,?_⟩
      walk_at "p"
      refine l'f (by omega) (fun hw ρ=>?_) fun hw ρ=>?_
      · walk_at "p"
        rw [l'e]
        walk_at "p"
        split
        · rename_i c2
          have c2:=of_decide_eq_true c2
          exact qn (by rw [db,if_neg (fun z=>by have:=z.2.2.1;omega)]) _
        · rename_i c2
          have c2:¬ ((vl t:Nat):Int)<2:=fun z=>c2 (decide_eq_true z)
          refine hN _ ⟨s,vl t,.int s.length,by rw [e],by omega,?_⟩
          rw [db]
          have:(whole 6 s=true∧whole 6 t=true∧2≤vl t∧Nat.gcd (vl s) (vl t)=1∧¬ (vl s=0∧L.head?=some 45))=(whole 6 s=true∧Nat.gcd (vl s) (vl t)=1∧¬ (vl s=0∧L.head?=some 45)):=propext ⟨fun z=>⟨z.1,z.2.2.2⟩,fun z=>⟨z.1,hw,by omega,z.2⟩⟩
          simp only [this]
      · walk_at "p"
        rw [g'l]
        walk_at "p"
        exact qn (by rw [db,if_neg (fun z=>by rw [hw] at z;exact absurd z.2.1 (by decide))]) _
    · rename_i h47
      have h47:47 ∉ strip L:=fun z=>h47 (decide_eq_true z)
      refine hN _ ⟨strip L,1,_,rfl,by omega,?_⟩
      rw [p'q h47]
      have:(whole 6 (strip L)=true∧Nat.gcd (vl (strip L)) 1=1∧¬ (vl (strip L)=0∧L.head?=some 45))=(whole 6 (strip L)=true∧¬ (vl (strip L)=0∧L.head?=some 45)):=propext ⟨fun z=>⟨z.1,z.2.2⟩,fun z=>⟨z.1,Nat.gcd_one_right _,z.2⟩⟩
      simp only [this]
      rfl
  rintro ρ ⟨s,b,x,rfl,hl,du⟩
  walk_at "q"
  refine l'f (by omega) (fun hw ρ=>?_) fun hw ρ=>?_
  · walk_at "p"
    rw [l'e]
    walk_at "p"
    refine g'm fun ρ=>?_
    walk_at "p"
    rw [o'G]
    rw [a'E]
    split
    · rename_i c2
      have c2:¬ Nat.gcd (vl s) b=1:=by simpa using c2
      exact qn (by rw [du,if_neg (fun z=>c2 z.2.1)]) _
    rename_i c2
    have c2:Nat.gcd (vl s) b=1:=by simpa using c2
    by_cases c:L.head?=some 45
    · have ne:=neL c
      have sg:0 - ((vl s:Nat):Int)=sgn L (vl s):=by unfold sgn;rw [if_pos c];omega
      rw [decide_eq_false ne]
      split
      · rename_i c3
        have c3:((vl s:Nat):Int)=0:=of_decide_eq_true c3
        exact qn (by rw [du,if_neg (fun z=>z.2.2 ⟨by omega,c⟩)]) _
      · rename_i c3
        have c3:¬ ((vl s:Nat):Int)=0:=fun z=>c3 (decide_eq_true z)
        rw [sg]
        exact qs _ _ (by rw [du,if_pos ⟨hw,c2,fun z=>c3 (by have:=z.1;omega)⟩]) _
    · have sg:((vl s:Nat):Int)=sgn L (vl s):=by unfold sgn;rw [if_neg c]
      have d:=qs _ _ (by rw [du,if_pos ⟨hw,c2,fun z=>c z.2⟩])
      rw [decide_eq_true (b's c)]
      rw [← sg] at d
      split
      · exact d _
      · exact d _
  · walk_at "p"
    rw [g'l]
    walk_at "p"
    exact qn (by rw [du,if_neg (fun z=>by rw [hw] at z;exact absurd z.1 (by decide))]) _
def g_ltold:PSp:=spec 1 fun xs Q=>∃ L:List Nat,xs=[.str (tx L)]∧L.length≤600∧(∀ a b,dueR L=some (a,b)→Q (.tup [.str (Str.ofString "told"),.tup [.int a,.int b]]))∧(dueR L=none→Q (.tup [.str (Str.ofString "refused"),.bl true]))
theorem b'Z (T:Tx K mg) {z:Bool}:FnOk P w K mg base CX0 4 T.a_law_told T.d_law_told ["_law_word"] (spP K z 0 1 g_ltold):=by
  refine a'U T.F_law_told sc_law_told rfl (by decide) fun cdv A outer s H E hr=>?_
  have hu:=a'B hr
  refine⟨_,(a'b (a'f (i:=1) sc_law_told.nd (by decide) rfl (Or.inl rfl) (a'T (a'a a'g (a'a d'u a'd))))
   (a'b (m's (i:=2) (pe:=fun q=>pTup (pCons (_) (pCons (pCallX q _ _) (pNil)))) rfl rfl rfl T.m_NoWish sc_law_told.nd (by decide) rfl rfl (j'q (i:=1) (by decide)) (fun pn xe te h=>d'f (i:=1) sc_law_told.nd rfl (Or.inl rfl) h) (fun pn xe R hx q=>(a'T (a'a a'g (a'a (m'r ((c'D T).mono (by decide)) hx (by first | exact id | exact fun _=>rfl) (fun _ _ _ h=>h.1) hr rfl T.m_read_number T.F_read_number.kp T.b_read_number (QA.frz (a'a (qv 0) a'd))) a'd)))) (fun v=>(a'e (a'f (i:=1) sc_law_told.nd (by decide) rfl (Or.inl rfl) (a'T (a'a a'g (a'a (d'c (p'l K rfl rfl T.z_isinstance rfl (a'a (qv 2) (a'a (f'X rfl T.m_FrameError) a'd))) (d'b (d'w (o'A K rfl rfl T.z_isinstance rfl (a'a (qv 2) (a'a (a'T (a'a (f'X rfl T.m_Mixed) (a'a (f'X rfl T.m_NoLine) (a'a (f'X rfl T.m_NoPart) a'd)))) a'd)))))) a'd)))))))
   (a'e (a'o (qv 1))))),?_⟩
  rintro xs Q' _ ⟨_,L,rfl,h1,q,q'⟩
  walk_at "p"
  refine⟨rfl,L,rfl,h1,fun a b e ρ=>⟨rfl,rfl,q a b e _⟩,fun e=>⟨T.em_NoWish_NoWish,_,rfl,true,T.x_NoWish,T.ki_NoWish_FrameError,?_⟩⟩
  walk_at "p"
  refine⟨[T.c_Mixed,T.c_NoLine,T.c_NoPart],false,rfl,T.x_NoWish,T.kt_NoWish_Mixed_NoLine_NoPart,?_⟩
  exact⟨rfl,q' e _⟩
def g_kinds:PSp:=spec 1 fun xs Q=>∃ a b:Int,xs=[.tup [.int a,.int b]]∧Q (.bl true)
theorem e'b (T:Tx K mg) {z:Bool}:FnOk P w K mg base CX0 1 T.a_law_kinds T.d_law_kinds ["_law_one"] (spP K z 0 1 g_kinds):=by
  refine a'U T.F_law_kinds d'Y rfl (by decide) fun cdv A outer s H E hr=>?_
  have hu:=a'B hr
  refine⟨_,(a'b (a's (QW.t (a'S (d'a (c'r (f'Y K rfl rfl T.z_isinstance rfl (a'a (qv 0) (a'a (g'e rfl T.z_tuple rfl) a'd))))) (b'm (a'i (b'y hr.units) a'F (a'H b'v a'P rfl T.z_len rfl (a'a (qv 0) a'd)) a'c (by with_unfolding_all rfl))))) (a'e (a'o d'u)) a'm)
   (a'e (a'o (d'c (d'w (f'Y K rfl rfl T.z_isinstance rfl (a'a (a'D hu (qv 0) a'c (fun _ _=>rfl)) (a'a (g'e rfl T.z_bool rfl) a'd)))) (d'b (d'w (f'Y K rfl rfl T.z_isinstance rfl (a'a (a'D hu (qv 0) a'c (fun _ _=>rfl)) (a'a (g'e rfl T.z_bool rfl) a'd))))))))),?_⟩
  rintro xs Q' _ ⟨_,a,b,rfl,q⟩
  walk_at "p"
  refine⟨true,rfl,?_⟩
  walk_at "p"
  refine⟨false,rfl,?_⟩
  walk_at "p"
  exact⟨false,rfl,q _⟩
theorem g'o {a b:Int} (hb:0<b):a.fdiv (gd a b)=(Rat.divInt a b).num:=by
  have:=d'm (t:=a) (b:=b) (by omega)
  unfold dv at this
  rw [if_neg (by omega)] at this
  exact this
theorem g'p {a b:Int} (hb:0<b):b.fdiv (gd a b)=((Rat.divInt a b).den:Int):=by
  have:=d'n (t:=a) (b:=b) (by omega)
  unfold dv at this
  rw [if_neg (by omega)] at this
  exact this
def g_far:PSp:=spec 1 fun xs Q=>∃ (f:Fl) (ns:List Int),Fp f∧xs=[.lst f (ns.map Enc.t)]∧Q (.bl true)
theorem g'q (T:Tx K mg) {z:Bool}:FnOk P w K mg base CX0 2 T.a_law_far T.d_law_far ["_law_script"] (spP K z 0 1 g_far):=by
  refine a'U T.F_law_far sc_law_far rfl (by decide) fun cdv A outer s H E hr=>?_
  have hu:=a'B hr
  refine⟨_,(a'b (a'f (i:=1) sc_law_far.nd (by decide) rfl (Or.inl rfl) (c'Z (a'w (a'n ((a't T).mono (by decide)) (by first | exact id | exact fun _=>rfl) (fun _ _ h=>h.1) hr rfl T.m_law_cell_at T.F_law_cell_at.kp T.b_law_cell_at (QA.frz (a'a (qv 0) (a'a a'c a'd)))) (a'v (p'a a'c (f'W a'c a'c)) a'c)) (f'W a'c a'c)))
   (a'b (a'f (i:=2) sc_law_far.nd (by decide) rfl (Or.inl rfl) (a'v a'c (a'w (a'n ((a't T).mono (by decide)) (by first | exact id | exact fun _=>rfl) (fun _ _ h=>h.1) hr rfl T.m_law_cell_at T.F_law_cell_at.kp T.b_law_cell_at (QA.frz (a'a (qv 0) (a'a a'c a'd)))) (f'W a'c a'c))))
   (a'b (a'f (i:=3) sc_law_far.nd (by decide) rfl (Or.inl rfl) (a'n ((b'c T).mono (by decide)) (by first | exact id | exact fun _=>rfl) (fun _ _ h=>h.1) hr rfl T.m_law_shared T.F_law_shared.kp T.b_law_shared (QA.frz (a'a (qv 1) (a'a (qv 2) a'd)))))
   (a'b (a'f (i:=4) sc_law_far.nd (by decide) rfl (Or.inl rfl) (b'a a'z b'f rfl T.z_str rfl (a'a (a'C (qv 1) (qv 3)) a'd)))
   (a'b (a's (a'i c'd b'l (a'C (qv 2) (qv 3)) a'c (by with_unfolding_all rfl)) (a'e (a'f (i:=4) sc_law_far.nd (by decide) rfl (Or.inl rfl) (a'v (a'v (qv 4) a'g) (b'a a'z b'f rfl T.z_str rfl (a'a (a'C (qv 2) (qv 3)) a'd))))) a'm)
   (a'e (a'o (b'G (a'A hr.units) a'p (a'n ((a'L T).mono (by decide)) (by first | exact id | exact fun _=>rfl) (fun _ _ h=>h.1) hr rfl T.m_show_number T.F_show_number.kp T.b_show_number (QA.frz (a'a (a'T (a'a (a'C (qv 1) (qv 3)) (a'a (a'C (qv 2) (qv 3)) a'd))) a'd))) (qv 4) (by with_unfolding_all rfl))))))))),?_⟩
  rintro xs Q' _ ⟨_,f,ns,_,rfl,q⟩
  walk_at "p"
  refine⟨rfl,_,ns,3,inferInstance,rfl,by decide,fun c3 ρ=>?_⟩
  walk_at "p"
  have p30:(10:Int) ^ Int.toNat 30=1000000000000000000000000000000:=by decide
  have p20:(10:Int) ^ Int.toNat 20=100000000000000000000:=by decide
  rw [p30,p20]
  refine⟨⟨by decide,by decide,by decide⟩,o'V (by decide) (by decide),by decide,⟨by decide,by decide,by decide⟩,?_⟩
  refine⟨rfl,_,ns,4,inferInstance,rfl,by decide,fun c4 ρ=>?_⟩
  walk_at "p"
  have b0:=Int.emod_nonneg c4 (show (100000000000000000000:Int)≠0 by decide)
  have b1:=Int.emod_lt_of_pos c4 (show (0:Int)<100000000000000000000 by decide)
  have a0:=Int.emod_nonneg c3 (show (2*1000000000000000000000000000000+1:Int)≠0 by decide)
  have a1:=Int.emod_lt_of_pos c3 (show (0:Int)<2*1000000000000000000000000000000+1 by decide)
  have hb:0<1+c4 % 100000000000000000000:=by omega
  have ka:bi (c3 % (2*1000000000000000000000000000000+1) - 1000000000000000000000000000000)≤110:=a'G 110 (by omega)
  have kb:bi (1+c4 % 100000000000000000000)≤110:=a'G 110 (by omega)
  generalize c3 % (2*1000000000000000000000000000000+1) - 1000000000000000000000000000000=top at ka
  generalize 1+c4 % 100000000000000000000=bottom at hb kb
  have bq:bs (Rat.divInt top bottom)≤110:=a'O (by omega) ka kb
  have e1:=g'o (a:=top) hb
  have e2:=g'p (a:=top) hb
  have cd:∀ x:Int,CDivB x (gd top bottom):=fun x=>b'V (by omega) (by omega)
  refine⟨⟨by decide,by decide,by decide⟩,by decide,g'm fun ρ=>?_⟩
  walk_at "p"
  rw [e1,e2]
  refine⟨cd _,b'X _ _ (b'D (b'P bq) (by decide)) ?_⟩
  walk_at "p"
  refine⟨cd _,?_⟩
  have l1:=b'h (b'P bq)
  have b2:=Nat.le_trans (d'o (Rat.divInt top bottom)) bq
  have l2:=b'h b2
  split
  · rename_i c
    have c:(1:Int)<(Rat.divInt top bottom).den:=of_decide_eq_true c
    refine⟨by rw [c'i,a'l,a'l,List.length_singleton];omega,cd _,b'X _ _ (b'D b2 (by decide)) ?_⟩
    rw [c'i,b'r]
    walk_at "p"
    rw [b'r,a'l,a'l,List.length_append,List.length_singleton]
    refine⟨by omega,cd _,cd _,b'i (by omega) fun ρ=>?_⟩
    walk_at "p"
    rw [a'E,show shw (Rat.divInt top bottom)=dec (Rat.divInt top bottom).num++[47]++dec ((Rat.divInt top bottom).den:Int) by unfold shw;rw [if_neg (by omega),b'Y];simp,decide_eq_true rfl]
    exact q _
  · rename_i c
    have c:¬ (1:Int)<(Rat.divInt top bottom).den:=fun z=>c (decide_eq_true z)
    have dp:=(Rat.divInt top bottom).den_pos
    refine⟨cd _,cd _,b'i (by omega) fun ρ=>?_⟩
    walk_at "p"
    rw [a'E,show shw (Rat.divInt top bottom)=dec (Rat.divInt top bottom).num by unfold shw;rw [if_pos (by omega)],decide_eq_true rfl]
    exact q _
theorem c'W {n:Nat} (h:n<1000000):whole 6 (dgs n)=true:=by
  have l6:(dgs n).length≤6:=by
    unfold dgs
    rw [List.length_map]
    exact (Nat.length_toDigits_le_iff (by decide) (by decide)).mpr h
  have dg:dig (dgs n)=true:=List.all_eq_true.mpr fun c m=>by have:=b'g n c m;simp;omega
  have hd:dgs n=[48]∨¬ (dgs n).head?=some 48:=by
    cases e:dgs n with
    | nil=>exact absurd e (i'B n)
    | cons c r=>
      by_cases h48:c=48
      · subst h48
        cases r with
        | nil=>exact .inl rfl
        | cons d r=>
          exfalso
          have v:=a'W n
          rw [e] at v
          have v2:vl (d :: r)=n:=by rw [← v];exact NumText.digitsVal_zero.symm
          have al:NumText.AllDigits (d :: r):=fun c m=>b'g n c (by rw [e];exact List.mem_cons_of_mem _ m)
          have t:=NumText.toDigits_all (d :: r) al
          have e2:dgs n=(Nat.toDigits 10 (vl (d :: r))).map Char.toNat:=by rw [v2];rfl
          have len:(dgs n).length=r.length+2:=by rw [e];rfl
          rw [e2,List.length_map] at len
          unfold vl at len
          rw [t] at len
          have dl:(List.dropWhile (fun x=>x == 48) (d :: r)).length≤r.length+1:=by
            have:=(List.dropWhile_sublist (p:=fun x=>x == 48) (l:=d :: r)).length_le
            exact this
          cases hdw:List.dropWhile (fun x=>x == 48) (d :: r) with
          | nil=>rw [hdw] at len;have len:1=r.length+2:=len;omega
          | cons x y=>
            rw [hdw] at len dl
            rw [List.length_map] at len
            omega
      · exact .inr fun z=>h48 (by simpa using z)
  unfold whole
  rw [decide_eq_false (i'B n),decide_eq_true l6,dg]
  rcases hd with hd | hd
  · rw [decide_eq_true hd];rfl
  · rw [decide_eq_false hd];simp
theorem f'N {L:List Nat} {a:Int} (h:L.head?=some 45↔a<0):sgn L a.natAbs=a:=by
  unfold sgn
  by_cases c:a<0
  · rw [if_pos (h.mpr c)];omega
  · rw [if_neg (fun z=>c (h.mp z))];omega
theorem m'D {q:Rat} (h1:q.num.natAbs<1000000) (h2:q.den<1000000):dueR (shw q)=some (q.num,(q.den:Int)):=by
  have hst:vl (strip (dec q.num))=q.num.natAbs:=by rw [b'O,a'W]
  have hw:whole 6 (strip (dec q.num))=true:=by rw [b'O];exact c'W h1
  by_cases hd:q.den=1
  · have e:shw q=dec q.num:=by unfold shw;rw [if_pos hd]
    have hs:splitL 47 (shw q)=[dec q.num]:=by rw [e];exact a'x (b'I _)
    obtain⟨r1,_⟩:=g'h hs hw
    have sg:sgn (shw q) (vl (strip (dec q.num)))=q.num:=by rw [hst];exact f'N (by rw [e];exact a'Z _)
    rw [sg] at r1
    have eq:Rat.divInt q.num 1=q:=by
      have z:=Rat.num_divInt_den q
      rw [hd] at z
      exact z
    rw [eq] at r1
    rw [r1 rfl,hd];rfl
  · have e:shw q=dec q.num++47 :: dgs q.den:=by unfold shw;rw [if_neg hd]
    have hs:splitL 47 (shw q)=[dec q.num,dgs q.den]:=by rw [e,a'K (b'I _),a'x (d'Z _)]
    have dp:=q.den_pos
    obtain⟨r1,_⟩:=g'i hs hw (c'W h2) (by rw [a'W];omega)
    have hh:(shw q).head?=some 45↔q.num<0:=by
      have f:=(fig hs).2
      rw [← f]
      exact a'Z _
    have sg:sgn (shw q) (vl (strip (dec q.num)))=q.num:=by rw [hst];exact f'N hh
    rw [sg,a'W,Rat.num_divInt_den] at r1
    exact r1 rfl
theorem i'E {L:List Nat} {a b:Int} (h:dueR L=some (a,b)):∃ q:Rat,q.num=a∧(q.den:Int)=b∧shw q=L∧bs q≤20:=by
  cases hs:splitL 47 L with
  | nil => exact absurd hs (a'J _ _)
  | cons p ps =>
    have hall:(strip p :: ps).all (whole 6)=true:=by
      cases e:(strip p :: ps).all (whole 6) with
      | true=>rfl
      | false=>rw [b'w hs (.inr e)] at h;cases h
    rw [List.all_cons,Bool.and_eq_true] at hall
    have hw:=hall.1
    have hv:=d'd hw
    have ba:bi (sgn L (vl (strip p)))≤20:=a'G 20 (by rw [b'C];omega)
    cases ps with
    | nil=>
      obtain⟨r1,r2⟩:=g'h hs hw
      by_cases c:shw (Rat.divInt (sgn L (vl (strip p))) 1)=L
      · rw [r1 c] at h
        cases h
        have eq:Rat.divInt (sgn L (vl (strip p))) 1=((sgn L (vl (strip p)):Int):Rat):=by rw [← Rat.num_divInt_den ((sgn L (vl (strip p)):Int):Rat),Rat.num_intCast,Rat.den_intCast];rfl
        refine⟨Rat.divInt (sgn L (vl (strip p))) 1,by rw [eq,Rat.num_intCast],by rw [eq,Rat.den_intCast];rfl,c,a'O (by decide) ba (by decide +kernel)⟩
      · rw [r2 c] at h;cases h
    | cons b' ps=>
      cases ps with
      | nil=>
        have hb:whole 6 b'=true:=by simpa using hall.2
        have hbv:=d'd hb
        by_cases c0:vl b'=0
        · rw [c'T hs c0] at h;cases h
        · obtain⟨r1,r2⟩:=g'i hs hw hb c0
          by_cases c:shw (Rat.divInt (sgn L (vl (strip p))) (vl b'))=L
          · rw [r1 c] at h
            cases h
            exact⟨_,rfl,rfl,c,a'O (by omega) ba (a'G 20 (by omega))⟩
          · rw [r2 c] at h;cases h
      | cons c ps=>rw [b'w hs (.inl (by simp only [List.length_cons];omega))] at h;cases h
theorem j'D {a b:Int} (hb:0<b):(Rat.divInt a b).num.natAbs≤a.natAbs:=by
  rw [← g'o hb,Int.fdiv_eq_ediv_of_nonneg _ (by have:=b'k (a:=a) (show b≠0 by omega);omega)]
  exact Int.natAbs_ediv_le_natAbs a _
theorem j'E {a b:Int} (hb:0<b):(Rat.divInt a b).den≤b.natAbs:=by
  have h:=Int.natAbs_ediv_le_natAbs b (gd a b)
  rw [← Int.fdiv_eq_ediv_of_nonneg _ (by have:=b'k (a:=a) (show b≠0 by omega);omega),g'p hb,Int.natAbs_natCast] at h
  exact h
theorem f'O (neg:Bool) (x:Str) (a b:Int) {Q:Tr→Prop} (q:Q (.bl (!neg))):wEq neg (.tup [.str x,.tup [.int a,.int b]]) (.tup [.str x,.tup [.int a,.int b]]) Q:=
  .inr ⟨true,by simp [eqd,eqds],show (2:Nat)≤60 by decide,show (1:Nat)≤2 by decide,by cases neg<;>exact q⟩
theorem o'H (neg:Bool) (x:Str) (a:Bool) {Q:Tr→Prop} (q:Q (.bl (!neg))):wEq neg (.tup [.str x,.bl a]) (.tup [.str x,.bl a]) Q:=
  .inr ⟨true,by simp [eqd,eqds],show (1:Nat)≤60 by decide,Nat.le_refl 1,by cases neg<;>exact q⟩
theorem p's (xs:List Tr) (Q:Tr→Prop):wIsV false (.tup xs) .non Q=Q (.bl false):=rfl
def sp_law (K:PySem.W.Frag):Sp:=fun vs H Q _=>∃ (a:Addr) (ns:List Int),vs=[.ref a]∧SqL K H a (ns.map V.int)∧ns.length≤63∧∀ H',Q (.bl true) H'
def g_law:PSp:=spec 1 fun xs Q=>∃ ns:List Int,xs=[.lst (.l false) (ns.map Enc.t)]∧ns.length≤63∧Q (.bl true)
theorem f'P {K:PySem.W.Frag} {F:Hp} {B:Bool→Hp}:∀ ns:List Int,Rs K F B (ns.map Enc.t) (ns.map V.int) []
  | [] => ⟨rfl, rfl⟩
  | n :: ns => ⟨_, _, [], [], rfl, rfl, ⟨rfl, rfl⟩, f'P ns⟩
theorem o'I {K:PySem.W.Frag} (vs:List V) (H:Hp) (Q:VK) (E:XK) (h:sp_law K vs H Q E):spP K true 0 1 g_law vs H Q E:=by
  obtain⟨a,ns,rfl,hS,hl,k⟩:=h
  refine⟨rfl,fun _=>none,H,[.lst (.l false) (ns.map Enc.t)],fun _=>[],fun t _=>t=.bl true,fun _=>False,⟨?_,(fun _ _ _ _ z=>by cases z),rfl,?_,(fun _=>.nil),(fun _ _ m=>nomatch m),(fun _ _ _ _ m=>nomatch m),(fun i h=>absurd h (Nat.not_lt_zero i)),fun _ _ _ _ z=>z.elim⟩,⟨rfl,ns,rfl,hl,fun _=>rfl⟩,?_⟩
  · exact Gr.refl' (fun _ _ z=>by cases z)
  · intro i t e
    cases i with
    | zero=>cases e;exact .inr ⟨.ref a,rfl,rfl,a,_,rfl,hS,f'P ns⟩
    | succ i=>cases e
  · intro F' H' σ' ρ' cs' v t c _ r _ _ _ _ e
    subst e
    rw [r.1]
    exact k _
theorem m'E (T:Tx K mg):FnOk P w K mg base CX0 9 T.a_law T.d_law ["_law_script"] (spP K true 0 1 g_law):=by
  refine a'U T.F_law sc_law rfl (by decide) fun cdv A outer s H E hr=>?_
  have hu:=a'B hr
  refine⟨_,(a'b (a'f (i:=1) sc_law.nd (by decide) rfl (Or.inl rfl) (c'Z (a'w (a'n ((a't T).mono (by decide)) (by first | exact id | exact fun _=>rfl) (fun _ _ h=>h.1) hr rfl T.m_law_cell_at T.F_law_cell_at.kp T.b_law_cell_at (QA.frz (a'a (qv 0) (a'a a'c a'd)))) a'c) a'c))
   (a'b (a's (a'i (a'A hr.units) a'p (a'w (a'C (a'n ((a't T).mono (by decide)) (by first | exact id | exact fun _=>rfl) (fun _ _ h=>h.1) hr rfl T.m_law_cell_at T.F_law_cell_at.kp T.b_law_cell_at (QA.frz (a'a (qv 0) (a'a a'c a'd)))) a'c) a'c) a'c (by with_unfolding_all rfl)) (a'e (a'f (i:=1) sc_law.nd (by decide) rfl (Or.inl rfl) (c'Z (a'w (qv 1) a'c) a'c))) a'm)
   (a'b (a'f (i:=2) sc_law.nd (by decide) rfl (Or.inl rfl) (a'v a'c (a'w (a'C (a'n ((a't T).mono (by decide)) (by first | exact id | exact fun _=>rfl) (fun _ _ h=>h.1) hr rfl T.m_law_cell_at T.F_law_cell_at.kp T.b_law_cell_at (QA.frz (a'a (qv 0) (a'a a'c a'd)))) a'c) (a'D hu (f'U (a'a a'c (a'a a'c a'd))) (a'w (a'n ((a't T).mono (by decide)) (by first | exact id | exact fun _=>rfl) (fun _ _ h=>h.1) hr rfl T.m_law_cell_at T.F_law_cell_at.kp T.b_law_cell_at (QA.frz (a'a (qv 0) (a'a a'c a'd)))) a'c) (fun _ _=>rfl)))))
   (a'b (a'f (i:=3) sc_law.nd (by decide) rfl (Or.inl rfl) (a'n ((b'c T).mono (by decide)) (by first | exact id | exact fun _=>rfl) (fun _ _ h=>h.1) hr rfl T.m_law_shared T.F_law_shared.kp T.b_law_shared (QA.frz (a'a (qv 1) (a'a (qv 2) a'd)))))
   (a'b (a'f (i:=4) sc_law.nd (by decide) rfl (Or.inl rfl) (a'T (a'a (a'C (qv 1) (qv 3)) (a'a (a'C (qv 2) (qv 3)) a'd))))
   (a'b (a'f (i:=5) sc_law.nd (by decide) rfl (Or.inl rfl) (b'a a'z b'f rfl T.z_str rfl (a'a (a'D hu (qv 4) a'c (fun _ _=>rfl)) a'd)))
   (a'b (a's (a'i c'd b'l (a'D hu (qv 4) a'c (fun _ _=>rfl)) a'c (by with_unfolding_all rfl)) (a'e (a'f (i:=5) sc_law.nd (by decide) rfl (Or.inl rfl) (a'v (a'v (qv 5) a'g) (b'a a'z b'f rfl T.z_str rfl (a'a (a'D hu (qv 4) a'c (fun _ _=>rfl)) a'd))))) a'm)
   (a'b (a's (QW.t (a'S (a'i (b'y hr.units) a'F (a'n ((a'L T).mono (by decide)) (by first | exact id | exact fun _=>rfl) (fun _ _ h=>h.1) hr rfl T.m_show_number T.F_show_number.kp T.b_show_number (QA.frz (a'a (qv 4) a'd))) (qv 5) (by with_unfolding_all rfl)) (a'S (a'i (b'y hr.units) a'F (a'n ((b'Z T).mono (by decide)) (by first | exact id | exact fun _=>rfl) (fun _ _ h=>h.1) hr rfl T.m_law_told T.F_law_told.kp T.b_law_told (QA.frz (a'a (qv 5) a'd))) (a'T (a'a a'g (a'a (qv 4) a'd))) (by with_unfolding_all rfl)) (b'm (d'a (c'r (a'n ((g'q T).mono (by decide)) (by first | exact id | exact fun _=>rfl) (fun _ _ h=>h.1) hr rfl T.m_law_far T.F_law_far.kp T.b_law_far (QA.frz (a'a (qv 0) a'd))))))))) (a'e (a'o d'u)) a'm)
   (a'b (a'f (i:=6) sc_law.nd (by decide) rfl (Or.inl rfl) (a'n ((a't T).mono (by decide)) (by first | exact id | exact fun _=>rfl) (fun _ _ h=>h.1) hr rfl T.m_law_cell_at T.F_law_cell_at.kp T.b_law_cell_at (QA.frz (a'a (qv 0) (a'a a'c a'd)))))
   (a'b (a'f (i:=5) sc_law.nd (by decide) rfl (Or.inl rfl) (a'n ((c'E T).mono (by decide)) (by first | exact id | exact fun _=>rfl) (fun _ _ h=>h.1) hr rfl T.m_law_changed T.F_law_changed.kp T.b_law_changed (QA.frz (a'a (qv 5) (a'a (qv 6) a'd)))))
   (a'b (a's (a'i c'd b'l (a'w (qv 6) a'c) a'c (by with_unfolding_all rfl)) (a'e (a'f (i:=5) sc_law.nd (by decide) rfl (Or.inl rfl) (a'n ((g'k T).mono (by decide)) (by first | exact id | exact fun _=>rfl) (fun _ _ h=>h.1) hr rfl T.m_law_odd T.F_law_odd.kp T.b_law_odd (QA.frz (a'a (a'C (qv 6) a'c) a'd))))) a'm)
   (a'b (a'f (i:=7) sc_law.nd (by decide) rfl (Or.inl rfl) (a'n ((g'n T).mono (by decide)) (by first | exact id | exact fun _=>rfl) (fun _ _ h=>h.1) hr rfl T.m_law_due T.F_law_due.kp T.b_law_due (QA.frz (a'a (qv 5) a'd))))
   (a'b (a'f (i:=8) sc_law.nd (by decide) rfl (Or.inl rfl) (a'n ((b'Z T).mono (by decide)) (by first | exact id | exact fun _=>rfl) (fun _ _ h=>h.1) hr rfl T.m_law_told T.F_law_told.kp T.b_law_told (QA.frz (a'a (qv 5) a'd))))
   (a'b (a's (a'i d'z d'A (qv 7) b'F (by with_unfolding_all rfl)) (a'e (a'o (b'G (a'A hr.units) a'p (qv 8) (a'T (a'a a'g (a'a d'u a'd))) (by with_unfolding_all rfl)))) a'm)
   (a'e (a'o (d'c (b'G (a'A hr.units) a'p (qv 8) (a'T (a'a a'g (a'a (qv 7) a'd))) (by with_unfolding_all rfl)) (d'c (a'n ((e'b T).mono (by decide)) (by first | exact id | exact fun _=>rfl) (fun _ _ h=>h.1) hr rfl T.m_law_kinds T.F_law_kinds.kp T.b_law_kinds (QA.frz (a'a (a'D hu (qv 8) a'c (fun _ _=>rfl)) a'd))) (d'b (b'G (a'A hr.units) a'p (a'n ((a'L T).mono (by decide)) (by first | exact id | exact fun _=>rfl) (fun _ _ h=>h.1) hr rfl T.m_show_number T.F_show_number.kp T.b_show_number (QA.frz (a'a (qv 7) a'd))) (qv 5) (by with_unfolding_all rfl))))))))))))))))))))),?_⟩
  rintro xs Q' _ ⟨_,ns,rfl,hl,q⟩
  walk_at "q"
  refine⟨rfl,_,ns,0,inferInstance,rfl,by decide,fun c0 ρ=>?_⟩
  walk_at "q"
  refine⟨by decide,?_⟩
  refine c'A (fun ρ=>∃ top:Int,ρ=[.lst (.l false) (ns.map Enc.t),.int top,.hole,.hole,.hole,.hole,.hole,.hole,.hole]∧top.natAbs<1000000) (fun N hN=>?_) ?_
  · walk_at "p"
    refine⟨rfl,_,ns,0,inferInstance,rfl,by decide,fun c1 ρ=>?_⟩
    walk_at "p"
    refine⟨⟨by decide,a'R (by decide)⟩,by decide,?_⟩
    split
    · refine⟨by decide,hN _ ⟨_,rfl,by omega⟩⟩
    · exact hN _ ⟨_,rfl,by omega⟩
  rintro ρ ⟨top,rfl,ht⟩
  walk_at "q"
  refine⟨rfl,_,ns,1,inferInstance,rfl,by decide,fun c1 ρ=>?_⟩
  walk_at "q"
  refine⟨⟨by decide,a'R (by decide)⟩,rfl,_,ns,1,inferInstance,rfl,by decide,fun c2 ρ=>?_⟩
  have hw:∃ n:Int,atI [Tr.int 12,.int 999999] (c2 % 2)=some (.int n)∧0<n∧n≤999999:=by
    have h4:c2 % 2=0∨c2 % 2=1:=by omega
    rcases h4 with h | h<;>rw [h]
    · exact⟨12,at0 _ _,by decide,by decide⟩
    · exact⟨_,at1 _ _ _,by decide,by decide⟩
  obtain⟨n,hw,n0,n1⟩:=hw
  walk_at "q"
  simp only [hw]
  walk_at "q"
  have b0:=Int.emod_nonneg (c1.fdiv 2) (show n≠0 by omega)
  have b1:=Int.emod_lt_of_pos (c1.fdiv 2) n0
  have hb:0<1+c1.fdiv 2 % n:=by omega
  have hb2:1+c1.fdiv 2 % n<1000000:=by omega
  generalize 1+c1.fdiv 2 % n=bottom at hb hb2
  have ka:bi top≤20:=a'G 20 (by omega)
  have kb:bi bottom≤20:=a'G 20 (by omega)
  have bq:bs (Rat.divInt top bottom)≤20:=a'O (by omega) ka kb
  have e1:=g'o (a:=top) hb
  have e2:=g'p (a:=top) hb
  have cd:∀ x:Int,CDivB x (gd top bottom):=fun x=>b'V (by omega) (by omega)
  have q1:=j'D (a:=top) hb
  have q2:=j'E (a:=top) hb
  refine⟨by decide,n0,g'm fun ρ=>?_⟩
  walk_at "q"
  rw [e1,e2]
  refine⟨cd _,cd _,b'X _ _ (b'D (b'P bq) (by decide)) ?_⟩
  have dq:=m'D (q:=Rat.divInt top bottom) (by omega) (by omega)
  rw [show Tr.tup [.int (Rat.divInt top bottom).num,.int ((Rat.divInt top bottom).den:Int)]=Enc.t (Rat.divInt top bottom) from rfl]
  generalize Rat.divInt top bottom=q0 at bq dq
  clear e1 e2 q1 q2 cd
  have l1:=b'h (b'P bq)
  have b2:=Nat.le_trans (d'o q0) bq
  have l2:=b'h b2
  have lw:(shw q0).length≤100:=by
    unfold shw
    split
    · omega
    · rw [← b'Y,List.length_append,List.length_cons];omega
  walk_at "q"
  refine c'A (fun ρ=>ρ=[.lst (.l false) (ns.map Enc.t),.int top,.int bottom,.int (gd top bottom),Enc.t q0,.str (tx (shw q0)),.hole,.hole,.hole]) (fun N hN=>?_) ?_
  · walk_at "p"
    split
    · rename_i c
      have c:(1:Int)<q0.den:=of_decide_eq_true c
      refine⟨by rw [c'i,a'l,a'l,List.length_singleton];omega,b'X _ _ (b'D b2 (by decide)) ?_⟩
      rw [c'i,b'r]
      walk_at "p"
      rw [b'r,a'l,a'l,List.length_append,List.length_singleton]
      refine⟨by omega,hN _ ?_⟩
      rw [show shw q0=dec q0.num++[47]++dec (q0.den:Int) by unfold shw;rw [if_neg (by omega),b'Y];simp]
    · rename_i c
      have c:¬ (1:Int)<q0.den:=fun z=>c (decide_eq_true z)
      have dp:=q0.den_pos
      exact hN _ (by rw [show shw q0=dec q0.num by unfold shw;rw [if_pos (by omega)]])
  rintro ρ rfl
  walk_at "q"
  refine c'A (fun ρ=>ρ=[.lst (.l false) (ns.map Enc.t),.int top,.int bottom,.int (gd top bottom),Enc.t q0,.str (tx (shw q0)),.hole,.hole,.hole]) (fun N hN=>?_) ?_
  · walk_at "p"
    refine b'i (by omega) fun ρ=>?_
    walk_at "p"
    refine⟨rfl,shw q0,rfl,by omega,fun a b e ρ=>?_,(fun e=>by rw [dq] at e;cases e)⟩
    rw [dq] at e
    cases e
    refine f'O true _ _ _ ?_
    walk_at "p"
    refine⟨rfl,_,ns,inferInstance,rfl,fun ρ=>?_⟩
    walk_at "p"
    exact hN _ rfl
  rintro ρ rfl
  walk_at "q"
  refine⟨rfl,_,ns,2,inferInstance,rfl,by decide,fun c ρ=>?_⟩
  walk_at "q"
  refine⟨rfl,tx (shw q0),c,rfl,by rw [a'l];omega,fun y hy ρ=>?_⟩
  walk_at "q"
  refine c'A (fun ρ=>∃ y:Str,ρ=[.lst (.l false) (ns.map Enc.t),.int top,.int bottom,.int (gd top bottom),Enc.t q0,.str y,.int c,.hole,.hole]∧y.length≤500) (fun N hN=>?_) ?_
  · walk_at "p"
    refine⟨by decide,?_⟩
    split
    · refine⟨⟨by decide,a'R (by decide)⟩,rfl,_,rfl,fun y hy ρ=>?_⟩
      walk_at "p"
      exact hN _ ⟨y,rfl,by omega⟩
    · exact hN _ ⟨y,rfl,hy⟩
  rintro ρ ⟨y,rfl,hy⟩
  have ey:=c'C y
  have el:y.length=y.cps.toList.length:=(Array.length_toList).symm
  rw [el] at hy
  generalize y.cps.toList=L at ey hy
  rw [← ey]
  walk_at "q"
  refine⟨rfl,L,rfl,by omega,fun ρ=>?_⟩
  unfold oD
  cases e:dueR L with
  | none =>
    walk_at "q"
    refine⟨rfl,L,rfl,by omega,(fun a b e'=>by rw [e] at e';cases e'),fun _ ρ=>?_⟩
    walk_at "p"
    rw [g'l]
    walk_at "p"
    refine o'H false _ _ ?_
    exact⟨rfl,q _⟩
  | some ab =>
    obtain⟨a,b⟩:=ab
    obtain⟨q',h1,h2,h3,h4⟩:=i'E e
    walk_at "q"
    refine⟨rfl,L,rfl,by omega,fun a' b' e' ρ=>?_,fun e'=>by rw [e] at e';cases e'⟩
    rw [e] at e'
    cases e'
    walk_at "p"
    rw [p's]
    walk_at "p"
    refine f'O false _ _ _ ?_
    walk_at "p"
    refine⟨rfl,a,b,rfl,fun ρ=>?_⟩
    walk_at "p"
    rw [show Tr.tup [.int a,.int b]=Enc.t q' by rw [← h1,← h2];rfl]
    refine b'i (by omega) fun ρ=>?_
    walk_at "p"
    rw [a'E,h3,decide_eq_true rfl]
    exact q _
theorem o'J (T:Tx K mg):FnOk P w K mg base CX0 9 T.a_law T.d_law ["_law_script"] (sp_law K):=(m'E T).imp o'I
end
theorem walk {l:PySem.W.OpenLaw} {q:Program} {loose:List Str} {XP:(Str→Option Value)→Heap→Prop} {YP:World→Heap→Prop} {d:DefRec} {K:Params→PySem.W.Frag} (hn:l.most=some 63) (hdf:d.params.defaults=[]) (hnm:d.name="law")
    (hY:∀ (w:World) (h:Heap),YP w h→(K w.params).In h)
    (F:∀ (w:World) (mg:Str→Option Value) (h:Heap),(K w.params).In h→h.Ns mainGlobals mg→Nonempty (Tx (K w.params) mg)) :
    PySem.W.WalkO q loose XP YP l.row.toRowW d [] (fun f vs=>PySem.call f vs):=by
  refine L2.walk_of (n:=63) (k:=9) (x:="_law_script") (CX:=fun _=>CX0) (sp:=fun w=>sp_law (K w.params)) hn (by decide) hdf ⟨rfl,by decide,by decide⟩ hY ?_ (fun _ _ a ns hl _ hS=>⟨a,ns,rfl,hS,hl,fun _=>rfl⟩) fun _ _ _ _ _ z=>z
  intro w mg fa h KX G hmg
  obtain⟨T⟩:=F w mg h KX G
  rw [hnm] at hmg
  have e:=hmg.symm.trans T.m_law
  cases e
  refine⟨T.d_law,fun s v=>?_,fun base _ _=>o'J T⟩
  obtain⟨oc,od,kV,doc,pm,an,cdv,ct,osl,hfd,lk,hcd⟩:=T.F_law.ex
  rw [hfd]
  exact .of_eq rfl
end Sf
open PySem PySem.W PyProof.Rows
set_option maxRecDepth 100000 in
set_option maxHeartbeats 0 in
theorem PySem.Challenge.cw_springframe_k14_numbers_written_holds : PySem.Challenge.rw_springframe_k14_numbers_written.Holds := by
  w_on;o_law;k_head;(case hw=>w_witness2)
  k_fill
  refine Sf.walk (l:=PySem.Challenge.rw_springframe_k14_numbers_written) rfl rfl rfl (fun w h Y=>PySem.W.kIn_of Y) ?F
  case F=>
    intro w mg h KX G
    refine' ⟨Sf.tx_mk KX G ?e0 ?l0 ?c0 ?k0 ?e1 ?l1 ?c1 ?k1 ?e2 ?l2 ?c2 ?k2 ?e3 ?l3 ?c3 ?k3 ?e4 ?l4 ?c4 ?k4 ?e5 ?l5 ?c5 ?k5 ?e6 ?l6 ?c6 ?k6 ?e7 ?l7 ?c7 ?k7 ?e8 ?l8 ?c8 ?k8 ?e9 ?l9 ?c9 ?k9 ?e10 ?l10 ?c10 ?k10 ?e11 ?l11 ?c11 ?k11 ?e12 ?l12 ?c12 ?k12 ?e13 ?l13 ?c13 ?k13 ?e14 ?l14 ?c14 ?k14 ?yi_FIGURES ?yi_MOST_FIGURES ?xn_NoWish ?xq_NoWish ?xn_FrameError ?xq_FrameError ?xn_Mixed ?xq_Mixed ?xn_NoLine ?xq_NoLine ?xn_NoPart ?xq_NoPart ?yfg_NoWish ?yfn_NoWish ?yfc_NoWish ?ymo_NoWish ?ysb_NoWish ?xk_NoWish_FrameError ?xkt_NoWish_Mixed_NoLine_NoPart ?xm_NoWish_NoWish ?z0 ?z1 ?z2 ?z3 ?z4 ?z5 ?z6 ?z7 ?z8⟩
    (case e0=>k_is)
    (case l0=>k_is)
    (case c0=>k_is)
    (case k0=>k_is)
    (case e1=>k_is)
    (case l1=>k_is)
    (case c1=>k_is)
    (case k1=>k_is)
    (case e2=>k_is)
    (case l2=>k_is)
    (case c2=>k_is)
    (case k2=>k_is)
    (case e3=>k_is)
    (case l3=>k_is)
    (case c3=>k_is)
    (case k3=>k_is)
    (case e4=>k_is)
    (case l4=>k_is)
    (case c4=>k_is)
    (case k4=>k_is)
    (case e5=>k_is)
    (case l5=>k_is)
    (case c5=>k_is)
    (case k5=>k_is)
    (case e6=>k_is)
    (case l6=>k_is)
    (case c6=>k_is)
    (case k6=>k_is)
    (case e7=>k_is)
    (case l7=>k_is)
    (case c7=>k_is)
    (case k7=>k_is)
    (case e8=>k_is)
    (case l8=>k_is)
    (case c8=>k_is)
    (case k8=>k_is)
    (case e9=>k_is)
    (case l9=>k_is)
    (case c9=>k_is)
    (case k9=>k_is)
    (case e10=>k_is)
    (case l10=>k_is)
    (case c10=>k_is)
    (case k10=>k_is)
    (case e11=>k_is)
    (case l11=>k_is)
    (case c11=>k_is)
    (case k11=>k_is)
    (case e12=>k_is)
    (case l12=>k_is)
    (case c12=>k_is)
    (case k12=>k_is)
    (case e13=>k_is)
    (case l13=>k_is)
    (case c13=>k_is)
    (case k13=>k_is)
    (case e14=>k_is)
    (case l14=>k_is)
    (case c14=>k_is)
    (case k14=>k_is)
    (case yi_FIGURES=>k_is)
    (case yi_MOST_FIGURES=>k_is)
    (case xn_NoWish=>k_is)
    (case xq_NoWish=>k_exc)
    (case xn_FrameError=>k_is)
    (case xq_FrameError=>k_exc)
    (case xn_Mixed=>k_is)
    (case xq_Mixed=>k_exc)
    (case xn_NoLine=>k_is)
    (case xq_NoLine=>k_exc)
    (case xn_NoPart=>k_is)
    (case xq_NoPart=>k_exc)
    (case yfg_NoWish=>k_is)
    (case yfn_NoWish=>k_is)
    (case yfc_NoWish=>k_is)
    (case ymo_NoWish=>k_is)
    (case ysb_NoWish=>k_is)
    (case xk_NoWish_FrameError=>kit_is)
    (case xkt_NoWish_Mixed_NoLine_NoPart=>kit_is)
    (case xm_NoWish_NoWish=>kts_exm)
    (case z0=>k_is)
    (case z1=>k_is)
    (case z2=>k_is)
    (case z3=>k_is)
    (case z4=>k_is)
    (case z5=>k_is)
    (case z6=>k_is)
    (case z7=>k_is)
    (case z8=>k_is)
#print axioms PySem.Challenge.cw_springframe_k14_numbers_written_holds

