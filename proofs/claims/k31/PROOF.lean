import PyProof.Rows.All
import Wide.All
import OpenK.AllK
import Wide.FinOn
import Lean
import PyProof.EqAt
import PyProof.EqKinds
import PyProof.TupleCall
import PySem.Challenge.RW_springframe_k31_a_paper_bound
set_option Elab.async false
set_option linter.all false
set_option maxRecDepth 100000
namespace L2
open PySem PySem.Spec PyProof.Rows
abbrev Key := Sum Int Str
def keyIs : Key → Value → Bool
  | .inl k, v => Value.isInt k v
  | .inr x, v => Value.isStrOf x v
def keyH (w : World) : Key → Int
  | .inl k => hashInt k
  | .inr x => hashStr w x
theorem keyIs_shape : ∀ {k : Key} {v : Value}, keyIs k v = true → (∃ i t, k = Sum.inl i ∧ v = Value.int i t) ∨ (∃ x t, k = Sum.inr x ∧ v = Value.str x t)
  | .inl i, v, h => by
    obtain ⟨t, e⟩ := Value.isInt_shape (k := i) (v := v) h
    exact .inl ⟨i, t, rfl, e⟩
  | .inr x, v, h => by
    obtain ⟨t, e⟩ := Value.isStrOf_shape (x := x) (v := v) h
    exact .inr ⟨x, t, rfl, e⟩
theorem keyIs_int (i : Int) (t : Tok) : keyIs (.inl i) (.int i t) = true := by simp [keyIs, Value.isInt]
theorem keyIs_str (x : Str) (t : Tok) : keyIs (.inr x) (.str x t) = true := by simp [keyIs, Value.isStrOf]
theorem key_ll (a b : Int) : decide ((Sum.inl a : Key) = Sum.inl b) = (a == b) := by
  by_cases e : a = b
  · subst e; simp
  · have h : ¬ (Sum.inl a : Key) = Sum.inl b := fun q => e (Sum.inl.inj q)
    rw [decide_eq_false h]
    exact (beq_eq_false_iff_ne.mpr e).symm
theorem key_rr (a b : Str) : decide ((Sum.inr a : Key) = Sum.inr b) = decide (a = b) := by
  by_cases e : a = b
  · subst e; simp
  · have h : ¬ (Sum.inr a : Key) = Sum.inr b := fun q => e (Sum.inr.inj q)
    rw [decide_eq_false h, decide_eq_false e]
theorem key_lr (a : Int) (b : Str) : decide ((Sum.inl a : Key) = Sum.inr b) = false := decide_eq_false (fun q => nomatch q)
theorem key_rl (a : Str) (b : Int) : decide ((Sum.inr a : Key) = Sum.inl b) = false := decide_eq_false (fun q => nomatch q)
def mixKind (prog : Program) (w : World) : PySem.KeyKind prog w Key where
  is := keyIs
  hash := keyH w
  inj := fun v a b ha hb => by
    rcases keyIs_shape ha with ⟨i, t, rfl, rfl⟩ | ⟨x, t, rfl, rfl⟩
    · rcases keyIs_shape hb with ⟨j, u, rfl, e⟩ | ⟨y, u, rfl, e⟩
      · injection e with e1 _; rw [e1]
      · exact nomatch e
    · rcases keyIs_shape hb with ⟨j, u, rfl, e⟩ | ⟨y, u, rfl, e⟩
      · exact nomatch e
      · injection e with e1 _; rw [e1]
  byValue := fun k v h => by
    rcases keyIs_shape h with ⟨i, t, rfl, rfl⟩ | ⟨x, t, rfl, rfl⟩ <;> rfl
  pyHash := fun hv h => by
    rcases keyIs_shape hv with ⟨i, t, rfl, rfl⟩ | ⟨x, t, rfl, rfl⟩
    · exact wpAny_pyHash_int h
    · exact wpAny_pyHash_str h
  eqBool := fun hu hv h => by
    rcases keyIs_shape hu with ⟨i, t, rfl, rfl⟩ | ⟨x, t, rfl, rfl⟩
    · rcases keyIs_shape hv with ⟨j, u, rfl, rfl⟩ | ⟨y, u, rfl, rfl⟩
      · rw [key_ll] at h; exact wpAny_eqBool_int h
      · rw [key_lr] at h; exact SeqAt.EqAt.int_str i t y u _ _ _ _ h
    · rcases keyIs_shape hv with ⟨j, u, rfl, rfl⟩ | ⟨y, u, rfl, rfl⟩
      · rw [key_rl] at h; exact SeqAt.EqAt.str_int x t j u _ _ _ _ h
      · rw [key_rr] at h; exact wpAny_eqBool_str h
  «strs» := fun k x t v h => by
    rcases keyIs_shape h with ⟨i, u, rfl, e⟩ | ⟨y, u, rfl, e⟩
    · exact nomatch e
    · injection e with e1 _
      subst e1
      cases v <;> rfl
theorem mixKind_int (prog : Program) (w : World) (i : Int) (t : Tok) : (mixKind prog w).is (.inl i) (.int i t) = true := keyIs_int i t
theorem mixKind_str (prog : Program) (w : World) (x : Str) (t : Tok) : (mixKind prog w).is (.inr x) (.str x t) = true := keyIs_str x t
end L2
namespace L2
open PySem PySem.Spec PyProof.Rows
inductive V where
  | non | bl (b : Bool) | int (i : Int) | str (x : Str) | byt (b : Array UInt8) | flt (b : UInt64) | ref (a : Addr) | ty (n : String)
  deriving DecidableEq
def RelV : V → Value → Prop
  | .non, u => u = Value.none
  | .bl b, u => u = Value.bool b
  | .int i, u => ∃ t, u = Value.int i t
  | .str x, u => ∃ t, u = Value.str x t
  | .byt b, u => ∃ t, u = Value.bytes b t
  | .flt b, u => ∃ t, u = Value.float b t
  | .ref a, u => u = Value.ref a
  | .ty n, u => u = Value.type n
abbrev Vals : List V → List Value → Prop := Paired RelV
theorem Vals.length {xs : List V} {us : List Value} (r : Vals xs us) : xs.length = us.length := Paired.length r
theorem Vals.get : ∀ {xs : List V} {us : List Value} {i : Nat} {x : V}, Vals xs us → xs[i]? = some x → ∃ u, us[i]? = some u ∧ RelV x u
  | _, _, _, _, .nil, e => by simp at e
  | _, _, 0, _, .cons r _, e => by simp at e; subst e; exact ⟨_, rfl, r⟩
  | _, _, i + 1, x, .cons _ t, e => by
    obtain ⟨u, h1, h2⟩ := Vals.get (i := i) (x := x) t (by simpa using e)
    exact ⟨u, by simpa using h1, h2⟩
theorem Vals.append : ∀ {xs ys : List V} {us ws : List Value}, Vals xs us → Vals ys ws → Vals (xs ++ ys) (us ++ ws)
  | _, _, _, _, .nil, s => s
  | _, _, _, _, .cons r t, s => .cons r (Vals.append t s)
theorem Vals.take : ∀ {xs : List V} {us : List Value} (n : Nat), Vals xs us → Vals (xs.take n) (us.take n)
  | _, _, 0, _ => .nil
  | _, _, _ + 1, .nil => .nil
  | _, _, n + 1, .cons r t => .cons r (Vals.take n t)
theorem Vals.drop : ∀ {xs : List V} {us : List Value} (n : Nat), Vals xs us → Vals (xs.drop n) (us.drop n)
  | _, _, 0, r => r
  | _, _, _ + 1, .nil => .nil
  | _, _, n + 1, .cons _ t => Vals.drop n t
def RelO : Option V → Option Value → Prop
  | some v, some u => RelV v u
  | none, none => True
  | _, _ => False
def KV {κ : Type} : List (κ × V) → List (κ × Value) → Prop := Paired fun (p : κ × V) (q : κ × Value) => p.1 = q.1 ∧ RelV p.2 q.2
def kV : Key → V
  | .inl i => .int i
  | .inr x => .str x
inductive HO where
  /-- a list -/
  | lst (xs : List V)
  /-- a tuple (never changes) -/
  | tup (xs : List V)
  /-- a dict whose keys are ints and texts; one whose keys are tuples of ints and texts (the empty one is both) -/
  | dK (kvs : List (Key × V)) | dT (kvs : List (List Key × V))
  /-- a set of ints: its members, its size -/
  | set (S : Int → Bool) (n : Nat)
  /-- an instance of the class at C, its dict at dx, its attributes -/
  | ins (C dx : Addr) (fs : List (Str × V))
  /-- the dict of the instance at x -/
  | own (x : Addr)
  /-- the dict of an exception -/
  | xd (fs : List (Str × V))
  /-- a bound method, f of x -/
  | met (f x : Addr)
  /-- a range object lo, lo + 1, .. below hi -/
  | rng (lo hi : Int)
  /-- a thing that is known to the object (the script; a dict while a loop walks it): read, never written while it is so -/
  | frz (o : Obj) (u : HO)
  /-- a code object's table -/
  | tbl (ps : Array Value)
  /-- any other thing, by what is true of its one object (a def of one's own: SetO a S n := HO.ext fun h => ..) -/
  | ext (φ : Heap → Prop)
abbrev Hp := Addr → Option HO
def upd (H : Hp) (a : Addr) (o : HO) : Hp := fun b => if b = a then some o else H b
theorem upd_same {H : Hp} {a : Addr} {o : HO} : upd H a o a = some o := by unfold upd; rw [if_pos rfl]
theorem upd_ne {H : Hp} {a b : Addr} {o : HO} (h : b ≠ a) : upd H a o b = H b := by unfold upd; rw [if_neg h]
theorem ne_of {H : Hp} {a b : Addr} {o u : HO} (h : H a = some o) (h' : H b = some u) (d : o ≠ u) : a ≠ b := by
  intro e; subst e; rw [h] at h'; exact d (Option.some.inj h')
theorem ne_of_none {H : Hp} {a b : Addr} {o : HO} (h : H a = some o) (h' : H b = none) : a ≠ b := by
  intro e; subst e; rw [h] at h'; cases h'
section
variable (P : Program) (w : World)
def ObjOk (H : Hp) (h : Heap) (a : Addr) : HO → Prop
  | .lst xs => xs.length ≤ sizeLine ∧ ∃ (its : List Value) (n : Nat), Vals xs its ∧ h.get? a = some { cls := .type "list", data := .seq its.toArray n }
  | .tup xs => xs.length ≤ sizeLine ∧ ∃ its : List Value, Vals xs its ∧ IsTup h a its.toArray
  | .dK kvs => kvs.length ≤ sizeLine ∧ (a == sysModules) = false ∧ ∃ vs, KV kvs vs ∧ h.DictOf (mixKind P w) a vs
  | .dT kvs => kvs.length ≤ sizeLine ∧ (a == sysModules) = false ∧ ∃ xs : List (List Key × Addr × Value),
      Paired (fun (p : List Key × V) (q : List Key × Addr × Value) => p.1 = q.1 ∧ H q.2.1 = some (.tup (p.1.map kV)) ∧ RelV p.2 q.2.2) kvs xs ∧
      ∃ o es ep, h.get? a = some o ∧ o.ExactDict ∧ o.data = .dict es ep ∧ es.toList = xs.map (entryOfKey (tupleKind (mixKind P w))) ∧ (xs.map (·.1)).Nodup
  | .set S n => h.SetOf (intKind P w) a S n
  | .ins C dx fs => H dx = some (.own a) ∧ fs.length ≤ 1000 ∧ dx ≠ a ∧ h.get? a = some (PySem.W.instObj C dx) ∧
      ∃ mA, h.Ns1 dx mA ∧ (∀ f, RelO (fs.lookup f) (mA f)) ∧ PySem.Within mA (fs.map (·.1))
  | .own _ => ∃ o, h.get? a = some o
  | .xd fs => ∃ mA, h.Ns1 a mA ∧ ∀ f, RelO (fs.lookup f) (mA f)
  | .rng lo hi => ∃ t u v, h.get? a = some { cls := .type "range", data := .fields #[.int lo t, .int hi u, .int 1 v] }
  | .frz o u => h.get? a = some o ∧ ObjOk H h a u
  | .tbl ps => h.get? a = some { cls := .none, data := .fields ps }
  | .met f x => h.get? a = some (PySem.W.methodObj (.ref f) (.ref x))
  | .ext φ => φ h ∧ (∃ o, h.get? a = some o) ∧ ∀ h1 h2 : Heap, φ h1 → (∀ o, h1.get? a = some o → h2.get? a = some o) → φ h2
def HOk (H : Hp) (h : Heap) : Prop := ∀ a o, H a = some o → ObjOk P w H h a o
end
section
variable {P : Program} {w : World} {H H' : Hp} {h h' : Heap} {a : Addr} {o : HO}
theorem ObjOk.lt (x : ObjOk P w H h a o) : a < h.objs.size := by
  cases o with
  | lst xs => obtain ⟨_, _, _, _, e⟩ := x; exact Heap.lt_size e
  | tup xs => obtain ⟨_, _, _, p⟩ := x; exact p.lt
  | dK kvs => obtain ⟨_, _, _, _, o, _, _, e, _⟩ := x; exact Heap.lt_size e
  | dT kvs => obtain ⟨_, _, _, _, o, _, _, e, _⟩ := x; exact Heap.lt_size e
  | set S n => obtain ⟨o, _, _, _, e, _⟩ := x; exact Heap.lt_size e
  | ins C dx fs => obtain ⟨_, _, _, e, _⟩ := x; exact Heap.lt_size e
  | own y => obtain ⟨_, e⟩ := x; exact Heap.lt_size e
  | xd fs => obtain ⟨_, ⟨_, _, _, e, _⟩, _⟩ := x; exact Heap.lt_size e
  | rng lo hi => obtain ⟨_, _, _, e⟩ := x; exact Heap.lt_size e
  | frz ob u => obtain ⟨e, _⟩ := x; exact Heap.lt_size e
  | tbl ps => exact Heap.lt_size (show h.get? a = some _ from x)
  | met f y => exact Heap.lt_size (show h.get? a = some _ from x)
  | ext φ => obtain ⟨_, ⟨_, e⟩, _⟩ := x; exact Heap.lt_size e
theorem Paired.mapP {α β : Type} {F G : α → β → Prop} : ∀ {l₁ : List α} {l₂ : List β}, Paired F l₁ l₂ → (∀ a b, F a b → G a b) → Paired G l₁ l₂
  | _, _, .nil, _ => .nil
  | _, _, .cons r t, f => .cons (f _ _ r) (Paired.mapP t f)
theorem ObjOk.stay (x : ObjOk P w H h a o) (k : ∀ b u, (b = a ∨ H b = some (.own a)) → h.get? b = some u → h'.get? b = some u)
    (ho : ∀ b, H b = some (.own a) → H' b = some (.own a)) (ht : ∀ b xs, H b = some (.tup xs) → H' b = some (.tup xs)) : ObjOk P w H' h' a o := by
  induction o with
  | lst xs => obtain ⟨z, its, n, r, e⟩ := x; exact ⟨z, its, n, r, k _ _ (.inl rfl) e⟩
  | tup xs => obtain ⟨z, its, r, ob, e, c⟩ := x; exact ⟨z, its, r, ob, k _ _ (.inl rfl) e, c⟩
  | dK kvs => obtain ⟨z, y, vs, r, ob, es, ep, e, c⟩ := x; exact ⟨z, y, vs, r, ob, es, ep, k _ _ (.inl rfl) e, c⟩
  | dT kvs =>
    obtain ⟨z, y, xs, r, ob, es, ep, e, c⟩ := x
    exact ⟨z, y, xs, Paired.mapP r fun p q z => ⟨z.1, ht _ _ z.2.1, z.2.2⟩, ob, es, ep, k _ _ (.inl rfl) e, c⟩
  | set S n => obtain ⟨ob, es, ep, t, e, c⟩ := x; exact ⟨ob, es, ep, t, k _ _ (.inl rfl) e, c⟩
  | ins C dx fs =>
    obtain ⟨d, z, ne, e, mA, ⟨od, es, ep, e2, c⟩, r⟩ := x
    exact ⟨ho _ d, z, ne, k _ _ (.inl rfl) e, mA, ⟨od, es, ep, k _ _ (.inr d) e2, c⟩, r⟩
  | own y => obtain ⟨ob, e⟩ := x; exact ⟨ob, k _ _ (.inl rfl) e⟩
  | xd fs => obtain ⟨mA, ⟨od, es, ep, e, c⟩, r⟩ := x; exact ⟨mA, ⟨od, es, ep, k _ _ (.inl rfl) e, c⟩, r⟩
  | rng lo hi => obtain ⟨t, u, v, e⟩ := x; exact ⟨t, u, v, k _ _ (.inl rfl) e⟩
  | frz ob u ih => obtain ⟨e, q⟩ := x; exact ⟨k _ _ (.inl rfl) e, ih q⟩
  | tbl ps =>
    have e : h.get? a = some { cls := .none, data := .fields ps } := x
    show h'.get? a = some { cls := .none, data := .fields ps }
    exact k a _ (.inl rfl) e
  | met f y =>
    have e : h.get? a = some (PySem.W.methodObj (.ref f) (.ref y)) := x
    show h'.get? a = some (PySem.W.methodObj (.ref f) (.ref y))
    exact k a _ (.inl rfl) e
  | ext φ => obtain ⟨p, ⟨o, e⟩, st⟩ := x; exact ⟨st _ _ p fun o q => k _ _ (.inl rfl) q, ⟨o, k _ _ (.inl rfl) e⟩, st⟩
theorem HOk.lt (x : HOk P w H h) (e : H a = some o) : a < h.objs.size := (x a o e).lt
theorem HOk.fresh (x : HOk P w H h) (e : h.objs.size ≤ a) : H a = none := by
  cases q : H a with
  | none => rfl
  | some u => exact absurd (Nat.lt_of_lt_of_le (x.lt q) e) (Nat.lt_irrefl _)
theorem HOk.kept (x : HOk P w H h) (k : ∀ b u, h.get? b = some u → h'.get? b = some u) : HOk P w H h' := fun a o e =>
  (x a o e).stay (fun b u _ q => k b u q) (fun _ q => q) fun _ _ q => q
theorem HOk.laid (x : HOk P w H h) (k : ∀ b u, h.get? b = some u → h'.get? b = some u) (hp : h.objs.size ≤ a) (new : ObjOk P w (upd H a o) h' a o) : HOk P w (upd H a o) h' := fun b u e => by
  have hn := x.fresh hp
  by_cases hb : b = a
  · subst hb; rw [upd_same] at e; cases e; exact new
  · rw [upd_ne hb] at e
    exact (x b u e).stay (fun c v _ q => k c v q) (fun c q => by rw [upd_ne (ne_of_none q hn)]; exact q) fun c xs q => by rw [upd_ne (ne_of_none q hn)]; exact q
end
def Rd (H : Hp) (a : Addr) (u : HO) : Prop := H a = some u ∨ ∃ o, H a = some (.frz o u)
theorem Rd.of {H : Hp} {a : Addr} {u : HO} (h : H a = some u) : Rd H a u := .inl h
theorem Rd.ok {P : Program} {w : World} {H : Hp} {h : Heap} {a : Addr} {u : HO} (r : Rd H a u) (x : HOk P w H h) : ObjOk P w H h a u := by
  rcases r with r | ⟨o, r⟩
  · exact x a u r
  · obtain ⟨_, q⟩ := x a _ r
    exact q
def Mut : Option HO → Prop
  | some (.lst _) => True
  | some (.dK _) => True
  | some (.dT _) => True
  | some (.set _ _) => True
  | some (.ins _ _ _) => True
  | some (.ext _) => True
  | _ => False
section
variable {P : Program} {w : World} {H : Hp} {h h' : Heap} {x e : Addr} {o' : HO}
theorem HOk.write (ok : HOk P w H h) (mu : Mut (H x)) (he : e = x ∨ H e = some (.own x)) (k : ∀ b u, b ≠ e → h.get? b = some u → h'.get? b = some u) (heo : ∃ u, h'.get? e = some u)
    (new : ObjOk P w (upd H x o') h' x o') : HOk P w (upd H x o') h' := fun b u q => by
  have nown : ∀ c y, H c = some (.own y) → c ≠ x := fun c y r z => by subst z; rw [r] at mu; exact mu
  have ntup : ∀ c xs, H c = some (.tup xs) → c ≠ x := fun c xs r z => by subst z; rw [r] at mu; exact mu
  by_cases hb : b = x
  · subst hb; rw [upd_same] at q; cases q; exact new
  · rw [upd_ne hb] at q
    by_cases hbe : b = e
    · have q' : H b = some (.own x) := by
        rcases he with z | z
        · exact absurd (hbe.trans z) hb
        · rw [hbe]; exact z
      rw [q] at q'; cases q'
      obtain ⟨v, hv⟩ := heo
      exact ⟨v, by rw [hbe]; exact hv⟩
    · refine (ok b u q).stay (fun c v hc r => k c v ?_ r) (fun c r => by rw [upd_ne (nown c b r)]; exact r) fun c xs r => by rw [upd_ne (ntup c xs r)]; exact r
      rcases hc with rfl | hc
      · exact hbe
      · rintro rfl
        rcases he with z | z
        · exact nown c b hc z
        · rw [hc] at z; cases z; exact hb rfl
end
structure Un (fs ex : List Addr) (H H' : Hp) (h h' : Heap) : Prop where
  keep : ∀ b o, h.get? b = some o → H b = none → b ∉ fs → b ∉ ex → h'.get? b = some o
  slot : ∀ b o, h.get? b = some o → H b = none → b ∈ fs → b ∉ ex → ∃ sl, h'.get? b = some { o with slots := sl }
  free : ∀ b o, h.get? b = some o → H b = none → b ∉ ex → H' b = none
  there : ∀ b o, h.get? b = some o → b ∉ ex → ∃ o', h'.get? b = some o'
  tups : ∀ b xs, H b = some (.tup xs) → H' b = some (.tup xs)
  frzs : ∀ b o u, H b = some (.frz o u) → H' b = some (.frz o u)
  tbls : ∀ b ps, H b = some (.tbl ps) → ∃ more, H' b = some (.tbl (ps ++ more))
section
variable {fs fs' ex ex' : List Addr} {H H1 H2 : Hp} {h h1 h2 h' : Heap} {a x e : Addr} {o : HO}
theorem Un.any (u : Un fs ex H H1 h h1) {b : Addr} {ob : Obj} (q : h.get? b = some ob) (n : H b = none) (hx : b ∉ ex) : ∃ sl, h1.get? b = some { ob with slots := sl } := by
  by_cases hb : b ∈ fs
  · exact u.slot b ob q n hb hx
  · exact ⟨ob.slots, u.keep b ob q n hb hx⟩
theorem Un.kept (k : ∀ b u, h.get? b = some u → h'.get? b = some u) : Un fs ex H H h h' :=
  ⟨fun b ob q _ _ _ => k b ob q, fun b ob q _ _ _ => ⟨ob.slots, k b ob q⟩, fun _ _ _ n _ => n, fun b ob q _ => ⟨ob, k b ob q⟩, fun _ _ q => q, fun _ _ _ q => q, fun _ ps q => ⟨#[], by rw [q]; simp⟩⟩
theorem Un.refl : Un fs ex H H h h := Un.kept fun _ _ q => q
theorem Un.laid (k : ∀ b u, h.get? b = some u → h'.get? b = some u) (hp : h.objs.size ≤ a) (hn : H a = none) : Un fs ex H (upd H a o) h h' where
  keep := fun b u q _ _ _ => k b u q
  slot := fun b u q _ _ _ => ⟨u.slots, k b u q⟩
  free := fun b u q n _ => by rw [upd_ne (Nat.ne_of_lt (Nat.lt_of_lt_of_le (Heap.lt_size q) hp))]; exact n
  there := fun b u q _ => ⟨u, k b u q⟩
  tups := fun b xs q => by rw [upd_ne (ne_of_none q hn)]; exact q
  frzs := fun b u xs q => by rw [upd_ne (ne_of_none q hn)]; exact q
  tbls := fun b ps q => ⟨#[], by rw [upd_ne (ne_of_none q hn), q]; simp⟩
theorem Un.write (mu : Mut (H x)) (he : e = x ∨ H e = some (.own x)) (k : ∀ b u, b ≠ e → h.get? b = some u → h'.get? b = some u) (heo : ∃ u, h'.get? e = some u) : Un fs ex H (upd H x o) h h' := by
  have hx : ∀ b, H b = none → b ≠ x := fun b n z => by subst z; rw [n] at mu; exact mu
  have hb : ∀ b, H b = none → b ≠ e := fun b n z => by
    subst z
    rcases he with r | r
    · exact hx b n r
    · rw [n] at r; cases r
  have hm : ∀ b u, H b = some u → ¬ Mut (some u) → b ≠ x := fun b u q nm z => by subst z; rw [q] at mu; exact nm mu
  refine ⟨fun b u q n _ _ => k b u (hb b n) q, fun b u q n _ _ => ⟨u.slots, k b u (hb b n) q⟩, fun b u q n _ => by rw [upd_ne (hx b n)]; exact n, fun b u q _ => ?_,
    fun b xs q => by rw [upd_ne (hm b _ q fun z => z)]; exact q, fun b u xs q => by rw [upd_ne (hm b _ q fun z => z)]; exact q, fun b ps q => ⟨#[], by rw [upd_ne (hm b _ q fun z => z), q]; simp⟩⟩
  by_cases hbe : b = e
  · subst hbe; exact heo
  · exact ⟨u, k b u hbe q⟩
end
def trk (h : Heap) (H : Hp) : List Addr := (List.range h.objs.size).filter fun a => (H a).isSome
def hidT (h : Heap) (H : Hp) : Heap := PySem.W.hideAll h (trk h H)
theorem hidT_size (h : Heap) (H : Hp) : (hidT h H).objs.size = h.objs.size := PySem.W.hideAll_size _ _
theorem hidT_get {h : Heap} {H : Hp} {b : Addr} {o : Obj} (e : h.get? b = some o) (n : H b = none) : (hidT h H).get? b = some o :=
  PySem.W.hideAll_get _ e fun hm => by
    have q : (H b).isSome = true := (List.mem_filter.mp hm).2
    rw [n] at q; simp at q
theorem of_hidT {h : Heap} {H : Hp} {b : Addr} {o : Obj} (e : (hidT h H).get? b = some o) : h.get? b = some o ∧ H b = none := by
  have e' : h.get? b = some o := PySem.W.of_hideAll (trk h H) e
  refine ⟨e', ?_⟩
  cases q : H b with
  | none => rfl
  | some x =>
    have hm : b ∈ trk h H := List.mem_filter.mpr ⟨List.mem_range.mpr (Heap.lt_size e'), by simp [q]⟩
    have z : (hidT h H).get? b = none := PySem.W.hideAll_none (trk h H) hm
    rw [z] at e; cases e
end L2
namespace L2
open PySem PySem.Spec PyProof.Rows
structure Mod (K : PySem.W.Frag) (mg : Str → Option Value) (base : Heap) : Prop where
  kin : K.In base
  glob : base.Ns mainGlobals mg
  blt : ∃ mb, base.Ns builtinsNs mb ∧ ∀ x : Str, x ≠ "__name__" → mb x = bootBuiltins x
  nolimit : base.NoLimit
structure Cx where
  prog : Program
  w : World
  K : PySem.W.Frag
  mg : Str → Option Value
  base : Heap
  A : Around
  N : List Str
  s₀ : Shared
  H₀ : Hp
  env : Env
  outer : List Env
  stack : List Env
  ex : List Addr
  fn : Str → Bool
  calm : Bool
  pn : List (Addr × Obj)
  xe : Value → Shared → Prop
def frs (l : List Env) : List Addr := l.filterMap (·.frame)
abbrev Cx.fs (X : Cx) : List Addr := frs X.outer
def Vis (sc : Scope) (x : Str) : Prop := sc.names.lookup x = some .local ∨ sc.names.lookup x = some .cell ∨ sc.names.lookup x = some .free
def Loc (sc : Scope) (x : Str) : Prop := sc.names.lookup x = some .local ∨ sc.names.lookup x = some .cell
def Look (env : Env) (h : Heap) (m : Str → Option Value) (x : Str) (u : Value) : Prop :=
  (env.kindOf x = some .local ∧ m x = some u) ∨ ((env.kindOf x = some .cell ∨ env.kindOf x = some .free) ∧ ∃ c, env.cells.lookup x = some c ∧ h.IsCell c (some u))
structure Cx.Ok (X : Cx) : Prop where
  mod : Mod X.K X.mg X.base
  kind : X.env.scope.kind = .function
  glob : X.env.globals = mainGlobals
  blt : X.env.builtins = builtinsNs
  above : X.s₀.heap.objs.size ≤ X.env.locals
  inj : ∀ x y c, X.env.cells.lookup x = some c → X.env.cells.lookup y = some c → x = y
  has : ∀ x, (X.env.kindOf x = some .cell ∨ X.env.kindOf x = some .free) → ∃ c, X.env.cells.lookup x = some c
  cab : ∀ x c, X.fn x = true → X.env.cells.lookup x = some c → X.s₀.heap.objs.size ≤ c
  hd : X.calm = true → X.A.handled = none
  frames : X.A.frames = some X.stack
  stk : X.stack = X.outer ∨ (X.stack = X.env :: X.outer ∧ X.env.frame = some X.env.locals)
  exf : ∀ b ∈ X.ex, b ≠ X.env.locals ∧ ∀ x c, X.env.cells.lookup x = some c → c ≠ b
  bs : ∀ b o, X.base.get? b = some o → X.s₀.heap.get? b = some o ∧ X.H₀ b = none
  bsz : X.base.objs.size ≤ X.s₀.heap.objs.size
  noex : ∀ b o, X.base.get? b = some o → b ∉ X.ex
  exfs : ∀ b ∈ X.ex, b ∉ X.fs
  funs : X.s₀.heap.FunFrames X.base X.outer
  frf : ∀ b ∈ X.fs, X.H₀ b = none
structure Inv (X : Cx) (pins : List (Addr × Obj)) (σ : List (Option V)) (H : Hp) (s : Shared) : Prop where
  ok : X.Ok
  os : s.os = X.s₀.os
  bare : AllBare s.gens
  base : Un X.fs X.ex X.H₀ H X.s₀.heap s.heap
  loc : ∃ m, s.heap.Ns X.env.locals m ∧ ∀ (i : Nat) (x : Str) (v : V), X.N[i]? = some x → σ[i]? = some (some v) → Vis X.env.scope x → ∃ u, RelV v u ∧ Look X.env s.heap m x u
  cell : ∀ x c, X.env.cells.lookup x = some c → ∃ v, s.heap.IsCell c v
  free : H X.env.locals = none
  freeC : ∀ x c, X.env.cells.lookup x = some c → H c = none
  pin : ∀ p ∈ X.pn ++ pins, s.heap.get? p.1 = some p.2 ∧ H p.1 = none ∧ p.1 ≠ X.env.locals ∧ p.1 ∉ X.fs ∧ ∀ v, p.2.data ≠ .cell v
  hok : HOk X.prog X.w H s.heap
  len : σ.length = X.N.length
section
variable {X : Cx} {pins : List (Addr × Obj)} {σ : List (Option V)} {H H' : Hp} {s : Shared} {h' : Heap}
theorem Cx.Ok.nofr (ok : X.Ok) {b : Addr} {o : Obj} (e : X.base.get? b = some o) : b ∉ X.fs := fun hb => by
  have := (ok.funs.mem hb).1
  rw [e] at this; cases this
theorem Inv.bs (I : Inv X pins σ H s) : ∀ b o, X.base.get? b = some o → s.heap.get? b = some o ∧ H b = none := fun b o e =>
  ⟨I.base.keep b o (I.ok.bs b o e).1 (I.ok.bs b o e).2 (I.ok.nofr e) (I.ok.noex b o e), I.base.free b o (I.ok.bs b o e).1 (I.ok.bs b o e).2 (I.ok.noex b o e)⟩
theorem Inv.bk (I : Inv X pins σ H s) : ∀ b o, X.base.get? b = some o → s.heap.get? b = some o := fun b o e => (I.bs b o e).1
theorem Inv.mod (I : Inv X pins σ H s) : Mod X.K X.mg X.base := I.ok.mod
theorem Inv.kIn (I : Inv X pins σ H s) : X.K.In s.heap := I.ok.mod.kin.keeps I.bk
theorem Inv.lt (I : Inv X pins σ H s) : X.env.locals < s.heap.objs.size := let ⟨_, hn, _⟩ := I.loc; hn.lt
theorem Inv.sz (I : Inv X pins σ H s) : X.s₀.heap.objs.size ≤ s.heap.objs.size := Nat.le_trans I.ok.above (Nat.le_of_lt I.lt)
theorem Inv.nofs (I : Inv X pins σ H s) {a : Addr} (h : s.heap.objs.size ≤ a) : a ∉ X.fs := fun hb => by
  obtain ⟨_, o, ho, _⟩ := I.ok.funs.mem hb
  exact absurd (Nat.lt_of_lt_of_le (Heap.lt_size ho) (Nat.le_trans I.sz h)) (Nat.lt_irrefl _)
theorem Inv.cne (I : Inv X pins σ H s) : ∀ x c, X.env.cells.lookup x = some c → c ≠ X.env.locals := fun x c e z => by
  obtain ⟨v, o, ho, hd⟩ := I.cell x c e
  obtain ⟨m, ⟨o', es, ep, ho', hd', _⟩, _⟩ := I.loc
  rw [z, ho'] at ho; cases ho; rw [hd'] at hd; cases hd
theorem Inv.funs (I : Inv X pins σ H s) : s.heap.FunFrames X.base X.outer := by
  have all : ∀ (l : List Env), (∀ b ∈ frs l, b ∈ X.fs) → X.s₀.heap.FunFrames X.base l → s.heap.FunFrames X.base l := by
    intro l
    induction l with
    | nil => intro _ _; trivial
    | cons env r ih =>
      intro hs hl
      obtain ⟨hk, ⟨L, o, hf, hn, ho, hd⟩, hr⟩ := hl
      have hL : L ∈ X.fs := hs L (by unfold frs; rw [List.filterMap_cons, hf]; exact List.mem_cons_self)
      obtain ⟨sl, e⟩ := I.base.slot L o ho (I.ok.frf L hL) hL fun z => I.ok.exfs L z hL
      exact ⟨hk, ⟨L, _, hf, hn, e, hd⟩, ih (fun b hb => hs b (by unfold frs; rw [List.filterMap_cons, hf]; exact List.mem_cons_of_mem _ hb)) hr⟩
  exact all X.outer (fun _ hb => hb) I.ok.funs
theorem Inv.stack (I : Inv X pins σ H s) : s.heap.FunFrames X.base X.stack := by
  rcases I.ok.stk with e | ⟨e, hf⟩
  · rw [e]; exact I.funs
  · rw [e]
    obtain ⟨m, hn, _⟩ := I.loc
    refine .cons (by rw [I.ok.kind]; decide) hf hn ?_ I.funs
    exact Heap.get?_none_of_le (Nat.le_trans I.ok.bsz I.ok.above)
theorem Inv.stkSub (I : Inv X pins σ H s) : ∀ b ∈ frs X.stack, b ∈ X.env.locals :: X.fs := fun b hb => by
  rcases I.ok.stk with e | ⟨e, hf⟩
  · rw [e] at hb; exact List.mem_cons_of_mem _ hb
  · rw [e] at hb
    unfold frs at hb
    rw [List.filterMap_cons, hf] at hb
    exact hb
theorem Inv.stkFree (I : Inv X pins σ H s) : ∀ b ∈ frs X.stack, H b = none := fun b hb => by
  rcases List.mem_cons.mp (I.stkSub b hb) with e | hb
  · rw [e]; exact I.free
  · obtain ⟨_, o, ho, _⟩ := I.ok.funs.mem hb
    exact I.base.free b o ho (I.ok.frf b hb) fun z => I.ok.exfs b z hb
theorem Inv.step {g' : Array GenState} {t' : Nat} {d' : Drawn} {ch : List Addr} (I : Inv X pins σ H s)
    (hch : ∀ b ∈ ch, (b ∈ X.ex ∨ X.s₀.heap.objs.size ≤ b) ∧ b ≠ X.env.locals ∧ (∀ x c, X.env.cells.lookup x = some c → c ≠ b) ∧ ∀ p ∈ X.pn ++ pins, p.1 ≠ b)
    (keep : ∀ b o, b ≠ X.env.locals → b ∉ X.fs → b ∉ ch → s.heap.get? b = some o → H b = none → h'.get? b = some o)
    (slot : ∀ b o, b ≠ X.env.locals → b ∈ X.fs → b ∉ ch → s.heap.get? b = some o → H b = none → ∃ sl, h'.get? b = some { o with slots := sl }) (free : ∀ b o, b ∉ ch → s.heap.get? b = some o → H b = none → H' b = none)
    (there : ∀ b o, b ∉ ch → s.heap.get? b = some o → ∃ o', h'.get? b = some o')
    (tups : ∀ b xs, H b = some (.tup xs) → H' b = some (.tup xs)) (frzs : ∀ b o u, H b = some (.frz o u) → H' b = some (.frz o u)) (tbls : ∀ b ps, H b = some (.tbl ps) → ∃ more, H' b = some (.tbl (ps ++ more)))
    (ns : ∀ m, s.heap.Ns X.env.locals m → h'.Ns X.env.locals m) (hok : HOk X.prog X.w H' h') (hg : AllBare g') :
    Inv X pins σ H' { s with heap := h', gens := g', drawn := d', toks := t' } := by
  have neL : ∀ b o, X.s₀.heap.get? b = some o → b ≠ X.env.locals := fun b o e => Nat.ne_of_lt (Nat.lt_of_lt_of_le (Heap.lt_size e) I.ok.above)
  have neC : ∀ b o, X.s₀.heap.get? b = some o → b ∉ X.ex → b ∉ ch := fun b o e hx hb => by
    rcases (hch b hb).1 with z | z
    · exact hx z
    · exact absurd (Nat.lt_of_lt_of_le (Heap.lt_size e) z) (Nat.lt_irrefl _)
  have cellK : ∀ x c, X.env.cells.lookup x = some c → ∀ v, s.heap.IsCell c v → h'.IsCell c v := fun x c e v ⟨o, ho, hd⟩ => by
    have nch : c ∉ ch := fun z => (hch c z).2.2.1 x c e rfl
    by_cases hc : c ∈ X.fs
    · obtain ⟨sl, q⟩ := slot c o (I.cne x c e) hc nch ho (I.freeC x c e)
      exact ⟨_, q, hd⟩
    · exact ⟨o, keep c o (I.cne x c e) hc nch ho (I.freeC x c e), hd⟩
  refine ⟨I.ok, I.os, hg, ⟨fun b o e n hb hx => ?_, fun b o e n hb hx => ?_, fun b o e n hx => ?_, fun b o e hx => ?_, fun b xs e => tups b xs (I.base.tups b xs e), fun b o xs e => frzs b o xs (I.base.frzs b o xs e), fun b ps e => ?_⟩, ?_, fun x c e => ?_, ?_, fun x c e => ?_, fun p hp => ?_, hok, I.len⟩
  · exact keep b o (neL b o e) hb (neC b o e hx) (I.base.keep b o e n hb hx) (I.base.free b o e n hx)
  · obtain ⟨sl, e1⟩ := I.base.slot b o e n hb hx
    obtain ⟨sl', e2⟩ := slot b _ (neL b o e) hb (neC b o e hx) e1 (I.base.free b o e n hx)
    exact ⟨sl', e2⟩
  · obtain ⟨o', e1⟩ := I.base.there b o e hx
    exact free b o' (neC b o e hx) e1 (I.base.free b o e n hx)
  · obtain ⟨o', e1⟩ := I.base.there b o e hx
    exact there b o' (neC b o e hx) e1
  · obtain ⟨m1, e1⟩ := I.base.tbls b ps e
    obtain ⟨m2, e2⟩ := tbls b _ e1
    exact ⟨m1 ++ m2, by rw [e2, Array.append_assoc]⟩
  · obtain ⟨m, hn, hl⟩ := I.loc
    refine ⟨m, ns m hn, fun i x v e1 e2 e3 => ?_⟩
    obtain ⟨u, r, l⟩ := hl i x v e1 e2 e3
    refine ⟨u, r, ?_⟩
    rcases l with l | ⟨k, c, e, z⟩
    · exact .inl l
    · exact .inr ⟨k, c, e, cellK x c e _ z⟩
  · obtain ⟨v, z⟩ := I.cell x c e
    exact ⟨v, cellK x c e v z⟩
  · obtain ⟨m, ⟨o, _, _, ho, _⟩, _⟩ := I.loc
    exact free _ o (fun z => (hch _ z).2.1 rfl) ho I.free
  · obtain ⟨v, o, ho, hd⟩ := I.cell x c e
    exact free c o (fun z => (hch c z).2.2.1 x c e rfl) ho (I.freeC x c e)
  · obtain ⟨e, n, ne, nf, d⟩ := I.pin p hp
    have nch : p.1 ∉ ch := fun z => (hch p.1 z).2.2.2 p hp rfl
    exact ⟨keep p.1 p.2 ne nf nch e n, free p.1 p.2 nch e n, ne, nf, d⟩
theorem Inv.un {t' : Nat} (I : Inv X pins σ H s) (u : Un X.fs [] H H' s.heap h') (hok : HOk X.prog X.w H' h') : Inv X pins σ H' { s with heap := h', toks := t' } := by
  obtain ⟨m, ⟨o, es, ep, ho, r⟩, _⟩ := id I.loc
  obtain ⟨sl, hL⟩ := u.any ho I.free (by simp)
  exact I.step (g' := s.gens) (d' := s.drawn) (ch := []) (fun _ z => nomatch z) (fun b o _ hb _ e n => u.keep b o e n hb (by simp)) (fun b o _ hb _ e n => u.slot b o e n hb (by simp)) (fun b o _ e n => u.free b o e n (by simp)) (fun b o _ e => u.there b o e (by simp)) u.tups u.frzs u.tbls (fun m' hm => by
    obtain ⟨o', es', ep', ho', r'⟩ := hm
    rw [ho] at ho'; cases ho'
    exact ⟨_, es', ep', hL, r'⟩) hok I.bare
theorem Inv.call {g' : Array GenState} {t' : Nat} {d' : Drawn} {ch : List Addr} (I : Inv X pins σ H s) (u : Un (frs X.stack) ch H H' s.heap h') (hok : HOk X.prog X.w H' h') (hg : AllBare g')
    (hch : ∀ b ∈ ch, (b ∈ X.ex ∨ X.s₀.heap.objs.size ≤ b) ∧ b ≠ X.env.locals ∧ (∀ x c, X.env.cells.lookup x = some c → c ≠ b) ∧ ∀ p ∈ X.pn ++ pins, p.1 ≠ b) :
    Inv X pins σ H' { s with heap := h', gens := g', drawn := d', toks := t' } := by
  obtain ⟨m, ⟨o, es, ep, ho, r⟩, _⟩ := id I.loc
  obtain ⟨sl, hL⟩ := u.any ho I.free fun z => (hch _ z).2.1 rfl
  exact I.step (ch := ch) hch (fun b o hL hb hc e n => u.keep b o e n (fun z => (List.mem_cons.mp (I.stkSub b z)).elim hL hb) hc) (fun b o _ _ hc e n => u.any e n hc) (fun b o hc e n => u.free b o e n hc) (fun b o hc e => u.there b o e hc) u.tups u.frzs u.tbls (fun m' hm => by
    obtain ⟨o', es', ep', ho', r'⟩ := hm
    rw [ho] at ho'; cases ho'
    exact ⟨_, es', ep', hL, r'⟩) hok hg
theorem Inv.turned {t' : Nat} {it : Addr} (I : Inv X pins σ H s) (k : ∀ b o, b ≠ it → s.heap.get? b = some o → h'.get? b = some o) (hn : H it = none) (hL : it ≠ X.env.locals)
    (h1 : it ∈ X.ex ∨ X.s₀.heap.objs.size ≤ it) (h2 : ∀ x c, X.env.cells.lookup x = some c → c ≠ it) (h3 : ∀ p ∈ X.pn ++ pins, p.1 ≠ it) : Inv X pins σ H { s with heap := h', toks := t' } := by
  have nit : ∀ b u, H b = some u → b ≠ it := fun b u e z => by rw [z, hn] at e; cases e
  refine I.step (g' := s.gens) (d' := s.drawn) (ch := [it]) (fun b hb => ?_) (fun b o _ _ hc e _ => k b o (fun z => hc (by simp [z])) e) (fun b o _ _ hc e _ => ⟨o.slots, k b o (fun z => hc (by simp [z])) e⟩) (fun _ _ _ _ n => n)
    (fun b o hc e => ⟨o, k b o (fun z => hc (by simp [z])) e⟩) (fun _ _ e => e) (fun _ _ _ e => e) (fun b ps e => ⟨#[], by rw [e]; simp⟩) (fun m hm => ?_) (fun b u e => ?_) I.bare
  · have e : b = it := by simpa using hb
    subst e
    exact ⟨h1, hL, h2, h3⟩
  · obtain ⟨o, es, ep, ho, r⟩ := hm
    exact ⟨o, es, ep, k _ o (Ne.symm hL) ho, r⟩
  · refine (I.hok b u e).stay (fun c v hc q => k c v ?_ q) (fun _ q => q) fun _ _ q => q
    rcases hc with z | z
    · rw [z]; exact nit b u e
    · exact nit c _ z
theorem Inv.tok (I : Inv X pins σ H s) (t : Nat) : Inv X pins σ H { s with toks := t } := I.un (h' := s.heap) (t' := t) Un.refl I.hok
theorem Inv.kept {t' : Nat} (I : Inv X pins σ H s) (k : ∀ b u, s.heap.get? b = some u → h'.get? b = some u) : Inv X pins σ H { s with heap := h', toks := t' } := I.un (Un.kept k) (I.hok.kept k)
theorem Inv.laid {a : Addr} {o : HO} {t' : Nat} (I : Inv X pins σ H s) (k : ∀ b u, s.heap.get? b = some u → h'.get? b = some u) (hp : s.heap.objs.size ≤ a) (new : ObjOk X.prog X.w (upd H a o) h' a o) :
    Inv X pins σ (upd H a o) { s with heap := h', toks := t' } := I.un (Un.laid k hp (I.hok.fresh hp)) (I.hok.laid k hp new)
theorem Inv.write {x e : Addr} {o : HO} {t' : Nat} (I : Inv X pins σ H s) (mu : Mut (H x)) (he : e = x ∨ H e = some (.own x)) (k : ∀ b u, b ≠ e → s.heap.get? b = some u → h'.get? b = some u) (heo : ∃ u, h'.get? e = some u)
    (new : ObjOk X.prog X.w (upd H x o) h' x o) : Inv X pins σ (upd H x o) { s with heap := h', toks := t' } := I.un (Un.write mu he k heo) (I.hok.write mu he k heo new)
theorem Inv.weak {σ' : List (Option V)} (I : Inv X pins σ H s) (hl : σ'.length = σ.length) (w : ∀ (i : Nat) v, σ'[i]? = some (some v) → σ[i]? = some (some v)) : Inv X pins σ' H s :=
  ⟨I.ok, I.os, I.bare, I.base, let ⟨m, hn, hl'⟩ := I.loc; ⟨m, hn, fun i x v e1 e2 e3 => hl' i x v e1 (w i v e2) e3⟩, I.cell, I.free, I.freeC, I.pin, I.hok, hl.trans I.len⟩
theorem Inv.pins_of {pins' : List (Addr × Obj)} (I : Inv X pins σ H s) (h : ∀ p ∈ pins', s.heap.get? p.1 = some p.2 ∧ H p.1 = none ∧ p.1 ≠ X.env.locals ∧ p.1 ∉ X.fs ∧ ∀ v, p.2.data ≠ .cell v) : Inv X pins' σ H s :=
  ⟨I.ok, I.os, I.bare, I.base, I.loc, I.cell, I.free, I.freeC, fun p hp => (List.mem_append.mp hp).elim (fun z => I.pin p (List.mem_append_left _ z)) (h p), I.hok, I.len⟩
theorem nodup_ix {N : List Str} (hN : N.Nodup) {i j : Nat} {x : Str} (a : N[i]? = some x) (b : N[j]? = some x) : i = j := by
  obtain ⟨h1, e1⟩ := List.getElem?_eq_some_iff.mp a
  obtain ⟨h2, e2⟩ := List.getElem?_eq_some_iff.mp b
  exact (List.getElem_inj hN).mp (e1.trans e2.symm)
theorem store_ok2 {M : Model} {A : Around} {E : Value → Shared → Prop} {i : Nat} {x : Str} {v : V} {u : Value} {Q : Unit → Shared → Prop} (I : Inv X pins σ H s) (hN : X.N.Nodup) (hi : X.N[i]? = some x) (hx : Loc X.env.scope x) (r : RelV v u)
    (h : ∀ s', Inv X pins (σ.set i (some v)) H s' → (∃ a, Heap.SameBut a s.heap s'.heap ∧ (a = X.env.locals ∨ X.env.cells.lookup x = some a)) → Q () s') (hf : X.fn x = true ∨ X.env.scope.names.lookup x = some .local := by first | exact .inl rfl | exact .inr rfl | assumption) : wpAny M A (storeName X.env x u) Q E s := by
  obtain ⟨m, hn, hl⟩ := id I.loc
  have hcls : (X.env.scope.kind == .class || (X.env.scope.kind == .module && X.env.locals != X.env.globals)) = false := by rw [I.ok.kind]; rfl
  have hiσ : i < σ.length := by rw [I.len]; exact (List.getElem?_eq_some_iff.mp hi).1
  have cne := I.cne
  have tracked : ∀ {a : Addr} {h' : Heap}, (∃ o, s.heap.get? a = some o ∧ H a = none) → Heap.SameBut a s.heap h' → HOk X.prog X.w H h' := fun {a h'} ha hs b ob e => by
    obtain ⟨_, _, hfree⟩ := ha
    refine (I.hok b ob e).stay (fun c w' hc q => (hs.2 c ?_).trans q) (fun _ q => q) fun _ _ q => q
    rintro rfl
    rcases hc with rfl | hc
    · rw [hfree] at e; cases e
    · rw [hfree] at hc; cases hc
  rcases hx with hk | hk
  · refine wpAny_storeName_local hk hn (fun h' hn' hs => ?_) hcls
    obtain ⟨oL, _, _, hoL, _⟩ := id hn
    refine h _ ⟨I.ok, I.os, I.bare, ⟨fun b o e n hb hx => ?_, fun b o e n hb hx => ?_, I.base.free, fun b o e hx => ?_, I.base.tups, I.base.frzs, I.base.tbls⟩, ⟨_, hn', fun j y v' e1 e2 e3 => ?_⟩, fun y c e => ?_, I.free, I.freeC, fun p hp => ?_, tracked ⟨oL, hoL, I.free⟩ hs, by simpa using I.len⟩ ⟨_, hs, .inl rfl⟩
    · exact (hs.2 b (Nat.ne_of_lt (Nat.lt_of_lt_of_le (Heap.lt_size e) I.ok.above))).trans (I.base.keep b o e n hb hx)
    · obtain ⟨sl, e1⟩ := I.base.slot b o e n hb hx
      exact ⟨sl, (hs.2 b (Nat.ne_of_lt (Nat.lt_of_lt_of_le (Heap.lt_size e) I.ok.above))).trans e1⟩
    · obtain ⟨o', e1⟩ := I.base.there b o e hx
      exact ⟨o', (hs.2 b (Nat.ne_of_lt (Nat.lt_of_lt_of_le (Heap.lt_size e) I.ok.above))).trans e1⟩
    · by_cases hj : j = i
      · subst hj
        rw [hi] at e1; cases e1
        rw [List.getElem?_set_self hiσ] at e2
        cases e2
        exact ⟨u, r, .inl ⟨hk, by simp⟩⟩
      · rw [List.getElem?_set_ne (Ne.symm hj)] at e2
        obtain ⟨u', r', q⟩ := hl j y v' e1 e2 e3
        refine ⟨u', r', ?_⟩
        rcases q with ⟨k, e⟩ | ⟨k, c, e, z⟩
        · refine .inl ⟨k, ?_⟩
          have : y ≠ x := fun e => hj (nodup_ix hN e1 (e ▸ hi))
          simp [this, e]
        · exact .inr ⟨k, c, e, z.sameBut hs (cne y c e)⟩
    · obtain ⟨w', z⟩ := I.cell y c e
      exact ⟨w', z.sameBut hs (cne y c e)⟩
    · obtain ⟨e, n, ne, nf, d⟩ := I.pin p hp
      exact ⟨(hs.2 p.1 ne).trans e, n, ne, nf, d⟩
  · have hfn : X.fn x = true := by
      rcases hf with z | z
      · exact z
      · rw [z] at hk; cases hk
    obtain ⟨c, hc⟩ := I.ok.has x (.inl hk)
    obtain ⟨w', z⟩ := I.cell x c hc
    refine wpAny_storeName_cell I.ok.kind hk hc z (fun h' hc' hs => ?_)
    obtain ⟨oc, hoc, hocd⟩ := id z
    refine h { s with heap := h' } ⟨I.ok, I.os, I.bare, ⟨fun b o e n hb hx => ?_, fun b o e n hb hx => ?_, I.base.free, fun b o e hx => ?_, I.base.tups, I.base.frzs, I.base.tbls⟩, ⟨m, hn.sameBut hs (Ne.symm (cne x c hc)), fun j y v' e1 e2 e3 => ?_⟩, fun y c' e => ?_, I.free, I.freeC, fun p hp => ?_, tracked ⟨oc, hoc, I.freeC x c hc⟩ hs, by simpa using I.len⟩ ⟨c, hs, .inr hc⟩
    · exact (hs.2 b (Nat.ne_of_lt (Nat.lt_of_lt_of_le (Heap.lt_size e) (I.ok.cab x c hfn hc)))).trans (I.base.keep b o e n hb hx)
    · obtain ⟨sl, e1⟩ := I.base.slot b o e n hb hx
      exact ⟨sl, (hs.2 b (Nat.ne_of_lt (Nat.lt_of_lt_of_le (Heap.lt_size e) (I.ok.cab x c hfn hc)))).trans e1⟩
    · obtain ⟨o', e1⟩ := I.base.there b o e hx
      exact ⟨o', (hs.2 b (Nat.ne_of_lt (Nat.lt_of_lt_of_le (Heap.lt_size e) (I.ok.cab x c hfn hc)))).trans e1⟩
    · by_cases hj : j = i
      · subst hj
        rw [hi] at e1; cases e1
        rw [List.getElem?_set_self hiσ] at e2
        cases e2
        exact ⟨u, r, .inr ⟨.inl hk, c, hc, hc'⟩⟩
      · rw [List.getElem?_set_ne (Ne.symm hj)] at e2
        obtain ⟨u', r', q⟩ := hl j y v' e1 e2 e3
        refine ⟨u', r', ?_⟩
        rcases q with q | ⟨k, c', e, z'⟩
        · exact .inl q
        · refine .inr ⟨k, c', e, z'.sameBut hs ?_⟩
          rintro rfl
          exact hj (nodup_ix hN e1 (I.ok.inj _ _ _ e hc ▸ hi))
    · by_cases hcc : c' = c
      · subst hcc; exact ⟨_, hc'⟩
      · obtain ⟨w2, z2⟩ := I.cell y c' e
        exact ⟨w2, z2.sameBut hs hcc⟩
    · obtain ⟨e, n, ne, nf, d⟩ := I.pin p hp
      refine ⟨(hs.2 p.1 ?_).trans e, n, ne, nf, d⟩
      intro q
      rw [q, hoc] at e
      have q' : oc = p.2 := Option.some.inj e
      exact d w' (by rw [← q']; exact hocd)
theorem store_ok {M : Model} {A : Around} {E : Value → Shared → Prop} {i : Nat} {x : Str} {v : V} {u : Value} {Q : Unit → Shared → Prop} (I : Inv X pins σ H s) (hN : X.N.Nodup) (hi : X.N[i]? = some x) (hx : Loc X.env.scope x) (r : RelV v u)
    (h : ∀ s', Inv X pins (σ.set i (some v)) H s' → Q () s') (hf : X.fn x = true ∨ X.env.scope.names.lookup x = some .local := by first | exact .inl rfl | exact .inr rfl | assumption) : wpAny M A (storeName X.env x u) Q E s :=
  store_ok2 I hN hi hx r (fun s' I' _ => h s' I') hf
theorem Inv.call' {s' : Shared} {ch : List Addr} (I : Inv X pins σ H s) (ho : s'.os = s.os) (u : Un (frs X.stack) ch H H' s.heap s'.heap) (hok : HOk X.prog X.w H' s'.heap) (hg : AllBare s'.gens)
    (hch : ∀ b ∈ ch, (b ∈ X.ex ∨ X.s₀.heap.objs.size ≤ b) ∧ b ≠ X.env.locals ∧ (∀ x c, X.env.cells.lookup x = some c → c ≠ b) ∧ ∀ p ∈ X.pn ++ pins, p.1 ≠ b) : Inv X pins σ H' s' := by
  obtain ⟨h', g', d', t', o'⟩ := s'
  have e : o' = s.os := ho
  subst e
  exact I.call (g' := g') (t' := t') (d' := d') u hok hg hch
end
abbrev XK := Value → Option Addr → Hp → Prop
abbrev St := List (Option V)
abbrev VK := V → Hp → Prop
abbrev TE := St → Hp → VK → Prop
abbrev TT := St → Hp → (Bool → Hp → Prop) → Prop
abbrev TA := St → Hp → (List V → Hp → Prop) → Prop
structure Ends where
  nx : St → Hp → Prop
  rt : VK
  bk : St → Hp → Prop := fun _ _ => False
  ct : St → Hp → Prop := fun _ _ => False
abbrev TS := Ends → St → Hp → Prop
def EP (X : Cx) (pins : List (Addr × Obj)) (σ : St) (Q : VK) (u : Value) (s' : Shared) : Prop := ∃ v H', Inv X pins σ H' s' ∧ RelV v u ∧ Q v H'
def TP (X : Cx) (pins : List (Addr × Obj)) (σ : St) (Q : Bool → Hp → Prop) (b : Bool) (s' : Shared) : Prop := ∃ H', Inv X pins σ H' s' ∧ Q b H'
def AP (X : Cx) (pins : List (Addr × Obj)) (σ : St) (Q : List V → Hp → Prop) (us : List Value) (s' : Shared) : Prop := ∃ vs H', Inv X pins σ H' s' ∧ Vals vs us ∧ Q vs H'
def SP (X : Cx) (pins : List (Addr × Obj)) (D : Ends) (f : Flow) (s' : Shared) : Prop :=
  match f with
  | .next => ∃ σ' H', Inv X pins σ' H' s' ∧ D.nx σ' H'
  | .brk => ∃ σ' H', Inv X pins σ' H' s' ∧ D.bk σ' H'
  | .cont => ∃ σ' H', Inv X pins σ' H' s' ∧ D.ct σ' H'
  | .ret u => ∃ v σ' H', Inv X pins σ' H' s' ∧ RelV v u ∧ D.rt v H'
def PE (X : Cx) (e : Expr) (t : TE) : Prop :=
  ∀ (pins : List (Addr × Obj)) (s : Shared) (σ : St) (H : Hp) (Q : VK), Inv X pins σ H s → t σ H Q → wpAny (model X.prog X.w) X.A (eval e X.env) (EP X pins σ Q) X.xe s
def PT (X : Cx) (e : Expr) (t : TT) : Prop :=
  ∀ (pins : List (Addr × Obj)) (s : Shared) (σ : St) (H : Hp) (Q : Bool → Hp → Prop), Inv X pins σ H s → t σ H Q → wpAny (model X.prog X.w) X.A (isTrue e X.env (eval e X.env)) (TP X pins σ Q) X.xe s
def PW (X : Cx) (e : Expr) (t : TT) : Prop :=
  ∀ (whole : Sem Value) (pins : List (Addr × Obj)) (s : Shared) (σ : St) (H : Hp) (Q : Bool → Hp → Prop), Inv X pins σ H s → t σ H Q → wpAny (model X.prog X.w) X.A (isTrue e X.env whole) (TP X pins σ Q) X.xe s
theorem PW.pt {X : Cx} {e : Expr} {t : TT} (h : PW X e t) : PT X e t := h _
def PA (X : Cx) (es : List Expr) (t : TA) : Prop :=
  ∀ (pos : Pos) (pins : List (Addr × Obj)) (s : Shared) (σ : St) (H : Hp) (Q : List V → Hp → Prop), Inv X pins σ H s → t σ H Q → wpAny (model X.prog X.w) X.A (spliced (backTo pos (starEach es X.env))) (AP X pins σ Q) X.xe s
def PS (X : Cx) (st : Stmt) (t : TS) : Prop :=
  ∀ (pins : List (Addr × Obj)) (s : Shared) (σ : St) (H : Hp) (D : Ends), Inv X pins σ H s → t D σ H → wpAny (model X.prog X.w) X.A (exec st X.env) (SP X pins D) X.xe s
def PSs (X : Cx) (st : List Stmt) (t : TS) : Prop :=
  ∀ (pins : List (Addr × Obj)) (s : Shared) (σ : St) (H : Hp) (D : Ends), Inv X pins σ H s → t D σ H → wpAny (model X.prog X.w) X.A (execs st X.env) (SP X pins D) X.xe s
theorem thn {α : Type} {t : Sem α} {Q Q' : α → Shared → Prop} {M : Model} {A : Around} {E : Value → Shared → Prop} {s : Shared} (h : wpAny M A t Q E s) (hQ : ∀ a s, Q a s → Q' a s) : wpAny M A t Q' E s := wpAny_mono h hQ fun _ _ x => x
end L2
namespace L2
open PySem PySem.Spec PyProof.Rows
section
variable {X : Cx}
def tVar (i : Nat) : TE := fun σ H Q => ∃ v, σ[i]? = some (some v) ∧ Q v H
def tC (v : V) : TE := fun _ H Q => Q v H
theorem pe_var {i : Nat} {x : Str} {pos : Pos} (hN : X.N[i]? = some x) (hv : Vis X.env.scope x) (hd : (x == ("__debug__" : Str)) = false := by decide) (hcd : (x == ("__classdict__" : Str)) = false := by decide) : PE X (.Name x pos) (tVar i) := by
  intro pins s σ H Q I h
  obtain ⟨v, e, h⟩ := h
  obtain ⟨m, hn, hl⟩ := I.loc
  obtain ⟨u, r, l⟩ := hl i x v hN e hv
  have fin : EP X pins σ Q u s := ⟨v, H, I, r, h⟩
  rcases l with ⟨hk, hm⟩ | ⟨hk, c, hc, hcell⟩
  · exact wpAny_Name (wpAny_loadName_local I.ok.kind hk hn hm fin) hd
  · rcases hk with hk | hk
    · exact wpAny_Name (wpAny_loadName_cell I.ok.kind hk hc hcell fin) hd
    · exact wpAny_Name (wpAny_loadName_free I.ok.kind hk hc hcell fin hcd) hd
theorem pe_int {i j pos} : PE X (.Constant (.int i) j pos) (tC (.int i)) := fun _ _ _ H _ I h => wpAny_Constant_int ⟨.int i, H, I.tok _, ⟨_, rfl⟩, h⟩
theorem pe_bl {b j pos} : PE X (.Constant (.bool b) j pos) (tC (.bl b)) := fun _ _ _ H _ I h => Constant_bool ⟨.bl b, H, I, rfl, h⟩
theorem pe_non {j pos} : PE X (.Constant .none j pos) (tC .non) := fun _ _ _ H _ I h => Constant_none ⟨.non, H, I, rfl, h⟩
theorem pe_str {x j pos} : PE X (.Constant (.str x) j pos) (tC (.str x)) := fun _ _ _ H _ I h => Calls.Constant_str ⟨.str x, H, I.tok _, ⟨_, rfl⟩, h⟩
def Gl (X : Cx) (x : Str) : Prop := X.env.kindOf x = some .globalImplicit
theorem ld_glob {E : Value → Shared → Prop} {pins : List (Addr × Obj)} {s : Shared} {σ : St} {H : Hp} {x : Str} {u : Value} {pos : Pos} {Q : Value → Shared → Prop} (I : Inv X pins σ H s) (hg : Gl X x) (hm : X.mg x = some u) (h : Q u s)
    (hd : (x == ("__debug__" : Str)) = false := by decide) : wpAny (model X.prog X.w) X.A (eval (.Name x pos) X.env) Q E s :=
  Calls.Name_function_global I.ok.kind hg (Calls.loadGlobal_global (by rw [I.ok.glob]; exact I.mod.glob.keeps I.bk) hm h) hd
theorem ld_blt {E : Value → Shared → Prop} {pins : List (Addr × Obj)} {s : Shared} {σ : St} {H : Hp} {x : Str} {u : Value} {pos : Pos} {Q : Value → Shared → Prop} (I : Inv X pins σ H s) (hg : Gl X x) (hm : X.mg x = none) (hv : bootBuiltins x = some u) (h : Q u s)
    (hn : x ≠ "__name__" := by decide) (hd : (x == ("__debug__" : Str)) = false := by decide) : wpAny (model X.prog X.w) X.A (eval (.Name x pos) X.env) Q E s := by
  obtain ⟨mb, h1, h2⟩ := I.mod.blt
  exact Calls.Name_function_global I.ok.kind hg (Calls.loadGlobal_builtin (by rw [I.ok.glob]; exact I.mod.glob.keeps I.bk) hm (by rw [I.ok.blt]; exact h1.keeps I.bk) ((h2 x hn).trans hv) h) hd
theorem pe_glob {x : Str} {v : V} {u : Value} {pos : Pos} (hg : Gl X x) (hm : X.mg x = some u) (r : RelV v u) (hd : (x == ("__debug__" : Str)) = false := by decide) : PE X (.Name x pos) (tC v) :=
  fun _ _ _ H _ I h => ld_glob I hg hm ⟨v, H, I, r, h⟩ hd
theorem pe_bltn {x : Str} {v : V} {u : Value} {pos : Pos} (hg : Gl X x) (hm : X.mg x = none) (hv : bootBuiltins x = some u) (r : RelV v u) (hn : x ≠ "__name__" := by decide) (hd : (x == ("__debug__" : Str)) = false := by decide) : PE X (.Name x pos) (tC v) :=
  fun _ _ _ H _ I h => ld_blt I hg hm hv ⟨v, H, I, r, h⟩ hn hd
variable {a b : Expr} {ta tb : TE} {pos : Pos}
def PC (X : Cx) (op : CmpOp) (a b : Expr) (t : TE) : Prop :=
  ∀ (pins : List (Addr × Obj)) (s : Shared) (σ : St) (H : Hp) (Q : VK), Inv X pins σ H s → t σ H Q →
    wpAny (model X.prog X.w) X.A (eval a X.env) (fun v s₁ => wpAny (model X.prog X.w) X.A (eval b X.env) (fun u s₂ => wpAny (model X.prog X.w) X.A (compareOp op v u) (EP X pins σ Q) X.xe s₂) X.xe s₁) X.xe s
def tB (t : TE) : TT := fun σ H Q => t σ H fun x H1 => ∃ c, x = .bl c ∧ Q c H1
theorem pt_cmp {op : CmpOp} {t : TE} (h : PC X op a b t) (h1 : behindInMarks op b = false := by first | exact nobehind _ (by decide) (by decide) | rfl) : PT X (.Compare a [op] [b] pos) (tB t) := by
  intro pins s σ H Q I hw
  refine wpAny_isTrue_Compare1 (thn (h pins s σ H _ I hw) fun v s1 h1 => thn h1 fun u s2 h2 => thn h2 fun c s3 ⟨x, H1, I1, r1, q1⟩ => ?_) h1
  obtain ⟨d, rfl, q⟩ := q1
  cases r1
  exact wpAny_truthy_bool ⟨H1, I1, q⟩
theorem pt_val {e : Expr} {t : TE} (h : PE X e t) (he : ∀ whole, isTrue e X.env whole = (do let v ← whole; standAt e.pos; holding [v] (truthy v)) := by intro _; rfl) : PT X e (tB t) := by
  intro pins s σ H Q I hw
  refine isTrue_plain (thn (h pins s σ H _ I hw) fun v s1 ⟨x, H1, I1, r1, q1⟩ => ?_) (he _)
  obtain ⟨d, rfl, q⟩ := q1
  cases r1
  exact wpAny_truthy_bool ⟨H1, I1, q⟩
variable {tA tB' : TT} {rest : List Expr}
def tAnd (t u : TT) : TT := fun σ H Q => t σ H fun c H1 => if c = true then u σ H1 Q else Q false H1
def tOr (t u : TT) : TT := fun σ H Q => t σ H fun c H1 => if c = true then Q true H1 else u σ H1 Q
def tNot (t : TT) : TT := fun σ H Q => t σ H fun c H1 => Q (!c) H1
theorem pw_and1 (ha : PT X a tA) : PW X (.BoolOp .And [a] pos) tA := by
  intro wh pins s σ H Q I h
  refine isTrue_and (thn (ha pins s σ H Q I h) fun c s1 e => ?_)
  cases c with
  | true => exact isTrue_and_nil e
  | false => exact e
theorem pw_or1 (ha : PT X a tA) : PW X (.BoolOp .Or [a] pos) tA := by
  intro wh pins s σ H Q I h
  refine isTrue_or (thn (ha pins s σ H Q I h) fun c s1 e => ?_)
  cases c with
  | false => exact isTrue_or_nil e
  | true => exact e
theorem pw_and (ha : PT X a tA) (hb : PW X (.BoolOp .And (b :: rest) pos) tB') : PW X (.BoolOp .And (a :: b :: rest) pos) (tAnd tA tB') := by
  intro wh pins s σ H Q I h
  refine isTrue_and (thn (ha pins s σ H _ I h) fun c s1 ⟨H1, I1, q1⟩ => ?_)
  cases c with
  | true => exact hb wh pins s1 σ H1 Q I1 q1
  | false => exact ⟨H1, I1, q1⟩
theorem pw_or (ha : PT X a tA) (hb : PW X (.BoolOp .Or (b :: rest) pos) tB') : PW X (.BoolOp .Or (a :: b :: rest) pos) (tOr tA tB') := by
  intro wh pins s σ H Q I h
  refine isTrue_or (thn (ha pins s σ H _ I h) fun c s1 ⟨H1, I1, q1⟩ => ?_)
  cases c with
  | true => exact ⟨H1, I1, q1⟩
  | false => exact hb wh pins s1 σ H1 Q I1 q1
theorem pt_not (ha : PT X a tA) : PT X (.UnaryOp .Not a pos) (tNot tA) := by
  intro pins s σ H Q I h
  exact isTrue_not (ha pins s σ H (fun c H1 => Q (!c) H1) I h)
def tAndV (ta tb : TE) : TE := fun σ H Q => ta σ H fun x H1 => ∃ c, x = .bl c ∧ if c = true then tb σ H1 Q else Q (.bl false) H1
def tNotV (ta : TE) : TE := fun σ H Q => ta σ H fun x H1 => ∃ c, x = .bl c ∧ Q (.bl (!c)) H1
theorem pe_one {op} {t : TE} (h : PE X a t) : PE X (.BoolOp op [a] pos) t := fun pins s σ H Q I hw => BoolOp_one (h pins s σ H Q I hw)
theorem pe_and (ha : PE X a ta) (hb : PE X (.BoolOp .And (b :: rest) pos) tb) : PE X (.BoolOp .And (a :: b :: rest) pos) (tAndV ta tb) := by
  intro pins s σ H Q I h
  refine BoolOp_and (thn (ha pins s σ H _ I h) fun v s1 ⟨x, H1, I1, r1, q1⟩ => ?_)
  obtain ⟨c, rfl, q1⟩ := q1
  cases r1
  refine wpAny_truthy_bool ?_
  cases c with
  | true => exact hb pins s1 σ H1 Q I1 q1
  | false => exact ⟨.bl false, H1, I1, rfl, q1⟩
theorem pe_not (ha : PE X a ta) : PE X (.UnaryOp .Not a pos) (tNotV ta) := by
  intro pins s σ H Q I h
  refine UnaryOp_ (thn (ha pins s σ H _ I h) fun v s1 ⟨x, H1, I1, r1, q1⟩ => ?_)
  obtain ⟨c, rfl, q1⟩ := q1
  cases r1
  exact not_of (wpAny_truthy_bool ⟨.bl (!c), H1, I1, rfl, q1⟩)
def tIf (t : TT) (ta tb : TE) : TE := fun σ H Q => t σ H fun c H1 => if c = true then ta σ H1 Q else tb σ H1 Q
theorem pe_ifExp {c : Expr} (hc : PT X c tA) (ha : PE X a ta) (hb : PE X b tb) : PE X (.IfExp c a b pos) (tIf tA ta tb) := by
  intro pins s σ H Q I h
  refine wpAny_IfExp (thn (hc pins s σ H _ I h) fun d s1 ⟨H1, I1, q1⟩ => ?_)
  cases d with
  | true => exact ha pins s1 σ H1 Q I1 q1
  | false => exact hb pins s1 σ H1 Q I1 q1
end
end L2
namespace L2
open PySem PySem.Spec PyProof.Rows
def SqL (K : PySem.W.Frag) (H : Hp) (a : Addr) (xs : List V) : Prop :=
  Rd H a (.lst xs) ∨
    ∃ (o : Obj) (its : Array Value) (n : Nat), K.lookup a = some o ∧ o.cls = .type "list" ∧ o.dict = none ∧ o.data = .seq its n ∧ its.size ≤ sizeLine ∧ Vals xs its.toList
def SqT (K : PySem.W.Frag) (H : Hp) (a : Addr) (xs : List V) : Prop :=
  Rd H a (.tup xs) ∨
    ∃ (o : Obj) (its : Array Value) (n : Nat), K.lookup a = some o ∧ o.cls = .type "tuple" ∧ o.data = .seq its n ∧ its.size ≤ sizeLine ∧ Vals xs its.toList
def absV : Value → Option V
  | .none => some .non
  | .bool b => some (.bl b)
  | .int i _ => some (.int i)
  | .str x _ => some (.str x)
  | .bytes b _ => some (.byt b)
  | .float b _ => some (.flt b)
  | .ref a => some (.ref a)
  | .type n => some (.ty n)
  | _ => none
theorem RelV.abs {x : V} {u : Value} (r : RelV x u) : absV u = some x := by
  cases x with
  | non => cases r; rfl
  | bl _ => cases r; rfl
  | int _ => obtain ⟨t, rfl⟩ := r; rfl
  | str _ => obtain ⟨t, rfl⟩ := r; rfl
  | byt _ => obtain ⟨t, rfl⟩ := r; rfl
  | flt _ => obtain ⟨t, rfl⟩ := r; rfl
  | ref _ => cases r; rfl
  | ty _ => cases r; rfl
theorem RelV.inj {x y : V} {u : Value} (r : RelV x u) (q : RelV y u) : x = y := Option.some.inj (r.abs.symm.trans q.abs)
theorem Vals.inj : ∀ {xs ys : List V} {us : List Value}, Vals xs us → Vals ys us → xs = ys
  | _, _, _, .nil, .nil => rfl
  | _, _, _, .cons r t, .cons r' t' => by rw [r.inj r', Vals.inj t t']
section
variable {X : Cx} {pins : List (Addr × Obj)} {σ : St} {H : Hp} {s : Shared} {a : Addr} {xs ys : List V}
theorem SqL.of {K : PySem.W.Frag} (h : H a = some (.lst xs)) : SqL K H a xs := .inl (.inl h)
theorem SqT.of {K : PySem.W.Frag} (h : H a = some (.tup xs)) : SqT K H a xs := .inl (.inl h)
theorem Inv.list (I : Inv X pins σ H s) (h : SqL X.K H a xs) : ∃ its : List Value, Vals xs its ∧ PlainL s.heap a its.toArray ∧ xs.length ≤ sizeLine := by
  rcases h with h | ⟨o, its, n, hk, hc, hd, hs, hz, r⟩
  · obtain ⟨z, its, n, r, e⟩ := h.ok I.hok
    exact ⟨its, r, ⟨_, n, e, rfl, rfl, rfl⟩, z⟩
  · refine ⟨its.toList, r, ⟨o, n, I.kIn a o hk, hc, hd, by simpa using hs⟩, ?_⟩
    have e := r.length
    simp only [Array.length_toList] at e
    omega
theorem Inv.tuple (I : Inv X pins σ H s) (h : SqT X.K H a xs) : ∃ its : List Value, Vals xs its ∧ IsTup s.heap a its.toArray ∧ xs.length ≤ sizeLine := by
  rcases h with h | ⟨o, its, n, hk, hc, hs, hz, r⟩
  · obtain ⟨z, its, r, p⟩ := h.ok I.hok
    exact ⟨its, r, p, z⟩
  · refine ⟨its.toList, r, ⟨o, I.kIn a o hk, hc, n, by simpa using hs⟩, ?_⟩
    have e := r.length
    simp only [Array.length_toList] at e
    omega
theorem Inv.list_inj (I : Inv X pins σ H s) (h : SqL X.K H a xs) (h' : SqL X.K H a ys) : xs = ys := by
  obtain ⟨its, r, ⟨o, n, e, _, _, d⟩, _⟩ := I.list h
  obtain ⟨its', r', ⟨o', n', e', _, _, d'⟩, _⟩ := I.list h'
  rw [e] at e'; cases e'
  rw [d] at d'
  injection d' with d1 _
  have : its = its' := by simpa using congrArg Array.toList d1
  subst this
  exact r.inj r'
end
abbrev Cx.wish (X : Cx) (E : Value → Shared → Prop) : Cx := { X with xe := E }
abbrev Cx.nox (X : Cx) : Cx := X.wish fun _ _ => False
theorem Cx.Ok.wish {X : Cx} (ok : X.Ok) (E : Value → Shared → Prop) : (X.wish E).Ok :=
  ⟨ok.mod, ok.kind, ok.glob, ok.blt, ok.above, ok.inj, ok.has, ok.cab, ok.hd, ok.frames, ok.stk, ok.exf, ok.bs, ok.bsz, ok.noex, ok.exfs, ok.funs, ok.frf⟩
theorem Cx.Ok.unwish {X : Cx} {E : Value → Shared → Prop} (ok : (X.wish E).Ok) : X.Ok :=
  ⟨ok.mod, ok.kind, ok.glob, ok.blt, ok.above, ok.inj, ok.has, ok.cab, ok.hd, ok.frames, ok.stk, ok.exf, ok.bs, ok.bsz, ok.noex, ok.exfs, ok.funs, ok.frf⟩
section
variable {X : Cx} {pins : List (Addr × Obj)} {σ : St} {H : Hp} {s : Shared} {E : Value → Shared → Prop}
theorem Inv.wish (I : Inv X pins σ H s) (E : Value → Shared → Prop) : Inv (X.wish E) pins σ H s := ⟨I.ok.wish E, I.os, I.bare, I.base, I.loc, I.cell, I.free, I.freeC, I.pin, I.hok, I.len⟩
theorem Inv.unwish (I : Inv (X.wish E) pins σ H s) : Inv X pins σ H s := ⟨I.ok.unwish, I.os, I.bare, I.base, I.loc, I.cell, I.free, I.freeC, I.pin, I.hok, I.len⟩
theorem SP.unwish {D : Ends} {f : Flow} {s' : Shared} (h : SP (X.wish E) pins D f s') : SP X pins D f s' := by
  cases f with
  | next => obtain ⟨σ', H', I, q⟩ := h; exact ⟨σ', H', I.unwish, q⟩
  | brk => obtain ⟨σ', H', I, q⟩ := h; exact ⟨σ', H', I.unwish, q⟩
  | cont => obtain ⟨σ', H', I, q⟩ := h; exact ⟨σ', H', I.unwish, q⟩
  | ret u => obtain ⟨v, σ', H', I, r, q⟩ := h; exact ⟨v, σ', H', I.unwish, r, q⟩
theorem PSs.nox {st : List Stmt} {t : TS} (h : PSs X.nox st t) : PSs X st t := fun pins s σ H D I hw =>
  wpAny_mono (h pins s σ H D (I.wish _) hw) (fun _ _ q => q.unwish) fun _ _ z => False.elim z
end
section
variable {X : Cx} {st : Stmt} {rest : List Stmt} {t u : TS} {e : Expr} {te : TE} {pos : Pos}
def tNext : TS := fun D σ H => D.nx σ H
def tSeq (t u : TS) : TS := fun D σ H => t { D with nx := u D } σ H
theorem pss_nil : PSs X [] tNext := fun _ _ σ H _ I h => wpAny_execs_nil ⟨σ, H, I, h⟩
theorem pss_cons (h1 : PS X st t) (h2 : PSs X rest u) : PSs X (st :: rest) (tSeq t u) := by
  intro pins s σ H D I h
  refine wpAny_execs_cons (thn (h1 pins s σ H { D with nx := u D } I h) fun f s1 q => ?_)
  cases f with
  | next =>
    obtain ⟨σ', H', I', q⟩ := q
    exact h2 pins s1 σ' H' D I' q
  | ret v => exact q
  | brk => exact q
  | cont => exact q
theorem pss_one (h1 : PS X st t) : PSs X [st] t := by
  intro pins s σ H D I h
  refine wpAny_execs_cons (thn (h1 pins s σ H D I h) fun f s1 q => ?_)
  cases f with
  | next => exact wpAny_execs_nil q
  | ret v => exact q
  | brk => exact q
  | cont => exact q
theorem Inv.quiet {pins : List (Addr × Obj)} {σ : St} {H : Hp} {s : Shared} (I : Inv X pins σ H s) : interactive X.env = false := by simp [interactive, I.ok.kind]
def tDrop (te : TE) : TS := fun D σ H => te σ H fun _ H1 => D.nx σ H1
theorem ps_expr (he : PE X e te) (hs : swapsWith e none pos.line X.env = pure false := by rfl) : PS X (.Expr e pos) (tDrop te) := by
  intro pins s σ H D I h
  exact wpAny_Expr_any (thn (he pins s σ H _ I h) fun v s1 ⟨x, H1, I1, r1, q1⟩ => ⟨σ, H1, I1, q1⟩) I.quiet hs
def tRet (te : TE) : TS := fun D σ H => te σ H D.rt
theorem ps_ret (he : PE X e te) : PS X (.Return (some e) pos) (tRet te) := by
  intro pins s σ H D I h
  exact wpAny_Return_some (thn (he pins s σ H _ I h) fun v s1 ⟨x, H1, I1, r1, q1⟩ => ⟨x, σ, H1, I1, r1, q1⟩)
def tIfS (c : TT) (t u : TS) : TS := fun D σ H => c σ H fun b H1 => if b = true then t D σ H1 else u D σ H1
theorem ps_if {c : Expr} {a b : List Stmt} {tc : TT} (hc : PT X c tc) (ha : PSs X a t) (hb : PSs X b u) : PS X (.If c a b pos) (tIfS tc t u) := by
  intro pins s σ H D I h
  refine wpAny_If (thn (hc pins s σ H _ I h) fun d s1 ⟨H1, I1, q1⟩ => ?_)
  cases d with
  | true => exact ha pins s1 σ H1 D I1 q1
  | false => exact hb pins s1 σ H1 D I1 q1
def tNever : TS := fun _ _ _ => False
theorem ps_never : PS X st tNever := fun _ _ _ _ _ _ h => h.elim
end
abbrev TG := V → St → Hp → (St → Hp → Prop) → Prop
abbrev TGs := List V → St → Hp → (St → Hp → Prop) → Prop
def PG (X : Cx) (target : Expr) (t : TG) : Prop :=
  ∀ (pins : List (Addr × Obj)) (s : Shared) (σ : St) (H : Hp) (v : V) (u : Value) (Q : St → Hp → Prop), Inv X pins σ H s → RelV v u → t v σ H Q →
    wpAny (model X.prog X.w) X.A (assign target X.env u) (fun _ s' => ∃ σ' H', Inv X pins σ' H' s' ∧ Q σ' H') X.xe s
def PGs (X : Cx) (ts : List Expr) (t : TGs) : Prop :=
  ∀ (pins : List (Addr × Obj)) (s : Shared) (σ : St) (H : Hp) (vs : List V) (us : List Value) (Q : St → Hp → Prop), Inv X pins σ H s → Vals vs us → t vs σ H Q →
    wpAny (model X.prog X.w) X.A (assignInOrder ((assignEach ts X.env).map (·.2)) us) (fun _ s' => ∃ σ' H', Inv X pins σ' H' s' ∧ Q σ' H') X.xe s
section
variable {X : Cx} {pos : Pos}
def gName (i : Nat) : TG := fun v σ H Q => Q (σ.set i (some v)) H
theorem pg_name {i : Nat} {x : Str} (hN : X.N.Nodup) (hi : X.N[i]? = some x) (hx : Loc X.env.scope x) (hf : X.fn x = true ∨ X.env.scope.names.lookup x = some .local := by first | exact .inl rfl | exact .inr rfl | assumption) : PG X (.Name x pos) (gName i) := by
  intro pins s σ H v u Q I r h
  exact wpAny_assign_Name (store_ok I hN hi hx r (fun s' I' => ⟨_, H, I', h⟩) hf)
def gNil : TGs := fun vs σ H Q => vs = [] ∧ Q σ H
def gCons (t : TG) (u : TGs) : TGs := fun vs σ H Q => ∃ v r, vs = v :: r ∧ t v σ H fun σ' H' => u r σ' H' Q
theorem pgs_nil : PGs X [] gNil := by
  intro pins s σ H vs us Q I r h
  obtain ⟨e, h⟩ := h
  subst e
  cases r
  exact assignInOrder_nil ⟨σ, H, I, h⟩
theorem pgs_cons {e : Expr} {es : List Expr} {t : TG} {u : TGs} (h1 : PG X e t) (h2 : PGs X es u)
    (hs : (assignEach (e :: es) X.env).map (·.2) = assign e X.env :: (assignEach es X.env).map (·.2) := by rfl) : PGs X (e :: es) (gCons t u) := by
  intro pins s σ H vs us Q I r h
  obtain ⟨v, vr, e1, h⟩ := h
  subst e1
  cases r with
  | cons r rr =>
    rw [hs]
    refine assignInOrder_cons (thn (h1 pins s σ H _ _ _ I r h) fun _ s1 ⟨σ1, H1, I1, q1⟩ => ?_)
    exact h2 pins s1 σ1 H1 _ _ Q I1 rr q1
def gTup (K : PySem.W.Frag) (n : Nat) (t : TGs) : TG := fun v σ H Q => ∃ a xs, v = .ref a ∧ SqT K H a xs ∧ xs.length = n ∧ t xs σ H Q
theorem pg_tup {es : List Expr} {k : Nat} {t : TGs} {n : Nat} (hc : X.calm = true) (h : PGs X es t)
    (hn : (assignEach es X.env).length = n := by rfl) (hst : (assignEach es X.env).findIdx? (·.1) = none := by rfl) : PG X (.Tuple es k pos) (gTup X.K n t) := by
  intro pins s σ H v u Q I r hw
  obtain ⟨a, xs, e1, hq, hl, hw⟩ := hw
  subst e1
  cases r
  obtain ⟨its, rv, ht, hz⟩ := I.tuple hq
  refine assign_Tuple_tuple (I.ok.hd hc) ht (by simp [hn, ← hl, rv.length]) hst fun h' hx => ?_
  have I1 : Inv X pins σ H { s with heap := h' } := I.kept (t' := s.toks) fun b o e => hx b o (Nat.ne_of_lt (Heap.lt_size e)) e
  exact h pins _ σ H xs _ Q I1 (by simpa using rv) hw
def tAsg (te : TE) (g : TG) : TS := fun D σ H => te σ H fun x H1 => g x σ H1 D.nx
theorem ps_asg {tg e : Expr} {te : TE} {g : TG} (he : PE X e te) (hg : PG X tg g) (hs : swapsWithSole [tg] e pos.line X.env = pure false := by rfl) (hw : swappedStores [tg] e X.env = pure none := by rfl)
    (h1 : (assignEach [tg] X.env).map (·.2) = [assign tg X.env] := by rfl) : PS X (.Assign [tg] e pos) (tAsg te g) := by
  intro pins s σ H D I h
  refine wpAny_Assign_stores (thn (he pins s σ H _ I h) fun v s1 ⟨x, H1, I1, r1, q1⟩ => ?_) hs hw
  rw [h1]
  exact thn (hg pins s1 σ H1 x v _ I1 r1 q1) fun _ s2 q => q
theorem ps_set {i : Nat} {x : Str} {e : Expr} {te : TE} {pos' : Pos} (hN : X.N.Nodup) (hi : X.N[i]? = some x) (hx : Loc X.env.scope x) (he : PE X e te) (hs : swapsWith e (some (.Name x pos')) pos.line X.env = pure false := by rfl) (hf : X.fn x = true ∨ X.env.scope.names.lookup x = some .local := by first | exact .inl rfl | exact .inr rfl | assumption) :
    PS X (.Assign [.Name x pos'] e pos) (tAsg te (gName i)) := by
  intro pins s σ H D I h
  refine wpAny_Assign_Name (thn (he pins s σ H _ I h) fun v s1 ⟨y, H1, I1, r1, q1⟩ => ?_) hs
  exact store_ok I1 hN hi hx r1 (fun s2 I2 => ⟨_, H1, I2, q1⟩) hf
def tPar (i j : Nat) (ta : TA) : TS := fun D σ H => ta σ H fun vs H1 => ∃ v w, vs = [v, w] ∧ D.nx ((σ.set i (some v)).set j (some w)) H1
theorem ps_par {i j : Nat} {x y : Str} {a b : Expr} {ta : TA} {px py pt : Pos} {kt k2 pt2} (hc : X.calm = true) (hN : X.N.Nodup) (hi : X.N[i]? = some x) (hj : X.N[j]? = some y) (hij : i ≠ j)
    (hx : X.env.scope.names.lookup x = some .local) (hy : X.env.scope.names.lookup y = some .local) (ha : PA X [a, b] ta)
    (hw : swappedStores [.Tuple [.Name x px, .Name y py] kt pt] (.Tuple [a, b] k2 pt2) X.env = pure (some [x, y]))
    (hs : swapsWithSole [.Tuple [.Name x px, .Name y py] kt pt] (.Tuple [a, b] k2 pt2) pos.line X.env = pure false := by rfl) :
    PS X (.Assign [.Tuple [.Name x px, .Name y py] kt pt] (.Tuple [a, b] k2 pt2) pos) (tPar i j ta) := by
  intro pins s σ H D I h
  rw [exec_Assign_arm]
  refine wpAny_bind (wpAny_standAt ?_)
  rw [hs]
  refine wpAny_bind (wpAny_pure ?_)
  rw [if_neg (by decide)]
  refine wpAny_bind (Tuple_ (thn (ha _ pins s σ H _ I h) fun us s1 ⟨vs, H1, I1, r1, q1⟩ => ?_))
  obtain ⟨v, w, e1, q1⟩ := q1
  subst e1
  obtain ⟨u1, u2, rfl, rv, rw'⟩ : ∃ u1 u2, us = [u1, u2] ∧ RelV v u1 ∧ RelV w u2 := by
    cases r1 with
    | cons p q =>
      cases q with
      | cons p' q' =>
        cases q'
        exact ⟨_, _, rfl, p, p'⟩
  refine wpAny_newObj_type ?_ (by show 2 ≤ sizeLine; decide)
  have I2 : Inv X pins σ H1 { s1 with heap := s1.heap.push { cls := .type "tuple", data := .seq [u1, u2].toArray } } := I1.kept (t' := s1.toks) fun b o e => Heap.get?_push_of_some _ e
  rw [hw]
  refine wpAny_bind (wpAny_pure ?_)
  show wpAny (model X.prog X.w) X.A (do rule "assign.swapped-stores"; let items ← unpackItems (.ref s1.heap.objs.size) 2 none; assignInOrder [fun v => bindName X.env y v, fun v => bindName X.env x v] items.reverse; pure Flow.next) _ _ _
  refine wpAny_bind (wpAny_rule (wpAny_bind (unpackItems_tuple (items := #[u1, u2]) (I.ok.hd hc) (IsTup.new s1.heap _) fun h' hx' => ?_)))
  have I3 := I2.kept (h' := h') (t' := s1.toks) fun b o e => hx' b o (Nat.ne_of_lt (Heap.lt_size e)) e
  show wpAny _ _ (assignInOrder [fun v => bindName X.env y v, fun v => bindName X.env x v] [u2, u1] >>= fun _ => pure Flow.next) _ _ _
  refine wpAny_bind (assignInOrder_cons (wpAny_bindName (store_ok I3 hN hj (.inl hy) rw' (fun s2 I4 => ?_) (.inr hy))))
  refine assignInOrder_cons (wpAny_bindName (store_ok I4 hN hi (.inl hx) rv (fun s3 I5 => assignInOrder_nil (wpAny_pure ?_)) (.inr hx)))
  rw [List.set_comm _ _ (Ne.symm hij)] at I5
  exact ⟨_, H1, I5, q1⟩
end
section
variable {X : Cx} {pos : Pos}
def tWhile (c : TT) (tb : TS) : TS := fun D σ H => ∃ W : Nat → St → Hp → Prop, (∃ m, W m σ H) ∧ ∀ m σ H, W m σ H →
  c σ H fun b H1 => if b = true then ∃ N : St → Hp → Prop, (∀ σ' H', N σ' H' → ∃ m', m' < m ∧ W m' σ' H') ∧ tb { D with nx := N, ct := N, bk := D.nx } σ H1 else D.nx σ H1
theorem ps_while {c : Expr} {body : List Stmt} {tc : TT} {tb : TS} (hp : PassesOwn (model X.prog X.w) X.A X.env X.xe) (hc : PT X c tc) (hb : PSs X body tb) : PS X (.While c body [] pos) (tWhile tc tb) := by
  intro pins s σ H D I h
  obtain ⟨W, ⟨m0, w0⟩, turn⟩ := h
  refine wpAny_While (codeAny_whileLoop (fun n s' => ∃ σ' H', Inv X pins σ' H' s' ∧ W n σ' H') ?_ m0 ⟨σ, H, I, w0⟩)
  rintro n s1 ⟨σ1, H1, I1, w1⟩
  refine wpAny_passesOwn hp (thn (hc pins s1 σ1 H1 _ I1 (turn n σ1 H1 w1)) fun b s2 ⟨H2, I2, q2⟩ => ?_)
  cases b with
  | true =>
    obtain ⟨N, hN, q2⟩ := q2
    rw [if_pos rfl]
    refine wpAny_passesOwn hp (thn (hb pins s2 σ1 H2 _ I2 q2) fun f s3 q3 => ?_)
    cases f with
    | next =>
      obtain ⟨σ3, H3, I3, n3⟩ := q3
      obtain ⟨m', hm, w3⟩ := hN σ3 H3 n3
      exact ⟨m', hm, σ3, H3, I3, w3⟩
    | cont =>
      obtain ⟨σ3, H3, I3, n3⟩ := q3
      obtain ⟨m', hm, w3⟩ := hN σ3 H3 n3
      exact ⟨m', hm, σ3, H3, I3, w3⟩
    | brk => exact q3
    | ret v => exact q3
  | false =>
    rw [if_neg Bool.false_ne_true]
    exact wpAny_execs_nil ⟨σ1, H2, I2, q2⟩
end
structure It where
  go : Nat → Hp → Prop
  yld : Nat → Hp → V → Hp → Prop
  stop : Nat → Hp → Prop
def FpOk (X : Cx) (pins : List (Addr × Obj)) (H : Hp) (b : Addr) : Prop :=
  H b = none ∧ b ≠ X.env.locals ∧ b ∉ X.fs ∧ (b ∈ X.ex ∨ X.s₀.heap.objs.size ≤ b) ∧ (∀ x c, X.env.cells.lookup x = some c → c ≠ b) ∧ ∀ p ∈ X.pn ++ pins, p.1 ≠ b
theorem Inv.fpOk {X : Cx} {pins : List (Addr × Obj)} {σ : St} {H H' : Hp} {s : Shared} {b : Addr} (I : Inv X pins σ H s) (hb : s.heap.objs.size ≤ b) (hn : H' b = none) : FpOk X pins H' b := by
  refine ⟨hn, Nat.ne_of_gt (Nat.lt_of_lt_of_le I.lt hb), I.nofs hb, .inr (Nat.le_trans I.sz hb), fun x c e z => ?_, fun p hp z => ?_⟩
  · obtain ⟨v, q⟩ := I.cell x c e
    exact absurd (Nat.lt_of_lt_of_le q.lt (by rw [z]; exact hb)) (Nat.lt_irrefl _)
  · exact absurd (Nat.lt_of_lt_of_le (Heap.lt_size (I.pin p hp).1) (by rw [z]; exact hb)) (Nat.lt_irrefl _)
structure Turn (P : Program) (w : World) (K : PySem.W.Frag) (tg : Expr) (J : It) (fp : List Addr) (it : Addr) (tn : Nat → Heap → Prop) : Prop where
  mem : it ∈ fp
  obj : ∀ i h, tn i h → ∀ b ∈ fp, ∃ o, h.get? b = some o ∧ ∀ v, o.data ≠ .cell v
  keep : ∀ i h h', tn i h → (∀ b ∈ fp, ∀ o, h.get? b = some o → h'.get? b = some o) → tn i h'
  item : ∀ (X : Cx), X.prog = P → X.w = w → X.K = K → X.calm = true → ∀ (i : Nat) (pins : List (Addr × Obj)) (s : Shared) (σ : St) (H : Hp) (E : Value → Shared → Prop), Inv X pins σ H s → (∀ b ∈ fp, FpOk X pins H b) → tn i s.heap → J.go i H →
    wpAny (model P w) X.A (pyNext (.ref it)) (fun r s1 => ∃ u, r = some u ∧
      wpAny (model P w) X.A (letOwnedTupleGo tg (.ref it) u) (fun _ s2 => ∃ x H', Inv X pins σ H' s2 ∧ RelV x u ∧ J.yld i H x H' ∧ tn (i + 1) s2.heap ∧ ∀ b ∈ fp, H' b = none) E s1) E s
  done : ∀ (X : Cx), X.prog = P → X.w = w → X.K = K → X.calm = true → ∀ (i : Nat) (pins : List (Addr × Obj)) (s : Shared) (σ : St) (H : Hp) (E : Value → Shared → Prop), Inv X pins σ H s → (∀ b ∈ fp, FpOk X pins H b) → tn i s.heap → J.stop i H →
    wpAny (model P w) X.A (pyNext (.ref it)) (fun r s1 => r = none ∧ Inv X pins σ H s1) E s
  self : ∀ (A : Around) (i : Nat) (s : Shared) (Q : Value → Shared → Prop) (E : Value → Shared → Prop), tn i s.heap → Q (.ref it) s → wpAny (model P w) A (pyIter (.ref it)) Q E s
abbrev TI := St → Hp → (It → Hp → Prop) → Prop
def PIE (X : Cx) (pins : List (Addr × Obj)) (σ : St) (tg : Expr) (R : It → Hp → Prop) (itv : Value) (s2 : Shared) : Prop :=
  ∃ (it : Addr) (fp : List Addr) (tn : Nat → Heap → Prop) (J : It) (H' : Hp), itv = .ref it ∧ Inv X pins σ H' s2 ∧ Turn X.prog X.w X.K tg J fp it tn ∧ tn 0 s2.heap ∧ (∀ b ∈ fp, FpOk X pins H' b) ∧ R J H'
def PI (X : Cx) (tg iter : Expr) (wi : TI) : Prop :=
  ∀ (pins : List (Addr × Obj)) (s : Shared) (σ : St) (H : Hp) (R : It → Hp → Prop), Inv X pins σ H s → wi σ H R →
    wpAny (model X.prog X.w) X.A (eval iter X.env) (fun v s1 => wpAny (model X.prog X.w) X.A (pyIter v) (PIE X pins σ tg R) X.xe s1) X.xe s
theorem go_of {M : Model} {A : Around} {E : Value → Shared → Prop} {s : Shared} {tg : Expr} {it : Addr} {u : Value} {o : Obj} {n : String} {vs : Array Value} {Q : Unit → Shared → Prop} (ho : s.heap.get? it = some o) (hc : o.cls = .type n) (hd : o.data = .fields vs)
    (hn : ["enumerate", "zip", "dict_itemiterator", "dict_reverseitemiterator", "odict_iterator", "itertools.zip_longest", "itertools.pairwise"].contains n = false) (hQ : Q () s) : wpAny M A (letOwnedTupleGo tg (.ref it) u) Q E s := by
  unfold letOwnedTupleGo
  cases tg <;> first
    | exact wpAny_pure hQ
    | (cases u <;> first
        | exact wpAny_pure hQ
        | (refine wpAny_bind (wpAny_load ho ?_)
           rw [hc, hd]
           show wpAny M A (if (["enumerate", "zip", "dict_itemiterator", "dict_reverseitemiterator", "odict_iterator", "itertools.zip_longest", "itertools.pairwise"].contains n && vs[0]? == some (rawInt _)) = true then _ else _) Q E s
           rw [if_neg (by intro h; rw [hn, Bool.false_and] at h; cases h)]
           exact wpAny_pure hQ))
def Itl (K : PySem.W.Frag) (a : Addr) : It :=
  ⟨fun i H => ∃ xs x, SqL K H a xs ∧ xs[i]? = some x, fun i H x H' => H' = H ∧ ∀ xs, SqL K H a xs → xs[i]? = some x, fun i H => ∃ xs, SqL K H a xs ∧ xs.length ≤ i⟩
def Itr (lo : Int) (n : Nat) : It := ⟨fun i _ => i < n, fun i H x H' => H' = H ∧ x = .int (lo + i), fun i _ => n ≤ i⟩
theorem turn_list {P : Program} {w : World} {K : PySem.W.Frag} {tg : Expr} (a it : Addr) : Turn P w K tg (Itl K a) [it] it (fun i h => h.IsListIter it a i) where
  mem := by simp
  obj := fun i h st b hb => by
    have e : b = it := by simpa using hb
    subst e
    obtain ⟨o, e, c, d⟩ := st
    exact ⟨o, e, fun v z => by rw [d] at z; cases z⟩
  keep := fun i h h' st k => st.at fun o e => k it (by simp) o e
  item := by
    intro X hP hw hK hc i pins s σ H E I hf st hg
    subst hP hw hK
    obtain ⟨xs, x, hq, hx⟩ := hg
    obtain ⟨its, rv, p, hz⟩ := I.list hq
    obtain ⟨u, hu, ru⟩ := rv.get hx
    obtain ⟨f0, f1, f2, f3, f4, f5⟩ := hf it (by simp)
    refine wpAny_pyNext_list_item st p.isList (x := u) (by simpa using hu) fun h' st' sb => ?_
    have I1 : Inv X pins σ H { s with heap := h' } := I.turned (t' := s.toks) (fun b o hb e => (sb.2 b hb).trans e) f0 f1 f3 f4 f5
    obtain ⟨o, e, c, d⟩ := id st'
    exact ⟨u, rfl, go_of (s := { s with heap := h' }) e c d (by decide) ⟨x, H, I1, ru, ⟨rfl, fun ys hy => by rw [I.list_inj hy hq]; exact hx⟩, st', fun b hb => (hf b hb).1⟩⟩
  done := by
    intro X hP hw hK hc i pins s σ H E I hf st hg
    subst hP hw hK
    obtain ⟨xs, hq, hx⟩ := hg
    obtain ⟨its, rv, p, hz⟩ := I.list hq
    obtain ⟨f0, f1, f2, f3, f4, f5⟩ := hf it (by simp)
    have hl := rv.length
    exact wpAny_pyNext_list_end (I.ok.hd hc) st p.isList (by simp; omega) fun h' eb => ⟨rfl, I.turned (t' := s.toks) (fun b o hb e => eb b o hb e) f0 f1 f3 f4 f5⟩
  self := fun _ _ _ _ _ st h => wpAny_pyIter_listiter st h
theorem turn_range {P : Program} {w : World} {K : PySem.W.Frag} {tg : Expr} (it : Addr) (lo : Int) (n : Nat) : Turn P w K tg (Itr lo n) [it] it (fun i h => IsRangeIter h it (lo + (i : Nat) * 1) ((n : Int) - (i : Nat)) 1) where
  mem := by simp
  obj := fun i h st b hb => by
    have e : b = it := by simpa using hb
    subst e
    exact ⟨_, st, fun v z => by
      have z' : Data.fields _ = Data.cell v := z
      cases z'⟩
  keep := fun i h h' st k => k it (by simp) _ st
  item := by
    intro X hP hw hK hc i pins s σ H E I hf st hg
    subst hP hw hK
    obtain ⟨f0, f1, f2, f3, f4, f5⟩ := hf it (by simp)
    have W := Walks.range (prog := X.prog) (w := X.w) (I.ok.hd hc) it lo 1 n
    refine W.item i s _ _ hg st fun v h' tk hv st' kk => ?_
    obtain ⟨t, rfl⟩ := hv
    have I1 : Inv X pins σ H { s with heap := h', toks := tk } := I.turned (fun b o hb e => kk b o (by simpa using hb) e) f0 f1 f3 f4 f5
    refine ⟨_, rfl, go_of (s := { s with heap := h', toks := tk }) (n := "range_iterator") st' rfl rfl (by decide) ⟨.int (lo + i), H, I1, ⟨t, ?_⟩, ⟨rfl, rfl⟩, st', fun b hb => (hf b hb).1⟩⟩
    rw [Int.mul_one]
  done := by
    intro X hP hw hK hc i pins s σ H E I hf st hg
    subst hP hw hK
    obtain ⟨f0, f1, f2, f3, f4, f5⟩ := hf it (by simp)
    exact wpAny_pyNext_range_end (I.ok.hd hc) st (by have : n ≤ i := hg; omega) fun h' eb => ⟨rfl, I.turned (t' := s.toks) (fun b o hb e => eb b o hb e) f0 f1 f3 f4 f5⟩
  self := fun _ _ _ _ _ st h => wpAny_pyIter_rangeiter st h
end L2
namespace L2
open PySem PySem.Spec PyProof.Rows
section
variable {X : Cx} {tg : Expr}
def iList (K : PySem.W.Frag) (tl : TE) : TI := fun σ H R => tl σ H fun x H1 => ∃ a, x = .ref a ∧ (∃ xs, SqL K H1 a xs) ∧ R (Itl K a) H1
theorem pi_list {l : Expr} {tl : TE} (hl : PE X l tl) : PI X tg l (iList X.K tl) := by
  intro pins s σ H R I h
  refine thn (hl pins s σ H _ I h) fun v s1 ⟨x, H1, I1, r1, q1⟩ => ?_
  obtain ⟨a, e, ⟨xs, hq⟩, q⟩ := q1
  subst e
  cases r1
  obtain ⟨its, rv, p, hz⟩ := I1.list hq
  refine wpAny_pyIter_list p.isList ?_
  refine ⟨s1.heap.objs.size, [s1.heap.objs.size], _, _, H1, rfl, I1.kept (t' := s1.toks) fun b o e => Heap.get?_push_of_some _ e, turn_list a _, ⟨_, Heap.get?_push_size _ rfl, rfl, rfl⟩, fun b hb => ?_, q⟩
  have e : b = s1.heap.objs.size := by simpa using hb
  subst e
  exact I1.fpOk (Nat.le_refl _) (I1.hok.fresh (Nat.le_refl _))
theorem range_it {pins : List (Addr × Obj)} {σ : St} {H : Hp} {s : Shared} {R : It → Hp → Prop} {E : Value → Shared → Prop} {lo hi : Int} {t u v : Tok} {tk : Nat} (I : Inv X pins σ H s) (h1 : -(2 ^ 62) ≤ lo) (h2 : lo < 2 ^ 62) (h3 : -(2 ^ 62) ≤ hi) (h4 : hi < 2 ^ 62)
    (q : R (Itr lo (hi - lo).toNat) H) : wpAny (model X.prog X.w) X.A (pyIter (.ref s.heap.objs.size)) (PIE X pins σ tg R) E { s with heap := s.heap.push { cls := .type "range", data := .fields #[.int lo t, .int hi u, .int 1 v] }, toks := tk } := by
  refine wpAny_pyIter_range (IsRange.new ..) (small_one h1 h2 h3 h4) ?_
  have I1 : Inv X pins σ H { s with heap := s.heap.push { cls := .type "range", data := .fields #[.int lo t, .int hi u, .int 1 v] }, toks := tk } := I.kept fun b o e => Heap.get?_push_of_some _ e
  refine ⟨(s.heap.push { cls := .type "range", data := .fields #[.int lo t, .int hi u, .int 1 v] }).objs.size, [(s.heap.push { cls := .type "range", data := .fields #[.int lo t, .int hi u, .int 1 v] }).objs.size], _, _, H, rfl,
    I1.kept (t' := tk) fun b o e => Heap.get?_push_of_some _ e, turn_range _ lo (hi - lo).toNat, ?_, fun b hb => ?_, q⟩
  · have e1 : lo + ((0 : Nat) : Int) * 1 = lo := by simp
    have e2 : (((hi - lo).toNat : Nat) : Int) - ((0 : Nat) : Int) = Builtin.Range.rangeSize lo hi 1 := by rw [rangeSize_one]; split <;> omega
    show IsRangeIter _ _ (lo + ((0 : Nat) : Int) * 1) ((((hi - lo).toNat : Nat) : Int) - ((0 : Nat) : Int)) 1
    rw [e1, e2]
    exact Heap.get?_push_size _ rfl
  · have e : b = (s.heap.push { cls := .type "range", data := .fields #[.int lo t, .int hi u, .int 1 v] }).objs.size := by simpa using hb
    subst e
    exact I1.fpOk (Nat.le_refl _) (I1.hok.fresh (Nat.le_refl _))
def iRng1 (ta : TA) : TI := fun σ H R => ta σ H fun vs H1 => ∃ j : Int, vs = [.int j] ∧ -(2 ^ 62) ≤ j ∧ j < 2 ^ 62 ∧ R (Itr 0 j.toNat) H1
theorem pi_range1 {a : Expr} {ta : TA} {p pos : Pos} (hg : Gl X "range") (hm : X.mg "range" = none) (ha : PA X [a] ta) (hs : starEach [a] X.env = [(false, eval a X.env)] := by rfl) : PI X tg (.Call (.Name "range" p) [a] [] pos) (iRng1 ta) := by
  intro pins s σ H R I h
  refine Call_ (ld_blt I hg hm boot_range (PyProof.Rows.callWith_type1 (thn (ha pos pins s σ H _ I h) fun us s1 ⟨vs, H1, I1, r1, q1⟩ => ?_) hs rfl))
  obtain ⟨j, e, q1, q2, q⟩ := q1
  subst e
  cases r1 with
  | cons r rr =>
    cases rr
    obtain ⟨t, rfl⟩ := r
    exact call_range_1 (range_it I1 (by omega) (by omega) q1 q2 (by simpa using q))
def tFor (wi : TI) (g : TG) (tb : TS) : TS := fun D σ H => wi σ H fun J H1 => ∃ W : Nat → Nat → St → Hp → Prop, (∃ m, W 0 m σ H1) ∧ ∀ i m σ H, W i m σ H →
  (J.stop i H ∧ D.nx σ H) ∨ (J.go i H ∧ ∃ N : St → Hp → Prop, (∀ σ' H', N σ' H' → ∃ m', m' < m ∧ W (i + 1) m' σ' H') ∧ ∀ x H', J.yld i H x H' → g x σ H' fun σ2 H2 => tb { D with nx := N, ct := N, bk := D.nx } σ2 H2)
def pinsAt (fp : List Addr) (h : Heap) : List (Addr × Obj) := fp.filterMap fun b => (h.get? b).map fun o => (b, o)
theorem mem_pinsAt {fp : List Addr} {h : Heap} {b : Addr} {o : Obj} (hb : b ∈ fp) (e : h.get? b = some o) : (b, o) ∈ pinsAt fp h := List.mem_filterMap.mpr ⟨b, hb, by rw [e]; rfl⟩
theorem of_pinsAt {fp : List Addr} {h : Heap} {p : Addr × Obj} (hp : p ∈ pinsAt fp h) : p.1 ∈ fp ∧ h.get? p.1 = some p.2 := by
  obtain ⟨b, hb, e⟩ := List.mem_filterMap.mp hp
  cases q : h.get? b with
  | none => rw [q] at e; cases e
  | some o =>
    rw [q] at e
    have e' : (b, o) = p := Option.some.inj e
    subst e'
    exact ⟨hb, q⟩
theorem Inv.pinned {pins : List (Addr × Obj)} {σ : St} {H : Hp} {s : Shared} {fp : List Addr} (I : Inv X pins σ H s) (hf : ∀ b ∈ fp, FpOk X pins H b) (ho : ∀ b ∈ fp, ∃ o, s.heap.get? b = some o ∧ ∀ v, o.data ≠ .cell v) : Inv X (pins ++ pinsAt fp s.heap) σ H s :=
  I.pins_of fun p hp => (List.mem_append.mp hp).elim (fun z => I.pin p (List.mem_append_right _ z)) fun z => by
    obtain ⟨hb, e⟩ := of_pinsAt z
    obtain ⟨f0, f1, f2, _⟩ := hf p.1 hb
    obtain ⟨o, e', d⟩ := ho p.1 hb
    rw [e] at e'; cases e'
    exact ⟨e, f0, f1, f2, d⟩
theorem Inv.unpinned {pins pl : List (Addr × Obj)} {σ : St} {H : Hp} {s : Shared} (I : Inv X (pins ++ pl) σ H s) : Inv X pins σ H s := I.pins_of fun p hp => I.pin p (List.mem_append_right _ (List.mem_append_left _ hp))
theorem ps_for {iter : Expr} {body : List Stmt} {wi : TI} {g : TG} {tb : TS} {pos : Pos} (hp : PassesOwn (model X.prog X.w) X.A X.env X.xe) (hc : X.calm = true) (hi : PI X tg iter wi) (hg : PG X tg g) (hb : PSs X body tb)
    (hs : ∀ x, foldedSetIterable iter X.env x = pure x := by intro _; rfl) : PS X (.For tg iter body [] pos) (tFor wi g tb) := by
  intro pins s σ H D I h
  refine wpAny_For (thn (hi pins s σ H _ I h) fun v s1 h1 => thn h1 fun itv s2 h2 => ?_) hs
  obtain ⟨it, fp, tn, J, H2, e, I2, T, st2, f2, W, ⟨m0, w0⟩, turn⟩ := h2
  subst e
  have stat : ∀ {H' : Hp}, (∀ b ∈ fp, H' b = none) → ∀ b ∈ fp, FpOk X pins H' b := fun hn b hb => ⟨hn b hb, (f2 b hb).2⟩
  refine codeAny_forLoop_any (fun n s' => ∃ i σ' H', Inv X pins σ' H' s' ∧ tn i s'.heap ∧ (∀ b ∈ fp, H' b = none) ∧ W i n σ' H') ?_ m0 ⟨0, σ, H2, I2, st2, fun b hb => (f2 b hb).1, w0⟩
  rintro n s3 ⟨i, σ3, H3, I3, st3, fr3, w3⟩
  rcases turn i n σ3 H3 w3 with ⟨stop, qn⟩ | ⟨go, N, hN, step⟩
  · refine wpAny_passesOwn hp (thn (T.done X rfl rfl rfl hc i pins s3 σ3 H3 X.xe I3 (stat fr3) st3 stop) fun r s4 ⟨hr, I4⟩ => ?_)
    subst hr
    exact wpAny_execs_nil ⟨σ3, H3, I4, qn⟩
  · refine wpAny_passesOwn hp (thn (T.item X rfl rfl rfl hc i pins s3 σ3 H3 X.xe I3 (stat fr3) st3 go) fun r s4 ⟨u, hr, h4⟩ => ?_)
    subst hr
    refine wpAny_passesOwn hp (thn h4 fun _ s5 ⟨x, H5, I5, r5, y5, st5, fr5⟩ => ?_)
    have I5' := I5.pinned (stat fr5) (T.obj _ _ st5)
    refine wpAny_passesOwn hp (thn (hg _ s5 σ3 H5 x u _ I5' r5 (step x H5 y5)) fun _ s6 ⟨σ6, H6, I6, q6⟩ => ?_)
    refine wpAny_passesOwn hp (thn (hb _ s6 σ6 H6 _ I6 q6) fun f s7 q7 => ?_)
    have again : ∀ {σ7 : St} {H7 : Hp}, Inv X (pins ++ pinsAt fp s5.heap) σ7 H7 s7 → N σ7 H7 → ∃ m, m < n ∧ ∃ i σ' H', Inv X pins σ' H' s7 ∧ tn i s7.heap ∧ (∀ b ∈ fp, H' b = none) ∧ W i m σ' H' := fun {σ7 H7} I7 n7 => by
      obtain ⟨m', hm, w7⟩ := hN σ7 H7 n7
      refine ⟨m', hm, i + 1, σ7, H7, I7.unpinned, T.keep _ _ _ st5 fun b hb o e => (I7.pin (b, o) (List.mem_append_right _ (List.mem_append_right _ (mem_pinsAt hb e)))).1, fun b hb => ?_, w7⟩
      obtain ⟨o, e, d⟩ := T.obj _ _ st5 b hb
      exact (I7.pin (b, o) (List.mem_append_right _ (List.mem_append_right _ (mem_pinsAt hb e)))).2.1
    cases f with
    | next => obtain ⟨σ7, H7, I7, n7⟩ := q7; exact again I7 n7
    | cont => obtain ⟨σ7, H7, I7, n7⟩ := q7; exact again I7 n7
    | brk => obtain ⟨σ7, H7, I7, q7⟩ := q7; exact ⟨σ7, H7, I7.unpinned, q7⟩
    | ret v => obtain ⟨x7, σ7, H7, I7, r7, q7⟩ := q7; exact ⟨x7, σ7, H7, I7.unpinned, r7, q7⟩
end
theorem for_list {K : PySem.W.Frag} {a : Addr} {xs : List V} {g : TG} {tb : TS} {D : Ends} {σ : St} {H : Hp} (Pv : Nat → St → Hp → Prop) (h0 : Pv 0 σ H) (hl : ∀ i σ H, i ≤ xs.length → Pv i σ H → SqL K H a xs)
    (hs : ∀ i x σ H, xs[i]? = some x → Pv i σ H → g x σ H fun σ2 H2 => tb { D with nx := Pv (i + 1), ct := Pv (i + 1), bk := D.nx } σ2 H2) (hd : ∀ σ H, Pv xs.length σ H → D.nx σ H) :
    ∃ W : Nat → Nat → St → Hp → Prop, (∃ m, W 0 m σ H) ∧ ∀ i m σ H, W i m σ H →
      ((Itl K a).stop i H ∧ D.nx σ H) ∨ ((Itl K a).go i H ∧ ∃ N : St → Hp → Prop, (∀ σ' H', N σ' H' → ∃ m', m' < m ∧ W (i + 1) m' σ' H') ∧ ∀ x H', (Itl K a).yld i H x H' → g x σ H' fun σ2 H2 => tb { D with nx := N, ct := N, bk := D.nx } σ2 H2) := by
  refine ⟨fun i m σ H => m = xs.length - i ∧ i ≤ xs.length ∧ Pv i σ H, ⟨xs.length, by simp, Nat.zero_le _, h0⟩, ?_⟩
  rintro i m σ H ⟨rfl, hi, p⟩
  have q := hl i σ H hi p
  by_cases hlt : i < xs.length
  · refine .inr ⟨⟨xs, xs[i], q, by simp [hlt]⟩, Pv (i + 1), fun σ' H' p' => ⟨xs.length - (i + 1), by omega, rfl, hlt, p'⟩, fun x H' y => ?_⟩
    obtain ⟨e, y⟩ := y
    subst e
    exact hs i x σ _ (y xs q) p
  · have e : i = xs.length := by omega
    subst e
    exact .inl ⟨⟨xs, q, Nat.le_refl _⟩, hd σ H p⟩
theorem for_range {lo : Int} {n : Nat} {g : TG} {tb : TS} {D : Ends} {σ : St} {H : Hp} (Pv : Nat → St → Hp → Prop) (h0 : Pv 0 σ H)
    (hs : ∀ i σ H, i < n → Pv i σ H → g (.int (lo + i)) σ H fun σ2 H2 => tb { D with nx := Pv (i + 1), ct := Pv (i + 1), bk := D.nx } σ2 H2) (hd : ∀ σ H, Pv n σ H → D.nx σ H) :
    ∃ W : Nat → Nat → St → Hp → Prop, (∃ m, W 0 m σ H) ∧ ∀ i m σ H, W i m σ H →
      ((Itr lo n).stop i H ∧ D.nx σ H) ∨ ((Itr lo n).go i H ∧ ∃ N : St → Hp → Prop, (∀ σ' H', N σ' H' → ∃ m', m' < m ∧ W (i + 1) m' σ' H') ∧ ∀ x H', (Itr lo n).yld i H x H' → g x σ H' fun σ2 H2 => tb { D with nx := N, ct := N, bk := D.nx } σ2 H2) := by
  refine ⟨fun i m σ H => m = n - i ∧ i ≤ n ∧ Pv i σ H, ⟨n, by simp, Nat.zero_le _, h0⟩, ?_⟩
  rintro i m σ H ⟨rfl, hi, p⟩
  by_cases hlt : i < n
  · refine .inr ⟨hlt, Pv (i + 1), fun σ' H' p' => ⟨n - (i + 1), by omega, rfl, hlt, p'⟩, fun x H' y => ?_⟩
    obtain ⟨e, y⟩ := y
    subst e y
    exact hs i σ _ hlt p
  · have e : i = n := by omega
    subst e
    exact .inl ⟨Nat.le_refl _, hd σ H p⟩
end L2
namespace L2
open PySem PySem.Spec PyProof.Rows
abbrev R2 := V → V → Hp → VK → Prop
def OpR (X : Cx) (f : Value → Value → Sem Value) (r : R2) : Prop :=
  ∀ (pins : List (Addr × Obj)) (s : Shared) (σ : St) (H : Hp) (x y : V) (v u : Value) (Q : VK), Inv X pins σ H s → RelV x v → RelV y u → r x y H Q →
    wpAny (model X.prog X.w) X.A (f v u) (EP X pins σ Q) X.xe s
def UnR (X : Cx) (f : Value → Sem Value) (r : V → Hp → VK → Prop) : Prop :=
  ∀ (pins : List (Addr × Obj)) (s : Shared) (σ : St) (H : Hp) (x : V) (v : Value) (Q : VK), Inv X pins σ H s → RelV x v → r x H Q →
    wpAny (model X.prog X.w) X.A (f v) (EP X pins σ Q) X.xe s
def CallR (X : Cx) (f : Value) (r : List V → Hp → VK → Prop) : Prop :=
  ∀ (pins : List (Addr × Obj)) (s : Shared) (σ : St) (H : Hp) (xs : List V) (us : List Value) (Q : VK), Inv X pins σ H s → Vals xs us → r xs H Q →
    wpAny (model X.prog X.w) X.A (call f us) (EP X pins σ Q) X.xe s
def tOp (r : R2) (ta tb : TE) : TE := fun σ H Q => ta σ H fun x H1 => tb σ H1 fun y H2 => r x y H2 Q
def tUn (r : V → Hp → VK → Prop) (ta : TE) : TE := fun σ H Q => ta σ H fun x H1 => r x H1 Q
def rI (C : Int → Int → Prop) (g : Int → Int → V) : R2 := fun x y H Q => ∃ i j, x = .int i ∧ y = .int j ∧ C i j ∧ Q (g i j) H
def rI0 (g : Int → Int → V) : R2 := fun x y H Q => ∃ i j, x = .int i ∧ y = .int j ∧ Q (g i j) H
def rU (g : Int → V) : V → Hp → VK → Prop := fun x H Q => ∃ i, x = .int i ∧ Q (g i) H
section
variable {X : Cx} {a b c : Expr} {ta tb tc : TE} {pos : Pos}
theorem binT (ha : PE X a ta) (hb : PE X b tb) {pins : List (Addr × Obj)} {s : Shared} {σ : St} {H : Hp} {R : V → V → Hp → Prop} (I : Inv X pins σ H s)
    (h : ta σ H fun x H1 => tb σ H1 fun y H2 => R x y H2) {Q : Value → Shared → Prop} {f : Value → Value → Sem Value}
    (hf : ∀ v u s2 x y H2, Inv X pins σ H2 s2 → RelV x v → RelV y u → R x y H2 → wpAny (model X.prog X.w) X.A (f v u) Q X.xe s2) :
    wpAny (model X.prog X.w) X.A (eval a X.env) (fun v s₁ => wpAny (model X.prog X.w) X.A (eval b X.env) (fun u s₂ => wpAny (model X.prog X.w) X.A (f v u) Q X.xe s₂) X.xe s₁) X.xe s := by
  refine thn (ha pins s σ H _ I h) fun v s1 ⟨x, H1, I1, r1, q1⟩ => ?_
  refine thn (hb pins s1 σ H1 _ I1 q1) fun u s2 ⟨y, H2, I2, r2, q2⟩ => ?_
  exact hf v u s2 x y H2 I2 r1 r2 q2
theorem pe_op {op : Operator} {r : R2} (ho : OpR X (binaryOp op) r) (ha : PE X a ta) (hb : PE X b tb) : PE X (.BinOp a op b pos) (tOp r ta tb) := by
  intro pins s σ H Q I h
  exact wpAny_BinOp (binT ha hb I h fun v u s2 x y H2 I2 rx ry q => ho pins s2 σ H2 x y v u Q I2 rx ry q)
theorem pe_un {op : UnaryOp} {r : V → Hp → VK → Prop} (ho : UnR X (unaryOp op) r) (ha : PE X a ta) : PE X (.UnaryOp op a pos) (tUn r ta) := by
  intro pins s σ H Q I h
  exact UnaryOp_ (thn (ha pins s σ H _ I h) fun v s1 ⟨x, H1, I1, r1, q1⟩ => ho pins s1 σ H1 x v Q I1 r1 q1)
theorem opI {f : Value → Value → Sem Value} {C : Int → Int → Prop} {g : Int → Int → Int}
    (rule : ∀ (i j : Int) (t u : Tok) (s : Shared) (Q : Value → Shared → Prop) (E : Value → Shared → Prop), C i j → Q (.int (g i j) s.toks) { s with toks := s.toks + 1 } → wpAny (model X.prog X.w) X.A (f (.int i t) (.int j u)) Q E s) :
    OpR X f (rI C fun i j => .int (g i j)) := by
  intro pins s σ H x y v u Q I rx ry h
  obtain ⟨i, j, rfl, rfl, hc, q⟩ := h
  obtain ⟨t, rfl⟩ := rx
  obtain ⟨t', rfl⟩ := ry
  exact rule i j t t' s _ _ hc ⟨.int (g i j), H, I.tok _, ⟨_, rfl⟩, q⟩
theorem opI0 {f : Value → Value → Sem Value} {g : Int → Int → Int}
    (rule : ∀ (i j : Int) (t u : Tok) (s : Shared) (Q : Value → Shared → Prop) (E : Value → Shared → Prop), Q (.int (g i j) s.toks) { s with toks := s.toks + 1 } → wpAny (model X.prog X.w) X.A (f (.int i t) (.int j u)) Q E s) :
    OpR X f (rI0 fun i j => .int (g i j)) := by
  intro pins s σ H x y v u Q I rx ry h
  obtain ⟨i, j, rfl, rfl, q⟩ := h
  obtain ⟨t, rfl⟩ := rx
  obtain ⟨t', rfl⟩ := ry
  exact rule i j t t' s _ _ ⟨.int (g i j), H, I.tok _, ⟨_, rfl⟩, q⟩
theorem opB0 {f : Value → Value → Sem Value} {g : Int → Int → Bool}
    (rule : ∀ (i j : Int) (t u : Tok) (s : Shared) (Q : Value → Shared → Prop) (E : Value → Shared → Prop), Q (.bool (g i j)) s → wpAny (model X.prog X.w) X.A (f (.int i t) (.int j u)) Q E s) :
    OpR X f (rI0 fun i j => .bl (g i j)) := by
  intro pins s σ H x y v u Q I rx ry h
  obtain ⟨i, j, rfl, rfl, q⟩ := h
  obtain ⟨t, rfl⟩ := rx
  obtain ⟨t', rfl⟩ := ry
  exact rule i j t t' s _ _ ⟨.bl (g i j), H, I, rfl, q⟩
def CDiv (i j : Int) : Prop := 0 < j ∧ j < 1073741824
def CMul (i j : Int) : Prop := (-(2 ^ 64) < i ∧ i < 2 ^ 64) ∨ (-(2 ^ 64) < j ∧ j < 2 ^ 64)
theorem CMul.ok {i j : Int} (h : CMul i j) : IntMulOk i j := by
  rcases h with ⟨h1, h2⟩ | ⟨h1, h2⟩
  · exact .of_left (intBits_le_64 h1 h2)
  · exact .of_right (intBits_le_64 h1 h2)
theorem op_add : OpR X (binaryOp .Add) (rI0 fun i j => .int (i + j)) := opI0 fun _ _ _ _ _ _ _ q => add_int q
theorem op_sub : OpR X (binaryOp .Sub) (rI0 fun i j => .int (i - j)) := opI0 fun _ _ _ _ _ _ _ q => sub_int q
theorem op_fdiv : OpR X (binaryOp .FloorDiv) (rI CDiv fun i j => .int (i / j)) := opI fun i j _ _ _ _ _ hc q => by
  have h1 : (0 : Int) < j := hc.1
  have h2 : j < 1073741824 := hc.2
  exact floordiv_int (by omega) (by rw [Int.fdiv_eq_ediv_of_nonneg i (by omega)]; exact q) (.inl (PyProof.noPylong_small (by omega)))
theorem op_mod : OpR X (binaryOp .Mod) (rI (fun _ j => 0 < j) fun i j => .int (i % j)) := opI fun i j _ _ _ _ _ hc q => by
  have h1 : (0 : Int) < j := hc
  exact mod_int' (by omega) (by rw [Int.fmod_eq_emod_of_nonneg i (by omega)]; exact q)
theorem unI {f : Value → Sem Value} {g : Int → Int}
    (rule : ∀ (i : Int) (t : Tok) (s : Shared) (Q : Value → Shared → Prop) (E : Value → Shared → Prop), Q (.int (g i) s.toks) { s with toks := s.toks + 1 } → wpAny (model X.prog X.w) X.A (f (.int i t)) Q E s) :
    UnR X f (rU fun i => .int (g i)) := by
  intro pins s σ H x v Q I rx h
  obtain ⟨i, rfl, q⟩ := h
  obtain ⟨t, rfl⟩ := rx
  exact rule i t s _ _ ⟨.int (g i), H, I.tok _, ⟨_, rfl⟩, q⟩
theorem un_neg : UnR X (unaryOp .USub) (rU fun i => .int (-i)) := unI fun _ _ _ _ _ q => neg_int q
end
def scal : V → V → Bool
  | .non, .non => true | .non, .int _ => true | .int _, .non => true | .non, .bl _ => true | .bl _, .non => true | .non, .str _ => true | .str _, .non => true
  | .int _, .int _ => true | .bl _, .bl _ => true | .str _, .str _ => true | .byt _, .byt _ => true
  | .int _, .str _ => true | .str _, .int _ => true | .bl _, .str _ => true | .str _, .bl _ => true
  | _, _ => false
def rEq : R2 := fun x y H Q => scal x y = true ∧ Q (.bl (decide (x = y))) H
def rNe : R2 := fun x y H Q => scal x y = true ∧ Q (.bl (!decide (x = y))) H
theorem dec_int {i j : Int} : decide (V.int i = V.int j) = (i == j) := by
  rw [Bool.eq_iff_iff]
  simp
theorem dec_bl {i j : Bool} : decide (V.bl i = V.bl j) = (i == j) := by
  rw [Bool.eq_iff_iff]
  simp
theorem dec_str {i j : Str} : decide (V.str i = V.str j) = (i == j) := by
  rw [Bool.eq_iff_iff]
  simp
theorem dec_byt {i j : Array UInt8} : decide (V.byt i = V.byt j) = (i.toList == j.toList) := by
  rw [Bool.eq_iff_iff]
  cases i
  cases j
  simp
section
variable {X : Cx} {a b c : Expr} {ta tb tc : TE} {pos : Pos}
theorem fin_bl {pins : List (Addr × Obj)} {σ : St} {H : Hp} {s : Shared} {Q : VK} {k k' : Bool} (I : Inv X pins σ H s) (q : Q (.bl k) H) (e : k = k') : EP X pins σ Q (.bool k') s := by
  subst e
  exact ⟨.bl k, H, I, rfl, q⟩
theorem op_eq : OpR X (compareOp .Eq) rEq := by
  intro pins s σ H x y v u Q I rx ry h
  obtain ⟨hs, q⟩ := h
  cases x with
  | non =>
    cases rx
    cases y with
    | non => cases ry; exact PySem.EqNone.eq_none_none (fin_bl I q (by simp))
    | bl j => cases ry; exact PySem.EqNone.eq_none_bool (fin_bl I q (by simp))
    | int j => obtain ⟨t', rfl⟩ := ry; exact PySem.EqNone.eq_none_int (fin_bl I q (by simp))
    | str j => obtain ⟨t', rfl⟩ := ry; exact PySem.EqNone.eq_none_str (fin_bl I q (by simp))
    | _ => exact absurd (show false = true from hs) Bool.false_ne_true
  | bl i =>
    cases rx
    cases y with
    | non => cases ry; exact PySem.EqNone.eq_bool_none (fin_bl I q (by simp))
    | bl j => cases ry; exact eq_bool (fin_bl I q dec_bl)
    | str j => obtain ⟨t', rfl⟩ := ry; exact PySem.EqMixed.eq_bool_str (fin_bl I q (by simp))
    | _ => exact absurd (show false = true from hs) Bool.false_ne_true
  | int i =>
    obtain ⟨t, rfl⟩ := rx
    cases y with
    | non => cases ry; exact PySem.EqNone.eq_int_none (fin_bl I q (by simp))
    | int j => obtain ⟨t', rfl⟩ := ry; exact eq_int (fin_bl I q dec_int)
    | str j => obtain ⟨t', rfl⟩ := ry; exact PySem.EqMixed.eq_int_str (fin_bl I q (by simp))
    | _ => exact absurd (show false = true from hs) Bool.false_ne_true
  | str i =>
    obtain ⟨t, rfl⟩ := rx
    cases y with
    | non => cases ry; exact PySem.EqNone.eq_str_none (fin_bl I q (by simp))
    | bl j => cases ry; exact PySem.EqMixed.eq_str_bool (fin_bl I q (by simp))
    | int j => obtain ⟨t', rfl⟩ := ry; exact PySem.EqMixed.eq_str_int (fin_bl I q (by simp))
    | str j => obtain ⟨t', rfl⟩ := ry; exact eq_str (fin_bl I q dec_str)
    | _ => exact absurd (show false = true from hs) Bool.false_ne_true
  | byt i =>
    obtain ⟨t, rfl⟩ := rx
    cases y with
    | byt j => obtain ⟨t', rfl⟩ := ry; exact PySem.W.eq_bytes (fin_bl I q dec_byt)
    | _ => exact absurd (show false = true from hs) Bool.false_ne_true
  | _ => cases y <;> exact absurd (show false = true from hs) Bool.false_ne_true
theorem op_ne : OpR X (compareOp .NotEq) rNe := by
  intro pins s σ H x y v u Q I rx ry h
  obtain ⟨hs, q⟩ := h
  cases x with
  | non =>
    cases rx
    cases y with
    | non => cases ry; exact PySem.EqNone.ne_none_none (fin_bl I q (by simp))
    | bl j => cases ry; exact PySem.EqNone.ne_none_bool (fin_bl I q (by simp))
    | int j => obtain ⟨t', rfl⟩ := ry; exact PySem.EqNone.ne_none_int (fin_bl I q (by simp))
    | str j => obtain ⟨t', rfl⟩ := ry; exact PySem.EqNone.ne_none_str (fin_bl I q (by simp))
    | _ => exact absurd (show false = true from hs) Bool.false_ne_true
  | bl i =>
    cases rx
    cases y with
    | non => cases ry; exact PySem.EqNone.ne_bool_none (fin_bl I q (by simp))
    | bl j => cases ry; exact ne_bool (fin_bl I q (congrArg not dec_bl))
    | str j => obtain ⟨t', rfl⟩ := ry; exact PySem.EqMixed.ne_bool_str (fin_bl I q (by simp))
    | _ => exact absurd (show false = true from hs) Bool.false_ne_true
  | int i =>
    obtain ⟨t, rfl⟩ := rx
    cases y with
    | non => cases ry; exact PySem.EqNone.ne_int_none (fin_bl I q (by simp))
    | int j => obtain ⟨t', rfl⟩ := ry; exact ne_int (fin_bl I q (congrArg not dec_int))
    | str j => obtain ⟨t', rfl⟩ := ry; exact PySem.EqMixed.ne_int_str (fin_bl I q (by simp))
    | _ => exact absurd (show false = true from hs) Bool.false_ne_true
  | str i =>
    obtain ⟨t, rfl⟩ := rx
    cases y with
    | non => cases ry; exact PySem.EqNone.ne_str_none (fin_bl I q (by simp))
    | bl j => cases ry; exact PySem.EqMixed.ne_str_bool (fin_bl I q (by simp))
    | int j => obtain ⟨t', rfl⟩ := ry; exact PySem.EqMixed.ne_str_int (fin_bl I q (by simp))
    | str j => obtain ⟨t', rfl⟩ := ry; exact ne_str (fin_bl I q (congrArg not dec_str))
    | _ => exact absurd (show false = true from hs) Bool.false_ne_true
  | byt i =>
    obtain ⟨t, rfl⟩ := rx
    cases y with
    | byt j => obtain ⟨t', rfl⟩ := ry; exact PySem.W.ne_bytes (fin_bl I q (congrArg not dec_byt))
    | _ => exact absurd (show false = true from hs) Bool.false_ne_true
  | _ => cases y <;> exact absurd (show false = true from hs) Bool.false_ne_true
theorem op_lt : OpR X (compareOp .Lt) (rI0 fun i j => .bl (decide (i < j))) := opB0 fun _ _ _ _ _ _ _ q => lt_int q
theorem op_gt : OpR X (compareOp .Gt) (rI0 fun i j => .bl (decide (j < i))) := opB0 fun _ _ _ _ _ _ _ q => gt_int q
theorem nomark (b : Expr) {op : CmpOp} (h : op ≠ .In := by decide) (h2 : op ≠ .NotIn := by decide) : behindInMarks op b = false := by
  have e1 : (op == CmpOp.In) = false := by cases op <;> first | rfl | exact absurd rfl h
  have e2 : (op == CmpOp.NotIn) = false := by cases op <;> first | rfl | exact absurd rfl h2
  cases b <;> simp [behindInMarks, e1, e2]
theorem pe_cmpR {op : CmpOp} {r : R2} (ho : OpR X (compareOp op) r) (ha : PE X a ta) (hb : PE X b tb) (hm : behindInMarks op b = false) : PE X (.Compare a [op] [b] pos) (tOp r ta tb) := by
  intro pins s σ H Q I h
  exact wpAny_Compare1 (binT ha hb I h fun v u s2 x y H2 I2 rx ry q => ho pins s2 σ H2 x y v u Q I2 rx ry q) hm
def tTest (t : TE) : TT := fun σ H Q => t σ H fun x H' => ∃ k, x = .bl k ∧ Q k H'
theorem pt_cmpR {op : CmpOp} {r : R2} (ho : OpR X (compareOp op) r) (ha : PE X a ta) (hb : PE X b tb) (hm : behindInMarks op b = false) : PT X (.Compare a [op] [b] pos) (tTest (tOp r ta tb)) := by
  intro pins s σ H Q I h
  refine wpAny_isTrue_Compare1 (thn (ha pins s σ H _ I h) fun v s1 ⟨x, H1, I1, r1, q1⟩ => thn (hb pins s1 σ H1 _ I1 q1) fun u s2 ⟨y, H2, I2, r2, q2⟩ =>
    thn (ho pins s2 σ H2 x y v u _ I2 r1 r2 q2) fun c s3 ⟨z, H3, I3, r3, k, e, q3⟩ => ?_) hm
  subst e
  cases r3
  exact wpAny_truthy_bool ⟨H3, I3, q3⟩
theorem line63 : (sizeLine : Nat) < 2 ^ 63 := by rw [sizeLine_eq]; decide
theorem vals1 {x : V} {us : List Value} (r : Vals [x] us) : ∃ u, us = [u] ∧ RelV x u := by
  cases r with
  | cons r1 r2 => cases r2; exact ⟨_, rfl, r1⟩
theorem vals2 {x y : V} {us : List Value} (r : Vals [x, y] us) : ∃ u w', us = [u, w'] ∧ RelV x u ∧ RelV y w' := by
  cases r with
  | cons r1 r2 =>
    cases r2 with
    | cons r3 r4 => cases r4; exact ⟨_, _, rfl, r1, r3⟩
theorem call_abs : CallR X (.builtin "abs") (fun xs H Q => ∃ i, xs = [.int i] ∧ Q (.int (if i < 0 then -i else i)) H) := by
  intro pins s σ H xs us Q I r h
  obtain ⟨i, rfl, q⟩ := h
  obtain ⟨u, rfl, t, rfl⟩ := vals1 r
  exact call_abs_int fun u tk => ⟨.int (if i < 0 then -i else i), H, I.tok _, ⟨_, rfl⟩, q⟩
end
end L2
namespace L2
open PySem PySem.Spec PyProof.Rows
structure ObjM (h : Heap) (x dx C : Addr) (mA : Str → Option Value) : Prop where
  obj : h.get? x = some (PySem.W.instObj C dx)
  ns : h.Ns1 dx mA
  ne : dx ≠ x
theorem lookIn_ns {h : Heap} {dx : Addr} {mA : Str → Option Value} (n : h.Ns1 dx mA) : ∃ od, h.get? dx = some od ∧ ∀ name, PySem.W.lookIn name od = some (mA name) := by
  obtain ⟨o, es, ep, ho, hd, hk, _, hm⟩ := n
  refine ⟨o, ho, fun name => ?_⟩
  have e := hm name
  unfold nsFind findBy at e
  rw [← Array.find?_toList] at e
  unfold PySem.W.lookIn
  rw [hd]
  dsimp only
  split
  · rename_i y q
    rw [q] at e
    exact congrArg some e
  · rename_i q
    rw [q] at e
    have a : es.toList.any (·.refKey) = false := by
      rw [List.any_eq_false]
      intro y hy
      obtain ⟨z, t, hkey⟩ := hk y (Array.mem_toList_iff.mp hy)
      simp [DictEntry.refKey, hkey]
    have a' : ¬ es.toList.any (·.refKey) = true := by rw [a]; exact Bool.false_ne_true
    rw [if_neg a']
    exact congrArg some e
theorem ObjM.look {h : Heap} {x dx C : Addr} {mA : Str → Option Value} (I : ObjM h x dx C mA) : ∃ od, PySem.W.InstAt h x (PySem.W.instObj C dx) C (some od) ∧ ∀ name, PySem.W.lookIn name od = some (mA name) :=
  let ⟨od, ho, hl⟩ := lookIn_ns I.ns
  ⟨od, ⟨I.obj, rfl, rfl, ho⟩, hl⟩
section
variable {prog : Program} {w : World} {A : Around} {E : Value → Shared → Prop} {s : Shared} {K : PySem.W.Frag} {x dx C f : Addr} {mA : Str → Option Value} {name : Str} {v : Value}
end
theorem RelO.some_of {v : V} {o : Option Value} (r : RelO (some v) o) : ∃ u, o = some u ∧ RelV v u := by
  cases o with
  | none => exact (show False from r).elim
  | some u => exact ⟨u, rfl, r⟩
section
variable {P : Program} {w : World} {H H' : Hp} {h h' : Heap} {a C dx : Addr} {fs fs' : List (Str × V)}
theorem ins_get (hok : HOk P w H h) (e : H a = some (.ins C dx fs)) : ∃ mA, ObjM h a dx C mA ∧ (∀ f, RelO (fs.lookup f) (mA f)) ∧ PySem.Within mA (fs.map (·.1)) ∧ fs.length ≤ 1000 ∧ H dx = some (.own a) := by
  obtain ⟨d, z, ne, ob, mA, n, r, q⟩ := (show ObjOk P w H h a (.ins C dx fs) from hok a _ e)
  exact ⟨mA, ⟨ob, n, ne⟩, r, q, z, d⟩
end
structure Cls (K : PySem.W.Frag) (C : Addr) : Prop where
  pg : PySem.W.plainGet K C Str.empty = true
  hd : PySem.W.hasDictIn K C = true
  po : PySem.W.plainOver K C = true
  sa : PySem.W.findIn K (.ref C) "__setattr__" = some (some (.builtin "object.__setattr__"))
theorem Cls.get {K : PySem.W.Frag} {C : Addr} (c : Cls K C) (f : Str) : PySem.W.plainGet K C f = true := c.pg
structure Con (K : PySem.W.Frag) (C : Addr) (f : Str) (v : V) (u : Value) : Prop where
  at_ : PySem.W.findIn K (.ref C) f = some (some u)
  rel : RelV v u
  get : PySem.W.specialIn K u "__get__" = some none
  cp : PySem.W.copiedNames.contains f = false
structure Meth (K : PySem.W.Frag) (C : Addr) (m : Str) (f : Addr) : Prop where
  at_ : PySem.W.findIn K (.ref C) m = some (some (.ref f))
  fn : PySem.W.isFn K (.ref f) = true
  kp : PySem.W.keepIn K (.ref f) = true
section
variable {X : Cx} {pins : List (Addr × Obj)} {σ : St} {H : Hp} {s : Shared} {a C dx : Addr} {fs : List (Str × V)} {f : Str} {v : V} {A : Around} {E : Value → Shared → Prop}
end
section
variable {X : Cx} {o e value : Expr} {f : Str} {pos pos' tpos : Pos} {ta tv : TE}
end
section
variable {X : Cx} {pins : List (Addr × Obj)} {σ : St} {H : Hp} {s : Shared} {A : Around} {E : Value → Shared → Prop} {Q : Value → Shared → Prop} {c : Value} {b : Bool}
inductive TyOf (K : PySem.W.Frag) (H : Hp) : V → Value → Prop where
  | non : TyOf K H .non (.type "NoneType")
  | bl (x : Bool) : TyOf K H (.bl x) (.type "bool")
  | int (i : Int) : TyOf K H (.int i) (.type "int")
  | str (x : Str) : TyOf K H (.str x) (.type "str")
  | flt (x : UInt64) : TyOf K H (.flt x) (.type "float")
  | lst {a : Addr} {xs : List V} (e : H a = some (.lst xs)) : TyOf K H (.ref a) (.type "list")
  | frz {a : Addr} {o : Obj} {xs : List V} (e : H a = some (.frz o (.lst xs))) : TyOf K H (.ref a) (.type "list")
  | tup {a : Addr} {xs : List V} (e : H a = some (.tup xs)) : TyOf K H (.ref a) (.type "tuple")
  | dK {a : Addr} {kvs : List (Key × V)} (e : H a = some (.dK kvs)) : TyOf K H (.ref a) (.type "dict")
  | dT {a : Addr} {kvs : List (List Key × V)} (e : H a = some (.dT kvs)) : TyOf K H (.ref a) (.type "dict")
  | ins {a C dx : Addr} {fs : List (Str × V)} (e : H a = some (.ins C dx fs)) (cl : Cls K C) (ha : PySem.W.findIn K (.ref C) "__class__" = some (some (.builtin "object.__class__")))
      (hn : PySem.W.specialIn K (.builtin "object.__class__") "__get__" = some (some (.builtin "getset_descriptor.__get__"))) (htk : PySem.W.takesIn K (.builtin "object.__class__") = some true)
      (hm : PySem.W.mroIn K C (.type "object") = some true) : TyOf K H (.ref a) (.ref C)
theorem isinst_ok {x : V} {u t : Value} (I : Inv X pins σ H s) (rx : RelV x u) (ty : TyOf X.K H x t) (e : PySem.W.kitOne X.K t c = some b) (h : ∀ tk, Q (.bool b) { s with toks := tk }) :
    wpAny (model X.prog X.w) A (call (.builtin "isinstance") [u, c]) Q E s := by
  cases ty with
  | non => cases (show u = Value.none from rx); exact PySem.W.kia_one PySem.W.kitx_none I.kIn True.intro e (fun z => nomatch z) h
  | bl y => cases (show u = Value.bool y from rx); exact PySem.W.kia_one PySem.W.kitx_bool I.kIn True.intro e (fun z => nomatch z) h
  | int i => obtain ⟨t, q⟩ := (show ∃ t, u = Value.int i t from rx); cases q; exact PySem.W.kia_one PySem.W.kitx_int I.kIn True.intro e (fun z => nomatch z) h
  | str y => obtain ⟨t, q⟩ := (show ∃ t, u = Value.str y t from rx); cases q; exact PySem.W.kia_one PySem.W.kitx_str I.kIn True.intro e (fun z => nomatch z) h
  | flt y => obtain ⟨t, q⟩ := (show ∃ t, u = Value.float y t from rx); cases q; exact PySem.W.kia_one PySem.W.kitx_float I.kIn True.intro e (fun z => nomatch z) h
  | @lst a xs ea =>
    cases (show u = Value.ref a from rx)
    obtain ⟨_, _, n, _, h1⟩ := (show ObjOk X.prog X.w H s.heap a (.lst xs) from I.hok a _ ea)
    exact PySem.W.kia_one PySem.W.kitx_list I.kIn ⟨_, h1, rfl⟩ e (fun z => nomatch z) h
  | @frz a ob xs ea =>
    cases (show u = Value.ref a from rx)
    obtain ⟨_, _, _, n, _, h1⟩ := (show ObjOk X.prog X.w H s.heap a (.frz ob (.lst xs)) from I.hok a _ ea)
    exact PySem.W.kia_one PySem.W.kitx_list I.kIn ⟨_, h1, rfl⟩ e (fun z => nomatch z) h
  | @tup a xs ea =>
    cases (show u = Value.ref a from rx)
    obtain ⟨_, _, _, p⟩ := (show ObjOk X.prog X.w H s.heap a (.tup xs) from I.hok a _ ea)
    obtain ⟨o, h1, h2, _⟩ := p
    exact PySem.W.kia_one PySem.W.kitx_tuple I.kIn ⟨o, h1, h2⟩ e (fun z => nomatch z) h
  | @dK a kvs ea =>
    cases (show u = Value.ref a from rx)
    obtain ⟨_, _, vs, _, p⟩ := (show ObjOk X.prog X.w H s.heap a (.dK kvs) from I.hok a _ ea)
    obtain ⟨o, es, ep, h1, h2, _⟩ := p
    exact PySem.W.kia_one PySem.W.kitx_dict I.kIn ⟨o, h1, h2.1⟩ e (fun z => nomatch z) h
  | @dT a kvs ea =>
    cases (show u = Value.ref a from rx)
    obtain ⟨_, _, xs, _, o, es, ep, h1, h2, _⟩ := (show ObjOk X.prog X.w H s.heap a (.dT kvs) from I.hok a _ ea)
    exact PySem.W.kia_one PySem.W.kitx_dict I.kIn ⟨o, h1, h2.1⟩ e (fun z => nomatch z) h
  | @ins a C dx fs ea cl ha hn htk hm =>
    cases (show u = Value.ref a from rx)
    obtain ⟨mA, O, _⟩ := ins_get I.hok ea
    obtain ⟨od, J, _⟩ := O.look
    exact PySem.W.kia_one (PySem.W.kitx_own (cl.get _) cl.hd ha hn htk hm) I.kIn J e (fun z => nomatch z) h
end
end L2
namespace L2
open PySem PySem.Spec PyProof.Rows
structure Room (k : Nat) (A : Around) : Prop where
  hd : A.handled = none
  dp : A.depth + 3 * k + 5 < recursionLimit
  un : A.units + 16 * k + 200 < cLine
theorem Room.mono {j k : Nat} {A : Around} (r : Room k A) (h : j ≤ k) : Room j A := ⟨r.hd, by have := r.dp; omega, by have := r.un; omega⟩
theorem Room.deeper {k : Nat} {A : Around} (r : Room (k + 1) A) (env : Env) : Room k (A.deeper env) :=
  ⟨r.hd, by have := r.dp; show A.depth + 1 + 3 * k + 5 < _; omega, by have := r.un; show A.units + 3 + 16 * k + 200 < _; omega⟩
theorem Room.depth {k : Nat} {A : Around} (r : Room k A) : A.depth < recursionLimit := by have := r.dp; omega
theorem Room.units {k : Nat} {A : Around} (r : Room k A) : A.units + 64 < cLine := by have := r.un; omega
def tNil : TA := fun _ H Q => Q [] H
def tCons (ta : TE) (tr : TA) : TA := fun σ H Q => ta σ H fun x H1 => tr σ H1 fun xs H2 => Q (x :: xs) H2
section
variable {X : Cx} {e : Expr} {es : List Expr} {te : TE} {t : TA} {pos : Pos}
theorem pa_nil : PA X [] tNil := fun _ _ _ _ H Q I h => Calls.spliced_nil ⟨[], H, I, .nil, h⟩
theorem pa_cons (ha : PE X e te) (hr : PA X es t) (hs : starEach (e :: es) X.env = (false, eval e X.env) :: starEach es X.env := by rfl) : PA X (e :: es) (tCons te t) := by
  intro pos pins s σ H Q I h
  rw [hs]
  show wpAny _ _ (spliced ((false, eval e X.env) :: backTo pos (starEach es X.env))) _ _ s
  refine Calls.spliced_cons (thn (ha pins s σ H _ I h) fun u s1 ⟨x, H1, I1, r1, q1⟩ => ?_)
  exact thn (hr pos pins s1 σ H1 _ I1 q1) fun us s2 ⟨xs, H2, I2, r2, q2⟩ => ⟨x :: xs, H2, I2, .cons r1 r2, q2⟩
def tTup (t : TA) : TE := fun σ H Q => t σ H fun xs H1 => xs.length ≤ sizeLine ∧ ∀ p, H1 p = none → Q (.ref p) (upd H1 p (.tup xs))
def tLst (t : TA) : TE := fun σ H Q => t σ H fun xs H1 => xs.length ≤ sizeLine ∧ ∀ p, H1 p = none → Q (.ref p) (upd H1 p (.lst xs))
theorem pe_tup {x1} (h : PA X es t) : PE X (.Tuple es x1 pos) (tTup t) := by
  intro pins s σ H Q I hq
  refine wpAny_Tuple_spliced (thn (h pos pins s σ H _ I hq) fun us s1 ⟨xs, H1, I1, r, z, q⟩ => ⟨by rw [← r.length]; exact z, ?_⟩)
  have hf : H1 s1.heap.objs.size = none := I1.hok.fresh (Nat.le_refl _)
  refine ⟨.ref s1.heap.objs.size, upd H1 s1.heap.objs.size (.tup xs), I1.laid (t' := s1.toks) (fun b u e => Heap.get?_push_of_some _ e) (Nat.le_refl _) ?_, rfl, q _ hf⟩
  exact ⟨z, us, r, ⟨_, Heap.get?_push_size _ rfl, rfl, _, rfl⟩⟩
theorem pe_lst (h : PA X es t) : PE X (.List es pos) (tLst t) := by
  intro pins s σ H Q I hq
  refine wpAny_List_spliced (thn (h pos pins s σ H _ I hq) fun us s1 ⟨xs, H1, I1, r, z, q⟩ => ⟨by rw [← r.length]; exact z, ?_⟩)
  have hf : H1 s1.heap.objs.size = none := I1.hok.fresh (Nat.le_refl _)
  refine ⟨.ref s1.heap.objs.size, upd H1 s1.heap.objs.size (.lst xs), I1.laid (t' := s1.toks) (fun b u e => Heap.get?_push_of_some _ e) (Nat.le_refl _) ?_, rfl, q _ hf⟩
  exact ⟨z, us, 0, r, Heap.get?_push_size _ rfl⟩
end
abbrev Sp := List V → Hp → VK → XK → Prop
abbrev CXT := List Env → Hp → Shared → XK → Value → Shared → Prop
structure Env0 (P : Program) (w : World) (K : PySem.W.Frag) (mg : Str → Option Value) (base : Heap) (A : Around) (outer : List Env) (s : Shared) (H : Hp) : Prop where
  frames : A.frames = some outer
  mod : Mod K mg base
  bs : ∀ b o, base.get? b = some o → s.heap.get? b = some o ∧ H b = none
  bsz : base.objs.size ≤ s.heap.objs.size
  funs : s.heap.FunFrames base outer
  frf : ∀ b ∈ frs outer, H b = none
  hok : HOk P w H s.heap
  bare : AllBare s.gens
def CE (outer : List Env) (P : Program) (w : World) (H : Hp) (s : Shared) (Q : VK) (u : Value) (s' : Shared) : Prop :=
  ∃ v H', s'.os = s.os ∧ AllBare s'.gens ∧ Un (frs outer) [] H H' s.heap s'.heap ∧ HOk P w H' s'.heap ∧ RelV v u ∧ Q v H'
def CR (CX : CXT) (outer : List Env) (P : Program) (w : World) (H : Hp) (s : Shared) (Q : VK) (E : XK) (r : Result) (s' : Shared) : Prop :=
  match r with
  | .ok (.ret u) => CE outer P w H s Q u s'
  | .ok _ => False
  | .error e => CX outer H s E e s'
structure FnOk (P : Program) (w : World) (K : PySem.W.Frag) (mg : Str → Option Value) (base : Heap) (CX : CXT) (k : Nat) (f : Addr) (fd : FuncData) (ps : List Str) (sp : Sp) : Prop where
  len : ∀ vs H Q E, sp vs H Q E → vs.length = ps.length
  run : ∀ (A : Around) (outer : List Env) (s : Shared) (H : Hp) (args : Args) (us : List Value) (vs : List V) (Q : VK) (E : XK), Room k A → Env0 P w K mg base A outer s H → BindsTo s fd args (ps.zip us) → Vals vs us → sp vs H Q E →
    codeAny (model P w) A (.call (.ref f) args) (CR CX outer P w H s Q E) s
theorem FnOk.mono {P : Program} {w : World} {K : PySem.W.Frag} {mg : Str → Option Value} {base : Heap} {CX : CXT} {j k : Nat} {f : Addr} {fd : FuncData} {ps : List Str} {sp : Sp} (F : FnOk P w K mg base CX j f fd ps sp) (h : j ≤ k) :
    FnOk P w K mg base CX k f fd ps sp := ⟨F.len, fun A outer s H args us vs Q E hr => F.run A outer s H args us vs Q E (hr.mono h)⟩
section
variable {X : Cx} {pins : List (Addr × Obj)} {σ : St} {H : Hp} {s s' : Shared}
theorem Inv.env0 (I : Inv X pins σ H s) : Env0 X.prog X.w X.K X.mg X.base X.A X.stack s H :=
  ⟨I.ok.frames, I.ok.mod, I.bs, Nat.le_trans I.ok.bsz I.sz, I.stack, I.stkFree, I.hok, I.bare⟩
theorem Inv.after {Q : VK} {u : Value} (I : Inv X pins σ H s) (h : CE X.stack X.prog X.w H s Q u s') : EP X pins σ Q u s' := by
  obtain ⟨v, H', os, bare, un, hok, r, q⟩ := h
  obtain ⟨hh, g, d, t, os'⟩ := s'
  obtain rfl : os' = s.os := os
  exact ⟨v, H', I.call (h' := hh) (g' := g) (d' := d) (t' := t) (ch := []) un hok bare (fun b z => absurd z (by simp)), r, q⟩
end
def tCall (sp : Sp) (dvs : List V) (E : XK) (t : TA) : TE := fun σ H Q => t σ H fun vs H1 => sp (vs ++ dvs) H1 Q E
def Binds (K : PySem.W.Frag) (fd : FuncData) (ps : List Str) (ds : List Value) : Prop :=
  ∀ (s : Shared) (us : List Value), K.In s.heap → (us ++ ds).length = ps.length → BindsTo s fd ⟨us, []⟩ (ps.zip (us ++ ds))
theorem Binds.all {K : PySem.W.Frag} {fd : FuncData} {ps : List Str} (h : ∀ us : List Value, us.length = ps.length → bindArgs fd ⟨us, []⟩ = pure (ps.zip us)) : Binds K fd ps [] := fun s us _ hl => by
  rw [List.append_nil] at hl ⊢
  exact .of_eq (h us hl)
def Passes (CX : CXT) (X : Cx) (E : XK) : Prop := ∀ (pins : List (Addr × Obj)) (σ : St) (H : Hp) (s : Shared) (e : Value) (s' : Shared), Inv X pins σ H s → CX X.stack H s E e s' → X.xe e s'
section
variable {X : Cx} {CX : CXT} {k : Nat} {f C : Addr} {fd : FuncData} {ps : List Str} {sp : Sp} {dvs : List V} {ds : List Value} {E : XK} {x m : Str} {p pos apos : Pos} {e o : Expr} {es : List Expr} {ta : TE} {t : TA}
theorem run_fn {pins : List (Addr × Obj)} {σ : St} {H : Hp} {s : Shared} {Q : VK} {us : List Value} {vs : List V} (F : FnOk X.prog X.w X.K X.mg X.base CX k f fd ps sp) (hr : Room k X.A) (hb : Binds X.K fd ps ds) (hd : Vals dvs ds) (hx : Passes CX X E)
    (I : Inv X pins σ H s) (r : Vals vs us) (h : sp (vs ++ dvs) H Q E) : wpAny (model X.prog X.w) X.A (call (.ref f) us) (EP X pins σ Q) X.xe s := by
  have r2 : Vals (vs ++ dvs) (us ++ ds) := r.append hd
  have hl : (us ++ ds).length = ps.length := by rw [← r2.length]; exact F.len _ _ _ _ h
  refine wpAny_call (codeAny_mono (F.run X.A X.stack s H ⟨us, []⟩ (us ++ ds) (vs ++ dvs) Q E hr I.env0 (hb s us I.kIn hl) r2 h) fun r s' hq => ?_)
  cases r with
  | error e => exact hx pins σ H s e s' I hq
  | ok fl =>
    cases fl with
    | ret u => exact I.after hq
    | next => exact False.elim hq
    | brk => exact False.elim hq
    | cont => exact False.elim hq
theorem pe_call (F : FnOk X.prog X.w X.K X.mg X.base CX k f fd ps sp) (hr : Room k X.A) (hg : Gl X x) (hm : X.mg x = some (.ref f)) (hk : PySem.W.keepIn X.K (.ref f) = true) (hb : Binds X.K fd ps ds) (hd : Vals dvs ds) (hx : Passes CX X E)
    (ha : PA X (e :: es) t) (hdb : (x == ("__debug__" : Str)) = false := by decide) (he : starEach (e :: es) X.env = (false, eval e X.env) :: starEach es X.env := by rfl) (hpl : (backTo pos (starEach es X.env)).any (·.1) = false := by rfl) :
    PE X (.Call (.Name x p) (e :: es) [] pos) (tCall sp dvs E t) := by
  intro pins s σ H Q I h
  refine wpAny_Call_Name_kw (ld_glob I hg hm ?_ hdb)
  refine PySem.W.callWith_K (h₀ := X.base) I.ok.mod.kin hk (thn (ha pos pins s σ H _ I h) fun us s1 ⟨vs, H1, I1, r, q⟩ => ⟨I1.kIn, ?_⟩) he hpl
  exact run_fn F hr hb hd hx I1 r q
structure Mk (K : PySem.W.Frag) (C f : Addr) : Prop where
  makes : PySem.W.makesIn K C = true
  init : PySem.W.findIn K (.ref C) "__init__" = some (some (.ref f))
  fn : PySem.W.isFn K (.ref f) = true
  kp : PySem.W.keepIn K (.ref C) = true
end
section
variable {X : Cx} {CX : CXT} {k : Nat} {f C : Addr} {fd : FuncData} {ps ks : List Str} {sp : Sp} {E : XK} {x m : Str} {p pos apos kpos : Pos} {e o : Expr} {es : List Expr} {kws : List Keyword} {te ta : TE} {t tk : TA} {nm : Option Str}
structure KBinds (K : PySem.W.Frag) (fd : FuncData) (ps ks : List Str) (g : List Value → List Value → List Value) (gV : List V → List V → List V) : Prop where
  to : ∀ (s : Shared) (us ws : List Value), K.In s.heap → (g us ws).length = ps.length → BindsTo s fd ⟨us, ks.zip ws⟩ (ps.zip (g us ws))
  rel : ∀ {vs : List V} {us : List Value} {zs : List V} {ws : List Value}, Vals vs us → Vals zs ws → Vals (gV vs zs) (g us ws)
variable {g : List Value → List Value → List Value} {gV : List V → List V → List V}
end
structure FnScope (N P : List Str) (sc : Scope) : Prop where
  kind : sc.kind = .function
  co : sc.isCoroutine = false
  gen : sc.isGenerator = false
  nd : N.Nodup
  pre : N.take P.length = P
  par : ∀ x ∈ P, sc.names.lookup x = some .local ∨ sc.names.lookup x = some .cell
  nofree : ∀ y ∈ sc.names, y.2 ≠ .free
theorem bindL_out {kindOf : Str → Option NameKind} {x : Str} : ∀ {binds : List (Str × Value)} {m : Str → Option Value}, (∀ v, (x, v) ∉ binds) → bindL kindOf binds m x = m x
  | [], _, _ => rfl
  | (n, v) :: r, m, h => by
    unfold bindL
    rw [bindL_out fun w hw => h w (List.mem_cons_of_mem _ hw)]
    split
    · have : x ≠ n := by rintro rfl; exact h v List.mem_cons_self
      simp [this]
    · rfl
theorem bindC_out {kindOf : Str → Option NameKind} {x : Str} : ∀ {binds : List (Str × Value)} {m : Str → Option Value}, (∀ v, (x, v) ∉ binds) → bindC kindOf binds m x = m x
  | [], _, _ => rfl
  | (n, v) :: r, m, h => by
    unfold bindC
    rw [bindC_out fun w hw => h w (List.mem_cons_of_mem _ hw)]
    split
    · rfl
    · have : x ≠ n := by rintro rfl; exact h v List.mem_cons_self
      simp [this]
theorem bindL_get {kindOf : Str → Option NameKind} {x : Str} {v : Value} : ∀ {P : List Str} {vs : List Value} {i : Nat} {m : Str → Option Value}, P.Nodup → P[i]? = some x → vs[i]? = some v → kindOf x = some .local →
    bindL kindOf (P.zip vs) m x = some v
  | [], _, _, _, _, h, _, _ => by simp at h
  | _ :: _, [], _, _, _, _, h, _ => by simp at h
  | p :: P, w :: vs, 0, m, nd, h1, h2, hk => by
    simp at h1 h2; subst h1; subst h2
    show bindL kindOf ((p, w) :: P.zip vs) m p = _
    unfold bindL
    rw [bindL_out fun v hv => (List.nodup_cons.mp nd).1 (List.of_mem_zip hv).1, if_pos hk]
    simp
  | p :: P, w :: vs, i + 1, m, nd, h1, h2, hk => by
    show bindL kindOf ((p, w) :: P.zip vs) m x = _
    unfold bindL
    exact bindL_get (i := i) (List.nodup_cons.mp nd).2 (by simpa using h1) (by simpa using h2) hk
theorem bindC_get {kindOf : Str → Option NameKind} {x : Str} {v : Value} : ∀ {P : List Str} {vs : List Value} {i : Nat} {m : Str → Option Value}, P.Nodup → P[i]? = some x → vs[i]? = some v → kindOf x ≠ some .local →
    bindC kindOf (P.zip vs) m x = some v
  | [], _, _, _, _, h, _, _ => by simp at h
  | _ :: _, [], _, _, _, _, h, _ => by simp at h
  | p :: P, w :: vs, 0, m, nd, h1, h2, hk => by
    simp at h1 h2; subst h1; subst h2
    show bindC kindOf ((p, w) :: P.zip vs) m p = _
    unfold bindC
    rw [bindC_out fun v hv => (List.nodup_cons.mp nd).1 (List.of_mem_zip hv).1, if_neg hk]
    simp
  | p :: P, w :: vs, i + 1, m, nd, h1, h2, hk => by
    show bindC kindOf ((p, w) :: P.zip vs) m x = _
    unfold bindC
    exact bindC_get (i := i) (List.nodup_cons.mp nd).2 (by simpa using h1) (by simpa using h2) hk
def start (N : List Str) (vs : List V) : St := vs.map some ++ List.replicate (N.length - vs.length) none
def cxOf (CX : CXT) (P : Program) (w : World) (K : PySem.W.Frag) (mg : Str → Option Value) (base : Heap) (N : List Str) (qual : Str) (scope : Scope) (f : Addr) (cd : Value) (A : Around) (outer : List Env) (s : Shared) (H : Hp) (E : XK) : Cx where
  prog := P
  w := w
  K := K
  mg := mg
  base := base
  A := A.deeper (envOfC qual scope s.heap.objs.size f cd)
  N := N
  s₀ := s
  H₀ := H
  env := envOfC qual scope s.heap.objs.size f cd
  outer := outer
  stack := envOfC qual scope s.heap.objs.size f cd :: outer
  ex := []
  calm := true
  fn := fun _ => true
  pn := []
  xe := fun e s' => wpAny (model P w) (A.deeper (envOfC qual scope s.heap.objs.size f cd)) (leaving (envOfC qual scope s.heap.objs.size f cd) e) (fun _ s'' => CX outer H s E e s'') (fun e' s'' => CX outer H s E e' s'') s'
theorem cell_has {sc : Scope} {n : Nat} {x : Str} (h : sc.names.lookup x = some .cell) : ∃ c, (cellsFrom n sc.names []).lookup x = some c := by
  have q := PySem.W.cellsFrom_some sc.names n [] (.inl h)
  exact Option.isSome_iff_exists.mp q
theorem inv_start {CX : CXT} {P : Program} {w : World} {K : PySem.W.Frag} {mg : Str → Option Value} {base : Heap} {N ps : List Str} {qual : Str} {scope : Scope} {f : Addr} {cd : Value} {A : Around} {outer : List Env} {s s1 : Shared} {H : Hp} {E : XK} {us : List Value} {vs : List V}
    (S : FnScope N ps scope) (hd : A.handled = none) (e0 : Env0 P w K mg base A outer s H) (hl : vs.length = ps.length) (r : Vals vs us)
    (x : InCallC s s.heap.objs.size (bindL (envOfC qual scope s.heap.objs.size f cd).kindOf (ps.zip us) fun _ => none) (cellsFrom (s.heap.objs.size + 1) scope.names []) (bindC (envOfC qual scope s.heap.objs.size f cd).kindOf (ps.zip us) fun _ => none) s1) :
    Inv (cxOf CX P w K mg base N qual scope f cd A outer s H E) [] (start N vs) H s1 := by
  have hpl : ps.length ≤ N.length := by have := congrArg List.length S.pre; rw [List.length_take] at this; omega
  obtain ⟨h1, tk, rfl, hk⟩ := x.done
  have noA : ∀ b : Addr, b ∉ (cxOf CX P w K mg base N qual scope f cd A outer s H E).ex := fun b z => absurd (show b ∈ ([] : List Addr) from z) (by simp)
  refine ⟨⟨e0.mod, S.kind, rfl, rfl, Nat.le_refl _, fun y z c h1 h2 => ?_, fun y hy => ?_, fun y c _ h => ?_, fun _ => hd, Around.frames_deeper e0.frames, .inr ⟨rfl, rfl⟩, fun b z => absurd z (noA b), e0.bs, e0.bsz, fun b _ _ => noA b, fun b z => absurd z (noA b), e0.funs, e0.frf⟩,
    rfl, e0.bare, Un.kept hk, ⟨_, x.toInCall.ns, fun i y v h1 h2 h3 => ?_⟩, fun y c h => ⟨_, x.cell y c h⟩, e0.hok.fresh (Nat.le_refl _), fun y c h => ?_, fun p hp => absurd (show p ∈ ([] : List (Addr × Obj)) from hp) (by simp), e0.hok.kept hk, ?_⟩
  · exact name_of_addr x.apart (PySem.mem_of_lookup h1) (PySem.mem_of_lookup h2)
  · have hy : scope.names.lookup y = some .cell ∨ scope.names.lookup y = some .free := hy
    rcases hy with hy | hy
    · exact cell_has hy
    · exact absurd rfl (S.nofree _ (PySem.mem_of_lookup hy))
  · exact Nat.le_of_lt (x.above y c (PySem.mem_of_lookup h))
  · have hi : i < vs.length := by
      unfold start at h2
      by_cases hi : i < vs.length
      · exact hi
      · rw [List.getElem?_append_right (by simpa using hi)] at h2
        rw [List.getElem?_replicate] at h2
        split at h2 <;> cases h2
    have ha : vs[i]? = some v := by
      unfold start at h2
      rw [List.getElem?_append_left (by simpa using hi), List.getElem?_map] at h2
      cases e : vs[i]? with
      | none => rw [e] at h2; cases h2
      | some a => rw [e] at h2; cases h2; rfl
    obtain ⟨u, hu, rv⟩ := r.get ha
    have hp : ps[i]? = some y := by
      rw [← S.pre, List.getElem?_take_of_lt (by omega)]; exact h1
    have ndP : ps.Nodup := by rw [← S.pre]; exact S.nd.sublist (List.take_sublist _ _)
    refine ⟨u, rv, ?_⟩
    rcases S.par y (List.mem_of_getElem? hp) with k | k
    · exact .inl ⟨k, bindL_get ndP hp hu k⟩
    · obtain ⟨c, e⟩ := cell_has (n := s.heap.objs.size + 1) k
      refine .inr ⟨.inl k, c, e, ?_⟩
      have q := x.cell y c e
      rw [bindC_get ndP hp hu (by show scope.names.lookup y ≠ _; rw [k]; decide)] at q
      exact q
  · exact e0.hok.fresh (Nat.le_of_lt (x.above y c (PySem.mem_of_lookup h)))
  · unfold start
    show _ = N.length
    rw [List.length_append, List.length_map, List.length_replicate]
    omega
theorem fn_of {CX : CXT} {P : Program} {w : World} {K : PySem.W.Frag} {mg : Str → Option Value} {base : Heap} {k : Nat} {f : Addr} {name qual : Str} {params : Arguments} {body : List Stmt} {scope : Scope} {dV kV doc pm cdv ct oc : Value} {an od : Option Addr}
    {osl : Array (Option Value)} {N ps : List Str} {sp : Sp} (lk : K.lookup f = some ⟨oc, od, .func (PySem.W.fnOf name qual params body scope dV kV doc pm an cdv ct), osl⟩) (hcd : PySem.W.codeIn K cdv qual = true) (S : FnScope N ps scope)
    (len : ∀ vs H Q E, sp vs H Q E → vs.length = ps.length)
    (hbody : ∀ (A : Around) (outer : List Env) (s : Shared) (H : Hp) (vs : List V) (Q : VK) (E : XK), Room k (A.deeper (envOfC qual scope s.heap.objs.size f cdv)) → sp vs H Q E →
      ∃ t, PSs (cxOf CX P w K mg base N qual scope f cdv A outer s H E) body t ∧ t { nx := fun _ H' => Q .non H', rt := Q } (start N vs) H) :
    FnOk P w K mg base CX (k + 1) f (PySem.W.fnOf name qual params body scope dV kV doc pm an cdv ct) ps sp := by
  refine ⟨len, fun A outer s H args us vs Q E hr e0 hb r hsp => ?_⟩
  have hl := len _ _ _ _ hsp
  have KX : K.In s.heap := e0.mod.kin.keeps fun b o e => (e0.bs b o e).1
  have lim : s.heap.NoLimit := e0.mod.nolimit.keeps fun b o e => (e0.bs b o e).1
  have hkind : ∀ y ∈ ps.zip us, scope.names.lookup y.1 = some .local ∨ (scope.names.lookup y.1 = some .cell ∧ ((cellsFrom (s.heap.objs.size + 1) scope.names []).lookup y.1).isSome = true) := fun ⟨n, v⟩ hy => by
    rcases S.par n (List.of_mem_zip hy).1 with q | q
    · exact .inl q
    · exact .inr ⟨q, PySem.W.cellsFrom_some _ _ _ (.inl q)⟩
  refine codeAny_call_function hr.depth (KX _ _ lk) rfl S.co S.gen rfl (PySem.W.codeRec_of KX hcd) (hb _ _ _ _ ?_)
  refine wpAny_newFunctionEnv_cells S.kind hkind fun env he s1 x => ?_
  subst he
  refine ⟨lim.keeps x.toInCall.keep, codeAny_func ?_⟩
  obtain ⟨t, ht, hq⟩ := hbody A outer s H vs Q E (hr.deeper _) hsp
  have I : Inv (cxOf CX P w K mg base N qual scope f cdv A outer s H E) [] (start N vs) H s1 := inv_start S hr.hd e0 hl r x
  refine wpAny_mono (ht [] s1 (start N vs) H _ I hq) (fun fl s' hs => ?_) fun e s' hs => hs
  have fin : ∀ {σ' : St} {H' : Hp} {v : V} {u : Value}, Inv (cxOf CX P w K mg base N qual scope f cdv A outer s H E) [] σ' H' s' → RelV v u → Q v H' → CE outer P w H s Q u s' :=
    fun {σ' H' v u} J rv q => ⟨v, H', J.os, J.bare, J.base, J.hok, rv, q⟩
  cases fl with
  | ret u =>
    obtain ⟨v, σ', H', J, rv, q⟩ := hs
    exact fin J rv q
  | next =>
    obtain ⟨σ', H', J, q⟩ := hs
    exact fin (v := V.non) (u := Value.none) J rfl q
  | brk =>
    obtain ⟨_, _, _, q⟩ := hs
    exact False.elim q
  | cont =>
    obtain ⟨_, _, _, q⟩ := hs
    exact False.elim q
end L2
namespace L2
open PySem PySem.Spec PyProof.Rows
section
variable {X : Cx} {x : Str} {p pos : Pos} {e : Expr} {es : List Expr} {t : TA} {id T : String} {r : List V → Hp → VK → Prop}
def tCB (r : List V → Hp → VK → Prop) (t : TA) : TE := fun σ H Q => t σ H fun vs H1 => r vs H1 Q
theorem pe_callB (hc : CallR X (.builtin id) r) (hg : Gl X x) (hm : X.mg x = none) (hv : bootBuiltins x = some (.builtin id)) (ha : PA X (e :: es) t) (hn : x ≠ "__name__" := by decide) (hdb : (x == ("__debug__" : Str)) = false := by decide)
    (he : starEach (e :: es) X.env = (false, eval e X.env) :: starEach es X.env := by rfl) (hpl : (backTo pos (starEach es X.env)).any (·.1) = false := by rfl) : PE X (.Call (.Name x p) (e :: es) [] pos) (tCB r t) := by
  intro pins s σ H Q I h
  refine wpAny_Call_Name_kw (ld_blt I hg hm hv ?_ hn hdb)
  exact PyProof.Rows.callWith_builtin1 (thn (ha pos pins s σ H _ I h) fun us s1 ⟨vs, H1, I1, r1, q1⟩ => hc pins s1 σ H1 vs us Q I1 r1 q1) he hpl
theorem pe_callTy (hc : CallR X (.type T) r) (hg : Gl X x) (hm : X.mg x = none) (hv : bootBuiltins x = some (.type T)) (ha : PA X (e :: es) t) (hn : x ≠ "__name__" := by decide) (hdb : (x == ("__debug__" : Str)) = false := by decide)
    (he : starEach (e :: es) X.env = (false, eval e X.env) :: starEach es X.env := by rfl) (hpl : (backTo pos (starEach es X.env)).any (·.1) = false := by rfl) : PE X (.Call (.Name x p) (e :: es) [] pos) (tCB r t) := by
  intro pins s σ H Q I h
  refine wpAny_Call_Name_kw (ld_blt I hg hm hv ?_ hn hdb)
  exact PyProof.Rows.callWith_type1 (thn (ha pos pins s σ H _ I h) fun us s1 ⟨vs, H1, I1, r1, q1⟩ => hc pins s1 σ H1 vs us Q I1 r1 q1) he hpl
end
end L2
namespace L2
open PySem PySem.Spec PyProof.Rows
section
variable {κ : Type} [DecidableEq κ]
def valV (kvs : List (κ × V)) (k : κ) : Option V := (kvs.find? fun kv => decide (kv.1 = k)).map (·.2)
def putK (kvs : List (κ × V)) (k : κ) (v : V) : List (κ × V) :=
  if (kvs.any fun kv => decide (kv.1 = k)) = true then kvs.map (fun kv => if kv.1 = k then (kv.1, v) else kv) else kvs ++ [(k, v)]
theorem valV_pos {p : κ × V} {r : List (κ × V)} {k : κ} (e : p.1 = k) : valV (p :: r) k = some p.2 := by simp [valV, List.find?_cons, e]
theorem valV_neg {p : κ × V} {r : List (κ × V)} {k : κ} (e : ¬ p.1 = k) : valV (p :: r) k = valV r k := by simp [valV, List.find?_cons, e]
theorem valV_any (k : κ) : ∀ kvs : List (κ × V), (kvs.any fun kv => decide (kv.1 = k)) = (valV kvs k).isSome
  | [] => rfl
  | p :: r => by
    rw [List.any_cons]
    by_cases e : p.1 = k
    · simp only [valV_pos e, decide_eq_true e, Bool.true_or, Option.isSome_some]
    · rw [valV_neg e, decide_eq_false e, Bool.false_or]; exact valV_any k r
theorem length_putK (kvs : List (κ × V)) (k : κ) (v : V) : (putK kvs k v).length ≤ kvs.length + 1 := by
  unfold putK
  split
  · rw [List.length_map]; omega
  · rw [List.length_append, List.length_cons, List.length_nil]; omega
theorem RelO.isSome_eq {o : Option V} {u : Option Value} (r : RelO o u) : o.isSome = u.isSome := by
  cases o with
  | none => cases u with
    | none => rfl
    | some _ => exact (show False from r).elim
  | some _ => cases u with
    | none => exact (show False from r).elim
    | some _ => rfl
theorem RelO.getD {o : Option V} {u : Option Value} {d : V} {d' : Value} (r : RelO o u) (rd : RelV d d') : RelV (o.getD d) (u.getD d') := by
  cases o with
  | none => cases u with
    | none => exact rd
    | some _ => exact (show False from r).elim
  | some _ => cases u with
    | none => exact (show False from r).elim
    | some _ => exact r
theorem KV.val {kvs : List (κ × V)} {vs : List (κ × Value)} (r : KV kvs vs) (k : κ) : RelO (valV kvs k) (valueAt vs k) := by
  unfold KV at r
  induction r with
  | nil => exact True.intro
  | @cons p q ps qs h t ih =>
    obtain ⟨h1, h2⟩ := h
    by_cases e : p.1 = k
    · have e' : q.1 = k := h1.symm.trans e
      have b : valueAt (q :: qs) k = some q.2 := by simp [valueAt, List.find?_cons, e']
      rw [valV_pos e, b]; exact h2
    · have e' : ¬ q.1 = k := fun z => e (h1.trans z)
      have b : valueAt (q :: qs) k = valueAt qs k := by simp [valueAt, List.find?_cons, e']
      rw [valV_neg e, b]; exact ih
theorem KV.any {kvs : List (κ × V)} {vs : List (κ × Value)} (r : KV kvs vs) (k : κ) : (kvs.any fun kv => decide (kv.1 = k)) = vs.any fun kv => decide (kv.1 = k) := by
  unfold KV at r
  induction r with
  | nil => rfl
  | cons h t ih => rw [List.any_cons, List.any_cons, ih, h.1]
theorem KV.repl {kvs : List (κ × V)} {vs : List (κ × Value)} (r : KV kvs vs) (k : κ) {y : V} {u : Value} (ry : RelV y u) :
    KV (kvs.map fun kv => if kv.1 = k then (kv.1, y) else kv) (vs.map fun kv => if kv.1 = k then (kv.1, u) else kv) := by
  unfold KV at r ⊢
  induction r with
  | nil => exact .nil
  | @cons p q ps qs h t ih =>
    rw [List.map_cons, List.map_cons]
    refine .cons ?_ ih
    obtain ⟨h1, h2⟩ := h
    by_cases e : p.1 = k
    · rw [if_pos e, if_pos (h1.symm.trans e)]; exact ⟨h1, ry⟩
    · rw [if_neg e, if_neg (fun z => e (h1.trans z))]; exact ⟨h1, h2⟩
theorem KV.put {kvs : List (κ × V)} {vs : List (κ × Value)} (r : KV kvs vs) (k : κ) {y : V} {u : Value} (ry : RelV y u) : KV (putK kvs k y) (stored vs k u) := by
  unfold putK stored
  rw [r.any k]
  by_cases e : (vs.any fun kv => decide (kv.1 = k)) = true
  · rw [if_pos e, if_pos e]; exact r.repl k ry
  · rw [if_neg e, if_neg e]; exact Paired.snoc r ⟨rfl, ry⟩
theorem KV.length {kvs : List (κ × V)} {vs : List (κ × Value)} (r : KV kvs vs) : kvs.length = vs.length := Paired.length r
end
theorem kV_is {P : Program} {w : World} {k : Key} {u : Value} (r : RelV (kV k) u) : (mixKind P w).is k u = true := by
  cases k with
  | inl i => obtain ⟨t, e⟩ := (show ∃ t, u = Value.int i t from r); subst e; exact mixKind_int P w i t
  | inr x => obtain ⟨t, e⟩ := (show ∃ t, u = Value.str x t from r); subst e; exact mixKind_str P w x t
theorem items_are {P : Program} {w : World} : ∀ {ks : List Key} {us : List Value}, Vals (ks.map kV) us → ItemsAre (mixKind P w) ks us
  | [], _, r => by rw [List.map_nil] at r; cases r; exact .nil
  | k :: ks, _, r => by
    rw [List.map_cons] at r
    cases r with
    | cons h t => exact .cons (kV_is h) (items_are t)
abbrev KT (H : Hp) : List (List Key × V) → List (List Key × Addr × Value) → Prop := Paired fun p q => p.1 = q.1 ∧ H q.2.1 = some (.tup (p.1.map kV)) ∧ RelV p.2 q.2.2
theorem KT.val {H : Hp} {kvs : List (List Key × V)} {xs : List (List Key × Addr × Value)} (r : KT H kvs xs) (k : List Key) : RelO (valV kvs k) ((atKey xs k).map (·.2)) := by
  induction r with
  | nil => exact True.intro
  | @cons p q ps qs h t ih =>
    obtain ⟨h1, _, h2⟩ := h
    by_cases e : p.1 = k
    · have e' : q.1 = k := h1.symm.trans e
      have b : atKey (q :: qs) k = some q.2 := by simp [atKey, List.find?_cons, e']
      rw [valV_pos e, b]; exact h2
    · have e' : ¬ q.1 = k := fun z => e (h1.trans z)
      have b : atKey (q :: qs) k = atKey qs k := by simp [atKey, List.find?_cons, e']
      rw [valV_neg e, b]; exact ih
theorem KT.repl {H : Hp} {kvs : List (List Key × V)} {xs : List (List Key × Addr × Value)} (r : KT H kvs xs) (k : List Key) {y : V} {u : Value} (ry : RelV y u) :
    KT H (kvs.map fun kv => if kv.1 = k then (kv.1, y) else kv) (xs.map (putAt k u)) := by
  induction r with
  | nil => exact .nil
  | @cons p q ps qs h t ih =>
    rw [List.map_cons, List.map_cons]
    refine .cons ?_ ih
    obtain ⟨h1, h2, h3⟩ := h
    unfold putAt
    by_cases e : p.1 = k
    · rw [if_pos e, if_pos (h1.symm.trans e)]; exact ⟨h1, h2, ry⟩
    · rw [if_neg e, if_neg (fun z => e (h1.trans z))]; exact ⟨h1, h2, h3⟩
theorem KT.put {H : Hp} {kvs : List (List Key × V)} {xs : List (List Key × Addr × Value)} (r : KT H kvs xs) (k : List Key) {b : Addr} {y : V} {u : Value} (hb : H b = some (.tup (k.map kV))) (ry : RelV y u) :
    KT H (putK kvs k y) (storedH xs k b u) := by
  have e : (kvs.any fun kv => decide (kv.1 = k)) = (atKey xs k).isSome := by
    rw [valV_any, (r.val k).isSome_eq, Option.isSome_map]
  unfold putK storedH
  rw [e]
  by_cases q : (atKey xs k).isSome = true
  · rw [if_pos q, if_pos q]; exact r.repl k ry
  · rw [if_neg q, if_neg q]; exact Paired.snoc r ⟨rfl, hb, ry⟩
theorem KT.keeps {H H' : Hp} {kvs : List (List Key × V)} {xs : List (List Key × Addr × Value)} (r : KT H kvs xs) (ht : ∀ b ys, H b = some (.tup ys) → H' b = some (.tup ys)) : KT H' kvs xs :=
  Paired.mapP r fun _ _ z => ⟨z.1, ht _ _ z.2.1, z.2.2⟩
section
variable {P : Program} {w : World} {H : Hp} {h : Heap} {a : Addr}
theorem rd_of {u : HO} (ok : HOk P w H h) (e : Rd H a u) : ObjOk P w H h a u := e.ok ok
theorem dk_rd {kvs : List (Key × V)} (ok : HOk P w H h) (e : Rd H a (.dK kvs)) : kvs.length ≤ sizeLine ∧ (a == sysModules) = false ∧ ∃ vs, KV kvs vs ∧ h.DictOf (mixKind P w) a vs :=
  show ObjOk P w H h a (.dK kvs) from rd_of ok e
theorem dk_of {kvs : List (Key × V)} (ok : HOk P w H h) (e : H a = some (.dK kvs)) : kvs.length ≤ sizeLine ∧ (a == sysModules) = false ∧ ∃ vs, KV kvs vs ∧ h.DictOf (mixKind P w) a vs := dk_rd ok (.inl e)
theorem key_of {ks : List Key} (ok : HOk P w H h) (e : H a = some (.tup (ks.map kV))) : (tupleKind (mixKind P w)).is h ks a := by
  obtain ⟨_, its, r, o, h1, h2, n, h3⟩ := (show ObjOk P w H h a (.tup (ks.map kV)) from ok a _ e)
  exact ⟨o, its.toArray, n, h1, h2, h3, by simpa using items_are r⟩
theorem dt_rd {kvs : List (List Key × V)} (ok : HOk P w H h) (e : Rd H a (.dT kvs)) : kvs.length ≤ sizeLine ∧ (a == sysModules) = false ∧
    ∃ xs, KT H kvs xs ∧ h.DictOfH (tupleKind (mixKind P w)) a xs := by
  obtain ⟨z, y, xs, r, o, es, ep, h1, h2, h3, h4, h5⟩ := (show ObjOk P w H h a (.dT kvs) from rd_of ok e)
  refine ⟨z, y, xs, r, o, es, ep, h1, h2, h3, h4, fun x hx => ?_, h5⟩
  have all : ∀ {l : List (List Key × V)} {m : List (List Key × Addr × Value)}, KT H l m → ∀ x ∈ m, (tupleKind (mixKind P w)).is h x.1 x.2.1 := by
    intro l m q
    induction q with
    | nil => intro x hx; exact nomatch hx
    | @cons p q ps qs hq t ih =>
      intro x hx
      rcases List.mem_cons.mp hx with e | hx
      · subst e
        exact key_of ok (by rw [← hq.1]; exact hq.2.1)
      · exact ih x hx
  exact all r x hx
theorem dt_of {kvs : List (List Key × V)} (ok : HOk P w H h) (e : H a = some (.dT kvs)) : kvs.length ≤ sizeLine ∧ (a == sysModules) = false ∧
    ∃ xs, KT H kvs xs ∧ h.DictOfH (tupleKind (mixKind P w)) a xs := dt_rd ok (.inl e)
end
def DGet (H : Hp) (a : Addr) (y : V) (r : Option V) : Prop :=
  (∃ kvs k, Rd H a (.dK kvs) ∧ y = kV k ∧ r = valV kvs k) ∨ ∃ kvs k b, Rd H a (.dT kvs) ∧ y = .ref b ∧ H b = some (.tup (k.map kV)) ∧ r = valV kvs k
def DPut (H : Hp) (a : Addr) (y v : V) (H' : Hp) : Prop :=
  (∃ kvs k, H a = some (.dK kvs) ∧ y = kV k ∧ kvs.length < sizeLine ∧ H' = upd H a (.dK (putK kvs k v))) ∨
  ∃ kvs k b, H a = some (.dT kvs) ∧ y = .ref b ∧ H b = some (.tup (k.map kV)) ∧ kvs.length < sizeLine ∧ H' = upd H a (.dT (putK kvs k v))
theorem DPut.k {H : Hp} {a : Addr} {kvs : List (Key × V)} {k : Key} {v : V} (e : H a = some (.dK kvs)) (hl : kvs.length < sizeLine) : DPut H a (kV k) v (upd H a (.dK (putK kvs k v))) := .inl ⟨kvs, k, e, rfl, hl, rfl⟩
section
variable {X : Cx} {pins : List (Addr × Obj)} {σ : St} {H : Hp} {s : Shared} {a : Addr} {y v : V} {u r : Value} {o : Option V} {A : Around} {E : Value → Shared → Prop}
theorem Inv.big (I : Inv X pins σ H s) : sysModules < s.heap.objs.size := by
  have h : mainGlobals < s.heap.objs.size := (I.mod.glob.keeps I.bk).lt
  exact Nat.lt_trans (by decide) h
theorem d_getItem {Q : Value → Shared → Prop} (hu : A.units + 1 < cLine) (I : Inv X pins σ H s) (g : DGet H a y (some v)) (ry : RelV y u) (h : ∀ w' s', Inv X pins σ H s' → RelV v w' → Q w' s') :
    wpAny (model X.prog X.w) A (getItem (.ref a) u) Q E s := by
  rcases g with ⟨kvs, k, e, ey, l⟩ | ⟨kvs, k, b, e, ey, eb, l⟩
  · subst ey
    obtain ⟨z, hd, vs, rel, dd⟩ := dk_rd I.hok e
    obtain ⟨w', hw, rw'⟩ := RelO.some_of (v := v) (o := valueAt vs k) (by rw [l]; exact rel.val k)
    exact wpAny_getItem_of (kV_is ry) dd.mapOf hw (h w' _ (I.tok _) rw')
  · subst ey
    cases (show u = Value.ref b from ry)
    obtain ⟨z, hd, xs, rel, dd⟩ := dt_rd I.hok e
    obtain ⟨w', hw, rw'⟩ := RelO.some_of (v := v) (o := (atKey xs k).map (·.2)) (by rw [l]; exact rel.val k)
    obtain ⟨p, hp, hp2⟩ := Option.map_eq_some_iff.mp hw
    refine wpAny_getItem_heap (tupleKind_room_in1 hu) (key_of I.hok eb) dd hp ?_
    rw [hp2]
    exact h w' _ (I.tok _) rw'
theorem d_in {Q : Value → Shared → Prop} (hu : A.units + 1 < cLine) (I : Inv X pins σ H s) (g : DGet H a y o) (ry : RelV y u) (h : ∀ s', Inv X pins σ H s' → Q (.bool o.isSome) s') :
    wpAny (model X.prog X.w) A (compareOp .In u (.ref a)) Q E s := by
  rcases g with ⟨kvs, k, e, ey, l⟩ | ⟨kvs, k, b, e, ey, eb, l⟩
  · subst ey
    obtain ⟨z, hd, vs, rel, dd⟩ := dk_rd I.hok e
    refine wpAny_in_of (kV_is ry) hd dd.mapOf ?_
    rw [← (rel.val k).isSome_eq, ← l]
    exact h _ (I.tok _)
  · subst ey
    cases (show u = Value.ref b from ry)
    obtain ⟨z, hd, xs, rel, dd⟩ := dt_rd I.hok e
    refine wpAny_in_heap (tupleKind_room_in1 hu) (key_of I.hok eb) hd dd ?_
    have q := (rel.val k).isSome_eq
    rw [Option.isSome_map] at q
    rw [← q, ← l]
    exact h _ (I.tok _)
theorem d_write {h' : Heap} {t' : Nat} {ob : HO} (I : Inv X pins σ H s) (mu : Mut (H a)) (hs : Heap.SameBut a s.heap h') (he : ∃ q, h'.get? a = some q) (new : ObjOk X.prog X.w (upd H a ob) h' a ob) :
    Inv X pins σ (upd H a ob) { s with heap := h', toks := t' } :=
  I.write (x := a) (e := a) mu (.inl rfl) (fun b q hb z => (hs.2 b hb).trans z) he new
theorem dk_new {P : Program} {w : World} {H' : Hp} {h' : Heap} {kvs : List (Key × V)} {vs : List (Key × Value)} (z : kvs.length ≤ sizeLine) (hd : (a == sysModules) = false) (rel : KV kvs vs) (dd : h'.DictOf (mixKind P w) a vs) :
    ObjOk P w H' h' a (.dK kvs) := ⟨z, hd, vs, rel, dd⟩
theorem d_setItem {H' : Hp} {Q : Unit → Shared → Prop} (hu : A.units + 1 < cLine) (I : Inv X pins σ H s) (g : DPut H a y v H') (ry : RelV y u) (rv : RelV v r) (h : ∀ s', Inv X pins σ H' s' → Q () s') :
    wpAny (model X.prog X.w) A (setItem (.ref a) u r) Q E s := by
  rcases g with ⟨kvs, k, e, ey, l, eH⟩ | ⟨kvs, k, b, e, ey, eb, l, eH⟩
  · subst ey eH
    obtain ⟨z, hd, vs, rel, dd⟩ := dk_of I.hok e
    have hz : vs.length ≤ sizeLine := by rw [← rel.length]; exact z
    have hl : (putK kvs k v).length ≤ sizeLine := by have := length_putK kvs k v; omega
    refine wpAny_setItem_pairs (hsz := hz) (kV_is ry) dd fun h' dd' hs => h _ ?_
    have he : ∃ q, h'.get? a = some q := let ⟨q, _, _, hq, _⟩ := dd'; ⟨q, hq⟩
    exact d_write I (by rw [e]; exact True.intro) hs he (dk_new hl hd (rel.put k rv) dd')
  · subst ey eH
    cases (show u = Value.ref b from ry)
    obtain ⟨z, hd, xs, rel, dd⟩ := dt_of I.hok e
    have hz : xs.length ≤ sizeLine := by rw [← Paired.length rel]; exact z
    have hl : (putK kvs k v).length ≤ sizeLine := by have := length_putK kvs k v; omega
    refine wpAny_setItem_heap (hsz := hz) (tupleKind_room_in1 hu) (key_of I.hok eb) dd fun h' dd' hs => h _ ?_
    obtain ⟨q, es, ep, hq, h2, h3, h4, _, h5⟩ := dd'
    refine d_write I (by rw [e]; exact True.intro) hs ⟨q, hq⟩ ⟨hl, hd, _, (rel.put k eb rv).keeps fun c ys ec => ?_, q, es, ep, hq, h2, h3, h4, h5⟩
    rw [upd_ne (ne_of ec e (fun z => nomatch z))]
    exact ec
end
section
variable {X : Cx} {pins : List (Addr × Obj)} {σ : St} {H : Hp} {s : Shared} {a : Addr} {kvs : List (Key × V)} {k : Key} {u : Value} {A : Around} {E : Value → Shared → Prop}
end
def NoSl (i : Expr) : Prop := ∀ ov iv, subscripted i false ov iv = operate [ov, iv] (getItem ov iv)
theorem subD_of {prog : Program} {w : World} {A : Around} {E : Value → Shared → Prop} {s : Shared} {env : Env} {value slice : Expr} {pos : Pos} {T id : String} {Q : Value → Shared → Prop}
    (hl : typeLookup (.type T) "__getitem__" = pure (some (.builtin id))) (hs : NoSl slice)
    (h : wpAny (model prog w) A (eval value env) (fun o s₁ => wpAny (model prog w) A (eval slice env) (fun i s₂ => s₂.TypeIs o T ∧ wpAny (model prog w) A (getItem o i) Q E s₂) E s₁) E s) :
    wpAny (model prog w) A (eval (.Subscript value slice pos) env) Q E s := by
  refine Subscript_ (wpAny_mono h (fun o s₁ h₁ => wpAny_mono h₁ (fun i s₂ h₂ => ?_) fun _ _ x => x) fun _ _ x => x)
  obtain ⟨hT, h₂⟩ := h₂
  unfold subscriptTail
  refine wpAny_bind ?_
  rw [getitemInPython_of_ne hT.not_modules]
  refine wpAny_bind (wpAny_specialOf hT hl ?_)
  have fin : wpAny (model prog w) A (subscripted slice false o i) (fun r s₃ => wpAny (model prog w) A (letTemporaryGo value o r >>= fun _ => pure r) Q E s₃) E s₂ := by
    rw [hs o i]
    exact wpAny_operating (wpAny_mono h₂ (fun r s₃ h₃ => wpAny_bind (wpAny_letTemporaryGo (wpAny_pure h₃))) fun _ _ x => x)
  first
    | exact wpAny_pure (wpAny_bind fin)
    | exact wpAny_bind (wpAny_pure (wpAny_bind fin))
    | exact wpAny_bind fin
theorem dict_typeIs {X : Cx} {pins : List (Addr × Obj)} {σ : St} {H : Hp} {s : Shared} {a : Addr} {y : V} {o : Option V} (I : Inv X pins σ H s) (g : DGet H a y o) : s.TypeIs (.ref a) "dict" := by
  rcases g with ⟨kvs, k, e, _, _⟩ | ⟨kvs, k, b, e, _, _, _⟩
  · obtain ⟨_, _, vs, _, dd⟩ := dk_rd I.hok e
    exact dd.typeIs
  · obtain ⟨_, _, xs, _, dd⟩ := dt_rd I.hok e
    exact dd.typeIs
def tDGet (td ty : TE) : TE := fun σ H Q => td σ H fun x H1 => ty σ H1 fun y H2 => ∃ a v, x = .ref a ∧ DGet H2 a y (some v) ∧ Q v H2
def tDIn (ty td : TE) : TE := fun σ H Q => ty σ H fun y H1 => td σ H1 fun x H2 => ∃ a o, x = .ref a ∧ DGet H2 a y o ∧ Q (.bl o.isSome) H2
def sDPut (td ty tv : TE) : TS := fun D σ H => tv σ H fun v H1 => td σ H1 fun x H2 => ty σ H2 fun y H3 => ∃ a H4, x = .ref a ∧ DPut H3 a y v H4 ∧ D.nx σ H4
section
variable {X : Cx} {o i e value : Expr} {pos pos' tpos : Pos} {td ty tv : TE}
theorem pe_dget (hu : X.A.units + 1 < cLine) (ho : PE X o td) (hi : PE X i ty) (hs : NoSl i) : PE X (.Subscript o i pos) (tDGet td ty) := by
  intro pins s σ H Q I h
  refine subD_of PySem.F.slot_dict_getitem.lookup hs (thn (ho pins s σ H _ I h) fun u s1 ⟨x, H1, I1, rx, q1⟩ => thn (hi pins s1 σ H1 _ I1 q1) fun iv s2 ⟨y, H2, I2, ry, a, v, ex, g, q2⟩ => ?_)
  subst ex
  obtain rfl : u = Value.ref a := rx
  exact ⟨dict_typeIs I2 g, d_getItem hu I2 g ry fun w' s3 I3 rw' => ⟨v, H2, I3, rw', q2⟩⟩
theorem pc_din (hu : X.A.units + 1 < cLine) (hi : PE X i ty) (ho : PE X o td) : PC X .In i o (tDIn ty td) := by
  intro pins s σ H Q I h
  refine thn (hi pins s σ H _ I h) fun iv s1 ⟨y, H1, I1, ry, q1⟩ => thn (ho pins s1 σ H1 _ I1 q1) fun u s2 ⟨x, H2, I2, rx, a, ov, ex, g, q2⟩ => ?_
  subst ex
  obtain rfl : u = Value.ref a := rx
  exact d_in hu I2 g ry fun s3 I3 => ⟨.bl ov.isSome, H2, I3, rfl, q2⟩
theorem ps_dput (hu : X.A.units + 1 < cLine) (ho : PE X o td) (hi : PE X i ty) (hv : PE X value tv) (hs : swapsWith value (some (.Subscript o i pos')) pos.line X.env = pure false) :
    PS X (.Assign [.Subscript o i pos'] value pos) (sDPut td ty tv) := by
  intro pins s σ H D I h
  refine wpAny_Assign_Subscript (thn (hv pins s σ H _ I h) fun r s1 ⟨v, H1, I1, rv, q1⟩ => thn (ho pins s1 σ H1 _ I1 q1) fun u s2 ⟨x, H2, I2, rx, q2⟩ => thn (hi pins s2 σ H2 _ I2 q2) fun iv s3 ⟨y, H3, I3, ry, a, H4, ex, g, q3⟩ => ?_) hs
  subst ex
  obtain rfl : u = Value.ref a := rx
  exact d_setItem hu I3 g ry rv fun s4 I4 => ⟨σ, H4, I4, q3⟩
end
theorem dk_empty {P : Program} {w : World} {H : Hp} (h : Heap) (hb : sysModules < h.objs.size) : ObjOk P w H (h.push { cls := .type "dict", data := .dict #[] }) h.objs.size (.dK []) :=
  ⟨Nat.zero_le _, beq_eq_false_iff_ne.mpr (Ne.symm (Nat.ne_of_lt hb)), [], .nil, Heap.DictOf.new h⟩
def tDNewK : TE := fun _ H Q => ∀ p, H p = none → Q (.ref p) (upd H p (.dK []))
section
variable {X : Cx} {pos : Pos}
theorem pe_dnewK : PE X (.Dict [] [] pos) tDNewK := fun pins s σ H Q I h =>
  wpAny_Dict_empty ⟨.ref s.heap.objs.size, _, I.laid (a := s.heap.objs.size) (o := .dK []) (t' := s.toks) (fun _ _ q => Heap.get?_push_of_some _ q) (Nat.le_refl _) (dk_empty s.heap I.big), rfl, h _ (I.hok.fresh (Nat.le_refl _))⟩
end
def tPairs : List (TE × TE) → St → Hp → (List (V × V) → Hp → Prop) → Prop
  | [], _, H, Q => Q [] H
  | (tk, tv) :: r, σ, H, Q => tk σ H fun x H1 => tv σ H1 fun y H2 => tPairs r σ H2 fun ps H3 => Q ((x, y) :: ps) H3
abbrev VV : List (V × V) → List (Value × Value) → Prop := Paired fun p q => RelV p.1 q.1 ∧ RelV p.2 q.2
def PPs (X : Cx) (pos : Pos) (keys : List (Option Expr)) (values : List Expr) (trs : List (TE × TE)) : Prop :=
  ∀ (pins : List (Addr × Obj)) (s : Shared) (σ : St) (H : Hp) (Q : List (V × V) → Hp → Prop), Inv X pins σ H s → tPairs trs σ H Q →
    wpAny (model X.prog X.w) X.A (evalPairs (pairTrees keys values X.env pos)) (fun vs s' => ∃ ps H', Inv X pins σ H' s' ∧ VV ps vs ∧ Q ps H') X.xe s
theorem pps_nil {X : Cx} {pos : Pos} : PPs X pos [] [] [] := fun pins s σ H Q I h => pairTrees_nil_walk ⟨[], H, I, .nil, h⟩
theorem pps_cons {X : Cx} {pos : Pos} {k v : Expr} {ks : List (Option Expr)} {vs : List Expr} {tk tv : TE} {trs : List (TE × TE)} (hk : PE X k tk) (hv : PE X v tv) (hr : PPs X pos ks vs trs) :
    PPs X pos (some k :: ks) (v :: vs) ((tk, tv) :: trs) := fun pins s σ H Q I h =>
  pairTrees_cons_walk (thn (hk pins s σ H _ I h) fun u s1 ⟨x, H1, I1, rx, q1⟩ => thn (hv pins s1 σ H1 _ I1 q1) fun w2 s2 ⟨y, H2, I2, ry, q2⟩ =>
    thn (hr pins s2 σ H2 _ I2 q2) fun ws s3 ⟨ps, H3, I3, rel, q3⟩ => ⟨(x, y) :: ps, H3, I3, .cons ⟨rx, ry⟩ rel, q3⟩)
def mergeK (kvs more : List (Key × V)) : List (Key × V) := more.foldl (fun acc kv => putK acc kv.1 kv.2) kvs
theorem KV.merge : ∀ {more : List (Key × V)} {rs : List (Key × Value)} {kvs : List (Key × V)} {vs : List (Key × Value)}, KV more rs → KV kvs vs → KV (mergeK kvs more) (merged vs rs) := by
  intro more rs kvs vs r
  unfold KV at r
  induction r generalizing kvs vs with
  | nil => intro q; exact q
  | @cons p q ps qs h t ih =>
    intro r0
    have e : KV (putK kvs p.1 p.2) (stored vs q.1 q.2) := by
      have := r0.put p.1 h.2
      rw [← h.1]; exact this
    exact ih e
theorem length_mergeK : ∀ (more kvs : List (Key × V)), (mergeK kvs more).length ≤ kvs.length + more.length
  | [], kvs => by show kvs.length ≤ kvs.length + 0; omega
  | p :: r, kvs => by
    have h1 := length_mergeK r (putK kvs p.1 p.2)
    have h2 := length_putK kvs p.1 p.2
    show (mergeK (putK kvs p.1 p.2) r).length ≤ _
    rw [List.length_cons]; omega
theorem carries_of {P : Program} {w : World} : ∀ {kvs : List (Key × V)} {ws : List (Value × Value)}, VV (kvs.map fun kv => (kV kv.1, kv.2)) ws → ∃ rs, Carries (mixKind P w) ws rs ∧ KV kvs rs
  | [], _, r => by rw [List.map_nil] at r; cases r; exact ⟨[], True.intro, .nil⟩
  | p :: kvs, _, r => by
    rw [List.map_cons] at r
    cases r with
    | @cons a b as bs h t =>
      obtain ⟨rs, c, q⟩ := carries_of (P := P) (w := w) t
      obtain ⟨b1, b2⟩ := b
      exact ⟨(p.1, b2) :: rs, ⟨kV_is h.1, rfl, c⟩, .cons ⟨rfl, h.2⟩ q⟩
def tDisp (trs : List (TE × TE)) : TE := fun σ H Q => ∀ p, H p = none → tPairs trs σ (upd H p (.dK [])) fun ps H2 => H2 p = some (.dK []) ∧ ∃ kvs : List (Key × V), ps = kvs.map (fun kv => (kV kv.1, kv.2)) ∧ kvs.length ≤ 15 ∧ Q (.ref p) (upd H2 p (.dK (mergeK [] kvs)))
theorem pe_disp {X : Cx} {pos : Pos} {keys : List (Option Expr)} {values : List Expr} {trs : List (TE × TE)} (h : PPs X pos keys values trs) (hall : keys.all (·.isSome) = true) (hl : keys.length = values.length) (h0 : keys ≠ [])
    (h15 : keys.length ≤ 15) : PE X (.Dict keys values pos) (tDisp trs) := by
  intro pins s σ H Q I q
  have hn := I.hok.fresh (Nat.le_refl s.heap.objs.size)
  have I1 := I.laid (a := s.heap.objs.size) (o := .dK []) (h' := s.heap.push { cls := .type "dict", data := .dict #[] }) (t' := s.toks) (fun _ _ q => Heap.get?_push_of_some _ q) (Nat.le_refl _) (dk_empty s.heap I.big)
  refine wpAny_Dict_walk (knd := mixKind X.prog X.w) hall hl h0 h15 (thn (h pins _ σ _ _ I1 (q _ hn)) fun ws s2 ⟨ps, H2, I2, rel, e, kvs, ep, lk, q2⟩ => ?_)
  subst ep
  obtain ⟨rs, c, rk⟩ := carries_of (P := X.prog) (w := X.w) rel
  obtain ⟨z, hd, vs0, r0, dd⟩ := dk_of I2.hok e
  cases r0
  refine ⟨rs, c, dd, fun h' dd' hs => ⟨.ref s.heap.objs.size, _, ?_, rfl, q2⟩⟩
  have hz : (mergeK [] kvs).length ≤ sizeLine := by
    have h1 := length_mergeK kvs []
    rw [List.length_nil] at h1
    rw [sizeLine_eq]; omega
  have he : ∃ q, h'.get? s.heap.objs.size = some q := let ⟨q, _, _, hq, _⟩ := dd'; ⟨q, hq⟩
  exact d_write I2 (by rw [e]; exact True.intro) hs he (dk_new hz hd (rk.merge .nil) dd')
structure M1 (X : Cx) (o : Expr) (m : Str) (apos : Pos) (e : Expr) (cpos : Pos) : Prop where
  base : attributeBase o m X.env (eval o X.env) = eval o X.env
  few : ((backTo cpos (starEach [e] X.env)).all (fun x => !x.1) && (backToKw cpos (keywordEach [] X.env)).all (fun x => x.1.isSome)
    && decide (([e] : List Expr).length + ([] : List Keyword).length + (if ([] : List Keyword).isEmpty then 0 else 1) < 30)) = true
  line : (apos.endLine == cpos.line) = true
  trees : backTo cpos (starEach [e] X.env) = [(false, eval e X.env)]
structure M2 (X : Cx) (o : Expr) (m : Str) (apos : Pos) (e f : Expr) (cpos : Pos) : Prop where
  base : attributeBase o m X.env (eval o X.env) = eval o X.env
  few : ((backTo cpos (starEach [e, f] X.env)).all (fun x => !x.1) && (backToKw cpos (keywordEach [] X.env)).all (fun x => x.1.isSome)
    && decide (([e, f] : List Expr).length + ([] : List Keyword).length + (if ([] : List Keyword).isEmpty then 0 else 1) < 30)) = true
  line : (apos.endLine == cpos.line) = true
  trees : backTo cpos (starEach [e, f] X.env) = [(false, eval e X.env), (false, eval f X.env)]
def IsD (H : Hp) (a : Addr) : Prop := (∃ kvs, Rd H a (.dK kvs)) ∨ ∃ kvs, Rd H a (.dT kvs)
theorem isD_at {X : Cx} {pins : List (Addr × Obj)} {σ : St} {H : Hp} {s : Shared} {a : Addr} (I : Inv X pins σ H s) (d : IsD H a) :
    s.TypeIs (.ref a) "dict" ∧ (∀ b, Value.ref a = .ref b → ∃ ob, s.heap.get? b = some ob ∧ ob.dict = none) ∧ (a == sysModules) = false := by
  rcases d with ⟨kvs, e⟩ | ⟨kvs, e⟩
  · obtain ⟨_, hd, vs, _, dd⟩ := dk_rd I.hok e
    refine ⟨dd.typeIs, fun b q => ?_, hd⟩
    cases q
    obtain ⟨ob, _, _, h1, h2, _⟩ := dd
    exact ⟨ob, h1, h2.2.1⟩
  · obtain ⟨_, hd, xs, _, dd⟩ := dt_rd I.hok e
    refine ⟨dd.typeIs, fun b q => ?_, hd⟩
    cases q
    obtain ⟨ob, _, _, h1, h2, _⟩ := dd
    exact ⟨ob, h1, h2.2.1⟩
section
variable {X : Cx} {pins : List (Addr × Obj)} {σ : St} {H : Hp} {s : Shared} {a : Addr} {y d : V} {u r : Value} {o : Option V} {A : Around} {E : Value → Shared → Prop}
theorem d_get2 {Q : Value → Shared → Prop} (hu : A.units + 1 < cLine) (I : Inv X pins σ H s) (g : DGet H a y o) (ry : RelV y u) (rd : RelV d r) (h : ∀ w' s', Inv X pins σ H s' → RelV (o.getD d) w' → Q w' s') :
    wpAny (model X.prog X.w) A (call (.builtin "dict.get") [.ref a, u, r]) Q E s := by
  rcases g with ⟨kvs, k, e, ey, l⟩ | ⟨kvs, k, b, e, ey, eb, l⟩
  · subst ey
    obtain ⟨z, hd, vs, rel, dd⟩ := dk_rd I.hok e
    refine call_meetsIn PySem.F.slot_dict_get dd.typeIs PySem.F.entry_dict_get (PySem.F.args_dict_get_3 _ _ _) (meets_dict_get_default (mixKind X.prog X.w) a (kV_is ry) hd r) ⟨_, dd.mapOf, h _ _ (I.tok _) ?_⟩
    rw [l]
    exact (rel.val k).getD rd
  · subst ey
    cases (show u = Value.ref b from ry)
    obtain ⟨z, hd, xs, rel, dd⟩ := dt_rd I.hok e
    refine call_meetsIn PySem.F.slot_dict_get dd.typeIs PySem.F.entry_dict_get (PySem.F.args_dict_get_3 _ _ _) (meetsH_dict_get_default (tupleKind (mixKind X.prog X.w)) a b hd r) ⟨tupleKind_room_in1 hu, k, xs, key_of I.hok eb, dd, h _ _ (I.tok _) ?_⟩
    rw [l]
    exact (rel.val k).getD rd
end
def tDGet2 (td ty tx : TE) : TE := fun σ H Q => td σ H fun x H1 => ∃ a, x = .ref a ∧ IsD H1 a ∧ ty σ H1 fun y H2 => tx σ H2 fun z H3 => ∃ o, DGet H3 a y o ∧ Q (o.getD z) H3
section
variable {X : Cx} {o e f : Expr} {apos cpos : Pos} {td ty tx : TE}
theorem pe_dget2 (hu : X.A.units + 1 < cLine) (ho : PE X o td) (he : PE X e ty) (hf : PE X f tx) (m : M2 X o "get" apos e f cpos) : PE X (.Call (.Attribute o "get" apos) [e, f] [] cpos) (tDGet2 td ty tx) := by
  intro pins s σ H Q I h
  refine wpAny_Call_method m.base m.few m.line PySem.F.plainAttrs_dict PySem.F.slot_dict_get PySem.F.type_dict_get (thn (ho pins s σ H _ I h) fun u s1 ⟨x, H1, I1, rx, a, ex, d, q1⟩ => ?_)
  subst ex
  obtain rfl : u = Value.ref a := rx
  obtain ⟨t1, t2, _⟩ := isD_at I1 d
  refine ⟨t1, t2, ?_⟩
  rw [m.trees]
  refine Calls.callWith_builtin rfl (Calls.evalArgs_plain (Calls.spliced_cons (thn (he pins s1 σ H1 _ I1 q1) fun iv s2 ⟨y, H2, I2, ry, q2⟩ =>
    Calls.spliced_cons (thn (hf pins s2 σ H2 _ I2 q2) fun fv s3 ⟨z, H3, I3, rz, ov, g, q3⟩ => Calls.spliced_nil ?_))))
  exact d_get2 hu I3 g ry rz fun w' s4 I4 rw' => ⟨_, H3, I4, rw', q3⟩
end
section
variable {X : Cx} {pins : List (Addr × Obj)} {σ : St} {H : Hp} {s : Shared} {a : Addr} {kvs : List (Key × V)} {A : Around} {E : Value → Shared → Prop}
end
section
variable {X : Cx} {pins : List (Addr × Obj)} {σ : St} {H : Hp} {s : Shared} {a : Addr} {y : V} {u : Value} {A : Around} {E : Value → Shared → Prop}
end
end L2
namespace HT
open PySem PyProof.Rows
section
open PySem.SeqAt
open PySem.AutoSeq1 (wpAny_loadPart')
open PySem.MeetsSeq PySem.MeetsSeq2 PySem.MeetsSeq3
end
section
variable {prog : Program} {w : World} {A : Around} {E : Value → Shared → Prop} {s : Shared}
def sIx (n d : Nat) : Option Int → Nat
  | none => d
  | some v => if v < 0 then (v + (n : Int)).toNat else min v.toNat n
theorem sIx_nat (n d k : Nat) : sIx n d (some (k : Int)) = min k n := by
  show (if (k : Int) < 0 then ((k : Int) + (n : Int)).toNat else min (k : Int).toNat n) = min k n
  rw [if_neg (by omega), Int.toNat_natCast]
end
end HT
namespace L2
open PySem PySem.Spec PyProof.Rows
abbrev TO := St → Hp → (Option Int → Hp → Prop) → Prop
def PO (X : Cx) (e : Option Expr) (t : TO) : Prop :=
  ∀ (pins : List (Addr × Obj)) (s : Shared) (σ : St) (H : Hp) (Q : Option Int → Hp → Prop), Inv X pins σ H s → t σ H Q →
    wpAny (model X.prog X.w) X.A (evalPart e X.env) (fun u s' => ∃ o H', Inv X pins σ H' s' ∧ IsPart u o ∧ Q o H') X.xe s
def tNoPart : TO := fun _ H Q => Q none H
def tPart (t : TE) : TO := fun σ H Q => t σ H fun x H1 => ∃ i, x = .int i ∧ Q (some i) H1
section
variable {X : Cx} {e : Expr} {te : TE} {lo hi : Option Expr} {tl th : TO} {pos p2 : Pos}
theorem po_none : PO X none tNoPart := by
  intro pins s σ H Q I h
  rw [evalPart_none]
  exact wpAny_pure ⟨none, H, I, .none, h⟩
theorem po_some (h : PE X e te) : PO X (some e) (tPart te) := by
  intro pins s σ H Q I hw
  rw [evalPart_some]
  refine thn (h pins s σ H _ I hw) fun u s1 ⟨x, H1, I1, r1, q1⟩ => ?_
  obtain ⟨i, rfl, q⟩ := q1
  obtain ⟨t, rfl⟩ := r1
  exact ⟨some i, H1, I1, .int i t, q⟩
def SlR (X : Cx) (r : V → Option Int → Option Int → Hp → VK → Prop) : Prop :=
  ∀ (pins : List (Addr × Obj)) (s : Shared) (σ : St) (H : Hp) (x : V) (v vl vu : Value) (lo hi : Option Int) (sl : Addr) (Q : VK), Inv X pins σ H s → RelV x v → s.heap.IsSliceOf sl vl vu .none → IsPart vl lo → IsPart vu hi → r x lo hi H Q →
    ∃ T id, typeLookup (.type T) "__getitem__" = pure (some (.builtin id)) ∧ s.TypeIs v T ∧ wpAny (model X.prog X.w) X.A (getItem v (.ref sl)) (EP X pins σ Q) X.xe s
def tSl (r : V → Option Int → Option Int → Hp → VK → Prop) (te : TE) (tl th : TO) : TE := fun σ H Q => te σ H fun x H1 => tl σ H1 fun l H2 => th σ H2 fun u H3 => r x l u H3 Q
theorem pe_slice {r : V → Option Int → Option Int → Hp → VK → Prop} (hr : SlR X r) (he : PE X e te) (hl : PO X lo tl) (hu : PO X hi th) : PE X (.Subscript e (.Slice lo hi none p2) pos) (tSl r te tl th) := by
  intro pins s σ H Q I h
  refine Subscript_ (thn (he pins s σ H _ I h) fun v s1 ⟨x, H1, I1, r1, q1⟩ => ?_)
  refine wpAny_Slice (thn (hl pins s1 σ H1 _ I1 q1) fun vl s2 ⟨l, H2, I2, pl, q2⟩ => thn (hu pins s2 σ H2 _ I2 q2) fun vu s3 ⟨u, H3, I3, pu, q3⟩ => ?_)
  rw [evalPart_none]
  refine wpAny_pure ?_
  have I4 : Inv X pins σ H3 { s3 with heap := s3.heap.push { cls := .type "slice", data := .fields #[vl, vu, .none] } } := I3.kept (t' := s3.toks) fun b ob q => Heap.get?_push_of_some _ q
  obtain ⟨T, id, hT, ht, hg⟩ := hr pins { s3 with heap := s3.heap.push { cls := .type "slice", data := .fields #[vl, vu, .none] } } σ H3 x v vl vu l u s3.heap.objs.size Q I4 r1 (Heap.IsSliceOf.new ..) pl pu q3
  show wpAny (model X.prog X.w) X.A (subscriptTail e (.Slice lo hi none p2) v (.ref s3.heap.objs.size)) (EP X pins σ Q) X.xe { s3 with heap := s3.heap.push { cls := .type "slice", data := .fields #[vl, vu, .none] } }
  exact tail_any (ops := [.ref s3.heap.objs.size, v]) ht hT hg (by with_unfolding_all rfl)
def cutV (xs : List V) (lo hi : Option Int) : List V := (xs.drop (HT.sIx xs.length 0 lo)).take (HT.sIx xs.length xs.length hi - HT.sIx xs.length 0 lo)
theorem cutV_length (xs : List V) (lo hi : Option Int) : (cutV xs lo hi).length ≤ xs.length := by
  unfold cutV
  rw [List.length_take, List.length_drop]
  omega
end
end L2
namespace L2
open PySem PySem.Spec PyProof.Rows
def ixN (n : Nat) (i : Int) : Option Nat := if 0 ≤ i then (if i < n then some i.toNat else none) else if -(n : Int) ≤ i then some (i + n).toNat else none
def atI {α : Type} (xs : List α) (i : Int) : Option α := (ixN xs.length i).bind fun j => xs[j]?
theorem ixN_seq {n : Nat} {i : Int} {j : Nat} (h : ixN n i = some j) : seqIndex? i n = some j ∧ j < n ∧ -(n : Int) ≤ i ∧ i < n := by
  unfold ixN at h
  by_cases h0 : 0 ≤ i
  · rw [if_pos h0] at h
    by_cases h1 : i < n
    · rw [if_pos h1] at h
      have e : i.toNat = j := Option.some.inj h
      exact ⟨by rw [seqIndex_of h0 h1, e], by omega, by omega, h1⟩
    · rw [if_neg h1] at h; cases h
  · rw [if_neg h0] at h
    by_cases h1 : -(n : Int) ≤ i
    · rw [if_pos h1] at h
      have e : (i + n).toNat = j := Option.some.inj h
      exact ⟨by rw [seqIndex_neg (by omega) h1, e], by omega, h1, by omega⟩
    · rw [if_neg h1] at h; cases h
theorem atI_get {α : Type} {xs : List α} {i : Int} {v : α} (h : atI xs i = some v) : ∃ j, seqIndex? i xs.length = some j ∧ xs[j]? = some v ∧ j < xs.length ∧ -(xs.length : Int) ≤ i ∧ i < xs.length := by
  unfold atI at h
  cases e : ixN xs.length i with
  | none => rw [e] at h; cases h
  | some j =>
    rw [e] at h
    obtain ⟨h1, h2, h3, h4⟩ := ixN_seq e
    exact ⟨j, h1, h, h2, h3, h4⟩
theorem atI_nat {α : Type} {xs : List α} {j : Nat} {v : α} (h : xs[j]? = some v) : atI xs (j : Int) = some v := by
  have hj : j < xs.length := (List.getElem?_eq_some_iff.mp h).1
  have e : ixN xs.length (j : Int) = some j := by
    unfold ixN
    rw [if_pos (by omega), if_pos (by omega)]; simp
  unfold atI; rw [e]; exact h
def PlainIx (b : Expr) : Prop := ∀ o i, subscripted b false o i = operate [o, i] (getItem o i)
def IxR (X : Cx) (r : R2) : Prop :=
  ∀ (value slice : Expr) (pins : List (Addr × Obj)) (s : Shared) (σ : St) (H : Hp) (x y : V) (v u : Value) (Q : VK), Inv X pins σ H s → RelV x v → RelV y u → r x y H Q →
    subscripted slice false v u = operate [v, u] (getItem v u) → wpAny (model X.prog X.w) X.A (subscriptTail value slice v u) (EP X pins σ Q) X.xe s
def MtR (X : Cx) (id : String) (r : V → List V → Hp → VK → Prop) : Prop :=
  ∀ (pins : List (Addr × Obj)) (s : Shared) (σ : St) (H : Hp) (x : V) (xs : List V) (v : Value) (us : List Value) (Q : VK), Inv X pins σ H s → RelV x v → Vals xs us → r x xs H Q →
    wpAny (model X.prog X.w) X.A (call (.builtin id) (v :: us)) (EP X pins σ Q) X.xe s
section
variable {X : Cx} {a b : Expr} {ta tb : TE} {pos : Pos}
theorem pe_ix {r : R2} (hr : IxR X r) (ha : PE X a ta) (hb : PE X b tb) (hs : PlainIx b) : PE X (.Subscript a b pos) (tOp r ta tb) := by
  intro pins s σ H Q I h
  exact Subscript_ (binT ha hb I h fun v u s2 x y H2 I2 rx ry q => hr a b pins s2 σ H2 x y v u Q I2 rx ry q (hs _ _))
def rIxL (K : PySem.W.Frag) : R2 := fun x y H Q => ∃ p xs i v, x = .ref p ∧ y = .int i ∧ SqL K H p xs ∧ atI xs i = some v ∧ Q v H
def rIxT (K : PySem.W.Frag) : R2 := fun x y H Q => ∃ p xs i v, x = .ref p ∧ y = .int i ∧ SqT K H p xs ∧ atI xs i = some v ∧ Q v H
theorem ix_list : IxR X (rIxL X.K) := by
  intro value slice pins s σ H x y v u Q I rx ry h hs
  obtain ⟨p, xs, i, z, rfl, rfl, hq, he, q⟩ := h
  cases rx
  obtain ⟨t, rfl⟩ := ry
  obtain ⟨its, r, pl, hz⟩ := I.list hq
  obtain ⟨j, h1, h2, h3, h4, h5⟩ := atI_get he
  obtain ⟨w, ew, rw'⟩ := r.get h2
  have hl := r.length
  have hn := line63
  have fin : EP X pins σ Q w s := ⟨z, H, I, rw', q⟩
  by_cases h0 : 0 ≤ i
  · have hj : i.toNat = j := by
      rw [seqIndex_of h0 h5] at h1
      exact Option.some.inj h1
    exact item_listR pl.isList h0 (by omega) (by rw [hj]; simpa using ew) fin hs
  · have hj : (i + (its.toArray.size : Int)).toNat = j := by
      rw [seqIndex_neg (by omega) h4] at h1
      rw [List.size_toArray, ← hl]
      exact Option.some.inj h1
    exact subscriptTail_builtinR (x := w) pl.isList.typeIs slot_list_getitem.lookup
      (wpAny_getItem_list_neg (Q := fun r s' => r = w ∧ EP X pins σ Q r s') pl.isList (by omega) (by rw [List.size_toArray] <;> omega) (by omega) (by rw [hj]; simpa using ew) ⟨rfl, fin⟩) hs
theorem ix_tup : IxR X (rIxT X.K) := by
  intro value slice pins s σ H x y v u Q I rx ry h hs
  obtain ⟨p, xs, i, z, rfl, rfl, hq, he, q⟩ := h
  cases rx
  obtain ⟨t, rfl⟩ := ry
  obtain ⟨its, r, pl, hz⟩ := I.tuple hq
  obtain ⟨j, h1, h2, h3, h4, h5⟩ := atI_get he
  obtain ⟨w, ew, rw'⟩ := r.get h2
  have hl := r.length
  have hn := line63
  have fin : EP X pins σ Q w s := ⟨z, H, I, rw', q⟩
  exact subscriptTail_builtinR (x := w) pl.typeIs slot_tuple_getitem.lookup
    (getItem_tuple (j := j) (Q := fun r s' => r = w ∧ EP X pins σ Q r s') pl (by omega) (by omega) (by rw [List.size_toArray, ← hl]; exact h1) (by simpa using ew) ⟨rfl, fin⟩) hs
theorem slice_bounds (lo hi : Option Int) (n : Nat) : (sliceBounds lo hi none n).1 = ((HT.sIx n 0 lo : Nat) : Int) ∧ (sliceBounds lo hi none n).2.1 = ((HT.sIx n n hi : Nat) : Int) ∧ (sliceBounds lo hi none n).2.2 = 1 := by
  refine ⟨?_, ?_, rfl⟩
  · cases lo with
    | none => simp [sliceBounds, HT.sIx]
    | some i =>
      simp only [sliceBounds, HT.sIx, Option.getD_none, show (1 : Int) > 0 by decide, if_true]
      by_cases h : i < 0
      · simp only [h, if_true] <;> omega
      · simp only [h, if_false] <;> omega
  · cases hi with
    | none => simp [sliceBounds, HT.sIx]
    | some i =>
      simp only [sliceBounds, HT.sIx, Option.getD_none, show (1 : Int) > 0 by decide, if_true]
      by_cases h : i < 0
      · simp only [h, if_true] <;> omega
      · simp only [h, if_false] <;> omega
theorem slicePick_cut (its : List Value) (lo hi : Option Int) : slicePick its.toArray lo hi none = ((its.drop (HT.sIx its.length 0 lo)).take (HT.sIx its.length its.length hi - HT.sIx its.length 0 lo)).toArray := by
  obtain ⟨h1, h2, h3⟩ := slice_bounds lo hi its.toArray.size
  unfold slicePick
  rw [h1, h2, h3]
  simp only [sliceRange_one, pick_run, List.size_toArray] <;> rfl
def rSlL (K : PySem.W.Frag) : V → Option Int → Option Int → Hp → VK → Prop := fun x lo hi H Q => ∃ a xs, x = .ref a ∧ SqL K H a xs ∧ ∀ p, H p = none → Q (.ref p) (upd H p (.lst (cutV xs lo hi)))
theorem sl_list : SlR X (rSlL X.K) := by
  intro pins s σ H x v vl vu lo hi sl Q I rx hs pl pu h
  obtain ⟨a, xs, rfl, hx, q⟩ := h
  cases rx
  obtain ⟨its, r, ht, hz⟩ := I.list hx
  have hlen := r.length
  refine ⟨"list", _, slot_list_getitem.lookup, ht.isList.typeIs, ?_⟩
  refine wpAny_getItem_list_slice ht.isList hs pl pu .none (by simp) ?_ (by rw [List.size_toArray] <;> omega)
  rw [slicePick_cut, ← hlen]
  refine ⟨.ref s.heap.objs.size, _, I.laid (t' := s.toks) (o := .lst (cutV xs lo hi)) (fun b ob q => Heap.get?_push_of_some _ q) (Nat.le_refl _) ?_, rfl, q _ (I.hok.fresh (Nat.le_refl _))⟩
  exact ⟨Nat.le_trans (cutV_length xs lo hi) hz, _, 0, (r.drop (HT.sIx xs.length 0 lo)).take (HT.sIx xs.length xs.length hi - HT.sIx xs.length 0 lo), Heap.get?_push_size _ rfl⟩
def flatV : V → Bool
  | .non => true
  | .bl _ => true
  | .int _ => true
  | .str _ => true
  | _ => false
def eqV : V → V → Bool
  | .non, .non => true
  | .bl a, .bl b => a == b
  | .bl a, .int b => (if a then 1 else 0) == b
  | .int a, .bl b => a == (if b then 1 else 0)
  | .int a, .int b => a == b
  | .str a, .str b => a == b
  | _, _ => false
theorem eqAt_V {A : Around} {s : Shared} {y x : V} {u v : Value} (ry : RelV y u) (rx : RelV x v) (fy : flatV y = true) (fx : flatV x = true) : SeqAt.EqAt A s u v (eqV y x) := by
  cases y with
  | non =>
    cases ry
    cases x with
    | non => cases rx; exact SeqAt.EqAt.same _
    | bl b => cases rx; exact SeqAt.EqAt.none_bool b
    | int b => obtain ⟨t, rfl⟩ := rx; exact SeqAt.EqAt.none_int b t
    | str b => obtain ⟨t, rfl⟩ := rx; exact SeqAt.EqAt.none_str b t
    | _ => exact absurd (show false = true from fx) Bool.false_ne_true
  | bl a =>
    cases ry
    cases x with
    | non => cases rx; exact SeqAt.EqAt.bool_none a
    | bl b => cases rx; exact SeqAt.EqAt.bool_bool a b
    | int b => obtain ⟨t, rfl⟩ := rx; exact SeqAt.EqAt.bool_int a b t
    | str b => obtain ⟨t, rfl⟩ := rx; exact SeqAt.EqAt.bool_str a b t
    | _ => exact absurd (show false = true from fx) Bool.false_ne_true
  | int a =>
    obtain ⟨t', rfl⟩ := ry
    cases x with
    | non => cases rx; exact SeqAt.EqAt.int_none a t'
    | bl b => cases rx; exact SeqAt.EqAt.int_bool a t' b
    | int b => obtain ⟨t, rfl⟩ := rx; exact SeqAt.EqAt.int_int a t' b t
    | str b => obtain ⟨t, rfl⟩ := rx; exact SeqAt.EqAt.int_str a t' b t
    | _ => exact absurd (show false = true from fx) Bool.false_ne_true
  | str a =>
    obtain ⟨t', rfl⟩ := ry
    cases x with
    | non => cases rx; exact SeqAt.EqAt.str_none a t'
    | bl b => cases rx; exact SeqAt.EqAt.str_bool a t' b
    | int b => obtain ⟨t, rfl⟩ := rx; exact SeqAt.EqAt.str_int a t' b t
    | str b => obtain ⟨t, rfl⟩ := rx; exact SeqAt.EqAt.str_str a t' b t
    | _ => exact absurd (show false = true from fx) Bool.false_ne_true
  | _ => exact absurd (show false = true from fy) Bool.false_ne_true
theorem call_len_seq : CallR X (.builtin "len") (fun xs H Q => ∃ p ys, xs = [.ref p] ∧ (SqL X.K H p ys ∨ SqT X.K H p ys) ∧ Q (.int ys.length) H) := by
  intro pins s σ H xs us Q I r h
  obtain ⟨p, ys, rfl, hq, q⟩ := h
  obtain ⟨u, rfl, rx⟩ := vals1 r
  cases rx
  have hn := line63
  rcases hq with hq | hq
  · obtain ⟨its, r', pl, hz⟩ := I.list hq
    have hlen := r'.length
    exact Calls.call_len_list pl.isList (by simp only [List.size_toArray] <;> omega) ⟨.int ys.length, H, I.tok _, ⟨s.toks + 1, by rw [List.size_toArray, hlen]⟩, q⟩
  · obtain ⟨its, r', pl, hz⟩ := I.tuple hq
    have hlen := r'.length
    exact len_tuple pl (by simp only [List.size_toArray] <;> omega) ⟨.int ys.length, H, I.tok _, ⟨s.toks + 1, by rw [List.size_toArray, hlen]⟩, q⟩
theorem call_list_of : CallR X (.type "list") (fun xs H Q => ∃ p ys, xs = [.ref p] ∧ (SqL X.K H p ys ∨ SqT X.K H p ys) ∧ ∀ l, H l = none → Q (.ref l) (upd H l (.lst ys))) := by
  intro pins s σ H xs us Q I r h
  obtain ⟨p, ys, rfl, hq, q⟩ := h
  obtain ⟨u, rfl, rx⟩ := vals1 r
  cases rx
  have fin : ∀ (its : List Value), Vals ys its → ys.length ≤ sizeLine → ∀ (h' : Heap) (c' : Nat), (∀ b o', s.heap.get? b = some o' → h'.get? b = some o') →
      h'.get? s.heap.objs.size = some { cls := .type "list", dict := none, data := .seq its.toArray c', slots := #[] } → EP X pins σ Q (.ref s.heap.objs.size) { s with heap := h' } := fun its r' hz h' c' kp e =>
    ⟨.ref s.heap.objs.size, _, I.laid (t' := s.toks) kp (Nat.le_refl _) (show ObjOk X.prog X.w _ h' _ (.lst ys) from ⟨hz, its, c', r', e⟩), rfl, q _ (I.hok.fresh (Nat.le_refl _))⟩
  rcases hq with hq | hq
  · obtain ⟨its, r', pl, hz⟩ := I.list hq
    have hlen := r'.length
    obtain ⟨o, ho, hc, n, hd⟩ := pl.isList
    exact call_list_seq p (.inl rfl) ho hc hd (fun h' c' kp e => fin its r' hz h' c' kp e) (by simp only [List.size_toArray] <;> omega)
  · obtain ⟨its, r', pl, hz⟩ := I.tuple hq
    have hlen := r'.length
    obtain ⟨o, ho, hc, n, hd⟩ := pl
    exact call_list_seq p (.inr rfl) ho hc hd (fun h' c' kp e => fin its r' hz h' c' kp e) (by simp only [List.size_toArray] <;> omega)
def tyV (K : PySem.W.Frag) (T : String) (x : V) (H : Hp) : Prop := match x with
  | .str _ => T = "str"
  | .int _ => T = "int"
  | .ref p => (T = "list" ∧ ∃ xs, SqL K H p xs) ∨ (T = "tuple" ∧ ∃ o, K.lookup p = some o ∧ o.cls = .type "tuple" ∧ o.dict = none) ∨
      (T = "dict" ∧ ((∃ kvs, H p = some (.dK kvs)) ∨ ∃ kvs, H p = some (.dT kvs))) ∨ (T = "set" ∧ ∃ S n, H p = some (.set S n))
  | _ => False
theorem tyV_is {pins : List (Addr × Obj)} {σ : St} {H : Hp} {s : Shared} {T : String} {x : V} {v : Value} (I : Inv X pins σ H s) (r : RelV x v) (ty : tyV X.K T x H) :
    s.TypeIs v T ∧ ∀ a, v = .ref a → ∃ ob, s.heap.get? a = some ob ∧ ob.dict = none := by
  cases x with
  | str z =>
    obtain ⟨t, rfl⟩ := r
    cases (show T = "str" from ty)
    exact ⟨typeIs_str s z t, fun _ e => nomatch e⟩
  | int i =>
    obtain ⟨t, rfl⟩ := r
    cases (show T = "int" from ty)
    exact ⟨typeIs_int s i t, fun _ e => nomatch e⟩
  | ref p =>
    cases r
    rcases ty with ⟨rfl, xs, hq⟩ | ⟨rfl, o, hk, hc, hd⟩ | ⟨rfl, hk⟩ | ⟨rfl, S, n, hk⟩
    · obtain ⟨its, _, pl, _⟩ := I.list hq
      refine ⟨pl.isList.typeIs, fun a e => ?_⟩
      cases e
      obtain ⟨o, n, e, c, hd, _⟩ := pl
      exact ⟨o, e, hd⟩
    · refine ⟨⟨o, I.kIn p o hk, hc⟩, fun a e => ?_⟩
      cases e
      exact ⟨o, I.kIn _ o hk, hd⟩
    · have z : ∃ o, s.heap.get? p = some o ∧ o.ExactDict := by
        rcases hk with ⟨kvs, hk⟩ | ⟨kvs, hk⟩
        · obtain ⟨_, _, _, _, o, _, _, e, ex, _⟩ := I.hok p _ hk
          exact ⟨o, e, ex⟩
        · obtain ⟨_, _, _, _, o, _, _, e, ex, _⟩ := I.hok p _ hk
          exact ⟨o, e, ex⟩
      obtain ⟨o, e, ex⟩ := z
      refine ⟨⟨o, e, ex.1⟩, fun a e2 => ?_⟩
      cases e2
      exact ⟨o, e, ex.2.1⟩
    · obtain ⟨o, _, _, _, e, ex, _⟩ := I.hok p _ hk
      refine ⟨⟨o, e, ex.1⟩, fun a e2 => ?_⟩
      cases e2
      exact ⟨o, e, ex.2.1⟩
  | _ => exact False.elim ty
def tBM (K : PySem.W.Frag) (T : String) (r : V → List V → Hp → VK → Prop) (to : TE) (t : TA) : TE := fun σ H Q => to σ H fun x H1 => tyV K T x H1 ∧ t σ H1 fun xs H2 => r x xs H2 Q
variable {o e : Expr} {es : List Expr} {to : TE} {t : TA} {name : Str} {apos cpos : Pos} {T id : String} {r : V → List V → Hp → VK → Prop}
theorem pe_bm (pa : PlainAttrs T) (slot : Slot T name id) (hty : typeOf (.builtin id) = pure (.type "method_descriptor")) (hm : MtR X id r) (ho : PE X o to) (ha : PA X (e :: es) t)
    (hbase : attributeBase o name X.env (eval o X.env) = eval o X.env := by rfl)
    (hfew : ((backTo cpos (starEach (e :: es) X.env)).all (fun x => !x.1) && (backToKw cpos (keywordEach [] X.env)).all (fun x => x.1.isSome)
      && decide ((e :: es).length + ([] : List Keyword).length + (if ([] : List Keyword).isEmpty then 0 else 1) < 30)) = true := by rfl)
    (hline : (apos.endLine == cpos.line) = true := by rfl) (hs : starEach (e :: es) X.env = (false, eval e X.env) :: starEach es X.env := by rfl) (hplain : (backTo cpos (starEach es X.env)).any (·.1) = false := by rfl) :
    PE X (.Call (.Attribute o name apos) (e :: es) [] cpos) (tBM X.K T r to t) := by
  intro pins s σ H Q I h
  refine wpAny_Call_method_late hbase hfew hline rfl (thn (ho pins s σ H _ I h) fun v s1 ⟨x, H1, I1, r1, ty, q1⟩ => ?_)
  obtain ⟨h1, h2⟩ := tyV_is I1 r1 ty
  refine ⟨T, id, pa, slot, hty, h1, h2, ?_⟩
  have hA := ha cpos pins s1 σ H1 _ I1 q1
  rw [hs] at hA ⊢
  refine Calls.callWith_builtin (by show (false || (backTo cpos (starEach es X.env)).any (·.1)) = false; rw [hplain] <;> rfl) (Calls.evalArgs_plain ?_)
  exact thn hA fun us s2 ⟨vs, H2, I2, r2, q2⟩ => hm pins s2 σ H2 x vs v us Q I2 r1 r2 q2
end
end L2
namespace L2
open PySem PySem.Spec PyProof.Rows
def MtM (X : Cx) (id : String) (r : V → List V → Hp → VK → Prop) : Prop :=
  ∀ (pins : List (Addr × Obj)) (s : Shared) (σ : St) (H : Hp) (x : V) (xs : List V) (v : Value) (us : List Value) (Q : VK), Inv X pins σ H s → RelV x v → Vals xs us → r x xs H Q →
    wpAny (model X.prog X.w) X.A (call (.builtin id) (v :: us)) (EP X pins σ Q) X.xe s
theorem Vals.one : ∀ {x : V} {us : List Value}, Vals [x] us → ∃ u, us = [u] ∧ RelV x u
  | _, _, .cons r .nil => ⟨_, rfl, r⟩
section
variable {X : Cx} {pins : List (Addr × Obj)} {σ : St} {H : Hp} {s : Shared} {l b : Addr} {xs ys zs : List V}
theorem Inv.lset {its its' : List Value} {n : Nat} {f : Array Value → Array Value} {t' : Nat} (I : Inv X pins σ H s) (hH : H l = some (.lst xs))
    (e : s.heap.get? l = some { cls := .type "list", data := .seq its.toArray n }) (hf : f its.toArray = its'.toArray) (hv : Vals ys its') (hz : ys.length ≤ sizeLine) :
    Inv X pins σ (upd H l (.lst ys)) { s with heap := s.heap.update l (Obj.mapSeq f), toks := t' } := by
  have q := PySem.IsL.update e f
  rw [hf] at q
  refine I.write (x := l) (e := l) (by rw [hH]; exact trivial) (.inl rfl) (fun b' u hb hu => (Heap.get?_update_other s.heap (Obj.mapSeq f) (Ne.symm hb)).trans hu) ⟨_, q⟩ ?_
  exact ⟨hz, its', _, hv, q⟩
theorem Inv.lnew {its : List Value} {t' : Nat} (I : Inv X pins σ H s) (hv : Vals ys its) (hz : ys.length ≤ sizeLine) :
    Inv X pins σ (upd H s.heap.objs.size (.lst ys)) { s with heap := s.heap.push { cls := .type "list", data := .seq its.toArray }, toks := t' } :=
  I.laid (fun _ _ q => Heap.get?_push_of_some _ q) (Nat.le_refl _) ⟨hz, its, 0, hv, Heap.get?_push_size _ rfl⟩
theorem Inv.fresh (I : Inv X pins σ H s) : H s.heap.objs.size = none := I.hok.fresh (Nat.le_refl _)
theorem Inv.lstM (I : Inv X pins σ H s) (hH : H l = some (.lst xs)) : xs.length ≤ sizeLine ∧ ∃ (its : List Value) (n : Nat), Vals xs its ∧ xs.length = its.length ∧ s.heap.get? l = some { cls := .type "list", data := .seq its.toArray n } := by
  obtain ⟨z, its, n, r, e⟩ := I.hok l _ hH
  exact ⟨z, its, n, r, r.length, e⟩
end
section
variable {X : Cx}
def rAppend : V → List V → Hp → VK → Prop := fun x vs H Q => ∃ l xs y, x = .ref l ∧ vs = [y] ∧ H l = some (.lst xs) ∧ xs.length < sizeLine ∧ Q .non (upd H l (.lst (xs ++ [y])))
theorem mt_append : MtM X "list.append" rAppend := by
  intro pins s σ H x vs v us Q I rx rv h
  obtain ⟨l, xs, y, rfl, rfl, hH, hz, q⟩ := h
  cases rx
  obtain ⟨u, rfl, ru⟩ := rv.one
  obtain ⟨z, its, n, r, hl, e⟩ := I.lstM hH
  refine call_meets F.slot_list_append ⟨_, e, rfl⟩ F.entry_list_append (F.args_list_append_2 _ _) (PySem.list_append l its.toArray n u (by rw [List.size_toArray]; omega)) ⟨e, ?_⟩
  refine ⟨.non, _, I.lset (its' := its ++ [u]) hH e (by simp) (r.append (.cons ru .nil)) ?_, rfl, q⟩
  rw [List.length_append, List.length_singleton]
  omega
end
section
variable {prog : Program} {w : World} {A : Around} {E : Value → Shared → Prop} {s : Shared}
end
section
variable {X : Cx}
end
end L2
namespace Att
open PySem PySem.W PySem.Calls PyProof.Rows
theorem ints_of_wellAll {P : Params} {h : Heap} : ∀ (ns : List Int) (vs : List Value), WellAll P h vs (ns.map WData.int) → IntsAre vs ns := by
  intro ns
  induction ns with
  | nil =>
    intro vs w
    rw [List.map_nil] at w
    cases w
    exact .nil
  | cons n ns ih =>
    intro vs w
    rw [List.map_cons] at w
    cases w with
    | cons a b =>
      cases a
      exact .cons _ _ (ih _ b)
theorem script_of {l : OpenLaw} {n : Nat} (hn : l.most = some n) {P : Params} {h : Heap} {args : List WData} {vals : List Value}
    (hpre : l.row.toRowW.claim.pre args = true) (hwl : WellAll P h vals args) :
    ∃ a vs ns, vals = [Value.ref a] ∧ args = [WData.list (ns.map WData.int)] ∧ h.get? a = some { cls := .type "list", data := .seq vs.toArray } ∧ IntsAre vs ns ∧ ns.length ≤ n := by
  have hsh : WShape.hasAll [] args [.list .int] = true := (pre_splitW hpre).1
  have hc : l.pre.holds [] { args := args } = true := (pre_splitW hpre).2
  obtain ⟨d, r, rfl, h1, h2⟩ := hasAllW_cons hsh
  obtain rfl := hasAllW_nil h2
  obtain ⟨xs, rfl, h3⟩ := hasW_list h1
  obtain ⟨ns, rfl⟩ := items_int h3
  have hlen : ns.length ≤ n := by
    unfold OpenLaw.pre at hc
    have h4 : (WTm.not (.lt (.lit (.int (n : Int))) (.len (.arg 0)))).holds [] { args := [.list (ns.map .int)] } = true := by
      have h4 := (holds_andW hc).1
      rw [hn] at h4
      exact h4
    have h5 := condW_of h4 (w_not (w_lt w_lit (w_len_list (w_arg rfl))))
    rw [List.length_map] at h5
    refine Nat.le_of_not_lt fun q => ?_
    have q' : (n : Int) < ((ns.length : Nat) : Int) := by omega
    first
      | (rw [decide_eq_true q'] at h5; exact absurd h5 (by decide))
      | (simp at h5; omega)
  cases hwl with
  | cons w1 w2 =>
    cases w2
    cases w1 with
    | list ho hall => exact ⟨_, _, ns, rfl, rfl, ho, ints_of_wellAll ns _ hall, hlen⟩
theorem post_true (l : OpenLaw) (args : List WData) : l.row.toRowW.claim.post args (.bool true) args = true :=
  postW_of (r := l.row.toRowW) (X := (true == true))
    (show WShape.has [] (.bool true) .bool = true by first | rfl | decide | simp [WShape.has, WShape.arms, WShape.armsAll])
    (show (WTm.eq .res (.lit (.bool true))).value [] { args := args, res := some (.bool true), after := args } = some (.bool (true == true)) from w_eq_bool (w_res rfl) w_lit) rfl
theorem attach_call {l : OpenLaw} {n : Nat} {q : Program} {loose : List Str} {XP : (Str → Option Value) → Heap → Prop} {YP : World → Heap → Prop} {d : DefRec}
    (hn : l.most = some n) (hdf : d.params.defaults = [])
    (call : ∀ (w : World) (s₀ s₁ : Shared) (mg mb : Str → Option Value) (fa : Addr) (o : Obj) (pm cd doc : Value) (a : Addr) (vs : List Value) (ns : List Int),
      Ground q loose [] XP w s₀ mg mb s₁.heap → YP w s₁.heap →
      s₁.heap.get? fa = some o → o.data = .func (docDef d.name d.params d.body d.scope pm cd doc) → s₁.heap.CodeRec cd d.name → mg d.name = some (.ref fa) →
      s₁.heap.get? a = some { cls := .type "list", data := .seq vs.toArray } → IntsAre vs ns → ns.length ≤ n → s₁.gens = #[] →
      codeAny (model l.prog w) callerA (.call (.ref fa) ⟨[.ref a], []⟩) (fun r s' => r = .ok (.ret (.bool true)) ∧ OldK s₁.heap s'.heap ∧ s'.os = s₁.os ∧ AllBare s'.gens) s₁) :
    WalkO q loose XP YP l.row.toRowW d [] (fun f vs => PySem.call f vs) := by
  intro w s₀ s₁ mg mb G Y fa o pm cd doc dV kV ho hd hcd hD hmg hg args vals as hpre hlay hrd hwl hlo
  obtain rfl : dV = .none := Dflts.none hD hdf
  obtain rfl : kV = .none := Dflts.noKw hD
  obtain ⟨a, vs, ns, rfl, rfl, hobj, hints, hlen⟩ := script_of hn hpre hwl
  refine enter_call (codeAny_mono (call w s₀ s₁ mg mb fa o pm cd doc a vs ns G Y ho (fd_plain hd) hcd hmg hobj hints hlen hg) fun r s' hq => ?_)
  obtain ⟨rfl, h2, h3, h4⟩ := hq
  exact ⟨.inl ⟨.bool true, .bool true, [], rfl, fun _ => rfl, .bool true, post_true l _, fun _ => ⟨List.Pairwise.nil, fun _ hm => (nomatch hm)⟩⟩, h2, h3, h4⟩
section
variable {prog : Program} {w : World} {A : Around} {E : Value → Shared → Prop} {s : Shared} {K : Frag}
end
end Att
namespace L2
open PySem PySem.Spec PyProof.Rows
theorem vals_ints : ∀ {vs : List Value} {ns : List Int}, IntsAre vs ns → Vals (ns.map V.int) vs
  | _, _, .nil => .nil
  | _, _, .cons n t h => .cons ⟨t, rfl⟩ (vals_ints h)
def Only (H : Hp) : Prop := ∀ b, H b = none ∨ ∃ o xs, H b = some (.frz o (.lst xs))
theorem law_call {P : Program} {w : World} {K : PySem.W.Frag} {mg mb : Str → Option Value} {CX : CXT} {k : Nat} {fa a : Addr} {fd : FuncData} {x : Str} {sp : Sp} {s₁ : Shared} {vs : List Value} {ns : List Int}
    (KX : K.In s₁.heap) (hns : s₁.heap.Ns mainGlobals mg) (hb : s₁.heap.Ns builtinsNs mb) (hbb : ∀ x : Str, x ≠ "__name__" → mb x = bootBuiltins x) (hlim : s₁.heap.NoLimit) (hg : s₁.gens = #[])
    (ha : s₁.heap.get? a = some { cls := .type "list", data := .seq vs.toArray }) (hi : IntsAre vs ns) (hl : ns.length ≤ sizeLine) (hr : Room k callerA)
    (F : ∀ base : Heap, K.In base → base.Ns mainGlobals mg → FnOk P w K mg base CX k fa fd [x] sp) (hbind : ∀ (s : Shared) (u : Value), BindsTo s fd ⟨[u], []⟩ [(x, u)])
    (hsp : ∀ H : Hp, Only H → SqL K H a (ns.map V.int) → sp [.ref a] H (fun v _ => v = .bl true) fun _ _ _ => False)
    (hCX : ∀ H e s', CX [] H s₁ (fun _ _ _ => False) e s' → False) :
    codeAny (model P w) callerA (.call (.ref fa) ⟨[.ref a], []⟩) (fun r s' => r = .ok (.ret (.bool true)) ∧ OldK s₁.heap s'.heap ∧ s'.os = s₁.os ∧ AllBare s'.gens) s₁ := by
  have rv := vals_ints hi
  have lenV := hi.length
  have core : ∀ H : Hp, Only H → SqL K H a (ns.map V.int) → HOk P w H s₁.heap → (∀ b, H b ≠ none → b = a) → (H a ≠ none → K.lookup a = none) →
      codeAny (model P w) callerA (.call (.ref fa) ⟨[.ref a], []⟩) (fun r s' => r = .ok (.ret (.bool true)) ∧ OldK s₁.heap s'.heap ∧ s'.os = s₁.os ∧ AllBare s'.gens) s₁ := by
    intro H hO hS hok hA hK
    have base_of : ∀ {b : Addr} {o : Obj}, s₁.heap.get? b = some o → H b = none → (hidT s₁.heap H).get? b = some o := fun e n => hidT_get e n
    have noA : ∀ {b : Addr} {o : Obj} {es : Array DictEntry} {ep : Nat}, s₁.heap.get? b = some o → o.data = .dict es ep → H b = none := fun {b o es ep} e d => by
      cases q : H b with
      | none => rfl
      | some u =>
        have e' : b = a := hA b (by rw [q]; simp)
        subst e'
        rw [ha] at e; cases e
        have d' : Data.seq vs.toArray _ = Data.dict es ep := d
        cases d'
    have nsK : ∀ {b : Addr} {m : Str → Option Value}, s₁.heap.Ns b m → (hidT s₁.heap H).Ns b m := fun {b m} ⟨o, es, ep, e, d, r⟩ => ⟨o, es, ep, base_of e (noA e d), d, r⟩
    have hKb : K.In (hidT s₁.heap H) := fun b o e => base_of (KX b o e) (by
      cases q : H b with
      | none => rfl
      | some u =>
        have e' : b = a := hA b (by rw [q]; simp)
        subst e'
        rw [hK (by rw [q]; simp)] at e; cases e)
    have hM : Mod K mg (hidT s₁.heap H) := ⟨hKb, nsK hns, ⟨mb, nsK hb, hbb⟩, let ⟨mc, h1, h2⟩ := hlim; ⟨mc, nsK h1, h2⟩⟩
    have e0 : Env0 P w K mg (hidT s₁.heap H) callerA [] s₁ H := ⟨rfl, hM, fun b o e => of_hidT e, Nat.le_of_eq (hidT_size _ _), trivial, fun b hb => absurd (show b ∈ ([] : List Addr) from hb) (by simp), hok, .of_eq hg⟩
    refine codeAny_mono ((F _ hKb (nsK hns)).run callerA [] s₁ H ⟨[.ref a], []⟩ [.ref a] [.ref a] _ _ hr e0 (hbind s₁ (.ref a)) (.cons rfl .nil) (hsp H hO hS)) fun r s' h => ?_
    cases r with
    | error e => exact (hCX H e s' h).elim
    | ok fl =>
      cases fl with
      | next => exact False.elim h
      | brk => exact False.elim h
      | cont => exact False.elim h
      | ret u =>
        obtain ⟨v, H', os, bare, un, hok', r', q⟩ := h
        have q' : v = .bl true := q
        subst q'
        obtain rfl : u = Value.bool true := r'
        refine ⟨rfl, OldK.of_keep fun b o e => ?_, os, bare⟩
        cases q : H b with
        | none => exact un.keep b o e q (by intro z; exact absurd (show b ∈ ([] : List Addr) from z) (by simp)) (by simp)
        | some u =>
          rcases hO b with z | ⟨ob, xs, z⟩
          · rw [q] at z; cases z
          · have z2 := un.frzs b ob _ z
            obtain ⟨e1, _⟩ := hok b _ z
            obtain ⟨e2, _⟩ := hok' b _ z2
            rw [e] at e1; cases e1
            exact e2
  cases hk : K.lookup a with
  | some o =>
    have e := KX a o hk
    rw [ha] at e
    cases e
    refine core (fun _ => none) (fun _ => .inl rfl) (.inr ⟨_, vs.toArray, _, hk, rfl, rfl, rfl, by rw [List.size_toArray, lenV]; exact hl, by simpa using rv⟩) (fun b u z => by have z' : (none : Option HO) = some u := z; cases z') (fun b z => absurd rfl z) fun z => absurd rfl z
  | none =>
    refine core (fun b => if b = a then some (.frz { cls := .type "list", data := .seq vs.toArray } (.lst (ns.map V.int))) else none) (fun b => ?_) (.inl (.inr ⟨{ cls := .type "list", data := .seq vs.toArray }, if_pos rfl⟩)) (fun b u z => ?_) (fun b z => ?_) fun _ => hk
    · by_cases hb : b = a
      · exact .inr ⟨_, _, if_pos hb⟩
      · exact .inl (if_neg hb)
    · by_cases hb : b = a
      · have z' := (if_pos hb).symm.trans z
        cases z'
        subst hb
        exact ⟨ha, by rw [List.length_map]; exact hl, vs, _, rv, ha⟩
      · have z' := (if_neg hb).symm.trans z
        cases z'
    · by_cases hb : b = a
      · exact hb
      · exact absurd (if_neg hb) z
end L2
namespace L2
open PySem PySem.Spec PyProof.Rows
theorem walk_of {l : PySem.W.OpenLaw} {n k : Nat} {q : Program} {loose : List Str} {XP : (Str → Option Value) → Heap → Prop} {YP : World → Heap → Prop} {d : DefRec} {K : Params → PySem.W.Frag} {CX : World → CXT} {sp : World → Sp} {x : Str}
    (hn : l.most = some n) (hn2 : n ≤ sizeLine) (hdf : d.params.defaults = []) (hr : Room k callerA)
    (hY : ∀ (w : World) (h : Heap), YP w h → (K w.params).In h)
    (F : ∀ (w : World) (mg : Str → Option Value) (fa : Addr) (h : Heap), (K w.params).In h → h.Ns mainGlobals mg → mg d.name = some (.ref fa) →
      ∃ fd : FuncData, (∀ (s : Shared) (u : Value), BindsTo s fd ⟨[u], []⟩ [(x, u)]) ∧
        ∀ base : Heap, (K w.params).In base → base.Ns mainGlobals mg → FnOk l.prog w (K w.params) mg base (CX w) k fa fd [x] (sp w))
    (hsp : ∀ (w : World) (H : Hp) (a : Addr) (ns : List Int), ns.length ≤ n → Only H → SqL (K w.params) H a (ns.map V.int) → sp w [.ref a] H (fun v _ => v = .bl true) fun _ _ _ => False)
    (hCX : ∀ (w : World) (H : Hp) (s : Shared) (e : Value) (s' : Shared), CX w [] H s (fun _ _ _ => False) e s' → False) :
    PySem.W.WalkO q loose XP YP l.row.toRowW d [] (fun f vs => PySem.call f vs) := by
  refine Att.attach_call hn hdf fun w s₀ s₁ mg mb fa o pm cd doc a vs ns G Y ho hd hcd hmg hobj hints hlen hg => ?_
  have KX := hY w _ Y
  obtain ⟨fd, hb, hF⟩ := F w mg fa _ KX G.T.g hmg
  exact law_call KX G.T.g G.T.b G.T.builtins G.T.nolimit hg hobj hints (Nat.le_trans hlen hn2) hr hF hb (fun H hO hS => hsp w H a ns hlen hO hS) fun H e s' => hCX w H s₁ e s'
end L2
namespace L2
open PySem PySem.Spec PyProof.Rows
def defArgs (s : Stmt) : Arguments := match s with
  | .FunctionDef _ a _ _ _ _ _ _ _ _ => a
  | _ => { posonlyargs := [], args := [], vararg := none, kwonlyargs := [], kw_defaults := [], kwarg := none, defaults := [] }
def defBody (s : Stmt) : List Stmt := match s with
  | .FunctionDef _ _ b _ _ _ _ _ _ _ => b
  | _ => []
def defScope (s : Stmt) : Scope := match s with
  | .FunctionDef _ _ _ _ _ _ sc _ _ _ => sc
  | _ => { kind := .function, names := [], isGenerator := false, isCoroutine := false }
abbrev CX0 : CXT := fun _ _ _ _ _ _ => False
abbrev E0 : XK := fun _ _ _ => False
theorem pass0 {X : Cx} : Passes CX0 X E0 := fun _ _ _ _ _ _ _ h => h.elim
structure Fun (K : PySem.W.Frag) (x qual : Str) (st : Stmt) (f : Addr) (fd : FuncData) : Prop where
  ex : ∃ (oc : Value) (od : Option Addr) (kV doc pm : Value) (an : Option Addr) (cdv ct : Value) (osl : Array (Option Value)),
    fd = PySem.W.fnOf x qual (defArgs st) (defBody st) (defScope st) .none kV doc pm an cdv ct ∧ K.lookup f = some ⟨oc, od, .func fd, osl⟩ ∧ PySem.W.codeIn K cdv qual = true
  kp : PySem.W.keepIn K (.ref f) = true
section
variable {P : Program} {w : World} {K : PySem.W.Frag} {mg : Str → Option Value} {base : Heap}
theorem Fun.ok {x qual : Str} {st : Stmt} {f : Addr} {fd : FuncData} {N ps : List Str} {k : Nat} {sp : Sp} (F : Fun K x qual st f fd) (S : FnScope N ps (defScope st)) (len : ∀ vs H Q E, sp vs H Q E → vs.length = ps.length)
    (hbody : ∀ (cdv : Value) (A : Around) (outer : List Env) (s : Shared) (H : Hp) (vs : List V) (Q : VK) (E : XK), Room k (A.deeper (envOfC qual (defScope st) s.heap.objs.size f cdv)) → sp vs H Q E →
      ∃ t, PSs (cxOf CX0 P w K mg base N qual (defScope st) f cdv A outer s H E).nox (defBody st) t ∧ t { nx := fun _ H' => Q .non H', rt := Q } (start N vs) H) : FnOk P w K mg base CX0 (k + 1) f fd ps sp := by
  obtain ⟨oc, od, kV, doc, pm, an, cdv, ct, osl, rfl, lk, hcd⟩ := F.ex
  refine fn_of lk hcd S len fun A outer s H vs Q E hr hsp => ?_
  obtain ⟨t, h, q⟩ := hbody cdv A outer s H vs Q E hr hsp
  exact ⟨t, h.nox, q⟩
theorem Fun.binds {x qual : Str} {st : Stmt} {f : Addr} {fd : FuncData} {ps : List Str} (F : Fun K x qual st f fd)
    (h : ∀ (kV doc pm : Value) (an : Option Addr) (cdv ct : Value) (us : List Value), us.length = ps.length → bindArgs (PySem.W.fnOf x qual (defArgs st) (defBody st) (defScope st) .none kV doc pm an cdv ct) ⟨us, []⟩ = pure (ps.zip us)) : Binds K fd ps [] := by
  obtain ⟨oc, od, kV, doc, pm, an, cdv, ct, osl, rfl, lk, hcd⟩ := F.ex
  exact .all (h kV doc pm an cdv ct)
theorem fun_mk {x qual : Str} {st : Stmt} {f : Addr} {oc : Value} {od an : Option Addr} {osl : Array (Option Value)} {kV doc pm cdv ct : Value} (l : K.lookup f = some ⟨oc, od, .func (PySem.W.fnOf x qual (defArgs st) (defBody st) (defScope st) .none kV doc pm an cdv ct), osl⟩)
    (c : PySem.W.codeIn K cdv qual = true) (k : PySem.W.keepIn K (.ref f) = true) : Fun K x qual st f (PySem.W.fnOf x qual (defArgs st) (defBody st) (defScope st) .none kV doc pm an cdv ct) := ⟨⟨oc, od, kV, doc, pm, an, cdv, ct, osl, rfl, l, c⟩, k⟩
end
theorem hu_of {A : Around} {k : Nat} (hr : Room k A) : A.units + 1 < cLine := Nat.lt_of_le_of_lt (Nat.add_le_add_left (by decide : 1 ≤ 64) _) hr.units
section
variable {X : Cx}
theorem pv (i : Nat) {x : Str} {pos : Pos} (hN : X.N[i]? = some x := by rfl) (hv : Vis X.env.scope x := by first | exact Or.inl rfl | exact Or.inr (Or.inl rfl) | exact Or.inr (Or.inr rfl)) (hd : (x == ("__debug__" : Str)) = false := by decide)
    (hcd : (x == ("__classdict__" : Str)) = false := by decide) : PE X (.Name x pos) (tVar i) := pe_var hN hv hd hcd
end
theorem iteF {A B : Prop} (h : B) : if false = true then A else B := by
  rw [if_neg Bool.false_ne_true]
  exact h
theorem iteT {A B : Prop} (h : A) : if true = true then A else B := by
  rw [if_pos rfl]
  exact h
def Same (H H' : Hp) : Prop := ∀ b o, H b = some o → H' b = some o
theorem Same.refl (H : Hp) : Same H H := fun _ _ h => h
theorem Same.trans {H H1 H2 : Hp} (a : Same H H1) (b : Same H1 H2) : Same H H2 := fun c o h => b c o (a c o h)
theorem Same.free {H H' : Hp} (e : Same H H') {l : Addr} (h : H' l = Option.none) : H l = Option.none := by
  cases q : H l with
  | none => rfl
  | some o =>
    rw [e l o q] at h
    cases h
theorem Same.seq {K : PySem.W.Frag} {H H' : Hp} {a : Addr} {xs : List V} (e : Same H H') (h : SqL K H a xs) : SqL K H' a xs := by
  rcases h with (h | ⟨o, h⟩) | h
  · exact .inl (.inl (e _ _ h))
  · exact .inl (.inr ⟨o, e _ _ h⟩)
  · exact .inr h
end L2
namespace L2
open PySem PySem.Spec PyProof.Rows
section
variable {X : Cx}
end
section
variable {κ : Type} [DecidableEq κ]
end
end L2
set_option Elab.async false
set_option linter.all false
set_option maxRecDepth 100000
set_option maxHeartbeats 4000000
namespace L2
open PySem PySem.Spec PyProof.Rows
def CMulB (i j : Int) : Prop := ∃ n : Nat, n ≤ 60000000 ∧ i.natAbs < 2 ^ n ∧ j.natAbs < 2 ^ n
theorem bits_le {x : Int} {n : Nat} (h : x.natAbs < 2 ^ n) : Builtin.Int.intBits x ≤ n := by
  unfold Builtin.Int.intBits
  by_cases e : (x == 0) = true
  · rw [if_pos e]; exact Nat.zero_le _
  · rw [if_neg e]
    have hx : x.natAbs ≠ 0 := by
      intro z
      have : x = 0 := by omega
      rw [this] at e
      exact e rfl
    exact (Nat.log2_lt hx).mpr h
theorem CMulB.ok {i j : Int} (h : CMulB i j) : IntMulOk i j := by
  obtain ⟨n, hn, h1, h2⟩ := h
  have b1 := bits_le h1
  have b2 := bits_le h2
  intro z
  simp only [Bool.and_eq_true, Builtin.Int.intTooBig, decide_eq_true_eq] at z
  have e : (bitsLine : Nat) = 134217728 := by decide
  have z2 := z.2
  rw [e] at z2
  omega
def CMulX (i j : Int) : Prop := CMul i j ∨ CMulB i j
def CDivB (_ j : Int) : Prop := j ≠ 0 ∧ j.natAbs < 2 ^ 8000
theorem CDivB.ok {i j : Int} (h : CDivB i j) : Builtin.divisionGoesByPylong i j = false := by
  refine PyProof.noPylong_of_log2 ?_
  have hx : j.natAbs ≠ 0 := by have := h.1; omega
  have := (Nat.log2_lt hx).mpr h.2
  omega
section
variable {X : Cx}
theorem op_mulB : OpR X (binaryOp .Mult) (rI CMulX fun i j => .int (i * j)) := opI fun _ _ _ _ _ _ _ hc q => mul_int q (hc.elim CMul.ok CMulB.ok)
theorem op_fdivB : OpR X (binaryOp .FloorDiv) (rI CDivB fun i j => .int (i.fdiv j)) := opI fun _ _ _ _ _ _ _ hc q => floordiv_int hc.1 q (.inl hc.ok)
end
section
variable {X : Cx} {pins : List (Addr × Obj)} {σ : St} {H : Hp} {s : Shared} {a : Addr} {kvs : List (Key × V)}
end
section
variable {X : Cx}
end
section
variable {X : Cx}
def clsV : V → Option Value
  | .ty n => some (.type n)
  | .ref a => some (.ref a)
  | _ => none
theorem call_isi : CallR X (.builtin "isinstance") (fun xs H Q => ∃ x c t b u, xs = [x, c] ∧ TyOf X.K H x t ∧ clsV c = some u ∧ PySem.W.kitOne X.K t u = some b ∧ Q (.bl b) H) := by
  intro pins s σ H xs us Q I r h
  obtain ⟨x, c, t, b, u, rfl, ty, rc, e, q⟩ := h
  obtain ⟨v, w', rfl, rx, rw'⟩ := vals2 r
  have ew : w' = u := by
    cases c with
    | ref a => cases rc; exact rw'
    | ty n => cases rc; exact rw'
    | non => cases rc
    | bl n => cases rc
    | int i => cases rc
    | str i => cases rc
    | byt i => cases rc
    | flt i => cases rc
  subst ew
  exact isinst_ok I rx ty e fun tk => ⟨.bl b, H, I.tok tk, rfl, q⟩
end
def All2 (R : V → V → Prop) : List V → List V → Prop
  | [], [] => True
  | x :: xs, y :: ys => R x y ∧ All2 R xs ys
  | _, _ => False
theorem All2.length {R : V → V → Prop} : ∀ {xs ys : List V}, All2 R xs ys → xs.length = ys.length
  | [], [], _ => rfl
  | _ :: xs, _ :: ys, h => by rw [List.length_cons, List.length_cons, All2.length h.2]
  | [], _ :: _, h => h.elim
  | _ :: _, [], h => h.elim
theorem All2.get {R : V → V → Prop} : ∀ {xs ys : List V} {j : Nat} {x y : V}, All2 R xs ys → xs[j]? = some x → ys[j]? = some y → R x y
  | x :: xs, y :: ys, 0, _, _, h, e1, e2 => by simp at e1 e2; subst e1 e2; exact h.1
  | _ :: xs, _ :: ys, j + 1, x, y, h, e1, e2 => All2.get (xs := xs) (ys := ys) (j := j) h.2 (by simpa using e1) (by simpa using e2)
  | [], [], _, _, _, _, e1, _ => by simp at e1
  | [], _ :: _, _, _, _, h, _, _ => h.elim
  | _ :: _, [], _, _, _, h, _, _ => h.elim
def EqT (K : PySem.W.Frag) (H : Hp) : Nat → V → V → Prop
  | 0, x, y => flatV x = true ∧ x = y
  | n + 1, x, y => (flatV x = true ∧ x = y) ∨ ∃ p q xs ys, x = .ref p ∧ y = .ref q ∧ ((SqT K H p xs ∧ SqT K H q ys) ∨ (SqL K H p xs ∧ SqL K H q ys)) ∧ All2 (EqT K H n) xs ys
theorem eqV_refl {x : V} (h : flatV x = true) : eqV x x = true := by
  cases x <;> first | rfl | (simp [eqV]; done) | (simp [flatV] at h)
theorem in1_units (A : Around) : A.in1.units = A.units + 1 := rfl
section
variable {X : Cx} {pins : List (Addr × Obj)} {σ : St} {H : Hp} {s : Shared}
theorem rcT_of {A : Around} {p q : Addr} {xs ys : List V} (I : Inv X pins σ H s) (hk : (SqT X.K H p xs ∧ SqT X.K H q ys) ∨ (SqL X.K H p xs ∧ SqL X.K H q ys)) (hu : A.units < cLine) (hl : xs.length = ys.length)
    (he : ∀ (j : Nat) x y u v, xs[j]? = some x → ys[j]? = some y → RelV x u → RelV y v → SeqAt.EqAt A.in1 s u v true) : SeqAt.RcAt A s (.ref p) (.ref q) true := by
  have fin : ∀ (its its2 : List Value), Vals xs its → Vals ys its2 → ∀ j (h1 : j < its.toArray.size) (h2 : j < its2.toArray.size), SeqAt.EqAt A.in1 s its.toArray[j] its2.toArray[j] true := by
    intro its its2 r1 r2 j h1 h2
    have l1 := r1.length
    have l2 := r2.length
    simp only [List.size_toArray] at h1 h2
    obtain ⟨u, hu1, ru⟩ := r1.get (i := j) (x := xs[j]'(by omega)) (by simp)
    obtain ⟨v, hv1, rv⟩ := r2.get (i := j) (x := ys[j]'(by omega)) (by simp)
    have e1 : its.toArray[j]'(by simpa using h1) = u := by
      have := List.getElem?_eq_some_iff.mp hu1
      obtain ⟨_, z⟩ := this
      simpa using z
    have e2 : its2.toArray[j]'(by simpa using h2) = v := by
      have := List.getElem?_eq_some_iff.mp hv1
      obtain ⟨_, z⟩ := this
      simpa using z
    rw [e1, e2]
    exact he j _ _ u v (by simp) (by simp) ru rv
  rcases hk with ⟨h1, h2⟩ | ⟨h1, h2⟩
  · obtain ⟨its, r1, t1, _⟩ := I.tuple h1
    obtain ⟨its2, r2, t2, _⟩ := I.tuple h2
    have l1 := r1.length
    have l2 := r2.length
    have z := SeqAt.RcAt.tuples (A := A) (e := fun _ => true) t1 t2 hu (fin its its2 r1 r2)
    have e : ((List.range (min its.toArray.size its2.toArray.size)).all (fun _ => true) && its.toArray.size == its2.toArray.size) = true := by
      simp only [List.size_toArray]
      simp
      omega
    rw [e] at z
    exact z
  · obtain ⟨its, r1, t1, _⟩ := I.list h1
    obtain ⟨its2, r2, t2, _⟩ := I.list h2
    have l1 := r1.length
    have l2 := r2.length
    have z := SeqAt.RcAt.lists (A := A) (e := fun _ => true) t1.isList t2.isList (by simp; omega) hu (fin its its2 r1 r2)
    have e : (List.range its.toArray.size).all (fun _ => true) = true := by simp
    rw [e] at z
    exact z
theorem eqT_at (I : Inv X pins σ H s) : ∀ (n : Nat) {A : Around} {x y : V} {u v : Value}, EqT X.K H n x y → RelV x u → RelV y v → A.units + n < cLine → SeqAt.EqAt A s u v true
  | 0, A, x, y, u, v, ⟨f, e⟩, ru, rv, _ => by
    subst e
    have z := eqAt_V (A := A) (s := s) ru rv f f
    rw [eqV_refl f] at z
    exact z
  | n + 1, A, x, y, u, v, .inl ⟨f, e⟩, ru, rv, _ => by
    subst e
    have z := eqAt_V (A := A) (s := s) ru rv f f
    rw [eqV_refl f] at z
    exact z
  | n + 1, A, x, y, u, v, .inr ⟨p, q, xs, ys, hx, hy, hk, al⟩, ru, rv, hu => by
    subst hx hy
    cases ru
    cases rv
    by_cases e : p = q
    · subst e
      exact SeqAt.EqAt.same _
    · refine SeqAt.EqAt.of_refs e (rcT_of I hk (by omega) al.length fun j x y u v h1 h2 r1 r2 => ?_)
      exact eqT_at I n (A := A.in1) (al.get h1 h2) r1 r2 (by rw [in1_units]; omega)
end
section
variable {X : Cx}
theorem valueAt_of {kvs : List (Key × V)} {vs : List (Key × Value)} {k : Key} {y : V} (r : KV kvs vs) (e : valV kvs k = some y) : ∃ u, valueAt vs k = some u ∧ RelV y u :=
  RelO.some_of (v := y) (o := valueAt vs k) (by rw [← e]; exact r.val k)
def DEqT (K : PySem.W.Frag) (H : Hp) (n : Nat) (ka kb : List (Key × V)) : Prop := ka.length = kb.length ∧ ∀ k v, (k, v) ∈ ka → ∃ y, valV kb k = some y ∧ EqT K H n v y
theorem hitsT {pins : List (Addr × Obj)} {σ : St} {H : Hp} {s : Shared} {A : Around} {n : Nat} {kb : List (Key × V)} {vb : List (Key × Value)} (I : Inv X pins σ H s) (hu : A.units + n < cLine) (rb : KV kb vb) :
    ∀ {ka : List (Key × V)} {va : List (Key × Value)}, KV ka va → (∀ k v, (k, v) ∈ ka → ∃ y, valV kb k = some y ∧ EqT X.K H n v y) → PySem.W.KeqHits A s vb va true := by
  intro ka va ra
  unfold KV at ra
  induction ra with
  | nil => intro _; exact .nil
  | @cons p q ps qs h t ih =>
    intro f
    obtain ⟨y, e1, e2⟩ := f p.1 p.2 (List.mem_cons_self ..)
    obtain ⟨u, e3, ru⟩ := valueAt_of rb e1
    have z := PySem.W.KeqHits.hit (A := A) (s := s) (k := q.1) (v := q.2) (y := u) (r := qs) (by rw [← h.1]; exact e3) (eqT_at I n (A := A) e2 h.2 ru hu) (ih fun k v m => f k v (List.mem_cons_of_mem _ m))
    simpa using z
end
end L2
namespace L2
open PySem PySem.Spec PyProof.Rows
section
variable {σ : St} {H : Hp} {Q : VK} {D : Ends} {K : PySem.W.Frag}
theorem a_seq {t u : TS} (h : t { D with nx := u D } σ H) : tSeq t u D σ H := h
theorem a_seqM {t u : TS} (M : St → Hp → Prop) (h1 : ∀ R : St → Hp → Prop, (∀ σ H, M σ H → R σ H) → t { D with nx := R } σ H) (h2 : ∀ σ H, M σ H → u D σ H) : tSeq t u D σ H := h1 (u D) h2
theorem a_asg {te : TE} {g : TG} (h : te σ H fun x H1 => g x σ H1 D.nx) : tAsg te g D σ H := h
theorem a_name {i : Nat} {v : V} {R : St → Hp → Prop} (h : R (σ.set i (some v)) H) : gName i v σ H R := h
theorem a_ret {te : TE} (h : te σ H D.rt) : tRet te D σ H := h
theorem a_drop {te : TE} (h : te σ H fun _ H1 => D.nx σ H1) : tDrop te D σ H := h
theorem a_next (h : D.nx σ H) : tNext D σ H := h
theorem a_if {c : TT} {t u : TS} (h : c σ H fun b H1 => if b = true then t D σ H1 else u D σ H1) : tIfS c t u D σ H := h
theorem a_var {i : Nat} {v : V} (e : σ[i]? = some (some v)) (h : Q v H) : tVar i σ H Q := ⟨v, e, h⟩
theorem a_c {v : V} (h : Q v H) : tC v σ H Q := h
theorem a_op {r : R2} {ta tb : TE} (h : ta σ H fun x H1 => tb σ H1 fun y H2 => r x y H2 Q) : tOp r ta tb σ H Q := h
theorem a_un {r : V → Hp → VK → Prop} {ta : TE} (h : ta σ H fun x H1 => r x H1 Q) : tUn r ta σ H Q := h
theorem a_I0 {g : Int → Int → V} {i j : Int} (h : Q (g i j) H) : rI0 g (.int i) (.int j) H Q := ⟨i, j, rfl, rfl, h⟩
theorem a_I {C : Int → Int → Prop} {g : Int → Int → V} {i j : Int} (c : C i j) (h : Q (g i j) H) : rI C g (.int i) (.int j) H Q := ⟨i, j, rfl, rfl, c, h⟩
theorem a_U {g : Int → V} {i : Int} (h : Q (g i) H) : rU g (.int i) H Q := ⟨i, rfl, h⟩
theorem a_test {t : TE} {R : Bool → Hp → Prop} (h : t σ H fun x H' => ∃ k, x = .bl k ∧ R k H') : tTest t σ H R := h
theorem a_tB {t : TE} {R : Bool → Hp → Prop} (h : t σ H fun x H' => ∃ k, x = .bl k ∧ R k H') : tB t σ H R := h
theorem a_bl {k : Bool} {R : Bool → Prop} (h : R k) : ∃ k', V.bl k = .bl k' ∧ R k' := ⟨k, rfl, h⟩
theorem a_eqI {i j : Int} (h : Q (.bl (decide (i = j))) H) : rEq (.int i) (.int j) H Q := ⟨rfl, by rw [dec_int, Bool.beq_eq_decide_eq]; exact h⟩
theorem a_neI {i j : Int} (h : Q (.bl (!decide (i = j))) H) : rNe (.int i) (.int j) H Q := ⟨rfl, by rw [dec_int, Bool.beq_eq_decide_eq]; exact h⟩
theorem a_eqB {i j : Bool} (h : Q (.bl (i == j)) H) : rEq (.bl i) (.bl j) H Q := ⟨rfl, by rw [dec_bl]; exact h⟩
theorem a_call {sp : Sp} {dvs : List V} {E : XK} {t : TA} (h : t σ H fun vs H1 => sp (vs ++ dvs) H1 Q E) : tCall sp dvs E t σ H Q := h
theorem a_cons {ta : TE} {tr : TA} {R : List V → Hp → Prop} (h : ta σ H fun x H1 => tr σ H1 fun xs H2 => R (x :: xs) H2) : tCons ta tr σ H R := h
theorem a_nil {R : List V → Hp → Prop} (h : R [] H) : tNil σ H R := h
theorem a_cb {r : List V → Hp → VK → Prop} {t : TA} (h : t σ H fun vs H1 => r vs H1 Q) : tCB r t σ H Q := h
theorem a_tup {t : TA} (h : t σ H fun xs H1 => xs.length ≤ sizeLine ∧ ∀ p, H1 p = none → Q (.ref p) (upd H1 p (.tup xs))) : tTup t σ H Q := h
theorem a_lst {t : TA} (h : t σ H fun xs H1 => xs.length ≤ sizeLine ∧ ∀ p, H1 p = none → Q (.ref p) (upd H1 p (.lst xs))) : tLst t σ H Q := h
theorem a_ixT {p : Addr} {xs : List V} {i : Int} {v : V} (h : SqT K H p xs) (e : atI xs i = some v) (q : Q v H) : rIxT K (.ref p) (.int i) H Q := ⟨p, xs, i, v, rfl, rfl, h, e, q⟩
theorem a_ixL {p : Addr} {xs : List V} {i : Int} {v : V} (h : SqL K H p xs) (e : atI xs i = some v) (q : Q v H) : rIxL K (.ref p) (.int i) H Q := ⟨p, xs, i, v, rfl, rfl, h, e, q⟩
theorem a_and {t u : TT} {R : Bool → Hp → Prop} (h : t σ H fun c H1 => if c = true then u σ H1 R else R false H1) : tAnd t u σ H R := h
theorem a_or {t u : TT} {R : Bool → Hp → Prop} (h : t σ H fun c H1 => if c = true then R true H1 else u σ H1 R) : tOr t u σ H R := h
theorem a_not {t : TT} {R : Bool → Hp → Prop} (h : t σ H fun c H1 => R (!c) H1) : tNot t σ H R := h
theorem a_andV {ta tb : TE} (h : ta σ H fun x H1 => ∃ c, x = .bl c ∧ if c = true then tb σ H1 Q else Q (.bl false) H1) : tAndV ta tb σ H Q := h
theorem a_notV {ta : TE} (h : ta σ H fun x H1 => ∃ c, x = .bl c ∧ Q (.bl (!c)) H1) : tNotV ta σ H Q := h
theorem a_ifE {t : TT} {ta tb : TE} (h : t σ H fun c H1 => if c = true then ta σ H1 Q else tb σ H1 Q) : tIf t ta tb σ H Q := h
theorem a_par {i j : Nat} {ta : TA} (h : ta σ H fun vs H1 => ∃ v w, vs = [v, w] ∧ D.nx ((σ.set i (some v)).set j (some w)) H1) : tPar i j ta D σ H := h
theorem a_par2 {i j : Nat} {v w : V} {R : St → Hp → Prop} (h : R ((σ.set i (some v)).set j (some w)) H) : ∃ v' w', [v, w] = [v', w'] ∧ R ((σ.set i (some v')).set j (some w')) H := ⟨v, w, rfl, h⟩
theorem iteD {c : Prop} [Decidable c] {A B : Prop} (h1 : c → A) (h2 : ¬ c → B) : if decide c = true then A else B := by
  by_cases h : c
  · rw [decide_eq_true h]; exact iteT (h1 h)
  · rw [decide_eq_false h]; exact iteF (h2 h)
theorem iteDN {c : Prop} [Decidable c] {A B : Prop} (h1 : ¬ c → A) (h2 : c → B) : if (!decide c) = true then A else B := by
  by_cases h : c
  · rw [decide_eq_true h]; exact iteF (h2 h)
  · rw [decide_eq_false h]; exact iteT (h1 h)
theorem iteDF {c : Prop} [Decidable c] {A B : Prop} (hc : ¬ c) (h : B) : if decide c = true then A else B := by rw [decide_eq_false hc]; exact iteF h
theorem Same.upd {a : Addr} {o : HO} (h : H a = none) : Same H (upd H a o) := fun b u e => by rw [upd_ne (ne_of_none e h)]; exact e
theorem Same.tup {H' : Hp} {a : Addr} {xs : List V} (e : Same H H') (h : SqT K H a xs) : SqT K H' a xs := by
  rcases h with (h | ⟨o, h⟩) | h
  · exact .inl (.inl (e _ _ h))
  · exact .inl (.inr ⟨o, e _ _ h⟩)
  · exact .inr h
theorem Same.rd {H' : Hp} {a : Addr} {u : HO} (e : Same H H') (h : Rd H a u) : Rd H' a u := by
  rcases h with h | ⟨o, h⟩
  · exact .inl (e _ _ h)
  · exact .inr ⟨o, e _ _ h⟩
end
end L2
namespace L2
open PySem PySem.Spec PyProof.Rows
section
variable {σ : St} {H : Hp} {Q : VK} {D : Ends} {K : PySem.W.Frag} {X : Cx}
theorem a_gtup2 {i j : Nat} {p : Addr} {x y : V} {R : St → Hp → Prop} (h : SqT K H p [x, y]) (q : R ((σ.set i (some x)).set j (some y)) H) : gTup K 2 (gCons (gName i) (gCons (gName j) gNil)) (.ref p) σ H R :=
  ⟨p, [x, y], rfl, h, rfl, x, [y], rfl, y, [], rfl, rfl, q⟩
theorem a_dput {td ty tv : TE} (h : tv σ H fun v H1 => td σ H1 fun x H2 => ty σ H2 fun y H3 => ∃ a H4, x = .ref a ∧ DPut H3 a y v H4 ∧ D.nx σ H4) : sDPut td ty tv D σ H := h
theorem a_dputK {a : Addr} {x : Str} {v : V} {kvs : List (Key × V)} {R : Hp → Prop} (h : H a = some (.dK kvs)) (hl : kvs.length < 100000) (q : R (upd H a (.dK (putK kvs (Sum.inr x) v)))) : ∃ a' H4, V.ref a = .ref a' ∧ DPut H a' (.str x) v H4 ∧ R H4 :=
  ⟨a, _, rfl, DPut.k (k := Sum.inr x) h (Nat.lt_trans hl (by decide)), q⟩
theorem a_dget {td ty : TE} (h : td σ H fun x H1 => ty σ H1 fun y H2 => ∃ a v, x = .ref a ∧ DGet H2 a y (some v) ∧ Q v H2) : tDGet td ty σ H Q := h
theorem a_dgetK {a : Addr} {x : Str} {v : V} {kvs : List (Key × V)} {R : V → Prop} (h : Rd H a (.dK kvs)) (e : valV kvs (Sum.inr x : Key) = some v) (q : R v) : ∃ a' v', V.ref a = .ref a' ∧ DGet H a' (kV (Sum.inr x)) (some v') ∧ R v' :=
  ⟨a, v, rfl, .inl ⟨kvs, Sum.inr x, h, rfl, e.symm⟩, q⟩
theorem a_dget2 {td ty tx : TE} (h : td σ H fun x H1 => ∃ a, x = .ref a ∧ IsD H1 a ∧ ty σ H1 fun y H2 => tx σ H2 fun z H3 => ∃ o, DGet H3 a y o ∧ Q (o.getD z) H3) : tDGet2 td ty tx σ H Q := h
theorem Same.updN {H' : Hp} {a : Addr} {o : HO} (e : Same H H') (n : H a = none) : Same H (L2.upd H' a o) := fun b u q => by rw [upd_ne (ne_of_none q n)]; exact e b u q
theorem a_sl {r : V → Option Int → Option Int → Hp → VK → Prop} {te : TE} {tl th : TO} (h : te σ H fun x H1 => tl σ H1 fun l H2 => th σ H2 fun u H3 => r x l u H3 Q) : tSl r te tl th σ H Q := h
theorem a_part {t : TE} {R : Option Int → Hp → Prop} (h : t σ H fun x H1 => ∃ i, x = .int i ∧ R (some i) H1) : tPart t σ H R := h
theorem a_pint {i : Int} {R : Int → Prop} (h : R i) : ∃ i', V.int i = .int i' ∧ R i' := ⟨i, rfl, h⟩
theorem a_noPart {R : Option Int → Hp → Prop} (h : R none H) : tNoPart σ H R := h
end
end L2
namespace L2
open PySem PySem.Spec PyProof.Rows
def EqW (P : Program) (w : World) (A : Around) (s : Shared) (u v : Value) : Prop := ∀ (E : Value → Shared → Prop) (Q : Bool → Shared → Prop), Q true s → wpAny (model P w) A (eqBool u v) Q E s
def RcW (P : Program) (w : World) (A : Around) (s : Shared) (u v : Value) : Prop := ∀ (E : Value → Shared → Prop) (Q : Value → Shared → Prop), Q (.bool true) s → wpAny (model P w) A (richCompare .Eq u v) Q E s
section
variable {P : Program} {w : World} {A : Around} {s : Shared}
theorem EqW.of_at {u v : Value} (h : SeqAt.EqAt A s u v true) : EqW P w A s u v := fun E Q q => h P w E Q q
theorem EqW.of_refs {a b : Addr} (h : RcW P w A s (.ref a) (.ref b)) : EqW P w A s (.ref a) (.ref b) := fun E Q q => by
  by_cases e : a = b
  · subst e
    exact SeqAt.EqAt.same _ P w E Q q
  · unfold eqBool
    refine wpAny_holding (wpAny_ite_split (fun z => absurd (Value.ref.inj (eq_of_beq z)) e) fun _ => ?_)
    exact wpAny_bind (h E _ (wpAny_truthy_bool q))
section
open PySem.AutoSeq1 (wpAny_loadPart')
theorem tupW (a b : Addr) (xs ys : Array Value) (n m : Nat) (da db : Option Addr) (sa sb : Array (Option Value)) (hz : xs.size = ys.size) :
    MeetsIn P w (Builtin.«tuple.__eq__» ⟨[.ref a, .ref b], []⟩) (fun A R s => s.heap.get? a = some ⟨.type "tuple", da, .seq xs n, sa⟩ ∧ s.heap.get? b = some ⟨.type "tuple", db, .seq ys m, sb⟩ ∧
      (∀ j (h1 : j < xs.size) (h2 : j < ys.size), EqW P w A.in1 s xs[j] ys[j]) ∧ R (.ok (.ret (.bool true))) s) := by
  refine .of_wp fun A R s h => ?_
  obtain ⟨hp, g, d, tk, os⟩ := s
  obtain ⟨ha, hb, he, hR⟩ := h
  have sub := AutoSeq1.sub_tuple_tuple
  have len : (xs.toList.zip ys.toList).length = xs.size := by simp; omega
  wp_walk using wpAny_loadPart' ha, wpAny_loadPart' hb, wpAny_forIn_list _ (fun r c s' => c.1 = none ∧ s' = ⟨hp, g, d, tk, os⟩ ∧ ∃ i, r = (xs.toList.zip ys.toList).drop i) _
  case turn =>
    rintro ⟨x, y⟩ r c s' ⟨hc, rfl, i, hr⟩
    by_cases lt : i < (xs.toList.zip ys.toList).length
    · rw [List.drop_eq_getElem_cons lt] at hr
      injection hr with e1 e2
      have i1 : i < xs.size := by omega
      have i2 : i < ys.size := by omega
      obtain ⟨ex, ey⟩ : x = xs[i] ∧ y = ys[i] := by
        have z := Prod.mk.inj (e1.trans List.getElem_zip)
        exact ⟨by simpa using z.1, by simpa using z.2⟩
      subst ex ey
      refine wpAny_bind (he i i1 i2 _ _ ?_)
      wp_walk
      exact ⟨rfl, rfl, i + 1, e2⟩
    · rw [List.drop_of_length_le (by omega)] at hr
      cases hr
  case fin =>
    rintro ⟨c1, c2⟩ s' ⟨hc, rfl, _⟩
    simp only at hc
    subst hc
    wp_walk
    refine ⟨_, rfl, ?_⟩
    simpa [Builtin.Tuple.tupleCompareSizes, hz] using hR
  case h => exact ⟨rfl, rfl, 0, rfl⟩
end
theorem RcW.tuples {a b : Addr} {xs ys : Array Value} (ha : IsTup s.heap a xs) (hb : IsTup s.heap b ys) (hz : xs.size = ys.size) (hu : A.units < cLine) (he : ∀ j (h1 : j < xs.size) (h2 : j < ys.size), EqW P w A.in1 s xs[j] ys[j]) : RcW P w A s (.ref a) (.ref b) := fun E Q q => by
  obtain ⟨⟨ca, da, xa, sa⟩, oa, ka, n, va⟩ := id ha
  obtain ⟨⟨cb, db, xb, sb⟩, ob, kb, m, vb⟩ := id hb
  simp only at ka va kb vb
  subst ka va kb vb
  refine wpAny_richCompare_same_room (op := .Eq) (T := "tuple") ⟨_, oa, rfl⟩ ⟨_, ob, rfl⟩ PySem.F.slot_tuple_eq ?_ hu
  exact call_meetsIn PySem.F.slot_tuple_eq ⟨_, oa, rfl⟩ PySem.F.entry_tuple_eq (PySem.F.args_tuple_eq_2 _ _) (tupW a b xs ys n m da db sa sb hz) ⟨oa, ob, he, ⟨(fun z => nomatch z), q⟩⟩
section
open PySem.AutoSeq1 (wpAny_loadPart')
open PySem.MeetsSeq PySem.MeetsSeq2 PySem.MeetsSeq3 PySem.SeqRoads2 PySem.SeqAt
theorem lstLoopW (a b : Addr) (xs ys : Array Value) (n m : Nat) (da db : Option Addr) (sa sb : Array (Option Value)) (hz : xs.size = ys.size) : ∀ (k i : Nat), xs.size - i = k →
    MeetsIn P w (Builtin.«list.__eq__.loop» ⟨[.ref a, .ref b, rawInt i, rawInt 2], []⟩) (fun A R s => s.heap.get? a = some ⟨.type "list", da, .seq xs n, sa⟩ ∧ s.heap.get? b = some ⟨.type "list", db, .seq ys m, sb⟩ ∧
      (∀ j (h1 : j < xs.size) (h2 : j < ys.size), EqW P w A.in1 s xs[j] ys[j]) ∧ R (.ok (.ret (.bool true))) s)
  | 0, i, hk => fun A R s h => by
    obtain ⟨hp, g, d, tk, os⟩ := s
    obtain ⟨ha, hb, he, hR⟩ := h
    wp_walk using wpAny_loadPart' ha, wpAny_loadPart' hb
    have z1 : xs[((i : Nat) : Int).toNat]? = none := by simp; omega
    have z2 : ys[((i : Nat) : Int).toNat]? = none := by simp; omega
    rw [z1, z2]
    wp_walk using wpAny_loadPart' ha, wpAny_loadPart' hb
    show R (.ok (.ret (.bool (xs.size == ys.size)))) _
    rw [hz, beq_self_eq_true]
    exact hR
  | k + 1, i, hk => fun A R s h => by
    obtain ⟨hp, g, d, tk, os⟩ := s
    obtain ⟨ha, hb, he, hR⟩ := h
    wp_walk using wpAny_loadPart' ha, wpAny_loadPart' hb
    have i1 : i < xs.size := by omega
    have i2 : i < ys.size := by omega
    have z1 : xs[((i : Nat) : Int).toNat]? = some xs[i] := by simp [i1]
    have z2 : ys[((i : Nat) : Int).toNat]? = some ys[i] := by simp [i2]
    rw [z1, z2]
    refine wpAny_bind (he i i1 i2 _ _ ?_)
    wp_walk
    have up : ((i : Int) + 1) = ((i + 1 : Nat) : Int) := Int.natCast_succ i
    rw [up]
    refine ⟨plainId_quiet plain_eq_loop _, codeAny_builtin entry_eq_loop ?_⟩
    rw [Around.under_plainId plain_eq_loop _]
    exact lstLoopW a b xs ys n m da db sa sb hz k (i + 1) (by omega) A R _ ⟨ha, hb, he, hR⟩
theorem lstW (a b : Addr) (xs ys : Array Value) (n m : Nat) (da db : Option Addr) (sa sb : Array (Option Value)) (hz : xs.size = ys.size) :
    MeetsIn P w (Builtin.«list.__eq__» ⟨[.ref a, .ref b], []⟩) (fun A R s => s.heap.get? a = some ⟨.type "list", da, .seq xs n, sa⟩ ∧ s.heap.get? b = some ⟨.type "list", db, .seq ys m, sb⟩ ∧
      (∀ j (h1 : j < xs.size) (h2 : j < ys.size), EqW P w A.in1 s xs[j] ys[j]) ∧ R (.ok (.ret (.bool true))) s) := fun A R s h => by
  obtain ⟨hp, g, d, tk, os⟩ := s
  obtain ⟨ha, hb, he, hR⟩ := h
  have sub := AutoSeq1.sub_list_list
  have same : ¬ (xs.size != ys.size) = true := by simp [hz]
  wp_walk using wpAny_loadPart' ha, wpAny_loadPart' hb
  refine ⟨plainId_quiet plain_eq_loop _, codeAny_builtin entry_eq_loop ?_⟩
  rw [Around.under_plainId plain_eq_loop _]
  exact lstLoopW a b xs ys n m da db sa sb hz _ 0 rfl A R _ ⟨ha, hb, he, hR⟩
end
theorem RcW.lists {a b : Addr} {xs ys : Array Value} (ha : s.heap.IsList a xs) (hb : s.heap.IsList b ys) (hz : xs.size = ys.size) (hu : A.units < cLine) (he : ∀ j (h1 : j < xs.size) (h2 : j < ys.size), EqW P w A.in1 s xs[j] ys[j]) : RcW P w A s (.ref a) (.ref b) := fun E Q q => by
  obtain ⟨⟨ca, da, xa, sa⟩, oa, ka, n, va⟩ := id ha
  obtain ⟨⟨cb, db, xb, sb⟩, ob, kb, m, vb⟩ := id hb
  simp only at ka va kb vb
  subst ka va kb vb
  refine wpAny_richCompare_same_room (op := .Eq) (T := "list") ⟨_, oa, rfl⟩ ⟨_, ob, rfl⟩ PySem.F.slot_list_eq ?_ hu
  exact call_meetsIn PySem.F.slot_list_eq ⟨_, oa, rfl⟩ PySem.F.entry_list_eq (PySem.F.args_list_eq_2 _ _) (lstW a b xs ys n m da db sa sb hz) ⟨oa, ob, he, ⟨(fun z => nomatch z), q⟩⟩
end
def EqN (K : PySem.W.Frag) (H : Hp) : Nat → V → V → Prop
  | 0, x, y => flatV x = true ∧ x = y
  | n + 1, x, y => (flatV x = true ∧ x = y) ∨ ∃ p q, x = .ref p ∧ y = .ref q ∧ ((∃ xs ys, ((SqT K H p xs ∧ SqT K H q ys) ∨ (SqL K H p xs ∧ SqL K H q ys)) ∧ All2 (EqN K H n) xs ys) ∨
      ∃ ka kb, Rd H p (.dK ka) ∧ Rd H q (.dK kb) ∧ DEqT K H n ka kb)
section
variable {X : Cx} {pins : List (Addr × Obj)} {σ : St} {H : Hp} {s : Shared}
theorem rcW_seq {A : Around} {p q : Addr} {xs ys : List V} (I : Inv X pins σ H s) (hk : (SqT X.K H p xs ∧ SqT X.K H q ys) ∨ (SqL X.K H p xs ∧ SqL X.K H q ys)) (hu : A.units < cLine) (hl : xs.length = ys.length)
    (he : ∀ (j : Nat) x y u v, xs[j]? = some x → ys[j]? = some y → RelV x u → RelV y v → EqW X.prog X.w A.in1 s u v) : RcW X.prog X.w A s (.ref p) (.ref q) := by
  have fin : ∀ (us vs : List Value), Vals xs us → Vals ys vs → ∀ j (h1 : j < us.toArray.size) (h2 : j < vs.toArray.size), EqW X.prog X.w A.in1 s us.toArray[j] vs.toArray[j] := by
    intro us vs r1 r2 j h1 h2
    have l1 := r1.length
    have l2 := r2.length
    simp only [List.size_toArray] at h1 h2
    obtain ⟨u, e1, ru⟩ := r1.get (i := j) (x := xs[j]'(by omega)) (by simp)
    obtain ⟨v, e2, rv⟩ := r2.get (i := j) (x := ys[j]'(by omega)) (by simp)
    obtain ⟨_, f1⟩ := List.getElem?_eq_some_iff.mp e1
    obtain ⟨_, f2⟩ := List.getElem?_eq_some_iff.mp e2
    have g1 : us.toArray[j]'(by simpa using h1) = u := by simpa using f1
    have g2 : vs.toArray[j]'(by simpa using h2) = v := by simpa using f2
    rw [g1, g2]
    exact he j _ _ u v (by simp) (by simp) ru rv
  rcases hk with ⟨h1, h2⟩ | ⟨h1, h2⟩
  · obtain ⟨us, r1, t1, _⟩ := I.tuple h1
    obtain ⟨vs, r2, t2, _⟩ := I.tuple h2
    have l1 := r1.length
    have l2 := r2.length
    exact RcW.tuples t1 t2 (by simp; omega) hu (fin us vs r1 r2)
  · obtain ⟨us, r1, t1, _⟩ := I.list h1
    obtain ⟨vs, r2, t2, _⟩ := I.list h2
    have l1 := r1.length
    have l2 := r2.length
    exact RcW.lists t1.isList t2.isList (by simp; omega) hu (fin us vs r1 r2)
theorem rcW_dict {A : Around} {p q : Addr} {n : Nat} {ka kb : List (Key × V)} (I : Inv X pins σ H s) (h1 : Rd H p (.dK ka)) (h2 : Rd H q (.dK kb)) (hu : A.units + n + 1 < cLine) (h : DEqT X.K H n ka kb) : RcW X.prog X.w A s (.ref p) (.ref q) := fun E Q hq => by
  obtain ⟨hl, al⟩ := h
  obtain ⟨z1, y1, va, r1, d1⟩ := dk_rd I.hok h1
  obtain ⟨z2, y2, vb, r2, d2⟩ := dk_rd I.hok h2
  have l1 : ka.length = va.length := KV.length r1
  have l2 : kb.length = vb.length := KV.length r2
  refine PySem.W.keq_eq (r := true) y1 y2 d1 d2 (by omega) (fun _ => hitsT I (by rw [in1_units]; omega) r2 r1 al) ?_
  have e : (va.length == vb.length && true) = true := by simp; omega
  rw [e]
  exact hq
theorem eqN_at (I : Inv X pins σ H s) : ∀ (n : Nat) {A : Around} {x y : V} {u v : Value}, EqN X.K H n x y → RelV x u → RelV y v → A.units + n + 1 < cLine → EqW X.prog X.w A s u v
  | 0, A, x, y, u, v, ⟨f, e⟩, ru, rv, _ => by
    subst e
    have z := eqAt_V (A := A) (s := s) ru rv f f
    rw [eqV_refl f] at z
    exact .of_at z
  | n + 1, A, x, y, u, v, .inl ⟨f, e⟩, ru, rv, _ => by
    subst e
    have z := eqAt_V (A := A) (s := s) ru rv f f
    rw [eqV_refl f] at z
    exact .of_at z
  | n + 1, A, x, y, u, v, .inr ⟨p, q, hx, hy, .inl ⟨xs, ys, hk, al⟩⟩, ru, rv, hu => by
    subst hx hy
    cases ru
    cases rv
    refine .of_refs (rcW_seq I hk (by omega) al.length fun j x y u v h1 h2 r1 r2 => ?_)
    exact eqN_at I n (A := A.in1) (al.get h1 h2) r1 r2 (by rw [in1_units]; omega)
  | n + 1, A, x, y, u, v, .inr ⟨p, q, hx, hy, .inr ⟨ka, kb, h1, h2, h⟩⟩, ru, rv, hu => by
    subst hx hy
    cases ru
    cases rv
    exact .of_refs (rcW_dict I h1 h2 (by omega) h)
end
section
variable {X : Cx}
def rEqN (K : PySem.W.Frag) : R2 := fun x y H Q => ∃ n p q xs ys, n ≤ 40 ∧ x = .ref p ∧ y = .ref q ∧ ((SqT K H p xs ∧ SqT K H q ys) ∨ (SqL K H p xs ∧ SqL K H q ys)) ∧ All2 (EqN K H n) xs ys ∧ Q (.bl true) H
end
end L2
namespace Sf
def gd (a b : Int) : Int := (Int.gcd a b : Nat)
theorem gd_zero (a : Int) (h : 0 ≤ a) : gd a 0 = a := by
  unfold gd; rw [Int.gcd_zero_right]; omega
theorem gd_mod {a b : Int} (ha : 0 ≤ a) (hb : 0 < b) : gd b (a % b) = gd a b := by
  unfold gd Int.gcd
  have e : (a % b).natAbs = a.natAbs % b.natAbs := by
    obtain ⟨m, rfl⟩ := Int.eq_ofNat_of_zero_le ha
    obtain ⟨n, rfl⟩ := Int.eq_ofNat_of_zero_le (Int.le_of_lt hb)
    simp only [Int.natAbs_natCast]
    rw [← Int.natCast_emod, Int.natAbs_natCast]
  rw [e, Nat.gcd_comm b.natAbs, Nat.gcd_comm a.natAbs, Nat.gcd_rec b.natAbs a.natAbs]
theorem gd_pos {a b : Int} (h : b ≠ 0) : 0 < gd a b := by
  unfold gd
  have := Int.gcd_pos_of_ne_zero_right a h
  omega
theorem gd_abs (a b : Int) : gd (a.natAbs : Int) (b.natAbs : Int) = gd a b := by
  unfold gd; simp [Int.gcd]
theorem abs_if (a : Int) : (if a < 0 then -a else a) = (a.natAbs : Int) := by split <;> omega
theorem gd_abs' (a b : Int) : gd (if a < 0 then -a else a) (if b < 0 then -b else b) = gd a b := by
  rw [abs_if, abs_if, gd_abs]
def dv (t b : Int) : Int := if b < 0 then -(gd t b) else gd t b
theorem dv_ne {t b : Int} (h : b ≠ 0) : dv t b ≠ 0 := by
  have := gd_pos (a := t) h
  unfold dv; split <;> omega
theorem gd_dvd_l (t b : Int) : gd t b ∣ t := Int.gcd_dvd_left ..
theorem gd_dvd_r (t b : Int) : gd t b ∣ b := Int.gcd_dvd_right ..
theorem dv_dvd_l (t b : Int) : dv t b ∣ t := by
  unfold dv; split
  · exact Int.neg_dvd.mpr (gd_dvd_l t b)
  · exact gd_dvd_l t b
theorem dv_dvd_r (t b : Int) : dv t b ∣ b := by
  unfold dv; split
  · exact Int.neg_dvd.mpr (gd_dvd_r t b)
  · exact gd_dvd_r t b
theorem fd_ex {x d : Int} (h : d ∣ x) : x.fdiv d * d = x := by
  rw [Int.fdiv_mul_cancel h]
theorem part_num {t b : Int} (h : b ≠ 0) : t.fdiv (dv t b) = (Rat.divInt t b).num := by
  have hd := dv_ne (t := t) h
  refine Int.eq_of_mul_eq_mul_right hd ?_
  rw [fd_ex (dv_dvd_l t b), Rat.num_divInt]
  have e : b.gcd t = t.gcd b := Int.gcd_comm ..
  rw [e]
  have hg : ((t.gcd b : Nat) : Int) ∣ t := Int.gcd_dvd_left ..
  have hp := gd_pos (a := t) h
  unfold gd at hp
  unfold dv gd
  rw [Int.mul_ediv_assoc _ hg]
  obtain ⟨k, hk⟩ := hg
  generalize hG : ((t.gcd b : Nat) : Int) = g at *
  have hk2 : t / g = k := by rw [hk]; exact Int.mul_ediv_cancel_left k (by omega)
  rw [hk2]
  split
  · rename_i hb
    rw [Int.sign_eq_neg_one_of_neg hb]; grind
  · rename_i hb
    rw [Int.sign_eq_one_of_pos (by omega)]; grind
theorem part_den {t b : Int} (h : b ≠ 0) : b.fdiv (dv t b) = ((Rat.divInt t b).den : Int) := by
  have hd := dv_ne (t := t) h
  refine Int.eq_of_mul_eq_mul_right hd ?_
  rw [fd_ex (dv_dvd_r t b), Rat.den_divInt, if_neg h]
  have e : b.gcd t = t.gcd b := Int.gcd_comm ..
  rw [e]
  have hg : (t.gcd b) ∣ b.natAbs := by rw [← Int.ofNat_dvd_left]; exact Int.gcd_dvd_right ..
  have hp := gd_pos (a := t) h
  unfold gd at hp
  unfold dv gd
  obtain ⟨k, hk⟩ := hg
  have hk2 : b.natAbs / t.gcd b = k := by rw [hk]; exact Nat.mul_div_cancel_left k (by omega)
  rw [hk2]
  generalize t.gcd b = g at *
  have hk3 : (b.natAbs : Int) = (g : Int) * (k : Int) := by rw [hk]; exact Int.natCast_mul ..
  split <;> grind
theorem den_pos (q : Rat) : 0 < (q.den : Int) := by have := q.den_nz; omega
theorem cross {t b : Int} (h : b ≠ 0) : (Rat.divInt t b).num * b = (Rat.divInt t b).den * t := by
  have := Rat.divInt_num_den (n := t) (d := b) h (n' := (Rat.divInt t b).num) (d' := (Rat.divInt t b).den) (z' := (Rat.divInt t b).den_nz) (c := (Rat.divInt t b).reduced) rfl
  obtain ⟨m, hm, e1, e2⟩ := this
  generalize (Rat.divInt t b).num = n at *
  generalize ((Rat.divInt t b).den : Int) = d at *
  rw [e1, e2]; grind
end Sf
namespace Sf
def Sm (n : Nat) (q : Rat) : Prop := q.num.natAbs < 2 ^ n ∧ q.den < 2 ^ n
theorem divInt_le {t b : Int} (h : b ≠ 0) : (Rat.divInt t b).num.natAbs ≤ t.natAbs ∧ (Rat.divInt t b).den ≤ b.natAbs := by
  obtain ⟨m, hm, e1, e2⟩ := Rat.divInt_num_den (n := t) (d := b) h (n' := (Rat.divInt t b).num) (d' := (Rat.divInt t b).den) (z' := (Rat.divInt t b).den_nz) (c := (Rat.divInt t b).reduced) rfl
  have hm1 : 1 ≤ m.natAbs := by omega
  have a1 := congrArg Int.natAbs e1
  have a2 := congrArg Int.natAbs e2
  rw [Int.natAbs_mul] at a1 a2
  rw [Int.natAbs_natCast] at a2
  constructor
  · rw [a1]; exact Nat.le_mul_of_pos_right _ hm1
  · rw [a2]; exact Nat.le_mul_of_pos_right _ hm1
theorem sm_divInt {n : Nat} {t b : Int} (h : b ≠ 0) (h1 : t.natAbs < 2 ^ n) (h2 : b.natAbs < 2 ^ n) : Sm n (Rat.divInt t b) :=
  ⟨Nat.lt_of_le_of_lt (divInt_le h).1 h1, Nat.lt_of_le_of_lt (divInt_le h).2 h2⟩
theorem add_divInt (a b : Rat) : a + b = Rat.divInt (a.num * b.den + b.num * a.den) (a.den * b.den) := by
  rw [Rat.add_def', ← Rat.divInt_ofNat]
  rfl
theorem sub_divInt (a b : Rat) : a - b = Rat.divInt (a.num * b.den - b.num * a.den) (a.den * b.den) := by
  rw [Rat.sub_def', ← Rat.divInt_ofNat]
  rfl
theorem mul_divInt (a b : Rat) : a * b = Rat.divInt (a.num * b.num) (a.den * b.den) := by
  rw [Rat.mul_def', ← Rat.divInt_ofNat]
  rfl
theorem dens_ne (a b : Rat) : (a.den * b.den : Int) ≠ 0 := by
  have h1 := den_pos a
  have h2 := den_pos b
  exact Int.ne_of_gt (Int.mul_pos h1 h2)
theorem lt_mul {x y n m : Nat} (h1 : x < 2 ^ n) (h2 : y < 2 ^ m) : x * y < 2 ^ (n + m) := by
  rw [Nat.pow_add]
  exact Nat.mul_lt_mul'' h1 h2
theorem abs_mul_lt {x y : Int} {n m : Nat} (h1 : x.natAbs < 2 ^ n) (h2 : y.natAbs < 2 ^ m) : (x * y).natAbs < 2 ^ (n + m) := by
  rw [Int.natAbs_mul]; exact lt_mul h1 h2
theorem abs_add_lt {x y : Int} {n : Nat} (h1 : x.natAbs < 2 ^ n) (h2 : y.natAbs < 2 ^ n) : (x + y).natAbs < 2 ^ (n + 1) := by
  rw [Nat.pow_succ]; omega
theorem abs_sub_lt {x y : Int} {n : Nat} (h1 : x.natAbs < 2 ^ n) (h2 : y.natAbs < 2 ^ n) : (x - y).natAbs < 2 ^ (n + 1) := by
  rw [Nat.pow_succ]; omega
theorem den_abs {n : Nat} {q : Rat} (h : Sm n q) : (q.den : Int).natAbs < 2 ^ n := by rw [Int.natAbs_natCast]; exact h.2
theorem up2 {x : Int} {n m : Nat} (h : x.natAbs < 2 ^ n) (k : n ≤ m) : x.natAbs < 2 ^ m := Nat.lt_of_lt_of_le h (Nat.pow_le_pow_right (by decide) k)
theorem sm_add {n m : Nat} {a b : Rat} (h1 : Sm n a) (h2 : Sm m b) : Sm (n + m + 1) (a + b) := by
  rw [add_divInt]
  refine sm_divInt (dens_ne a b) ?_ ?_
  · refine abs_add_lt (abs_mul_lt h1.1 (den_abs h2)) ?_
    rw [Nat.add_comm n m]; exact abs_mul_lt h2.1 (den_abs h1)
  · exact up2 (abs_mul_lt (den_abs h1) (den_abs h2)) (by omega)
theorem sm_sub {n m : Nat} {a b : Rat} (h1 : Sm n a) (h2 : Sm m b) : Sm (n + m + 1) (a - b) := by
  rw [sub_divInt]
  refine sm_divInt (dens_ne a b) ?_ ?_
  · refine abs_sub_lt (abs_mul_lt h1.1 (den_abs h2)) ?_
    rw [Nat.add_comm n m]; exact abs_mul_lt h2.1 (den_abs h1)
  · exact up2 (abs_mul_lt (den_abs h1) (den_abs h2)) (by omega)
theorem sm_mul {n m : Nat} {a b : Rat} (h1 : Sm n a) (h2 : Sm m b) : Sm (n + m) (a * b) := by
  rw [mul_divInt]
  exact sm_divInt (dens_ne a b) (abs_mul_lt h1.1 h2.1) (abs_mul_lt (den_abs h1) (den_abs h2))
end Sf
namespace Sf
section
variable {κ : Type} [DecidableEq κ]
abbrev FL (κ : Type) := List (κ × Rat)
def gt (m : FL κ) (k : κ) : Option Rat := (m.find? fun p => decide (p.1 = k)).map (·.2)
def pt (m : FL κ) (k : κ) (q : Rat) : FL κ := if (m.any fun p => decide (p.1 = k)) = true then m.map (fun p => if p.1 = k then (p.1, q) else p) else m ++ [(k, q)]
theorem gt_pos {p : κ × Rat} {r : FL κ} {k : κ} (e : p.1 = k) : gt (p :: r) k = some p.2 := by simp [gt, List.find?_cons, e]
theorem gt_neg {p : κ × Rat} {r : FL κ} {k : κ} (e : ¬ p.1 = k) : gt (p :: r) k = gt r k := by simp [gt, List.find?_cons, e]
theorem gt_any (k : κ) : ∀ m : FL κ, (m.any fun p => decide (p.1 = k)) = (gt m k).isSome
  | [] => rfl
  | p :: r => by
    rw [List.any_cons]
    by_cases e : p.1 = k
    · simp [gt_pos e, e]
    · rw [gt_neg e, gt_any k r]; simp [e]
theorem gt_repl (k j : κ) (q : Rat) : ∀ m : FL κ, gt (m.map (fun p => if p.1 = k then (p.1, q) else p)) j = (gt m j).map fun x => if j = k then q else x
  | [] => rfl
  | p :: r => by
    have ih := gt_repl k j q r
    rw [List.map_cons]
    by_cases h : p.1 = k
    · rw [if_pos h]
      by_cases e : p.1 = j
      · rw [gt_pos (p := (p.1, q)) e, gt_pos e]; simp [← e, h]
      · rw [gt_neg (p := (p.1, q)) e, gt_neg e, ih]
    · rw [if_neg h]
      by_cases e : p.1 = j
      · rw [gt_pos e, gt_pos e]; simp [← e, h]
      · rw [gt_neg e, gt_neg e, ih]
theorem gt_snoc (k j : κ) (q : Rat) : ∀ m : FL κ, gt m k = none → gt (m ++ [(k, q)]) j = if j = k then some q else gt m j
  | [], _ => by
    by_cases e : k = j
    · rw [if_pos e.symm]; exact gt_pos (p := (k, q)) e
    · rw [if_neg (Ne.symm e)]; exact gt_neg (p := (k, q)) e
  | p :: r, h => by
    have hk : ¬ p.1 = k := fun z => by rw [gt_pos z] at h; cases h
    rw [gt_neg hk] at h
    have ih := gt_snoc k j q r h
    rw [List.cons_append]
    by_cases e : p.1 = j
    · rw [gt_pos e, gt_pos e, if_neg (fun z => hk (e.trans z))]
    · rw [gt_neg e, gt_neg e, ih]
theorem gt_pt (m : FL κ) (k j : κ) (q : Rat) : gt (pt m k q) j = if j = k then some q else gt m j := by
  unfold pt
  by_cases h : (m.any fun p => decide (p.1 = k)) = true
  · rw [if_pos h, gt_repl]
    rw [gt_any] at h
    by_cases e : j = k
    · subst e
      obtain ⟨x, hx⟩ := Option.isSome_iff_exists.mp h
      simp [hx]
    · simp [e]
  · rw [if_neg h]
    refine gt_snoc k j q m ?_
    rw [gt_any] at h
    cases z : gt m k with
    | none => rfl
    | some _ => rw [z] at h; simp at h
end
end Sf
namespace Sf
section
variable {κ : Type} [DecidableEq κ]
end
end Sf
namespace Sf
section
variable {κ : Type} [DecidableEq κ]
end
end Sf
namespace Sf
section
variable {κ : Type} [DecidableEq κ]
end
end Sf
namespace Sf
section
variable {κ : Type} [DecidableEq κ]
end
end Sf
namespace Sf
section
variable {κ : Type} [DecidableEq κ]
end
end Sf
namespace Sf
open PySem L2
def fr (q : Rat) : List V := [.int q.num, .int (q.den : Int)]
theorem fr0 (q : Rat) : atI (fr q) 0 = some (.int q.num) := rfl
theorem fr1 (q : Rat) : atI (fr q) 1 = some (.int (q.den : Int)) := rfl
end Sf
namespace Vc
open PySem L2 Sf
def Le (F F' : Hp) : Prop := ∀ a u, (∀ o w, u ≠ .frz o w) → Rd F a u → Rd F' a u
theorem Le.refl (F : Hp) : Le F F := fun _ _ _ h => h
theorem Le.trans {F G H : Hp} (a : Le F G) (b : Le G H) : Le F H := fun x u n h => b x u n (a x u n h)
theorem Le.of {F F' : Hp} (e : Same F F') : Le F F' := fun a u _ h => e.rd h
theorem Le.tup {K : PySem.W.Frag} {F F' : Hp} {a : Addr} {xs : List V} (e : Le F F') (h : SqT K F a xs) : SqT K F' a xs := by
  rcases h with h | h
  · exact .inl (e _ _ (by intro o w z; cases z) h)
  · exact .inr h
theorem Le.lst {K : PySem.W.Frag} {F F' : Hp} {a : Addr} {xs : List V} (e : Le F F') (h : SqL K F a xs) : SqL K F' a xs := by
  rcases h with h | h
  · exact .inl (e _ _ (by intro o w z; cases z) h)
  · exact .inr h
theorem Le.dic {F F' : Hp} {a : Addr} {kvs : List (Key × V)} (e : Le F F') (h : Rd F a (.dK kvs)) : Rd F' a (.dK kvs) := e _ _ (by intro o w z; cases z) h
def Fz (S : Addr → Prop) (F : Hp) : Prop := ∀ a o u, F a = some (.frz o u) → S a
abbrev S0 : Addr → Prop := fun _ => False
def frzd (F : Hp) : Addr → Prop := fun a => ∃ o u, F a = some (.frz o u)
structure Gr0 (F H F' H' : Hp) : Prop where
  h : Same H H'
  f : Same F F'
  s : Same F' H'
  n : ∀ a u, F' a = some u → F a = none → H a = none
structure Gr (F H F' H' : Hp) : Prop extends Gr0 F H F' H' where
  z : Fz (frzd F) F'
theorem Gr0.refl {F H : Hp} (s : Same F H) : Gr0 F H F H := ⟨Same.refl _, Same.refl _, s, (fun a u h e => by rw [h] at e; cases e)⟩
theorem Fz.refl (F : Hp) : Fz (frzd F) F := fun _ o u h => ⟨o, u, h⟩
theorem Gr.of {F H F' H' : Hp} (g : Gr0 F H F' H') (z : Fz (frzd F) F') : Gr F H F' H' := ⟨g, z⟩
theorem Gr.le {F H F' H' : Hp} (g : Gr F H F' H') : Le F F' := .of g.f
theorem Gr.fz {F H F' H' : Hp} {S : Addr → Prop} (g : Gr F H F' H') (c : Fz S F) : Fz S F' := fun a o u h => by
  obtain ⟨o', u', e⟩ := g.z a o u h
  exact c a o' u' e
theorem Gr0.trans {F H F1 H1 F2 H2 : Hp} (a : Gr0 F H F1 H1) (b : Gr0 F1 H1 F2 H2) : Gr0 F H F2 H2 :=
  ⟨a.h.trans b.h, a.f.trans b.f, b.s, (fun x u h e => match q : F1 x with
    | none => a.h.free (b.n x u h q)
    | some w => a.n x w q e)⟩
theorem Gr0.tr {F H F1 H1 F2 H2 : Hp} (a : Gr0 F H F1 H1) (b : Gr F1 H1 F2 H2) : Gr0 F H F2 H2 := a.trans b.toGr0
theorem Gr.own {F H F' H' : Hp} (g : Gr F H F' H') {o : Addr} {u : HO} (eF : F o = none) (eH : H o = some u) : F' o = none := by
  cases q : F' o with
  | none => rfl
  | some w => have := g.n o w q eF; rw [eH] at this; cases this
theorem al {F H : Hp} {o : HO} {R : V → Hp → Prop} (wd : Same F H) (nf : ∀ x u, o ≠ .frz x u) (h : ∀ (p : Addr) (F' H' : Hp), Gr F H F' H' → F' p = some o → R (.ref p) H') : ∀ p, H p = none → R (.ref p) (upd H p o) := fun p hp => by
  have fp : F p = none := wd.free hp
  refine h p (upd F p o) (upd H p o) ⟨⟨Same.upd hp, Same.upd fp, ?_, fun a u e q => ?_⟩, fun a x u e => ?_⟩ upd_same
  · intro b u e
    by_cases hb : b = p
    · subst hb; rw [upd_same] at e ⊢; exact e
    · rw [upd_ne hb] at e ⊢; exact wd b u e
  · by_cases hb : a = p
    · subst hb; exact hp
    · rw [upd_ne hb, q] at e; cases e
  · by_cases hb : a = p
    · subst hb; rw [upd_same] at e; exact absurd (Option.some.inj e) (nf x u)
    · rw [upd_ne hb] at e; exact ⟨_, _, e⟩
theorem al1 {F H : Hp} {o : HO} {p : Addr} {R : Hp → Prop} (wd : Same F H) (nf : ∀ x u, o ≠ .frz x u) (hp : H p = none) (h : ∀ F' H' : Hp, Gr F H F' H' → F' p = some o → R H') : R (upd H p o) := by
  have := al (R := fun v H' => ∀ q, v = .ref q → q = p → R H') wd nf (fun q F' H' g e z hz hq => by cases hz; subst hq; exact h F' H' g e) p hp
  exact this p rfl rfl
theorem al2 {F H : Hp} {o : HO} {p : Addr} (wd : Same F H) (nf : ∀ x u, o ≠ .frz x u) (hp : H p = none) : ∃ F', Gr F H F' (upd H p o) ∧ F' p = some o :=
  al1 (R := fun H' => ∃ F', Gr F H F' H' ∧ F' p = some o) wd nf hp fun F' _ g e => ⟨F', g, e⟩
theorem alo2 {Fb Hb F H : Hp} {o : HO} {p : Addr} (gb : Gr0 Fb Hb F H) (hp : H p = none) : Gr0 Fb Hb F (upd H p o) ∧ Same H (upd H p o) ∧ Hb p = none ∧ F p = none ∧ (upd H p o) p = some o ∧ (∀ a u, H a = some u → a ≠ p) :=
  ⟨⟨gb.h.updN (gb.h.free hp), gb.f, gb.s.updN (gb.s.free hp), gb.n⟩, Same.upd hp, gb.h.free hp, gb.s.free hp, upd_same, fun _ _ e => ne_of_none e hp⟩
theorem chg {Fb Hb F H : Hp} {p : Addr} {o : HO} {R : Hp → Prop} (gb : Gr0 Fb Hb F H) (hb : Hb p = none) (hf : F p = none) (h : ∀ H' : Hp, Gr0 Fb Hb F H' → H' p = some o → (∀ a, a ≠ p → H' a = H a) → R H') : R (upd H p o) :=
  h (upd H p o) ⟨gb.h.updN hb, gb.f, gb.s.updN hf, gb.n⟩ upd_same fun _ e => upd_ne e
theorem frz {Fb Hb F H : Hp} {S : Addr → Prop} {p : Addr} {o : HO} (gb : Gr0 Fb Hb F H) (cm : Fz S F) (hb : Hb p = none) (hf : F p = none) (hH : H p = some o) (nf : ∀ x u, o ≠ .frz x u) : ∃ F', Gr0 Fb Hb F' H ∧ Fz S F' ∧ Same F F' ∧ F' p = some o ∧ ∀ a, a ≠ p → F' a = F a := by
  refine ⟨upd F p o, ⟨gb.h, gb.f.trans (Same.upd hf), ?_, fun a u e q => ?_⟩, fun a x u e => ?_, Same.upd hf, upd_same, fun _ e => upd_ne e⟩
  · intro b u e
    by_cases hb : b = p
    · subst hb; rw [upd_same] at e; cases e; exact hH
    · rw [upd_ne hb] at e; exact gb.s b u e
  · by_cases hb' : a = p
    · subst hb'; exact hb
    · rw [upd_ne hb'] at e; exact gb.n a u e q
  · by_cases hb' : a = p
    · subst hb'; rw [upd_same] at e; exact absurd (Option.some.inj e) (nf x u)
    · rw [upd_ne hb'] at e; exact cm a x u e
theorem it2 {K : PySem.W.Frag} {F H : Hp} {i j : Nat} {p : Addr} {x y : V} {σ : St} {R : St → Hp → Prop} (wd : Same F H) (hp : H p = none) (h : ∀ F' H' : Hp, Gr F H F' H' → F' p = some (.tup [x, y]) → R ((σ.set i (some x)).set j (some y)) H') :
    gTup K 2 (gCons (gName i) (gCons (gName j) gNil)) (.ref p) σ (upd H p (.tup [x, y])) R :=
  al1 (R := fun H' => gTup K 2 (gCons (gName i) (gCons (gName j) gNil)) (.ref p) σ H' R) wd (by intro _ _ z; cases z) hp fun F' H' g e => a_gtup2 (SqT.of (g.s _ _ e)) (h F' H' g e)
abbrev Rep (α : Type) := Hp → V → α → Prop
class Mo {α : Type} (A : Rep α) : Prop where
  mo : ∀ {F F' : Hp} {v : V} {x : α}, Le F F' → A F v x → A F' v x
def rI : Rep Int := fun _ v n => v = .int n
def rB : Rep Bool := fun _ v b => v = .bl b
def rS : Rep Str := fun _ v s => v = .str s
def rFr (K : PySem.W.Frag) : Rep Rat := fun F v q => ∃ a, v = .ref a ∧ SqT K F a (fr q)
def r2 (K : PySem.W.Frag) {α β : Type} (A : Rep α) (B : Rep β) : Rep (α × β) := fun F v x => ∃ a v1 v2, v = .ref a ∧ SqT K F a [v1, v2] ∧ A F v1 x.1 ∧ B F v2 x.2
def r5 (K : PySem.W.Frag) {α β γ δ ε : Type} (A : Rep α) (B : Rep β) (C : Rep γ) (D : Rep δ) (E : Rep ε) : Rep (α × β × γ × δ × ε) := fun F v x => ∃ a v1 v2 v3 v4 v5, v = .ref a ∧ SqT K F a [v1, v2, v3, v4, v5] ∧ A F v1 x.1 ∧ B F v2 x.2.1 ∧ C F v3 x.2.2.1 ∧ D F v4 x.2.2.2.1 ∧ E F v5 x.2.2.2.2
def Al {α : Type} (A : Rep α) (F : Hp) : List V → List α → Prop
  | [], [] => True
  | v :: vs, x :: xs => A F v x ∧ Al A F vs xs
  | _, _ => False
def rL (K : PySem.W.Frag) {α : Type} (A : Rep α) : Rep (List α) := fun F v xs => ∃ a vs, v = .ref a ∧ SqL K F a vs ∧ Al A F vs xs
def Dk {α : Type} (A : Rep α) (F : Hp) : List (Key × V) → List (Str × α) → Prop
  | [], [] => True
  | p :: r, x :: s => p.1 = Sum.inr x.1 ∧ A F p.2 x.2 ∧ Dk A F r s
  | _, _ => False
def rD {α : Type} (A : Rep α) : Rep (List (Str × α)) := fun F v m => ∃ a kvs, v = .ref a ∧ Rd F a (.dK kvs) ∧ Dk A F kvs m ∧ (m.map (·.1)).Nodup
instance : Mo rI := ⟨fun _ h => h⟩
instance : Mo rB := ⟨fun _ h => h⟩
instance : Mo rS := ⟨fun _ h => h⟩
instance {K : PySem.W.Frag} : Mo (rFr K) := ⟨fun e ⟨a, h1, h2⟩ => ⟨a, h1, e.tup h2⟩⟩
instance {K : PySem.W.Frag} {α β : Type} {A : Rep α} {B : Rep β} [Mo A] [Mo B] : Mo (r2 K A B) := ⟨fun e ⟨a, v1, v2, h1, h2, h3, h4⟩ => ⟨a, v1, v2, h1, e.tup h2, Mo.mo e h3, Mo.mo e h4⟩⟩
instance {K : PySem.W.Frag} {α β γ δ ε : Type} {A : Rep α} {B : Rep β} {C : Rep γ} {D : Rep δ} {E : Rep ε} [Mo A] [Mo B] [Mo C] [Mo D] [Mo E] : Mo (r5 K A B C D E) :=
  ⟨fun e ⟨a, v1, v2, v3, v4, v5, h1, h2, h3, h4, h5, h6, h7⟩ => ⟨a, v1, v2, v3, v4, v5, h1, e.tup h2, Mo.mo e h3, Mo.mo e h4, Mo.mo e h5, Mo.mo e h6, Mo.mo e h7⟩⟩
theorem Al.mo {α : Type} {A : Rep α} [Mo A] {F F' : Hp} (e : Le F F') : ∀ {vs : List V} {xs : List α}, Al A F vs xs → Al A F' vs xs
  | [], [], _ => True.intro
  | _ :: _, _ :: _, h => ⟨Mo.mo e h.1, Al.mo e h.2⟩
  | [], _ :: _, h => h.elim
  | _ :: _, [], h => h.elim
theorem Al.length {α : Type} {A : Rep α} {F : Hp} : ∀ {vs : List V} {xs : List α}, Al A F vs xs → vs.length = xs.length
  | [], [], _ => rfl
  | _ :: vs, _ :: xs, h => by rw [List.length_cons, List.length_cons, Al.length h.2]
  | [], _ :: _, h => h.elim
  | _ :: _, [], h => h.elim
theorem Al.get {α : Type} {A : Rep α} {F : Hp} : ∀ {vs : List V} {xs : List α} {i : Nat} {v : V}, Al A F vs xs → vs[i]? = some v → ∃ x, xs[i]? = some x ∧ A F v x
  | v :: vs, x :: xs, 0, w, h, e => by simp at e; subst e; exact ⟨x, rfl, h.1⟩
  | v :: vs, x :: xs, i + 1, w, h, e => by
    obtain ⟨y, h1, h2⟩ := Al.get (i := i) h.2 (by simpa using e)
    exact ⟨y, by simpa using h1, h2⟩
  | [], [], _, _, _, e => by simp at e
  | [], _ :: _, _, _, h, _ => h.elim
  | _ :: _, [], _, _, h, _ => h.elim
theorem Al.at {α : Type} {A : Rep α} {F : Hp} {vs : List V} {xs : List α} {i : Nat} {x : α} (h : Al A F vs xs) (e : xs[i]? = some x) : ∃ v, vs[i]? = some v ∧ A F v x := by
  have hl := h.length
  have hi : i < vs.length := by rw [hl]; exact (List.getElem?_eq_some_iff.mp e).1
  obtain ⟨y, h1, h2⟩ := h.get (i := i) (v := vs[i]) (by simp)
  rw [e] at h1
  cases h1
  exact ⟨_, by simp, h2⟩
theorem Al.app {α : Type} {A : Rep α} {F : Hp} : ∀ {vs ws : List V} {xs ys : List α}, Al A F vs xs → Al A F ws ys → Al A F (vs ++ ws) (xs ++ ys)
  | [], _, [], _, _, h => h
  | _ :: _, _, _ :: _, _, h, g => ⟨h.1, Al.app h.2 g⟩
  | [], _, _ :: _, _, h, _ => h.elim
  | _ :: _, _, [], _, h, _ => h.elim
theorem Al.snoc {α : Type} {A : Rep α} {F : Hp} {vs : List V} {xs : List α} {v : V} {x : α} (h : Al A F vs xs) (g : A F v x) : Al A F (vs ++ [v]) (xs ++ [x]) := h.app ⟨g, True.intro⟩
theorem al_ints {F : Hp} : ∀ {ns : List Int}, Al rI F (ns.map V.int) ns
  | [] => True.intro
  | _ :: ns => ⟨rfl, al_ints⟩
theorem Dk.mo {α : Type} {A : Rep α} [Mo A] {F F' : Hp} (e : Le F F') : ∀ {vs : List (Key × V)} {xs : List (Str × α)}, Dk A F vs xs → Dk A F' vs xs
  | [], [], _ => True.intro
  | _ :: _, _ :: _, h => ⟨h.1, Mo.mo e h.2.1, Dk.mo e h.2.2⟩
  | [], _ :: _, h => h.elim
  | _ :: _, [], h => h.elim
theorem Dk.length {α : Type} {A : Rep α} {F : Hp} : ∀ {vs : List (Key × V)} {xs : List (Str × α)}, Dk A F vs xs → vs.length = xs.length
  | [], [], _ => rfl
  | _ :: vs, _ :: xs, h => by rw [List.length_cons, List.length_cons, Dk.length h.2.2]
  | [], _ :: _, h => h.elim
  | _ :: _, [], h => h.elim
instance {K : PySem.W.Frag} {α : Type} {A : Rep α} [Mo A] : Mo (rL K A) := ⟨fun e ⟨a, vs, h1, h2, h3⟩ => ⟨a, vs, h1, e.lst h2, h3.mo e⟩⟩
instance {α : Type} {A : Rep α} [Mo A] : Mo (rD A) := ⟨fun e ⟨a, kvs, h1, h2, h3, h4⟩ => ⟨a, kvs, h1, e.dic h2, h3.mo e, h4⟩⟩
theorem Dk.get {α : Type} {A : Rep α} {F : Hp} : ∀ {kvs : List (Key × V)} {m : List (Str × α)} {i : Nat} {k : Key} {v : V}, Dk A F kvs m → kvs[i]? = some (k, v) → ∃ x y, m[i]? = some (x, y) ∧ k = Sum.inr x ∧ A F v y
  | p :: r, x :: s, 0, k, v, h, e => by
    simp at e
    subst e
    exact ⟨x.1, x.2, rfl, h.1, h.2.1⟩
  | p :: r, x :: s, i + 1, k, v, h, e => by
    obtain ⟨x', y, e1, e2⟩ := Dk.get (i := i) h.2.2 (by simpa using e)
    exact ⟨x', y, by simpa using e1, e2⟩
  | [], [], i, _, _, _, e => by simp at e
  | [], _ :: _, _, _, _, h, _ => h.elim
  | _ :: _, [], _, _, _, h, _ => h.elim
section
variable {α : Type}
def gtd (m : List (Str × α)) (k : Str) : Option α := (m.find? fun p => decide (p.1 = k)).map (·.2)
def ptd (m : List (Str × α)) (k : Str) (y : α) : List (Str × α) := if (m.any fun p => decide (p.1 = k)) = true then m.map (fun p => if p.1 = k then (p.1, y) else p) else m ++ [(k, y)]
theorem gtd_pos {p : Str × α} {r : List (Str × α)} {k : Str} (e : p.1 = k) : gtd (p :: r) k = some p.2 := by simp [gtd, List.find?_cons, e]
theorem gtd_neg {p : Str × α} {r : List (Str × α)} {k : Str} (e : ¬ p.1 = k) : gtd (p :: r) k = gtd r k := by simp [gtd, List.find?_cons, e]
theorem gtd_any (k : Str) : ∀ m : List (Str × α), (m.any fun p => decide (p.1 = k)) = (gtd m k).isSome
  | [] => rfl
  | p :: r => by
    rw [List.any_cons, gtd_any k r]
    by_cases e : p.1 = k
    · rw [gtd_pos e, decide_eq_true e]; rfl
    · rw [gtd_neg e, decide_eq_false e]; rfl
theorem Dk.val {A : Rep α} {F : Hp} (x : Str) : ∀ {kvs : List (Key × V)} {m : List (Str × α)}, Dk A F kvs m → (valV kvs (Sum.inr x : Key) = none ∧ gtd m x = none) ∨ ∃ v y, valV kvs (Sum.inr x : Key) = some v ∧ gtd m x = some y ∧ A F v y
  | [], [], _ => .inl ⟨rfl, rfl⟩
  | p :: r, y :: s, h => by
    by_cases e : y.1 = x
    · have e2 : p.1 = (Sum.inr x : Key) := by rw [h.1, e]
      exact .inr ⟨p.2, y.2, by rw [valV_pos e2], gtd_pos e, h.2.1⟩
    · have e2 : ¬ p.1 = (Sum.inr x : Key) := by rw [h.1]; exact fun z => e (Sum.inr.inj z)
      rw [valV_neg e2, gtd_neg e]
      exact Dk.val x h.2.2
  | [], _ :: _, h => h.elim
  | _ :: _, [], h => h.elim
theorem Dk.some {A : Rep α} {F : Hp} {x : Str} {y : α} {kvs : List (Key × V)} {m : List (Str × α)} (h : Dk A F kvs m) (e : gtd m x = some y) : ∃ v, valV kvs (Sum.inr x : Key) = some v ∧ A F v y := by
  rcases h.val x with ⟨_, h2⟩ | ⟨v, y', h1, h2, h3⟩
  · rw [e] at h2; cases h2
  · rw [e] at h2; cases h2; exact ⟨v, h1, h3⟩
theorem Dk.any {A : Rep α} {F : Hp} (x : Str) {kvs : List (Key × V)} {m : List (Str × α)} (h : Dk A F kvs m) : (kvs.any fun kv => decide (kv.1 = (Sum.inr x : Key))) = (m.any fun p => decide (p.1 = x)) := by
  rw [valV_any, gtd_any]
  rcases h.val x with ⟨h1, h2⟩ | ⟨a, q, h1, h2, _⟩
  · rw [h1, h2]; rfl
  · rw [h1, h2]; rfl
theorem Dk.snoc {A : Rep α} {F : Hp} {x : Str} {y : α} {v : V} (hv : A F v y) : ∀ {kvs : List (Key × V)} {m : List (Str × α)}, Dk A F kvs m → Dk A F (kvs ++ [(Sum.inr x, v)]) (m ++ [(x, y)])
  | [], [], _ => ⟨rfl, hv, True.intro⟩
  | _ :: _, _ :: _, h => ⟨h.1, h.2.1, Dk.snoc hv h.2.2⟩
  | [], _ :: _, h => h.elim
  | _ :: _, [], h => h.elim
theorem Dk.repl {A : Rep α} {F : Hp} {x : Str} {y : α} {v : V} (hv : A F v y) : ∀ {kvs : List (Key × V)} {m : List (Str × α)}, Dk A F kvs m →
    Dk A F (kvs.map fun kv => if kv.1 = (Sum.inr x : Key) then (kv.1, v) else kv) (m.map fun p => if p.1 = x then (p.1, y) else p)
  | [], [], _ => True.intro
  | p :: r, z :: s, h => by
    have ih := Dk.repl (x := x) hv h.2.2
    rw [List.map_cons, List.map_cons]
    by_cases e : z.1 = x
    · have e2 : p.1 = (Sum.inr x : Key) := by rw [h.1, e]
      rw [if_pos e2, if_pos e]
      exact ⟨h.1, hv, ih⟩
    · have e2 : ¬ p.1 = (Sum.inr x : Key) := by rw [h.1]; exact fun z => e (Sum.inr.inj z)
      rw [if_neg e2, if_neg e]
      exact ⟨h.1, h.2.1, ih⟩
  | [], _ :: _, h => h.elim
  | _ :: _, [], h => h.elim
theorem Dk.put {A : Rep α} {F : Hp} {x : Str} {y : α} {v : V} (hv : A F v y) {kvs : List (Key × V)} {m : List (Str × α)} (h : Dk A F kvs m) : Dk A F (putK kvs (Sum.inr x : Key) v) (ptd m x y) := by
  unfold putK ptd
  rw [h.any x]
  split
  · exact h.repl hv
  · exact h.snoc hv
end
def bl (n : Nat) : Nat := if n = 0 then 0 else Nat.log2 n + 1
theorem bl_lt {n k : Nat} : n < 2 ^ k ↔ bl n ≤ k := by
  unfold bl
  by_cases h : n = 0
  · subst h; simp [Nat.two_pow_pos]
  · rw [if_neg h, ← Nat.log2_lt h]; omega
theorem bl_self (n : Nat) : n < 2 ^ bl n := bl_lt.mpr (Nat.le_refl _)
def bi (x : Int) : Nat := bl x.natAbs
def bs (q : Rat) : Nat := max (bl q.num.natAbs) (bl q.den)
theorem sm_of {q : Rat} {n : Nat} (h : bs q ≤ n) : Sm n q := ⟨bl_lt.mpr (by unfold bs at h; omega), bl_lt.mpr (by unfold bs at h; omega)⟩
theorem of_sm {q : Rat} {n : Nat} (h : Sm n q) : bs q ≤ n := by
  have h1 := bl_lt.mp h.1
  have h2 := bl_lt.mp h.2
  unfold bs
  omega
theorem sm_bs (q : Rat) : Sm (bs q) q := sm_of (Nat.le_refl _)
theorem bs_add (a b : Rat) : bs (a + b) ≤ bs a + bs b + 1 := of_sm (sm_add (sm_bs a) (sm_bs b))
theorem bs_sub (a b : Rat) : bs (a - b) ≤ bs a + bs b + 1 := of_sm (sm_sub (sm_bs a) (sm_bs b))
theorem bs_mul (a b : Rat) : bs (a * b) ≤ bs a + bs b := of_sm (sm_mul (sm_bs a) (sm_bs b))
theorem bs_zero : bs 0 = 1 := by decide +kernel
theorem bi_lt {x : Int} {k : Nat} (h : x.natAbs < 2 ^ k) : bi x ≤ k := bl_lt.mp h
theorem lt_bi {x : Int} {k : Nat} (h : bi x ≤ k) : x.natAbs < 2 ^ k := bl_lt.mpr h
theorem bi_mul (x y : Int) : bi (x * y) ≤ bi x + bi y := bl_lt.mp (abs_mul_lt (bl_self _) (bl_self _))
theorem bi_add (x y : Int) : bi (x + y) ≤ max (bi x) (bi y) + 1 := by
  have h1 : x.natAbs < 2 ^ (max (bi x) (bi y)) := Nat.lt_of_lt_of_le (bl_self _) (Nat.pow_le_pow_right (by decide) (Nat.le_max_left _ _))
  have h2 : y.natAbs < 2 ^ (max (bi x) (bi y)) := Nat.lt_of_lt_of_le (bl_self _) (Nat.pow_le_pow_right (by decide) (Nat.le_max_right _ _))
  exact bl_lt.mp (abs_add_lt h1 h2)
theorem bi_sub (x y : Int) : bi (x - y) ≤ max (bi x) (bi y) + 1 := by
  have h1 : x.natAbs < 2 ^ (max (bi x) (bi y)) := Nat.lt_of_lt_of_le (bl_self _) (Nat.pow_le_pow_right (by decide) (Nat.le_max_left _ _))
  have h2 : y.natAbs < 2 ^ (max (bi x) (bi y)) := Nat.lt_of_lt_of_le (bl_self _) (Nat.pow_le_pow_right (by decide) (Nat.le_max_right _ _))
  exact bl_lt.mp (abs_sub_lt h1 h2)
theorem bi_small {x : Int} (k : Nat) (h : x.natAbs < 2 ^ k) : bi x ≤ k := bl_lt.mp h
theorem bi_num (q : Rat) : bi q.num ≤ bs q := by unfold bi bs; omega
theorem bi_den (q : Rat) : bi (q.den : Int) ≤ bs q := by unfold bi bs; rw [Int.natAbs_natCast]; omega
theorem bs_divInt {t b : Int} (h : b ≠ 0) {k : Nat} (h1 : bi t ≤ k) (h2 : bi b ≤ k) : bs (Rat.divInt t b) ≤ k := of_sm (sm_divInt h (lt_bi h1) (lt_bi h2))
theorem mulBB {x y : Int} (h1 : bi x ≤ 60000000) (h2 : bi y ≤ 60000000) : CMulX x y := .inr ⟨60000000, Nat.le_refl _, lt_bi h1, lt_bi h2⟩
theorem mulL2 {x y : Int} (h1 : -18446744073709551616 < x) (h2 : x < 18446744073709551616) : CMulX x y := .inl (.inl ⟨by omega, by omega⟩)
theorem mulR2 {x y : Int} (h1 : -18446744073709551616 < y) (h2 : y < 18446744073709551616) : CMulX x y := .inl (.inr ⟨by omega, by omega⟩)
theorem divB {x y : Int} (h0 : y ≠ 0) (h1 : bi y ≤ 8000) : CDivB x y := ⟨h0, lt_bi h1⟩
section
variable {σ : St} {H : Hp} {Q : VK} {D : Ends} {K : PySem.W.Frag}
theorem a_eqS {x y : Str} (h : Q (.bl (decide (x = y))) H) : rEq (.str x) (.str y) H Q := ⟨rfl, by
  have e : decide (V.str x = V.str y) = decide (x = y) := by
    by_cases q : x = y
    · subst q; simp
    · rw [decide_eq_false q, decide_eq_false (fun z => q (V.str.inj z))]
  rw [e]; exact h⟩
theorem iteB {b : Bool} {A B : Prop} (h1 : b = true → A) (h2 : b = false → B) : if b = true then A else B := by
  cases b
  · exact iteF (h2 rfl)
  · exact iteT (h1 rfl)
theorem iteNB {b : Bool} {A B : Prop} (h1 : b = false → A) (h2 : b = true → B) : if (!b) = true then A else B := by
  cases b
  · exact iteT (h1 rfl)
  · exact iteF (h2 rfl)
theorem fr_int (n : Int) : fr ((n : Int) : Rat) = [.int n, .int 1] := by
  unfold fr
  rw [Rat.num_intCast, Rat.den_intCast]
  rfl
end
def TyX (K : PySem.W.Frag) (H : Hp) (x : V) (t : Value) : Prop := TyOf K H x t ∨ (t = .type "tuple" ∧ ∃ a xs, x = .ref a ∧ SqT K H a xs) ∨ (t = .type "list" ∧ ∃ a xs, x = .ref a ∧ SqL K H a xs) ∨ (t = .type "dict" ∧ ∃ a kvs, x = .ref a ∧ Rd H a (.dK kvs))
section
variable {K : PySem.W.Frag} {H : Hp}
theorem tx_tup {a : Addr} {xs : List V} (h : SqT K H a xs) : TyX K H (.ref a) (.type "tuple") := .inr (.inl ⟨rfl, a, xs, rfl, h⟩)
theorem tx_int {i : Int} : TyX K H (.int i) (.type "int") := .inl (.int i)
end
section
open PySem.Spec PyProof.Rows
variable {X : Cx}
theorem call_isx : CallR X (.builtin "isinstance") (fun xs H Q => ∃ x c t b u, xs = [x, c] ∧ TyX X.K H x t ∧ clsV c = some u ∧ PySem.W.kitOne X.K t u = some b ∧ Q (.bl b) H) := by
  intro pins s σ H xs us Q I r h
  obtain ⟨x, c, t, b, u, rfl, ty, rc, e, q⟩ := h
  rcases ty with ty | ⟨rfl, a, ys, rfl, hs⟩ | ⟨rfl, a, ys, rfl, hs⟩ | ⟨rfl, a, kvs, rfl, hs⟩
  · exact call_isi pins s σ H [x, c] us Q I r ⟨x, c, t, b, u, rfl, ty, rc, e, q⟩
  all_goals
    obtain ⟨v, w', rfl, rx, rw'⟩ := vals2 r
    have ew : w' = u := by
      cases c with
      | ref a => cases rc; exact rw'
      | ty n => cases rc; exact rw'
      | non => cases rc
      | bl n => cases rc
      | int i => cases rc
      | str i => cases rc
      | byt i => cases rc
      | flt i => cases rc
    subst ew
    cases (show v = Value.ref a from rx)
  · obtain ⟨its, _, p, _⟩ := I.tuple hs
    obtain ⟨o, h1, h2, _⟩ := p
    exact PySem.W.kia_one PySem.W.kitx_tuple I.kIn ⟨o, h1, h2⟩ e (fun z => nomatch z) fun tk => ⟨.bl b, H, I.tok tk, rfl, q⟩
  · obtain ⟨its, _, p, _⟩ := I.list hs
    obtain ⟨o, h1, h2, _⟩ := p.isList
    exact PySem.W.kia_one PySem.W.kitx_list I.kIn ⟨o, h1, h2⟩ e (fun z => nomatch z) fun tk => ⟨.bl b, H, I.tok tk, rfl, q⟩
  · obtain ⟨_, _, vs, _, p⟩ := dk_rd I.hok hs
    obtain ⟨o, es, ep, h1, h2, _⟩ := p
    exact PySem.W.kia_one PySem.W.kitx_dict I.kIn ⟨o, h1, h2.1⟩ e (fun z => nomatch z) fun tk => ⟨.bl b, H, I.tok tk, rfl, q⟩
end
theorem Al.ix {α : Type} {A : Rep α} {F : Hp} {vs : List V} {xs : List α} (h : Al A F vs xs) {i : Int} (h0 : 0 ≤ i) (h1 : i < xs.length) : ∃ x v, xs[i.toNat]? = some x ∧ atI vs i = some v ∧ A F v x := by
  have hi : i.toNat < xs.length := by omega
  obtain ⟨v, e1, e2⟩ := h.at (i := i.toNat) (x := xs[i.toNat]) (by simp [hi])
  refine ⟨xs[i.toNat], v, by simp [hi], ?_, e2⟩
  have := atI_nat e1
  rw [Int.toNat_of_nonneg h0] at this
  exact this
theorem nd_ptd {α : Type} {m : List (Str × α)} (n : (m.map (·.1)).Nodup) (k : Str) (y : α) : ((ptd m k y).map (·.1)).Nodup := by
  unfold ptd
  split
  · rw [List.map_map]
    have e : (m.map ((·.1) ∘ fun p => if p.1 = k then (p.1, y) else p)) = m.map (·.1) := by
      apply List.map_congr_left
      intro p _
      simp only [Function.comp]
      split <;> rfl
    rw [e]; exact n
  · rename_i h
    rw [List.map_append, List.nodup_append]
    refine ⟨n, by simp, ?_⟩
    intro a ha b hb e
    simp at hb
    subst hb
    subst e
    obtain ⟨p, hp, hk⟩ := List.mem_map.mp ha
    apply h
    rw [List.any_eq_true]
    exact ⟨p, hp, by simp [hk]⟩
def cutA {α : Type} (xs : List α) (lo hi : Option Int) : List α := (xs.drop (HT.sIx xs.length 0 lo)).take (HT.sIx xs.length xs.length hi - HT.sIx xs.length 0 lo)
theorem cutA_le {α : Type} (xs : List α) (lo hi : Option Int) : (cutA xs lo hi).length ≤ xs.length := by
  unfold cutA
  rw [List.length_take, List.length_drop]
  omega
theorem Al.drop {α : Type} {A : Rep α} {F : Hp} : ∀ (n : Nat) {vs : List V} {xs : List α}, Al A F vs xs → Al A F (vs.drop n) (xs.drop n)
  | 0, _, _, h => h
  | _ + 1, [], [], _ => True.intro
  | n + 1, _ :: _, _ :: _, h => Al.drop n h.2
  | _ + 1, [], _ :: _, h => h.elim
  | _ + 1, _ :: _, [], h => h.elim
theorem Al.take {α : Type} {A : Rep α} {F : Hp} : ∀ (n : Nat) {vs : List V} {xs : List α}, Al A F vs xs → Al A F (vs.take n) (xs.take n)
  | 0, _, _, _ => True.intro
  | _ + 1, [], [], _ => True.intro
  | n + 1, _ :: _, _ :: _, h => ⟨h.1, Al.take n h.2⟩
  | _ + 1, [], _ :: _, h => h.elim
  | _ + 1, _ :: _, [], h => h.elim
theorem Al.cut {α : Type} {A : Rep α} {F : Hp} {vs : List V} {xs : List α} (lo hi : Option Int) (h : Al A F vs xs) : Al A F (cutV vs lo hi) (cutA xs lo hi) := by
  unfold cutV cutA
  rw [h.length]
  exact (h.drop _).take _
end Vc
namespace Vc
open PySem L2 Sf
section
variable {X : Cx} {pins : List (Addr × Obj)} {σ : St} {F H : Hp} {s : Shared} {Au : Around}
theorem rel_fun : ∀ {x y : V} {u : Value}, RelV x u → RelV y u → x = y := by
  intro x y u h1 h2
  cases x <;> cases y <;> simp only [RelV] at h1 h2 <;> first
    | rfl
    | (subst h1; simp at h2; subst h2; rfl)
    | (subst h1; simp at h2; done)
    | (obtain ⟨t, rfl⟩ := h1; obtain ⟨t', e⟩ := h2; simp at e; rw [e.1])
    | (obtain ⟨t, rfl⟩ := h1; simp at h2; done)
    | (obtain ⟨t, rfl⟩ := h2; simp at h1; done)
theorem vals_fun : ∀ {xs ys : List V} {us : List Value}, Vals xs us → Vals ys us → xs = ys
  | [], [], _, _, _ => rfl
  | _ :: _, _ :: _, _, .cons h t, .cons h' t' => by rw [rel_fun h h', vals_fun t t']
  | [], _ :: _, _, h, h' => by cases h; cases h'
  | _ :: _, [], _, h, h' => by cases h'; cases h
theorem sqT_fun {a : Addr} {xs ys : List V} (I : Inv X pins σ H s) (h1 : SqT X.K H a xs) (h2 : SqT X.K H a ys) : xs = ys := by
  obtain ⟨us, r1, ⟨o1, g1, c1, n1, d1⟩, _⟩ := I.tuple h1
  obtain ⟨ws, r2, ⟨o2, g2, c2, n2, d2⟩, _⟩ := I.tuple h2
  rw [g1] at g2
  cases g2
  rw [d1] at d2
  injection d2 with e _
  have : us = ws := by simpa using e
  subst this
  exact vals_fun r1 r2
theorem rc_tups {a b : Addr} {xs ys : List V} (I : Inv X pins σ H s) (h1 : SqT X.K H a xs) (h2 : SqT X.K H b ys) (hu : Au.units < cLine) (hl : xs.length = ys.length) (e : Nat → Bool)
    (he : ∀ (j : Nat) x y u v, xs[j]? = some x → ys[j]? = some y → RelV x u → RelV y v → SeqAt.EqAt Au.in1 s u v (e j)) : SeqAt.RcAt Au s (.ref a) (.ref b) ((List.range xs.length).all e) := by
  obtain ⟨us, r1, t1, _⟩ := I.tuple h1
  obtain ⟨ws, r2, t2, _⟩ := I.tuple h2
  have l1 := r1.length
  have l2 := r2.length
  have z := SeqAt.RcAt.tuples (A := Au) (e := e) t1 t2 hu (fun j h1 h2 => ?_)
  · have e0 : ((List.range (min us.toArray.size ws.toArray.size)).all e && us.toArray.size == ws.toArray.size) = (List.range xs.length).all e := by
      simp only [List.size_toArray]
      have e1 : min us.length ws.length = xs.length := by omega
      have e2 : (us.length == ws.length) = true := by simp; omega
      rw [e1, e2, Bool.and_true]
    rw [e0] at z
    exact z
  · simp only [List.size_toArray] at h1 h2
    obtain ⟨u, e1, ru⟩ := r1.get (i := j) (x := xs[j]'(by omega)) (by simp)
    obtain ⟨v, e2, rv⟩ := r2.get (i := j) (x := ys[j]'(by omega)) (by simp)
    obtain ⟨_, f1⟩ := List.getElem?_eq_some_iff.mp e1
    obtain ⟨_, f2⟩ := List.getElem?_eq_some_iff.mp e2
    have g1 : us.toArray[j]'(by simpa using h1) = u := by simpa using f1
    have g2 : ws.toArray[j]'(by simpa using h2) = v := by simpa using f2
    rw [g1, g2]
    exact he j _ _ u v (by simp) (by simp) ru rv
end
class Qf {α : Type} [DecidableEq α] (K : PySem.W.Frag) (A : Rep α) (dep : outParam Nat) : Prop where
  fn : ∀ {X : Cx} {pins : List (Addr × Obj)} {σ : St} {F H : Hp} {s : Shared} {v : V} {x y : α}, X.K = K → Inv X pins σ H s → Same F H → A F v x → A F v y → x = y
  qf : ∀ {X : Cx} {pins : List (Addr × Obj)} {σ : St} {F H : Hp} {s : Shared} {Au : Around} {v w : V} {x y : α} {u u' : Value}, X.K = K → Inv X pins σ H s → Same F H → A F v x → A F w y → RelV v u → RelV w u' → Au.units + dep < cLine → SeqAt.EqAt Au s u u' (decide (x = y))
class Qr {α : Type} [DecidableEq α] (K : PySem.W.Frag) (A : Rep α) (dep : outParam Nat) : Prop where
  fn : ∀ {X : Cx} {pins : List (Addr × Obj)} {σ : St} {F H : Hp} {s : Shared} {v : V} {x y : α}, X.K = K → Inv X pins σ H s → Same F H → A F v x → A F v y → x = y
  rf : ∀ {F : Hp} {v : V} {x : α}, A F v x → ∃ a, v = .ref a
  rc : ∀ {X : Cx} {pins : List (Addr × Obj)} {σ : St} {F H : Hp} {s : Shared} {Au : Around} {a b : Addr} {x y : α}, X.K = K → Inv X pins σ H s → Same F H → A F (.ref a) x → A F (.ref b) y → Au.units + dep < cLine → SeqAt.RcAt Au s (.ref a) (.ref b) (decide (x = y))
instance (priority := low) {α : Type} [DecidableEq α] {K : PySem.W.Frag} {A : Rep α} {d : Nat} [q : Qr K A d] : Qf K A d where
  fn := q.fn
  qf := fun {X pins σ F H s Au v w x y u u'} hK I wd h1 h2 r1 r2 hu => by
    obtain ⟨a, rfl⟩ := q.rf h1
    obtain ⟨b, rfl⟩ := q.rf h2
    cases r1
    cases r2
    by_cases e : a = b
    · subst e
      rw [decide_eq_true (q.fn hK I wd h1 h2)]
      exact SeqAt.EqAt.same _
    · exact SeqAt.EqAt.of_refs e (q.rc hK I wd h1 h2 hu)
theorem rat_dec (p q : Rat) : decide (p = q) = (decide (p.num = q.num) && decide ((p.den : Int) = (q.den : Int))) := by
  by_cases h : p = q
  · subst h; simp
  · rw [decide_eq_false h]
    by_cases h1 : p.num = q.num
    · have h2 : ¬ ((p.den : Int) = (q.den : Int)) := fun z => h (Rat.ext h1 (by omega))
      rw [decide_eq_false h2, Bool.and_false]
    · rw [decide_eq_false h1, Bool.false_and]
theorem int_eqAt {Au : Around} {s : Shared} {i j : Int} {u v : Value} (r1 : RelV (.int i) u) (r2 : RelV (.int j) v) : SeqAt.EqAt Au s u v (decide (i = j)) := by
  have z := eqAt_V (A := Au) (s := s) r1 r2 rfl rfl
  have e : eqV (.int i) (.int j) = decide (i = j) := by show (i == j) = _; rw [Bool.beq_eq_decide_eq]
  rw [e] at z
  exact z
instance {K : PySem.W.Frag} : Qr K (rFr K) 1 where
  fn := fun {X pins σ F H s v x y} hK I wd h1 h2 => by
    subst hK
    obtain ⟨a, rfl, g1⟩ := h1
    obtain ⟨b, e, g2⟩ := h2
    cases e
    have z := sqT_fun I (wd.tup g1) (wd.tup g2)
    unfold fr at z
    injection z with z1 z2
    injection z2 with z2 _
    have n1 := V.int.inj z1
    have n2 := V.int.inj z2
    exact Rat.ext n1 (by omega)
  rf := fun ⟨a, h, _⟩ => ⟨a, h⟩
  rc := fun {X pins σ F H s Au a b x y} hK I wd h1 h2 hu => by
    subst hK
    obtain ⟨a', e1, g1⟩ := h1
    obtain ⟨b', e2, g2⟩ := h2
    cases e1
    cases e2
    have z := rc_tups (Au := Au) I (wd.tup g1) (wd.tup g2) (by omega) rfl (fun j => if j = 0 then decide (x.num = y.num) else decide ((x.den : Int) = (y.den : Int))) (fun j p q u v h1 h2 r1 r2 => by
      match j, h1, h2 with
      | 0, h1, h2 => cases h1; cases h2; exact int_eqAt r1 r2
      | 1, h1, h2 => cases h1; cases h2; exact int_eqAt r1 r2
      | j + 2, h1, h2 => cases h1)
    rw [rat_dec]
    have e : (List.range (fr x).length).all (fun j => if j = 0 then decide (x.num = y.num) else decide ((x.den : Int) = (y.den : Int))) = (decide (x.num = y.num) && decide ((x.den : Int) = (y.den : Int))) := by
      show (List.range 2).all _ = _
      simp [List.range_succ]
    rw [e] at z
    exact z
instance {K : PySem.W.Frag} {α β : Type} [DecidableEq α] [DecidableEq β] {A : Rep α} {B : Rep β} {d e : Nat} [qa : Qf K A d] [qb : Qf K B e] : Qr K (r2 K A B) (d + e + 1) where
  fn := fun {X pins σ F H s v x y} hK I wd h1 h2 => by
    subst hK
    obtain ⟨a, v1, v2, rfl, g, k1, k2⟩ := h1
    obtain ⟨b, w1, w2, e, g', l1, l2⟩ := h2
    cases e
    have z := sqT_fun I (wd.tup g) (wd.tup g')
    injection z with z1 z2
    injection z2 with z2 _
    subst z1 z2
    exact Prod.ext (qa.fn rfl I wd k1 l1) (qb.fn rfl I wd k2 l2)
  rf := fun ⟨a, _, _, h, _⟩ => ⟨a, h⟩
  rc := fun {X pins σ F H s Au a b x y} hK I wd h1 h2 hu => by
    subst hK
    obtain ⟨a', v1, v2, e1, g1, k1, k2⟩ := h1
    obtain ⟨b', w1, w2, e2, g2, l1, l2⟩ := h2
    cases e1
    cases e2
    have z := rc_tups (Au := Au) I (wd.tup g1) (wd.tup g2) (by omega) rfl (fun j => if j = 0 then decide (x.1 = y.1) else decide (x.2 = y.2)) (fun j p q u v h1 h2 r1 r2 => by
      match j, h1, h2 with
      | 0, h1, h2 => cases h1; cases h2; exact qa.qf rfl I wd k1 l1 r1 r2 (by rw [in1_units]; omega)
      | 1, h1, h2 => cases h1; cases h2; exact qb.qf rfl I wd k2 l2 r1 r2 (by rw [in1_units]; omega)
      | j + 2, h1, h2 => cases h1)
    have e0 : decide (x = y) = (decide (x.1 = y.1) && decide (x.2 = y.2)) := by
      rw [← Bool.decide_and]
      congr 1
      exact propext Prod.ext_iff
    have e : (List.range [v1, v2].length).all (fun j => if j = 0 then decide (x.1 = y.1) else decide (x.2 = y.2)) = (decide (x.1 = y.1) && decide (x.2 = y.2)) := by
      show (List.range 2).all _ = _
      simp [List.range_succ]
    rw [e] at z
    rw [e0]
    exact z
section
variable {X : Cx}
def rQ {α : Type} [DecidableEq α] (A : Rep α) : R2 := fun v w H Q => ∃ F x y, Same F H ∧ A F v x ∧ A F w y ∧ Q (.bl (decide (x = y))) H
theorem op_eqQ {α : Type} [DecidableEq α] {K : PySem.W.Frag} {A : Rep α} {d : Nat} [q : Qr K A d] (hK : X.K = K) (hu : X.A.units + 64 < cLine) (hd : d ≤ 60 := by decide) : OpR X (compareOp .Eq) (rQ A) := by
  intro pins s σ H x y v u Q I rx ry h
  obtain ⟨F, p, r, wd, h1, h2, hq⟩ := h
  obtain ⟨a, rfl⟩ := q.rf h1
  obtain ⟨b, rfl⟩ := q.rf h2
  cases rx
  cases ry
  exact q.rc hK I wd h1 h2 (by omega) X.prog X.w X.xe _ ⟨.bl _, H, I, rfl, hq⟩
end
theorem eqT_up {K : PySem.W.Frag} {H : Hp} : ∀ {n : Nat} {x y : V}, EqT K H n x y → EqT K H (n + 1) x y
  | 0, _, _, h => .inl h
  | n + 1, _, _, .inl h => .inl h
  | n + 1, _, _, .inr ⟨p, q, xs, ys, h1, h2, h3, h4⟩ => .inr ⟨p, q, xs, ys, h1, h2, h3, by
    have gen : ∀ {xs ys : List V}, All2 (EqT K H n) xs ys → All2 (EqT K H (n + 1)) xs ys := by
      intro xs
      induction xs with
      | nil => intro ys h; cases ys with
        | nil => exact True.intro
        | cons _ _ => exact h.elim
      | cons x xs ih => intro ys h; cases ys with
        | nil => exact h.elim
        | cons y ys => exact ⟨eqT_up h.1, ih h.2⟩
    exact gen h4⟩
theorem deqT_up {K : PySem.W.Frag} {H : Hp} {n : Nat} {ka kb : List (Key × V)} (h : DEqT K H n ka kb) : DEqT K H (n + 1) ka kb := ⟨h.1, fun k v m => by obtain ⟨y, e1, e2⟩ := h.2 k v m; exact ⟨y, e1, eqT_up e2⟩⟩
theorem eqN_up {K : PySem.W.Frag} {H : Hp} : ∀ {n : Nat} {x y : V}, EqN K H n x y → EqN K H (n + 1) x y
  | 0, _, _, h => .inl h
  | n + 1, _, _, .inl h => .inl h
  | n + 1, _, _, .inr ⟨p, q, h1, h2, .inr ⟨ka, kb, g1, g2, g3⟩⟩ => .inr ⟨p, q, h1, h2, .inr ⟨ka, kb, g1, g2, deqT_up g3⟩⟩
  | n + 1, _, _, .inr ⟨p, q, h1, h2, .inl ⟨xs, ys, h3, h4⟩⟩ => .inr ⟨p, q, h1, h2, .inl ⟨xs, ys, h3, by
    have gen : ∀ {xs ys : List V}, All2 (EqN K H n) xs ys → All2 (EqN K H (n + 1)) xs ys := by
      intro xs
      induction xs with
      | nil => intro ys h; cases ys with
        | nil => exact True.intro
        | cons _ _ => exact h.elim
      | cons x xs ih => intro ys h; cases ys with
        | nil => exact h.elim
        | cons y ys => exact ⟨eqN_up h.1, ih h.2⟩
    exact gen h4⟩⟩
theorem eqN_mono {K : PySem.W.Frag} {H : Hp} {n m : Nat} {x y : V} (h : EqN K H n x y) (k : n ≤ m) : EqN K H m x y := by
  induction k with
  | refl => exact h
  | step _ ih => exact eqN_up ih
theorem eqT_toN {K : PySem.W.Frag} {H : Hp} : ∀ {n : Nat} {x y : V}, EqT K H n x y → EqN K H n x y
  | 0, _, _, h => h
  | n + 1, _, _, .inl h => .inl h
  | n + 1, _, _, .inr ⟨p, q, xs, ys, h1, h2, h3, h4⟩ => .inr ⟨p, q, h1, h2, .inl ⟨xs, ys, h3, by
    have gen : ∀ {xs ys : List V}, All2 (EqT K H n) xs ys → All2 (EqN K H n) xs ys := by
      intro xs
      induction xs with
      | nil => intro ys h; cases ys with
        | nil => exact True.intro
        | cons _ _ => exact h.elim
      | cons x xs ih => intro ys h; cases ys with
        | nil => exact h.elim
        | cons y ys => exact ⟨eqT_toN h.1, ih h.2⟩
    exact gen h4⟩⟩
class Et {α : Type} (K : PySem.W.Frag) (A : Rep α) (n : outParam Nat) : Prop where
  et : ∀ {F H : Hp} {v w : V} {x : α}, Same F H → A F v x → A F w x → EqT K H n v w
instance {K : PySem.W.Frag} : Et K rI 0 := ⟨fun _ h g => by cases h; cases g; exact ⟨rfl, rfl⟩⟩
instance {K : PySem.W.Frag} : Et K rS 0 := ⟨fun _ h g => by cases h; cases g; exact ⟨rfl, rfl⟩⟩
instance {K : PySem.W.Frag} : Et K rB 0 := ⟨fun _ h g => by cases h; cases g; exact ⟨rfl, rfl⟩⟩
instance {K : PySem.W.Frag} : Et K (rFr K) 1 := ⟨fun wd ⟨a, h1, h2⟩ ⟨b, g1, g2⟩ => .inr ⟨a, b, _, _, h1, g1, .inl ⟨wd.tup h2, wd.tup g2⟩, ⟨rfl, rfl⟩, ⟨rfl, rfl⟩, True.intro⟩⟩
theorem al_et {K : PySem.W.Frag} {α : Type} {A : Rep α} {n : Nat} [Et K A n] {F H : Hp} (wd : Same F H) : ∀ {vs ws : List V} {xs : List α}, Al A F vs xs → Al A F ws xs → All2 (EqT K H n) vs ws
  | [], [], [], _, _ => True.intro
  | _ :: _, _ :: _, _ :: _, h, g => ⟨Et.et wd h.1 g.1, al_et wd h.2 g.2⟩
  | [], _ :: _, [], _, g => g.elim
  | _ :: _, _, [], h, _ => h.elim
  | [], _, _ :: _, h, _ => h.elim
  | _ :: _, [], _ :: _, _, g => g.elim
instance {K : PySem.W.Frag} {α : Type} {A : Rep α} {n : Nat} [Et K A n] : Et K (rL K A) (n + 1) :=
  ⟨fun wd ⟨a, vs, h1, h2, h3⟩ ⟨b, ws, g1, g2, g3⟩ => .inr ⟨a, b, _, _, h1, g1, .inr ⟨wd.seq h2, wd.seq g2⟩, al_et wd h3 g3⟩⟩
class En {α : Type} (K : PySem.W.Frag) (A : Rep α) (n : outParam Nat) : Prop where
  en : ∀ {F H : Hp} {v w : V} {x : α}, Same F H → A F v x → A F w x → EqN K H n v w
instance (priority := low) {K : PySem.W.Frag} {α : Type} {A : Rep α} {n : Nat} [Et K A n] : En K A n := ⟨fun wd h g => eqT_toN (Et.et wd h g)⟩
theorem dk_deq {K : PySem.W.Frag} {α : Type} {A : Rep α} {n : Nat} [Et K A n] {F H : Hp} {ka kb : List (Key × V)} {m m' : List (Str × α)} (wd : Same F H) (h : Dk A F ka m) (g : Dk A F kb m') (hn : (m.map (·.1)).Nodup) (hl : m.length = m'.length) (hg : ∀ k y, gtd m k = some y → gtd m' k = some y) : DEqT K H n ka kb := by
  refine ⟨by rw [h.length, g.length, hl], fun k v hm => ?_⟩
  obtain ⟨i, hi⟩ := List.getElem?_of_mem hm
  obtain ⟨x, q, e1, rfl, ha⟩ := h.get hi
  have hgt : gtd m x = some q := by
    have mem := List.mem_of_getElem? e1
    clear h hi hm hl hg e1
    induction m with
    | nil => cases mem
    | cons p r ih =>
      rw [List.map_cons, List.nodup_cons] at hn
      rcases List.mem_cons.mp mem with e | e
      · subst e; exact gtd_pos rfl
      · have ne : ¬ p.1 = x := fun z => hn.1 (by rw [z]; exact List.mem_map.mpr ⟨_, e, rfl⟩)
        rw [gtd_neg ne]; exact ih hn.2 e
  obtain ⟨w, v1, v3⟩ := g.some (hg x q hgt)
  exact ⟨w, v1, Et.et wd ha v3⟩
instance {K : PySem.W.Frag} {α : Type} {A : Rep α} {n : Nat} [Et K A n] : En K (rD A) (n + 1) :=
  ⟨fun wd ⟨a, ka, h1, h2, h3, h4⟩ ⟨b, kb, g1, g2, g3, g4⟩ => .inr ⟨a, b, h1, g1, .inr ⟨ka, kb, wd.rd h2, wd.rd g2, dk_deq wd h3 g3 h4 rfl fun _ _ e => e⟩⟩⟩
instance (priority := low) {K : PySem.W.Frag} {α β : Type} {A : Rep α} {B : Rep β} {n m : Nat} [En K A n] [En K B m] : En K (r2 K A B) (n + m + 1) :=
  ⟨fun wd ⟨a, v1, v2, h1, h2, h3, h4⟩ ⟨b, w1, w2, g1, g2, g3, g4⟩ => .inr ⟨a, b, h1, g1, .inl ⟨_, _, .inl ⟨wd.tup h2, wd.tup g2⟩, eqN_mono (En.en wd h3 g3) (by omega), eqN_mono (En.en wd h4 g4) (by omega), True.intro⟩⟩⟩
instance {K : PySem.W.Frag} {α β γ δ ε : Type} {A : Rep α} {B : Rep β} {C : Rep γ} {D : Rep δ} {E : Rep ε} {n m k l j : Nat} [En K A n] [En K B m] [En K C k] [En K D l] [En K E j] : En K (r5 K A B C D E) (n + m + k + l + j + 1) :=
  ⟨fun wd ⟨a, v1, v2, v3, v4, v5, h1, h2, h3, h4, h5, h6, h7⟩ ⟨b, w1, w2, w3, w4, w5, g1, g2, g3, g4, g5, g6, g7⟩ =>
    .inr ⟨a, b, h1, g1, .inl ⟨_, _, .inl ⟨wd.tup h2, wd.tup g2⟩, eqN_mono (En.en wd h3 g3) (by omega), eqN_mono (En.en wd h4 g4) (by omega), eqN_mono (En.en wd h5 g5) (by omega), eqN_mono (En.en wd h6 g6) (by omega), eqN_mono (En.en wd h7 g7) (by omega), True.intro⟩⟩⟩
theorem al_en {K : PySem.W.Frag} {α : Type} {A : Rep α} {n : Nat} [En K A n] {F H : Hp} (wd : Same F H) : ∀ {vs ws : List V} {xs : List α}, Al A F vs xs → Al A F ws xs → All2 (EqN K H n) vs ws
  | [], [], [], _, _ => True.intro
  | _ :: _, _ :: _, _ :: _, h, g => ⟨En.en wd h.1 g.1, al_en wd h.2 g.2⟩
  | [], _ :: _, [], _, g => g.elim
  | _ :: _, _, [], h, _ => h.elim
  | [], _, _ :: _, h, _ => h.elim
  | _ :: _, [], _ :: _, _, g => g.elim
instance (priority := low) {K : PySem.W.Frag} {α : Type} {A : Rep α} {n : Nat} [En K A n] : En K (rL K A) (n + 1) :=
  ⟨fun wd ⟨a, vs, h1, h2, h3⟩ ⟨b, ws, g1, g2, g3⟩ => .inr ⟨a, b, h1, g1, .inl ⟨_, _, .inr ⟨wd.seq h2, wd.seq g2⟩, al_en wd h3 g3⟩⟩⟩
section
variable {K : PySem.W.Frag} {F H : Hp} {Q : VK}
theorem a_eqN5 {α β γ δ ε : Type} {A : Rep α} {B : Rep β} {C : Rep γ} {D : Rep δ} {E : Rep ε} {n m k l j : Nat} [En K A n] [En K B m] [En K C k] [En K D l] [En K E j] {v w : V} {x : α × β × γ × δ × ε} (wd : Same F H) (h : r5 K A B C D E F v x) (g : r5 K A B C D E F w x) (hn : n + m + k + l + j ≤ 40) (q : Q (.bl true) H) : rEqN K v w H Q := by
  obtain ⟨a, v1, v2, v3, v4, v5, h1, h2, h3, h4, h5, h6, h7⟩ := h
  obtain ⟨b, w1, w2, w3, w4, w5, g1, g2, g3, g4, g5, g6, g7⟩ := g
  exact ⟨n + m + k + l + j, a, b, _, _, hn, h1, g1, .inl ⟨wd.tup h2, wd.tup g2⟩, ⟨eqN_mono (En.en wd h3 g3) (by omega), eqN_mono (En.en wd h4 g4) (by omega), eqN_mono (En.en wd h5 g5) (by omega), eqN_mono (En.en wd h6 g6) (by omega), eqN_mono (En.en wd h7 g7) (by omega), True.intro⟩, q⟩
end
end Vc
namespace L2
open PySem PySem.Spec PyProof.Rows
def clStep (env : Env) (cs : List (Str × Addr)) (y : Str × NameKind) : List (Str × Addr) := if (y.2 == .free) = true then (match env.cells.lookup y.1 with | some a => (y.1, a) :: cs | none => cs) else cs
def clOf (scope : Scope) (env : Env) : List (Str × Addr) := scope.names.foldl (clStep env) []
def clAll (scope : Scope) (env : Env) : Bool := scope.names.all fun y => !(y.2 == .free) || (env.cells.lookup y.1).isSome
theorem closureFor_clOf {scope : Scope} {env : Env} (h : clAll scope env = true) : closureFor scope env = pure (clOf scope env) := by
  unfold closureFor clOf
  unfold clAll at h
  have gen : ∀ (l : List (Str × NameKind)) (cs : List (Str × Addr)), (l.all fun y => !(y.2 == .free) || (env.cells.lookup y.1).isSome) = true →
      (forIn l cs fun x r => match x with | (name, kind) => if (kind == NameKind.free) = true then (do let a ← cellOf env name; pure (ForInStep.yield ((name, a) :: r))) else pure (ForInStep.yield r) : Sem (List (Str × Addr))) = pure (l.foldl (clStep env) cs) := by
    intro l
    induction l with
    | nil => intro cs _; rfl
    | cons y r ih =>
      intro cs ha
      rw [List.all_cons, Bool.and_eq_true] at ha
      obtain ⟨n, k⟩ := y
      rw [List.forIn_cons, List.foldl_cons]
      by_cases hk : (k == NameKind.free) = true
      · have h1 := ha.1
        simp only [hk, Bool.not_true, Bool.false_or] at h1
        obtain ⟨a, e⟩ := Option.isSome_iff_exists.mp h1
        have e1 : clStep env cs (n, k) = (n, a) :: cs := by unfold clStep; simp [hk, e]
        have e2 : cellOf env n = pure a := by unfold cellOf; rw [e]
        rw [e1, ← ih _ ha.2]
        simp only [hk, if_true, e2, pure_bind]
      · have e1 : clStep env cs (n, k) = cs := by unfold clStep; simp [hk]
        rw [e1, ← ih _ ha.2]
        simp only [hk, if_false, pure_bind, Bool.false_eq_true]
  have := gen scope.names [] h
  simp only [this, pure_bind]
theorem clOf_sub {scope : Scope} {env : Env} {x : Str} {c : Addr} (h : (clOf scope env).lookup x = some c) : env.cells.lookup x = some c := by
  unfold clOf at h
  have gen : ∀ (l : List (Str × NameKind)) (cs : List (Str × Addr)), (cs.lookup x = some c → env.cells.lookup x = some c) → (l.foldl (clStep env) cs).lookup x = some c → env.cells.lookup x = some c := by
    intro l
    induction l with
    | nil => intro cs f g; exact f g
    | cons y r ih =>
      intro cs f g
      rw [List.foldl_cons] at g
      refine ih _ (fun z => ?_) g
      unfold clStep at z
      split at z
      · split at z
        · rename_i a e
          rw [List.lookup_cons] at z
          by_cases hx : (x == y.1) = true
          · rw [hx] at z
            have := eq_of_beq hx
            subst this
            simp at z
            rw [← z]; exact e
          · simp only [hx] at z
            exact f z
        · exact f z
      · exact f z
  exact gen scope.names [] (fun z => by cases z) h
theorem clOf_has {scope : Scope} {env : Env} {x : Str} (ha : clAll scope env = true) (h : scope.names.lookup x = some .free) : ∃ c, (clOf scope env).lookup x = some c := by
  unfold clOf
  unfold clAll at ha
  have keep : ∀ (l : List (Str × NameKind)) (cs : List (Str × Addr)), (∃ c, cs.lookup x = some c) → ∃ c, (l.foldl (clStep env) cs).lookup x = some c := by
    intro l
    induction l with
    | nil => intro cs f; exact f
    | cons y r ih =>
      intro cs f
      rw [List.foldl_cons]
      refine ih _ ?_
      unfold clStep
      split
      · split
        · rw [List.lookup_cons]
          by_cases hx : (x == y.1) = true
          · rw [hx]; exact ⟨_, rfl⟩
          · simp only [hx]; exact f
        · exact f
      · exact f
  have gen : ∀ (l : List (Str × NameKind)) (cs : List (Str × Addr)), (l.all fun y => !(y.2 == .free) || (env.cells.lookup y.1).isSome) = true → l.lookup x = some .free → ∃ c, (l.foldl (clStep env) cs).lookup x = some c := by
    intro l
    induction l with
    | nil => intro cs _ f; cases f
    | cons y r ih =>
      intro cs ha f
      rw [List.all_cons, Bool.and_eq_true] at ha
      obtain ⟨n, k⟩ := y
      rw [List.foldl_cons]
      rw [List.lookup_cons] at f
      by_cases hx : (x == n) = true
      · rw [hx] at f
        have := eq_of_beq hx
        subst this
        simp at f
        subst f
        refine keep r _ ?_
        have h1 : (env.cells.lookup x).isSome = true := ha.1
        obtain ⟨a, e⟩ := Option.isSome_iff_exists.mp h1
        refine ⟨a, ?_⟩
        unfold clStep
        rw [if_pos (show ((NameKind.free) == NameKind.free) = true from rfl)]
        dsimp only
        rw [e]
        dsimp only
        rw [List.lookup_cons, hx]
      · simp only [hx] at f
        exact ih _ ha.2 f
  exact gen scope.names [] ha h
theorem relabel_inv {scope : Scope} {env : Env} {x : Str} (hcell : ∀ y ∈ scope.names, y.2 ≠ .cell) (h : (relabel scope env).names.lookup x = some .cell ∨ (relabel scope env).names.lookup x = some .free) : scope.names.lookup x = some .free := by
  unfold relabel at h
  dsimp only at h
  have gen : ∀ l : List (Str × NameKind), (∀ y ∈ l, y.2 ≠ .cell) → ((l.map fun (n, k) => if (k == NameKind.free && env.scope.kind == .function && env.kindOf n == some .cell) then (n, NameKind.cell) else (n, k)).lookup x = some .cell ∨ (l.map fun (n, k) => if (k == NameKind.free && env.scope.kind == .function && env.kindOf n == some .cell) then (n, NameKind.cell) else (n, k)).lookup x = some .free) → l.lookup x = some .free := by
    intro l
    induction l with
    | nil => intro _ f; rcases f with f | f <;> cases f
    | cons y r ih =>
      intro hc f
      obtain ⟨n, k⟩ := y
      have hk : k ≠ .cell := hc (n, k) (List.mem_cons_self ..)
      rw [List.map_cons] at f
      rw [List.lookup_cons]
      by_cases hx : (x == n) = true
      · rw [hx]
        dsimp only at f ⊢
        by_cases hf : (k == NameKind.free && env.scope.kind == .function && env.kindOf n == some .cell) = true
        · have : k = .free := by
            simp only [Bool.and_eq_true] at hf
            exact eq_of_beq hf.1.1
          rw [this]
        · rw [if_neg hf, List.lookup_cons, hx] at f
          simp only [Option.some.injEq] at f
          rcases f with f | f
          · exact absurd f hk
          · rw [f]
      · simp only [hx]
        refine ih (fun y hy => hc y (List.mem_cons_of_mem _ hy)) ?_
        dsimp only at f
        split at f <;> (rw [List.lookup_cons] at f; simp only [hx] at f; exact f)
  exact gen scope.names hcell h
inductive Wk : St → St → Prop
  | nil : Wk [] []
  | non {a b : St} {x : Option V} : Wk a b → Wk (none :: a) (x :: b)
  | som {a b : St} {v : V} : Wk a b → Wk (some v :: a) (some v :: b)
theorem Wk.length {a b : St} (h : Wk a b) : b.length = a.length := by
  induction h with
  | nil => rfl
  | non _ ih => simp [ih]
  | som _ ih => simp [ih]
theorem Wk.get {a b : St} (h : Wk a b) : ∀ {i : Nat} {v : V}, a[i]? = some (some v) → b[i]? = some (some v) := by
  induction h with
  | nil => intro i v e; simp at e
  | non _ ih =>
    intro i v e
    cases i with
    | zero => simp at e
    | succ i => simpa using ih (i := i) (v := v) (by simpa using e)
  | som _ ih =>
    intro i v e
    cases i with
    | zero => simpa using e
    | succ i => simpa using ih (i := i) (v := v) (by simpa using e)
theorem wk_refl : ∀ a : St, Wk a a
  | [] => .nil
  | none :: a => .non (wk_refl a)
  | some _ :: a => .som (wk_refl a)
def pickS (ix : List (Option Nat)) (σ : St) : St := ix.map fun o => match o with | none => none | some i => (σ[i]?).getD none
def PickOk (X : Cx) (sc : Scope) : List Str → List (Option Nat) → Prop
  | [], [] => True
  | _ :: N, none :: ix => PickOk X sc N ix
  | x :: N, some i :: ix => X.N[i]? = some x ∧ X.env.kindOf x = some .cell ∧ sc.names.lookup x = some .free ∧ PickOk X sc N ix
  | _, _ => False
theorem PickOk.length {X : Cx} {sc : Scope} : ∀ {N : List Str} {ix : List (Option Nat)}, PickOk X sc N ix → ix.length = N.length
  | [], [], _ => rfl
  | _ :: N, none :: ix, h => by rw [List.length_cons, List.length_cons, PickOk.length (X := X) (sc := sc) (N := N) (ix := ix) h]
  | _ :: N, some i :: ix, h => by rw [List.length_cons, List.length_cons, PickOk.length (X := X) (sc := sc) (N := N) (ix := ix) h.2.2.2]
  | [], _ :: _, h => h.elim
  | _ :: _, [], h => h.elim
theorem PickOk.get {X : Cx} {sc : Scope} {σ : St} : ∀ {N : List Str} {ix : List (Option Nat)} {j : Nat} {x : Str} {v : V}, PickOk X sc N ix → N[j]? = some x → (pickS ix σ)[j]? = some (some v) → ∃ i : Nat, X.N[i]? = some x ∧ X.env.kindOf x = some .cell ∧ sc.names.lookup x = some .free ∧ σ[i]? = some (some v)
  | _ :: N, none :: ix, 0, x, v, h, e1, e2 => by simp [pickS] at e2
  | _ :: N, none :: ix, j + 1, x, v, h, e1, e2 => PickOk.get (N := N) (ix := ix) (j := j) h (by simpa using e1) (by simpa [pickS] using e2)
  | y :: N, some i :: ix, 0, x, v, h, e1, e2 => by
    simp at e1
    subst e1
    refine ⟨i, h.1, h.2.1, h.2.2.1, ?_⟩
    simp [pickS] at e2
    cases q : σ[i]? with
    | none => rw [q] at e2; simp at e2
    | some o => rw [q] at e2; simp at e2; rw [e2]
  | y :: N, some i :: ix, j + 1, x, v, h, e1, e2 => PickOk.get (N := N) (ix := ix) (j := j) h.2.2.2 (by simpa using e1) (by simpa [pickS] using e2)
  | [], [], _, _, _, _, e1, _ => by simp at e1
  | [], _ :: _, _, _, _, h, _, _ => h.elim
  | _ :: _, [], _, _, _, h, _, _ => h.elim
theorem relabel_free {scope : Scope} {env : Env} {x : Str} (h : scope.names.lookup x = some .free) : (relabel scope env).names.lookup x = some .cell ∨ (relabel scope env).names.lookup x = some .free := by
  unfold relabel
  dsimp only
  have gen : ∀ l : List (Str × NameKind), l.lookup x = some .free → ((l.map fun (n, k) => if (k == NameKind.free && env.scope.kind == .function && env.kindOf n == some .cell) then (n, NameKind.cell) else (n, k)).lookup x = some .cell ∨ (l.map fun (n, k) => if (k == NameKind.free && env.scope.kind == .function && env.kindOf n == some .cell) then (n, NameKind.cell) else (n, k)).lookup x = some .free) := by
    intro l
    induction l with
    | nil => intro f; cases f
    | cons y r ih =>
      intro f
      obtain ⟨n, k⟩ := y
      rw [List.lookup_cons] at f
      rw [List.map_cons]
      by_cases hx : (x == n) = true
      · rw [hx] at f
        simp at f
        subst f
        dsimp only
        split
        · left; rw [List.lookup_cons, hx]
        · right; rw [List.lookup_cons, hx]
      · simp only [hx] at f
        dsimp only
        split <;> (rw [List.lookup_cons]; simp only [hx]; exact ih f)
  exact gen scope.names h
def cxComp (X : Cx) (scope : Scope) (N : List Str) (C : Addr) (s : Shared) (H : Hp) (fp : List Addr) (pl : List (Addr × Obj)) : Cx where
  prog := X.prog
  w := X.w
  K := X.K
  mg := X.mg
  base := X.base
  A := X.A
  N := N
  s₀ := s
  H₀ := H
  env := compEnvC scope (clOf scope X.env) C X.env
  outer := X.stack
  stack := X.stack
  ex := fp
  fn := fun _ => false
  calm := X.calm
  pn := X.pn ++ pl
  xe := fun _ _ => False
def PTs (Y : Cx) (ifs : List Expr) (t : TT) : Prop :=
  ∀ (pins : List (Addr × Obj)) (s : Shared) (σ : St) (H : Hp) (Q : Bool → Hp → Prop), Inv Y pins σ H s → t σ H Q →
    wpAny (model Y.prog Y.w) Y.A (forIn ifs true fun c r => if r = true then do let ok ← isTrue c Y.env (eval c Y.env); pure (ForInStep.yield ok) else pure (ForInStep.yield r)) (TP Y pins σ Q) Y.xe s
def tYes : TT := fun _ H Q => Q true H
theorem pts_nil {Y : Cx} : PTs Y [] tYes := fun _ _ _ H _ I h => wpAny_tests_nil ⟨H, I, h⟩
theorem pts_one {Y : Cx} {c : Expr} {t : TT} (h : PT Y c t) : PTs Y [c] t := fun pins s σ H Q I q => wpAny_tests_one (h pins s σ H Q I q)
theorem compLoop_any {prog : Program} {w : World} {A : Around} {R : Result → Shared → Prop} {s : Shared} {elt target iter : Expr} {ifs : List Expr} {scope : Scope} {pos : Pos} {it acc : Value} {env : Env} (I : Nat → Shared → Prop)
    (turn : ∀ n s, I n s → wpAny (model prog w) A (pyNext it) (fun r s₁ => match r with
      | none => R (.ok .next) s₁
      | some v => wpAny (model prog w) A (letOwnedTupleGo target it v) (fun _ s₀ => wpAny (model prog w) A (assign target env v) (fun _ s₂ =>
          wpAny (model prog w) A (forIn ifs true fun c r => if r = true then do let ok ← isTrue c env (eval c env); pure (ForInStep.yield ok) else pure (ForInStep.yield r)) (fun ok s₃ =>
            if ok = true then wpAny (model prog w) A (eval elt env) (fun x s₄ =>
              wpAny (model prog w) A (call (.builtin "list.append") [acc, x]) (fun _ s₅ => ∃ m, m < n ∧ I m s₅) (notedBy (model prog w) A env fun e s' => R (.error e) s') s₄) (notedBy (model prog w) A env fun e s' => R (.error e) s') s₃
            else ∃ m, m < n ∧ I m s₃) (notedBy (model prog w) A env fun e s' => R (.error e) s') s₂) (notedBy (model prog w) A env fun e s' => R (.error e) s') s₀) (notedBy (model prog w) A env fun e s' => R (.error e) s') s₁) (notedBy (model prog w) A env fun e s' => R (.error e) s') s)
    (n : Nat) (h : I n s) : codeAny (model prog w) A (.compLoop (.ListComp elt [⟨target, iter, ifs, 0⟩] scope pos) 0 it acc env) R s := by
  refine codeAny_loop rfl I (fun n s hI => ?_) n h
  show wpAny _ A ((compTurn (.ListComp elt [⟨target, iter, ifs, 0⟩] scope pos) 0 it acc env).onRaise (fun x => do noteFrame x env; theTreesLotGoes x)) _ _ s
  refine wpAny_noted ?_
  rw [compTurn_list]
  refine wpAny_bind (wpAny_standAt (wpAny_bind (wpAny_mono (turn n s hI) (fun r s₁ h₁ => ?_) fun _ _ h' => h')))
  cases r with
  | none => exact wpAny_pure h₁
  | some v =>
    refine wpAny_bind (wpAny_mono h₁ (fun _ s₀ h₀ => ?_) fun _ _ h' => h')
    refine wpAny_bind (wpAny_mono h₀ (fun _ s₂ h₂ => wpAny_bind (wpAny_mono h₂ (fun ok s₃ h₃ => ?_) fun _ _ h' => h')) fun _ _ h' => h')
    cases ok with
    | false => exact wpAny_pure ⟨rfl, h₃⟩
    | true =>
      exact wpAny_bind (wpAny_bind (wpAny_mono h₃ (fun x s₄ h₄ => wpAny_bind (wpAny_mono h₄ (fun _ s₅ h₅ => wpAny_pure (wpAny_pure ⟨rfl, h₅⟩)) fun _ _ h' => h')) fun _ _ h' => h'))
end L2
namespace L2
open PySem PySem.Spec PyProof.Rows
section
variable {X : Cx} {pins : List (Addr × Obj)} {σ : St} {H : Hp} {s : Shared} {scope : Scope} {N : List Str} {fp : List Addr} {C : Addr}
theorem comp_ok (I : Inv X pins σ H s) (hC : s.heap.objs.size ≤ C) (hf : ∀ b ∈ fp, FpOk X pins H b) (hfo : ∀ b ∈ fp, ∃ o, s.heap.get? b = some o) (hkind : scope.kind = .function) (hcell : ∀ y ∈ scope.names, y.2 ≠ .cell) (hall : clAll scope X.env = true) :
    (cxComp X scope N C s H fp pins).Ok where
  mod := I.ok.mod
  kind := hkind
  glob := I.ok.glob
  blt := I.ok.blt
  above := hC
  inj := fun x y c h1 h2 => I.ok.inj x y c (clOf_sub h1) (clOf_sub h2)
  has := fun x h => clOf_has hall (relabel_inv hcell h)
  cab := fun x c h => by cases h
  hd := I.ok.hd
  frames := I.ok.frames
  stk := .inl rfl
  exf := fun b hb => ⟨fun z => by obtain ⟨o, e⟩ := hfo b hb; have := Heap.lt_size e; subst z; exact absurd (Nat.lt_of_lt_of_le this hC) (Nat.lt_irrefl _), fun x c e => (hf b hb).2.2.2.2.1 x c (clOf_sub e)⟩
  bs := I.bs
  bsz := Nat.le_trans I.ok.bsz I.sz
  noex := fun b o e hb => by
    rcases (hf b hb).2.2.2.1 with z | z
    · exact I.ok.noex b o e z
    · exact absurd (Nat.lt_of_lt_of_le (Heap.lt_size e) (Nat.le_trans I.ok.bsz z)) (Nat.lt_irrefl _)
  exfs := fun b hb hm => by
    rcases List.mem_cons.mp (I.stkSub b hm) with z | z
    · exact (hf b hb).2.1 z
    · exact (hf b hb).2.2.1 z
  funs := I.stack
  frf := I.stkFree
theorem comp_inv {h' : Heap} {m : Str → Option Value} {t' : Nat} {ix : List (Option Nat)} (I : Inv X pins σ H s) (ok : (cxComp X scope N C s H fp pins).Ok) (hC : s.heap.objs.size ≤ C) (k : ∀ b o, s.heap.get? b = some o → h'.get? b = some o) (hn : h'.Ns C m) (hpk : PickOk X scope N ix) (hall : clAll scope X.env = true) :
    Inv (cxComp X scope N C s H fp pins) [] (pickS ix σ) H { s with heap := h', toks := t' } where
  ok := ok
  os := rfl
  bare := I.bare
  base := Un.kept k
  loc := ⟨m, hn, fun i x v e1 e2 e3 => by
    obtain ⟨i', hN, hk, hfr, hσ⟩ := hpk.get e1 e2
    obtain ⟨m0, _, hl⟩ := I.loc
    obtain ⟨u, r, look⟩ := hl i' x v hN hσ (.inr (.inl hk))
    rcases look with ⟨z, _⟩ | ⟨_, c, hc, o, ho, hd⟩
    · rw [hk] at z; cases z
    · obtain ⟨c', hc'⟩ := clOf_has hall hfr
      have e := clOf_sub hc'
      rw [hc] at e
      cases e
      exact ⟨u, r, .inr ⟨relabel_free hfr, c, hc', o, k _ _ ho, hd⟩⟩⟩
  cell := fun x c e => by
    obtain ⟨v, o, ho, hd⟩ := I.cell x c (clOf_sub e)
    exact ⟨v, o, k _ _ ho, hd⟩
  free := I.hok.fresh hC
  freeC := fun x c e => I.freeC x c (clOf_sub e)
  pin := fun p hp => by
    have hp' : p ∈ X.pn ++ pins := by simpa [cxComp] using hp
    obtain ⟨e, n, ne, nf, d⟩ := I.pin p hp'
    refine ⟨k _ _ e, n, fun z => ?_, fun z => ?_, d⟩
    · have := Heap.lt_size e
      have z' : p.1 = C := z
      rw [z'] at this
      exact absurd (Nat.lt_of_lt_of_le this hC) (Nat.lt_irrefl _)
    · rcases List.mem_cons.mp (I.stkSub p.1 z) with q | q
      · exact ne q
      · exact nf q
  hok := I.hok.kept k
  len := by
    have := hpk.length
    simp [pickS, cxComp, this]
theorem comp_back {σ' : St} {H' : Hp} {s' : Shared} {D : Addr} {acc : List V} {its : List Value} {pl : List (Addr × Obj)} (I : Inv X pins σ H s) (J : Inv (cxComp X scope N C s H fp pins) pl σ' H' s') (hD : D = s.heap.objs.size) (hf : ∀ b ∈ fp, FpOk X pins H b)
    (hl : s'.heap.PlainList D its.toArray) (hv : Vals acc its) (hz : acc.length ≤ sizeLine) (hn : H' D = none) : Inv X pins σ (upd H' D (.lst acc)) s' := by
  have hDn : ∀ b o, s.heap.get? b = some o → b ≠ D := fun b o e z => by rw [z, hD] at e; exact absurd (Heap.lt_size e) (Nat.lt_irrefl _)
  have hHD : H D = none := I.hok.fresh (by rw [hD]; exact Nat.le_refl _)
  refine I.call' (ch := fp) J.os ⟨J.base.keep, J.base.slot, fun b o e n hx => ?_, J.base.there, fun b xs e => ?_, fun b o u e => ?_, fun b ps e => ?_⟩ (fun b u e => ?_) J.bare fun b hb => ⟨(hf b hb).2.2.2.1, (hf b hb).2.1, (hf b hb).2.2.2.2.1, (hf b hb).2.2.2.2.2⟩
  · rw [upd_ne (hDn b o e)]; exact J.base.free b o e n hx
  · rw [upd_ne (ne_of_none e hHD)]; exact J.base.tups b xs e
  · rw [upd_ne (ne_of_none e hHD)]; exact J.base.frzs b o u e
  · obtain ⟨mo, e2⟩ := J.base.tbls b ps e
    exact ⟨mo, by rw [upd_ne (ne_of_none e hHD)]; exact e2⟩
  · by_cases hb : b = D
    · subst hb
      rw [upd_same] at e
      cases e
      obtain ⟨n, g⟩ := hl
      exact ⟨hz, its, n, hv, g⟩
    · rw [upd_ne hb] at e
      exact (J.hok b u e).stay (fun _ _ _ q => q) (fun c q => by rw [upd_ne (ne_of_none q hn)]; exact q) fun c xs q => by rw [upd_ne (ne_of_none q hn)]; exact q
end
def tComp (wi : TI) (g : TG) (ti : TT) (te : TE) (ix : List (Option Nat)) : TE := fun σ H Q => wi σ H fun J H1 => ∃ W : Nat → Nat → List V → Hp → Prop, (∃ m, W 0 m [] H1) ∧ ∀ i m acc H, W i m acc H →
  (J.stop i H ∧ acc.length ≤ sizeLine ∧ ∀ p, H p = none → Q (.ref p) (upd H p (.lst acc))) ∨
  (J.go i H ∧ ∃ N : List V → Hp → Prop, (∀ acc' H', N acc' H' → ∃ m', m' < m ∧ W (i + 1) m' acc' H') ∧ ∀ x H', J.yld i H x H' → g x (pickS ix σ) H' fun σ2 H2 => Wk (pickS ix σ) σ2 ∧ ti σ2 H2 fun b H3 => if b = true then te σ2 H3 fun v H4 => acc.length < sizeLine ∧ N (acc ++ [v]) H4 else N acc H3)
section
variable {X : Cx} {elt target iter : Expr} {ifs : List Expr} {scope : Scope} {pos : Pos} {N : List Str} {ix : List (Option Nat)} {wi : TI} {g : TG} {ti : TT} {te : TE}
theorem comp_run {pins : List (Addr × Obj)} {σ : St} {H2 : Hp} {s2 : Shared} {Q : VK} {RR : Value → Addr → Result → Shared → Prop} {E : Value → Shared → Prop} {it : Addr} {fp : List Addr} {tn : Nat → Heap → Prop} {J : It}
    (hc : X.calm = true) (hg : ∀ C s H fp pl, PG (cxComp X scope N C s H fp pl) target g) (ht : ∀ C s H fp pl, PTs (cxComp X scope N C s H fp pl) ifs ti) (he : ∀ C s H fp pl, PE (cxComp X scope N C s H fp pl) elt te)
    (hkind : scope.kind = .function) (hcell : ∀ y ∈ scope.names, y.2 ≠ .cell) (hall : clAll scope X.env = true) (hpk : PickOk X scope N ix)
    (I2 : Inv X pins σ H2 s2) (T : Turn X.prog X.w X.K target J fp it tn) (st2 : tn 0 s2.heap) (f2 : ∀ b ∈ fp, FpOk X pins H2 b)
    (h : ∃ W : Nat → Nat → List V → Hp → Prop, (∃ m, W 0 m [] H2) ∧ ∀ i m acc H, W i m acc H →
      (J.stop i H ∧ acc.length ≤ sizeLine ∧ ∀ p, H p = none → Q (.ref p) (upd H p (.lst acc))) ∨
      (J.go i H ∧ ∃ N : List V → Hp → Prop, (∀ acc' H', N acc' H' → ∃ m', m' < m ∧ W (i + 1) m' acc' H') ∧ ∀ x H', J.yld i H x H' → g x (pickS ix σ) H' fun σ2 H2 => Wk (pickS ix σ) σ2 ∧ ti σ2 H2 fun b H3 => if b = true then te σ2 H3 fun v H4 => acc.length < sizeLine ∧ N (acc ++ [v]) H4 else N acc H3))
    (hR : ∀ (D C : Addr) (s' : Shared) (H' : Hp) (m : Str → Option Value), Inv X pins σ H' s' → s'.heap.Ns C m → H' C = none → s2.heap.objs.size ≤ C → Q (.ref D) H' → RR (.ref D) C (.ok .next) s') :
    wpAny (model X.prog X.w) X.A (newList []) (fun acc s₃ => wpAny (model X.prog X.w) X.A (newFunctionEnv scope X.env.globals (clOf scope X.env) [] X.env.qual none .none (some X.env)) (fun cenv s₄ =>
      codeAny (model X.prog X.w) X.A (.compStart (.ListComp elt [⟨target, iter, ifs, 0⟩] scope pos) 0 (.ref it) acc { cenv with scope := relabel scope X.env }) (RR acc cenv.locals) s₄) E s₃) E s2 := by
  obtain ⟨W, ⟨m0, w0⟩, turn⟩ := h
  refine wpAny_newObj_type (wpAny_newFunctionEnv hcell (by intro y hy; simp at hy) (fun h₁ hns₁ hsb₁ => ?_) hkind)
  dsimp only at hns₁ hsb₁ ⊢
  generalize hH2 : s2.heap.push { cls := .type "list", dict := none, data := .seq ([] : List Value).toArray } = P2 at hns₁ hsb₁ ⊢
  have hC : P2.objs.size = s2.heap.objs.size + 1 := by rw [← hH2, Heap.size_push]
  have hDC : s2.heap.objs.size ≠ P2.objs.size := by rw [hC]; exact Nat.ne_of_lt (Nat.lt_succ_self _)
  have hCle : s2.heap.objs.size ≤ P2.objs.size := by rw [hC]; exact Nat.le_succ _
  have below : ∀ b, b < s2.heap.objs.size → b ≠ P2.objs.size ∧ b ≠ s2.heap.objs.size := fun b hb => ⟨by rw [hC]; exact Nat.ne_of_lt (Nat.lt_succ_of_lt hb), Nat.ne_of_lt hb⟩
  have old : ∀ b o, s2.heap.get? b = some o → h₁.get? b = some o := fun b o e => hsb₁.extBut b o (below b (Heap.lt_size e)).1 (Heap.get?_push_of_some _ (hH2 ▸ Heap.get?_push_of_some _ e))
  have hacc : h₁.PlainList s2.heap.objs.size #[] := ⟨_, hsb₁.extBut _ _ hDC (Heap.get?_push_of_some _ (hH2 ▸ Heap.get?_push_size _ rfl))⟩
  have hfo : ∀ b ∈ fp, ∃ o, s2.heap.get? b = some o := fun b hb => let ⟨o, e, _⟩ := T.obj 0 _ st2 b hb; ⟨o, e⟩
  have hfD : s2.heap.objs.size ∉ fp := fun hm => by obtain ⟨o, e⟩ := hfo _ hm; exact absurd (Heap.lt_size e) (Nat.lt_irrefl _)
  have ok := comp_ok (N := N) (C := P2.objs.size) I2 hCle f2 hfo hkind hcell hall
  have st1 : tn 0 h₁ := T.keep 0 _ _ st2 fun b _ o e => old b o e
  have J0 := comp_inv (t' := s2.toks + ([] : List (Str × Value)).length) (ix := ix) I2 ok hCle old hns₁ hpk hall
  have pnD : ∀ p ∈ X.pn ++ pins, p.1 ≠ s2.heap.objs.size := fun p hp => (below _ (Heap.lt_size (I2.pin p hp).1)).2
  have cellD : ∀ x c, (clOf scope X.env).lookup x = some c → c ≠ s2.heap.objs.size := fun x c e => by
    obtain ⟨v, o, ho, _⟩ := I2.cell x c (clOf_sub e)
    exact (below _ (Heap.lt_size ho)).2
  have stat : ∀ {pl : List (Addr × Obj)} {H' : Hp}, (∀ b ∈ fp, H' b = none) → (∀ p ∈ pl, p.1 = s2.heap.objs.size) → ∀ b ∈ fp, FpOk (cxComp X scope N P2.objs.size s2 H2 fp pins) pl H' b := fun {pl H'} hn hp b hb => by
    refine ⟨hn b hb, (ok.exf b hb).1, ok.exfs b hb, .inl hb, (ok.exf b hb).2, fun p hm => ?_⟩
    rcases List.mem_append.mp hm with z | z
    · exact (f2 b hb).2.2.2.2.2 p z
    · rw [hp p z]; intro q; rw [q] at hfD; exact hfD hb
  have loop : ∀ s₃ : Shared, s₃ = { s2 with heap := h₁, toks := s2.toks + ([] : List (Str × Value)).length } →
      codeAny (model X.prog X.w) X.A (.compLoop (.ListComp elt [⟨target, iter, ifs, 0⟩] scope pos) 0 (.ref it) (.ref s2.heap.objs.size) (compEnvC scope (clOf scope X.env) P2.objs.size X.env)) (RR (.ref s2.heap.objs.size) P2.objs.size) s₃ := by
    rintro s₃ rfl
    refine compLoop_any (fun n s' => ∃ i acc its σ' H', Inv (cxComp X scope N P2.objs.size s2 H2 fp pins) [] σ' H' s' ∧ Wk (pickS ix σ) σ' ∧ tn i s'.heap ∧ (∀ b ∈ fp, H' b = none) ∧ s'.heap.PlainList s2.heap.objs.size (List.toArray its) ∧ Vals acc its ∧ H' s2.heap.objs.size = none ∧ W i n acc H') ?_ m0
      ⟨0, [], [], _, H2, J0, wk_refl _, st1, fun b hb => (f2 b hb).1, hacc, .nil, I2.hok.fresh (Nat.le_refl _), w0⟩
    rintro n s3 ⟨i, acc, its, σ3, H3, I3, wk3, st3, fr3, pl3, va3, nd3, w3⟩
    obtain ⟨kk, g3⟩ := id pl3
    have I3' : Inv (cxComp X scope N P2.objs.size s2 H2 fp pins) [(s2.heap.objs.size, ⟨.type "list", none, .seq (List.toArray its) kk, #[]⟩)] σ3 H3 s3 := I3.pins_of fun p hp => by
      have e := List.mem_singleton.mp hp
      subst e
      refine ⟨g3, nd3, hDC, fun z => ?_, fun v q => by cases q⟩
      obtain ⟨_, o, ho, _⟩ := (I2.stack).mem z
      exact absurd (Heap.lt_size ho) (Nat.lt_irrefl _)
    have onlyD : ∀ p ∈ [((s2.heap.objs.size, ⟨.type "list", none, .seq (List.toArray its) kk, #[]⟩) : Addr × Obj)], p.1 = s2.heap.objs.size := fun p hp => by
      rw [List.mem_singleton.mp hp]
    rcases turn i n acc H3 w3 with ⟨stop, hlen, fin⟩ | ⟨go, NN, hNN, step⟩
    · refine wpAny_mono (T.done (cxComp X scope N P2.objs.size s2 H2 fp pins) rfl rfl rfl hc i _ s3 σ3 H3 _ I3' (stat fr3 onlyD) st3 stop) (fun r s4 h4 => ?_) fun _ _ z => z
      obtain ⟨hr, I4⟩ := h4
      subst hr
      have g4 := (I4.pin (s2.heap.objs.size, _) (List.mem_append_right _ (List.mem_singleton.mpr rfl))).1
      obtain ⟨mm, hnm, _⟩ := I4.loc
      have B := comp_back I2 I4 rfl f2 ⟨kk, g4⟩ va3 hlen nd3
      refine hR _ _ s4 _ mm B hnm ?_ hCle (fin _ nd3)
      rw [upd_ne (Ne.symm hDC)]
      exact I4.free
    · refine wpAny_mono (T.item (cxComp X scope N P2.objs.size s2 H2 fp pins) rfl rfl rfl hc i _ s3 σ3 H3 _ I3' (stat fr3 onlyD) st3 go) (fun r s4 h4 => ?_) fun _ _ z => z
      obtain ⟨u, hr, h4⟩ := h4
      subst hr
      refine wpAny_mono h4 (fun _ s5 h5 => ?_) fun _ _ z => z
      obtain ⟨x, H5, I5, r5, y5, st5, fr5⟩ := h5
      have I5w := I5.weak wk3.length.symm (fun i v e => wk3.get e)
      have I5' := I5w.pinned (fp := fp) (stat fr5 onlyD) (T.obj _ _ st5)
      refine wpAny_mono (hg P2.objs.size s2 H2 fp pins _ s5 _ H5 x u _ I5' r5 (step x H5 y5)) (fun _ s6 h6 => ?_) fun _ _ z => z.elim
      obtain ⟨σ6, H6, I6, wk6, q6⟩ := h6
      refine wpAny_mono (ht P2.objs.size s2 H2 fp pins _ s6 σ6 H6 _ I6 q6) (fun ok s7 h7 => ?_) fun _ _ z => z.elim
      obtain ⟨H7, I7, q7⟩ := h7
      have keepT : ∀ {σ8 : St} {H8 : Hp} {s8 : Shared}, Inv (cxComp X scope N P2.objs.size s2 H2 fp pins) ([((s2.heap.objs.size, ⟨.type "list", none, .seq (List.toArray its) kk, #[]⟩) : Addr × Obj)] ++ pinsAt fp s5.heap) σ8 H8 s8 →
          (∀ b ∈ fp, ∀ o, s5.heap.get? b = some o → s8.heap.get? b = some o) ∧ (∀ b ∈ fp, H8 b = none) := fun {σ8 H8 s8} I8 => by
        refine ⟨fun b hb o e => (I8.pin (b, o) (List.mem_append_right _ (List.mem_append_right _ (mem_pinsAt hb e)))).1, fun b hb => ?_⟩
        obtain ⟨o, e, d⟩ := T.obj _ _ st5 b hb
        exact (I8.pin (b, o) (List.mem_append_right _ (List.mem_append_right _ (mem_pinsAt hb e)))).2.1
      have unpin : ∀ {σ8 : St} {H8 : Hp} {s8 : Shared} {pl : List (Addr × Obj)}, Inv (cxComp X scope N P2.objs.size s2 H2 fp pins) pl σ8 H8 s8 → Inv (cxComp X scope N P2.objs.size s2 H2 fp pins) [] σ8 H8 s8 := fun I8 => I8.pins_of fun p hp => by cases hp
      cases ok with
      | false =>
        simp only [Bool.false_eq_true, if_false] at q7 ⊢
        obtain ⟨m', hm, w7⟩ := hNN _ _ q7
        have p7 := I7.pin (s2.heap.objs.size, _) (List.mem_append_right _ (List.mem_append_left _ (List.mem_singleton.mpr rfl)))
        obtain ⟨k1, k2⟩ := keepT I7
        exact ⟨m', hm, i + 1, acc, its, σ6, H7, unpin I7, wk6, T.keep _ _ _ st5 k1, k2, ⟨kk, p7.1⟩, va3, p7.2.1, w7⟩
      | true =>
        simp only [if_true] at q7 ⊢
        refine wpAny_mono (he P2.objs.size s2 H2 fp pins _ s7 σ6 H7 _ I7 q7) (fun y s8 h8 => ?_) fun _ _ z => z.elim
        obtain ⟨v, H8, I8, r8, hlt, q8⟩ := h8
        obtain ⟨m', hm, w8⟩ := hNN _ _ q8
        have p8 := I8.pin (s2.heap.objs.size, _) (List.mem_append_right _ (List.mem_append_left _ (List.mem_singleton.mpr rfl)))
        obtain ⟨k1, k2⟩ := keepT I8
        have hl := va3.length
        refine wpAny_list_append_plain (items := List.toArray its) (hsz := by rw [List.size_toArray, ← hl]; exact Nat.le_of_lt hlt) ⟨kk, p8.1⟩ fun h₅ hl₅ hs₅ => ?_
        have I9 : Inv (cxComp X scope N P2.objs.size s2 H2 fp pins) [] σ6 H8 { s8 with heap := h₅ } := (unpin I8).turned (t' := s8.toks) (it := s2.heap.objs.size) (fun b o hb e => hs₅.extBut b o hb e) p8.2.1 hDC (.inr (Nat.le_refl _)) cellD (fun p hp => by
          have hp' : p ∈ X.pn ++ pins := by simpa [cxComp] using hp
          exact pnD p hp')
        refine ⟨m', hm, i + 1, acc ++ [v], its ++ [y], σ6, H8, I9, wk6, T.keep _ _ _ st5 fun b hb o e => hs₅.extBut b o (fun z => hfD (z ▸ hb)) (k1 b hb o e), k2, ?_, va3.append (.cons r8 .nil), p8.2.1, w8⟩
        have e : (its ++ [y]).toArray = its.toArray.push y := by simp
        rw [e]
        exact hl₅
  exact codeAny_compStart_list (loop _ rfl) (T.self X.A 0 _ _ _ st1 (loop _ rfl))
theorem pe_comp (hc : X.calm = true) (hi : PI X target iter wi) (hg : ∀ C s H fp pl, PG (cxComp X scope N C s H fp pl) target g) (ht : ∀ C s H fp pl, PTs (cxComp X scope N C s H fp pl) ifs ti) (he : ∀ C s H fp pl, PE (cxComp X scope N C s H fp pl) elt te)
    (hpk : PickOk X scope N ix) (hkind : scope.kind = .function := by rfl) (hcell : ∀ y ∈ scope.names, y.2 ≠ .cell := by decide) (hnames : ∀ x ∈ scope.names, x.2 = .local → scope.names.lookup x.1 = some .local := by decide) (hall : clAll scope X.env = true := by rfl)
    (hs : ∀ x, foldedSetIterable iter X.env x = pure x := by intro _; rfl) : PE X (.ListComp elt [⟨target, iter, ifs, 0⟩] scope pos) (tComp wi g ti te ix) := by
  intro pins s σ H Q I h
  rw [eval_ListComp]
  refine wpAny_comprehension_free (use := none) rfl hs (closureFor_clOf hall) hkind hnames ?_
  refine thn (hi pins s σ H _ I h) fun v s1 h1 => thn h1 fun itv s2 h2 => ?_
  obtain ⟨it, fp, tn, J, H2, e, I2, T, st2, f2, h⟩ := h2
  subst e
  refine comp_run (RR := fun acc C => compPost (model X.prog X.w) X.A X.xe none (EP X pins σ Q) acc C) hc hg ht he hkind hcell hall hpk I2 T st2 f2 h ?_
  intro D C s' H' m B hn hHC hle q
  refine ⟨m, hn, fun h' hs' => ⟨.ref D, H', B.turned (t' := s'.toks) (it := C) (fun b o hb e => hs'.extBut b o hb e) hHC (Nat.ne_of_gt (Nat.lt_of_lt_of_le I2.lt hle)) (.inr (Nat.le_trans I2.sz hle)) (fun x c e => ?_) (fun p hp => ?_), rfl, q⟩⟩
  · obtain ⟨v, o, ho, _⟩ := I2.cell x c e
    exact Nat.ne_of_lt (Nat.lt_of_lt_of_le (Heap.lt_size ho) hle)
  · exact Nat.ne_of_lt (Nat.lt_of_lt_of_le (Heap.lt_size (I2.pin p hp).1) hle)
theorem ps_setC {i : Nat} {y : Str} {py spos : Pos} (hN : X.N.Nodup) (hyi : X.N[i]? = some y) (hy : Loc X.env.scope y) (hc : X.calm = true) (hi : PI X target iter wi) (hg : ∀ C s H fp pl, PG (cxComp X scope N C s H fp pl) target g) (ht : ∀ C s H fp pl, PTs (cxComp X scope N C s H fp pl) ifs ti) (he : ∀ C s H fp pl, PE (cxComp X scope N C s H fp pl) elt te)
    (hpk : PickOk X scope N ix) (hsw : swapsWith (.ListComp elt [⟨target, iter, ifs, 0⟩] scope pos) (some (.Name y py)) spos.line X.env = pure true := by with_unfolding_all rfl) (hkind : scope.kind = .function := by rfl) (hcell : ∀ y ∈ scope.names, y.2 ≠ .cell := by decide) (hnames : ∀ x ∈ scope.names, x.2 = .local → scope.names.lookup x.1 = some .local := by decide) (hall : clAll scope X.env = true := by rfl)
    (hs : ∀ x, foldedSetIterable iter X.env x = pure x := by intro _; rfl) (hf : X.fn y = true ∨ X.env.scope.names.lookup y = some .local := by first | exact .inl rfl | exact .inr rfl | assumption) : PS X (.Assign [.Name y py] (.ListComp elt [⟨target, iter, ifs, 0⟩] scope pos) spos) (tAsg (tComp wi g ti te ix) (gName i)) := by
  intro pins s σ H D I h
  rw [exec_Assign_Name_used _ _ _ _ hsw]
  refine wpAny_bind (wpAny_standAt (wpAny_bind ?_))
  show wpAny _ X.A (do let _ ← comprehension (.ListComp elt [⟨target, iter, ifs, 0⟩] scope pos) scope X.env _ (newList []) false (eval iter X.env) (some (assign (.Name y py) X.env))) _ _ s
  refine wpAny_bind (wpAny_mono (wpAny_comprehension_free (use := some (assign (.Name y py) X.env)) (Q := fun _ s' => SP X pins D .next s') rfl hs (closureFor_clOf hall) hkind hnames ?_) (fun _ s' hq => wpAny_pure (wpAny_pure hq)) fun _ _ e => e)
  refine thn (hi pins s σ H _ I h) fun v s1 h1 => thn h1 fun itv s2 h2 => ?_
  obtain ⟨it, fp, tn, J, H2, e, I2, T, st2, f2, h⟩ := h2
  subst e
  refine comp_run (Q := fun x H1 => gName i x σ H1 D.nx) (RR := fun acc C => compPost (model X.prog X.w) X.A X.xe (some (assign (.Name y py) X.env)) (fun _ s' => SP X pins D .next s') acc C) hc hg ht he hkind hcell hall hpk I2 T st2 f2 h ?_
  intro Dd C s' H' m B hn hHC hle q
  show wpAny _ X.A (assign (.Name y py) X.env (.ref Dd)) _ _ _
  have cC : ∀ x c, X.env.cells.lookup x = some c → c ≠ C := fun x c e => by
    obtain ⟨v, o, ho, _⟩ := I2.cell x c e
    exact Nat.ne_of_lt (Nat.lt_of_lt_of_le (Heap.lt_size ho) hle)
  have lC : X.env.locals ≠ C := Nat.ne_of_lt (Nat.lt_of_lt_of_le I2.lt hle)
  refine wpAny_assign_Name (store_ok2 (v := .ref Dd) B hN hyi hy rfl (fun s4 I4 hsb => ?_) hf)
  obtain ⟨a, hsa, ha⟩ := hsb
  have nC : C ≠ a := by
    rcases ha with z | z
    · rw [z]; exact Ne.symm lC
    · exact Ne.symm (cC _ _ z)
  refine ⟨m, hn.sameBut hsa nC, fun h' hs' => ⟨_, H', I4.turned (t' := s4.toks) (it := C) (fun b o hb e => hs'.extBut b o hb e) hHC (Ne.symm lC) (.inr (Nat.le_trans I2.sz hle)) cC (fun p hp => ?_), q⟩⟩
  exact Nat.ne_of_lt (Nat.lt_of_lt_of_le (Heap.lt_size (I2.pin p hp).1) hle)
end
section
variable {g : TG} {ti : TT} {te : TE} {ix : List (Option Nat)} {σ : St} {Q : VK}
def CompW (J : It) (g : TG) (ti : TT) (te : TE) (ix : List (Option Nat)) (σ : St) (Q : VK) (H1 : Hp) : Prop := ∃ W : Nat → Nat → List V → Hp → Prop, (∃ m, W 0 m [] H1) ∧ ∀ i m acc H, W i m acc H →
  (J.stop i H ∧ acc.length ≤ sizeLine ∧ ∀ p, H p = none → Q (.ref p) (upd H p (.lst acc))) ∨
  (J.go i H ∧ ∃ N : List V → Hp → Prop, (∀ acc' H', N acc' H' → ∃ m', m' < m ∧ W (i + 1) m' acc' H') ∧ ∀ x H', J.yld i H x H' → g x (pickS ix σ) H' fun σ2 H2 => Wk (pickS ix σ) σ2 ∧ ti σ2 H2 fun b H3 => if b = true then te σ2 H3 fun v H4 => acc.length < sizeLine ∧ N (acc ++ [v]) H4 else N acc H3)
theorem a_comp {wi : TI} {H : Hp} (h : wi σ H fun J H1 => CompW J g ti te ix σ Q H1) : tComp wi g ti te ix σ H Q := h
theorem compw {J : It} {n : Nat} {H1 : Hp} (Pv : Nat → List V → Hp → Prop) (h0 : Pv 0 [] H1) (hgo : ∀ i acc H, i < n → Pv i acc H → J.go i H) (hst : ∀ acc H, Pv n acc H → J.stop n H)
    (hs : ∀ i x acc H H', i < n → Pv i acc H → J.yld i H x H' → g x (pickS ix σ) H' fun σ2 H2 => Wk (pickS ix σ) σ2 ∧ ti σ2 H2 fun b H3 => if b = true then te σ2 H3 fun v H4 => acc.length < sizeLine ∧ Pv (i + 1) (acc ++ [v]) H4 else Pv (i + 1) acc H3)
    (hd : ∀ acc H, Pv n acc H → acc.length ≤ sizeLine ∧ ∀ p, H p = none → Q (.ref p) (upd H p (.lst acc))) : CompW J g ti te ix σ Q H1 := by
  refine ⟨fun i m acc H => m = n - i ∧ i ≤ n ∧ Pv i acc H, ⟨n, by simp, Nat.zero_le _, h0⟩, ?_⟩
  rintro i m acc H ⟨rfl, hi, p⟩
  by_cases hlt : i < n
  · exact .inr ⟨hgo i acc H hlt p, Pv (i + 1), fun acc' H' p' => ⟨n - (i + 1), by omega, rfl, hlt, p'⟩, fun x H' y => hs i x acc H H' hlt p y⟩
  · have e : i = n := by omega
    subst e
    exact .inl ⟨hst acc H p, hd acc H p⟩
theorem comp_list {K : PySem.W.Frag} {a : Addr} {xs : List V} {H1 : Hp} (Pv : Nat → List V → Hp → Prop) (h0 : Pv 0 [] H1) (hl : ∀ i acc H, i ≤ xs.length → Pv i acc H → SqL K H a xs)
    (hs : ∀ i x acc H, xs[i]? = some x → Pv i acc H → g x (pickS ix σ) H fun σ2 H2 => Wk (pickS ix σ) σ2 ∧ ti σ2 H2 fun b H3 => if b = true then te σ2 H3 fun v H4 => acc.length < sizeLine ∧ Pv (i + 1) (acc ++ [v]) H4 else Pv (i + 1) acc H3)
    (hd : ∀ acc H, Pv xs.length acc H → acc.length ≤ sizeLine ∧ ∀ p, H p = none → Q (.ref p) (upd H p (.lst acc))) : CompW (Itl K a) g ti te ix σ Q H1 := by
  refine compw (n := xs.length) Pv h0 (fun i acc H hi p => ⟨xs, xs[i], hl i acc H (Nat.le_of_lt hi) p, by simp [hi]⟩) (fun acc H p => ⟨xs, hl _ acc H (Nat.le_refl _) p, Nat.le_refl _⟩) (fun i x acc H H' hi p y => ?_) hd
  obtain ⟨e, y⟩ := y
  subst e
  exact hs i x acc _ (y xs (hl i acc _ (Nat.le_of_lt hi) p)) p
theorem comp_range {lo : Int} {n : Nat} {H1 : Hp} (Pv : Nat → List V → Hp → Prop) (h0 : Pv 0 [] H1)
    (hs : ∀ i acc H, i < n → Pv i acc H → g (.int (lo + i)) (pickS ix σ) H fun σ2 H2 => Wk (pickS ix σ) σ2 ∧ ti σ2 H2 fun b H3 => if b = true then te σ2 H3 fun v H4 => acc.length < sizeLine ∧ Pv (i + 1) (acc ++ [v]) H4 else Pv (i + 1) acc H3)
    (hd : ∀ acc H, Pv n acc H → acc.length ≤ sizeLine ∧ ∀ p, H p = none → Q (.ref p) (upd H p (.lst acc))) : CompW (Itr lo n) g ti te ix σ Q H1 := by
  refine compw (n := n) Pv h0 (fun i acc H hi p => hi) (fun acc H p => Nat.le_refl _) (fun i x acc H H' hi p y => ?_) hd
  obtain ⟨e, y⟩ := y
  subst e
  subst y
  exact hs i acc _ hi p
end
end L2
namespace L2
open PySem PySem.Spec PyProof.Rows
section
variable {X : Cx}
end
section
variable {X : Cx} {tg : Expr}
end
section
variable {σ : St} {H : Hp} {R : It → Hp → Prop} {K : PySem.W.Frag}
theorem a_for {wi : TI} {g : TG} {tb : TS} {D : Ends} (h : wi σ H fun J H1 => ∃ W : Nat → Nat → St → Hp → Prop, (∃ m, W 0 m σ H1) ∧ ∀ i m σ H, W i m σ H →
  (J.stop i H ∧ D.nx σ H) ∨ (J.go i H ∧ ∃ N : St → Hp → Prop, (∀ σ' H', N σ' H' → ∃ m', m' < m ∧ W (i + 1) m' σ' H') ∧ ∀ x H', J.yld i H x H' → g x σ H' fun σ2 H2 => tb { D with nx := N, ct := N, bk := D.nx } σ2 H2)) : tFor wi g tb D σ H := h
theorem a_rng1 {ta : TA} (h : ta σ H fun vs H1 => ∃ j : Int, vs = [.int j] ∧ -(2 ^ 62) ≤ j ∧ j < 2 ^ 62 ∧ R (Itr 0 j.toNat) H1) : iRng1 ta σ H R := h
theorem a_ilist {tl : TE} (h : tl σ H fun x H1 => ∃ a, x = .ref a ∧ (∃ xs, SqL K H1 a xs) ∧ R (Itl K a) H1) : iList K tl σ H R := h
end
end L2
namespace L2
open PySem PySem.Spec PyProof.Rows
def Fly (h0 h : Heap) (H : Hp) (x : Addr) (cls : Value) : Prop :=
  h0.get? x = none ∧ H x = none ∧ ∃ a0 oe vs T oT ts, h0.get? T = none ∧ H T = none ∧ h.get? x = some oe ∧ oe.cls = cls ∧ vs[0]? = some a0 ∧ oe.data = .fields vs ∧ vs[1]? = some (.ref T) ∧ T ≠ x ∧ h.get? T = some oT ∧ oT.data = .fields ts ∧ ts[3]? = some .none
def CX1 (P : Program) (w : World) : CXT := fun outer H s E e s' => ∃ x cls H', e = .ref x ∧ s'.os = s.os ∧ AllBare s'.gens ∧ Un (frs outer) [] H H' s.heap s'.heap ∧ HOk P w H' s'.heap ∧ Fly s.heap s'.heap H' x cls ∧ E cls none H'
theorem ObjOk.has {P : Program} {w : World} {H : Hp} {h : Heap} {a : Addr} {o : HO} (x : ObjOk P w H h a o) : ∃ u, h.get? a = some u := by
  cases o with
  | lst xs => obtain ⟨_, _, _, _, e⟩ := x; exact ⟨_, e⟩
  | tup xs => obtain ⟨_, _, _, u, e, _⟩ := x; exact ⟨_, e⟩
  | dK kvs => obtain ⟨_, _, _, _, u, _, _, e, _⟩ := x; exact ⟨_, e⟩
  | dT kvs => obtain ⟨_, _, _, _, u, _, _, e, _⟩ := x; exact ⟨_, e⟩
  | set S n => obtain ⟨u, _, _, _, e, _⟩ := x; exact ⟨_, e⟩
  | ins C dx fs => obtain ⟨_, _, _, e, _⟩ := x; exact ⟨_, e⟩
  | own y => exact x
  | xd fs => obtain ⟨_, ⟨u, _, _, e, _⟩, _⟩ := x; exact ⟨_, e⟩
  | rng lo hi => obtain ⟨_, _, _, e⟩ := x; exact ⟨_, e⟩
  | frz ob u => obtain ⟨e, _⟩ := x; exact ⟨_, e⟩
  | tbl ps => exact ⟨_, x⟩
  | met f y => exact ⟨_, x⟩
  | ext φ => exact x.2.1
theorem fly_on {P : Program} {w : World} {fs fr l bad : List Addr} {H H' : Hp} {h h1 h2 : Heap} (u : Un fs [] H H' h h1) (hok : HOk P w H' h1) (hl : ∀ b ∈ l, b ∈ bad ∨ b ∈ fr) (hb : ∀ b ∈ bad, h.get? b = none ∧ H' b = none)
    (hfr : ∀ b ∈ fr, (b ∈ fs ∨ h.get? b = none) ∧ H' b = none ∧ ∃ o, h1.get? b = some o ∧ ∀ vs, o.data ≠ .fields vs) (hfs : ∀ b ∈ fs, b ∈ fr) (k : (PySem.W.hideAll h1 l).StaysIn h2) (sm : h1.UpToSlots h2) :
    Un fs [] H H' h h2 ∧ HOk P w H' h2 ∧ ∀ x cls a0, h2.TracedW (PySem.W.hideAll h1 l) x cls a0 → h.get? x = none → H' x = none → Fly h h2 H' x cls := by
  have gt : ∀ b o, h1.get? b = some o → b ∉ bad → b ∉ fr → h2.get? b = some o := fun b o e n1 n2 => k b o (PySem.W.hideAll_get _ e fun z => (hl b z).elim n1 n2)
  have nb : ∀ b o, h.get? b = some o → b ∉ bad := fun b o e z => by rw [(hb b z).1] at e; cases e
  have slots : ∀ b o, b ∈ fr → h1.get? b = some o → ∃ sl, h2.get? b = some { o with slots := sl } := fun b o hf e => by
    obtain ⟨_, _, o', e', d⟩ := hfr b hf
    rw [e] at e'
    cases e'
    exact sm b o e d
  have tr : ∀ b u, H' b = some u → b ∉ bad ∧ b ∉ fr := fun b u e => ⟨fun z => (by rw [(hb b z).2] at e; cases e), fun z => (by rw [(hfr b z).2.1] at e; cases e)⟩
  refine ⟨⟨fun b o e n hf hx => ?_, fun b o e n hf hx => ?_, fun b o e n hx => u.free b o e n hx, fun b o e hx => ?_, u.tups, u.frzs, u.tbls⟩, fun b v e => ?_, fun x cls a0 ht hx hHx => ?_⟩
  · refine gt b o (u.keep b o e n hf hx) (nb b o e) fun z => ?_
    rcases (hfr b z).1 with q | q
    · exact hf q
    · rw [e] at q; cases q
  · obtain ⟨sl, e1⟩ := u.slot b o e n hf hx
    obtain ⟨sl', e2⟩ := slots b _ (hfs b hf) e1
    exact ⟨sl', e2⟩
  · obtain ⟨o', e1⟩ := u.there b o e hx
    by_cases hf : b ∈ fr
    · obtain ⟨sl, e2⟩ := slots b o' hf e1
      exact ⟨_, e2⟩
    · exact ⟨o', gt b o' e1 (nb b o e) hf⟩
  · refine (hok b v e).stay (fun c o hc q => ?_) (fun _ q => q) fun _ _ q => q
    rcases hc with rfl | hc
    · exact gt c o q (tr c v e).1 (tr c v e).2
    · exact gt c o q (tr c _ hc).1 (tr c _ hc).2
  · obtain ⟨oe, vs, T, oT, ts, t1, ⟨t2, t3⟩, t4, t5, t6, t7, t8, t9, t10⟩ := ht
    have hT : h.get? T = none ∧ H' T = none := by
      cases q : h1.get? T with
      | none =>
        refine ⟨?_, ?_⟩
        · cases r : h.get? T with
          | none => rfl
          | some o => obtain ⟨o', e'⟩ := u.there T o r (by simp); rw [q] at e'; cases e'
        · cases r : H' T with
          | none => rfl
          | some v => obtain ⟨o', e'⟩ := (hok T v r).has; rw [q] at e'; cases e'
      | some o =>
        by_cases hm : T ∈ l
        · rcases hl T hm with z | z
          · exact hb T z
          · obtain ⟨sl, e2⟩ := slots T o z q
            obtain ⟨_, _, o', e', d⟩ := hfr T z
            rw [q] at e'
            cases e'
            rw [t8] at e2
            cases e2
            exact absurd t9 (d ts)
        · have := PySem.W.hideAll_get _ q hm
          rw [t6] at this; cases this
    exact ⟨hx, hHx, a0, oe, vs, T, oT, ts, hT.1, hT.2, t1, t2, t3, t4, t5, t7, t8, t9, t10⟩
theorem Fly.traced {h0 h : Heap} {H : Hp} {x : Addr} {cls : Value} (f : Fly h0 h H x cls) : ∃ T a0, h0.get? T = none ∧ H T = none ∧ ∀ l : List Addr, T ∈ l → h.TracedW (PySem.W.hideAll h l) x cls a0 := by
  obtain ⟨_, _, a0, oe, vs, T, oT, ts, t1, t2, t3, t4, t5, t6, t7, t8, t9, t10, t11⟩ := f
  exact ⟨T, a0, t1, t2, fun l hl => ⟨oe, vs, T, oT, ts, t3, ⟨t4, t5⟩, t6, t7, PySem.W.hideAll_none _ hl, t8, t9, t10, t11⟩⟩
section
variable {X : Cx} {pins : List (Addr × Obj)} {σ : St} {H : Hp} {s : Shared}
theorem mem_frs {l : List Env} : ∀ env ∈ l, ∀ a, env.frame = some a → a ∈ frs l := fun env he a hf => List.mem_filterMap.mpr ⟨env, he, hf⟩
theorem Inv.frm (I : Inv X pins σ H s) : ∀ b ∈ frs X.stack, (b ∈ X.fs ∨ X.s₀.heap.get? b = none) ∧ H b = none ∧ ∃ o, s.heap.get? b = some o ∧ ∀ vs, o.data ≠ .fields vs := fun b hb => by
  refine ⟨?_, I.stkFree b hb, (I.stack.mem hb).2⟩
  rcases List.mem_cons.mp (I.stkSub b hb) with e | e
  · exact .inr (by rw [e]; exact Heap.get?_none_of_le I.ok.above)
  · exact .inl e
theorem leave1 {E : XK} {x : Addr} {cls : Value} (hs : X.stack = X.env :: X.outer) (hf : X.env.frame = some X.env.locals) (hex : X.ex = []) (I : Inv X pins σ H s) {l bad : List Addr} {h1 : Heap}
    (hl : ∀ b ∈ l, b ∈ bad ∨ b ∈ frs X.stack) (hb : ∀ b ∈ bad, X.s₀.heap.get? b = none ∧ H b = none) (k : (PySem.W.hideAll s.heap l).StaysIn h1) (sm : s.heap.UpToSlots h1) {a0 : Value} (ht : h1.TracedW (PySem.W.hideAll s.heap l) x cls a0)
    (hx : X.s₀.heap.get? x = none) (hHx : H x = none) (e : E cls none H) : CX1 X.prog X.w X.outer X.H₀ X.s₀ E (.ref x) { s with heap := h1 } := by
  have ub := I.base
  rw [hex] at ub
  obtain ⟨u, ok, fl⟩ := fly_on ub I.hok hl hb I.frm (fun b hb => by rw [hs]; unfold frs; rw [List.filterMap_cons, hf]; exact List.mem_cons_of_mem _ hb) k sm
  exact ⟨x, cls, H, rfl, I.os, I.bare, u, ok, fl x cls a0 ht hx hHx, e⟩
def Xe1 (X : Cx) (E : XK) : Prop := X.xe = fun e s' => wpAny (model X.prog X.w) X.A (leaving X.env e) (fun _ s'' => CX1 X.prog X.w X.outer X.H₀ X.s₀ E e s'') (fun e' s'' => CX1 X.prog X.w X.outer X.H₀ X.s₀ E e' s'') s'
end
theorem exc_obj {K : PySem.W.Frag} {h : Heap} {C : Addr} {bmB : List Value} {newId : String} (X : K.In h) (q : PySem.W.excIn K C bmB newId = true) :
    ∃ bm N nm qn bs hd sn sub ab col dd k0 k1 k2 k3 k5 mN, h.get? C = some (excClassObj nm qn C N bs bm hd sn sub ab col dd k0 k1 k2 k3 k5 newId) ∧ h.Ns N mN ∧ mN "__init__" = none ∧ OwnTail h bmB bm := by
  unfold PySem.W.excIn at q
  split at q
  case h_2 => cases q
  case h_1 ddc cdc slc hlook =>
    split at q
    case h_2 => cases q
    case h_1 Cc bmc k0 k1 k2 k3 nn k5 hmro hslots =>
      simp only [Bool.and_eq_true, beq_iff_eq, Bool.not_eq_true'] at q
      obtain ⟨⟨⟨⟨⟨e1, e2⟩, e3⟩, e4⟩, e5⟩, e6⟩ := q
      obtain ⟨nm, bs, mro, ns, qn, hd, sn, sub, ab, col, del⟩ := cdc
      dsimp only at hmro e3 e5 e6
      obtain ⟨ll⟩ := slc
      simp only at hslots
      subst e1 e2 e3 hmro hslots
      exact ⟨_, _, _, _, _, _, _, _, _, _, _, _, _, _, _, _, _, X _ _ hlook, .of_isNs (PySem.W.isNs_of_in X e5), PySem.W.nsMap_none_of_in X e5 e6, PySem.W.tail_of_in X e4⟩
def tRaise (C : Addr) (E : XK) (te : TE) : TS := fun _ σ H => te σ H fun _ H' => E (.ref C) none H'
section
variable {X : Cx}
theorem ps_raise {E : XK} {x : Str} {np cpos pos : Pos} {e₀ : Expr} {te : TE} {C : Addr} {B newId initId : String} {bmB : List Value} (hs : X.stack = X.env :: X.outer) (hf : X.env.frame = some X.env.locals) (hex : X.ex = []) (hxe : Xe1 X E)
    (hcalm : X.calm = true) (hg : Gl X x) (hm : X.mg x = some (.ref C)) (FB : ExcBaseFacts B newId initId bmB) (hq : PySem.W.excIn X.K C bmB newId = true) (he : PE X e₀ te) (hdb : (x == ("__debug__" : Str)) = false := by decide)
    (hst : starEach [e₀] X.env = (false, eval e₀ X.env) :: starEach [] X.env := by rfl) (hpl : (backTo cpos (starEach [] X.env)).any (·.1) = false := by rfl) :
    PS X (.Raise (some (.Call (.Name x np) [e₀] [] cpos)) none pos) (tRaise C E te) := by
  intro pins s σ H D I h
  obtain ⟨bm, N, nm, qn, bs, hd, sn, sub, ab, col, dd, k0, k1, k2, k3, k5, mN, hC, hN, hni, T⟩ := exc_obj I.ok.mod.kin hq
  refine wpAny_Raise_call_subT (C := C) (nm := nm) (q := qn) (N := N) (bs := bs) (bm := bm) (hdct := hd) (sn := sn) (sub := sub) (ab := ab) (col := col) (dd := dd) (k0 := k0) (k1 := k1) (k2 := k2) (k3 := k3) (k5 := k5)
    FB (mN := mN) (T.hasType FB.hasBase) (I.ok.hd hcalm) (by rw [hst]; show (false || (backTo cpos (starEach [] X.env)).any (·.1)) = false; rw [hpl]; rfl) hni (ld_glob I hg hm ⟨rfl, ?_⟩ hdb)
  rw [hst]
  refine Calls.evalArgs_plain ?_
  refine Calls.spliced_cons ?_
  refine thn (he pins s σ H _ I h) fun u s1 ⟨v, H1, I1, _, q1⟩ => ?_
  refine Calls.spliced_nil ?_
  refine ⟨rfl, by show (1 : Nat) ≤ sizeLine; decide, I1.bk _ _ hC, hN.keeps I1.bk, T.keeps I1.bk, fun h' e hmade => ?_⟩
  obtain ⟨t, ht, ht0, htt⟩ := hmade.there
  have J : Inv X pins σ H1 { s1 with heap := h' } := I1.call' (ch := []) rfl (Un.kept hmade.keeps) (I1.hok.kept hmade.keeps) I1.bare (fun b z => absurd z (by simp))
  have up : ∀ b, s1.heap.get? b = none → X.s₀.heap.get? b = none := fun b z => by
    cases q : X.s₀.heap.get? b with
    | none => rfl
    | some o => obtain ⟨o', e'⟩ := I1.base.there b o q (by rw [hex]; simp); rw [z] at e'; cases e'
  have hHe : H1 e = none := by
    cases r : H1 e with
    | none => rfl
    | some v => obtain ⟨o', e'⟩ := (I1.hok e v r).has; rw [hmade.new] at e'; cases e'
  rw [hxe]
  have hin : ∀ env ∈ X.env :: X.outer, ∀ a, env.frame = some a → a ∈ e :: frs X.stack := fun env he a hf => .tail _ (by rw [hs]; exact mem_frs env he a hf)
  refine wpAny_leaving_firstW (base := PySem.W.hideAll h' (e :: frs X.stack)) (a0 := .ref t) (by rw [J.ok.frames, hs]) (PySem.W.funFrames_hide (hs ▸ J.stack) hin) hf ht (fun b o q => PySem.W.of_hideAll _ q)
    (PySem.W.hideAll_none _ (.head _)) rfl rfl rfl fun h2 hL => ?_
  obtain ⟨l1, _, l3, l4⟩ := hL
  exact leave1 hs hf hex J (bad := [e]) (fun b hb => by
    rcases List.mem_cons.mp hb with z | hb
    · exact .inl (by rw [z]; exact .head _)
    · exact .inr hb) (fun b hb => by
    have z : b = e := by simpa using hb
    rw [z]; exact ⟨up _ hmade.new, hHe⟩) l1 l4 l3 (up _ hmade.new) hHe q1
end
end L2
namespace L2
open PySem PySem.Spec PyProof.Rows
section
variable {P : Program} {w : World} {K : PySem.W.Frag} {mg : Str → Option Value} {base : Heap}
theorem Fun.ok1 {x qual : Str} {st : Stmt} {f : Addr} {fd : FuncData} {N ps : List Str} {k : Nat} {sp : Sp} (F : Fun K x qual st f fd) (S : FnScope N ps (defScope st)) (len : ∀ vs H Q E, sp vs H Q E → vs.length = ps.length)
    (hbody : ∀ (cdv : Value) (A : Around) (outer : List Env) (s : Shared) (H : Hp) (vs : List V) (Q : VK) (E : XK), Room k (A.deeper (envOfC qual (defScope st) s.heap.objs.size f cdv)) → sp vs H Q E →
      ∃ t, PSs (cxOf (CX1 P w) P w K mg base N qual (defScope st) f cdv A outer s H E) (defBody st) t ∧ t { nx := fun _ H' => Q .non H', rt := Q } (start N vs) H) : FnOk P w K mg base (CX1 P w) (k + 1) f fd ps sp := by
  obtain ⟨oc, od, kV, doc, pm, an, cdv, ct, osl, rfl, lk, hcd⟩ := F.ex
  exact fn_of lk hcd S len fun A outer s H vs Q E hr hsp => hbody cdv A outer s H vs Q E hr hsp
end
section
variable {X : Cx}
def PassAt (CX : CXT) (X : Cx) (σ : St) (E : XK) : Prop := ∀ (pins : List (Addr × Obj)) (H : Hp) (s : Shared) (e : Value) (s' : Shared), Inv X pins σ H s → CX X.stack H s E e s' → X.xe e s'
def tCallX (sp : Sp) (dvs : List V) (R : St → XK) (t : TA) : TE := fun σ H Q => t σ H fun vs H1 => sp (vs ++ dvs) H1 Q (R σ)
variable {CX : CXT} {k : Nat} {f : Addr} {fd : FuncData} {ps : List Str} {sp : Sp} {dvs : List V} {ds : List Value} {x : Str} {p pos : Pos} {e : Expr} {es : List Expr} {t : TA}
theorem run_fnX {E : XK} {pins : List (Addr × Obj)} {σ : St} {H : Hp} {s : Shared} {Q : VK} {us : List Value} {vs : List V} (F : FnOk X.prog X.w X.K X.mg X.base CX k f fd ps sp) (hr : Room k X.A) (hb : Binds X.K fd ps ds) (hd : Vals dvs ds)
    (hx : PassAt CX X σ E) (I : Inv X pins σ H s) (r : Vals vs us) (h : sp (vs ++ dvs) H Q E) : wpAny (model X.prog X.w) X.A (call (.ref f) us) (EP X pins σ Q) X.xe s := by
  have r2 := r.append hd
  have hl : (us ++ ds).length = ps.length := r2.length ▸ F.len _ _ _ _ h
  refine wpAny_call (codeAny_mono (F.run X.A X.stack s H ⟨us, []⟩ (us ++ ds) (vs ++ dvs) Q E hr I.env0 (hb s us I.kIn hl) r2 h) fun r s' hq => ?_)
  match r, hq with
  | .error e, hq => exact hx pins H s e s' I hq
  | .ok (.ret u), hq => exact I.after hq
  | .ok .next, hq => exact hq.elim
  | .ok .brk, hq => exact hq.elim
  | .ok .cont, hq => exact hq.elim
theorem pe_callX {R : St → XK} (F : FnOk X.prog X.w X.K X.mg X.base CX k f fd ps sp) (hr : Room k X.A) (hg : Gl X x) (hm : X.mg x = some (.ref f)) (hk : PySem.W.keepIn X.K (.ref f) = true) (hb : Binds X.K fd ps ds) (hd : Vals dvs ds)
    (hx : ∀ σ, PassAt CX X σ (R σ)) (ha : PA X (e :: es) t) (hdb : (x == ("__debug__" : Str)) = false := by decide) (he : starEach (e :: es) X.env = (false, eval e X.env) :: starEach es X.env := by rfl)
    (hpl : (backTo pos (starEach es X.env)).any (·.1) = false := by rfl) : PE X (.Call (.Name x p) (e :: es) [] pos) (tCallX sp dvs R t) := by
  intro pins s σ H Q I h
  refine wpAny_Call_Name_kw (ld_glob I hg hm ?_ hdb)
  exact PySem.W.callWith_K (h₀ := X.base) I.ok.mod.kin hk (thn (ha pos pins s σ H _ I h) fun us s1 ⟨vs, H1, I1, r, q⟩ => ⟨I1.kIn, run_fnX F hr hb hd (hx σ) I1 r q⟩) he hpl
abbrev Cx.kept2 (X : Cx) (pn : List (Addr × Obj)) (xe : Value → Shared → Prop) : Cx := { X with pn := pn, xe := xe }
theorem Cx.Ok.kept2 (ok : X.Ok) (pn : List (Addr × Obj)) (xe : Value → Shared → Prop) : (X.kept2 pn xe).Ok :=
  ⟨ok.mod, ok.kind, ok.glob, ok.blt, ok.above, ok.inj, ok.has, ok.cab, ok.hd, ok.frames, ok.stk, ok.exf, ok.bs, ok.bsz, ok.noex, ok.exfs, ok.funs, ok.frf⟩
theorem Inv.keep2 {pins : List (Addr × Obj)} {σ : St} {H : Hp} {s : Shared} (I : Inv X pins σ H s) (xe : Value → Shared → Prop) : Inv (X.kept2 (X.pn ++ pins) xe) [] σ H s :=
  ⟨I.ok.kept2 _ xe, I.os, I.bare, I.base, I.loc, I.cell, I.free, I.freeC, by rw [List.append_nil]; exact I.pin, I.hok, I.len⟩
theorem Inv.unkeep2 {pins more : List (Addr × Obj)} {xe : Value → Shared → Prop} {σ : St} {H : Hp} {s : Shared} (ok : X.Ok) (I : Inv (X.kept2 (X.pn ++ pins) xe) more σ H s) : Inv X pins σ H s :=
  ⟨ok, I.os, I.bare, I.base, I.loc, I.cell, I.free, I.freeC, fun p hp => I.pin p (List.mem_append_left _ hp), I.hok, I.len⟩
abbrev Cx.inHandler (X : Cx) (v : Value) : Cx := { X with A := X.A.mark (some v), calm := false, xe := fun _ _ => False }
theorem Inv.inHandler {pins : List (Addr × Obj)} {σ : St} {H : Hp} {s : Shared} (I : Inv X pins σ H s) (v : Value) : Inv (X.inHandler v) pins σ H s :=
  ⟨⟨I.ok.mod, I.ok.kind, I.ok.glob, I.ok.blt, I.ok.above, I.ok.inj, I.ok.has, I.ok.cab, fun z => Bool.noConfusion z, I.ok.frames, I.ok.stk, I.ok.exf, I.ok.bs, I.ok.bsz, I.ok.noex, I.ok.exfs, I.ok.funs, I.ok.frf⟩,
    I.os, I.bare, I.base, I.loc, I.cell, I.free, I.freeC, I.pin, I.hok, I.len⟩
theorem Inv.outHandler {pins : List (Addr × Obj)} {σ : St} {H : Hp} {s : Shared} {v : Value} (ok : X.Ok) (I : Inv (X.inHandler v) pins σ H s) : Inv X pins σ H s :=
  ⟨ok, I.os, I.bare, I.base, I.loc, I.cell, I.free, I.freeC, I.pin, I.hok, I.len⟩
theorem SP.imp {Y : Cx} {pins pins' : List (Addr × Obj)} {D : Ends} {fl : Flow} {s : Shared} (q : SP Y pins' D fl s) (h : ∀ σ H, Inv Y pins' σ H s → Inv X pins σ H s) : SP X pins D fl s := by
  cases fl with
  | next => obtain ⟨σ', H', I, q⟩ := q; exact ⟨σ', H', h _ _ I, q⟩
  | brk => obtain ⟨σ', H', I, q⟩ := q; exact ⟨σ', H', h _ _ I, q⟩
  | cont => obtain ⟨σ', H', I, q⟩ := q; exact ⟨σ', H', h _ _ I, q⟩
  | ret u => obtain ⟨v, σ', H', I, r, q⟩ := q; exact ⟨v, σ', H', h _ _ I, r, q⟩
def Cat (K : PySem.W.Frag) (C : Addr) (th : TS) (D : Ends) : St → XK := fun σ cls _ H => PySem.W.exmOne K cls (.ref C) = some true ∧ th D σ H
def tTry (K : PySem.W.Frag) (C : Addr) (tb : (St → XK) → TS) (th : TS) : TS := fun D σ H => tb (Cat K C th D) D σ H
theorem ps_try {body suite : List Stmt} {b₀ : Stmt} {x : Str} {np hpos pos : Pos} {C : Addr} {tb : (St → XK) → TS} {th : TS} (hs : X.stack = X.env :: X.outer) (hf : X.env.frame = some X.env.locals) (hg : Gl X x) (hm : X.mg x = some (.ref C))
    (hb : ∀ (pn : List (Addr × Obj)) (xe : Value → Shared → Prop) (R : St → XK), (∀ σ, PassAt (CX1 X.prog X.w) (X.kept2 pn xe) σ (R σ)) → PSs (X.kept2 pn xe) body (tb R))
    (hh : ∀ v : Value, PSs (X.inHandler v) (b₀ :: suite) th) (hdb : (x == ("__debug__" : Str)) = false := by decide) :
    PS X (.Try body [.ExceptHandler (some (.Name x np)) none (b₀ :: suite) hpos] [] [] pos) (tTry X.K C tb th) := by
  intro pins s σ H D I h
  refine wpAny_Try_except ?_
  have land : ∀ σ', PassAt (CX1 X.prog X.w) (X.kept2 (X.pn ++ pins) fun e s₁ => wpAny (model X.prog X.w) X.A (noteFrame e X.env) (fun _ s₂ => wpAny (model X.prog X.w) X.A (setFlight e none)
      (fun _ s₃ => wpAny (model X.prog X.w) X.A (handleBy e X.env [.ExceptHandler (some (.Name x np)) none (b₀ :: suite) hpos]) (SP X pins D) X.xe s₃) X.xe s₂) X.xe s₁) σ' (Cat X.K C th D σ') := by
    intro σ' pins' H1 s1 e s2 I1 hc
    obtain ⟨y, cls, H2, rfl, os, bare, un, hok, fly, hcat, hth⟩ := hc
    have J1 : Inv X pins σ' H1 s1 := Inv.unkeep2 I.ok I1
    have J2 : Inv X pins σ' H2 s2 := J1.call' (ch := []) os un hok bare (fun b z => absurd z (by simp))
    obtain ⟨T, a0, hT0, hT, htr⟩ := fly.traced
    have hin : ∀ env ∈ X.env :: X.outer, ∀ a, env.frame = some a → a ∈ y :: T :: frs X.stack := fun env he a hf => .tail _ (.tail _ (by rw [hs]; exact mem_frs env he a hf))
    have fl0 : Heap.FlyingW (PySem.W.hideAll s2.heap (y :: T :: frs X.stack)) (X.env :: X.outer) y cls a0 s2.heap :=
      ⟨fun b o q => PySem.W.of_hideAll _ q, PySem.W.hideAll_none _ (.head _), PySem.W.funFrames_hide (hs ▸ J2.stack) hin, htr _ (.tail _ (.head _))⟩
    have after : ∀ h2 : Heap, (PySem.W.hideAll s2.heap (y :: T :: frs X.stack)).StaysIn h2 → s2.heap.UpToSlots h2 → Inv X pins σ' H2 { s2 with heap := h2 } := fun h2 k sm => by
      obtain ⟨u, ok, _⟩ := fly_on (fs := frs X.stack) (fr := frs X.stack) (bad := [y, T]) un hok (fun b hb => by
        rcases List.mem_cons.mp hb with z | hb
        · exact .inl (by rw [z]; exact .head _)
        · rcases List.mem_cons.mp hb with z | hb
          · exact .inl (by rw [z]; exact .tail _ (.head _))
          · exact .inr hb) (fun b hb => by
        rcases List.mem_cons.mp hb with z | hb
        · rw [z]; exact ⟨fly.1, fly.2.1⟩
        · have z : b = T := by simpa using hb
          rw [z]; exact ⟨hT0, hT⟩) (fun b hb => ⟨.inl hb, (J2.frm b hb).2⟩) (fun _ hb => hb) k sm
      exact J1.call' (s' := { s2 with heap := h2 }) (ch := []) os u ok bare (fun b z => absurd z (by simp))
    refine wpAny_looks_onW (by rw [I.ok.frames, hs]) hf fl0 fun h4 held4 sm4 => ?_
    refine wpAny_landsW held4 fun h5 fl5 sm5 => ?_
    have J5 := after h5 fl5.1 (sm4.trans sm5)
    refine wpAny_handleBy_cons (codeAny_handlers_test ?_) (by intro q; cases q)
    have M5 := J5.inHandler (.ref y)
    refine ld_glob (X := X.inHandler (.ref y)) M5 hg hm ?_ hdb
    obtain ⟨ob, hob, hoc⟩ := fl5.there
    subst hoc
    refine (PySem.W.exm_one (M := model X.prog X.w) J5.kIn ((PySem.W.Looks.ld hob).andThen .now) hcat).here ?_
    refine codeAny_handlers_suite (lands_againW fl5 fun h6 fl6 sm6 => ?_)
    have J6 := (after h6 fl6.1 ((sm4.trans sm5).trans sm6)).inHandler (.ref y)
    exact wpAny_mono (hh (.ref y) pins _ σ' H2 D J6 hth) (fun fl s7 q => q.imp fun σ H J => Inv.outHandler I.ok J) fun _ _ z => z.elim
  refine wpAny_mono (hb _ _ _ land [] s σ H D (I.keep2 _) h) (fun fl s1 q => ?_) fun _ _ z => z
  have q' : SP X pins D fl s1 := q.imp fun σ H J => Inv.unkeep2 I.ok J
  cases fl with
  | next => exact wpAny_execs_nil q'
  | brk => exact q'
  | cont => exact q'
  | ret u => exact q'
theorem a_try {K : PySem.W.Frag} {C : Addr} {tb : (St → XK) → TS} {th : TS} {D : Ends} {σ : St} {H : Hp} (h : tb (Cat K C th D) D σ H) : tTry K C tb th D σ H := h
theorem a_callX {R : St → XK} {σ : St} {H : Hp} {Q : VK} (h : t σ H fun vs H1 => sp (vs ++ []) H1 Q (R σ)) : tCallX sp [] R t σ H Q := h
theorem a_cat {K : PySem.W.Frag} {C : Addr} {th : TS} {D : Ends} {σ : St} {cls : Value} {o : Option Addr} {H : Hp} (h : PySem.W.exmOne K cls (.ref C) = some true) (q : th D σ H) : Cat K C th D σ cls o H := ⟨h, q⟩
theorem a_raise {C : Addr} {E : XK} {te : TE} {D : Ends} {σ : St} {H : Hp} (h : te σ H fun _ H' => E (.ref C) none H') : tRaise C E te D σ H := h
end
end L2
namespace L2
open PySem PySem.Spec PyProof.Rows PySem.W Builtin Builtin.ObjectAttr Builtin.Getset_descriptor
structure ExcK (K : Frag) (C : Addr) : Prop where
  fg : findIn K (.ref C) "__getattribute__" = some (some (.builtin "BaseException.__getattribute__"))
  fn : findIn K (.ref C) "__getattr__" = some none
  fc : findIn K (.ref C) "__class__" = some (some (.builtin "object.__class__"))
  mo : mroIn K C (.type "object") = some true
  sb : subIn K (.ref C) (.type "BaseException") = some true
section
variable {prog : Program} {w : World} {A : Around} {E : Value → Shared → Prop} {K : Frag} {h : Heap} {g : Array GenState} {d : Drawn} {t : Nat} {os : OsState} {x C : Addr}
end
section
variable {X : Cx}
end
end L2
namespace L2
open PySem PySem.Spec PyProof.Rows
structure RoomH (k : Nat) (A : Around) : Prop where
  dp : A.depth + 3 * k + 5 < recursionLimit
  un : A.units + 16 * k + 200 < cLine
structure FnOkH (P : Program) (w : World) (K : PySem.W.Frag) (mg : Str → Option Value) (base : Heap) (k : Nat) (f : Addr) (fd : FuncData) (ps : List Str) (sp : Sp) : Prop where
  len : ∀ vs H Q E, sp vs H Q E → vs.length = ps.length
  run : ∀ (A : Around) (outer : List Env) (s : Shared) (H : Hp) (args : Args) (us : List Value) (vs : List V) (Q : VK) (E : XK), RoomH k A → Env0 P w K mg base A outer s H → BindsTo s fd args (ps.zip us) → Vals vs us → sp vs H Q E →
    codeAny (model P w) A (.call (.ref f) args) (CR CX0 outer P w H s Q E) s
section
variable {P : Program} {w : World} {K : PySem.W.Frag} {mg : Str → Option Value} {base : Heap}
end
section
variable {X : Cx} {k : Nat} {f : Addr} {fd : FuncData} {ps : List Str} {sp : Sp} {x : Str} {p pos : Pos} {e : Expr} {es : List Expr} {t : TA}
end
section
variable {X : Cx}
end
end L2
namespace Vc
open PySem L2 Sf
end Vc
namespace L2
open PySem PySem.Spec PyProof.Rows
def Ite (K : PySem.W.Frag) (a : Addr) : It :=
  ⟨fun i H => ∃ xs x, SqL K H a xs ∧ xs[i]? = some x, fun i H y H' => ∃ p x, y = .ref p ∧ H p = none ∧ (∀ xs, SqL K H a xs → xs[i]? = some x) ∧ H' = upd H p (.tup [.int i, x]), fun i H => ∃ xs, SqL K H a xs ∧ xs.length ≤ i⟩
theorem Inv.turned2 {X : Cx} {pins : List (Addr × Obj)} {σ : St} {H : Hp} {s : Shared} {h' : Heap} {t' : Nat} {a b : Addr} (I : Inv X pins σ H s) (k : ∀ c o, c ≠ a → c ≠ b → s.heap.get? c = some o → h'.get? c = some o)
    (ha : FpOk X pins H a) (hb : FpOk X pins H b) (ea : ∃ o, h'.get? a = some o) (eb : ∃ o, h'.get? b = some o) : Inv X pins σ H { s with heap := h', toks := t' } := by
  obtain ⟨a0, a1, a2, a3, a4, a5⟩ := ha
  obtain ⟨b0, b1, b2, b3, b4, b5⟩ := hb
  refine I.call' (s' := { s with heap := h', toks := t' }) (ch := [a, b]) rfl ⟨fun c o e _ _ hc => ?_, fun c o e _ _ hc => ⟨o.slots, ?_⟩, fun _ _ _ n _ => n, fun c o e hc => ⟨o, ?_⟩, fun _ _ q => q, fun _ _ _ q => q, fun _ ps q => ⟨#[], by rw [q]; simp⟩⟩ (fun c u e => ?_) I.bare (fun c hc => ?_)
  · exact k c o (fun z => hc (by simp [z])) (fun z => hc (by simp [z])) e
  · exact k c o (fun z => hc (by simp [z])) (fun z => hc (by simp [z])) e
  · exact k c o (fun z => hc (by simp [z])) (fun z => hc (by simp [z])) e
  · refine (I.hok c u e).stay (fun d o hd q => k d o ?_ ?_ q) (fun _ q => q) fun _ _ q => q
    · rintro rfl
      rcases hd with z | z
      · rw [← z, a0] at e; cases e
      · rw [a0] at z; cases z
    · rintro rfl
      rcases hd with z | z
      · rw [← z, b0] at e; cases e
      · rw [b0] at z; cases z
  · rcases List.mem_cons.mp hc with z | hc
    · rw [z]; exact ⟨a3, a1, a4, a5⟩
    · have z : c = b := by simpa using hc
      rw [z]; exact ⟨b3, b1, b4, b5⟩
theorem turn_enum {P : Program} {w : World} {K : PySem.W.Frag} {elts : List Expr} {x1 : Nat} {pos : Pos} (a it en : Addr) (hne : en ≠ it) :
    Turn P w K (.Tuple elts x1 pos) (Ite K a) [en, it] en (fun i h => (∃ old, IsEnum h en it i old) ∧ h.IsListIter it a i) where
  mem := by simp
  obj := fun i h st b hb => by
    obtain ⟨⟨old, e1⟩, o, e2, c, d⟩ := st
    rcases List.mem_cons.mp hb with z | hb
    · rw [z]; exact ⟨_, e1, fun v z => by cases z⟩
    · have z : b = it := by simpa using hb
      rw [z]; exact ⟨o, e2, fun v z => by rw [d] at z; cases z⟩
  keep := fun i h h' st k => by
    obtain ⟨⟨old, e1⟩, e2⟩ := st
    exact ⟨⟨old, k en (by simp) _ e1⟩, e2.at fun o e => k it (by simp) o e⟩
  item := by
    intro X hP hw hK hc i pins s σ H E I hf st hg
    subst hP hw hK
    obtain ⟨⟨old, he⟩, hit⟩ := st
    obtain ⟨xs, x, hq, hx⟩ := hg
    obtain ⟨its, rv, p, hz⟩ := I.list hq
    obtain ⟨u, hu, ru⟩ := rv.get hx
    have fe := hf en (by simp)
    have fi := hf it (by simp)
    refine wpAny_pyNext_enum_item he hit p.isList (x := u) (by simpa using hu) hne fun h' hout hit' hT hsz hk => ?_
    refine ⟨.ref s.heap.objs.size, rfl, wpAny_letOwnedTupleGo_enum hout fun h2 he2 hs => ?_⟩
    have le : en < s.heap.objs.size := Heap.lt_size he
    have li : it < s.heap.objs.size := let ⟨o, e, _⟩ := hit; Heap.lt_size e
    have hfr : H s.heap.objs.size = none := I.hok.fresh (Nat.le_refl _)
    have ne1 : en ≠ s.heap.objs.size := Nat.ne_of_lt le
    have ne2 : it ≠ s.heap.objs.size := Nat.ne_of_lt li
    have I1 := I.laid (a := s.heap.objs.size) (o := .tup [.int i, x]) (h' := s.heap.push { cls := .type "tuple", data := .seq #[.int i s.toks, u] }) (t' := s.toks) (fun b q hq => Heap.get?_push_of_some _ hq) (Nat.le_refl _)
      ⟨by show 2 ≤ sizeLine; decide, [.int i s.toks, u], .cons ⟨_, rfl⟩ (.cons ru .nil), ⟨_, Heap.get?_push_size _ rfl, rfl, _, rfl⟩⟩
    have up : ∀ {b : Addr}, b ≠ s.heap.objs.size → FpOk X pins H b → FpOk X pins (upd H s.heap.objs.size (.tup [.int i, x])) b := fun hb f => ⟨by rw [upd_ne hb]; exact f.1, f.2⟩
    have hk2 : ∀ b q, b ≠ en → b ≠ it → (s.heap.push { cls := .type "tuple", data := .seq #[.int i s.toks, u] }).get? b = some q → h2.get? b = some q := fun b q h1 h3 hq => by
      refine hs.extBut b q h1 ?_
      rcases Heap.get?_push_cases hq with ⟨hbs, eq⟩ | hq
      · subst hbs
        subst eq
        exact hT
      · exact hk b q h1 h3 hq
    obtain ⟨oi, ei, ci, di⟩ := hit'
    have hit2 : h2.IsListIter it a (i + 1) := ⟨oi, hs.extBut it oi (Ne.symm hne) ei, ci, di⟩
    refine ⟨.ref s.heap.objs.size, upd H s.heap.objs.size (.tup [.int i, x]), ?_, rfl, ⟨_, x, rfl, hfr, fun ys hy => by rw [I.list_inj hy hq]; exact hx, rfl⟩, ⟨⟨_, he2⟩, hit2⟩, fun b hb => ?_⟩
    · exact Inv.turned2 (s := { s with heap := s.heap.push { cls := .type "tuple", data := .seq #[.int i s.toks, u] }, toks := s.toks }) (t' := s.toks + 1) I1 hk2 (up ne1 fe) (up ne2 fi) ⟨_, he2⟩ ⟨oi, hs.extBut it oi (Ne.symm hne) ei⟩
    · rcases List.mem_cons.mp hb with z | hb
      · rw [z, upd_ne ne1]; exact fe.1
      · have z : b = it := by simpa using hb
        rw [z, upd_ne ne2]; exact fi.1
  done := by
    intro X hP hw hK hc i pins s σ H E I hf st hg
    subst hP hw hK
    obtain ⟨⟨old, he⟩, hit⟩ := st
    obtain ⟨xs, hq, hx⟩ := hg
    obtain ⟨its, rv, p, hz⟩ := I.list hq
    have hl := rv.length
    obtain ⟨f0, f1, f2, f3, f4, f5⟩ := hf it (by simp)
    exact wpAny_pyNext_enum_end (I.ok.hd hc) he hit p.isList (by simp; omega) fun h' eb => ⟨rfl, I.turned (t' := s.toks) (fun b o hb e => eb b o hb e) f0 f1 f3 f4 f5⟩
  self := fun _ _ _ _ _ st h => let ⟨⟨_, he⟩, _⟩ := st; wpAny_pyIter_enum he h
section
variable {X : Cx}
def iEnum (K : PySem.W.Frag) (ta : TA) : TI := fun σ H R => ta σ H fun vs H1 => ∃ a, vs = [.ref a] ∧ (∃ xs, SqL K H1 a xs) ∧ R (Ite K a) H1
theorem pi_enum {l : Expr} {ta : TA} {elts : List Expr} {x1 : Nat} {tpos p pos : Pos} (hg : Gl X "enumerate") (hm : X.mg "enumerate" = none) (ha : PA X [l] ta) (hs : starEach [l] X.env = [(false, eval l X.env)] := by rfl) :
    PI X (.Tuple elts x1 tpos) (.Call (.Name "enumerate" p) [l] [] pos) (iEnum X.K ta) := by
  intro pins s σ H R I h
  refine Call_ (ld_blt I hg hm (u := .type "enumerate") rfl (PyProof.Rows.callWith_type1 (thn (ha pos pins s σ H _ I h) fun us s1 ⟨vs, H1, I1, r1, a, e, ⟨xs, hq⟩, q⟩ => ?_) hs rfl))
  subst e
  cases r1 with
  | cons r rr =>
    cases rr
    cases r
    obtain ⟨its, rv, p, hz⟩ := I1.list hq
    refine call_enumerate_list p.isList fun h' hE hit hsz hk => wpAny_pyIter_enum hE ?_
    have ne : s1.heap.objs.size + 1 ≠ s1.heap.objs.size := by omega
    refine ⟨s1.heap.objs.size + 1, [s1.heap.objs.size + 1, s1.heap.objs.size], _, _, H1, rfl, I1.kept (t' := s1.toks) hk, turn_enum a _ _ ne, ⟨⟨_, hE⟩, hit⟩, fun b hb => ?_, q⟩
    rcases List.mem_cons.mp hb with z | hb
    · rw [z]; exact I1.fpOk (by omega) (I1.hok.fresh (by omega))
    · have z : b = s1.heap.objs.size := by simpa using hb
      rw [z]; exact I1.fpOk (Nat.le_refl _) (I1.hok.fresh (Nat.le_refl _))
end
theorem a_ienum {K : PySem.W.Frag} {ta : TA} {σ : St} {H : Hp} {R : It → Hp → Prop} (h : ta σ H fun vs H1 => ∃ a, vs = [.ref a] ∧ (∃ xs, SqL K H1 a xs) ∧ R (Ite K a) H1) : iEnum K ta σ H R := h
theorem for_enum {K : PySem.W.Frag} {a : Addr} {xs : List V} {g : TG} {tb : TS} {D : Ends} {σ : St} {H : Hp} (Pv : Nat → St → Hp → Prop) (h0 : Pv 0 σ H)
    (hl : ∀ i σ H, i ≤ xs.length → Pv i σ H → SqL K H a xs)
    (hs : ∀ i x σ H p, xs[i]? = some x → Pv i σ H → H p = none → g (.ref p) σ (upd H p (.tup [.int i, x])) fun σ2 H2 => tb { D with nx := Pv (i + 1), ct := Pv (i + 1), bk := D.nx } σ2 H2) (hd : ∀ σ H, Pv xs.length σ H → D.nx σ H) :
    ∃ W : Nat → Nat → St → Hp → Prop, (∃ m, W 0 m σ H) ∧ ∀ i m σ H, W i m σ H →
      ((Ite K a).stop i H ∧ D.nx σ H) ∨ ((Ite K a).go i H ∧ ∃ N : St → Hp → Prop, (∀ σ' H', N σ' H' → ∃ m', m' < m ∧ W (i + 1) m' σ' H') ∧ ∀ x H', (Ite K a).yld i H x H' → g x σ H' fun σ2 H2 => tb { D with nx := N, ct := N, bk := D.nx } σ2 H2) := by
  refine ⟨fun i m σ H => m = xs.length - i ∧ i ≤ xs.length ∧ Pv i σ H, ⟨xs.length, by simp, Nat.zero_le _, h0⟩, ?_⟩
  rintro i m σ H ⟨rfl, hi, p⟩
  have q := hl i σ H hi p
  rcases Nat.lt_or_ge i xs.length with hlt | hge
  · refine .inr ⟨⟨xs, xs[i], q, by simp [hlt]⟩, Pv (i + 1), fun σ' H' p' => ⟨xs.length - (i + 1), by omega, rfl, hlt, p'⟩, fun y H' z => ?_⟩
    obtain ⟨pa, x, rfl, e2, e3, rfl⟩ := z
    exact hs i x σ H pa (e3 xs q) p e2
  · obtain rfl : i = xs.length := by omega
    exact .inl ⟨⟨xs, q, hge⟩, hd σ H p⟩
end L2
namespace L2
open PySem PySem.Spec PyProof.Rows
theorem vals_bools : ∀ {bs : List Bool} {us : List Value}, Vals (bs.map V.bl) us → us = bs.map Value.bool
  | [], _, .nil => rfl
  | b :: r, _, .cons h t => by
    have e := vals_bools (bs := r) t
    subst e
    cases h
    rfl
theorem any_range (bs : List Bool) : (List.range bs.length).any (fun i => bs.getD i false) = bs.any id := by
  rw [Bool.eq_iff_iff, List.any_eq_true, List.any_eq_true]
  constructor
  · rintro ⟨i, hi, h⟩
    rw [List.mem_range] at hi
    refine ⟨bs[i], List.getElem_mem hi, ?_⟩
    rw [List.getD_eq_getElem?_getD, List.getElem?_eq_getElem hi] at h
    exact h
  · rintro ⟨b, hb, h⟩
    obtain ⟨i, hi, rfl⟩ := List.getElem_of_mem hb
    refine ⟨i, List.mem_range.mpr hi, ?_⟩
    rw [List.getD_eq_getElem?_getD, List.getElem?_eq_getElem hi]
    exact h
theorem truth_bools {prog : Program} {w : World} {A : Around} (bs : List Bool) : TruthOf prog w A (fun i v => (bs.map Value.bool).toArray[i]? = some v) (fun i => bs.getD i false) := by
  intro i v s Q E hP hQ
  simp only [List.getElem?_toArray, List.getElem?_map] at hP
  cases q : bs[i]? with
  | none => rw [q] at hP; cases hP
  | some b =>
    rw [q] at hP
    cases hP
    have hQ : Q (bs.getD i false) s := hQ
    rw [List.getD_eq_getElem?_getD, q] at hQ
    exact wpAny_pure hQ
section
variable {X : Cx}
theorem call_anyB (hc : X.calm = true) : CallR X (.builtin "any") (fun xs H Q => ∃ (a : Addr) (bs : List Bool), xs = [.ref a] ∧ SqL X.K H a (bs.map V.bl) ∧ Q (.bl (bs.any id)) H) := by
  intro pins s σ H xs us Q I r h
  obtain ⟨a, bs, rfl, hq, q⟩ := h
  obtain ⟨u, rfl, ru⟩ := vals1 r
  cases ru
  obtain ⟨its, rv, p, hz⟩ := I.list hq
  obtain rfl := vals_bools rv
  have hL := p.isList
  have la : a < s.heap.objs.size := (let ⟨_, e, _⟩ := hL; Heap.lt_size e)
  refine call_any_walk (wpAny_pyIter_list hL ?_)
  refine ⟨s.heap.objs.size, _, _, _, _, _, _, rfl, Walks.list (by exact I.ok.hd hc) _ a (Nat.ne_of_lt la) _, ⟨⟨_, Heap.get?_push_size _ rfl, rfl, rfl⟩, (let ⟨o, e, c⟩ := hL; ⟨o, Heap.get?_push_of_some _ e, c⟩)⟩, truth_bools bs, fun h' tk hk => ?_⟩
  refine ⟨.bl (bs.any id), H, I.kept fun b o e => hk b o (fun z => absurd (Heap.lt_size e) (by rw [show b = s.heap.objs.size from by simpa using z]; exact Nat.lt_irrefl _)) (Heap.get?_push_of_some _ e), ?_, q⟩
  rw [← any_range]
  show _ = _
  simp
end
end L2
namespace L2
theorem a_yes {σ : St} {H : Hp} {R : Bool → Hp → Prop} (h : R true H) : tYes σ H R := h
theorem sizeLine_big : 1000000 ≤ PySem.sizeLine := by decide
end L2
namespace Vc
open PySem L2 Sf
theorem Al.bools {F : Hp} : ∀ {vs : List V} {bs : List Bool}, Al rB F vs bs → vs = bs.map V.bl
  | [], [], _ => rfl
  | _ :: _, _ :: _, ⟨h1, h2⟩ => by rw [List.map_cons, ← Al.bools h2]; cases h1; rfl
  | [], _ :: _, h => h.elim
  | _ :: _, [], h => h.elim
end Vc
namespace L2
open PySem PySem.Spec PyProof.Rows
section
variable {X : Cx}
end
section
variable {g : TG} {ti : TT} {te : TE} {ix : List (Option Nat)} {σ : St} {Q : VK}
end
end L2
namespace L2
open PySem PySem.Spec PyProof.Rows
theorem Inv.turnedL {X : Cx} {pins : List (Addr × Obj)} {σ : St} {H : Hp} {s : Shared} {h' : Heap} {t' : Nat} {ch : List Addr} (I : Inv X pins σ H s) (k : ∀ c o, c ∉ ch → s.heap.get? c = some o → h'.get? c = some o)
    (hf : ∀ b ∈ ch, FpOk X pins H b) : Inv X pins σ H { s with heap := h', toks := t' } := by
  refine I.call' (s' := { s with heap := h', toks := t' }) (ch := ch) rfl ⟨fun c o e _ _ hc => k c o hc e, fun c o e _ _ hc => ⟨o.slots, k c o hc e⟩, fun _ _ _ n _ => n, fun c o e hc => ⟨o, k c o hc e⟩, fun _ _ q => q, fun _ _ _ q => q, fun _ ps q => ⟨#[], by rw [q]; simp⟩⟩ (fun c u e => ?_) I.bare (fun c hc => ?_)
  · refine (I.hok c u e).stay (fun d o hd q => k d o (fun hm => ?_) q) (fun _ q => q) fun _ _ q => q
    have d0 := (hf d hm).1
    rcases hd with z | z
    · rw [← z, d0] at e; cases e
    · rw [d0] at z; cases z
  · obtain ⟨a0, a1, a2, a3, a4, a5⟩ := hf c hc
    exact ⟨a3, a1, a4, a5⟩
def Itz (K : PySem.W.Frag) (a b : Addr) : It :=
  ⟨fun i H => ∃ xs ys x y, SqL K H a xs ∧ SqL K H b ys ∧ xs[i]? = some x ∧ ys[i]? = some y,
    fun i H v H' => ∃ p x y, v = .ref p ∧ H p = none ∧ (∀ xs, SqL K H a xs → xs[i]? = some x) ∧ (∀ ys, SqL K H b ys → ys[i]? = some y) ∧ H' = upd H p (.tup [x, y]),
    fun i H => ∃ xs ys, SqL K H a xs ∧ SqL K H b ys ∧ (xs.length ≤ i ∨ ys.length ≤ i)⟩
theorem turn_zip {P : Program} {w : World} {K : PySem.W.Frag} {elts : List Expr} {x1 : Nat} {pos : Pos} {a b z TI TO i1 i2 : Addr} (D : ZipApart z TI TO i1 i2 a b) :
    Turn P w K (.Tuple elts x1 pos) (Itz K a b) [z, TI, TO, i1, i2] z (fun i h => IsZip h z TI TO .none ∧ IsPair h TI (.ref i1) (.ref i2) ∧ (∃ c d, IsPair h TO c d) ∧ h.IsListIter i1 a i ∧ h.IsListIter i2 b i) where
  mem := by simp
  obj := fun i h st c hc => by
    obtain ⟨e1, e2, ⟨u, v, e3⟩, ⟨o4, e4, c4, d4⟩, ⟨o5, e5, c5, d5⟩⟩ := st
    simp only [List.mem_cons, List.not_mem_nil, or_false] at hc
    rcases hc with rfl | rfl | rfl | rfl | rfl
    · exact ⟨_, e1, fun v z => by cases z⟩
    · exact ⟨_, e2, fun v z => by cases z⟩
    · exact ⟨_, e3, fun v z => by cases z⟩
    · exact ⟨o4, e4, fun v z => by rw [d4] at z; cases z⟩
    · exact ⟨o5, e5, fun v z => by rw [d5] at z; cases z⟩
  keep := fun i h h' st k => by
    obtain ⟨e1, e2, ⟨u, v, e3⟩, e4, e5⟩ := st
    exact ⟨k z (by simp) _ e1, k TI (by simp) _ e2, ⟨u, v, k TO (by simp) _ e3⟩, e4.at fun o e => k i1 (by simp) o e, e5.at fun o e => k i2 (by simp) o e⟩
  item := by
    intro X hP hw hK hc i pins s σ H E I hf st hg
    subst hP hw hK
    obtain ⟨e1, e2, ⟨c, d, e3⟩, e4, e5⟩ := st
    obtain ⟨xs, ys, x, y, hq, hq', hx, hy⟩ := hg
    obtain ⟨its, rv, p, hz⟩ := I.list hq
    obtain ⟨its', rv', p', hz'⟩ := I.list hq'
    obtain ⟨u, hu, ru⟩ := rv.get hx
    obtain ⟨u', hu', ru'⟩ := rv'.get hy
    refine wpAny_pyNext_zip_item D e1 e2 e3 e4 e5 p.isList p'.isList (x := u) (y := u') (by simpa using hu) (by simpa using hu') fun h' g1 g2 g3 g4 hT hsz hk => ?_
    refine ⟨.ref s.heap.objs.size, rfl, wpAny_letOwnedTupleGo_zip g1 fun h2 hz2 hs => ?_⟩
    have hfr : H s.heap.objs.size = none := I.hok.fresh (Nat.le_refl _)
    have lt : ∀ {c o}, s.heap.get? c = some o → c ≠ s.heap.objs.size := fun e => Nat.ne_of_lt (Heap.lt_size e)
    have ne : ∀ c ∈ [z, TI, TO, i1, i2], c ≠ s.heap.objs.size := fun c hc => by
      simp only [List.mem_cons, List.not_mem_nil, or_false] at hc
      rcases hc with rfl | rfl | rfl | rfl | rfl
      · exact lt e1
      · exact lt e2
      · exact lt e3
      · obtain ⟨o, e, _⟩ := e4; exact lt e
      · obtain ⟨o, e, _⟩ := e5; exact lt e
    have I1 := I.laid (a := s.heap.objs.size) (o := .tup [x, y]) (h' := s.heap.push { cls := .type "tuple", data := .seq #[u, u'] }) (t' := s.toks) (fun b q hq => Heap.get?_push_of_some _ hq) (Nat.le_refl _)
      ⟨by show 2 ≤ sizeLine; decide, [u, u'], .cons ru (.cons ru' .nil), ⟨_, Heap.get?_push_size _ rfl, rfl, _, rfl⟩⟩
    have hk2 : ∀ c q, c ∉ [z, TI, TO, i1, i2] → (s.heap.push { cls := .type "tuple", data := .seq #[u, u'] }).get? c = some q → h2.get? c = some q := fun c q hc hq => by
      refine hs.extBut c q (fun z' => hc (by simp [z'])) ?_
      rcases Heap.get?_push_cases hq with ⟨hbs, eq⟩ | hq
      · subst hbs
        subst eq
        exact hT
      · exact hk c q (fun z' => hc (by simp [z'])) (fun z' => hc (by simp [z'])) (fun z' => hc (by simp [z'])) (fun z' => hc (by simp [z'])) hq
    have t2 : IsPair h2 TI (.ref i1) (.ref i2) := hs.extBut TI _ D.TIz (hk TI _ D.TIz D.TITO D.TIi1 D.TIi2 e2)
    have t3 : IsPair h2 TO u u' := hs.extBut TO _ D.TOz g2
    have t4 : h2.IsListIter i1 a (i + 1) := g3.at fun o e => hs.extBut i1 o D.i1z e
    have t5 : h2.IsListIter i2 b (i + 1) := g4.at fun o e => hs.extBut i2 o D.i2z e
    refine ⟨.ref s.heap.objs.size, upd H s.heap.objs.size (.tup [x, y]), ?_, rfl, ⟨_, x, y, rfl, hfr, fun ys hy => by rw [I.list_inj hy hq]; exact hx, fun ys hy' => by rw [I.list_inj hy' hq']; exact hy, rfl⟩, ⟨hz2, t2, ⟨_, _, t3⟩, t4, t5⟩, fun c hc => ?_⟩
    · exact Inv.turnedL (s := { s with heap := s.heap.push { cls := .type "tuple", data := .seq #[u, u'] }, toks := s.toks }) (t' := s.toks) I1 hk2 fun c hc => ⟨by rw [upd_ne (ne c hc)]; exact (hf c hc).1, (hf c hc).2⟩
    · rw [upd_ne (ne c hc)]; exact (hf c hc).1
  done := by
    intro X hP hw hK hc i pins s σ H E I hf st hg
    subst hP hw hK
    obtain ⟨e1, e2, ⟨c, d, e3⟩, e4, e5⟩ := st
    obtain ⟨xs, ys, hq, hq', hor⟩ := hg
    obtain ⟨its, rv, p, hz⟩ := I.list hq
    obtain ⟨its', rv', p', hz'⟩ := I.list hq'
    have l1 := rv.length
    have l2 := rv'.length
    refine wpAny_pyNext_zip_end (I.ok.hd hc) D e1 e2 e3 e4 e5 p.isList p'.isList (hor.imp (fun h => by simp; omega) fun h => by simp; omega) fun h' hk => ⟨rfl, I.turnedL (t' := s.toks) (ch := [z, TI, TO, i1, i2]) (fun c o hc e => ?_) hf⟩
    exact hk c o (fun z' => hc (by simp [z'])) (fun z' => hc (by simp [z'])) (fun z' => hc (by simp [z'])) (fun z' => hc (by simp [z'])) e
  self := fun _ _ _ _ _ st h => wpAny_pyIter_zip st.1 h
section
variable {X : Cx}
def iZip (K : PySem.W.Frag) (ta : TA) : TI := fun σ H R => ta σ H fun vs H1 => ∃ a b, vs = [.ref a, .ref b] ∧ (∃ xs, SqL K H1 a xs) ∧ (∃ ys, SqL K H1 b ys) ∧ R (Itz K a b) H1
theorem pi_zip {l m : Expr} {ta : TA} {elts : List Expr} {x1 : Nat} {tpos p pos : Pos} (hg : Gl X "zip") (hm : X.mg "zip" = none) (ha : PA X [l, m] ta) (hs : starEach [l, m] X.env = [(false, eval l X.env), (false, eval m X.env)] := by rfl)
    (hs2 : starEach [m] X.env = [(false, eval m X.env)] := by rfl) : PI X (.Tuple elts x1 tpos) (.Call (.Name "zip" p) [l, m] [] pos) (iZip X.K ta) := by
  intro pins s σ H R I h
  refine Call_ (ld_blt I hg hm (u := .type "zip") rfl (PyProof.Rows.callWith_type1 (thn (ha pos pins s σ H _ I h) fun us s1 ⟨vs, H1, I1, r1, a, b, e, ⟨xs, hq⟩, ⟨ys, hq'⟩, q⟩ => ?_) (by rw [hs, hs2]) (by rw [hs2]; rfl)))
  subst e
  cases r1 with
  | cons r rr =>
    cases rr with
    | cons r' rr =>
      cases rr
      cases r
      cases r'
      obtain ⟨its, rv, p, hz⟩ := I1.list hq
      obtain ⟨its', rv', p', hz'⟩ := I1.list hq'
      have la : a < s1.heap.objs.size := let ⟨_, e, _⟩ := p.isList; Heap.lt_size e
      have lb : b < s1.heap.objs.size := let ⟨_, e, _⟩ := p'.isList; Heap.lt_size e
      refine call_zip_2 p.isList p'.isList fun h' g1 g2 g3 g4 g5 hsz hk => wpAny_pyIter_zip g1 ?_
      have Dz : ZipApart (s1.heap.objs.size + 4) (s1.heap.objs.size + 2) (s1.heap.objs.size + 3) s1.heap.objs.size (s1.heap.objs.size + 1) a b := by
        have lt : ∀ {x y : Nat}, x < y → x ≠ y := fun h => Nat.ne_of_lt h
        have gt : ∀ {x y : Nat}, y < x → x ≠ y := fun h => Nat.ne_of_gt h
        constructor <;> first | exact lt (by omega) | exact gt (by omega) | exact lt (Nat.lt_of_lt_of_le la (by omega)) | exact lt (Nat.lt_of_lt_of_le lb (by omega))
      refine ⟨s1.heap.objs.size + 4, [s1.heap.objs.size + 4, s1.heap.objs.size + 2, s1.heap.objs.size + 3, s1.heap.objs.size, s1.heap.objs.size + 1], _, _, H1, rfl, I1.kept (t' := s1.toks) hk, turn_zip Dz, ⟨g1, g2, ⟨_, _, g3⟩, g4, g5⟩, fun c hc => ?_, q⟩
      have z : s1.heap.objs.size ≤ c := by
        simp only [List.mem_cons, List.not_mem_nil, or_false] at hc
        rcases hc with rfl | rfl | rfl | rfl | rfl
        · exact Nat.le_add_right _ _
        · exact Nat.le_add_right _ _
        · exact Nat.le_add_right _ _
        · exact Nat.le_refl _
        · exact Nat.le_add_right _ _
      exact I1.fpOk z (I1.hok.fresh z)
end
theorem a_izip {K : PySem.W.Frag} {ta : TA} {σ : St} {H : Hp} {R : It → Hp → Prop} (h : ta σ H fun vs H1 => ∃ a b, vs = [.ref a, .ref b] ∧ (∃ xs, SqL K H1 a xs) ∧ (∃ ys, SqL K H1 b ys) ∧ R (Itz K a b) H1) : iZip K ta σ H R := h
theorem for_zip {K : PySem.W.Frag} {a b : Addr} {xs ys : List V} {g : TG} {tb : TS} {D : Ends} {σ : St} {H : Hp} (Pv : Nat → St → Hp → Prop) (h0 : Pv 0 σ H) (hl : ∀ i σ H, i ≤ min xs.length ys.length → Pv i σ H → SqL K H a xs ∧ SqL K H b ys)
    (hs : ∀ i x y σ H p, xs[i]? = some x → ys[i]? = some y → Pv i σ H → H p = none → g (.ref p) σ (upd H p (.tup [x, y])) fun σ2 H2 => tb { D with nx := Pv (i + 1), ct := Pv (i + 1), bk := D.nx } σ2 H2) (hd : ∀ σ H, Pv (min xs.length ys.length) σ H → D.nx σ H) :
    ∃ W : Nat → Nat → St → Hp → Prop, (∃ m, W 0 m σ H) ∧ ∀ i m σ H, W i m σ H →
      ((Itz K a b).stop i H ∧ D.nx σ H) ∨ ((Itz K a b).go i H ∧ ∃ N : St → Hp → Prop, (∀ σ' H', N σ' H' → ∃ m', m' < m ∧ W (i + 1) m' σ' H') ∧ ∀ x H', (Itz K a b).yld i H x H' → g x σ H' fun σ2 H2 => tb { D with nx := N, ct := N, bk := D.nx } σ2 H2) := by
  refine ⟨fun i m σ H => m = min xs.length ys.length - i ∧ i ≤ min xs.length ys.length ∧ Pv i σ H, ⟨min xs.length ys.length, by simp, Nat.zero_le _, h0⟩, ?_⟩
  rintro i m σ H ⟨rfl, hi, p⟩
  obtain ⟨q1, q2⟩ := hl i σ H hi p
  rcases Nat.lt_or_ge i (min xs.length ys.length) with hlt | hge
  · have h1 : i < xs.length := by omega
    have h2 : i < ys.length := by omega
    refine .inr ⟨⟨xs, ys, xs[i], ys[i], q1, q2, by simp [h1], by simp [h2]⟩, Pv (i + 1), fun σ' H' p' => ⟨min xs.length ys.length - (i + 1), by omega, rfl, hlt, p'⟩, fun v H' z => ?_⟩
    obtain ⟨pa, x, y, rfl, e2, e3, e4, rfl⟩ := z
    exact hs i x y σ H pa (e3 xs q1) (e4 ys q2) p e2
  · have e : i = min xs.length ys.length := by omega
    subst e
    exact .inl ⟨⟨xs, ys, q1, q2, by omega⟩, hd σ H p⟩
end L2
namespace Vc
open PySem L2 Sf
theorem dgetD {α : Type} {A : Rep α} {F H : Hp} {a : Addr} {kvs : List (Key × V)} {m : List (Str × α)} {z : V} {d : α} (x : Str) (rd : Rd H a (.dK kvs)) (dk : Dk A F kvs m) (hz : A F z d) : ∃ o, DGet H a (V.str x) o ∧ A F (o.getD z) ((gtd m x).getD d) := by
  refine ⟨valV kvs (Sum.inr x : Key), .inl ⟨kvs, Sum.inr x, rd, rfl, rfl⟩, ?_⟩
  rcases dk.val x with ⟨e1, e2⟩ | ⟨v, y, e1, e2, e3⟩
  · rw [e1, e2]; exact hz
  · rw [e1, e2]; exact e3
end Vc
namespace L2
end L2
namespace L2
open PySem PySem.Spec PyProof.Rows
section
variable {X : Cx}
end
section
variable {σ : St} {H : Hp} {Q : VK}
theorem a_bm {K : PySem.W.Frag} {T : String} {r : V → List V → Hp → VK → Prop} {to : TE} {t : TA} (h : to σ H fun x H1 => tyV K T x H1 ∧ t σ H1 fun xs H2 => r x xs H2 Q) : tBM K T r to t σ H Q := h
theorem a_app {l : Addr} {xs : List V} {y : V} (h : H l = some (.lst xs)) (hz : xs.length < sizeLine) (q : Q .non (upd H l (.lst (xs ++ [y])))) : rAppend (.ref l) [y] H Q := ⟨l, xs, y, rfl, rfl, h, hz, q⟩
end
section
variable {g : TG} {ti : TT} {te : TE} {ix : List (Option Nat)} {σ : St} {Q : VK}
theorem comp_zip {K : PySem.W.Frag} {a b : Addr} {xs ys : List V} {H1 : Hp} (Pv : Nat → List V → Hp → Prop) (h0 : Pv 0 [] H1) (hl : ∀ i acc H, i ≤ min xs.length ys.length → Pv i acc H → SqL K H a xs ∧ SqL K H b ys)
    (hs : ∀ i x y acc H p, xs[i]? = some x → ys[i]? = some y → Pv i acc H → H p = none → g (.ref p) (pickS ix σ) (upd H p (.tup [x, y])) fun σ2 H2 => Wk (pickS ix σ) σ2 ∧ ti σ2 H2 fun b H3 => if b = true then te σ2 H3 fun v H4 => acc.length < sizeLine ∧ Pv (i + 1) (acc ++ [v]) H4 else Pv (i + 1) acc H3)
    (hd : ∀ acc H, Pv (min xs.length ys.length) acc H → acc.length ≤ sizeLine ∧ ∀ p, H p = none → Q (.ref p) (upd H p (.lst acc))) : CompW (Itz K a b) g ti te ix σ Q H1 := by
  refine compw (n := min xs.length ys.length) Pv h0 (fun i acc H hi p => ?_) (fun acc H p => ?_) (fun i x acc H H' hi p y => ?_) hd
  · obtain ⟨q1, q2⟩ := hl i acc H (Nat.le_of_lt hi) p
    exact ⟨xs, ys, xs[i]'(by omega), ys[i]'(by omega), q1, q2, by simp, by simp⟩
  · obtain ⟨q1, q2⟩ := hl _ acc H (Nat.le_refl _) p
    refine ⟨xs, ys, q1, q2, ?_⟩
    omega
  · obtain ⟨q1, q2⟩ := hl i acc H (Nat.le_of_lt hi) p
    obtain ⟨pa, x1, y1, rfl, e2, e3, e4, rfl⟩ := y
    exact hs i x1 y1 acc H pa (e3 xs q1) (e4 ys q2) p e2
end
end L2
namespace Vc
open PySem L2 Sf
section
variable {X : Cx} {pins : List (Addr × Obj)} {σ : St} {H : Hp} {s : Shared} {Au : Around}
end
section
variable {X : Cx}
end
end Vc
namespace Vc
open PySem L2 Sf
theorem tyV_lst {K : PySem.W.Frag} {H : Hp} {p : Addr} {xs : List V} (h : H p = some (.lst xs)) : tyV K "list" (.ref p) H := by
  exact .inl ⟨rfl, xs, SqL.of h⟩
theorem cutA_most {α : Type} (xs : List α) (a b : Nat) : (cutA xs (some (a : Int)) (some (b : Int))).length ≤ b - a := by
  unfold cutA
  rw [HT.sIx_nat, HT.sIx_nat, List.length_take, List.length_drop]
  omega
theorem map_take_succ {α β : Type} {xs : List α} {i : Nat} {x : α} (f : α → β) (hx : xs[i]? = some x) : (xs.take (i + 1)).map f = (xs.take i).map f ++ [f x] := by
  rw [List.take_add_one, hx, List.map_append]
  rfl
end Vc
namespace L2
open PySem PySem.Spec PyProof.Rows
end L2
namespace Vc
open PySem L2 Sf
end Vc
namespace L2
open PySem PySem.Spec PyProof.Rows
section
variable {X : Cx}
end
section
variable {X : Cx}
end
section
variable {X : Cx}
end
end L2
namespace Vc
open PySem L2 Sf
section
variable {K : PySem.W.Frag} {F H : Hp} {Q : VK}
end
end Vc
namespace Vc
open PySem L2 Sf
theorem cutA_in {α : Type} {xs : List α} {i : Nat} (a b : Nat) (h : i < (cutA xs (some (a : Int)) (some (b : Int))).length) : a + i < xs.length := by
  unfold cutA at h
  rw [HT.sIx_nat, HT.sIx_nat, List.length_take, List.length_drop] at h
  omega
end Vc
namespace L2
open PySem PySem.Spec PyProof.Rows
structure FunD (K : PySem.W.Frag) (x qual : Str) (st : Stmt) (f : Addr) (fd : FuncData) (ds : List Value) : Prop where
  ex : ∃ (oc : Value) (od : Option Addr) (kV doc pm : Value) (an : Option Addr) (cdv ct : Value) (osl : Array (Option Value)) (T : Addr) (o : Obj) (n : Nat),
    fd = PySem.W.fnOf x qual (defArgs st) (defBody st) (defScope st) (.ref T) kV doc pm an cdv ct ∧ K.lookup f = some ⟨oc, od, .func fd, osl⟩ ∧ PySem.W.codeIn K cdv qual = true ∧ K.lookup T = some o ∧ o.data = .seq ds.toArray n
  kp : PySem.W.keepIn K (.ref f) = true
section
variable {P : Program} {w : World} {K : PySem.W.Frag} {mg : Str → Option Value} {base : Heap}
end
section
variable {g : TG} {ti : TT} {te : TE} {ix : List (Option Nat)} {σ : St} {Q : VK}
end
end L2
namespace Vc
open PySem L2 Sf
section
variable {K : PySem.W.Frag} {F H : Hp} {Q : VK}
end
end Vc
namespace L2
open PySem PySem.Spec PyProof.Rows
def RnW (P : Program) (w : World) (A : Around) (s : Shared) (u v : Value) : Prop := ∀ (E : Value → Shared → Prop) (Q : Value → Shared → Prop), Q (.bool false) s → wpAny (model P w) A (richCompare .NotEq u v) Q E s
section
variable {P : Program} {w : World} {A : Around} {s : Shared}
section
open PySem.AutoSeq1 (wpAny_loadPart')
theorem tupNW (a b : Addr) (xs ys : Array Value) (n m : Nat) (da db : Option Addr) (sa sb : Array (Option Value)) (hz : xs.size = ys.size) :
    MeetsIn P w (Builtin.«tuple.__ne__» ⟨[.ref a, .ref b], []⟩) (fun A R s => s.heap.get? a = some ⟨.type "tuple", da, .seq xs n, sa⟩ ∧ s.heap.get? b = some ⟨.type "tuple", db, .seq ys m, sb⟩ ∧
      (∀ j (h1 : j < xs.size) (h2 : j < ys.size), EqW P w A.in1 s xs[j] ys[j]) ∧ R (.ok (.ret (.bool false))) s) := by
  refine .of_wp fun A R s h => ?_
  obtain ⟨hp, g, d, tk, os⟩ := s
  obtain ⟨ha, hb, he, hR⟩ := h
  have sub := AutoSeq1.sub_tuple_tuple
  have len : (xs.toList.zip ys.toList).length = xs.size := by simp; omega
  wp_walk using wpAny_loadPart' ha, wpAny_loadPart' hb, wpAny_forIn_list _ (fun r c s' => c.1 = none ∧ s' = ⟨hp, g, d, tk, os⟩ ∧ ∃ i, r = (xs.toList.zip ys.toList).drop i) _
  case turn =>
    rintro ⟨x, y⟩ r c s' ⟨hc, rfl, i, hr⟩
    by_cases lt : i < (xs.toList.zip ys.toList).length
    · rw [List.drop_eq_getElem_cons lt] at hr
      injection hr with e1 e2
      have i1 : i < xs.size := by omega
      have i2 : i < ys.size := by omega
      obtain ⟨ex, ey⟩ : x = xs[i] ∧ y = ys[i] := by
        have z := Prod.mk.inj (e1.trans List.getElem_zip)
        exact ⟨by simpa using z.1, by simpa using z.2⟩
      subst ex ey
      refine wpAny_bind (he i i1 i2 _ _ ?_)
      wp_walk
      exact ⟨rfl, rfl, i + 1, e2⟩
    · rw [List.drop_of_length_le (by omega)] at hr
      cases hr
  case fin =>
    rintro ⟨c1, c2⟩ s' ⟨hc, rfl, _⟩
    simp only at hc
    subst hc
    wp_walk
    refine ⟨_, rfl, ?_⟩
    simpa [Builtin.Tuple.tupleCompareSizes, hz] using hR
  case h => exact ⟨rfl, rfl, 0, rfl⟩
end
theorem RnW.tuples {a b : Addr} {xs ys : Array Value} (ha : IsTup s.heap a xs) (hb : IsTup s.heap b ys) (hz : xs.size = ys.size) (hu : A.units < cLine) (he : ∀ j (h1 : j < xs.size) (h2 : j < ys.size), EqW P w A.in1 s xs[j] ys[j]) : RnW P w A s (.ref a) (.ref b) := fun E Q q => by
  obtain ⟨⟨ca, da, xa, sa⟩, oa, ka, n, va⟩ := id ha
  obtain ⟨⟨cb, db, xb, sb⟩, ob, kb, m, vb⟩ := id hb
  simp only at ka va kb vb
  subst ka va kb vb
  refine wpAny_richCompare_same_room (op := .NotEq) (T := "tuple") ⟨_, oa, rfl⟩ ⟨_, ob, rfl⟩ PySem.F.slot_tuple_ne ?_ hu
  exact call_meetsIn PySem.F.slot_tuple_ne ⟨_, oa, rfl⟩ PySem.F.entry_tuple_ne (PySem.F.args_tuple_ne_2 _ _) (tupNW a b xs ys n m da db sa sb hz) ⟨oa, ob, he, ⟨(fun z => nomatch z), q⟩⟩
section
open PySem.AutoSeq1 (wpAny_loadPart')
open PySem.MeetsSeq PySem.MeetsSeq2 PySem.MeetsSeq3 PySem.SeqRoads2 PySem.SeqAt
theorem lstLoopNW (a b : Addr) (xs ys : Array Value) (n m : Nat) (da db : Option Addr) (sa sb : Array (Option Value)) (hz : xs.size = ys.size) : ∀ (k i : Nat), xs.size - i = k →
    MeetsIn P w (Builtin.«list.__eq__.loop» ⟨[.ref a, .ref b, rawInt i, rawInt 3], []⟩) (fun A R s => s.heap.get? a = some ⟨.type "list", da, .seq xs n, sa⟩ ∧ s.heap.get? b = some ⟨.type "list", db, .seq ys m, sb⟩ ∧
      (∀ j (h1 : j < xs.size) (h2 : j < ys.size), EqW P w A.in1 s xs[j] ys[j]) ∧ R (.ok (.ret (.bool false))) s)
  | 0, i, hk => fun A R s h => by
    obtain ⟨hp, g, d, tk, os⟩ := s
    obtain ⟨ha, hb, he, hR⟩ := h
    wp_walk using wpAny_loadPart' ha, wpAny_loadPart' hb
    have z1 : xs[((i : Nat) : Int).toNat]? = none := by simp; omega
    have z2 : ys[((i : Nat) : Int).toNat]? = none := by simp; omega
    rw [z1, z2]
    wp_walk using wpAny_loadPart' ha, wpAny_loadPart' hb
    show R (.ok (.ret (.bool (xs.size != ys.size)))) _
    rw [hz, bne_self_eq_false]
    exact hR
  | k + 1, i, hk => fun A R s h => by
    obtain ⟨hp, g, d, tk, os⟩ := s
    obtain ⟨ha, hb, he, hR⟩ := h
    wp_walk using wpAny_loadPart' ha, wpAny_loadPart' hb
    have i1 : i < xs.size := by omega
    have i2 : i < ys.size := by omega
    have z1 : xs[((i : Nat) : Int).toNat]? = some xs[i] := by simp [i1]
    have z2 : ys[((i : Nat) : Int).toNat]? = some ys[i] := by simp [i2]
    rw [z1, z2]
    refine wpAny_bind (he i i1 i2 _ _ ?_)
    wp_walk
    have up : ((i : Int) + 1) = ((i + 1 : Nat) : Int) := Int.natCast_succ i
    rw [up]
    refine ⟨plainId_quiet plain_eq_loop _, codeAny_builtin entry_eq_loop ?_⟩
    rw [Around.under_plainId plain_eq_loop _]
    exact lstLoopNW a b xs ys n m da db sa sb hz k (i + 1) (by omega) A R _ ⟨ha, hb, he, hR⟩
theorem lstNW (a b : Addr) (xs ys : Array Value) (n m : Nat) (da db : Option Addr) (sa sb : Array (Option Value)) (hz : xs.size = ys.size) :
    MeetsIn P w (Builtin.«list.__ne__» ⟨[.ref a, .ref b], []⟩) (fun A R s => s.heap.get? a = some ⟨.type "list", da, .seq xs n, sa⟩ ∧ s.heap.get? b = some ⟨.type "list", db, .seq ys m, sb⟩ ∧
      (∀ j (h1 : j < xs.size) (h2 : j < ys.size), EqW P w A.in1 s xs[j] ys[j]) ∧ R (.ok (.ret (.bool false))) s) := fun A R s h => by
  obtain ⟨hp, g, d, tk, os⟩ := s
  obtain ⟨ha, hb, he, hR⟩ := h
  have sub := AutoSeq1.sub_list_list
  have same : ¬ (xs.size != ys.size) = true := by simp [hz]
  wp_walk using wpAny_loadPart' ha, wpAny_loadPart' hb
  refine ⟨plainId_quiet plain_eq_loop _, codeAny_builtin entry_eq_loop ?_⟩
  rw [Around.under_plainId plain_eq_loop _]
  exact lstLoopNW a b xs ys n m da db sa sb hz _ 0 rfl A R _ ⟨ha, hb, he, hR⟩
end
theorem RnW.lists {a b : Addr} {xs ys : Array Value} (ha : s.heap.IsList a xs) (hb : s.heap.IsList b ys) (hz : xs.size = ys.size) (hu : A.units < cLine) (he : ∀ j (h1 : j < xs.size) (h2 : j < ys.size), EqW P w A.in1 s xs[j] ys[j]) : RnW P w A s (.ref a) (.ref b) := fun E Q q => by
  obtain ⟨⟨ca, da, xa, sa⟩, oa, ka, n, va⟩ := id ha
  obtain ⟨⟨cb, db, xb, sb⟩, ob, kb, m, vb⟩ := id hb
  simp only at ka va kb vb
  subst ka va kb vb
  refine wpAny_richCompare_same_room (op := .NotEq) (T := "list") ⟨_, oa, rfl⟩ ⟨_, ob, rfl⟩ PySem.F.slot_list_ne ?_ hu
  exact call_meetsIn PySem.F.slot_list_ne ⟨_, oa, rfl⟩ PySem.F.entry_list_ne (PySem.F.args_list_ne_2 _ _) (lstNW a b xs ys n m da db sa sb hz) ⟨oa, ob, he, ⟨(fun z => nomatch z), q⟩⟩
end
section
variable {X : Cx} {pins : List (Addr × Obj)} {σ : St} {H : Hp} {s : Shared}
theorem rnW_seq {A : Around} {p q : Addr} {xs ys : List V} (I : Inv X pins σ H s) (hk : (SqT X.K H p xs ∧ SqT X.K H q ys) ∨ (SqL X.K H p xs ∧ SqL X.K H q ys)) (hu : A.units < cLine) (hl : xs.length = ys.length)
    (he : ∀ (j : Nat) x y u v, xs[j]? = some x → ys[j]? = some y → RelV x u → RelV y v → EqW X.prog X.w A.in1 s u v) : RnW X.prog X.w A s (.ref p) (.ref q) := by
  have fin : ∀ (us vs : List Value), Vals xs us → Vals ys vs → ∀ j (h1 : j < us.toArray.size) (h2 : j < vs.toArray.size), EqW X.prog X.w A.in1 s us.toArray[j] vs.toArray[j] := by
    intro us vs r1 r2 j h1 h2
    have l1 := r1.length
    have l2 := r2.length
    simp only [List.size_toArray] at h1 h2
    obtain ⟨u, e1, ru⟩ := r1.get (i := j) (x := xs[j]'(by omega)) (by simp)
    obtain ⟨v, e2, rv⟩ := r2.get (i := j) (x := ys[j]'(by omega)) (by simp)
    obtain ⟨_, f1⟩ := List.getElem?_eq_some_iff.mp e1
    obtain ⟨_, f2⟩ := List.getElem?_eq_some_iff.mp e2
    have g1 : us.toArray[j]'(by simpa using h1) = u := by simpa using f1
    have g2 : vs.toArray[j]'(by simpa using h2) = v := by simpa using f2
    rw [g1, g2]
    exact he j _ _ u v (by simp) (by simp) ru rv
  rcases hk with ⟨h1, h2⟩ | ⟨h1, h2⟩
  · obtain ⟨us, r1, t1, _⟩ := I.tuple h1
    obtain ⟨vs, r2, t2, _⟩ := I.tuple h2
    have l1 := r1.length
    have l2 := r2.length
    exact RnW.tuples t1 t2 (by simp; omega) hu (fin us vs r1 r2)
  · obtain ⟨us, r1, t1, _⟩ := I.list h1
    obtain ⟨vs, r2, t2, _⟩ := I.list h2
    have l1 := r1.length
    have l2 := r2.length
    exact RnW.lists t1.isList t2.isList (by simp; omega) hu (fin us vs r1 r2)
end
section
variable {X : Cx}
def rNeN (K : PySem.W.Frag) : R2 := fun x y H Q => rEqN K x y H fun _ _ => Q (.bl false) H
theorem op_neN (hu : X.A.units + 64 < cLine) : OpR X (compareOp .NotEq) (rNeN X.K) := by
  intro pins s σ H x y v u Q I rx ry h
  obtain ⟨n, p, q, xs, ys, hn, rfl, rfl, hk, al, hq⟩ := h
  cases rx
  cases ry
  refine rnW_seq I hk (by omega) al.length (fun j x y u v h1 h2 r1 r2 => ?_) X.xe _ ⟨.bl false, H, I, rfl, hq⟩
  exact eqN_at I n (A := X.A.in1) (al.get h1 h2) r1 r2 (by rw [in1_units]; omega)
end
end L2
namespace Vc
open PySem L2 Sf
section
variable {K : PySem.W.Frag} {F H : Hp} {Q : VK}
theorem a_neN {v w : V} (h : ∀ Q' : VK, Q' (.bl true) H → rEqN K v w H Q') (q : Q (.bl false) H) : rNeN K v w H Q := h (fun _ _ => Q (.bl false) H) q
end
end Vc
namespace L2
open PySem PySem.Spec PyProof.Rows
section
variable {X : Cx}
end
section
variable {X : Cx}
end
end L2
namespace Vc
open PySem L2 Sf
structure ZSs (X : Cx) (st : List Stmt) (t : TS) : Prop where
  h : PSs X st t
theorem zss_cons {X : Cx} {st : Stmt} {rest : List Stmt} {t u : TS} (h1 : PS X st t) (h2 : ZSs X rest u) : ZSs X (st :: rest) (tSeq t u) := ⟨pss_cons h1 h2.h⟩
theorem zss_one {X : Cx} {st : Stmt} {t : TS} (h1 : PS X st t) : ZSs X [st] t := ⟨pss_one h1⟩
structure ZS (X : Cx) (st : Stmt) (t : TS) : Prop where
  h : PS X st t
structure ZE (X : Cx) (e : Expr) (t : TE) : Prop where
  h : PE X e t
structure ZA (X : Cx) (e : List Expr) (t : TA) : Prop where
  h : PA X e t
end Vc
namespace L2
open PySem PySem.Spec PyProof.Rows
section
variable {prog : Program} {w : World} {κ : Type} [DecidableEq κ] {kn : KeyKind prog w κ} {A : Around} {E : Value → Shared → Prop} {s : Shared}
end
section
variable {X : Cx}
end
end L2
namespace L2
open PySem PySem.Spec PyProof.Rows
section
variable {prog : Program} {w : World} {A : Around} {E : Value → Shared → Prop} {s : Shared}
end
section
variable {X : Cx}
end
section
variable {X : Cx}
end
end L2
namespace Vc
open PySem L2
section
variable {X : Cx} {pins : List (Addr × Obj)} {σ : St} {H : Hp} {s : Shared} {Au : Around}
open Sf in
end
section
variable {X : Cx}
end
end Vc
namespace L2
open PySem PySem.Spec PyProof.Rows
section
variable {X : Cx}
def rCatS (K : PySem.W.Frag) : R2 := fun x y H Q => ∃ l b xs zs, x = .ref l ∧ y = .ref b ∧ SqL K H l xs ∧ SqL K H b zs ∧ xs.length + zs.length ≤ sizeLine ∧ ∀ p, H p = none → Q (.ref p) (upd H p (.lst (xs ++ zs)))
theorem op_catS : OpR X (binaryOp .Add) (rCatS X.K) := by
  intro pins s σ H x y v u Q I rx ry h
  obtain ⟨l, b, xs, zs, rfl, rfl, hH, hB, hz, q⟩ := h
  cases rx
  cases ry
  obtain ⟨its, r, p1, z1⟩ := I.list hH
  obtain ⟨its2, r2, p2, z2⟩ := I.list hB
  have n1 := r.length
  have n2 := r2.length
  obtain ⟨⟨c1, d1, t1, sl1⟩, ho, hc, n, hd⟩ := p1.isList
  obtain ⟨⟨c2, d2, t2, sl2⟩, ho2, hc2, m, hd2⟩ := p2.isList
  simp only at hc hd hc2 hd2
  subst hc hd hc2 hd2
  refine concat_meets ⟨_, ho, rfl⟩ ⟨_, ho2, rfl⟩ noFill_list_add seq_list_add PySem.F.slot_list_add PySem.F.entry_list_add (PySem.F.args_list_add_2 _ _) (list_addW l b its.toArray its2.toArray n m d1 d2 sl1 sl2 (by simp; omega)) ⟨ho, ho2, ?_⟩
  rw [show its.toArray ++ its2.toArray = (its ++ its2).toArray by simp]
  exact ⟨.ref _, _, I.lnew (t' := s.toks) (r.append r2) (by rw [List.length_append]; omega), rfl, q _ I.fresh⟩
end
theorem a_prs {tk tv : TE} {σ : St} {H : Hp} {Q : List (V × V) → Hp → Prop} (h : tk σ H fun x H1 => tv σ H1 fun y H2 => Q [(x, y)] H2) : tPairs [(tk, tv)] σ H Q := h
end L2
namespace L2
open PySem
abbrev V.u : Int ⊕ Str → V
  | .inl n => .int n
  | .inr x => .str x
theorem u_int {u : Int ⊕ Str} {n : Int} : decide (V.u u = V.int n) = decide (u = .inl n) := by cases u <;> simp [V.u]
theorem u_str {u : Int ⊕ Str} {n : Str} : decide (V.u u = V.str n) = decide (u = .inr n) := by cases u <;> simp [V.u]
theorem int_u {u : Int ⊕ Str} {n : Int} : decide (V.int n = V.u u) = decide (Sum.inl n = u) := by cases u <;> simp [V.u]
theorem str_u {u : Int ⊕ Str} {n : Str} : decide (V.str n = V.u u) = decide (Sum.inr n = u) := by cases u <;> simp [V.u]
theorem a_eqUI {u : Int ⊕ Str} {n : Int} {H : Hp} {Q : VK} (h : Q (.bl (decide (u = .inl n))) H) : rEq (V.u u) (.int n) H Q := ⟨by cases u <;> rfl, by rw [u_int]; exact h⟩
theorem a_eqUS {u : Int ⊕ Str} {n : Str} {H : Hp} {Q : VK} (h : Q (.bl (decide (u = .inr n))) H) : rEq (V.u u) (.str n) H Q := ⟨by cases u <;> rfl, by rw [u_str]; exact h⟩
theorem a_eqIU {u : Int ⊕ Str} {n : Int} {H : Hp} {Q : VK} (h : Q (.bl (decide (Sum.inl n = u))) H) : rEq (.int n) (V.u u) H Q := ⟨by cases u <;> rfl, by rw [int_u]; exact h⟩
theorem a_eqSU {u : Int ⊕ Str} {n : Str} {H : Hp} {Q : VK} (h : Q (.bl (decide (Sum.inr n = u))) H) : rEq (.str n) (V.u u) H Q := ⟨by cases u <;> rfl, by rw [str_u]; exact h⟩
end L2
namespace Vc
open PySem L2
abbrev rU : Rep (Int ⊕ Str) := fun _ v u => v = V.u u
instance : Mo rU := ⟨fun _ h => h⟩
theorem Al.uI {F : Hp} : ∀ {vs : List V} {xs : List Int}, Al rI F vs xs → Al rU F vs (xs.map Sum.inl)
  | [], [], _ => True.intro
  | _ :: _, _ :: _, h => ⟨h.1, Al.uI h.2⟩
  | [], _ :: _, h => h.elim
  | _ :: _, [], h => h.elim
theorem Al.uS {F : Hp} : ∀ {vs : List V} {xs : List Str}, Al rS F vs xs → Al rU F vs (xs.map Sum.inr)
  | [], [], _ => True.intro
  | _ :: _, _ :: _, h => ⟨h.1, Al.uS h.2⟩
  | [], _ :: _, h => h.elim
  | _ :: _, [], h => h.elim
section
variable {X : Cx}
end
theorem chgX {Fb Hb F H : Hp} {p : Addr} {o : HO} (gb : Gr0 Fb Hb F H) (hb : Hb p = none) (hf : F p = none) : Gr0 Fb Hb F (upd H p o) ∧ (upd H p o) p = some o ∧ ∀ a, a ≠ p → (upd H p o) a = H a :=
  chg (R := fun U => Gr0 Fb Hb F U ∧ U p = some o ∧ ∀ a, a ≠ p → U a = H a) gb hb hf fun _ a b c => ⟨a, b, c⟩
end Vc
namespace Vc
open PySem L2
def hid (a b : Addr) (H : Hp) : Hp := fun x => if x = a ∨ x = b then none else H x
theorem hid_at {a b x : Addr} {H : Hp} {o : HO} (h1 : x ≠ a) (h2 : x ≠ b) (h : H x = some o) : hid a b H x = some o := by
  unfold hid; rw [if_neg (fun z => z.elim h1 h2)]; exact h
theorem hid_a {a b : Addr} {H : Hp} : hid a b H a = none := if_pos (.inl rfl)
theorem hid_b {a b : Addr} {H : Hp} : hid a b H b = none := if_pos (.inr rfl)
theorem hid_some {a b x : Addr} {H : Hp} {o : HO} (h : hid a b H x = some o) : x ≠ a ∧ x ≠ b ∧ H x = some o := by
  unfold hid at h
  by_cases z : x = a ∨ x = b
  · rw [if_pos z] at h; cases h
  · rw [if_neg z] at h; exact ⟨fun e => z (.inl e), fun e => z (.inr e), h⟩
theorem hid_gb {a b : Addr} {F H : Hp} (wd : Same F H) : Gr0 F (hid a b H) F H := ⟨fun _ _ e => (hid_some e).2.2, Same.refl _, wd, fun x u h e => by rw [h] at e; cases e⟩
theorem hid_tr {a b : Addr} {Fb Hb F H F' H' : Hp} (gb : Gr0 Fb Hb F H) (g : Gr F (hid a b H) F' H') (ha : Hb a = none) (hb : Hb b = none) : Gr0 Fb Hb F' H' := by
  refine ⟨fun x u e => ?_, gb.f.trans g.f, g.s, fun x u e z => ?_⟩
  · exact g.h x u (hid_at (fun q => by rw [q, ha] at e; cases e) (fun q => by rw [q, hb] at e; cases e) (gb.h x u e))
  · cases q : F x with
    | some w => exact gb.n x w q z
    | none =>
      have h := g.n x u e q
      by_cases c : x = a ∨ x = b
      · rcases c with c | c
        · rw [c]; exact ha
        · rw [c]; exact hb
      · unfold hid at h
        rw [if_neg c] at h
        exact gb.h.free h
end Vc
namespace L2
theorem a_din {ty td : TE} {σ : St} {H : Hp} {Q : VK} (h : ty σ H fun y H1 => td σ H1 fun x H2 => ∃ a o, x = .ref a ∧ DGet H2 a y o ∧ Q (.bl o.isSome) H2) : tDIn ty td σ H Q := h
end L2
namespace Vc
open PySem L2 Sf
def rOF (K : PySem.W.Frag) : Rep (Option Rat) := fun F v o => match o with
  | none => v = .non
  | some q => rFr K F v q
instance {K : PySem.W.Frag} : Mo (rOF K) := ⟨fun {F F' v x} le h => by
  cases x with
  | none => exact h
  | some q => exact Mo.mo (A := rFr K) le h⟩
theorem dinX {α : Type} {A : Rep α} {F H : Hp} {a : Addr} {kvs : List (Key × V)} {m : List (Str × α)} (x : Str) (rd : Rd H a (.dK kvs)) (dk : Dk A F kvs m) : ∃ o, DGet H a (V.str x) o ∧ o.isSome = (gtd m x).isSome := by
  refine ⟨valV kvs (Sum.inr x : Key), .inl ⟨kvs, Sum.inr x, rd, rfl, rfl⟩, ?_⟩
  rcases dk.val x with ⟨e1, e2⟩ | ⟨v, y, e1, e2, e3⟩
  · rw [e1, e2]; rfl
  · rw [e1, e2]; rfl
instance {K : PySem.W.Frag} : Et K rU 0 := ⟨fun {F H v w x} _ h g => by
  have h : v = V.u x := h
  have g : w = V.u x := g
  subst h; subst g
  cases x <;> exact ⟨rfl, rfl⟩⟩
end Vc
namespace Sf
open PySem L2 Vc
def top (i : Nat) : Stmt := PySem.Challenge.pw_springframe_k31_a_paper_bound.main.body.getD i (.Pass ⟨0, 0, 0, 0⟩)
abbrev s_part : Stmt := top 6
abbrev s_greatest_divisor : Stmt := top 7
abbrev s_plus : Stmt := top 8
abbrev s_minus : Stmt := top 9
abbrev s_times : Stmt := top 10
abbrev s_under : Stmt := top 11
abbrev s_bound : Stmt := top 14
abbrev s_holds : Stmt := top 15
abbrev s_counted : Stmt := top 16
abbrev s_signs_good : Stmt := top 17
abbrev s_weighed : Stmt := top 18
abbrev s_column : Stmt := top 19
abbrev s_law_cell_at : Stmt := top 21
abbrev s_law_mix : Stmt := top 22
abbrev s_law_divisor : Stmt := top 23
abbrev s_law_lowest : Stmt := top 24
abbrev s_law_add : Stmt := top 25
abbrev s_law_small : Stmt := top 26
abbrev s_law_row : Stmt := top 27
abbrev s_law_settled : Stmt := top 28
abbrev s_law_often : Stmt := top 29
abbrev s_law_price : Stmt := top 30
abbrev s_law_evened : Stmt := top 31
abbrev s_law_asked : Stmt := top 32
abbrev s_law : Stmt := top 33
theorem sc_part : FnScope ["top", "bottom", "divisor"] ["top", "bottom"] (defScope s_part) := ⟨rfl, rfl, rfl, by decide +kernel, rfl, by decide +kernel, by decide +kernel⟩
theorem sc_greatest_divisor : FnScope ["one", "other", "remainder"] ["one", "other"] (defScope s_greatest_divisor) := ⟨rfl, rfl, rfl, by decide +kernel, rfl, by decide +kernel, by decide +kernel⟩
theorem sc_plus : FnScope ["one", "other"] ["one", "other"] (defScope s_plus) := ⟨rfl, rfl, rfl, by decide +kernel, rfl, by decide +kernel, by decide +kernel⟩
theorem sc_minus : FnScope ["one", "other"] ["one", "other"] (defScope s_minus) := ⟨rfl, rfl, rfl, by decide +kernel, rfl, by decide +kernel, by decide +kernel⟩
theorem sc_times : FnScope ["one", "other"] ["one", "other"] (defScope s_times) := ⟨rfl, rfl, rfl, by decide +kernel, rfl, by decide +kernel, by decide +kernel⟩
theorem sc_under : FnScope ["one", "other"] ["one", "other"] (defScope s_under) := ⟨rfl, rfl, rfl, by decide +kernel, rfl, by decide +kernel, by decide +kernel⟩
theorem sc_bound : FnScope ["rows", "unknowns", "settled", "goal", "paper", "total"] ["rows", "unknowns", "settled", "goal", "paper"] (defScope s_bound) := ⟨rfl, rfl, rfl, by decide +kernel, rfl, by decide +kernel, by decide +kernel⟩
theorem sc_holds : FnScope ["rows", "unknowns", "settled", "goal", "paper", "prices", "shares", "one", "price", "room", "unknown"] ["rows", "unknowns", "settled", "goal", "paper"] (defScope s_holds) := ⟨rfl, rfl, rfl, by decide +kernel, rfl, by decide +kernel, by decide +kernel⟩
theorem sc_counted : FnScope ["settled", "shares", "goal", "thing", "count", "pair", "share"] ["settled", "shares", "goal", "thing"] (defScope s_counted) := ⟨rfl, rfl, rfl, by decide +kernel, rfl, by decide +kernel, by decide +kernel⟩
theorem sc_signs_good : FnScope ["rows", "prices", "one", "price"] ["rows", "prices"] (defScope s_signs_good) := ⟨rfl, rfl, rfl, by decide +kernel, rfl, by decide +kernel, by decide +kernel⟩
theorem sc_weighed : FnScope ["weights", "numbers", "total", "weight", "number"] ["weights", "numbers"] (defScope s_weighed) := ⟨rfl, rfl, rfl, by decide +kernel, rfl, by decide +kernel, by decide +kernel⟩
theorem sc_column : FnScope ["rows", "prices", "unknown"] ["rows", "prices", "unknown"] (defScope s_column) := ⟨rfl, rfl, rfl, by decide +kernel, rfl, by decide +kernel, by decide +kernel⟩
theorem sc_law_cell_at : FnScope ["_law_script", "_law_k"] ["_law_script", "_law_k"] (defScope s_law_cell_at) := ⟨rfl, rfl, rfl, by decide +kernel, rfl, by decide +kernel, by decide +kernel⟩
theorem sc_law_mix : FnScope ["_law_cell", "_law_k", "_law_number"] ["_law_cell", "_law_k"] (defScope s_law_mix) := ⟨rfl, rfl, rfl, by decide +kernel, rfl, by decide +kernel, by decide +kernel⟩
theorem sc_law_divisor : FnScope ["_law_one", "_law_other"] ["_law_one", "_law_other"] (defScope s_law_divisor) := ⟨rfl, rfl, rfl, by decide +kernel, rfl, by decide +kernel, by decide +kernel⟩
theorem sc_law_lowest : FnScope ["_law_top", "_law_bottom", "_law_both"] ["_law_top", "_law_bottom"] (defScope s_law_lowest) := ⟨rfl, rfl, rfl, by decide +kernel, rfl, by decide +kernel, by decide +kernel⟩
theorem sc_law_add : FnScope ["_law_pairs", "_law_found", "_law_one", "_law_other", "_law_top"] ["_law_pairs"] (defScope s_law_add) := ⟨rfl, rfl, rfl, by decide +kernel, rfl, by decide +kernel, by decide +kernel⟩
theorem sc_law_small : FnScope ["_law_mixed"] ["_law_mixed"] (defScope s_law_small) := ⟨rfl, rfl, rfl, by decide +kernel, rfl, by decide +kernel, by decide +kernel⟩
theorem sc_law_row : FnScope ["_law_cell", "_law_some", "_law_parts", "_law_k", "_law_name", "_law_number", "_law_kind"] ["_law_cell", "_law_some"] (defScope s_law_row) := ⟨rfl, rfl, rfl, by decide +kernel, rfl, by decide +kernel, by decide +kernel⟩
theorem sc_law_settled : FnScope ["_law_first", "_law_some", "_law_goals", "_law_settled_here", "_law_k"] ["_law_first", "_law_some"] (defScope s_law_settled) := ⟨rfl, rfl, rfl, by decide +kernel, rfl, by decide +kernel, by decide +kernel⟩
theorem sc_law_often : FnScope ["_law_thing", "_law_goal", "_law_settled_here", "_law_shares", "_law_pairs"] ["_law_thing", "_law_goal", "_law_settled_here", "_law_shares"] (defScope s_law_often) := ⟨rfl, rfl, rfl, by decide +kernel, rfl, by decide +kernel, by decide +kernel⟩
theorem sc_law_price : FnScope ["_law_one", "_law_cell", "_law_goal", "_law_settled_here", "_law_shares", "_law_end", "_law_often_here", "_law_price_here"] ["_law_one", "_law_cell", "_law_goal", "_law_settled_here", "_law_shares"] (defScope s_law_price) := ⟨rfl, rfl, rfl, by decide +kernel, rfl, by decide +kernel, by decide +kernel⟩
theorem sc_law_evened : FnScope ["_law_rows", "_law_prices", "_law_some", "_law_goal", "_law_settled_here", "_law_shares", "_law_first", "_law_k", "_law_name", "_law_pairs", "_law_side", "_law_top", "_law_bottom"] ["_law_rows", "_law_prices", "_law_some", "_law_goal", "_law_settled_here", "_law_shares", "_law_first"] (defScope s_law_evened) := ⟨rfl, rfl, rfl, by decide +kernel, rfl, by decide +kernel, by decide +kernel⟩
theorem sc_law_asked : FnScope ["_law_rows", "_law_some", "_law_settled_here", "_law_goal", "_law_prices", "_law_shares", "_law_found", "_law_refused"] ["_law_rows", "_law_some", "_law_settled_here", "_law_goal", "_law_prices", "_law_shares"] (defScope s_law_asked) := ⟨rfl, rfl, rfl, by decide +kernel, rfl, by decide +kernel, by decide +kernel⟩
theorem sc_law : FnScope ["_law_script", "_law_first", "_law_some", "_law_settled_here", "_law_shares", "_law_goal", "_law_rows", "_law_prices", "_law_good", "_law_name", "_law_pairs", "_law_handed", "_law_found", "_law_refused"] ["_law_script"] (defScope s_law) := ⟨rfl, rfl, rfl, by decide +kernel, rfl, by decide +kernel, by decide +kernel⟩
inductive Ex2 {A1 A2 : Type} (p : A1 → A2 → Prop) : Prop where | mk (a1 : A1) (a2 : A2) (h : p a1 a2) : Ex2 p
inductive Ex3 {A1 A2 A3 : Type} (p : A1 → A2 → A3 → Prop) : Prop where | mk (a1 : A1) (a2 : A2) (a3 : A3) (h : p a1 a2 a3) : Ex3 p
inductive Ex4 {A1 A2 A3 A4 : Type} (p : A1 → A2 → A3 → A4 → Prop) : Prop where | mk (a1 : A1) (a2 : A2) (a3 : A3) (a4 : A4) (h : p a1 a2 a3 a4) : Ex4 p
inductive Ex5 {A1 A2 A3 A4 A5 : Type} (p : A1 → A2 → A3 → A4 → A5 → Prop) : Prop where | mk (a1 : A1) (a2 : A2) (a3 : A3) (a4 : A4) (a5 : A5) (h : p a1 a2 a3 a4 a5) : Ex5 p
inductive Ex6 {A1 A2 A3 A4 A5 A6 : Type} (p : A1 → A2 → A3 → A4 → A5 → A6 → Prop) : Prop where | mk (a1 : A1) (a2 : A2) (a3 : A3) (a4 : A4) (a5 : A5) (a6 : A6) (h : p a1 a2 a3 a4 a5 a6) : Ex6 p
inductive Ex7 {A1 A2 A3 A4 A5 A6 A7 : Type} (p : A1 → A2 → A3 → A4 → A5 → A6 → A7 → Prop) : Prop where | mk (a1 : A1) (a2 : A2) (a3 : A3) (a4 : A4) (a5 : A5) (a6 : A6) (a7 : A7) (h : p a1 a2 a3 a4 a5 a6 a7) : Ex7 p
inductive Ex8 {A1 A2 A3 A4 A5 A6 A7 A8 : Type} (p : A1 → A2 → A3 → A4 → A5 → A6 → A7 → A8 → Prop) : Prop where | mk (a1 : A1) (a2 : A2) (a3 : A3) (a4 : A4) (a5 : A5) (a6 : A6) (a7 : A7) (a8 : A8) (h : p a1 a2 a3 a4 a5 a6 a7 a8) : Ex8 p
inductive Ex9 {A1 A2 A3 A4 A5 A6 A7 A8 A9 : Type} (p : A1 → A2 → A3 → A4 → A5 → A6 → A7 → A8 → A9 → Prop) : Prop where | mk (a1 : A1) (a2 : A2) (a3 : A3) (a4 : A4) (a5 : A5) (a6 : A6) (a7 : A7) (a8 : A8) (a9 : A9) (h : p a1 a2 a3 a4 a5 a6 a7 a8 a9) : Ex9 p
inductive Ex11 {A1 A2 A3 A4 A5 A6 A7 A8 A9 A10 A11 : Type} (p : A1 → A2 → A3 → A4 → A5 → A6 → A7 → A8 → A9 → A10 → A11 → Prop) : Prop where | mk (a1 : A1) (a2 : A2) (a3 : A3) (a4 : A4) (a5 : A5) (a6 : A6) (a7 : A7) (a8 : A8) (a9 : A9) (a10 : A10) (a11 : A11) (h : p a1 a2 a3 a4 a5 a6 a7 a8 a9 a10 a11) : Ex11 p
inductive Ex13 {A1 A2 A3 A4 A5 A6 A7 A8 A9 A10 A11 A12 A13 : Type} (p : A1 → A2 → A3 → A4 → A5 → A6 → A7 → A8 → A9 → A10 → A11 → A12 → A13 → Prop) : Prop where | mk (a1 : A1) (a2 : A2) (a3 : A3) (a4 : A4) (a5 : A5) (a6 : A6) (a7 : A7) (a8 : A8) (a9 : A9) (a10 : A10) (a11 : A11) (a12 : A12) (a13 : A13) (h : p a1 a2 a3 a4 a5 a6 a7 a8 a9 a10 a11 a12 a13) : Ex13 p
inductive Ex19 {A1 A2 A3 A4 A5 A6 A7 A8 A9 A10 A11 A12 A13 A14 A15 A16 A17 A18 A19 : Type} (p : A1 → A2 → A3 → A4 → A5 → A6 → A7 → A8 → A9 → A10 → A11 → A12 → A13 → A14 → A15 → A16 → A17 → A18 → A19 → Prop) : Prop where | mk (a1 : A1) (a2 : A2) (a3 : A3) (a4 : A4) (a5 : A5) (a6 : A6) (a7 : A7) (a8 : A8) (a9 : A9) (a10 : A10) (a11 : A11) (a12 : A12) (a13 : A13) (a14 : A14) (a15 : A15) (a16 : A16) (a17 : A17) (a18 : A18) (a19 : A19) (h : p a1 a2 a3 a4 a5 a6 a7 a8 a9 a10 a11 a12 a13 a14 a15 a16 a17 a18 a19) : Ex19 p
inductive Cj4 (p1 p2 p3 p4 : Prop) : Prop where | mk (h1 : p1) (h2 : p2) (h3 : p3) (h4 : p4) : Cj4 p1 p2 p3 p4
inductive Cj5 (p1 p2 p3 p4 p5 : Prop) : Prop where | mk (h1 : p1) (h2 : p2) (h3 : p3) (h4 : p4) (h5 : p5) : Cj5 p1 p2 p3 p4 p5
inductive Cj6 (p1 p2 p3 p4 p5 p6 : Prop) : Prop where | mk (h1 : p1) (h2 : p2) (h3 : p3) (h4 : p4) (h5 : p5) (h6 : p6) : Cj6 p1 p2 p3 p4 p5 p6
inductive Cj7 (p1 p2 p3 p4 p5 p6 p7 : Prop) : Prop where | mk (h1 : p1) (h2 : p2) (h3 : p3) (h4 : p4) (h5 : p5) (h6 : p6) (h7 : p7) : Cj7 p1 p2 p3 p4 p5 p6 p7
inductive Cj8 (p1 p2 p3 p4 p5 p6 p7 p8 : Prop) : Prop where | mk (h1 : p1) (h2 : p2) (h3 : p3) (h4 : p4) (h5 : p5) (h6 : p6) (h7 : p7) (h8 : p8) : Cj8 p1 p2 p3 p4 p5 p6 p7 p8
inductive Cj9 (p1 p2 p3 p4 p5 p6 p7 p8 p9 : Prop) : Prop where | mk (h1 : p1) (h2 : p2) (h3 : p3) (h4 : p4) (h5 : p5) (h6 : p6) (h7 : p7) (h8 : p8) (h9 : p9) : Cj9 p1 p2 p3 p4 p5 p6 p7 p8 p9
inductive Cj10 (p1 p2 p3 p4 p5 p6 p7 p8 p9 p10 : Prop) : Prop where | mk (h1 : p1) (h2 : p2) (h3 : p3) (h4 : p4) (h5 : p5) (h6 : p6) (h7 : p7) (h8 : p8) (h9 : p9) (h10 : p10) : Cj10 p1 p2 p3 p4 p5 p6 p7 p8 p9 p10
inductive Cj11 (p1 p2 p3 p4 p5 p6 p7 p8 p9 p10 p11 : Prop) : Prop where | mk (h1 : p1) (h2 : p2) (h3 : p3) (h4 : p4) (h5 : p5) (h6 : p6) (h7 : p7) (h8 : p8) (h9 : p9) (h10 : p10) (h11 : p11) : Cj11 p1 p2 p3 p4 p5 p6 p7 p8 p9 p10 p11
inductive Cj12 (p1 p2 p3 p4 p5 p6 p7 p8 p9 p10 p11 p12 : Prop) : Prop where | mk (h1 : p1) (h2 : p2) (h3 : p3) (h4 : p4) (h5 : p5) (h6 : p6) (h7 : p7) (h8 : p8) (h9 : p9) (h10 : p10) (h11 : p11) (h12 : p12) : Cj12 p1 p2 p3 p4 p5 p6 p7 p8 p9 p10 p11 p12
inductive Cj15 (p1 p2 p3 p4 p5 p6 p7 p8 p9 p10 p11 p12 p13 p14 p15 : Prop) : Prop where | mk (h1 : p1) (h2 : p2) (h3 : p3) (h4 : p4) (h5 : p5) (h6 : p6) (h7 : p7) (h8 : p8) (h9 : p9) (h10 : p10) (h11 : p11) (h12 : p12) (h13 : p13) (h14 : p14) (h15 : p15) : Cj15 p1 p2 p3 p4 p5 p6 p7 p8 p9 p10 p11 p12 p13 p14 p15
inductive Cj17 (p1 p2 p3 p4 p5 p6 p7 p8 p9 p10 p11 p12 p13 p14 p15 p16 p17 : Prop) : Prop where | mk (h1 : p1) (h2 : p2) (h3 : p3) (h4 : p4) (h5 : p5) (h6 : p6) (h7 : p7) (h8 : p8) (h9 : p9) (h10 : p10) (h11 : p11) (h12 : p12) (h13 : p13) (h14 : p14) (h15 : p15) (h16 : p16) (h17 : p17) : Cj17 p1 p2 p3 p4 p5 p6 p7 p8 p9 p10 p11 p12 p13 p14 p15 p16 p17
inductive Cj18 (p1 p2 p3 p4 p5 p6 p7 p8 p9 p10 p11 p12 p13 p14 p15 p16 p17 p18 : Prop) : Prop where | mk (h1 : p1) (h2 : p2) (h3 : p3) (h4 : p4) (h5 : p5) (h6 : p6) (h7 : p7) (h8 : p8) (h9 : p9) (h10 : p10) (h11 : p11) (h12 : p12) (h13 : p13) (h14 : p14) (h15 : p15) (h16 : p16) (h17 : p17) (h18 : p18) : Cj18 p1 p2 p3 p4 p5 p6 p7 p8 p9 p10 p11 p12 p13 p14 p15 p16 p17 p18
set_option genInjectivity false in
set_option genSizeOf false in
structure Tx (K : PySem.W.Frag) (mg : Str → Option Value) where
  a_part : Addr
  d_part : FuncData
  F_part : Fun K "part" "part" s_part a_part d_part
  b_part : Binds K d_part ["top", "bottom"] []
  m_part : mg "part" = some (.ref a_part)
  a_greatest_divisor : Addr
  d_greatest_divisor : FuncData
  F_greatest_divisor : Fun K "greatest_divisor" "greatest_divisor" s_greatest_divisor a_greatest_divisor d_greatest_divisor
  b_greatest_divisor : Binds K d_greatest_divisor ["one", "other"] []
  m_greatest_divisor : mg "greatest_divisor" = some (.ref a_greatest_divisor)
  a_plus : Addr
  d_plus : FuncData
  F_plus : Fun K "plus" "plus" s_plus a_plus d_plus
  b_plus : Binds K d_plus ["one", "other"] []
  m_plus : mg "plus" = some (.ref a_plus)
  a_minus : Addr
  d_minus : FuncData
  F_minus : Fun K "minus" "minus" s_minus a_minus d_minus
  b_minus : Binds K d_minus ["one", "other"] []
  m_minus : mg "minus" = some (.ref a_minus)
  a_times : Addr
  d_times : FuncData
  F_times : Fun K "times" "times" s_times a_times d_times
  b_times : Binds K d_times ["one", "other"] []
  m_times : mg "times" = some (.ref a_times)
  a_under : Addr
  d_under : FuncData
  F_under : Fun K "under" "under" s_under a_under d_under
  b_under : Binds K d_under ["one", "other"] []
  m_under : mg "under" = some (.ref a_under)
  a_bound : Addr
  d_bound : FuncData
  F_bound : Fun K "bound" "bound" s_bound a_bound d_bound
  b_bound : Binds K d_bound ["rows", "unknowns", "settled", "goal", "paper"] []
  m_bound : mg "bound" = some (.ref a_bound)
  a_holds : Addr
  d_holds : FuncData
  F_holds : Fun K "holds" "holds" s_holds a_holds d_holds
  b_holds : Binds K d_holds ["rows", "unknowns", "settled", "goal", "paper"] []
  m_holds : mg "holds" = some (.ref a_holds)
  a_counted : Addr
  d_counted : FuncData
  F_counted : Fun K "counted" "counted" s_counted a_counted d_counted
  b_counted : Binds K d_counted ["settled", "shares", "goal", "thing"] []
  m_counted : mg "counted" = some (.ref a_counted)
  a_signs_good : Addr
  d_signs_good : FuncData
  F_signs_good : Fun K "signs_good" "signs_good" s_signs_good a_signs_good d_signs_good
  b_signs_good : Binds K d_signs_good ["rows", "prices"] []
  m_signs_good : mg "signs_good" = some (.ref a_signs_good)
  a_weighed : Addr
  d_weighed : FuncData
  F_weighed : Fun K "weighed" "weighed" s_weighed a_weighed d_weighed
  b_weighed : Binds K d_weighed ["weights", "numbers"] []
  m_weighed : mg "weighed" = some (.ref a_weighed)
  a_column : Addr
  d_column : FuncData
  F_column : Fun K "column" "column" s_column a_column d_column
  b_column : Binds K d_column ["rows", "prices", "unknown"] []
  m_column : mg "column" = some (.ref a_column)
  a_law_cell_at : Addr
  d_law_cell_at : FuncData
  F_law_cell_at : Fun K "_law_cell_at" "_law_cell_at" s_law_cell_at a_law_cell_at d_law_cell_at
  b_law_cell_at : Binds K d_law_cell_at ["_law_script", "_law_k"] []
  m_law_cell_at : mg "_law_cell_at" = some (.ref a_law_cell_at)
  a_law_mix : Addr
  d_law_mix : FuncData
  F_law_mix : Fun K "_law_mix" "_law_mix" s_law_mix a_law_mix d_law_mix
  b_law_mix : Binds K d_law_mix ["_law_cell", "_law_k"] []
  m_law_mix : mg "_law_mix" = some (.ref a_law_mix)
  a_law_divisor : Addr
  d_law_divisor : FuncData
  F_law_divisor : Fun K "_law_divisor" "_law_divisor" s_law_divisor a_law_divisor d_law_divisor
  b_law_divisor : Binds K d_law_divisor ["_law_one", "_law_other"] []
  m_law_divisor : mg "_law_divisor" = some (.ref a_law_divisor)
  a_law_lowest : Addr
  d_law_lowest : FuncData
  F_law_lowest : Fun K "_law_lowest" "_law_lowest" s_law_lowest a_law_lowest d_law_lowest
  b_law_lowest : Binds K d_law_lowest ["_law_top", "_law_bottom"] []
  m_law_lowest : mg "_law_lowest" = some (.ref a_law_lowest)
  a_law_add : Addr
  d_law_add : FuncData
  F_law_add : Fun K "_law_add" "_law_add" s_law_add a_law_add d_law_add
  b_law_add : Binds K d_law_add ["_law_pairs"] []
  m_law_add : mg "_law_add" = some (.ref a_law_add)
  a_law_small : Addr
  d_law_small : FuncData
  F_law_small : Fun K "_law_small" "_law_small" s_law_small a_law_small d_law_small
  b_law_small : Binds K d_law_small ["_law_mixed"] []
  m_law_small : mg "_law_small" = some (.ref a_law_small)
  a_law_row : Addr
  d_law_row : FuncData
  F_law_row : Fun K "_law_row" "_law_row" s_law_row a_law_row d_law_row
  b_law_row : Binds K d_law_row ["_law_cell", "_law_some"] []
  m_law_row : mg "_law_row" = some (.ref a_law_row)
  a_law_settled : Addr
  d_law_settled : FuncData
  F_law_settled : Fun K "_law_settled" "_law_settled" s_law_settled a_law_settled d_law_settled
  b_law_settled : Binds K d_law_settled ["_law_first", "_law_some"] []
  m_law_settled : mg "_law_settled" = some (.ref a_law_settled)
  a_law_often : Addr
  d_law_often : FuncData
  F_law_often : Fun K "_law_often" "_law_often" s_law_often a_law_often d_law_often
  b_law_often : Binds K d_law_often ["_law_thing", "_law_goal", "_law_settled_here", "_law_shares"] []
  m_law_often : mg "_law_often" = some (.ref a_law_often)
  a_law_price : Addr
  d_law_price : FuncData
  F_law_price : Fun K "_law_price" "_law_price" s_law_price a_law_price d_law_price
  b_law_price : Binds K d_law_price ["_law_one", "_law_cell", "_law_goal", "_law_settled_here", "_law_shares"] []
  m_law_price : mg "_law_price" = some (.ref a_law_price)
  a_law_evened : Addr
  d_law_evened : FuncData
  F_law_evened : Fun K "_law_evened" "_law_evened" s_law_evened a_law_evened d_law_evened
  b_law_evened : Binds K d_law_evened ["_law_rows", "_law_prices", "_law_some", "_law_goal", "_law_settled_here", "_law_shares", "_law_first"] []
  m_law_evened : mg "_law_evened" = some (.ref a_law_evened)
  a_law_asked : Addr
  d_law_asked : FuncData
  F_law_asked : Fun K "_law_asked" "_law_asked" s_law_asked a_law_asked d_law_asked
  b_law_asked : Binds K d_law_asked ["_law_rows", "_law_some", "_law_settled_here", "_law_goal", "_law_prices", "_law_shares"] []
  m_law_asked : mg "_law_asked" = some (.ref a_law_asked)
  a_law : Addr
  d_law : FuncData
  F_law : Fun K "law" "law" s_law a_law d_law
  b_law : Binds K d_law ["_law_script"] []
  m_law : mg "law" = some (.ref a_law)
  c_NOUGHT : Addr
  m_NOUGHT : mg "NOUGHT" = some (.ref c_NOUGHT)
  t_NOUGHT : ∃ (o : Obj) (its : Array Value) (n : Nat), K.lookup c_NOUGHT = some o ∧ o.cls = .type "tuple" ∧ o.data = .seq its n ∧ its.size ≤ sizeLine ∧ Vals (fr 0) its.toList
  k_MUST : Tok
  m_MUST : mg "MUST" = some (.int (0) k_MUST)
  c_NoPaper : Addr
  m_NoPaper : mg "NoPaper" = some (.ref c_NoPaper)
  q_NoPaper : PySem.W.excIn K c_NoPaper [.type "ValueError", .type "Exception", .type "BaseException", .type "object"] "ValueError.__new__" = true
  em_NoPaper_NoPaper : PySem.W.exmOne K (.ref c_NoPaper) (.ref c_NoPaper) = some true
  z_abs : mg "abs" = none
  z_len : mg "len" = none
  z_range : mg "range" = none
  z_isinstance : mg "isinstance" = none
  z_list : mg "list" = none
  z_any : mg "any" = none
  z_zip : mg "zip" = none
  z_enumerate : mg "enumerate" = none
  z_tuple : mg "tuple" = none
  z_bool : mg "bool" = none
def tx_mk {K : PySem.W.Frag} {h : Heap} {mg : Str → Option Value} (X : K.In h) (G : h.Ns mainGlobals mg)
    {f0 : Addr} {od0 an0 : Option Addr} {sl0 : Array (Option Value)} {oc0 kV0 dc0 pm0 cd0 ct0 : Value}
    {f1 : Addr} {od1 an1 : Option Addr} {sl1 : Array (Option Value)} {oc1 kV1 dc1 pm1 cd1 ct1 : Value}
    {f2 : Addr} {od2 an2 : Option Addr} {sl2 : Array (Option Value)} {oc2 kV2 dc2 pm2 cd2 ct2 : Value}
    {f3 : Addr} {od3 an3 : Option Addr} {sl3 : Array (Option Value)} {oc3 kV3 dc3 pm3 cd3 ct3 : Value}
    {f4 : Addr} {od4 an4 : Option Addr} {sl4 : Array (Option Value)} {oc4 kV4 dc4 pm4 cd4 ct4 : Value}
    {f5 : Addr} {od5 an5 : Option Addr} {sl5 : Array (Option Value)} {oc5 kV5 dc5 pm5 cd5 ct5 : Value}
    {f6 : Addr} {od6 an6 : Option Addr} {sl6 : Array (Option Value)} {oc6 kV6 dc6 pm6 cd6 ct6 : Value}
    {f7 : Addr} {od7 an7 : Option Addr} {sl7 : Array (Option Value)} {oc7 kV7 dc7 pm7 cd7 ct7 : Value}
    {f8 : Addr} {od8 an8 : Option Addr} {sl8 : Array (Option Value)} {oc8 kV8 dc8 pm8 cd8 ct8 : Value}
    {f9 : Addr} {od9 an9 : Option Addr} {sl9 : Array (Option Value)} {oc9 kV9 dc9 pm9 cd9 ct9 : Value}
    {f10 : Addr} {od10 an10 : Option Addr} {sl10 : Array (Option Value)} {oc10 kV10 dc10 pm10 cd10 ct10 : Value}
    {f11 : Addr} {od11 an11 : Option Addr} {sl11 : Array (Option Value)} {oc11 kV11 dc11 pm11 cd11 ct11 : Value}
    {f12 : Addr} {od12 an12 : Option Addr} {sl12 : Array (Option Value)} {oc12 kV12 dc12 pm12 cd12 ct12 : Value}
    {f13 : Addr} {od13 an13 : Option Addr} {sl13 : Array (Option Value)} {oc13 kV13 dc13 pm13 cd13 ct13 : Value}
    {f14 : Addr} {od14 an14 : Option Addr} {sl14 : Array (Option Value)} {oc14 kV14 dc14 pm14 cd14 ct14 : Value}
    {f15 : Addr} {od15 an15 : Option Addr} {sl15 : Array (Option Value)} {oc15 kV15 dc15 pm15 cd15 ct15 : Value}
    {f16 : Addr} {od16 an16 : Option Addr} {sl16 : Array (Option Value)} {oc16 kV16 dc16 pm16 cd16 ct16 : Value}
    {f17 : Addr} {od17 an17 : Option Addr} {sl17 : Array (Option Value)} {oc17 kV17 dc17 pm17 cd17 ct17 : Value}
    {f18 : Addr} {od18 an18 : Option Addr} {sl18 : Array (Option Value)} {oc18 kV18 dc18 pm18 cd18 ct18 : Value}
    {f19 : Addr} {od19 an19 : Option Addr} {sl19 : Array (Option Value)} {oc19 kV19 dc19 pm19 cd19 ct19 : Value}
    {f20 : Addr} {od20 an20 : Option Addr} {sl20 : Array (Option Value)} {oc20 kV20 dc20 pm20 cd20 ct20 : Value}
    {f21 : Addr} {od21 an21 : Option Addr} {sl21 : Array (Option Value)} {oc21 kV21 dc21 pm21 cd21 ct21 : Value}
    {f22 : Addr} {od22 an22 : Option Addr} {sl22 : Array (Option Value)} {oc22 kV22 dc22 pm22 cd22 ct22 : Value}
    {f23 : Addr} {od23 an23 : Option Addr} {sl23 : Array (Option Value)} {oc23 kV23 dc23 pm23 cd23 ct23 : Value}
    {f24 : Addr} {od24 an24 : Option Addr} {sl24 : Array (Option Value)} {oc24 kV24 dc24 pm24 cd24 ct24 : Value}
    {g0 : Addr} {gd0 : Option Addr} {gs0 : Array (Option Value)} {gn0 : Nat} {t0_0 t0_1 : Tok}
    {yk_MUST : Tok}
    {x_NoPaper : Addr}
    (e0 : PySem.W.nsIn K mainGlobals "part" = some (some (.ref f0)))
    (l0 : K.lookup f0 = some ⟨oc0, od0, .func (PySem.W.fnOf "part" "part" (defArgs s_part) (defBody s_part) (defScope s_part) .none kV0 dc0 pm0 an0 cd0 ct0), sl0⟩)
    (c0 : PySem.W.codeIn K cd0 "part" = true)
    (k0 : PySem.W.keepIn K (.ref f0) = true)
    (e1 : PySem.W.nsIn K mainGlobals "greatest_divisor" = some (some (.ref f1)))
    (l1 : K.lookup f1 = some ⟨oc1, od1, .func (PySem.W.fnOf "greatest_divisor" "greatest_divisor" (defArgs s_greatest_divisor) (defBody s_greatest_divisor) (defScope s_greatest_divisor) .none kV1 dc1 pm1 an1 cd1 ct1), sl1⟩)
    (c1 : PySem.W.codeIn K cd1 "greatest_divisor" = true)
    (k1 : PySem.W.keepIn K (.ref f1) = true)
    (e2 : PySem.W.nsIn K mainGlobals "plus" = some (some (.ref f2)))
    (l2 : K.lookup f2 = some ⟨oc2, od2, .func (PySem.W.fnOf "plus" "plus" (defArgs s_plus) (defBody s_plus) (defScope s_plus) .none kV2 dc2 pm2 an2 cd2 ct2), sl2⟩)
    (c2 : PySem.W.codeIn K cd2 "plus" = true)
    (k2 : PySem.W.keepIn K (.ref f2) = true)
    (e3 : PySem.W.nsIn K mainGlobals "minus" = some (some (.ref f3)))
    (l3 : K.lookup f3 = some ⟨oc3, od3, .func (PySem.W.fnOf "minus" "minus" (defArgs s_minus) (defBody s_minus) (defScope s_minus) .none kV3 dc3 pm3 an3 cd3 ct3), sl3⟩)
    (c3 : PySem.W.codeIn K cd3 "minus" = true)
    (k3 : PySem.W.keepIn K (.ref f3) = true)
    (e4 : PySem.W.nsIn K mainGlobals "times" = some (some (.ref f4)))
    (l4 : K.lookup f4 = some ⟨oc4, od4, .func (PySem.W.fnOf "times" "times" (defArgs s_times) (defBody s_times) (defScope s_times) .none kV4 dc4 pm4 an4 cd4 ct4), sl4⟩)
    (c4 : PySem.W.codeIn K cd4 "times" = true)
    (k4 : PySem.W.keepIn K (.ref f4) = true)
    (e5 : PySem.W.nsIn K mainGlobals "under" = some (some (.ref f5)))
    (l5 : K.lookup f5 = some ⟨oc5, od5, .func (PySem.W.fnOf "under" "under" (defArgs s_under) (defBody s_under) (defScope s_under) .none kV5 dc5 pm5 an5 cd5 ct5), sl5⟩)
    (c5 : PySem.W.codeIn K cd5 "under" = true)
    (k5 : PySem.W.keepIn K (.ref f5) = true)
    (e6 : PySem.W.nsIn K mainGlobals "bound" = some (some (.ref f6)))
    (l6 : K.lookup f6 = some ⟨oc6, od6, .func (PySem.W.fnOf "bound" "bound" (defArgs s_bound) (defBody s_bound) (defScope s_bound) .none kV6 dc6 pm6 an6 cd6 ct6), sl6⟩)
    (c6 : PySem.W.codeIn K cd6 "bound" = true)
    (k6 : PySem.W.keepIn K (.ref f6) = true)
    (e7 : PySem.W.nsIn K mainGlobals "holds" = some (some (.ref f7)))
    (l7 : K.lookup f7 = some ⟨oc7, od7, .func (PySem.W.fnOf "holds" "holds" (defArgs s_holds) (defBody s_holds) (defScope s_holds) .none kV7 dc7 pm7 an7 cd7 ct7), sl7⟩)
    (c7 : PySem.W.codeIn K cd7 "holds" = true)
    (k7 : PySem.W.keepIn K (.ref f7) = true)
    (e8 : PySem.W.nsIn K mainGlobals "counted" = some (some (.ref f8)))
    (l8 : K.lookup f8 = some ⟨oc8, od8, .func (PySem.W.fnOf "counted" "counted" (defArgs s_counted) (defBody s_counted) (defScope s_counted) .none kV8 dc8 pm8 an8 cd8 ct8), sl8⟩)
    (c8 : PySem.W.codeIn K cd8 "counted" = true)
    (k8 : PySem.W.keepIn K (.ref f8) = true)
    (e9 : PySem.W.nsIn K mainGlobals "signs_good" = some (some (.ref f9)))
    (l9 : K.lookup f9 = some ⟨oc9, od9, .func (PySem.W.fnOf "signs_good" "signs_good" (defArgs s_signs_good) (defBody s_signs_good) (defScope s_signs_good) .none kV9 dc9 pm9 an9 cd9 ct9), sl9⟩)
    (c9 : PySem.W.codeIn K cd9 "signs_good" = true)
    (k9 : PySem.W.keepIn K (.ref f9) = true)
    (e10 : PySem.W.nsIn K mainGlobals "weighed" = some (some (.ref f10)))
    (l10 : K.lookup f10 = some ⟨oc10, od10, .func (PySem.W.fnOf "weighed" "weighed" (defArgs s_weighed) (defBody s_weighed) (defScope s_weighed) .none kV10 dc10 pm10 an10 cd10 ct10), sl10⟩)
    (c10 : PySem.W.codeIn K cd10 "weighed" = true)
    (k10 : PySem.W.keepIn K (.ref f10) = true)
    (e11 : PySem.W.nsIn K mainGlobals "column" = some (some (.ref f11)))
    (l11 : K.lookup f11 = some ⟨oc11, od11, .func (PySem.W.fnOf "column" "column" (defArgs s_column) (defBody s_column) (defScope s_column) .none kV11 dc11 pm11 an11 cd11 ct11), sl11⟩)
    (c11 : PySem.W.codeIn K cd11 "column" = true)
    (k11 : PySem.W.keepIn K (.ref f11) = true)
    (e12 : PySem.W.nsIn K mainGlobals "_law_cell_at" = some (some (.ref f12)))
    (l12 : K.lookup f12 = some ⟨oc12, od12, .func (PySem.W.fnOf "_law_cell_at" "_law_cell_at" (defArgs s_law_cell_at) (defBody s_law_cell_at) (defScope s_law_cell_at) .none kV12 dc12 pm12 an12 cd12 ct12), sl12⟩)
    (c12 : PySem.W.codeIn K cd12 "_law_cell_at" = true)
    (k12 : PySem.W.keepIn K (.ref f12) = true)
    (e13 : PySem.W.nsIn K mainGlobals "_law_mix" = some (some (.ref f13)))
    (l13 : K.lookup f13 = some ⟨oc13, od13, .func (PySem.W.fnOf "_law_mix" "_law_mix" (defArgs s_law_mix) (defBody s_law_mix) (defScope s_law_mix) .none kV13 dc13 pm13 an13 cd13 ct13), sl13⟩)
    (c13 : PySem.W.codeIn K cd13 "_law_mix" = true)
    (k13 : PySem.W.keepIn K (.ref f13) = true)
    (e14 : PySem.W.nsIn K mainGlobals "_law_divisor" = some (some (.ref f14)))
    (l14 : K.lookup f14 = some ⟨oc14, od14, .func (PySem.W.fnOf "_law_divisor" "_law_divisor" (defArgs s_law_divisor) (defBody s_law_divisor) (defScope s_law_divisor) .none kV14 dc14 pm14 an14 cd14 ct14), sl14⟩)
    (c14 : PySem.W.codeIn K cd14 "_law_divisor" = true)
    (k14 : PySem.W.keepIn K (.ref f14) = true)
    (e15 : PySem.W.nsIn K mainGlobals "_law_lowest" = some (some (.ref f15)))
    (l15 : K.lookup f15 = some ⟨oc15, od15, .func (PySem.W.fnOf "_law_lowest" "_law_lowest" (defArgs s_law_lowest) (defBody s_law_lowest) (defScope s_law_lowest) .none kV15 dc15 pm15 an15 cd15 ct15), sl15⟩)
    (c15 : PySem.W.codeIn K cd15 "_law_lowest" = true)
    (k15 : PySem.W.keepIn K (.ref f15) = true)
    (e16 : PySem.W.nsIn K mainGlobals "_law_add" = some (some (.ref f16)))
    (l16 : K.lookup f16 = some ⟨oc16, od16, .func (PySem.W.fnOf "_law_add" "_law_add" (defArgs s_law_add) (defBody s_law_add) (defScope s_law_add) .none kV16 dc16 pm16 an16 cd16 ct16), sl16⟩)
    (c16 : PySem.W.codeIn K cd16 "_law_add" = true)
    (k16 : PySem.W.keepIn K (.ref f16) = true)
    (e17 : PySem.W.nsIn K mainGlobals "_law_small" = some (some (.ref f17)))
    (l17 : K.lookup f17 = some ⟨oc17, od17, .func (PySem.W.fnOf "_law_small" "_law_small" (defArgs s_law_small) (defBody s_law_small) (defScope s_law_small) .none kV17 dc17 pm17 an17 cd17 ct17), sl17⟩)
    (c17 : PySem.W.codeIn K cd17 "_law_small" = true)
    (k17 : PySem.W.keepIn K (.ref f17) = true)
    (e18 : PySem.W.nsIn K mainGlobals "_law_row" = some (some (.ref f18)))
    (l18 : K.lookup f18 = some ⟨oc18, od18, .func (PySem.W.fnOf "_law_row" "_law_row" (defArgs s_law_row) (defBody s_law_row) (defScope s_law_row) .none kV18 dc18 pm18 an18 cd18 ct18), sl18⟩)
    (c18 : PySem.W.codeIn K cd18 "_law_row" = true)
    (k18 : PySem.W.keepIn K (.ref f18) = true)
    (e19 : PySem.W.nsIn K mainGlobals "_law_settled" = some (some (.ref f19)))
    (l19 : K.lookup f19 = some ⟨oc19, od19, .func (PySem.W.fnOf "_law_settled" "_law_settled" (defArgs s_law_settled) (defBody s_law_settled) (defScope s_law_settled) .none kV19 dc19 pm19 an19 cd19 ct19), sl19⟩)
    (c19 : PySem.W.codeIn K cd19 "_law_settled" = true)
    (k19 : PySem.W.keepIn K (.ref f19) = true)
    (e20 : PySem.W.nsIn K mainGlobals "_law_often" = some (some (.ref f20)))
    (l20 : K.lookup f20 = some ⟨oc20, od20, .func (PySem.W.fnOf "_law_often" "_law_often" (defArgs s_law_often) (defBody s_law_often) (defScope s_law_often) .none kV20 dc20 pm20 an20 cd20 ct20), sl20⟩)
    (c20 : PySem.W.codeIn K cd20 "_law_often" = true)
    (k20 : PySem.W.keepIn K (.ref f20) = true)
    (e21 : PySem.W.nsIn K mainGlobals "_law_price" = some (some (.ref f21)))
    (l21 : K.lookup f21 = some ⟨oc21, od21, .func (PySem.W.fnOf "_law_price" "_law_price" (defArgs s_law_price) (defBody s_law_price) (defScope s_law_price) .none kV21 dc21 pm21 an21 cd21 ct21), sl21⟩)
    (c21 : PySem.W.codeIn K cd21 "_law_price" = true)
    (k21 : PySem.W.keepIn K (.ref f21) = true)
    (e22 : PySem.W.nsIn K mainGlobals "_law_evened" = some (some (.ref f22)))
    (l22 : K.lookup f22 = some ⟨oc22, od22, .func (PySem.W.fnOf "_law_evened" "_law_evened" (defArgs s_law_evened) (defBody s_law_evened) (defScope s_law_evened) .none kV22 dc22 pm22 an22 cd22 ct22), sl22⟩)
    (c22 : PySem.W.codeIn K cd22 "_law_evened" = true)
    (k22 : PySem.W.keepIn K (.ref f22) = true)
    (e23 : PySem.W.nsIn K mainGlobals "_law_asked" = some (some (.ref f23)))
    (l23 : K.lookup f23 = some ⟨oc23, od23, .func (PySem.W.fnOf "_law_asked" "_law_asked" (defArgs s_law_asked) (defBody s_law_asked) (defScope s_law_asked) .none kV23 dc23 pm23 an23 cd23 ct23), sl23⟩)
    (c23 : PySem.W.codeIn K cd23 "_law_asked" = true)
    (k23 : PySem.W.keepIn K (.ref f23) = true)
    (e24 : PySem.W.nsIn K mainGlobals "law" = some (some (.ref f24)))
    (l24 : K.lookup f24 = some ⟨oc24, od24, .func (PySem.W.fnOf "law" "law" (defArgs s_law) (defBody s_law) (defScope s_law) .none kV24 dc24 pm24 an24 cd24 ct24), sl24⟩)
    (c24 : PySem.W.codeIn K cd24 "law" = true)
    (k24 : PySem.W.keepIn K (.ref f24) = true)
    (n0 : PySem.W.nsIn K mainGlobals "NOUGHT" = some (some (.ref g0)))
    (o0 : K.lookup g0 = some ⟨.type "tuple", gd0, .seq #[Value.int (0) t0_0, Value.int (1) t0_1] gn0, gs0⟩)
    (yi_MUST : PySem.W.nsIn K mainGlobals "MUST" = some (some (.int (0) yk_MUST)))
    (xn_NoPaper : PySem.W.nsIn K mainGlobals "NoPaper" = some (some (.ref x_NoPaper)))
    (xq_NoPaper : PySem.W.excIn K x_NoPaper [.type "ValueError", .type "Exception", .type "BaseException", .type "object"] "ValueError.__new__" = true)
    (xm_NoPaper_NoPaper : PySem.W.exmOne K (.ref x_NoPaper) (.ref x_NoPaper) = some true)
    (z0 : PySem.W.nsIn K mainGlobals "abs" = some none)
    (z1 : PySem.W.nsIn K mainGlobals "len" = some none)
    (z2 : PySem.W.nsIn K mainGlobals "range" = some none)
    (z3 : PySem.W.nsIn K mainGlobals "isinstance" = some none)
    (z4 : PySem.W.nsIn K mainGlobals "list" = some none)
    (z5 : PySem.W.nsIn K mainGlobals "any" = some none)
    (z6 : PySem.W.nsIn K mainGlobals "zip" = some none)
    (z7 : PySem.W.nsIn K mainGlobals "enumerate" = some none)
    (z8 : PySem.W.nsIn K mainGlobals "tuple" = some none)
    (z9 : PySem.W.nsIn K mainGlobals "bool" = some none)
    : Tx K mg where
  a_part := f0
  d_part := _
  F_part := fun_mk (st := s_part) l0 c0 k0
  b_part := (fun_mk (st := s_part) l0 c0 k0).binds (ps := ["top", "bottom"]) fun _ _ _ _ _ _ us hl => match us, hl with | [_, _], _ => rfl
  m_part := PySem.W.mg_of X G e0
  a_greatest_divisor := f1
  d_greatest_divisor := _
  F_greatest_divisor := fun_mk (st := s_greatest_divisor) l1 c1 k1
  b_greatest_divisor := (fun_mk (st := s_greatest_divisor) l1 c1 k1).binds (ps := ["one", "other"]) fun _ _ _ _ _ _ us hl => match us, hl with | [_, _], _ => rfl
  m_greatest_divisor := PySem.W.mg_of X G e1
  a_plus := f2
  d_plus := _
  F_plus := fun_mk (st := s_plus) l2 c2 k2
  b_plus := (fun_mk (st := s_plus) l2 c2 k2).binds (ps := ["one", "other"]) fun _ _ _ _ _ _ us hl => match us, hl with | [_, _], _ => rfl
  m_plus := PySem.W.mg_of X G e2
  a_minus := f3
  d_minus := _
  F_minus := fun_mk (st := s_minus) l3 c3 k3
  b_minus := (fun_mk (st := s_minus) l3 c3 k3).binds (ps := ["one", "other"]) fun _ _ _ _ _ _ us hl => match us, hl with | [_, _], _ => rfl
  m_minus := PySem.W.mg_of X G e3
  a_times := f4
  d_times := _
  F_times := fun_mk (st := s_times) l4 c4 k4
  b_times := (fun_mk (st := s_times) l4 c4 k4).binds (ps := ["one", "other"]) fun _ _ _ _ _ _ us hl => match us, hl with | [_, _], _ => rfl
  m_times := PySem.W.mg_of X G e4
  a_under := f5
  d_under := _
  F_under := fun_mk (st := s_under) l5 c5 k5
  b_under := (fun_mk (st := s_under) l5 c5 k5).binds (ps := ["one", "other"]) fun _ _ _ _ _ _ us hl => match us, hl with | [_, _], _ => rfl
  m_under := PySem.W.mg_of X G e5
  a_bound := f6
  d_bound := _
  F_bound := fun_mk (st := s_bound) l6 c6 k6
  b_bound := (fun_mk (st := s_bound) l6 c6 k6).binds (ps := ["rows", "unknowns", "settled", "goal", "paper"]) fun _ _ _ _ _ _ us hl => match us, hl with | [_, _, _, _, _], _ => rfl
  m_bound := PySem.W.mg_of X G e6
  a_holds := f7
  d_holds := _
  F_holds := fun_mk (st := s_holds) l7 c7 k7
  b_holds := (fun_mk (st := s_holds) l7 c7 k7).binds (ps := ["rows", "unknowns", "settled", "goal", "paper"]) fun _ _ _ _ _ _ us hl => match us, hl with | [_, _, _, _, _], _ => rfl
  m_holds := PySem.W.mg_of X G e7
  a_counted := f8
  d_counted := _
  F_counted := fun_mk (st := s_counted) l8 c8 k8
  b_counted := (fun_mk (st := s_counted) l8 c8 k8).binds (ps := ["settled", "shares", "goal", "thing"]) fun _ _ _ _ _ _ us hl => match us, hl with | [_, _, _, _], _ => rfl
  m_counted := PySem.W.mg_of X G e8
  a_signs_good := f9
  d_signs_good := _
  F_signs_good := fun_mk (st := s_signs_good) l9 c9 k9
  b_signs_good := (fun_mk (st := s_signs_good) l9 c9 k9).binds (ps := ["rows", "prices"]) fun _ _ _ _ _ _ us hl => match us, hl with | [_, _], _ => rfl
  m_signs_good := PySem.W.mg_of X G e9
  a_weighed := f10
  d_weighed := _
  F_weighed := fun_mk (st := s_weighed) l10 c10 k10
  b_weighed := (fun_mk (st := s_weighed) l10 c10 k10).binds (ps := ["weights", "numbers"]) fun _ _ _ _ _ _ us hl => match us, hl with | [_, _], _ => rfl
  m_weighed := PySem.W.mg_of X G e10
  a_column := f11
  d_column := _
  F_column := fun_mk (st := s_column) l11 c11 k11
  b_column := (fun_mk (st := s_column) l11 c11 k11).binds (ps := ["rows", "prices", "unknown"]) fun _ _ _ _ _ _ us hl => match us, hl with | [_, _, _], _ => rfl
  m_column := PySem.W.mg_of X G e11
  a_law_cell_at := f12
  d_law_cell_at := _
  F_law_cell_at := fun_mk (st := s_law_cell_at) l12 c12 k12
  b_law_cell_at := (fun_mk (st := s_law_cell_at) l12 c12 k12).binds (ps := ["_law_script", "_law_k"]) fun _ _ _ _ _ _ us hl => match us, hl with | [_, _], _ => rfl
  m_law_cell_at := PySem.W.mg_of X G e12
  a_law_mix := f13
  d_law_mix := _
  F_law_mix := fun_mk (st := s_law_mix) l13 c13 k13
  b_law_mix := (fun_mk (st := s_law_mix) l13 c13 k13).binds (ps := ["_law_cell", "_law_k"]) fun _ _ _ _ _ _ us hl => match us, hl with | [_, _], _ => rfl
  m_law_mix := PySem.W.mg_of X G e13
  a_law_divisor := f14
  d_law_divisor := _
  F_law_divisor := fun_mk (st := s_law_divisor) l14 c14 k14
  b_law_divisor := (fun_mk (st := s_law_divisor) l14 c14 k14).binds (ps := ["_law_one", "_law_other"]) fun _ _ _ _ _ _ us hl => match us, hl with | [_, _], _ => rfl
  m_law_divisor := PySem.W.mg_of X G e14
  a_law_lowest := f15
  d_law_lowest := _
  F_law_lowest := fun_mk (st := s_law_lowest) l15 c15 k15
  b_law_lowest := (fun_mk (st := s_law_lowest) l15 c15 k15).binds (ps := ["_law_top", "_law_bottom"]) fun _ _ _ _ _ _ us hl => match us, hl with | [_, _], _ => rfl
  m_law_lowest := PySem.W.mg_of X G e15
  a_law_add := f16
  d_law_add := _
  F_law_add := fun_mk (st := s_law_add) l16 c16 k16
  b_law_add := (fun_mk (st := s_law_add) l16 c16 k16).binds (ps := ["_law_pairs"]) fun _ _ _ _ _ _ us hl => match us, hl with | [_], _ => rfl
  m_law_add := PySem.W.mg_of X G e16
  a_law_small := f17
  d_law_small := _
  F_law_small := fun_mk (st := s_law_small) l17 c17 k17
  b_law_small := (fun_mk (st := s_law_small) l17 c17 k17).binds (ps := ["_law_mixed"]) fun _ _ _ _ _ _ us hl => match us, hl with | [_], _ => rfl
  m_law_small := PySem.W.mg_of X G e17
  a_law_row := f18
  d_law_row := _
  F_law_row := fun_mk (st := s_law_row) l18 c18 k18
  b_law_row := (fun_mk (st := s_law_row) l18 c18 k18).binds (ps := ["_law_cell", "_law_some"]) fun _ _ _ _ _ _ us hl => match us, hl with | [_, _], _ => rfl
  m_law_row := PySem.W.mg_of X G e18
  a_law_settled := f19
  d_law_settled := _
  F_law_settled := fun_mk (st := s_law_settled) l19 c19 k19
  b_law_settled := (fun_mk (st := s_law_settled) l19 c19 k19).binds (ps := ["_law_first", "_law_some"]) fun _ _ _ _ _ _ us hl => match us, hl with | [_, _], _ => rfl
  m_law_settled := PySem.W.mg_of X G e19
  a_law_often := f20
  d_law_often := _
  F_law_often := fun_mk (st := s_law_often) l20 c20 k20
  b_law_often := (fun_mk (st := s_law_often) l20 c20 k20).binds (ps := ["_law_thing", "_law_goal", "_law_settled_here", "_law_shares"]) fun _ _ _ _ _ _ us hl => match us, hl with | [_, _, _, _], _ => rfl
  m_law_often := PySem.W.mg_of X G e20
  a_law_price := f21
  d_law_price := _
  F_law_price := fun_mk (st := s_law_price) l21 c21 k21
  b_law_price := (fun_mk (st := s_law_price) l21 c21 k21).binds (ps := ["_law_one", "_law_cell", "_law_goal", "_law_settled_here", "_law_shares"]) fun _ _ _ _ _ _ us hl => match us, hl with | [_, _, _, _, _], _ => rfl
  m_law_price := PySem.W.mg_of X G e21
  a_law_evened := f22
  d_law_evened := _
  F_law_evened := fun_mk (st := s_law_evened) l22 c22 k22
  b_law_evened := (fun_mk (st := s_law_evened) l22 c22 k22).binds (ps := ["_law_rows", "_law_prices", "_law_some", "_law_goal", "_law_settled_here", "_law_shares", "_law_first"]) fun _ _ _ _ _ _ us hl => match us, hl with | [_, _, _, _, _, _, _], _ => rfl
  m_law_evened := PySem.W.mg_of X G e22
  a_law_asked := f23
  d_law_asked := _
  F_law_asked := fun_mk (st := s_law_asked) l23 c23 k23
  b_law_asked := (fun_mk (st := s_law_asked) l23 c23 k23).binds (ps := ["_law_rows", "_law_some", "_law_settled_here", "_law_goal", "_law_prices", "_law_shares"]) fun _ _ _ _ _ _ us hl => match us, hl with | [_, _, _, _, _, _], _ => rfl
  m_law_asked := PySem.W.mg_of X G e23
  a_law := f24
  d_law := _
  F_law := fun_mk (st := s_law) l24 c24 k24
  b_law := (fun_mk (st := s_law) l24 c24 k24).binds (ps := ["_law_script"]) fun _ _ _ _ _ _ us hl => match us, hl with | [_], _ => rfl
  m_law := PySem.W.mg_of X G e24
  c_NOUGHT := g0
  m_NOUGHT := PySem.W.mg_of X G n0
  t_NOUGHT := ⟨_, _, _, o0, rfl, rfl, (by show 2 ≤ sizeLine; decide), (.cons ⟨_, rfl⟩ (.cons ⟨_, rfl⟩ .nil))⟩
  k_MUST := yk_MUST
  m_MUST := PySem.W.mg_of X G yi_MUST
  c_NoPaper := x_NoPaper
  m_NoPaper := PySem.W.mg_of X G xn_NoPaper
  q_NoPaper := xq_NoPaper
  em_NoPaper_NoPaper := xm_NoPaper_NoPaper
  z_abs := PySem.W.mg_none_of X G z0
  z_len := PySem.W.mg_none_of X G z1
  z_range := PySem.W.mg_none_of X G z2
  z_isinstance := PySem.W.mg_none_of X G z3
  z_list := PySem.W.mg_none_of X G z4
  z_any := PySem.W.mg_none_of X G z5
  z_zip := PySem.W.mg_none_of X G z6
  z_enumerate := PySem.W.mg_none_of X G z7
  z_tuple := PySem.W.mg_none_of X G z8
  z_bool := PySem.W.mg_none_of X G z9
section
variable {P : Program} {w : World} {K : PySem.W.Frag} {mg : Str → Option Value} {base : Heap}
local macro_rules | `(tactic| walk_at "v0") => `(tactic| first
  | with_reducible refine a_asg ?_
  | with_reducible refine a_name ?_
  | with_reducible refine a_ret ?_
  | with_reducible refine a_drop ?_
  | with_reducible refine a_next ?_
  | with_reducible refine a_if ?_
  | ((with_reducible refine' a_var ?ve ?_); (case ve => rfl))
  | with_reducible refine a_c ?_
  | with_reducible refine a_op ?_
  | with_reducible refine a_un ?_
  | with_reducible refine a_I0 ?_
  | with_reducible refine a_U ?_
  | with_reducible refine a_test ?_
  | with_reducible refine a_tB ?_
  | with_reducible refine a_bl ?_
  | with_reducible refine a_eqI ?_
  | with_reducible refine a_neI ?_
  | with_reducible refine a_eqB ?_
  | with_reducible refine a_neB ?_
  | with_reducible refine a_call ?_
  | with_reducible refine a_cons ?_
  | with_reducible refine a_nil ?_
  | with_reducible refine a_cb ?_
  | with_reducible refine a_tup ?_
  | with_reducible refine a_lst ?_
  | with_reducible refine a_and ?_
  | with_reducible refine a_or ?_
  | with_reducible refine a_not ?_
  | with_reducible refine a_andV ?_
  | with_reducible refine a_orV ?_
  | with_reducible refine a_notV ?_
  | with_reducible refine a_ifE ?_
  | with_reducible refine a_sl ?_
  | with_reducible refine a_part ?_
  | with_reducible refine a_noPart ?_
  | with_reducible refine a_pint ?_
  | with_reducible refine a_par ?_
  | with_reducible refine a_par2 ?_
  | dsimp only)
local macro_rules | `(tactic| walk_at "v") => `(tactic| first | with_reducible refine a_seq ?_ | walk_at "v0")
local macro_rules | `(tactic| walk_at "vt") => `(tactic| repeat walk_at "v0")
local macro_rules | `(tactic| walk_at "vs") => `(tactic| repeat walk_at "v")
local macro_rules | `(tactic| walk_at "o") => `(tactic| first | assumption | omega | rfl | trivial | decide | (refine ⟨?_, ?_⟩ <;> walk_at "o"))
local macro_rules | `(tactic| walk_at "ol") => `(tactic| first | omega | (simp only [List.length_cons, List.length_nil, List.length_append]; omega) | (simp only [List.length_cons, List.length_nil, List.length_append, List.length_map, List.length_replicate]; omega))
local macro_rules | `(tactic| walk_at "om") => `(tactic| first | exact mulL2 (by omega) (by omega) | exact mulR2 (by omega) (by omega) | exact mulLB (by omega) | exact mulRB (by omega) | exact mulBB (by omega) (by omega))
local macro_rules | `(tactic| walk_at "od") => `(tactic| first | exact divB (by omega) (by omega))
/-! ### numbers -/
def sp_gd : Sp := fun vs H Q _ => ∃ a b : Int, vs = [.int a, .int b] ∧ 0 ≤ a ∧ 0 ≤ b ∧ Q (.int (gd a b)) H
theorem ok_greatest_divisor (T : Tx K mg) : FnOk P w K mg base CX0 1 T.a_greatest_divisor T.d_greatest_divisor ["one", "other"] sp_gd := by
  refine T.F_greatest_divisor.ok sc_greatest_divisor (fun vs H Q E h => ?_) (fun cdv A outer s H vs Q E hr h => ?_)
  · obtain ⟨a, b, rfl, _⟩ := h
    rfl
  · obtain ⟨a, b, rfl, ha, hb, k⟩ := h
    refine ⟨_, (ZSs.h (zss_cons (ps_while PassesOwn.never (pt_cmpR op_ne (pv 1) pe_int (nomark _)) (ZSs.h (zss_cons (ps_set (i := 2) sc_greatest_divisor.nd rfl (Or.inl rfl) (pe_op op_mod (pv 0) (pv 1)))
      (zss_cons (ps_set (i := 0) sc_greatest_divisor.nd rfl (Or.inl rfl) (pv 1))
      (zss_one (ps_set (i := 1) sc_greatest_divisor.nd rfl (Or.inl rfl) (pv 2)))))))
      (zss_one (ps_ret (pv 0))))), ?_⟩
    refine a_seq ?_
    refine ⟨fun m σ H' => ∃ (x y : Int) (z : Option V), σ = [some (.int x), some (.int y), z] ∧ H' = H ∧ 0 ≤ x ∧ 0 ≤ y ∧ gd x y = gd a b ∧ m = y.toNat, ⟨b.toNat, a, b, none, rfl, rfl, ha, hb, rfl, rfl⟩, ?_⟩
    rintro m σ H' ⟨x, y, z, rfl, rfl, hx, hy, e, rfl⟩
    walk_at "vs"
    refine iteDN (fun hne => ?_) (fun hz => ?_)
    · refine ⟨fun σ' H' => ∃ (x' y' : Int) (z : Option V), σ' = [some (.int x'), some (.int y'), z] ∧ H' = _ ∧ 0 ≤ x' ∧ 0 ≤ y' ∧ gd x' y' = gd a b ∧ y'.toNat < y.toNat, fun σ' H' ⟨x', y', z', e1, e2, e3, e4, e5, e6⟩ => ⟨y'.toNat, e6, x', y', z', e1, e2, e3, e4, e5, rfl⟩, ?_⟩
      walk_at "vs"
      refine a_I (by omega) ?_
      walk_at "vs"
      refine ⟨y, x % y, _, rfl, rfl, hy, Int.emod_nonneg _ hne, ?_, ?_⟩
      · rw [gd_mod hx (by omega)]; exact e
      · have := Int.emod_lt_of_pos x (show 0 < y by omega)
        have := Int.emod_nonneg x hne
        omega
    · walk_at "vs"
      rw [hz, gd_zero x hx] at e
      rw [e]
      exact k
def sp_part : Sp := fun vs H Q _ => ∃ t b : Int, vs = [.int t, .int b] ∧ b ≠ 0 ∧ b.natAbs < 2 ^ 8000 ∧ ∀ p, H p = none → Q (.ref p) (upd H p (.tup (fr (Rat.divInt t b))))
theorem gd_le {t b : Int} (h : b ≠ 0) : (gd t b).natAbs ≤ b.natAbs := by
  have h1 := gd_dvd_r t b
  have h2 := Int.natAbs_dvd_natAbs.mpr h1
  exact Nat.le_of_dvd (by omega) h2
theorem dv_le {t b : Int} (h : b ≠ 0) : (dv t b).natAbs ≤ b.natAbs := by
  have := gd_le (t := t) h
  unfold dv
  split
  · rw [Int.natAbs_neg]; exact this
  · exact this
theorem ok_part (T : Tx K mg) : FnOk P w K mg base CX0 2 T.a_part T.d_part ["top", "bottom"] sp_part := by
  refine T.F_part.ok sc_part (fun vs H Q E h => ?_) (fun cdv A outer s H vs Q E hr h => ?_)
  · obtain ⟨a, b, rfl, _⟩ := h
    rfl
  · obtain ⟨t, b, rfl, hb, hz, k⟩ := h
    refine ⟨_, (ZSs.h (zss_cons (ps_if (pt_cmpR op_eq (pv 1) pe_int (nomark _)) (pss_one ps_never) pss_nil)
      (zss_cons (ps_set (i := 2) sc_part.nd rfl (Or.inl rfl) (pe_call ((ok_greatest_divisor T).mono (by decide)) hr rfl T.m_greatest_divisor T.F_greatest_divisor.kp T.b_greatest_divisor .nil pass0 (pa_cons (pe_callB call_abs rfl T.z_abs rfl (pa_cons (pv 0) pa_nil)) (pa_cons (pe_callB call_abs rfl T.z_abs rfl (pa_cons (pv 1) pa_nil)) pa_nil))))
      (zss_cons (ps_if (pt_cmpR op_lt (pv 1) pe_int (nomark _)) (pss_one (ps_set (i := 2) sc_part.nd rfl (Or.inl rfl) (pe_un un_neg (pv 2)))) pss_nil)
      (zss_one (ps_ret (pe_tup (pa_cons (pe_op op_fdivB (pv 0) (pv 2)) (pa_cons (pe_op op_fdivB (pv 1) (pv 2)) pa_nil))))))))), ?_⟩
    walk_at "vs"
    refine iteDF hb ?_
    walk_at "vs"
    refine ⟨t, rfl, ?_⟩
    walk_at "vs"
    refine ⟨b, rfl, ?_⟩
    walk_at "vs"
    have e : gd (if t < 0 then -t else t) (if b < 0 then -b else b) = gd t b := gd_abs' t b
    refine ⟨_, _, rfl, (by split <;> omega), (by split <;> omega), ?_⟩
    rw [e]
    have hd := dv_ne (t := t) hb
    have hl : (dv t b).natAbs < 2 ^ 8000 := Nat.lt_of_le_of_lt (dv_le hb) hz
    have fin : ∀ p, H p = none → Q (.ref p) (upd H p (.tup [.int (t.fdiv (dv t b)), .int (b.fdiv (dv t b))])) := fun p hp => by
      rw [part_num hb, part_den hb]
      exact k p hp
    walk_at "vs"
    refine iteD (fun hn => ?_) (fun hn => ?_)
    · have ed : -(gd t b) = dv t b := by unfold dv; rw [if_pos hn]
      walk_at "vs"
      rw [ed]
      refine a_I ⟨hd, hl⟩ ?_
      walk_at "vs"
      refine a_I ⟨hd, hl⟩ ?_
      walk_at "vs"
      exact ⟨by show 2 ≤ sizeLine; decide, fin⟩
    · have ed : gd t b = dv t b := by unfold dv; rw [if_neg hn]
      walk_at "vs"
      rw [ed]
      refine a_I ⟨hd, hl⟩ ?_
      walk_at "vs"
      refine a_I ⟨hd, hl⟩ ?_
      walk_at "vs"
      exact ⟨by show 2 ≤ sizeLine; decide, fin⟩
def sp_two (f : Rat → Rat → Rat) (K : PySem.W.Frag) : Sp := fun vs H Q _ => ∃ (a b : Addr) (p q : Rat), vs = [.ref a, .ref b] ∧ SqT K H a (fr p) ∧ SqT K H b (fr q) ∧ Sm 3900 p ∧ Sm 3900 q ∧ ∀ c, H c = none → Q (.ref c) (upd H c (.tup (fr (f p q))))
theorem mulB {x y : Int} (h1 : x.natAbs < 2 ^ 3900) (h2 : y.natAbs < 2 ^ 3900) : CMulX x y := .inr ⟨3900, by decide, h1, h2⟩
theorem ok_plus (T : Tx K mg) : FnOk P w K mg base CX0 3 T.a_plus T.d_plus ["one", "other"] (sp_two (· + ·) K) := by
  refine T.F_plus.ok sc_plus (fun vs H Q E h => ?_) (fun cdv A outer s H vs Q E hr h => ?_)
  · obtain ⟨a, b, p, q, rfl, _⟩ := h
    rfl
  · obtain ⟨a, b, p, q, rfl, ta, tb, sp, sq, k⟩ := h
    refine ⟨_, (pss_one (ps_ret (pe_call ((ok_part T).mono (by decide)) hr rfl T.m_part T.F_part.kp T.b_part .nil pass0 (pa_cons (pe_op op_add (pe_op op_mulB (pe_ix ix_tup (pv 0) pe_int (fun _ _ => rfl)) (pe_ix ix_tup (pv 1) pe_int (fun _ _ => rfl))) (pe_op op_mulB (pe_ix ix_tup (pv 1) pe_int (fun _ _ => rfl)) (pe_ix ix_tup (pv 0) pe_int (fun _ _ => rfl)))) (pa_cons (pe_op op_mulB (pe_ix ix_tup (pv 0) pe_int (fun _ _ => rfl)) (pe_ix ix_tup (pv 1) pe_int (fun _ _ => rfl))) pa_nil))))), ?_⟩
    have d1 := den_abs sp
    have d2 := den_abs sq
    walk_at "vs"
    refine a_ixT ta (fr0 p) ?_
    walk_at "vs"
    refine a_ixT tb (fr1 q) ?_
    refine a_I (mulB sp.1 d2) ?_
    walk_at "vs"
    refine a_ixT tb (fr0 q) ?_
    walk_at "vs"
    refine a_ixT ta (fr1 p) ?_
    refine a_I (mulB sq.1 d1) ?_
    walk_at "vs"
    refine a_ixT ta (fr1 p) ?_
    walk_at "vs"
    refine a_ixT tb (fr1 q) ?_
    refine a_I (mulB d1 d2) ?_
    walk_at "vs"
    refine ⟨_, _, rfl, dens_ne p q, up2 (abs_mul_lt d1 d2) (by decide), fun c hc => ?_⟩
    have e := add_divInt p q
    rw [← e]
    exact k c hc
theorem ok_times (T : Tx K mg) : FnOk P w K mg base CX0 3 T.a_times T.d_times ["one", "other"] (sp_two (· * ·) K) := by
  refine T.F_times.ok sc_times (fun vs H Q E h => ?_) (fun cdv A outer s H vs Q E hr h => ?_)
  · obtain ⟨a, b, p, q, rfl, _⟩ := h
    rfl
  · obtain ⟨a, b, p, q, rfl, ta, tb, sp, sq, k⟩ := h
    refine ⟨_, (pss_one (ps_ret (pe_call ((ok_part T).mono (by decide)) hr rfl T.m_part T.F_part.kp T.b_part .nil pass0 (pa_cons (pe_op op_mulB (pe_ix ix_tup (pv 0) pe_int (fun _ _ => rfl)) (pe_ix ix_tup (pv 1) pe_int (fun _ _ => rfl))) (pa_cons (pe_op op_mulB (pe_ix ix_tup (pv 0) pe_int (fun _ _ => rfl)) (pe_ix ix_tup (pv 1) pe_int (fun _ _ => rfl))) pa_nil))))), ?_⟩
    have d1 := den_abs sp
    have d2 := den_abs sq
    walk_at "vs"
    refine a_ixT ta (fr0 p) ?_
    walk_at "vs"
    refine a_ixT tb (fr0 q) ?_
    refine a_I (mulB sp.1 sq.1) ?_
    walk_at "vs"
    refine a_ixT ta (fr1 p) ?_
    walk_at "vs"
    refine a_ixT tb (fr1 q) ?_
    refine a_I (mulB d1 d2) ?_
    walk_at "vs"
    refine ⟨_, _, rfl, dens_ne p q, up2 (abs_mul_lt d1 d2) (by decide), fun c hc => ?_⟩
    have e := mul_divInt p q
    rw [← e]
    exact k c hc
theorem ok_minus (T : Tx K mg) : FnOk P w K mg base CX0 3 T.a_minus T.d_minus ["one", "other"] (sp_two (· - ·) K) := by
  refine T.F_minus.ok sc_minus (fun vs H Q E h => ?_) (fun cdv A outer s H vs Q E hr h => ?_)
  · obtain ⟨a, b, p, q, rfl, _⟩ := h
    rfl
  · obtain ⟨a, b, p, q, rfl, ta, tb, sp, sq, k⟩ := h
    refine ⟨_, (pss_one (ps_ret (pe_call ((ok_part T).mono (by decide)) hr rfl T.m_part T.F_part.kp T.b_part .nil pass0 (pa_cons (pe_op op_sub (pe_op op_mulB (pe_ix ix_tup (pv 0) pe_int (fun _ _ => rfl)) (pe_ix ix_tup (pv 1) pe_int (fun _ _ => rfl))) (pe_op op_mulB (pe_ix ix_tup (pv 1) pe_int (fun _ _ => rfl)) (pe_ix ix_tup (pv 0) pe_int (fun _ _ => rfl)))) (pa_cons (pe_op op_mulB (pe_ix ix_tup (pv 0) pe_int (fun _ _ => rfl)) (pe_ix ix_tup (pv 1) pe_int (fun _ _ => rfl))) pa_nil))))), ?_⟩
    have d1 := den_abs sp
    have d2 := den_abs sq
    walk_at "vs"
    refine a_ixT ta (fr0 p) ?_
    walk_at "vs"
    refine a_ixT tb (fr1 q) ?_
    refine a_I (mulB sp.1 d2) ?_
    walk_at "vs"
    refine a_ixT tb (fr0 q) ?_
    walk_at "vs"
    refine a_ixT ta (fr1 p) ?_
    refine a_I (mulB sq.1 d1) ?_
    walk_at "vs"
    refine a_ixT ta (fr1 p) ?_
    walk_at "vs"
    refine a_ixT tb (fr1 q) ?_
    refine a_I (mulB d1 d2) ?_
    walk_at "vs"
    refine ⟨_, _, rfl, dens_ne p q, up2 (abs_mul_lt d1 d2) (by decide), fun c hc => ?_⟩
    have e := sub_divInt p q
    rw [← e]
    exact k c hc
def sp_under (K : PySem.W.Frag) : Sp := fun vs H Q _ => ∃ (a b : Addr) (p q : Rat), vs = [.ref a, .ref b] ∧ SqT K H a (fr p) ∧ SqT K H b (fr q) ∧ Sm 3900 p ∧ Sm 3900 q ∧ Q (.bl (decide (p < q))) H
theorem lt_cross (p q : Rat) : decide (p.num * (q.den : Int) < q.num * (p.den : Int)) = decide (p < q) := by
  have h : p.num * (q.den : Int) < q.num * (p.den : Int) ↔ p < q := (Rat.lt_iff p q).symm
  by_cases c : p < q
  · rw [decide_eq_true c, decide_eq_true (h.mpr c)]
  · rw [decide_eq_false c, decide_eq_false (fun z => c (h.mp z))]
theorem ok_under (T : Tx K mg) : FnOk P w K mg base CX0 1 T.a_under T.d_under ["one", "other"] (sp_under K) := by
  refine T.F_under.ok sc_under (fun vs H Q E h => ?_) (fun cdv A outer s H vs Q E hr h => ?_)
  · obtain ⟨a, b, p, q, rfl, _⟩ := h
    rfl
  · obtain ⟨a, b, p, q, rfl, ta, tb, sp, sq, k⟩ := h
    refine ⟨_, (pss_one (ps_ret (pe_cmpR op_lt (pe_op op_mulB (pe_ix ix_tup (pv 0) pe_int (fun _ _ => rfl)) (pe_ix ix_tup (pv 1) pe_int (fun _ _ => rfl))) (pe_op op_mulB (pe_ix ix_tup (pv 1) pe_int (fun _ _ => rfl)) (pe_ix ix_tup (pv 0) pe_int (fun _ _ => rfl))) (nomark _)))), ?_⟩
    have d1 := den_abs sp
    have d2 := den_abs sq
    walk_at "vs"
    refine a_ixT ta (fr0 p) ?_
    walk_at "vs"
    refine a_ixT tb (fr1 q) ?_
    refine a_I (mulB sp.1 d2) ?_
    walk_at "vs"
    refine a_ixT tb (fr0 q) ?_
    walk_at "vs"
    refine a_ixT ta (fr1 p) ?_
    refine a_I (mulB sq.1 d1) ?_
    walk_at "vs"
    rw [lt_cross]
    exact k
theorem bi_mono {x y : Int} (h : x.natAbs ≤ y.natAbs) : bi x ≤ bi y := bi_lt (Nat.lt_of_le_of_lt h (lt_bi (Nat.le_refl _)))
theorem gd_abs0 (x : Int) : gd x 0 = if x < 0 then -x else x := by rw [abs_if]; unfold gd; rw [Int.gcd_zero_right]
theorem gd_mod' {a b : Int} (hb : 0 < b) : gd b (a % b) = gd a b := by
  unfold gd
  have e : a % b = a - b * (a / b) := Int.emod_def a b
  rw [e, Int.gcd_sub_mul_left_right, Int.gcd_comm]
theorem divInt_neg_iff {o b : Int} (hb : 0 < b) : Rat.divInt o b < 0 ↔ o < 0 := by
  have e := cross (t := o) (show b ≠ 0 by omega)
  rw [show Rat.divInt o b < 0 ↔ (Rat.divInt o b).num < 0 from by rw [Rat.lt_iff]; simp]
  have hd := den_pos (Rat.divInt o b)
  constructor
  · intro h
    have h1 : (Rat.divInt o b).num * b < 0 := Int.mul_neg_of_neg_of_pos h hb
    rw [e] at h1
    exact Int.not_le.mp (fun hn => by have := Int.mul_nonneg (Int.le_of_lt hd) hn; omega)
  · intro h
    have h1 : ((Rat.divInt o b).den : Int) * o < 0 := Int.mul_neg_of_pos_of_neg hd h
    rw [← e] at h1
    exact Int.not_le.mp (fun hn => by have := Int.mul_nonneg hn (Int.le_of_lt hb); omega)
theorem divInt_pos_iff {o b : Int} (hb : 0 < b) : 0 < Rat.divInt o b ↔ 0 < o := by
  have h := divInt_neg_iff (o := -o) hb
  rw [← Rat.neg_divInt] at h
  constructor
  · intro z; have := h.mp (by grind); omega
  · intro z; have := h.mpr (by omega); grind
abbrev U32 := Int ⊕ Str
abbrev Row32 := List (Str × Rat) × Str × Rat × Int × Int
def cntZ (t : U32) : List ((U32 × Rat) × Rat) → Rat
  | [] => 0
  | p :: r => cntZ t r + (if p.1.1 = t then p.2 else 0)
theorem cntZ_app (t : U32) : ∀ a b, cntZ t (a ++ b) = cntZ t a + cntZ t b
  | [], b => by show cntZ t b = 0 + _; rw [Rat.zero_add]
  | p :: a, b => by
    show cntZ t (a ++ b) + _ = (cntZ t a + _) + _
    rw [cntZ_app t a b]; grind
theorem takeS {α : Type} {xs : List α} {i : Nat} {x : α} (h : xs[i]? = some x) : xs.take (i + 1) = xs.take i ++ [x] := by rw [List.take_add_one, h]; rfl
theorem cntZ_snoc {t : U32} {z : List ((U32 × Rat) × Rat)} {i : Nat} {p : (U32 × Rat) × Rat} (h : z[i]? = some p) : cntZ t (z.take (i + 1)) = cntZ t (z.take i) + (if p.1.1 = t then p.2 else 0) := by
  rw [takeS h, cntZ_app]
  show _ + (0 + _) = _
  rw [Rat.zero_add]
theorem cnt_yes {t : U32} {z : List ((U32 × Rat) × Rat)} {i : Nat} {p : (U32 × Rat) × Rat} (h : z[i]? = some p) (e : p.1.1 = t) : cntZ t (z.take (i + 1)) = cntZ t (z.take i) + p.2 := by rw [cntZ_snoc h, if_pos e]
theorem cnt_no {t : U32} {z : List ((U32 × Rat) × Rat)} {i : Nat} {p : (U32 × Rat) × Rat} (h : z[i]? = some p) (e : ¬ p.1.1 = t) : cntZ t (z.take (i + 1)) = cntZ t (z.take i) := by rw [cntZ_snoc h, if_neg e, Rat.add_zero]
def cntR (settled : List (U32 × Rat)) (shares : List Rat) (goal t : U32) : Rat := (if t = goal then 1 else 0) + cntZ t (settled.zip shares)
def wgtZ : List (Rat × Rat) → Rat
  | [] => 0
  | p :: r => wgtZ r + p.1 * p.2
theorem wgtZ_app : ∀ a b, wgtZ (a ++ b) = wgtZ a + wgtZ b
  | [], b => by show wgtZ b = 0 + _; rw [Rat.zero_add]
  | p :: a, b => by
    show wgtZ (a ++ b) + _ = (wgtZ a + _) + _
    rw [wgtZ_app a b]; grind
theorem wgtZ_snoc {z : List (Rat × Rat)} {i : Nat} {p : Rat × Rat} (h : z[i]? = some p) : wgtZ (z.take (i + 1)) = wgtZ (z.take i) + p.1 * p.2 := by
  rw [takeS h, wgtZ_app]
  show _ + (0 + _) = _
  rw [Rat.zero_add]
theorem zip_at {α β : Type} {xs : List α} {ys : List β} {i : Nat} {x : α} {y : β} (h : xs[i]? = some x) (g : ys[i]? = some y) : (xs.zip ys)[i]? = some (x, y) := List.getElem?_zip_eq_some.mpr ⟨h, g⟩
theorem zip_all {α β : Type} (xs : List α) (ys : List β) : (xs.zip ys).take (min xs.length ys.length) = xs.zip ys := List.take_of_length_le (by rw [List.length_zip]; exact Nat.le_refl _)
def colR (rows : List Row32) (prices : List Rat) (u : Str) : Rat := wgtZ (prices.zip (rows.map (fun r => (gtd r.1 u).getD 0)))
def signB (rp : Row32 × Rat) : Bool := !(decide (rp.1.2.1 = "least") && decide (rp.2 < 0)) && !(decide (rp.1.2.1 = "most") && decide (0 < rp.2))
def roomR (settled : List (U32 × Rat)) (shares : List Rat) (goal : U32) (r : Row32) : Rat := ((r.2.2.2.2 : Int) : Rat) * cntR settled shares goal (.inl r.2.2.2.1)
def roomB (settled : List (U32 × Rat)) (shares : List Rat) (goal : U32) (rp : Row32 × Rat) : Bool := decide (rp.1.2.2.2.1 = 0) || (!decide (roomR settled shares goal rp.1 < rp.2) && !decide (rp.2 < 0 - roomR settled shares goal rp.1))
def colB (rows : List Row32) (prices : List Rat) (settled : List (U32 × Rat)) (shares : List Rat) (goal : U32) (u : Str) : Bool := !decide (cntR settled shares goal (.inr u) < colR rows prices u)
def holdsB (rows : List Row32) (unknowns : List Str) (settled : List (U32 × Rat)) (goal : U32) (prices shares : List Rat) : Bool :=
  (decide (prices.length = rows.length) && decide (shares.length = settled.length)) && (((shares.all fun s => !decide (s < 0)) && (rows.zip prices).all signB) && ((rows.zip prices).all (roomB settled shares goal) && unknowns.all (colB rows prices settled shares goal)))
structure Ok31 (rows : List Row32) (settled : List (U32 × Rat)) (prices shares : List Rat) : Prop where
  l1 : rows.length ≤ 10
  l2 : prices.length ≤ 10
  l3 : settled.length ≤ 5
  l4 : shares.length ≤ 5
  r1 : ∀ r ∈ rows, bs r.2.2.1 ≤ 10
  r2 : ∀ r ∈ rows, 1 ≤ r.2.2.2.2 ∧ r.2.2.2.2 ≤ 1000000
  r3 : ∀ r ∈ rows, ∀ x q, gtd r.1 x = some q → bs q ≤ 10
  p : ∀ p ∈ prices, bs p ≤ 320
  s : ∀ s ∈ shares, bs s ≤ 20
  t : ∀ p ∈ settled, bs p.2 ≤ 10
theorem all_no {α : Type} {z : List α} {f : α → Bool} {i : Nat} {p : α} (h : z[i]? = some p) (hp : f p = false) : z.all f = false := List.all_eq_false.mpr ⟨p, List.mem_of_getElem? h, by rw [hp]; decide⟩
theorem all_yes {α : Type} {z : List α} {f : α → Bool} {i : Nat} {p : α} (h : z[i]? = some p) (hp : f p = true) (hz : (z.take i).all f = true) : (z.take (i + 1)).all f = true := by rw [takeS h, List.all_append, hz]; simp [hp]
section
variable {rows : List Row32} {un : List Str} {st : List (U32 × Rat)} {goal : U32} {pr sh : List Rat}
theorem holds_len1 (h : ¬ ((pr.length : Int) = rows.length)) : false = holdsB rows un st goal pr sh := by unfold holdsB; rw [decide_eq_false (fun z => h (by rw [z])), Bool.false_and, Bool.false_and]
theorem holds_len2 (h : ¬ ((sh.length : Int) = st.length)) : false = holdsB rows un st goal pr sh := by unfold holdsB; rw [decide_eq_false (p := sh.length = st.length) (fun z => h (by rw [z])), Bool.and_false, Bool.false_and]
theorem any_neg {xs : List Rat} : (xs.map fun s => decide (s < 0)).any id = !(xs.all fun s => !decide (s < 0)) := by
  induction xs with
  | nil => rfl
  | cons x xs ih => rw [List.map_cons, List.any_cons, List.all_cons, ih]; cases decide (x < 0) <;> simp
theorem holds_neg (h : (sh.map fun s => decide (s < 0)).any id = true) : false = holdsB rows un st goal pr sh := by
  rw [any_neg] at h
  unfold holdsB
  rw [show (sh.all fun s => !decide (s < 0)) = false by simpa using h, Bool.false_and, Bool.false_and, Bool.and_false]
theorem holds_sign (h : (rows.zip pr).all signB = false) : false = holdsB rows un st goal pr sh := by unfold holdsB; rw [h, Bool.and_false, Bool.false_and, Bool.and_false]
theorem holds_room {i : Nat} {rp : Row32 × Rat} (h : (rows.zip pr)[i]? = some rp) (hp : roomB st sh goal rp = false) : false = holdsB rows un st goal pr sh := by unfold holdsB; rw [all_no h hp, Bool.false_and, Bool.and_false, Bool.and_false]
theorem holds_col {i : Nat} {u : Str} (h : un[i]? = some u) (hp : colB rows pr st sh goal u = false) : false = holdsB rows un st goal pr sh := by unfold holdsB; rw [all_no h hp, Bool.and_false, Bool.and_false, Bool.and_false]
theorem holds_yes (h1 : (pr.length : Int) = rows.length) (h2 : (sh.length : Int) = st.length) (h3 : (sh.map fun s => decide (s < 0)).any id = false) (h4 : (rows.zip pr).all signB = true) (h5 : (rows.zip pr).all (roomB st sh goal) = true) (h6 : un.all (colB rows pr st sh goal) = true) : true = holdsB rows un st goal pr sh := by
  rw [any_neg] at h3
  unfold holdsB
  rw [decide_eq_true (p := pr.length = rows.length) (by omega), decide_eq_true (p := sh.length = st.length) (by omega), h4, h5, h6, show (sh.all fun s => !decide (s < 0)) = true by simpa using h3]
  rfl
theorem room_no1 {rp : Row32 × Rat} (h : ¬ rp.1.2.2.2.1 = 0) (h2 : roomR st sh goal rp.1 < rp.2) : roomB st sh goal rp = false := by unfold roomB; rw [decide_eq_false h, decide_eq_true h2]; rfl
theorem room_no2 {rp : Row32 × Rat} (h : ¬ rp.1.2.2.2.1 = 0) (h2 : rp.2 < 0 - roomR st sh goal rp.1) : roomB st sh goal rp = false := by unfold roomB; rw [decide_eq_false h, decide_eq_true h2]; cases decide (roomR st sh goal rp.1 < rp.2) <;> rfl
theorem room_yes0 {rp : Row32 × Rat} (h : rp.1.2.2.2.1 = 0) : roomB st sh goal rp = true := by unfold roomB; rw [decide_eq_true h]; rfl
theorem room_yes1 {rp : Row32 × Rat} (h1 : ¬ roomR st sh goal rp.1 < rp.2) (h2 : ¬ rp.2 < 0 - roomR st sh goal rp.1) : roomB st sh goal rp = true := by unfold roomB; rw [decide_eq_false h1, decide_eq_false h2]; cases decide (rp.1.2.2.2.1 = 0) <;> rfl
end
theorem bs_int {n : Int} {k : Nat} (h : n.natAbs < 2 ^ k) (hk : 1 ≤ k) : bs ((n : Int) : Rat) ≤ k := by
  have z1 : bl n.natAbs ≤ k := bi_small (x := n) k h
  have z2 : bl 1 = 1 := by decide +kernel
  unfold bs
  rw [Rat.num_intCast, Rat.den_intCast]
  omega
def bndR (rows : List Row32) (settled : List (U32 × Rat)) (prices shares : List Rat) : Rat := wgtZ (prices.zip (rows.map (·.2.2.1))) - wgtZ (shares.zip (settled.map (·.2)))
def sp_weighed (K : PySem.W.Frag) : Sp := fun vs H Q _ => Ex5 fun (F : Hp) (v_weights : V) (v_numbers : V) (weights : (List Rat)) (numbers : (List Rat)) => Cj6 (vs = [v_weights, v_numbers]) (Same F H) ((rL K (rFr K)) F v_weights weights) ((rL K (rFr K)) F v_numbers numbers) (weights.length ≤ 11 ∧ numbers.length ≤ 11 ∧ (∀ q ∈ weights, bs q ≤ 320) ∧ ∀ q ∈ numbers, bs q ≤ 10) (∀ (v : V) (F' H' : Hp), Gr F H F' H' → (rFr K) F' v (wgtZ (weights.zip numbers)) → (bs (wgtZ (weights.zip numbers)) ≤ 3700) → Q v H')
set_option linter.unusedVariables false in
theorem ok_weighed (T : Tx K mg) : FnOk P w K mg base CX0 4 T.a_weighed T.d_weighed ["weights", "numbers"] (sp_weighed K) := by
  refine T.F_weighed.ok sc_weighed (fun vs H Q E h => ?_) (fun cdv A outer s H vs Q E hr h => ?_)
  · obtain ⟨F, v_weights, v_numbers, weights, numbers, rfl, _⟩ := h
    rfl
  · obtain ⟨F, v_weights, v_numbers, weights, numbers, rfl, wd, r_weights, r_numbers, hpre, k⟩ := h
    have hu := hu_of hr
    have gb := Gr0.refl wd
    have cm := Fz.refl F
    obtain ⟨a1, vs2, rfl, sq3, al4⟩ := r_weights
    obtain ⟨a5, vs6, rfl, sq7, al8⟩ := r_numbers
    obtain ⟨w1, w2, w3, w4⟩ := hpre
    refine ⟨_, (ZSs.h (zss_cons (ps_set (i := 2) sc_weighed.nd rfl (Or.inl rfl) (pe_glob (v := .ref T.c_NOUGHT) rfl T.m_NOUGHT rfl))
          (zss_cons (ps_for PassesOwn.never rfl (pi_zip rfl T.z_zip (pa_cons (pv 0) (pa_cons (pv 1) pa_nil))) (pg_tup rfl (pgs_cons (pg_name (i := 3) sc_weighed.nd rfl (Or.inl rfl)) (pgs_cons (pg_name (i := 4) sc_weighed.nd rfl (Or.inl rfl)) pgs_nil))) (pss_one (ps_set (i := 2) sc_weighed.nd rfl (Or.inl rfl) (pe_call ((ok_plus T).mono (by decide)) hr rfl T.m_plus T.F_plus.kp T.b_plus .nil pass0 (pa_cons (pv 2) (pa_cons (pe_call ((ok_times T).mono (by decide)) hr rfl T.m_times T.F_times.kp T.b_times .nil pass0 (pa_cons (pv 3) (pa_cons (pv 4) pa_nil))) pa_nil))))))
          (zss_one (ps_ret (pv 2)))))), ?_⟩
    refine a_seq ?_
    refine a_asg ?_
    refine a_c ?_
    refine a_name ?_
    try dsimp only
    refine a_seq ?_
    refine a_for ?_
    refine a_izip ?_
    refine a_cons ?_
    refine a_var rfl ?_
    refine a_cons ?_
    refine a_var rfl ?_
    refine a_nil ?_
    refine ⟨_, _, rfl, ⟨_, (Same.seq gb.s sq3)⟩, ⟨_, (Same.seq gb.s sq7)⟩, for_zip (K := K) (a := a1) (b := a5) (xs := vs2) (ys := vs6) (fun i σ' H' => Ex5 fun (F9 : Hp) (v_total10 : V) (total10 : Rat) (o11 : Option V) (o12 : Option V) => Cj6 (σ' = [some (V.ref a1), some (V.ref a5), some v_total10, o11, o12]) (Gr0 F H F9 H') (Fz (frzd F) F9) (Le F F9) ((rFr K) F9 v_total10 total10) ((total10 = wgtZ ((weights.zip numbers).take i) ∧ bs total10 ≤ i * 331 + 1))) ?_ ?_ ?_ ?_⟩
    · exact ⟨F, _, 0, _, _, rfl, gb, cm, Le.refl _, ⟨_, rfl, (.inr T.t_NOUGHT)⟩, by exact ⟨rfl, by decide +kernel⟩⟩
    · rintro i σ' H13 _ ⟨F14, v_total18, total18, o19, o20, rfl, gb15, cm16, le17, hr21, ⟨q0, q1⟩⟩
      obtain ⟨a22, rfl, sq23⟩ := hr21
      exact ⟨(Same.seq gb15.s (Le.lst le17 sq3)), (Same.seq gb15.s (Le.lst le17 sq7))⟩
    · rintro i24 y28 z29 σ' H25 p30 hi26 hj27 ⟨F32, v_total36, total36, o37, o38, rfl, gb33, cm34, le35, hr39, ⟨q0, q1⟩⟩ hp31
      obtain ⟨a40, rfl, sq41⟩ := hr39
      obtain ⟨x42, hx43, hr44⟩ := Al.get (Al.mo le35 al4) hi26
      obtain ⟨x45, hx46, hr47⟩ := Al.get (Al.mo le35 al8) hj27
      obtain ⟨a52, rfl, sq53⟩ := hr44
      obtain ⟨a54, rfl, sq55⟩ := hr47
      refine it2 (K := K) gb33.s hp31 (fun F48 H49 g50 e51 => ?_)
      have gb56 := gb33.tr g50
      have le57 := g50.le
      have cm58 := g50.fz cm34
      try dsimp only
      have u1 := w3 _ (List.mem_of_getElem? hx43)
      have u2 := w4 _ (List.mem_of_getElem? hx46)
      have u3 := (List.getElem?_eq_some_iff.mp hx43).1
      refine a_asg ?_
      refine a_call ?_
      refine a_cons ?_
      refine a_var rfl ?_
      refine a_cons ?_
      refine a_call ?_
      refine a_cons ?_
      refine a_var rfl ?_
      refine a_cons ?_
      refine a_var rfl ?_
      refine a_nil ?_
      refine ⟨_, _, x42, x45, rfl, (Same.tup gb56.s (Le.tup le57 sq53)), (Same.tup gb56.s (Le.tup le57 sq55)), sm_of (by walk_at "o"), sm_of (by walk_at "o"), fun p59 hp60 => ?_⟩
      obtain ⟨F61, g63, e64⟩ := al2 (o := (.tup (fr (x42 * x45)))) gb56.s (by intro _ _ z; cases z) hp60
      generalize upd H49 p59 (.tup (fr (x42 * x45))) = H62 at g63 ⊢
      have gb65 := gb56.tr g63
      have le66 := g63.le
      have cm67 := g63.fz cm58
      have b68 := bs_mul x42 x45
      refine a_nil ?_
      refine ⟨_, _, total36, (x42 * x45), rfl, (Same.tup gb65.s (Le.tup (le57.trans le66) sq41)), (Same.tup gb65.s (SqT.of e64)), sm_of (by walk_at "o"), sm_of (by walk_at "o"), fun p69 hp70 => ?_⟩
      obtain ⟨F71, g73, e74⟩ := al2 (o := (.tup (fr (total36 + (x42 * x45))))) gb65.s (by intro _ _ z; cases z) hp70
      generalize upd H62 p69 (.tup (fr (total36 + (x42 * x45)))) = H72 at g73 ⊢
      have gb75 := gb65.tr g73
      have le76 := g73.le
      have cm77 := g73.fz cm67
      have b78 := bs_add total36 (x42 * x45)
      refine a_name ?_
      try dsimp only
      exact ⟨F71, _, (total36 + (x42 * x45)), _, _, rfl, gb75, cm77, (((le35.trans le57).trans le66).trans le76), ⟨_, rfl, (SqT.of e74)⟩, by exact ⟨by rw [q0]; exact (wgtZ_snoc (zip_at hx43 hx46)).symm, by omega⟩⟩
    · rintro σ' H79 ⟨F80, v_total84, total84, o85, o86, rfl, gb81, cm82, le83, hr87, ⟨q0, q1⟩⟩
      obtain ⟨a88, rfl, sq89⟩ := hr87
      have hlen := Al.length (Al.mo le83 al4)
      have hlen2 := Al.length (Al.mo le83 al8)
      try dsimp only
      rw [hlen, hlen2, zip_all] at q0
      have hmm := Nat.min_le_left weights.length numbers.length
      refine a_ret ?_
      refine a_var rfl ?_
      have hval : (total84 : Rat) = (wgtZ (weights.zip numbers)) := by exact q0
      have rp90 : (rFr K) F80 (V.ref a88) (total84) := ⟨_, rfl, sq89⟩
      replace rp90 := Eq.mp (congrArg ((rFr K) F80 (V.ref a88)) hval) rp90
      exact k _ _ _ (Gr.of gb81 cm82) rp90 (by rw [← hval]; rw [hlen, hlen2] at q1; omega)
def sp_column (K : PySem.W.Frag) : Sp := fun vs H Q _ => Ex7 fun (F : Hp) (v_rows : V) (v_prices : V) (v_unknown : V) (rows : (List ((List (Str × Rat)) × Str × Rat × Int × Int))) (prices : (List Rat)) (unknown : Str) => Cj7 (vs = [v_rows, v_prices, v_unknown]) (Same F H) ((rL K (r5 K (rD (rFr K)) rS (rFr K) rI rI)) F v_rows rows) ((rL K (rFr K)) F v_prices prices) (rS F v_unknown unknown) (rows.length ≤ 11 ∧ prices.length ≤ 11 ∧ (∀ q ∈ prices, bs q ≤ 320) ∧ ∀ r ∈ rows, ∀ x y, gtd r.1 x = some y → bs y ≤ 10) (∀ (v : V) (F' H' : Hp), Gr F H F' H' → (rFr K) F' v (colR rows prices unknown) → (bs (colR rows prices unknown) ≤ 3700) → Q v H')
set_option linter.unusedVariables false in
theorem ok_column (T : Tx K mg) : FnOk P w K mg base CX0 5 T.a_column T.d_column ["rows", "prices", "unknown"] (sp_column K) := by
  refine T.F_column.ok sc_column (fun vs H Q E h => ?_) (fun cdv A outer s H vs Q E hr h => ?_)
  · obtain ⟨F, v_rows, v_prices, v_unknown, rows, prices, unknown, rfl, _⟩ := h
    rfl
  · obtain ⟨F, v_rows, v_prices, v_unknown, rows, prices, unknown, rfl, wd, r_rows, r_prices, r_unknown, hpre, k⟩ := h
    have hu := hu_of hr
    have gb := Gr0.refl wd
    have cm := Fz.refl F
    obtain ⟨a1, vs2, rfl, sq3, al4⟩ := r_rows
    obtain ⟨a5, vs6, rfl, sq7, al8⟩ := r_prices
    obtain rfl : v_unknown = V.str unknown := r_unknown
    obtain ⟨w1, w2, w3, w4⟩ := hpre
    refine ⟨_, (pss_one (ps_ret (pe_call ((ok_weighed T).mono (by decide)) hr rfl T.m_weighed T.F_weighed.kp T.b_weighed .nil pass0 (pa_cons (pv 1) (pa_cons (pe_comp (N := ["one", "unknown"]) (ix := [none, some 2]) rfl (pi_list (pv 0)) (fun _ _ _ _ _ => (pg_name (i := 0) (show List.Nodup (["one", "unknown"] : List Str) from by decide) rfl (Or.inl rfl))) (fun _ _ _ _ _ => pts_nil) (fun _ _ _ _ _ => (pe_dget2 hu (pe_ix (show IxR _ (rIxT K) from ix_tup) (pv 0) pe_int (fun _ _ => rfl)) (pv 1) (pe_glob (v := .ref T.c_NOUGHT) rfl T.m_NOUGHT rfl) ⟨rfl, rfl, rfl, rfl⟩)) ⟨rfl, rfl, rfl, True.intro⟩) pa_nil))))), ?_⟩
    refine a_ret ?_
    refine a_call ?_
    refine a_cons ?_
    refine a_var rfl ?_
    refine a_cons ?_
    refine a_comp ?_
    refine a_ilist ?_
    refine a_var rfl ?_
    have hml11 : (rows).length ≤ 1000000 := by omega
    refine ⟨_, rfl, ⟨_, (Same.seq gb.s sq3)⟩, comp_list (K := K) (a := a1) (xs := vs2) (fun i acc H' => Ex2 fun (F9 : Hp) (ts10 : List Rat) => Cj7 (True) (Gr0 F H F9 H') (Fz (frzd F) F9) (Le F F9) (Al (rFr K) F9 acc ts10) (ts10.length ≤ i) ((ts10 = (rows.take i).map (fun r => (gtd r.1 unknown).getD 0) ∧ ∀ q ∈ ts10, bs q ≤ 10))) ?_ ?_ ?_ ?_⟩
    · exact ⟨F, [], True.intro, gb, cm, Le.refl _, (show Al (rFr K) F [] [] from True.intro), (by first | (simp; done) | (rw [List.length_append]; simp only [List.length_cons, List.length_nil]; omega) | omega), by exact ⟨rfl, fun q h => nomatch h⟩⟩
    · rintro i acc H12 _ ⟨F13, ts17, _, gb14, cm15, le16, al18, tl19, ⟨q0, q1⟩⟩
      exact (Same.seq gb14.s (Le.lst le16 sq3))
    · rintro i20 y23 acc24 H21 hi22 ⟨F25, ts29, _, gb26, cm27, le28, al30, tl31, ⟨q0, q1⟩⟩
      obtain ⟨x32, hx33, hr34⟩ := Al.get (Al.mo le28 al4) hi22
      have hil := (List.getElem?_eq_some_iff.mp hx33).1
      refine a_name ?_
      obtain ⟨a35, v37, v38, v39, v40, v41, rfl, sq36, h42, h43, h44, h45, h46⟩ := hr34
      obtain ⟨a47, kvs48, rfl, rd49, dk50, nd51⟩ := h42
      obtain rfl : v38 = V.str x32.2.1 := h43
      obtain ⟨a52, rfl, sq53⟩ := h44
      obtain rfl : v40 = V.int x32.2.2.2.1 := h45
      obtain rfl : v41 = V.int x32.2.2.2.2 := h46
      refine ⟨Wk.non (Wk.som (Wk.nil)), ?_⟩
      try dsimp only
      have u1 := w4 _ (List.mem_of_getElem? hx33)
      have u2 : bs ((gtd x32.1 unknown).getD 0) ≤ 10 := by
        cases e : gtd x32.1 unknown with
        | none => exact (by decide +kernel)
        | some y => exact u1 _ _ e
      refine a_yes ?_
      refine iteT ?_
      refine a_dget2 ?_
      refine a_op ?_
      refine a_var rfl ?_
      refine a_c ?_
      refine a_ixT (Same.tup gb26.s sq36) rfl ?_
      refine ⟨_, rfl, .inl ⟨_, (Same.rd gb26.s rd49)⟩, ?_⟩
      refine a_var rfl ?_
      refine a_c ?_
      obtain ⟨o56, hg57, h55⟩ := dgetD (A := (rFr K)) (F := F25) (d := 0) unknown (Same.rd gb26.s rd49) dk50 ⟨_, rfl, (Le.tup le28 (.inr T.t_NOUGHT))⟩
      refine ⟨o56, hg57, ?_⟩
      generalize o56.getD (V.ref T.c_NOUGHT) = v54 at h55 ⊢
      obtain ⟨a58, rfl, sq59⟩ := h55
      refine ⟨by rw [Al.length al30]; have := sizeLine_big; omega, ?_⟩
      exact ⟨F25, (ts29 ++ [((gtd x32.1 unknown).getD 0)]), True.intro, gb26, cm27, le28, (Al.snoc al30 ⟨_, rfl, sq59⟩), (by first | (simp; done) | (rw [List.length_append]; simp only [List.length_cons, List.length_nil]; omega) | omega), by exact ⟨by rw [q0]; exact (map_take_succ _ hx33).symm, fun q h => (List.mem_append.mp h).elim (q1 q) fun z => by rw [List.mem_singleton.mp z]; exact u2⟩⟩
    · rintro acc61 H60 ⟨F62, ts66, _, gb63, cm64, le65, al67, tl68, ⟨q0, q1⟩⟩
      have hlen := Al.length (Al.mo le65 al4)
      refine ⟨(by rw [Al.length al67]; have := sizeLine_big; omega), fun p69 hp70 => ?_⟩
      obtain ⟨F71, g73, e74⟩ := al2 (o := (.lst acc61)) gb63.s (by intro _ _ z; cases z) hp70
      generalize upd H60 p69 (.lst acc61) = H72 at g73 ⊢
      have gb75 := gb63.tr g73
      have le76 := g73.le
      have cm77 := g73.fz cm64
      rw [hlen, List.take_length] at q0
      refine a_nil ?_
      refine ⟨F71, _, _, prices, ts66, rfl, gb75.s, ⟨_, _, rfl, (Le.lst (le65.trans le76) sq7), (Al.mo (le65.trans le76) al8)⟩, ⟨_, _, rfl, (SqL.of e74), (Al.mo le76 al67)⟩, (by exact ⟨w2, by omega, w3, q1⟩), ?_⟩
      rintro v78 F79 H80  g82 hr83 hp84
      have gb85 := gb75.tr g82
      have le86 := g82.le
      have cm87 := g82.fz cm77
      obtain ⟨a88, rfl, sq89⟩ := hr83
      have u9 := hp84
      have hval : ((wgtZ (prices.zip ts66)) : Rat) = (colR rows prices unknown) := by rw [q0]; rfl
      have rp90 : (rFr K) F79 (V.ref a88) ((wgtZ (prices.zip ts66))) := ⟨_, rfl, sq89⟩
      replace rp90 := Eq.mp (congrArg ((rFr K) F79 (V.ref a88)) hval) rp90
      exact k _ _ _ (Gr.of gb85 cm87) rp90 (by rw [← hval]; exact u9)
def sp_signs_good (K : PySem.W.Frag) : Sp := fun vs H Q _ => Ex5 fun (F : Hp) (v_rows : V) (v_prices : V) (rows : (List ((List (Str × Rat)) × Str × Rat × Int × Int))) (prices : (List Rat)) => Cj6 (vs = [v_rows, v_prices]) (Same F H) ((rL K (r5 K (rD (rFr K)) rS (rFr K) rI rI)) F v_rows rows) ((rL K (rFr K)) F v_prices prices) ((∀ q ∈ prices, bs q ≤ 320)) (∀ (v : V) (F' H' : Hp), Gr F H F' H' → rB F' v ((rows.zip prices).all signB) → Q v H')
set_option linter.unusedVariables false in
theorem ok_signs_good (T : Tx K mg) : FnOk P w K mg base CX0 4 T.a_signs_good T.d_signs_good ["rows", "prices"] (sp_signs_good K) := by
  refine T.F_signs_good.ok sc_signs_good (fun vs H Q E h => ?_) (fun cdv A outer s H vs Q E hr h => ?_)
  · obtain ⟨F, v_rows, v_prices, rows, prices, rfl, _⟩ := h
    rfl
  · obtain ⟨F, v_rows, v_prices, rows, prices, rfl, wd, r_rows, r_prices, hpre, k⟩ := h
    have hu := hu_of hr
    have gb := Gr0.refl wd
    have cm := Fz.refl F
    obtain ⟨a1, vs2, rfl, sq3, al4⟩ := r_rows
    obtain ⟨a5, vs6, rfl, sq7, al8⟩ := r_prices
    refine ⟨_, (ZSs.h (zss_cons (ps_for PassesOwn.never rfl (pi_zip rfl T.z_zip (pa_cons (pv 0) (pa_cons (pv 1) pa_nil))) (pg_tup rfl (pgs_cons (pg_name (i := 2) sc_signs_good.nd rfl (Or.inl rfl)) (pgs_cons (pg_name (i := 3) sc_signs_good.nd rfl (Or.inl rfl)) pgs_nil))) (ZSs.h (zss_cons (ps_if (PW.pt (pw_and (pt_cmpR op_eq (pe_ix ix_tup (pv 2) pe_int (fun _ _ => rfl)) pe_str (nomark _)) (pw_and1 (pt_val (pe_call ((ok_under T).mono (by decide)) hr rfl T.m_under T.F_under.kp T.b_under .nil pass0 (pa_cons (pv 3) (pa_cons (pe_glob (v := .ref T.c_NOUGHT) rfl T.m_NOUGHT rfl) pa_nil))))))) (pss_one (ps_ret pe_bl)) pss_nil)
          (zss_one (ps_if (PW.pt (pw_and (pt_cmpR op_eq (pe_ix ix_tup (pv 2) pe_int (fun _ _ => rfl)) pe_str (nomark _)) (pw_and1 (pt_val (pe_call ((ok_under T).mono (by decide)) hr rfl T.m_under T.F_under.kp T.b_under .nil pass0 (pa_cons (pe_glob (v := .ref T.c_NOUGHT) rfl T.m_NOUGHT rfl) (pa_cons (pv 3) pa_nil))))))) (pss_one (ps_ret pe_bl)) pss_nil)))))
          (zss_one (ps_ret pe_bl)))), ?_⟩
    refine a_seq ?_
    refine a_for ?_
    refine a_izip ?_
    refine a_cons ?_
    refine a_var rfl ?_
    refine a_cons ?_
    refine a_var rfl ?_
    refine a_nil ?_
    refine ⟨_, _, rfl, ⟨_, (Same.seq gb.s sq3)⟩, ⟨_, (Same.seq gb.s sq7)⟩, for_zip (K := K) (a := a1) (b := a5) (xs := vs2) (ys := vs6) (fun i σ' H' => Ex3 fun (F9 : Hp) (o10 : Option V) (o11 : Option V) => Cj5 (σ' = [some (V.ref a1), some (V.ref a5), o10, o11]) (Gr0 F H F9 H') (Fz (frzd F) F9) (Le F F9) ((((rows.zip prices).take i).all signB = true))) ?_ ?_ ?_ ?_⟩
    · exact ⟨F, _, _, rfl, gb, cm, Le.refl _, by rfl⟩
    · rintro i σ' H12 _ ⟨F13, o17, o18, rfl, gb14, cm15, le16, q0⟩
      exact ⟨(Same.seq gb14.s (Le.lst le16 sq3)), (Same.seq gb14.s (Le.lst le16 sq7))⟩
    · rintro i19 y23 z24 σ' H20 p25 hi21 hj22 ⟨F27, o31, o32, rfl, gb28, cm29, le30, q0⟩ hp26
      obtain ⟨x33, hx34, hr35⟩ := Al.get (Al.mo le30 al4) hi21
      obtain ⟨x36, hx37, hr38⟩ := Al.get (Al.mo le30 al8) hj22
      obtain ⟨a43, v45, v46, v47, v48, v49, rfl, sq44, h50, h51, h52, h53, h54⟩ := hr35
      obtain ⟨a55, kvs56, rfl, rd57, dk58, nd59⟩ := h50
      obtain rfl : v46 = V.str x33.2.1 := h51
      obtain ⟨a60, rfl, sq61⟩ := h52
      obtain rfl : v48 = V.int x33.2.2.2.1 := h53
      obtain rfl : v49 = V.int x33.2.2.2.2 := h54
      obtain ⟨a62, rfl, sq63⟩ := hr38
      refine it2 (K := K) gb28.s hp26 (fun F39 H40 g41 e42 => ?_)
      have gb64 := gb28.tr g41
      have le65 := g41.le
      have cm66 := g41.fz cm29
      try dsimp only
      have u1 := hpre _ (List.mem_of_getElem? hx37)
      have hz := zip_at hx34 hx37
      have b0 := bs_zero
      refine a_seq ?_
      refine a_if ?_
      refine a_and ?_
      refine a_test ?_
      refine a_op ?_
      refine a_op ?_
      refine a_var rfl ?_
      refine a_c ?_
      refine a_ixT (Same.tup gb64.s (Le.tup le65 sq44)) rfl ?_
      refine a_c ?_
      have ln67 : ("least" : Str).length = 5 := by decide +kernel
      refine a_eqS ?_
      refine a_bl ?_
      refine iteD (fun c68 => ?_) (fun c68 => ?_)
      · refine a_tB ?_
        refine a_call ?_
        refine a_cons ?_
        refine a_var rfl ?_
        refine a_cons ?_
        refine a_c ?_
        refine a_nil ?_
        refine ⟨_, _, x36, 0, rfl, (Same.tup gb64.s (Le.tup le65 sq63)), (Same.tup gb64.s (Le.tup (le30.trans le65) (.inr T.t_NOUGHT))), sm_of (by walk_at "o"), sm_of (by walk_at "o"), ?_⟩
        refine a_bl ?_
        refine iteD (fun c69 => ?_) (fun c69 => ?_)
        · refine a_ret ?_
          refine a_c ?_
          have hval : (false : Bool) = ((rows.zip prices).all signB) := by exact (all_no hz (by unfold signB; simp_all)).symm
          have rp70 : rB F39 (V.bl false) (false) := rfl
          replace rp70 := Eq.mp (congrArg (rB F39 (V.bl false)) hval) rp70
          exact k _ _ _ (Gr.of gb64 cm66) rp70
        · refine a_next ?_
          try dsimp only
          refine a_if ?_
          refine a_and ?_
          refine a_test ?_
          refine a_op ?_
          refine a_op ?_
          refine a_var rfl ?_
          refine a_c ?_
          refine a_ixT (Same.tup gb64.s (Le.tup le65 sq44)) rfl ?_
          refine a_c ?_
          have ln71 : ("most" : Str).length = 4 := by decide +kernel
          refine a_eqS ?_
          refine a_bl ?_
          refine iteD (fun c72 => ?_) (fun c72 => ?_)
          · refine a_tB ?_
            refine a_call ?_
            refine a_cons ?_
            refine a_c ?_
            refine a_cons ?_
            refine a_var rfl ?_
            refine a_nil ?_
            refine ⟨_, _, 0, x36, rfl, (Same.tup gb64.s (Le.tup (le30.trans le65) (.inr T.t_NOUGHT))), (Same.tup gb64.s (Le.tup le65 sq63)), sm_of (by walk_at "o"), sm_of (by walk_at "o"), ?_⟩
            refine a_bl ?_
            refine iteD (fun c73 => ?_) (fun c73 => ?_)
            · refine a_ret ?_
              refine a_c ?_
              have hval : (false : Bool) = ((rows.zip prices).all signB) := by exact (all_no hz (by unfold signB; simp_all)).symm
              have rp74 : rB F39 (V.bl false) (false) := rfl
              replace rp74 := Eq.mp (congrArg (rB F39 (V.bl false)) hval) rp74
              exact k _ _ _ (Gr.of gb64 cm66) rp74
            · refine a_next ?_
              try dsimp only
              exact ⟨F39, _, _, rfl, gb64, cm66, (le30.trans le65), by exact all_yes hz (by unfold signB; simp_all) q0⟩
          · refine iteF ?_
            refine a_next ?_
            try dsimp only
            exact ⟨F39, _, _, rfl, gb64, cm66, (le30.trans le65), by exact all_yes hz (by unfold signB; simp_all) q0⟩
      · refine iteF ?_
        refine a_next ?_
        try dsimp only
        refine a_if ?_
        refine a_and ?_
        refine a_test ?_
        refine a_op ?_
        refine a_op ?_
        refine a_var rfl ?_
        refine a_c ?_
        refine a_ixT (Same.tup gb64.s (Le.tup le65 sq44)) rfl ?_
        refine a_c ?_
        have ln75 : ("most" : Str).length = 4 := by decide +kernel
        refine a_eqS ?_
        refine a_bl ?_
        refine iteD (fun c76 => ?_) (fun c76 => ?_)
        · refine a_tB ?_
          refine a_call ?_
          refine a_cons ?_
          refine a_c ?_
          refine a_cons ?_
          refine a_var rfl ?_
          refine a_nil ?_
          refine ⟨_, _, 0, x36, rfl, (Same.tup gb64.s (Le.tup (le30.trans le65) (.inr T.t_NOUGHT))), (Same.tup gb64.s (Le.tup le65 sq63)), sm_of (by walk_at "o"), sm_of (by walk_at "o"), ?_⟩
          refine a_bl ?_
          refine iteD (fun c77 => ?_) (fun c77 => ?_)
          · refine a_ret ?_
            refine a_c ?_
            have hval : (false : Bool) = ((rows.zip prices).all signB) := by exact (all_no hz (by unfold signB; simp_all)).symm
            have rp78 : rB F39 (V.bl false) (false) := rfl
            replace rp78 := Eq.mp (congrArg (rB F39 (V.bl false)) hval) rp78
            exact k _ _ _ (Gr.of gb64 cm66) rp78
          · refine a_next ?_
            try dsimp only
            exact ⟨F39, _, _, rfl, gb64, cm66, (le30.trans le65), by exact all_yes hz (by unfold signB; simp_all) q0⟩
        · refine iteF ?_
          refine a_next ?_
          try dsimp only
          exact ⟨F39, _, _, rfl, gb64, cm66, (le30.trans le65), by exact all_yes hz (by unfold signB; simp_all) q0⟩
    · rintro σ' H79 ⟨F80, o84, o85, rfl, gb81, cm82, le83, q0⟩
      have hlen := Al.length (Al.mo le83 al4)
      have hlen2 := Al.length (Al.mo le83 al8)
      try dsimp only
      rw [hlen, hlen2, zip_all] at q0
      refine a_ret ?_
      refine a_c ?_
      have hval : (true : Bool) = ((rows.zip prices).all signB) := by exact q0.symm
      have rp86 : rB F80 (V.bl true) (true) := rfl
      replace rp86 := Eq.mp (congrArg (rB F80 (V.bl true)) hval) rp86
      exact k _ _ _ (Gr.of gb81 cm82) rp86
def sp_counted (K : PySem.W.Frag) : Sp := fun vs H Q _ => Ex9 fun (F : Hp) (v_settled : V) (v_shares : V) (v_goal : V) (v_thing : V) (settled : (List ((Int ⊕ Str) × Rat))) (shares : (List Rat)) (goal : (Int ⊕ Str)) (thing : Int) => Cj8 (vs = [v_settled, v_shares, v_goal, v_thing]) (Same F H) ((rL K (r2 K rU (rFr K))) F v_settled settled) ((rL K (rFr K)) F v_shares shares) (rU F v_goal goal) (rI F v_thing thing) (settled.length ≤ 10 ∧ shares.length ≤ 10 ∧ ∀ s ∈ shares, bs s ≤ 20) (∀ (v : V) (F' H' : Hp), Gr F H F' H' → (rFr K) F' v (cntR settled shares goal (Sum.inl thing)) → (bs (cntR settled shares goal (Sum.inl thing)) ≤ 300) → Q v H')
set_option linter.unusedVariables false in
theorem ok_counted (T : Tx K mg) : FnOk P w K mg base CX0 4 T.a_counted T.d_counted ["settled", "shares", "goal", "thing"] (sp_counted K) := by
  refine T.F_counted.ok sc_counted (fun vs H Q E h => ?_) (fun cdv A outer s H vs Q E hr h => ?_)
  · obtain ⟨F, v_settled, v_shares, v_goal, v_thing, settled, shares, goal, thing, rfl, _⟩ := h
    rfl
  · obtain ⟨F, v_settled, v_shares, v_goal, v_thing, settled, shares, goal, thing, rfl, wd, r_settled, r_shares, r_goal, r_thing, hpre, k⟩ := h
    have hu := hu_of hr
    have gb := Gr0.refl wd
    have cm := Fz.refl F
    obtain ⟨a1, vs2, rfl, sq3, al4⟩ := r_settled
    obtain ⟨a5, vs6, rfl, sq7, al8⟩ := r_shares
    obtain rfl : v_goal = V.u goal := r_goal
    obtain rfl : v_thing = V.int thing := r_thing
    obtain ⟨w1, w2, w3⟩ := hpre
    refine ⟨_, (ZSs.h (zss_cons (ps_set (i := 4) sc_counted.nd rfl (Or.inl rfl) (pe_ifExp (pt_cmpR op_eq (pv 3) (pv 2) (nomark _)) (pe_tup (pa_cons pe_int (pa_cons pe_int pa_nil))) (pe_glob (v := .ref T.c_NOUGHT) rfl T.m_NOUGHT rfl)))
          (zss_cons (ps_for PassesOwn.never rfl (pi_zip rfl T.z_zip (pa_cons (pv 0) (pa_cons (pv 1) pa_nil))) (pg_tup rfl (pgs_cons (pg_name (i := 5) sc_counted.nd rfl (Or.inl rfl)) (pgs_cons (pg_name (i := 6) sc_counted.nd rfl (Or.inl rfl)) pgs_nil))) (pss_one (ps_if (pt_cmpR op_eq (pe_ix ix_tup (pv 5) pe_int (fun _ _ => rfl)) (pv 3) (nomark _)) (pss_one (ps_set (i := 4) sc_counted.nd rfl (Or.inl rfl) (pe_call ((ok_plus T).mono (by decide)) hr rfl T.m_plus T.F_plus.kp T.b_plus .nil pass0 (pa_cons (pv 4) (pa_cons (pv 6) pa_nil))))) pss_nil)))
          (zss_one (ps_ret (pv 4)))))), ?_⟩
    refine a_seqM (fun σ' H' => Ex3 fun (F9 : Hp) (v_count10 : V) (count10 : Rat) => Cj6 (σ' = [some (V.ref a1), some (V.ref a5), some (V.u goal), some (V.int thing), some v_count10, none, none]) (Gr0 F H F9 H') (Fz (frzd F) F9) (Le F F9) ((rFr K) F9 v_count10 count10) ((count10 = (if Sum.inl thing = goal then 1 else 0) ∧ bs count10 ≤ 1))) (fun R hR => ?_) ?_
    · refine a_asg ?_
      refine a_ifE ?_
      refine a_test ?_
      refine a_op ?_
      refine a_var rfl ?_
      refine a_var rfl ?_
      refine a_eqIU ?_
      refine a_bl ?_
      refine iteD (fun c11 => ?_) (fun c11 => ?_)
      · refine a_tup ?_
        refine a_cons ?_
        refine a_c ?_
        refine a_cons ?_
        refine a_c ?_
        refine a_nil ?_
        refine ⟨by show 2 ≤ sizeLine; decide, fun p12 hp13 => ?_⟩
        obtain ⟨F14, g16, e17⟩ := al2 (o := (.tup [V.int 1, V.int 1])) gb.s (by intro _ _ z; cases z) hp13
        generalize upd H p12 (.tup [V.int 1, V.int 1]) = H15 at g16 ⊢
        have gb18 := gb.tr g16
        have le19 := g16.le
        have cm20 := g16.fz cm
        have sq21 : SqT K F14 p12 (fr ((1 : Int) : Rat)) := by rw [fr_int]; exact SqT.of e17
        refine a_name ?_
        try dsimp only
        exact hR _ _ ⟨F14, _, ((1 : Int) : Rat), rfl, gb18, cm20, le19, ⟨_, rfl, sq21⟩, by first | (rw [if_pos (by assumption)]; exact ⟨by decide +kernel, by decide +kernel⟩) | (rw [if_neg (by assumption)]; exact ⟨by decide +kernel, by decide +kernel⟩)⟩
      · refine a_c ?_
        refine a_name ?_
        try dsimp only
        exact hR _ _ ⟨F, _, 0, rfl, gb, cm, Le.refl _, ⟨_, rfl, (.inr T.t_NOUGHT)⟩, by first | (rw [if_pos (by assumption)]; exact ⟨by decide +kernel, by decide +kernel⟩) | (rw [if_neg (by assumption)]; exact ⟨by decide +kernel, by decide +kernel⟩)⟩
    · rintro σ' H22 ⟨F23, v_count27, count27, rfl, gb24, cm25, le26, hr28, ⟨e0, e1⟩⟩
      obtain ⟨a29, rfl, sq30⟩ := hr28
      refine a_seq ?_
      refine a_for ?_
      refine a_izip ?_
      refine a_cons ?_
      refine a_var rfl ?_
      refine a_cons ?_
      refine a_var rfl ?_
      refine a_nil ?_
      refine ⟨_, _, rfl, ⟨_, (Same.seq gb24.s (Le.lst le26 sq3))⟩, ⟨_, (Same.seq gb24.s (Le.lst le26 sq7))⟩, for_zip (K := K) (a := a1) (b := a5) (xs := vs2) (ys := vs6) (fun i σ' H' => Ex5 fun (F31 : Hp) (v_count32 : V) (count32 : Rat) (o33 : Option V) (o34 : Option V) => Cj6 (σ' = [some (V.ref a1), some (V.ref a5), some (V.u goal), some (V.int thing), some v_count32, o33, o34]) (Gr0 F H F31 H') (Fz (frzd F) F31) (Le F23 F31) ((rFr K) F31 v_count32 count32) ((count32 = (if Sum.inl thing = goal then 1 else 0) + cntZ (Sum.inl thing) ((settled.zip shares).take i) ∧ bs count32 ≤ 1 + 21 * i))) ?_ ?_ ?_ ?_⟩
      · exact ⟨F23, _, count27, _, _, rfl, gb24, cm25, Le.refl _, ⟨_, rfl, sq30⟩, by exact ⟨by rw [e0]; exact (Rat.add_zero _).symm, by omega⟩⟩
      · rintro i σ' H35 _ ⟨F36, v_count40, count40, o41, o42, rfl, gb37, cm38, le39, hr43, ⟨q0, q1⟩⟩
        obtain ⟨a44, rfl, sq45⟩ := hr43
        exact ⟨(Same.seq gb37.s (Le.lst (le26.trans le39) sq3)), (Same.seq gb37.s (Le.lst (le26.trans le39) sq7))⟩
      · rintro i46 y50 z51 σ' H47 p52 hi48 hj49 ⟨F54, v_count58, count58, o59, o60, rfl, gb55, cm56, le57, hr61, ⟨q0, q1⟩⟩ hp53
        obtain ⟨a62, rfl, sq63⟩ := hr61
        obtain ⟨x64, hx65, hr66⟩ := Al.get (Al.mo (le26.trans le57) al4) hi48
        obtain ⟨x67, hx68, hr69⟩ := Al.get (Al.mo (le26.trans le57) al8) hj49
        obtain ⟨a74, v76, v77, rfl, sq75, h78, h79⟩ := hr66
        obtain rfl : v76 = V.u x64.1 := h78
        obtain ⟨a80, rfl, sq81⟩ := h79
        obtain ⟨a82, rfl, sq83⟩ := hr69
        refine it2 (K := K) gb55.s hp53 (fun F70 H71 g72 e73 => ?_)
        have gb84 := gb55.tr g72
        have le85 := g72.le
        have cm86 := g72.fz cm56
        try dsimp only
        have u1 := w3 _ (List.mem_of_getElem? hx68)
        have hz := zip_at hx65 hx68
        have u3 := (List.getElem?_eq_some_iff.mp hx65).1
        refine a_if ?_
        refine a_test ?_
        refine a_op ?_
        refine a_op ?_
        refine a_var rfl ?_
        refine a_c ?_
        refine a_ixT (Same.tup gb84.s (Le.tup le85 sq75)) rfl ?_
        refine a_var rfl ?_
        refine a_eqUI ?_
        refine a_bl ?_
        refine iteD (fun c87 => ?_) (fun c87 => ?_)
        · refine a_asg ?_
          refine a_call ?_
          refine a_cons ?_
          refine a_var rfl ?_
          refine a_cons ?_
          refine a_var rfl ?_
          refine a_nil ?_
          refine ⟨_, _, count58, x67, rfl, (Same.tup gb84.s (Le.tup le85 sq63)), (Same.tup gb84.s (Le.tup le85 sq83)), sm_of (by walk_at "o"), sm_of (by walk_at "o"), fun p88 hp89 => ?_⟩
          obtain ⟨F90, g92, e93⟩ := al2 (o := (.tup (fr (count58 + x67)))) gb84.s (by intro _ _ z; cases z) hp89
          generalize upd H71 p88 (.tup (fr (count58 + x67))) = H91 at g92 ⊢
          have gb94 := gb84.tr g92
          have le95 := g92.le
          have cm96 := g92.fz cm86
          have b97 := bs_add count58 x67
          refine a_name ?_
          try dsimp only
          exact ⟨F90, _, (count58 + x67), _, _, rfl, gb94, cm96, ((le57.trans le85).trans le95), ⟨_, rfl, (SqT.of e93)⟩, by first | exact ⟨by rw [cnt_yes hz (by assumption), q0, Rat.add_assoc], by omega⟩ | exact ⟨by rw [cnt_no hz (by assumption), q0], by omega⟩⟩
        · refine a_next ?_
          try dsimp only
          exact ⟨F70, _, count58, _, _, rfl, gb84, cm86, (le57.trans le85), ⟨_, rfl, (Le.tup le85 sq63)⟩, by first | exact ⟨by rw [cnt_yes hz (by assumption), q0, Rat.add_assoc], by omega⟩ | exact ⟨by rw [cnt_no hz (by assumption), q0], by omega⟩⟩
      · rintro σ' H98 ⟨F99, v_count103, count103, o104, o105, rfl, gb100, cm101, le102, hr106, ⟨q0, q1⟩⟩
        obtain ⟨a107, rfl, sq108⟩ := hr106
        have hlen := Al.length (Al.mo (le26.trans le102) al4)
        have hlen2 := Al.length (Al.mo (le26.trans le102) al8)
        try dsimp only
        rw [hlen, hlen2, zip_all] at q0
        have hmm := Nat.min_le_left settled.length shares.length
        rw [hlen, hlen2] at q1
        refine a_ret ?_
        refine a_var rfl ?_
        have hval : (count103 : Rat) = (cntR settled shares goal (Sum.inl thing)) := by exact q0
        have rp109 : (rFr K) F99 (V.ref a107) (count103) := ⟨_, rfl, sq108⟩
        replace rp109 := Eq.mp (congrArg ((rFr K) F99 (V.ref a107)) hval) rp109
        exact k _ _ _ (Gr.of gb100 cm101) rp109 (by rw [← hval]; omega)
def sp_counted_s (K : PySem.W.Frag) : Sp := fun vs H Q _ => Ex9 fun (F : Hp) (v_settled : V) (v_shares : V) (v_goal : V) (v_thing : V) (settled : (List ((Int ⊕ Str) × Rat))) (shares : (List Rat)) (goal : (Int ⊕ Str)) (thing : Str) => Cj8 (vs = [v_settled, v_shares, v_goal, v_thing]) (Same F H) ((rL K (r2 K rU (rFr K))) F v_settled settled) ((rL K (rFr K)) F v_shares shares) (rU F v_goal goal) (rS F v_thing thing) (settled.length ≤ 10 ∧ shares.length ≤ 10 ∧ ∀ s ∈ shares, bs s ≤ 20) (∀ (v : V) (F' H' : Hp), Gr F H F' H' → (rFr K) F' v (cntR settled shares goal (Sum.inr thing)) → (bs (cntR settled shares goal (Sum.inr thing)) ≤ 300) → Q v H')
set_option linter.unusedVariables false in
theorem ok_counted_s (T : Tx K mg) : FnOk P w K mg base CX0 4 T.a_counted T.d_counted ["settled", "shares", "goal", "thing"] (sp_counted_s K) := by
  refine T.F_counted.ok sc_counted (fun vs H Q E h => ?_) (fun cdv A outer s H vs Q E hr h => ?_)
  · obtain ⟨F, v_settled, v_shares, v_goal, v_thing, settled, shares, goal, thing, rfl, _⟩ := h
    rfl
  · obtain ⟨F, v_settled, v_shares, v_goal, v_thing, settled, shares, goal, thing, rfl, wd, r_settled, r_shares, r_goal, r_thing, hpre, k⟩ := h
    have hu := hu_of hr
    have gb := Gr0.refl wd
    have cm := Fz.refl F
    obtain ⟨a1, vs2, rfl, sq3, al4⟩ := r_settled
    obtain ⟨a5, vs6, rfl, sq7, al8⟩ := r_shares
    obtain rfl : v_goal = V.u goal := r_goal
    obtain rfl : v_thing = V.str thing := r_thing
    obtain ⟨w1, w2, w3⟩ := hpre
    refine ⟨_, (ZSs.h (zss_cons (ps_set (i := 4) sc_counted.nd rfl (Or.inl rfl) (pe_ifExp (pt_cmpR op_eq (pv 3) (pv 2) (nomark _)) (pe_tup (pa_cons pe_int (pa_cons pe_int pa_nil))) (pe_glob (v := .ref T.c_NOUGHT) rfl T.m_NOUGHT rfl)))
          (zss_cons (ps_for PassesOwn.never rfl (pi_zip rfl T.z_zip (pa_cons (pv 0) (pa_cons (pv 1) pa_nil))) (pg_tup rfl (pgs_cons (pg_name (i := 5) sc_counted.nd rfl (Or.inl rfl)) (pgs_cons (pg_name (i := 6) sc_counted.nd rfl (Or.inl rfl)) pgs_nil))) (pss_one (ps_if (pt_cmpR op_eq (pe_ix ix_tup (pv 5) pe_int (fun _ _ => rfl)) (pv 3) (nomark _)) (pss_one (ps_set (i := 4) sc_counted.nd rfl (Or.inl rfl) (pe_call ((ok_plus T).mono (by decide)) hr rfl T.m_plus T.F_plus.kp T.b_plus .nil pass0 (pa_cons (pv 4) (pa_cons (pv 6) pa_nil))))) pss_nil)))
          (zss_one (ps_ret (pv 4)))))), ?_⟩
    refine a_seqM (fun σ' H' => Ex3 fun (F9 : Hp) (v_count10 : V) (count10 : Rat) => Cj6 (σ' = [some (V.ref a1), some (V.ref a5), some (V.u goal), some (V.str thing), some v_count10, none, none]) (Gr0 F H F9 H') (Fz (frzd F) F9) (Le F F9) ((rFr K) F9 v_count10 count10) ((count10 = (if Sum.inr thing = goal then 1 else 0) ∧ bs count10 ≤ 1))) (fun R hR => ?_) ?_
    · refine a_asg ?_
      refine a_ifE ?_
      refine a_test ?_
      refine a_op ?_
      refine a_var rfl ?_
      refine a_var rfl ?_
      refine a_eqSU ?_
      refine a_bl ?_
      refine iteD (fun c11 => ?_) (fun c11 => ?_)
      · refine a_tup ?_
        refine a_cons ?_
        refine a_c ?_
        refine a_cons ?_
        refine a_c ?_
        refine a_nil ?_
        refine ⟨by show 2 ≤ sizeLine; decide, fun p12 hp13 => ?_⟩
        obtain ⟨F14, g16, e17⟩ := al2 (o := (.tup [V.int 1, V.int 1])) gb.s (by intro _ _ z; cases z) hp13
        generalize upd H p12 (.tup [V.int 1, V.int 1]) = H15 at g16 ⊢
        have gb18 := gb.tr g16
        have le19 := g16.le
        have cm20 := g16.fz cm
        have sq21 : SqT K F14 p12 (fr ((1 : Int) : Rat)) := by rw [fr_int]; exact SqT.of e17
        refine a_name ?_
        try dsimp only
        exact hR _ _ ⟨F14, _, ((1 : Int) : Rat), rfl, gb18, cm20, le19, ⟨_, rfl, sq21⟩, by first | (rw [if_pos (by assumption)]; exact ⟨by decide +kernel, by decide +kernel⟩) | (rw [if_neg (by assumption)]; exact ⟨by decide +kernel, by decide +kernel⟩)⟩
      · refine a_c ?_
        refine a_name ?_
        try dsimp only
        exact hR _ _ ⟨F, _, 0, rfl, gb, cm, Le.refl _, ⟨_, rfl, (.inr T.t_NOUGHT)⟩, by first | (rw [if_pos (by assumption)]; exact ⟨by decide +kernel, by decide +kernel⟩) | (rw [if_neg (by assumption)]; exact ⟨by decide +kernel, by decide +kernel⟩)⟩
    · rintro σ' H22 ⟨F23, v_count27, count27, rfl, gb24, cm25, le26, hr28, ⟨e0, e1⟩⟩
      obtain ⟨a29, rfl, sq30⟩ := hr28
      refine a_seq ?_
      refine a_for ?_
      refine a_izip ?_
      refine a_cons ?_
      refine a_var rfl ?_
      refine a_cons ?_
      refine a_var rfl ?_
      refine a_nil ?_
      refine ⟨_, _, rfl, ⟨_, (Same.seq gb24.s (Le.lst le26 sq3))⟩, ⟨_, (Same.seq gb24.s (Le.lst le26 sq7))⟩, for_zip (K := K) (a := a1) (b := a5) (xs := vs2) (ys := vs6) (fun i σ' H' => Ex5 fun (F31 : Hp) (v_count32 : V) (count32 : Rat) (o33 : Option V) (o34 : Option V) => Cj6 (σ' = [some (V.ref a1), some (V.ref a5), some (V.u goal), some (V.str thing), some v_count32, o33, o34]) (Gr0 F H F31 H') (Fz (frzd F) F31) (Le F23 F31) ((rFr K) F31 v_count32 count32) ((count32 = (if Sum.inr thing = goal then 1 else 0) + cntZ (Sum.inr thing) ((settled.zip shares).take i) ∧ bs count32 ≤ 1 + 21 * i))) ?_ ?_ ?_ ?_⟩
      · exact ⟨F23, _, count27, _, _, rfl, gb24, cm25, Le.refl _, ⟨_, rfl, sq30⟩, by exact ⟨by rw [e0]; exact (Rat.add_zero _).symm, by omega⟩⟩
      · rintro i σ' H35 _ ⟨F36, v_count40, count40, o41, o42, rfl, gb37, cm38, le39, hr43, ⟨q0, q1⟩⟩
        obtain ⟨a44, rfl, sq45⟩ := hr43
        exact ⟨(Same.seq gb37.s (Le.lst (le26.trans le39) sq3)), (Same.seq gb37.s (Le.lst (le26.trans le39) sq7))⟩
      · rintro i46 y50 z51 σ' H47 p52 hi48 hj49 ⟨F54, v_count58, count58, o59, o60, rfl, gb55, cm56, le57, hr61, ⟨q0, q1⟩⟩ hp53
        obtain ⟨a62, rfl, sq63⟩ := hr61
        obtain ⟨x64, hx65, hr66⟩ := Al.get (Al.mo (le26.trans le57) al4) hi48
        obtain ⟨x67, hx68, hr69⟩ := Al.get (Al.mo (le26.trans le57) al8) hj49
        obtain ⟨a74, v76, v77, rfl, sq75, h78, h79⟩ := hr66
        obtain rfl : v76 = V.u x64.1 := h78
        obtain ⟨a80, rfl, sq81⟩ := h79
        obtain ⟨a82, rfl, sq83⟩ := hr69
        refine it2 (K := K) gb55.s hp53 (fun F70 H71 g72 e73 => ?_)
        have gb84 := gb55.tr g72
        have le85 := g72.le
        have cm86 := g72.fz cm56
        try dsimp only
        have u1 := w3 _ (List.mem_of_getElem? hx68)
        have hz := zip_at hx65 hx68
        have u3 := (List.getElem?_eq_some_iff.mp hx65).1
        refine a_if ?_
        refine a_test ?_
        refine a_op ?_
        refine a_op ?_
        refine a_var rfl ?_
        refine a_c ?_
        refine a_ixT (Same.tup gb84.s (Le.tup le85 sq75)) rfl ?_
        refine a_var rfl ?_
        refine a_eqUS ?_
        refine a_bl ?_
        refine iteD (fun c87 => ?_) (fun c87 => ?_)
        · refine a_asg ?_
          refine a_call ?_
          refine a_cons ?_
          refine a_var rfl ?_
          refine a_cons ?_
          refine a_var rfl ?_
          refine a_nil ?_
          refine ⟨_, _, count58, x67, rfl, (Same.tup gb84.s (Le.tup le85 sq63)), (Same.tup gb84.s (Le.tup le85 sq83)), sm_of (by walk_at "o"), sm_of (by walk_at "o"), fun p88 hp89 => ?_⟩
          obtain ⟨F90, g92, e93⟩ := al2 (o := (.tup (fr (count58 + x67)))) gb84.s (by intro _ _ z; cases z) hp89
          generalize upd H71 p88 (.tup (fr (count58 + x67))) = H91 at g92 ⊢
          have gb94 := gb84.tr g92
          have le95 := g92.le
          have cm96 := g92.fz cm86
          have b97 := bs_add count58 x67
          refine a_name ?_
          try dsimp only
          exact ⟨F90, _, (count58 + x67), _, _, rfl, gb94, cm96, ((le57.trans le85).trans le95), ⟨_, rfl, (SqT.of e93)⟩, by first | exact ⟨by rw [cnt_yes hz (by assumption), q0, Rat.add_assoc], by omega⟩ | exact ⟨by rw [cnt_no hz (by assumption), q0], by omega⟩⟩
        · refine a_next ?_
          try dsimp only
          exact ⟨F70, _, count58, _, _, rfl, gb84, cm86, (le57.trans le85), ⟨_, rfl, (Le.tup le85 sq63)⟩, by first | exact ⟨by rw [cnt_yes hz (by assumption), q0, Rat.add_assoc], by omega⟩ | exact ⟨by rw [cnt_no hz (by assumption), q0], by omega⟩⟩
      · rintro σ' H98 ⟨F99, v_count103, count103, o104, o105, rfl, gb100, cm101, le102, hr106, ⟨q0, q1⟩⟩
        obtain ⟨a107, rfl, sq108⟩ := hr106
        have hlen := Al.length (Al.mo (le26.trans le102) al4)
        have hlen2 := Al.length (Al.mo (le26.trans le102) al8)
        try dsimp only
        rw [hlen, hlen2, zip_all] at q0
        have hmm := Nat.min_le_left settled.length shares.length
        rw [hlen, hlen2] at q1
        refine a_ret ?_
        refine a_var rfl ?_
        have hval : (count103 : Rat) = (cntR settled shares goal (Sum.inr thing)) := by exact q0
        have rp109 : (rFr K) F99 (V.ref a107) (count103) := ⟨_, rfl, sq108⟩
        replace rp109 := Eq.mp (congrArg ((rFr K) F99 (V.ref a107)) hval) rp109
        exact k _ _ _ (Gr.of gb100 cm101) rp109 (by rw [← hval]; omega)
def sp_holds (K : PySem.W.Frag) : Sp := fun vs H Q _ => Ex11 fun (F : Hp) (v_rows : V) (v_unknowns : V) (v_settled : V) (v_goal : V) (v_paper : V) (rows : (List ((List (Str × Rat)) × Str × Rat × Int × Int))) (unknowns : (List Str)) (settled : (List ((Int ⊕ Str) × Rat))) (goal : (Int ⊕ Str)) (paper : ((List Rat) × (List Rat))) => Cj9 (vs = [v_rows, v_unknowns, v_settled, v_goal, v_paper]) (Same F H) ((rL K (r5 K (rD (rFr K)) rS (rFr K) rI rI)) F v_rows rows) ((rL K rS) F v_unknowns unknowns) ((rL K (r2 K rU (rFr K))) F v_settled settled) (rU F v_goal goal) ((r2 K (rL K (rFr K)) (rL K (rFr K))) F v_paper paper) (Ok31 rows settled paper.1 paper.2 ∧ unknowns.length ≤ 5) (∀ (v : V) (F' H' : Hp), Gr F H F' H' → rB F' v (holdsB rows unknowns settled goal paper.1 paper.2) → Q v H')
set_option linter.unusedVariables false in
theorem ok_holds (T : Tx K mg) : FnOk P w K mg base CX0 6 T.a_holds T.d_holds ["rows", "unknowns", "settled", "goal", "paper"] (sp_holds K) := by
  refine T.F_holds.ok sc_holds (fun vs H Q E h => ?_) (fun cdv A outer s H vs Q E hr h => ?_)
  · obtain ⟨F, v_rows, v_unknowns, v_settled, v_goal, v_paper, rows, unknowns, settled, goal, paper, rfl, _⟩ := h
    rfl
  · obtain ⟨F, v_rows, v_unknowns, v_settled, v_goal, v_paper, rows, unknowns, settled, goal, paper, rfl, wd, r_rows, r_unknowns, r_settled, r_goal, r_paper, hpre, k⟩ := h
    have hu := hu_of hr
    have gb := Gr0.refl wd
    have cm := Fz.refl F
    obtain ⟨a1, vs2, rfl, sq3, al4⟩ := r_rows
    obtain ⟨a5, vs6, rfl, sq7, al8⟩ := r_unknowns
    obtain ⟨a9, vs10, rfl, sq11, al12⟩ := r_settled
    obtain rfl : v_goal = V.u goal := r_goal
    obtain ⟨a13, v15, v16, rfl, sq14, h17, h18⟩ := r_paper
    obtain ⟨a19, vs20, rfl, sq21, al22⟩ := h17
    obtain ⟨a23, vs24, rfl, sq25, al26⟩ := h18
    obtain ⟨o, w1⟩ := hpre
    refine ⟨_, (ZSs.h (zss_cons (ps_set (i := 5) sc_holds.nd rfl (Or.inl rfl) (pe_ix ix_tup (pv 4) pe_int (fun _ _ => rfl)))
          (zss_cons (ps_set (i := 6) sc_holds.nd rfl (Or.inl rfl) (pe_ix ix_tup (pv 4) pe_int (fun _ _ => rfl)))
          (zss_cons (ps_if (PW.pt (pw_or (pt_cmpR op_ne (pe_callB call_len_seq rfl T.z_len rfl (pa_cons (pv 5) pa_nil)) (pe_callB call_len_seq rfl T.z_len rfl (pa_cons (pv 0) pa_nil)) (nomark _)) (pw_or1 (pt_cmpR op_ne (pe_callB call_len_seq rfl T.z_len rfl (pa_cons (pv 6) pa_nil)) (pe_callB call_len_seq rfl T.z_len rfl (pa_cons (pv 2) pa_nil)) (nomark _))))) (pss_one (ps_ret pe_bl)) pss_nil)
          (zss_cons (ps_if (PW.pt (pw_or (pt_val (pe_callB (call_anyB rfl) rfl T.z_any rfl (pa_cons (pe_comp (N := ["share"]) (ix := [none]) rfl (pi_list (pv 6)) (fun _ _ _ _ _ => (pg_name (i := 0) (show List.Nodup (["share"] : List Str) from by decide) rfl (Or.inl rfl))) (fun _ _ _ _ _ => pts_nil) (fun _ _ _ _ _ => (pe_call ((ok_under T).mono (by decide)) hr rfl T.m_under T.F_under.kp T.b_under .nil pass0 (pa_cons (pv 0) (pa_cons (pe_glob (v := .ref T.c_NOUGHT) rfl T.m_NOUGHT rfl) pa_nil)))) True.intro) pa_nil))) (pw_or1 (pt_not (pt_val (pe_call ((ok_signs_good T).mono (by decide)) hr rfl T.m_signs_good T.F_signs_good.kp T.b_signs_good .nil pass0 (pa_cons (pv 0) (pa_cons (pv 5) pa_nil)))))))) (pss_one (ps_ret pe_bl)) pss_nil)
          (zss_cons (ps_for PassesOwn.never rfl (pi_zip rfl T.z_zip (pa_cons (pv 0) (pa_cons (pv 5) pa_nil))) (pg_tup rfl (pgs_cons (pg_name (i := 7) sc_holds.nd rfl (Or.inl rfl)) (pgs_cons (pg_name (i := 8) sc_holds.nd rfl (Or.inl rfl)) pgs_nil))) (ZSs.h (zss_cons (ps_set (i := 9) sc_holds.nd rfl (Or.inl rfl) (pe_call ((ok_times T).mono (by decide)) hr rfl T.m_times T.F_times.kp T.b_times .nil pass0 (pa_cons (pe_tup (pa_cons (pe_ix ix_tup (pv 7) pe_int (fun _ _ => rfl)) (pa_cons pe_int pa_nil))) (pa_cons (pe_call ((ok_counted T).mono (by decide)) hr rfl T.m_counted T.F_counted.kp T.b_counted .nil pass0 (pa_cons (pv 2) (pa_cons (pv 6) (pa_cons (pv 3) (pa_cons (pe_ix ix_tup (pv 7) pe_int (fun _ _ => rfl)) pa_nil))))) pa_nil))))
          (zss_one (ps_if (PW.pt (pw_and (pt_cmpR op_ne (pe_ix ix_tup (pv 7) pe_int (fun _ _ => rfl)) (pe_glob (v := .int (0)) rfl T.m_MUST ⟨_, rfl⟩) (nomark _)) (pw_and1 (PW.pt (pw_or (pt_val (pe_call ((ok_under T).mono (by decide)) hr rfl T.m_under T.F_under.kp T.b_under .nil pass0 (pa_cons (pv 9) (pa_cons (pv 8) pa_nil)))) (pw_or1 (pt_val (pe_call ((ok_under T).mono (by decide)) hr rfl T.m_under T.F_under.kp T.b_under .nil pass0 (pa_cons (pv 8) (pa_cons (pe_call ((ok_minus T).mono (by decide)) hr rfl T.m_minus T.F_minus.kp T.b_minus .nil pass0 (pa_cons (pe_glob (v := .ref T.c_NOUGHT) rfl T.m_NOUGHT rfl) (pa_cons (pv 9) pa_nil))) pa_nil)))))))))) (pss_one (ps_ret pe_bl)) pss_nil)))))
          (zss_cons (ps_for PassesOwn.never rfl (pi_list (pv 1)) (pg_name (i := 10) sc_holds.nd rfl (Or.inl rfl)) (pss_one (ps_if (pt_val (pe_call ((ok_under T).mono (by decide)) hr rfl T.m_under T.F_under.kp T.b_under .nil pass0 (pa_cons (pe_call ((ok_counted_s T).mono (by decide)) hr rfl T.m_counted T.F_counted.kp T.b_counted .nil pass0 (pa_cons (pv 2) (pa_cons (pv 6) (pa_cons (pv 3) (pa_cons (pv 10) pa_nil))))) (pa_cons (pe_call ((ok_column T).mono (by decide)) hr rfl T.m_column T.F_column.kp T.b_column .nil pass0 (pa_cons (pv 0) (pa_cons (pv 5) (pa_cons (pv 10) pa_nil)))) pa_nil)))) (pss_one (ps_ret pe_bl)) pss_nil)))
          (zss_one (ps_ret pe_bl))))))))), ?_⟩
    have b0 := bs_zero
    refine a_seq ?_
    refine a_asg ?_
    refine a_op ?_
    refine a_var rfl ?_
    refine a_c ?_
    refine a_ixT (Same.tup gb.s sq14) rfl ?_
    refine a_name ?_
    try dsimp only
    refine a_seq ?_
    refine a_asg ?_
    refine a_op ?_
    refine a_var rfl ?_
    refine a_c ?_
    refine a_ixT (Same.tup gb.s sq14) rfl ?_
    refine a_name ?_
    try dsimp only
    refine a_seq ?_
    refine a_if ?_
    refine a_or ?_
    refine a_test ?_
    refine a_op ?_
    refine a_cb ?_
    refine a_cons ?_
    refine a_var rfl ?_
    refine a_nil ?_
    refine ⟨_, _, rfl, .inl (Same.seq gb.s sq21), ?_⟩
    rw [Al.length al22]
    refine a_cb ?_
    refine a_cons ?_
    refine a_var rfl ?_
    refine a_nil ?_
    refine ⟨_, _, rfl, .inl (Same.seq gb.s sq3), ?_⟩
    rw [Al.length al4]
    refine a_neI ?_
    refine a_bl ?_
    refine iteDN (fun c27 => ?_) (fun c27 => ?_)
    · refine iteT ?_
      refine a_ret ?_
      refine a_c ?_
      have hval : (false : Bool) = (holdsB rows unknowns settled goal paper.1 paper.2) := by first | exact holds_len1 (by assumption) | exact holds_len2 (by assumption) | exact holds_neg (by rw [← q1]; assumption) | exact holds_room hz (room_no1 (by assumption) (by assumption)) | exact holds_room hz (room_no2 (by assumption) (by assumption)) | exact holds_col hu9 (by unfold colB; rw [decide_eq_true (by assumption)]; rfl) | exact holds_sign (by simp_all)
      have rp28 : rB F (V.bl false) (false) := rfl
      replace rp28 := Eq.mp (congrArg (rB F (V.bl false)) hval) rp28
      exact k _ _ _ (Gr.of gb cm) rp28
    · refine a_test ?_
      refine a_op ?_
      refine a_cb ?_
      refine a_cons ?_
      refine a_var rfl ?_
      refine a_nil ?_
      refine ⟨_, _, rfl, .inl (Same.seq gb.s sq25), ?_⟩
      rw [Al.length al26]
      refine a_cb ?_
      refine a_cons ?_
      refine a_var rfl ?_
      refine a_nil ?_
      refine ⟨_, _, rfl, .inl (Same.seq gb.s sq11), ?_⟩
      rw [Al.length al12]
      refine a_neI ?_
      refine a_bl ?_
      refine iteDN (fun c29 => ?_) (fun c29 => ?_)
      · refine a_ret ?_
        refine a_c ?_
        have hval : (false : Bool) = (holdsB rows unknowns settled goal paper.1 paper.2) := by first | exact holds_len1 (by assumption) | exact holds_len2 (by assumption) | exact holds_neg (by rw [← q1]; assumption) | exact holds_room hz (room_no1 (by assumption) (by assumption)) | exact holds_room hz (room_no2 (by assumption) (by assumption)) | exact holds_col hu9 (by unfold colB; rw [decide_eq_true (by assumption)]; rfl) | exact holds_sign (by simp_all)
        have rp30 : rB F (V.bl false) (false) := rfl
        replace rp30 := Eq.mp (congrArg (rB F (V.bl false)) hval) rp30
        exact k _ _ _ (Gr.of gb cm) rp30
      · refine a_next ?_
        try dsimp only
        refine a_seq ?_
        refine a_if ?_
        refine a_or ?_
        refine a_tB ?_
        refine a_cb ?_
        refine a_cons ?_
        refine a_comp ?_
        refine a_ilist ?_
        refine a_var rfl ?_
        have hml33 : (paper.2).length ≤ 1000000 := by (have := o.l4; omega)
        refine ⟨_, rfl, ⟨_, (Same.seq gb.s sq25)⟩, comp_list (K := K) (a := a23) (xs := vs24) (fun i acc H' => Ex2 fun (F31 : Hp) (ts32 : List Bool) => Cj7 (True) (Gr0 F H F31 H') (Fz (frzd F) F31) (Le F F31) (Al rB F31 acc ts32) (ts32.length ≤ i) ((ts32 = (paper.2.take i).map (fun s => decide (s < 0))))) ?_ ?_ ?_ ?_⟩
        · exact ⟨F, [], True.intro, gb, cm, Le.refl _, (show Al rB F [] [] from True.intro), (by first | (simp; done) | (rw [List.length_append]; simp only [List.length_cons, List.length_nil]; omega) | omega), by rfl⟩
        · rintro i acc H34 _ ⟨F35, ts39, _, gb36, cm37, le38, al40, tl41, q1⟩
          exact (Same.seq gb36.s (Le.lst le38 sq25))
        · rintro i42 y45 acc46 H43 hi44 ⟨F47, ts51, _, gb48, cm49, le50, al52, tl53, q1⟩
          obtain ⟨x54, hx55, hr56⟩ := Al.get (Al.mo le50 al26) hi44
          have hil := (List.getElem?_eq_some_iff.mp hx55).1
          refine a_name ?_
          obtain ⟨a57, rfl, sq58⟩ := hr56
          refine ⟨Wk.non (Wk.nil), ?_⟩
          try dsimp only
          have u1 := o.s _ (List.mem_of_getElem? hx55)
          refine a_yes ?_
          refine iteT ?_
          refine a_call ?_
          refine a_cons ?_
          refine a_var rfl ?_
          refine a_cons ?_
          refine a_c ?_
          refine a_nil ?_
          refine ⟨_, _, x54, 0, rfl, (Same.tup gb48.s sq58), (Same.tup gb48.s (Le.tup le50 (.inr T.t_NOUGHT))), sm_of (by walk_at "o"), sm_of (by walk_at "o"), ?_⟩
          refine ⟨by rw [Al.length al52]; have := sizeLine_big; omega, ?_⟩
          exact ⟨F47, (ts51 ++ [(decide (x54 < 0))]), True.intro, gb48, cm49, le50, (Al.snoc al52 rfl), (by first | (simp; done) | (rw [List.length_append]; simp only [List.length_cons, List.length_nil]; omega) | omega), by rw [q1]; exact (map_take_succ _ hx55).symm⟩
        · rintro acc60 H59 ⟨F61, ts65, _, gb62, cm63, le64, al66, tl67, q1⟩
          have hlen := Al.length (Al.mo le64 al26)
          refine ⟨(by rw [Al.length al66]; have := sizeLine_big; omega), fun p68 hp69 => ?_⟩
          obtain ⟨F70, g72, e73⟩ := al2 (o := (.lst acc60)) gb62.s (by intro _ _ z; cases z) hp69
          generalize upd H59 p68 (.lst acc60) = H71 at g72 ⊢
          have gb74 := gb62.tr g72
          have le75 := g72.le
          have cm76 := g72.fz cm63
          rw [hlen, List.take_length] at q1
          refine a_nil ?_
          refine ⟨_, ts65, rfl, (by have z : SqL K _ _ _ := (Same.seq gb74.s (SqL.of e73)); rw [Al.bools (Al.mo le75 al66)] at z; exact z), ?_⟩
          refine a_bl ?_
          refine iteB (fun c77 => ?_) (fun c77 => ?_)
          · refine iteT ?_
            refine a_ret ?_
            refine a_c ?_
            have hval : (false : Bool) = (holdsB rows unknowns settled goal paper.1 paper.2) := by first | exact holds_len1 (by assumption) | exact holds_len2 (by assumption) | exact holds_neg (by rw [← q1]; assumption) | exact holds_room hz (room_no1 (by assumption) (by assumption)) | exact holds_room hz (room_no2 (by assumption) (by assumption)) | exact holds_col hu9 (by unfold colB; rw [decide_eq_true (by assumption)]; rfl) | exact holds_sign (by simp_all)
            have rp78 : rB F70 (V.bl false) (false) := rfl
            replace rp78 := Eq.mp (congrArg (rB F70 (V.bl false)) hval) rp78
            exact k _ _ _ (Gr.of gb74 cm76) rp78
          · refine a_not ?_
            refine a_tB ?_
            refine a_call ?_
            refine a_cons ?_
            refine a_var rfl ?_
            refine a_cons ?_
            refine a_var rfl ?_
            refine a_nil ?_
            refine ⟨F70, _, _, rows, paper.1, rfl, gb74.s, ⟨_, _, rfl, (Le.lst (le64.trans le75) sq3), (Al.mo (le64.trans le75) al4)⟩, ⟨_, _, rfl, (Le.lst (le64.trans le75) sq21), (Al.mo (le64.trans le75) al22)⟩, (by exact o.p), ?_⟩
            rintro v79 F80 H81  g83 hr84 
            have gb86 := gb74.tr g83
            have le87 := g83.le
            have cm88 := g83.fz cm76
            obtain rfl : v79 = V.bl ((rows.zip paper.1).all signB) := hr84
            refine a_bl ?_
            refine iteNB (fun c89 => ?_) (fun c89 => ?_)
            · refine a_ret ?_
              refine a_c ?_
              have hval : (false : Bool) = (holdsB rows unknowns settled goal paper.1 paper.2) := by first | exact holds_len1 (by assumption) | exact holds_len2 (by assumption) | exact holds_neg (by rw [← q1]; assumption) | exact holds_room hz (room_no1 (by assumption) (by assumption)) | exact holds_room hz (room_no2 (by assumption) (by assumption)) | exact holds_col hu9 (by unfold colB; rw [decide_eq_true (by assumption)]; rfl) | exact holds_sign (by simp_all)
              have rp90 : rB F80 (V.bl false) (false) := rfl
              replace rp90 := Eq.mp (congrArg (rB F80 (V.bl false)) hval) rp90
              exact k _ _ _ (Gr.of gb86 cm88) rp90
            · refine a_next ?_
              try dsimp only
              refine a_seq ?_
              refine a_for ?_
              refine a_izip ?_
              refine a_cons ?_
              refine a_var rfl ?_
              refine a_cons ?_
              refine a_var rfl ?_
              refine a_nil ?_
              refine ⟨_, _, rfl, ⟨_, (Same.seq gb86.s (Le.lst ((le64.trans le75).trans le87) sq3))⟩, ⟨_, (Same.seq gb86.s (Le.lst ((le64.trans le75).trans le87) sq21))⟩, for_zip (K := K) (a := a1) (b := a19) (xs := vs2) (ys := vs20) (fun i σ' H' => Ex4 fun (F91 : Hp) (o92 : Option V) (o93 : Option V) (o94 : Option V) => Cj5 (σ' = [some (V.ref a1), some (V.ref a5), some (V.ref a9), some (V.u goal), some (V.ref a13), some (V.ref a19), some (V.ref a23), o93, o94, o92, none]) (Gr0 F H F91 H') (Fz (frzd F) F91) (Le F80 F91) ((((rows.zip paper.1).take i).all (roomB settled paper.2 goal) = true))) ?_ ?_ ?_ ?_⟩
              · exact ⟨F80, _, _, _, rfl, gb86, cm88, Le.refl _, by rfl⟩
              · rintro i σ' H95 _ ⟨F96, o100, o101, o102, rfl, gb97, cm98, le99, q5⟩
                exact ⟨(Same.seq gb97.s (Le.lst (((le64.trans le75).trans le87).trans le99) sq3)), (Same.seq gb97.s (Le.lst (((le64.trans le75).trans le87).trans le99) sq21))⟩
              · rintro i103 y107 z108 σ' H104 p109 hi105 hj106 ⟨F111, o115, o116, o117, rfl, gb112, cm113, le114, q5⟩ hp110
                obtain ⟨x118, hx119, hr120⟩ := Al.get (Al.mo (((le64.trans le75).trans le87).trans le114) al4) hi105
                obtain ⟨x121, hx122, hr123⟩ := Al.get (Al.mo (((le64.trans le75).trans le87).trans le114) al22) hj106
                obtain ⟨a128, v130, v131, v132, v133, v134, rfl, sq129, h135, h136, h137, h138, h139⟩ := hr120
                obtain ⟨a140, kvs141, rfl, rd142, dk143, nd144⟩ := h135
                obtain rfl : v131 = V.str x118.2.1 := h136
                obtain ⟨a145, rfl, sq146⟩ := h137
                obtain rfl : v133 = V.int x118.2.2.2.1 := h138
                obtain rfl : v134 = V.int x118.2.2.2.2 := h139
                obtain ⟨a147, rfl, sq148⟩ := hr123
                refine it2 (K := K) gb112.s hp110 (fun F124 H125 g126 e127 => ?_)
                have gb149 := gb112.tr g126
                have le150 := g126.le
                have cm151 := g126.fz cm113
                try dsimp only
                have u1 := o.p _ (List.mem_of_getElem? hx122)
                have u2 := o.r2 _ (List.mem_of_getElem? hx119)
                have u3 := bs_int (n := x118.2.2.2.2) (k := 20) (by omega) (by decide)
                have hz := zip_at hx119 hx122
                refine a_seq ?_
                refine a_asg ?_
                refine a_call ?_
                refine a_cons ?_
                refine a_tup ?_
                refine a_cons ?_
                refine a_op ?_
                refine a_var rfl ?_
                refine a_c ?_
                refine a_ixT (Same.tup gb149.s (Le.tup le150 sq129)) rfl ?_
                refine a_cons ?_
                refine a_c ?_
                refine a_nil ?_
                refine ⟨by show 2 ≤ sizeLine; decide, fun p152 hp153 => ?_⟩
                obtain ⟨F154, g156, e157⟩ := al2 (o := (.tup [V.int x118.2.2.2.2, V.int 1])) gb149.s (by intro _ _ z; cases z) hp153
                generalize upd H125 p152 (.tup [V.int x118.2.2.2.2, V.int 1]) = H155 at g156 ⊢
                have gb158 := gb149.tr g156
                have le159 := g156.le
                have cm160 := g156.fz cm151
                have sq161 : SqT K F154 p152 (fr ((x118.2.2.2.2 : Int) : Rat)) := by rw [fr_int]; exact SqT.of e157
                refine a_cons ?_
                refine a_call ?_
                refine a_cons ?_
                refine a_var rfl ?_
                refine a_cons ?_
                refine a_var rfl ?_
                refine a_cons ?_
                refine a_var rfl ?_
                refine a_cons ?_
                refine a_op ?_
                refine a_var rfl ?_
                refine a_c ?_
                refine a_ixT (Same.tup gb158.s (Le.tup (le150.trans le159) sq129)) rfl ?_
                refine a_nil ?_
                refine ⟨F154, _, _, _, _, settled, paper.2, goal, x118.2.2.2.1, rfl, gb158.s, ⟨_, _, rfl, (Le.lst (((((le64.trans le75).trans le87).trans le114).trans le150).trans le159) sq11), (Al.mo (((((le64.trans le75).trans le87).trans le114).trans le150).trans le159) al12)⟩, ⟨_, _, rfl, (Le.lst (((((le64.trans le75).trans le87).trans le114).trans le150).trans le159) sq25), (Al.mo (((((le64.trans le75).trans le87).trans le114).trans le150).trans le159) al26)⟩, rfl, rfl, (by exact ⟨by have := o.l3; omega, by have := o.l4; omega, o.s⟩), ?_⟩
                rintro v162 F163 H164  g166 hr167 hp168
                have gb169 := gb158.tr g166
                have le170 := g166.le
                have cm171 := g166.fz cm160
                obtain ⟨a172, rfl, sq173⟩ := hr167
                have u7 := hp168
                refine a_nil ?_
                refine ⟨_, _, ((x118.2.2.2.2 : Int) : Rat), (cntR settled paper.2 goal (Sum.inl x118.2.2.2.1)), rfl, (Same.tup gb169.s (Le.tup le170 sq161)), (Same.tup gb169.s sq173), sm_of (by walk_at "o"), sm_of (by walk_at "o"), fun p174 hp175 => ?_⟩
                obtain ⟨F176, g178, e179⟩ := al2 (o := (.tup (fr (((x118.2.2.2.2 : Int) : Rat) * (cntR settled paper.2 goal (Sum.inl x118.2.2.2.1)))))) gb169.s (by intro _ _ z; cases z) hp175
                generalize upd H164 p174 (.tup (fr (((x118.2.2.2.2 : Int) : Rat) * (cntR settled paper.2 goal (Sum.inl x118.2.2.2.1))))) = H177 at g178 ⊢
                have gb180 := gb169.tr g178
                have le181 := g178.le
                have cm182 := g178.fz cm171
                have b183 := bs_mul ((x118.2.2.2.2 : Int) : Rat) (cntR settled paper.2 goal (Sum.inl x118.2.2.2.1))
                refine a_name ?_
                try dsimp only
                refine a_if ?_
                refine a_and ?_
                refine a_test ?_
                refine a_op ?_
                refine a_op ?_
                refine a_var rfl ?_
                refine a_c ?_
                refine a_ixT (Same.tup gb180.s (Le.tup (((le150.trans le159).trans le170).trans le181) sq129)) rfl ?_
                refine a_c ?_
                refine a_neI ?_
                refine a_bl ?_
                refine iteDN (fun c184 => ?_) (fun c184 => ?_)
                · refine a_or ?_
                  refine a_tB ?_
                  refine a_call ?_
                  refine a_cons ?_
                  refine a_var rfl ?_
                  refine a_cons ?_
                  refine a_var rfl ?_
                  refine a_nil ?_
                  refine ⟨_, _, (((x118.2.2.2.2 : Int) : Rat) * (cntR settled paper.2 goal (Sum.inl x118.2.2.2.1))), x121, rfl, (Same.tup gb180.s (SqT.of e179)), (Same.tup gb180.s (Le.tup (((le150.trans le159).trans le170).trans le181) sq148)), sm_of (by walk_at "o"), sm_of (by walk_at "o"), ?_⟩
                  refine a_bl ?_
                  refine iteD (fun c185 => ?_) (fun c185 => ?_)
                  · refine iteT ?_
                    refine a_ret ?_
                    refine a_c ?_
                    have hval : (false : Bool) = (holdsB rows unknowns settled goal paper.1 paper.2) := by first | exact holds_len1 (by assumption) | exact holds_len2 (by assumption) | exact holds_neg (by rw [← q1]; assumption) | exact holds_room hz (room_no1 (by assumption) (by assumption)) | exact holds_room hz (room_no2 (by assumption) (by assumption)) | exact holds_col hu9 (by unfold colB; rw [decide_eq_true (by assumption)]; rfl) | exact holds_sign (by simp_all)
                    have rp186 : rB F176 (V.bl false) (false) := rfl
                    replace rp186 := Eq.mp (congrArg (rB F176 (V.bl false)) hval) rp186
                    exact k _ _ _ (Gr.of gb180 cm182) rp186
                  · refine a_tB ?_
                    refine a_call ?_
                    refine a_cons ?_
                    refine a_var rfl ?_
                    refine a_cons ?_
                    refine a_call ?_
                    refine a_cons ?_
                    refine a_c ?_
                    refine a_cons ?_
                    refine a_var rfl ?_
                    refine a_nil ?_
                    refine ⟨_, _, 0, (((x118.2.2.2.2 : Int) : Rat) * (cntR settled paper.2 goal (Sum.inl x118.2.2.2.1))), rfl, (Same.tup gb180.s (Le.tup (((((((le64.trans le75).trans le87).trans le114).trans le150).trans le159).trans le170).trans le181) (.inr T.t_NOUGHT))), (Same.tup gb180.s (SqT.of e179)), sm_of (by walk_at "o"), sm_of (by walk_at "o"), fun p187 hp188 => ?_⟩
                    obtain ⟨F189, g191, e192⟩ := al2 (o := (.tup (fr (0 - (((x118.2.2.2.2 : Int) : Rat) * (cntR settled paper.2 goal (Sum.inl x118.2.2.2.1))))))) gb180.s (by intro _ _ z; cases z) hp188
                    generalize upd H177 p187 (.tup (fr (0 - (((x118.2.2.2.2 : Int) : Rat) * (cntR settled paper.2 goal (Sum.inl x118.2.2.2.1)))))) = H190 at g191 ⊢
                    have gb193 := gb180.tr g191
                    have le194 := g191.le
                    have cm195 := g191.fz cm182
                    have b196 := bs_sub 0 (((x118.2.2.2.2 : Int) : Rat) * (cntR settled paper.2 goal (Sum.inl x118.2.2.2.1)))
                    refine a_nil ?_
                    refine ⟨_, _, x121, (0 - (((x118.2.2.2.2 : Int) : Rat) * (cntR settled paper.2 goal (Sum.inl x118.2.2.2.1)))), rfl, (Same.tup gb193.s (Le.tup ((((le150.trans le159).trans le170).trans le181).trans le194) sq148)), (Same.tup gb193.s (SqT.of e192)), sm_of (by walk_at "o"), sm_of (by walk_at "o"), ?_⟩
                    refine a_bl ?_
                    refine iteD (fun c197 => ?_) (fun c197 => ?_)
                    · refine a_ret ?_
                      refine a_c ?_
                      have hval : (false : Bool) = (holdsB rows unknowns settled goal paper.1 paper.2) := by first | exact holds_len1 (by assumption) | exact holds_len2 (by assumption) | exact holds_neg (by rw [← q1]; assumption) | exact holds_room hz (room_no1 (by assumption) (by assumption)) | exact holds_room hz (room_no2 (by assumption) (by assumption)) | exact holds_col hu9 (by unfold colB; rw [decide_eq_true (by assumption)]; rfl) | exact holds_sign (by simp_all)
                      have rp198 : rB F189 (V.bl false) (false) := rfl
                      replace rp198 := Eq.mp (congrArg (rB F189 (V.bl false)) hval) rp198
                      exact k _ _ _ (Gr.of gb193 cm195) rp198
                    · refine a_next ?_
                      try dsimp only
                      exact ⟨F189, _, _, _, rfl, gb193, cm195, (((((le114.trans le150).trans le159).trans le170).trans le181).trans le194), by first | exact all_yes hz (room_yes0 (by assumption)) q5 | exact all_yes hz (room_yes1 (by assumption) (by assumption)) q5⟩
                · refine iteF ?_
                  refine a_next ?_
                  try dsimp only
                  exact ⟨F176, _, _, _, rfl, gb180, cm182, ((((le114.trans le150).trans le159).trans le170).trans le181), by first | exact all_yes hz (room_yes0 (by assumption)) q5 | exact all_yes hz (room_yes1 (by assumption) (by assumption)) q5⟩
              · rintro σ' H199 ⟨F200, o204, o205, o206, rfl, gb201, cm202, le203, q5⟩
                have hlen := Al.length (Al.mo (((le64.trans le75).trans le87).trans le203) al4)
                have hlen2 := Al.length (Al.mo (((le64.trans le75).trans le87).trans le203) al22)
                try dsimp only
                rw [hlen, hlen2, zip_all] at q5
                refine a_seq ?_
                refine a_for ?_
                refine a_ilist ?_
                refine a_var rfl ?_
                refine ⟨_, rfl, ⟨_, (Same.seq gb201.s (Le.lst (((le64.trans le75).trans le87).trans le203) sq7))⟩, for_list (xs := vs6) (K := K) (a := a5) (fun i σ' H' => Ex2 fun (F207 : Hp) (o208 : Option V) => Cj5 (σ' = [some (V.ref a1), some (V.ref a5), some (V.ref a9), some (V.u goal), some (V.ref a13), some (V.ref a19), some (V.ref a23), o205, o206, o204, o208]) (Gr0 F H F207 H') (Fz (frzd F) F207) (Le F200 F207) (((unknowns.take i).all (colB rows paper.1 settled paper.2 goal) = true))) ?_ ?_ ?_ ?_⟩
                · exact ⟨F200, _, rfl, gb201, cm202, Le.refl _, by rfl⟩
                · rintro i σ' H209 _ ⟨F210, o214, rfl, gb211, cm212, le213, q6⟩
                  exact (Same.seq gb211.s (Le.lst ((((le64.trans le75).trans le87).trans le203).trans le213) sq7))
                · rintro i215 y218 σ' H216 hi217 ⟨F219, o223, rfl, gb220, cm221, le222, q6⟩
                  obtain ⟨x224, hx225, hr226⟩ := Al.get (Al.mo ((((le64.trans le75).trans le87).trans le203).trans le222) al8) hi217
                  refine a_name ?_
                  try dsimp only
                  obtain rfl : y218 = V.str x224 := hr226
                  have hu9 := hx225
                  refine a_if ?_
                  refine a_tB ?_
                  refine a_call ?_
                  refine a_cons ?_
                  refine a_call ?_
                  refine a_cons ?_
                  refine a_var rfl ?_
                  refine a_cons ?_
                  refine a_var rfl ?_
                  refine a_cons ?_
                  refine a_var rfl ?_
                  refine a_cons ?_
                  refine a_var rfl ?_
                  refine a_nil ?_
                  refine ⟨F219, _, _, _, _, settled, paper.2, goal, x224, rfl, gb220.s, ⟨_, _, rfl, (Le.lst ((((le64.trans le75).trans le87).trans le203).trans le222) sq11), (Al.mo ((((le64.trans le75).trans le87).trans le203).trans le222) al12)⟩, ⟨_, _, rfl, (Le.lst ((((le64.trans le75).trans le87).trans le203).trans le222) sq25), (Al.mo ((((le64.trans le75).trans le87).trans le203).trans le222) al26)⟩, rfl, rfl, (by exact ⟨by have := o.l3; omega, by have := o.l4; omega, o.s⟩), ?_⟩
                  rintro v227 F228 H229  g231 hr232 hp233
                  have gb234 := gb220.tr g231
                  have le235 := g231.le
                  have cm236 := g231.fz cm221
                  obtain ⟨a237, rfl, sq238⟩ := hr232
                  have u7 := hp233
                  refine a_cons ?_
                  refine a_call ?_
                  refine a_cons ?_
                  refine a_var rfl ?_
                  refine a_cons ?_
                  refine a_var rfl ?_
                  refine a_cons ?_
                  refine a_var rfl ?_
                  refine a_nil ?_
                  refine ⟨F228, _, _, _, rows, paper.1, x224, rfl, gb234.s, ⟨_, _, rfl, (Le.lst (((((le64.trans le75).trans le87).trans le203).trans le222).trans le235) sq3), (Al.mo (((((le64.trans le75).trans le87).trans le203).trans le222).trans le235) al4)⟩, ⟨_, _, rfl, (Le.lst (((((le64.trans le75).trans le87).trans le203).trans le222).trans le235) sq21), (Al.mo (((((le64.trans le75).trans le87).trans le203).trans le222).trans le235) al22)⟩, rfl, (by exact ⟨by have := o.l1; omega, by have := o.l2; omega, o.p, o.r3⟩), ?_⟩
                  rintro v239 F240 H241  g243 hr244 hp245
                  have gb246 := gb234.tr g243
                  have le247 := g243.le
                  have cm248 := g243.fz cm236
                  obtain ⟨a249, rfl, sq250⟩ := hr244
                  have u8 := hp245
                  refine a_nil ?_
                  refine ⟨_, _, (cntR settled paper.2 goal (Sum.inr x224)), (colR rows paper.1 x224), rfl, (Same.tup gb246.s (Le.tup le247 sq238)), (Same.tup gb246.s sq250), sm_of (by walk_at "o"), sm_of (by walk_at "o"), ?_⟩
                  refine a_bl ?_
                  refine iteD (fun c251 => ?_) (fun c251 => ?_)
                  · refine a_ret ?_
                    refine a_c ?_
                    have hval : (false : Bool) = (holdsB rows unknowns settled goal paper.1 paper.2) := by first | exact holds_len1 (by assumption) | exact holds_len2 (by assumption) | exact holds_neg (by rw [← q1]; assumption) | exact holds_room hz (room_no1 (by assumption) (by assumption)) | exact holds_room hz (room_no2 (by assumption) (by assumption)) | exact holds_col hu9 (by unfold colB; rw [decide_eq_true (by assumption)]; rfl) | exact holds_sign (by simp_all)
                    have rp252 : rB F240 (V.bl false) (false) := rfl
                    replace rp252 := Eq.mp (congrArg (rB F240 (V.bl false)) hval) rp252
                    exact k _ _ _ (Gr.of gb246 cm248) rp252
                  · refine a_next ?_
                    try dsimp only
                    exact ⟨F240, _, rfl, gb246, cm248, ((le222.trans le235).trans le247), by exact all_yes hu9 (by unfold colB; rw [decide_eq_false (by assumption)]; rfl) q6⟩
                · rintro σ' H253 ⟨F254, o258, rfl, gb255, cm256, le257, q6⟩
                  have hlen := Al.length (Al.mo ((((le64.trans le75).trans le87).trans le203).trans le257) al8)
                  try dsimp only
                  rw [hlen, List.take_length] at q6
                  refine a_ret ?_
                  refine a_c ?_
                  have hval : (true : Bool) = (holdsB rows unknowns settled goal paper.1 paper.2) := by exact holds_yes (by assumption) (by assumption) (by rw [← q1]; first | assumption | simp_all) (by first | assumption | simp_all) q5 q6
                  have rp259 : rB F254 (V.bl true) (true) := rfl
                  replace rp259 := Eq.mp (congrArg (rB F254 (V.bl true)) hval) rp259
                  exact k _ _ _ (Gr.of gb255 cm256) rp259
def sp_bound (T : Tx K mg) : Sp := fun vs H Q E => Ex11 fun (F : Hp) (v_rows : V) (v_unknowns : V) (v_settled : V) (v_goal : V) (v_paper : V) (rows : (List ((List (Str × Rat)) × Str × Rat × Int × Int))) (unknowns : (List Str)) (settled : (List ((Int ⊕ Str) × Rat))) (goal : (Int ⊕ Str)) (paper : ((List Rat) × (List Rat))) => Cj10 (vs = [v_rows, v_unknowns, v_settled, v_goal, v_paper]) (Same F H) ((rL K (r5 K (rD (rFr K)) rS (rFr K) rI rI)) F v_rows rows) ((rL K rS) F v_unknowns unknowns) ((rL K (r2 K rU (rFr K))) F v_settled settled) (rU F v_goal goal) ((r2 K (rL K (rFr K)) (rL K (rFr K))) F v_paper paper) (Ok31 rows settled paper.1 paper.2 ∧ unknowns.length ≤ 5) (∀ (F' H' : Hp), Gr F H F' H' → (holdsB rows unknowns settled goal paper.1 paper.2 = false) → E (.ref T.c_NoPaper) none H') (∀ (v : V) (F' H' : Hp), Gr F H F' H' → (rFr K) F' v (bndR rows settled paper.1 paper.2) → (holdsB rows unknowns settled goal paper.1 paper.2 = true) → Q v H')
set_option linter.unusedVariables false in
theorem ok_bound (T : Tx K mg) : FnOk P w K mg base (CX1 P w) 7 T.a_bound T.d_bound ["rows", "unknowns", "settled", "goal", "paper"] (sp_bound T) := by
  refine T.F_bound.ok1 sc_bound (fun vs H Q E h => ?_) (fun cdv A outer s H vs Q E hr h => ?_)
  · obtain ⟨F, v_rows, v_unknowns, v_settled, v_goal, v_paper, rows, unknowns, settled, goal, paper, rfl, _⟩ := h
    rfl
  · obtain ⟨F, v_rows, v_unknowns, v_settled, v_goal, v_paper, rows, unknowns, settled, goal, paper, rfl, wd, r_rows, r_unknowns, r_settled, r_goal, r_paper, hpre, kx_NoPaper, k⟩ := h
    have hu := hu_of hr
    have gb := Gr0.refl wd
    have cm := Fz.refl F
    obtain ⟨a1, vs2, rfl, sq3, al4⟩ := r_rows
    obtain ⟨a5, vs6, rfl, sq7, al8⟩ := r_unknowns
    obtain ⟨a9, vs10, rfl, sq11, al12⟩ := r_settled
    obtain rfl : v_goal = V.u goal := r_goal
    obtain ⟨a13, v15, v16, rfl, sq14, h17, h18⟩ := r_paper
    obtain ⟨a19, vs20, rfl, sq21, al22⟩ := h17
    obtain ⟨a23, vs24, rfl, sq25, al26⟩ := h18
    obtain ⟨o, w1⟩ := hpre
    refine ⟨_, (ZSs.h (zss_cons (ps_if (pt_not (pt_val (pe_call ((ok_holds T).mono (by decide)) hr rfl T.m_holds T.F_holds.kp T.b_holds .nil pass0 (pa_cons (pv 0) (pa_cons (pv 1) (pa_cons (pv 2) (pa_cons (pv 3) (pa_cons (pv 4) pa_nil)))))))) (pss_one (ps_raise rfl rfl rfl rfl rfl rfl T.m_NoPaper PySem.F.excBase_ValueError T.q_NoPaper pe_str)) pss_nil)
          (zss_cons (ps_set (i := 5) sc_bound.nd rfl (Or.inl rfl) (pe_call ((ok_weighed T).mono (by decide)) hr rfl T.m_weighed T.F_weighed.kp T.b_weighed .nil pass0 (pa_cons (pe_ix ix_tup (pv 4) pe_int (fun _ _ => rfl)) (pa_cons (pe_comp (N := ["one"]) (ix := [none]) rfl (pi_list (pv 0)) (fun _ _ _ _ _ => (pg_name (i := 0) (show List.Nodup (["one"] : List Str) from by decide) rfl (Or.inl rfl))) (fun _ _ _ _ _ => pts_nil) (fun _ _ _ _ _ => (pe_ix (show IxR _ (rIxT K) from ix_tup) (pv 0) pe_int (fun _ _ => rfl))) True.intro) pa_nil))))
          (zss_one (ps_ret (pe_call ((ok_minus T).mono (by decide)) hr rfl T.m_minus T.F_minus.kp T.b_minus .nil pass0 (pa_cons (pv 5) (pa_cons (pe_call ((ok_weighed T).mono (by decide)) hr rfl T.m_weighed T.F_weighed.kp T.b_weighed .nil pass0 (pa_cons (pe_ix ix_tup (pv 4) pe_int (fun _ _ => rfl)) (pa_cons (pe_comp (N := ["pair"]) (ix := [none]) rfl (pi_list (pv 2)) (fun _ _ _ _ _ => (pg_name (i := 0) (show List.Nodup (["pair"] : List Str) from by decide) rfl (Or.inl rfl))) (fun _ _ _ _ _ => pts_nil) (fun _ _ _ _ _ => (pe_ix (show IxR _ (rIxT K) from ix_tup) (pv 0) pe_int (fun _ _ => rfl))) True.intro) pa_nil))) pa_nil)))))))), ?_⟩
    refine a_seq ?_
    refine a_if ?_
    refine a_not ?_
    refine a_tB ?_
    refine a_call ?_
    refine a_cons ?_
    refine a_var rfl ?_
    refine a_cons ?_
    refine a_var rfl ?_
    refine a_cons ?_
    refine a_var rfl ?_
    refine a_cons ?_
    refine a_var rfl ?_
    refine a_cons ?_
    refine a_var rfl ?_
    refine a_nil ?_
    refine ⟨F, _, _, _, _, _, rows, unknowns, settled, goal, paper, rfl, gb.s, ⟨_, _, rfl, sq3, al4⟩, ⟨_, _, rfl, sq7, al8⟩, ⟨_, _, rfl, sq11, al12⟩, rfl, ⟨_, _, _, rfl, sq14, ⟨_, _, rfl, sq21, al22⟩, ⟨_, _, rfl, sq25, al26⟩⟩, (by exact ⟨o, w1⟩), ?_⟩
    rintro v27 F28 H29  g31 hr32 
    have gb34 := gb.tr g31
    have le35 := g31.le
    have cm36 := g31.fz cm
    obtain rfl : v27 = V.bl (holdsB rows unknowns settled goal paper.1 paper.2) := hr32
    refine a_bl ?_
    refine iteNB (fun c37 => ?_) (fun c37 => ?_)
    · refine a_raise ?_
      refine a_c ?_
      have ln38 : ("this paper does not hold" : Str).length = 24 := by decide +kernel
      exact kx_NoPaper _ _ (Gr.of gb34 cm36) (by first | assumption | simp_all)
    · refine a_next ?_
      try dsimp only
      refine a_seq ?_
      refine a_asg ?_
      refine a_call ?_
      refine a_cons ?_
      refine a_op ?_
      refine a_var rfl ?_
      refine a_c ?_
      refine a_ixT (Same.tup gb34.s (Le.tup le35 sq14)) rfl ?_
      refine a_cons ?_
      refine a_comp ?_
      refine a_ilist ?_
      refine a_var rfl ?_
      have hml41 : (rows).length ≤ 1000000 := by (have := o.l1; omega)
      refine ⟨_, rfl, ⟨_, (Same.seq gb34.s (Le.lst le35 sq3))⟩, comp_list (K := K) (a := a1) (xs := vs2) (fun i acc H' => Ex2 fun (F39 : Hp) (ts40 : List Rat) => Cj7 (True) (Gr0 F H F39 H') (Fz (frzd F) F39) (Le F28 F39) (Al (rFr K) F39 acc ts40) (ts40.length ≤ i) ((ts40 = (rows.take i).map (·.2.2.1) ∧ ∀ q ∈ ts40, bs q ≤ 10))) ?_ ?_ ?_ ?_⟩
      · exact ⟨F28, [], True.intro, gb34, cm36, Le.refl _, (show Al (rFr K) F28 [] [] from True.intro), (by first | (simp; done) | (rw [List.length_append]; simp only [List.length_cons, List.length_nil]; omega) | omega), by exact ⟨rfl, fun q h => nomatch h⟩⟩
      · rintro i acc H42 _ ⟨F43, ts47, _, gb44, cm45, le46, al48, tl49, ⟨q0, q2⟩⟩
        exact (Same.seq gb44.s (Le.lst (le35.trans le46) sq3))
      · rintro i50 y53 acc54 H51 hi52 ⟨F55, ts59, _, gb56, cm57, le58, al60, tl61, ⟨q0, q2⟩⟩
        obtain ⟨x62, hx63, hr64⟩ := Al.get (Al.mo (le35.trans le58) al4) hi52
        have hil := (List.getElem?_eq_some_iff.mp hx63).1
        refine a_name ?_
        obtain ⟨a65, v67, v68, v69, v70, v71, rfl, sq66, h72, h73, h74, h75, h76⟩ := hr64
        obtain ⟨a77, kvs78, rfl, rd79, dk80, nd81⟩ := h72
        obtain rfl : v68 = V.str x62.2.1 := h73
        obtain ⟨a82, rfl, sq83⟩ := h74
        obtain rfl : v70 = V.int x62.2.2.2.1 := h75
        obtain rfl : v71 = V.int x62.2.2.2.2 := h76
        refine ⟨Wk.non (Wk.nil), ?_⟩
        try dsimp only
        have u1 := o.r1 _ (List.mem_of_getElem? hx63)
        refine a_yes ?_
        refine iteT ?_
        refine a_op ?_
        refine a_var rfl ?_
        refine a_c ?_
        refine a_ixT (Same.tup gb56.s sq66) rfl ?_
        refine ⟨by rw [Al.length al60]; have := sizeLine_big; omega, ?_⟩
        exact ⟨F55, (ts59 ++ [x62.2.2.1]), True.intro, gb56, cm57, le58, (Al.snoc al60 ⟨_, rfl, sq83⟩), (by first | (simp; done) | (rw [List.length_append]; simp only [List.length_cons, List.length_nil]; omega) | omega), by exact ⟨by rw [q0]; exact (map_take_succ _ hx63).symm, fun q h => (List.mem_append.mp h).elim (q2 q) fun z => by rw [List.mem_singleton.mp z]; exact u1⟩⟩
      · rintro acc85 H84 ⟨F86, ts90, _, gb87, cm88, le89, al91, tl92, ⟨q0, q2⟩⟩
        have hlen := Al.length (Al.mo (le35.trans le89) al4)
        refine ⟨(by rw [Al.length al91]; have := sizeLine_big; omega), fun p93 hp94 => ?_⟩
        obtain ⟨F95, g97, e98⟩ := al2 (o := (.lst acc85)) gb87.s (by intro _ _ z; cases z) hp94
        generalize upd H84 p93 (.lst acc85) = H96 at g97 ⊢
        have gb99 := gb87.tr g97
        have le100 := g97.le
        have cm101 := g97.fz cm88
        have hl9 := o.l1
        rw [hlen, List.take_length] at q0
        refine a_nil ?_
        refine ⟨F95, _, _, paper.1, ts90, rfl, gb99.s, ⟨_, _, rfl, (Le.lst ((le35.trans le89).trans le100) sq21), (Al.mo ((le35.trans le89).trans le100) al22)⟩, ⟨_, _, rfl, (SqL.of e98), (Al.mo le100 al91)⟩, (by exact ⟨by have := o.l2; omega, by omega, o.p, q2⟩), ?_⟩
        rintro v102 F103 H104  g106 hr107 hp108
        have gb109 := gb99.tr g106
        have le110 := g106.le
        have cm111 := g106.fz cm101
        obtain ⟨a112, rfl, sq113⟩ := hr107
        have u8 := hp108
        refine a_name ?_
        try dsimp only
        refine a_ret ?_
        refine a_call ?_
        refine a_cons ?_
        refine a_var rfl ?_
        refine a_cons ?_
        refine a_call ?_
        refine a_cons ?_
        refine a_op ?_
        refine a_var rfl ?_
        refine a_c ?_
        refine a_ixT (Same.tup gb109.s (Le.tup (((le35.trans le89).trans le100).trans le110) sq14)) rfl ?_
        refine a_cons ?_
        refine a_comp ?_
        refine a_ilist ?_
        refine a_var rfl ?_
        have hml116 : (settled).length ≤ 1000000 := by (have := o.l3; omega)
        refine ⟨_, rfl, ⟨_, (Same.seq gb109.s (Le.lst (((le35.trans le89).trans le100).trans le110) sq11))⟩, comp_list (K := K) (a := a9) (xs := vs10) (fun i acc H' => Ex2 fun (F114 : Hp) (ts115 : List Rat) => Cj7 (True) (Gr0 F H F114 H') (Fz (frzd F) F114) (Le F103 F114) (Al (rFr K) F114 acc ts115) (ts115.length ≤ i) ((ts115 = (settled.take i).map (·.2) ∧ ∀ q ∈ ts115, bs q ≤ 10))) ?_ ?_ ?_ ?_⟩
        · exact ⟨F103, [], True.intro, gb109, cm111, Le.refl _, (show Al (rFr K) F103 [] [] from True.intro), (by first | (simp; done) | (rw [List.length_append]; simp only [List.length_cons, List.length_nil]; omega) | omega), by exact ⟨rfl, fun q h => nomatch h⟩⟩
        · rintro i acc H117 _ ⟨F118, ts122, _, gb119, cm120, le121, al123, tl124, ⟨q4, q3⟩⟩
          exact (Same.seq gb119.s (Le.lst ((((le35.trans le89).trans le100).trans le110).trans le121) sq11))
        · rintro i125 y128 acc129 H126 hi127 ⟨F130, ts134, _, gb131, cm132, le133, al135, tl136, ⟨q4, q3⟩⟩
          obtain ⟨x137, hx138, hr139⟩ := Al.get (Al.mo ((((le35.trans le89).trans le100).trans le110).trans le133) al12) hi127
          have hil := (List.getElem?_eq_some_iff.mp hx138).1
          refine a_name ?_
          obtain ⟨a140, v142, v143, rfl, sq141, h144, h145⟩ := hr139
          obtain rfl : v142 = V.u x137.1 := h144
          obtain ⟨a146, rfl, sq147⟩ := h145
          refine ⟨Wk.non (Wk.nil), ?_⟩
          try dsimp only
          have u1 := o.t _ (List.mem_of_getElem? hx138)
          refine a_yes ?_
          refine iteT ?_
          refine a_op ?_
          refine a_var rfl ?_
          refine a_c ?_
          refine a_ixT (Same.tup gb131.s sq141) rfl ?_
          refine ⟨by rw [Al.length al135]; have := sizeLine_big; omega, ?_⟩
          exact ⟨F130, (ts134 ++ [x137.2]), True.intro, gb131, cm132, le133, (Al.snoc al135 ⟨_, rfl, sq147⟩), (by first | (simp; done) | (rw [List.length_append]; simp only [List.length_cons, List.length_nil]; omega) | omega), by exact ⟨by rw [q4]; exact (map_take_succ _ hx138).symm, fun q h => (List.mem_append.mp h).elim (q3 q) fun z => by rw [List.mem_singleton.mp z]; exact u1⟩⟩
        · rintro acc149 H148 ⟨F150, ts154, _, gb151, cm152, le153, al155, tl156, ⟨q4, q3⟩⟩
          have hlen := Al.length (Al.mo ((((le35.trans le89).trans le100).trans le110).trans le153) al12)
          refine ⟨(by rw [Al.length al155]; have := sizeLine_big; omega), fun p157 hp158 => ?_⟩
          obtain ⟨F159, g161, e162⟩ := al2 (o := (.lst acc149)) gb151.s (by intro _ _ z; cases z) hp158
          generalize upd H148 p157 (.lst acc149) = H160 at g161 ⊢
          have gb163 := gb151.tr g161
          have le164 := g161.le
          have cm165 := g161.fz cm152
          have hl8 := o.l3
          rw [hlen, List.take_length] at q4
          refine a_nil ?_
          refine ⟨F159, _, _, paper.2, ts154, rfl, gb163.s, ⟨_, _, rfl, (Le.lst (((((le35.trans le89).trans le100).trans le110).trans le153).trans le164) sq25), (Al.mo (((((le35.trans le89).trans le100).trans le110).trans le153).trans le164) al26)⟩, ⟨_, _, rfl, (SqL.of e162), (Al.mo le164 al155)⟩, (by exact ⟨by have := o.l4; omega, by omega, fun s h => Nat.le_trans (o.s s h) (by decide), q3⟩), ?_⟩
          rintro v166 F167 H168  g170 hr171 hp172
          have gb173 := gb163.tr g170
          have le174 := g170.le
          have cm175 := g170.fz cm165
          obtain ⟨a176, rfl, sq177⟩ := hr171
          have u9 := hp172
          refine a_nil ?_
          refine ⟨_, _, (wgtZ (paper.1.zip ts90)), (wgtZ (paper.2.zip ts154)), rfl, (Same.tup gb173.s (Le.tup ((le153.trans le164).trans le174) sq113)), (Same.tup gb173.s sq177), sm_of (by walk_at "o"), sm_of (by walk_at "o"), fun p178 hp179 => ?_⟩
          obtain ⟨F180, g182, e183⟩ := al2 (o := (.tup (fr ((wgtZ (paper.1.zip ts90)) - (wgtZ (paper.2.zip ts154)))))) gb173.s (by intro _ _ z; cases z) hp179
          generalize upd H168 p178 (.tup (fr ((wgtZ (paper.1.zip ts90)) - (wgtZ (paper.2.zip ts154))))) = H181 at g182 ⊢
          have gb184 := gb173.tr g182
          have le185 := g182.le
          have cm186 := g182.fz cm175
          have b187 := bs_sub (wgtZ (paper.1.zip ts90)) (wgtZ (paper.2.zip ts154))
          have hval : (((wgtZ (paper.1.zip ts90)) - (wgtZ (paper.2.zip ts154))) : Rat) = (bndR rows settled paper.1 paper.2) := by rw [q0, q4]; rfl
          have rp188 : (rFr K) F180 (V.ref p178) (((wgtZ (paper.1.zip ts90)) - (wgtZ (paper.2.zip ts154)))) := ⟨_, rfl, (SqT.of e183)⟩
          replace rp188 := Eq.mp (congrArg ((rFr K) F180 (V.ref p178)) hval) rp188
          exact k _ _ _ (Gr.of gb184 cm186) rp188 (by first | assumption | simp_all)
def sp_law_cell_at (K : PySem.W.Frag) : Sp := fun vs H Q _ => Ex5 fun (F : Hp) (v_script : V) (v_k' : V) (script : (List Int)) (k' : Int) => Cj6 (vs = [v_script, v_k']) (Same F H) (∃ a, v_script = .ref a ∧ SqL K H a (script.map V.int)) (rI F v_k' k') (0 ≤ k') (∀ (v : V) (F' H' : Hp) (r : Int), Gr F H F' H' → rI F' v r → Q v H')
set_option linter.unusedVariables false in
theorem ok_law_cell_at (T : Tx K mg) : FnOk P w K mg base CX0 1 T.a_law_cell_at T.d_law_cell_at ["_law_script", "_law_k"] (sp_law_cell_at K) := by
  refine T.F_law_cell_at.ok sc_law_cell_at (fun vs H Q E h => ?_) (fun cdv A outer s H vs Q E hr h => ?_)
  · obtain ⟨F, v_script, v_k', script, k', rfl, _⟩ := h
    rfl
  · obtain ⟨F, v_script, v_k', script, k', rfl, wd, r_script, r_k', hpre, k⟩ := h
    have hu := hu_of hr
    have gb := Gr0.refl wd
    have cm := Fz.refl F
    obtain ⟨a1, rfl, sq2⟩ := r_script
    obtain rfl : v_k' = V.int k' := r_k'
    refine ⟨_, (ZSs.h (zss_cons (ps_if (pt_cmpR op_lt (pv 1) (pe_callB call_len_seq rfl T.z_len rfl (pa_cons (pv 0) pa_nil)) (nomark _)) (pss_one (ps_ret (pe_ix ix_list (pv 0) (pv 1) (fun _ _ => rfl)))) pss_nil)
          (zss_one (ps_ret pe_int)))), ?_⟩
    refine a_seq ?_
    refine a_if ?_
    refine a_test ?_
    refine a_op ?_
    refine a_var rfl ?_
    refine a_cb ?_
    refine a_cons ?_
    refine a_var rfl ?_
    refine a_nil ?_
    refine ⟨_, _, rfl, .inl (Same.seq gb.h sq2), ?_⟩
    rw [Al.length (al_ints (F := F) (ns := script))]
    refine a_I0 ?_
    refine a_bl ?_
    refine iteD (fun c3 => ?_) (fun c3 => ?_)
    · refine a_ret ?_
      refine a_op ?_
      refine a_var rfl ?_
      refine a_var rfl ?_
      obtain ⟨x5, v4, h6, h7, h8⟩ := Al.ix (al_ints (F := F) (ns := script)) (i := k') (by walk_at "o") (by walk_at "ol")
      refine a_ixL (Same.seq gb.h sq2) h7 ?_
      obtain rfl : v4 = V.int x5 := h8
      exact k _ _ _ (x5) (Gr.of gb cm) (rfl)
    · refine a_next ?_
      try dsimp only
      refine a_ret ?_
      refine a_c ?_
      exact k _ _ _ (0) (Gr.of gb cm) (rfl)
def sp_law_mix (K : PySem.W.Frag) : Sp := fun vs H Q _ => Ex5 fun (F : Hp) (v_cell : V) (v_k' : V) (cell : Int) (k' : Int) => Cj5 (vs = [v_cell, v_k']) (Same F H) (rI F v_cell cell) (rI F v_k' k') (∀ (v : V) (F' H' : Hp) (r : Int), Gr F H F' H' → rI F' v r → (0 ≤ r ∧ r < 2147483647) → Q v H')
set_option linter.unusedVariables false in
theorem ok_law_mix (T : Tx K mg) : FnOk P w K mg base CX0 1 T.a_law_mix T.d_law_mix ["_law_cell", "_law_k"] (sp_law_mix K) := by
  refine T.F_law_mix.ok sc_law_mix (fun vs H Q E h => ?_) (fun cdv A outer s H vs Q E hr h => ?_)
  · obtain ⟨F, v_cell, v_k', cell, k', rfl, _⟩ := h
    rfl
  · obtain ⟨F, v_cell, v_k', cell, k', rfl, wd, r_cell, r_k', k⟩ := h
    have hu := hu_of hr
    have gb := Gr0.refl wd
    have cm := Fz.refl F
    obtain rfl : v_cell = V.int cell := r_cell
    obtain rfl : v_k' = V.int k' := r_k'
    refine ⟨_, (ZSs.h (zss_cons (ps_set (i := 2) sc_law_mix.nd rfl (Or.inl rfl) (pe_op op_mod (pe_op op_mulB (pe_op op_mod (pe_op op_add (pe_op op_add (pv 0) (pe_op op_mulB pe_int (pv 1))) pe_int) pe_int) pe_int) pe_int))
          (zss_cons (ps_set (i := 2) sc_law_mix.nd rfl (Or.inl rfl) (pe_op op_mod (pe_op op_mulB (pv 2) (pe_op op_add (pe_op op_fdiv (pv 2) pe_int) pe_int)) pe_int))
          (zss_one (ps_ret (pe_op op_mod (pe_op op_mulB (pv 2) (pe_op op_add (pe_op op_fdiv (pv 2) pe_int) pe_int)) pe_int)))))), ?_⟩
    refine a_seq ?_
    refine a_asg ?_
    refine a_op ?_
    refine a_op ?_
    refine a_op ?_
    refine a_op ?_
    refine a_op ?_
    refine a_var rfl ?_
    refine a_op ?_
    refine a_c ?_
    refine a_var rfl ?_
    refine a_I (mulL2 (by decide) (by decide)) ?_
    refine a_I0 ?_
    refine a_c ?_
    refine a_I0 ?_
    refine a_c ?_
    refine a_I (by decide) ?_
    have m1 : 0 ≤ (((cell + (7919 * k')) + 1) % 2147483647) ∧ (((cell + (7919 * k')) + 1) % 2147483647) < 2147483647 := ⟨Int.emod_nonneg _ (by decide), Int.emod_lt_of_pos _ (by decide)⟩
    refine a_c ?_
    refine a_I (mulR2 (by decide) (by decide)) ?_
    refine a_c ?_
    refine a_I (by decide) ?_
    have m2 : 0 ≤ (((((cell + (7919 * k')) + 1) % 2147483647) * 48271) % 2147483647) ∧ (((((cell + (7919 * k')) + 1) % 2147483647) * 48271) % 2147483647) < 2147483647 := ⟨Int.emod_nonneg _ (by decide), Int.emod_lt_of_pos _ (by decide)⟩
    refine a_name ?_
    try dsimp only
    refine a_seq ?_
    refine a_asg ?_
    refine a_op ?_
    refine a_op ?_
    refine a_var rfl ?_
    refine a_op ?_
    refine a_op ?_
    refine a_var rfl ?_
    refine a_c ?_
    refine a_I ⟨by decide, by decide⟩ ?_
    refine a_c ?_
    refine a_I0 ?_
    refine a_I (by walk_at "om") ?_
    refine a_c ?_
    refine a_I (by decide) ?_
    have m3 : 0 ≤ (((((((cell + (7919 * k')) + 1) % 2147483647) * 48271) % 2147483647) * (((((((cell + (7919 * k')) + 1) % 2147483647) * 48271) % 2147483647) / 1009) + 69621)) % 2147483647) ∧ (((((((cell + (7919 * k')) + 1) % 2147483647) * 48271) % 2147483647) * (((((((cell + (7919 * k')) + 1) % 2147483647) * 48271) % 2147483647) / 1009) + 69621)) % 2147483647) < 2147483647 := ⟨Int.emod_nonneg _ (by decide), Int.emod_lt_of_pos _ (by decide)⟩
    refine a_name ?_
    try dsimp only
    refine a_ret ?_
    refine a_op ?_
    refine a_op ?_
    refine a_var rfl ?_
    refine a_op ?_
    refine a_op ?_
    refine a_var rfl ?_
    refine a_c ?_
    refine a_I ⟨by decide, by decide⟩ ?_
    refine a_c ?_
    refine a_I0 ?_
    refine a_I (by walk_at "om") ?_
    refine a_c ?_
    refine a_I (by decide) ?_
    have m4 : 0 ≤ (((((((((cell + (7919 * k')) + 1) % 2147483647) * 48271) % 2147483647) * (((((((cell + (7919 * k')) + 1) % 2147483647) * 48271) % 2147483647) / 1009) + 69621)) % 2147483647) * (((((((((cell + (7919 * k')) + 1) % 2147483647) * 48271) % 2147483647) * (((((((cell + (7919 * k')) + 1) % 2147483647) * 48271) % 2147483647) / 1009) + 69621)) % 2147483647) / 127) + 30011)) % 2147483647) ∧ (((((((((cell + (7919 * k')) + 1) % 2147483647) * 48271) % 2147483647) * (((((((cell + (7919 * k')) + 1) % 2147483647) * 48271) % 2147483647) / 1009) + 69621)) % 2147483647) * (((((((((cell + (7919 * k')) + 1) % 2147483647) * 48271) % 2147483647) * (((((((cell + (7919 * k')) + 1) % 2147483647) * 48271) % 2147483647) / 1009) + 69621)) % 2147483647) / 127) + 30011)) % 2147483647) < 2147483647 := ⟨Int.emod_nonneg _ (by decide), Int.emod_lt_of_pos _ (by decide)⟩
    exact k _ _ _ ((((((((((cell + (7919 * k')) + 1) % 2147483647) * 48271) % 2147483647) * (((((((cell + (7919 * k')) + 1) % 2147483647) * 48271) % 2147483647) / 1009) + 69621)) % 2147483647) * (((((((((cell + (7919 * k')) + 1) % 2147483647) * 48271) % 2147483647) * (((((((cell + (7919 * k')) + 1) % 2147483647) * 48271) % 2147483647) / 1009) + 69621)) % 2147483647) / 127) + 30011)) % 2147483647)) (Gr.of gb cm) (rfl) (by walk_at "o")
def sp_law_divisor (K : PySem.W.Frag) : Sp := fun vs H Q _ => Ex5 fun (F : Hp) (v_one : V) (v_other : V) (one : Int) (other : Int) => Cj6 (vs = [v_one, v_other]) (Same F H) (rI F v_one one) (rI F v_other other) (0 ≤ other) (∀ (v : V) (F' H' : Hp), Gr F H F' H' → rI F' v (gd one other) → Q v H')
set_option linter.unusedVariables false in
theorem ok_law_divisor (T : Tx K mg) : FnOk P w K mg base CX0 1 T.a_law_divisor T.d_law_divisor ["_law_one", "_law_other"] (sp_law_divisor K) := by
  refine T.F_law_divisor.ok sc_law_divisor (fun vs H Q E h => ?_) (fun cdv A outer s H vs Q E hr h => ?_)
  · obtain ⟨F, v_one, v_other, one, other, rfl, _⟩ := h
    rfl
  · obtain ⟨F, v_one, v_other, one, other, rfl, wd, r_one, r_other, hpre, k⟩ := h
    have hu := hu_of hr
    have gb := Gr0.refl wd
    have cm := Fz.refl F
    obtain rfl : v_one = V.int one := r_one
    obtain rfl : v_other = V.int other := r_other
    refine ⟨_, (ZSs.h (zss_cons (ps_while PassesOwn.never (pt_cmpR op_ne (pv 1) pe_int (nomark _)) (pss_one (ps_par (i := 0) (j := 1) rfl sc_law_divisor.nd rfl rfl (by decide) rfl rfl (pa_cons (pv 1) (pa_cons (pe_op op_mod (pv 0) (pv 1)) pa_nil)) rfl)))
          (zss_one (ps_ret (pe_callB call_abs rfl T.z_abs rfl (pa_cons (pv 0) pa_nil)))))), ?_⟩
    refine a_seq ?_
    refine ⟨fun m σ' H' => Ex3 fun (F1 : Hp) (one2 : Int) (other3 : Int) => Cj6 (σ' = [some (V.int one2), some (V.int other3)]) (Gr0 F H F1 H') (Fz (frzd F) F1) (Le F F1) ((0 ≤ other3 ∧ gd one2 other3 = gd one other)) (m = other3.toNat), ⟨other.toNat, ?_⟩, ?_⟩
    · exact ⟨F, one, other, rfl, gb, cm, Le.refl _, by exact ⟨hpre, rfl⟩, rfl⟩
    · rintro m σ' H4 ⟨F5, one9, other10, rfl, gb6, cm7, le8, ⟨i1, i2⟩, rfl⟩
      refine a_test ?_
      refine a_op ?_
      refine a_var rfl ?_
      refine a_c ?_
      refine a_neI ?_
      refine a_bl ?_
      refine iteDN (fun c11 => ?_) (fun c11 => ?_)
      · refine ⟨fun σ' H' => Ex3 fun (F1 : Hp) (one2 : Int) (other3 : Int) => Cj6 (σ' = [some (V.int one2), some (V.int other3)]) (Gr0 F H F1 H') (Fz (frzd F) F1) (Le F F1) ((0 ≤ other3 ∧ gd one2 other3 = gd one other)) (other3.toNat < other10.toNat), fun σ' H' ⟨y0, y1, y2, y3, y4, y5, y6, y7, hlt⟩ => ⟨_, hlt, y0, y1, y2, y3, y4, y5, y6, y7, rfl⟩, ?_⟩
        refine a_par ?_
        refine a_cons ?_
        refine a_var rfl ?_
        refine a_cons ?_
        refine a_op ?_
        refine a_var rfl ?_
        refine a_var rfl ?_
        refine a_I (by walk_at "o") ?_
        have m12 : 0 ≤ (one9 % other10) ∧ (one9 % other10) < other10 := ⟨Int.emod_nonneg _ (by walk_at "o"), Int.emod_lt_of_pos _ (by walk_at "o")⟩
        refine a_nil ?_
        refine a_par2 ?_
        try dsimp only
        exact ⟨F5, other10, (one9 % other10), rfl, gb6, cm7, le8, by exact ⟨Int.emod_nonneg _ (by omega), by rw [gd_mod' (by omega)]; exact i2⟩, by (have := Int.emod_lt_of_pos one9 (show 0 < other10 by omega); omega)⟩
      · try dsimp only
        refine a_ret ?_
        refine a_cb ?_
        refine a_cons ?_
        refine a_var rfl ?_
        refine a_nil ?_
        refine ⟨_, rfl, ?_⟩
        have hval : ((if one9 < 0 then -one9 else one9) : Int) = (gd one other) := by (have e : other10 = 0 := (by omega); rw [e] at i2; rw [← i2]; exact (gd_abs0 _).symm)
        have rp13 : rI F5 (V.int (if one9 < 0 then -one9 else one9)) ((if one9 < 0 then -one9 else one9)) := rfl
        replace rp13 := Eq.mp (congrArg (rI F5 (V.int (if one9 < 0 then -one9 else one9))) hval) rp13
        exact k _ _ _ (Gr.of gb6 cm7) rp13
def sp_law_lowest (K : PySem.W.Frag) : Sp := fun vs H Q _ => Ex5 fun (F : Hp) (v_top : V) (v_bottom : V) (top : Int) (bottom : Int) => Cj6 (vs = [v_top, v_bottom]) (Same F H) (rI F v_top top) (rI F v_bottom bottom) (0 < bottom ∧ bi bottom ≤ 7000) (∀ (v : V) (F' H' : Hp), Gr F H F' H' → (rFr K) F' v (Rat.divInt top bottom) → Q v H')
set_option linter.unusedVariables false in
theorem ok_law_lowest (T : Tx K mg) : FnOk P w K mg base CX0 2 T.a_law_lowest T.d_law_lowest ["_law_top", "_law_bottom"] (sp_law_lowest K) := by
  refine T.F_law_lowest.ok sc_law_lowest (fun vs H Q E h => ?_) (fun cdv A outer s H vs Q E hr h => ?_)
  · obtain ⟨F, v_top, v_bottom, top, bottom, rfl, _⟩ := h
    rfl
  · obtain ⟨F, v_top, v_bottom, top, bottom, rfl, wd, r_top, r_bottom, hpre, k⟩ := h
    have hu := hu_of hr
    have gb := Gr0.refl wd
    have cm := Fz.refl F
    obtain rfl : v_top = V.int top := r_top
    obtain rfl : v_bottom = V.int bottom := r_bottom
    obtain ⟨hb, hz⟩ := hpre
    refine ⟨_, (ZSs.h (zss_cons (ps_set (i := 2) sc_law_lowest.nd rfl (Or.inl rfl) (pe_call ((ok_law_divisor T).mono (by decide)) hr rfl T.m_law_divisor T.F_law_divisor.kp T.b_law_divisor .nil pass0 (pa_cons (pv 0) (pa_cons (pv 1) pa_nil))))
          (zss_one (ps_ret (pe_tup (pa_cons (pe_op op_fdivB (pv 0) (pv 2)) (pa_cons (pe_op op_fdivB (pv 1) (pv 2)) pa_nil))))))), ?_⟩
    refine a_seq ?_
    refine a_asg ?_
    refine a_call ?_
    refine a_cons ?_
    refine a_var rfl ?_
    refine a_cons ?_
    refine a_var rfl ?_
    refine a_nil ?_
    refine ⟨F, _, _, top, bottom, rfl, gb.s, rfl, rfl, (by walk_at "o"), ?_⟩
    rintro v1 F2 H3  g5 hr6 
    have gb8 := gb.tr g5
    have le9 := g5.le
    have cm10 := g5.fz cm
    obtain rfl : v1 = V.int (gd top bottom) := hr6
    refine a_name ?_
    try dsimp only
    have hb0 : bottom ≠ 0 := by omega
    have hd := dv_ne (t := top) hb0
    have ed : gd top bottom = dv top bottom := by unfold dv; rw [if_neg (by omega)]
    have hl : bi (gd top bottom) ≤ 8000 := by rw [ed]; exact Nat.le_trans (bi_mono (dv_le hb0)) (by omega)
    refine a_ret ?_
    refine a_tup ?_
    refine a_cons ?_
    refine a_op ?_
    refine a_var rfl ?_
    refine a_var rfl ?_
    refine a_I (by walk_at "od") ?_
    refine a_cons ?_
    refine a_op ?_
    refine a_var rfl ?_
    refine a_var rfl ?_
    refine a_I (by walk_at "od") ?_
    refine a_nil ?_
    refine ⟨by show 2 ≤ sizeLine; decide, fun p11 hp12 => ?_⟩
    obtain ⟨F13, g15, e16⟩ := al2 (o := (.tup [V.int (Int.fdiv top (gd top bottom)), V.int (Int.fdiv bottom (gd top bottom))])) gb8.s (by intro _ _ z; cases z) hp12
    generalize upd H3 p11 (.tup [V.int (Int.fdiv top (gd top bottom)), V.int (Int.fdiv bottom (gd top bottom))]) = H14 at g15 ⊢
    have gb17 := gb8.tr g15
    have le18 := g15.le
    have cm19 := g15.fz cm10
    have sq20 : SqT K F13 p11 (fr (Rat.divInt top bottom)) := by rw [show fr (Rat.divInt top bottom) = [V.int (Int.fdiv top (gd top bottom)), V.int (Int.fdiv bottom (gd top bottom))] from by unfold fr; rw [← part_num hb0, ← part_den hb0, ← ed]]; exact SqT.of e16
    have rp21 : (rFr K) F13 (V.ref p11) ((Rat.divInt top bottom)) := ⟨_, rfl, sq20⟩
    exact k _ _ _ (Gr.of gb17 cm19) rp21
theorem ptd_all {m : List (Str × Rat)} {x : Str} {q : Rat} {n : Nat} (h : ∀ x q, gtd m x = some q → bs q ≤ n) (hq : bs q ≤ n) : ∀ z r, gtd (ptd m x q) z = some r → bs r ≤ n := fun z r e => by
  have e : gt (pt m x q) z = some r := e
  rw [gt_pt] at e
  split at e
  · cases e; exact hq
  · exact h _ _ e
theorem ptd_len {α : Type} (m : List (Str × α)) (x : Str) (y : α) : (ptd m x y).length ≤ m.length + 1 := by
  unfold ptd
  split
  · rw [List.length_map]; omega
  · rw [List.length_append]; exact Nat.le_refl _
theorem frac3 (f a b : Rat) : Rat.divInt (f.num * (a.den : Int) * (b.den : Int) + a.num * b.num * (f.den : Int)) ((f.den : Int) * (a.den : Int) * (b.den : Int)) = f + a * b := by
  have hf : (f.den : Int) ≠ 0 := by have := den_pos f; omega
  have ha : (a.den : Int) ≠ 0 := by have := den_pos a; omega
  have hb : (b.den : Int) ≠ 0 := by have := den_pos b; omega
  conv => rhs; rw [← Rat.num_divInt_den f, ← Rat.num_divInt_den a, ← Rat.num_divInt_den b]
  rw [Rat.divInt_mul_divInt, Rat.divInt_add_divInt _ _ hf (Int.mul_ne_zero ha hb), Int.mul_assoc f.num, Int.mul_assoc (f.den : Int)]
theorem cast0 : ((0 : Int) : Rat) = 0 := by decide +kernel
theorem cast1 : ((1 : Int) : Rat) = 1 := by decide +kernel
structure Row31 (r : Row32) : Prop where
  pt : ∀ x q, gtd r.1 x = some q → bs q ≤ 5
  kd : r.2.1 = "least" ∨ r.2.1 = "most" ∨ r.2.1 = "just"
  nm : bs r.2.2.1 ≤ 5
  rk : 0 ≤ r.2.2.2.1 ∧ r.2.2.2.1 ≤ 4
  wt : 1 ≤ r.2.2.2.2 ∧ r.2.2.2.2 ≤ 9
theorem cntZ_pos (t : U32) : ∀ z : List ((U32 × Rat) × Rat), (∀ p ∈ z, 0 ≤ p.2) → 0 ≤ cntZ t z
  | [], _ => Rat.le_refl
  | p :: z, h => by
    show 0 ≤ cntZ t z + _
    have h1 := cntZ_pos t z fun q hq => h q (List.mem_cons_of_mem _ hq)
    have h2 := h p (List.mem_cons_self ..)
    split <;> grind
theorem cnt_pos {st : List (U32 × Rat)} {sh : List Rat} (hs : ∀ s ∈ sh, 0 ≤ s) (goal t : U32) : 0 ≤ cntR st sh goal t := by
  unfold cntR
  have h1 := cntZ_pos t (st.zip sh) fun p hp => hs _ (List.of_mem_zip hp).2
  split <;> grind
theorem wgt_one (ts : List (Rat × Rat)) (a b : Rat) : wgtZ (ts ++ [(a, b)]) = wgtZ ts + a * b := by
  rw [wgtZ_app]
  show _ + (0 + _) = _
  rw [Rat.zero_add]
theorem fr_neg (q : Rat) : fr (-q) = [V.int (0 - q.num), V.int (q.den : Int)] := by
  unfold fr
  rw [Rat.neg_num, Rat.neg_den, Int.zero_sub]
theorem bs_neg (q : Rat) : bs (-q) = bs q := by unfold bs; rw [Rat.neg_num, Rat.neg_den, Int.natAbs_neg]
theorem low_w (q : Rat) (w : Int) : Rat.divInt (q.num * w) (q.den : Int) = ((w : Int) : Rat) * q := by
  rw [Rat.mul_comm, mul_divInt q ((w : Int) : Rat), Rat.num_intCast, Rat.den_intCast]
  simp
theorem half_w (q : Rat) (k : Int) : Rat.divInt (q.num * k) ((q.den : Int) * 2) = q * Rat.divInt k 2 := by
  conv => rhs; rw [← Rat.num_divInt_den q]
  rw [Rat.divInt_mul_divInt]
theorem half_in {k : Int} (h0 : 0 ≤ k) (h1 : k < 3) : 0 ≤ Rat.divInt k 2 ∧ Rat.divInt k 2 ≤ 1 := by
  have : k = 0 ∨ k = 1 ∨ k = 2 := by omega
  rcases this with rfl | rfl | rfl <;> decide +kernel
theorem mem_one4 {x : Rat} (h : bs x ≤ 3) {p : Rat × Rat} (z : p = (x, ((1 : Int) : Rat))) : bs p.1 + bs p.2 ≤ 4 := by
  have e : bs ((1 : Int) : Rat) = 1 := by decide +kernel
  rw [z]
  show bs x + bs ((1 : Int) : Rat) ≤ 4
  omega
theorem len5 {n : Nat} (h : n ≤ 5) : (4 + 1) * n + 1 ≤ 26 := by omega
theorem len38 {n : Nat} (h : n ≤ 8) : (37 + 1) * n + 1 ≤ 305 := by omega
theorem half_all {q : Rat} {k : Int} (h0 : 0 ≤ k) (h1 : k < 3) (hq : 0 ≤ q) (hb : bs q ≤ 30) : 0 ≤ Rat.divInt (q.num * k) ((q.den : Int) * 2) ∧ Rat.divInt (q.num * k) ((q.den : Int) * 2) ≤ q ∧ bs (Rat.divInt (q.num * k) ((q.den : Int) * 2)) ≤ 32 := by
  rw [half_w]
  obtain ⟨a, b⟩ := half_in h0 h1
  have c : bs (Rat.divInt k 2) ≤ 2 := bs_divInt (by decide) (bi_small 2 (by omega)) (bi_small 2 (by decide))
  have d := bs_mul q (Rat.divInt k 2)
  refine ⟨Rat.mul_nonneg hq a, ?_, by omega⟩
  have e := Rat.mul_le_mul_of_nonneg_left b hq
  rw [Rat.mul_one] at e
  exact e
section
variable {st : List (U32 × Rat)} {sh : List Rat} {goal : U32} {r : Row32} {p e : Rat}
theorem price_pos (hm : ¬ r.2.1 = "most") (h0 : 0 ≤ p) (h1 : p ≤ e) (he : ¬ r.2.2.2.1 = 0 → e = roomR st sh goal r) : signB (r, p) = true ∧ roomB st sh goal (r, p) = true := by
  refine ⟨?_, ?_⟩
  · unfold signB
    dsimp only
    rw [decide_eq_false (show ¬ p < 0 by grind), decide_eq_false hm]; simp
  · by_cases h : r.2.2.2.1 = 0
    · exact room_yes0 h
    · have := he h
      exact room_yes1 (by show ¬ roomR st sh goal r < p; grind) (by show ¬ p < 0 - roomR st sh goal r; grind)
theorem price_neg (hm : ¬ r.2.1 = "least") (h0 : 0 ≤ p) (h1 : p ≤ e) (he : ¬ r.2.2.2.1 = 0 → e = roomR st sh goal r) : signB (r, -p) = true ∧ roomB st sh goal (r, -p) = true := by
  refine ⟨?_, ?_⟩
  · unfold signB
    dsimp only
    rw [decide_eq_false (show ¬ 0 < -p by grind), decide_eq_false hm]; simp
  · by_cases h : r.2.2.2.1 = 0
    · exact room_yes0 h
    · have := he h
      exact room_yes1 (by show ¬ roomR st sh goal r < -p; grind) (by show ¬ -p < 0 - roomR st sh goal r; grind)
end
structure Ev (st : List (U32 × Rat)) (sh : List Rat) (goal : U32) (names : List Str) (rows : List Row32) (prices : List Rat) : Prop where
  len : prices.length = rows.length
  row : ∀ r ∈ rows, Row31 r
  zz : ∀ (j : Nat) (r : Row32) (p : Rat), rows[j]? = some r → prices[j]? = some p → ((j < 7 ∧ bs p ≤ 32) ∨ (bs p ≤ 310 ∧ ∀ x q, gtd r.1 x = some q → x ∈ names)) ∧ signB (r, p) = true ∧ roomB st sh goal (r, p) = true
section
variable {st : List (U32 × Rat)} {sh : List Rat} {goal : U32} {names : List Str} {rows : List Row32} {prices : List Rat}
theorem Ev.small (E : Ev st sh goal names rows prices) {j : Nat} {r : Row32} {p y : Rat} {x : Str} (h1 : rows[j]? = some r) (h2 : prices[j]? = some p) (hg : gtd r.1 x = some y) (hN : x ∉ names) : (j < 7 ∧ bs p ≤ 32) ∧ bs y ≤ 5 := by
  refine ⟨?_, (E.row r (List.mem_of_getElem? h1)).pt _ _ hg⟩
  rcases (E.zz j r p h1 h2).1 with a | ⟨_, a⟩
  · exact a
  · exact absurd (a _ _ hg) hN
theorem ev_step {ts : List (Rat × Rat)} {i : Nat} {p y : Rat} (q1 : ∀ p ∈ ts, bs p.1 + bs p.2 ≤ 37) (q2 : ts.length ≤ min i 7) (h : (i < 7 ∧ bs p ≤ 32) ∧ bs y ≤ 5) : (∀ q ∈ ts ++ [(p, y)], bs q.1 + bs q.2 ≤ 37) ∧ (ts ++ [(p, y)]).length ≤ min (i + 1) 7 := by
  refine ⟨fun q m => (List.mem_append.mp m).elim (q1 q) fun z => ?_, ?_⟩
  · rw [List.mem_singleton.mp z]; show bs p + bs y ≤ 37; omega
  · rw [List.length_append]; show ts.length + 1 ≤ _; omega
theorem nodup_take {xs : List Str} {i : Nat} {x : Str} (h : xs.Nodup) (hx : xs[i]? = some x) : x ∉ xs.take i := fun m => by
  obtain ⟨j, hj⟩ := List.getElem?_of_mem m
  have jl : j < i := by
    rcases Nat.lt_or_ge j i with c | c
    · exact c
    · rw [List.getElem?_eq_none (by rw [List.length_take]; omega)] at hj; cases hj
  rw [List.getElem?_take_of_lt jl] at hj
  have il := (List.getElem?_eq_some_iff.mp hx).1
  have := (List.getElem?_inj (by omega) h).mp (hj.trans hx.symm)
  omega
theorem Ev.up {i : Nat} {xs : List Str} (E : Ev st sh goal (xs.take i) rows prices) : Ev st sh goal (xs.take (i + 1)) rows prices :=
  ⟨E.len, E.row, fun j r p h1 h2 => ⟨(E.zz j r p h1 h2).1.imp id fun a => ⟨a.1, fun x q e => List.mem_of_mem_take (i := i) (by rw [List.take_take, Nat.min_eq_left (Nat.le_succ i)]; exact a.2 x q e)⟩, (E.zz j r p h1 h2).2⟩⟩
theorem Ev.put {i : Nat} {xs : List Str} {x : Str} {p nm : Rat} (E : Ev st sh goal (xs.take i) rows prices) (hx : xs[i]? = some x) (hn : bs nm ≤ 5) (hp : bs p ≤ 310) : Ev st sh goal (xs.take (i + 1)) (rows ++ [((ptd [] x ((1 : Int) : Rat), "just", nm, 0, 1) : Row32)]) (prices ++ [p]) := by
  have gx : ∀ z q, gtd (ptd [] x ((1 : Int) : Rat)) z = some q → z = x ∧ q = ((1 : Int) : Rat) := fun z q e => by
    have e2 : gtd [(x, ((1 : Int) : Rat))] z = some q := e
    unfold gtd at e2
    by_cases c : x = z
    · rw [List.find?_cons_of_pos (by simpa using c)] at e2; exact ⟨c.symm, (Option.some.inj e2).symm⟩
    · rw [List.find?_cons_of_neg (by simpa using c)] at e2; cases e2
  refine ⟨by rw [List.length_append, List.length_append, E.len]; rfl, fun r m => (List.mem_append.mp m).elim (E.row r) fun z => ?_, fun j r q h1 h2 => ?_⟩
  · rw [List.mem_singleton.mp z]
    exact ⟨fun z q e => by rw [(gx z q e).2]; decide +kernel, .inr (.inr rfl), hn, (show (0 : Int) ≤ 0 ∧ (0 : Int) ≤ 4 by decide), (show (1 : Int) ≤ 1 ∧ (1 : Int) ≤ 9 by decide)⟩
  · rcases Nat.lt_or_ge j rows.length with c | c
    · rw [List.getElem?_append_left c] at h1
      rw [List.getElem?_append_left (by rw [E.len]; exact c)] at h2
      exact E.up.zz j r q h1 h2
    · have jl : j = rows.length := by
        have := (List.getElem?_eq_some_iff.mp h1).1
        rw [List.length_append] at this
        have t : j < rows.length + 1 := this
        omega
      rw [jl, List.getElem?_append_right (Nat.le_refl _), Nat.sub_self] at h1
      rw [jl, ← E.len, List.getElem?_append_right (Nat.le_refl _), Nat.sub_self] at h2
      have e1 := Option.some.inj h1
      have e2 := Option.some.inj h2
      rw [← e1, ← e2]
      refine ⟨.inr ⟨hp, fun z q e => ?_⟩, ?_, room_yes0 rfl⟩
      · rw [(gx z q e).1]
        exact List.mem_of_getElem? (i := i) (by rw [List.getElem?_take_of_lt (Nat.lt_succ_self i)]; exact hx)
      · unfold signB
        dsimp only
        rw [decide_eq_false (show ¬ ("just" : Str) = "least" by decide +kernel), decide_eq_false (show ¬ ("just" : Str) = "most" by decide +kernel)]; rfl
end
theorem two_den {q : Rat} (h : bs q ≤ 30) : bi ((q.den : Int) * 2) ≤ 7000 := by
  have a := bi_mul (q.den : Int) 2
  have b := bi_den q
  have c : bi 2 = 2 := by decide +kernel
  omega
theorem m1_le {q : Rat} (h : bs q ≤ 26) : bs ((((-1) : Int) : Rat), q).1 + bs ((((-1) : Int) : Rat), q).2 ≤ 37 := by
  show bs (((-1) : Int) : Rat) + bs q ≤ 37
  rw [show bs (((-1) : Int) : Rat) = 1 by decide +kernel]
  omega
theorem col_take {rows : List Row32} {prices : List Rat} {u : Str} {i : Nat} {r : Row32} {p : Rat} (h1 : rows[i]? = some r) (h2 : prices[i]? = some p) : wgtZ ((prices.zip (rows.map (fun r => (gtd r.1 u).getD 0))).take (i + 1)) = wgtZ ((prices.zip (rows.map (fun r => (gtd r.1 u).getD 0))).take i) + p * (gtd r.1 u).getD 0 :=
  wgtZ_snoc (zip_at h2 (by rw [List.getElem?_map, h1]; rfl))
theorem col_all (rows : List Row32) (prices : List Rat) (u : Str) : (prices.zip (rows.map (fun r => (gtd r.1 u).getD 0))).take (min rows.length prices.length) = prices.zip (rows.map (fun r => (gtd r.1 u).getD 0)) := List.take_of_length_le (by rw [List.length_zip, List.length_map]; omega)
theorem num_take {rows : List Row32} {prices : List Rat} {i : Nat} {r : Row32} {p : Rat} (h1 : rows[i]? = some r) (h2 : prices[i]? = some p) : wgtZ ((prices.zip (rows.map (·.2.2.1))).take (i + 1)) = wgtZ ((prices.zip (rows.map (·.2.2.1))).take i) + p * r.2.2.1 :=
  wgtZ_snoc (zip_at h2 (by rw [List.getElem?_map, h1]; rfl))
theorem num_all (rows : List Row32) (prices : List Rat) : (prices.zip (rows.map (·.2.2.1))).take (min rows.length prices.length) = prices.zip (rows.map (·.2.2.1)) := List.take_of_length_le (by rw [List.length_zip, List.length_map]; omega)
theorem set_take {st : List (U32 × Rat)} {sh : List Rat} {i : Nat} {t : U32 × Rat} {s : Rat} (h1 : st[i]? = some t) (h2 : sh[i]? = some s) : wgtZ ((sh.zip (st.map (·.2))).take (i + 1)) = wgtZ ((sh.zip (st.map (·.2))).take i) + s * t.2 :=
  wgtZ_snoc (zip_at h2 (by rw [List.getElem?_map, h1]; rfl))
theorem set_all (st : List (U32 × Rat)) (sh : List Rat) : (sh.zip (st.map (·.2))).take (min st.length sh.length) = sh.zip (st.map (·.2)) := List.take_of_length_le (by rw [List.length_zip, List.length_map]; omega)
theorem num_pos (q : Rat) : 0 < q.num ↔ 0 < q := by
  have := divInt_pos_iff (o := q.num) (den_pos q)
  rw [Rat.num_divInt_den] at this
  exact this.symm
section
variable {st : List (U32 × Rat)} {sh : List Rat} {goal : U32} {names un : List Str} {rows : List Row32} {prices : List Rat}
theorem Ev.ok (E : Ev st sh goal names rows prices) (l : rows.length ≤ 10) (l3 : st.length ≤ 4) (l4 : sh.length ≤ 4) (hs : ∀ s ∈ sh, 0 ≤ s ∧ bs s ≤ 3) (ht : ∀ p ∈ st, bs p.2 ≤ 5) : Ok31 rows st prices sh :=
  ⟨l, by have := E.len; omega, by omega, by omega, fun r h => Nat.le_trans (E.row r h).nm (by decide), fun r h => ⟨(E.row r h).wt.1, Int.le_trans (E.row r h).wt.2 (by decide)⟩, fun r h x q e => Nat.le_trans ((E.row r h).pt x q e) (by decide), fun p h => by
    obtain ⟨j, hj⟩ := List.getElem?_of_mem h
    have jl := (List.getElem?_eq_some_iff.mp hj).1
    rcases (E.zz j (rows[j]'(by have := E.len; omega)) p (List.getElem?_eq_getElem (by have := E.len; omega)) hj).1 with a | a
    · exact Nat.le_trans a.2 (by decide)
    · exact Nat.le_trans a.1 (by decide), fun s h => Nat.le_trans (hs s h).2 (by decide), fun p h => Nat.le_trans (ht p h) (by decide)⟩
theorem Ev.bsp (E : Ev st sh goal names rows prices) {j : Nat} {p : Rat} (h : prices[j]? = some p) : bs p ≤ 310 := by
  have jl := (List.getElem?_eq_some_iff.mp h).1
  rcases (E.zz j (rows[j]'(by have := E.len; omega)) p (List.getElem?_eq_getElem (by have := E.len; omega)) h).1 with a | a
  · exact Nat.le_trans a.2 (by decide)
  · exact a.1
theorem Ev.holds (E : Ev st sh goal names rows prices) (hs : ∀ s ∈ sh, 0 ≤ s ∧ bs s ≤ 3) (hl : sh.length = st.length) : holdsB rows un st goal prices sh = un.all (colB rows prices st sh goal) := by
  have f : ∀ rp ∈ rows.zip prices, signB rp = true ∧ roomB st sh goal rp = true := fun rp m => by
    obtain ⟨j, hj⟩ := List.getElem?_of_mem m
    obtain ⟨r, p⟩ := rp
    obtain ⟨a, b⟩ := List.getElem?_zip_eq_some.mp hj
    exact (E.zz j r p a b).2
  unfold holdsB
  rw [decide_eq_true E.len, decide_eq_true hl, List.all_eq_true.mpr (fun rp m => (f rp m).1), List.all_eq_true.mpr (fun rp m => (f rp m).2), show (sh.all fun s => !decide (s < 0)) = true from List.all_eq_true.mpr fun s m => by have := (hs s m).1; rw [decide_eq_false (by grind)]; rfl]
  simp
end
theorem Ev.nil {st : List (U32 × Rat)} {sh : List Rat} {goal : U32} {rows : List Row32} {prices : List Rat} (hl : prices.length = rows.length) (h7 : rows.length ≤ 7) (hr : ∀ r ∈ rows, Row31 r) (hp : ∀ (j : Nat) (p : Rat), prices[j]? = some p → ∃ r, rows[j]? = some r ∧ (signB (r, p) = true ∧ roomB st sh goal (r, p) = true) ∧ bs p ≤ 32) : Ev st sh goal [] rows prices :=
  ⟨hl, hr, fun j r p h1 h2 => by
    obtain ⟨r', e, a, b⟩ := hp j p h2
    have : r' = r := Option.some.inj (e.symm.trans h1)
    subst this
    have jl := (List.getElem?_eq_some_iff.mp h1).1
    exact ⟨.inl ⟨by omega, b⟩, a⟩⟩
theorem some_ok {n : Int} (h0 : 0 ≤ n) (h1 : n < 3) : 1 ≤ (cutA (["left a", "b", "gap cc"] : List Str) none (some (1 + n))).length ∧ (cutA (["left a", "b", "gap cc"] : List Str) none (some (1 + n))).length ≤ 3 ∧ (cutA (["left a", "b", "gap cc"] : List Str) none (some (1 + n))).Nodup := by
  have : n = 0 ∨ n = 1 ∨ n = 2 := by omega
  rcases this with rfl | rfl | rfl <;> decide +kernel
theorem col_word {c k : Rat} : (0 < (c + ((-1 : Int) : Rat) * k).num) ↔ k < c := by
  rw [num_pos, show ((-1 : Int) : Rat) = -1 by decide +kernel]
  constructor <;> intro h <;> grind
theorem snoc_at {α : Type} {ts : List α} {x y : α} {j : Nat} (h : (ts ++ [x])[j]? = some y) : ts[j]? = some y ∨ (j = ts.length ∧ y = x) := by
  rcases Nat.lt_or_ge j ts.length with c | c
  · rw [List.getElem?_append_left c] at h; exact .inl h
  · have l := (List.getElem?_eq_some_iff.mp h).1
    rw [List.length_append] at l
    have l : j < ts.length + 1 := l
    have e : j = ts.length := by omega
    rw [e, List.getElem?_append_right (Nat.le_refl _), Nat.sub_self] at h
    exact .inr ⟨e, (Option.some.inj h).symm⟩
theorem all_no1 {α : Type} {z : List α} {f : α → Bool} {i : Nat} {p : α} (h : z[i]? = some p) (hp : f p = false) : false = (z.take (i + 1)).all f := by rw [takeS h, List.all_append]; simp [hp]
theorem all_more {α : Type} {z : List α} {f : α → Bool} {i : Nat} {p : α} {g : Bool} (h : z[i]? = some p) (hp : f p = true) (g0 : g = (z.take i).all f) : g = (z.take (i + 1)).all f := by rw [takeS h, List.all_append, ← g0]; simp [hp]
section
variable {st : List (U32 × Rat)} {sh : List Rat} {goal : U32} {rows : List Row32} {prices : List Rat} {u : Str} {ts : List (Rat × Rat)}
theorem colB_no (q0 : wgtZ ts = wgtZ (prices.zip (rows.map (fun r => (gtd r.1 u).getD 0)))) (c : 0 < (wgtZ (ts ++ [((((-1) : Int) : Rat), cntR st sh goal (.inr u))])).num) : colB rows prices st sh goal u = false := by
  rw [wgt_one, col_word, q0] at c
  unfold colB colR
  rw [decide_eq_true c]; rfl
theorem colB_yes (q0 : wgtZ ts = wgtZ (prices.zip (rows.map (fun r => (gtd r.1 u).getD 0)))) (c : ¬ 0 < (wgtZ (ts ++ [((((-1) : Int) : Rat), cntR st sh goal (.inr u))])).num) : colB rows prices st sh goal u = true := by
  rw [wgt_one, col_word, q0] at c
  unfold colB colR
  rw [decide_eq_false c]; rfl
theorem col_yes {i : Nat} {r : Row32} {p y : Rat} (h1 : rows[i]? = some r) (h2 : prices[i]? = some p) (hg : gtd r.1 u = some y) (q0 : wgtZ ts = wgtZ ((prices.zip (rows.map (fun r => (gtd r.1 u).getD 0))).take i)) : wgtZ (ts ++ [(p, y)]) = wgtZ ((prices.zip (rows.map (fun r => (gtd r.1 u).getD 0))).take (i + 1)) := by
  rw [wgt_one, col_take h1 h2, q0, hg]; rfl
theorem col_no {i : Nat} {r : Row32} {p : Rat} (h1 : rows[i]? = some r) (h2 : prices[i]? = some p) (hg : (gtd r.1 u).isSome = false) (q0 : wgtZ ts = wgtZ ((prices.zip (rows.map (fun r => (gtd r.1 u).getD 0))).take i)) : wgtZ ts = wgtZ ((prices.zip (rows.map (fun r => (gtd r.1 u).getD 0))).take (i + 1)) := by
  rw [col_take h1 h2, q0, Option.isSome_eq_false_iff.mp hg |> Option.isNone_iff_eq_none.mp]
  show _ = _ + p * 0
  rw [Rat.mul_zero, Rat.add_zero]
end
theorem mem315 {ts : List (Rat × Rat)} {p y : Rat} (q1 : ∀ p ∈ ts, bs p.1 + bs p.2 ≤ 315) (hp : bs p ≤ 310) (hy : bs y ≤ 5) : ∀ q ∈ ts ++ [(p, y)], bs q.1 + bs q.2 ≤ 315 := fun q m => (List.mem_append.mp m).elim (q1 q) fun z => by rw [List.mem_singleton.mp z]; show bs p + bs y ≤ 315; omega
theorem ask_dead {h g : Bool} {r : Option Rat × Bool} {q : Rat} (a : (h = true → r = (some q, false)) ∧ (h = false → r.2 = true)) (e : h = g) (c : (r.2 == g) = true) : False := by
  subst e
  cases h with
  | true => rw [a.1 rfl] at c; cases c
  | false => rw [a.2 rfl] at c; cases c
theorem pr_step {ts : List Rat} {rows : List Row32} {q : Rat} {r : Row32} {i : Nat} (P : Row32 → Rat → Prop) (pl : ts.length = i) (hra : rows[i]? = some r) (hpr : ∀ (j : Nat) (p : Rat), ts[j]? = some p → ∃ r, rows[j]? = some r ∧ P r p) (hq : P r q) : (ts ++ [q]).length = i + 1 ∧ ∀ (j : Nat) (p : Rat), (ts ++ [q])[j]? = some p → ∃ r, rows[j]? = some r ∧ P r p :=
  ⟨by rw [List.length_append, pl]; rfl, fun j p e => (snoc_at e).elim (hpr j p) fun z => ⟨r, by rw [z.1, pl]; exact hra, by rw [z.2]; exact hq⟩⟩
def sp_law_add (K : PySem.W.Frag) : Sp := fun vs H Q _ => Ex4 fun (F : Hp) (v_pairs : V) (pairs : (List (Rat × Rat))) (n : Nat) => Cj5 (vs = [v_pairs]) (Same F H) ((rL K (r2 K (rFr K) (rFr K))) F v_pairs pairs) (pairs.length ≤ 15 ∧ n ≤ 400 ∧ ∀ p ∈ pairs, bs p.1 + bs p.2 ≤ n) (∀ (v : V) (F' H' : Hp), Gr F H F' H' → (rFr K) F' v (wgtZ pairs) → (bs (wgtZ pairs) ≤ (n + 1) * pairs.length + 1) → Q v H')
set_option linter.unusedVariables false in
theorem ok_law_add (T : Tx K mg) : FnOk P w K mg base CX0 3 T.a_law_add T.d_law_add ["_law_pairs"] (sp_law_add K) := by
  refine T.F_law_add.ok sc_law_add (fun vs H Q E h => ?_) (fun cdv A outer s H vs Q E hr h => ?_)
  · obtain ⟨F, v_pairs, pairs, n, rfl, _⟩ := h
    rfl
  · obtain ⟨F, v_pairs, pairs, n, rfl, wd, r_pairs, hpre, k⟩ := h
    have hu := hu_of hr
    have gb := Gr0.refl wd
    have cm := Fz.refl F
    obtain ⟨a1, vs2, rfl, sq3, al4⟩ := r_pairs
    obtain ⟨w1, w2, w3⟩ := hpre
    refine ⟨_, (ZSs.h (zss_cons (ps_set (i := 1) sc_law_add.nd rfl (Or.inl rfl) (pe_tup (pa_cons pe_int (pa_cons pe_int pa_nil))))
          (zss_cons (ps_for PassesOwn.never rfl (pi_list (pv 0)) (pg_tup rfl (pgs_cons (pg_name (i := 2) sc_law_add.nd rfl (Or.inl rfl)) (pgs_cons (pg_name (i := 3) sc_law_add.nd rfl (Or.inl rfl)) pgs_nil))) (ZSs.h (zss_cons (ps_set (i := 4) sc_law_add.nd rfl (Or.inl rfl) (pe_op op_add (pe_op op_mulB (pe_op op_mulB (pe_ix ix_tup (pv 1) pe_int (fun _ _ => rfl)) (pe_ix ix_tup (pv 2) pe_int (fun _ _ => rfl))) (pe_ix ix_tup (pv 3) pe_int (fun _ _ => rfl))) (pe_op op_mulB (pe_op op_mulB (pe_ix ix_tup (pv 2) pe_int (fun _ _ => rfl)) (pe_ix ix_tup (pv 3) pe_int (fun _ _ => rfl))) (pe_ix ix_tup (pv 1) pe_int (fun _ _ => rfl)))))
          (zss_one (ps_set (i := 1) sc_law_add.nd rfl (Or.inl rfl) (pe_call ((ok_law_lowest T).mono (by decide)) hr rfl T.m_law_lowest T.F_law_lowest.kp T.b_law_lowest .nil pass0 (pa_cons (pv 4) (pa_cons (pe_op op_mulB (pe_op op_mulB (pe_ix ix_tup (pv 1) pe_int (fun _ _ => rfl)) (pe_ix ix_tup (pv 2) pe_int (fun _ _ => rfl))) (pe_ix ix_tup (pv 3) pe_int (fun _ _ => rfl))) pa_nil))))))))
          (zss_one (ps_ret (pv 1)))))), ?_⟩
    refine a_seq ?_
    refine a_asg ?_
    refine a_tup ?_
    refine a_cons ?_
    refine a_c ?_
    refine a_cons ?_
    refine a_c ?_
    refine a_nil ?_
    refine ⟨by show 2 ≤ sizeLine; decide, fun p5 hp6 => ?_⟩
    obtain ⟨F7, g9, e10⟩ := al2 (o := (.tup [V.int 0, V.int 1])) gb.s (by intro _ _ z; cases z) hp6
    generalize upd H p5 (.tup [V.int 0, V.int 1]) = H8 at g9 ⊢
    have gb11 := gb.tr g9
    have le12 := g9.le
    have cm13 := g9.fz cm
    have sq14 : SqT K F7 p5 (fr ((0 : Int) : Rat)) := by rw [fr_int]; exact SqT.of e10
    refine a_name ?_
    try dsimp only
    refine a_seq ?_
    refine a_for ?_
    refine a_ilist ?_
    refine a_var rfl ?_
    refine ⟨_, rfl, ⟨_, (Same.seq gb11.s (Le.lst le12 sq3))⟩, for_list (xs := vs2) (K := K) (a := a1) (fun i σ' H' => Ex6 fun (F15 : Hp) (v_found16 : V) (found16 : Rat) (o17 : Option V) (o18 : Option V) (o19 : Option V) => Cj6 (σ' = [some (V.ref a1), some v_found16, o18, o19, o17]) (Gr0 F H F15 H') (Fz (frzd F) F15) (Le F7 F15) ((rFr K) F15 v_found16 found16) ((found16 = wgtZ (pairs.take i) ∧ bs found16 ≤ (n + 1) * i + 1))) ?_ ?_ ?_ ?_⟩
    · exact ⟨F7, _, ((0 : Int) : Rat), _, _, _, rfl, gb11, cm13, Le.refl _, ⟨_, rfl, sq14⟩, by exact ⟨cast0, by rw [Nat.mul_zero]; decide +kernel⟩⟩
    · rintro i σ' H20 _ ⟨F21, v_found25, found25, o26, o27, o28, rfl, gb22, cm23, le24, hr29, ⟨q0, q1⟩⟩
      obtain ⟨a30, rfl, sq31⟩ := hr29
      exact (Same.seq gb22.s (Le.lst (le12.trans le24) sq3))
    · rintro i32 y35 σ' H33 hi34 ⟨F36, v_found40, found40, o41, o42, o43, rfl, gb37, cm38, le39, hr44, ⟨q0, q1⟩⟩
      obtain ⟨a45, rfl, sq46⟩ := hr44
      obtain ⟨x47, hx48, hr49⟩ := Al.get (Al.mo (le12.trans le39) al4) hi34
      obtain ⟨a50, v52, v53, rfl, sq51, h54, h55⟩ := hr49
      obtain ⟨a56, rfl, sq57⟩ := h54
      obtain ⟨a58, rfl, sq59⟩ := h55
      refine a_gtup2 (Same.tup gb37.s sq51) ?_
      try dsimp only
      have u1 := w3 _ (List.mem_of_getElem? hx48)
      have hx9 := hx48
      have u3 := (List.getElem?_eq_some_iff.mp hx48).1
      have u4 : (n + 1) * i32 ≤ (n + 1) * 14 := Nat.mul_le_mul_left _ (by omega)
      have u5 : (n + 1) * (i32 + 1) = (n + 1) * i32 + (n + 1) := Nat.mul_succ _ _
      have d1 := den_pos found40
      have d2 := den_pos x47.1
      have d3 := den_pos x47.2
      have c1 := bs_add found40 (x47.1 * x47.2)
      have c2 := bs_mul x47.1 x47.2
      refine a_seq ?_
      refine a_asg ?_
      refine a_op ?_
      refine a_op ?_
      refine a_op ?_
      refine a_op ?_
      refine a_var rfl ?_
      refine a_c ?_
      refine a_ixT (Same.tup gb37.s sq46) (fr0 found40) ?_
      have b60 := bi_num found40
      refine a_op ?_
      refine a_var rfl ?_
      refine a_c ?_
      refine a_ixT (Same.tup gb37.s sq57) (fr1 x47.1) ?_
      have b61 := bi_den x47.1
      refine a_I (by walk_at "om") ?_
      have b62 := bi_mul found40.num (x47.1.den : Int)
      refine a_op ?_
      refine a_var rfl ?_
      refine a_c ?_
      refine a_ixT (Same.tup gb37.s sq59) (fr1 x47.2) ?_
      have b63 := bi_den x47.2
      refine a_I (by walk_at "om") ?_
      have b64 := bi_mul (found40.num * (x47.1.den : Int)) (x47.2.den : Int)
      refine a_op ?_
      refine a_op ?_
      refine a_op ?_
      refine a_var rfl ?_
      refine a_c ?_
      refine a_ixT (Same.tup gb37.s sq57) (fr0 x47.1) ?_
      have b65 := bi_num x47.1
      refine a_op ?_
      refine a_var rfl ?_
      refine a_c ?_
      refine a_ixT (Same.tup gb37.s sq59) (fr0 x47.2) ?_
      have b66 := bi_num x47.2
      refine a_I (by walk_at "om") ?_
      have b67 := bi_mul x47.1.num x47.2.num
      refine a_op ?_
      refine a_var rfl ?_
      refine a_c ?_
      refine a_ixT (Same.tup gb37.s sq46) (fr1 found40) ?_
      have b68 := bi_den found40
      refine a_I (by walk_at "om") ?_
      have b69 := bi_mul (x47.1.num * x47.2.num) (found40.den : Int)
      refine a_I0 ?_
      have b70 := bi_add ((found40.num * (x47.1.den : Int)) * (x47.2.den : Int)) ((x47.1.num * x47.2.num) * (found40.den : Int))
      refine a_name ?_
      try dsimp only
      refine a_asg ?_
      refine a_call ?_
      refine a_cons ?_
      refine a_var rfl ?_
      refine a_cons ?_
      refine a_op ?_
      refine a_op ?_
      refine a_op ?_
      refine a_var rfl ?_
      refine a_c ?_
      refine a_ixT (Same.tup gb37.s sq46) (fr1 found40) ?_
      have b71 := bi_den found40
      refine a_op ?_
      refine a_var rfl ?_
      refine a_c ?_
      refine a_ixT (Same.tup gb37.s sq57) (fr1 x47.1) ?_
      have b72 := bi_den x47.1
      refine a_I (by walk_at "om") ?_
      have b73 := bi_mul (found40.den : Int) (x47.1.den : Int)
      refine a_op ?_
      refine a_var rfl ?_
      refine a_c ?_
      refine a_ixT (Same.tup gb37.s sq59) (fr1 x47.2) ?_
      have b74 := bi_den x47.2
      refine a_I (by walk_at "om") ?_
      have b75 := bi_mul ((found40.den : Int) * (x47.1.den : Int)) (x47.2.den : Int)
      refine a_nil ?_
      refine ⟨F36, _, _, (((found40.num * (x47.1.den : Int)) * (x47.2.den : Int)) + ((x47.1.num * x47.2.num) * (found40.den : Int))), (((found40.den : Int) * (x47.1.den : Int)) * (x47.2.den : Int)), rfl, gb37.s, rfl, rfl, (by exact ⟨Int.mul_pos (Int.mul_pos d1 d2) d3, by omega⟩), ?_⟩
      rintro v76 F77 H78  g80 hr81 
      have gb83 := gb37.tr g80
      have le84 := g80.le
      have cm85 := g80.fz cm38
      obtain ⟨a86, rfl, sq87⟩ := hr81
      refine a_name ?_
      try dsimp only
      exact ⟨F77, _, (Rat.divInt ((((found40.num * (x47.1.den : Int)) * (x47.2.den : Int)) + ((x47.1.num * x47.2.num) * (found40.den : Int)))) ((((found40.den : Int) * (x47.1.den : Int)) * (x47.2.den : Int)))), _, _, _, rfl, gb83, cm85, (le39.trans le84), ⟨_, rfl, sq87⟩, by exact ⟨by rw [frac3, wgtZ_snoc hx9, q0], by rw [frac3]; omega⟩⟩
    · rintro σ' H88 ⟨F89, v_found93, found93, o94, o95, o96, rfl, gb90, cm91, le92, hr97, ⟨q0, q1⟩⟩
      obtain ⟨a98, rfl, sq99⟩ := hr97
      have hlen := Al.length (Al.mo (le12.trans le92) al4)
      try dsimp only
      rw [hlen, List.take_length] at q0
      rw [hlen] at q1
      refine a_ret ?_
      refine a_var rfl ?_
      have hval : (found93 : Rat) = (wgtZ pairs) := by exact q0
      have rp100 : (rFr K) F89 (V.ref a98) (found93) := ⟨_, rfl, sq99⟩
      replace rp100 := Eq.mp (congrArg ((rFr K) F89 (V.ref a98)) hval) rp100
      exact k _ _ _ (Gr.of gb90 cm91) rp100 (by rw [← hval]; exact q1)
def sp_law_small (K : PySem.W.Frag) : Sp := fun vs H Q _ => Ex3 fun (F : Hp) (v_mixed : V) (mixed : Int) => Cj4 (vs = [v_mixed]) (Same F H) (rI F v_mixed mixed) (∀ (v : V) (F' H' : Hp) (r : Rat), Gr F H F' H' → (rFr K) F' v r → (bs r ≤ 5) → Q v H')
set_option linter.unusedVariables false in
theorem ok_law_small (T : Tx K mg) : FnOk P w K mg base CX0 3 T.a_law_small T.d_law_small ["_law_mixed"] (sp_law_small K) := by
  refine T.F_law_small.ok sc_law_small (fun vs H Q E h => ?_) (fun cdv A outer s H vs Q E hr h => ?_)
  · obtain ⟨F, v_mixed, mixed, rfl, _⟩ := h
    rfl
  · obtain ⟨F, v_mixed, mixed, rfl, wd, r_mixed, k⟩ := h
    have hu := hu_of hr
    have gb := Gr0.refl wd
    have cm := Fz.refl F
    obtain rfl : v_mixed = V.int mixed := r_mixed
    refine ⟨_, (pss_one (ps_ret (pe_call ((ok_law_lowest T).mono (by decide)) hr rfl T.m_law_lowest T.F_law_lowest.kp T.b_law_lowest .nil pass0 (pa_cons (pe_op op_sub (pe_op op_mod (pv 0) pe_int) pe_int) (pa_cons (pe_op op_add pe_int (pe_op op_mod (pe_op op_fdiv (pv 0) pe_int) pe_int)) pa_nil))))), ?_⟩
    refine a_ret ?_
    refine a_call ?_
    refine a_cons ?_
    refine a_op ?_
    refine a_op ?_
    refine a_var rfl ?_
    refine a_c ?_
    refine a_I (by decide) ?_
    have m1 : 0 ≤ (mixed % 19) ∧ (mixed % 19) < 19 := ⟨Int.emod_nonneg _ (by decide), Int.emod_lt_of_pos _ (by decide)⟩
    refine a_c ?_
    refine a_I0 ?_
    refine a_cons ?_
    refine a_op ?_
    refine a_c ?_
    refine a_op ?_
    refine a_op ?_
    refine a_var rfl ?_
    refine a_c ?_
    refine a_I ⟨by decide, by decide⟩ ?_
    refine a_c ?_
    refine a_I (by decide) ?_
    have m2 : 0 ≤ ((mixed / 19) % 3) ∧ ((mixed / 19) % 3) < 3 := ⟨Int.emod_nonneg _ (by decide), Int.emod_lt_of_pos _ (by decide)⟩
    refine a_I0 ?_
    refine a_nil ?_
    refine ⟨F, _, _, ((mixed % 19) - 6), (1 + ((mixed / 19) % 3)), rfl, gb.s, rfl, rfl, (by exact ⟨by omega, Nat.le_trans (bi_small 5 (by omega)) (by decide)⟩), ?_⟩
    rintro v3 F4 H5  g7 hr8 
    have gb10 := gb.tr g7
    have le11 := g7.le
    have cm12 := g7.fz cm
    obtain ⟨a13, rfl, sq14⟩ := hr8
    exact k _ _ _ ((Rat.divInt (((mixed % 19) - 6)) ((1 + ((mixed / 19) % 3))))) (Gr.of gb10 cm12) (⟨_, rfl, sq14⟩) (by exact bs_divInt (by omega) (bi_small 5 (by omega)) (bi_small 5 (by omega)))
def sp_law_row (K : PySem.W.Frag) : Sp := fun vs H Q _ => Ex5 fun (F : Hp) (v_cell : V) (v_some' : V) (cell : Int) (some' : (List Str)) => Cj6 (vs = [v_cell, v_some']) (Same F H) (rI F v_cell cell) ((rL K rS) F v_some' some') (some'.length ≤ 3) (∀ (v : V) (F' H' : Hp) (r : ((List (Str × Rat)) × Str × Rat × Int × Int)), Gr F H F' H' → (r5 K (rD (rFr K)) rS (rFr K) rI rI) F' v r → (Row31 r) → Q v H')
set_option linter.unusedVariables false in
theorem ok_law_row (T : Tx K mg) : FnOk P w K mg base CX0 4 T.a_law_row T.d_law_row ["_law_cell", "_law_some"] (sp_law_row K) := by
  refine T.F_law_row.ok sc_law_row (fun vs H Q E h => ?_) (fun cdv A outer s H vs Q E hr h => ?_)
  · obtain ⟨F, v_cell, v_some', cell, some', rfl, _⟩ := h
    rfl
  · obtain ⟨F, v_cell, v_some', cell, some', rfl, wd, r_cell, r_some', hpre, k⟩ := h
    have hu := hu_of hr
    have gb := Gr0.refl wd
    have cm := Fz.refl F
    obtain rfl : v_cell = V.int cell := r_cell
    obtain ⟨a1, vs2, rfl, sq3, al4⟩ := r_some'
    refine ⟨_, (ZSs.h (zss_cons (ps_set (i := 2) sc_law_row.nd rfl (Or.inl rfl) pe_dnewK)
          (zss_cons (ps_for PassesOwn.never rfl (pi_enum rfl T.z_enumerate (pa_cons (pv 1) pa_nil)) (pg_tup rfl (pgs_cons (pg_name (i := 3) sc_law_row.nd rfl (Or.inl rfl)) (pgs_cons (pg_name (i := 4) sc_law_row.nd rfl (Or.inl rfl)) pgs_nil))) (ZSs.h (zss_cons (ps_set (i := 5) sc_law_row.nd rfl (Or.inl rfl) (pe_call ((ok_law_small T).mono (by decide)) hr rfl T.m_law_small T.F_law_small.kp T.b_law_small .nil pass0 (pa_cons (pe_call ((ok_law_mix T).mono (by decide)) hr rfl T.m_law_mix T.F_law_mix.kp T.b_law_mix .nil pass0 (pa_cons (pv 0) (pa_cons (pe_op op_add (pv 3) pe_int) pa_nil))) pa_nil)))
          (zss_one (ps_if (PW.pt (pw_and (pt_cmpR op_ne (pe_ix ix_tup (pv 5) pe_int (fun _ _ => rfl)) pe_int (nomark _)) (pw_and1 (pt_cmpR op_gt (pe_op op_mod (pe_call ((ok_law_mix T).mono (by decide)) hr rfl T.m_law_mix T.F_law_mix.kp T.b_law_mix .nil pass0 (pa_cons (pv 0) (pa_cons (pe_op op_add (pv 3) pe_int) pa_nil))) pe_int) pe_int (nomark _))))) (pss_one (ps_dput hu (pv 2) (pv 4) (pv 5) rfl)) pss_nil)))))
          (zss_cons (ps_set (i := 6) sc_law_row.nd rfl (Or.inl rfl) (pe_ix ix_list (pe_lst (pa_cons pe_str (pa_cons pe_str (pa_cons pe_str pa_nil)))) (pe_op op_mod (pe_call ((ok_law_mix T).mono (by decide)) hr rfl T.m_law_mix T.F_law_mix.kp T.b_law_mix .nil pass0 (pa_cons (pv 0) (pa_cons pe_int pa_nil))) pe_int) (fun _ _ => rfl)))
          (zss_one (ps_ret (pe_tup (pa_cons (pv 2) (pa_cons (pv 6) (pa_cons (pe_call ((ok_law_small T).mono (by decide)) hr rfl T.m_law_small T.F_law_small.kp T.b_law_small .nil pass0 (pa_cons (pe_call ((ok_law_mix T).mono (by decide)) hr rfl T.m_law_mix T.F_law_mix.kp T.b_law_mix .nil pass0 (pa_cons (pv 0) (pa_cons pe_int pa_nil))) pa_nil)) (pa_cons (pe_op op_mod (pe_call ((ok_law_mix T).mono (by decide)) hr rfl T.m_law_mix T.F_law_mix.kp T.b_law_mix .nil pass0 (pa_cons (pv 0) (pa_cons pe_int pa_nil))) pe_int) (pa_cons (pe_op op_add pe_int (pe_op op_mod (pe_call ((ok_law_mix T).mono (by decide)) hr rfl T.m_law_mix T.F_law_mix.kp T.b_law_mix .nil pass0 (pa_cons (pv 0) (pa_cons pe_int pa_nil))) pe_int)) pa_nil)))))))))))), ?_⟩
    refine a_seq ?_
    refine a_asg ?_
    refine fun p5 hp6 => ?_
    obtain ⟨gb8, sm9, hb10, oF11, oH12, ne13⟩ := alo2 (o := (.dK [])) gb hp6
    generalize upd H p5 (.dK []) = H7 at gb8 sm9 oH12 ⊢
    refine a_name ?_
    try dsimp only
    refine a_seq ?_
    refine a_for ?_
    refine a_ienum ?_
    refine a_cons ?_
    refine a_var rfl ?_
    refine a_nil ?_
    refine ⟨_, rfl, ⟨_, (Same.seq gb8.s sq3)⟩, for_enum (xs := vs2) (K := K) (a := a1) (fun i σ' H' => Ex6 fun (F14 : Hp) (kv15 : List (Key × V)) (parts16 : List (Str × Rat)) (o17 : Option V) (o18 : Option V) (o19 : Option V) => Cj9 (σ' = [some (V.int cell), some (V.ref a1), some (V.ref p5), o18, o19, o17, none]) (Gr0 F H F14 H') (Fz (frzd F) F14) (Le F F14) (H' p5 = some (.dK kv15)) (F14 p5 = none) (Dk (rFr K) F14 kv15 parts16) ((parts16.map (·.1)).Nodup) (((∀ x q, gtd parts16 x = some q → bs q ≤ 5) ∧ parts16.length ≤ i))) ?_ ?_ ?_ ?_⟩
    · exact ⟨F, _, [], _, _, _, rfl, gb8, cm, Le.refl _, oH12, oF11, True.intro, List.nodup_nil, by exact ⟨fun x q e => (by cases e), Nat.le_refl _⟩⟩
    · rintro i σ' H20 _ ⟨F21, kv25, m26, o27, o28, o29, rfl, gb22, cm23, le24, oH30, oF31, dk32, nd33, ⟨q1, q2⟩⟩
      exact (Same.seq gb22.s (Le.lst le24 sq3))
    · rintro i34 y37 σ' H35 p51 hi36 ⟨F38, kv42, m43, o44, o45, o46, rfl, gb39, cm40, le41, oH47, oF48, dk49, nd50, ⟨q1, q2⟩⟩ hp52
      obtain ⟨x53, hx54, hr55⟩ := Al.get (Al.mo le41 al4) hi36
      obtain rfl : y37 = V.str x53 := hr55
      refine it2 (K := K) gb39.s hp52 (fun F56 H57 g58 e59 => ?_)
      have gb60 := gb39.tr g58
      have le61 := g58.le
      have oH62 := g58.h _ _ oH47
      have oF63 := g58.own oF48 oH47
      have cm64 := g58.fz cm40
      try dsimp only
      have hil := (List.getElem?_eq_some_iff.mp hx54).1
      have u1 : i34 ≤ 2 := by omega
      refine a_seq ?_
      refine a_asg ?_
      refine a_call ?_
      refine a_cons ?_
      refine a_call ?_
      refine a_cons ?_
      refine a_var rfl ?_
      refine a_cons ?_
      refine a_op ?_
      refine a_var rfl ?_
      refine a_c ?_
      refine a_I0 ?_
      refine a_nil ?_
      refine ⟨F56, _, _, cell, ((i34 : Int) + 1), rfl, gb60.s, rfl, rfl, ?_⟩
      rintro v65 F66 H67 r68 g69 hr70 hp71
      have gb72 := gb60.tr g69
      have le73 := g69.le
      have oH74 := g69.h _ _ oH62
      have oF75 := g69.own oF63 oH62
      have cm76 := g69.fz cm64
      obtain rfl : v65 = V.int r68 := hr70
      refine a_nil ?_
      refine ⟨F66, _, r68, rfl, gb72.s, rfl, ?_⟩
      rintro v77 F78 H79 r80 g81 hr82 hp83
      have gb84 := gb72.tr g81
      have le85 := g81.le
      have oH86 := g81.h _ _ oH74
      have oF87 := g81.own oF75 oH74
      have cm88 := g81.fz cm76
      obtain ⟨a89, rfl, sq90⟩ := hr82
      refine a_name ?_
      try dsimp only
      refine a_if ?_
      refine a_and ?_
      refine a_test ?_
      refine a_op ?_
      refine a_op ?_
      refine a_var rfl ?_
      refine a_c ?_
      refine a_ixT (Same.tup gb84.s sq90) (fr0 r80) ?_
      refine a_c ?_
      refine a_neI ?_
      refine a_bl ?_
      refine iteDN (fun c91 => ?_) (fun c91 => ?_)
      · refine a_test ?_
        refine a_op ?_
        refine a_op ?_
        refine a_call ?_
        refine a_cons ?_
        refine a_var rfl ?_
        refine a_cons ?_
        refine a_op ?_
        refine a_var rfl ?_
        refine a_c ?_
        refine a_I0 ?_
        refine a_nil ?_
        refine ⟨F78, _, _, cell, ((i34 : Int) + 5), rfl, gb84.s, rfl, rfl, ?_⟩
        rintro v92 F93 H94 r95 g96 hr97 hp98
        have gb99 := gb84.tr g96
        have le100 := g96.le
        have oH101 := g96.h _ _ oH86
        have oF102 := g96.own oF87 oH86
        have cm103 := g96.fz cm88
        obtain rfl : v92 = V.int r95 := hr97
        refine a_c ?_
        refine a_I (by decide) ?_
        have m104 : 0 ≤ (r95 % 4) ∧ (r95 % 4) < 4 := ⟨Int.emod_nonneg _ (by decide), Int.emod_lt_of_pos _ (by decide)⟩
        refine a_c ?_
        refine a_I0 ?_
        refine a_bl ?_
        refine iteD (fun c105 => ?_) (fun c105 => ?_)
        · refine a_dput ?_
          refine a_var rfl ?_
          refine a_var rfl ?_
          refine a_var rfl ?_
          refine a_dputK oH101 (by rw [Dk.length (Dk.mo (((le61.trans le73).trans le85).trans le100) dk49)]; omega) (chg gb99 hb10 oF102 (fun H106 gb107 oH108 ne109 => ?_))
          try dsimp only
          exact ⟨F93, _, (ptd m43 x53 r80), _, _, _, rfl, gb107, cm103, ((((le41.trans le61).trans le73).trans le85).trans le100), oH108, oF102, (Dk.put (x := x53) ⟨_, rfl, (Le.tup le100 sq90)⟩ (Dk.mo (((le61.trans le73).trans le85).trans le100) dk49)), (nd_ptd nd50 x53 r80), by first | exact ⟨ptd_all q1 (by assumption), Nat.le_trans (ptd_len _ _ _) (by omega)⟩ | exact ⟨q1, by omega⟩⟩
        · refine a_next ?_
          try dsimp only
          exact ⟨F93, _, m43, _, _, _, rfl, gb99, cm103, ((((le41.trans le61).trans le73).trans le85).trans le100), oH101, oF102, (Dk.mo (((le61.trans le73).trans le85).trans le100) dk49), nd50, by first | exact ⟨ptd_all q1 (by assumption), Nat.le_trans (ptd_len _ _ _) (by omega)⟩ | exact ⟨q1, by omega⟩⟩
      · refine iteF ?_
        refine a_next ?_
        try dsimp only
        exact ⟨F78, _, m43, _, _, _, rfl, gb84, cm88, (((le41.trans le61).trans le73).trans le85), oH86, oF87, (Dk.mo ((le61.trans le73).trans le85) dk49), nd50, by first | exact ⟨ptd_all q1 (by assumption), Nat.le_trans (ptd_len _ _ _) (by omega)⟩ | exact ⟨q1, by omega⟩⟩
    · rintro σ' H110 ⟨F111, kv115, m116, o117, o118, o119, rfl, gb112, cm113, le114, oH120, oF121, dk122, nd123, ⟨q1, q2⟩⟩
      have hlen := Al.length (Al.mo le114 al4)
      try dsimp only
      refine a_seq ?_
      refine a_asg ?_
      refine a_op ?_
      refine a_lst ?_
      refine a_cons ?_
      refine a_c ?_
      have ln124 : ("least" : Str).length = 5 := by decide +kernel
      refine a_cons ?_
      refine a_c ?_
      have ln125 : ("most" : Str).length = 4 := by decide +kernel
      refine a_cons ?_
      refine a_c ?_
      have ln126 : ("just" : Str).length = 4 := by decide +kernel
      refine a_nil ?_
      refine ⟨by show 3 ≤ sizeLine; decide, fun p127 hp128 => ?_⟩
      obtain ⟨F129, g131, e132⟩ := al2 (o := (.lst [V.str ("least" : Str), V.str ("most" : Str), V.str ("just" : Str)])) gb112.s (by intro _ _ z; cases z) hp128
      generalize upd H110 p127 (.lst [V.str ("least" : Str), V.str ("most" : Str), V.str ("just" : Str)]) = H130 at g131 ⊢
      have gb133 := gb112.tr g131
      have le134 := g131.le
      have oH135 := g131.h _ _ oH120
      have oF136 := g131.own oF121 oH120
      have cm137 := g131.fz cm113
      have al138 : Al rS F129 [.str ("least" : Str), .str ("most" : Str), .str ("just" : Str)] [("least" : Str), ("most" : Str), ("just" : Str)] := ⟨rfl, ⟨rfl, ⟨rfl, True.intro⟩⟩⟩
      refine a_op ?_
      refine a_call ?_
      refine a_cons ?_
      refine a_var rfl ?_
      refine a_cons ?_
      refine a_c ?_
      refine a_nil ?_
      refine ⟨F129, _, _, cell, 9, rfl, gb133.s, rfl, rfl, ?_⟩
      rintro v139 F140 H141 r142 g143 hr144 hp145
      have gb146 := gb133.tr g143
      have le147 := g143.le
      have oH148 := g143.h _ _ oH135
      have oF149 := g143.own oF136 oH135
      have cm150 := g143.fz cm137
      obtain rfl : v139 = V.int r142 := hr144
      refine a_c ?_
      refine a_I (by decide) ?_
      have m151 : 0 ≤ (r142 % 3) ∧ (r142 % 3) < 3 := ⟨Int.emod_nonneg _ (by decide), Int.emod_lt_of_pos _ (by decide)⟩
      obtain ⟨x153, v152, h154, h155, h156⟩ := Al.ix (Al.mo le147 al138) (i := (r142 % 3)) (by walk_at "o") (by walk_at "ol")
      refine a_ixL (Same.seq gb146.s (Le.lst le147 (SqL.of e132))) h155 ?_
      have h154m := List.mem_of_getElem? h154
      simp only [List.mem_cons, List.not_mem_nil, or_false] at h154m
      have h154l : x153.length ≤ 5 := by rcases h154m with z | z | z <;> (rw [z]; decide +kernel)
      obtain rfl : v152 = V.str x153 := h156
      refine a_name ?_
      try dsimp only
      refine a_ret ?_
      refine a_tup ?_
      refine a_cons ?_
      refine a_var rfl ?_
      refine a_cons ?_
      refine a_var rfl ?_
      refine a_cons ?_
      refine a_call ?_
      refine a_cons ?_
      refine a_call ?_
      refine a_cons ?_
      refine a_var rfl ?_
      refine a_cons ?_
      refine a_c ?_
      refine a_nil ?_
      refine ⟨F140, _, _, cell, 10, rfl, gb146.s, rfl, rfl, ?_⟩
      rintro v157 F158 H159 r160 g161 hr162 hp163
      have gb164 := gb146.tr g161
      have le165 := g161.le
      have oH166 := g161.h _ _ oH148
      have oF167 := g161.own oF149 oH148
      have cm168 := g161.fz cm150
      obtain rfl : v157 = V.int r160 := hr162
      refine a_nil ?_
      refine ⟨F158, _, r160, rfl, gb164.s, rfl, ?_⟩
      rintro v169 F170 H171 r172 g173 hr174 hp175
      have gb176 := gb164.tr g173
      have le177 := g173.le
      have oH178 := g173.h _ _ oH166
      have oF179 := g173.own oF167 oH166
      have cm180 := g173.fz cm168
      obtain ⟨a181, rfl, sq182⟩ := hr174
      refine a_cons ?_
      refine a_op ?_
      refine a_call ?_
      refine a_cons ?_
      refine a_var rfl ?_
      refine a_cons ?_
      refine a_c ?_
      refine a_nil ?_
      refine ⟨F170, _, _, cell, 11, rfl, gb176.s, rfl, rfl, ?_⟩
      rintro v183 F184 H185 r186 g187 hr188 hp189
      have gb190 := gb176.tr g187
      have le191 := g187.le
      have oH192 := g187.h _ _ oH178
      have oF193 := g187.own oF179 oH178
      have cm194 := g187.fz cm180
      obtain rfl : v183 = V.int r186 := hr188
      refine a_c ?_
      refine a_I (by decide) ?_
      have m195 : 0 ≤ (r186 % 5) ∧ (r186 % 5) < 5 := ⟨Int.emod_nonneg _ (by decide), Int.emod_lt_of_pos _ (by decide)⟩
      refine a_cons ?_
      refine a_op ?_
      refine a_c ?_
      refine a_op ?_
      refine a_call ?_
      refine a_cons ?_
      refine a_var rfl ?_
      refine a_cons ?_
      refine a_c ?_
      refine a_nil ?_
      refine ⟨F184, _, _, cell, 12, rfl, gb190.s, rfl, rfl, ?_⟩
      rintro v196 F197 H198 r199 g200 hr201 hp202
      have gb203 := gb190.tr g200
      have le204 := g200.le
      have oH205 := g200.h _ _ oH192
      have oF206 := g200.own oF193 oH192
      have cm207 := g200.fz cm194
      obtain rfl : v196 = V.int r199 := hr201
      refine a_c ?_
      refine a_I (by decide) ?_
      have m208 : 0 ≤ (r199 % 9) ∧ (r199 % 9) < 9 := ⟨Int.emod_nonneg _ (by decide), Int.emod_lt_of_pos _ (by decide)⟩
      refine a_I0 ?_
      refine a_nil ?_
      obtain ⟨F209, gb210, cm211, le212s, e213, ne214⟩ := frz gb203 cm207 hb10 oF206 oH205 (by intro _ _ z; cases z)
      have le212 := Le.of le212s
      refine ⟨by show 5 ≤ sizeLine; decide, fun p215 hp216 => ?_⟩
      obtain ⟨F217, g219, e220⟩ := al2 (o := (.tup [V.ref p5, V.str x153, V.ref a181, V.int (r186 % 5), V.int (1 + (r199 % 9))])) gb210.s (by intro _ _ z; cases z) hp216
      generalize upd H198 p215 (.tup [V.ref p5, V.str x153, V.ref a181, V.int (r186 % 5), V.int (1 + (r199 % 9))]) = H218 at g219 ⊢
      have gb221 := gb210.tr g219
      have le222 := g219.le
      have cm223 := g219.fz cm211
      have hde := g219.f _ _ e213
      have hdb := hb10
      have hdt := e220
      exact k _ _ _ ((m116, x153, r172, (r186 % 5), (1 + (r199 % 9)))) (Gr.of gb221 cm223) (⟨_, _, _, _, _, _, rfl, (SqT.of e220), ⟨_, _, rfl, (Le.dic le222 (Rd.of e213)), (Dk.mo le222 (Dk.mo ((((((le134.trans le147).trans le165).trans le177).trans le191).trans le204).trans le212) dk122)), nd123⟩, rfl, ⟨_, rfl, (Le.tup (((le191.trans le204).trans le212).trans le222) sq182)⟩, rfl, rfl⟩) (by exact ⟨q1, by assumption, by assumption, by dsimp only; omega, by dsimp only; omega⟩)
def sp_law_settled (K : PySem.W.Frag) : Sp := fun vs H Q _ => Ex5 fun (F : Hp) (v_first : V) (v_some' : V) (first : Int) (some' : (List Str)) => Cj6 (vs = [v_first, v_some']) (Same F H) (rI F v_first first) ((rL K rS) F v_some' some') (some'.length ≤ 3) (∀ (v : V) (F' H' : Hp) (r : (List ((Int ⊕ Str) × Rat))), Gr F H F' H' → (rL K (r2 K rU (rFr K))) F' v r → ((∀ p ∈ r, bs p.2 ≤ 5) ∧ r.length ≤ 4) → Q v H')
set_option linter.unusedVariables false in
theorem ok_law_settled (T : Tx K mg) : FnOk P w K mg base CX0 4 T.a_law_settled T.d_law_settled ["_law_first", "_law_some"] (sp_law_settled K) := by
  refine T.F_law_settled.ok sc_law_settled (fun vs H Q E h => ?_) (fun cdv A outer s H vs Q E hr h => ?_)
  · obtain ⟨F, v_first, v_some', first, some', rfl, _⟩ := h
    rfl
  · obtain ⟨F, v_first, v_some', first, some', rfl, wd, r_first, r_some', hpre, k⟩ := h
    have hu := hu_of hr
    have gb := Gr0.refl wd
    have cm := Fz.refl F
    obtain rfl : v_first = V.int first := r_first
    obtain ⟨a1, vs2, rfl, sq3, al4⟩ := r_some'
    refine ⟨_, (ZSs.h (zss_cons (ps_set (i := 2) sc_law_settled.nd rfl (Or.inl rfl) (pe_op op_catS (pe_lst (pa_cons pe_int (pa_cons pe_int (pa_cons pe_int (pa_cons pe_int pa_nil))))) (pv 1)))
          (zss_cons (ps_set (i := 3) sc_law_settled.nd rfl (Or.inl rfl) (pe_lst pa_nil))
          (zss_cons (ps_for PassesOwn.never rfl (pi_range1 rfl T.z_range (pa_cons (pe_op op_mod (pe_call ((ok_law_mix T).mono (by decide)) hr rfl T.m_law_mix T.F_law_mix.kp T.b_law_mix .nil pass0 (pa_cons (pv 0) (pa_cons pe_int pa_nil))) pe_int) pa_nil)) (pg_name (i := 4) sc_law_settled.nd rfl (Or.inl rfl)) (pss_one (ps_expr (pe_bm PySem.F.plainAttrs_list PySem.F.slot_list_append PySem.F.type_list_append mt_append (pv 3) (pa_cons (pe_tup (pa_cons (pe_ix ix_list (pv 2) (pe_op op_mod (pe_call ((ok_law_mix T).mono (by decide)) hr rfl T.m_law_mix T.F_law_mix.kp T.b_law_mix .nil pass0 (pa_cons (pv 0) (pa_cons (pe_op op_add (pv 4) pe_int) pa_nil))) (pe_callB call_len_seq rfl T.z_len rfl (pa_cons (pv 2) pa_nil))) (fun _ _ => rfl)) (pa_cons (pe_call ((ok_law_small T).mono (by decide)) hr rfl T.m_law_small T.F_law_small.kp T.b_law_small .nil pass0 (pa_cons (pe_call ((ok_law_mix T).mono (by decide)) hr rfl T.m_law_mix T.F_law_mix.kp T.b_law_mix .nil pass0 (pa_cons (pv 0) (pa_cons (pe_op op_add (pv 4) pe_int) pa_nil))) pa_nil)) pa_nil))) pa_nil)))))
          (zss_one (ps_ret (pv 3))))))), ?_⟩
    refine a_seq ?_
    refine a_asg ?_
    refine a_op ?_
    refine a_lst ?_
    refine a_cons ?_
    refine a_c ?_
    refine a_cons ?_
    refine a_c ?_
    refine a_cons ?_
    refine a_c ?_
    refine a_cons ?_
    refine a_c ?_
    refine a_nil ?_
    refine ⟨by show 4 ≤ sizeLine; decide, fun p5 hp6 => ?_⟩
    obtain ⟨F7, g9, e10⟩ := al2 (o := (.lst [V.int 1, V.int 2, V.int 3, V.int 4])) gb.s (by intro _ _ z; cases z) hp6
    generalize upd H p5 (.lst [V.int 1, V.int 2, V.int 3, V.int 4]) = H8 at g9 ⊢
    have gb11 := gb.tr g9
    have le12 := g9.le
    have cm13 := g9.fz cm
    have al14 : Al rI F7 [.int 1, .int 2, .int 3, .int 4] [1, 2, 3, 4] := ⟨rfl, ⟨rfl, ⟨rfl, ⟨rfl, True.intro⟩⟩⟩⟩
    refine a_var rfl ?_
    have al15 := al14
    have al16 := (Al.mo le12 al4)
    replace al15 := Al.uI al15
    replace al16 := Al.uS al16
    refine ⟨_, _, _, _, rfl, rfl, (Same.seq gb11.s (SqL.of e10)), (Same.seq gb11.s (Le.lst le12 sq3)), (Nat.le_trans (show _ ≤ 100000 by rw [Al.length al15, Al.length al16]; walk_at "ol") (by decide)), fun p17 hp18 => ?_⟩
    obtain ⟨F19, g21, e22⟩ := al2 (o := (.lst ([V.int 1, V.int 2, V.int 3, V.int 4] ++ vs2))) gb11.s (by intro _ _ z; cases z) hp18
    generalize upd H8 p17 (.lst ([V.int 1, V.int 2, V.int 3, V.int 4] ++ vs2)) = H20 at g21 ⊢
    have gb23 := gb11.tr g21
    have le24 := g21.le
    have cm25 := g21.fz cm13
    have al26 := Al.mo le24 (Al.app al15 al16)
    refine a_name ?_
    try dsimp only
    have hgl : (([1, 2, 3, 4].map Sum.inl : List (Int ⊕ Str)) ++ (some'.map Sum.inr : List (Int ⊕ Str))).length = 4 + some'.length := by simp only [List.length_append, List.length_map, List.length_cons, List.length_nil]
    refine a_seq ?_
    refine a_asg ?_
    refine a_lst ?_
    refine a_nil ?_
    refine ⟨by show 0 ≤ sizeLine; decide, fun p27 hp28 => ?_⟩
    obtain ⟨gb30, sm31, hb32, oF33, oH34, ne35⟩ := alo2 (o := (.lst [])) gb23 hp28
    generalize upd H20 p27 (.lst []) = H29 at gb30 sm31 oH34 ⊢
    refine a_name ?_
    try dsimp only
    refine a_seq ?_
    refine a_for ?_
    refine a_rng1 ?_
    refine a_cons ?_
    refine a_op ?_
    refine a_call ?_
    refine a_cons ?_
    refine a_var rfl ?_
    refine a_cons ?_
    refine a_c ?_
    refine a_nil ?_
    refine ⟨F19, _, _, first, 1, rfl, gb30.s, rfl, rfl, ?_⟩
    rintro v36 F37 H38 r39 g40 hr41 hp42
    have gb43 := gb30.tr g40
    have le44 := g40.le
    have oH45 := g40.h _ _ oH34
    have oF46 := g40.own oF33 oH34
    have cm47 := g40.fz cm25
    obtain rfl : v36 = V.int r39 := hr41
    refine a_c ?_
    refine a_I (by decide) ?_
    have m48 : 0 ≤ (r39 % 5) ∧ (r39 % 5) < 5 := ⟨Int.emod_nonneg _ (by decide), Int.emod_lt_of_pos _ (by decide)⟩
    refine a_nil ?_
    refine ⟨_, rfl, by first | omega | walk_at "o", by first | omega | walk_at "o", for_range (lo := 0) (n := (Int.toNat (r39 % 5))) (fun i σ' H' => Ex4 fun (F49 : Hp) (kv50 : List V) (settled_here51 : List ((Int ⊕ Str) × Rat)) (o52 : Option V) => Cj8 (σ' = [some (V.int first), some (V.ref a1), some (V.ref p17), some (V.ref p27), o52]) (Gr0 F H F49 H') (Fz (frzd F) F49) (Le F37 F49) (H' p27 = some (.lst kv50)) (F49 p27 = none) (Al (r2 K rU (rFr K)) F49 kv50 settled_here51) (((∀ p ∈ settled_here51, bs p.2 ≤ 5) ∧ settled_here51.length ≤ i))) ?_ ?_ ?_⟩
    · exact ⟨F37, _, [], _, rfl, gb43, cm47, Le.refl _, oH45, oF46, (Al.mo le44 True.intro), by exact ⟨fun p h => (by cases h), Nat.le_refl _⟩⟩
    · rintro i53 σ' H54 hi55 ⟨F56, kv60, m61, o62, rfl, gb57, cm58, le59, oH63, oF64, dk65, ⟨hT, hT2⟩⟩
      rw [show (0 : Int) + (i53 : Int) = (i53 : Int) from Int.zero_add _]
      refine a_name ?_
      try dsimp only
      have u1 : i53 ≤ 4 := by omega
      refine a_drop ?_
      refine a_bm ?_
      refine a_var rfl ?_
      refine ⟨tyV_lst oH63, ?_⟩
      refine a_cons ?_
      refine a_tup ?_
      refine a_cons ?_
      refine a_op ?_
      refine a_var rfl ?_
      refine a_op ?_
      refine a_call ?_
      refine a_cons ?_
      refine a_var rfl ?_
      refine a_cons ?_
      refine a_op ?_
      refine a_var rfl ?_
      refine a_c ?_
      refine a_I0 ?_
      refine a_nil ?_
      refine ⟨F56, _, _, first, ((i53 : Int) + 2), rfl, gb57.s, rfl, rfl, ?_⟩
      rintro v66 F67 H68 r69 g70 hr71 hp72
      have gb73 := gb57.tr g70
      have le74 := g70.le
      have oH75 := g70.h _ _ oH63
      have oF76 := g70.own oF64 oH63
      have cm77 := g70.fz cm58
      obtain rfl : v66 = V.int r69 := hr71
      refine a_cb ?_
      refine a_cons ?_
      refine a_var rfl ?_
      refine a_nil ?_
      refine ⟨_, _, rfl, .inl (Same.seq gb73.s (Le.lst ((le44.trans le59).trans le74) (SqL.of e22))), ?_⟩
      rw [Al.length (Al.mo ((le44.trans le59).trans le74) al26)]
      refine a_I (by walk_at "o") ?_
      have m78 : 0 ≤ (r69 % (((([1, 2, 3, 4].map Sum.inl : List (Int ⊕ Str)) ++ (some'.map Sum.inr : List (Int ⊕ Str)))).length : Int)) ∧ (r69 % (((([1, 2, 3, 4].map Sum.inl : List (Int ⊕ Str)) ++ (some'.map Sum.inr : List (Int ⊕ Str)))).length : Int)) < (((([1, 2, 3, 4].map Sum.inl : List (Int ⊕ Str)) ++ (some'.map Sum.inr : List (Int ⊕ Str)))).length : Int) := ⟨Int.emod_nonneg _ (by walk_at "o"), Int.emod_lt_of_pos _ (by walk_at "o")⟩
      obtain ⟨x80, v79, h81, h82, h83⟩ := Al.ix (Al.mo ((le44.trans le59).trans le74) al26) (i := (r69 % (((([1, 2, 3, 4].map Sum.inl : List (Int ⊕ Str)) ++ (some'.map Sum.inr : List (Int ⊕ Str)))).length : Int))) (by walk_at "o") (by walk_at "ol")
      refine a_ixL (Same.seq gb73.s (Le.lst ((le44.trans le59).trans le74) (SqL.of e22))) h82 ?_
      obtain rfl : v79 = V.u x80 := h83
      refine a_cons ?_
      refine a_call ?_
      refine a_cons ?_
      refine a_call ?_
      refine a_cons ?_
      refine a_var rfl ?_
      refine a_cons ?_
      refine a_op ?_
      refine a_var rfl ?_
      refine a_c ?_
      refine a_I0 ?_
      refine a_nil ?_
      refine ⟨F67, _, _, first, ((i53 : Int) + 7), rfl, gb73.s, rfl, rfl, ?_⟩
      rintro v84 F85 H86 r87 g88 hr89 hp90
      have gb91 := gb73.tr g88
      have le92 := g88.le
      have oH93 := g88.h _ _ oH75
      have oF94 := g88.own oF76 oH75
      have cm95 := g88.fz cm77
      obtain rfl : v84 = V.int r87 := hr89
      refine a_nil ?_
      refine ⟨F85, _, r87, rfl, gb91.s, rfl, ?_⟩
      rintro v96 F97 H98 r99 g100 hr101 hp102
      have gb103 := gb91.tr g100
      have le104 := g100.le
      have oH105 := g100.h _ _ oH93
      have oF106 := g100.own oF94 oH93
      have cm107 := g100.fz cm95
      obtain ⟨a108, rfl, sq109⟩ := hr101
      refine a_nil ?_
      refine ⟨by show 2 ≤ sizeLine; decide, fun p110 hp111 => ?_⟩
      obtain ⟨F112, g114, e115⟩ := al2 (o := (.tup [V.u x80, V.ref a108])) gb103.s (by intro _ _ z; cases z) hp111
      generalize upd H98 p110 (.tup [V.u x80, V.ref a108]) = H113 at g114 ⊢
      have gb116 := gb103.tr g114
      have le117 := g114.le
      have oH118 := g114.h _ _ oH105
      have oF119 := g114.own oF106 oH105
      have cm120 := g114.fz cm107
      refine a_nil ?_
      refine a_app oH118 (Nat.lt_of_lt_of_le (show _ < 100000 by rw [Al.length (Al.mo (((le74.trans le92).trans le104).trans le117) dk65)]; omega) (by decide)) (chg (R := fun H' => _) gb116 hb32 oF119 (fun H121 gb122 oH123 ne124 => ?_))
      have al125 := Al.snoc (Al.mo (((le74.trans le92).trans le104).trans le117) dk65) (show (r2 K rU (rFr K)) F112 (V.ref p110) (x80, r99) from ⟨_, _, _, rfl, (SqT.of e115), rfl, ⟨_, rfl, (Le.tup le117 sq109)⟩⟩)
      try dsimp only
      exact ⟨F112, _, (m61 ++ [(x80, r99)]), _, rfl, gb122, cm120, ((((le59.trans le74).trans le92).trans le104).trans le117), oH123, oF119, al125, by exact ⟨fun p h => (List.mem_append.mp h).elim (hT p) fun z => by rw [List.mem_singleton.mp z]; assumption, by rw [List.length_append]; exact Nat.succ_le_succ hT2⟩⟩
    · rintro σ' H126 ⟨F127, kv131, m132, o133, rfl, gb128, cm129, le130, oH134, oF135, dk136, ⟨hT, hT2⟩⟩
      try dsimp only
      refine a_ret ?_
      refine a_var rfl ?_
      obtain ⟨F137, gb138, cm139, le140s, e141, ne142⟩ := frz gb128 cm129 hb32 oF135 oH134 (by intro _ _ z; cases z)
      have le140 := Le.of le140s
      exact k _ _ _ (m132) (Gr.of gb138 cm139) (⟨_, _, rfl, (SqL.of e141), (Al.mo le140 dk136)⟩) (by exact ⟨hT, by omega⟩)
def sp_law_often (K : PySem.W.Frag) : Sp := fun vs H Q _ => Ex9 fun (F : Hp) (v_thing : V) (v_goal : V) (v_settled_here : V) (v_shares : V) (thing : Int) (goal : (Int ⊕ Str)) (settled_here : (List ((Int ⊕ Str) × Rat))) (shares : (List Rat)) => Cj8 (vs = [v_thing, v_goal, v_settled_here, v_shares]) (Same F H) (rI F v_thing thing) (rU F v_goal goal) ((rL K (r2 K rU (rFr K))) F v_settled_here settled_here) ((rL K (rFr K)) F v_shares shares) (settled_here.length ≤ 4 ∧ shares.length ≤ 4 ∧ ∀ s ∈ shares, bs s ≤ 3) (∀ (v : V) (F' H' : Hp), Gr F H F' H' → (rFr K) F' v (cntR settled_here shares goal (Sum.inl thing)) → (bs (cntR settled_here shares goal (Sum.inl thing)) ≤ 26) → Q v H')
set_option linter.unusedVariables false in
theorem ok_law_often (T : Tx K mg) : FnOk P w K mg base CX0 4 T.a_law_often T.d_law_often ["_law_thing", "_law_goal", "_law_settled_here", "_law_shares"] (sp_law_often K) := by
  refine T.F_law_often.ok sc_law_often (fun vs H Q E h => ?_) (fun cdv A outer s H vs Q E hr h => ?_)
  · obtain ⟨F, v_thing, v_goal, v_settled_here, v_shares, thing, goal, settled_here, shares, rfl, _⟩ := h
    rfl
  · obtain ⟨F, v_thing, v_goal, v_settled_here, v_shares, thing, goal, settled_here, shares, rfl, wd, r_thing, r_goal, r_settled_here, r_shares, hpre, k⟩ := h
    have hu := hu_of hr
    have gb := Gr0.refl wd
    have cm := Fz.refl F
    obtain rfl : v_thing = V.int thing := r_thing
    obtain rfl : v_goal = V.u goal := r_goal
    obtain ⟨a1, vs2, rfl, sq3, al4⟩ := r_settled_here
    obtain ⟨a5, vs6, rfl, sq7, al8⟩ := r_shares
    obtain ⟨w1, w2, w3⟩ := hpre
    refine ⟨_, (ZSs.h (zss_cons (ps_setC (i := 4) (N := ["_law_pair", "_law_share", "_law_thing"]) (ix := [none, none, some 0]) sc_law_often.nd rfl (Or.inl rfl) rfl (pi_zip rfl T.z_zip (pa_cons (pv 2) (pa_cons (pv 3) pa_nil))) (fun _ _ _ _ _ => (show PG _ _ (gTup K 2 _) from pg_tup rfl (pgs_cons (pg_name (i := 0) (show List.Nodup (["_law_pair", "_law_share", "_law_thing"] : List Str) from by decide) rfl (Or.inl rfl)) (pgs_cons (pg_name (i := 1) (show List.Nodup (["_law_pair", "_law_share", "_law_thing"] : List Str) from by decide) rfl (Or.inl rfl)) pgs_nil)))) (fun _ _ _ _ _ => (pts_one (pt_cmpR op_eq (pe_ix (show IxR _ (rIxT K) from ix_tup) (pv 0) pe_int (fun _ _ => rfl)) (pv 2) (nomark _)))) (fun _ _ _ _ _ => (pe_tup (pa_cons (pv 1) (pa_cons (pe_tup (pa_cons pe_int (pa_cons pe_int pa_nil))) pa_nil)))) ⟨rfl, rfl, rfl, True.intro⟩)
          (zss_cons (ps_if (pt_cmpR op_eq (pv 0) (pv 1) (nomark _)) (pss_one (ps_expr (pe_bm PySem.F.plainAttrs_list PySem.F.slot_list_append PySem.F.type_list_append mt_append (pv 4) (pa_cons (pe_tup (pa_cons (pe_tup (pa_cons pe_int (pa_cons pe_int pa_nil))) (pa_cons (pe_tup (pa_cons pe_int (pa_cons pe_int pa_nil))) pa_nil))) pa_nil)))) pss_nil)
          (zss_one (ps_ret (pe_call ((ok_law_add T).mono (by decide)) hr rfl T.m_law_add T.F_law_add.kp T.b_law_add .nil pass0 (pa_cons (pv 4) pa_nil))))))), ?_⟩
    refine a_seq ?_
    refine a_asg ?_
    refine a_comp ?_
    refine a_izip ?_
    refine a_cons ?_
    refine a_var rfl ?_
    refine a_cons ?_
    refine a_var rfl ?_
    refine a_nil ?_
    have hml11 : (min (settled_here).length (shares).length) ≤ 1000000 := by omega
    have hlen := Al.length al4
    have hlen2 := Al.length al8
    refine ⟨_, _, rfl, ⟨_, (Same.seq gb.s sq3)⟩, ⟨_, (Same.seq gb.s sq7)⟩, comp_zip (K := K) (a := a1) (b := a5) (xs := vs2) (ys := vs6) (fun i acc H' => Ex2 fun (F9 : Hp) (ts10 : List (Rat × Rat)) => Cj7 (True) (Gr0 F H F9 H') (Fz (frzd F) F9) (Le F F9) (Al (r2 K (rFr K) (rFr K)) F9 acc ts10) (ts10.length ≤ i) ((wgtZ ts10 = cntZ (Sum.inl thing) ((settled_here.zip shares).take i) ∧ ∀ p ∈ ts10, bs p.1 + bs p.2 ≤ 4))) ?_ ?_ ?_ ?_⟩
    · exact ⟨F, [], True.intro, gb, cm, Le.refl _, (show Al (r2 K (rFr K) (rFr K)) F [] [] from True.intro), (by first | (simp; done) | (rw [List.length_append]; simp only [List.length_cons, List.length_nil]; omega) | omega), by exact ⟨rfl, fun p h => nomatch h⟩⟩
    · rintro i acc H12 _ ⟨F13, ts17, _, gb14, cm15, le16, al18, tl19, ⟨q0, q1⟩⟩
      exact ⟨(Same.seq gb14.s (Le.lst le16 sq3)), (Same.seq gb14.s (Le.lst le16 sq7))⟩
    · rintro i20 y24 z25 acc26 H21 p27 hi22 hj23 ⟨F29, ts33, _, gb30, cm31, le32, al34, tl35, ⟨q0, q1⟩⟩ hp28
      obtain ⟨x36, hx37, hr38⟩ := Al.get (Al.mo le32 al4) hi22
      obtain ⟨x39, hx40, hr41⟩ := Al.get (Al.mo le32 al8) hj23
      have hil := (List.getElem?_eq_some_iff.mp hx37).1
      have hil2 := (List.getElem?_eq_some_iff.mp hx40).1
      obtain ⟨a46, v48, v49, rfl, sq47, h50, h51⟩ := hr38
      obtain rfl : v48 = V.u x36.1 := h50
      obtain ⟨a52, rfl, sq53⟩ := h51
      obtain ⟨a54, rfl, sq55⟩ := hr41
      refine it2 (K := K) gb30.s hp28 (fun F42 H43 g44 e45 => ?_)
      have gb56 := gb30.tr g44
      have le57 := g44.le
      have cm58 := g44.fz cm31
      refine ⟨Wk.non (Wk.non (Wk.som (Wk.nil))), ?_⟩
      try dsimp only
      have u1 := w3 _ (List.mem_of_getElem? hx40)
      have hz := zip_at hx37 hx40
      refine a_test ?_
      refine a_op ?_
      refine a_op ?_
      refine a_var rfl ?_
      refine a_c ?_
      refine a_ixT (Same.tup gb56.s (Le.tup le57 sq47)) rfl ?_
      refine a_var rfl ?_
      refine a_eqUI ?_
      refine a_bl ?_
      refine iteD (fun c59 => ?_) (fun c59 => ?_)
      · refine a_tup ?_
        refine a_cons ?_
        refine a_var rfl ?_
        refine a_cons ?_
        refine a_tup ?_
        refine a_cons ?_
        refine a_c ?_
        refine a_cons ?_
        refine a_c ?_
        refine a_nil ?_
        refine ⟨by show 2 ≤ sizeLine; decide, fun p60 hp61 => ?_⟩
        obtain ⟨F62, g64, e65⟩ := al2 (o := (.tup [V.int 1, V.int 1])) gb56.s (by intro _ _ z; cases z) hp61
        generalize upd H43 p60 (.tup [V.int 1, V.int 1]) = H63 at g64 ⊢
        have gb66 := gb56.tr g64
        have le67 := g64.le
        have cm68 := g64.fz cm58
        have sq69 : SqT K F62 p60 (fr ((1 : Int) : Rat)) := by rw [fr_int]; exact SqT.of e65
        refine a_nil ?_
        refine ⟨by show 2 ≤ sizeLine; decide, fun p70 hp71 => ?_⟩
        obtain ⟨F72, g74, e75⟩ := al2 (o := (.tup [V.ref a54, V.ref p60])) gb66.s (by intro _ _ z; cases z) hp71
        generalize upd H63 p70 (.tup [V.ref a54, V.ref p60]) = H73 at g74 ⊢
        have gb76 := gb66.tr g74
        have le77 := g74.le
        have cm78 := g74.fz cm68
        refine ⟨by rw [Al.length (Al.mo ((le57.trans le67).trans le77) al34)]; have := sizeLine_big; omega, ?_⟩
        exact ⟨F72, (ts33 ++ [(x39, ((1 : Int) : Rat))]), True.intro, gb76, cm78, (((le32.trans le57).trans le67).trans le77), (Al.snoc (Al.mo ((le57.trans le67).trans le77) al34) ⟨_, _, _, rfl, (SqT.of e75), ⟨_, rfl, (Le.tup ((le57.trans le67).trans le77) sq55)⟩, ⟨_, rfl, (Le.tup le77 sq69)⟩⟩), (by first | (simp; done) | (rw [List.length_append]; simp only [List.length_cons, List.length_nil]; omega) | omega), by exact ⟨by rw [wgt_one, cnt_yes hz (by assumption), q0, cast1, Rat.mul_one], fun p h => (List.mem_append.mp h).elim (q1 p) fun z => mem_one4 u1 (List.mem_singleton.mp z)⟩⟩
      · exact ⟨F42, ts33, True.intro, gb56, cm58, (le32.trans le57), (Al.mo le57 al34), (by first | (simp; done) | (rw [List.length_append]; simp only [List.length_cons, List.length_nil]; omega) | omega), by exact ⟨by rw [cnt_no hz (by assumption), q0], q1⟩⟩
    · rintro acc80 H79 ⟨F81, ts85, _, gb82, cm83, le84, al86, tl87, ⟨q0, q1⟩⟩
      have hlen := Al.length (Al.mo le84 al4)
      have hlen2 := Al.length (Al.mo le84 al8)
      refine ⟨(by rw [Al.length al86]; have := sizeLine_big; omega), fun p88 hp89 => ?_⟩
      obtain ⟨gb91, sm92, hb93, oF94, oH95, ne96⟩ := alo2 (o := (.lst acc80)) gb82 hp89
      generalize upd H79 p88 (.lst acc80) = H90 at gb91 sm92 oH95 ⊢
      rw [hlen, hlen2, zip_all] at q0
      have hmm := Nat.min_le_left settled_here.length shares.length
      refine a_name ?_
      try dsimp only
      refine a_seq ?_
      refine a_if ?_
      refine a_test ?_
      refine a_op ?_
      refine a_var rfl ?_
      refine a_var rfl ?_
      refine a_eqIU ?_
      refine a_bl ?_
      refine iteD (fun c97 => ?_) (fun c97 => ?_)
      · refine a_drop ?_
        refine a_bm ?_
        refine a_var rfl ?_
        refine ⟨tyV_lst oH95, ?_⟩
        refine a_cons ?_
        refine a_tup ?_
        refine a_cons ?_
        refine a_tup ?_
        refine a_cons ?_
        refine a_c ?_
        refine a_cons ?_
        refine a_c ?_
        refine a_nil ?_
        refine ⟨by show 2 ≤ sizeLine; decide, fun p98 hp99 => ?_⟩
        obtain ⟨F100, g102, e103⟩ := al2 (o := (.tup [V.int 1, V.int 1])) gb91.s (by intro _ _ z; cases z) hp99
        generalize upd H90 p98 (.tup [V.int 1, V.int 1]) = H101 at g102 ⊢
        have gb104 := gb91.tr g102
        have le105 := g102.le
        have oH106 := g102.h _ _ oH95
        have oF107 := g102.own oF94 oH95
        have cm108 := g102.fz cm83
        have sq109 : SqT K F100 p98 (fr ((1 : Int) : Rat)) := by rw [fr_int]; exact SqT.of e103
        refine a_cons ?_
        refine a_tup ?_
        refine a_cons ?_
        refine a_c ?_
        refine a_cons ?_
        refine a_c ?_
        refine a_nil ?_
        refine ⟨by show 2 ≤ sizeLine; decide, fun p110 hp111 => ?_⟩
        obtain ⟨F112, g114, e115⟩ := al2 (o := (.tup [V.int 1, V.int 1])) gb104.s (by intro _ _ z; cases z) hp111
        generalize upd H101 p110 (.tup [V.int 1, V.int 1]) = H113 at g114 ⊢
        have gb116 := gb104.tr g114
        have le117 := g114.le
        have oH118 := g114.h _ _ oH106
        have oF119 := g114.own oF107 oH106
        have cm120 := g114.fz cm108
        have sq121 : SqT K F112 p110 (fr ((1 : Int) : Rat)) := by rw [fr_int]; exact SqT.of e115
        refine a_nil ?_
        refine ⟨by show 2 ≤ sizeLine; decide, fun p122 hp123 => ?_⟩
        obtain ⟨F124, g126, e127⟩ := al2 (o := (.tup [V.ref p98, V.ref p110])) gb116.s (by intro _ _ z; cases z) hp123
        generalize upd H113 p122 (.tup [V.ref p98, V.ref p110]) = H125 at g126 ⊢
        have gb128 := gb116.tr g126
        have le129 := g126.le
        have oH130 := g126.h _ _ oH118
        have oF131 := g126.own oF119 oH118
        have cm132 := g126.fz cm120
        refine a_nil ?_
        refine a_app oH130 (Nat.lt_of_lt_of_le (show _ < 100000 by rw [Al.length (Al.mo ((le105.trans le117).trans le129) al86)]; omega) (by decide)) (chg (R := fun H' => _) gb128 hb93 oF131 (fun H133 gb134 oH135 ne136 => ?_))
        have al137 := Al.snoc (Al.mo ((le105.trans le117).trans le129) al86) (show (r2 K (rFr K) (rFr K)) F124 (V.ref p122) (((1 : Int) : Rat), ((1 : Int) : Rat)) from ⟨_, _, _, rfl, (SqT.of e127), ⟨_, rfl, (Le.tup (le117.trans le129) sq109)⟩, ⟨_, rfl, (Le.tup le129 sq121)⟩⟩)
        try dsimp only
        refine a_ret ?_
        refine a_call ?_
        refine a_cons ?_
        refine a_var rfl ?_
        refine a_nil ?_
        obtain ⟨F138, gb139, cm140, le141s, e142, ne143⟩ := frz gb134 cm132 hb93 oF131 oH135 (by intro _ _ z; cases z)
        have le141 := Le.of le141s
        refine ⟨F138, _, (ts85 ++ [(((1 : Int) : Rat), ((1 : Int) : Rat))]), 4, rfl, gb139.s, ⟨_, _, rfl, (SqL.of e142), (Al.mo le141 al137)⟩, (by first | exact ⟨by rw [List.length_append]; show _ + 1 ≤ 15; omega, by decide, fun p h => (List.mem_append.mp h).elim (q1 p) fun z => by rw [List.mem_singleton.mp z]; decide +kernel⟩ | exact ⟨by omega, by decide, q1⟩), ?_⟩
        rintro v144 F145 H146  g148 hr149 hp150
        have gb151 := gb139.tr g148
        have le152 := g148.le
        have cm153 := g148.fz cm140
        obtain ⟨a154, rfl, sq155⟩ := hr149
        have u9 := hp150
        have hval : ((wgtZ ((ts85 ++ [(((1 : Int) : Rat), ((1 : Int) : Rat))]))) : Rat) = (cntR settled_here shares goal (Sum.inl thing)) := by unfold cntR; first | (rw [if_pos (by assumption), wgt_one, q0, cast1, Rat.mul_one, Rat.add_comm]; done) | (rw [if_neg (by assumption), q0, Rat.zero_add]; done)
        have rp156 : (rFr K) F145 (V.ref a154) ((wgtZ ((ts85 ++ [(((1 : Int) : Rat), ((1 : Int) : Rat))])))) := ⟨_, rfl, sq155⟩
        replace rp156 := Eq.mp (congrArg ((rFr K) F145 (V.ref a154)) hval) rp156
        exact k _ _ _ (Gr.of gb151 cm153) rp156 (by rw [← hval]; first | exact Nat.le_trans u9 (len5 (by rw [List.length_append]; show _ + 1 ≤ 5; omega)) | exact Nat.le_trans u9 (len5 (by omega)))
      · refine a_next ?_
        try dsimp only
        refine a_ret ?_
        refine a_call ?_
        refine a_cons ?_
        refine a_var rfl ?_
        refine a_nil ?_
        obtain ⟨F157, gb158, cm159, le160s, e161, ne162⟩ := frz gb91 cm83 hb93 oF94 oH95 (by intro _ _ z; cases z)
        have le160 := Le.of le160s
        refine ⟨F157, _, ts85, 4, rfl, gb158.s, ⟨_, _, rfl, (SqL.of e161), (Al.mo le160 al86)⟩, (by first | exact ⟨by rw [List.length_append]; show _ + 1 ≤ 15; omega, by decide, fun p h => (List.mem_append.mp h).elim (q1 p) fun z => by rw [List.mem_singleton.mp z]; decide +kernel⟩ | exact ⟨by omega, by decide, q1⟩), ?_⟩
        rintro v163 F164 H165  g167 hr168 hp169
        have gb170 := gb158.tr g167
        have le171 := g167.le
        have cm172 := g167.fz cm159
        obtain ⟨a173, rfl, sq174⟩ := hr168
        have u9 := hp169
        have hval : ((wgtZ ts85) : Rat) = (cntR settled_here shares goal (Sum.inl thing)) := by unfold cntR; first | (rw [if_pos (by assumption), wgt_one, q0, cast1, Rat.mul_one, Rat.add_comm]; done) | (rw [if_neg (by assumption), q0, Rat.zero_add]; done)
        have rp175 : (rFr K) F164 (V.ref a173) ((wgtZ ts85)) := ⟨_, rfl, sq174⟩
        replace rp175 := Eq.mp (congrArg ((rFr K) F164 (V.ref a173)) hval) rp175
        exact k _ _ _ (Gr.of gb170 cm172) rp175 (by rw [← hval]; first | exact Nat.le_trans u9 (len5 (by rw [List.length_append]; show _ + 1 ≤ 5; omega)) | exact Nat.le_trans u9 (len5 (by omega)))
def sp_law_often_s (K : PySem.W.Frag) : Sp := fun vs H Q _ => Ex9 fun (F : Hp) (v_thing : V) (v_goal : V) (v_settled_here : V) (v_shares : V) (thing : Str) (goal : (Int ⊕ Str)) (settled_here : (List ((Int ⊕ Str) × Rat))) (shares : (List Rat)) => Cj8 (vs = [v_thing, v_goal, v_settled_here, v_shares]) (Same F H) (rS F v_thing thing) (rU F v_goal goal) ((rL K (r2 K rU (rFr K))) F v_settled_here settled_here) ((rL K (rFr K)) F v_shares shares) (settled_here.length ≤ 4 ∧ shares.length ≤ 4 ∧ ∀ s ∈ shares, bs s ≤ 3) (∀ (v : V) (F' H' : Hp), Gr F H F' H' → (rFr K) F' v (cntR settled_here shares goal (Sum.inr thing)) → (bs (cntR settled_here shares goal (Sum.inr thing)) ≤ 26) → Q v H')
set_option linter.unusedVariables false in
theorem ok_law_often_s (T : Tx K mg) : FnOk P w K mg base CX0 4 T.a_law_often T.d_law_often ["_law_thing", "_law_goal", "_law_settled_here", "_law_shares"] (sp_law_often_s K) := by
  refine T.F_law_often.ok sc_law_often (fun vs H Q E h => ?_) (fun cdv A outer s H vs Q E hr h => ?_)
  · obtain ⟨F, v_thing, v_goal, v_settled_here, v_shares, thing, goal, settled_here, shares, rfl, _⟩ := h
    rfl
  · obtain ⟨F, v_thing, v_goal, v_settled_here, v_shares, thing, goal, settled_here, shares, rfl, wd, r_thing, r_goal, r_settled_here, r_shares, hpre, k⟩ := h
    have hu := hu_of hr
    have gb := Gr0.refl wd
    have cm := Fz.refl F
    obtain rfl : v_thing = V.str thing := r_thing
    obtain rfl : v_goal = V.u goal := r_goal
    obtain ⟨a1, vs2, rfl, sq3, al4⟩ := r_settled_here
    obtain ⟨a5, vs6, rfl, sq7, al8⟩ := r_shares
    obtain ⟨w1, w2, w3⟩ := hpre
    refine ⟨_, (ZSs.h (zss_cons (ps_setC (i := 4) (N := ["_law_pair", "_law_share", "_law_thing"]) (ix := [none, none, some 0]) sc_law_often.nd rfl (Or.inl rfl) rfl (pi_zip rfl T.z_zip (pa_cons (pv 2) (pa_cons (pv 3) pa_nil))) (fun _ _ _ _ _ => (show PG _ _ (gTup K 2 _) from pg_tup rfl (pgs_cons (pg_name (i := 0) (show List.Nodup (["_law_pair", "_law_share", "_law_thing"] : List Str) from by decide) rfl (Or.inl rfl)) (pgs_cons (pg_name (i := 1) (show List.Nodup (["_law_pair", "_law_share", "_law_thing"] : List Str) from by decide) rfl (Or.inl rfl)) pgs_nil)))) (fun _ _ _ _ _ => (pts_one (pt_cmpR op_eq (pe_ix (show IxR _ (rIxT K) from ix_tup) (pv 0) pe_int (fun _ _ => rfl)) (pv 2) (nomark _)))) (fun _ _ _ _ _ => (pe_tup (pa_cons (pv 1) (pa_cons (pe_tup (pa_cons pe_int (pa_cons pe_int pa_nil))) pa_nil)))) ⟨rfl, rfl, rfl, True.intro⟩)
          (zss_cons (ps_if (pt_cmpR op_eq (pv 0) (pv 1) (nomark _)) (pss_one (ps_expr (pe_bm PySem.F.plainAttrs_list PySem.F.slot_list_append PySem.F.type_list_append mt_append (pv 4) (pa_cons (pe_tup (pa_cons (pe_tup (pa_cons pe_int (pa_cons pe_int pa_nil))) (pa_cons (pe_tup (pa_cons pe_int (pa_cons pe_int pa_nil))) pa_nil))) pa_nil)))) pss_nil)
          (zss_one (ps_ret (pe_call ((ok_law_add T).mono (by decide)) hr rfl T.m_law_add T.F_law_add.kp T.b_law_add .nil pass0 (pa_cons (pv 4) pa_nil))))))), ?_⟩
    refine a_seq ?_
    refine a_asg ?_
    refine a_comp ?_
    refine a_izip ?_
    refine a_cons ?_
    refine a_var rfl ?_
    refine a_cons ?_
    refine a_var rfl ?_
    refine a_nil ?_
    have hml11 : (min (settled_here).length (shares).length) ≤ 1000000 := by omega
    have hlen := Al.length al4
    have hlen2 := Al.length al8
    refine ⟨_, _, rfl, ⟨_, (Same.seq gb.s sq3)⟩, ⟨_, (Same.seq gb.s sq7)⟩, comp_zip (K := K) (a := a1) (b := a5) (xs := vs2) (ys := vs6) (fun i acc H' => Ex2 fun (F9 : Hp) (ts10 : List (Rat × Rat)) => Cj7 (True) (Gr0 F H F9 H') (Fz (frzd F) F9) (Le F F9) (Al (r2 K (rFr K) (rFr K)) F9 acc ts10) (ts10.length ≤ i) ((wgtZ ts10 = cntZ (Sum.inr thing) ((settled_here.zip shares).take i) ∧ ∀ p ∈ ts10, bs p.1 + bs p.2 ≤ 4))) ?_ ?_ ?_ ?_⟩
    · exact ⟨F, [], True.intro, gb, cm, Le.refl _, (show Al (r2 K (rFr K) (rFr K)) F [] [] from True.intro), (by first | (simp; done) | (rw [List.length_append]; simp only [List.length_cons, List.length_nil]; omega) | omega), by exact ⟨rfl, fun p h => nomatch h⟩⟩
    · rintro i acc H12 _ ⟨F13, ts17, _, gb14, cm15, le16, al18, tl19, ⟨q0, q1⟩⟩
      exact ⟨(Same.seq gb14.s (Le.lst le16 sq3)), (Same.seq gb14.s (Le.lst le16 sq7))⟩
    · rintro i20 y24 z25 acc26 H21 p27 hi22 hj23 ⟨F29, ts33, _, gb30, cm31, le32, al34, tl35, ⟨q0, q1⟩⟩ hp28
      obtain ⟨x36, hx37, hr38⟩ := Al.get (Al.mo le32 al4) hi22
      obtain ⟨x39, hx40, hr41⟩ := Al.get (Al.mo le32 al8) hj23
      have hil := (List.getElem?_eq_some_iff.mp hx37).1
      have hil2 := (List.getElem?_eq_some_iff.mp hx40).1
      obtain ⟨a46, v48, v49, rfl, sq47, h50, h51⟩ := hr38
      obtain rfl : v48 = V.u x36.1 := h50
      obtain ⟨a52, rfl, sq53⟩ := h51
      obtain ⟨a54, rfl, sq55⟩ := hr41
      refine it2 (K := K) gb30.s hp28 (fun F42 H43 g44 e45 => ?_)
      have gb56 := gb30.tr g44
      have le57 := g44.le
      have cm58 := g44.fz cm31
      refine ⟨Wk.non (Wk.non (Wk.som (Wk.nil))), ?_⟩
      try dsimp only
      have u1 := w3 _ (List.mem_of_getElem? hx40)
      have hz := zip_at hx37 hx40
      refine a_test ?_
      refine a_op ?_
      refine a_op ?_
      refine a_var rfl ?_
      refine a_c ?_
      refine a_ixT (Same.tup gb56.s (Le.tup le57 sq47)) rfl ?_
      refine a_var rfl ?_
      refine a_eqUS ?_
      refine a_bl ?_
      refine iteD (fun c59 => ?_) (fun c59 => ?_)
      · refine a_tup ?_
        refine a_cons ?_
        refine a_var rfl ?_
        refine a_cons ?_
        refine a_tup ?_
        refine a_cons ?_
        refine a_c ?_
        refine a_cons ?_
        refine a_c ?_
        refine a_nil ?_
        refine ⟨by show 2 ≤ sizeLine; decide, fun p60 hp61 => ?_⟩
        obtain ⟨F62, g64, e65⟩ := al2 (o := (.tup [V.int 1, V.int 1])) gb56.s (by intro _ _ z; cases z) hp61
        generalize upd H43 p60 (.tup [V.int 1, V.int 1]) = H63 at g64 ⊢
        have gb66 := gb56.tr g64
        have le67 := g64.le
        have cm68 := g64.fz cm58
        have sq69 : SqT K F62 p60 (fr ((1 : Int) : Rat)) := by rw [fr_int]; exact SqT.of e65
        refine a_nil ?_
        refine ⟨by show 2 ≤ sizeLine; decide, fun p70 hp71 => ?_⟩
        obtain ⟨F72, g74, e75⟩ := al2 (o := (.tup [V.ref a54, V.ref p60])) gb66.s (by intro _ _ z; cases z) hp71
        generalize upd H63 p70 (.tup [V.ref a54, V.ref p60]) = H73 at g74 ⊢
        have gb76 := gb66.tr g74
        have le77 := g74.le
        have cm78 := g74.fz cm68
        refine ⟨by rw [Al.length (Al.mo ((le57.trans le67).trans le77) al34)]; have := sizeLine_big; omega, ?_⟩
        exact ⟨F72, (ts33 ++ [(x39, ((1 : Int) : Rat))]), True.intro, gb76, cm78, (((le32.trans le57).trans le67).trans le77), (Al.snoc (Al.mo ((le57.trans le67).trans le77) al34) ⟨_, _, _, rfl, (SqT.of e75), ⟨_, rfl, (Le.tup ((le57.trans le67).trans le77) sq55)⟩, ⟨_, rfl, (Le.tup le77 sq69)⟩⟩), (by first | (simp; done) | (rw [List.length_append]; simp only [List.length_cons, List.length_nil]; omega) | omega), by exact ⟨by rw [wgt_one, cnt_yes hz (by assumption), q0, cast1, Rat.mul_one], fun p h => (List.mem_append.mp h).elim (q1 p) fun z => mem_one4 u1 (List.mem_singleton.mp z)⟩⟩
      · exact ⟨F42, ts33, True.intro, gb56, cm58, (le32.trans le57), (Al.mo le57 al34), (by first | (simp; done) | (rw [List.length_append]; simp only [List.length_cons, List.length_nil]; omega) | omega), by exact ⟨by rw [cnt_no hz (by assumption), q0], q1⟩⟩
    · rintro acc80 H79 ⟨F81, ts85, _, gb82, cm83, le84, al86, tl87, ⟨q0, q1⟩⟩
      have hlen := Al.length (Al.mo le84 al4)
      have hlen2 := Al.length (Al.mo le84 al8)
      refine ⟨(by rw [Al.length al86]; have := sizeLine_big; omega), fun p88 hp89 => ?_⟩
      obtain ⟨gb91, sm92, hb93, oF94, oH95, ne96⟩ := alo2 (o := (.lst acc80)) gb82 hp89
      generalize upd H79 p88 (.lst acc80) = H90 at gb91 sm92 oH95 ⊢
      rw [hlen, hlen2, zip_all] at q0
      have hmm := Nat.min_le_left settled_here.length shares.length
      refine a_name ?_
      try dsimp only
      refine a_seq ?_
      refine a_if ?_
      refine a_test ?_
      refine a_op ?_
      refine a_var rfl ?_
      refine a_var rfl ?_
      refine a_eqSU ?_
      refine a_bl ?_
      refine iteD (fun c97 => ?_) (fun c97 => ?_)
      · refine a_drop ?_
        refine a_bm ?_
        refine a_var rfl ?_
        refine ⟨tyV_lst oH95, ?_⟩
        refine a_cons ?_
        refine a_tup ?_
        refine a_cons ?_
        refine a_tup ?_
        refine a_cons ?_
        refine a_c ?_
        refine a_cons ?_
        refine a_c ?_
        refine a_nil ?_
        refine ⟨by show 2 ≤ sizeLine; decide, fun p98 hp99 => ?_⟩
        obtain ⟨F100, g102, e103⟩ := al2 (o := (.tup [V.int 1, V.int 1])) gb91.s (by intro _ _ z; cases z) hp99
        generalize upd H90 p98 (.tup [V.int 1, V.int 1]) = H101 at g102 ⊢
        have gb104 := gb91.tr g102
        have le105 := g102.le
        have oH106 := g102.h _ _ oH95
        have oF107 := g102.own oF94 oH95
        have cm108 := g102.fz cm83
        have sq109 : SqT K F100 p98 (fr ((1 : Int) : Rat)) := by rw [fr_int]; exact SqT.of e103
        refine a_cons ?_
        refine a_tup ?_
        refine a_cons ?_
        refine a_c ?_
        refine a_cons ?_
        refine a_c ?_
        refine a_nil ?_
        refine ⟨by show 2 ≤ sizeLine; decide, fun p110 hp111 => ?_⟩
        obtain ⟨F112, g114, e115⟩ := al2 (o := (.tup [V.int 1, V.int 1])) gb104.s (by intro _ _ z; cases z) hp111
        generalize upd H101 p110 (.tup [V.int 1, V.int 1]) = H113 at g114 ⊢
        have gb116 := gb104.tr g114
        have le117 := g114.le
        have oH118 := g114.h _ _ oH106
        have oF119 := g114.own oF107 oH106
        have cm120 := g114.fz cm108
        have sq121 : SqT K F112 p110 (fr ((1 : Int) : Rat)) := by rw [fr_int]; exact SqT.of e115
        refine a_nil ?_
        refine ⟨by show 2 ≤ sizeLine; decide, fun p122 hp123 => ?_⟩
        obtain ⟨F124, g126, e127⟩ := al2 (o := (.tup [V.ref p98, V.ref p110])) gb116.s (by intro _ _ z; cases z) hp123
        generalize upd H113 p122 (.tup [V.ref p98, V.ref p110]) = H125 at g126 ⊢
        have gb128 := gb116.tr g126
        have le129 := g126.le
        have oH130 := g126.h _ _ oH118
        have oF131 := g126.own oF119 oH118
        have cm132 := g126.fz cm120
        refine a_nil ?_
        refine a_app oH130 (Nat.lt_of_lt_of_le (show _ < 100000 by rw [Al.length (Al.mo ((le105.trans le117).trans le129) al86)]; omega) (by decide)) (chg (R := fun H' => _) gb128 hb93 oF131 (fun H133 gb134 oH135 ne136 => ?_))
        have al137 := Al.snoc (Al.mo ((le105.trans le117).trans le129) al86) (show (r2 K (rFr K) (rFr K)) F124 (V.ref p122) (((1 : Int) : Rat), ((1 : Int) : Rat)) from ⟨_, _, _, rfl, (SqT.of e127), ⟨_, rfl, (Le.tup (le117.trans le129) sq109)⟩, ⟨_, rfl, (Le.tup le129 sq121)⟩⟩)
        try dsimp only
        refine a_ret ?_
        refine a_call ?_
        refine a_cons ?_
        refine a_var rfl ?_
        refine a_nil ?_
        obtain ⟨F138, gb139, cm140, le141s, e142, ne143⟩ := frz gb134 cm132 hb93 oF131 oH135 (by intro _ _ z; cases z)
        have le141 := Le.of le141s
        refine ⟨F138, _, (ts85 ++ [(((1 : Int) : Rat), ((1 : Int) : Rat))]), 4, rfl, gb139.s, ⟨_, _, rfl, (SqL.of e142), (Al.mo le141 al137)⟩, (by first | exact ⟨by rw [List.length_append]; show _ + 1 ≤ 15; omega, by decide, fun p h => (List.mem_append.mp h).elim (q1 p) fun z => by rw [List.mem_singleton.mp z]; decide +kernel⟩ | exact ⟨by omega, by decide, q1⟩), ?_⟩
        rintro v144 F145 H146  g148 hr149 hp150
        have gb151 := gb139.tr g148
        have le152 := g148.le
        have cm153 := g148.fz cm140
        obtain ⟨a154, rfl, sq155⟩ := hr149
        have u9 := hp150
        have hval : ((wgtZ ((ts85 ++ [(((1 : Int) : Rat), ((1 : Int) : Rat))]))) : Rat) = (cntR settled_here shares goal (Sum.inr thing)) := by unfold cntR; first | (rw [if_pos (by assumption), wgt_one, q0, cast1, Rat.mul_one, Rat.add_comm]; done) | (rw [if_neg (by assumption), q0, Rat.zero_add]; done)
        have rp156 : (rFr K) F145 (V.ref a154) ((wgtZ ((ts85 ++ [(((1 : Int) : Rat), ((1 : Int) : Rat))])))) := ⟨_, rfl, sq155⟩
        replace rp156 := Eq.mp (congrArg ((rFr K) F145 (V.ref a154)) hval) rp156
        exact k _ _ _ (Gr.of gb151 cm153) rp156 (by rw [← hval]; first | exact Nat.le_trans u9 (len5 (by rw [List.length_append]; show _ + 1 ≤ 5; omega)) | exact Nat.le_trans u9 (len5 (by omega)))
      · refine a_next ?_
        try dsimp only
        refine a_ret ?_
        refine a_call ?_
        refine a_cons ?_
        refine a_var rfl ?_
        refine a_nil ?_
        obtain ⟨F157, gb158, cm159, le160s, e161, ne162⟩ := frz gb91 cm83 hb93 oF94 oH95 (by intro _ _ z; cases z)
        have le160 := Le.of le160s
        refine ⟨F157, _, ts85, 4, rfl, gb158.s, ⟨_, _, rfl, (SqL.of e161), (Al.mo le160 al86)⟩, (by first | exact ⟨by rw [List.length_append]; show _ + 1 ≤ 15; omega, by decide, fun p h => (List.mem_append.mp h).elim (q1 p) fun z => by rw [List.mem_singleton.mp z]; decide +kernel⟩ | exact ⟨by omega, by decide, q1⟩), ?_⟩
        rintro v163 F164 H165  g167 hr168 hp169
        have gb170 := gb158.tr g167
        have le171 := g167.le
        have cm172 := g167.fz cm159
        obtain ⟨a173, rfl, sq174⟩ := hr168
        have u9 := hp169
        have hval : ((wgtZ ts85) : Rat) = (cntR settled_here shares goal (Sum.inr thing)) := by unfold cntR; first | (rw [if_pos (by assumption), wgt_one, q0, cast1, Rat.mul_one, Rat.add_comm]; done) | (rw [if_neg (by assumption), q0, Rat.zero_add]; done)
        have rp175 : (rFr K) F164 (V.ref a173) ((wgtZ ts85)) := ⟨_, rfl, sq174⟩
        replace rp175 := Eq.mp (congrArg ((rFr K) F164 (V.ref a173)) hval) rp175
        exact k _ _ _ (Gr.of gb170 cm172) rp175 (by rw [← hval]; first | exact Nat.le_trans u9 (len5 (by rw [List.length_append]; show _ + 1 ≤ 5; omega)) | exact Nat.le_trans u9 (len5 (by omega)))
def sp_law_price (K : PySem.W.Frag) : Sp := fun vs H Q _ => Ex11 fun (F : Hp) (v_one : V) (v_cell : V) (v_goal : V) (v_settled_here : V) (v_shares : V) (one : ((List (Str × Rat)) × Str × Rat × Int × Int)) (cell : Int) (goal : (Int ⊕ Str)) (settled_here : (List ((Int ⊕ Str) × Rat))) (shares : (List Rat)) => Cj9 (vs = [v_one, v_cell, v_goal, v_settled_here, v_shares]) (Same F H) ((r5 K (rD (rFr K)) rS (rFr K) rI rI) F v_one one) (rI F v_cell cell) (rU F v_goal goal) ((rL K (r2 K rU (rFr K))) F v_settled_here settled_here) ((rL K (rFr K)) F v_shares shares) (Row31 one ∧ settled_here.length ≤ 4 ∧ shares.length ≤ 4 ∧ ∀ s ∈ shares, 0 ≤ s ∧ bs s ≤ 3) (∀ (v : V) (F' H' : Hp) (r : Rat), Gr F H F' H' → (rFr K) F' v r → ((signB (one, r) = true ∧ roomB settled_here shares goal (one, r) = true) ∧ bs r ≤ 32) → Q v H')
set_option linter.unusedVariables false in
theorem ok_law_price (T : Tx K mg) : FnOk P w K mg base CX0 5 T.a_law_price T.d_law_price ["_law_one", "_law_cell", "_law_goal", "_law_settled_here", "_law_shares"] (sp_law_price K) := by
  refine T.F_law_price.ok sc_law_price (fun vs H Q E h => ?_) (fun cdv A outer s H vs Q E hr h => ?_)
  · obtain ⟨F, v_one, v_cell, v_goal, v_settled_here, v_shares, one, cell, goal, settled_here, shares, rfl, _⟩ := h
    rfl
  · obtain ⟨F, v_one, v_cell, v_goal, v_settled_here, v_shares, one, cell, goal, settled_here, shares, rfl, wd, r_one, r_cell, r_goal, r_settled_here, r_shares, hpre, k⟩ := h
    have hu := hu_of hr
    have gb := Gr0.refl wd
    have cm := Fz.refl F
    obtain ⟨a1, v3, v4, v5, v6, v7, rfl, sq2, h8, h9, h10, h11, h12⟩ := r_one
    obtain ⟨a13, kvs14, rfl, rd15, dk16, nd17⟩ := h8
    obtain rfl : v4 = V.str one.2.1 := h9
    obtain ⟨a18, rfl, sq19⟩ := h10
    obtain rfl : v6 = V.int one.2.2.2.1 := h11
    obtain rfl : v7 = V.int one.2.2.2.2 := h12
    obtain rfl : v_cell = V.int cell := r_cell
    obtain rfl : v_goal = V.u goal := r_goal
    obtain ⟨a20, vs21, rfl, sq22, al23⟩ := r_settled_here
    obtain ⟨a24, vs25, rfl, sq26, al27⟩ := r_shares
    obtain ⟨w1, w2, w3, w4⟩ := hpre
    refine ⟨_, (ZSs.h (zss_cons (ps_set (i := 5) sc_law_price.nd rfl (Or.inl rfl) (pe_tup (pa_cons (pe_op op_add pe_int (pe_op op_mod (pe_call ((ok_law_mix T).mono (by decide)) hr rfl T.m_law_mix T.F_law_mix.kp T.b_law_mix .nil pass0 (pa_cons (pv 1) (pa_cons pe_int pa_nil))) pe_int)) (pa_cons pe_int pa_nil))))
          (zss_cons (ps_if (pt_cmpR op_gt (pe_ix ix_tup (pv 0) pe_int (fun _ _ => rfl)) pe_int (nomark _)) (ZSs.h (zss_cons (ps_set (i := 6) sc_law_price.nd rfl (Or.inl rfl) (pe_call ((ok_law_often T).mono (by decide)) hr rfl T.m_law_often T.F_law_often.kp T.b_law_often .nil pass0 (pa_cons (pe_ix ix_tup (pv 0) pe_int (fun _ _ => rfl)) (pa_cons (pv 2) (pa_cons (pv 3) (pa_cons (pv 4) pa_nil))))))
          (zss_one (ps_set (i := 5) sc_law_price.nd rfl (Or.inl rfl) (pe_call ((ok_law_lowest T).mono (by decide)) hr rfl T.m_law_lowest T.F_law_lowest.kp T.b_law_lowest .nil pass0 (pa_cons (pe_op op_mulB (pe_ix ix_tup (pv 6) pe_int (fun _ _ => rfl)) (pe_ix ix_tup (pv 0) pe_int (fun _ _ => rfl))) (pa_cons (pe_ix ix_tup (pv 6) pe_int (fun _ _ => rfl)) pa_nil))))))) pss_nil)
          (zss_cons (ps_set (i := 7) sc_law_price.nd rfl (Or.inl rfl) (pe_call ((ok_law_lowest T).mono (by decide)) hr rfl T.m_law_lowest T.F_law_lowest.kp T.b_law_lowest .nil pass0 (pa_cons (pe_op op_mulB (pe_ix ix_tup (pv 5) pe_int (fun _ _ => rfl)) (pe_op op_mod (pe_call ((ok_law_mix T).mono (by decide)) hr rfl T.m_law_mix T.F_law_mix.kp T.b_law_mix .nil pass0 (pa_cons (pv 1) (pa_cons pe_int pa_nil))) pe_int)) (pa_cons (pe_op op_mulB (pe_ix ix_tup (pv 5) pe_int (fun _ _ => rfl)) pe_int) pa_nil))))
          (zss_cons (ps_if (PW.pt (pw_or (pt_cmpR op_eq (pe_ix ix_tup (pv 0) pe_int (fun _ _ => rfl)) pe_str (nomark _)) (pw_or1 (PW.pt (pw_and (pt_cmpR op_eq (pe_ix ix_tup (pv 0) pe_int (fun _ _ => rfl)) pe_str (nomark _)) (pw_and1 (pt_cmpR op_eq (pe_op op_mod (pe_call ((ok_law_mix T).mono (by decide)) hr rfl T.m_law_mix T.F_law_mix.kp T.b_law_mix .nil pass0 (pa_cons (pv 1) (pa_cons pe_int pa_nil))) pe_int) pe_int (nomark _)))))))) (pss_one (ps_set (i := 7) sc_law_price.nd rfl (Or.inl rfl) (pe_tup (pa_cons (pe_op op_sub pe_int (pe_ix ix_tup (pv 7) pe_int (fun _ _ => rfl))) (pa_cons (pe_ix ix_tup (pv 7) pe_int (fun _ _ => rfl)) pa_nil))))) pss_nil)
          (zss_one (ps_ret (pv 7)))))))), ?_⟩
    have hwt := w1.wt
    have hrk := w1.rk
    have hbw := bs_int (n := one.2.2.2.2) (k := 4) (by omega) (by decide)
    refine a_seq ?_
    refine a_asg ?_
    refine a_tup ?_
    refine a_cons ?_
    refine a_op ?_
    refine a_c ?_
    refine a_op ?_
    refine a_call ?_
    refine a_cons ?_
    refine a_var rfl ?_
    refine a_cons ?_
    refine a_c ?_
    refine a_nil ?_
    refine ⟨F, _, _, cell, 13, rfl, gb.s, rfl, rfl, ?_⟩
    rintro v28 F29 H30 r31 g32 hr33 hp34
    have gb35 := gb.tr g32
    have le36 := g32.le
    have cm37 := g32.fz cm
    obtain rfl : v28 = V.int r31 := hr33
    refine a_c ?_
    refine a_I (by decide) ?_
    have m38 : 0 ≤ (r31 % 9) ∧ (r31 % 9) < 9 := ⟨Int.emod_nonneg _ (by decide), Int.emod_lt_of_pos _ (by decide)⟩
    refine a_I0 ?_
    refine a_cons ?_
    refine a_c ?_
    refine a_nil ?_
    refine ⟨by show 2 ≤ sizeLine; decide, fun p39 hp40 => ?_⟩
    obtain ⟨F41, g43, e44⟩ := al2 (o := (.tup [V.int (1 + (r31 % 9)), V.int 1])) gb35.s (by intro _ _ z; cases z) hp40
    generalize upd H30 p39 (.tup [V.int (1 + (r31 % 9)), V.int 1]) = H42 at g43 ⊢
    have gb45 := gb35.tr g43
    have le46 := g43.le
    have cm47 := g43.fz cm37
    have sq48 : SqT K F41 p39 (fr (((1 + (r31 % 9)) : Int) : Rat)) := by rw [fr_int]; exact SqT.of e44
    refine a_name ?_
    try dsimp only
    refine a_seqM (fun σ' H' => Ex4 fun (F49 : Hp) (v_end'50 : V) (end'50 : Rat) (o51 : Option V) => Cj6 (σ' = [some (V.ref a1), some (V.int cell), some (V.u goal), some (V.ref a20), some (V.ref a24), some v_end'50, o51, none]) (Gr0 F H F49 H') (Fz (frzd F) F49) (Le F41 F49) ((rFr K) F49 v_end'50 end'50) ((0 ≤ end'50 ∧ bs end'50 ≤ 30 ∧ (¬ one.2.2.2.1 = 0 → end'50 = roomR settled_here shares goal one)))) (fun R hR => ?_) ?_
    · refine a_if ?_
      refine a_test ?_
      refine a_op ?_
      refine a_op ?_
      refine a_var rfl ?_
      refine a_c ?_
      refine a_ixT (Same.tup gb45.s (Le.tup (le36.trans le46) sq2)) rfl ?_
      refine a_c ?_
      refine a_I0 ?_
      refine a_bl ?_
      refine iteD (fun c52 => ?_) (fun c52 => ?_)
      · refine a_seq ?_
        refine a_asg ?_
        refine a_call ?_
        refine a_cons ?_
        refine a_op ?_
        refine a_var rfl ?_
        refine a_c ?_
        refine a_ixT (Same.tup gb45.s (Le.tup (le36.trans le46) sq2)) rfl ?_
        refine a_cons ?_
        refine a_var rfl ?_
        refine a_cons ?_
        refine a_var rfl ?_
        refine a_cons ?_
        refine a_var rfl ?_
        refine a_nil ?_
        refine ⟨F41, _, _, _, _, one.2.2.2.1, goal, settled_here, shares, rfl, gb45.s, rfl, rfl, ⟨_, _, rfl, (Le.lst (le36.trans le46) sq22), (Al.mo (le36.trans le46) al23)⟩, ⟨_, _, rfl, (Le.lst (le36.trans le46) sq26), (Al.mo (le36.trans le46) al27)⟩, (by exact ⟨w2, w3, fun s h => (w4 s h).2⟩), ?_⟩
        rintro v53 F54 H55  g57 hr58 hp59
        have gb60 := gb45.tr g57
        have le61 := g57.le
        have cm62 := g57.fz cm47
        obtain ⟨a63, rfl, sq64⟩ := hr58
        have u9 := hp59
        have u8 := bs_mul ((one.2.2.2.2 : Int) : Rat) (cntR settled_here shares goal (Sum.inl one.2.2.2.1))
        have u7 := bi_den (cntR settled_here shares goal (Sum.inl one.2.2.2.1))
        refine a_name ?_
        try dsimp only
        refine a_asg ?_
        refine a_call ?_
        refine a_cons ?_
        refine a_op ?_
        refine a_op ?_
        refine a_var rfl ?_
        refine a_c ?_
        refine a_ixT (Same.tup gb60.s sq64) (fr0 (cntR settled_here shares goal (Sum.inl one.2.2.2.1))) ?_
        refine a_op ?_
        refine a_var rfl ?_
        refine a_c ?_
        refine a_ixT (Same.tup gb60.s (Le.tup ((le36.trans le46).trans le61) sq2)) rfl ?_
        refine a_I (by walk_at "om") ?_
        refine a_cons ?_
        refine a_op ?_
        refine a_var rfl ?_
        refine a_c ?_
        refine a_ixT (Same.tup gb60.s sq64) (fr1 (cntR settled_here shares goal (Sum.inl one.2.2.2.1))) ?_
        refine a_nil ?_
        refine ⟨F54, _, _, ((cntR settled_here shares goal (Sum.inl one.2.2.2.1)).num * one.2.2.2.2), ((cntR settled_here shares goal (Sum.inl one.2.2.2.1)).den : Int), rfl, gb60.s, rfl, rfl, (by exact ⟨den_pos _, by omega⟩), ?_⟩
        rintro v65 F66 H67  g69 hr70 
        have gb72 := gb60.tr g69
        have le73 := g69.le
        have cm74 := g69.fz cm62
        obtain ⟨a75, rfl, sq76⟩ := hr70
        refine a_name ?_
        try dsimp only
        exact hR _ _ ⟨F66, _, (Rat.divInt (((cntR settled_here shares goal (Sum.inl one.2.2.2.1)).num * one.2.2.2.2)) (((cntR settled_here shares goal (Sum.inl one.2.2.2.1)).den : Int))), _, rfl, gb72, cm74, (le61.trans le73), ⟨_, rfl, sq76⟩, by first | exact ⟨Rat.intCast_nonneg.mpr (by omega), Nat.le_trans (bs_int (k := 4) (by omega) (by decide)) (by decide), fun h => absurd (by omega) h⟩ | exact ⟨by rw [low_w]; exact Rat.mul_nonneg (Rat.intCast_nonneg.mpr (by omega)) (cnt_pos (fun s h => (w4 s h).1) _ _), by rw [low_w]; omega, fun _ => low_w _ _⟩⟩
      · refine a_next ?_
        try dsimp only
        exact hR _ _ ⟨F41, _, (((1 + (r31 % 9)) : Int) : Rat), _, rfl, gb45, cm47, Le.refl _, ⟨_, rfl, sq48⟩, by first | exact ⟨Rat.intCast_nonneg.mpr (by omega), Nat.le_trans (bs_int (k := 4) (by omega) (by decide)) (by decide), fun h => absurd (by omega) h⟩ | exact ⟨by rw [low_w]; exact Rat.mul_nonneg (Rat.intCast_nonneg.mpr (by omega)) (cnt_pos (fun s h => (w4 s h).1) _ _), by rw [low_w]; omega, fun _ => low_w _ _⟩⟩
    · rintro σ' H77 ⟨F78, v_end'82, end'82, o83, rfl, gb79, cm80, le81, hr84, ⟨e0, e1, e2⟩⟩
      obtain ⟨a85, rfl, sq86⟩ := hr84
      refine a_seq ?_
      refine a_asg ?_
      refine a_call ?_
      refine a_cons ?_
      refine a_op ?_
      refine a_op ?_
      refine a_var rfl ?_
      refine a_c ?_
      refine a_ixT (Same.tup gb79.s sq86) (fr0 end'82) ?_
      refine a_op ?_
      refine a_call ?_
      refine a_cons ?_
      refine a_var rfl ?_
      refine a_cons ?_
      refine a_c ?_
      refine a_nil ?_
      refine ⟨F78, _, _, cell, 14, rfl, gb79.s, rfl, rfl, ?_⟩
      rintro v87 F88 H89 r90 g91 hr92 hp93
      have gb94 := gb79.tr g91
      have le95 := g91.le
      have cm96 := g91.fz cm80
      obtain rfl : v87 = V.int r90 := hr92
      refine a_c ?_
      refine a_I (by decide) ?_
      have m97 : 0 ≤ (r90 % 3) ∧ (r90 % 3) < 3 := ⟨Int.emod_nonneg _ (by decide), Int.emod_lt_of_pos _ (by decide)⟩
      refine a_I (by walk_at "om") ?_
      refine a_cons ?_
      refine a_op ?_
      refine a_op ?_
      refine a_var rfl ?_
      refine a_c ?_
      refine a_ixT (Same.tup gb94.s (Le.tup le95 sq86)) (fr1 end'82) ?_
      refine a_c ?_
      refine a_I (mulR2 (by decide) (by decide)) ?_
      refine a_nil ?_
      refine ⟨F88, _, _, (end'82.num * (r90 % 3)), ((end'82.den : Int) * 2), rfl, gb94.s, rfl, rfl, (by exact ⟨Int.mul_pos (den_pos _) (by decide), two_den e1⟩), ?_⟩
      rintro v98 F99 H100  g102 hr103 
      have gb105 := gb94.tr g102
      have le106 := g102.le
      have cm107 := g102.fz cm96
      obtain ⟨a108, rfl, sq109⟩ := hr103
      refine a_name ?_
      try dsimp only
      have hh : 0 ≤ (Rat.divInt ((end'82.num * (r90 % 3))) (((end'82.den : Int) * 2))) ∧ (Rat.divInt ((end'82.num * (r90 % 3))) (((end'82.den : Int) * 2))) ≤ end'82 ∧ bs (Rat.divInt ((end'82.num * (r90 % 3))) (((end'82.den : Int) * 2))) ≤ 32 := half_all (by omega) (by omega) e0 e1
      refine a_seqM (fun σ' H' => Ex3 fun (F110 : Hp) (v_price_here111 : V) (price_here111 : Rat) => Cj6 (σ' = [some (V.ref a1), some (V.int cell), some (V.u goal), some (V.ref a20), some (V.ref a24), some (V.ref a85), o83, some v_price_here111]) (Gr0 F H F110 H') (Fz (frzd F) F110) (Le F99 F110) ((rFr K) F110 v_price_here111 price_here111) (((signB (one, price_here111) = true ∧ roomB settled_here shares goal (one, price_here111) = true) ∧ bs price_here111 ≤ 32))) (fun R hR => ?_) ?_
      · refine a_if ?_
        refine a_or ?_
        refine a_test ?_
        refine a_op ?_
        refine a_op ?_
        refine a_var rfl ?_
        refine a_c ?_
        refine a_ixT (Same.tup gb105.s (Le.tup ((((le36.trans le46).trans le81).trans le95).trans le106) sq2)) rfl ?_
        refine a_c ?_
        have ln112 : ("most" : Str).length = 4 := by decide +kernel
        refine a_eqS ?_
        refine a_bl ?_
        refine iteD (fun c113 => ?_) (fun c113 => ?_)
        · refine iteT ?_
          refine a_asg ?_
          refine a_tup ?_
          refine a_cons ?_
          refine a_op ?_
          refine a_c ?_
          refine a_op ?_
          refine a_var rfl ?_
          refine a_c ?_
          refine a_ixT (Same.tup gb105.s sq109) (fr0 (Rat.divInt ((end'82.num * (r90 % 3))) (((end'82.den : Int) * 2)))) ?_
          refine a_I0 ?_
          refine a_cons ?_
          refine a_op ?_
          refine a_var rfl ?_
          refine a_c ?_
          refine a_ixT (Same.tup gb105.s sq109) (fr1 (Rat.divInt ((end'82.num * (r90 % 3))) (((end'82.den : Int) * 2)))) ?_
          refine a_nil ?_
          refine ⟨by show 2 ≤ sizeLine; decide, fun p114 hp115 => ?_⟩
          obtain ⟨F116, g118, e119⟩ := al2 (o := (.tup [V.int (0 - (Rat.divInt ((end'82.num * (r90 % 3))) (((end'82.den : Int) * 2))).num), V.int ((Rat.divInt ((end'82.num * (r90 % 3))) (((end'82.den : Int) * 2))).den : Int)])) gb105.s (by intro _ _ z; cases z) hp115
          generalize upd H100 p114 (.tup [V.int (0 - (Rat.divInt ((end'82.num * (r90 % 3))) (((end'82.den : Int) * 2))).num), V.int ((Rat.divInt ((end'82.num * (r90 % 3))) (((end'82.den : Int) * 2))).den : Int)]) = H117 at g118 ⊢
          have gb120 := gb105.tr g118
          have le121 := g118.le
          have cm122 := g118.fz cm107
          have sq123 : SqT K F116 p114 (fr (-(Rat.divInt ((end'82.num * (r90 % 3))) (((end'82.den : Int) * 2))))) := by rw [show fr (-(Rat.divInt ((end'82.num * (r90 % 3))) (((end'82.den : Int) * 2)))) = [V.int (0 - (Rat.divInt ((end'82.num * (r90 % 3))) (((end'82.den : Int) * 2))).num), V.int ((Rat.divInt ((end'82.num * (r90 % 3))) (((end'82.den : Int) * 2))).den : Int)] from by exact fr_neg _]; exact SqT.of e119
          refine a_name ?_
          try dsimp only
          exact hR _ _ ⟨F116, _, (-(Rat.divInt ((end'82.num * (r90 % 3))) (((end'82.den : Int) * 2)))), rfl, gb120, cm122, le121, ⟨_, rfl, sq123⟩, by first | exact ⟨price_pos (by assumption) hh.1 hh.2.1 e2, hh.2.2⟩ | exact ⟨price_neg (fun z => absurd (z.symm.trans (by assumption : one.2.1 = "most")) (by decide +kernel)) hh.1 hh.2.1 e2, by rw [bs_neg]; exact hh.2.2⟩ | exact ⟨price_neg (fun z => absurd (z.symm.trans (by assumption : one.2.1 = "just")) (by decide +kernel)) hh.1 hh.2.1 e2, by rw [bs_neg]; exact hh.2.2⟩⟩
        · refine a_and ?_
          refine a_test ?_
          refine a_op ?_
          refine a_op ?_
          refine a_var rfl ?_
          refine a_c ?_
          refine a_ixT (Same.tup gb105.s (Le.tup ((((le36.trans le46).trans le81).trans le95).trans le106) sq2)) rfl ?_
          refine a_c ?_
          have ln124 : ("just" : Str).length = 4 := by decide +kernel
          refine a_eqS ?_
          refine a_bl ?_
          refine iteD (fun c125 => ?_) (fun c125 => ?_)
          · refine a_test ?_
            refine a_op ?_
            refine a_op ?_
            refine a_call ?_
            refine a_cons ?_
            refine a_var rfl ?_
            refine a_cons ?_
            refine a_c ?_
            refine a_nil ?_
            refine ⟨F99, _, _, cell, 15, rfl, gb105.s, rfl, rfl, ?_⟩
            rintro v126 F127 H128 r129 g130 hr131 hp132
            have gb133 := gb105.tr g130
            have le134 := g130.le
            have cm135 := g130.fz cm107
            obtain rfl : v126 = V.int r129 := hr131
            refine a_c ?_
            refine a_I (by decide) ?_
            have m136 : 0 ≤ (r129 % 2) ∧ (r129 % 2) < 2 := ⟨Int.emod_nonneg _ (by decide), Int.emod_lt_of_pos _ (by decide)⟩
            refine a_c ?_
            refine a_eqI ?_
            refine a_bl ?_
            refine iteD (fun c137 => ?_) (fun c137 => ?_)
            · refine a_asg ?_
              refine a_tup ?_
              refine a_cons ?_
              refine a_op ?_
              refine a_c ?_
              refine a_op ?_
              refine a_var rfl ?_
              refine a_c ?_
              refine a_ixT (Same.tup gb133.s (Le.tup le134 sq109)) (fr0 (Rat.divInt ((end'82.num * (r90 % 3))) (((end'82.den : Int) * 2)))) ?_
              refine a_I0 ?_
              refine a_cons ?_
              refine a_op ?_
              refine a_var rfl ?_
              refine a_c ?_
              refine a_ixT (Same.tup gb133.s (Le.tup le134 sq109)) (fr1 (Rat.divInt ((end'82.num * (r90 % 3))) (((end'82.den : Int) * 2)))) ?_
              refine a_nil ?_
              refine ⟨by show 2 ≤ sizeLine; decide, fun p138 hp139 => ?_⟩
              obtain ⟨F140, g142, e143⟩ := al2 (o := (.tup [V.int (0 - (Rat.divInt ((end'82.num * (r90 % 3))) (((end'82.den : Int) * 2))).num), V.int ((Rat.divInt ((end'82.num * (r90 % 3))) (((end'82.den : Int) * 2))).den : Int)])) gb133.s (by intro _ _ z; cases z) hp139
              generalize upd H128 p138 (.tup [V.int (0 - (Rat.divInt ((end'82.num * (r90 % 3))) (((end'82.den : Int) * 2))).num), V.int ((Rat.divInt ((end'82.num * (r90 % 3))) (((end'82.den : Int) * 2))).den : Int)]) = H141 at g142 ⊢
              have gb144 := gb133.tr g142
              have le145 := g142.le
              have cm146 := g142.fz cm135
              have sq147 : SqT K F140 p138 (fr (-(Rat.divInt ((end'82.num * (r90 % 3))) (((end'82.den : Int) * 2))))) := by rw [show fr (-(Rat.divInt ((end'82.num * (r90 % 3))) (((end'82.den : Int) * 2)))) = [V.int (0 - (Rat.divInt ((end'82.num * (r90 % 3))) (((end'82.den : Int) * 2))).num), V.int ((Rat.divInt ((end'82.num * (r90 % 3))) (((end'82.den : Int) * 2))).den : Int)] from by exact fr_neg _]; exact SqT.of e143
              refine a_name ?_
              try dsimp only
              exact hR _ _ ⟨F140, _, (-(Rat.divInt ((end'82.num * (r90 % 3))) (((end'82.den : Int) * 2)))), rfl, gb144, cm146, (le134.trans le145), ⟨_, rfl, sq147⟩, by first | exact ⟨price_pos (by assumption) hh.1 hh.2.1 e2, hh.2.2⟩ | exact ⟨price_neg (fun z => absurd (z.symm.trans (by assumption : one.2.1 = "most")) (by decide +kernel)) hh.1 hh.2.1 e2, by rw [bs_neg]; exact hh.2.2⟩ | exact ⟨price_neg (fun z => absurd (z.symm.trans (by assumption : one.2.1 = "just")) (by decide +kernel)) hh.1 hh.2.1 e2, by rw [bs_neg]; exact hh.2.2⟩⟩
            · refine a_next ?_
              try dsimp only
              exact hR _ _ ⟨F127, _, (Rat.divInt ((end'82.num * (r90 % 3))) (((end'82.den : Int) * 2))), rfl, gb133, cm135, le134, ⟨_, rfl, (Le.tup le134 sq109)⟩, by first | exact ⟨price_pos (by assumption) hh.1 hh.2.1 e2, hh.2.2⟩ | exact ⟨price_neg (fun z => absurd (z.symm.trans (by assumption : one.2.1 = "most")) (by decide +kernel)) hh.1 hh.2.1 e2, by rw [bs_neg]; exact hh.2.2⟩ | exact ⟨price_neg (fun z => absurd (z.symm.trans (by assumption : one.2.1 = "just")) (by decide +kernel)) hh.1 hh.2.1 e2, by rw [bs_neg]; exact hh.2.2⟩⟩
          · refine iteF ?_
            refine a_next ?_
            try dsimp only
            exact hR _ _ ⟨F99, _, (Rat.divInt ((end'82.num * (r90 % 3))) (((end'82.den : Int) * 2))), rfl, gb105, cm107, Le.refl _, ⟨_, rfl, sq109⟩, by first | exact ⟨price_pos (by assumption) hh.1 hh.2.1 e2, hh.2.2⟩ | exact ⟨price_neg (fun z => absurd (z.symm.trans (by assumption : one.2.1 = "most")) (by decide +kernel)) hh.1 hh.2.1 e2, by rw [bs_neg]; exact hh.2.2⟩ | exact ⟨price_neg (fun z => absurd (z.symm.trans (by assumption : one.2.1 = "just")) (by decide +kernel)) hh.1 hh.2.1 e2, by rw [bs_neg]; exact hh.2.2⟩⟩
      · rintro σ' H148 ⟨F149, v_price_here153, price_here153, rfl, gb150, cm151, le152, hr154, hq⟩
        obtain ⟨a155, rfl, sq156⟩ := hr154
        refine a_ret ?_
        refine a_var rfl ?_
        exact k _ _ _ (price_here153) (Gr.of gb150 cm151) (⟨_, rfl, sq156⟩) (by exact hq)
def sp_law_evened (K : PySem.W.Frag) : Sp := fun vs H Q _ => Ex19 fun (F : Hp) (v_rows : V) (v_prices : V) (v_some' : V) (v_goal : V) (v_settled_here : V) (v_shares : V) (v_first : V) (rows : (List ((List (Str × Rat)) × Str × Rat × Int × Int))) (prices : (List Rat)) (some' : (List Str)) (goal : (Int ⊕ Str)) (settled_here : (List ((Int ⊕ Str) × Rat))) (shares : (List Rat)) (first : Int) (a_rows : Addr) (kv_rows : List V) (a_prices : Addr) (kv_prices : List V) => Cj18 (vs = [v_rows, v_prices, v_some', v_goal, v_settled_here, v_shares, v_first]) (Same F H) ((rL K rS) F v_some' some') (rU F v_goal goal) ((rL K (r2 K rU (rFr K))) F v_settled_here settled_here) ((rL K (rFr K)) F v_shares shares) (rI F v_first first) (v_rows = .ref a_rows) (H a_rows = some (.lst kv_rows)) (F a_rows = none) (Al (r5 K (rD (rFr K)) rS (rFr K) rI rI) F kv_rows rows) (v_prices = .ref a_prices) (H a_prices = some (.lst kv_prices)) (F a_prices = none) (Al (rFr K) F kv_prices prices) (a_rows ≠ a_prices) (Ev settled_here shares goal [] rows prices ∧ rows.length ≤ 7 ∧ some'.length ≤ 3 ∧ some'.Nodup ∧ settled_here.length ≤ 4 ∧ shares.length ≤ 4 ∧ ∀ s ∈ shares, 0 ≤ s ∧ bs s ≤ 3) (∀ (F' H' : Hp) (kw_rows : List V) (rows_1 : (List ((List (Str × Rat)) × Str × Rat × Int × Int))) (kw_prices : List V) (prices_1 : (List Rat)), Gr F (hid a_rows a_prices H) F' H' → H' a_rows = some (.lst kw_rows) → F' a_rows = none → Al (r5 K (rD (rFr K)) rS (rFr K) rI rI) F' kw_rows rows_1 → H' a_prices = some (.lst kw_prices) → F' a_prices = none → Al (rFr K) F' kw_prices prices_1 → (Ev settled_here shares goal some' rows_1 prices_1 ∧ rows_1.length ≤ 10) → Q .non H')
set_option linter.unusedVariables false in
theorem ok_law_evened (T : Tx K mg) : FnOk P w K mg base CX0 5 T.a_law_evened T.d_law_evened ["_law_rows", "_law_prices", "_law_some", "_law_goal", "_law_settled_here", "_law_shares", "_law_first"] (sp_law_evened K) := by
  refine T.F_law_evened.ok sc_law_evened (fun vs H Q E h => ?_) (fun cdv A outer s H vs Q E hr h => ?_)
  · obtain ⟨F, v_rows, v_prices, v_some', v_goal, v_settled_here, v_shares, v_first, rows, prices, some', goal, settled_here, shares, first, a_rows, kv_rows, a_prices, kv_prices, rfl, _⟩ := h
    rfl
  · obtain ⟨F, v_rows, v_prices, v_some', v_goal, v_settled_here, v_shares, v_first, rows, prices, some', goal, settled_here, shares, first, a_rows, kv_rows, a_prices, kv_prices, rfl, wd, r_some', r_goal, r_settled_here, r_shares, r_first, rfl, oH_rows, oF_rows, al_rows, rfl, oH_prices, oF_prices, al_prices, ne_m, hpre, k⟩ := h
    have hu := hu_of hr
    have gb : Gr0 F (hid a_rows a_prices H) F H := hid_gb wd
    have cm := Fz.refl F
    obtain ⟨a1, vs2, rfl, sq3, al4⟩ := r_some'
    obtain rfl : v_goal = V.u goal := r_goal
    obtain ⟨a5, vs6, rfl, sq7, al8⟩ := r_settled_here
    obtain ⟨a9, vs10, rfl, sq11, al12⟩ := r_shares
    obtain rfl : v_first = V.int first := r_first
    obtain ⟨w1, w2, w3, w4, w5, w6, w7⟩ := hpre
    refine ⟨_, (pss_one (ps_for PassesOwn.never rfl (pi_enum rfl T.z_enumerate (pa_cons (pv 2) pa_nil)) (pg_tup rfl (pgs_cons (pg_name (i := 7) sc_law_evened.nd rfl (Or.inl rfl)) (pgs_cons (pg_name (i := 8) sc_law_evened.nd rfl (Or.inr rfl)) pgs_nil))) (ZSs.h (zss_cons (ps_setC (i := 9) (N := ["_law_one", "_law_price_here", "_law_name"]) (ix := [none, none, some 8]) sc_law_evened.nd rfl (Or.inl rfl) rfl (pi_zip rfl T.z_zip (pa_cons (pv 0) (pa_cons (pv 1) pa_nil))) (fun _ _ _ _ _ => (show PG _ _ (gTup K 2 _) from pg_tup rfl (pgs_cons (pg_name (i := 0) (show List.Nodup (["_law_one", "_law_price_here", "_law_name"] : List Str) from by decide) rfl (Or.inl rfl)) (pgs_cons (pg_name (i := 1) (show List.Nodup (["_law_one", "_law_price_here", "_law_name"] : List Str) from by decide) rfl (Or.inl rfl)) pgs_nil)))) (fun _ _ _ _ _ => (pts_one (pt_cmp (pc_din hu (pv 2) (pe_ix (show IxR _ (rIxT K) from ix_tup) (pv 0) pe_int (fun _ _ => rfl)))))) (fun _ _ _ _ _ => (pe_tup (pa_cons (pv 1) (pa_cons (pe_dget hu (pe_ix (show IxR _ (rIxT K) from ix_tup) (pv 0) pe_int (fun _ _ => rfl)) (pv 2) (fun _ _ => rfl)) pa_nil)))) ⟨rfl, rfl, rfl, True.intro⟩)
          (zss_cons (ps_set (i := 10) sc_law_evened.nd rfl (Or.inl rfl) (pe_call ((ok_law_often_s T).mono (by decide)) hr rfl T.m_law_often T.F_law_often.kp T.b_law_often .nil pass0 (pa_cons (pv 8) (pa_cons (pv 3) (pa_cons (pv 4) (pa_cons (pv 5) pa_nil))))))
          (zss_cons (ps_asg (pe_call ((ok_law_add T).mono (by decide)) hr rfl T.m_law_add T.F_law_add.kp T.b_law_add .nil pass0 (pa_cons (pe_op op_catS (pv 9) (pe_lst (pa_cons (pe_tup (pa_cons (pe_tup (pa_cons (pe_un un_neg pe_int) (pa_cons pe_int pa_nil))) (pa_cons (pv 10) pa_nil))) pa_nil))) pa_nil)) (pg_tup rfl (pgs_cons (pg_name (i := 11) sc_law_evened.nd rfl (Or.inl rfl)) (pgs_cons (pg_name (i := 12) sc_law_evened.nd rfl (Or.inl rfl)) pgs_nil))))
          (zss_cons (ps_set (i := 11) sc_law_evened.nd rfl (Or.inl rfl) (pe_op op_add (pv 11) (pe_ix ix_list (pe_lst (pa_cons pe_int (pa_cons pe_int (pa_cons pe_int (pa_cons pe_int (pa_cons pe_int (pa_cons (pe_un un_neg pe_int) (pa_cons pe_int pa_nil)))))))) (pe_op op_mod (pe_call ((ok_law_mix T).mono (by decide)) hr rfl T.m_law_mix T.F_law_mix.kp T.b_law_mix .nil pass0 (pa_cons (pv 6) (pa_cons (pe_op op_add (pv 7) pe_int) pa_nil))) pe_int) (fun _ _ => rfl))))
          (zss_one (ps_if (PW.pt (pw_or (pt_cmpR op_gt (pv 11) pe_int (nomark _)) (pw_or1 (PW.pt (pw_and (pt_cmpR op_lt (pv 11) pe_int (nomark _)) (pw_and1 (pt_cmpR op_eq (pe_op op_mod (pe_call ((ok_law_mix T).mono (by decide)) hr rfl T.m_law_mix T.F_law_mix.kp T.b_law_mix .nil pass0 (pa_cons (pv 6) (pa_cons (pe_op op_add (pv 7) pe_int) pa_nil))) pe_int) pe_int (nomark _)))))))) (ZSs.h (zss_cons (ps_expr (pe_bm PySem.F.plainAttrs_list PySem.F.slot_list_append PySem.F.type_list_append mt_append (pv 0) (pa_cons (pe_tup (pa_cons (pe_disp (pps_cons (pv 8) (pe_tup (pa_cons pe_int (pa_cons pe_int pa_nil))) pps_nil) rfl rfl (by decide) (by decide)) (pa_cons pe_str (pa_cons (pe_call ((ok_law_small T).mono (by decide)) hr rfl T.m_law_small T.F_law_small.kp T.b_law_small .nil pass0 (pa_cons (pe_call ((ok_law_mix T).mono (by decide)) hr rfl T.m_law_mix T.F_law_mix.kp T.b_law_mix .nil pass0 (pa_cons (pv 6) (pa_cons (pe_op op_add (pv 7) pe_int) pa_nil))) pa_nil)) (pa_cons pe_int (pa_cons pe_int pa_nil)))))) pa_nil)))
          (zss_one (ps_expr (pe_bm PySem.F.plainAttrs_list PySem.F.slot_list_append PySem.F.type_list_append mt_append (pv 1) (pa_cons (pe_call ((ok_law_lowest T).mono (by decide)) hr rfl T.m_law_lowest T.F_law_lowest.kp T.b_law_lowest .nil pass0 (pa_cons (pe_op op_sub pe_int (pv 11)) (pa_cons (pv 12) pa_nil))) pa_nil)))))) pss_nil))))))))), ?_⟩
    refine a_for ?_
    refine a_ienum ?_
    refine a_cons ?_
    refine a_var rfl ?_
    refine a_nil ?_
    refine ⟨_, rfl, ⟨_, (Same.seq gb.s sq3)⟩, for_enum (xs := vs2) (K := K) (a := a1) (fun i σ' H' => Ex11 fun (F13 : Hp) (kv14 : List V) (rows15 : List ((List (Str × Rat)) × Str × Rat × Int × Int)) (kv16 : List V) (prices17 : List Rat) (o18 : Option V) (o19 : Option V) (o20 : Option V) (o21 : Option V) (o22 : Option V) (o23 : Option V) => Cj11 (σ' = [some (V.ref a_rows), some (V.ref a_prices), some (V.ref a1), some (V.u goal), some (V.ref a5), some (V.ref a9), some (V.int first), o22, o23, o18, o19, o20, o21]) (Gr0 F (hid a_rows a_prices H) F13 H') (Fz (frzd F) F13) (Le F F13) (H' a_rows = some (.lst kv14)) (F13 a_rows = none) (Al (r5 K (rD (rFr K)) rS (rFr K) rI rI) F13 kv14 rows15) (H' a_prices = some (.lst kv16)) (F13 a_prices = none) (Al (rFr K) F13 kv16 prices17) ((Ev settled_here shares goal (some'.take i) rows15 prices17 ∧ rows15.length ≤ 7 + i))) ?_ ?_ ?_ ?_⟩
    · exact ⟨F, _, rows, _, prices, _, _, _, _, _, _, rfl, gb, cm, Le.refl _, oH_rows, oF_rows, al_rows, oH_prices, oF_prices, al_prices, by exact ⟨w1, w2⟩⟩
    · rintro i σ' H24 _ ⟨F25, kv29, m30, kv31, m32, o33, o34, o35, o36, o37, o38, rfl, gb26, cm27, le28, oH39, oF40, dk41, oH42, oF43, dk44, ⟨E, l9⟩⟩
      exact (Same.seq gb26.s (Le.lst le28 sq3))
    · rintro i45 y48 σ' H46 p69 hi47 ⟨F49, kv53, m54, kv55, m56, o57, o58, o59, o60, o61, o62, rfl, gb50, cm51, le52, oH63, oF64, dk65, oH66, oF67, dk68, ⟨E, l9⟩⟩ hp70
      obtain ⟨x71, hx72, hr73⟩ := Al.get (Al.mo le52 al4) hi47
      obtain rfl : y48 = V.str x71 := hr73
      refine it2 (K := K) gb50.s hp70 (fun F74 H75 g76 e77 => ?_)
      have gb78 := gb50.tr g76
      have le79 := g76.le
      have oH80 := g76.h _ _ oH63
      have oF81 := g76.own oF64 oH63
      have oH82 := g76.h _ _ oH66
      have oF83 := g76.own oF67 oH66
      have cm84 := g76.fz cm51
      try dsimp only
      have hil := (List.getElem?_eq_some_iff.mp hx72).1
      have hN9 := nodup_take w4 hx72
      have hx9 := hx72
      have hpl := E.len
      have bz : bi 0 = 0 := by decide +kernel
      refine a_seq ?_
      refine a_asg ?_
      refine a_comp ?_
      refine a_izip ?_
      refine a_cons ?_
      refine a_var rfl ?_
      refine a_cons ?_
      refine a_var rfl ?_
      refine a_nil ?_
      have hml91 : (min (m54).length (m56).length) ≤ 1000000 := by omega
      have hlen := Al.length (Al.mo le79 dk65)
      have hlen2 := Al.length (Al.mo le79 dk68)
      refine ⟨_, _, rfl, ⟨_, (SqL.of oH80)⟩, ⟨_, (SqL.of oH82)⟩, comp_zip (K := K) (a := a_rows) (b := a_prices) (xs := kv53) (ys := kv55) (fun i acc H' => Ex6 fun (F85 : Hp) (kv86 : List V) (rows87 : List ((List (Str × Rat)) × Str × Rat × Int × Int)) (kv88 : List V) (prices89 : List Rat) (ts90 : List (Rat × Rat)) => Cj17 (True) (Gr0 F (hid a_rows a_prices H) F85 H') (Fz (frzd F) F85) (Le F74 F85) (H' a_rows = some (.lst kv86)) (F85 a_rows = none) (Al (r5 K (rD (rFr K)) rS (rFr K) rI rI) F85 kv86 rows87) (m54 = rows87) (kv53 = kv86) (H' a_prices = some (.lst kv88)) (F85 a_prices = none) (Al (rFr K) F85 kv88 prices89) (m56 = prices89) (kv55 = kv88) (Al (r2 K (rFr K) (rFr K)) F85 acc ts90) (ts90.length ≤ i) (((∀ p ∈ ts90, bs p.1 + bs p.2 ≤ 37) ∧ ts90.length ≤ min i 7))) ?_ ?_ ?_ ?_⟩
      · exact ⟨F74, _, m54, _, m56, [], True.intro, gb78, cm84, Le.refl _, oH80, oF81, (Al.mo le79 dk65), rfl, rfl, oH82, oF83, (Al.mo le79 dk68), rfl, rfl, (show Al (r2 K (rFr K) (rFr K)) F74 [] [] from True.intro), (by first | (simp; done) | (rw [List.length_append]; simp only [List.length_cons, List.length_nil]; omega) | omega), by exact ⟨fun p h => (by cases h), Nat.zero_le _⟩⟩
      · rintro i acc H92 _ ⟨F93, kv97, m98, kv99, m100, ts101, _, gb94, cm95, le96, oH104, oF105, dk106, rfl, rfl, oH107, oF108, dk109, rfl, rfl, al102, tl103, ⟨q1, q2⟩⟩
        exact ⟨(SqL.of oH104), (SqL.of oH107)⟩
      · rintro i110 y114 z115 acc116 H111 p117 hi112 hj113 ⟨F119, kv123, m124, kv125, m126, ts127, _, gb120, cm121, le122, oH130, oF131, dk132, rfl, rfl, oH133, oF134, dk135, rfl, rfl, al128, tl129, ⟨q1, q2⟩⟩ hp118
        obtain ⟨x136, hx137, hr138⟩ := Al.get dk132 hi112
        obtain ⟨x139, hx140, hr141⟩ := Al.get dk135 hj113
        have hil := (List.getElem?_eq_some_iff.mp hx137).1
        have hil2 := (List.getElem?_eq_some_iff.mp hx140).1
        obtain ⟨a146, v148, v149, v150, v151, v152, rfl, sq147, h153, h154, h155, h156, h157⟩ := hr138
        obtain ⟨a158, kvs159, rfl, rd160, dk161, nd162⟩ := h153
        obtain rfl : v149 = V.str x136.2.1 := h154
        obtain ⟨a163, rfl, sq164⟩ := h155
        obtain rfl : v151 = V.int x136.2.2.2.1 := h156
        obtain rfl : v152 = V.int x136.2.2.2.2 := h157
        obtain ⟨a165, rfl, sq166⟩ := hr141
        refine it2 (K := K) gb120.s hp118 (fun F142 H143 g144 e145 => ?_)
        have gb167 := gb120.tr g144
        have le168 := g144.le
        have oH169 := g144.h _ _ oH130
        have oF170 := g144.own oF131 oH130
        have oH171 := g144.h _ _ oH133
        have oF172 := g144.own oF134 oH133
        have cm173 := g144.fz cm121
        refine ⟨Wk.non (Wk.non (Wk.som (Wk.nil))), ?_⟩
        try dsimp only
        refine a_tB ?_
        refine a_din ?_
        refine a_var rfl ?_
        refine a_op ?_
        refine a_var rfl ?_
        refine a_c ?_
        refine a_ixT (Same.tup gb167.s (Le.tup le168 sq147)) rfl ?_
        obtain ⟨o174, hg175, ho176⟩ := dinX x71 (Same.rd gb167.s (Le.dic le168 rd160)) (Dk.mo le168 dk161)
        refine ⟨_, o174, rfl, hg175, ?_⟩
        rw [ho176]
        refine a_bl ?_
        refine iteB (fun c177 => ?_) (fun c177 => ?_)
        · refine a_tup ?_
          refine a_cons ?_
          refine a_var rfl ?_
          refine a_cons ?_
          refine a_dget ?_
          refine a_op ?_
          refine a_var rfl ?_
          refine a_c ?_
          refine a_ixT (Same.tup gb167.s (Le.tup le168 sq147)) rfl ?_
          refine a_var rfl ?_
          obtain ⟨y181, y181g⟩ : ∃ y, gtd x136.1 x71 = some y := by exact Option.isSome_iff_exists.mp (by assumption)
          obtain ⟨v178, h179, h180⟩ := Dk.some (Dk.mo le168 dk161) y181g
          refine a_dgetK (Same.rd gb167.s (Le.dic le168 rd160)) h179 ?_
          obtain ⟨a182, rfl, sq183⟩ := h180
          refine a_nil ?_
          refine ⟨by show 2 ≤ sizeLine; decide, fun p184 hp185 => ?_⟩
          obtain ⟨F186, g188, e189⟩ := al2 (o := (.tup [V.ref a165, V.ref a182])) gb167.s (by intro _ _ z; cases z) hp185
          generalize upd H143 p184 (.tup [V.ref a165, V.ref a182]) = H187 at g188 ⊢
          have gb190 := gb167.tr g188
          have le191 := g188.le
          have oH192 := g188.h _ _ oH169
          have oF193 := g188.own oF170 oH169
          have oH194 := g188.h _ _ oH171
          have oF195 := g188.own oF172 oH171
          have cm196 := g188.fz cm173
          refine ⟨by rw [Al.length (Al.mo (le168.trans le191) al128)]; have := sizeLine_big; omega, ?_⟩
          exact ⟨F186, _, m54, _, m56, (ts127 ++ [(x139, y181)]), True.intro, gb190, cm196, ((le122.trans le168).trans le191), oH192, oF193, (Al.mo (le168.trans le191) dk132), rfl, rfl, oH194, oF195, (Al.mo (le168.trans le191) dk135), rfl, rfl, (Al.snoc (Al.mo (le168.trans le191) al128) ⟨_, _, _, rfl, (SqT.of e189), ⟨_, rfl, (Le.tup (le168.trans le191) sq166)⟩, ⟨_, rfl, (Le.tup le191 sq183)⟩⟩), (by first | (simp; done) | (rw [List.length_append]; simp only [List.length_cons, List.length_nil]; omega) | omega), by exact ev_step q1 q2 (E.small hx137 hx140 (by assumption) hN9)⟩
        · exact ⟨F142, _, m54, _, m56, ts127, True.intro, gb167, cm173, (le122.trans le168), oH169, oF170, (Al.mo le168 dk132), rfl, rfl, oH171, oF172, (Al.mo le168 dk135), rfl, rfl, (Al.mo le168 al128), (by first | (simp; done) | (rw [List.length_append]; simp only [List.length_cons, List.length_nil]; omega) | omega), by exact ⟨q1, by omega⟩⟩
      · rintro acc198 H197 ⟨F199, kv203, m204, kv205, m206, ts207, _, gb200, cm201, le202, oH210, oF211, dk212, rfl, rfl, oH213, oF214, dk215, rfl, rfl, al208, tl209, ⟨q1, q2⟩⟩
        have hlen := Al.length dk212
        have hlen2 := Al.length dk215
        refine ⟨(by rw [Al.length al208]; have := sizeLine_big; omega), fun p216 hp217 => ?_⟩
        obtain ⟨F218, g220, e221⟩ := al2 (o := (.lst acc198)) gb200.s (by intro _ _ z; cases z) hp217
        generalize upd H197 p216 (.lst acc198) = H219 at g220 ⊢
        have gb222 := gb200.tr g220
        have le223 := g220.le
        have oH224 := g220.h _ _ oH210
        have oF225 := g220.own oF211 oH210
        have oH226 := g220.h _ _ oH213
        have oF227 := g220.own oF214 oH213
        have cm228 := g220.fz cm201
        have hq7 : ts207.length ≤ 7 := by omega
        refine a_name ?_
        try dsimp only
        refine a_seq ?_
        refine a_asg ?_
        refine a_call ?_
        refine a_cons ?_
        refine a_var rfl ?_
        refine a_cons ?_
        refine a_var rfl ?_
        refine a_cons ?_
        refine a_var rfl ?_
        refine a_cons ?_
        refine a_var rfl ?_
        refine a_nil ?_
        refine ⟨F218, _, _, _, _, x71, goal, settled_here, shares, rfl, gb222.s, rfl, rfl, ⟨_, _, rfl, (Le.lst (((le52.trans le79).trans le202).trans le223) sq7), (Al.mo (((le52.trans le79).trans le202).trans le223) al8)⟩, ⟨_, _, rfl, (Le.lst (((le52.trans le79).trans le202).trans le223) sq11), (Al.mo (((le52.trans le79).trans le202).trans le223) al12)⟩, (by exact ⟨w5, w6, fun s h => (w7 s h).2⟩), ?_⟩
        rintro v229 F230 H231  g233 hr234 hp235
        have gb236 := gb222.tr g233
        have le237 := g233.le
        have oH238 := g233.h _ _ oH224
        have oF239 := g233.own oF225 oH224
        have oH240 := g233.h _ _ oH226
        have oF241 := g233.own oF227 oH226
        have cm242 := g233.fz cm228
        obtain ⟨a243, rfl, sq244⟩ := hr234
        have u8 := hp235
        refine a_name ?_
        try dsimp only
        refine a_seq ?_
        refine a_asg ?_
        refine a_call ?_
        refine a_cons ?_
        refine a_op ?_
        refine a_var rfl ?_
        refine a_lst ?_
        refine a_cons ?_
        refine a_tup ?_
        refine a_cons ?_
        refine a_tup ?_
        refine a_cons ?_
        refine a_un ?_
        refine a_c ?_
        refine a_U ?_
        refine a_cons ?_
        refine a_c ?_
        refine a_nil ?_
        refine ⟨by show 2 ≤ sizeLine; decide, fun p245 hp246 => ?_⟩
        obtain ⟨F247, g249, e250⟩ := al2 (o := (.tup [V.int (-1), V.int 1])) gb236.s (by intro _ _ z; cases z) hp246
        generalize upd H231 p245 (.tup [V.int (-1), V.int 1]) = H248 at g249 ⊢
        have gb251 := gb236.tr g249
        have le252 := g249.le
        have oH253 := g249.h _ _ oH238
        have oF254 := g249.own oF239 oH238
        have oH255 := g249.h _ _ oH240
        have oF256 := g249.own oF241 oH240
        have cm257 := g249.fz cm242
        have sq258 : SqT K F247 p245 (fr (((-1) : Int) : Rat)) := by rw [fr_int]; exact SqT.of e250
        refine a_cons ?_
        refine a_var rfl ?_
        refine a_nil ?_
        refine ⟨by show 2 ≤ sizeLine; decide, fun p259 hp260 => ?_⟩
        obtain ⟨F261, g263, e264⟩ := al2 (o := (.tup [V.ref p245, V.ref a243])) gb251.s (by intro _ _ z; cases z) hp260
        generalize upd H248 p259 (.tup [V.ref p245, V.ref a243]) = H262 at g263 ⊢
        have gb265 := gb251.tr g263
        have le266 := g263.le
        have oH267 := g263.h _ _ oH253
        have oF268 := g263.own oF254 oH253
        have oH269 := g263.h _ _ oH255
        have oF270 := g263.own oF256 oH255
        have cm271 := g263.fz cm257
        refine a_nil ?_
        refine ⟨by show 1 ≤ sizeLine; decide, fun p272 hp273 => ?_⟩
        obtain ⟨F274, g276, e277⟩ := al2 (o := (.lst [V.ref p259])) gb265.s (by intro _ _ z; cases z) hp273
        generalize upd H262 p272 (.lst [V.ref p259]) = H275 at g276 ⊢
        have gb278 := gb265.tr g276
        have le279 := g276.le
        have oH280 := g276.h _ _ oH267
        have oF281 := g276.own oF268 oH267
        have oH282 := g276.h _ _ oH269
        have oF283 := g276.own oF270 oH269
        have cm284 := g276.fz cm271
        have al285 : Al (r2 K (rFr K) (rFr K)) F274 [.ref p259] [((((-1) : Int) : Rat), (cntR settled_here shares goal (Sum.inr x71)))] := ⟨⟨_, _, _, rfl, (Le.tup le279 (SqT.of e264)), ⟨_, rfl, (Le.tup (le266.trans le279) sq258)⟩, ⟨_, rfl, (Le.tup ((le252.trans le266).trans le279) sq244)⟩⟩, True.intro⟩
        have al286 := (Al.mo (((le237.trans le252).trans le266).trans le279) (Al.mo le223 al208))
        have al287 := al285
        refine ⟨_, _, _, _, rfl, rfl, (Same.seq gb278.s (Le.lst (((le237.trans le252).trans le266).trans le279) (SqL.of e221))), (Same.seq gb278.s (SqL.of e277)), (Nat.le_trans (show _ ≤ 100000 by rw [Al.length al286, Al.length al287]; walk_at "ol") (by decide)), fun p288 hp289 => ?_⟩
        obtain ⟨F290, g292, e293⟩ := al2 (o := (.lst (acc198 ++ [V.ref p259]))) gb278.s (by intro _ _ z; cases z) hp289
        generalize upd H275 p288 (.lst (acc198 ++ [V.ref p259])) = H291 at g292 ⊢
        have gb294 := gb278.tr g292
        have le295 := g292.le
        have oH296 := g292.h _ _ oH280
        have oF297 := g292.own oF281 oH280
        have oH298 := g292.h _ _ oH282
        have oF299 := g292.own oF283 oH282
        have cm300 := g292.fz cm284
        have al301 := Al.mo le295 (Al.app al286 al287)
        refine a_nil ?_
        refine ⟨F290, _, (ts207 ++ [((((-1) : Int) : Rat), (cntR settled_here shares goal (Sum.inr x71)))]), 37, rfl, gb294.s, ⟨_, _, rfl, (SqL.of e293), al301⟩, (by exact ⟨by rw [List.length_append]; show _ + 1 ≤ 15; omega, by decide, fun p h => (List.mem_append.mp h).elim (q1 p) fun z => by rw [List.mem_singleton.mp z]; exact m1_le u8⟩), ?_⟩
        rintro v302 F303 H304  g306 hr307 hp308
        have gb309 := gb294.tr g306
        have le310 := g306.le
        have oH311 := g306.h _ _ oH296
        have oF312 := g306.own oF297 oH296
        have oH313 := g306.h _ _ oH298
        have oF314 := g306.own oF299 oH298
        have cm315 := g306.fz cm300
        obtain ⟨a316, rfl, sq317⟩ := hr307
        have u9 : bs (wgtZ ((ts207 ++ [((((-1) : Int) : Rat), (cntR settled_here shares goal (Sum.inr x71)))]))) ≤ 305 := Nat.le_trans hp308 (len38 (by rw [List.length_append]; show _ + 1 ≤ 8; omega))
        refine a_gtup2 (Same.tup gb309.s sq317) ?_
        try dsimp only
        have b1 : bi (wgtZ ((ts207 ++ [((((-1) : Int) : Rat), (cntR settled_here shares goal (Sum.inr x71)))]))).num ≤ 305 := Nat.le_trans (bi_num _) u9
        have b2 : bi ((wgtZ ((ts207 ++ [((((-1) : Int) : Rat), (cntR settled_here shares goal (Sum.inr x71)))]))).den : Int) ≤ 305 := Nat.le_trans (bi_den _) u9
        have b3 : 0 < ((wgtZ ((ts207 ++ [((((-1) : Int) : Rat), (cntR settled_here shares goal (Sum.inr x71)))]))).den : Int) := den_pos _
        refine a_seq ?_
        refine a_asg ?_
        refine a_op ?_
        refine a_var rfl ?_
        refine a_op ?_
        refine a_lst ?_
        refine a_cons ?_
        refine a_c ?_
        refine a_cons ?_
        refine a_c ?_
        refine a_cons ?_
        refine a_c ?_
        refine a_cons ?_
        refine a_c ?_
        refine a_cons ?_
        refine a_c ?_
        refine a_cons ?_
        refine a_un ?_
        refine a_c ?_
        refine a_U ?_
        refine a_cons ?_
        refine a_c ?_
        refine a_nil ?_
        refine ⟨by show 7 ≤ sizeLine; decide, fun p318 hp319 => ?_⟩
        obtain ⟨F320, g322, e323⟩ := al2 (o := (.lst [V.int 0, V.int 0, V.int 0, V.int 0, V.int 0, V.int (-1), V.int 1])) gb309.s (by intro _ _ z; cases z) hp319
        generalize upd H304 p318 (.lst [V.int 0, V.int 0, V.int 0, V.int 0, V.int 0, V.int (-1), V.int 1]) = H321 at g322 ⊢
        have gb324 := gb309.tr g322
        have le325 := g322.le
        have oH326 := g322.h _ _ oH311
        have oF327 := g322.own oF312 oH311
        have oH328 := g322.h _ _ oH313
        have oF329 := g322.own oF314 oH313
        have cm330 := g322.fz cm315
        have al331 : Al rI F320 [.int 0, .int 0, .int 0, .int 0, .int 0, .int (-1), .int 1] [0, 0, 0, 0, 0, (-1), 1] := ⟨rfl, ⟨rfl, ⟨rfl, ⟨rfl, ⟨rfl, ⟨rfl, ⟨rfl, True.intro⟩⟩⟩⟩⟩⟩⟩
        refine a_op ?_
        refine a_call ?_
        refine a_cons ?_
        refine a_var rfl ?_
        refine a_cons ?_
        refine a_op ?_
        refine a_var rfl ?_
        refine a_c ?_
        refine a_I0 ?_
        have b332 := bi_add (i45 : Int) (20 : Int)
        refine a_nil ?_
        refine ⟨F320, _, _, first, ((i45 : Int) + 20), rfl, gb324.s, rfl, rfl, ?_⟩
        rintro v333 F334 H335 r336 g337 hr338 hp339
        have gb340 := gb324.tr g337
        have le341 := g337.le
        have oH342 := g337.h _ _ oH326
        have oF343 := g337.own oF327 oH326
        have oH344 := g337.h _ _ oH328
        have oF345 := g337.own oF329 oH328
        have cm346 := g337.fz cm330
        obtain rfl : v333 = V.int r336 := hr338
        refine a_c ?_
        refine a_I (by decide) ?_
        have m347 : 0 ≤ (r336 % 7) ∧ (r336 % 7) < 7 := ⟨Int.emod_nonneg _ (by decide), Int.emod_lt_of_pos _ (by decide)⟩
        obtain ⟨x349, v348, h350, h351, h352⟩ := Al.ix (Al.mo le341 al331) (i := (r336 % 7)) (by walk_at "o") (by walk_at "ol")
        refine a_ixL (Same.seq gb340.s (Le.lst le341 (SqL.of e323))) h351 ?_
        have h350m := List.mem_of_getElem? h350
        simp only [List.mem_cons, List.not_mem_nil, or_false] at h350m
        have bx : bi x349 ≤ 1 := bi_small 1 (by omega)
        obtain rfl : v348 = V.int x349 := h352
        refine a_I0 ?_
        have b353 := bi_add (wgtZ ((ts207 ++ [((((-1) : Int) : Rat), (cntR settled_here shares goal (Sum.inr x71)))]))).num x349
        refine a_name ?_
        try dsimp only
        refine a_if ?_
        refine a_or ?_
        refine a_test ?_
        refine a_op ?_
        refine a_var rfl ?_
        refine a_c ?_
        refine a_I0 ?_
        refine a_bl ?_
        refine iteD (fun c354 => ?_) (fun c354 => ?_)
        · refine iteT ?_
          refine a_seq ?_
          refine a_drop ?_
          refine a_bm ?_
          refine a_var rfl ?_
          refine ⟨tyV_lst oH342, ?_⟩
          refine a_cons ?_
          refine a_tup ?_
          refine a_cons ?_
          refine fun p355 hp356 => ?_
          obtain ⟨gb358, sm359, hb360, oF361, oH362, ne363⟩ := alo2 (o := (.dK [])) gb340 hp356
          generalize upd H335 p355 (.dK []) = H357 at gb358 sm359 oH362 ⊢
          have ne364 := ne363 _ _ oH342
          have oH365 := sm359 _ _ oH342
          have ne366 := ne363 _ _ oH344
          have oH367 := sm359 _ _ oH344
          refine a_prs ?_
          refine a_var rfl ?_
          refine a_tup ?_
          refine a_cons ?_
          refine a_c ?_
          refine a_cons ?_
          refine a_c ?_
          refine a_nil ?_
          refine ⟨by show 2 ≤ sizeLine; decide, fun p368 hp369 => ?_⟩
          obtain ⟨F370, g372, e373⟩ := al2 (o := (.tup [V.int 1, V.int 1])) gb358.s (by intro _ _ z; cases z) hp369
          generalize upd H357 p368 (.tup [V.int 1, V.int 1]) = H371 at g372 ⊢
          have gb374 := gb358.tr g372
          have le375 := g372.le
          have oH376 := g372.h _ _ oH365
          have oF377 := g372.own oF343 oH365
          have oH378 := g372.h _ _ oH367
          have oF379 := g372.own oF345 oH367
          have oH380 := g372.h _ _ oH362
          have oF381 := g372.own oF361 oH362
          have cm382 := g372.fz cm346
          have sq383 : SqT K F370 p368 (fr ((1 : Int) : Rat)) := by rw [fr_int]; exact SqT.of e373
          refine ⟨oH380, [(Sum.inr x71, V.ref p368)], rfl, (by show 1 ≤ 15; decide), ?_⟩
          obtain ⟨gb385, oH386, ne387⟩ := chgX (o := (.dK (mergeK [] [(Sum.inr x71, V.ref p368)]))) gb374 hb360 oF381
          generalize upd H371 p355 (.dK (mergeK [] [(Sum.inr x71, V.ref p368)])) = H384 at gb385 oH386 ne387 ⊢
          have oH388 : H384 p355 = some (.dK (putK [] (Sum.inr x71) (V.ref p368))) := oH386
          have oH389 := (ne387 _ ne364).trans oH376
          have oH390 := (ne387 _ ne366).trans oH378
          refine a_cons ?_
          refine a_c ?_
          have ln391 : ("just" : Str).length = 4 := by decide +kernel
          refine a_cons ?_
          refine a_call ?_
          refine a_cons ?_
          refine a_call ?_
          refine a_cons ?_
          refine a_var rfl ?_
          refine a_cons ?_
          refine a_op ?_
          refine a_var rfl ?_
          refine a_c ?_
          refine a_I0 ?_
          have b392 := bi_add (i45 : Int) (30 : Int)
          refine a_nil ?_
          refine ⟨F370, _, _, first, ((i45 : Int) + 30), rfl, gb385.s, rfl, rfl, ?_⟩
          rintro v393 F394 H395 r396 g397 hr398 hp399
          have gb400 := gb385.tr g397
          have le401 := g397.le
          have oH402 := g397.h _ _ oH389
          have oF403 := g397.own oF377 oH389
          have oH404 := g397.h _ _ oH390
          have oF405 := g397.own oF379 oH390
          have oH406 := g397.h _ _ oH388
          have oF407 := g397.own oF381 oH388
          have cm408 := g397.fz cm382
          obtain rfl : v393 = V.int r396 := hr398
          refine a_nil ?_
          refine ⟨F394, _, r396, rfl, gb400.s, rfl, ?_⟩
          rintro v409 F410 H411 r412 g413 hr414 hp415
          have gb416 := gb400.tr g413
          have le417 := g413.le
          have oH418 := g413.h _ _ oH402
          have oF419 := g413.own oF403 oH402
          have oH420 := g413.h _ _ oH404
          have oF421 := g413.own oF405 oH404
          have oH422 := g413.h _ _ oH406
          have oF423 := g413.own oF407 oH406
          have cm424 := g413.fz cm408
          obtain ⟨a425, rfl, sq426⟩ := hr414
          refine a_cons ?_
          refine a_c ?_
          refine a_cons ?_
          refine a_c ?_
          refine a_nil ?_
          obtain ⟨F427, gb428, cm429, le430s, e431, ne432⟩ := frz gb416 cm424 hb360 oF423 oH422 (by intro _ _ z; cases z)
          have le430 := Le.of le430s
          have oF433 := (ne432 _ ne364).trans oF419
          have oF434 := (ne432 _ ne366).trans oF421
          refine ⟨by show 5 ≤ sizeLine; decide, fun p435 hp436 => ?_⟩
          obtain ⟨F437, g439, e440⟩ := al2 (o := (.tup [V.ref p355, V.str ("just" : Str), V.ref a425, V.int 0, V.int 1])) gb428.s (by intro _ _ z; cases z) hp436
          generalize upd H411 p435 (.tup [V.ref p355, V.str ("just" : Str), V.ref a425, V.int 0, V.int 1]) = H438 at g439 ⊢
          have gb441 := gb428.tr g439
          have le442 := g439.le
          have oH443 := g439.h _ _ oH418
          have oF444 := g439.own oF433 oH418
          have oH445 := g439.h _ _ oH420
          have oF446 := g439.own oF434 oH420
          have cm447 := g439.fz cm429
          have hde := g439.f _ _ e431
          have hdb := hb360
          have hdt := e440
          refine a_nil ?_
          refine a_app oH443 (Nat.lt_of_lt_of_le (show _ < 100000 by rw [Al.length (Al.mo (((((((((((((le223.trans le237).trans le252).trans le266).trans le279).trans le295).trans le310).trans le325).trans le341).trans le375).trans le401).trans le417).trans le430).trans le442) dk212)]; omega) (by decide)) (chg (R := fun H' => _) gb441 hid_a oF444 (fun H448 gb449 oH450 ne451 => ?_))
          have al452 := Al.snoc (Al.mo (((((((((((((le223.trans le237).trans le252).trans le266).trans le279).trans le295).trans le310).trans le325).trans le341).trans le375).trans le401).trans le417).trans le430).trans le442) dk212) (show (r5 K (rD (rFr K)) rS (rFr K) rI rI) F437 (V.ref p435) ((ptd [] x71 ((1 : Int) : Rat)), ("just" : Str), r412, 0, 1) from ⟨_, _, _, _, _, _, rfl, (SqT.of e440), ⟨_, _, rfl, (Le.dic le442 (Rd.of e431)), (Dk.mo le442 (Dk.mo ((le401.trans le417).trans le430) (Dk.put (x := x71) (show (rFr K) F370 (V.ref p368) (((1 : Int) : Rat)) from ⟨_, rfl, sq383⟩) (show Dk (rFr K) F370 [] [] from True.intro)))), (nd_ptd (show (([] : List (Str × Rat)).map (·.1)).Nodup from List.nodup_nil) x71 ((1 : Int) : Rat))⟩, rfl, ⟨_, rfl, (Le.tup (le430.trans le442) sq426)⟩, rfl, rfl⟩)
          have oH453 := (ne451 _ (Ne.symm ne_m)).trans oH445
          try dsimp only
          refine a_drop ?_
          refine a_bm ?_
          refine a_var rfl ?_
          refine ⟨tyV_lst oH453, ?_⟩
          refine a_cons ?_
          refine a_call ?_
          refine a_cons ?_
          refine a_op ?_
          refine a_c ?_
          refine a_var rfl ?_
          refine a_I0 ?_
          have b454 := bi_sub (0 : Int) ((wgtZ ((ts207 ++ [((((-1) : Int) : Rat), (cntR settled_here shares goal (Sum.inr x71)))]))).num + x349)
          refine a_cons ?_
          refine a_var rfl ?_
          refine a_nil ?_
          refine ⟨F437, _, _, (0 - ((wgtZ ((ts207 ++ [((((-1) : Int) : Rat), (cntR settled_here shares goal (Sum.inr x71)))]))).num + x349)), ((wgtZ ((ts207 ++ [((((-1) : Int) : Rat), (cntR settled_here shares goal (Sum.inr x71)))]))).den : Int), rfl, gb449.s, rfl, rfl, (by exact ⟨b3, by omega⟩), ?_⟩
          rintro v455 F456 H457  g459 hr460 
          have gb462 := gb449.tr g459
          have le463 := g459.le
          have oH464 := g459.h _ _ oH450
          have oF465 := g459.own oF444 oH450
          have oH466 := g459.h _ _ oH453
          have oF467 := g459.own oF446 oH453
          have cm468 := g459.fz cm447
          obtain ⟨a469, rfl, sq470⟩ := hr460
          refine a_nil ?_
          refine a_app oH466 (Nat.lt_of_lt_of_le (show _ < 100000 by rw [Al.length (Al.mo ((((((((((((((le223.trans le237).trans le252).trans le266).trans le279).trans le295).trans le310).trans le325).trans le341).trans le375).trans le401).trans le417).trans le430).trans le442).trans le463) dk215)]; omega) (by decide)) (chg (R := fun H' => _) gb462 hid_b oF467 (fun H471 gb472 oH473 ne474 => ?_))
          have al475 := Al.snoc (Al.mo ((((((((((((((le223.trans le237).trans le252).trans le266).trans le279).trans le295).trans le310).trans le325).trans le341).trans le375).trans le401).trans le417).trans le430).trans le442).trans le463) dk215) (show (rFr K) F456 (V.ref a469) (Rat.divInt ((0 - ((wgtZ ((ts207 ++ [((((-1) : Int) : Rat), (cntR settled_here shares goal (Sum.inr x71)))]))).num + x349))) (((wgtZ ((ts207 ++ [((((-1) : Int) : Rat), (cntR settled_here shares goal (Sum.inr x71)))]))).den : Int))) from ⟨_, rfl, sq470⟩)
          have oH476 := (ne474 _ ne_m).trans oH464
          try dsimp only
          exact ⟨F456, _, (m54 ++ [((ptd [] x71 ((1 : Int) : Rat)), ("just" : Str), r412, 0, 1)]), _, (m56 ++ [(Rat.divInt ((0 - ((wgtZ ((ts207 ++ [((((-1) : Int) : Rat), (cntR settled_here shares goal (Sum.inr x71)))]))).num + x349))) (((wgtZ ((ts207 ++ [((((-1) : Int) : Rat), (cntR settled_here shares goal (Sum.inr x71)))]))).den : Int)))]), _, _, _, _, _, _, rfl, gb472, cm468, (((((((((((((((((le52.trans le79).trans le202).trans le223).trans le237).trans le252).trans le266).trans le279).trans le295).trans le310).trans le325).trans le341).trans le375).trans le401).trans le417).trans le430).trans le442).trans le463), oH476, oF465, (Al.mo le463 al452), oH473, oF467, al475, by first | exact ⟨E.put hx9 (by assumption) (bs_divInt (by omega) (by omega) (by omega)), by rw [List.length_append]; exact Nat.succ_le_succ l9⟩ | exact ⟨E.up, by omega⟩⟩
        · refine a_and ?_
          refine a_test ?_
          refine a_op ?_
          refine a_var rfl ?_
          refine a_c ?_
          refine a_I0 ?_
          refine a_bl ?_
          refine iteD (fun c477 => ?_) (fun c477 => ?_)
          · refine a_test ?_
            refine a_op ?_
            refine a_op ?_
            refine a_call ?_
            refine a_cons ?_
            refine a_var rfl ?_
            refine a_cons ?_
            refine a_op ?_
            refine a_var rfl ?_
            refine a_c ?_
            refine a_I0 ?_
            have b478 := bi_add (i45 : Int) (25 : Int)
            refine a_nil ?_
            refine ⟨F334, _, _, first, ((i45 : Int) + 25), rfl, gb340.s, rfl, rfl, ?_⟩
            rintro v479 F480 H481 r482 g483 hr484 hp485
            have gb486 := gb340.tr g483
            have le487 := g483.le
            have oH488 := g483.h _ _ oH342
            have oF489 := g483.own oF343 oH342
            have oH490 := g483.h _ _ oH344
            have oF491 := g483.own oF345 oH344
            have cm492 := g483.fz cm346
            obtain rfl : v479 = V.int r482 := hr484
            refine a_c ?_
            refine a_I (by decide) ?_
            have m493 : 0 ≤ (r482 % 2) ∧ (r482 % 2) < 2 := ⟨Int.emod_nonneg _ (by decide), Int.emod_lt_of_pos _ (by decide)⟩
            refine a_c ?_
            refine a_eqI ?_
            refine a_bl ?_
            refine iteD (fun c494 => ?_) (fun c494 => ?_)
            · refine a_seq ?_
              refine a_drop ?_
              refine a_bm ?_
              refine a_var rfl ?_
              refine ⟨tyV_lst oH488, ?_⟩
              refine a_cons ?_
              refine a_tup ?_
              refine a_cons ?_
              refine fun p495 hp496 => ?_
              obtain ⟨gb498, sm499, hb500, oF501, oH502, ne503⟩ := alo2 (o := (.dK [])) gb486 hp496
              generalize upd H481 p495 (.dK []) = H497 at gb498 sm499 oH502 ⊢
              have ne504 := ne503 _ _ oH488
              have oH505 := sm499 _ _ oH488
              have ne506 := ne503 _ _ oH490
              have oH507 := sm499 _ _ oH490
              refine a_prs ?_
              refine a_var rfl ?_
              refine a_tup ?_
              refine a_cons ?_
              refine a_c ?_
              refine a_cons ?_
              refine a_c ?_
              refine a_nil ?_
              refine ⟨by show 2 ≤ sizeLine; decide, fun p508 hp509 => ?_⟩
              obtain ⟨F510, g512, e513⟩ := al2 (o := (.tup [V.int 1, V.int 1])) gb498.s (by intro _ _ z; cases z) hp509
              generalize upd H497 p508 (.tup [V.int 1, V.int 1]) = H511 at g512 ⊢
              have gb514 := gb498.tr g512
              have le515 := g512.le
              have oH516 := g512.h _ _ oH505
              have oF517 := g512.own oF489 oH505
              have oH518 := g512.h _ _ oH507
              have oF519 := g512.own oF491 oH507
              have oH520 := g512.h _ _ oH502
              have oF521 := g512.own oF501 oH502
              have cm522 := g512.fz cm492
              have sq523 : SqT K F510 p508 (fr ((1 : Int) : Rat)) := by rw [fr_int]; exact SqT.of e513
              refine ⟨oH520, [(Sum.inr x71, V.ref p508)], rfl, (by show 1 ≤ 15; decide), ?_⟩
              obtain ⟨gb525, oH526, ne527⟩ := chgX (o := (.dK (mergeK [] [(Sum.inr x71, V.ref p508)]))) gb514 hb500 oF521
              generalize upd H511 p495 (.dK (mergeK [] [(Sum.inr x71, V.ref p508)])) = H524 at gb525 oH526 ne527 ⊢
              have oH528 : H524 p495 = some (.dK (putK [] (Sum.inr x71) (V.ref p508))) := oH526
              have oH529 := (ne527 _ ne504).trans oH516
              have oH530 := (ne527 _ ne506).trans oH518
              refine a_cons ?_
              refine a_c ?_
              have ln531 : ("just" : Str).length = 4 := by decide +kernel
              refine a_cons ?_
              refine a_call ?_
              refine a_cons ?_
              refine a_call ?_
              refine a_cons ?_
              refine a_var rfl ?_
              refine a_cons ?_
              refine a_op ?_
              refine a_var rfl ?_
              refine a_c ?_
              refine a_I0 ?_
              have b532 := bi_add (i45 : Int) (30 : Int)
              refine a_nil ?_
              refine ⟨F510, _, _, first, ((i45 : Int) + 30), rfl, gb525.s, rfl, rfl, ?_⟩
              rintro v533 F534 H535 r536 g537 hr538 hp539
              have gb540 := gb525.tr g537
              have le541 := g537.le
              have oH542 := g537.h _ _ oH529
              have oF543 := g537.own oF517 oH529
              have oH544 := g537.h _ _ oH530
              have oF545 := g537.own oF519 oH530
              have oH546 := g537.h _ _ oH528
              have oF547 := g537.own oF521 oH528
              have cm548 := g537.fz cm522
              obtain rfl : v533 = V.int r536 := hr538
              refine a_nil ?_
              refine ⟨F534, _, r536, rfl, gb540.s, rfl, ?_⟩
              rintro v549 F550 H551 r552 g553 hr554 hp555
              have gb556 := gb540.tr g553
              have le557 := g553.le
              have oH558 := g553.h _ _ oH542
              have oF559 := g553.own oF543 oH542
              have oH560 := g553.h _ _ oH544
              have oF561 := g553.own oF545 oH544
              have oH562 := g553.h _ _ oH546
              have oF563 := g553.own oF547 oH546
              have cm564 := g553.fz cm548
              obtain ⟨a565, rfl, sq566⟩ := hr554
              refine a_cons ?_
              refine a_c ?_
              refine a_cons ?_
              refine a_c ?_
              refine a_nil ?_
              obtain ⟨F567, gb568, cm569, le570s, e571, ne572⟩ := frz gb556 cm564 hb500 oF563 oH562 (by intro _ _ z; cases z)
              have le570 := Le.of le570s
              have oF573 := (ne572 _ ne504).trans oF559
              have oF574 := (ne572 _ ne506).trans oF561
              refine ⟨by show 5 ≤ sizeLine; decide, fun p575 hp576 => ?_⟩
              obtain ⟨F577, g579, e580⟩ := al2 (o := (.tup [V.ref p495, V.str ("just" : Str), V.ref a565, V.int 0, V.int 1])) gb568.s (by intro _ _ z; cases z) hp576
              generalize upd H551 p575 (.tup [V.ref p495, V.str ("just" : Str), V.ref a565, V.int 0, V.int 1]) = H578 at g579 ⊢
              have gb581 := gb568.tr g579
              have le582 := g579.le
              have oH583 := g579.h _ _ oH558
              have oF584 := g579.own oF573 oH558
              have oH585 := g579.h _ _ oH560
              have oF586 := g579.own oF574 oH560
              have cm587 := g579.fz cm569
              have hde := g579.f _ _ e571
              have hdb := hb500
              have hdt := e580
              refine a_nil ?_
              refine a_app oH583 (Nat.lt_of_lt_of_le (show _ < 100000 by rw [Al.length (Al.mo ((((((((((((((le223.trans le237).trans le252).trans le266).trans le279).trans le295).trans le310).trans le325).trans le341).trans le487).trans le515).trans le541).trans le557).trans le570).trans le582) dk212)]; omega) (by decide)) (chg (R := fun H' => _) gb581 hid_a oF584 (fun H588 gb589 oH590 ne591 => ?_))
              have al592 := Al.snoc (Al.mo ((((((((((((((le223.trans le237).trans le252).trans le266).trans le279).trans le295).trans le310).trans le325).trans le341).trans le487).trans le515).trans le541).trans le557).trans le570).trans le582) dk212) (show (r5 K (rD (rFr K)) rS (rFr K) rI rI) F577 (V.ref p575) ((ptd [] x71 ((1 : Int) : Rat)), ("just" : Str), r552, 0, 1) from ⟨_, _, _, _, _, _, rfl, (SqT.of e580), ⟨_, _, rfl, (Le.dic le582 (Rd.of e571)), (Dk.mo le582 (Dk.mo ((le541.trans le557).trans le570) (Dk.put (x := x71) (show (rFr K) F510 (V.ref p508) (((1 : Int) : Rat)) from ⟨_, rfl, sq523⟩) (show Dk (rFr K) F510 [] [] from True.intro)))), (nd_ptd (show (([] : List (Str × Rat)).map (·.1)).Nodup from List.nodup_nil) x71 ((1 : Int) : Rat))⟩, rfl, ⟨_, rfl, (Le.tup (le570.trans le582) sq566)⟩, rfl, rfl⟩)
              have oH593 := (ne591 _ (Ne.symm ne_m)).trans oH585
              try dsimp only
              refine a_drop ?_
              refine a_bm ?_
              refine a_var rfl ?_
              refine ⟨tyV_lst oH593, ?_⟩
              refine a_cons ?_
              refine a_call ?_
              refine a_cons ?_
              refine a_op ?_
              refine a_c ?_
              refine a_var rfl ?_
              refine a_I0 ?_
              have b594 := bi_sub (0 : Int) ((wgtZ ((ts207 ++ [((((-1) : Int) : Rat), (cntR settled_here shares goal (Sum.inr x71)))]))).num + x349)
              refine a_cons ?_
              refine a_var rfl ?_
              refine a_nil ?_
              refine ⟨F577, _, _, (0 - ((wgtZ ((ts207 ++ [((((-1) : Int) : Rat), (cntR settled_here shares goal (Sum.inr x71)))]))).num + x349)), ((wgtZ ((ts207 ++ [((((-1) : Int) : Rat), (cntR settled_here shares goal (Sum.inr x71)))]))).den : Int), rfl, gb589.s, rfl, rfl, (by exact ⟨b3, by omega⟩), ?_⟩
              rintro v595 F596 H597  g599 hr600 
              have gb602 := gb589.tr g599
              have le603 := g599.le
              have oH604 := g599.h _ _ oH590
              have oF605 := g599.own oF584 oH590
              have oH606 := g599.h _ _ oH593
              have oF607 := g599.own oF586 oH593
              have cm608 := g599.fz cm587
              obtain ⟨a609, rfl, sq610⟩ := hr600
              refine a_nil ?_
              refine a_app oH606 (Nat.lt_of_lt_of_le (show _ < 100000 by rw [Al.length (Al.mo (((((((((((((((le223.trans le237).trans le252).trans le266).trans le279).trans le295).trans le310).trans le325).trans le341).trans le487).trans le515).trans le541).trans le557).trans le570).trans le582).trans le603) dk215)]; omega) (by decide)) (chg (R := fun H' => _) gb602 hid_b oF607 (fun H611 gb612 oH613 ne614 => ?_))
              have al615 := Al.snoc (Al.mo (((((((((((((((le223.trans le237).trans le252).trans le266).trans le279).trans le295).trans le310).trans le325).trans le341).trans le487).trans le515).trans le541).trans le557).trans le570).trans le582).trans le603) dk215) (show (rFr K) F596 (V.ref a609) (Rat.divInt ((0 - ((wgtZ ((ts207 ++ [((((-1) : Int) : Rat), (cntR settled_here shares goal (Sum.inr x71)))]))).num + x349))) (((wgtZ ((ts207 ++ [((((-1) : Int) : Rat), (cntR settled_here shares goal (Sum.inr x71)))]))).den : Int))) from ⟨_, rfl, sq610⟩)
              have oH616 := (ne614 _ ne_m).trans oH604
              try dsimp only
              exact ⟨F596, _, (m54 ++ [((ptd [] x71 ((1 : Int) : Rat)), ("just" : Str), r552, 0, 1)]), _, (m56 ++ [(Rat.divInt ((0 - ((wgtZ ((ts207 ++ [((((-1) : Int) : Rat), (cntR settled_here shares goal (Sum.inr x71)))]))).num + x349))) (((wgtZ ((ts207 ++ [((((-1) : Int) : Rat), (cntR settled_here shares goal (Sum.inr x71)))]))).den : Int)))]), _, _, _, _, _, _, rfl, gb612, cm608, ((((((((((((((((((le52.trans le79).trans le202).trans le223).trans le237).trans le252).trans le266).trans le279).trans le295).trans le310).trans le325).trans le341).trans le487).trans le515).trans le541).trans le557).trans le570).trans le582).trans le603), oH616, oF605, (Al.mo le603 al592), oH613, oF607, al615, by first | exact ⟨E.put hx9 (by assumption) (bs_divInt (by omega) (by omega) (by omega)), by rw [List.length_append]; exact Nat.succ_le_succ l9⟩ | exact ⟨E.up, by omega⟩⟩
            · refine a_next ?_
              try dsimp only
              exact ⟨F480, _, m54, _, m56, _, _, _, _, _, _, rfl, gb486, cm492, ((((((((((((le52.trans le79).trans le202).trans le223).trans le237).trans le252).trans le266).trans le279).trans le295).trans le310).trans le325).trans le341).trans le487), oH488, oF489, (Al.mo (((((((((le223.trans le237).trans le252).trans le266).trans le279).trans le295).trans le310).trans le325).trans le341).trans le487) dk212), oH490, oF491, (Al.mo (((((((((le223.trans le237).trans le252).trans le266).trans le279).trans le295).trans le310).trans le325).trans le341).trans le487) dk215), by first | exact ⟨E.put hx9 (by assumption) (bs_divInt (by omega) (by omega) (by omega)), by rw [List.length_append]; exact Nat.succ_le_succ l9⟩ | exact ⟨E.up, by omega⟩⟩
          · refine iteF ?_
            refine a_next ?_
            try dsimp only
            exact ⟨F334, _, m54, _, m56, _, _, _, _, _, _, rfl, gb340, cm346, (((((((((((le52.trans le79).trans le202).trans le223).trans le237).trans le252).trans le266).trans le279).trans le295).trans le310).trans le325).trans le341), oH342, oF343, (Al.mo ((((((((le223.trans le237).trans le252).trans le266).trans le279).trans le295).trans le310).trans le325).trans le341) dk212), oH344, oF345, (Al.mo ((((((((le223.trans le237).trans le252).trans le266).trans le279).trans le295).trans le310).trans le325).trans le341) dk215), by first | exact ⟨E.put hx9 (by assumption) (bs_divInt (by omega) (by omega) (by omega)), by rw [List.length_append]; exact Nat.succ_le_succ l9⟩ | exact ⟨E.up, by omega⟩⟩
    · rintro σ' H617 ⟨F618, kv622, m623, kv624, m625, o626, o627, o628, o629, o630, o631, rfl, gb619, cm620, le621, oH632, oF633, dk634, oH635, oF636, dk637, ⟨E, l9⟩⟩
      have hlen := Al.length (Al.mo le621 al4)
      try dsimp only
      rw [hlen, List.take_length] at E
      rw [hlen] at l9
      exact k _ _ _ _ _ _ (Gr.of gb619 cm620) oH632 oF633 dk634 oH635 oF636 dk637 (by exact ⟨E, by omega⟩)
def sp_law_asked (T : Tx K mg) : Sp := fun vs H Q _ => Ex13 fun (F : Hp) (v_rows : V) (v_some' : V) (v_settled_here : V) (v_goal : V) (v_prices : V) (v_shares : V) (rows : (List ((List (Str × Rat)) × Str × Rat × Int × Int))) (some' : (List Str)) (settled_here : (List ((Int ⊕ Str) × Rat))) (goal : (Int ⊕ Str)) (prices : (List Rat)) (shares : (List Rat)) => Cj10 (vs = [v_rows, v_some', v_settled_here, v_goal, v_prices, v_shares]) (Same F H) ((rL K (r5 K (rD (rFr K)) rS (rFr K) rI rI)) F v_rows rows) ((rL K rS) F v_some' some') ((rL K (r2 K rU (rFr K))) F v_settled_here settled_here) (rU F v_goal goal) ((rL K (rFr K)) F v_prices prices) ((rL K (rFr K)) F v_shares shares) (Ok31 rows settled_here prices shares ∧ some'.length ≤ 5) (∀ (v : V) (F' H' : Hp) (r : ((Option Rat) × Bool)), Gr F H F' H' → (r2 K (rOF K) rB) F' v r → ((holdsB rows some' settled_here goal prices shares = true → r = (some (bndR rows settled_here prices shares), false)) ∧ (holdsB rows some' settled_here goal prices shares = false → r.2 = true)) → Q v H')
set_option linter.unusedVariables false in
theorem ok_law_asked (T : Tx K mg) : FnOk P w K mg base CX0 8 T.a_law_asked T.d_law_asked ["_law_rows", "_law_some", "_law_settled_here", "_law_goal", "_law_prices", "_law_shares"] (sp_law_asked T) := by
  refine T.F_law_asked.ok sc_law_asked (fun vs H Q E h => ?_) (fun cdv A outer s H vs Q E hr h => ?_)
  · obtain ⟨F, v_rows, v_some', v_settled_here, v_goal, v_prices, v_shares, rows, some', settled_here, goal, prices, shares, rfl, _⟩ := h
    rfl
  · obtain ⟨F, v_rows, v_some', v_settled_here, v_goal, v_prices, v_shares, rows, some', settled_here, goal, prices, shares, rfl, wd, r_rows, r_some', r_settled_here, r_goal, r_prices, r_shares, hpre, k⟩ := h
    have hu := hu_of hr
    have gb := Gr0.refl wd
    have cm := Fz.refl F
    obtain ⟨a1, vs2, rfl, sq3, al4⟩ := r_rows
    obtain ⟨a5, vs6, rfl, sq7, al8⟩ := r_some'
    obtain ⟨a9, vs10, rfl, sq11, al12⟩ := r_settled_here
    obtain rfl : v_goal = V.u goal := r_goal
    obtain ⟨a13, vs14, rfl, sq15, al16⟩ := r_prices
    obtain ⟨a17, vs18, rfl, sq19, al20⟩ := r_shares
    obtain ⟨o, w1⟩ := hpre
    refine ⟨_, (ZSs.h (zss_cons (ps_set (i := 6) sc_law_asked.nd rfl (Or.inl rfl) pe_non)
          (zss_cons (ps_set (i := 7) sc_law_asked.nd rfl (Or.inl rfl) pe_bl)
          (zss_cons (ps_try rfl rfl rfl T.m_NoPaper (fun pn xe R hx => (pss_one (ps_set (i := 6) sc_law_asked.nd rfl (Or.inl rfl) (pe_callX ((ok_bound T).mono (by decide)) hr rfl T.m_bound T.F_bound.kp T.b_bound .nil hx (pa_cons (pv 0) (pa_cons (pv 1) (pa_cons (pv 2) (pa_cons (pv 3) (pa_cons (pe_tup (pa_cons (pv 4) (pa_cons (pv 5) pa_nil))) pa_nil))))))))) (fun v => (pss_one (ps_set (i := 7) sc_law_asked.nd rfl (Or.inl rfl) pe_bl))))
          (zss_one (ps_ret (pe_tup (pa_cons (pv 6) (pa_cons (pv 7) pa_nil))))))))), ?_⟩
    refine a_seq ?_
    refine a_asg ?_
    refine a_c ?_
    refine a_name ?_
    try dsimp only
    refine a_seq ?_
    refine a_asg ?_
    refine a_c ?_
    refine a_name ?_
    try dsimp only
    refine a_seq ?_
    refine a_try ?_
    try dsimp only
    refine a_asg ?_
    refine a_callX ?_
    refine a_cons ?_
    refine a_var rfl ?_
    refine a_cons ?_
    refine a_var rfl ?_
    refine a_cons ?_
    refine a_var rfl ?_
    refine a_cons ?_
    refine a_var rfl ?_
    refine a_cons ?_
    refine a_tup ?_
    refine a_cons ?_
    refine a_var rfl ?_
    refine a_cons ?_
    refine a_var rfl ?_
    refine a_nil ?_
    refine ⟨by show 2 ≤ sizeLine; decide, fun p21 hp22 => ?_⟩
    obtain ⟨F23, g25, e26⟩ := al2 (o := (.tup [V.ref a13, V.ref a17])) gb.s (by intro _ _ z; cases z) hp22
    generalize upd H p21 (.tup [V.ref a13, V.ref a17]) = H24 at g25 ⊢
    have gb27 := gb.tr g25
    have le28 := g25.le
    have cm29 := g25.fz cm
    refine a_nil ?_
    refine ⟨F23, _, _, _, _, _, rows, some', settled_here, goal, (prices, shares), rfl, gb27.s, ⟨_, _, rfl, (Le.lst le28 sq3), (Al.mo le28 al4)⟩, ⟨_, _, rfl, (Le.lst le28 sq7), (Al.mo le28 al8)⟩, ⟨_, _, rfl, (Le.lst le28 sq11), (Al.mo le28 al12)⟩, rfl, ⟨_, _, _, rfl, (SqT.of e26), ⟨_, _, rfl, (Le.lst le28 sq15), (Al.mo le28 al16)⟩, ⟨_, _, rfl, (Le.lst le28 sq19), (Al.mo le28 al20)⟩⟩, (by exact ⟨o, w1⟩), ?_, ?_⟩
    · rintro F37 H38 g39 hx40
      have gb41 := gb27.tr g39
      have le42 := g39.le
      have cm43 := g39.fz cm29
      have hw1 := hx40
      refine a_cat T.em_NoPaper_NoPaper ?_
      try dsimp only
      refine a_asg ?_
      refine a_c ?_
      refine a_name ?_
      try dsimp only
      refine a_ret ?_
      refine a_tup ?_
      refine a_cons ?_
      refine a_var rfl ?_
      refine a_cons ?_
      refine a_var rfl ?_
      refine a_nil ?_
      refine ⟨by show 2 ≤ sizeLine; decide, fun p44 hp45 => ?_⟩
      obtain ⟨F46, g48, e49⟩ := al2 (o := (.tup [V.non, V.bl true])) gb41.s (by intro _ _ z; cases z) hp45
      generalize upd H38 p44 (.tup [V.non, V.bl true]) = H47 at g48 ⊢
      have gb50 := gb41.tr g48
      have le51 := g48.le
      have cm52 := g48.fz cm43
      exact k _ _ _ ((none, true)) (Gr.of gb50 cm52) (⟨_, _, _, rfl, (SqT.of e49), (show rOF K F46 V.non none from rfl), rfl⟩) (by first | exact ⟨fun _ => rfl, fun z => absurd (z.symm.trans hw1) (by decide)⟩ | exact ⟨fun z => absurd (z.symm.trans hw1) (by decide), fun _ => rfl⟩)
    rintro v30 F31 H32  g34 hr35 hp36
    have gb53 := gb27.tr g34
    have le54 := g34.le
    have cm55 := g34.fz cm29
    obtain ⟨a56, rfl, sq57⟩ := hr35
    have hw1 := hp36
    refine a_name ?_
    try dsimp only
    refine a_ret ?_
    refine a_tup ?_
    refine a_cons ?_
    refine a_var rfl ?_
    refine a_cons ?_
    refine a_var rfl ?_
    refine a_nil ?_
    refine ⟨by show 2 ≤ sizeLine; decide, fun p58 hp59 => ?_⟩
    obtain ⟨F60, g62, e63⟩ := al2 (o := (.tup [V.ref a56, V.bl false])) gb53.s (by intro _ _ z; cases z) hp59
    generalize upd H32 p58 (.tup [V.ref a56, V.bl false]) = H61 at g62 ⊢
    have gb64 := gb53.tr g62
    have le65 := g62.le
    have cm66 := g62.fz cm55
    exact k _ _ _ (((some (bndR rows settled_here ((prices, shares)).1 ((prices, shares)).2)), false)) (Gr.of gb64 cm66) (⟨_, _, _, rfl, (SqT.of e63), (show rOF K F60 (V.ref a56) (some (bndR rows settled_here ((prices, shares)).1 ((prices, shares)).2)) from ⟨_, rfl, (Le.tup le65 sq57)⟩), rfl⟩) (by first | exact ⟨fun _ => rfl, fun z => absurd (z.symm.trans hw1) (by decide)⟩ | exact ⟨fun z => absurd (z.symm.trans hw1) (by decide), fun _ => rfl⟩)
def sp_law (K : PySem.W.Frag) : Sp := fun vs H Q _ => ∃ (a : Addr) (ns : List Int), vs = [.ref a] ∧ SqL K H a (ns.map V.int) ∧ ns.length ≤ 63 ∧ ∀ H', Q (.bl true) H'
theorem ok_law (T : Tx K mg) : FnOk P w K mg base CX0 9 T.a_law T.d_law ["_law_script"] (sp_law K) := by
  refine T.F_law.ok sc_law (fun vs H Q E h => ?_) (fun cdv A outer s H vs Q E hr h => ?_)
  · obtain ⟨a, script, rfl, _⟩ := h
    rfl
  · obtain ⟨a, script, rfl, hS, hl, k⟩ := h
    have hu := hu_of hr
    have gb : Gr0 (fun _ => none) H (fun _ => none) H := Gr0.refl (fun _ _ z => by cases z)
    have cm : Fz S0 (fun _ => none) := fun _ _ _ z => by cases z
    refine ⟨_, (ZSs.h (zss_cons (ps_set (i := 1) sc_law.nd rfl (Or.inr rfl) (pe_call ((ok_law_cell_at T).mono (by decide)) hr rfl T.m_law_cell_at T.F_law_cell_at.kp T.b_law_cell_at .nil pass0 (pa_cons (pv 0) (pa_cons pe_int pa_nil))))
          (zss_cons (ps_set (i := 2) sc_law.nd rfl (Or.inr rfl) (pe_slice sl_list (pe_lst (pa_cons pe_str (pa_cons pe_str (pa_cons pe_str pa_nil)))) po_none (po_some (pe_op op_add pe_int (pe_op op_mod (pv 1) pe_int)))))
          (zss_cons (ps_set (i := 3) sc_law.nd rfl (Or.inr rfl) (pe_call ((ok_law_settled T).mono (by decide)) hr rfl T.m_law_settled T.F_law_settled.kp T.b_law_settled .nil pass0 (pa_cons (pv 1) (pa_cons (pv 2) pa_nil))))
          (zss_cons (ps_set (i := 4) sc_law.nd rfl (Or.inr rfl) (pe_comp (N := ["_law_k", "_law_first"]) (ix := [none, some 1]) rfl (pi_range1 rfl T.z_range (pa_cons (pe_callB call_len_seq rfl T.z_len rfl (pa_cons (pv 3) pa_nil)) pa_nil)) (fun _ _ _ _ _ => (pg_name (i := 0) (show List.Nodup (["_law_k", "_law_first"] : List Str) from by decide) rfl (Or.inl rfl))) (fun _ _ _ _ _ => pts_nil) (fun _ _ _ _ _ => (pe_call ((ok_law_lowest T).mono (by decide)) hr rfl T.m_law_lowest T.F_law_lowest.kp T.b_law_lowest .nil pass0 (pa_cons (pe_op op_mod (pe_call ((ok_law_mix T).mono (by decide)) hr rfl T.m_law_mix T.F_law_mix.kp T.b_law_mix .nil pass0 (pa_cons (pv 1) (pa_cons (pe_op op_add (pv 0) pe_int) pa_nil))) pe_int) (pa_cons (pe_op op_add pe_int (pe_op op_mod (pe_call ((ok_law_mix T).mono (by decide)) hr rfl T.m_law_mix T.F_law_mix.kp T.b_law_mix .nil pass0 (pa_cons (pv 1) (pa_cons (pe_op op_add (pv 0) pe_int) pa_nil))) pe_int)) pa_nil)))) ⟨rfl, rfl, rfl, True.intro⟩))
          (zss_cons (ps_set (i := 5) sc_law.nd rfl (Or.inr rfl) (pe_ix ix_list (pe_op op_catS (pe_lst (pa_cons pe_int (pa_cons pe_int (pa_cons pe_int (pa_cons pe_int pa_nil))))) (pv 2)) (pe_op op_mod (pe_call ((ok_law_mix T).mono (by decide)) hr rfl T.m_law_mix T.F_law_mix.kp T.b_law_mix .nil pass0 (pa_cons (pv 1) (pa_cons pe_int pa_nil))) (pe_op op_add pe_int (pe_callB call_len_seq rfl T.z_len rfl (pa_cons (pv 2) pa_nil)))) (fun _ _ => rfl)))
          (zss_cons (ps_set (i := 6) sc_law.nd rfl (Or.inr rfl) (pe_comp (N := ["_law_cell", "_law_some"]) (ix := [none, some 2]) rfl (pi_list (pe_slice sl_list (pv 0) (po_some pe_int) (po_some pe_int))) (fun _ _ _ _ _ => (pg_name (i := 0) (show List.Nodup (["_law_cell", "_law_some"] : List Str) from by decide) rfl (Or.inl rfl))) (fun _ _ _ _ _ => pts_nil) (fun _ _ _ _ _ => (pe_call ((ok_law_row T).mono (by decide)) hr rfl T.m_law_row T.F_law_row.kp T.b_law_row .nil pass0 (pa_cons (pv 0) (pa_cons (pv 1) pa_nil)))) ⟨rfl, rfl, rfl, True.intro⟩))
          (zss_cons (ps_setC (i := 7) (N := ["_law_k", "_law_goal", "_law_settled_here", "_law_shares", "_law_rows", "_law_script"]) (ix := [none, some 5, some 3, some 4, some 6, some 0]) sc_law.nd rfl (Or.inl rfl) rfl (pi_range1 rfl T.z_range (pa_cons (pe_callB call_len_seq rfl T.z_len rfl (pa_cons (pv 6) pa_nil)) pa_nil)) (fun _ _ _ _ _ => (pg_name (i := 0) (show List.Nodup (["_law_k", "_law_goal", "_law_settled_here", "_law_shares", "_law_rows", "_law_script"] : List Str) from by decide) rfl (Or.inl rfl))) (fun _ _ _ _ _ => pts_nil) (fun _ _ _ _ _ => (pe_call ((ok_law_price T).mono (by decide)) hr rfl T.m_law_price T.F_law_price.kp T.b_law_price .nil pass0 (pa_cons (pe_ix (show IxR _ (rIxL K) from ix_list) (pv 4) (pv 0) (fun _ _ => rfl)) (pa_cons (pe_ix (show IxR _ (rIxL K) from ix_list) (pv 5) (pe_op op_add (pv 0) pe_int) (fun _ _ => rfl)) (pa_cons (pv 1) (pa_cons (pv 2) (pa_cons (pv 3) pa_nil))))))) ⟨rfl, rfl, rfl, ⟨rfl, rfl, rfl, ⟨rfl, rfl, rfl, ⟨rfl, rfl, rfl, ⟨rfl, rfl, rfl, True.intro⟩⟩⟩⟩⟩)
          (zss_cons (ps_expr (pe_call ((ok_law_evened T).mono (by decide)) hr rfl T.m_law_evened T.F_law_evened.kp T.b_law_evened .nil pass0 (pa_cons (pv 6) (pa_cons (pv 7) (pa_cons (pv 2) (pa_cons (pv 5) (pa_cons (pv 3) (pa_cons (pv 4) (pa_cons (pv 1) pa_nil)))))))))
          (zss_cons (ps_set (i := 8) sc_law.nd rfl (Or.inl rfl) pe_bl)
          (zss_cons (ps_for PassesOwn.never rfl (pi_list (pv 2)) (pg_name (i := 9) sc_law.nd rfl (Or.inr rfl)) (ZSs.h (zss_cons (ps_setC (i := 10) (N := ["_law_one", "_law_price_here", "_law_name"]) (ix := [none, none, some 9]) sc_law.nd rfl (Or.inl rfl) rfl (pi_zip rfl T.z_zip (pa_cons (pv 6) (pa_cons (pv 7) pa_nil))) (fun _ _ _ _ _ => (show PG _ _ (gTup K 2 _) from pg_tup rfl (pgs_cons (pg_name (i := 0) (show List.Nodup (["_law_one", "_law_price_here", "_law_name"] : List Str) from by decide) rfl (Or.inl rfl)) (pgs_cons (pg_name (i := 1) (show List.Nodup (["_law_one", "_law_price_here", "_law_name"] : List Str) from by decide) rfl (Or.inl rfl)) pgs_nil)))) (fun _ _ _ _ _ => (pts_one (pt_cmp (pc_din hu (pv 2) (pe_ix (show IxR _ (rIxT K) from ix_tup) (pv 0) pe_int (fun _ _ => rfl)))))) (fun _ _ _ _ _ => (pe_tup (pa_cons (pv 1) (pa_cons (pe_dget hu (pe_ix (show IxR _ (rIxT K) from ix_tup) (pv 0) pe_int (fun _ _ => rfl)) (pv 2) (fun _ _ => rfl)) pa_nil)))) ⟨rfl, rfl, rfl, True.intro⟩)
          (zss_one (ps_if (pt_cmpR op_gt (pe_ix ix_tup (pe_call ((ok_law_add T).mono (by decide)) hr rfl T.m_law_add T.F_law_add.kp T.b_law_add .nil pass0 (pa_cons (pe_op op_catS (pv 10) (pe_lst (pa_cons (pe_tup (pa_cons (pe_tup (pa_cons (pe_un un_neg pe_int) (pa_cons pe_int pa_nil))) (pa_cons (pe_call ((ok_law_often_s T).mono (by decide)) hr rfl T.m_law_often T.F_law_often.kp T.b_law_often .nil pass0 (pa_cons (pv 9) (pa_cons (pv 5) (pa_cons (pv 3) (pa_cons (pv 4) pa_nil))))) pa_nil))) pa_nil))) pa_nil)) pe_int (fun _ _ => rfl)) pe_int (nomark _)) (pss_one (ps_set (i := 8) sc_law.nd rfl (Or.inl rfl) pe_bl)) pss_nil)))))
          (zss_cons (ps_set (i := 11) sc_law.nd rfl (Or.inl rfl) (pe_tup (pa_cons (pe_callTy call_list_of rfl T.z_list rfl (pa_cons (pv 6) pa_nil)) (pa_cons (pe_callTy call_list_of rfl T.z_list rfl (pa_cons (pv 2) pa_nil)) (pa_cons (pe_callTy call_list_of rfl T.z_list rfl (pa_cons (pv 3) pa_nil)) (pa_cons (pe_callTy call_list_of rfl T.z_list rfl (pa_cons (pv 7) pa_nil)) (pa_cons (pe_callTy call_list_of rfl T.z_list rfl (pa_cons (pv 4) pa_nil)) pa_nil)))))))
          (zss_cons (ps_asg (pe_call ((ok_law_asked T).mono (by decide)) hr rfl T.m_law_asked T.F_law_asked.kp T.b_law_asked .nil pass0 (pa_cons (pe_ix ix_tup (pv 11) pe_int (fun _ _ => rfl)) (pa_cons (pe_ix ix_tup (pv 11) pe_int (fun _ _ => rfl)) (pa_cons (pe_ix ix_tup (pv 11) pe_int (fun _ _ => rfl)) (pa_cons (pv 5) (pa_cons (pe_ix ix_tup (pv 11) pe_int (fun _ _ => rfl)) (pa_cons (pe_ix ix_tup (pv 11) pe_int (fun _ _ => rfl)) pa_nil))))))) (pg_tup rfl (pgs_cons (pg_name (i := 12) sc_law.nd rfl (Or.inl rfl)) (pgs_cons (pg_name (i := 13) sc_law.nd rfl (Or.inl rfl)) pgs_nil))))
          (zss_cons (ps_if (PW.pt (pw_or (pt_cmpR (op_neN hr.units) (pv 11) (pe_tup (pa_cons (pv 6) (pa_cons (pv 2) (pa_cons (pv 3) (pa_cons (pv 7) (pa_cons (pv 4) pa_nil)))))) (nomark _)) (pw_or1 (pt_cmpR op_eq (pv 13) (pv 8) (nomark _))))) (pss_one (ps_ret pe_bl)) pss_nil)
          (zss_cons (ps_if (pt_not (pt_val (pv 8))) (pss_one (ps_ret pe_bl)) pss_nil)
          (zss_cons (ps_setC (i := 10) (N := ["_law_one", "_law_price_here"]) (ix := [none, none]) sc_law.nd rfl (Or.inl rfl) rfl (pi_zip rfl T.z_zip (pa_cons (pv 6) (pa_cons (pv 7) pa_nil))) (fun _ _ _ _ _ => (show PG _ _ (gTup K 2 _) from pg_tup rfl (pgs_cons (pg_name (i := 0) (show List.Nodup (["_law_one", "_law_price_here"] : List Str) from by decide) rfl (Or.inl rfl)) (pgs_cons (pg_name (i := 1) (show List.Nodup (["_law_one", "_law_price_here"] : List Str) from by decide) rfl (Or.inl rfl)) pgs_nil)))) (fun _ _ _ _ _ => pts_nil) (fun _ _ _ _ _ => (pe_tup (pa_cons (pv 1) (pa_cons (pe_ix (show IxR _ (rIxT K) from ix_tup) (pv 0) pe_int (fun _ _ => rfl)) pa_nil)))) True.intro)
          (zss_cons (ps_set (i := 10) sc_law.nd rfl (Or.inl rfl) (pe_op op_catS (pv 10) (pe_comp (N := ["_law_pair", "_law_share"]) (ix := [none, none]) rfl (pi_zip rfl T.z_zip (pa_cons (pv 3) (pa_cons (pv 4) pa_nil))) (fun _ _ _ _ _ => (show PG _ _ (gTup K 2 _) from pg_tup rfl (pgs_cons (pg_name (i := 0) (show List.Nodup (["_law_pair", "_law_share"] : List Str) from by decide) rfl (Or.inl rfl)) (pgs_cons (pg_name (i := 1) (show List.Nodup (["_law_pair", "_law_share"] : List Str) from by decide) rfl (Or.inl rfl)) pgs_nil)))) (fun _ _ _ _ _ => pts_nil) (fun _ _ _ _ _ => (pe_tup (pa_cons (pe_tup (pa_cons (pe_op op_sub pe_int (pe_ix (show IxR _ (rIxT K) from ix_tup) (pv 1) pe_int (fun _ _ => rfl))) (pa_cons (pe_ix (show IxR _ (rIxT K) from ix_tup) (pv 1) pe_int (fun _ _ => rfl)) pa_nil))) (pa_cons (pe_ix (show IxR _ (rIxT K) from ix_tup) (pv 0) pe_int (fun _ _ => rfl)) pa_nil)))) True.intro)))
          (zss_one (ps_ret (pe_and (pe_callB call_isx rfl T.z_isinstance rfl (pa_cons (pv 12) (pa_cons (pe_bltn (v := .ty "tuple") rfl T.z_tuple rfl rfl) pa_nil))) (pe_and (pe_cmpR (op_eqQ (K := K) (A := (rFr K)) rfl hr.units) (pv 12) (pe_call ((ok_law_add T).mono (by decide)) hr rfl T.m_law_add T.F_law_add.kp T.b_law_add .nil pass0 (pa_cons (pv 10) pa_nil)) (nomark _)) (pe_one (pe_not (pe_callB call_isx rfl T.z_isinstance rfl (pa_cons (pe_ix ix_tup (pv 12) pe_int (fun _ _ => rfl)) (pa_cons (pe_bltn (v := .ty "bool") rfl T.z_bool rfl rfl) pa_nil)))))))))))))))))))))))))), ?_⟩
    refine a_seq ?_
    refine a_asg ?_
    refine a_call ?_
    refine a_cons ?_
    refine a_var rfl ?_
    refine a_cons ?_
    refine a_c ?_
    refine a_nil ?_
    refine ⟨(fun _ => none), _, _, script, 0, rfl, gb.s, ⟨_, rfl, (Same.seq gb.h hS)⟩, rfl, (by walk_at "o"), ?_⟩
    rintro v1 F2 H3 rz4 g5 hr6 
    have gb8 := gb.tr g5
    have le9 := g5.le
    have cm10 := g5.fz cm
    obtain rfl : v1 = V.int rz4 := hr6
    refine a_name ?_
    try dsimp only
    refine a_seq ?_
    refine a_asg ?_
    refine a_sl ?_
    refine a_lst ?_
    refine a_cons ?_
    refine a_c ?_
    have ln11 : ("left a" : Str).length = 6 := by decide +kernel
    refine a_cons ?_
    refine a_c ?_
    have ln12 : ("b" : Str).length = 1 := by decide +kernel
    refine a_cons ?_
    refine a_c ?_
    have ln13 : ("gap cc" : Str).length = 6 := by decide +kernel
    refine a_nil ?_
    refine ⟨by show 3 ≤ sizeLine; decide, fun p14 hp15 => ?_⟩
    obtain ⟨F16, g18, e19⟩ := al2 (o := (.lst [V.str ("left a" : Str), V.str ("b" : Str), V.str ("gap cc" : Str)])) gb8.s (by intro _ _ z; cases z) hp15
    generalize upd H3 p14 (.lst [V.str ("left a" : Str), V.str ("b" : Str), V.str ("gap cc" : Str)]) = H17 at g18 ⊢
    have gb20 := gb8.tr g18
    have le21 := g18.le
    have cm22 := g18.fz cm10
    have al23 : Al rS F16 [.str ("left a" : Str), .str ("b" : Str), .str ("gap cc" : Str)] [("left a" : Str), ("b" : Str), ("gap cc" : Str)] := ⟨rfl, ⟨rfl, ⟨rfl, True.intro⟩⟩⟩
    refine a_noPart ?_
    refine a_part ?_
    refine a_op ?_
    refine a_c ?_
    refine a_op ?_
    refine a_var rfl ?_
    refine a_c ?_
    refine a_I (by decide) ?_
    have m24 : 0 ≤ (rz4 % 3) ∧ (rz4 % 3) < 3 := ⟨Int.emod_nonneg _ (by decide), Int.emod_lt_of_pos _ (by decide)⟩
    refine a_I0 ?_
    refine a_pint ?_
    refine ⟨_, _, rfl, (Same.seq gb20.s (SqL.of e19)), fun p25 hp26 => ?_⟩
    obtain ⟨F27, g29, e30⟩ := al2 (o := (.lst (cutV [V.str ("left a" : Str), V.str ("b" : Str), V.str ("gap cc" : Str)] none (some (1 + (rz4 % 3)))))) gb20.s (by intro _ _ z; cases z) hp26
    generalize upd H17 p25 (.lst (cutV [V.str ("left a" : Str), V.str ("b" : Str), V.str ("gap cc" : Str)] none (some (1 + (rz4 % 3))))) = H28 at g29 ⊢
    have gb31 := gb20.tr g29
    have le32 := g29.le
    have cm33 := g29.fz cm22
    have al34 := Al.cut none (some (1 + (rz4 % 3))) (Al.mo le32 al23)
    have ln35 : (cutA [("left a" : Str), ("b" : Str), ("gap cc" : Str)] none (some (1 + (rz4 % 3)))).length ≤ [("left a" : Str), ("b" : Str), ("gap cc" : Str)].length := cutA_le _ _ _
    refine a_name ?_
    try dsimp only
    obtain ⟨hm1, hm2, hm3⟩ := some_ok (n := rz4 % 3) (by omega) (by omega)
    refine a_seq ?_
    refine a_asg ?_
    refine a_call ?_
    refine a_cons ?_
    refine a_var rfl ?_
    refine a_cons ?_
    refine a_var rfl ?_
    refine a_nil ?_
    refine ⟨F27, _, _, rz4, (cutA [("left a" : Str), ("b" : Str), ("gap cc" : Str)] none (some (1 + (rz4 % 3)))), rfl, gb31.s, rfl, ⟨_, _, rfl, (SqL.of e30), al34⟩, (by exact hm2), ?_⟩
    rintro v36 F37 H38 r39 g40 hr41 hp42
    have gb43 := gb31.tr g40
    have le44 := g40.le
    have cm45 := g40.fz cm33
    obtain ⟨a46, vs47, rfl, sq48, al49⟩ := hr41
    obtain ⟨ht1, ht2⟩ := hp42
    refine a_name ?_
    try dsimp only
    refine a_seq ?_
    refine a_asg ?_
    refine a_comp ?_
    refine a_rng1 ?_
    refine a_cons ?_
    refine a_cb ?_
    refine a_cons ?_
    refine a_var rfl ?_
    refine a_nil ?_
    refine ⟨_, _, rfl, .inl (Same.seq gb43.s sq48), ?_⟩
    rw [Al.length al49]
    refine a_nil ?_
    have hml52 : (Int.toNat ((r39).length : Int)) ≤ 1000000 := by omega
    refine ⟨_, rfl, by first | omega | walk_at "o", by first | omega | walk_at "o", comp_range (lo := 0) (n := (Int.toNat ((r39).length : Int))) (fun i acc H' => Ex2 fun (F50 : Hp) (ts51 : List Rat) => Cj7 (True) (Gr0 (fun _ => none) H F50 H') (Fz S0 F50) (Le F37 F50) (Al (rFr K) F50 acc ts51) (ts51.length ≤ i) ((ts51.length = i ∧ ∀ s ∈ ts51, 0 ≤ s ∧ bs s ≤ 3))) ?_ ?_ ?_⟩
    · exact ⟨F37, [], True.intro, gb43, cm45, Le.refl _, (show Al (rFr K) F37 [] [] from True.intro), (by first | (simp; done) | (rw [List.length_append]; simp only [List.length_cons, List.length_nil]; omega) | omega), by exact ⟨rfl, fun s h => (by cases h)⟩⟩
    · rintro i53 acc56 H54 hi55 ⟨F57, ts61, _, gb58, cm59, le60, al62, tl63, ⟨sl, hs⟩⟩
      rw [show (0 : Int) + (i53 : Int) = (i53 : Int) from Int.zero_add _]
      refine a_name ?_
      refine ⟨Wk.non (Wk.som (Wk.nil)), ?_⟩
      try dsimp only
      refine a_yes ?_
      refine iteT ?_
      refine a_call ?_
      refine a_cons ?_
      refine a_op ?_
      refine a_call ?_
      refine a_cons ?_
      refine a_var rfl ?_
      refine a_cons ?_
      refine a_op ?_
      refine a_var rfl ?_
      refine a_c ?_
      refine a_I0 ?_
      refine a_nil ?_
      refine ⟨F57, _, _, rz4, ((i53 : Int) + 12), rfl, gb58.s, rfl, rfl, ?_⟩
      rintro v64 F65 H66 r67 g68 hr69 hp70
      have gb71 := gb58.tr g68
      have le72 := g68.le
      have cm73 := g68.fz cm59
      obtain rfl : v64 = V.int r67 := hr69
      refine a_c ?_
      refine a_I (by decide) ?_
      have m74 : 0 ≤ (r67 % 7) ∧ (r67 % 7) < 7 := ⟨Int.emod_nonneg _ (by decide), Int.emod_lt_of_pos _ (by decide)⟩
      refine a_cons ?_
      refine a_op ?_
      refine a_c ?_
      refine a_op ?_
      refine a_call ?_
      refine a_cons ?_
      refine a_var rfl ?_
      refine a_cons ?_
      refine a_op ?_
      refine a_var rfl ?_
      refine a_c ?_
      refine a_I0 ?_
      refine a_nil ?_
      refine ⟨F65, _, _, rz4, ((i53 : Int) + 16), rfl, gb71.s, rfl, rfl, ?_⟩
      rintro v75 F76 H77 r78 g79 hr80 hp81
      have gb82 := gb71.tr g79
      have le83 := g79.le
      have cm84 := g79.fz cm73
      obtain rfl : v75 = V.int r78 := hr80
      refine a_c ?_
      refine a_I (by decide) ?_
      have m85 : 0 ≤ (r78 % 3) ∧ (r78 % 3) < 3 := ⟨Int.emod_nonneg _ (by decide), Int.emod_lt_of_pos _ (by decide)⟩
      refine a_I0 ?_
      refine a_nil ?_
      refine ⟨F76, _, _, (r67 % 7), (1 + (r78 % 3)), rfl, gb82.s, rfl, rfl, (by exact ⟨by omega, Nat.le_trans (bi_small 5 (by omega)) (by decide)⟩), ?_⟩
      rintro v86 F87 H88  g90 hr91 
      have gb93 := gb82.tr g90
      have le94 := g90.le
      have cm95 := g90.fz cm84
      obtain ⟨a96, rfl, sq97⟩ := hr91
      refine ⟨by rw [Al.length (Al.mo ((le72.trans le83).trans le94) al62)]; have := sizeLine_big; omega, ?_⟩
      exact ⟨F87, (ts61 ++ [(Rat.divInt ((r67 % 7)) ((1 + (r78 % 3))))]), True.intro, gb93, cm95, (((le60.trans le72).trans le83).trans le94), (Al.snoc (Al.mo ((le72.trans le83).trans le94) al62) ⟨_, rfl, sq97⟩), (by first | (simp; done) | (rw [List.length_append]; simp only [List.length_cons, List.length_nil]; omega) | omega), by exact ⟨by rw [List.length_append, sl]; rfl, fun s h => (List.mem_append.mp h).elim (hs s) fun z => by rw [List.mem_singleton.mp z]; exact ⟨Rat.divInt_nonneg (by omega) (by omega), bs_divInt (by omega) (bi_small 3 (by omega)) (bi_small 3 (by omega))⟩⟩⟩
    · rintro acc99 H98 ⟨F100, ts104, _, gb101, cm102, le103, al105, tl106, ⟨sl, hs⟩⟩
      refine ⟨(by rw [Al.length al105]; have := sizeLine_big; omega), fun p107 hp108 => ?_⟩
      obtain ⟨F109, g111, e112⟩ := al2 (o := (.lst acc99)) gb101.s (by intro _ _ z; cases z) hp108
      generalize upd H98 p107 (.lst acc99) = H110 at g111 ⊢
      have gb113 := gb101.tr g111
      have le114 := g111.le
      have cm115 := g111.fz cm102
      refine a_name ?_
      try dsimp only
      have hsl : ts104.length = r39.length := by omega
      refine a_seq ?_
      refine a_asg ?_
      refine a_op ?_
      refine a_op ?_
      refine a_lst ?_
      refine a_cons ?_
      refine a_c ?_
      refine a_cons ?_
      refine a_c ?_
      refine a_cons ?_
      refine a_c ?_
      refine a_cons ?_
      refine a_c ?_
      refine a_nil ?_
      refine ⟨by show 4 ≤ sizeLine; decide, fun p116 hp117 => ?_⟩
      obtain ⟨F118, g120, e121⟩ := al2 (o := (.lst [V.int 1, V.int 2, V.int 3, V.int 4])) gb113.s (by intro _ _ z; cases z) hp117
      generalize upd H110 p116 (.lst [V.int 1, V.int 2, V.int 3, V.int 4]) = H119 at g120 ⊢
      have gb122 := gb113.tr g120
      have le123 := g120.le
      have cm124 := g120.fz cm115
      have al125 : Al rI F118 [.int 1, .int 2, .int 3, .int 4] [1, 2, 3, 4] := ⟨rfl, ⟨rfl, ⟨rfl, ⟨rfl, True.intro⟩⟩⟩⟩
      refine a_var rfl ?_
      have al126 := al125
      have al127 := (Al.mo (((le44.trans le103).trans le114).trans le123) al34)
      replace al126 := Al.uI al126
      replace al127 := Al.uS al127
      refine ⟨_, _, _, _, rfl, rfl, (Same.seq gb122.s (SqL.of e121)), (Same.seq gb122.s (Le.lst (((le44.trans le103).trans le114).trans le123) (SqL.of e30))), (Nat.le_trans (show _ ≤ 100000 by rw [Al.length al126, Al.length al127]; walk_at "ol") (by decide)), fun p128 hp129 => ?_⟩
      obtain ⟨F130, g132, e133⟩ := al2 (o := (.lst ([V.int 1, V.int 2, V.int 3, V.int 4] ++ (cutV [V.str ("left a" : Str), V.str ("b" : Str), V.str ("gap cc" : Str)] none (some (1 + (rz4 % 3))))))) gb122.s (by intro _ _ z; cases z) hp129
      generalize upd H119 p128 (.lst ([V.int 1, V.int 2, V.int 3, V.int 4] ++ (cutV [V.str ("left a" : Str), V.str ("b" : Str), V.str ("gap cc" : Str)] none (some (1 + (rz4 % 3)))))) = H131 at g132 ⊢
      have gb134 := gb122.tr g132
      have le135 := g132.le
      have cm136 := g132.fz cm124
      have al137 := Al.mo le135 (Al.app al126 al127)
      refine a_op ?_
      refine a_call ?_
      refine a_cons ?_
      refine a_var rfl ?_
      refine a_cons ?_
      refine a_c ?_
      refine a_nil ?_
      refine ⟨F130, _, _, rz4, 11, rfl, gb134.s, rfl, rfl, ?_⟩
      rintro v138 F139 H140 r141 g142 hr143 hp144
      have gb145 := gb134.tr g142
      have le146 := g142.le
      have cm147 := g142.fz cm136
      obtain rfl : v138 = V.int r141 := hr143
      refine a_op ?_
      refine a_c ?_
      refine a_cb ?_
      refine a_cons ?_
      refine a_var rfl ?_
      refine a_nil ?_
      refine ⟨_, _, rfl, .inl (Same.seq gb145.s (Le.lst (((((le44.trans le103).trans le114).trans le123).trans le135).trans le146) (SqL.of e30))), ?_⟩
      rw [Al.length (Al.mo (((((le44.trans le103).trans le114).trans le123).trans le135).trans le146) al34)]
      refine a_I0 ?_
      refine a_I (by walk_at "o") ?_
      have m148 : 0 ≤ (r141 % (4 + (((cutA [("left a" : Str), ("b" : Str), ("gap cc" : Str)] none (some (1 + (rz4 % 3))))).length : Int))) ∧ (r141 % (4 + (((cutA [("left a" : Str), ("b" : Str), ("gap cc" : Str)] none (some (1 + (rz4 % 3))))).length : Int))) < (4 + (((cutA [("left a" : Str), ("b" : Str), ("gap cc" : Str)] none (some (1 + (rz4 % 3))))).length : Int)) := ⟨Int.emod_nonneg _ (by walk_at "o"), Int.emod_lt_of_pos _ (by walk_at "o")⟩
      obtain ⟨x150, v149, h151, h152, h153⟩ := Al.ix (Al.mo le146 al137) (i := (r141 % (4 + (((cutA [("left a" : Str), ("b" : Str), ("gap cc" : Str)] none (some (1 + (rz4 % 3))))).length : Int)))) (by walk_at "o") (by walk_at "ol")
      refine a_ixL (Same.seq gb145.s (Le.lst le146 (SqL.of e133))) h152 ?_
      obtain rfl : v149 = V.u x150 := h153
      refine a_name ?_
      try dsimp only
      refine a_seq ?_
      refine a_asg ?_
      refine a_comp ?_
      refine a_ilist ?_
      refine a_sl ?_
      refine a_var rfl ?_
      refine a_part ?_
      refine a_c ?_
      refine a_pint ?_
      refine a_part ?_
      refine a_c ?_
      refine a_pint ?_
      refine ⟨_, _, rfl, (Same.seq gb145.h hS), fun p154 hp155 => ?_⟩
      obtain ⟨F156, g158, e159⟩ := al2 (o := (.lst (cutV (script.map V.int) (some 1) (some 8)))) gb145.s (by intro _ _ z; cases z) hp155
      generalize upd H140 p154 (.lst (cutV (script.map V.int) (some 1) (some 8))) = H157 at g158 ⊢
      have gb160 := gb145.tr g158
      have le161 := g158.le
      have cm162 := g158.fz cm147
      have al163 := Al.cut (some 1) (some 8) (al_ints (F := F156) (ns := script))
      have ln164 : (cutA script (some 1) (some 8)).length ≤ script.length := cutA_le _ _ _
      have ln165 : (cutA script (some 1) (some 8)).length ≤ 7 := cutA_most script 1 8
      have hml168 : ((cutA script (some 1) (some 8))).length ≤ 1000000 := by omega
      refine ⟨_, rfl, ⟨_, (Same.seq gb160.s (SqL.of e159))⟩, comp_list (K := K) (a := p154) (xs := (cutV (script.map V.int) (some 1) (some 8))) (fun i acc H' => Ex2 fun (F166 : Hp) (ts167 : List ((List (Str × Rat)) × Str × Rat × Int × Int)) => Cj7 (True) (Gr0 (fun _ => none) H F166 H') (Fz S0 F166) (Le F156 F166) (Al (r5 K (rD (rFr K)) rS (rFr K) rI rI) F166 acc ts167) (ts167.length ≤ i) ((ts167.length = i ∧ ∀ r ∈ ts167, Row31 r))) ?_ ?_ ?_ ?_⟩
      · exact ⟨F156, [], True.intro, gb160, cm162, Le.refl _, (show Al (r5 K (rD (rFr K)) rS (rFr K) rI rI) F156 [] [] from True.intro), (by first | (simp; done) | (rw [List.length_append]; simp only [List.length_cons, List.length_nil]; omega) | omega), by exact ⟨rfl, fun r h => (by cases h)⟩⟩
      · rintro i acc H169 _ ⟨F170, ts174, _, gb171, cm172, le173, al175, tl176, ⟨rl, hRo⟩⟩
        exact (Same.seq gb171.s (Le.lst le173 (SqL.of e159)))
      · rintro i177 y180 acc181 H178 hi179 ⟨F182, ts186, _, gb183, cm184, le185, al187, tl188, ⟨rl, hRo⟩⟩
        obtain ⟨x189, hx190, hr191⟩ := Al.get (Al.mo le185 al163) hi179
        have hil := (List.getElem?_eq_some_iff.mp hx190).1
        refine a_name ?_
        obtain rfl : y180 = V.int x189 := hr191
        refine ⟨Wk.non (Wk.som (Wk.nil)), ?_⟩
        try dsimp only
        refine a_yes ?_
        refine iteT ?_
        refine a_call ?_
        refine a_cons ?_
        refine a_var rfl ?_
        refine a_cons ?_
        refine a_var rfl ?_
        refine a_nil ?_
        refine ⟨F182, _, _, x189, (cutA [("left a" : Str), ("b" : Str), ("gap cc" : Str)] none (some (1 + (rz4 % 3)))), rfl, gb183.s, rfl, ⟨_, _, rfl, (Le.lst (((((((le44.trans le103).trans le114).trans le123).trans le135).trans le146).trans le161).trans le185) (SqL.of e30)), (Al.mo (((((((le44.trans le103).trans le114).trans le123).trans le135).trans le146).trans le161).trans le185) al34)⟩, (by exact hm2), ?_⟩
        rintro v192 F193 H194 r195 g196 hr197 hp198
        have gb199 := gb183.tr g196
        have le200 := g196.le
        have cm201 := g196.fz cm184
        obtain ⟨a202, v204, v205, v206, v207, v208, rfl, sq203, h209, h210, h211, h212, h213⟩ := hr197
        obtain ⟨a214, kvs215, rfl, rd216, dk217, nd218⟩ := h209
        obtain rfl : v205 = V.str r195.2.1 := h210
        obtain ⟨a219, rfl, sq220⟩ := h211
        obtain rfl : v207 = V.int r195.2.2.2.1 := h212
        obtain rfl : v208 = V.int r195.2.2.2.2 := h213
        refine ⟨by rw [Al.length (Al.mo le200 al187)]; have := sizeLine_big; omega, ?_⟩
        exact ⟨F193, (ts186 ++ [r195]), True.intro, gb199, cm201, (le185.trans le200), (Al.snoc (Al.mo le200 al187) ⟨_, _, _, _, _, _, rfl, sq203, ⟨_, _, rfl, rd216, dk217, nd218⟩, rfl, ⟨_, rfl, sq220⟩, rfl, rfl⟩), (by first | (simp; done) | (rw [List.length_append]; simp only [List.length_cons, List.length_nil]; omega) | omega), by exact ⟨by rw [List.length_append, rl]; rfl, fun x h => (List.mem_append.mp h).elim (hRo x) fun z => by rw [List.mem_singleton.mp z]; assumption⟩⟩
      · rintro acc222 H221 ⟨F223, ts227, _, gb224, cm225, le226, al228, tl229, ⟨rl, hRo⟩⟩
        have hlen := Al.length (Al.mo le226 al163)
        refine ⟨(by rw [Al.length al228]; have := sizeLine_big; omega), fun p230 hp231 => ?_⟩
        obtain ⟨gb233, sm234, hb235, oF236, oH237, ne238⟩ := alo2 (o := (.lst acc222)) gb224 hp231
        generalize upd H221 p230 (.lst acc222) = H232 at gb233 sm234 oH237 ⊢
        rw [hlen] at rl
        refine a_name ?_
        try dsimp only
        refine a_seq ?_
        refine a_asg ?_
        refine a_comp ?_
        refine a_rng1 ?_
        refine a_cons ?_
        refine a_cb ?_
        refine a_cons ?_
        refine a_var rfl ?_
        refine a_nil ?_
        refine ⟨_, _, rfl, .inl (SqL.of oH237), ?_⟩
        rw [Al.length al228]
        refine a_nil ?_
        have hml243 : (Int.toNat ((ts227).length : Int)) ≤ 1000000 := by omega
        refine ⟨_, rfl, by first | omega | walk_at "o", by first | omega | walk_at "o", comp_range (lo := 0) (n := (Int.toNat ((ts227).length : Int))) (fun i acc H' => Ex4 fun (F239 : Hp) (kv240 : List V) (rows241 : List ((List (Str × Rat)) × Str × Rat × Int × Int)) (ts242 : List Rat) => Cj12 (True) (Gr0 (fun _ => none) H F239 H') (Fz S0 F239) (Le F223 F239) (H' p230 = some (.lst kv240)) (F239 p230 = none) (Al (r5 K (rD (rFr K)) rS (rFr K) rI rI) F239 kv240 rows241) (ts227 = rows241) (acc222 = kv240) (Al (rFr K) F239 acc ts242) (ts242.length ≤ i) ((ts242.length = i ∧ ∀ (j : Nat) (p : Rat), ts242[j]? = some p → ∃ r, rows241[j]? = some r ∧ (signB (r, p) = true ∧ roomB r39 ts104 x150 (r, p) = true) ∧ bs p ≤ 32))) ?_ ?_ ?_⟩
        · exact ⟨F223, _, ts227, [], True.intro, gb233, cm225, Le.refl _, oH237, oF236, al228, rfl, rfl, (show Al (rFr K) F223 [] [] from True.intro), (by first | (simp; done) | (rw [List.length_append]; simp only [List.length_cons, List.length_nil]; omega) | omega), by exact ⟨rfl, fun j p e => (by cases e)⟩⟩
        · rintro i244 acc247 H245 hi246 ⟨F248, kv252, m253, ts254, _, gb249, cm250, le251, oH257, oF258, dk259, rfl, rfl, al255, tl256, ⟨pl, hpr⟩⟩
          rw [show (0 : Int) + (i244 : Int) = (i244 : Int) from Int.zero_add _]
          refine a_name ?_
          refine ⟨Wk.non (Wk.som (Wk.som (Wk.som (Wk.som (Wk.som (Wk.nil)))))), ?_⟩
          try dsimp only
          have u1 := cutA_in 1 8 (xs := script) (i := i244) (by show _ < (cutA script (some 1) (some 8)).length; omega)
          refine a_yes ?_
          refine iteT ?_
          refine a_call ?_
          refine a_cons ?_
          refine a_op ?_
          refine a_var rfl ?_
          refine a_var rfl ?_
          obtain ⟨x261, v260, h262, h263, h264⟩ := Al.ix dk259 (i := (i244 : Int)) (by walk_at "o") (by walk_at "ol")
          refine a_ixL (SqL.of oH257) h263 ?_
          have hra := h262
          have hRx := hRo _ (List.mem_of_getElem? h262)
          obtain ⟨a265, v267, v268, v269, v270, v271, rfl, sq266, h272, h273, h274, h275, h276⟩ := h264
          obtain ⟨a277, kvs278, rfl, rd279, dk280, nd281⟩ := h272
          obtain rfl : v268 = V.str x261.2.1 := h273
          obtain ⟨a282, rfl, sq283⟩ := h274
          obtain rfl : v270 = V.int x261.2.2.2.1 := h275
          obtain rfl : v271 = V.int x261.2.2.2.2 := h276
          refine a_cons ?_
          refine a_op ?_
          refine a_var rfl ?_
          refine a_op ?_
          refine a_var rfl ?_
          refine a_c ?_
          refine a_I0 ?_
          obtain ⟨x285, v284, h286, h287, h288⟩ := Al.ix (al_ints (F := F248) (ns := script)) (i := ((i244 : Int) + 1)) (by walk_at "o") (by walk_at "ol")
          refine a_ixL (Same.seq gb249.h hS) h287 ?_
          obtain rfl : v284 = V.int x285 := h288
          refine a_cons ?_
          refine a_var rfl ?_
          refine a_cons ?_
          refine a_var rfl ?_
          refine a_cons ?_
          refine a_var rfl ?_
          refine a_nil ?_
          refine ⟨F248, _, _, _, _, _, x261, x285, x150, r39, ts104, rfl, gb249.s, ⟨_, _, _, _, _, _, rfl, sq266, ⟨_, _, rfl, rd279, dk280, nd281⟩, rfl, ⟨_, rfl, sq283⟩, rfl, rfl⟩, rfl, rfl, ⟨_, _, rfl, (Le.lst (((((((le103.trans le114).trans le123).trans le135).trans le146).trans le161).trans le226).trans le251) sq48), (Al.mo (((((((le103.trans le114).trans le123).trans le135).trans le146).trans le161).trans le226).trans le251) al49)⟩, ⟨_, _, rfl, (Le.lst (((((le123.trans le135).trans le146).trans le161).trans le226).trans le251) (SqL.of e112)), (Al.mo (((((le123.trans le135).trans le146).trans le161).trans le226).trans le251) (Al.mo le114 al105))⟩, (by exact ⟨hRx, ht2, by omega, hs⟩), ?_⟩
          rintro v289 F290 H291 r292 g293 hr294 hp295
          have gb296 := gb249.tr g293
          have le297 := g293.le
          have oH298 := g293.h _ _ oH257
          have oF299 := g293.own oF258 oH257
          have cm300 := g293.fz cm250
          obtain ⟨a301, rfl, sq302⟩ := hr294
          have hpv := hp295
          refine ⟨by rw [Al.length (Al.mo le297 al255)]; have := sizeLine_big; omega, ?_⟩
          exact ⟨F290, _, ts227, (ts254 ++ [r292]), True.intro, gb296, cm300, (le251.trans le297), oH298, oF299, (Al.mo le297 dk259), rfl, rfl, (Al.snoc (Al.mo le297 al255) ⟨_, rfl, sq302⟩), (by first | (simp; done) | (rw [List.length_append]; simp only [List.length_cons, List.length_nil]; omega) | omega), by exact pr_step (fun r p => (signB (r, p) = true ∧ roomB r39 ts104 x150 (r, p) = true) ∧ bs p ≤ 32) pl hra hpr hpv⟩
        · rintro acc304 H303 ⟨F305, kv309, m310, ts311, _, gb306, cm307, le308, oH314, oF315, dk316, rfl, rfl, al312, tl313, ⟨pl, hpr⟩⟩
          refine ⟨(by rw [Al.length al312]; have := sizeLine_big; omega), fun p317 hp318 => ?_⟩
          obtain ⟨gb320, sm321, hb322, oF323, oH324, ne325⟩ := alo2 (o := (.lst acc304)) gb306 hp318
          generalize upd H303 p317 (.lst acc304) = H319 at gb320 sm321 oH324 ⊢
          have ne326 := ne325 _ _ oH314
          have oH327 := sm321 _ _ oH314
          refine a_name ?_
          try dsimp only
          refine a_seq ?_
          refine a_drop ?_
          refine a_call ?_
          refine a_cons ?_
          refine a_var rfl ?_
          refine a_cons ?_
          refine a_var rfl ?_
          refine a_cons ?_
          refine a_var rfl ?_
          refine a_cons ?_
          refine a_var rfl ?_
          refine a_cons ?_
          refine a_var rfl ?_
          refine a_cons ?_
          refine a_var rfl ?_
          refine a_cons ?_
          refine a_var rfl ?_
          refine a_nil ?_
          refine ⟨F305, _, _, _, _, _, _, _, ts227, ts311, (cutA [("left a" : Str), ("b" : Str), ("gap cc" : Str)] none (some (1 + (rz4 % 3)))), x150, r39, ts104, rz4, _, _, _, _, rfl, gb320.s, ⟨_, _, rfl, (Le.lst ((((((((le44.trans le103).trans le114).trans le123).trans le135).trans le146).trans le161).trans le226).trans le308) (SqL.of e30)), (Al.mo ((((((((le44.trans le103).trans le114).trans le123).trans le135).trans le146).trans le161).trans le226).trans le308) al34)⟩, rfl, ⟨_, _, rfl, (Le.lst (((((((le103.trans le114).trans le123).trans le135).trans le146).trans le161).trans le226).trans le308) sq48), (Al.mo (((((((le103.trans le114).trans le123).trans le135).trans le146).trans le161).trans le226).trans le308) al49)⟩, ⟨_, _, rfl, (Le.lst (((((le123.trans le135).trans le146).trans le161).trans le226).trans le308) (SqL.of e112)), (Al.mo (((((le123.trans le135).trans le146).trans le161).trans le226).trans le308) (Al.mo le114 al105))⟩, rfl, rfl, oH327, oF315, dk316, rfl, oH324, oF323, al312, ne326, (by exact ⟨Ev.nil (by omega) (by omega) hRo hpr, by omega, hm2, hm3, ht2, by omega, hs⟩), ?_⟩
          rintro F328 H329 kw332 m333 kw337 m338 g330 oH334 oF335 al336 oH339 oF340 al341 hp331
          have gb342 := hid_tr gb320 g330 hb235 hb322
          have le343 := Le.of g330.f
          have cm344 := g330.fz cm307
          obtain ⟨E, l9⟩ := hp331
          have hpl := E.len
          try dsimp only
          refine a_seq ?_
          refine a_asg ?_
          refine a_c ?_
          refine a_name ?_
          try dsimp only
          refine a_seq ?_
          refine a_for ?_
          refine a_ilist ?_
          refine a_var rfl ?_
          refine ⟨_, rfl, ⟨_, (Same.seq gb342.s (Le.lst (((((((((le44.trans le103).trans le114).trans le123).trans le135).trans le146).trans le161).trans le226).trans le308).trans le343) (SqL.of e30)))⟩, for_list (xs := (cutV [V.str ("left a" : Str), V.str ("b" : Str), V.str ("gap cc" : Str)] none (some (1 + (rz4 % 3))))) (K := K) (a := p25) (fun i σ' H' => Ex8 fun (F345 : Hp) (good346 : Bool) (kv347 : List V) (rows348 : List ((List (Str × Rat)) × Str × Rat × Int × Int)) (kv349 : List V) (prices350 : List Rat) (o351 : Option V) (o352 : Option V) => Cj15 (σ' = [some (V.ref a), some (V.int rz4), some (V.ref p25), some (V.ref a46), some (V.ref p107), some (V.u x150), some (V.ref p230), some (V.ref p317), some (V.bl good346), o352, o351, none, none, none]) (Gr0 (fun _ => none) H F345 H') (Fz S0 F345) (Le F328 F345) (H' p230 = some (.lst kv347)) (F345 p230 = none) (Al (r5 K (rD (rFr K)) rS (rFr K) rI rI) F345 kv347 rows348) (m333 = rows348) (kw332 = kv347) (H' p317 = some (.lst kv349)) (F345 p317 = none) (Al (rFr K) F345 kv349 prices350) (m338 = prices350) (kw337 = kv349) ((good346 = ((cutA [("left a" : Str), ("b" : Str), ("gap cc" : Str)] none (some (1 + (rz4 % 3)))).take i).all (colB rows348 prices350 r39 ts104 x150)))) ?_ ?_ ?_ ?_⟩
          · exact ⟨F328, true, _, m333, _, m338, _, _, rfl, gb342, cm344, Le.refl _, oH334, oF335, al336, rfl, rfl, oH339, oF340, al341, rfl, rfl, by rfl⟩
          · rintro i σ' H353 _ ⟨F354, good358, kv359, m360, kv361, m362, o363, o364, rfl, gb355, cm356, le357, oH365, oF366, dk367, rfl, rfl, oH368, oF369, dk370, rfl, rfl, g0⟩
            exact (Same.seq gb355.s (Le.lst ((((((((((le44.trans le103).trans le114).trans le123).trans le135).trans le146).trans le161).trans le226).trans le308).trans le343).trans le357) (SqL.of e30)))
          · rintro i371 y374 σ' H372 hi373 ⟨F375, good379, kv380, m381, kv382, m383, o384, o385, rfl, gb376, cm377, le378, oH386, oF387, dk388, rfl, rfl, oH389, oF390, dk391, rfl, rfl, g0⟩
            obtain ⟨x392, hx393, hr394⟩ := Al.get (Al.mo ((((((((((le44.trans le103).trans le114).trans le123).trans le135).trans le146).trans le161).trans le226).trans le308).trans le343).trans le378) al34) hi373
            refine a_name ?_
            try dsimp only
            obtain rfl : y374 = V.str x392 := hr394
            have hx9 := hx393
            refine a_seq ?_
            refine a_asg ?_
            refine a_comp ?_
            refine a_izip ?_
            refine a_cons ?_
            refine a_var rfl ?_
            refine a_cons ?_
            refine a_var rfl ?_
            refine a_nil ?_
            have hml401 : (min (m333).length (m338).length) ≤ 1000000 := by omega
            have hlen := Al.length dk388
            have hlen2 := Al.length dk391
            refine ⟨_, _, rfl, ⟨_, (SqL.of oH386)⟩, ⟨_, (SqL.of oH389)⟩, comp_zip (K := K) (a := p230) (b := p317) (xs := kw332) (ys := kw337) (fun i acc H' => Ex6 fun (F395 : Hp) (kv396 : List V) (rows397 : List ((List (Str × Rat)) × Str × Rat × Int × Int)) (kv398 : List V) (prices399 : List Rat) (ts400 : List (Rat × Rat)) => Cj17 (True) (Gr0 (fun _ => none) H F395 H') (Fz S0 F395) (Le F375 F395) (H' p230 = some (.lst kv396)) (F395 p230 = none) (Al (r5 K (rD (rFr K)) rS (rFr K) rI rI) F395 kv396 rows397) (m333 = rows397) (kw332 = kv396) (H' p317 = some (.lst kv398)) (F395 p317 = none) (Al (rFr K) F395 kv398 prices399) (m338 = prices399) (kw337 = kv398) (Al (r2 K (rFr K) (rFr K)) F395 acc ts400) (ts400.length ≤ i) ((wgtZ ts400 = wgtZ ((prices399.zip (rows397.map (fun r => (gtd r.1 x392).getD 0))).take i) ∧ ∀ p ∈ ts400, bs p.1 + bs p.2 ≤ 315))) ?_ ?_ ?_ ?_⟩
            · exact ⟨F375, _, m333, _, m338, [], True.intro, gb376, cm377, Le.refl _, oH386, oF387, dk388, rfl, rfl, oH389, oF390, dk391, rfl, rfl, (show Al (r2 K (rFr K) (rFr K)) F375 [] [] from True.intro), (by first | (simp; done) | (rw [List.length_append]; simp only [List.length_cons, List.length_nil]; omega) | omega), by exact ⟨rfl, fun p h => (by cases h)⟩⟩
            · rintro i acc H402 _ ⟨F403, kv407, m408, kv409, m410, ts411, _, gb404, cm405, le406, oH414, oF415, dk416, rfl, rfl, oH417, oF418, dk419, rfl, rfl, al412, tl413, ⟨q0, q1⟩⟩
              exact ⟨(SqL.of oH414), (SqL.of oH417)⟩
            · rintro i420 y424 z425 acc426 H421 p427 hi422 hj423 ⟨F429, kv433, m434, kv435, m436, ts437, _, gb430, cm431, le432, oH440, oF441, dk442, rfl, rfl, oH443, oF444, dk445, rfl, rfl, al438, tl439, ⟨q0, q1⟩⟩ hp428
              obtain ⟨x446, hx447, hr448⟩ := Al.get dk442 hi422
              obtain ⟨x449, hx450, hr451⟩ := Al.get dk445 hj423
              have hil := (List.getElem?_eq_some_iff.mp hx447).1
              have hil2 := (List.getElem?_eq_some_iff.mp hx450).1
              obtain ⟨a456, v458, v459, v460, v461, v462, rfl, sq457, h463, h464, h465, h466, h467⟩ := hr448
              obtain ⟨a468, kvs469, rfl, rd470, dk471, nd472⟩ := h463
              obtain rfl : v459 = V.str x446.2.1 := h464
              obtain ⟨a473, rfl, sq474⟩ := h465
              obtain rfl : v461 = V.int x446.2.2.2.1 := h466
              obtain rfl : v462 = V.int x446.2.2.2.2 := h467
              obtain ⟨a475, rfl, sq476⟩ := hr451
              refine it2 (K := K) gb430.s hp428 (fun F452 H453 g454 e455 => ?_)
              have gb477 := gb430.tr g454
              have le478 := g454.le
              have oH479 := g454.h _ _ oH440
              have oF480 := g454.own oF441 oH440
              have oH481 := g454.h _ _ oH443
              have oF482 := g454.own oF444 oH443
              have cm483 := g454.fz cm431
              refine ⟨Wk.non (Wk.non (Wk.som (Wk.nil))), ?_⟩
              try dsimp only
              refine a_tB ?_
              refine a_din ?_
              refine a_var rfl ?_
              refine a_op ?_
              refine a_var rfl ?_
              refine a_c ?_
              refine a_ixT (Same.tup gb477.s (Le.tup le478 sq457)) rfl ?_
              obtain ⟨o484, hg485, ho486⟩ := dinX x392 (Same.rd gb477.s (Le.dic le478 rd470)) (Dk.mo le478 dk471)
              refine ⟨_, o484, rfl, hg485, ?_⟩
              rw [ho486]
              refine a_bl ?_
              refine iteB (fun c487 => ?_) (fun c487 => ?_)
              · refine a_tup ?_
                refine a_cons ?_
                refine a_var rfl ?_
                refine a_cons ?_
                refine a_dget ?_
                refine a_op ?_
                refine a_var rfl ?_
                refine a_c ?_
                refine a_ixT (Same.tup gb477.s (Le.tup le478 sq457)) rfl ?_
                refine a_var rfl ?_
                obtain ⟨y491, y491g⟩ : ∃ y, gtd x446.1 x392 = some y := by exact Option.isSome_iff_exists.mp (by assumption)
                obtain ⟨v488, h489, h490⟩ := Dk.some (Dk.mo le478 dk471) y491g
                refine a_dgetK (Same.rd gb477.s (Le.dic le478 rd470)) h489 ?_
                obtain ⟨a492, rfl, sq493⟩ := h490
                refine a_nil ?_
                refine ⟨by show 2 ≤ sizeLine; decide, fun p494 hp495 => ?_⟩
                obtain ⟨F496, g498, e499⟩ := al2 (o := (.tup [V.ref a475, V.ref a492])) gb477.s (by intro _ _ z; cases z) hp495
                generalize upd H453 p494 (.tup [V.ref a475, V.ref a492]) = H497 at g498 ⊢
                have gb500 := gb477.tr g498
                have le501 := g498.le
                have oH502 := g498.h _ _ oH479
                have oF503 := g498.own oF480 oH479
                have oH504 := g498.h _ _ oH481
                have oF505 := g498.own oF482 oH481
                have cm506 := g498.fz cm483
                refine ⟨by rw [Al.length (Al.mo (le478.trans le501) al438)]; have := sizeLine_big; omega, ?_⟩
                exact ⟨F496, _, m333, _, m338, (ts437 ++ [(x449, y491)]), True.intro, gb500, cm506, ((le432.trans le478).trans le501), oH502, oF503, (Al.mo (le478.trans le501) dk442), rfl, rfl, oH504, oF505, (Al.mo (le478.trans le501) dk445), rfl, rfl, (Al.snoc (Al.mo (le478.trans le501) al438) ⟨_, _, _, rfl, (SqT.of e499), ⟨_, rfl, (Le.tup (le478.trans le501) sq476)⟩, ⟨_, rfl, (Le.tup le501 sq493)⟩⟩), (by first | (simp; done) | (rw [List.length_append]; simp only [List.length_cons, List.length_nil]; omega) | omega), by exact ⟨col_yes hx447 hx450 (by assumption) q0, mem315 q1 (E.bsp hx450) ((E.row _ (List.mem_of_getElem? hx447)).pt _ _ (by assumption))⟩⟩
              · exact ⟨F452, _, m333, _, m338, ts437, True.intro, gb477, cm483, (le432.trans le478), oH479, oF480, (Al.mo le478 dk442), rfl, rfl, oH481, oF482, (Al.mo le478 dk445), rfl, rfl, (Al.mo le478 al438), (by first | (simp; done) | (rw [List.length_append]; simp only [List.length_cons, List.length_nil]; omega) | omega), by exact ⟨col_no hx447 hx450 (by first | assumption | simp_all) q0, q1⟩⟩
            · rintro acc508 H507 ⟨F509, kv513, m514, kv515, m516, ts517, _, gb510, cm511, le512, oH520, oF521, dk522, rfl, rfl, oH523, oF524, dk525, rfl, rfl, al518, tl519, ⟨q0, q1⟩⟩
              have hlen := Al.length dk522
              have hlen2 := Al.length dk525
              refine ⟨(by rw [Al.length al518]; have := sizeLine_big; omega), fun p526 hp527 => ?_⟩
              obtain ⟨F528, g530, e531⟩ := al2 (o := (.lst acc508)) gb510.s (by intro _ _ z; cases z) hp527
              generalize upd H507 p526 (.lst acc508) = H529 at g530 ⊢
              have gb532 := gb510.tr g530
              have le533 := g530.le
              have oH534 := g530.h _ _ oH520
              have oF535 := g530.own oF521 oH520
              have oH536 := g530.h _ _ oH523
              have oF537 := g530.own oF524 oH523
              have cm538 := g530.fz cm511
              rw [hlen, hlen2, col_all] at q0
              refine a_name ?_
              try dsimp only
              refine a_if ?_
              refine a_test ?_
              refine a_op ?_
              refine a_op ?_
              refine a_call ?_
              refine a_cons ?_
              refine a_op ?_
              refine a_var rfl ?_
              refine a_lst ?_
              refine a_cons ?_
              refine a_tup ?_
              refine a_cons ?_
              refine a_tup ?_
              refine a_cons ?_
              refine a_un ?_
              refine a_c ?_
              refine a_U ?_
              refine a_cons ?_
              refine a_c ?_
              refine a_nil ?_
              refine ⟨by show 2 ≤ sizeLine; decide, fun p539 hp540 => ?_⟩
              obtain ⟨F541, g543, e544⟩ := al2 (o := (.tup [V.int (-1), V.int 1])) gb532.s (by intro _ _ z; cases z) hp540
              generalize upd H529 p539 (.tup [V.int (-1), V.int 1]) = H542 at g543 ⊢
              have gb545 := gb532.tr g543
              have le546 := g543.le
              have oH547 := g543.h _ _ oH534
              have oF548 := g543.own oF535 oH534
              have oH549 := g543.h _ _ oH536
              have oF550 := g543.own oF537 oH536
              have cm551 := g543.fz cm538
              have sq552 : SqT K F541 p539 (fr (((-1) : Int) : Rat)) := by rw [fr_int]; exact SqT.of e544
              refine a_cons ?_
              refine a_call ?_
              refine a_cons ?_
              refine a_var rfl ?_
              refine a_cons ?_
              refine a_var rfl ?_
              refine a_cons ?_
              refine a_var rfl ?_
              refine a_cons ?_
              refine a_var rfl ?_
              refine a_nil ?_
              refine ⟨F541, _, _, _, _, x392, x150, r39, ts104, rfl, gb545.s, rfl, rfl, ⟨_, _, rfl, (Le.lst ((((((((((((le103.trans le114).trans le123).trans le135).trans le146).trans le161).trans le226).trans le308).trans le343).trans le378).trans le512).trans le533).trans le546) sq48), (Al.mo ((((((((((((le103.trans le114).trans le123).trans le135).trans le146).trans le161).trans le226).trans le308).trans le343).trans le378).trans le512).trans le533).trans le546) al49)⟩, ⟨_, _, rfl, (Le.lst ((((((((((le123.trans le135).trans le146).trans le161).trans le226).trans le308).trans le343).trans le378).trans le512).trans le533).trans le546) (SqL.of e112)), (Al.mo ((((((((((le123.trans le135).trans le146).trans le161).trans le226).trans le308).trans le343).trans le378).trans le512).trans le533).trans le546) (Al.mo le114 al105))⟩, (by exact ⟨ht2, by omega, fun s h => (hs s h).2⟩), ?_⟩
              rintro v553 F554 H555  g557 hr558 hp559
              have gb560 := gb545.tr g557
              have le561 := g557.le
              have oH562 := g557.h _ _ oH547
              have oF563 := g557.own oF548 oH547
              have oH564 := g557.h _ _ oH549
              have oF565 := g557.own oF550 oH549
              have cm566 := g557.fz cm551
              obtain ⟨a567, rfl, sq568⟩ := hr558
              have u8 := hp559
              refine a_nil ?_
              refine ⟨by show 2 ≤ sizeLine; decide, fun p569 hp570 => ?_⟩
              obtain ⟨F571, g573, e574⟩ := al2 (o := (.tup [V.ref p539, V.ref a567])) gb560.s (by intro _ _ z; cases z) hp570
              generalize upd H555 p569 (.tup [V.ref p539, V.ref a567]) = H572 at g573 ⊢
              have gb575 := gb560.tr g573
              have le576 := g573.le
              have oH577 := g573.h _ _ oH562
              have oF578 := g573.own oF563 oH562
              have oH579 := g573.h _ _ oH564
              have oF580 := g573.own oF565 oH564
              have cm581 := g573.fz cm566
              refine a_nil ?_
              refine ⟨by show 1 ≤ sizeLine; decide, fun p582 hp583 => ?_⟩
              obtain ⟨F584, g586, e587⟩ := al2 (o := (.lst [V.ref p569])) gb575.s (by intro _ _ z; cases z) hp583
              generalize upd H572 p582 (.lst [V.ref p569]) = H585 at g586 ⊢
              have gb588 := gb575.tr g586
              have le589 := g586.le
              have oH590 := g586.h _ _ oH577
              have oF591 := g586.own oF578 oH577
              have oH592 := g586.h _ _ oH579
              have oF593 := g586.own oF580 oH579
              have cm594 := g586.fz cm581
              have al595 : Al (r2 K (rFr K) (rFr K)) F584 [.ref p569] [((((-1) : Int) : Rat), (cntR r39 ts104 x150 (Sum.inr x392)))] := ⟨⟨_, _, _, rfl, (Le.tup le589 (SqT.of e574)), ⟨_, rfl, (Le.tup ((le561.trans le576).trans le589) sq552)⟩, ⟨_, rfl, (Le.tup (le576.trans le589) sq568)⟩⟩, True.intro⟩
              have al596 := (Al.mo (((le546.trans le561).trans le576).trans le589) (Al.mo le533 al518))
              have al597 := al595
              refine ⟨_, _, _, _, rfl, rfl, (Same.seq gb588.s (Le.lst (((le546.trans le561).trans le576).trans le589) (SqL.of e531))), (Same.seq gb588.s (SqL.of e587)), (Nat.le_trans (show _ ≤ 100000 by rw [Al.length al596, Al.length al597]; walk_at "ol") (by decide)), fun p598 hp599 => ?_⟩
              obtain ⟨F600, g602, e603⟩ := al2 (o := (.lst (acc508 ++ [V.ref p569]))) gb588.s (by intro _ _ z; cases z) hp599
              generalize upd H585 p598 (.lst (acc508 ++ [V.ref p569])) = H601 at g602 ⊢
              have gb604 := gb588.tr g602
              have le605 := g602.le
              have oH606 := g602.h _ _ oH590
              have oF607 := g602.own oF591 oH590
              have oH608 := g602.h _ _ oH592
              have oF609 := g602.own oF593 oH592
              have cm610 := g602.fz cm594
              have al611 := Al.mo le605 (Al.app al596 al597)
              refine a_nil ?_
              refine ⟨F600, _, (ts517 ++ [((((-1) : Int) : Rat), (cntR r39 ts104 x150 (Sum.inr x392)))]), 315, rfl, gb604.s, ⟨_, _, rfl, (SqL.of e603), al611⟩, (by exact ⟨by rw [List.length_append]; show _ + 1 ≤ 15; omega, by decide, fun p h => (List.mem_append.mp h).elim (q1 p) fun z => by rw [List.mem_singleton.mp z]; exact Nat.le_trans (m1_le u8) (by decide)⟩), ?_⟩
              rintro v612 F613 H614  g616 hr617 hp618
              have gb619 := gb604.tr g616
              have le620 := g616.le
              have oH621 := g616.h _ _ oH606
              have oF622 := g616.own oF607 oH606
              have oH623 := g616.h _ _ oH608
              have oF624 := g616.own oF609 oH608
              have cm625 := g616.fz cm610
              obtain ⟨a626, rfl, sq627⟩ := hr617
              refine a_c ?_
              refine a_ixT (Same.tup gb619.s sq627) (fr0 (wgtZ ((ts517 ++ [((((-1) : Int) : Rat), (cntR r39 ts104 x150 (Sum.inr x392)))])))) ?_
              refine a_c ?_
              refine a_I0 ?_
              refine a_bl ?_
              refine iteD (fun c628 => ?_) (fun c628 => ?_)
              · refine a_asg ?_
                refine a_c ?_
                refine a_name ?_
                try dsimp only
                exact ⟨F613, false, _, m333, _, m338, _, _, rfl, gb619, cm625, ((((((((le378.trans le512).trans le533).trans le546).trans le561).trans le576).trans le589).trans le605).trans le620), oH621, oF622, (Al.mo ((((((le533.trans le546).trans le561).trans le576).trans le589).trans le605).trans le620) dk522), rfl, rfl, oH623, oF624, (Al.mo ((((((le533.trans le546).trans le561).trans le576).trans le589).trans le605).trans le620) dk525), rfl, rfl, by first | exact all_no1 hx9 (colB_no q0 (by assumption)) | exact all_more hx9 (colB_yes q0 (by assumption)) g0⟩
              · refine a_next ?_
                try dsimp only
                exact ⟨F613, good379, _, m333, _, m338, _, _, rfl, gb619, cm625, ((((((((le378.trans le512).trans le533).trans le546).trans le561).trans le576).trans le589).trans le605).trans le620), oH621, oF622, (Al.mo ((((((le533.trans le546).trans le561).trans le576).trans le589).trans le605).trans le620) dk522), rfl, rfl, oH623, oF624, (Al.mo ((((((le533.trans le546).trans le561).trans le576).trans le589).trans le605).trans le620) dk525), rfl, rfl, by first | exact all_no1 hx9 (colB_no q0 (by assumption)) | exact all_more hx9 (colB_yes q0 (by assumption)) g0⟩
          · rintro σ' H629 ⟨F630, good634, kv635, m636, kv637, m638, o639, o640, rfl, gb631, cm632, le633, oH641, oF642, dk643, rfl, rfl, oH644, oF645, dk646, rfl, rfl, g0⟩
            have hlen := Al.length (Al.mo ((((((((((le44.trans le103).trans le114).trans le123).trans le135).trans le146).trans le161).trans le226).trans le308).trans le343).trans le633) al34)
            try dsimp only
            rw [hlen, List.take_length] at g0
            have hhold : holdsB m333 (cutA [("left a" : Str), ("b" : Str), ("gap cc" : Str)] none (some (1 + (rz4 % 3)))) r39 x150 m338 ts104 = (cutA [("left a" : Str), ("b" : Str), ("gap cc" : Str)] none (some (1 + (rz4 % 3)))).all (colB m333 m338 r39 ts104 x150) := E.holds hs hsl
            have hgood : good634 = (cutA [("left a" : Str), ("b" : Str), ("gap cc" : Str)] none (some (1 + (rz4 % 3)))).all (colB m333 m338 r39 ts104 x150) := g0
            refine a_seq ?_
            refine a_asg ?_
            refine a_tup ?_
            refine a_cons ?_
            refine a_cb ?_
            refine a_cons ?_
            refine a_var rfl ?_
            refine a_nil ?_
            have al647 := dk643
            refine ⟨_, _, rfl, .inl (SqL.of oH641), fun p648 hp649 => ?_⟩
            obtain ⟨F650, g652, e653⟩ := al2 (o := (.lst kw332)) gb631.s (by intro _ _ z; cases z) hp649
            generalize upd H629 p648 (.lst kw332) = H651 at g652 ⊢
            have gb654 := gb631.tr g652
            have le655 := g652.le
            have oH656 := g652.h _ _ oH641
            have oF657 := g652.own oF642 oH641
            have oH658 := g652.h _ _ oH644
            have oF659 := g652.own oF645 oH644
            have cm660 := g652.fz cm632
            refine a_cons ?_
            refine a_cb ?_
            refine a_cons ?_
            refine a_var rfl ?_
            refine a_nil ?_
            have al661 := (Al.mo (((((((((((le44.trans le103).trans le114).trans le123).trans le135).trans le146).trans le161).trans le226).trans le308).trans le343).trans le633).trans le655) al34)
            refine ⟨_, _, rfl, .inl (Same.seq gb654.s (Le.lst (((((((((((le44.trans le103).trans le114).trans le123).trans le135).trans le146).trans le161).trans le226).trans le308).trans le343).trans le633).trans le655) (SqL.of e30))), fun p662 hp663 => ?_⟩
            obtain ⟨F664, g666, e667⟩ := al2 (o := (.lst (cutV [V.str ("left a" : Str), V.str ("b" : Str), V.str ("gap cc" : Str)] none (some (1 + (rz4 % 3)))))) gb654.s (by intro _ _ z; cases z) hp663
            generalize upd H651 p662 (.lst (cutV [V.str ("left a" : Str), V.str ("b" : Str), V.str ("gap cc" : Str)] none (some (1 + (rz4 % 3))))) = H665 at g666 ⊢
            have gb668 := gb654.tr g666
            have le669 := g666.le
            have oH670 := g666.h _ _ oH656
            have oF671 := g666.own oF657 oH656
            have oH672 := g666.h _ _ oH658
            have oF673 := g666.own oF659 oH658
            have cm674 := g666.fz cm660
            refine a_cons ?_
            refine a_cb ?_
            refine a_cons ?_
            refine a_var rfl ?_
            refine a_nil ?_
            have al675 := (Al.mo (((((((((((le103.trans le114).trans le123).trans le135).trans le146).trans le161).trans le226).trans le308).trans le343).trans le633).trans le655).trans le669) al49)
            refine ⟨_, _, rfl, .inl (Same.seq gb668.s (Le.lst (((((((((((le103.trans le114).trans le123).trans le135).trans le146).trans le161).trans le226).trans le308).trans le343).trans le633).trans le655).trans le669) sq48)), fun p676 hp677 => ?_⟩
            obtain ⟨F678, g680, e681⟩ := al2 (o := (.lst vs47)) gb668.s (by intro _ _ z; cases z) hp677
            generalize upd H665 p676 (.lst vs47) = H679 at g680 ⊢
            have gb682 := gb668.tr g680
            have le683 := g680.le
            have oH684 := g680.h _ _ oH670
            have oF685 := g680.own oF671 oH670
            have oH686 := g680.h _ _ oH672
            have oF687 := g680.own oF673 oH672
            have cm688 := g680.fz cm674
            refine a_cons ?_
            refine a_cb ?_
            refine a_cons ?_
            refine a_var rfl ?_
            refine a_nil ?_
            have al689 := (Al.mo ((le655.trans le669).trans le683) dk646)
            refine ⟨_, _, rfl, .inl (SqL.of oH686), fun p690 hp691 => ?_⟩
            obtain ⟨F692, g694, e695⟩ := al2 (o := (.lst kw337)) gb682.s (by intro _ _ z; cases z) hp691
            generalize upd H679 p690 (.lst kw337) = H693 at g694 ⊢
            have gb696 := gb682.tr g694
            have le697 := g694.le
            have oH698 := g694.h _ _ oH684
            have oF699 := g694.own oF685 oH684
            have oH700 := g694.h _ _ oH686
            have oF701 := g694.own oF687 oH686
            have cm702 := g694.fz cm688
            refine a_cons ?_
            refine a_cb ?_
            refine a_cons ?_
            refine a_var rfl ?_
            refine a_nil ?_
            have al703 := (Al.mo (((((((((((le123.trans le135).trans le146).trans le161).trans le226).trans le308).trans le343).trans le633).trans le655).trans le669).trans le683).trans le697) (Al.mo le114 al105))
            refine ⟨_, _, rfl, .inl (Same.seq gb696.s (Le.lst (((((((((((le123.trans le135).trans le146).trans le161).trans le226).trans le308).trans le343).trans le633).trans le655).trans le669).trans le683).trans le697) (SqL.of e112))), fun p704 hp705 => ?_⟩
            obtain ⟨F706, g708, e709⟩ := al2 (o := (.lst acc99)) gb696.s (by intro _ _ z; cases z) hp705
            generalize upd H693 p704 (.lst acc99) = H707 at g708 ⊢
            have gb710 := gb696.tr g708
            have le711 := g708.le
            have oH712 := g708.h _ _ oH698
            have oF713 := g708.own oF699 oH698
            have oH714 := g708.h _ _ oH700
            have oF715 := g708.own oF701 oH700
            have cm716 := g708.fz cm702
            refine a_nil ?_
            refine ⟨by show 5 ≤ sizeLine; decide, fun p717 hp718 => ?_⟩
            obtain ⟨F719, g721, e722⟩ := al2 (o := (.tup [V.ref p648, V.ref p662, V.ref p676, V.ref p690, V.ref p704])) gb710.s (by intro _ _ z; cases z) hp718
            generalize upd H707 p717 (.tup [V.ref p648, V.ref p662, V.ref p676, V.ref p690, V.ref p704]) = H720 at g721 ⊢
            have gb723 := gb710.tr g721
            have le724 := g721.le
            have oH725 := g721.h _ _ oH712
            have oF726 := g721.own oF713 oH712
            have oH727 := g721.h _ _ oH714
            have oF728 := g721.own oF715 oH714
            have cm729 := g721.fz cm716
            refine a_name ?_
            try dsimp only
            refine a_seq ?_
            refine a_asg ?_
            refine a_call ?_
            refine a_cons ?_
            refine a_op ?_
            refine a_var rfl ?_
            refine a_c ?_
            refine a_ixT (Same.tup gb723.s (SqT.of e722)) rfl ?_
            refine a_cons ?_
            refine a_op ?_
            refine a_var rfl ?_
            refine a_c ?_
            refine a_ixT (Same.tup gb723.s (SqT.of e722)) rfl ?_
            refine a_cons ?_
            refine a_op ?_
            refine a_var rfl ?_
            refine a_c ?_
            refine a_ixT (Same.tup gb723.s (SqT.of e722)) rfl ?_
            refine a_cons ?_
            refine a_var rfl ?_
            refine a_cons ?_
            refine a_op ?_
            refine a_var rfl ?_
            refine a_c ?_
            refine a_ixT (Same.tup gb723.s (SqT.of e722)) rfl ?_
            refine a_cons ?_
            refine a_op ?_
            refine a_var rfl ?_
            refine a_c ?_
            refine a_ixT (Same.tup gb723.s (SqT.of e722)) rfl ?_
            refine a_nil ?_
            refine ⟨F719, _, _, _, _, _, _, m333, (cutA [("left a" : Str), ("b" : Str), ("gap cc" : Str)] none (some (1 + (rz4 % 3)))), r39, x150, m338, ts104, rfl, gb723.s, ⟨_, _, rfl, (Le.lst ((((le669.trans le683).trans le697).trans le711).trans le724) (SqL.of e653)), (Al.mo ((((le669.trans le683).trans le697).trans le711).trans le724) (Al.mo le655 al647))⟩, ⟨_, _, rfl, (Le.lst (((le683.trans le697).trans le711).trans le724) (SqL.of e667)), (Al.mo (((le683.trans le697).trans le711).trans le724) (Al.mo le669 al661))⟩, ⟨_, _, rfl, (Le.lst ((le697.trans le711).trans le724) (SqL.of e681)), (Al.mo ((le697.trans le711).trans le724) (Al.mo le683 al675))⟩, rfl, ⟨_, _, rfl, (Le.lst (le711.trans le724) (SqL.of e695)), (Al.mo (le711.trans le724) (Al.mo le697 al689))⟩, ⟨_, _, rfl, (Le.lst le724 (SqL.of e709)), (Al.mo le724 (Al.mo le711 al703))⟩, (by exact ⟨E.ok l9 ht2 (by omega) hs ht1, by omega⟩), ?_⟩
            rintro v730 F731 H732 r733 g734 hr735 hp736
            have gb737 := gb723.tr g734
            have le738 := g734.le
            have oH739 := g734.h _ _ oH725
            have oF740 := g734.own oF726 oH725
            have oH741 := g734.h _ _ oH727
            have oF742 := g734.own oF728 oH727
            have cm743 := g734.fz cm729
            obtain ⟨a744, v746, v747, rfl, sq745, h748, h749⟩ := hr735
            obtain rfl : v747 = V.bl r733.2 := h749
            have hask := hp736
            refine a_gtup2 (Same.tup gb737.s sq745) ?_
            try dsimp only
            refine a_seq ?_
            refine a_if ?_
            refine a_or ?_
            refine a_test ?_
            refine a_op ?_
            refine a_var rfl ?_
            refine a_tup ?_
            refine a_cons ?_
            refine a_var rfl ?_
            refine a_cons ?_
            refine a_var rfl ?_
            refine a_cons ?_
            refine a_var rfl ?_
            refine a_cons ?_
            refine a_var rfl ?_
            refine a_cons ?_
            refine a_var rfl ?_
            refine a_nil ?_
            obtain ⟨F750, gb751, cm752, le753s, e754, ne755⟩ := frz gb737 cm743 hb235 oF740 oH739 (by intro _ _ z; cases z)
            have le753 := Le.of le753s
            have oF756 := (ne755 _ (Ne.symm ne326)).trans oF742
            obtain ⟨F757, gb758, cm759, le760s, e761, ne762⟩ := frz gb751 cm752 hb322 oF756 oH741 (by intro _ _ z; cases z)
            have le760 := Le.of le760s
            refine ⟨by show 5 ≤ sizeLine; decide, fun p763 hp764 => ?_⟩
            obtain ⟨F765, g767, e768⟩ := al2 (o := (.tup [V.ref p230, V.ref p25, V.ref a46, V.ref p317, V.ref p107])) gb758.s (by intro _ _ z; cases z) hp764
            generalize upd H732 p763 (.tup [V.ref p230, V.ref p25, V.ref a46, V.ref p317, V.ref p107]) = H766 at g767 ⊢
            have gb769 := gb758.tr g767
            have le770 := g767.le
            have cm771 := g767.fz cm759
            have hde := g767.f _ _ e761
            have hdb := hb322
            have hdt := e768
            have hq772 : (r5 K (rL K (r5 K (rD (rFr K)) rS (rFr K) rI rI)) (rL K rS) (rL K (r2 K rU (rFr K))) (rL K (rFr K)) (rL K (rFr K))) F765 (V.ref p763) (m333, (cutA [("left a" : Str), ("b" : Str), ("gap cc" : Str)] none (some (1 + (rz4 % 3)))), r39, m338, ts104) := ⟨_, _, _, _, _, _, rfl, (SqT.of e768), ⟨_, _, rfl, (Le.lst (le760.trans le770) (SqL.of e754)), (Al.mo (le760.trans le770) (Al.mo (((((((le655.trans le669).trans le683).trans le697).trans le711).trans le724).trans le738).trans le753) dk643))⟩, ⟨_, _, rfl, (Le.lst ((((((((((((((((((((le44.trans le103).trans le114).trans le123).trans le135).trans le146).trans le161).trans le226).trans le308).trans le343).trans le633).trans le655).trans le669).trans le683).trans le697).trans le711).trans le724).trans le738).trans le753).trans le760).trans le770) (SqL.of e30)), (Al.mo ((((((((((((((((((((le44.trans le103).trans le114).trans le123).trans le135).trans le146).trans le161).trans le226).trans le308).trans le343).trans le633).trans le655).trans le669).trans le683).trans le697).trans le711).trans le724).trans le738).trans le753).trans le760).trans le770) al34)⟩, ⟨_, _, rfl, (Le.lst (((((((((((((((((((le103.trans le114).trans le123).trans le135).trans le146).trans le161).trans le226).trans le308).trans le343).trans le633).trans le655).trans le669).trans le683).trans le697).trans le711).trans le724).trans le738).trans le753).trans le760).trans le770) sq48), (Al.mo (((((((((((((((((((le103.trans le114).trans le123).trans le135).trans le146).trans le161).trans le226).trans le308).trans le343).trans le633).trans le655).trans le669).trans le683).trans le697).trans le711).trans le724).trans le738).trans le753).trans le760).trans le770) al49)⟩, ⟨_, _, rfl, (Le.lst le770 (SqL.of e761)), (Al.mo le770 (Al.mo ((((((((le655.trans le669).trans le683).trans le697).trans le711).trans le724).trans le738).trans le753).trans le760) dk646))⟩, ⟨_, _, rfl, (Le.lst (((((((((((((((((le123.trans le135).trans le146).trans le161).trans le226).trans le308).trans le343).trans le633).trans le655).trans le669).trans le683).trans le697).trans le711).trans le724).trans le738).trans le753).trans le760).trans le770) (SqL.of e112)), (Al.mo (((((((((((((((((le123.trans le135).trans le146).trans le161).trans le226).trans le308).trans le343).trans le633).trans le655).trans le669).trans le683).trans le697).trans le711).trans le724).trans le738).trans le753).trans le760).trans le770) (Al.mo le114 al105))⟩⟩
            refine a_neN (fun Q' q' => a_eqN5 (K := K) gb769.s (show (r5 K (rL K (r5 K (rD (rFr K)) rS (rFr K) rI rI)) (rL K rS) (rL K (r2 K rU (rFr K))) (rL K (rFr K)) (rL K (rFr K))) F765 (V.ref p717) (m333, (cutA [("left a" : Str), ("b" : Str), ("gap cc" : Str)] none (some (1 + (rz4 % 3)))), r39, m338, ts104) from ⟨_, _, _, _, _, _, rfl, (Le.tup (((le738.trans le753).trans le760).trans le770) (SqT.of e722)), ⟨_, _, rfl, (Le.lst ((((((((le669.trans le683).trans le697).trans le711).trans le724).trans le738).trans le753).trans le760).trans le770) (SqL.of e653)), (Al.mo ((((((((le669.trans le683).trans le697).trans le711).trans le724).trans le738).trans le753).trans le760).trans le770) (Al.mo le655 al647))⟩, ⟨_, _, rfl, (Le.lst (((((((le683.trans le697).trans le711).trans le724).trans le738).trans le753).trans le760).trans le770) (SqL.of e667)), (Al.mo (((((((le683.trans le697).trans le711).trans le724).trans le738).trans le753).trans le760).trans le770) (Al.mo le669 al661))⟩, ⟨_, _, rfl, (Le.lst ((((((le697.trans le711).trans le724).trans le738).trans le753).trans le760).trans le770) (SqL.of e681)), (Al.mo ((((((le697.trans le711).trans le724).trans le738).trans le753).trans le760).trans le770) (Al.mo le683 al675))⟩, ⟨_, _, rfl, (Le.lst (((((le711.trans le724).trans le738).trans le753).trans le760).trans le770) (SqL.of e695)), (Al.mo (((((le711.trans le724).trans le738).trans le753).trans le760).trans le770) (Al.mo le697 al689))⟩, ⟨_, _, rfl, (Le.lst ((((le724.trans le738).trans le753).trans le760).trans le770) (SqL.of e709)), (Al.mo ((((le724.trans le738).trans le753).trans le760).trans le770) (Al.mo le711 al703))⟩⟩) hq772 (by decide) q') ?_
            refine a_bl ?_
            refine iteF ?_
            refine a_test ?_
            refine a_op ?_
            refine a_var rfl ?_
            refine a_var rfl ?_
            refine a_eqB ?_
            refine a_bl ?_
            refine iteB (fun c773 => ?_) (fun c773 => ?_)
            · refine a_ret ?_
              refine a_c ?_
              exfalso
              exact ask_dead hask (hhold.trans hgood.symm) c773
            · refine a_next ?_
              try dsimp only
              refine a_seq ?_
              refine a_if ?_
              refine a_not ?_
              refine a_tB ?_
              refine a_var rfl ?_
              refine a_bl ?_
              refine iteNB (fun c774 => ?_) (fun c774 => ?_)
              · refine a_ret ?_
                refine a_c ?_
                exact k _
              · refine a_next ?_
                try dsimp only
                have hok : r733.1 = some (bndR m333 r39 m338 ts104) := by rw [hask.1 (by rw [hhold, ← hgood]; assumption)]
                have h775 : rFr K F765 v746 (bndR m333 r39 m338 ts104) := by have z : rOF K _ _ _ := (Mo.mo ((le753.trans le760).trans le770) h748); rw [hok] at z; exact z
                obtain ⟨a776, rfl, sq777⟩ := h775
                refine a_seq ?_
                refine a_asg ?_
                refine a_comp ?_
                refine a_izip ?_
                refine a_cons ?_
                refine a_var rfl ?_
                refine a_cons ?_
                refine a_var rfl ?_
                refine a_nil ?_
                have hml780 : (min (m333).length (m338).length) ≤ 1000000 := by omega
                have hlen := Al.length (Al.mo (le760.trans le770) (Al.mo (((((((le655.trans le669).trans le683).trans le697).trans le711).trans le724).trans le738).trans le753) dk643))
                have hlen2 := Al.length (Al.mo le770 (Al.mo ((((((((le655.trans le669).trans le683).trans le697).trans le711).trans le724).trans le738).trans le753).trans le760) dk646))
                refine ⟨_, _, rfl, ⟨_, (Same.seq gb769.s (Le.lst (le760.trans le770) (SqL.of e754)))⟩, ⟨_, (Same.seq gb769.s (Le.lst le770 (SqL.of e761)))⟩, comp_zip (K := K) (a := p230) (b := p317) (xs := kw332) (ys := kw337) (fun i acc H' => Ex2 fun (F778 : Hp) (ts779 : List (Rat × Rat)) => Cj7 (True) (Gr0 (fun _ => none) H F778 H') (Fz S0 F778) (Le F765 F778) (Al (r2 K (rFr K) (rFr K)) F778 acc ts779) (ts779.length ≤ i) ((wgtZ ts779 = wgtZ ((m338.zip (m333.map (·.2.2.1))).take i) ∧ ∀ p ∈ ts779, bs p.1 + bs p.2 ≤ 315))) ?_ ?_ ?_ ?_⟩
                · exact ⟨F765, [], True.intro, gb769, cm771, Le.refl _, (show Al (r2 K (rFr K) (rFr K)) F765 [] [] from True.intro), (by first | (simp; done) | (rw [List.length_append]; simp only [List.length_cons, List.length_nil]; omega) | omega), by exact ⟨rfl, fun p h => (by cases h)⟩⟩
                · rintro i acc H781 _ ⟨F782, ts786, _, gb783, cm784, le785, al787, tl788, ⟨q5, q6⟩⟩
                  exact ⟨(Same.seq gb783.s (Le.lst ((le760.trans le770).trans le785) (SqL.of e754))), (Same.seq gb783.s (Le.lst (le770.trans le785) (SqL.of e761)))⟩
                · rintro i789 y793 z794 acc795 H790 p796 hi791 hj792 ⟨F798, ts802, _, gb799, cm800, le801, al803, tl804, ⟨q5, q6⟩⟩ hp797
                  obtain ⟨x805, hx806, hr807⟩ := Al.get (Al.mo ((le760.trans le770).trans le801) (Al.mo (((((((le655.trans le669).trans le683).trans le697).trans le711).trans le724).trans le738).trans le753) dk643)) hi791
                  obtain ⟨x808, hx809, hr810⟩ := Al.get (Al.mo (le770.trans le801) (Al.mo ((((((((le655.trans le669).trans le683).trans le697).trans le711).trans le724).trans le738).trans le753).trans le760) dk646)) hj792
                  have hil := (List.getElem?_eq_some_iff.mp hx806).1
                  have hil2 := (List.getElem?_eq_some_iff.mp hx809).1
                  obtain ⟨a815, v817, v818, v819, v820, v821, rfl, sq816, h822, h823, h824, h825, h826⟩ := hr807
                  obtain ⟨a827, kvs828, rfl, rd829, dk830, nd831⟩ := h822
                  obtain rfl : v818 = V.str x805.2.1 := h823
                  obtain ⟨a832, rfl, sq833⟩ := h824
                  obtain rfl : v820 = V.int x805.2.2.2.1 := h825
                  obtain rfl : v821 = V.int x805.2.2.2.2 := h826
                  obtain ⟨a834, rfl, sq835⟩ := hr810
                  refine it2 (K := K) gb799.s hp797 (fun F811 H812 g813 e814 => ?_)
                  have gb836 := gb799.tr g813
                  have le837 := g813.le
                  have cm838 := g813.fz cm800
                  refine ⟨Wk.non (Wk.non (Wk.nil)), ?_⟩
                  try dsimp only
                  refine a_yes ?_
                  refine iteT ?_
                  refine a_tup ?_
                  refine a_cons ?_
                  refine a_var rfl ?_
                  refine a_cons ?_
                  refine a_op ?_
                  refine a_var rfl ?_
                  refine a_c ?_
                  refine a_ixT (Same.tup gb836.s (Le.tup le837 sq816)) rfl ?_
                  refine a_nil ?_
                  refine ⟨by show 2 ≤ sizeLine; decide, fun p839 hp840 => ?_⟩
                  obtain ⟨F841, g843, e844⟩ := al2 (o := (.tup [V.ref a834, V.ref a832])) gb836.s (by intro _ _ z; cases z) hp840
                  generalize upd H812 p839 (.tup [V.ref a834, V.ref a832]) = H842 at g843 ⊢
                  have gb845 := gb836.tr g843
                  have le846 := g843.le
                  have cm847 := g843.fz cm838
                  refine ⟨by rw [Al.length (Al.mo (le837.trans le846) al803)]; have := sizeLine_big; omega, ?_⟩
                  exact ⟨F841, (ts802 ++ [(x808, x805.2.2.1)]), True.intro, gb845, cm847, ((le801.trans le837).trans le846), (Al.snoc (Al.mo (le837.trans le846) al803) ⟨_, _, _, rfl, (SqT.of e844), ⟨_, rfl, (Le.tup (le837.trans le846) sq835)⟩, ⟨_, rfl, (Le.tup (le837.trans le846) sq833)⟩⟩), (by first | (simp; done) | (rw [List.length_append]; simp only [List.length_cons, List.length_nil]; omega) | omega), by exact ⟨by rw [wgt_one, num_take hx806 hx809, q5], mem315 q6 (E.bsp hx809) (E.row _ (List.mem_of_getElem? hx806)).nm⟩⟩
                · rintro acc849 H848 ⟨F850, ts854, _, gb851, cm852, le853, al855, tl856, ⟨q5, q6⟩⟩
                  have hlen := Al.length (Al.mo ((le760.trans le770).trans le853) (Al.mo (((((((le655.trans le669).trans le683).trans le697).trans le711).trans le724).trans le738).trans le753) dk643))
                  have hlen2 := Al.length (Al.mo (le770.trans le853) (Al.mo ((((((((le655.trans le669).trans le683).trans le697).trans le711).trans le724).trans le738).trans le753).trans le760) dk646))
                  refine ⟨(by rw [Al.length al855]; have := sizeLine_big; omega), fun p857 hp858 => ?_⟩
                  obtain ⟨F859, g861, e862⟩ := al2 (o := (.lst acc849)) gb851.s (by intro _ _ z; cases z) hp858
                  generalize upd H848 p857 (.lst acc849) = H860 at g861 ⊢
                  have gb863 := gb851.tr g861
                  have le864 := g861.le
                  have cm865 := g861.fz cm852
                  rw [hlen, hlen2, num_all] at q5
                  refine a_name ?_
                  try dsimp only
                  refine a_seq ?_
                  refine a_asg ?_
                  refine a_op ?_
                  refine a_var rfl ?_
                  refine a_comp ?_
                  refine a_izip ?_
                  refine a_cons ?_
                  refine a_var rfl ?_
                  refine a_cons ?_
                  refine a_var rfl ?_
                  refine a_nil ?_
                  have hml868 : (min (r39).length (ts104).length) ≤ 1000000 := by omega
                  have hlen := Al.length (Al.mo (((((((((((((((((((((le103.trans le114).trans le123).trans le135).trans le146).trans le161).trans le226).trans le308).trans le343).trans le633).trans le655).trans le669).trans le683).trans le697).trans le711).trans le724).trans le738).trans le753).trans le760).trans le770).trans le853).trans le864) al49)
                  have hlen2 := Al.length (Al.mo (((((((((((((((((((le123.trans le135).trans le146).trans le161).trans le226).trans le308).trans le343).trans le633).trans le655).trans le669).trans le683).trans le697).trans le711).trans le724).trans le738).trans le753).trans le760).trans le770).trans le853).trans le864) (Al.mo le114 al105))
                  refine ⟨_, _, rfl, ⟨_, (Same.seq gb863.s (Le.lst (((((((((((((((((((((le103.trans le114).trans le123).trans le135).trans le146).trans le161).trans le226).trans le308).trans le343).trans le633).trans le655).trans le669).trans le683).trans le697).trans le711).trans le724).trans le738).trans le753).trans le760).trans le770).trans le853).trans le864) sq48))⟩, ⟨_, (Same.seq gb863.s (Le.lst (((((((((((((((((((le123.trans le135).trans le146).trans le161).trans le226).trans le308).trans le343).trans le633).trans le655).trans le669).trans le683).trans le697).trans le711).trans le724).trans le738).trans le753).trans le760).trans le770).trans le853).trans le864) (SqL.of e112)))⟩, comp_zip (K := K) (a := a46) (b := p107) (xs := vs47) (ys := acc99) (fun i acc H' => Ex2 fun (F866 : Hp) (ts867 : List (Rat × Rat)) => Cj7 (True) (Gr0 (fun _ => none) H F866 H') (Fz S0 F866) (Le F859 F866) (Al (r2 K (rFr K) (rFr K)) F866 acc ts867) (ts867.length ≤ i) ((wgtZ ts867 = -wgtZ ((ts104.zip (r39.map (·.2))).take i) ∧ ∀ p ∈ ts867, bs p.1 + bs p.2 ≤ 315))) ?_ ?_ ?_ ?_⟩
                  · exact ⟨F859, [], True.intro, gb863, cm865, Le.refl _, (show Al (r2 K (rFr K) (rFr K)) F859 [] [] from True.intro), (by first | (simp; done) | (rw [List.length_append]; simp only [List.length_cons, List.length_nil]; omega) | omega), by exact ⟨by rw [List.take_zero]; decide +kernel, fun p h => (by cases h)⟩⟩
                  · rintro i acc H869 _ ⟨F870, ts874, _, gb871, cm872, le873, al875, tl876, ⟨q7, q8⟩⟩
                    exact ⟨(Same.seq gb871.s (Le.lst ((((((((((((((((((((((le103.trans le114).trans le123).trans le135).trans le146).trans le161).trans le226).trans le308).trans le343).trans le633).trans le655).trans le669).trans le683).trans le697).trans le711).trans le724).trans le738).trans le753).trans le760).trans le770).trans le853).trans le864).trans le873) sq48)), (Same.seq gb871.s (Le.lst ((((((((((((((((((((le123.trans le135).trans le146).trans le161).trans le226).trans le308).trans le343).trans le633).trans le655).trans le669).trans le683).trans le697).trans le711).trans le724).trans le738).trans le753).trans le760).trans le770).trans le853).trans le864).trans le873) (SqL.of e112)))⟩
                  · rintro i877 y881 z882 acc883 H878 p884 hi879 hj880 ⟨F886, ts890, _, gb887, cm888, le889, al891, tl892, ⟨q7, q8⟩⟩ hp885
                    obtain ⟨x893, hx894, hr895⟩ := Al.get (Al.mo ((((((((((((((((((((((le103.trans le114).trans le123).trans le135).trans le146).trans le161).trans le226).trans le308).trans le343).trans le633).trans le655).trans le669).trans le683).trans le697).trans le711).trans le724).trans le738).trans le753).trans le760).trans le770).trans le853).trans le864).trans le889) al49) hi879
                    obtain ⟨x896, hx897, hr898⟩ := Al.get (Al.mo ((((((((((((((((((((le123.trans le135).trans le146).trans le161).trans le226).trans le308).trans le343).trans le633).trans le655).trans le669).trans le683).trans le697).trans le711).trans le724).trans le738).trans le753).trans le760).trans le770).trans le853).trans le864).trans le889) (Al.mo le114 al105)) hj880
                    have hil := (List.getElem?_eq_some_iff.mp hx894).1
                    have hil2 := (List.getElem?_eq_some_iff.mp hx897).1
                    obtain ⟨a903, v905, v906, rfl, sq904, h907, h908⟩ := hr895
                    obtain rfl : v905 = V.u x893.1 := h907
                    obtain ⟨a909, rfl, sq910⟩ := h908
                    obtain ⟨a911, rfl, sq912⟩ := hr898
                    refine it2 (K := K) gb887.s hp885 (fun F899 H900 g901 e902 => ?_)
                    have gb913 := gb887.tr g901
                    have le914 := g901.le
                    have cm915 := g901.fz cm888
                    refine ⟨Wk.non (Wk.non (Wk.nil)), ?_⟩
                    try dsimp only
                    refine a_yes ?_
                    refine iteT ?_
                    refine a_tup ?_
                    refine a_cons ?_
                    refine a_tup ?_
                    refine a_cons ?_
                    refine a_op ?_
                    refine a_c ?_
                    refine a_op ?_
                    refine a_var rfl ?_
                    refine a_c ?_
                    refine a_ixT (Same.tup gb913.s (Le.tup le914 sq912)) (fr0 x896) ?_
                    refine a_I0 ?_
                    refine a_cons ?_
                    refine a_op ?_
                    refine a_var rfl ?_
                    refine a_c ?_
                    refine a_ixT (Same.tup gb913.s (Le.tup le914 sq912)) (fr1 x896) ?_
                    refine a_nil ?_
                    refine ⟨by show 2 ≤ sizeLine; decide, fun p916 hp917 => ?_⟩
                    obtain ⟨F918, g920, e921⟩ := al2 (o := (.tup [V.int (0 - x896.num), V.int (x896.den : Int)])) gb913.s (by intro _ _ z; cases z) hp917
                    generalize upd H900 p916 (.tup [V.int (0 - x896.num), V.int (x896.den : Int)]) = H919 at g920 ⊢
                    have gb922 := gb913.tr g920
                    have le923 := g920.le
                    have cm924 := g920.fz cm915
                    have sq925 : SqT K F918 p916 (fr (-x896)) := by rw [show fr (-x896) = [V.int (0 - x896.num), V.int (x896.den : Int)] from by exact fr_neg _]; exact SqT.of e921
                    refine a_cons ?_
                    refine a_op ?_
                    refine a_var rfl ?_
                    refine a_c ?_
                    refine a_ixT (Same.tup gb922.s (Le.tup (le914.trans le923) sq904)) rfl ?_
                    refine a_nil ?_
                    refine ⟨by show 2 ≤ sizeLine; decide, fun p926 hp927 => ?_⟩
                    obtain ⟨F928, g930, e931⟩ := al2 (o := (.tup [V.ref p916, V.ref a909])) gb922.s (by intro _ _ z; cases z) hp927
                    generalize upd H919 p926 (.tup [V.ref p916, V.ref a909]) = H929 at g930 ⊢
                    have gb932 := gb922.tr g930
                    have le933 := g930.le
                    have cm934 := g930.fz cm924
                    refine ⟨by rw [Al.length (Al.mo ((le914.trans le923).trans le933) al891)]; have := sizeLine_big; omega, ?_⟩
                    exact ⟨F928, (ts890 ++ [((-x896), x893.2)]), True.intro, gb932, cm934, (((le889.trans le914).trans le923).trans le933), (Al.snoc (Al.mo ((le914.trans le923).trans le933) al891) ⟨_, _, _, rfl, (SqT.of e931), ⟨_, rfl, (Le.tup le933 sq925)⟩, ⟨_, rfl, (Le.tup ((le914.trans le923).trans le933) sq910)⟩⟩), (by first | (simp; done) | (rw [List.length_append]; simp only [List.length_cons, List.length_nil]; omega) | omega), by exact ⟨by rw [wgt_one, set_take hx894 hx897, q7]; grind, mem315 q8 (by rw [bs_neg]; exact Nat.le_trans (hs _ (List.mem_of_getElem? hx897)).2 (by decide)) (ht1 _ (List.mem_of_getElem? hx894))⟩⟩
                  · rintro acc936 H935 ⟨F937, ts941, _, gb938, cm939, le940, al942, tl943, ⟨q7, q8⟩⟩
                    have hlen := Al.length (Al.mo ((((((((((((((((((((((le103.trans le114).trans le123).trans le135).trans le146).trans le161).trans le226).trans le308).trans le343).trans le633).trans le655).trans le669).trans le683).trans le697).trans le711).trans le724).trans le738).trans le753).trans le760).trans le770).trans le853).trans le864).trans le940) al49)
                    have hlen2 := Al.length (Al.mo ((((((((((((((((((((le123.trans le135).trans le146).trans le161).trans le226).trans le308).trans le343).trans le633).trans le655).trans le669).trans le683).trans le697).trans le711).trans le724).trans le738).trans le753).trans le760).trans le770).trans le853).trans le864).trans le940) (Al.mo le114 al105))
                    refine ⟨(by rw [Al.length al942]; have := sizeLine_big; omega), fun p944 hp945 => ?_⟩
                    obtain ⟨F946, g948, e949⟩ := al2 (o := (.lst acc936)) gb938.s (by intro _ _ z; cases z) hp945
                    generalize upd H935 p944 (.lst acc936) = H947 at g948 ⊢
                    have gb950 := gb938.tr g948
                    have le951 := g948.le
                    have cm952 := g948.fz cm939
                    rw [hlen, hlen2, set_all] at q7
                    have al953 := (Al.mo (le940.trans le951) (Al.mo le864 al855))
                    have al954 := (Al.mo le951 al942)
                    refine ⟨_, _, _, _, rfl, rfl, (Same.seq gb950.s (Le.lst (le940.trans le951) (SqL.of e862))), (Same.seq gb950.s (SqL.of e949)), (Nat.le_trans (show _ ≤ 100000 by rw [Al.length al953, Al.length al954]; walk_at "ol") (by decide)), fun p955 hp956 => ?_⟩
                    obtain ⟨F957, g959, e960⟩ := al2 (o := (.lst (acc849 ++ acc936))) gb950.s (by intro _ _ z; cases z) hp956
                    generalize upd H947 p955 (.lst (acc849 ++ acc936)) = H958 at g959 ⊢
                    have gb961 := gb950.tr g959
                    have le962 := g959.le
                    have cm963 := g959.fz cm952
                    have al964 := Al.mo le962 (Al.app al953 al954)
                    refine a_name ?_
                    try dsimp only
                    refine a_ret ?_
                    refine a_andV ?_
                    refine a_cb ?_
                    refine a_cons ?_
                    refine a_var rfl ?_
                    refine a_cons ?_
                    refine a_c ?_
                    refine a_nil ?_
                    refine ⟨_, _, _, true, _, rfl, (tx_tup (Same.tup gb961.s (Le.tup ((((le853.trans le864).trans le940).trans le951).trans le962) sq777))), rfl, rfl, ?_⟩
                    refine a_bl ?_
                    refine iteT ?_
                    refine a_andV ?_
                    refine a_op ?_
                    refine a_var rfl ?_
                    refine a_call ?_
                    refine a_cons ?_
                    refine a_var rfl ?_
                    refine a_nil ?_
                    refine ⟨F957, _, (ts854 ++ ts941), 315, rfl, gb961.s, ⟨_, _, rfl, (SqL.of e960), al964⟩, (by exact ⟨by rw [List.length_append]; omega, by decide, fun p h => (List.mem_append.mp h).elim (q6 p) (q8 p)⟩), ?_⟩
                    rintro v965 F966 H967  g969 hr970 hp971
                    have gb972 := gb961.tr g969
                    have le973 := g969.le
                    have cm974 := g969.fz cm963
                    obtain ⟨a975, rfl, sq976⟩ := hr970
                    refine ⟨F966, (bndR m333 r39 m338 ts104), (wgtZ ((ts854 ++ ts941))), gb972.s, ⟨_, rfl, (Le.tup (((((le853.trans le864).trans le940).trans le951).trans le962).trans le973) sq777)⟩, ⟨_, rfl, sq976⟩, ?_⟩
                    refine a_bl ?_
                    refine iteD (fun c977 => ?_) (fun c977 => ?_)
                    · refine a_notV ?_
                      refine a_cb ?_
                      refine a_cons ?_
                      refine a_op ?_
                      refine a_var rfl ?_
                      refine a_c ?_
                      refine a_ixT (Same.tup gb972.s (Le.tup (((((le853.trans le864).trans le940).trans le951).trans le962).trans le973) sq777)) (fr0 (bndR m333 r39 m338 ts104)) ?_
                      refine a_cons ?_
                      refine a_c ?_
                      refine a_nil ?_
                      refine ⟨_, _, _, false, _, rfl, tx_int, rfl, rfl, ?_⟩
                      refine a_bl ?_
                      rw [show (!false) = true from by rfl]
                      exact k _
                    · exfalso
                      exact c977 (by rw [wgtZ_app, q5, q7, ← Rat.sub_eq_add_neg]; rfl)
end
theorem walk {l : PySem.W.OpenLaw} {q : Program} {loose : List Str} {XP : (Str → Option Value) → Heap → Prop} {YP : World → Heap → Prop} {d : DefRec} {K : Params → PySem.W.Frag} (hn : l.most = some 63) (hdf : d.params.defaults = []) (hnm : d.name = "law")
    (hY : ∀ (w : World) (h : Heap), YP w h → (K w.params).In h)
    (F : ∀ (w : World) (mg : Str → Option Value) (h : Heap), (K w.params).In h → h.Ns mainGlobals mg → Nonempty (Tx (K w.params) mg)) :
    PySem.W.WalkO q loose XP YP l.row.toRowW d [] (fun f vs => PySem.call f vs) := by
  refine L2.walk_of (n := 63) (k := 9) (x := "_law_script") (CX := fun _ => CX0) (sp := fun w => sp_law (K w.params)) hn (by decide) hdf ⟨rfl, by decide, by decide⟩ hY ?_ (fun _ _ a ns hl _ hS => ⟨a, ns, rfl, hS, hl, fun _ => rfl⟩) fun _ _ _ _ _ z => z
  intro w mg fa h KX G hmg
  obtain ⟨T⟩ := F w mg h KX G
  rw [hnm] at hmg
  have e := hmg.symm.trans T.m_law
  cases e
  refine ⟨T.d_law, fun s v => ?_, fun base _ _ => ok_law T⟩
  obtain ⟨oc, od, kV, doc, pm, an, cdv, ct, osl, hfd, lk, hcd⟩ := T.F_law.ex
  rw [hfd]
  exact .of_eq rfl
end Sf
open PySem PySem.W PyProof.Rows
set_option maxRecDepth 100000 in
set_option maxHeartbeats 0 in
theorem PySem.Challenge.cw_springframe_k31_a_paper_bound_holds : PySem.Challenge.rw_springframe_k31_a_paper_bound.Holds := by
  w_on; o_law; k_head; (case hw => w_witness2)
  k_fill
  refine Sf.walk (l := PySem.Challenge.rw_springframe_k31_a_paper_bound) rfl rfl rfl (fun w h Y => PySem.W.kIn_of Y) ?F
  case F =>
    intro w mg h KX G
    refine' ⟨Sf.tx_mk KX G ?e0 ?l0 ?c0 ?k0 ?e1 ?l1 ?c1 ?k1 ?e2 ?l2 ?c2 ?k2 ?e3 ?l3 ?c3 ?k3 ?e4 ?l4 ?c4 ?k4 ?e5 ?l5 ?c5 ?k5 ?e6 ?l6 ?c6 ?k6 ?e7 ?l7 ?c7 ?k7 ?e8 ?l8 ?c8 ?k8 ?e9 ?l9 ?c9 ?k9 ?e10 ?l10 ?c10 ?k10 ?e11 ?l11 ?c11 ?k11 ?e12 ?l12 ?c12 ?k12 ?e13 ?l13 ?c13 ?k13 ?e14 ?l14 ?c14 ?k14 ?e15 ?l15 ?c15 ?k15 ?e16 ?l16 ?c16 ?k16 ?e17 ?l17 ?c17 ?k17 ?e18 ?l18 ?c18 ?k18 ?e19 ?l19 ?c19 ?k19 ?e20 ?l20 ?c20 ?k20 ?e21 ?l21 ?c21 ?k21 ?e22 ?l22 ?c22 ?k22 ?e23 ?l23 ?c23 ?k23 ?e24 ?l24 ?c24 ?k24 ?n0 ?o0 ?yi_MUST ?xn_NoPaper ?xq_NoPaper ?xm_NoPaper_NoPaper ?z0 ?z1 ?z2 ?z3 ?z4 ?z5 ?z6 ?z7 ?z8 ?z9⟩
    (case e0 => k_is)
    (case l0 => k_is)
    (case c0 => k_is)
    (case k0 => k_is)
    (case e1 => k_is)
    (case l1 => k_is)
    (case c1 => k_is)
    (case k1 => k_is)
    (case e2 => k_is)
    (case l2 => k_is)
    (case c2 => k_is)
    (case k2 => k_is)
    (case e3 => k_is)
    (case l3 => k_is)
    (case c3 => k_is)
    (case k3 => k_is)
    (case e4 => k_is)
    (case l4 => k_is)
    (case c4 => k_is)
    (case k4 => k_is)
    (case e5 => k_is)
    (case l5 => k_is)
    (case c5 => k_is)
    (case k5 => k_is)
    (case e6 => k_is)
    (case l6 => k_is)
    (case c6 => k_is)
    (case k6 => k_is)
    (case e7 => k_is)
    (case l7 => k_is)
    (case c7 => k_is)
    (case k7 => k_is)
    (case e8 => k_is)
    (case l8 => k_is)
    (case c8 => k_is)
    (case k8 => k_is)
    (case e9 => k_is)
    (case l9 => k_is)
    (case c9 => k_is)
    (case k9 => k_is)
    (case e10 => k_is)
    (case l10 => k_is)
    (case c10 => k_is)
    (case k10 => k_is)
    (case e11 => k_is)
    (case l11 => k_is)
    (case c11 => k_is)
    (case k11 => k_is)
    (case e12 => k_is)
    (case l12 => k_is)
    (case c12 => k_is)
    (case k12 => k_is)
    (case e13 => k_is)
    (case l13 => k_is)
    (case c13 => k_is)
    (case k13 => k_is)
    (case e14 => k_is)
    (case l14 => k_is)
    (case c14 => k_is)
    (case k14 => k_is)
    (case e15 => k_is)
    (case l15 => k_is)
    (case c15 => k_is)
    (case k15 => k_is)
    (case e16 => k_is)
    (case l16 => k_is)
    (case c16 => k_is)
    (case k16 => k_is)
    (case e17 => k_is)
    (case l17 => k_is)
    (case c17 => k_is)
    (case k17 => k_is)
    (case e18 => k_is)
    (case l18 => k_is)
    (case c18 => k_is)
    (case k18 => k_is)
    (case e19 => k_is)
    (case l19 => k_is)
    (case c19 => k_is)
    (case k19 => k_is)
    (case e20 => k_is)
    (case l20 => k_is)
    (case c20 => k_is)
    (case k20 => k_is)
    (case e21 => k_is)
    (case l21 => k_is)
    (case c21 => k_is)
    (case k21 => k_is)
    (case e22 => k_is)
    (case l22 => k_is)
    (case c22 => k_is)
    (case k22 => k_is)
    (case e23 => k_is)
    (case l23 => k_is)
    (case c23 => k_is)
    (case k23 => k_is)
    (case e24 => k_is)
    (case l24 => k_is)
    (case c24 => k_is)
    (case k24 => k_is)
    (case n0 => k_is)
    (case o0 => k_is)
    (case yi_MUST => k_is)
    (case xn_NoPaper => k_is)
    (case xq_NoPaper => k_exc)
    (case xm_NoPaper_NoPaper => kts_exm)
    (case z0 => k_is)
    (case z1 => k_is)
    (case z2 => k_is)
    (case z3 => k_is)
    (case z4 => k_is)
    (case z5 => k_is)
    (case z6 => k_is)
    (case z7 => k_is)
    (case z8 => k_is)
    (case z9 => k_is)
#print axioms PySem.Challenge.cw_springframe_k31_a_paper_bound_holds

