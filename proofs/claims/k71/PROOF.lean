import PyProof.Rows.All
import Wide.All
import OpenK.AllK
import Wide.FinOn
import Lean
import PyProof.EqAt
import PyProof.EqKinds
import PyProof.TupleCall
import PySem.Challenge.RW_springframe_k71_rows_at_a_width
set_option Elab.async false
set_option linter.all false
set_option maxRecDepth 100000
/-! THE HAND LAYER, for ints, bools, texts, own classes, LISTS and tuples (index, slices, in, append, pop ..), calls, loops. Paste it whole ahead of your own text; what your proof does not reach may be deleted. -/
namespace L2
open PySem PySem.Spec PyProof.Rows

/-- a key: an int or a str -/
abbrev Key := Sum Int Str
def keyIs : Key → Value → Bool
  | .inl k, v => Value.isInt k v
  | .inr x, v => Value.isStrOf x v
def keyH (w : World) : Key → Int
  | .inl k => hashInt k
  | .inr x => hashStr w x
theorem keyIs_shape : ∀ {k : Key} {v : Value}, keyIs k v = true → (∃ i t, k = Sum.inl i ∧ v = Value.int i t) ∨ (∃ x t, k = Sum.inr x ∧ v = Value.str x t)
  | .inl i, v, h => by
    obtain ⟨t, e⟩ := Value.isInt_shape (k := i) (v := v) h
    exact .inl ⟨i, t, rfl, e⟩
  | .inr x, v, h => by
    obtain ⟨t, e⟩ := Value.isStrOf_shape (x := x) (v := v) h
    exact .inr ⟨x, t, rfl, e⟩
theorem keyIs_int (i : Int) (t : Tok) : keyIs (.inl i) (.int i t) = true := by simp [keyIs, Value.isInt]
theorem keyIs_str (x : Str) (t : Tok) : keyIs (.inr x) (.str x t) = true := by simp [keyIs, Value.isStrOf]
theorem key_ll (a b : Int) : decide ((Sum.inl a : Key) = Sum.inl b) = (a == b) := by
  by_cases e : a = b
  · subst e; simp
  · have h : ¬ (Sum.inl a : Key) = Sum.inl b := fun q => e (Sum.inl.inj q)
    rw [decide_eq_false h]
    exact (beq_eq_false_iff_ne.mpr e).symm
theorem key_rr (a b : Str) : decide ((Sum.inr a : Key) = Sum.inr b) = decide (a = b) := by
  by_cases e : a = b
  · subst e; simp
  · have h : ¬ (Sum.inr a : Key) = Sum.inr b := fun q => e (Sum.inr.inj q)
    rw [decide_eq_false h, decide_eq_false e]
theorem key_lr (a : Int) (b : Str) : decide ((Sum.inl a : Key) = Sum.inr b) = false := decide_eq_false (fun q => nomatch q)
theorem key_rl (a : Str) (b : Int) : decide ((Sum.inr a : Key) = Sum.inl b) = false := decide_eq_false (fun q => nomatch q)

def mixKind (prog : Program) (w : World) : PySem.KeyKind prog w Key where
  is := keyIs
  hash := keyH w
  inj := fun v a b ha hb => by
    rcases keyIs_shape ha with ⟨i, t, rfl, rfl⟩ | ⟨x, t, rfl, rfl⟩
    · rcases keyIs_shape hb with ⟨j, u, rfl, e⟩ | ⟨y, u, rfl, e⟩
      · injection e with e1 _; rw [e1]
      · exact nomatch e
    · rcases keyIs_shape hb with ⟨j, u, rfl, e⟩ | ⟨y, u, rfl, e⟩
      · exact nomatch e
      · injection e with e1 _; rw [e1]
  byValue := fun k v h => by
    rcases keyIs_shape h with ⟨i, t, rfl, rfl⟩ | ⟨x, t, rfl, rfl⟩ <;> rfl
  pyHash := fun hv h => by
    rcases keyIs_shape hv with ⟨i, t, rfl, rfl⟩ | ⟨x, t, rfl, rfl⟩
    · exact wpAny_pyHash_int h
    · exact wpAny_pyHash_str h
  eqBool := fun hu hv h => by
    rcases keyIs_shape hu with ⟨i, t, rfl, rfl⟩ | ⟨x, t, rfl, rfl⟩
    · rcases keyIs_shape hv with ⟨j, u, rfl, rfl⟩ | ⟨y, u, rfl, rfl⟩
      · rw [key_ll] at h; exact wpAny_eqBool_int h
      · rw [key_lr] at h; exact SeqAt.EqAt.int_str i t y u _ _ _ _ h
    · rcases keyIs_shape hv with ⟨j, u, rfl, rfl⟩ | ⟨y, u, rfl, rfl⟩
      · rw [key_rl] at h; exact SeqAt.EqAt.str_int x t j u _ _ _ _ h
      · rw [key_rr] at h; exact wpAny_eqBool_str h
  «strs» := fun k x t v h => by
    rcases keyIs_shape h with ⟨i, u, rfl, e⟩ | ⟨y, u, rfl, e⟩
    · exact nomatch e
    · injection e with e1 _
      subst e1
      cases v <;> rfl

theorem mixKind_is (prog : Program) (w : World) (k : Key) (v : Value) : (mixKind prog w).is k v = keyIs k v := rfl
theorem mixKind_int (prog : Program) (w : World) (i : Int) (t : Tok) : (mixKind prog w).is (.inl i) (.int i t) = true := keyIs_int i t
theorem mixKind_str (prog : Program) (w : World) (x : Str) (t : Tok) : (mixKind prog w).is (.inr x) (.str x t) = true := keyIs_str x t
end L2

namespace L2
open PySem PySem.Spec PyProof.Rows

/-- a value, without the heap -/
inductive V where
  | non | bl (b : Bool) | int (i : Int) | str (x : Str) | byt (b : Array UInt8) | flt (b : UInt64) | ref (a : Addr) | ty (n : String)
  deriving DecidableEq

def RelV : V → Value → Prop
  | .non, u => u = Value.none
  | .bl b, u => u = Value.bool b
  | .int i, u => ∃ t, u = Value.int i t
  | .str x, u => ∃ t, u = Value.str x t
  | .byt b, u => ∃ t, u = Value.bytes b t
  | .flt b, u => ∃ t, u = Value.float b t
  | .ref a, u => u = Value.ref a
  | .ty n, u => u = Value.type n

abbrev Vals : List V → List Value → Prop := Paired RelV
theorem Vals.length {xs : List V} {us : List Value} (r : Vals xs us) : xs.length = us.length := Paired.length r
theorem Vals.get : ∀ {xs : List V} {us : List Value} {i : Nat} {x : V}, Vals xs us → xs[i]? = some x → ∃ u, us[i]? = some u ∧ RelV x u
  | _, _, _, _, .nil, e => by simp at e
  | _, _, 0, _, .cons r _, e => by simp at e; subst e; exact ⟨_, rfl, r⟩
  | _, _, i + 1, x, .cons _ t, e => by
    obtain ⟨u, h1, h2⟩ := Vals.get (i := i) (x := x) t (by simpa using e)
    exact ⟨u, by simpa using h1, h2⟩
theorem Vals.set {x : V} {u : Value} (r : RelV x u) : ∀ {xs : List V} {us : List Value} (i : Nat), Vals xs us → Vals (xs.set i x) (us.set i u)
  | _, _, _, .nil => .nil
  | _, _, 0, .cons _ t => .cons r t
  | _, _, i + 1, .cons q t => .cons q (Vals.set r i t)
theorem Vals.append : ∀ {xs ys : List V} {us ws : List Value}, Vals xs us → Vals ys ws → Vals (xs ++ ys) (us ++ ws)
  | _, _, _, _, .nil, s => s
  | _, _, _, _, .cons r t, s => .cons r (Vals.append t s)
theorem Vals.take : ∀ {xs : List V} {us : List Value} (n : Nat), Vals xs us → Vals (xs.take n) (us.take n)
  | _, _, 0, _ => .nil
  | _, _, _ + 1, .nil => .nil
  | _, _, n + 1, .cons r t => .cons r (Vals.take n t)
theorem Vals.drop : ∀ {xs : List V} {us : List Value} (n : Nat), Vals xs us → Vals (xs.drop n) (us.drop n)
  | _, _, 0, r => r
  | _, _, _ + 1, .nil => .nil
  | _, _, n + 1, .cons _ t => Vals.drop n t
theorem Vals.none_of : ∀ {xs : List V} {us : List Value} {i : Nat}, Vals xs us → xs[i]? = none → us[i]? = none := fun {xs us i} r e => by
  have h1 := r.length
  have h2 : xs.length ≤ i := List.getElem?_eq_none_iff.mp e
  exact List.getElem?_eq_none_iff.mpr (by omega)

def RelO : Option V → Option Value → Prop
  | some v, some u => RelV v u
  | none, none => True
  | _, _ => False
def KV {κ : Type} : List (κ × V) → List (κ × Value) → Prop := Paired fun (p : κ × V) (q : κ × Value) => p.1 = q.1 ∧ RelV p.2 q.2

/-- a key of a dict (00_mix): an int or a text -/
def kV : Key → V
  | .inl i => .int i
  | .inr x => .str x

/-- what stands at a tracked address -/
inductive HO where
  /-- a list -/
  | lst (xs : List V)
  /-- a tuple (never changes) -/
  | tup (xs : List V)
  /-- a dict whose keys are ints and texts; one whose keys are tuples of ints and texts (the empty one is both) -/
  | dK (kvs : List (Key × V)) | dT (kvs : List (List Key × V))
  /-- a set of ints: its members, its size -/
  | set (S : Int → Bool) (n : Nat)
  /-- an instance of the class at C, its dict at dx, its attributes -/
  | ins (C dx : Addr) (fs : List (Str × V))
  /-- the dict of the instance at x -/
  | own (x : Addr)
  /-- the dict of an exception -/
  | xd (fs : List (Str × V))
  /-- a bound method, f of x -/
  | met (f x : Addr)
  /-- a range object lo, lo + 1, .. below hi -/
  | rng (lo hi : Int)
  /-- a thing that is known to the object (the script; a dict while a loop walks it): read, never written while it is so -/
  | frz (o : Obj) (u : HO)
  /-- a code object's table -/
  | tbl (ps : Array Value)
  /-- any other thing, by what is true of its one object (a def of one's own: SetO a S n := HO.ext fun h => ..) -/
  | ext (φ : Heap → Prop)

abbrev Hp := Addr → Option HO
def upd (H : Hp) (a : Addr) (o : HO) : Hp := fun b => if b = a then some o else H b
theorem upd_same {H : Hp} {a : Addr} {o : HO} : upd H a o a = some o := by unfold upd; rw [if_pos rfl]
theorem upd_ne {H : Hp} {a b : Addr} {o : HO} (h : b ≠ a) : upd H a o b = H b := by unfold upd; rw [if_neg h]
theorem upd_upd {H : Hp} {a : Addr} {o u : HO} : upd (upd H a o) a u = upd H a u := by
  funext b; unfold upd; split <;> rfl
/-- two objects of different content stand apart -/
theorem ne_of {H : Hp} {a b : Addr} {o u : HO} (h : H a = some o) (h' : H b = some u) (d : o ≠ u) : a ≠ b := by
  intro e; subst e; rw [h] at h'; exact d (Option.some.inj h')
theorem ne_of_none {H : Hp} {a b : Addr} {o : HO} (h : H a = some o) (h' : H b = none) : a ≠ b := by
  intro e; subst e; rw [h] at h'; cases h'

section
variable (P : Program) (w : World)
def ObjOk (H : Hp) (h : Heap) (a : Addr) : HO → Prop
  | .lst xs => xs.length ≤ sizeLine ∧ ∃ (its : List Value) (n : Nat), Vals xs its ∧ h.get? a = some { cls := .type "list", data := .seq its.toArray n }
  | .tup xs => xs.length ≤ sizeLine ∧ ∃ its : List Value, Vals xs its ∧ IsTup h a its.toArray
  | .dK kvs => kvs.length ≤ sizeLine ∧ (a == sysModules) = false ∧ ∃ vs, KV kvs vs ∧ h.DictOf (mixKind P w) a vs
  | .dT kvs => kvs.length ≤ sizeLine ∧ (a == sysModules) = false ∧ ∃ xs : List (List Key × Addr × Value),
      Paired (fun (p : List Key × V) (q : List Key × Addr × Value) => p.1 = q.1 ∧ H q.2.1 = some (.tup (p.1.map kV)) ∧ RelV p.2 q.2.2) kvs xs ∧
      ∃ o es ep, h.get? a = some o ∧ o.ExactDict ∧ o.data = .dict es ep ∧ es.toList = xs.map (entryOfKey (tupleKind (mixKind P w))) ∧ (xs.map (·.1)).Nodup
  | .set S n => h.SetOf (intKind P w) a S n
  | .ins C dx fs => H dx = some (.own a) ∧ fs.length ≤ 1000 ∧ dx ≠ a ∧ h.get? a = some (PySem.W.instObj C dx) ∧
      ∃ mA, h.Ns1 dx mA ∧ (∀ f, RelO (fs.lookup f) (mA f)) ∧ PySem.Within mA (fs.map (·.1))
  | .own _ => ∃ o, h.get? a = some o
  | .xd fs => ∃ mA, h.Ns1 a mA ∧ ∀ f, RelO (fs.lookup f) (mA f)
  | .rng lo hi => ∃ t u v, h.get? a = some { cls := .type "range", data := .fields #[.int lo t, .int hi u, .int 1 v] }
  | .frz o u => h.get? a = some o ∧ ObjOk H h a u
  | .tbl ps => h.get? a = some { cls := .none, data := .fields ps }
  | .met f x => h.get? a = some (PySem.W.methodObj (.ref f) (.ref x))
  | .ext φ => φ h ∧ (∃ o, h.get? a = some o) ∧ ∀ h1 h2 : Heap, φ h1 → (∀ o, h1.get? a = some o → h2.get? a = some o) → φ h2
/-- the abstract heap is held -/
def HOk (H : Hp) (h : Heap) : Prop := ∀ a o, H a = some o → ObjOk P w H h a o
end

section
variable {P : Program} {w : World} {H H' : Hp} {h h' : Heap} {a : Addr} {o : HO}
theorem ObjOk.lt (x : ObjOk P w H h a o) : a < h.objs.size := by
  cases o with
  | lst xs => obtain ⟨_, _, _, _, e⟩ := x; exact Heap.lt_size e
  | tup xs => obtain ⟨_, _, _, p⟩ := x; exact p.lt
  | dK kvs => obtain ⟨_, _, _, _, o, _, _, e, _⟩ := x; exact Heap.lt_size e
  | dT kvs => obtain ⟨_, _, _, _, o, _, _, e, _⟩ := x; exact Heap.lt_size e
  | set S n => obtain ⟨o, _, _, _, e, _⟩ := x; exact Heap.lt_size e
  | ins C dx fs => obtain ⟨_, _, _, e, _⟩ := x; exact Heap.lt_size e
  | own y => obtain ⟨_, e⟩ := x; exact Heap.lt_size e
  | xd fs => obtain ⟨_, ⟨_, _, _, e, _⟩, _⟩ := x; exact Heap.lt_size e
  | rng lo hi => obtain ⟨_, _, _, e⟩ := x; exact Heap.lt_size e
  | frz ob u => obtain ⟨e, _⟩ := x; exact Heap.lt_size e
  | tbl ps => exact Heap.lt_size (show h.get? a = some _ from x)
  | met f y => exact Heap.lt_size (show h.get? a = some _ from x)
  | ext φ => obtain ⟨_, ⟨_, e⟩, _⟩ := x; exact Heap.lt_size e
theorem Paired.mapP {α β : Type} {F G : α → β → Prop} : ∀ {l₁ : List α} {l₂ : List β}, Paired F l₁ l₂ → (∀ a b, F a b → G a b) → Paired G l₁ l₂
  | _, _, .nil, _ => .nil
  | _, _, .cons r t, f => .cons (f _ _ r) (Paired.mapP t f)
theorem Paired.imp' {α β : Type} {F G : α → β → Prop} (f : ∀ a b, F a b → G a b) {l₁ : List α} {l₂ : List β} (r : Paired F l₁ l₂) : Paired G l₁ l₂ := Paired.mapP r f
/-- what an object's description leans on: its own object, its own dict, the tuples -/
theorem ObjOk.stay (x : ObjOk P w H h a o) (k : ∀ b u, (b = a ∨ H b = some (.own a)) → h.get? b = some u → h'.get? b = some u)
    (ho : ∀ b, H b = some (.own a) → H' b = some (.own a)) (ht : ∀ b xs, H b = some (.tup xs) → H' b = some (.tup xs)) : ObjOk P w H' h' a o := by
  induction o with
  | lst xs => obtain ⟨z, its, n, r, e⟩ := x; exact ⟨z, its, n, r, k _ _ (.inl rfl) e⟩
  | tup xs => obtain ⟨z, its, r, ob, e, c⟩ := x; exact ⟨z, its, r, ob, k _ _ (.inl rfl) e, c⟩
  | dK kvs => obtain ⟨z, y, vs, r, ob, es, ep, e, c⟩ := x; exact ⟨z, y, vs, r, ob, es, ep, k _ _ (.inl rfl) e, c⟩
  | dT kvs =>
    obtain ⟨z, y, xs, r, ob, es, ep, e, c⟩ := x
    exact ⟨z, y, xs, Paired.mapP r fun p q z => ⟨z.1, ht _ _ z.2.1, z.2.2⟩, ob, es, ep, k _ _ (.inl rfl) e, c⟩
  | set S n => obtain ⟨ob, es, ep, t, e, c⟩ := x; exact ⟨ob, es, ep, t, k _ _ (.inl rfl) e, c⟩
  | ins C dx fs =>
    obtain ⟨d, z, ne, e, mA, ⟨od, es, ep, e2, c⟩, r⟩ := x
    exact ⟨ho _ d, z, ne, k _ _ (.inl rfl) e, mA, ⟨od, es, ep, k _ _ (.inr d) e2, c⟩, r⟩
  | own y => obtain ⟨ob, e⟩ := x; exact ⟨ob, k _ _ (.inl rfl) e⟩
  | xd fs => obtain ⟨mA, ⟨od, es, ep, e, c⟩, r⟩ := x; exact ⟨mA, ⟨od, es, ep, k _ _ (.inl rfl) e, c⟩, r⟩
  | rng lo hi => obtain ⟨t, u, v, e⟩ := x; exact ⟨t, u, v, k _ _ (.inl rfl) e⟩
  | frz ob u ih => obtain ⟨e, q⟩ := x; exact ⟨k _ _ (.inl rfl) e, ih q⟩
  | tbl ps =>
    have e : h.get? a = some { cls := .none, data := .fields ps } := x
    show h'.get? a = some { cls := .none, data := .fields ps }
    exact k a _ (.inl rfl) e
  | met f y =>
    have e : h.get? a = some (PySem.W.methodObj (.ref f) (.ref y)) := x
    show h'.get? a = some (PySem.W.methodObj (.ref f) (.ref y))
    exact k a _ (.inl rfl) e
  | ext φ => obtain ⟨p, ⟨o, e⟩, st⟩ := x; exact ⟨st _ _ p fun o q => k _ _ (.inl rfl) q, ⟨o, k _ _ (.inl rfl) e⟩, st⟩
theorem HOk.lt (x : HOk P w H h) (e : H a = some o) : a < h.objs.size := (x a o e).lt
theorem HOk.fresh (x : HOk P w H h) (e : h.objs.size ≤ a) : H a = none := by
  cases q : H a with
  | none => rfl
  | some u => exact absurd (Nat.lt_of_lt_of_le (x.lt q) e) (Nat.lt_irrefl _)
/-- every object of the heap is kept -/
theorem HOk.kept (x : HOk P w H h) (k : ∀ b u, h.get? b = some u → h'.get? b = some u) : HOk P w H h' := fun a o e =>
  (x a o e).stay (fun b u _ q => k b u q) (fun _ q => q) fun _ _ q => q
/-- a new object is laid and tracked -/
theorem HOk.laid (x : HOk P w H h) (k : ∀ b u, h.get? b = some u → h'.get? b = some u) (hp : h.objs.size ≤ a) (new : ObjOk P w (upd H a o) h' a o) : HOk P w (upd H a o) h' := fun b u e => by
  have hn := x.fresh hp
  by_cases hb : b = a
  · subst hb; rw [upd_same] at e; cases e; exact new
  · rw [upd_ne hb] at e
    exact (x b u e).stay (fun c v _ q => k c v q) (fun c q => by rw [upd_ne (ne_of_none q hn)]; exact q) fun c xs q => by rw [upd_ne (ne_of_none q hn)]; exact q
end

/-- what may be read as u: it is u, or a known u -/
def Rd (H : Hp) (a : Addr) (u : HO) : Prop := H a = some u ∨ ∃ o, H a = some (.frz o u)
theorem Rd.of {H : Hp} {a : Addr} {u : HO} (h : H a = some u) : Rd H a u := .inl h
theorem Rd.ok {P : Program} {w : World} {H : Hp} {h : Heap} {a : Addr} {u : HO} (r : Rd H a u) (x : HOk P w H h) : ObjOk P w H h a u := by
  rcases r with r | ⟨o, r⟩
  · exact x a u r
  · obtain ⟨_, q⟩ := x a _ r
    exact q
/-- what may be written -/
def Mut : Option HO → Prop
  | some (.lst _) => True
  | some (.dK _) => True
  | some (.dT _) => True
  | some (.set _ _) => True
  | some (.ins _ _ _) => True
  | some (.ext _) => True
  | _ => False
section
variable {P : Program} {w : World} {H : Hp} {h h' : Heap} {x e : Addr} {o' : HO}
/-- the object at e is changed: x itself, or the dict of the instance x -/
theorem HOk.write (ok : HOk P w H h) (mu : Mut (H x)) (he : e = x ∨ H e = some (.own x)) (k : ∀ b u, b ≠ e → h.get? b = some u → h'.get? b = some u) (heo : ∃ u, h'.get? e = some u)
    (new : ObjOk P w (upd H x o') h' x o') : HOk P w (upd H x o') h' := fun b u q => by
  have nown : ∀ c y, H c = some (.own y) → c ≠ x := fun c y r z => by subst z; rw [r] at mu; exact mu
  have ntup : ∀ c xs, H c = some (.tup xs) → c ≠ x := fun c xs r z => by subst z; rw [r] at mu; exact mu
  by_cases hb : b = x
  · subst hb; rw [upd_same] at q; cases q; exact new
  · rw [upd_ne hb] at q
    by_cases hbe : b = e
    · have q' : H b = some (.own x) := by
        rcases he with z | z
        · exact absurd (hbe.trans z) hb
        · rw [hbe]; exact z
      rw [q] at q'; cases q'
      obtain ⟨v, hv⟩ := heo
      exact ⟨v, by rw [hbe]; exact hv⟩
    · refine (ok b u q).stay (fun c v hc r => k c v ?_ r) (fun c r => by rw [upd_ne (nown c b r)]; exact r) fun c xs r => by rw [upd_ne (ntup c xs r)]; exact r
      rcases hc with rfl | hc
      · exact hbe
      · rintro rfl
        rcases he with z | z
        · exact nown c b hc z
        · rw [hc] at z; cases z; exact hb rfl
end

/-! ### kept unless tracked; of the frames at fs (the callers') the slots may change (an exception that passes writes there); of the records at ex (iterators) nothing is said -/
structure Un (fs ex : List Addr) (H H' : Hp) (h h' : Heap) : Prop where
  keep : ∀ b o, h.get? b = some o → H b = none → b ∉ fs → b ∉ ex → h'.get? b = some o
  slot : ∀ b o, h.get? b = some o → H b = none → b ∈ fs → b ∉ ex → ∃ sl, h'.get? b = some { o with slots := sl }
  free : ∀ b o, h.get? b = some o → H b = none → b ∉ ex → H' b = none
  there : ∀ b o, h.get? b = some o → b ∉ ex → ∃ o', h'.get? b = some o'
  tups : ∀ b xs, H b = some (.tup xs) → H' b = some (.tup xs)
  frzs : ∀ b o u, H b = some (.frz o u) → H' b = some (.frz o u)
  tbls : ∀ b ps, H b = some (.tbl ps) → ∃ more, H' b = some (.tbl (ps ++ more))
section
variable {fs fs' ex ex' : List Addr} {H H1 H2 : Hp} {h h1 h2 h' : Heap} {a x e : Addr} {o : HO}
theorem Un.any (u : Un fs ex H H1 h h1) {b : Addr} {ob : Obj} (q : h.get? b = some ob) (n : H b = none) (hx : b ∉ ex) : ∃ sl, h1.get? b = some { ob with slots := sl } := by
  by_cases hb : b ∈ fs
  · exact u.slot b ob q n hb hx
  · exact ⟨ob.slots, u.keep b ob q n hb hx⟩
theorem Un.trans (a : Un fs ex H H1 h h1) (b : Un fs ex H1 H2 h1 h2) : Un fs ex H H2 h h2 where
  keep := fun c ob q n hc hx => b.keep c ob (a.keep c ob q n hc hx) (a.free c ob q n hx) hc hx
  slot := fun c ob q n hc hx => by
    obtain ⟨sl, e1⟩ := a.slot c ob q n hc hx
    obtain ⟨sl', e2⟩ := b.slot c _ e1 (a.free c ob q n hx) hc hx
    exact ⟨sl', e2⟩
  free := fun c ob q n hx => by
    obtain ⟨o', e1⟩ := a.there c ob q hx
    exact b.free c o' e1 (a.free c ob q n hx) hx
  there := fun c ob q hx => by
    obtain ⟨o', e1⟩ := a.there c ob q hx
    exact b.there c o' e1 hx
  tups := fun c xs q => b.tups c xs (a.tups c xs q)
  frzs := fun c ob xs q => b.frzs c ob xs (a.frzs c ob xs q)
  tbls := fun c ps q => by
    obtain ⟨m1, e1⟩ := a.tbls c ps q
    obtain ⟨m2, e2⟩ := b.tbls c _ e1
    exact ⟨m1 ++ m2, by rw [e2, Array.append_assoc]⟩
theorem Un.kept (k : ∀ b u, h.get? b = some u → h'.get? b = some u) : Un fs ex H H h h' :=
  ⟨fun b ob q _ _ _ => k b ob q, fun b ob q _ _ _ => ⟨ob.slots, k b ob q⟩, fun _ _ _ n _ => n, fun b ob q _ => ⟨ob, k b ob q⟩, fun _ _ q => q, fun _ _ _ q => q, fun _ ps q => ⟨#[], by rw [q]; simp⟩⟩
theorem Un.refl : Un fs ex H H h h := Un.kept fun _ _ q => q
theorem Un.laid (k : ∀ b u, h.get? b = some u → h'.get? b = some u) (hp : h.objs.size ≤ a) (hn : H a = none) : Un fs ex H (upd H a o) h h' where
  keep := fun b u q _ _ _ => k b u q
  slot := fun b u q _ _ _ => ⟨u.slots, k b u q⟩
  free := fun b u q n _ => by rw [upd_ne (Nat.ne_of_lt (Nat.lt_of_lt_of_le (Heap.lt_size q) hp))]; exact n
  there := fun b u q _ => ⟨u, k b u q⟩
  tups := fun b xs q => by rw [upd_ne (ne_of_none q hn)]; exact q
  frzs := fun b u xs q => by rw [upd_ne (ne_of_none q hn)]; exact q
  tbls := fun b ps q => ⟨#[], by rw [upd_ne (ne_of_none q hn), q]; simp⟩
theorem Un.write (mu : Mut (H x)) (he : e = x ∨ H e = some (.own x)) (k : ∀ b u, b ≠ e → h.get? b = some u → h'.get? b = some u) (heo : ∃ u, h'.get? e = some u) : Un fs ex H (upd H x o) h h' := by
  have hx : ∀ b, H b = none → b ≠ x := fun b n z => by subst z; rw [n] at mu; exact mu
  have hb : ∀ b, H b = none → b ≠ e := fun b n z => by
    subst z
    rcases he with r | r
    · exact hx b n r
    · rw [n] at r; cases r
  have hm : ∀ b u, H b = some u → ¬ Mut (some u) → b ≠ x := fun b u q nm z => by subst z; rw [q] at mu; exact nm mu
  refine ⟨fun b u q n _ _ => k b u (hb b n) q, fun b u q n _ _ => ⟨u.slots, k b u (hb b n) q⟩, fun b u q n _ => by rw [upd_ne (hx b n)]; exact n, fun b u q _ => ?_,
    fun b xs q => by rw [upd_ne (hm b _ q fun z => z)]; exact q, fun b u xs q => by rw [upd_ne (hm b _ q fun z => z)]; exact q, fun b ps q => ⟨#[], by rw [upd_ne (hm b _ q fun z => z), q]; simp⟩⟩
  by_cases hbe : b = e
  · subst hbe; exact heo
  · exact ⟨u, k b u hbe q⟩
theorem Un.mono (u : Un fs ex H H1 h h1) (hs : ∀ b ∈ fs, b ∈ fs') (hx : ∀ b ∈ ex, b ∈ ex') : Un fs' ex' H H1 h h1 :=
  ⟨fun b ob q n hb he => u.keep b ob q n (fun z => hb (hs b z)) fun z => he (hx b z), fun _ _ q n _ he => u.any q n fun z => he (hx _ z), fun b ob q n he => u.free b ob q n fun z => he (hx b z), fun b ob q he => u.there b ob q fun z => he (hx b z), u.tups, u.frzs, u.tbls⟩
end

/-! ### the heap without what is tracked -/
def trk (h : Heap) (H : Hp) : List Addr := (List.range h.objs.size).filter fun a => (H a).isSome
def hidT (h : Heap) (H : Hp) : Heap := PySem.W.hideAll h (trk h H)
theorem hidT_size (h : Heap) (H : Hp) : (hidT h H).objs.size = h.objs.size := PySem.W.hideAll_size _ _
theorem hidT_get {h : Heap} {H : Hp} {b : Addr} {o : Obj} (e : h.get? b = some o) (n : H b = none) : (hidT h H).get? b = some o :=
  PySem.W.hideAll_get _ e fun hm => by
    have q : (H b).isSome = true := (List.mem_filter.mp hm).2
    rw [n] at q; simp at q
theorem of_hidT {h : Heap} {H : Hp} {b : Addr} {o : Obj} (e : (hidT h H).get? b = some o) : h.get? b = some o ∧ H b = none := by
  have e' : h.get? b = some o := PySem.W.of_hideAll (trk h H) e
  refine ⟨e', ?_⟩
  cases q : H b with
  | none => rfl
  | some x =>
    have hm : b ∈ trk h H := List.mem_filter.mpr ⟨List.mem_range.mpr (Heap.lt_size e'), by simp [q]⟩
    have z : (hidT h H).get? b = none := PySem.W.hideAll_none (trk h H) hm
    rw [z] at e; cases e

/-! ### OpenK's ledger, filled with every new object but one -/
def allNews (g h : Heap) (L : Addr) : List (Addr × Obj) := (List.range h.objs.size).filterMap fun a => if a = L ∨ (g.get? a).isSome = true then none else (h.get? a).map fun o => (a, o)
theorem mem_allNews {g h : Heap} {L a : Addr} {o : Obj} (h1 : a ≠ L) (h2 : g.get? a = none) (h3 : h.get? a = some o) : (a, o) ∈ allNews g h L :=
  List.mem_filterMap.mpr ⟨a, List.mem_range.mpr (Heap.lt_size h3), by simp [h1, h2, h3]⟩
theorem of_mem_allNews {g h : Heap} {L : Addr} {p : Addr × Obj} (hp : p ∈ allNews g h L) : p.1 ≠ L ∧ g.get? p.1 = none ∧ h.get? p.1 = some p.2 := by
  obtain ⟨b, _, e⟩ := List.mem_filterMap.mp hp
  split at e
  · cases e
  · rename_i hn
    cases q : h.get? b with
    | none => rw [q] at e; simp at e
    | some u =>
      rw [q] at e
      simp only [Option.map_some, Option.some.injEq] at e
      subst e
      refine ⟨fun z => hn (.inl z), ?_, q⟩
      show g.get? b = none
      cases r : g.get? b with
      | none => rfl
      | some v => exact (hn (.inr (by simp [r]))).elim
def rest (g h : Heap) (L d : Addr) : List (Addr × Obj) := (allNews g h L).filter fun p => decide (p.1 ≠ d)
theorem rest_ne {g h : Heap} {L d : Addr} : ∀ p ∈ rest g h L d, p.1 ≠ d := fun p hp => of_decide_eq_true (List.mem_filter.mp hp).2
theorem mem_rest {g h : Heap} {L d a : Addr} {o : Obj} (h1 : a ≠ L) (h2 : g.get? a = none) (h3 : h.get? a = some o) (h4 : a ≠ d) : (a, o) ∈ rest g h L d :=
  List.mem_filter.mpr ⟨mem_allNews h1 h2 h3, decide_eq_true h4⟩
theorem news_all {g h : Heap} {L : Addr} : News g L h (allNews g h L) := fun p hp => let ⟨a, b, c⟩ := of_mem_allNews hp; ⟨c, a, b⟩
theorem news_at {g h : Heap} {L d : Addr} {o : Obj} (h1 : d ≠ L) (h2 : g.get? d = none) (h3 : h.get? d = some o) : News g L h ((d, o) :: rest g h L d) := fun p hp => by
  rcases List.mem_cons.mp hp with rfl | hp
  · exact ⟨h3, h1, h2⟩
  · exact news_all p (List.mem_filter.mp hp).1
/-- behind a rule that changed d alone: all else but the frame is kept -/
theorem kept_of_news {g h h' : Heap} {L d : Addr} {m : Str → Option Value} (k : ∀ b o, g.get? b = some o → h.get? b = some o) (F : Fr g L h' m) (N : News g L h' (rest g h L d)) :
    ∀ b o, b ≠ L → b ≠ d → h.get? b = some o → h'.get? b = some o := fun b o h1 h2 e => by
  cases q : g.get? b with
  | some u =>
    have := k b u q
    rw [e] at this; cases this
    exact F.keep b _ q
  | none => exact (N (b, o) (mem_rest h1 q e h2)).1
end L2

namespace L2
open PySem PySem.Spec PyProof.Rows

/-- the module's facts, over the base: the heap at the law's entry without what is tracked there -/
structure Mod (K : PySem.W.Frag) (mg : Str → Option Value) (base : Heap) : Prop where
  kin : K.In base
  glob : base.Ns mainGlobals mg
  blt : ∃ mb, base.Ns builtinsNs mb ∧ ∀ x : Str, x ≠ "__name__" → mb x = bootBuiltins x
  nolimit : base.NoLimit

/-- the context: a def's body (or a comprehension's block) running. base: fixed through the whole law; s₀, H₀: the entry; outer: the frames whose slots others may change (a def's callers); stack: all frames that run;
   ex: iterators that were made ahead of the entry and are walked here (a comprehension's); fn: the names whose cells were made at the entry (a def: all; a comprehension's block: its own); calm: not within an except suite; pn: pins that every state bears; xe: what is wanted of an exception that leaves the code -/
structure Cx where
  prog : Program
  w : World
  K : PySem.W.Frag
  mg : Str → Option Value
  base : Heap
  A : Around
  N : List Str
  s₀ : Shared
  H₀ : Hp
  env : Env
  outer : List Env
  stack : List Env
  ex : List Addr
  fn : Str → Bool
  calm : Bool
  pn : List (Addr × Obj)
  xe : Value → Shared → Prop
/-- the callers' frames -/
def frs (l : List Env) : List Addr := l.filterMap (·.frame)
abbrev Cx.fs (X : Cx) : List Addr := frs X.outer

def Vis (sc : Scope) (x : Str) : Prop := sc.names.lookup x = some .local ∨ sc.names.lookup x = some .cell ∨ sc.names.lookup x = some .free
def Loc (sc : Scope) (x : Str) : Prop := sc.names.lookup x = some .local ∨ sc.names.lookup x = some .cell
def Look (env : Env) (h : Heap) (m : Str → Option Value) (x : Str) (u : Value) : Prop :=
  (env.kindOf x = some .local ∧ m x = some u) ∨ ((env.kindOf x = some .cell ∨ env.kindOf x = some .free) ∧ ∃ c, env.cells.lookup x = some c ∧ h.IsCell c (some u))

structure Cx.Ok (X : Cx) : Prop where
  mod : Mod X.K X.mg X.base
  kind : X.env.scope.kind = .function
  glob : X.env.globals = mainGlobals
  blt : X.env.builtins = builtinsNs
  above : X.s₀.heap.objs.size ≤ X.env.locals
  inj : ∀ x y c, X.env.cells.lookup x = some c → X.env.cells.lookup y = some c → x = y
  has : ∀ x, (X.env.kindOf x = some .cell ∨ X.env.kindOf x = some .free) → ∃ c, X.env.cells.lookup x = some c
  cab : ∀ x c, X.fn x = true → X.env.cells.lookup x = some c → X.s₀.heap.objs.size ≤ c
  hd : X.calm = true → X.A.handled = none
  frames : X.A.frames = some X.stack
  stk : X.stack = X.outer ∨ (X.stack = X.env :: X.outer ∧ X.env.frame = some X.env.locals)
  exf : ∀ b ∈ X.ex, b ≠ X.env.locals ∧ ∀ x c, X.env.cells.lookup x = some c → c ≠ b
  bs : ∀ b o, X.base.get? b = some o → X.s₀.heap.get? b = some o ∧ X.H₀ b = none
  bsz : X.base.objs.size ≤ X.s₀.heap.objs.size
  noex : ∀ b o, X.base.get? b = some o → b ∉ X.ex
  exfs : ∀ b ∈ X.ex, b ∉ X.fs
  funs : X.s₀.heap.FunFrames X.base X.outer
  frf : ∀ b ∈ X.fs, X.H₀ b = none

structure Inv (X : Cx) (pins : List (Addr × Obj)) (σ : List (Option V)) (H : Hp) (s : Shared) : Prop where
  ok : X.Ok
  os : s.os = X.s₀.os
  bare : AllBare s.gens
  base : Un X.fs X.ex X.H₀ H X.s₀.heap s.heap
  loc : ∃ m, s.heap.Ns X.env.locals m ∧ ∀ (i : Nat) (x : Str) (v : V), X.N[i]? = some x → σ[i]? = some (some v) → Vis X.env.scope x → ∃ u, RelV v u ∧ Look X.env s.heap m x u
  cell : ∀ x c, X.env.cells.lookup x = some c → ∃ v, s.heap.IsCell c v
  free : H X.env.locals = none
  freeC : ∀ x c, X.env.cells.lookup x = some c → H c = none
  pin : ∀ p ∈ X.pn ++ pins, s.heap.get? p.1 = some p.2 ∧ H p.1 = none ∧ p.1 ≠ X.env.locals ∧ p.1 ∉ X.fs ∧ ∀ v, p.2.data ≠ .cell v
  hok : HOk X.prog X.w H s.heap
  len : σ.length = X.N.length

section
variable {X : Cx} {pins : List (Addr × Obj)} {σ : List (Option V)} {H H' : Hp} {s : Shared} {h' : Heap}

theorem Cx.Ok.nofr (ok : X.Ok) {b : Addr} {o : Obj} (e : X.base.get? b = some o) : b ∉ X.fs := fun hb => by
  have := (ok.funs.mem hb).1
  rw [e] at this; cases this
theorem Inv.bs (I : Inv X pins σ H s) : ∀ b o, X.base.get? b = some o → s.heap.get? b = some o ∧ H b = none := fun b o e =>
  ⟨I.base.keep b o (I.ok.bs b o e).1 (I.ok.bs b o e).2 (I.ok.nofr e) (I.ok.noex b o e), I.base.free b o (I.ok.bs b o e).1 (I.ok.bs b o e).2 (I.ok.noex b o e)⟩
theorem Inv.bk (I : Inv X pins σ H s) : ∀ b o, X.base.get? b = some o → s.heap.get? b = some o := fun b o e => (I.bs b o e).1
theorem Inv.mod (I : Inv X pins σ H s) : Mod X.K X.mg X.base := I.ok.mod
theorem Inv.kIn (I : Inv X pins σ H s) : X.K.In s.heap := I.ok.mod.kin.keeps I.bk
theorem Inv.nolimit (I : Inv X pins σ H s) : s.heap.NoLimit := I.ok.mod.nolimit.keeps I.bk
/-- the frame over the base: for OpenK's rules (K.In X.base is I.mod.kin) -/
theorem Inv.fr (I : Inv X pins σ H s) : ∃ m, Fr X.base X.env.locals s.heap m :=
  let ⟨m, hn, _⟩ := I.loc
  ⟨m, hn, I.bk, Nat.le_trans I.ok.bsz I.ok.above⟩
theorem Inv.lt (I : Inv X pins σ H s) : X.env.locals < s.heap.objs.size := let ⟨_, hn, _⟩ := I.loc; hn.lt
theorem Inv.sz (I : Inv X pins σ H s) : X.s₀.heap.objs.size ≤ s.heap.objs.size := Nat.le_trans I.ok.above (Nat.le_of_lt I.lt)
theorem Inv.nofs (I : Inv X pins σ H s) {a : Addr} (h : s.heap.objs.size ≤ a) : a ∉ X.fs := fun hb => by
  obtain ⟨_, o, ho, _⟩ := I.ok.funs.mem hb
  exact absurd (Nat.lt_of_lt_of_le (Heap.lt_size ho) (Nat.le_trans I.sz h)) (Nat.lt_irrefl _)
theorem Inv.cne (I : Inv X pins σ H s) : ∀ x c, X.env.cells.lookup x = some c → c ≠ X.env.locals := fun x c e z => by
  obtain ⟨v, o, ho, hd⟩ := I.cell x c e
  obtain ⟨m, ⟨o', es, ep, ho', hd', _⟩, _⟩ := I.loc
  rw [z, ho'] at ho; cases ho; rw [hd'] at hd; cases hd
theorem Inv.funs (I : Inv X pins σ H s) : s.heap.FunFrames X.base X.outer := by
  have all : ∀ (l : List Env), (∀ b ∈ frs l, b ∈ X.fs) → X.s₀.heap.FunFrames X.base l → s.heap.FunFrames X.base l := by
    intro l
    induction l with
    | nil => intro _ _; trivial
    | cons env r ih =>
      intro hs hl
      obtain ⟨hk, ⟨L, o, hf, hn, ho, hd⟩, hr⟩ := hl
      have hL : L ∈ X.fs := hs L (by unfold frs; rw [List.filterMap_cons, hf]; exact List.mem_cons_self)
      obtain ⟨sl, e⟩ := I.base.slot L o ho (I.ok.frf L hL) hL fun z => I.ok.exfs L z hL
      exact ⟨hk, ⟨L, _, hf, hn, e, hd⟩, ih (fun b hb => hs b (by unfold frs; rw [List.filterMap_cons, hf]; exact List.mem_cons_of_mem _ hb)) hr⟩
  exact all X.outer (fun _ hb => hb) I.ok.funs

/-- the frames that run, for a call -/
theorem Inv.stack (I : Inv X pins σ H s) : s.heap.FunFrames X.base X.stack := by
  rcases I.ok.stk with e | ⟨e, hf⟩
  · rw [e]; exact I.funs
  · rw [e]
    obtain ⟨m, hn, _⟩ := I.loc
    refine .cons (by rw [I.ok.kind]; decide) hf hn ?_ I.funs
    exact Heap.get?_none_of_le (Nat.le_trans I.ok.bsz I.ok.above)
theorem Inv.stkSub (I : Inv X pins σ H s) : ∀ b ∈ frs X.stack, b ∈ X.env.locals :: X.fs := fun b hb => by
  rcases I.ok.stk with e | ⟨e, hf⟩
  · rw [e] at hb; exact List.mem_cons_of_mem _ hb
  · rw [e] at hb
    unfold frs at hb
    rw [List.filterMap_cons, hf] at hb
    exact hb
theorem Inv.stkFree (I : Inv X pins σ H s) : ∀ b ∈ frs X.stack, H b = none := fun b hb => by
  rcases List.mem_cons.mp (I.stkSub b hb) with e | hb
  · rw [e]; exact I.free
  · obtain ⟨_, o, ho, _⟩ := I.ok.funs.mem hb
    exact I.base.free b o ho (I.ok.frf b hb) fun z => I.ok.exfs b z hb

/-- THE STEP: the untracked objects but the frame and the records at ch are kept (the callers' frames up to slots), the frame's map is kept, the new abstract heap is held -/
theorem Inv.step {g' : Array GenState} {t' : Nat} {d' : Drawn} {ch : List Addr} (I : Inv X pins σ H s)
    (hch : ∀ b ∈ ch, (b ∈ X.ex ∨ X.s₀.heap.objs.size ≤ b) ∧ b ≠ X.env.locals ∧ (∀ x c, X.env.cells.lookup x = some c → c ≠ b) ∧ ∀ p ∈ X.pn ++ pins, p.1 ≠ b)
    (keep : ∀ b o, b ≠ X.env.locals → b ∉ X.fs → b ∉ ch → s.heap.get? b = some o → H b = none → h'.get? b = some o)
    (slot : ∀ b o, b ≠ X.env.locals → b ∈ X.fs → b ∉ ch → s.heap.get? b = some o → H b = none → ∃ sl, h'.get? b = some { o with slots := sl }) (free : ∀ b o, b ∉ ch → s.heap.get? b = some o → H b = none → H' b = none)
    (there : ∀ b o, b ∉ ch → s.heap.get? b = some o → ∃ o', h'.get? b = some o')
    (tups : ∀ b xs, H b = some (.tup xs) → H' b = some (.tup xs)) (frzs : ∀ b o u, H b = some (.frz o u) → H' b = some (.frz o u)) (tbls : ∀ b ps, H b = some (.tbl ps) → ∃ more, H' b = some (.tbl (ps ++ more)))
    (ns : ∀ m, s.heap.Ns X.env.locals m → h'.Ns X.env.locals m) (hok : HOk X.prog X.w H' h') (hg : AllBare g') :
    Inv X pins σ H' { s with heap := h', gens := g', drawn := d', toks := t' } := by
  have neL : ∀ b o, X.s₀.heap.get? b = some o → b ≠ X.env.locals := fun b o e => Nat.ne_of_lt (Nat.lt_of_lt_of_le (Heap.lt_size e) I.ok.above)
  have neC : ∀ b o, X.s₀.heap.get? b = some o → b ∉ X.ex → b ∉ ch := fun b o e hx hb => by
    rcases (hch b hb).1 with z | z
    · exact hx z
    · exact absurd (Nat.lt_of_lt_of_le (Heap.lt_size e) z) (Nat.lt_irrefl _)
  have cellK : ∀ x c, X.env.cells.lookup x = some c → ∀ v, s.heap.IsCell c v → h'.IsCell c v := fun x c e v ⟨o, ho, hd⟩ => by
    have nch : c ∉ ch := fun z => (hch c z).2.2.1 x c e rfl
    by_cases hc : c ∈ X.fs
    · obtain ⟨sl, q⟩ := slot c o (I.cne x c e) hc nch ho (I.freeC x c e)
      exact ⟨_, q, hd⟩
    · exact ⟨o, keep c o (I.cne x c e) hc nch ho (I.freeC x c e), hd⟩
  refine ⟨I.ok, I.os, hg, ⟨fun b o e n hb hx => ?_, fun b o e n hb hx => ?_, fun b o e n hx => ?_, fun b o e hx => ?_, fun b xs e => tups b xs (I.base.tups b xs e), fun b o xs e => frzs b o xs (I.base.frzs b o xs e), fun b ps e => ?_⟩, ?_, fun x c e => ?_, ?_, fun x c e => ?_, fun p hp => ?_, hok, I.len⟩
  · exact keep b o (neL b o e) hb (neC b o e hx) (I.base.keep b o e n hb hx) (I.base.free b o e n hx)
  · obtain ⟨sl, e1⟩ := I.base.slot b o e n hb hx
    obtain ⟨sl', e2⟩ := slot b _ (neL b o e) hb (neC b o e hx) e1 (I.base.free b o e n hx)
    exact ⟨sl', e2⟩
  · obtain ⟨o', e1⟩ := I.base.there b o e hx
    exact free b o' (neC b o e hx) e1 (I.base.free b o e n hx)
  · obtain ⟨o', e1⟩ := I.base.there b o e hx
    exact there b o' (neC b o e hx) e1
  · obtain ⟨m1, e1⟩ := I.base.tbls b ps e
    obtain ⟨m2, e2⟩ := tbls b _ e1
    exact ⟨m1 ++ m2, by rw [e2, Array.append_assoc]⟩
  · obtain ⟨m, hn, hl⟩ := I.loc
    refine ⟨m, ns m hn, fun i x v e1 e2 e3 => ?_⟩
    obtain ⟨u, r, l⟩ := hl i x v e1 e2 e3
    refine ⟨u, r, ?_⟩
    rcases l with l | ⟨k, c, e, z⟩
    · exact .inl l
    · exact .inr ⟨k, c, e, cellK x c e _ z⟩
  · obtain ⟨v, z⟩ := I.cell x c e
    exact ⟨v, cellK x c e v z⟩
  · obtain ⟨m, ⟨o, _, _, ho, _⟩, _⟩ := I.loc
    exact free _ o (fun z => (hch _ z).2.1 rfl) ho I.free
  · obtain ⟨v, o, ho, hd⟩ := I.cell x c e
    exact free c o (fun z => (hch c z).2.2.1 x c e rfl) ho (I.freeC x c e)
  · obtain ⟨e, n, ne, nf, d⟩ := I.pin p hp
    have nch : p.1 ∉ ch := fun z => (hch p.1 z).2.2.2 p hp rfl
    exact ⟨keep p.1 p.2 ne nf nch e n, free p.1 p.2 nch e n, ne, nf, d⟩
/-- .. where the frame's own object is kept too -/
theorem Inv.un {t' : Nat} (I : Inv X pins σ H s) (u : Un X.fs [] H H' s.heap h') (hok : HOk X.prog X.w H' h') : Inv X pins σ H' { s with heap := h', toks := t' } := by
  obtain ⟨m, ⟨o, es, ep, ho, r⟩, _⟩ := id I.loc
  obtain ⟨sl, hL⟩ := u.any ho I.free (by simp)
  exact I.step (g' := s.gens) (d' := s.drawn) (ch := []) (fun _ z => nomatch z) (fun b o _ hb _ e n => u.keep b o e n hb (by simp)) (fun b o _ hb _ e n => u.slot b o e n hb (by simp)) (fun b o _ e n => u.free b o e n (by simp)) (fun b o _ e => u.there b o e (by simp)) u.tups u.frzs u.tbls (fun m' hm => by
    obtain ⟨o', es', ep', ho', r'⟩ := hm
    rw [ho] at ho'; cases ho'
    exact ⟨_, es', ep', hL, r'⟩) hok I.bare
/-- behind a call (or a comprehension's block): the slots of this frame may have changed too, the records at ch may have turned -/
theorem Inv.call {g' : Array GenState} {t' : Nat} {d' : Drawn} {ch : List Addr} (I : Inv X pins σ H s) (u : Un (frs X.stack) ch H H' s.heap h') (hok : HOk X.prog X.w H' h') (hg : AllBare g')
    (hch : ∀ b ∈ ch, (b ∈ X.ex ∨ X.s₀.heap.objs.size ≤ b) ∧ b ≠ X.env.locals ∧ (∀ x c, X.env.cells.lookup x = some c → c ≠ b) ∧ ∀ p ∈ X.pn ++ pins, p.1 ≠ b) :
    Inv X pins σ H' { s with heap := h', gens := g', drawn := d', toks := t' } := by
  obtain ⟨m, ⟨o, es, ep, ho, r⟩, _⟩ := id I.loc
  obtain ⟨sl, hL⟩ := u.any ho I.free fun z => (hch _ z).2.1 rfl
  exact I.step (ch := ch) hch (fun b o hL hb hc e n => u.keep b o e n (fun z => (List.mem_cons.mp (I.stkSub b z)).elim hL hb) hc) (fun b o _ _ hc e n => u.any e n hc) (fun b o hc e n => u.free b o e n hc) (fun b o hc e => u.there b o e hc) u.tups u.frzs u.tbls (fun m' hm => by
    obtain ⟨o', es', ep', ho', r'⟩ := hm
    rw [ho] at ho'; cases ho'
    exact ⟨_, es', ep', hL, r'⟩) hok hg
/-- an untracked record of ours (an iterator) has turned -/
theorem Inv.turned {t' : Nat} {it : Addr} (I : Inv X pins σ H s) (k : ∀ b o, b ≠ it → s.heap.get? b = some o → h'.get? b = some o) (hn : H it = none) (hL : it ≠ X.env.locals)
    (h1 : it ∈ X.ex ∨ X.s₀.heap.objs.size ≤ it) (h2 : ∀ x c, X.env.cells.lookup x = some c → c ≠ it) (h3 : ∀ p ∈ X.pn ++ pins, p.1 ≠ it) : Inv X pins σ H { s with heap := h', toks := t' } := by
  have nit : ∀ b u, H b = some u → b ≠ it := fun b u e z => by rw [z, hn] at e; cases e
  refine I.step (g' := s.gens) (d' := s.drawn) (ch := [it]) (fun b hb => ?_) (fun b o _ _ hc e _ => k b o (fun z => hc (by simp [z])) e) (fun b o _ _ hc e _ => ⟨o.slots, k b o (fun z => hc (by simp [z])) e⟩) (fun _ _ _ _ n => n)
    (fun b o hc e => ⟨o, k b o (fun z => hc (by simp [z])) e⟩) (fun _ _ e => e) (fun _ _ _ e => e) (fun b ps e => ⟨#[], by rw [e]; simp⟩) (fun m hm => ?_) (fun b u e => ?_) I.bare
  · have e : b = it := by simpa using hb
    subst e
    exact ⟨h1, hL, h2, h3⟩
  · obtain ⟨o, es, ep, ho, r⟩ := hm
    exact ⟨o, es, ep, k _ o (Ne.symm hL) ho, r⟩
  · refine (I.hok b u e).stay (fun c v hc q => k c v ?_ q) (fun _ q => q) fun _ _ q => q
    rcases hc with z | z
    · rw [z]; exact nit b u e
    · exact nit c _ z
theorem Inv.tok (I : Inv X pins σ H s) (t : Nat) : Inv X pins σ H { s with toks := t } := I.un (h' := s.heap) (t' := t) Un.refl I.hok
/-- all objects kept -/
theorem Inv.kept {t' : Nat} (I : Inv X pins σ H s) (k : ∀ b u, s.heap.get? b = some u → h'.get? b = some u) : Inv X pins σ H { s with heap := h', toks := t' } := I.un (Un.kept k) (I.hok.kept k)
/-- a new object laid and tracked -/
theorem Inv.laid {a : Addr} {o : HO} {t' : Nat} (I : Inv X pins σ H s) (k : ∀ b u, s.heap.get? b = some u → h'.get? b = some u) (hp : s.heap.objs.size ≤ a) (new : ObjOk X.prog X.w (upd H a o) h' a o) :
    Inv X pins σ (upd H a o) { s with heap := h', toks := t' } := I.un (Un.laid k hp (I.hok.fresh hp)) (I.hok.laid k hp new)
/-- an object written -/
theorem Inv.write {x e : Addr} {o : HO} {t' : Nat} (I : Inv X pins σ H s) (mu : Mut (H x)) (he : e = x ∨ H e = some (.own x)) (k : ∀ b u, b ≠ e → s.heap.get? b = some u → h'.get? b = some u) (heo : ∃ u, h'.get? e = some u)
    (new : ObjOk X.prog X.w (upd H x o) h' x o) : Inv X pins σ (upd H x o) { s with heap := h', toks := t' } := I.un (Un.write mu he k heo) (I.hok.write mu he k heo new)
/-- forgetting slots, pins -/
theorem Inv.weak {σ' : List (Option V)} (I : Inv X pins σ H s) (hl : σ'.length = σ.length) (w : ∀ (i : Nat) v, σ'[i]? = some (some v) → σ[i]? = some (some v)) : Inv X pins σ' H s :=
  ⟨I.ok, I.os, I.bare, I.base, let ⟨m, hn, hl'⟩ := I.loc; ⟨m, hn, fun i x v e1 e2 e3 => hl' i x v e1 (w i v e2) e3⟩, I.cell, I.free, I.freeC, I.pin, I.hok, hl.trans I.len⟩
theorem Inv.pins_of {pins' : List (Addr × Obj)} (I : Inv X pins σ H s) (h : ∀ p ∈ pins', s.heap.get? p.1 = some p.2 ∧ H p.1 = none ∧ p.1 ≠ X.env.locals ∧ p.1 ∉ X.fs ∧ ∀ v, p.2.data ≠ .cell v) : Inv X pins' σ H s :=
  ⟨I.ok, I.os, I.bare, I.base, I.loc, I.cell, I.free, I.freeC, fun p hp => (List.mem_append.mp hp).elim (fun z => I.pin p (List.mem_append_left _ z)) (h p), I.hok, I.len⟩

theorem nodup_ix {N : List Str} (hN : N.Nodup) {i j : Nat} {x : Str} (a : N[i]? = some x) (b : N[j]? = some x) : i = j := by
  obtain ⟨h1, e1⟩ := List.getElem?_eq_some_iff.mp a
  obtain ⟨h2, e2⟩ := List.getElem?_eq_some_iff.mp b
  exact (List.getElem_inj hN).mp (e1.trans e2.symm)

/-- a name is stored; what changed -/
theorem store_ok2 {M : Model} {A : Around} {E : Value → Shared → Prop} {i : Nat} {x : Str} {v : V} {u : Value} {Q : Unit → Shared → Prop} (I : Inv X pins σ H s) (hN : X.N.Nodup) (hi : X.N[i]? = some x) (hx : Loc X.env.scope x) (r : RelV v u)
    (h : ∀ s', Inv X pins (σ.set i (some v)) H s' → (∃ a, Heap.SameBut a s.heap s'.heap ∧ (a = X.env.locals ∨ X.env.cells.lookup x = some a)) → Q () s') (hf : X.fn x = true ∨ X.env.scope.names.lookup x = some .local := by first | exact .inl rfl | exact .inr rfl | assumption) : wpAny M A (storeName X.env x u) Q E s := by
  obtain ⟨m, hn, hl⟩ := id I.loc
  have hcls : (X.env.scope.kind == .class || (X.env.scope.kind == .module && X.env.locals != X.env.globals)) = false := by rw [I.ok.kind]; rfl
  have hiσ : i < σ.length := by rw [I.len]; exact (List.getElem?_eq_some_iff.mp hi).1
  have cne := I.cne
  have tracked : ∀ {a : Addr} {h' : Heap}, (∃ o, s.heap.get? a = some o ∧ H a = none) → Heap.SameBut a s.heap h' → HOk X.prog X.w H h' := fun {a h'} ha hs b ob e => by
    obtain ⟨_, _, hfree⟩ := ha
    refine (I.hok b ob e).stay (fun c w' hc q => (hs.2 c ?_).trans q) (fun _ q => q) fun _ _ q => q
    rintro rfl
    rcases hc with rfl | hc
    · rw [hfree] at e; cases e
    · rw [hfree] at hc; cases hc
  rcases hx with hk | hk
  · refine wpAny_storeName_local hk hn (fun h' hn' hs => ?_) hcls
    obtain ⟨oL, _, _, hoL, _⟩ := id hn
    refine h _ ⟨I.ok, I.os, I.bare, ⟨fun b o e n hb hx => ?_, fun b o e n hb hx => ?_, I.base.free, fun b o e hx => ?_, I.base.tups, I.base.frzs, I.base.tbls⟩, ⟨_, hn', fun j y v' e1 e2 e3 => ?_⟩, fun y c e => ?_, I.free, I.freeC, fun p hp => ?_, tracked ⟨oL, hoL, I.free⟩ hs, by simpa using I.len⟩ ⟨_, hs, .inl rfl⟩
    · exact (hs.2 b (Nat.ne_of_lt (Nat.lt_of_lt_of_le (Heap.lt_size e) I.ok.above))).trans (I.base.keep b o e n hb hx)
    · obtain ⟨sl, e1⟩ := I.base.slot b o e n hb hx
      exact ⟨sl, (hs.2 b (Nat.ne_of_lt (Nat.lt_of_lt_of_le (Heap.lt_size e) I.ok.above))).trans e1⟩
    · obtain ⟨o', e1⟩ := I.base.there b o e hx
      exact ⟨o', (hs.2 b (Nat.ne_of_lt (Nat.lt_of_lt_of_le (Heap.lt_size e) I.ok.above))).trans e1⟩
    · by_cases hj : j = i
      · subst hj
        rw [hi] at e1; cases e1
        rw [List.getElem?_set_self hiσ] at e2
        cases e2
        exact ⟨u, r, .inl ⟨hk, by simp⟩⟩
      · rw [List.getElem?_set_ne (Ne.symm hj)] at e2
        obtain ⟨u', r', q⟩ := hl j y v' e1 e2 e3
        refine ⟨u', r', ?_⟩
        rcases q with ⟨k, e⟩ | ⟨k, c, e, z⟩
        · refine .inl ⟨k, ?_⟩
          have : y ≠ x := fun e => hj (nodup_ix hN e1 (e ▸ hi))
          simp [this, e]
        · exact .inr ⟨k, c, e, z.sameBut hs (cne y c e)⟩
    · obtain ⟨w', z⟩ := I.cell y c e
      exact ⟨w', z.sameBut hs (cne y c e)⟩
    · obtain ⟨e, n, ne, nf, d⟩ := I.pin p hp
      exact ⟨(hs.2 p.1 ne).trans e, n, ne, nf, d⟩
  · have hfn : X.fn x = true := by
      rcases hf with z | z
      · exact z
      · rw [z] at hk; cases hk
    obtain ⟨c, hc⟩ := I.ok.has x (.inl hk)
    obtain ⟨w', z⟩ := I.cell x c hc
    refine wpAny_storeName_cell I.ok.kind hk hc z (fun h' hc' hs => ?_)
    obtain ⟨oc, hoc, hocd⟩ := id z
    refine h { s with heap := h' } ⟨I.ok, I.os, I.bare, ⟨fun b o e n hb hx => ?_, fun b o e n hb hx => ?_, I.base.free, fun b o e hx => ?_, I.base.tups, I.base.frzs, I.base.tbls⟩, ⟨m, hn.sameBut hs (Ne.symm (cne x c hc)), fun j y v' e1 e2 e3 => ?_⟩, fun y c' e => ?_, I.free, I.freeC, fun p hp => ?_, tracked ⟨oc, hoc, I.freeC x c hc⟩ hs, by simpa using I.len⟩ ⟨c, hs, .inr hc⟩
    · exact (hs.2 b (Nat.ne_of_lt (Nat.lt_of_lt_of_le (Heap.lt_size e) (I.ok.cab x c hfn hc)))).trans (I.base.keep b o e n hb hx)
    · obtain ⟨sl, e1⟩ := I.base.slot b o e n hb hx
      exact ⟨sl, (hs.2 b (Nat.ne_of_lt (Nat.lt_of_lt_of_le (Heap.lt_size e) (I.ok.cab x c hfn hc)))).trans e1⟩
    · obtain ⟨o', e1⟩ := I.base.there b o e hx
      exact ⟨o', (hs.2 b (Nat.ne_of_lt (Nat.lt_of_lt_of_le (Heap.lt_size e) (I.ok.cab x c hfn hc)))).trans e1⟩
    · by_cases hj : j = i
      · subst hj
        rw [hi] at e1; cases e1
        rw [List.getElem?_set_self hiσ] at e2
        cases e2
        exact ⟨u, r, .inr ⟨.inl hk, c, hc, hc'⟩⟩
      · rw [List.getElem?_set_ne (Ne.symm hj)] at e2
        obtain ⟨u', r', q⟩ := hl j y v' e1 e2 e3
        refine ⟨u', r', ?_⟩
        rcases q with q | ⟨k, c', e, z'⟩
        · exact .inl q
        · refine .inr ⟨k, c', e, z'.sameBut hs ?_⟩
          rintro rfl
          exact hj (nodup_ix hN e1 (I.ok.inj _ _ _ e hc ▸ hi))
    · by_cases hcc : c' = c
      · subst hcc; exact ⟨_, hc'⟩
      · obtain ⟨w2, z2⟩ := I.cell y c' e
        exact ⟨w2, z2.sameBut hs hcc⟩
    · obtain ⟨e, n, ne, nf, d⟩ := I.pin p hp
      refine ⟨(hs.2 p.1 ?_).trans e, n, ne, nf, d⟩
      intro q
      rw [q, hoc] at e
      have q' : oc = p.2 := Option.some.inj e
      exact d w' (by rw [← q']; exact hocd)
theorem store_ok {M : Model} {A : Around} {E : Value → Shared → Prop} {i : Nat} {x : Str} {v : V} {u : Value} {Q : Unit → Shared → Prop} (I : Inv X pins σ H s) (hN : X.N.Nodup) (hi : X.N[i]? = some x) (hx : Loc X.env.scope x) (r : RelV v u)
    (h : ∀ s', Inv X pins (σ.set i (some v)) H s' → Q () s') (hf : X.fn x = true ∨ X.env.scope.names.lookup x = some .local := by first | exact .inl rfl | exact .inr rfl | assumption) : wpAny M A (storeName X.env x u) Q E s :=
  store_ok2 I hN hi hx r (fun s' I' _ => h s' I') hf
/-- behind a call or a block, the state as it is -/
theorem Inv.call' {s' : Shared} {ch : List Addr} (I : Inv X pins σ H s) (ho : s'.os = s.os) (u : Un (frs X.stack) ch H H' s.heap s'.heap) (hok : HOk X.prog X.w H' s'.heap) (hg : AllBare s'.gens)
    (hch : ∀ b ∈ ch, (b ∈ X.ex ∨ X.s₀.heap.objs.size ≤ b) ∧ b ≠ X.env.locals ∧ (∀ x c, X.env.cells.lookup x = some c → c ≠ b) ∧ ∀ p ∈ X.pn ++ pins, p.1 ≠ b) : Inv X pins σ H' s' := by
  obtain ⟨h', g', d', t', o'⟩ := s'
  have e : o' = s.os := ho
  subst e
  exact I.call (g' := g') (t' := t') (d' := d') u hok hg hch
end

/-! ### the judgements -/
/-- an exception: its class, its own dict's address (where it has one), the abstract heap behind it -/
abbrev XK := Value → Option Addr → Hp → Prop
abbrev St := List (Option V)
abbrev VK := V → Hp → Prop
/-- an expression's reading; a test's; an argument list's -/
abbrev TE := St → Hp → VK → Prop
abbrev TT := St → Hp → (Bool → Hp → Prop) → Prop
abbrev TA := St → Hp → (List V → Hp → Prop) → Prop
/-- what is wanted behind a statement -/
structure Ends where
  nx : St → Hp → Prop
  rt : VK
  bk : St → Hp → Prop := fun _ _ => False
  ct : St → Hp → Prop := fun _ _ => False
abbrev TS := Ends → St → Hp → Prop

def EP (X : Cx) (pins : List (Addr × Obj)) (σ : St) (Q : VK) (u : Value) (s' : Shared) : Prop := ∃ v H', Inv X pins σ H' s' ∧ RelV v u ∧ Q v H'
def TP (X : Cx) (pins : List (Addr × Obj)) (σ : St) (Q : Bool → Hp → Prop) (b : Bool) (s' : Shared) : Prop := ∃ H', Inv X pins σ H' s' ∧ Q b H'
def AP (X : Cx) (pins : List (Addr × Obj)) (σ : St) (Q : List V → Hp → Prop) (us : List Value) (s' : Shared) : Prop := ∃ vs H', Inv X pins σ H' s' ∧ Vals vs us ∧ Q vs H'
def SP (X : Cx) (pins : List (Addr × Obj)) (D : Ends) (f : Flow) (s' : Shared) : Prop :=
  match f with
  | .next => ∃ σ' H', Inv X pins σ' H' s' ∧ D.nx σ' H'
  | .brk => ∃ σ' H', Inv X pins σ' H' s' ∧ D.bk σ' H'
  | .cont => ∃ σ' H', Inv X pins σ' H' s' ∧ D.ct σ' H'
  | .ret u => ∃ v σ' H', Inv X pins σ' H' s' ∧ RelV v u ∧ D.rt v H'

def PE (X : Cx) (e : Expr) (t : TE) : Prop :=
  ∀ (pins : List (Addr × Obj)) (s : Shared) (σ : St) (H : Hp) (Q : VK), Inv X pins σ H s → t σ H Q → wpAny (model X.prog X.w) X.A (eval e X.env) (EP X pins σ Q) X.xe s
def PT (X : Cx) (e : Expr) (t : TT) : Prop :=
  ∀ (pins : List (Addr × Obj)) (s : Shared) (σ : St) (H : Hp) (Q : Bool → Hp → Prop), Inv X pins σ H s → t σ H Q → wpAny (model X.prog X.w) X.A (isTrue e X.env (eval e X.env)) (TP X pins σ Q) X.xe s
/-- a test whatever its 'whole' is (and, or) -/
def PW (X : Cx) (e : Expr) (t : TT) : Prop :=
  ∀ (whole : Sem Value) (pins : List (Addr × Obj)) (s : Shared) (σ : St) (H : Hp) (Q : Bool → Hp → Prop), Inv X pins σ H s → t σ H Q → wpAny (model X.prog X.w) X.A (isTrue e X.env whole) (TP X pins σ Q) X.xe s
theorem PW.pt {X : Cx} {e : Expr} {t : TT} (h : PW X e t) : PT X e t := h _
/-- an argument list (no star), from the left -/
def PA (X : Cx) (es : List Expr) (t : TA) : Prop :=
  ∀ (pos : Pos) (pins : List (Addr × Obj)) (s : Shared) (σ : St) (H : Hp) (Q : List V → Hp → Prop), Inv X pins σ H s → t σ H Q → wpAny (model X.prog X.w) X.A (spliced (backTo pos (starEach es X.env))) (AP X pins σ Q) X.xe s
def PS (X : Cx) (st : Stmt) (t : TS) : Prop :=
  ∀ (pins : List (Addr × Obj)) (s : Shared) (σ : St) (H : Hp) (D : Ends), Inv X pins σ H s → t D σ H → wpAny (model X.prog X.w) X.A (exec st X.env) (SP X pins D) X.xe s
def PSs (X : Cx) (st : List Stmt) (t : TS) : Prop :=
  ∀ (pins : List (Addr × Obj)) (s : Shared) (σ : St) (H : Hp) (D : Ends), Inv X pins σ H s → t D σ H → wpAny (model X.prog X.w) X.A (execs st X.env) (SP X pins D) X.xe s
/-- weaken the end -/
theorem thn {α : Type} {t : Sem α} {Q Q' : α → Shared → Prop} {M : Model} {A : Around} {E : Value → Shared → Prop} {s : Shared} (h : wpAny M A t Q E s) (hQ : ∀ a s, Q a s → Q' a s) : wpAny M A t Q' E s := wpAny_mono h hQ fun _ _ x => x
end L2

namespace L2
open PySem PySem.Spec PyProof.Rows
section
variable {X : Cx}

/-- two expressions in a row -/
theorem bin {a b : Expr} {ta tb : TE} (ha : PE X a ta) (hb : PE X b tb) {pins : List (Addr × Obj)} {s : Shared} {σ : St} {H : Hp} {R : V → V → Hp → Prop} (I : Inv X pins σ H s) (h : ta σ H fun x H1 => tb σ H1 fun y H2 => R x y H2)
    {α : Type} {Q : α → Shared → Prop} {f : Value → Value → Sem α}
    (hf : ∀ v u s2 x y H2, Inv X pins σ H2 s2 → RelV x v → RelV y u → R x y H2 → wpAny (model X.prog X.w) X.A (f v u) Q X.xe s2) :
    wpAny (model X.prog X.w) X.A (eval a X.env) (fun v s₁ => wpAny (model X.prog X.w) X.A (eval b X.env) (fun u s₂ => wpAny (model X.prog X.w) X.A (f v u) Q X.xe s₂) X.xe s₁) X.xe s := by
  refine thn (ha pins s σ H _ I h) fun v s1 ⟨x, H1, I1, r1, q1⟩ => ?_
  refine thn (hb pins s1 σ H1 _ I1 q1) fun u s2 ⟨y, H2, I2, r2, q2⟩ => ?_
  exact hf v u s2 x y H2 I2 r1 r2 q2

/-! ### names and constants -/
def tVar (i : Nat) : TE := fun σ H Q => ∃ v, σ[i]? = some (some v) ∧ Q v H
def tC (v : V) : TE := fun _ H Q => Q v H
theorem pe_var {i : Nat} {x : Str} {pos : Pos} (hN : X.N[i]? = some x) (hv : Vis X.env.scope x) (hd : (x == ("__debug__" : Str)) = false := by decide) (hcd : (x == ("__classdict__" : Str)) = false := by decide) : PE X (.Name x pos) (tVar i) := by
  intro pins s σ H Q I h
  obtain ⟨v, e, h⟩ := h
  obtain ⟨m, hn, hl⟩ := I.loc
  obtain ⟨u, r, l⟩ := hl i x v hN e hv
  have fin : EP X pins σ Q u s := ⟨v, H, I, r, h⟩
  rcases l with ⟨hk, hm⟩ | ⟨hk, c, hc, hcell⟩
  · exact wpAny_Name (wpAny_loadName_local I.ok.kind hk hn hm fin) hd
  · rcases hk with hk | hk
    · exact wpAny_Name (wpAny_loadName_cell I.ok.kind hk hc hcell fin) hd
    · exact wpAny_Name (wpAny_loadName_free I.ok.kind hk hc hcell fin hcd) hd
theorem pe_int {i j pos} : PE X (.Constant (.int i) j pos) (tC (.int i)) := fun _ _ _ H _ I h => wpAny_Constant_int ⟨.int i, H, I.tok _, ⟨_, rfl⟩, h⟩
theorem pe_bl {b j pos} : PE X (.Constant (.bool b) j pos) (tC (.bl b)) := fun _ _ _ H _ I h => Constant_bool ⟨.bl b, H, I, rfl, h⟩
theorem pe_non {j pos} : PE X (.Constant .none j pos) (tC .non) := fun _ _ _ H _ I h => Constant_none ⟨.non, H, I, rfl, h⟩
theorem pe_str {x j pos} : PE X (.Constant (.str x) j pos) (tC (.str x)) := fun _ _ _ H _ I h => Calls.Constant_str ⟨.str x, H, I.tok _, ⟨_, rfl⟩, h⟩

/-- a global name of the def -/
def Gl (X : Cx) (x : Str) : Prop := X.env.kindOf x = some .globalImplicit
theorem ld_glob {E : Value → Shared → Prop} {pins : List (Addr × Obj)} {s : Shared} {σ : St} {H : Hp} {x : Str} {u : Value} {pos : Pos} {Q : Value → Shared → Prop} (I : Inv X pins σ H s) (hg : Gl X x) (hm : X.mg x = some u) (h : Q u s)
    (hd : (x == ("__debug__" : Str)) = false := by decide) : wpAny (model X.prog X.w) X.A (eval (.Name x pos) X.env) Q E s :=
  Calls.Name_function_global I.ok.kind hg (Calls.loadGlobal_global (by rw [I.ok.glob]; exact I.mod.glob.keeps I.bk) hm h) hd
theorem ld_blt {E : Value → Shared → Prop} {pins : List (Addr × Obj)} {s : Shared} {σ : St} {H : Hp} {x : Str} {u : Value} {pos : Pos} {Q : Value → Shared → Prop} (I : Inv X pins σ H s) (hg : Gl X x) (hm : X.mg x = none) (hv : bootBuiltins x = some u) (h : Q u s)
    (hn : x ≠ "__name__" := by decide) (hd : (x == ("__debug__" : Str)) = false := by decide) : wpAny (model X.prog X.w) X.A (eval (.Name x pos) X.env) Q E s := by
  obtain ⟨mb, h1, h2⟩ := I.mod.blt
  exact Calls.Name_function_global I.ok.kind hg (Calls.loadGlobal_builtin (by rw [I.ok.glob]; exact I.mod.glob.keeps I.bk) hm (by rw [I.ok.blt]; exact h1.keeps I.bk) ((h2 x hn).trans hv) h) hd
/-- a module's constant, a class, a function, as a value -/
theorem pe_glob {x : Str} {v : V} {u : Value} {pos : Pos} (hg : Gl X x) (hm : X.mg x = some u) (r : RelV v u) (hd : (x == ("__debug__" : Str)) = false := by decide) : PE X (.Name x pos) (tC v) :=
  fun _ _ _ H _ I h => ld_glob I hg hm ⟨v, H, I, r, h⟩ hd
theorem pe_bltn {x : Str} {v : V} {u : Value} {pos : Pos} (hg : Gl X x) (hm : X.mg x = none) (hv : bootBuiltins x = some u) (r : RelV v u) (hn : x ≠ "__name__" := by decide) (hd : (x == ("__debug__" : Str)) = false := by decide) : PE X (.Name x pos) (tC v) :=
  fun _ _ _ H _ I h => ld_blt I hg hm hv ⟨v, H, I, r, h⟩ hn hd

/-! ### arithmetic -/
/-- two ints -/
def t2I (ta tb : TE) (k : Int → Int → Hp → Prop) : St → Hp → Prop := fun σ H => ta σ H fun x H1 => tb σ H1 fun y H2 => ∃ i j, x = .int i ∧ y = .int j ∧ k i j H2
def tAdd (ta tb : TE) : TE := fun σ H Q => t2I ta tb (fun i j H2 => Q (.int (i + j)) H2) σ H
def tSub (ta tb : TE) : TE := fun σ H Q => t2I ta tb (fun i j H2 => Q (.int (i - j)) H2) σ H
/-- the left factor below 2^64 -/
def tMul (ta tb : TE) : TE := fun σ H Q => t2I ta tb (fun i j H2 => (-(2 ^ 64) < i ∧ i < 2 ^ 64) ∧ Q (.int (i * j)) H2) σ H
variable {a b : Expr} {ta tb : TE} {pos : Pos}
theorem pe_add (ha : PE X a ta) (hb : PE X b tb) : PE X (.BinOp a .Add b pos) (tAdd ta tb) := by
  intro pins s σ H Q I h
  refine wpAny_BinOp (bin ha hb I h fun v u s2 x y H2 I2 rx ry q => ?_)
  obtain ⟨i, j, rfl, rfl, q⟩ := q
  obtain ⟨t, rfl⟩ := rx
  obtain ⟨t', rfl⟩ := ry
  exact add_int ⟨.int _, H2, I2.tok _, ⟨_, rfl⟩, q⟩
theorem pe_sub (ha : PE X a ta) (hb : PE X b tb) : PE X (.BinOp a .Sub b pos) (tSub ta tb) := by
  intro pins s σ H Q I h
  refine wpAny_BinOp (bin ha hb I h fun v u s2 x y H2 I2 rx ry q => ?_)
  obtain ⟨i, j, rfl, rfl, q⟩ := q
  obtain ⟨t, rfl⟩ := rx
  obtain ⟨t', rfl⟩ := ry
  exact sub_int ⟨.int _, H2, I2.tok _, ⟨_, rfl⟩, q⟩
theorem pe_mul (ha : PE X a ta) (hb : PE X b tb) : PE X (.BinOp a .Mult b pos) (tMul ta tb) := by
  intro pins s σ H Q I h
  refine wpAny_BinOp (bin ha hb I h fun v u s2 x y H2 I2 rx ry q => ?_)
  obtain ⟨i, j, rfl, rfl, ⟨q1, q2⟩, q⟩ := q
  obtain ⟨t, rfl⟩ := rx
  obtain ⟨t', rfl⟩ := ry
  exact mul_int ⟨.int _, H2, I2.tok _, ⟨_, rfl⟩, q⟩ (.of_left (intBits_le_64 q1 q2))

/-! ### comparisons -/
def PC (X : Cx) (op : CmpOp) (a b : Expr) (t : TE) : Prop :=
  ∀ (pins : List (Addr × Obj)) (s : Shared) (σ : St) (H : Hp) (Q : VK), Inv X pins σ H s → t σ H Q →
    wpAny (model X.prog X.w) X.A (eval a X.env) (fun v s₁ => wpAny (model X.prog X.w) X.A (eval b X.env) (fun u s₂ => wpAny (model X.prog X.w) X.A (compareOp op v u) (EP X pins σ Q) X.xe s₂) X.xe s₁) X.xe s
theorem nobehind (b : Expr) {op : CmpOp} (h : op ≠ .In) (h2 : op ≠ .NotIn) : behindInMarks op b = false := by
  have e1 : (op == CmpOp.In) = false := by cases op <;> first | rfl | exact absurd rfl h
  have e2 : (op == CmpOp.NotIn) = false := by cases op <;> first | rfl | exact absurd rfl h2
  cases b <;> simp [behindInMarks, e1, e2]
def tCmp (p : Int → Int → Bool) (ta tb : TE) : TE := fun σ H Q => t2I ta tb (fun i j H2 => Q (.bl (p i j)) H2) σ H
abbrev tLt : TE → TE → TE := tCmp fun i j => decide (i < j)
abbrev tLe : TE → TE → TE := tCmp fun i j => decide (i ≤ j)
abbrev tGt : TE → TE → TE := tCmp fun i j => decide (j < i)
abbrev tGe : TE → TE → TE := tCmp fun i j => decide (j ≤ i)
abbrev tEqI : TE → TE → TE := tCmp fun i j => decide (i = j)
abbrev tNeI : TE → TE → TE := tCmp fun i j => !decide (i = j)
/-- a comparison of two ints, by its rule -/
theorem pc_int {op : CmpOp} {p : Int → Int → Bool} (ha : PE X a ta) (hb : PE X b tb)
    (rule : ∀ (i j : Int) (t u : Tok) (Q : Value → Shared → Prop) (s : Shared), Q (.bool (p i j)) s → wpAny (model X.prog X.w) X.A (compareOp op (.int i t) (.int j u)) Q X.xe s) : PC X op a b (tCmp p ta tb) := by
  intro pins s σ H Q I h
  refine bin ha hb I h fun v u s2 x y H2 I2 rx ry q => ?_
  obtain ⟨i, j, rfl, rfl, q⟩ := q
  obtain ⟨t, rfl⟩ := rx
  obtain ⟨t', rfl⟩ := ry
  exact rule i j t t' _ s2 ⟨.bl _, H2, I2, rfl, q⟩
theorem pc_lt (ha : PE X a ta) (hb : PE X b tb) : PC X .Lt a b (tLt ta tb) := pc_int ha hb fun _ _ _ _ _ _ h => lt_int h
theorem pc_le (ha : PE X a ta) (hb : PE X b tb) : PC X .LtE a b (tLe ta tb) := pc_int ha hb fun _ _ _ _ _ _ h => le_int h
theorem pc_gt (ha : PE X a ta) (hb : PE X b tb) : PC X .Gt a b (tGt ta tb) := pc_int ha hb fun _ _ _ _ _ _ h => gt_int h
theorem pc_ge (ha : PE X a ta) (hb : PE X b tb) : PC X .GtE a b (tGe ta tb) := pc_int ha hb fun _ _ _ _ _ _ h => ge_int h
theorem pc_eqI (ha : PE X a ta) (hb : PE X b tb) : PC X .Eq a b (tEqI ta tb) := pc_int ha hb fun _ _ _ _ _ _ h => eq_int (by rw [Bool.beq_eq_decide_eq]; exact h)
theorem pc_neI (ha : PE X a ta) (hb : PE X b tb) : PC X .NotEq a b (tNeI ta tb) := pc_int ha hb fun _ _ _ _ _ _ h => ne_int (by rw [bne, Bool.beq_eq_decide_eq]; exact h)
/-- is None -/
def tIsN (ta : TE) : TE := fun σ H Q => ta σ H fun x H1 => Q (.bl (decide (x = .non))) H1
def tNotN (ta : TE) : TE := fun σ H Q => ta σ H fun x H1 => Q (.bl (!decide (x = .non))) H1
theorem RelV.none_iff {x : V} {v : Value} (r : RelV x v) : (v == Value.none) = decide (x = .non) := by
  cases x with
  | non => cases r; rfl
  | bl _ => cases r; rfl
  | int _ => obtain ⟨t, rfl⟩ := r; rfl
  | str _ => obtain ⟨t, rfl⟩ := r; rfl
  | byt _ => obtain ⟨t, rfl⟩ := r; rfl
  | flt _ => obtain ⟨t, rfl⟩ := r; rfl
  | ref _ => cases r; rfl
  | ty _ => cases r; rfl
theorem pc_isN {j pos'} (ha : PE X a ta) : PC X .Is a (.Constant .none j pos') (tIsN ta) := by
  intro pins s σ H Q I h
  refine thn (ha pins s σ H _ I h) fun v s1 ⟨x, H1, I1, r1, q1⟩ => ?_
  exact Constant_none (is_none_gen ⟨.bl _, H1, I1, by rw [r1.none_iff]; rfl, q1⟩)
theorem pc_notN {j pos'} (ha : PE X a ta) : PC X .IsNot a (.Constant .none j pos') (tNotN ta) := by
  intro pins s σ H Q I h
  refine thn (ha pins s σ H _ I h) fun v s1 ⟨x, H1, I1, r1, q1⟩ => ?_
  exact Constant_none (isnot_none_gen ⟨.bl _, H1, I1, by rw [r1.none_iff]; rfl, q1⟩)
/-- a comparison as a value, as a test -/
def tB (t : TE) : TT := fun σ H Q => t σ H fun x H1 => ∃ c, x = .bl c ∧ Q c H1
theorem pe_cmp {op : CmpOp} {t : TE} (h : PC X op a b t) (h1 : behindInMarks op b = false := by first | exact nobehind _ (by decide) (by decide) | rfl) : PE X (.Compare a [op] [b] pos) t := fun pins s σ H Q I hw => wpAny_Compare1 (h pins s σ H Q I hw) h1
theorem pt_cmp {op : CmpOp} {t : TE} (h : PC X op a b t) (h1 : behindInMarks op b = false := by first | exact nobehind _ (by decide) (by decide) | rfl) : PT X (.Compare a [op] [b] pos) (tB t) := by
  intro pins s σ H Q I hw
  refine wpAny_isTrue_Compare1 (thn (h pins s σ H _ I hw) fun v s1 h1 => thn h1 fun u s2 h2 => thn h2 fun c s3 ⟨x, H1, I1, r1, q1⟩ => ?_) h1
  obtain ⟨d, rfl, q⟩ := q1
  cases r1
  exact wpAny_truthy_bool ⟨H1, I1, q⟩
/-- an expression whose value is a bool, as a test -/
theorem pt_val {e : Expr} {t : TE} (h : PE X e t) (he : ∀ whole, isTrue e X.env whole = (do let v ← whole; standAt e.pos; holding [v] (truthy v)) := by intro _; rfl) : PT X e (tB t) := by
  intro pins s σ H Q I hw
  refine isTrue_plain (thn (h pins s σ H _ I hw) fun v s1 ⟨x, H1, I1, r1, q1⟩ => ?_) (he _)
  obtain ⟨d, rfl, q⟩ := q1
  cases r1
  exact wpAny_truthy_bool ⟨H1, I1, q⟩

/-! ### and, or, not -/
variable {tA tB' : TT} {rest : List Expr}
def tAnd (t u : TT) : TT := fun σ H Q => t σ H fun c H1 => if c = true then u σ H1 Q else Q false H1
def tOr (t u : TT) : TT := fun σ H Q => t σ H fun c H1 => if c = true then Q true H1 else u σ H1 Q
def tNot (t : TT) : TT := fun σ H Q => t σ H fun c H1 => Q (!c) H1
theorem pw_and1 (ha : PT X a tA) : PW X (.BoolOp .And [a] pos) tA := by
  intro wh pins s σ H Q I h
  refine isTrue_and (thn (ha pins s σ H Q I h) fun c s1 e => ?_)
  cases c with
  | true => exact isTrue_and_nil e
  | false => exact e
theorem pw_or1 (ha : PT X a tA) : PW X (.BoolOp .Or [a] pos) tA := by
  intro wh pins s σ H Q I h
  refine isTrue_or (thn (ha pins s σ H Q I h) fun c s1 e => ?_)
  cases c with
  | false => exact isTrue_or_nil e
  | true => exact e
theorem pw_and (ha : PT X a tA) (hb : PW X (.BoolOp .And (b :: rest) pos) tB') : PW X (.BoolOp .And (a :: b :: rest) pos) (tAnd tA tB') := by
  intro wh pins s σ H Q I h
  refine isTrue_and (thn (ha pins s σ H _ I h) fun c s1 ⟨H1, I1, q1⟩ => ?_)
  cases c with
  | true => exact hb wh pins s1 σ H1 Q I1 q1
  | false => exact ⟨H1, I1, q1⟩
theorem pw_or (ha : PT X a tA) (hb : PW X (.BoolOp .Or (b :: rest) pos) tB') : PW X (.BoolOp .Or (a :: b :: rest) pos) (tOr tA tB') := by
  intro wh pins s σ H Q I h
  refine isTrue_or (thn (ha pins s σ H _ I h) fun c s1 ⟨H1, I1, q1⟩ => ?_)
  cases c with
  | true => exact ⟨H1, I1, q1⟩
  | false => exact hb wh pins s1 σ H1 Q I1 q1
theorem pt_not (ha : PT X a tA) : PT X (.UnaryOp .Not a pos) (tNot tA) := by
  intro pins s σ H Q I h
  exact isTrue_not (ha pins s σ H (fun c H1 => Q (!c) H1) I h)
/-- .. as values (bools) -/
def tAndV (ta tb : TE) : TE := fun σ H Q => ta σ H fun x H1 => ∃ c, x = .bl c ∧ if c = true then tb σ H1 Q else Q (.bl false) H1
def tOrV (ta tb : TE) : TE := fun σ H Q => ta σ H fun x H1 => ∃ c, x = .bl c ∧ if c = true then Q (.bl true) H1 else tb σ H1 Q
def tNotV (ta : TE) : TE := fun σ H Q => ta σ H fun x H1 => ∃ c, x = .bl c ∧ Q (.bl (!c)) H1
theorem pe_one {op} {t : TE} (h : PE X a t) : PE X (.BoolOp op [a] pos) t := fun pins s σ H Q I hw => BoolOp_one (h pins s σ H Q I hw)
theorem pe_and (ha : PE X a ta) (hb : PE X (.BoolOp .And (b :: rest) pos) tb) : PE X (.BoolOp .And (a :: b :: rest) pos) (tAndV ta tb) := by
  intro pins s σ H Q I h
  refine BoolOp_and (thn (ha pins s σ H _ I h) fun v s1 ⟨x, H1, I1, r1, q1⟩ => ?_)
  obtain ⟨c, rfl, q1⟩ := q1
  cases r1
  refine wpAny_truthy_bool ?_
  cases c with
  | true => exact hb pins s1 σ H1 Q I1 q1
  | false => exact ⟨.bl false, H1, I1, rfl, q1⟩
theorem pe_or (ha : PE X a ta) (hb : PE X (.BoolOp .Or (b :: rest) pos) tb) : PE X (.BoolOp .Or (a :: b :: rest) pos) (tOrV ta tb) := by
  intro pins s σ H Q I h
  refine BoolOp_or (thn (ha pins s σ H _ I h) fun v s1 ⟨x, H1, I1, r1, q1⟩ => ?_)
  obtain ⟨c, rfl, q1⟩ := q1
  cases r1
  refine wpAny_truthy_bool ?_
  cases c with
  | false => exact hb pins s1 σ H1 Q I1 q1
  | true => exact ⟨.bl true, H1, I1, rfl, q1⟩
theorem pe_not (ha : PE X a ta) : PE X (.UnaryOp .Not a pos) (tNotV ta) := by
  intro pins s σ H Q I h
  refine UnaryOp_ (thn (ha pins s σ H _ I h) fun v s1 ⟨x, H1, I1, r1, q1⟩ => ?_)
  obtain ⟨c, rfl, q1⟩ := q1
  cases r1
  exact not_of (wpAny_truthy_bool ⟨.bl (!c), H1, I1, rfl, q1⟩)
/-- a if t else b -/
def tIf (t : TT) (ta tb : TE) : TE := fun σ H Q => t σ H fun c H1 => if c = true then ta σ H1 Q else tb σ H1 Q
theorem pe_ifExp {c : Expr} (hc : PT X c tA) (ha : PE X a ta) (hb : PE X b tb) : PE X (.IfExp c a b pos) (tIf tA ta tb) := by
  intro pins s σ H Q I h
  refine wpAny_IfExp (thn (hc pins s σ H _ I h) fun d s1 ⟨H1, I1, q1⟩ => ?_)
  cases d with
  | true => exact ha pins s1 σ H1 Q I1 q1
  | false => exact hb pins s1 σ H1 Q I1 q1
end
end L2

namespace L2
open PySem PySem.Spec PyProof.Rows

/-! ### a list, a tuple that is read: tracked, frozen, or an object of the module -/
def SqL (K : PySem.W.Frag) (H : Hp) (a : Addr) (xs : List V) : Prop :=
  Rd H a (.lst xs) ∨
    ∃ (o : Obj) (its : Array Value) (n : Nat), K.lookup a = some o ∧ o.cls = .type "list" ∧ o.dict = none ∧ o.data = .seq its n ∧ its.size ≤ sizeLine ∧ Vals xs its.toList
def SqT (K : PySem.W.Frag) (H : Hp) (a : Addr) (xs : List V) : Prop :=
  Rd H a (.tup xs) ∨
    ∃ (o : Obj) (its : Array Value) (n : Nat), K.lookup a = some o ∧ o.cls = .type "tuple" ∧ o.data = .seq its n ∧ its.size ≤ sizeLine ∧ Vals xs its.toList
def absV : Value → Option V
  | .none => some .non
  | .bool b => some (.bl b)
  | .int i _ => some (.int i)
  | .str x _ => some (.str x)
  | .bytes b _ => some (.byt b)
  | .float b _ => some (.flt b)
  | .ref a => some (.ref a)
  | .type n => some (.ty n)
  | _ => none
theorem RelV.abs {x : V} {u : Value} (r : RelV x u) : absV u = some x := by
  cases x with
  | non => cases r; rfl
  | bl _ => cases r; rfl
  | int _ => obtain ⟨t, rfl⟩ := r; rfl
  | str _ => obtain ⟨t, rfl⟩ := r; rfl
  | byt _ => obtain ⟨t, rfl⟩ := r; rfl
  | flt _ => obtain ⟨t, rfl⟩ := r; rfl
  | ref _ => cases r; rfl
  | ty _ => cases r; rfl
theorem RelV.inj {x y : V} {u : Value} (r : RelV x u) (q : RelV y u) : x = y := Option.some.inj (r.abs.symm.trans q.abs)
theorem Vals.inj : ∀ {xs ys : List V} {us : List Value}, Vals xs us → Vals ys us → xs = ys
  | _, _, _, .nil, .nil => rfl
  | _, _, _, .cons r t, .cons r' t' => by rw [r.inj r', Vals.inj t t']
section
variable {X : Cx} {pins : List (Addr × Obj)} {σ : St} {H : Hp} {s : Shared} {a : Addr} {xs ys : List V}
theorem SqL.of {K : PySem.W.Frag} (h : H a = some (.lst xs)) : SqL K H a xs := .inl (.inl h)
theorem SqT.of {K : PySem.W.Frag} (h : H a = some (.tup xs)) : SqT K H a xs := .inl (.inl h)
theorem Inv.list (I : Inv X pins σ H s) (h : SqL X.K H a xs) : ∃ its : List Value, Vals xs its ∧ PlainL s.heap a its.toArray ∧ xs.length ≤ sizeLine := by
  rcases h with h | ⟨o, its, n, hk, hc, hd, hs, hz, r⟩
  · obtain ⟨z, its, n, r, e⟩ := h.ok I.hok
    exact ⟨its, r, ⟨_, n, e, rfl, rfl, rfl⟩, z⟩
  · refine ⟨its.toList, r, ⟨o, n, I.kIn a o hk, hc, hd, by simpa using hs⟩, ?_⟩
    have e := r.length
    simp only [Array.length_toList] at e
    omega
theorem Inv.tuple (I : Inv X pins σ H s) (h : SqT X.K H a xs) : ∃ its : List Value, Vals xs its ∧ IsTup s.heap a its.toArray ∧ xs.length ≤ sizeLine := by
  rcases h with h | ⟨o, its, n, hk, hc, hs, hz, r⟩
  · obtain ⟨z, its, r, p⟩ := h.ok I.hok
    exact ⟨its, r, p, z⟩
  · refine ⟨its.toList, r, ⟨o, I.kIn a o hk, hc, n, by simpa using hs⟩, ?_⟩
    have e := r.length
    simp only [Array.length_toList] at e
    omega
theorem Inv.list_inj (I : Inv X pins σ H s) (h : SqL X.K H a xs) (h' : SqL X.K H a ys) : xs = ys := by
  obtain ⟨its, r, ⟨o, n, e, _, _, d⟩, _⟩ := I.list h
  obtain ⟨its', r', ⟨o', n', e', _, _, d'⟩, _⟩ := I.list h'
  rw [e] at e'; cases e'
  rw [d] at d'
  injection d' with d1 _
  have : its = its' := by simpa using congrArg Array.toList d1
  subst this
  exact r.inj r'
theorem Inv.tuple_inj (I : Inv X pins σ H s) (h : SqT X.K H a xs) (h' : SqT X.K H a ys) : xs = ys := by
  obtain ⟨its, r, ⟨o, e, _, n, d⟩, _⟩ := I.tuple h
  obtain ⟨its', r', ⟨o', e', _, n', d'⟩, _⟩ := I.tuple h'
  rw [e] at e'; cases e'
  rw [d] at d'
  injection d' with d1 _
  have : its = its' := by simpa using congrArg Array.toList d1
  subst this
  exact r.inj r'
end

/-! ### another wish about exceptions -/
abbrev Cx.wish (X : Cx) (E : Value → Shared → Prop) : Cx := { X with xe := E }
/-- no exception leaves -/
abbrev Cx.nox (X : Cx) : Cx := X.wish fun _ _ => False
theorem Cx.Ok.wish {X : Cx} (ok : X.Ok) (E : Value → Shared → Prop) : (X.wish E).Ok :=
  ⟨ok.mod, ok.kind, ok.glob, ok.blt, ok.above, ok.inj, ok.has, ok.cab, ok.hd, ok.frames, ok.stk, ok.exf, ok.bs, ok.bsz, ok.noex, ok.exfs, ok.funs, ok.frf⟩
theorem Cx.Ok.unwish {X : Cx} {E : Value → Shared → Prop} (ok : (X.wish E).Ok) : X.Ok :=
  ⟨ok.mod, ok.kind, ok.glob, ok.blt, ok.above, ok.inj, ok.has, ok.cab, ok.hd, ok.frames, ok.stk, ok.exf, ok.bs, ok.bsz, ok.noex, ok.exfs, ok.funs, ok.frf⟩
section
variable {X : Cx} {pins : List (Addr × Obj)} {σ : St} {H : Hp} {s : Shared} {E : Value → Shared → Prop}
theorem Inv.wish (I : Inv X pins σ H s) (E : Value → Shared → Prop) : Inv (X.wish E) pins σ H s := ⟨I.ok.wish E, I.os, I.bare, I.base, I.loc, I.cell, I.free, I.freeC, I.pin, I.hok, I.len⟩
theorem Inv.unwish (I : Inv (X.wish E) pins σ H s) : Inv X pins σ H s := ⟨I.ok.unwish, I.os, I.bare, I.base, I.loc, I.cell, I.free, I.freeC, I.pin, I.hok, I.len⟩
theorem SP.unwish {D : Ends} {f : Flow} {s' : Shared} (h : SP (X.wish E) pins D f s') : SP X pins D f s' := by
  cases f with
  | next => obtain ⟨σ', H', I, q⟩ := h; exact ⟨σ', H', I.unwish, q⟩
  | brk => obtain ⟨σ', H', I, q⟩ := h; exact ⟨σ', H', I.unwish, q⟩
  | cont => obtain ⟨σ', H', I, q⟩ := h; exact ⟨σ', H', I.unwish, q⟩
  | ret u => obtain ⟨v, σ', H', I, r, q⟩ := h; exact ⟨v, σ', H', I.unwish, r, q⟩
theorem PE.nox {e : Expr} {t : TE} (h : PE X.nox e t) : PE X e t := fun pins s σ H Q I hw =>
  wpAny_mono (h pins s σ H Q (I.wish _) hw) (fun _ _ ⟨v, H', I', r, q⟩ => ⟨v, H', I'.unwish, r, q⟩) fun _ _ z => False.elim z
theorem PT.nox {e : Expr} {t : TT} (h : PT X.nox e t) : PT X e t := fun pins s σ H Q I hw =>
  wpAny_mono (h pins s σ H Q (I.wish _) hw) (fun _ _ ⟨H', I', q⟩ => ⟨H', I'.unwish, q⟩) fun _ _ z => False.elim z
theorem PSs.nox {st : List Stmt} {t : TS} (h : PSs X.nox st t) : PSs X st t := fun pins s σ H D I hw =>
  wpAny_mono (h pins s σ H D (I.wish _) hw) (fun _ _ q => q.unwish) fun _ _ z => False.elim z
end

/-! ### blocks and small statements -/
section
variable {X : Cx} {st : Stmt} {rest : List Stmt} {t u : TS} {e : Expr} {te : TE} {pos : Pos}
def tNext : TS := fun D σ H => D.nx σ H
def tSeq (t u : TS) : TS := fun D σ H => t { D with nx := u D } σ H
theorem pss_nil : PSs X [] tNext := fun _ _ σ H _ I h => wpAny_execs_nil ⟨σ, H, I, h⟩
theorem pss_cons (h1 : PS X st t) (h2 : PSs X rest u) : PSs X (st :: rest) (tSeq t u) := by
  intro pins s σ H D I h
  refine wpAny_execs_cons (thn (h1 pins s σ H { D with nx := u D } I h) fun f s1 q => ?_)
  cases f with
  | next =>
    obtain ⟨σ', H', I', q⟩ := q
    exact h2 pins s1 σ' H' D I' q
  | ret v => exact q
  | brk => exact q
  | cont => exact q
theorem pss_one (h1 : PS X st t) : PSs X [st] t := by
  intro pins s σ H D I h
  refine wpAny_execs_cons (thn (h1 pins s σ H D I h) fun f s1 q => ?_)
  cases f with
  | next => exact wpAny_execs_nil q
  | ret v => exact q
  | brk => exact q
  | cont => exact q
def tBreak : TS := fun D σ H => D.bk σ H
def tCont : TS := fun D σ H => D.ct σ H
theorem ps_pass : PS X (.Pass pos) tNext := fun _ _ σ H _ I h => wpAny_Pass ⟨σ, H, I, h⟩
theorem ps_break : PS X (.Break pos) tBreak := fun _ _ σ H _ I h => wpAny_Break ⟨σ, H, I, h⟩
theorem ps_continue : PS X (.Continue pos) tCont := fun _ _ σ H _ I h => wpAny_Continue ⟨σ, H, I, h⟩
/-- in a def's body nothing is shown -/
theorem Inv.quiet {pins : List (Addr × Obj)} {σ : St} {H : Hp} {s : Shared} (I : Inv X pins σ H s) : interactive X.env = false := by simp [interactive, I.ok.kind]
/-- a docstring -/
theorem ps_doc {x j pos pos'} : PS X (.Expr (.Constant (.str x) j pos) pos') tNext := fun _ s σ H _ I h => wpAny_Expr (Calls.Constant_str (show SP X _ _ .next { s with toks := s.toks + 1 } from ⟨σ, H, I.tok _, h⟩)) I.quiet
/-- an expression whose value is dropped -/
def tDrop (te : TE) : TS := fun D σ H => te σ H fun _ H1 => D.nx σ H1
theorem ps_expr (he : PE X e te) (hs : swapsWith e none pos.line X.env = pure false := by rfl) : PS X (.Expr e pos) (tDrop te) := by
  intro pins s σ H D I h
  exact wpAny_Expr_any (thn (he pins s σ H _ I h) fun v s1 ⟨x, H1, I1, r1, q1⟩ => ⟨σ, H1, I1, q1⟩) I.quiet hs
def tRet (te : TE) : TS := fun D σ H => te σ H D.rt
theorem ps_ret (he : PE X e te) : PS X (.Return (some e) pos) (tRet te) := by
  intro pins s σ H D I h
  exact wpAny_Return_some (thn (he pins s σ H _ I h) fun v s1 ⟨x, H1, I1, r1, q1⟩ => ⟨x, σ, H1, I1, r1, q1⟩)
def tRetN : TS := fun D _ H => D.rt .non H
theorem ps_retN : PS X (.Return none pos) tRetN := fun _ _ σ H _ I h => wpAny_Return_none ⟨.non, σ, H, I, rfl, h⟩
def tIfS (c : TT) (t u : TS) : TS := fun D σ H => c σ H fun b H1 => if b = true then t D σ H1 else u D σ H1
theorem ps_if {c : Expr} {a b : List Stmt} {tc : TT} (hc : PT X c tc) (ha : PSs X a t) (hb : PSs X b u) : PS X (.If c a b pos) (tIfS tc t u) := by
  intro pins s σ H D I h
  refine wpAny_If (thn (hc pins s σ H _ I h) fun d s1 ⟨H1, I1, q1⟩ => ?_)
  cases d with
  | true => exact ha pins s1 σ H1 D I1 q1
  | false => exact hb pins s1 σ H1 D I1 q1
/-- code that the proof never comes to -/
def tNever : TS := fun _ _ _ => False
theorem ps_never : PS X st tNever := fun _ _ _ _ _ _ h => h.elim
theorem pss_never {sts : List Stmt} : PSs X sts tNever := fun _ _ _ _ _ _ h => h.elim
end

/-! ### targets -/
abbrev TG := V → St → Hp → (St → Hp → Prop) → Prop
abbrev TGs := List V → St → Hp → (St → Hp → Prop) → Prop
def PG (X : Cx) (target : Expr) (t : TG) : Prop :=
  ∀ (pins : List (Addr × Obj)) (s : Shared) (σ : St) (H : Hp) (v : V) (u : Value) (Q : St → Hp → Prop), Inv X pins σ H s → RelV v u → t v σ H Q →
    wpAny (model X.prog X.w) X.A (assign target X.env u) (fun _ s' => ∃ σ' H', Inv X pins σ' H' s' ∧ Q σ' H') X.xe s
/-- several targets, one after another -/
def PGs (X : Cx) (ts : List Expr) (t : TGs) : Prop :=
  ∀ (pins : List (Addr × Obj)) (s : Shared) (σ : St) (H : Hp) (vs : List V) (us : List Value) (Q : St → Hp → Prop), Inv X pins σ H s → Vals vs us → t vs σ H Q →
    wpAny (model X.prog X.w) X.A (assignInOrder ((assignEach ts X.env).map (·.2)) us) (fun _ s' => ∃ σ' H', Inv X pins σ' H' s' ∧ Q σ' H') X.xe s
/-- o[i] = v, by values -/
abbrev TSet := V → V → V → Hp → (Hp → Prop) → Prop
def PSet (X : Cx) (t : TSet) : Prop :=
  ∀ (pins : List (Addr × Obj)) (s : Shared) (σ : St) (H : Hp) (o i v : V) (ov iv u : Value) (Q : Hp → Prop), Inv X pins σ H s → RelV o ov → RelV i iv → RelV v u → t o i v H Q →
    wpAny (model X.prog X.w) X.A (setItem ov iv u) (fun _ s' => ∃ H', Inv X pins σ H' s' ∧ Q H') X.xe s
/-- a op= b, by values -/
abbrev TIp := V → V → Hp → VK → Prop
def PIp (X : Cx) (op : Operator) (t : TIp) : Prop :=
  ∀ (pins : List (Addr × Obj)) (s : Shared) (σ : St) (H : Hp) (x y : V) (v u : Value) (Q : VK), Inv X pins σ H s → RelV x v → RelV y u → t x y H Q →
    wpAny (model X.prog X.w) X.A (inplaceOp op v u) (EP X pins σ Q) X.xe s
section
variable {X : Cx} {pos : Pos}
def gName (i : Nat) : TG := fun v σ H Q => Q (σ.set i (some v)) H
theorem pg_name {i : Nat} {x : Str} (hN : X.N.Nodup) (hi : X.N[i]? = some x) (hx : Loc X.env.scope x) (hf : X.fn x = true ∨ X.env.scope.names.lookup x = some .local := by first | exact .inl rfl | exact .inr rfl | assumption) : PG X (.Name x pos) (gName i) := by
  intro pins s σ H v u Q I r h
  exact wpAny_assign_Name (store_ok I hN hi hx r (fun s' I' => ⟨_, H, I', h⟩) hf)
def gNil : TGs := fun vs σ H Q => vs = [] ∧ Q σ H
def gCons (t : TG) (u : TGs) : TGs := fun vs σ H Q => ∃ v r, vs = v :: r ∧ t v σ H fun σ' H' => u r σ' H' Q
theorem pgs_nil : PGs X [] gNil := by
  intro pins s σ H vs us Q I r h
  obtain ⟨e, h⟩ := h
  subst e
  cases r
  exact assignInOrder_nil ⟨σ, H, I, h⟩
theorem pgs_cons {e : Expr} {es : List Expr} {t : TG} {u : TGs} (h1 : PG X e t) (h2 : PGs X es u)
    (hs : (assignEach (e :: es) X.env).map (·.2) = assign e X.env :: (assignEach es X.env).map (·.2) := by rfl) : PGs X (e :: es) (gCons t u) := by
  intro pins s σ H vs us Q I r h
  obtain ⟨v, vr, e1, h⟩ := h
  subst e1
  cases r with
  | cons r rr =>
    rw [hs]
    refine assignInOrder_cons (thn (h1 pins s σ H _ _ _ I r h) fun _ s1 ⟨σ1, H1, I1, q1⟩ => ?_)
    exact h2 pins s1 σ1 H1 _ _ Q I1 rr q1
/-- (a, b, ..) = a tuple of that length -/
def gTup (K : PySem.W.Frag) (n : Nat) (t : TGs) : TG := fun v σ H Q => ∃ a xs, v = .ref a ∧ SqT K H a xs ∧ xs.length = n ∧ t xs σ H Q
theorem pg_tup {es : List Expr} {k : Nat} {t : TGs} {n : Nat} (hc : X.calm = true) (h : PGs X es t)
    (hn : (assignEach es X.env).length = n := by rfl) (hst : (assignEach es X.env).findIdx? (·.1) = none := by rfl) : PG X (.Tuple es k pos) (gTup X.K n t) := by
  intro pins s σ H v u Q I r hw
  obtain ⟨a, xs, e1, hq, hl, hw⟩ := hw
  subst e1
  cases r
  obtain ⟨its, rv, ht, hz⟩ := I.tuple hq
  refine assign_Tuple_tuple (I.ok.hd hc) ht (by simp [hn, ← hl, rv.length]) hst fun h' hx => ?_
  have I1 : Inv X pins σ H { s with heap := h' } := I.kept (t' := s.toks) fun b o e => hx b o (Nat.ne_of_lt (Heap.lt_size e)) e
  exact h pins _ σ H xs _ Q I1 (by simpa using rv) hw
/-- o[i] = .. -/
def gSub (to ti : TE) (t : TSet) : TG := fun v σ H Q => to σ H fun o H1 => ti σ H1 fun i H2 => t o i v H2 fun H3 => Q σ H3
theorem pg_sub {o i : Expr} {to ti : TE} {t : TSet} (ho : PE X o to) (hi : PE X i ti) (hs : PSet X t)
    (ha : ∀ v, assign (.Subscript o i pos) X.env v = (do
      let ov ← holding [v] (eval o X.env)
      let iv ← holding [v, ov] (eval i X.env)
      standAt pos
      holding [v, ov, iv] (setItem ov iv v)
      release [v, ov, iv] []) := by intro _; rfl) : PG X (.Subscript o i pos) (gSub to ti t) := by
  intro pins s σ H v u Q I r h
  rw [ha]
  refine wpAny_bind (wpAny_holding (thn (ho pins s σ H _ I h) fun ov s1 ⟨x, H1, I1, r1, q1⟩ => ?_))
  refine wpAny_bind (wpAny_holding (thn (hi pins s1 σ H1 _ I1 q1) fun iv s2 ⟨y, H2, I2, r2, q2⟩ => ?_))
  refine wpAny_bind (wpAny_standAt (wpAny_bind (wpAny_holding (thn (hs pins s2 σ H2 x y v ov iv u _ I2 r1 r2 r q2) fun _ s3 ⟨H3, I3, q3⟩ => ?_))))
  exact wpAny_release ⟨σ, H3, I3, q3⟩
/-- target = value -/
def tAsg (te : TE) (g : TG) : TS := fun D σ H => te σ H fun x H1 => g x σ H1 D.nx
theorem ps_asg {tg e : Expr} {te : TE} {g : TG} (he : PE X e te) (hg : PG X tg g) (hs : swapsWithSole [tg] e pos.line X.env = pure false := by rfl) (hw : swappedStores [tg] e X.env = pure none := by rfl)
    (h1 : (assignEach [tg] X.env).map (·.2) = [assign tg X.env] := by rfl) : PS X (.Assign [tg] e pos) (tAsg te g) := by
  intro pins s σ H D I h
  refine wpAny_Assign_stores (thn (he pins s σ H _ I h) fun v s1 ⟨x, H1, I1, r1, q1⟩ => ?_) hs hw
  rw [h1]
  exact thn (hg pins s1 σ H1 x v _ I1 r1 q1) fun _ s2 q => q
/-- name = value -/
theorem ps_set {i : Nat} {x : Str} {e : Expr} {te : TE} {pos' : Pos} (hN : X.N.Nodup) (hi : X.N[i]? = some x) (hx : Loc X.env.scope x) (he : PE X e te) (hs : swapsWith e (some (.Name x pos')) pos.line X.env = pure false := by rfl) (hf : X.fn x = true ∨ X.env.scope.names.lookup x = some .local := by first | exact .inl rfl | exact .inr rfl | assumption) :
    PS X (.Assign [.Name x pos'] e pos) (tAsg te (gName i)) := by
  intro pins s σ H D I h
  refine wpAny_Assign_Name (thn (he pins s σ H _ I h) fun v s1 ⟨y, H1, I1, r1, q1⟩ => ?_) hs
  exact store_ok I1 hN hi hx r1 (fun s2 I2 => ⟨_, H1, I2, q1⟩) hf
/-- a, b = x, y with plain local names: stored from the right; the pair itself is not tracked (the opening rows as in PyProof/Rows/TupAssign.lean:23) -/
def tPar (i j : Nat) (ta : TA) : TS := fun D σ H => ta σ H fun vs H1 => ∃ v w, vs = [v, w] ∧ D.nx ((σ.set i (some v)).set j (some w)) H1
theorem ps_par {i j : Nat} {x y : Str} {a b : Expr} {ta : TA} {px py pt : Pos} {kt k2 pt2} (hc : X.calm = true) (hN : X.N.Nodup) (hi : X.N[i]? = some x) (hj : X.N[j]? = some y) (hij : i ≠ j)
    (hx : X.env.scope.names.lookup x = some .local) (hy : X.env.scope.names.lookup y = some .local) (ha : PA X [a, b] ta)
    (hw : swappedStores [.Tuple [.Name x px, .Name y py] kt pt] (.Tuple [a, b] k2 pt2) X.env = pure (some [x, y]))
    (hs : swapsWithSole [.Tuple [.Name x px, .Name y py] kt pt] (.Tuple [a, b] k2 pt2) pos.line X.env = pure false := by rfl) :
    PS X (.Assign [.Tuple [.Name x px, .Name y py] kt pt] (.Tuple [a, b] k2 pt2) pos) (tPar i j ta) := by
  intro pins s σ H D I h
  rw [exec_Assign_arm]
  refine wpAny_bind (wpAny_standAt ?_)
  rw [hs]
  refine wpAny_bind (wpAny_pure ?_)
  rw [if_neg (by decide)]
  refine wpAny_bind (Tuple_ (thn (ha _ pins s σ H _ I h) fun us s1 ⟨vs, H1, I1, r1, q1⟩ => ?_))
  obtain ⟨v, w, e1, q1⟩ := q1
  subst e1
  obtain ⟨u1, u2, rfl, rv, rw'⟩ : ∃ u1 u2, us = [u1, u2] ∧ RelV v u1 ∧ RelV w u2 := by
    cases r1 with
    | cons p q =>
      cases q with
      | cons p' q' =>
        cases q'
        exact ⟨_, _, rfl, p, p'⟩
  refine wpAny_newObj_type ?_ (by show 2 ≤ sizeLine; decide)
  have I2 : Inv X pins σ H1 { s1 with heap := s1.heap.push { cls := .type "tuple", data := .seq [u1, u2].toArray } } := I1.kept (t' := s1.toks) fun b o e => Heap.get?_push_of_some _ e
  rw [hw]
  refine wpAny_bind (wpAny_pure ?_)
  show wpAny (model X.prog X.w) X.A (do rule "assign.swapped-stores"; let items ← unpackItems (.ref s1.heap.objs.size) 2 none; assignInOrder [fun v => bindName X.env y v, fun v => bindName X.env x v] items.reverse; pure Flow.next) _ _ _
  refine wpAny_bind (wpAny_rule (wpAny_bind (unpackItems_tuple (items := #[u1, u2]) (I.ok.hd hc) (IsTup.new s1.heap _) fun h' hx' => ?_)))
  have I3 := I2.kept (h' := h') (t' := s1.toks) fun b o e => hx' b o (Nat.ne_of_lt (Heap.lt_size e)) e
  show wpAny _ _ (assignInOrder [fun v => bindName X.env y v, fun v => bindName X.env x v] [u2, u1] >>= fun _ => pure Flow.next) _ _ _
  refine wpAny_bind (assignInOrder_cons (wpAny_bindName (store_ok I3 hN hj (.inl hy) rw' (fun s2 I4 => ?_) (.inr hy))))
  refine assignInOrder_cons (wpAny_bindName (store_ok I4 hN hi (.inl hx) rv (fun s3 I5 => assignInOrder_nil (wpAny_pure ?_)) (.inr hx)))
  rw [List.set_comm _ _ (Ne.symm hij)] at I5
  exact ⟨_, H1, I5, q1⟩
/-- name op= e -/
def tAug (i : Nat) (te : TE) (ti : TIp) : TS := fun D σ H => ∃ x, σ[i]? = some (some x) ∧ te σ H fun y H1 => ti x y H1 fun z H2 => D.nx (σ.set i (some z)) H2
theorem ps_aug {i : Nat} {x : Str} {e : Expr} {te : TE} {op : Operator} {ti : TIp} {pos' : Pos} (hN : X.N.Nodup) (hi : X.N[i]? = some x) (hx : Loc X.env.scope x) (he : PE X e te) (ho : PIp X op ti) (hf : X.fn x = true ∨ X.env.scope.names.lookup x = some .local := by first | exact .inl rfl | exact .inr rfl | assumption) :
    PS X (.AugAssign (.Name x pos') op e pos) (tAug i te ti) := by
  intro pins s σ H D I h
  obtain ⟨v, e1, h⟩ := h
  obtain ⟨m, hn, hl⟩ := I.loc
  have vis : Vis X.env.scope x := by rcases hx with k | k; exact .inl k; exact .inr (.inl k)
  obtain ⟨u, r, l⟩ := hl i x v hi e1 vis
  refine wpAny_AugAssign_Name ?_
  have go : wpAny (model X.prog X.w) X.A (eval e X.env) (fun w s₂ => wpAny (model X.prog X.w) X.A (inplaceOp op u w) (fun r s₃ => wpAny (model X.prog X.w) X.A (storeName X.env x r) (fun _ => SP X pins D .next) X.xe s₃) X.xe s₂) X.xe s := by
    refine thn (he pins s σ H _ I h) fun w s1 ⟨y, H1, I1, r1, q1⟩ => ?_
    refine thn (ho pins s1 σ H1 v y u w _ I1 r r1 q1) fun z s2 ⟨zv, H2, I2, r2, q2⟩ => ?_
    exact store_ok I2 hN hi hx r2 (fun s3 I3 => ⟨_, H2, I3, q2⟩) hf
  rcases l with ⟨hk, hm⟩ | ⟨hk, c, hc, hcell⟩
  · exact wpAny_loadName_local I.ok.kind hk hn hm go
  · rcases hk with hk | hk
    · exact wpAny_loadName_cell I.ok.kind hk hc hcell go
    · rcases hx with k | k
      · have : X.env.scope.names.lookup x = some .free := hk
        rw [k] at this; cases this
      · have : X.env.scope.names.lookup x = some .free := hk
        rw [k] at this; cases this
/-- o[i] op= e -/
def tAugS (to ti te : TE) (tget : V → V → Hp → VK → Prop) (tip : TIp) (tset : TSet) : TS := fun D σ H => to σ H fun o H1 => ti σ H1 fun i H2 => tget o i H2 fun x H3 => te σ H3 fun y H4 => tip x y H4 fun z H5 => tset o i z H5 fun H6 => D.nx σ H6
/-- o[i], by values -/
def PGet (X : Cx) (t : V → V → Hp → VK → Prop) : Prop :=
  ∀ (pins : List (Addr × Obj)) (s : Shared) (σ : St) (H : Hp) (o i : V) (ov iv : Value) (Q : VK), Inv X pins σ H s → RelV o ov → RelV i iv → t o i H Q →
    wpAny (model X.prog X.w) X.A (getItem ov iv) (EP X pins σ Q) X.xe s
theorem ps_augS {o i e : Expr} {to ti te : TE} {tget : V → V → Hp → VK → Prop} {tip : TIp} {tset : TSet} {op : Operator} {tpos : Pos} (ho : PE X o to) (hi : PE X i ti) (hg : PGet X tget) (he : PE X e te) (hp : PIp X op tip) (hs : PSet X tset)
    (ha : ∀ ov iv new, augStore i ov iv new = (do holding [new, ov, iv] (setItem ov iv new); release [new, ov, iv] []; pure .next) := by intros; rfl) : PS X (.AugAssign (.Subscript o i tpos) op e pos) (tAugS to ti te tget tip tset) := by
  intro pins s σ H D I h
  refine wpAny_AugAssign_SubscriptAny (thn (ho pins s σ H _ I h) fun ov s1 ⟨x1, H1, I1, r1, q1⟩ => ?_) ha
  refine thn (hi pins s1 σ H1 _ I1 q1) fun iv s2 ⟨x2, H2, I2, r2, q2⟩ => ?_
  refine thn (hg pins s2 σ H2 x1 x2 ov iv _ I2 r1 r2 q2) fun old s3 ⟨x3, H3, I3, r3, q3⟩ => ?_
  refine thn (he pins s3 σ H3 _ I3 q3) fun v s4 ⟨x4, H4, I4, r4, q4⟩ => ?_
  refine thn (hp pins s4 σ H4 x3 x4 old v _ I4 r3 r4 q4) fun new s5 ⟨x5, H5, I5, r5, q5⟩ => ?_
  exact thn (hs pins s5 σ H5 x1 x2 x5 ov iv new _ I5 r1 r2 r5 q5) fun _ s6 ⟨H6, I6, q6⟩ => ⟨σ, H6, I6, q6⟩
/-- ints -/
def ipI (f : Int → Int → Int) : TIp := fun x y H Q => ∃ i j, x = .int i ∧ y = .int j ∧ Q (.int (f i j)) H
theorem ip_add : PIp X .Add (ipI fun i j => i + j) := by
  intro pins s σ H x y v u Q I r1 r2 h
  obtain ⟨i, j, e1, e2, q⟩ := h
  subst e1; subst e2
  obtain ⟨t, rfl⟩ := r1
  obtain ⟨t', rfl⟩ := r2
  exact iadd_int ⟨.int _, H, I.tok _, ⟨_, rfl⟩, q⟩
theorem ip_sub : PIp X .Sub (ipI fun i j => i - j) := by
  intro pins s σ H x y v u Q I r1 r2 h
  obtain ⟨i, j, e1, e2, q⟩ := h
  subst e1; subst e2
  obtain ⟨t, rfl⟩ := r1
  obtain ⟨t', rfl⟩ := r2
  exact isub_int ⟨.int _, H, I.tok _, ⟨_, rfl⟩, q⟩
end

/-! ### while -/
section
variable {X : Cx} {pos : Pos}
/-- the invariant W with its measure -/
def tWhile (c : TT) (tb : TS) : TS := fun D σ H => ∃ W : Nat → St → Hp → Prop, (∃ m, W m σ H) ∧ ∀ m σ H, W m σ H →
  c σ H fun b H1 => if b = true then ∃ N : St → Hp → Prop, (∀ σ' H', N σ' H' → ∃ m', m' < m ∧ W m' σ' H') ∧ tb { D with nx := N, ct := N, bk := D.nx } σ H1 else D.nx σ H1
theorem ps_while {c : Expr} {body : List Stmt} {tc : TT} {tb : TS} (hp : PassesOwn (model X.prog X.w) X.A X.env X.xe) (hc : PT X c tc) (hb : PSs X body tb) : PS X (.While c body [] pos) (tWhile tc tb) := by
  intro pins s σ H D I h
  obtain ⟨W, ⟨m0, w0⟩, turn⟩ := h
  refine wpAny_While (codeAny_whileLoop (fun n s' => ∃ σ' H', Inv X pins σ' H' s' ∧ W n σ' H') ?_ m0 ⟨σ, H, I, w0⟩)
  rintro n s1 ⟨σ1, H1, I1, w1⟩
  refine wpAny_passesOwn hp (thn (hc pins s1 σ1 H1 _ I1 (turn n σ1 H1 w1)) fun b s2 ⟨H2, I2, q2⟩ => ?_)
  cases b with
  | true =>
    obtain ⟨N, hN, q2⟩ := q2
    rw [if_pos rfl]
    refine wpAny_passesOwn hp (thn (hb pins s2 σ1 H2 _ I2 q2) fun f s3 q3 => ?_)
    cases f with
    | next =>
      obtain ⟨σ3, H3, I3, n3⟩ := q3
      obtain ⟨m', hm, w3⟩ := hN σ3 H3 n3
      exact ⟨m', hm, σ3, H3, I3, w3⟩
    | cont =>
      obtain ⟨σ3, H3, I3, n3⟩ := q3
      obtain ⟨m', hm, w3⟩ := hN σ3 H3 n3
      exact ⟨m', hm, σ3, H3, I3, w3⟩
    | brk => exact q3
    | ret v => exact q3
  | false =>
    rw [if_neg Bool.false_ne_true]
    exact wpAny_execs_nil ⟨σ1, H2, I2, q2⟩
end

/-! ### what a loop or a comprehension walks -/
/-- at turn i: it yields x (the heap may grow), or it stops -/
structure It where
  go : Nat → Hp → Prop
  yld : Nat → Hp → V → Hp → Prop
  stop : Nat → Hp → Prop
/-- the iterator's own objects may turn: they are not the frame's, not pinned, younger than the entry (or a comprehension's own) -/
def FpOk (X : Cx) (pins : List (Addr × Obj)) (H : Hp) (b : Addr) : Prop :=
  H b = none ∧ b ≠ X.env.locals ∧ b ∉ X.fs ∧ (b ∈ X.ex ∨ X.s₀.heap.objs.size ≤ b) ∧ (∀ x c, X.env.cells.lookup x = some c → c ≠ b) ∧ ∀ p ∈ X.pn ++ pins, p.1 ≠ b
theorem Inv.fpOk {X : Cx} {pins : List (Addr × Obj)} {σ : St} {H H' : Hp} {s : Shared} {b : Addr} (I : Inv X pins σ H s) (hb : s.heap.objs.size ≤ b) (hn : H' b = none) : FpOk X pins H' b := by
  refine ⟨hn, Nat.ne_of_gt (Nat.lt_of_lt_of_le I.lt hb), I.nofs hb, .inr (Nat.le_trans I.sz hb), fun x c e z => ?_, fun p hp z => ?_⟩
  · obtain ⟨v, q⟩ := I.cell x c e
    exact absurd (Nat.lt_of_lt_of_le q.lt (by rw [z]; exact hb)) (Nat.lt_irrefl _)
  · exact absurd (Nat.lt_of_lt_of_le (Heap.lt_size (I.pin p hp).1) (by rw [z]; exact hb)) (Nat.lt_irrefl _)
structure Turn (P : Program) (w : World) (K : PySem.W.Frag) (tg : Expr) (J : It) (fp : List Addr) (it : Addr) (tn : Nat → Heap → Prop) : Prop where
  mem : it ∈ fp
  obj : ∀ i h, tn i h → ∀ b ∈ fp, ∃ o, h.get? b = some o ∧ ∀ v, o.data ≠ .cell v
  keep : ∀ i h h', tn i h → (∀ b ∈ fp, ∀ o, h.get? b = some o → h'.get? b = some o) → tn i h'
  item : ∀ (X : Cx), X.prog = P → X.w = w → X.K = K → X.calm = true → ∀ (i : Nat) (pins : List (Addr × Obj)) (s : Shared) (σ : St) (H : Hp) (E : Value → Shared → Prop), Inv X pins σ H s → (∀ b ∈ fp, FpOk X pins H b) → tn i s.heap → J.go i H →
    wpAny (model P w) X.A (pyNext (.ref it)) (fun r s1 => ∃ u, r = some u ∧
      wpAny (model P w) X.A (letOwnedTupleGo tg (.ref it) u) (fun _ s2 => ∃ x H', Inv X pins σ H' s2 ∧ RelV x u ∧ J.yld i H x H' ∧ tn (i + 1) s2.heap ∧ ∀ b ∈ fp, H' b = none) E s1) E s
  done : ∀ (X : Cx), X.prog = P → X.w = w → X.K = K → X.calm = true → ∀ (i : Nat) (pins : List (Addr × Obj)) (s : Shared) (σ : St) (H : Hp) (E : Value → Shared → Prop), Inv X pins σ H s → (∀ b ∈ fp, FpOk X pins H b) → tn i s.heap → J.stop i H →
    wpAny (model P w) X.A (pyNext (.ref it)) (fun r s1 => r = none ∧ Inv X pins σ H s1) E s
  self : ∀ (A : Around) (i : Nat) (s : Shared) (Q : Value → Shared → Prop) (E : Value → Shared → Prop), tn i s.heap → Q (.ref it) s → wpAny (model P w) A (pyIter (.ref it)) Q E s
abbrev TI := St → Hp → (It → Hp → Prop) → Prop
/-- an iterator has come -/
def PIE (X : Cx) (pins : List (Addr × Obj)) (σ : St) (tg : Expr) (R : It → Hp → Prop) (itv : Value) (s2 : Shared) : Prop :=
  ∃ (it : Addr) (fp : List Addr) (tn : Nat → Heap → Prop) (J : It) (H' : Hp), itv = .ref it ∧ Inv X pins σ H' s2 ∧ Turn X.prog X.w X.K tg J fp it tn ∧ tn 0 s2.heap ∧ (∀ b ∈ fp, FpOk X pins H' b) ∧ R J H'
def PI (X : Cx) (tg iter : Expr) (wi : TI) : Prop :=
  ∀ (pins : List (Addr × Obj)) (s : Shared) (σ : St) (H : Hp) (R : It → Hp → Prop), Inv X pins σ H s → wi σ H R →
    wpAny (model X.prog X.w) X.A (eval iter X.env) (fun v s1 => wpAny (model X.prog X.w) X.A (pyIter v) (PIE X pins σ tg R) X.xe s1) X.xe s

/-- the step ahead of the store is nothing for an iterator that keeps no tuple -/
theorem go_of {M : Model} {A : Around} {E : Value → Shared → Prop} {s : Shared} {tg : Expr} {it : Addr} {u : Value} {o : Obj} {n : String} {vs : Array Value} {Q : Unit → Shared → Prop} (ho : s.heap.get? it = some o) (hc : o.cls = .type n) (hd : o.data = .fields vs)
    (hn : ["enumerate", "zip", "dict_itemiterator", "dict_reverseitemiterator", "odict_iterator", "itertools.zip_longest", "itertools.pairwise"].contains n = false) (hQ : Q () s) : wpAny M A (letOwnedTupleGo tg (.ref it) u) Q E s := by
  unfold letOwnedTupleGo
  cases tg <;> first
    | exact wpAny_pure hQ
    | (cases u <;> first
        | exact wpAny_pure hQ
        | (refine wpAny_bind (wpAny_load ho ?_)
           rw [hc, hd]
           show wpAny M A (if (["enumerate", "zip", "dict_itemiterator", "dict_reverseitemiterator", "odict_iterator", "itertools.zip_longest", "itertools.pairwise"].contains n && vs[0]? == some (rawInt _)) = true then _ else _) Q E s
           rw [if_neg (by intro h; rw [hn, Bool.false_and] at h; cases h)]
           exact wpAny_pure hQ))

/-- the list at a, as it stands at each turn (a loop may append to it) -/
def Itl (K : PySem.W.Frag) (a : Addr) : It :=
  ⟨fun i H => ∃ xs x, SqL K H a xs ∧ xs[i]? = some x, fun i H x H' => H' = H ∧ ∀ xs, SqL K H a xs → xs[i]? = some x, fun i H => ∃ xs, SqL K H a xs ∧ xs.length ≤ i⟩
def Itt (K : PySem.W.Frag) (a : Addr) : It :=
  ⟨fun i H => ∃ xs x, SqT K H a xs ∧ xs[i]? = some x, fun i H x H' => H' = H ∧ ∀ xs, SqT K H a xs → xs[i]? = some x, fun i H => ∃ xs, SqT K H a xs ∧ xs.length ≤ i⟩
/-- lo, lo + 1, .. (n of them) -/
def Itr (lo : Int) (n : Nat) : It := ⟨fun i _ => i < n, fun i H x H' => H' = H ∧ x = .int (lo + i), fun i _ => n ≤ i⟩
theorem turn_list {P : Program} {w : World} {K : PySem.W.Frag} {tg : Expr} (a it : Addr) : Turn P w K tg (Itl K a) [it] it (fun i h => h.IsListIter it a i) where
  mem := by simp
  obj := fun i h st b hb => by
    have e : b = it := by simpa using hb
    subst e
    obtain ⟨o, e, c, d⟩ := st
    exact ⟨o, e, fun v z => by rw [d] at z; cases z⟩
  keep := fun i h h' st k => st.at fun o e => k it (by simp) o e
  item := by
    intro X hP hw hK hc i pins s σ H E I hf st hg
    subst hP hw hK
    obtain ⟨xs, x, hq, hx⟩ := hg
    obtain ⟨its, rv, p, hz⟩ := I.list hq
    obtain ⟨u, hu, ru⟩ := rv.get hx
    obtain ⟨f0, f1, f2, f3, f4, f5⟩ := hf it (by simp)
    refine wpAny_pyNext_list_item st p.isList (x := u) (by simpa using hu) fun h' st' sb => ?_
    have I1 : Inv X pins σ H { s with heap := h' } := I.turned (t' := s.toks) (fun b o hb e => (sb.2 b hb).trans e) f0 f1 f3 f4 f5
    obtain ⟨o, e, c, d⟩ := id st'
    exact ⟨u, rfl, go_of (s := { s with heap := h' }) e c d (by decide) ⟨x, H, I1, ru, ⟨rfl, fun ys hy => by rw [I.list_inj hy hq]; exact hx⟩, st', fun b hb => (hf b hb).1⟩⟩
  done := by
    intro X hP hw hK hc i pins s σ H E I hf st hg
    subst hP hw hK
    obtain ⟨xs, hq, hx⟩ := hg
    obtain ⟨its, rv, p, hz⟩ := I.list hq
    obtain ⟨f0, f1, f2, f3, f4, f5⟩ := hf it (by simp)
    have hl := rv.length
    exact wpAny_pyNext_list_end (I.ok.hd hc) st p.isList (by simp; omega) fun h' eb => ⟨rfl, I.turned (t' := s.toks) (fun b o hb e => eb b o hb e) f0 f1 f3 f4 f5⟩
  self := fun _ _ _ _ _ st h => wpAny_pyIter_listiter st h
theorem turn_tuple {P : Program} {w : World} {K : PySem.W.Frag} {tg : Expr} (a it : Addr) : Turn P w K tg (Itt K a) [it] it (fun i h => h.IsTupleIter it a i) where
  mem := by simp
  obj := fun i h st b hb => by
    have e : b = it := by simpa using hb
    subst e
    obtain ⟨o, e, c, d⟩ := st
    exact ⟨o, e, fun v z => by rw [d] at z; cases z⟩
  keep := fun i h h' st k => st.at fun o e => k it (by simp) o e
  item := by
    intro X hP hw hK hc i pins s σ H E I hf st hg
    subst hP hw hK
    obtain ⟨xs, x, hq, hx⟩ := hg
    obtain ⟨its, rv, p, hz⟩ := I.tuple hq
    obtain ⟨u, hu, ru⟩ := rv.get hx
    obtain ⟨f0, f1, f2, f3, f4, f5⟩ := hf it (by simp)
    refine wpAny_pyNext_tuple_item st (show s.heap.IsTuple a its.toArray from p) (x := u) (by simpa using hu) fun h' st' sb => ?_
    have I1 : Inv X pins σ H { s with heap := h' } := I.turned (t' := s.toks) (fun b o hb e => (sb.2 b hb).trans e) f0 f1 f3 f4 f5
    obtain ⟨o, e, c, d⟩ := id st'
    exact ⟨u, rfl, go_of (s := { s with heap := h' }) e c d (by decide) ⟨x, H, I1, ru, ⟨rfl, fun ys hy => by rw [I.tuple_inj hy hq]; exact hx⟩, st', fun b hb => (hf b hb).1⟩⟩
  done := by
    intro X hP hw hK hc i pins s σ H E I hf st hg
    subst hP hw hK
    obtain ⟨xs, hq, hx⟩ := hg
    obtain ⟨its, rv, p, hz⟩ := I.tuple hq
    obtain ⟨f0, f1, f2, f3, f4, f5⟩ := hf it (by simp)
    have hl := rv.length
    exact wpAny_pyNext_tuple_end (I.ok.hd hc) st (show s.heap.IsTuple a its.toArray from p) (by simp; omega) fun h' eb => ⟨rfl, I.turned (t' := s.toks) (fun b o hb e => eb b o hb e) f0 f1 f3 f4 f5⟩
  self := fun _ _ _ _ _ st h => wpAny_pyIter_tupleiter st h
theorem turn_range {P : Program} {w : World} {K : PySem.W.Frag} {tg : Expr} (it : Addr) (lo : Int) (n : Nat) : Turn P w K tg (Itr lo n) [it] it (fun i h => IsRangeIter h it (lo + (i : Nat) * 1) ((n : Int) - (i : Nat)) 1) where
  mem := by simp
  obj := fun i h st b hb => by
    have e : b = it := by simpa using hb
    subst e
    exact ⟨_, st, fun v z => by
      have z' : Data.fields _ = Data.cell v := z
      cases z'⟩
  keep := fun i h h' st k => k it (by simp) _ st
  item := by
    intro X hP hw hK hc i pins s σ H E I hf st hg
    subst hP hw hK
    obtain ⟨f0, f1, f2, f3, f4, f5⟩ := hf it (by simp)
    have W := Walks.range (prog := X.prog) (w := X.w) (I.ok.hd hc) it lo 1 n
    refine W.item i s _ _ hg st fun v h' tk hv st' kk => ?_
    obtain ⟨t, rfl⟩ := hv
    have I1 : Inv X pins σ H { s with heap := h', toks := tk } := I.turned (fun b o hb e => kk b o (by simpa using hb) e) f0 f1 f3 f4 f5
    refine ⟨_, rfl, go_of (s := { s with heap := h', toks := tk }) (n := "range_iterator") st' rfl rfl (by decide) ⟨.int (lo + i), H, I1, ⟨t, ?_⟩, ⟨rfl, rfl⟩, st', fun b hb => (hf b hb).1⟩⟩
    rw [Int.mul_one]
  done := by
    intro X hP hw hK hc i pins s σ H E I hf st hg
    subst hP hw hK
    obtain ⟨f0, f1, f2, f3, f4, f5⟩ := hf it (by simp)
    exact wpAny_pyNext_range_end (I.ok.hd hc) st (by have : n ≤ i := hg; omega) fun h' eb => ⟨rfl, I.turned (t' := s.toks) (fun b o hb e => eb b o hb e) f0 f1 f3 f4 f5⟩
  self := fun _ _ _ _ _ st h => wpAny_pyIter_rangeiter st h
end L2

namespace L2
open PySem PySem.Spec PyProof.Rows
section
variable {X : Cx} {tg : Expr}
def iList (K : PySem.W.Frag) (tl : TE) : TI := fun σ H R => tl σ H fun x H1 => ∃ a, x = .ref a ∧ (∃ xs, SqL K H1 a xs) ∧ R (Itl K a) H1
def iTup (K : PySem.W.Frag) (tl : TE) : TI := fun σ H R => tl σ H fun x H1 => ∃ a, x = .ref a ∧ (∃ xs, SqT K H1 a xs) ∧ R (Itt K a) H1
theorem pi_list {l : Expr} {tl : TE} (hl : PE X l tl) : PI X tg l (iList X.K tl) := by
  intro pins s σ H R I h
  refine thn (hl pins s σ H _ I h) fun v s1 ⟨x, H1, I1, r1, q1⟩ => ?_
  obtain ⟨a, e, ⟨xs, hq⟩, q⟩ := q1
  subst e
  cases r1
  obtain ⟨its, rv, p, hz⟩ := I1.list hq
  refine wpAny_pyIter_list p.isList ?_
  refine ⟨s1.heap.objs.size, [s1.heap.objs.size], _, _, H1, rfl, I1.kept (t' := s1.toks) fun b o e => Heap.get?_push_of_some _ e, turn_list a _, ⟨_, Heap.get?_push_size _ rfl, rfl, rfl⟩, fun b hb => ?_, q⟩
  have e : b = s1.heap.objs.size := by simpa using hb
  subst e
  exact I1.fpOk (Nat.le_refl _) (I1.hok.fresh (Nat.le_refl _))
theorem pi_tup {l : Expr} {tl : TE} (hl : PE X l tl) : PI X tg l (iTup X.K tl) := by
  intro pins s σ H R I h
  refine thn (hl pins s σ H _ I h) fun v s1 ⟨x, H1, I1, r1, q1⟩ => ?_
  obtain ⟨a, e, ⟨xs, hq⟩, q⟩ := q1
  subst e
  cases r1
  obtain ⟨its, rv, p, hz⟩ := I1.tuple hq
  refine wpAny_pyIter_tuple (show s1.heap.IsTuple a its.toArray from p) ?_
  refine ⟨s1.heap.objs.size, [s1.heap.objs.size], _, _, H1, rfl, I1.kept (t' := s1.toks) fun b o e => Heap.get?_push_of_some _ e, turn_tuple a _, ⟨_, Heap.get?_push_size _ rfl, rfl, rfl⟩, fun b hb => ?_, q⟩
  have e : b = s1.heap.objs.size := by simpa using hb
  subst e
  exact I1.fpOk (Nat.le_refl _) (I1.hok.fresh (Nat.le_refl _))
/-- a range object just made, walked -/
theorem range_it {pins : List (Addr × Obj)} {σ : St} {H : Hp} {s : Shared} {R : It → Hp → Prop} {E : Value → Shared → Prop} {lo hi : Int} {t u v : Tok} {tk : Nat} (I : Inv X pins σ H s) (h1 : -(2 ^ 62) ≤ lo) (h2 : lo < 2 ^ 62) (h3 : -(2 ^ 62) ≤ hi) (h4 : hi < 2 ^ 62)
    (q : R (Itr lo (hi - lo).toNat) H) : wpAny (model X.prog X.w) X.A (pyIter (.ref s.heap.objs.size)) (PIE X pins σ tg R) E { s with heap := s.heap.push { cls := .type "range", data := .fields #[.int lo t, .int hi u, .int 1 v] }, toks := tk } := by
  refine wpAny_pyIter_range (IsRange.new ..) (small_one h1 h2 h3 h4) ?_
  have I1 : Inv X pins σ H { s with heap := s.heap.push { cls := .type "range", data := .fields #[.int lo t, .int hi u, .int 1 v] }, toks := tk } := I.kept fun b o e => Heap.get?_push_of_some _ e
  refine ⟨(s.heap.push { cls := .type "range", data := .fields #[.int lo t, .int hi u, .int 1 v] }).objs.size, [(s.heap.push { cls := .type "range", data := .fields #[.int lo t, .int hi u, .int 1 v] }).objs.size], _, _, H, rfl,
    I1.kept (t' := tk) fun b o e => Heap.get?_push_of_some _ e, turn_range _ lo (hi - lo).toNat, ?_, fun b hb => ?_, q⟩
  · have e1 : lo + ((0 : Nat) : Int) * 1 = lo := by simp
    have e2 : (((hi - lo).toNat : Nat) : Int) - ((0 : Nat) : Int) = Builtin.Range.rangeSize lo hi 1 := by rw [rangeSize_one]; split <;> omega
    show IsRangeIter _ _ (lo + ((0 : Nat) : Int) * 1) ((((hi - lo).toNat : Nat) : Int) - ((0 : Nat) : Int)) 1
    rw [e1, e2]
    exact Heap.get?_push_size _ rfl
  · have e : b = (s.heap.push { cls := .type "range", data := .fields #[.int lo t, .int hi u, .int 1 v] }).objs.size := by simpa using hb
    subst e
    exact I1.fpOk (Nat.le_refl _) (I1.hok.fresh (Nat.le_refl _))
def iRng1 (ta : TA) : TI := fun σ H R => ta σ H fun vs H1 => ∃ j : Int, vs = [.int j] ∧ -(2 ^ 62) ≤ j ∧ j < 2 ^ 62 ∧ R (Itr 0 j.toNat) H1
def iRng2 (ta : TA) : TI := fun σ H R => ta σ H fun vs H1 => ∃ i j : Int, vs = [.int i, .int j] ∧ (-(2 ^ 62) ≤ i ∧ i < 2 ^ 62 ∧ -(2 ^ 62) ≤ j ∧ j < 2 ^ 62) ∧ R (Itr i (j - i).toNat) H1
theorem pi_range1 {a : Expr} {ta : TA} {p pos : Pos} (hg : Gl X "range") (hm : X.mg "range" = none) (ha : PA X [a] ta) (hs : starEach [a] X.env = [(false, eval a X.env)] := by rfl) : PI X tg (.Call (.Name "range" p) [a] [] pos) (iRng1 ta) := by
  intro pins s σ H R I h
  refine Call_ (ld_blt I hg hm boot_range (PyProof.Rows.callWith_type1 (thn (ha pos pins s σ H _ I h) fun us s1 ⟨vs, H1, I1, r1, q1⟩ => ?_) hs rfl))
  obtain ⟨j, e, q1, q2, q⟩ := q1
  subst e
  cases r1 with
  | cons r rr =>
    cases rr
    obtain ⟨t, rfl⟩ := r
    exact call_range_1 (range_it I1 (by omega) (by omega) q1 q2 (by simpa using q))
theorem pi_range2 {a b : Expr} {ta : TA} {p pos : Pos} (hg : Gl X "range") (hm : X.mg "range" = none) (ha : PA X [a, b] ta) (hs : starEach [a, b] X.env = [(false, eval a X.env), (false, eval b X.env)] := by rfl) (hs2 : starEach [b] X.env = [(false, eval b X.env)] := by rfl) :
    PI X tg (.Call (.Name "range" p) [a, b] [] pos) (iRng2 ta) := by
  intro pins s σ H R I h
  refine Call_ (ld_blt I hg hm boot_range (PyProof.Rows.callWith_type1 (thn (ha pos pins s σ H _ I h) fun us s1 ⟨vs, H1, I1, r1, q1⟩ => ?_) (by rw [hs, hs2]) (by rw [hs2]; rfl)))
  obtain ⟨i, j, e, ⟨q1, q2, q3, q4⟩, q⟩ := q1
  subst e
  cases r1 with
  | cons r rr =>
    cases rr with
    | cons r' rr =>
      cases rr
      obtain ⟨t, rfl⟩ := r
      obtain ⟨t', rfl⟩ := r'
      exact call_range_2 (range_it I1 q1 q2 q3 q4 q)

/-! ### for -/
/-- W: the invariant by the turn and a measure; N: what the body is to reach -/
def tFor (wi : TI) (g : TG) (tb : TS) : TS := fun D σ H => wi σ H fun J H1 => ∃ W : Nat → Nat → St → Hp → Prop, (∃ m, W 0 m σ H1) ∧ ∀ i m σ H, W i m σ H →
  (J.stop i H ∧ D.nx σ H) ∨ (J.go i H ∧ ∃ N : St → Hp → Prop, (∀ σ' H', N σ' H' → ∃ m', m' < m ∧ W (i + 1) m' σ' H') ∧ ∀ x H', J.yld i H x H' → g x σ H' fun σ2 H2 => tb { D with nx := N, ct := N, bk := D.nx } σ2 H2)
/-- the records at fp as they stand -/
def pinsAt (fp : List Addr) (h : Heap) : List (Addr × Obj) := fp.filterMap fun b => (h.get? b).map fun o => (b, o)
theorem mem_pinsAt {fp : List Addr} {h : Heap} {b : Addr} {o : Obj} (hb : b ∈ fp) (e : h.get? b = some o) : (b, o) ∈ pinsAt fp h := List.mem_filterMap.mpr ⟨b, hb, by rw [e]; rfl⟩
theorem of_pinsAt {fp : List Addr} {h : Heap} {p : Addr × Obj} (hp : p ∈ pinsAt fp h) : p.1 ∈ fp ∧ h.get? p.1 = some p.2 := by
  obtain ⟨b, hb, e⟩ := List.mem_filterMap.mp hp
  cases q : h.get? b with
  | none => rw [q] at e; cases e
  | some o =>
    rw [q] at e
    have e' : (b, o) = p := Option.some.inj e
    subst e'
    exact ⟨hb, q⟩
theorem Inv.pinned {pins : List (Addr × Obj)} {σ : St} {H : Hp} {s : Shared} {fp : List Addr} (I : Inv X pins σ H s) (hf : ∀ b ∈ fp, FpOk X pins H b) (ho : ∀ b ∈ fp, ∃ o, s.heap.get? b = some o ∧ ∀ v, o.data ≠ .cell v) : Inv X (pins ++ pinsAt fp s.heap) σ H s :=
  I.pins_of fun p hp => (List.mem_append.mp hp).elim (fun z => I.pin p (List.mem_append_right _ z)) fun z => by
    obtain ⟨hb, e⟩ := of_pinsAt z
    obtain ⟨f0, f1, f2, _⟩ := hf p.1 hb
    obtain ⟨o, e', d⟩ := ho p.1 hb
    rw [e] at e'; cases e'
    exact ⟨e, f0, f1, f2, d⟩
theorem Inv.unpinned {pins pl : List (Addr × Obj)} {σ : St} {H : Hp} {s : Shared} (I : Inv X (pins ++ pl) σ H s) : Inv X pins σ H s := I.pins_of fun p hp => I.pin p (List.mem_append_right _ (List.mem_append_left _ hp))
theorem ps_for {iter : Expr} {body : List Stmt} {wi : TI} {g : TG} {tb : TS} {pos : Pos} (hp : PassesOwn (model X.prog X.w) X.A X.env X.xe) (hc : X.calm = true) (hi : PI X tg iter wi) (hg : PG X tg g) (hb : PSs X body tb)
    (hs : ∀ x, foldedSetIterable iter X.env x = pure x := by intro _; rfl) : PS X (.For tg iter body [] pos) (tFor wi g tb) := by
  intro pins s σ H D I h
  refine wpAny_For (thn (hi pins s σ H _ I h) fun v s1 h1 => thn h1 fun itv s2 h2 => ?_) hs
  obtain ⟨it, fp, tn, J, H2, e, I2, T, st2, f2, W, ⟨m0, w0⟩, turn⟩ := h2
  subst e
  -- what stays true of the iterator's objects through the loop
  have stat : ∀ {H' : Hp}, (∀ b ∈ fp, H' b = none) → ∀ b ∈ fp, FpOk X pins H' b := fun hn b hb => ⟨hn b hb, (f2 b hb).2⟩
  refine codeAny_forLoop_any (fun n s' => ∃ i σ' H', Inv X pins σ' H' s' ∧ tn i s'.heap ∧ (∀ b ∈ fp, H' b = none) ∧ W i n σ' H') ?_ m0 ⟨0, σ, H2, I2, st2, fun b hb => (f2 b hb).1, w0⟩
  rintro n s3 ⟨i, σ3, H3, I3, st3, fr3, w3⟩
  rcases turn i n σ3 H3 w3 with ⟨stop, qn⟩ | ⟨go, N, hN, step⟩
  · refine wpAny_passesOwn hp (thn (T.done X rfl rfl rfl hc i pins s3 σ3 H3 X.xe I3 (stat fr3) st3 stop) fun r s4 ⟨hr, I4⟩ => ?_)
    subst hr
    exact wpAny_execs_nil ⟨σ3, H3, I4, qn⟩
  · refine wpAny_passesOwn hp (thn (T.item X rfl rfl rfl hc i pins s3 σ3 H3 X.xe I3 (stat fr3) st3 go) fun r s4 ⟨u, hr, h4⟩ => ?_)
    subst hr
    refine wpAny_passesOwn hp (thn h4 fun _ s5 ⟨x, H5, I5, r5, y5, st5, fr5⟩ => ?_)
    have I5' := I5.pinned (stat fr5) (T.obj _ _ st5)
    refine wpAny_passesOwn hp (thn (hg _ s5 σ3 H5 x u _ I5' r5 (step x H5 y5)) fun _ s6 ⟨σ6, H6, I6, q6⟩ => ?_)
    refine wpAny_passesOwn hp (thn (hb _ s6 σ6 H6 _ I6 q6) fun f s7 q7 => ?_)
    have again : ∀ {σ7 : St} {H7 : Hp}, Inv X (pins ++ pinsAt fp s5.heap) σ7 H7 s7 → N σ7 H7 → ∃ m, m < n ∧ ∃ i σ' H', Inv X pins σ' H' s7 ∧ tn i s7.heap ∧ (∀ b ∈ fp, H' b = none) ∧ W i m σ' H' := fun {σ7 H7} I7 n7 => by
      obtain ⟨m', hm, w7⟩ := hN σ7 H7 n7
      refine ⟨m', hm, i + 1, σ7, H7, I7.unpinned, T.keep _ _ _ st5 fun b hb o e => (I7.pin (b, o) (List.mem_append_right _ (List.mem_append_right _ (mem_pinsAt hb e)))).1, fun b hb => ?_, w7⟩
      obtain ⟨o, e, d⟩ := T.obj _ _ st5 b hb
      exact (I7.pin (b, o) (List.mem_append_right _ (List.mem_append_right _ (mem_pinsAt hb e)))).2.1
    cases f with
    | next => obtain ⟨σ7, H7, I7, n7⟩ := q7; exact again I7 n7
    | cont => obtain ⟨σ7, H7, I7, n7⟩ := q7; exact again I7 n7
    | brk => obtain ⟨σ7, H7, I7, q7⟩ := q7; exact ⟨σ7, H7, I7.unpinned, q7⟩
    | ret v => obtain ⟨x7, σ7, H7, I7, r7, q7⟩ := q7; exact ⟨x7, σ7, H7, I7.unpinned, r7, q7⟩
end

/-! ### the forms one uses -/
/-- over a list that the body leaves as it is -/
theorem for_list {K : PySem.W.Frag} {a : Addr} {xs : List V} {g : TG} {tb : TS} {D : Ends} {σ : St} {H : Hp} (Pv : Nat → St → Hp → Prop) (h0 : Pv 0 σ H) (hl : ∀ i σ H, i ≤ xs.length → Pv i σ H → SqL K H a xs)
    (hs : ∀ i x σ H, xs[i]? = some x → Pv i σ H → g x σ H fun σ2 H2 => tb { D with nx := Pv (i + 1), ct := Pv (i + 1), bk := D.nx } σ2 H2) (hd : ∀ σ H, Pv xs.length σ H → D.nx σ H) :
    ∃ W : Nat → Nat → St → Hp → Prop, (∃ m, W 0 m σ H) ∧ ∀ i m σ H, W i m σ H →
      ((Itl K a).stop i H ∧ D.nx σ H) ∨ ((Itl K a).go i H ∧ ∃ N : St → Hp → Prop, (∀ σ' H', N σ' H' → ∃ m', m' < m ∧ W (i + 1) m' σ' H') ∧ ∀ x H', (Itl K a).yld i H x H' → g x σ H' fun σ2 H2 => tb { D with nx := N, ct := N, bk := D.nx } σ2 H2) := by
  refine ⟨fun i m σ H => m = xs.length - i ∧ i ≤ xs.length ∧ Pv i σ H, ⟨xs.length, by simp, Nat.zero_le _, h0⟩, ?_⟩
  rintro i m σ H ⟨rfl, hi, p⟩
  have q := hl i σ H hi p
  by_cases hlt : i < xs.length
  · refine .inr ⟨⟨xs, xs[i], q, by simp [hlt]⟩, Pv (i + 1), fun σ' H' p' => ⟨xs.length - (i + 1), by omega, rfl, hlt, p'⟩, fun x H' y => ?_⟩
    obtain ⟨e, y⟩ := y
    subst e
    exact hs i x σ _ (y xs q) p
  · have e : i = xs.length := by omega
    subst e
    exact .inl ⟨⟨xs, q, Nat.le_refl _⟩, hd σ H p⟩
theorem for_tup {K : PySem.W.Frag} {a : Addr} {xs : List V} {g : TG} {tb : TS} {D : Ends} {σ : St} {H : Hp} (Pv : Nat → St → Hp → Prop) (h0 : Pv 0 σ H) (hl : ∀ i σ H, i ≤ xs.length → Pv i σ H → SqT K H a xs)
    (hs : ∀ i x σ H, xs[i]? = some x → Pv i σ H → g x σ H fun σ2 H2 => tb { D with nx := Pv (i + 1), ct := Pv (i + 1), bk := D.nx } σ2 H2) (hd : ∀ σ H, Pv xs.length σ H → D.nx σ H) :
    ∃ W : Nat → Nat → St → Hp → Prop, (∃ m, W 0 m σ H) ∧ ∀ i m σ H, W i m σ H →
      ((Itt K a).stop i H ∧ D.nx σ H) ∨ ((Itt K a).go i H ∧ ∃ N : St → Hp → Prop, (∀ σ' H', N σ' H' → ∃ m', m' < m ∧ W (i + 1) m' σ' H') ∧ ∀ x H', (Itt K a).yld i H x H' → g x σ H' fun σ2 H2 => tb { D with nx := N, ct := N, bk := D.nx } σ2 H2) := by
  refine ⟨fun i m σ H => m = xs.length - i ∧ i ≤ xs.length ∧ Pv i σ H, ⟨xs.length, by simp, Nat.zero_le _, h0⟩, ?_⟩
  rintro i m σ H ⟨rfl, hi, p⟩
  have q := hl i σ H hi p
  by_cases hlt : i < xs.length
  · refine .inr ⟨⟨xs, xs[i], q, by simp [hlt]⟩, Pv (i + 1), fun σ' H' p' => ⟨xs.length - (i + 1), by omega, rfl, hlt, p'⟩, fun x H' y => ?_⟩
    obtain ⟨e, y⟩ := y
    subst e
    exact hs i x σ _ (y xs q) p
  · have e : i = xs.length := by omega
    subst e
    exact .inl ⟨⟨xs, q, Nat.le_refl _⟩, hd σ H p⟩
theorem for_range {lo : Int} {n : Nat} {g : TG} {tb : TS} {D : Ends} {σ : St} {H : Hp} (Pv : Nat → St → Hp → Prop) (h0 : Pv 0 σ H)
    (hs : ∀ i σ H, i < n → Pv i σ H → g (.int (lo + i)) σ H fun σ2 H2 => tb { D with nx := Pv (i + 1), ct := Pv (i + 1), bk := D.nx } σ2 H2) (hd : ∀ σ H, Pv n σ H → D.nx σ H) :
    ∃ W : Nat → Nat → St → Hp → Prop, (∃ m, W 0 m σ H) ∧ ∀ i m σ H, W i m σ H →
      ((Itr lo n).stop i H ∧ D.nx σ H) ∨ ((Itr lo n).go i H ∧ ∃ N : St → Hp → Prop, (∀ σ' H', N σ' H' → ∃ m', m' < m ∧ W (i + 1) m' σ' H') ∧ ∀ x H', (Itr lo n).yld i H x H' → g x σ H' fun σ2 H2 => tb { D with nx := N, ct := N, bk := D.nx } σ2 H2) := by
  refine ⟨fun i m σ H => m = n - i ∧ i ≤ n ∧ Pv i σ H, ⟨n, by simp, Nat.zero_le _, h0⟩, ?_⟩
  rintro i m σ H ⟨rfl, hi, p⟩
  by_cases hlt : i < n
  · refine .inr ⟨hlt, Pv (i + 1), fun σ' H' p' => ⟨n - (i + 1), by omega, rfl, hlt, p'⟩, fun x H' y => ?_⟩
    obtain ⟨e, y⟩ := y
    subst e y
    exact hs i σ _ hlt p
  · have e : i = n := by omega
    subst e
    exact .inl ⟨Nat.le_refl _, hd σ H p⟩
/-- while, by a word and a measure of the state -/
theorem while_by {c : TT} {tb : TS} {D : Ends} {σ : St} {H : Hp} (Pv : St → Hp → Prop) (μ : St → Hp → Nat) (h0 : Pv σ H)
    (hs : ∀ σ H, Pv σ H → c σ H fun b H1 => if b = true then tb { D with nx := fun σ' H' => Pv σ' H' ∧ μ σ' H' < μ σ H, ct := fun σ' H' => Pv σ' H' ∧ μ σ' H' < μ σ H, bk := D.nx } σ H1 else D.nx σ H1)
    (mono : ∀ σ H Q Q', (∀ b H1, Q b H1 → Q' b H1) → c σ H Q → c σ H Q') : tWhile c tb D σ H := by
  refine ⟨fun m σ H => m = μ σ H ∧ Pv σ H, ⟨_, rfl, h0⟩, ?_⟩
  rintro m σ H ⟨rfl, p⟩
  refine mono σ H _ _ (fun b H1 q => ?_) (hs σ H p)
  cases b with
  | true => exact ⟨_, fun σ' H' ⟨p', l⟩ => ⟨_, l, rfl, p'⟩, q⟩
  | false => exact q
end L2

namespace L2
open PySem PySem.Spec PyProof.Rows

abbrev R2 := V → V → Hp → VK → Prop
/-- a two-place operation on values: f is binaryOp op, inplaceOp op or compareOp op -/
def OpR (X : Cx) (f : Value → Value → Sem Value) (r : R2) : Prop :=
  ∀ (pins : List (Addr × Obj)) (s : Shared) (σ : St) (H : Hp) (x y : V) (v u : Value) (Q : VK), Inv X pins σ H s → RelV x v → RelV y u → r x y H Q →
    wpAny (model X.prog X.w) X.A (f v u) (EP X pins σ Q) X.xe s
/-- a one-place operation -/
def UnR (X : Cx) (f : Value → Sem Value) (r : V → Hp → VK → Prop) : Prop :=
  ∀ (pins : List (Addr × Obj)) (s : Shared) (σ : St) (H : Hp) (x : V) (v : Value) (Q : VK), Inv X pins σ H s → RelV x v → r x H Q →
    wpAny (model X.prog X.w) X.A (f v) (EP X pins σ Q) X.xe s
/-- a call of a value that is known (a builtin, a type) with values -/
def CallR (X : Cx) (f : Value) (r : List V → Hp → VK → Prop) : Prop :=
  ∀ (pins : List (Addr × Obj)) (s : Shared) (σ : St) (H : Hp) (xs : List V) (us : List Value) (Q : VK), Inv X pins σ H s → Vals xs us → r xs H Q →
    wpAny (model X.prog X.w) X.A (call f us) (EP X pins σ Q) X.xe s
/-- a value's truth -/
def TruR (X : Cx) (r : V → Hp → (Bool → Hp → Prop) → Prop) : Prop :=
  ∀ (pins : List (Addr × Obj)) (s : Shared) (σ : St) (H : Hp) (x : V) (v : Value) (Q : Bool → Hp → Prop), Inv X pins σ H s → RelV x v → r x H Q →
    wpAny (model X.prog X.w) X.A (truthy v) (TP X pins σ Q) X.xe s

def tOp (r : R2) (ta tb : TE) : TE := fun σ H Q => ta σ H fun x H1 => tb σ H1 fun y H2 => r x y H2 Q
def tUn (r : V → Hp → VK → Prop) (ta : TE) : TE := fun σ H Q => ta σ H fun x H1 => r x H1 Q
/-- ints in, under C, and a value out -/
def rI (C : Int → Int → Prop) (g : Int → Int → V) : R2 := fun x y H Q => ∃ i j, x = .int i ∧ y = .int j ∧ C i j ∧ Q (g i j) H
def rI0 (g : Int → Int → V) : R2 := fun x y H Q => ∃ i j, x = .int i ∧ y = .int j ∧ Q (g i j) H
def rU (g : Int → V) : V → Hp → VK → Prop := fun x H Q => ∃ i, x = .int i ∧ Q (g i) H

section
variable {X : Cx} {a b c : Expr} {ta tb tc : TE} {pos : Pos}

theorem binT (ha : PE X a ta) (hb : PE X b tb) {pins : List (Addr × Obj)} {s : Shared} {σ : St} {H : Hp} {R : V → V → Hp → Prop} (I : Inv X pins σ H s)
    (h : ta σ H fun x H1 => tb σ H1 fun y H2 => R x y H2) {Q : Value → Shared → Prop} {f : Value → Value → Sem Value}
    (hf : ∀ v u s2 x y H2, Inv X pins σ H2 s2 → RelV x v → RelV y u → R x y H2 → wpAny (model X.prog X.w) X.A (f v u) Q X.xe s2) :
    wpAny (model X.prog X.w) X.A (eval a X.env) (fun v s₁ => wpAny (model X.prog X.w) X.A (eval b X.env) (fun u s₂ => wpAny (model X.prog X.w) X.A (f v u) Q X.xe s₂) X.xe s₁) X.xe s := by
  refine thn (ha pins s σ H _ I h) fun v s1 ⟨x, H1, I1, r1, q1⟩ => ?_
  refine thn (hb pins s1 σ H1 _ I1 q1) fun u s2 ⟨y, H2, I2, r2, q2⟩ => ?_
  exact hf v u s2 x y H2 I2 r1 r2 q2

theorem pe_op {op : Operator} {r : R2} (ho : OpR X (binaryOp op) r) (ha : PE X a ta) (hb : PE X b tb) : PE X (.BinOp a op b pos) (tOp r ta tb) := by
  intro pins s σ H Q I h
  exact wpAny_BinOp (binT ha hb I h fun v u s2 x y H2 I2 rx ry q => ho pins s2 σ H2 x y v u Q I2 rx ry q)
theorem pe_un {op : UnaryOp} {r : V → Hp → VK → Prop} (ho : UnR X (unaryOp op) r) (ha : PE X a ta) : PE X (.UnaryOp op a pos) (tUn r ta) := by
  intro pins s σ H Q I h
  exact UnaryOp_ (thn (ha pins s σ H _ I h) fun v s1 ⟨x, H1, I1, r1, q1⟩ => ho pins s1 σ H1 x v Q I1 r1 q1)
/-- a op= e at a name: the name's slot i -/
theorem augR {op : Operator} {r : R2} (ho : OpR X (inplaceOp op) r) {pins : List (Addr × Obj)} {s : Shared} {σ : St} {H : Hp} {x y : V} {v u : Value} {Q : VK} (I : Inv X pins σ H s)
    (rx : RelV x v) (ry : RelV y u) (q : r x y H Q) : wpAny (model X.prog X.w) X.A (inplaceOp op v u) (EP X pins σ Q) X.xe s := ho pins s σ H x y v u Q I rx ry q

/-! ### ints -/
theorem opI {f : Value → Value → Sem Value} {C : Int → Int → Prop} {g : Int → Int → Int}
    (rule : ∀ (i j : Int) (t u : Tok) (s : Shared) (Q : Value → Shared → Prop) (E : Value → Shared → Prop), C i j → Q (.int (g i j) s.toks) { s with toks := s.toks + 1 } → wpAny (model X.prog X.w) X.A (f (.int i t) (.int j u)) Q E s) :
    OpR X f (rI C fun i j => .int (g i j)) := by
  intro pins s σ H x y v u Q I rx ry h
  obtain ⟨i, j, rfl, rfl, hc, q⟩ := h
  obtain ⟨t, rfl⟩ := rx
  obtain ⟨t', rfl⟩ := ry
  exact rule i j t t' s _ _ hc ⟨.int (g i j), H, I.tok _, ⟨_, rfl⟩, q⟩
theorem opI0 {f : Value → Value → Sem Value} {g : Int → Int → Int}
    (rule : ∀ (i j : Int) (t u : Tok) (s : Shared) (Q : Value → Shared → Prop) (E : Value → Shared → Prop), Q (.int (g i j) s.toks) { s with toks := s.toks + 1 } → wpAny (model X.prog X.w) X.A (f (.int i t) (.int j u)) Q E s) :
    OpR X f (rI0 fun i j => .int (g i j)) := by
  intro pins s σ H x y v u Q I rx ry h
  obtain ⟨i, j, rfl, rfl, q⟩ := h
  obtain ⟨t, rfl⟩ := rx
  obtain ⟨t', rfl⟩ := ry
  exact rule i j t t' s _ _ ⟨.int (g i j), H, I.tok _, ⟨_, rfl⟩, q⟩
theorem opB0 {f : Value → Value → Sem Value} {g : Int → Int → Bool}
    (rule : ∀ (i j : Int) (t u : Tok) (s : Shared) (Q : Value → Shared → Prop) (E : Value → Shared → Prop), Q (.bool (g i j)) s → wpAny (model X.prog X.w) X.A (f (.int i t) (.int j u)) Q E s) :
    OpR X f (rI0 fun i j => .bl (g i j)) := by
  intro pins s σ H x y v u Q I rx ry h
  obtain ⟨i, j, rfl, rfl, q⟩ := h
  obtain ⟨t, rfl⟩ := rx
  obtain ⟨t', rfl⟩ := ry
  exact rule i j t t' s _ _ ⟨.bl (g i j), H, I, rfl, q⟩

def CDiv (i j : Int) : Prop := 0 < j ∧ j < 1073741824
def CDivN (i j : Int) : Prop := j ≠ 0 ∧ j.natAbs < 1073741824
def CPow (i j : Int) : Prop := 0 ≤ j ∧ j ≤ 1000000 ∧ i.natAbs < 2 ^ 64
def CMul (i j : Int) : Prop := (-(2 ^ 64) < i ∧ i < 2 ^ 64) ∨ (-(2 ^ 64) < j ∧ j < 2 ^ 64)
theorem CMul.ok {i j : Int} (h : CMul i j) : IntMulOk i j := by
  rcases h with ⟨h1, h2⟩ | ⟨h1, h2⟩
  · exact .of_left (intBits_le_64 h1 h2)
  · exact .of_right (intBits_le_64 h1 h2)
theorem two_pow_nn (k : Nat) : (0 : Int) ≤ 2 ^ k := by
  rw [two_pow_cast]
  exact Int.natCast_nonneg _

theorem op_add : OpR X (binaryOp .Add) (rI0 fun i j => .int (i + j)) := opI0 fun _ _ _ _ _ _ _ q => add_int q
theorem op_sub : OpR X (binaryOp .Sub) (rI0 fun i j => .int (i - j)) := opI0 fun _ _ _ _ _ _ _ q => sub_int q
theorem op_mul : OpR X (binaryOp .Mult) (rI CMul fun i j => .int (i * j)) := opI fun _ _ _ _ _ _ _ hc q => mul_int q hc.ok
/-- // by a positive divisor -/
theorem op_fdiv : OpR X (binaryOp .FloorDiv) (rI CDiv fun i j => .int (i / j)) := opI fun i j _ _ _ _ _ hc q => by
  have h1 : (0 : Int) < j := hc.1
  have h2 : j < 1073741824 := hc.2
  exact floordiv_int (by omega) (by rw [Int.fdiv_eq_ediv_of_nonneg i (by omega)]; exact q) (.inl (PyProof.noPylong_small (by omega)))
theorem op_fdivN : OpR X (binaryOp .FloorDiv) (rI CDivN fun i j => .int (i.fdiv j)) := opI fun _ _ _ _ _ _ _ hc q => floordiv_int hc.1 q (.inl (PyProof.noPylong_small hc.2))
/-- % by a positive divisor of any size -/
theorem op_mod : OpR X (binaryOp .Mod) (rI (fun _ j => 0 < j) fun i j => .int (i % j)) := opI fun i j _ _ _ _ _ hc q => by
  have h1 : (0 : Int) < j := hc
  exact mod_int' (by omega) (by rw [Int.fmod_eq_emod_of_nonneg i (by omega)]; exact q)
theorem op_modN : OpR X (binaryOp .Mod) (rI (fun _ j => j ≠ 0) fun i j => .int (i.fmod j)) := opI fun _ _ _ _ _ _ _ hc q => mod_int' hc q
theorem op_pow : OpR X (binaryOp .Pow) (rI CPow fun i j => .int (i ^ j.toNat)) := opI fun _ _ _ _ _ _ _ hc q => pow_int_small hc.1 hc.2.1 hc.2.2 q
theorem op_shl : OpR X (binaryOp .LShift) (rI CPow fun i j => .int (i * 2 ^ j.toNat)) := opI fun _ _ _ _ _ _ _ hc q => lshift_int_small hc.1 hc.2.1 hc.2.2 q
theorem op_shr : OpR X (binaryOp .RShift) (rI (fun _ j => 0 ≤ j) fun i j => .int (i / 2 ^ j.toNat)) := opI fun i j _ _ _ _ _ hc q =>
  rshift_int hc (by rw [Int.fdiv_eq_ediv_of_nonneg i (two_pow_nn _)]; exact q)
theorem op_and : OpR X (binaryOp .BitAnd) (rI0 fun i j => .int (Builtin.bitAnd i j)) := opI0 fun _ _ _ _ _ _ _ q => and_int q
theorem op_or : OpR X (binaryOp .BitOr) (rI0 fun i j => .int (Builtin.bitOr i j)) := opI0 fun _ _ _ _ _ _ _ q => or_int q
theorem op_xor : OpR X (binaryOp .BitXor) (rI0 fun i j => .int (Builtin.bitXor i j)) := opI0 fun _ _ _ _ _ _ _ q => xor_int q

theorem iop_add : OpR X (inplaceOp .Add) (rI0 fun i j => .int (i + j)) := opI0 fun _ _ _ _ _ _ _ q => iadd_int q
theorem iop_sub : OpR X (inplaceOp .Sub) (rI0 fun i j => .int (i - j)) := opI0 fun _ _ _ _ _ _ _ q => isub_int q
theorem iop_mul : OpR X (inplaceOp .Mult) (rI CMul fun i j => .int (i * j)) := opI fun _ _ _ _ _ _ _ hc q => imul_int q hc.ok
theorem iop_fdiv : OpR X (inplaceOp .FloorDiv) (rI CDiv fun i j => .int (i / j)) := opI fun i j _ _ _ _ _ hc q => by
  have h1 : (0 : Int) < j := hc.1
  have h2 : j < 1073741824 := hc.2
  exact ifloordiv_int (by omega) (by rw [Int.fdiv_eq_ediv_of_nonneg i (by omega)]; exact q) (.inl (PyProof.noPylong_small (by omega)))
theorem iop_mod : OpR X (inplaceOp .Mod) (rI (fun _ j => 0 < j) fun i j => .int (i % j)) := opI fun i j _ _ _ _ _ hc q => by
  have h1 : (0 : Int) < j := hc
  exact imod_int (by omega) (by rw [Int.fmod_eq_emod_of_nonneg i (by omega)]; exact q)
theorem iop_shl : OpR X (inplaceOp .LShift) (rI CPow fun i j => .int (i * 2 ^ j.toNat)) := opI fun _ _ _ _ _ _ _ hc q => ilshift_int_small hc.1 hc.2.1 hc.2.2 q
theorem iop_shr : OpR X (inplaceOp .RShift) (rI (fun _ j => 0 ≤ j) fun i j => .int (i / 2 ^ j.toNat)) := opI fun i j _ _ _ _ _ hc q =>
  irshift_int hc (by rw [Int.fdiv_eq_ediv_of_nonneg i (two_pow_nn _)]; exact q)
theorem iop_and : OpR X (inplaceOp .BitAnd) (rI0 fun i j => .int (Builtin.bitAnd i j)) := opI0 fun _ _ _ _ _ _ _ q => iand_int q
theorem iop_or : OpR X (inplaceOp .BitOr) (rI0 fun i j => .int (Builtin.bitOr i j)) := opI0 fun _ _ _ _ _ _ _ q => ior_int q
theorem iop_xor : OpR X (inplaceOp .BitXor) (rI0 fun i j => .int (Builtin.bitXor i j)) := opI0 fun _ _ _ _ _ _ _ q => ixor_int q

theorem unI {f : Value → Sem Value} {g : Int → Int}
    (rule : ∀ (i : Int) (t : Tok) (s : Shared) (Q : Value → Shared → Prop) (E : Value → Shared → Prop), Q (.int (g i) s.toks) { s with toks := s.toks + 1 } → wpAny (model X.prog X.w) X.A (f (.int i t)) Q E s) :
    UnR X f (rU fun i => .int (g i)) := by
  intro pins s σ H x v Q I rx h
  obtain ⟨i, rfl, q⟩ := h
  obtain ⟨t, rfl⟩ := rx
  exact rule i t s _ _ ⟨.int (g i), H, I.tok _, ⟨_, rfl⟩, q⟩
theorem un_neg : UnR X (unaryOp .USub) (rU fun i => .int (-i)) := unI fun _ _ _ _ _ q => neg_int q
theorem un_inv : UnR X (unaryOp .Invert) (rU fun i => .int (Builtin.bitNot i)) := unI fun _ _ _ _ _ q => invert_int q

/-! ### bools among ints: n += (a < b) -/
theorem op_add_ib : OpR X (binaryOp .Add) (fun x y H Q => ∃ i k, x = .int i ∧ y = .bl k ∧ Q (.int (i + b2i k)) H) := by
  intro pins s σ H x y v u Q I rx ry h
  obtain ⟨i, k, rfl, rfl, q⟩ := h
  obtain ⟨t, rfl⟩ := rx
  cases ry
  exact add_int_bool ⟨.int (i + b2i k), H, I.tok _, ⟨_, rfl⟩, q⟩
end

/-! ### comparisons -/
/-- the scalars that == tells apart as data does -/
def scal : V → V → Bool
  | .non, .non => true | .non, .int _ => true | .int _, .non => true | .non, .bl _ => true | .bl _, .non => true | .non, .str _ => true | .str _, .non => true
  | .int _, .int _ => true | .bl _, .bl _ => true | .str _, .str _ => true | .byt _, .byt _ => true
  | .int _, .str _ => true | .str _, .int _ => true | .bl _, .str _ => true | .str _, .bl _ => true
  | _, _ => false
def rEq : R2 := fun x y H Q => scal x y = true ∧ Q (.bl (decide (x = y))) H
def rNe : R2 := fun x y H Q => scal x y = true ∧ Q (.bl (!decide (x = y))) H

theorem dec_int {i j : Int} : decide (V.int i = V.int j) = (i == j) := by
  rw [Bool.eq_iff_iff]
  simp
theorem dec_bl {i j : Bool} : decide (V.bl i = V.bl j) = (i == j) := by
  rw [Bool.eq_iff_iff]
  simp
theorem dec_str {i j : Str} : decide (V.str i = V.str j) = (i == j) := by
  rw [Bool.eq_iff_iff]
  simp
theorem dec_byt {i j : Array UInt8} : decide (V.byt i = V.byt j) = (i.toList == j.toList) := by
  rw [Bool.eq_iff_iff]
  cases i
  cases j
  simp

section
variable {X : Cx} {a b c : Expr} {ta tb tc : TE} {pos : Pos}
theorem fin_bl {pins : List (Addr × Obj)} {σ : St} {H : Hp} {s : Shared} {Q : VK} {k k' : Bool} (I : Inv X pins σ H s) (q : Q (.bl k) H) (e : k = k') : EP X pins σ Q (.bool k') s := by
  subst e
  exact ⟨.bl k, H, I, rfl, q⟩
theorem op_eq : OpR X (compareOp .Eq) rEq := by
  intro pins s σ H x y v u Q I rx ry h
  obtain ⟨hs, q⟩ := h
  cases x with
  | non =>
    cases rx
    cases y with
    | non => cases ry; exact PySem.EqNone.eq_none_none (fin_bl I q (by simp))
    | bl j => cases ry; exact PySem.EqNone.eq_none_bool (fin_bl I q (by simp))
    | int j => obtain ⟨t', rfl⟩ := ry; exact PySem.EqNone.eq_none_int (fin_bl I q (by simp))
    | str j => obtain ⟨t', rfl⟩ := ry; exact PySem.EqNone.eq_none_str (fin_bl I q (by simp))
    | _ => exact absurd (show false = true from hs) Bool.false_ne_true
  | bl i =>
    cases rx
    cases y with
    | non => cases ry; exact PySem.EqNone.eq_bool_none (fin_bl I q (by simp))
    | bl j => cases ry; exact eq_bool (fin_bl I q dec_bl)
    | str j => obtain ⟨t', rfl⟩ := ry; exact PySem.EqMixed.eq_bool_str (fin_bl I q (by simp))
    | _ => exact absurd (show false = true from hs) Bool.false_ne_true
  | int i =>
    obtain ⟨t, rfl⟩ := rx
    cases y with
    | non => cases ry; exact PySem.EqNone.eq_int_none (fin_bl I q (by simp))
    | int j => obtain ⟨t', rfl⟩ := ry; exact eq_int (fin_bl I q dec_int)
    | str j => obtain ⟨t', rfl⟩ := ry; exact PySem.EqMixed.eq_int_str (fin_bl I q (by simp))
    | _ => exact absurd (show false = true from hs) Bool.false_ne_true
  | str i =>
    obtain ⟨t, rfl⟩ := rx
    cases y with
    | non => cases ry; exact PySem.EqNone.eq_str_none (fin_bl I q (by simp))
    | bl j => cases ry; exact PySem.EqMixed.eq_str_bool (fin_bl I q (by simp))
    | int j => obtain ⟨t', rfl⟩ := ry; exact PySem.EqMixed.eq_str_int (fin_bl I q (by simp))
    | str j => obtain ⟨t', rfl⟩ := ry; exact eq_str (fin_bl I q dec_str)
    | _ => exact absurd (show false = true from hs) Bool.false_ne_true
  | byt i =>
    obtain ⟨t, rfl⟩ := rx
    cases y with
    | byt j => obtain ⟨t', rfl⟩ := ry; exact PySem.W.eq_bytes (fin_bl I q dec_byt)
    | _ => exact absurd (show false = true from hs) Bool.false_ne_true
  | _ => cases y <;> exact absurd (show false = true from hs) Bool.false_ne_true
theorem op_ne : OpR X (compareOp .NotEq) rNe := by
  intro pins s σ H x y v u Q I rx ry h
  obtain ⟨hs, q⟩ := h
  cases x with
  | non =>
    cases rx
    cases y with
    | non => cases ry; exact PySem.EqNone.ne_none_none (fin_bl I q (by simp))
    | bl j => cases ry; exact PySem.EqNone.ne_none_bool (fin_bl I q (by simp))
    | int j => obtain ⟨t', rfl⟩ := ry; exact PySem.EqNone.ne_none_int (fin_bl I q (by simp))
    | str j => obtain ⟨t', rfl⟩ := ry; exact PySem.EqNone.ne_none_str (fin_bl I q (by simp))
    | _ => exact absurd (show false = true from hs) Bool.false_ne_true
  | bl i =>
    cases rx
    cases y with
    | non => cases ry; exact PySem.EqNone.ne_bool_none (fin_bl I q (by simp))
    | bl j => cases ry; exact ne_bool (fin_bl I q (congrArg not dec_bl))
    | str j => obtain ⟨t', rfl⟩ := ry; exact PySem.EqMixed.ne_bool_str (fin_bl I q (by simp))
    | _ => exact absurd (show false = true from hs) Bool.false_ne_true
  | int i =>
    obtain ⟨t, rfl⟩ := rx
    cases y with
    | non => cases ry; exact PySem.EqNone.ne_int_none (fin_bl I q (by simp))
    | int j => obtain ⟨t', rfl⟩ := ry; exact ne_int (fin_bl I q (congrArg not dec_int))
    | str j => obtain ⟨t', rfl⟩ := ry; exact PySem.EqMixed.ne_int_str (fin_bl I q (by simp))
    | _ => exact absurd (show false = true from hs) Bool.false_ne_true
  | str i =>
    obtain ⟨t, rfl⟩ := rx
    cases y with
    | non => cases ry; exact PySem.EqNone.ne_str_none (fin_bl I q (by simp))
    | bl j => cases ry; exact PySem.EqMixed.ne_str_bool (fin_bl I q (by simp))
    | int j => obtain ⟨t', rfl⟩ := ry; exact PySem.EqMixed.ne_str_int (fin_bl I q (by simp))
    | str j => obtain ⟨t', rfl⟩ := ry; exact ne_str (fin_bl I q (congrArg not dec_str))
    | _ => exact absurd (show false = true from hs) Bool.false_ne_true
  | byt i =>
    obtain ⟨t, rfl⟩ := rx
    cases y with
    | byt j => obtain ⟨t', rfl⟩ := ry; exact PySem.W.ne_bytes (fin_bl I q (congrArg not dec_byt))
    | _ => exact absurd (show false = true from hs) Bool.false_ne_true
  | _ => cases y <;> exact absurd (show false = true from hs) Bool.false_ne_true

theorem op_lt : OpR X (compareOp .Lt) (rI0 fun i j => .bl (decide (i < j))) := opB0 fun _ _ _ _ _ _ _ q => lt_int q
theorem op_le : OpR X (compareOp .LtE) (rI0 fun i j => .bl (decide (i ≤ j))) := opB0 fun _ _ _ _ _ _ _ q => le_int q
theorem op_gt : OpR X (compareOp .Gt) (rI0 fun i j => .bl (decide (j < i))) := opB0 fun _ _ _ _ _ _ _ q => gt_int q
theorem op_ge : OpR X (compareOp .GtE) (rI0 fun i j => .bl (decide (j ≤ i))) := opB0 fun _ _ _ _ _ _ _ q => ge_int q
theorem op_lt_str : OpR X (compareOp .Lt) (fun x y H Q => ∃ i j, x = .str i ∧ y = .str j ∧ Q (.bl (decide (i.cps.toList < j.cps.toList))) H) := by
  intro pins s σ H x y v u Q I rx ry h
  obtain ⟨i, j, rfl, rfl, q⟩ := h
  obtain ⟨t, rfl⟩ := rx
  obtain ⟨t', rfl⟩ := ry
  exact lt_str (fin_bl I q rfl)
/-- the one string within the other -/
theorem op_in_str : OpR X (compareOp .In) (fun x y H Q => ∃ i j, x = .str i ∧ y = .str j ∧ Q (.bl (!(Builtin.Str.occurrences j i 0 j.length 1).isEmpty)) H) := by
  intro pins s σ H x y v u Q I rx ry h
  obtain ⟨i, j, rfl, rfl, q⟩ := h
  obtain ⟨t, rfl⟩ := rx
  obtain ⟨t', rfl⟩ := ry
  exact in_str (fin_bl I q rfl)

/-- is None, is not None: the right side a value none -/
theorem op_isN : OpR X (compareOp .Is) (fun x y H Q => y = .non ∧ Q (.bl (decide (x = .non))) H) := by
  intro pins s σ H x y v u Q I rx ry h
  obtain ⟨rfl, q⟩ := h
  cases ry
  refine is_none_gen (fin_bl I q ?_)
  cases x <;> first
    | (cases rx; rfl)
    | (obtain ⟨t, rfl⟩ := rx; rfl)
theorem op_notN : OpR X (compareOp .IsNot) (fun x y H Q => y = .non ∧ Q (.bl (!decide (x = .non))) H) := by
  intro pins s σ H x y v u Q I rx ry h
  obtain ⟨rfl, q⟩ := h
  cases ry
  refine isnot_none_gen (fin_bl I q ?_)
  cases x <;> first
    | (cases rx; rfl)
    | (obtain ⟨t, rfl⟩ := rx; rfl)

theorem op_notin_str : OpR X (compareOp .NotIn) (fun x y H Q => ∃ i j, x = .str i ∧ y = .str j ∧ Q (.bl (!(!(Builtin.Str.occurrences j i 0 j.length 1).isEmpty))) H) := by
  intro pins s σ H x y v u Q I rx ry h
  obtain ⟨i, j, rfl, rfl, q⟩ := h
  obtain ⟨t, rfl⟩ := rx
  obtain ⟨t', rfl⟩ := ry
  exact notIn_str (fin_bl I q rfl)
/-- is, is not of two objects that are tracked lists or instances -/
def isObj : HO → Bool
  | .lst _ => true
  | .ins _ _ _ => true
  | _ => false
theorem obj_there {pins : List (Addr × Obj)} {s : Shared} {σ : St} {H : Hp} {a : Addr} {o : HO} (I : Inv X pins σ H s) (h : H a = some o) (p : isObj o = true) : ∃ ob, s.heap.get? a = some ob ∧ ob.cls ≠ .type "tuple" := by
  cases o with
  | lst xs =>
    obtain ⟨_, its, n, _, e⟩ : xs.length ≤ sizeLine ∧ ∃ (its : List Value) (n : Nat), Vals xs its ∧ s.heap.get? a = some { cls := .type "list", data := .seq its.toArray n } := I.hok a _ h
    exact ⟨_, e, (by show Value.type "list" ≠ .type "tuple"; decide +kernel)⟩
  | ins C dx fs =>
    have x := I.hok a _ h
    obtain ⟨_, _, _, e, _⟩ := x
    exact ⟨_, e, (by show Value.ref C ≠ .type "tuple"; exact fun z => by cases z)⟩
  | _ => exact absurd (show false = true from p) Bool.false_ne_true
theorem op_is_ref : OpR X (compareOp .Is) (fun x y H Q => ∃ a b oa ob, x = .ref a ∧ y = .ref b ∧ H a = some oa ∧ isObj oa = true ∧ H b = some ob ∧ isObj ob = true ∧ Q (.bl (decide (a = b))) H) := by
  intro pins s σ H x y v u Q I rx ry h
  obtain ⟨a, b, oa, ob, rfl, rfl, ha, pa, hb, pb, q⟩ := h
  cases rx
  cases ry
  obtain ⟨o1, e1, n1⟩ := obj_there I ha pa
  obtain ⟨o2, e2, _⟩ := obj_there I hb pb
  by_cases z : a = b
  · subst z
    exact wpAny_is_ref_self (fin_bl I q (by simp))
  · exact wpAny_is_ref_other z e1 e2 n1 (fin_bl I q (by simp [z]))
theorem op_isnot_ref : OpR X (compareOp .IsNot) (fun x y H Q => ∃ a b oa ob, x = .ref a ∧ y = .ref b ∧ H a = some oa ∧ isObj oa = true ∧ H b = some ob ∧ isObj ob = true ∧ Q (.bl (!decide (a = b))) H) := by
  intro pins s σ H x y v u Q I rx ry h
  obtain ⟨a, b, oa, ob, rfl, rfl, ha, pa, hb, pb, q⟩ := h
  cases rx
  cases ry
  obtain ⟨o1, e1, n1⟩ := obj_there I ha pa
  obtain ⟨o2, e2, _⟩ := obj_there I hb pb
  by_cases z : a = b
  · subst z
    exact wpAny_isNot_ref_self (fin_bl I q (by simp))
  · exact wpAny_isNot_ref_other z e1 e2 n1 (fin_bl I q (by simp [z]))

/-- two rules for one operation: by cases -/
theorem OpR.or {f : Value → Value → Sem Value} {r r' : R2} (h : OpR X f r) (h' : OpR X f r') : OpR X f (fun x y H Q => r x y H Q ∨ r' x y H Q) := by
  intro pins s σ H x y v u Q I rx ry q
  rcases q with q | q
  · exact h pins s σ H x y v u Q I rx ry q
  · exact h' pins s σ H x y v u Q I rx ry q

theorem nomark (b : Expr) {op : CmpOp} (h : op ≠ .In := by decide) (h2 : op ≠ .NotIn := by decide) : behindInMarks op b = false := by
  have e1 : (op == CmpOp.In) = false := by cases op <;> first | rfl | exact absurd rfl h
  have e2 : (op == CmpOp.NotIn) = false := by cases op <;> first | rfl | exact absurd rfl h2
  cases b <;> simp [behindInMarks, e1, e2]
/-- a comparison as a value; hm: nomark b, or (for in, not in) by with_unfolding_all rfl -/
theorem pe_cmpR {op : CmpOp} {r : R2} (ho : OpR X (compareOp op) r) (ha : PE X a ta) (hb : PE X b tb) (hm : behindInMarks op b = false) : PE X (.Compare a [op] [b] pos) (tOp r ta tb) := by
  intro pins s σ H Q I h
  exact wpAny_Compare1 (binT ha hb I h fun v u s2 x y H2 I2 rx ry q => ho pins s2 σ H2 x y v u Q I2 rx ry q) hm
/-- a reading of a value as a test -/
def tTest (t : TE) : TT := fun σ H Q => t σ H fun x H' => ∃ k, x = .bl k ∧ Q k H'
theorem pt_cmpR {op : CmpOp} {r : R2} (ho : OpR X (compareOp op) r) (ha : PE X a ta) (hb : PE X b tb) (hm : behindInMarks op b = false) : PT X (.Compare a [op] [b] pos) (tTest (tOp r ta tb)) := by
  intro pins s σ H Q I h
  refine wpAny_isTrue_Compare1 (thn (ha pins s σ H _ I h) fun v s1 ⟨x, H1, I1, r1, q1⟩ => thn (hb pins s1 σ H1 _ I1 q1) fun u s2 ⟨y, H2, I2, r2, q2⟩ =>
    thn (ho pins s2 σ H2 x y v u _ I2 r1 r2 q2) fun c s3 ⟨z, H3, I3, r3, k, e, q3⟩ => ?_) hm
  subst e
  cases r3
  exact wpAny_truthy_bool ⟨H3, I3, q3⟩
/-- a op1 b op2 c -/
def tChain (r r' : R2) (ta tb tc : TE) : TE := fun σ H Q => ta σ H fun x H1 => tb σ H1 fun y H2 => r x y H2 fun z H3 => ∃ k, z = .bl k ∧
  (if k = true then tc σ H3 fun w' H4 => r' y w' H4 Q else Q (.bl false) H3)
theorem pe_chain {op op' : CmpOp} {r r' : R2} (ho : OpR X (compareOp op) r) (ho' : OpR X (compareOp op') r') (ha : PE X a ta) (hb : PE X b tb) (hc : PE X c tc)
    (hm : lastMarks [op, op'] [b, c] = false := by with_unfolding_all rfl) : PE X (.Compare a [op, op'] [b, c] pos) (tChain r r' ta tb tc) := by
  intro pins s σ H Q I h
  refine Compare_chain (thn (ha pins s σ H _ I h) fun v s1 ⟨x, H1, I1, r1, q1⟩ => chain_link (thn (hb pins s1 σ H1 _ I1 q1) fun u s2 ⟨y, H2, I2, r2, q2⟩ =>
    thn (ho pins s2 σ H2 x y v u _ I2 r1 r2 q2) fun d s3 ⟨z, H3, I3, r3, k, e, q3⟩ => ?_)) hm
  subst e
  cases r3
  refine wpAny_truthy_bool ?_
  cases k with
  | false => exact ite_ff ⟨.bl false, H3, I3, rfl, q3⟩
  | true => exact ite_tt (chain_last (thn (hc pins s3 σ H3 _ I3 q3) fun w' s4 ⟨z', H4, I4, r4, q4⟩ => ho' pins s4 σ H4 y z' u w' Q I4 r2 r4 q4))
theorem pt_chain {op op' : CmpOp} {r r' : R2} (ho : OpR X (compareOp op) r) (ho' : OpR X (compareOp op') r') (ha : PE X a ta) (hb : PE X b tb) (hc : PE X c tc)
    (hm : lastMarks [op, op'] [b, c] = false := by with_unfolding_all rfl) : PT X (.Compare a [op, op'] [b, c] pos) (tTest (tChain r r' ta tb tc)) := by
  intro pins s σ H Q I h
  refine isTrue_chain (thn (ha pins s σ H _ I h) fun v s1 ⟨x, H1, I1, r1, q1⟩ => test_link (thn (hb pins s1 σ H1 _ I1 q1) fun u s2 ⟨y, H2, I2, r2, q2⟩ =>
    thn (ho pins s2 σ H2 x y v u _ I2 r1 r2 q2) fun d s3 ⟨z, H3, I3, r3, k, e, q3⟩ => ?_)) hm
  subst e
  cases r3
  refine wpAny_truthy_bool ?_
  cases k with
  | false =>
    obtain ⟨k', e', q'⟩ := q3
    cases e'
    exact ite_ff ⟨H3, I3, q'⟩
  | true =>
    refine ite_tt (test_last (thn (hc pins s3 σ H3 _ I3 q3) fun w' s4 ⟨z', H4, I4, r4, q4⟩ => thn (ho' pins s4 σ H4 y z' u w' _ I4 r2 r4 q4) fun d' s5 ⟨z2, H5, I5, r5, k2, e2, q5⟩ => ?_))
    subst e2
    cases r5
    exact wpAny_truthy_bool ⟨H5, I5, q5⟩

/-! ### truth -/
/-- a value's truth by the abstract heap -/
def TruV (K : PySem.W.Frag) (x : V) (H : Hp) (k : Bool) : Prop :=
  match x with
  | .non => k = false
  | .bl b => k = b
  | .int i => k = (i != 0)
  | .str y => y.length ≤ sizeLine ∧ k = ((y.length : Int) != 0)
  | .byt y => y.size ≤ sizeLine ∧ k = ((y.size : Int) != 0)
  | .ref p => (∃ xs, SqL K H p xs ∧ k = !xs.isEmpty) ∨ (∃ xs, SqT K H p xs ∧ k = !xs.isEmpty) ∨ ∃ kvs, H p = some (.dK kvs) ∧ k = !kvs.isEmpty
  | _ => False
theorem isEmpty_kv {κ : Type} {kvs : List (κ × V)} {vs : List (κ × Value)} (r : KV kvs vs) : (!vs.isEmpty) = !kvs.isEmpty := by
  cases r <;> rfl
theorem isEmpty_of {xs : List V} {its : List Value} (r : Vals xs its) : (!its.toArray.isEmpty) = !xs.isEmpty := by
  cases r <;> simp
theorem line63 : (sizeLine : Nat) < 2 ^ 63 := by rw [sizeLine_eq]; decide
theorem tru_ok : TruR X (fun x H Q => ∃ k, TruV X.K x H k ∧ Q k H) := by
  intro pins s σ H x v Q I rx h
  obtain ⟨k, e, q⟩ := h
  have hl := line63
  have hs : sizeLine = 16777216 := sizeLine_eq
  cases x with
  | non =>
    cases rx
    have e' : k = false := e
    subst e'
    exact truthy_none ⟨H, I, q⟩
  | bl b =>
    cases rx
    have e' : k = b := e
    subst e'
    exact wpAny_truthy_bool ⟨H, I, q⟩
  | int i =>
    obtain ⟨t, rfl⟩ := rx
    have e' : k = (i != 0) := e
    subst e'
    exact PySem.P.truthy_int ⟨H, I, q⟩
  | str y =>
    obtain ⟨t, rfl⟩ := rx
    obtain ⟨hy, e'⟩ : y.length ≤ sizeLine ∧ k = ((y.length : Int) != 0) := e
    subst e'
    exact PySem.P.truthy_str (by omega) ⟨H, I.tok _, q⟩
  | byt y =>
    obtain ⟨t, rfl⟩ := rx
    obtain ⟨hy, e'⟩ : y.size ≤ sizeLine ∧ k = ((y.size : Int) != 0) := e
    subst e'
    exact PySem.W.truthy_bytes (by omega) ⟨H, I.tok _, q⟩
  | ref p =>
    cases rx
    have e' : (∃ xs, SqL X.K H p xs ∧ k = !xs.isEmpty) ∨ (∃ xs, SqT X.K H p xs ∧ k = !xs.isEmpty) ∨ ∃ kvs, H p = some (.dK kvs) ∧ k = !kvs.isEmpty := e
    rcases e' with ⟨xs, hx, e'⟩ | ⟨xs, hx, e'⟩ | ⟨kvs, hx, e'⟩
    · subst e'
      obtain ⟨its, r, pl, hz⟩ := I.list hx
      have hlen := r.length
      exact wpAny_truthy_list pl.isList (by simp only [List.size_toArray]; omega) ⟨H, I.tok _, by rw [isEmpty_of r]; exact q⟩
    · subst e'
      obtain ⟨its, r, pl, hz⟩ := I.tuple hx
      have hlen := r.length
      exact truthy_tuple pl (by simp only [List.size_toArray]; omega) ⟨H, I.tok _, by rw [isEmpty_of r]; exact q⟩
    · subst e'
      obtain ⟨hz, hS, vs, r, m⟩ : kvs.length ≤ sizeLine ∧ (p == sysModules) = false ∧ ∃ vs, KV kvs vs ∧ s.heap.DictOf (mixKind X.prog X.w) p vs := I.hok p _ hx
      have hlen : kvs.length = vs.length := Paired.length r
      exact wpAny_truthy_dict hS m (by omega) ⟨H, I.tok _, by rw [isEmpty_kv r]; exact q⟩
  | _ => exact (show False from e).elim
/-- any expression whose test is its value's truth (a name, a call, a subscript, a field ..: he by fun _ => rfl) -/
theorem pt_truth (ha : PE X a ta) (he : ∀ whole, isTrue a X.env whole = (do let v ← whole; standAt a.pos; holding [v] (truthy v))) :
    PT X a (fun σ H Q => ta σ H fun x H' => ∃ k, TruV X.K x H' k ∧ Q k H') := by
  intro pins s σ H Q I h
  exact isTrue_plain (thn (ha pins s σ H _ I h) fun v s1 ⟨x, H1, I1, r1, q1⟩ => tru_ok pins s1 σ H1 x v Q I1 r1 q1) (he _)

/-! ### strs and bytes -/
theorem pe_byt {x : List UInt8} {k : Nat} : PE X (.Constant (.bytes x) k pos) (fun _ H Q => Q (.byt x.toArray) H) := fun _ _ _ H _ I h => PySem.W.Constant_bytes ⟨.byt x.toArray, H, I.tok _, ⟨_, rfl⟩, h⟩
theorem op_add_str : OpR X (binaryOp .Add) (fun x y H Q => ∃ i j, x = .str i ∧ y = .str j ∧ i.length + j.length ≤ sizeLine ∧ Q (.str (i ++ j)) H) := by
  intro pins s σ H x y v u Q I rx ry h
  obtain ⟨i, j, rfl, rfl, hz, q⟩ := h
  obtain ⟨t, rfl⟩ := rx
  obtain ⟨t', rfl⟩ := ry
  exact add_str (fun t' tk => ⟨.str (i ++ j), H, I.tok _, ⟨_, rfl⟩, q⟩) hz
theorem iop_add_str : OpR X (inplaceOp .Add) (fun x y H Q => ∃ i j, x = .str i ∧ y = .str j ∧ i.length + j.length ≤ sizeLine ∧ Q (.str (i ++ j)) H) := by
  intro pins s σ H x y v u Q I rx ry h
  obtain ⟨i, j, rfl, rfl, hz, q⟩ := h
  obtain ⟨t, rfl⟩ := rx
  obtain ⟨t', rfl⟩ := ry
  exact iadd_str (fun t' tk => ⟨.str (i ++ j), H, I.tok _, ⟨_, rfl⟩, q⟩) hz
theorem op_add_byt : OpR X (binaryOp .Add) (fun x y H Q => ∃ i j, x = .byt i ∧ y = .byt j ∧ i.size + j.size ≤ 16777216 ∧ Q (.byt (i ++ j)) H) := by
  intro pins s σ H x y v u Q I rx ry h
  obtain ⟨i, j, rfl, rfl, hz, q⟩ := h
  obtain ⟨t, rfl⟩ := rx
  obtain ⟨t', rfl⟩ := ry
  exact PySem.W.KBy.add_bytes hz (fun t' tk => ⟨.byt (i ++ j), H, I.tok _, ⟨_, rfl⟩, q⟩)

def PlainIxT (b : Expr) : Prop := ∀ o i, subscripted b false o i = operate [o, i] (getItem o i)
/-- s[i], 0 ≤ i < len -/
theorem pe_item_str (ha : PE X a ta) (hb : PE X b tb) (hs : PlainIxT b) :
    PE X (.Subscript a b pos) (tOp (fun x y H Q => ∃ z i c, x = .str z ∧ y = .int i ∧ 0 ≤ i ∧ i < 2 ^ 63 ∧ i < z.length ∧ z.cps[i.toNat]? = some c ∧ Q (.str ⟨#[c]⟩) H) ta tb) := by
  intro pins s σ H Q I h
  refine Subscript_ (binT ha hb I h fun v u s2 x y H2 I2 rx ry q => ?_)
  obtain ⟨z, i, c, rfl, rfl, h0, h63, h1, hc, q⟩ := q
  obtain ⟨t, rfl⟩ := rx
  obtain ⟨t', rfl⟩ := ry
  have e : seqIndex? i z.length = some i.toNat := PySem.StrLaws.seqIndex_nonneg h0 h1
  exact tail_any (typeIs_str s2 z t) slot_str_getitem.lookup (getItem_str (c := c) (by
    have e1 : decide (i < -(2 ^ 63 : Int)) = false := decide_eq_false (by omega)
    have e2 : decide (i ≥ 2 ^ 63) = false := decide_eq_false (by omega)
    rw [e1, e2] <;> rfl) (by rw [e]; exact hc) ⟨.str ⟨#[c]⟩, H2, I2.tok _, ⟨_, rfl⟩, q⟩) (hs _ _)
/-- b[i], 0 ≤ i < len -/
theorem pe_item_byt (ha : PE X a ta) (hb : PE X b tb) (hs : PlainIxT b) :
    PE X (.Subscript a b pos) (tOp (fun x y H Q => ∃ (z : List UInt8) (i : Int), x = .byt z.toArray ∧ y = .int i ∧ z.length ≤ sizeLine ∧ 0 ≤ i ∧ i < z.length ∧ Q (.int ((z.getD i.toNat 0).toNat : Nat)) H) ta tb) := by
  intro pins s σ H Q I h
  refine Subscript_ (binT ha hb I h fun v u s2 x y H2 I2 rx ry q => ?_)
  obtain ⟨z, i, rfl, rfl, hz, h0, h1, q⟩ := q
  obtain ⟨t, rfl⟩ := rx
  obtain ⟨t', rfl⟩ := ry
  have hl : sizeLine = 16777216 := sizeLine_eq
  exact tail_any (PySem.W.typeIs_bytes s2 z.toArray t) PySem.W.FB.slot_bytes_getitem.lookup (PySem.W.getItem_bytes (by omega) h0 h1 ⟨.int ((z.getD i.toNat 0).toNat : Nat), H2, I2.tok _, ⟨_, rfl⟩, q⟩) (hs _ _)

/-! ### scalar builtins, by CallR -/
theorem vals1 {x : V} {us : List Value} (r : Vals [x] us) : ∃ u, us = [u] ∧ RelV x u := by
  cases r with
  | cons r1 r2 => cases r2; exact ⟨_, rfl, r1⟩
theorem vals2 {x y : V} {us : List Value} (r : Vals [x, y] us) : ∃ u w', us = [u, w'] ∧ RelV x u ∧ RelV y w' := by
  cases r with
  | cons r1 r2 =>
    cases r2 with
    | cons r3 r4 => cases r4; exact ⟨_, _, rfl, r1, r3⟩
theorem call_abs : CallR X (.builtin "abs") (fun xs H Q => ∃ i, xs = [.int i] ∧ Q (.int (if i < 0 then -i else i)) H) := by
  intro pins s σ H xs us Q I r h
  obtain ⟨i, rfl, q⟩ := h
  obtain ⟨u, rfl, t, rfl⟩ := vals1 r
  exact call_abs_int fun u tk => ⟨.int (if i < 0 then -i else i), H, I.tok _, ⟨_, rfl⟩, q⟩
theorem call_max2 (hc : X.calm = true) : CallR X (.builtin "max") (fun xs H Q => ∃ i j, xs = [.int i, .int j] ∧ Q (.int (if j > i then j else i)) H) := by
  intro pins s σ H xs us Q I r h
  obtain ⟨i, j, rfl, q⟩ := h
  obtain ⟨u, w', rfl, ⟨t, rfl⟩, ⟨t', rfl⟩⟩ := vals2 r
  refine max_two_ints (I.ok.hd hc) fun h' tk k => ⟨_, H, I.kept k, ?_, q⟩
  by_cases hj : j > i
  · rw [if_pos hj, if_pos hj]; exact ⟨_, rfl⟩
  · rw [if_neg hj, if_neg hj]; exact ⟨_, rfl⟩
theorem call_min2 (hc : X.calm = true) : CallR X (.builtin "min") (fun xs H Q => ∃ i j, xs = [.int i, .int j] ∧ Q (.int (if j < i then j else i)) H) := by
  intro pins s σ H xs us Q I r h
  obtain ⟨i, j, rfl, q⟩ := h
  obtain ⟨u, w', rfl, ⟨t, rfl⟩, ⟨t', rfl⟩⟩ := vals2 r
  refine min_two_ints (I.ok.hd hc) fun h' tk k => ⟨_, H, I.kept k, ?_, q⟩
  by_cases hj : j < i
  · rw [if_pos hj, if_pos hj]; exact ⟨_, rfl⟩
  · rw [if_neg hj, if_neg hj]; exact ⟨_, rfl⟩
theorem call_int1 : CallR X (.type "int") (fun xs H Q => (∃ i, xs = [.int i] ∧ Q (.int i) H) ∨ ∃ k, xs = [.bl k] ∧ Q (.int (if k then 1 else 0)) H) := by
  intro pins s σ H xs us Q I r h
  rcases h with ⟨i, rfl, q⟩ | ⟨k, rfl, q⟩
  · obtain ⟨u, rfl, t, rfl⟩ := vals1 r
    exact call_int_int ⟨.int i, H, I, ⟨_, rfl⟩, q⟩
  · obtain ⟨u, rfl, r1⟩ := vals1 r
    cases r1
    exact call_int_bool ⟨.int (if k then 1 else 0), H, I.tok _, ⟨_, rfl⟩, q⟩
theorem call_bool1 : CallR X (.type "bool") (fun xs H Q => (∃ i, xs = [.int i] ∧ Q (.bl (i != 0)) H) ∨ ∃ k, xs = [.bl k] ∧ Q (.bl k) H) := by
  intro pins s σ H xs us Q I r h
  rcases h with ⟨i, rfl, q⟩ | ⟨k, rfl, q⟩
  · obtain ⟨u, rfl, t, rfl⟩ := vals1 r
    exact call_bool_int ⟨.bl (i != 0), H, I, rfl, q⟩
  · obtain ⟨u, rfl, r1⟩ := vals1 r
    cases r1
    exact call_bool_bool ⟨.bl k, H, I, rfl, q⟩
theorem call_str_int : CallR X (.type "str") (fun xs H Q => ∃ i, xs = [.int i] ∧ i.natAbs.log2 < 1920 ∧ Q (.str (toString i)) H) := by
  intro pins s σ H xs us Q I r h
  obtain ⟨i, rfl, hz, q⟩ := h
  obtain ⟨u, rfl, t, rfl⟩ := vals1 r
  exact PySem.P.str_of_int hz ⟨.str _, H, I.tok _, ⟨_, rfl⟩, q⟩
theorem call_ord : CallR X (.builtin "ord") (fun xs H Q => ∃ x, xs = [.str x] ∧ x.length = 1 ∧ Q (.int (x.cps.getD 0 0 : Nat)) H) := by
  intro pins s σ H xs us Q I r h
  obtain ⟨x, rfl, hz, q⟩ := h
  obtain ⟨u, rfl, t, rfl⟩ := vals1 r
  exact ord_of_one hz ⟨.int _, H, I.tok _, ⟨_, rfl⟩, q⟩
theorem call_chr : CallR X (.builtin "chr") (fun xs H Q => ∃ i, xs = [.int i] ∧ 0 ≤ i ∧ i ≤ 1114111 ∧ Q (.str ⟨#[i.toNat]⟩) H) := by
  intro pins s σ H xs us Q I r h
  obtain ⟨i, rfl, h0, h1, q⟩ := h
  obtain ⟨u, rfl, t, rfl⟩ := vals1 r
  exact chr_of_range h0 h1 ⟨.str _, H, I.tok _, ⟨_, rfl⟩, q⟩
/-- len of a str, a bytes, a list, a tuple -/
def LenV (K : PySem.W.Frag) (x : V) (H : Hp) (n : Nat) : Prop :=
  match x with
  | .str y => y.length ≤ sizeLine ∧ n = y.length
  | .byt y => y.size ≤ sizeLine ∧ n = y.size
  | .ref p => (∃ xs, SqL K H p xs ∧ n = xs.length) ∨ ∃ xs, SqT K H p xs ∧ n = xs.length
  | _ => False
theorem call_len : CallR X (.builtin "len") (fun xs H Q => ∃ x n, xs = [x] ∧ LenV X.K x H n ∧ Q (.int n) H) := by
  intro pins s σ H xs us Q I r h
  obtain ⟨x, n, rfl, e, q⟩ := h
  obtain ⟨u, rfl, rx⟩ := vals1 r
  have hl := line63
  have hs : sizeLine = 16777216 := sizeLine_eq
  cases x with
  | str y =>
    obtain ⟨t, rfl⟩ := rx
    obtain ⟨hy, e'⟩ : y.length ≤ sizeLine ∧ n = y.length := e
    subst e'
    exact len_str (by omega) ⟨.int _, H, I.tok _, ⟨_, rfl⟩, q⟩
  | byt y =>
    obtain ⟨t, rfl⟩ := rx
    obtain ⟨hy, e'⟩ : y.size ≤ sizeLine ∧ n = y.size := e
    subst e'
    exact PySem.W.len_bytes (by omega) ⟨.int _, H, I.tok _, ⟨_, rfl⟩, q⟩
  | ref p =>
    cases rx
    have e' : (∃ xs, SqL X.K H p xs ∧ n = xs.length) ∨ ∃ xs, SqT X.K H p xs ∧ n = xs.length := e
    rcases e' with ⟨xs, hx, e'⟩ | ⟨xs, hx, e'⟩
    · subst e'
      obtain ⟨its, r', pl, hz⟩ := I.list hx
      have hlen := r'.length
      exact Calls.call_len_list pl.isList (by simp only [List.size_toArray]; omega) ⟨.int xs.length, H, I.tok _, ⟨_, by simp only [List.size_toArray]; rw [hlen]⟩, q⟩
    · subst e'
      obtain ⟨its, r', pl, hz⟩ := I.tuple hx
      have hlen := r'.length
      exact len_tuple pl (by simp only [List.size_toArray]; omega) ⟨.int xs.length, H, I.tok _, ⟨_, by simp only [List.size_toArray]; rw [hlen]⟩, q⟩
  | _ => exact (show False from e).elim
/-- divmod: a new tuple -/
theorem call_divmod : CallR X (.builtin "divmod") (fun xs H Q => ∃ i j, xs = [.int i, .int j] ∧ CDiv i j ∧ ∀ p, H p = none → Q (.ref p) (upd H p (.tup [.int (i / j), .int (i % j)]))) := by
  intro pins s σ H xs us Q I r h
  obtain ⟨i, j, rfl, ⟨h1, h2⟩, q⟩ := h
  obtain ⟨u, w', rfl, ⟨t, rfl⟩, ⟨t', rfl⟩⟩ := vals2 r
  refine divmod_int (by omega) ?_ (.inl (PyProof.noPylong_small (by omega)))
  rw [Int.fdiv_eq_ediv_of_nonneg i (by omega), Int.fmod_eq_emod_of_nonneg i (by omega)]
  have hn : H s.heap.objs.size = none := I.hok.fresh (Nat.le_refl _)
  refine ⟨.ref s.heap.objs.size, _, ?_, rfl, q _ hn⟩
  refine I.laid (fun b o e => Heap.get?_push_of_some _ e) (Nat.le_refl _) ⟨by simp only [List.length_cons, List.length_nil]; rw [sizeLine_eq]; decide, [.int (i / j) s.toks, .int (i % j) (s.toks + 1)], .cons ⟨_, rfl⟩ (.cons ⟨_, rfl⟩ .nil), ?_⟩
  exact ⟨_, Heap.get?_push_size s.heap rfl, rfl, 0, rfl⟩
end
end L2

namespace L2
open PySem PySem.Spec PyProof.Rows

/-! ### an instance, its attributes a map -/
structure ObjM (h : Heap) (x dx C : Addr) (mA : Str → Option Value) : Prop where
  obj : h.get? x = some (PySem.W.instObj C dx)
  ns : h.Ns1 dx mA
  ne : dx ≠ x

theorem lookIn_ns {h : Heap} {dx : Addr} {mA : Str → Option Value} (n : h.Ns1 dx mA) : ∃ od, h.get? dx = some od ∧ ∀ name, PySem.W.lookIn name od = some (mA name) := by
  obtain ⟨o, es, ep, ho, hd, hk, _, hm⟩ := n
  refine ⟨o, ho, fun name => ?_⟩
  have e := hm name
  unfold nsFind findBy at e
  rw [← Array.find?_toList] at e
  unfold PySem.W.lookIn
  rw [hd]
  dsimp only
  split
  · rename_i y q
    rw [q] at e
    exact congrArg some e
  · rename_i q
    rw [q] at e
    have a : es.toList.any (·.refKey) = false := by
      rw [List.any_eq_false]
      intro y hy
      obtain ⟨z, t, hkey⟩ := hk y (Array.mem_toList_iff.mp hy)
      simp [DictEntry.refKey, hkey]
    have a' : ¬ es.toList.any (·.refKey) = true := by rw [a]; exact Bool.false_ne_true
    rw [if_neg a']
    exact congrArg some e

theorem ObjM.look {h : Heap} {x dx C : Addr} {mA : Str → Option Value} (I : ObjM h x dx C mA) : ∃ od, PySem.W.InstAt h x (PySem.W.instObj C dx) C (some od) ∧ ∀ name, PySem.W.lookIn name od = some (mA name) :=
  let ⟨od, ho, hl⟩ := lookIn_ns I.ns
  ⟨od, ⟨I.obj, rfl, rfl, ho⟩, hl⟩

section
variable {prog : Program} {w : World} {A : Around} {E : Value → Shared → Prop} {s : Shared} {K : PySem.W.Frag} {x dx C f : Addr} {mA : Str → Option Value} {name : Str} {v : Value}

theorem get_map {expr : Bool} {Q : Value → Shared → Prop} (X : K.In s.heap) (I : ObjM s.heap x dx C mA) (hg : PySem.W.plainGet K C name = true) (hh : PySem.W.hasDictIn K C = true)
    (ha : PySem.W.findIn K (.ref C) name = some none) (hv : mA name = some v) (hv' : PySem.W.handedIn v = true) (h : Q v { s with toks := s.toks + 1 }) :
    wpAny (model prog w) A (getAttr (.ref x) name expr) Q E s := by
  obtain ⟨od, J, hl⟩ := I.look
  exact PySem.W.get_value X J (PySem.W.plainGet_of hg).1 (PySem.W.findObj_own hh ha rfl (by rw [hl, hv])) hv' h

theorem get_const {expr : Bool} {a : Value} {Q : Value → Shared → Prop} (X : K.In s.heap) (I : ObjM s.heap x dx C mA) (hg : PySem.W.plainGet K C name = true) (hh : PySem.W.hasDictIn K C = true)
    (ha : PySem.W.findIn K (.ref C) name = some (some a)) (hn : PySem.W.specialIn K a "__get__" = some none) (hc : PySem.W.copiedNames.contains name = false) (hv : mA name = none) (hv' : PySem.W.handedIn a = true)
    (h : Q a { s with toks := s.toks + 1 }) : wpAny (model prog w) A (getAttr (.ref x) name expr) Q E s := by
  obtain ⟨od, J, hl⟩ := I.look
  exact PySem.W.get_value X J (PySem.W.plainGet_of hg).1 (PySem.W.findObj_cls hh ha hn hv' hc (by rw [hl, hv])) hv' h

theorem get_meth {pl : Sem Bool} {Q : Value × List Value → Shared → Prop} (X : K.In s.heap) (I : ObjM s.heap x dx C mA) (hg : PySem.W.plainGet K C name = true)
    (hf : PySem.W.findIn K (.ref C) name = some (some (.ref f))) (ht : PySem.W.isFn K (.ref f) = true) (hv : mA name = none) (h : Q (.ref f, [.ref x]) s) :
    wpAny (model prog w) A (getMethod (.ref x) name pl) Q E s := by
  obtain ⟨od, J, hl⟩ := I.look
  exact PySem.W.method_fn X J (PySem.W.plainGet_of hg).1 (PySem.W.plainGet_of hg).2 hf (beq_iff_eq.mp ht) (by show (PySem.W.lookIn name od).map (·.isSome) = some false; rw [hl, hv]; rfl) h

theorem set_map {ns : List Str} {Q : Unit → Shared → Prop} (X : K.In s.heap) (I : ObjM s.heap x dx C mA)
    (hs : PySem.W.findIn K (.ref C) "__setattr__" = some (some (.builtin "object.__setattr__"))) (hp : PySem.W.plainOver K C = true) (ht : PySem.W.takerIn K C name = some none) (hh : PySem.W.hasDictIn K C = true)
    (hw : PySem.Within mA ns) (hsz : ns.length ≤ sizeLine)
    (h : ∀ h', ObjM h' x dx C (fun y => if y = name then some v else mA y) → Heap.SameBut dx s.heap h' → Q () { s with heap := h', toks := s.toks + 2 }) :
    wpAny (model prog w) A (setAttr (.ref x) name v) Q E s := by
  obtain ⟨od, J, hl⟩ := I.look
  refine PySem.W.set_plain X J hs (PySem.W.osa_open (s := { s with toks := s.toks + 1 }) (r := none) X J hp ht fun b => ?_)
  obtain ⟨cd, hc, hd'⟩ := PySem.W.any_some hh
  have hx : s.heap.get? x = some ⟨.ref C, some dx, .plain, #[]⟩ := I.obj
  refine wpAny_bind (wpAny_pure (wpAny_bind (wpAny_bind (wpAny_loadPart hx (wpAny_bind (PySem.W.Looks.here (s := { s with toks := s.toks + 1 }) (PySem.W.looks_clsIn X hc) ?_))))))
  rw [hd']
  refine wpAny_pure (a := some dx) (wpAny_bind (wpAny_pure (wpAny_bind ?_)))
  refine wpAny_nsSet1 (s := { s with toks := s.toks + 1 }) I.ns fun h' hn2 hs2 => ?_
  obtain ⟨oD, esD, epD, hoD, hdD, hcD⟩ := hn2.count (PySem.Within.cons name v hw)
  refine wpAny_bind (wpAny_lookBehind hoD (by rw [hdD]; exact pastItsLine_dict (Nat.le_trans hcD (by rw [List.length_cons]; omega))) ?_)
  exact wpAny_pure (h _ ⟨(hs2.2 _ (Ne.symm I.ne)).trans I.obj, hn2, I.ne⟩ hs2)

/-- C(..): the dict at the heap's end, the instance behind it; then its __init__ -/
theorem make_map {R : Result → Shared → Prop} {vs : List Value} {kw : List (Str × Value)} (X : K.In s.heap) (hm : PySem.W.makesIn K C = true)
    (hi : PySem.W.findIn K (.ref C) "__init__" = some (some (.ref f))) (hf : PySem.W.typeIn K (.ref f) = some (.type "function"))
    (h : codeAny (model prog w) (A.under (.builtin "type.__call__" ⟨.ref C :: vs, kw⟩)) (.call (.ref f) ⟨.ref (s.heap.objs.size + 1) :: vs, kw⟩) (PySem.W.InitBack (s.heap.objs.size + 1) R)
      { s with heap := (s.heap.push PySem.W.emptyDict).push (PySem.W.instObj C s.heap.objs.size) }) :
    codeAny (model prog w) A (.call (.ref C) ⟨vs, kw⟩) R s := by
  obtain ⟨hh, g, d, t, os⟩ := s
  exact PySem.W.make_core (PySem.W.makes_of X hm) (PySem.W.looks_findIn X hi) (fun self => PySem.W.bind_fn X self hf) (.inl rfl) h
/-- C() where there is no __init__ but object's -/
theorem make_map0 {R : Result → Shared → Prop} (X : K.In s.heap) (hm : PySem.W.makesIn K C = true)
    (hi : PySem.W.findIn K (.ref C) "__init__" = some (some (.builtin "object.__init__")))
    (hb : ∀ self, PySem.W.Looks (model prog w) s.heap (bindSpecial (.builtin "object.__init__") self) (.builtin "object.__init__", [self]))
    (h : codeAny (model prog w) (A.under (.builtin "type.__call__" ⟨[.ref C], []⟩)) (.call (.builtin "object.__init__") ⟨[.ref (s.heap.objs.size + 1)], []⟩) (PySem.W.InitBack (s.heap.objs.size + 1) R)
      { s with heap := (s.heap.push PySem.W.emptyDict).push (PySem.W.instObj C s.heap.objs.size) }) :
    codeAny (model prog w) A (.call (.ref C) ⟨[], []⟩) R s := by
  obtain ⟨hh, g, d, t, os⟩ := s
  exact PySem.W.make_core (PySem.W.makes_of X hm) (PySem.W.looks_findIn X hi) hb (.inr ⟨rfl, rfl⟩) h
end

/-! ### the attributes as a list of pairs -/
def putF (f : Str) (v : V) : List (Str × V) → List (Str × V)
  | [] => [(f, v)]
  | (g, x) :: r => if g = f then (g, v) :: r else (g, x) :: putF f v r
theorem lookup_putF (f g : Str) (v : V) : ∀ fs : List (Str × V), (putF f v fs).lookup g = if g = f then some v else fs.lookup g
  | [] => by
    show List.lookup g [(f, v)] = _
    by_cases h : g = f
    · have hb : (g == f) = true := beq_iff_eq.mpr h
      simp only [List.lookup, hb, if_pos h]
    · have hb : (g == f) = false := beq_eq_false_iff_ne.mpr h
      simp only [List.lookup, hb, if_neg h]
  | (k, x) :: r => by
    have ih := lookup_putF f g v r
    rw [show putF f v ((k, x) :: r) = (if k = f then (k, v) :: r else (k, x) :: putF f v r) from rfl]
    by_cases hk : k = f
    · rw [if_pos hk]
      by_cases h : g = k
      · have hb : (g == k) = true := beq_iff_eq.mpr h
        simp only [List.lookup, hb, if_pos (h.trans hk)]
      · have hb : (g == k) = false := beq_eq_false_iff_ne.mpr h
        simp only [List.lookup, hb, if_neg (fun e : g = f => h (e.trans hk.symm))]
    · rw [if_neg hk]
      by_cases h : g = k
      · have hb : (g == k) = true := beq_iff_eq.mpr h
        simp only [List.lookup, hb, if_neg (fun e : g = f => hk (h.symm.trans e))]
      · have hb : (g == k) = false := beq_eq_false_iff_ne.mpr h
        simp only [List.lookup, hb]
        exact ih
theorem keys_putF (f : Str) (v : V) : ∀ fs : List (Str × V), f ∈ (putF f v fs).map (·.1) ∧ ∀ g, g ∈ fs.map (·.1) → g ∈ (putF f v fs).map (·.1)
  | [] => ⟨by simp [putF], fun g h => by simp at h⟩
  | (k, x) :: r => by
    obtain ⟨i1, i2⟩ := keys_putF f v r
    rw [show putF f v ((k, x) :: r) = (if k = f then (k, v) :: r else (k, x) :: putF f v r) from rfl]
    by_cases hk : k = f
    · rw [if_pos hk]
      subst hk
      exact ⟨by simp, fun g h => by simpa using h⟩
    · rw [if_neg hk]
      refine ⟨?_, fun g h => ?_⟩
      · rw [List.map_cons]
        exact List.mem_cons_of_mem _ i1
      · rw [List.map_cons] at h ⊢
        rcases List.mem_cons.mp h with e | e
        · exact List.mem_cons.mpr (.inl e)
        · exact List.mem_cons_of_mem _ (i2 g e)
theorem length_putF (f : Str) (v : V) : ∀ fs : List (Str × V), (putF f v fs).length ≤ fs.length + 1
  | [] => by simp [putF]
  | (k, x) :: r => by
    have ih := length_putF f v r
    rw [show putF f v ((k, x) :: r) = (if k = f then (k, v) :: r else (k, x) :: putF f v r) from rfl]
    by_cases hk : k = f
    · rw [if_pos hk, List.length_cons, List.length_cons]; omega
    · rw [if_neg hk, List.length_cons, List.length_cons]; omega

theorem RelO.some_of {v : V} {o : Option Value} (r : RelO (some v) o) : ∃ u, o = some u ∧ RelV v u := by
  cases o with
  | none => exact (show False from r).elim
  | some u => exact ⟨u, rfl, r⟩
theorem RelO.none_of {o : Option Value} (r : RelO none o) : o = none := by
  cases o with
  | none => rfl
  | some u => exact (show False from r).elim
theorem handed_of {v : V} {u : Value} (r : RelV v u) : PySem.W.handedIn u = true := by
  cases v with
  | non => cases (show u = Value.none from r); rfl
  | bl b => cases (show u = Value.bool b from r); rfl
  | int i => obtain ⟨t, e⟩ := (show ∃ t, u = Value.int i t from r); cases e; rfl
  | str x => obtain ⟨t, e⟩ := (show ∃ t, u = Value.str x t from r); cases e; rfl
  | byt b => obtain ⟨t, e⟩ := (show ∃ t, u = Value.bytes b t from r); cases e; rfl
  | flt b => obtain ⟨t, e⟩ := (show ∃ t, u = Value.float b t from r); cases e; rfl
  | ref a => cases (show u = Value.ref a from r); rfl
  | ty n => cases (show u = Value.type n from r); rfl

section
variable {P : Program} {w : World} {H H' : Hp} {h h' : Heap} {a C dx : Addr} {fs fs' : List (Str × V)}
theorem ins_get (hok : HOk P w H h) (e : H a = some (.ins C dx fs)) : ∃ mA, ObjM h a dx C mA ∧ (∀ f, RelO (fs.lookup f) (mA f)) ∧ PySem.Within mA (fs.map (·.1)) ∧ fs.length ≤ 1000 ∧ H dx = some (.own a) := by
  obtain ⟨d, z, ne, ob, mA, n, r, q⟩ := (show ObjOk P w H h a (.ins C dx fs) from hok a _ e)
  exact ⟨mA, ⟨ob, n, ne⟩, r, q, z, d⟩
end

/-! ### what of the text a class must have -/
structure Cls (K : PySem.W.Frag) (C : Addr) : Prop where
  pg : PySem.W.plainGet K C Str.empty = true
  hd : PySem.W.hasDictIn K C = true
  po : PySem.W.plainOver K C = true
  sa : PySem.W.findIn K (.ref C) "__setattr__" = some (some (.builtin "object.__setattr__"))
theorem Cls.get {K : PySem.W.Frag} {C : Addr} (c : Cls K C) (f : Str) : PySem.W.plainGet K C f = true := c.pg
/-- no class of it has the name -/
def NoAttr (K : PySem.W.Frag) (C : Addr) (f : Str) : Prop := PySem.W.findIn K (.ref C) f = some none
theorem NoAttr.taker {K : PySem.W.Frag} {C : Addr} {f : Str} (n : NoAttr K C f) : PySem.W.takerIn K C f = some none := by
  unfold PySem.W.takerIn
  rw [show PySem.W.findIn K (.ref C) f = some none from n]
  rfl
/-- a constant of the class -/
structure Con (K : PySem.W.Frag) (C : Addr) (f : Str) (v : V) (u : Value) : Prop where
  at_ : PySem.W.findIn K (.ref C) f = some (some u)
  rel : RelV v u
  get : PySem.W.specialIn K u "__get__" = some none
  cp : PySem.W.copiedNames.contains f = false
/-- a method: a plain def of the class or of one above it -/
structure Meth (K : PySem.W.Frag) (C : Addr) (m : Str) (f : Addr) : Prop where
  at_ : PySem.W.findIn K (.ref C) m = some (some (.ref f))
  fn : PySem.W.isFn K (.ref f) = true
  kp : PySem.W.keepIn K (.ref f) = true

section
variable {X : Cx} {pins : List (Addr × Obj)} {σ : St} {H : Hp} {s : Shared} {a C dx : Addr} {fs : List (Str × V)} {f : Str} {v : V} {A : Around} {E : Value → Shared → Prop}

theorem getattr_ok {b : Bool} {Q : Value → Shared → Prop} (I : Inv X pins σ H s) (e : H a = some (.ins C dx fs)) (c : Cls X.K C) (n : NoAttr X.K C f) (l : fs.lookup f = some v)
    (h : ∀ u s', Inv X pins σ H s' → RelV v u → Q u s') : wpAny (model X.prog X.w) A (getAttr (.ref a) f b) Q E s := by
  obtain ⟨mA, O, r, _, _, _⟩ := ins_get I.hok e
  obtain ⟨u, hu, ru⟩ := RelO.some_of (v := v) (o := mA f) (by rw [← l]; exact r f)
  exact get_map I.kIn O (c.get f) c.hd n hu (handed_of ru) (h u _ (I.tok _) ru)

theorem getcon_ok {b : Bool} {u : Value} {Q : Value → Shared → Prop} (I : Inv X pins σ H s) (e : H a = some (.ins C dx fs)) (c : Cls X.K C) (k : Con X.K C f v u) (l : fs.lookup f = none)
    (h : ∀ s', Inv X pins σ H s' → Q u s') : wpAny (model X.prog X.w) A (getAttr (.ref a) f b) Q E s := by
  obtain ⟨mA, O, r, _, _, _⟩ := ins_get I.hok e
  have hn : mA f = none := RelO.none_of (by rw [← l]; exact r f)
  exact get_const I.kIn O (c.get f) c.hd k.at_ k.get k.cp hn (handed_of k.rel) (h _ (I.tok _))

theorem getmeth_ok {m : Str} {g : Addr} {pl : Sem Bool} {Q : Value × List Value → Shared → Prop} (I : Inv X pins σ H s) (e : H a = some (.ins C dx fs)) (c : Cls X.K C) (k : Meth X.K C m g) (l : fs.lookup m = none)
    (h : Q (.ref g, [.ref a]) s) : wpAny (model X.prog X.w) A (getMethod (.ref a) m pl) Q E s := by
  obtain ⟨mA, O, r, _, _, _⟩ := ins_get I.hok e
  have hn : mA m = none := RelO.none_of (by rw [← l]; exact r m)
  exact get_meth I.kIn O (c.get m) k.at_ k.fn hn h

theorem setattr_ok {y : V} {u : Value} {Q : Unit → Shared → Prop} (I : Inv X pins σ H s) (e : H a = some (.ins C dx fs)) (c : Cls X.K C) (n : NoAttr X.K C f) (hl : fs.length < 1000) (ry : RelV y u)
    (h : ∀ s', Inv X pins σ (upd H a (.ins C dx (putF f y fs))) s' → Q () s') : wpAny (model X.prog X.w) A (setAttr (.ref a) f u) Q E s := by
  obtain ⟨mA, O, r, wi, _, ho⟩ := ins_get I.hok e
  have hz : (fs.map (·.1)).length ≤ sizeLine := by rw [List.length_map, sizeLine_eq]; omega
  refine set_map I.kIn O c.sa c.po n.taker c.hd wi hz fun h' O' sb => h _ ?_
  have hd : ∃ o, h'.get? dx = some o := let ⟨o, _, _, e', _⟩ := O'.ns; ⟨o, e'⟩
  refine I.write (x := a) (e := dx) (by rw [e]; exact True.intro) (.inr ho) (fun b q hb z => (sb.2 b hb).trans z) hd ?_
  refine ⟨by rw [upd_ne O.ne]; exact ho, ?_, O.ne, O'.obj, _, O'.ns, fun g => ?_, fun g hg => ?_⟩
  · have := length_putF f y fs; omega
  · show RelO ((putF f y fs).lookup g) (if g = f then some u else mA g)
    rw [lookup_putF]
    by_cases q : g = f
    · rw [if_pos q, if_pos q]; exact ry
    · rw [if_neg q, if_neg q]; exact r g
  · by_cases q : g = f
    · rw [q]; exact (keys_putF f y fs).1
    · refine (keys_putF f y fs).2 g (wi g fun z => hg ?_)
      show (if g = f then some u else mA g) = none
      rw [if_neg q]; exact z

/-- a new instance, tracked, without attributes -/
theorem Inv.made (I : Inv X pins σ H s) : Inv X pins σ (upd (upd H s.heap.objs.size (.own (s.heap.objs.size + 1))) (s.heap.objs.size + 1) (.ins C s.heap.objs.size []))
    { s with heap := (s.heap.push PySem.W.emptyDict).push (PySem.W.instObj C s.heap.objs.size) } := by
  have e1 : (s.heap.push PySem.W.emptyDict).get? s.heap.objs.size = some PySem.W.emptyDict := Heap.get?_push_size s.heap rfl
  have e2 : ((s.heap.push PySem.W.emptyDict).push (PySem.W.instObj C s.heap.objs.size)).get? (s.heap.objs.size + 1) = some (PySem.W.instObj C s.heap.objs.size) := by
    have := Heap.get?_push_size (s.heap.push PySem.W.emptyDict) (o := PySem.W.instObj C s.heap.objs.size) rfl
    rwa [Heap.size_push] at this
  have e3 : (s.heap.push PySem.W.emptyDict).Ns s.heap.objs.size (fun _ => none) := ⟨PySem.W.emptyDict, #[], _, e1, rfl, (fun e he => absurd he (by simp)), fun _ => rfl⟩
  have I1 := I.laid (a := s.heap.objs.size) (o := .own (s.heap.objs.size + 1)) (h' := s.heap.push PySem.W.emptyDict) (t' := s.toks) (fun b u q => Heap.get?_push_of_some _ q) (Nat.le_refl _) ⟨_, e1⟩
  refine I1.laid (a := s.heap.objs.size + 1) (o := .ins C s.heap.objs.size []) (t' := s.toks) (fun b u q => Heap.get?_push_of_some _ q) (Nat.le_of_eq (Heap.size_push _ _)) ?_
  have ne : s.heap.objs.size ≠ s.heap.objs.size + 1 := Nat.ne_of_lt (Nat.lt_succ_self _)
  refine ⟨by rw [upd_ne ne, upd_same], Nat.zero_le _, ne, e2, fun _ => none, (Heap.Ns1.of_empty e3).at fun o q => Heap.get?_push_of_some _ q, fun _ => True.intro, fun y hy => absurd rfl hy⟩

/-- e.f where nothing but the object is asked: through attributeBase (super) and the last hold -/
theorem attr_of {prog : Program} {w : World} {env : Env} {e : Expr} {f : Str} {pos : Pos} {s : Shared} {Q : Value → Shared → Prop} (hb : attributeBase e f env (eval e env) = eval e env)
    (h : wpAny (model prog w) A (eval e env) (fun o s₁ => wpAny (model prog w) A (getAttr o f true) Q E s₁) E s) : wpAny (model prog w) A (eval (.Attribute e f pos) env) Q E s :=
  Attribute_any_ h (by rw [arm_eval_Attribute, hb])
end

/-! ### readings and rules -/
/-- e.f, an attribute of the instance -/
def tFld (K : PySem.W.Frag) (ta : TE) (f : Str) : TE := fun σ H Q => ta σ H fun x H1 => ∃ a C dx fs v, x = .ref a ∧ H1 a = some (.ins C dx fs) ∧ Cls K C ∧ NoAttr K C f ∧ fs.lookup f = some v ∧ Q v H1
/-- e.f, a constant of the class -/
def tCon (K : PySem.W.Frag) (ta : TE) (f : Str) : TE := fun σ H Q => ta σ H fun x H1 => ∃ a C dx fs v u, x = .ref a ∧ H1 a = some (.ins C dx fs) ∧ Cls K C ∧ Con K C f v u ∧ fs.lookup f = none ∧ Q v H1
/-- e.f = value -/
def sFld (K : PySem.W.Frag) (ta tv : TE) (f : Str) : TS := fun D σ H => tv σ H fun y H1 => ta σ H1 fun x H2 => ∃ a C dx fs, x = .ref a ∧ H2 a = some (.ins C dx fs) ∧ Cls K C ∧ NoAttr K C f ∧ fs.length < 1000 ∧
  D.nx σ (upd H2 a (.ins C dx (putF f y fs)))
/-- an augmented operator on two values -/
def InOp (X : Cx) (op : Operator) (rd : V → V → Hp → VK → Prop) : Prop :=
  ∀ (pins : List (Addr × Obj)) (s : Shared) (σ : St) (H : Hp) (x y : V) (u v : Value) (Q : VK), Inv X pins σ H s → RelV x u → RelV y v → rd x y H Q → wpAny (model X.prog X.w) X.A (inplaceOp op u v) (EP X pins σ Q) X.xe s
/-- e.f op= value -/
def sFldAug (K : PySem.W.Frag) (ta tv : TE) (rd : V → V → Hp → VK → Prop) (f : Str) : TS := fun D σ H => ta σ H fun x H1 => ∃ a C dx fs v, x = .ref a ∧ H1 a = some (.ins C dx fs) ∧ Cls K C ∧ NoAttr K C f ∧ fs.lookup f = some v ∧
  tv σ H1 fun y H2 => rd v y H2 fun z H3 => ∃ dx' fs', H3 a = some (.ins C dx' fs') ∧ fs'.length < 1000 ∧ D.nx σ (upd H3 a (.ins C dx' (putF f z fs')))

section
variable {X : Cx} {o e value : Expr} {f : Str} {pos pos' tpos : Pos} {ta tv : TE}
theorem pe_fld (he : PE X e ta) (hb : attributeBase e f X.env (eval e X.env) = eval e X.env) : PE X (.Attribute e f pos) (tFld X.K ta f) := by
  intro pins s σ H Q I h
  refine attr_of hb (thn (he pins s σ H _ I h) fun u s1 ⟨x, H1, I1, rx, a, C, dx, fs, v, ex, ea, c, n, l, q⟩ => ?_)
  subst ex
  obtain rfl : u = Value.ref a := rx
  exact getattr_ok I1 ea c n l fun u' s2 I2 ru => ⟨v, H1, I2, ru, q⟩
theorem pe_con (he : PE X e ta) (hb : attributeBase e f X.env (eval e X.env) = eval e X.env) : PE X (.Attribute e f pos) (tCon X.K ta f) := by
  intro pins s σ H Q I h
  refine attr_of hb (thn (he pins s σ H _ I h) fun u s1 ⟨x, H1, I1, rx, a, C, dx, fs, v, u0, ex, ea, c, k, l, q⟩ => ?_)
  subst ex
  obtain rfl : u = Value.ref a := rx
  exact getcon_ok I1 ea c k l fun s2 I2 => ⟨v, H1, I2, k.rel, q⟩
theorem ps_fld (ha : PE X o ta) (hv : PE X value tv) (hs : swapsWith value (some (.Attribute o f pos')) pos.line X.env = pure false) : PS X (.Assign [.Attribute o f pos'] value pos) (sFld X.K ta tv f) := by
  intro pins s σ H D I h
  refine plainObj_wpAny_Assign_Attribute (thn (hv pins s σ H _ I h) fun u s1 ⟨y, H1, I1, ry, q⟩ => thn (ha pins s1 σ H1 _ I1 q) fun ov s2 ⟨x, H2, I2, rx, a, C, dx, fs, ex, ea, c, n, l, q2⟩ => ?_) hs
  subst ex
  obtain rfl : ov = Value.ref a := rx
  exact setattr_ok I2 ea c n l ry fun s3 I3 => ⟨σ, _, I3, q2⟩
theorem ps_fldaug {op : Operator} {rd : V → V → Hp → VK → Prop} (ha : PE X o ta) (hv : PE X value tv) (hop : InOp X op rd) : PS X (.AugAssign (.Attribute o f tpos) op value pos) (sFldAug X.K ta tv rd f) := by
  intro pins s σ H D I h
  refine wpAny_AugAssign_AttributeAny (thn (ha pins s σ H _ I h) fun ov s1 ⟨x, H1, I1, rx, a, C, dx, fs, v, ex, ea, c, n, l, q⟩ => ?_)
  subst ex
  obtain rfl : ov = Value.ref a := rx
  refine getattr_ok I1 ea c n l fun u s2 I2 ru => thn (hv pins s2 σ H1 _ I2 q) fun w3 s3 ⟨y, H2, I3, ry, q3⟩ => thn (hop pins s3 σ H2 v y u w3 _ I3 ru ry q3) fun w4 s4 ⟨z, H3, I4, rz, dx', fs', ea', l', q4⟩ => ?_
  exact setattr_ok I4 ea' c n l' rz fun s5 I5 => ⟨σ, _, I5, q4⟩
def rAdd : V → V → Hp → VK → Prop := fun x y H Q => ∃ i j, x = .int i ∧ y = .int j ∧ Q (.int (i + j)) H
def rSub : V → V → Hp → VK → Prop := fun x y H Q => ∃ i j, x = .int i ∧ y = .int j ∧ Q (.int (i - j)) H
theorem in_add : InOp X .Add rAdd := by
  rintro pins s σ H x y u v Q I rx ry ⟨i, j, rfl, rfl, q⟩
  obtain ⟨t, rfl⟩ := (show ∃ t, u = Value.int i t from rx)
  obtain ⟨t', rfl⟩ := (show ∃ t', v = Value.int j t' from ry)
  exact PyProof.Rows.iadd_int ⟨.int (i + j), H, I.tok _, ⟨_, rfl⟩, q⟩
theorem in_sub : InOp X .Sub rSub := by
  rintro pins s σ H x y u v Q I rx ry ⟨i, j, rfl, rfl, q⟩
  obtain ⟨t, rfl⟩ := (show ∃ t, u = Value.int i t from rx)
  obtain ⟨t', rfl⟩ := (show ∃ t', v = Value.int j t' from ry)
  exact PyProof.Rows.isub_int ⟨.int (i - j), H, I.tok _, ⟨_, rfl⟩, q⟩

/-- what is between an instance and its method: the tree of a method call -/
theorem methcall_of {pl : Sem Bool} {m : Str} {apos : Pos} {args : List Expr} {pins : List (Addr × Obj)} {s : Shared} {σ : St} {H : Hp} {Q : Value → Shared → Prop} {te : TE} (he : PE X e te) (I : Inv X pins σ H s)
    (h : te σ H fun x H1 => ∃ a C dx fs g, x = .ref a ∧ H1 a = some (.ins C dx fs) ∧ Cls X.K C ∧ Meth X.K C m g ∧ fs.lookup m = none ∧
      ∀ s1, Inv X pins σ H1 s1 → wpAny (model X.prog X.w) X.A (callWith pos (.ref g) [.ref a] (backTo pos (starEach args X.env)) (backToKw pos (keywordEach [] X.env))) Q X.xe s1)
    (ht : eval (.Call (.Attribute e m apos) args [] pos) X.env = (do
      let ov ← eval e X.env
      standAt apos.atName
      let (f, first) ← holding [ov] (getMethod ov m pl)
      callWith pos f first (backTo pos (starEach args X.env)) (backToKw pos (keywordEach [] X.env)))) :
    wpAny (model X.prog X.w) X.A (eval (.Call (.Attribute e m apos) args [] pos) X.env) Q X.xe s := by
  refine PySem.W.methodCall_KW (pl := pl) (thn (he pins s σ H _ I h) fun u s1 ⟨x, H1, I1, rx, a, C, dx, fs, g, ex, ea, c, k, l, q⟩ => ?_) ht
  subst ex
  obtain rfl : u = Value.ref a := rx
  exact getmeth_ok I1 ea c k l (q s1 I1)
end

/-! ### isinstance -/
section
variable {X : Cx} {pins : List (Addr × Obj)} {σ : St} {H : Hp} {s : Shared} {A : Around} {E : Value → Shared → Prop} {Q : Value → Shared → Prop} {c : Value} {b : Bool}
/-- the type of a value, as the fragment's deciders take it; for an instance its class -/
inductive TyOf (K : PySem.W.Frag) (H : Hp) : V → Value → Prop where
  | non : TyOf K H .non (.type "NoneType")
  | bl (x : Bool) : TyOf K H (.bl x) (.type "bool")
  | int (i : Int) : TyOf K H (.int i) (.type "int")
  | str (x : Str) : TyOf K H (.str x) (.type "str")
  | flt (x : UInt64) : TyOf K H (.flt x) (.type "float")
  | lst {a : Addr} {xs : List V} (e : H a = some (.lst xs)) : TyOf K H (.ref a) (.type "list")
  | frz {a : Addr} {o : Obj} {xs : List V} (e : H a = some (.frz o (.lst xs))) : TyOf K H (.ref a) (.type "list")
  | tup {a : Addr} {xs : List V} (e : H a = some (.tup xs)) : TyOf K H (.ref a) (.type "tuple")
  | dK {a : Addr} {kvs : List (Key × V)} (e : H a = some (.dK kvs)) : TyOf K H (.ref a) (.type "dict")
  | dT {a : Addr} {kvs : List (List Key × V)} (e : H a = some (.dT kvs)) : TyOf K H (.ref a) (.type "dict")
  | ins {a C dx : Addr} {fs : List (Str × V)} (e : H a = some (.ins C dx fs)) (cl : Cls K C) (ha : PySem.W.findIn K (.ref C) "__class__" = some (some (.builtin "object.__class__")))
      (hn : PySem.W.specialIn K (.builtin "object.__class__") "__get__" = some (some (.builtin "getset_descriptor.__get__"))) (htk : PySem.W.takesIn K (.builtin "object.__class__") = some true)
      (hm : PySem.W.mroIn K C (.type "object") = some true) : TyOf K H (.ref a) (.ref C)
/-- isinstance(x, c) for one class c, a built-in or an own one: kitOne's answer -/
theorem isinst_ok {x : V} {u t : Value} (I : Inv X pins σ H s) (rx : RelV x u) (ty : TyOf X.K H x t) (e : PySem.W.kitOne X.K t c = some b) (h : ∀ tk, Q (.bool b) { s with toks := tk }) :
    wpAny (model X.prog X.w) A (call (.builtin "isinstance") [u, c]) Q E s := by
  cases ty with
  | non => cases (show u = Value.none from rx); exact PySem.W.kia_one PySem.W.kitx_none I.kIn True.intro e (fun z => nomatch z) h
  | bl y => cases (show u = Value.bool y from rx); exact PySem.W.kia_one PySem.W.kitx_bool I.kIn True.intro e (fun z => nomatch z) h
  | int i => obtain ⟨t, q⟩ := (show ∃ t, u = Value.int i t from rx); cases q; exact PySem.W.kia_one PySem.W.kitx_int I.kIn True.intro e (fun z => nomatch z) h
  | str y => obtain ⟨t, q⟩ := (show ∃ t, u = Value.str y t from rx); cases q; exact PySem.W.kia_one PySem.W.kitx_str I.kIn True.intro e (fun z => nomatch z) h
  | flt y => obtain ⟨t, q⟩ := (show ∃ t, u = Value.float y t from rx); cases q; exact PySem.W.kia_one PySem.W.kitx_float I.kIn True.intro e (fun z => nomatch z) h
  | @lst a xs ea =>
    cases (show u = Value.ref a from rx)
    obtain ⟨_, _, n, _, h1⟩ := (show ObjOk X.prog X.w H s.heap a (.lst xs) from I.hok a _ ea)
    exact PySem.W.kia_one PySem.W.kitx_list I.kIn ⟨_, h1, rfl⟩ e (fun z => nomatch z) h
  | @frz a ob xs ea =>
    cases (show u = Value.ref a from rx)
    obtain ⟨_, _, _, n, _, h1⟩ := (show ObjOk X.prog X.w H s.heap a (.frz ob (.lst xs)) from I.hok a _ ea)
    exact PySem.W.kia_one PySem.W.kitx_list I.kIn ⟨_, h1, rfl⟩ e (fun z => nomatch z) h
  | @tup a xs ea =>
    cases (show u = Value.ref a from rx)
    obtain ⟨_, _, _, p⟩ := (show ObjOk X.prog X.w H s.heap a (.tup xs) from I.hok a _ ea)
    obtain ⟨o, h1, h2, _⟩ := p
    exact PySem.W.kia_one PySem.W.kitx_tuple I.kIn ⟨o, h1, h2⟩ e (fun z => nomatch z) h
  | @dK a kvs ea =>
    cases (show u = Value.ref a from rx)
    obtain ⟨_, _, vs, _, p⟩ := (show ObjOk X.prog X.w H s.heap a (.dK kvs) from I.hok a _ ea)
    obtain ⟨o, es, ep, h1, h2, _⟩ := p
    exact PySem.W.kia_one PySem.W.kitx_dict I.kIn ⟨o, h1, h2.1⟩ e (fun z => nomatch z) h
  | @dT a kvs ea =>
    cases (show u = Value.ref a from rx)
    obtain ⟨_, _, xs, _, o, es, ep, h1, h2, _⟩ := (show ObjOk X.prog X.w H s.heap a (.dT kvs) from I.hok a _ ea)
    exact PySem.W.kia_one PySem.W.kitx_dict I.kIn ⟨o, h1, h2.1⟩ e (fun z => nomatch z) h
  | @ins a C dx fs ea cl ha hn htk hm =>
    cases (show u = Value.ref a from rx)
    obtain ⟨mA, O, _⟩ := ins_get I.hok ea
    obtain ⟨od, J, _⟩ := O.look
    exact PySem.W.kia_one (PySem.W.kitx_own (cl.get _) cl.hd ha hn htk hm) I.kIn J e (fun z => nomatch z) h
end
end L2

namespace L2
open PySem PySem.Spec PyProof.Rows

/-! ### room -/
structure Room (k : Nat) (A : Around) : Prop where
  hd : A.handled = none
  dp : A.depth + 3 * k + 5 < recursionLimit
  un : A.units + 16 * k + 200 < cLine
theorem Room.mono {j k : Nat} {A : Around} (r : Room k A) (h : j ≤ k) : Room j A := ⟨r.hd, by have := r.dp; omega, by have := r.un; omega⟩
theorem Room.deeper {k : Nat} {A : Around} (r : Room (k + 1) A) (env : Env) : Room k (A.deeper env) :=
  ⟨r.hd, by have := r.dp; show A.depth + 1 + 3 * k + 5 < _; omega, by have := r.un; show A.units + 3 + 16 * k + 200 < _; omega⟩
theorem Room.in1 {k : Nat} {A : Around} (r : Room (k + 1) A) : Room k A.in1 :=
  ⟨r.hd, by have := r.dp; show A.depth + 3 * k + 5 < _; omega, by have := r.un; show A.units + 1 + 16 * k + 200 < _; omega⟩
theorem make_depth {A : Around} {C : Addr} {us : List Value} {kw : List (Str × Value)} : (A.under (.builtin "type.__call__" ⟨.ref C :: us, kw⟩)).depth = A.depth + 1 := by
  first | rfl | simp [Around.under, Code.weight, Code.isCreation, Code.isGuard, Code.isCaller, Code.frames, Code.isFrame, guardIds]
theorem make_units {A : Around} {C : Addr} {us : List Value} {kw : List (Str × Value)} : (A.under (.builtin "type.__call__" ⟨.ref C :: us, kw⟩)).units = A.units + 1 := by
  first | rfl | simp [Around.under, Code.cUnits, Code.frames, Code.isFrame]
theorem Room.make {k : Nat} {A : Around} (r : Room (k + 1) A) (C : Addr) (us : List Value) (kw : List (Str × Value)) : Room k (A.under (.builtin "type.__call__" ⟨.ref C :: us, kw⟩)) :=
  ⟨r.hd, by have := r.dp; rw [make_depth]; omega, by have := r.un; rw [make_units]; omega⟩
theorem Room.depth {k : Nat} {A : Around} (r : Room k A) : A.depth < recursionLimit := by have := r.dp; omega
theorem Room.units {k : Nat} {A : Around} (r : Room k A) : A.units + 64 < cLine := by have := r.un; omega
theorem Room.units0 {k : Nat} {A : Around} (r : Room k A) : A.units < cLine := by have := r.un; omega

/-! ### argument lists and displays -/
def tNil : TA := fun _ H Q => Q [] H
def tCons (ta : TE) (tr : TA) : TA := fun σ H Q => ta σ H fun x H1 => tr σ H1 fun xs H2 => Q (x :: xs) H2
section
variable {X : Cx} {e : Expr} {es : List Expr} {te : TE} {t : TA} {pos : Pos}
theorem pa_nil : PA X [] tNil := fun _ _ _ _ H Q I h => Calls.spliced_nil ⟨[], H, I, .nil, h⟩
theorem pa_cons (ha : PE X e te) (hr : PA X es t) (hs : starEach (e :: es) X.env = (false, eval e X.env) :: starEach es X.env := by rfl) : PA X (e :: es) (tCons te t) := by
  intro pos pins s σ H Q I h
  rw [hs]
  show wpAny _ _ (spliced ((false, eval e X.env) :: backTo pos (starEach es X.env))) _ _ s
  refine Calls.spliced_cons (thn (ha pins s σ H _ I h) fun u s1 ⟨x, H1, I1, r1, q1⟩ => ?_)
  exact thn (hr pos pins s1 σ H1 _ I1 q1) fun us s2 ⟨xs, H2, I2, r2, q2⟩ => ⟨x :: xs, H2, I2, .cons r1 r2, q2⟩

/-- a tuple, a list of written items -/
def tTup (t : TA) : TE := fun σ H Q => t σ H fun xs H1 => xs.length ≤ sizeLine ∧ ∀ p, H1 p = none → Q (.ref p) (upd H1 p (.tup xs))
def tLst (t : TA) : TE := fun σ H Q => t σ H fun xs H1 => xs.length ≤ sizeLine ∧ ∀ p, H1 p = none → Q (.ref p) (upd H1 p (.lst xs))
theorem pe_tup {x1} (h : PA X es t) : PE X (.Tuple es x1 pos) (tTup t) := by
  intro pins s σ H Q I hq
  refine wpAny_Tuple_spliced (thn (h pos pins s σ H _ I hq) fun us s1 ⟨xs, H1, I1, r, z, q⟩ => ⟨by rw [← r.length]; exact z, ?_⟩)
  have hf : H1 s1.heap.objs.size = none := I1.hok.fresh (Nat.le_refl _)
  refine ⟨.ref s1.heap.objs.size, upd H1 s1.heap.objs.size (.tup xs), I1.laid (t' := s1.toks) (fun b u e => Heap.get?_push_of_some _ e) (Nat.le_refl _) ?_, rfl, q _ hf⟩
  exact ⟨z, us, r, ⟨_, Heap.get?_push_size _ rfl, rfl, _, rfl⟩⟩
theorem pe_lst (h : PA X es t) : PE X (.List es pos) (tLst t) := by
  intro pins s σ H Q I hq
  refine wpAny_List_spliced (thn (h pos pins s σ H _ I hq) fun us s1 ⟨xs, H1, I1, r, z, q⟩ => ⟨by rw [← r.length]; exact z, ?_⟩)
  have hf : H1 s1.heap.objs.size = none := I1.hok.fresh (Nat.le_refl _)
  refine ⟨.ref s1.heap.objs.size, upd H1 s1.heap.objs.size (.lst xs), I1.laid (t' := s1.toks) (fun b u e => Heap.get?_push_of_some _ e) (Nat.le_refl _) ?_, rfl, q _ hf⟩
  exact ⟨z, us, 0, r, Heap.get?_push_size _ rfl⟩
end

/-! ### what a def promises -/
/-- a def's promise: the bound arguments in the parameters' order, the heap, the wanted end, the wanted exception -/
abbrev Sp := List V → Hp → VK → XK → Prop
/-- how an exception lies behind a call (file 08 gives it): the callers' frames, abstract heap and state ahead of the call, the wish, the exception, the state -/
abbrev CXT := List Env → Hp → Shared → XK → Value → Shared → Prop

/-- the state at a call -/
structure Env0 (P : Program) (w : World) (K : PySem.W.Frag) (mg : Str → Option Value) (base : Heap) (A : Around) (outer : List Env) (s : Shared) (H : Hp) : Prop where
  frames : A.frames = some outer
  mod : Mod K mg base
  bs : ∀ b o, base.get? b = some o → s.heap.get? b = some o ∧ H b = none
  bsz : base.objs.size ≤ s.heap.objs.size
  funs : s.heap.FunFrames base outer
  frf : ∀ b ∈ frs outer, H b = none
  hok : HOk P w H s.heap
  bare : AllBare s.gens
/-- a call's end -/
def CE (outer : List Env) (P : Program) (w : World) (H : Hp) (s : Shared) (Q : VK) (u : Value) (s' : Shared) : Prop :=
  ∃ v H', s'.os = s.os ∧ AllBare s'.gens ∧ Un (frs outer) [] H H' s.heap s'.heap ∧ HOk P w H' s'.heap ∧ RelV v u ∧ Q v H'
def CR (CX : CXT) (outer : List Env) (P : Program) (w : World) (H : Hp) (s : Shared) (Q : VK) (E : XK) (r : Result) (s' : Shared) : Prop :=
  match r with
  | .ok (.ret u) => CE outer P w H s Q u s'
  | .ok _ => False
  | .error e => CX outer H s E e s'
structure FnOk (P : Program) (w : World) (K : PySem.W.Frag) (mg : Str → Option Value) (base : Heap) (CX : CXT) (k : Nat) (f : Addr) (fd : FuncData) (ps : List Str) (sp : Sp) : Prop where
  len : ∀ vs H Q E, sp vs H Q E → vs.length = ps.length
  run : ∀ (A : Around) (outer : List Env) (s : Shared) (H : Hp) (args : Args) (us : List Value) (vs : List V) (Q : VK) (E : XK), Room k A → Env0 P w K mg base A outer s H → BindsTo s fd args (ps.zip us) → Vals vs us → sp vs H Q E →
    codeAny (model P w) A (.call (.ref f) args) (CR CX outer P w H s Q E) s
theorem FnOk.mono {P : Program} {w : World} {K : PySem.W.Frag} {mg : Str → Option Value} {base : Heap} {CX : CXT} {j k : Nat} {f : Addr} {fd : FuncData} {ps : List Str} {sp : Sp} (F : FnOk P w K mg base CX j f fd ps sp) (h : j ≤ k) :
    FnOk P w K mg base CX k f fd ps sp := ⟨F.len, fun A outer s H args us vs Q E hr => F.run A outer s H args us vs Q E (hr.mono h)⟩
/-- a weaker promise -/
theorem FnOk.imp {P : Program} {w : World} {K : PySem.W.Frag} {mg : Str → Option Value} {base : Heap} {CX : CXT} {k : Nat} {f : Addr} {fd : FuncData} {ps : List Str} {sp sp' : Sp} (F : FnOk P w K mg base CX k f fd ps sp)
    (h : ∀ vs H Q E, sp' vs H Q E → sp vs H Q E) : FnOk P w K mg base CX k f fd ps sp' :=
  ⟨fun vs H Q E q => F.len vs H Q E (h _ _ _ _ q), fun A outer s H args us vs Q E hr he hb hv hs => F.run A outer s H args us vs Q E hr he hb hv (h _ _ _ _ hs)⟩

theorem Env0.make {P : Program} {w : World} {K : PySem.W.Frag} {mg : Str → Option Value} {base : Heap} {A : Around} {outer : List Env} {s : Shared} {H : Hp} (e : Env0 P w K mg base A outer s H) (C : Addr) (us : List Value) (kw : List (Str × Value)) :
    Env0 P w K mg base (A.under (.builtin "type.__call__" ⟨.ref C :: us, kw⟩)) outer s H := ⟨by first | exact e.frames | (simpa [Around.under, Code.envs, Code.isFrame, pushEnvs] using e.frames), e.mod, e.bs, e.bsz, e.funs, e.frf, e.hok, e.bare⟩
theorem Env0.in1 {P : Program} {w : World} {K : PySem.W.Frag} {mg : Str → Option Value} {base : Heap} {A : Around} {outer : List Env} {s : Shared} {H : Hp} (e : Env0 P w K mg base A outer s H) :
    Env0 P w K mg base A.in1 outer s H := ⟨e.frames, e.mod, e.bs, e.bsz, e.funs, e.frf, e.hok, e.bare⟩

section
variable {X : Cx} {pins : List (Addr × Obj)} {σ : St} {H : Hp} {s s' : Shared}
/-- from a body: what a callee wants -/
theorem Inv.env0 (I : Inv X pins σ H s) : Env0 X.prog X.w X.K X.mg X.base X.A X.stack s H :=
  ⟨I.ok.frames, I.ok.mod, I.bs, Nat.le_trans I.ok.bsz I.sz, I.stack, I.stkFree, I.hok, I.bare⟩
/-- behind a call -/
theorem Inv.after {Q : VK} {u : Value} (I : Inv X pins σ H s) (h : CE X.stack X.prog X.w H s Q u s') : EP X pins σ Q u s' := by
  obtain ⟨v, H', os, bare, un, hok, r, q⟩ := h
  obtain ⟨hh, g, d, t, os'⟩ := s'
  obtain rfl : os' = s.os := os
  exact ⟨v, H', I.call (h' := hh) (g' := g) (d' := d) (t' := t) (ch := []) un hok bare (fun b z => absurd z (by simp)), r, q⟩
end

/-! ### calls -/
/-- f(..): the written arguments, then the defaults dvs; E: what is wanted of an exception -/
def tCall (sp : Sp) (dvs : List V) (E : XK) (t : TA) : TE := fun σ H Q => t σ H fun vs H1 => sp (vs ++ dvs) H1 Q E
/-- o.m(..) of an instance of the class at C -/
def tMeth (C : Addr) (m : Str) (sp : Sp) (dvs : List V) (E : XK) (ta : TE) (t : TA) : TE := fun σ H Q => ta σ H fun x H1 => ∃ a dx fs, x = .ref a ∧ H1 a = some (.ins C dx fs) ∧ fs.lookup m = none ∧
  t σ H1 fun vs H2 => sp (x :: (vs ++ dvs)) H2 Q E
/-- C(..): a new instance and its dict, then __init__ -/
def tMake (C : Addr) (sp : Sp) (dvs : List V) (E : XK) (t : TA) : TE := fun σ H Q => t σ H fun vs H1 => ∀ x dx, H1 x = none → H1 dx = none → dx ≠ x →
  sp (.ref x :: (vs ++ dvs)) (upd (upd H1 dx (.own x)) x (.ins C dx [])) (fun v H2 => v = .non ∧ Q (.ref x) H2) E

/-- how the parameters are bound: us the positional arguments, kw the keywords' values by name, ds the defaults that fill up -/
def Binds (K : PySem.W.Frag) (fd : FuncData) (ps : List Str) (ds : List Value) : Prop :=
  ∀ (s : Shared) (us : List Value), K.In s.heap → (us ++ ds).length = ps.length → BindsTo s fd ⟨us, []⟩ (ps.zip (us ++ ds))
/-- every parameter is given -/
theorem Binds.all {K : PySem.W.Frag} {fd : FuncData} {ps : List Str} (h : ∀ us : List Value, us.length = ps.length → bindArgs fd ⟨us, []⟩ = pure (ps.zip us)) : Binds K fd ps [] := fun s us _ hl => by
  rw [List.append_nil] at hl ⊢
  exact .of_eq (h us hl)

/-- an exception of a callee reaches what this body wants of exceptions -/
def Passes (CX : CXT) (X : Cx) (E : XK) : Prop := ∀ (pins : List (Addr × Obj)) (σ : St) (H : Hp) (s : Shared) (e : Value) (s' : Shared), Inv X pins σ H s → CX X.stack H s E e s' → X.xe e s'

section
variable {X : Cx} {CX : CXT} {k : Nat} {f C : Addr} {fd : FuncData} {ps : List Str} {sp : Sp} {dvs : List V} {ds : List Value} {E : XK} {x m : Str} {p pos apos : Pos} {e o : Expr} {es : List Expr} {ta : TE} {t : TA}

/-- the callee runs -/
theorem run_fn {pins : List (Addr × Obj)} {σ : St} {H : Hp} {s : Shared} {Q : VK} {us : List Value} {vs : List V} (F : FnOk X.prog X.w X.K X.mg X.base CX k f fd ps sp) (hr : Room k X.A) (hb : Binds X.K fd ps ds) (hd : Vals dvs ds) (hx : Passes CX X E)
    (I : Inv X pins σ H s) (r : Vals vs us) (h : sp (vs ++ dvs) H Q E) : wpAny (model X.prog X.w) X.A (call (.ref f) us) (EP X pins σ Q) X.xe s := by
  have r2 : Vals (vs ++ dvs) (us ++ ds) := r.append hd
  have hl : (us ++ ds).length = ps.length := by rw [← r2.length]; exact F.len _ _ _ _ h
  refine wpAny_call (codeAny_mono (F.run X.A X.stack s H ⟨us, []⟩ (us ++ ds) (vs ++ dvs) Q E hr I.env0 (hb s us I.kIn hl) r2 h) fun r s' hq => ?_)
  cases r with
  | error e => exact hx pins σ H s e s' I hq
  | ok fl =>
    cases fl with
    | ret u => exact I.after hq
    | next => exact False.elim hq
    | brk => exact False.elim hq
    | cont => exact False.elim hq

theorem pe_call (F : FnOk X.prog X.w X.K X.mg X.base CX k f fd ps sp) (hr : Room k X.A) (hg : Gl X x) (hm : X.mg x = some (.ref f)) (hk : PySem.W.keepIn X.K (.ref f) = true) (hb : Binds X.K fd ps ds) (hd : Vals dvs ds) (hx : Passes CX X E)
    (ha : PA X (e :: es) t) (hdb : (x == ("__debug__" : Str)) = false := by decide) (he : starEach (e :: es) X.env = (false, eval e X.env) :: starEach es X.env := by rfl) (hpl : (backTo pos (starEach es X.env)).any (·.1) = false := by rfl) :
    PE X (.Call (.Name x p) (e :: es) [] pos) (tCall sp dvs E t) := by
  intro pins s σ H Q I h
  refine wpAny_Call_Name_kw (ld_glob I hg hm ?_ hdb)
  refine PySem.W.callWith_K (h₀ := X.base) I.ok.mod.kin hk (thn (ha pos pins s σ H _ I h) fun us s1 ⟨vs, H1, I1, r, q⟩ => ⟨I1.kIn, ?_⟩) he hpl
  exact run_fn F hr hb hd hx I1 r q
theorem pe_call0 (F : FnOk X.prog X.w X.K X.mg X.base CX k f fd ps sp) (hr : Room k X.A) (hg : Gl X x) (hm : X.mg x = some (.ref f)) (hk : PySem.W.keepIn X.K (.ref f) = true) (hb : Binds X.K fd ps ds) (hd : Vals dvs ds) (hx : Passes CX X E)
    (hdb : (x == ("__debug__" : Str)) = false := by decide) : PE X (.Call (.Name x p) [] [] pos) (tCall sp dvs E tNil) := by
  intro pins s σ H Q I h
  refine wpAny_Call_Name_kw (ld_glob I hg hm ?_ hdb)
  exact PySem.W.callWith_K0 I.kIn hk (run_fn (us := []) F hr hb hd hx I .nil h)

/-- o.m(e, ..) -/
theorem pe_meth {pl : Sem Bool} (he : PE X o ta) (c : Cls X.K C) (hm : Meth X.K C m f) (F : FnOk X.prog X.w X.K X.mg X.base CX k f fd ps sp) (hr : Room k X.A) (hb : Binds X.K fd ps ds) (hd : Vals dvs ds) (hx : Passes CX X E) (ha : PA X (e :: es) t)
    (hst : starEach (e :: es) X.env = (false, eval e X.env) :: starEach es X.env := by rfl) (hpl : (backTo pos (starEach es X.env)).any (·.1) = false := by rfl)
    (ht : eval (.Call (.Attribute o m apos) (e :: es) [] pos) X.env = (do
      let ov ← eval o X.env
      standAt apos.atName
      let (f, first) ← holding [ov] (getMethod ov m pl)
      callWith pos f first (backTo pos (starEach (e :: es) X.env)) (backToKw pos (keywordEach [] X.env))) := by rfl) :
    PE X (.Call (.Attribute o m apos) (e :: es) [] pos) (tMeth C m sp dvs E ta t) := by
  intro pins s σ H Q I h
  refine PySem.W.methodCall_KW (pl := pl) (thn (he pins s σ H _ I h) fun u s1 ⟨x, H1, I1, rx, a, dx, fs, ex, ea, l, q⟩ => ?_) ht
  subst ex
  obtain rfl : u = Value.ref a := rx
  refine getmeth_ok I1 ea c hm l ?_
  refine PySem.W.callWith_K (first := [.ref a]) (h₀ := X.base) I.ok.mod.kin hm.kp (thn (ha pos pins s1 σ H1 _ I1 q) fun us s2 ⟨vs, H2, I2, r, q2⟩ => ⟨I2.kIn, ?_⟩) hst hpl
  exact run_fn (us := .ref a :: us) (vs := .ref a :: vs) F hr hb hd hx I2 (.cons rfl r) q2
/-- o.m() -/
theorem pe_meth0 {pl : Sem Bool} (he : PE X o ta) (c : Cls X.K C) (hm : Meth X.K C m f) (F : FnOk X.prog X.w X.K X.mg X.base CX k f fd ps sp) (hr : Room k X.A) (hb : Binds X.K fd ps ds) (hd : Vals dvs ds) (hx : Passes CX X E)
    (ht : eval (.Call (.Attribute o m apos) [] [] pos) X.env = (do
      let ov ← eval o X.env
      standAt apos.atName
      let (f, first) ← holding [ov] (getMethod ov m pl)
      callWith pos f first (backTo pos (starEach [] X.env)) (backToKw pos (keywordEach [] X.env))) := by rfl) :
    PE X (.Call (.Attribute o m apos) [] [] pos) (tMeth C m sp dvs E ta tNil) := by
  intro pins s σ H Q I h
  refine PySem.W.methodCall_KW (pl := pl) (thn (he pins s σ H _ I h) fun u s1 ⟨x, H1, I1, rx, a, dx, fs, ex, ea, l, q⟩ => ?_) ht
  subst ex
  obtain rfl : u = Value.ref a := rx
  refine getmeth_ok I1 ea c hm l ?_
  exact PySem.W.callWith_K0 (first := [.ref a]) I1.kIn hm.kp (run_fn (us := [.ref a]) (vs := [.ref a]) F hr hb hd hx I1 (.cons rfl .nil) q)

/-- what a class must have to be made -/
structure Mk (K : PySem.W.Frag) (C f : Addr) : Prop where
  makes : PySem.W.makesIn K C = true
  init : PySem.W.findIn K (.ref C) "__init__" = some (some (.ref f))
  fn : PySem.W.isFn K (.ref f) = true
  kp : PySem.W.keepIn K (.ref C) = true

theorem run_make {pins : List (Addr × Obj)} {σ : St} {H : Hp} {s : Shared} {Q : VK} {us : List Value} {vs : List V} (M : Mk X.K C f) (F : FnOk X.prog X.w X.K X.mg X.base CX k f fd ps sp) (hr : Room (k + 1) X.A) (hb : Binds X.K fd ps ds) (hd : Vals dvs ds)
    (hx : Passes CX X E) (I : Inv X pins σ H s) (r : Vals vs us)
    (h : ∀ x dx, H x = none → H dx = none → dx ≠ x → sp (.ref x :: (vs ++ dvs)) (upd (upd H dx (.own x)) x (.ins C dx [])) (fun v H2 => v = .non ∧ Q (.ref x) H2) E) :
    wpAny (model X.prog X.w) X.A (call (.ref C) us) (EP X pins σ Q) X.xe s := by
  have hq := h (s.heap.objs.size + 1) s.heap.objs.size (I.hok.fresh (Nat.le_succ _)) (I.hok.fresh (Nat.le_refl _)) (Nat.ne_of_lt (Nat.lt_succ_self _))
  have I2 := Inv.made (C := C) I
  have r2 : Vals (V.ref (s.heap.objs.size + 1) :: (vs ++ dvs)) (Value.ref (s.heap.objs.size + 1) :: (us ++ ds)) := .cons rfl (r.append hd)
  have hl : (Value.ref (s.heap.objs.size + 1) :: us ++ ds).length = ps.length := by
    have e := r2.length
    rw [F.len _ _ _ _ hq] at e
    exact e.symm
  refine wpAny_call (make_map (f := f) I.kIn M.makes M.init (beq_iff_eq.mp M.fn) (codeAny_mono (F.run _ X.stack _ _ ⟨Value.ref (s.heap.objs.size + 1) :: us, []⟩ (Value.ref (s.heap.objs.size + 1) :: (us ++ ds)) _ _ E (hr.make C us [])
    (I2.env0.make C us []) (hb _ (Value.ref (s.heap.objs.size + 1) :: us) I2.kIn hl) r2 hq) fun r s' hq' => ?_))
  cases r with
  | error e => exact hx pins σ _ _ e s' I2 hq'
  | ok fl =>
    cases fl with
    | ret u =>
      obtain ⟨v, H', I3, rv, ev, q3⟩ := I2.after hq'
      subst ev
      exact ⟨rv, ⟨V.ref (s.heap.objs.size + 1), H', I3, rfl, q3⟩⟩
    | next => exact False.elim hq'
    | brk => exact False.elim hq'
    | cont => exact False.elim hq'
theorem pe_make (M : Mk X.K C f) (F : FnOk X.prog X.w X.K X.mg X.base CX k f fd ps sp) (hr : Room (k + 1) X.A) (hg : Gl X x) (hm : X.mg x = some (.ref C)) (hb : Binds X.K fd ps ds) (hd : Vals dvs ds) (hx : Passes CX X E)
    (ha : PA X (e :: es) t) (hdb : (x == ("__debug__" : Str)) = false := by decide) (he : starEach (e :: es) X.env = (false, eval e X.env) :: starEach es X.env := by rfl) (hpl : (backTo pos (starEach es X.env)).any (·.1) = false := by rfl) :
    PE X (.Call (.Name x p) (e :: es) [] pos) (tMake C sp dvs E t) := by
  intro pins s σ H Q I h
  refine wpAny_Call_Name_kw (ld_glob I hg hm ?_ hdb)
  refine PySem.W.callWith_K (h₀ := X.base) I.ok.mod.kin M.kp (thn (ha pos pins s σ H _ I h) fun us s1 ⟨vs, H1, I1, r, q⟩ => ⟨I1.kIn, ?_⟩) he hpl
  exact run_make M F hr hb hd hx I1 r q
theorem pe_make0 (M : Mk X.K C f) (F : FnOk X.prog X.w X.K X.mg X.base CX k f fd ps sp) (hr : Room (k + 1) X.A) (hg : Gl X x) (hm : X.mg x = some (.ref C)) (hb : Binds X.K fd ps ds) (hd : Vals dvs ds) (hx : Passes CX X E)
    (hdb : (x == ("__debug__" : Str)) = false := by decide) : PE X (.Call (.Name x p) [] [] pos) (tMake C sp dvs E tNil) := by
  intro pins s σ H Q I h
  refine wpAny_Call_Name_kw (ld_glob I hg hm ?_ hdb)
  exact PySem.W.callWith_K0 I.kIn M.kp (run_make (us := []) M F hr hb hd hx I .nil h)
end

/-! ### keywords -/
/-- the values of the keywords, from the left -/
def PK (X : Cx) (kws : List Keyword) (t : TA) : Prop :=
  ∀ (pos : Pos) (pins : List (Addr × Obj)) (s : Shared) (σ : St) (H : Hp) (Q : List V → Hp → Prop), Inv X pins σ H s → t σ H Q → wpAny (model X.prog X.w) X.A (evalAll ((backToKw pos (keywordEach kws X.env)).map (·.2))) (AP X pins σ Q) X.xe s
section
variable {X : Cx} {CX : CXT} {k : Nat} {f C : Addr} {fd : FuncData} {ps ks : List Str} {sp : Sp} {E : XK} {x m : Str} {p pos apos kpos : Pos} {e o : Expr} {es : List Expr} {kws : List Keyword} {te ta : TE} {t tk : TA} {nm : Option Str}
theorem pk_nil : PK X [] tNil := fun _ _ _ _ H Q I h => wpAny_evalAll_nil ⟨[], H, I, .nil, h⟩
theorem pk_cons (ha : PE X e te) (hr : PK X kws t) : PK X (⟨nm, e, kpos⟩ :: kws) (tCons te t) := by
  intro pos pins s σ H Q I h
  show wpAny _ _ (evalAll ((do let v ← eval e X.env; standAt pos; pure v) :: (backToKw pos (keywordEach kws X.env)).map (·.2))) _ _ s
  refine wpAny_evalAll_cons (wpAny_bind (thn (ha pins s σ H _ I h) fun u s1 ⟨x, H1, I1, r1, q1⟩ => wpAny_bind (wpAny_standAt (wpAny_pure ?_))))
  exact thn (hr pos pins s1 σ H1 _ I1 q1) fun us s2 ⟨xs, H2, I2, r2, q2⟩ => ⟨x :: xs, H2, I2, .cons r1 r2, q2⟩

/-- how a call with keywords binds: g puts the positional values us and the keywords' values ws (names ks) in the parameters' order, defaults among them -/
structure KBinds (K : PySem.W.Frag) (fd : FuncData) (ps ks : List Str) (g : List Value → List Value → List Value) (gV : List V → List V → List V) : Prop where
  to : ∀ (s : Shared) (us ws : List Value), K.In s.heap → (g us ws).length = ps.length → BindsTo s fd ⟨us, ks.zip ws⟩ (ps.zip (g us ws))
  rel : ∀ {vs : List V} {us : List Value} {zs : List V} {ws : List Value}, Vals vs us → Vals zs ws → Vals (gV vs zs) (g us ws)
def tCallK (sp : Sp) (gV : List V → List V → List V) (E : XK) (t tk : TA) : TE := fun σ H Q => t σ H fun vs H1 => tk σ H1 fun zs H2 => sp (gV vs zs) H2 Q E
variable {g : List Value → List Value → List Value} {gV : List V → List V → List V}
theorem run_fnk {pins : List (Addr × Obj)} {σ : St} {H : Hp} {s : Shared} {Q : VK} {us ws : List Value} {vs zs : List V} (F : FnOk X.prog X.w X.K X.mg X.base CX k f fd ps sp) (hr : Room k X.A) (hb : KBinds X.K fd ps ks g gV) (hx : Passes CX X E)
    (I : Inv X pins σ H s) (r : Vals vs us) (rz : Vals zs ws) (h : sp (gV vs zs) H Q E) : wpAny (model X.prog X.w) X.A (call (.ref f) us (ks.zip ws)) (EP X pins σ Q) X.xe s := by
  have r2 := hb.rel r rz
  have hl : (g us ws).length = ps.length := by rw [← r2.length]; exact F.len _ _ _ _ h
  refine wpAny_call (codeAny_mono (F.run X.A X.stack s H ⟨us, ks.zip ws⟩ (g us ws) (gV vs zs) Q E hr I.env0 (hb.to s us ws I.kIn hl) r2 h) fun r s' hq => ?_)
  cases r with
  | error e => exact hx pins σ H s e s' I hq
  | ok fl =>
    cases fl with
    | ret u => exact I.after hq
    | next => exact False.elim hq
    | brk => exact False.elim hq
    | cont => exact False.elim hq
/-- f(e, .., k = v, ..) -/
theorem pe_callK (F : FnOk X.prog X.w X.K X.mg X.base CX k f fd ps sp) (hr : Room k X.A) (hg : Gl X x) (hm : X.mg x = some (.ref f)) (hk : PySem.W.keepIn X.K (.ref f) = true) (hb : KBinds X.K fd ps ks g gV) (hx : Passes CX X E)
    (ha : PA X (e :: es) t) (hkw : PK X kws tk) (hall : (backToKw pos (keywordEach kws X.env)).all (·.1.isSome) = true := by rfl) (hks : (backToKw pos (keywordEach kws X.env)).filterMap (·.1) = ks := by rfl)
    (hdb : (x == ("__debug__" : Str)) = false := by decide) (he : starEach (e :: es) X.env = (false, eval e X.env) :: starEach es X.env := by rfl)
    (hpl : ((backTo pos (starEach (e :: es) X.env)).any (·.1) || (backToKw pos (keywordEach kws X.env)).any (·.1.isNone)) = false := by rfl) :
    PE X (.Call (.Name x p) (e :: es) kws pos) (tCallK sp gV E t tk) := by
  intro pins s σ H Q I h
  refine wpAny_Call_Name_kw (ld_glob I hg hm ?_ hdb)
  refine PySem.W.callWith_KW (h₀ := X.base) I.ok.mod.kin hk hall (thn (ha pos pins s σ H _ I h) fun us s1 ⟨vs, H1, I1, r, q⟩ => ?_) hpl he
  refine thn (hkw pos pins s1 σ H1 _ I1 q) fun ws s2 ⟨zs, H2, I2, rz, q2⟩ => ⟨I2.kIn, ?_⟩
  rw [hks]
  exact run_fnk F hr hb hx I2 r rz q2
end

/-! ### a def's body keeps its promise -/
/-- names: the parameters first -/
structure FnScope (N P : List Str) (sc : Scope) : Prop where
  kind : sc.kind = .function
  co : sc.isCoroutine = false
  gen : sc.isGenerator = false
  nd : N.Nodup
  pre : N.take P.length = P
  par : ∀ x ∈ P, sc.names.lookup x = some .local ∨ sc.names.lookup x = some .cell
  nofree : ∀ y ∈ sc.names, y.2 ≠ .free

theorem bindL_out {kindOf : Str → Option NameKind} {x : Str} : ∀ {binds : List (Str × Value)} {m : Str → Option Value}, (∀ v, (x, v) ∉ binds) → bindL kindOf binds m x = m x
  | [], _, _ => rfl
  | (n, v) :: r, m, h => by
    unfold bindL
    rw [bindL_out fun w hw => h w (List.mem_cons_of_mem _ hw)]
    split
    · have : x ≠ n := by rintro rfl; exact h v List.mem_cons_self
      simp [this]
    · rfl
theorem bindC_out {kindOf : Str → Option NameKind} {x : Str} : ∀ {binds : List (Str × Value)} {m : Str → Option Value}, (∀ v, (x, v) ∉ binds) → bindC kindOf binds m x = m x
  | [], _, _ => rfl
  | (n, v) :: r, m, h => by
    unfold bindC
    rw [bindC_out fun w hw => h w (List.mem_cons_of_mem _ hw)]
    split
    · rfl
    · have : x ≠ n := by rintro rfl; exact h v List.mem_cons_self
      simp [this]
theorem bindL_get {kindOf : Str → Option NameKind} {x : Str} {v : Value} : ∀ {P : List Str} {vs : List Value} {i : Nat} {m : Str → Option Value}, P.Nodup → P[i]? = some x → vs[i]? = some v → kindOf x = some .local →
    bindL kindOf (P.zip vs) m x = some v
  | [], _, _, _, _, h, _, _ => by simp at h
  | _ :: _, [], _, _, _, _, h, _ => by simp at h
  | p :: P, w :: vs, 0, m, nd, h1, h2, hk => by
    simp at h1 h2; subst h1; subst h2
    show bindL kindOf ((p, w) :: P.zip vs) m p = _
    unfold bindL
    rw [bindL_out fun v hv => (List.nodup_cons.mp nd).1 (List.of_mem_zip hv).1, if_pos hk]
    simp
  | p :: P, w :: vs, i + 1, m, nd, h1, h2, hk => by
    show bindL kindOf ((p, w) :: P.zip vs) m x = _
    unfold bindL
    exact bindL_get (i := i) (List.nodup_cons.mp nd).2 (by simpa using h1) (by simpa using h2) hk
theorem bindC_get {kindOf : Str → Option NameKind} {x : Str} {v : Value} : ∀ {P : List Str} {vs : List Value} {i : Nat} {m : Str → Option Value}, P.Nodup → P[i]? = some x → vs[i]? = some v → kindOf x ≠ some .local →
    bindC kindOf (P.zip vs) m x = some v
  | [], _, _, _, _, h, _, _ => by simp at h
  | _ :: _, [], _, _, _, _, h, _ => by simp at h
  | p :: P, w :: vs, 0, m, nd, h1, h2, hk => by
    simp at h1 h2; subst h1; subst h2
    show bindC kindOf ((p, w) :: P.zip vs) m p = _
    unfold bindC
    rw [bindC_out fun v hv => (List.nodup_cons.mp nd).1 (List.of_mem_zip hv).1, if_neg hk]
    simp
  | p :: P, w :: vs, i + 1, m, nd, h1, h2, hk => by
    show bindC kindOf ((p, w) :: P.zip vs) m x = _
    unfold bindC
    exact bindC_get (i := i) (List.nodup_cons.mp nd).2 (by simpa using h1) (by simpa using h2) hk

/-- the names' values at the entry -/
def start (N : List Str) (vs : List V) : St := vs.map some ++ List.replicate (N.length - vs.length) none

/-- the context of a def's body, at its entry; an exception leaves the frame, then lies as CX says -/
def cxOf (CX : CXT) (P : Program) (w : World) (K : PySem.W.Frag) (mg : Str → Option Value) (base : Heap) (N : List Str) (qual : Str) (scope : Scope) (f : Addr) (cd : Value) (A : Around) (outer : List Env) (s : Shared) (H : Hp) (E : XK) : Cx where
  prog := P
  w := w
  K := K
  mg := mg
  base := base
  A := A.deeper (envOfC qual scope s.heap.objs.size f cd)
  N := N
  s₀ := s
  H₀ := H
  env := envOfC qual scope s.heap.objs.size f cd
  outer := outer
  stack := envOfC qual scope s.heap.objs.size f cd :: outer
  ex := []
  calm := true
  fn := fun _ => true
  pn := []
  xe := fun e s' => wpAny (model P w) (A.deeper (envOfC qual scope s.heap.objs.size f cd)) (leaving (envOfC qual scope s.heap.objs.size f cd) e) (fun _ s'' => CX outer H s E e s'') (fun e' s'' => CX outer H s E e' s'') s'

theorem cell_has {sc : Scope} {n : Nat} {x : Str} (h : sc.names.lookup x = some .cell) : ∃ c, (cellsFrom n sc.names []).lookup x = some c := by
  have q := PySem.W.cellsFrom_some sc.names n [] (.inl h)
  exact Option.isSome_iff_exists.mp q

theorem inv_start {CX : CXT} {P : Program} {w : World} {K : PySem.W.Frag} {mg : Str → Option Value} {base : Heap} {N ps : List Str} {qual : Str} {scope : Scope} {f : Addr} {cd : Value} {A : Around} {outer : List Env} {s s1 : Shared} {H : Hp} {E : XK} {us : List Value} {vs : List V}
    (S : FnScope N ps scope) (hd : A.handled = none) (e0 : Env0 P w K mg base A outer s H) (hl : vs.length = ps.length) (r : Vals vs us)
    (x : InCallC s s.heap.objs.size (bindL (envOfC qual scope s.heap.objs.size f cd).kindOf (ps.zip us) fun _ => none) (cellsFrom (s.heap.objs.size + 1) scope.names []) (bindC (envOfC qual scope s.heap.objs.size f cd).kindOf (ps.zip us) fun _ => none) s1) :
    Inv (cxOf CX P w K mg base N qual scope f cd A outer s H E) [] (start N vs) H s1 := by
  have hpl : ps.length ≤ N.length := by have := congrArg List.length S.pre; rw [List.length_take] at this; omega
  obtain ⟨h1, tk, rfl, hk⟩ := x.done
  have noA : ∀ b : Addr, b ∉ (cxOf CX P w K mg base N qual scope f cd A outer s H E).ex := fun b z => absurd (show b ∈ ([] : List Addr) from z) (by simp)
  refine ⟨⟨e0.mod, S.kind, rfl, rfl, Nat.le_refl _, fun y z c h1 h2 => ?_, fun y hy => ?_, fun y c _ h => ?_, fun _ => hd, Around.frames_deeper e0.frames, .inr ⟨rfl, rfl⟩, fun b z => absurd z (noA b), e0.bs, e0.bsz, fun b _ _ => noA b, fun b z => absurd z (noA b), e0.funs, e0.frf⟩,
    rfl, e0.bare, Un.kept hk, ⟨_, x.toInCall.ns, fun i y v h1 h2 h3 => ?_⟩, fun y c h => ⟨_, x.cell y c h⟩, e0.hok.fresh (Nat.le_refl _), fun y c h => ?_, fun p hp => absurd (show p ∈ ([] : List (Addr × Obj)) from hp) (by simp), e0.hok.kept hk, ?_⟩
  · exact name_of_addr x.apart (PySem.mem_of_lookup h1) (PySem.mem_of_lookup h2)
  · have hy : scope.names.lookup y = some .cell ∨ scope.names.lookup y = some .free := hy
    rcases hy with hy | hy
    · exact cell_has hy
    · exact absurd rfl (S.nofree _ (PySem.mem_of_lookup hy))
  · exact Nat.le_of_lt (x.above y c (PySem.mem_of_lookup h))
  · have hi : i < vs.length := by
      unfold start at h2
      by_cases hi : i < vs.length
      · exact hi
      · rw [List.getElem?_append_right (by simpa using hi)] at h2
        rw [List.getElem?_replicate] at h2
        split at h2 <;> cases h2
    have ha : vs[i]? = some v := by
      unfold start at h2
      rw [List.getElem?_append_left (by simpa using hi), List.getElem?_map] at h2
      cases e : vs[i]? with
      | none => rw [e] at h2; cases h2
      | some a => rw [e] at h2; cases h2; rfl
    obtain ⟨u, hu, rv⟩ := r.get ha
    have hp : ps[i]? = some y := by
      rw [← S.pre, List.getElem?_take_of_lt (by omega)]; exact h1
    have ndP : ps.Nodup := by rw [← S.pre]; exact S.nd.sublist (List.take_sublist _ _)
    refine ⟨u, rv, ?_⟩
    rcases S.par y (List.mem_of_getElem? hp) with k | k
    · exact .inl ⟨k, bindL_get ndP hp hu k⟩
    · obtain ⟨c, e⟩ := cell_has (n := s.heap.objs.size + 1) k
      refine .inr ⟨.inl k, c, e, ?_⟩
      have q := x.cell y c e
      rw [bindC_get ndP hp hu (by show scope.names.lookup y ≠ _; rw [k]; decide)] at q
      exact q
  · exact e0.hok.fresh (Nat.le_of_lt (x.above y c (PySem.mem_of_lookup h)))
  · unfold start
    show _ = N.length
    rw [List.length_append, List.length_map, List.length_replicate]
    omega

/-- THE RULE: a def (or a method) of the text, by its body. The body's reading t is chosen for each entry; it is run at the parameters' values -/
theorem fn_of {CX : CXT} {P : Program} {w : World} {K : PySem.W.Frag} {mg : Str → Option Value} {base : Heap} {k : Nat} {f : Addr} {name qual : Str} {params : Arguments} {body : List Stmt} {scope : Scope} {dV kV doc pm cdv ct oc : Value} {an od : Option Addr}
    {osl : Array (Option Value)} {N ps : List Str} {sp : Sp} (lk : K.lookup f = some ⟨oc, od, .func (PySem.W.fnOf name qual params body scope dV kV doc pm an cdv ct), osl⟩) (hcd : PySem.W.codeIn K cdv qual = true) (S : FnScope N ps scope)
    (len : ∀ vs H Q E, sp vs H Q E → vs.length = ps.length)
    (hbody : ∀ (A : Around) (outer : List Env) (s : Shared) (H : Hp) (vs : List V) (Q : VK) (E : XK), Room k (A.deeper (envOfC qual scope s.heap.objs.size f cdv)) → sp vs H Q E →
      ∃ t, PSs (cxOf CX P w K mg base N qual scope f cdv A outer s H E) body t ∧ t { nx := fun _ H' => Q .non H', rt := Q } (start N vs) H) :
    FnOk P w K mg base CX (k + 1) f (PySem.W.fnOf name qual params body scope dV kV doc pm an cdv ct) ps sp := by
  refine ⟨len, fun A outer s H args us vs Q E hr e0 hb r hsp => ?_⟩
  have hl := len _ _ _ _ hsp
  have KX : K.In s.heap := e0.mod.kin.keeps fun b o e => (e0.bs b o e).1
  have lim : s.heap.NoLimit := e0.mod.nolimit.keeps fun b o e => (e0.bs b o e).1
  have hkind : ∀ y ∈ ps.zip us, scope.names.lookup y.1 = some .local ∨ (scope.names.lookup y.1 = some .cell ∧ ((cellsFrom (s.heap.objs.size + 1) scope.names []).lookup y.1).isSome = true) := fun ⟨n, v⟩ hy => by
    rcases S.par n (List.of_mem_zip hy).1 with q | q
    · exact .inl q
    · exact .inr ⟨q, PySem.W.cellsFrom_some _ _ _ (.inl q)⟩
  refine codeAny_call_function hr.depth (KX _ _ lk) rfl S.co S.gen rfl (PySem.W.codeRec_of KX hcd) (hb _ _ _ _ ?_)
  refine wpAny_newFunctionEnv_cells S.kind hkind fun env he s1 x => ?_
  subst he
  refine ⟨lim.keeps x.toInCall.keep, codeAny_func ?_⟩
  obtain ⟨t, ht, hq⟩ := hbody A outer s H vs Q E (hr.deeper _) hsp
  have I : Inv (cxOf CX P w K mg base N qual scope f cdv A outer s H E) [] (start N vs) H s1 := inv_start S hr.hd e0 hl r x
  refine wpAny_mono (ht [] s1 (start N vs) H _ I hq) (fun fl s' hs => ?_) fun e s' hs => hs
  have fin : ∀ {σ' : St} {H' : Hp} {v : V} {u : Value}, Inv (cxOf CX P w K mg base N qual scope f cdv A outer s H E) [] σ' H' s' → RelV v u → Q v H' → CE outer P w H s Q u s' :=
    fun {σ' H' v u} J rv q => ⟨v, H', J.os, J.bare, J.base, J.hok, rv, q⟩
  cases fl with
  | ret u =>
    obtain ⟨v, σ', H', J, rv, q⟩ := hs
    exact fin J rv q
  | next =>
    obtain ⟨σ', H', J, q⟩ := hs
    exact fin (v := V.non) (u := Value.none) J rfl q
  | brk =>
    obtain ⟨_, _, _, q⟩ := hs
    exact False.elim q
  | cont =>
    obtain ⟨_, _, _, q⟩ := hs
    exact False.elim q
end L2

namespace L2
open PySem PySem.Spec PyProof.Rows
section
variable {X : Cx} {x : Str} {p pos : Pos} {e : Expr} {es : List Expr} {t : TA} {id T : String} {r : List V → Hp → VK → Prop}

def tCB (r : List V → Hp → VK → Prop) (t : TA) : TE := fun σ H Q => t σ H fun vs H1 => r vs H1 Q
/-- f(e, ..), f a built-in function -/
theorem pe_callB (hc : CallR X (.builtin id) r) (hg : Gl X x) (hm : X.mg x = none) (hv : bootBuiltins x = some (.builtin id)) (ha : PA X (e :: es) t) (hn : x ≠ "__name__" := by decide) (hdb : (x == ("__debug__" : Str)) = false := by decide)
    (he : starEach (e :: es) X.env = (false, eval e X.env) :: starEach es X.env := by rfl) (hpl : (backTo pos (starEach es X.env)).any (·.1) = false := by rfl) : PE X (.Call (.Name x p) (e :: es) [] pos) (tCB r t) := by
  intro pins s σ H Q I h
  refine wpAny_Call_Name_kw (ld_blt I hg hm hv ?_ hn hdb)
  exact PyProof.Rows.callWith_builtin1 (thn (ha pos pins s σ H _ I h) fun us s1 ⟨vs, H1, I1, r1, q1⟩ => hc pins s1 σ H1 vs us Q I1 r1 q1) he hpl
/-- T(e, ..), T a built-in type -/
theorem pe_callTy (hc : CallR X (.type T) r) (hg : Gl X x) (hm : X.mg x = none) (hv : bootBuiltins x = some (.type T)) (ha : PA X (e :: es) t) (hn : x ≠ "__name__" := by decide) (hdb : (x == ("__debug__" : Str)) = false := by decide)
    (he : starEach (e :: es) X.env = (false, eval e X.env) :: starEach es X.env := by rfl) (hpl : (backTo pos (starEach es X.env)).any (·.1) = false := by rfl) : PE X (.Call (.Name x p) (e :: es) [] pos) (tCB r t) := by
  intro pins s σ H Q I h
  refine wpAny_Call_Name_kw (ld_blt I hg hm hv ?_ hn hdb)
  exact PyProof.Rows.callWith_type1 (thn (ha pos pins s σ H _ I h) fun us s1 ⟨vs, H1, I1, r1, q1⟩ => hc pins s1 σ H1 vs us Q I1 r1 q1) he hpl
/-- T() -/
theorem pe_callTy0 (hc : CallR X (.type T) r) (hg : Gl X x) (hm : X.mg x = none) (hv : bootBuiltins x = some (.type T)) (hn : x ≠ "__name__" := by decide) (hdb : (x == ("__debug__" : Str)) = false := by decide) :
    PE X (.Call (.Name x p) [] [] pos) (tCB r tNil) := by
  intro pins s σ H Q I h
  refine wpAny_Call_Name_kw (ld_blt I hg hm hv ?_ hn hdb)
  exact PyProof.Rows.callWith_type0 (hc pins s σ H [] [] Q I .nil h)
end
end L2

namespace L2
open PySem PySem.Spec PyProof.Rows

/-! ### lists of pairs as tables -/
section
variable {κ : Type} [DecidableEq κ]
def valV (kvs : List (κ × V)) (k : κ) : Option V := (kvs.find? fun kv => decide (kv.1 = k)).map (·.2)
/-- in its place, or at the end -/
def putK (kvs : List (κ × V)) (k : κ) (v : V) : List (κ × V) :=
  if (kvs.any fun kv => decide (kv.1 = k)) = true then kvs.map (fun kv => if kv.1 = k then (kv.1, v) else kv) else kvs ++ [(k, v)]
def dropK (kvs : List (κ × V)) (k : κ) : List (κ × V) := kvs.filter fun kv => decide (kv.1 ≠ k)

theorem valV_nil {k : κ} : valV ([] : List (κ × V)) k = none := rfl
theorem valV_pos {p : κ × V} {r : List (κ × V)} {k : κ} (e : p.1 = k) : valV (p :: r) k = some p.2 := by simp [valV, List.find?_cons, e]
theorem valV_neg {p : κ × V} {r : List (κ × V)} {k : κ} (e : ¬ p.1 = k) : valV (p :: r) k = valV r k := by simp [valV, List.find?_cons, e]
theorem valV_any (k : κ) : ∀ kvs : List (κ × V), (kvs.any fun kv => decide (kv.1 = k)) = (valV kvs k).isSome
  | [] => rfl
  | p :: r => by
    rw [List.any_cons]
    by_cases e : p.1 = k
    · simp only [valV_pos e, decide_eq_true e, Bool.true_or, Option.isSome_some]
    · rw [valV_neg e, decide_eq_false e, Bool.false_or]; exact valV_any k r
theorem valV_map (k j : κ) (y : V) : ∀ kvs : List (κ × V), valV (kvs.map fun kv => if kv.1 = k then (kv.1, y) else kv) j = (valV kvs j).map fun x => if j = k then y else x
  | [] => rfl
  | p :: r => by
    have ih := valV_map k j y r
    rw [List.map_cons]
    by_cases h : p.1 = k
    · rw [if_pos h]
      by_cases e : p.1 = j
      · rw [valV_pos (p := (p.1, y)) e, valV_pos e, Option.map_some, if_pos (e.symm.trans h)]
      · rw [valV_neg (p := (p.1, y)) e, valV_neg e, ih]
    · rw [if_neg h]
      by_cases e : p.1 = j
      · rw [valV_pos (p := p) e, valV_pos e, Option.map_some, if_neg (fun z => h (e.trans z))]
      · rw [valV_neg (p := p) e, valV_neg e, ih]
theorem valV_snoc (k j : κ) (y : V) : ∀ kvs : List (κ × V), valV kvs k = none → valV (kvs ++ [(k, y)]) j = if j = k then some y else valV kvs j
  | [], _ => by
    by_cases e : k = j
    · rw [if_pos e.symm]; exact valV_pos (p := (k, y)) e
    · rw [if_neg (fun z => e z.symm)]; exact valV_neg (p := (k, y)) e
  | p :: r, hn => by
    rw [List.cons_append]
    have hk : ¬ p.1 = k := fun z => by rw [valV_pos z] at hn; cases hn
    rw [valV_neg hk] at hn
    have ih := valV_snoc k j y r hn
    by_cases e : p.1 = j
    · rw [valV_pos e, valV_pos e, if_neg (fun z => hk (e.trans z))]
    · rw [valV_neg e, valV_neg e, ih]
theorem valV_put (kvs : List (κ × V)) (k j : κ) (y : V) : valV (putK kvs k y) j = if j = k then some y else valV kvs j := by
  unfold putK
  by_cases a : (kvs.any fun kv => decide (kv.1 = k)) = true
  · rw [if_pos a, valV_map]
    rw [valV_any] at a
    by_cases e : j = k
    · obtain ⟨x, hx⟩ := Option.isSome_iff_exists.mp a
      rw [if_pos e, e, hx, Option.map_some, if_pos rfl]
    · rw [if_neg e]
      cases valV kvs j with
      | none => rfl
      | some x => rw [Option.map_some, if_neg e]
  · rw [if_neg a]
    refine valV_snoc k j y kvs ?_
    rw [valV_any] at a
    cases q : valV kvs k with
    | none => rfl
    | some x => rw [q] at a; exact (a rfl).elim
theorem length_putK (kvs : List (κ × V)) (k : κ) (v : V) : (putK kvs k v).length ≤ kvs.length + 1 := by
  unfold putK
  split
  · rw [List.length_map]; omega
  · rw [List.length_append, List.length_cons, List.length_nil]; omega
theorem putK_new {kvs : List (κ × V)} {k : κ} (v : V) (h : valV kvs k = none) : putK kvs k v = kvs ++ [(k, v)] := by
  unfold putK
  rw [valV_any, h]
  exact if_neg (by decide)

theorem RelO.isSome_eq {o : Option V} {u : Option Value} (r : RelO o u) : o.isSome = u.isSome := by
  cases o with
  | none => cases u with
    | none => rfl
    | some _ => exact (show False from r).elim
  | some _ => cases u with
    | none => exact (show False from r).elim
    | some _ => rfl
theorem RelO.getD {o : Option V} {u : Option Value} {d : V} {d' : Value} (r : RelO o u) (rd : RelV d d') : RelV (o.getD d) (u.getD d') := by
  cases o with
  | none => cases u with
    | none => exact rd
    | some _ => exact (show False from r).elim
  | some _ => cases u with
    | none => exact (show False from r).elim
    | some _ => exact r

/-- raw tables of the same keys -/
theorem KV.val {kvs : List (κ × V)} {vs : List (κ × Value)} (r : KV kvs vs) (k : κ) : RelO (valV kvs k) (valueAt vs k) := by
  unfold KV at r
  induction r with
  | nil => exact True.intro
  | @cons p q ps qs h t ih =>
    obtain ⟨h1, h2⟩ := h
    by_cases e : p.1 = k
    · have e' : q.1 = k := h1.symm.trans e
      have b : valueAt (q :: qs) k = some q.2 := by simp [valueAt, List.find?_cons, e']
      rw [valV_pos e, b]; exact h2
    · have e' : ¬ q.1 = k := fun z => e (h1.trans z)
      have b : valueAt (q :: qs) k = valueAt qs k := by simp [valueAt, List.find?_cons, e']
      rw [valV_neg e, b]; exact ih
theorem KV.any {kvs : List (κ × V)} {vs : List (κ × Value)} (r : KV kvs vs) (k : κ) : (kvs.any fun kv => decide (kv.1 = k)) = vs.any fun kv => decide (kv.1 = k) := by
  unfold KV at r
  induction r with
  | nil => rfl
  | cons h t ih => rw [List.any_cons, List.any_cons, ih, h.1]
theorem KV.repl {kvs : List (κ × V)} {vs : List (κ × Value)} (r : KV kvs vs) (k : κ) {y : V} {u : Value} (ry : RelV y u) :
    KV (kvs.map fun kv => if kv.1 = k then (kv.1, y) else kv) (vs.map fun kv => if kv.1 = k then (kv.1, u) else kv) := by
  unfold KV at r ⊢
  induction r with
  | nil => exact .nil
  | @cons p q ps qs h t ih =>
    rw [List.map_cons, List.map_cons]
    refine .cons ?_ ih
    obtain ⟨h1, h2⟩ := h
    by_cases e : p.1 = k
    · rw [if_pos e, if_pos (h1.symm.trans e)]; exact ⟨h1, ry⟩
    · rw [if_neg e, if_neg (fun z => e (h1.trans z))]; exact ⟨h1, h2⟩
theorem KV.put {kvs : List (κ × V)} {vs : List (κ × Value)} (r : KV kvs vs) (k : κ) {y : V} {u : Value} (ry : RelV y u) : KV (putK kvs k y) (stored vs k u) := by
  unfold putK stored
  rw [r.any k]
  by_cases e : (vs.any fun kv => decide (kv.1 = k)) = true
  · rw [if_pos e, if_pos e]; exact r.repl k ry
  · rw [if_neg e, if_neg e]; exact Paired.snoc r ⟨rfl, ry⟩
theorem KV.drop {kvs : List (κ × V)} {vs : List (κ × Value)} (r : KV kvs vs) (k : κ) : KV (dropK kvs k) (without vs k) := by
  unfold KV at r ⊢
  unfold dropK without
  induction r with
  | nil => exact .nil
  | @cons p q ps qs h t ih =>
    obtain ⟨h1, h2⟩ := h
    rw [List.filter_cons, List.filter_cons]
    by_cases e : p.1 = k
    · have a : ¬ decide (p.1 ≠ k) = true := by simp [e]
      have b : ¬ decide (q.1 ≠ k) = true := by simp [h1.symm.trans e]
      rw [if_neg a, if_neg b]; exact ih
    · have e' : ¬ q.1 = k := fun z => e (h1.trans z)
      have a : decide (p.1 ≠ k) = true := by simp [e]
      have b : decide (q.1 ≠ k) = true := by simp [e']
      rw [if_pos a, if_pos b]; exact .cons ⟨h1, h2⟩ ih
theorem KV.keys {kvs : List (κ × V)} {vs : List (κ × Value)} (r : KV kvs vs) : kvs.map (·.1) = vs.map (·.1) := by
  unfold KV at r
  induction r with
  | nil => rfl
  | cons h t ih => rw [List.map_cons, List.map_cons, ih, h.1]
theorem KV.length {kvs : List (κ × V)} {vs : List (κ × Value)} (r : KV kvs vs) : kvs.length = vs.length := Paired.length r
theorem dropK_le (kvs : List (κ × V)) (k : κ) : (dropK kvs k).length ≤ kvs.length := List.length_filter_le _ _
end


/-! ### a tracked dict, its keys ints and texts or tuples of these -/
theorem kV_is {P : Program} {w : World} {k : Key} {u : Value} (r : RelV (kV k) u) : (mixKind P w).is k u = true := by
  cases k with
  | inl i => obtain ⟨t, e⟩ := (show ∃ t, u = Value.int i t from r); subst e; exact mixKind_int P w i t
  | inr x => obtain ⟨t, e⟩ := (show ∃ t, u = Value.str x t from r); subst e; exact mixKind_str P w x t
theorem kV_inj {a b : Key} (e : kV a = kV b) : a = b := by
  cases a with
  | inl i => cases b with
    | inl j => have e' : V.int i = V.int j := e; injection e' with e'; rw [e']
    | inr y => exact nomatch (show V.int i = V.str y from e)
  | inr x => cases b with
    | inl j => exact nomatch (show V.str x = V.int j from e)
    | inr y => have e' : V.str x = V.str y := e; injection e' with e'; rw [e']
theorem kVs_inj : ∀ {a b : List Key}, a.map kV = b.map kV → a = b
  | [], [], _ => rfl
  | [], _ :: _, e => by simp at e
  | _ :: _, [], e => by simp at e
  | x :: xs, y :: ys, e => by
    rw [List.map_cons, List.map_cons] at e
    injection e with e1 e2
    rw [kV_inj e1, kVs_inj e2]
theorem items_are {P : Program} {w : World} : ∀ {ks : List Key} {us : List Value}, Vals (ks.map kV) us → ItemsAre (mixKind P w) ks us
  | [], _, r => by rw [List.map_nil] at r; cases r; exact .nil
  | k :: ks, _, r => by
    rw [List.map_cons] at r
    cases r with
    | cons h t => exact .cons (kV_is h) (items_are t)

/-- raw entries of a dict with tuple keys -/
abbrev KT (H : Hp) : List (List Key × V) → List (List Key × Addr × Value) → Prop := Paired fun p q => p.1 = q.1 ∧ H q.2.1 = some (.tup (p.1.map kV)) ∧ RelV p.2 q.2.2
theorem KT.val {H : Hp} {kvs : List (List Key × V)} {xs : List (List Key × Addr × Value)} (r : KT H kvs xs) (k : List Key) : RelO (valV kvs k) ((atKey xs k).map (·.2)) := by
  induction r with
  | nil => exact True.intro
  | @cons p q ps qs h t ih =>
    obtain ⟨h1, _, h2⟩ := h
    by_cases e : p.1 = k
    · have e' : q.1 = k := h1.symm.trans e
      have b : atKey (q :: qs) k = some q.2 := by simp [atKey, List.find?_cons, e']
      rw [valV_pos e, b]; exact h2
    · have e' : ¬ q.1 = k := fun z => e (h1.trans z)
      have b : atKey (q :: qs) k = atKey qs k := by simp [atKey, List.find?_cons, e']
      rw [valV_neg e, b]; exact ih
theorem KT.repl {H : Hp} {kvs : List (List Key × V)} {xs : List (List Key × Addr × Value)} (r : KT H kvs xs) (k : List Key) {y : V} {u : Value} (ry : RelV y u) :
    KT H (kvs.map fun kv => if kv.1 = k then (kv.1, y) else kv) (xs.map (putAt k u)) := by
  induction r with
  | nil => exact .nil
  | @cons p q ps qs h t ih =>
    rw [List.map_cons, List.map_cons]
    refine .cons ?_ ih
    obtain ⟨h1, h2, h3⟩ := h
    unfold putAt
    by_cases e : p.1 = k
    · rw [if_pos e, if_pos (h1.symm.trans e)]; exact ⟨h1, h2, ry⟩
    · rw [if_neg e, if_neg (fun z => e (h1.trans z))]; exact ⟨h1, h2, h3⟩
theorem KT.put {H : Hp} {kvs : List (List Key × V)} {xs : List (List Key × Addr × Value)} (r : KT H kvs xs) (k : List Key) {b : Addr} {y : V} {u : Value} (hb : H b = some (.tup (k.map kV))) (ry : RelV y u) :
    KT H (putK kvs k y) (storedH xs k b u) := by
  have e : (kvs.any fun kv => decide (kv.1 = k)) = (atKey xs k).isSome := by
    rw [valV_any, (r.val k).isSome_eq, Option.isSome_map]
  unfold putK storedH
  rw [e]
  by_cases q : (atKey xs k).isSome = true
  · rw [if_pos q, if_pos q]; exact r.repl k ry
  · rw [if_neg q, if_neg q]; exact Paired.snoc r ⟨rfl, hb, ry⟩
theorem KT.keeps {H H' : Hp} {kvs : List (List Key × V)} {xs : List (List Key × Addr × Value)} (r : KT H kvs xs) (ht : ∀ b ys, H b = some (.tup ys) → H' b = some (.tup ys)) : KT H' kvs xs :=
  Paired.mapP r fun _ _ z => ⟨z.1, ht _ _ z.2.1, z.2.2⟩

section
variable {P : Program} {w : World} {H : Hp} {h : Heap} {a : Addr}
theorem rd_of {u : HO} (ok : HOk P w H h) (e : Rd H a u) : ObjOk P w H h a u := e.ok ok
theorem dk_rd {kvs : List (Key × V)} (ok : HOk P w H h) (e : Rd H a (.dK kvs)) : kvs.length ≤ sizeLine ∧ (a == sysModules) = false ∧ ∃ vs, KV kvs vs ∧ h.DictOf (mixKind P w) a vs :=
  show ObjOk P w H h a (.dK kvs) from rd_of ok e
theorem dk_of {kvs : List (Key × V)} (ok : HOk P w H h) (e : H a = some (.dK kvs)) : kvs.length ≤ sizeLine ∧ (a == sysModules) = false ∧ ∃ vs, KV kvs vs ∧ h.DictOf (mixKind P w) a vs := dk_rd ok (.inl e)
/-- a tracked tuple of ints and texts is a key -/
theorem key_of {ks : List Key} (ok : HOk P w H h) (e : H a = some (.tup (ks.map kV))) : (tupleKind (mixKind P w)).is h ks a := by
  obtain ⟨_, its, r, o, h1, h2, n, h3⟩ := (show ObjOk P w H h a (.tup (ks.map kV)) from ok a _ e)
  exact ⟨o, its.toArray, n, h1, h2, h3, by simpa using items_are r⟩
theorem dt_rd {kvs : List (List Key × V)} (ok : HOk P w H h) (e : Rd H a (.dT kvs)) : kvs.length ≤ sizeLine ∧ (a == sysModules) = false ∧
    ∃ xs, KT H kvs xs ∧ h.DictOfH (tupleKind (mixKind P w)) a xs := by
  obtain ⟨z, y, xs, r, o, es, ep, h1, h2, h3, h4, h5⟩ := (show ObjOk P w H h a (.dT kvs) from rd_of ok e)
  refine ⟨z, y, xs, r, o, es, ep, h1, h2, h3, h4, fun x hx => ?_, h5⟩
  have all : ∀ {l : List (List Key × V)} {m : List (List Key × Addr × Value)}, KT H l m → ∀ x ∈ m, (tupleKind (mixKind P w)).is h x.1 x.2.1 := by
    intro l m q
    induction q with
    | nil => intro x hx; exact nomatch hx
    | @cons p q ps qs hq t ih =>
      intro x hx
      rcases List.mem_cons.mp hx with e | hx
      · subst e
        exact key_of ok (by rw [← hq.1]; exact hq.2.1)
      · exact ih x hx
  exact all r x hx
theorem dt_of {kvs : List (List Key × V)} (ok : HOk P w H h) (e : H a = some (.dT kvs)) : kvs.length ≤ sizeLine ∧ (a == sysModules) = false ∧
    ∃ xs, KT H kvs xs ∧ h.DictOfH (tupleKind (mixKind P w)) a xs := dt_rd ok (.inl e)
end

/-- what the dict at a holds at the key y -/
def DGet (H : Hp) (a : Addr) (y : V) (r : Option V) : Prop :=
  (∃ kvs k, Rd H a (.dK kvs) ∧ y = kV k ∧ r = valV kvs k) ∨ ∃ kvs k b, Rd H a (.dT kvs) ∧ y = .ref b ∧ H b = some (.tup (k.map kV)) ∧ r = valV kvs k
/-- the heap behind a[y] = v -/
def DPut (H : Hp) (a : Addr) (y v : V) (H' : Hp) : Prop :=
  (∃ kvs k, H a = some (.dK kvs) ∧ y = kV k ∧ kvs.length < sizeLine ∧ H' = upd H a (.dK (putK kvs k v))) ∨
  ∃ kvs k b, H a = some (.dT kvs) ∧ y = .ref b ∧ H b = some (.tup (k.map kV)) ∧ kvs.length < sizeLine ∧ H' = upd H a (.dT (putK kvs k v))
theorem DGet.k {H : Hp} {a : Addr} {kvs : List (Key × V)} {k : Key} (e : H a = some (.dK kvs)) : DGet H a (kV k) (valV kvs k) := .inl ⟨kvs, k, .inl e, rfl, rfl⟩
theorem DGet.t {H : Hp} {a b : Addr} {kvs : List (List Key × V)} {k : List Key} (e : H a = some (.dT kvs)) (eb : H b = some (.tup (k.map kV))) : DGet H a (.ref b) (valV kvs k) := .inr ⟨kvs, k, b, .inl e, rfl, eb, rfl⟩
theorem DPut.k {H : Hp} {a : Addr} {kvs : List (Key × V)} {k : Key} {v : V} (e : H a = some (.dK kvs)) (hl : kvs.length < sizeLine) : DPut H a (kV k) v (upd H a (.dK (putK kvs k v))) := .inl ⟨kvs, k, e, rfl, hl, rfl⟩
theorem DPut.t {H : Hp} {a b : Addr} {kvs : List (List Key × V)} {k : List Key} {v : V} (e : H a = some (.dT kvs)) (eb : H b = some (.tup (k.map kV))) (hl : kvs.length < sizeLine) :
    DPut H a (.ref b) v (upd H a (.dT (putK kvs k v))) := .inr ⟨kvs, k, b, e, rfl, eb, hl, rfl⟩


section
variable {X : Cx} {pins : List (Addr × Obj)} {σ : St} {H : Hp} {s : Shared} {a : Addr} {y v : V} {u r : Value} {o : Option V} {A : Around} {E : Value → Shared → Prop}

theorem Inv.big (I : Inv X pins σ H s) : sysModules < s.heap.objs.size := by
  have h : mainGlobals < s.heap.objs.size := (I.mod.glob.keeps I.bk).lt
  exact Nat.lt_trans (by decide) h

/-- d[y], there -/
theorem d_getItem {Q : Value → Shared → Prop} (hu : A.units + 1 < cLine) (I : Inv X pins σ H s) (g : DGet H a y (some v)) (ry : RelV y u) (h : ∀ w' s', Inv X pins σ H s' → RelV v w' → Q w' s') :
    wpAny (model X.prog X.w) A (getItem (.ref a) u) Q E s := by
  rcases g with ⟨kvs, k, e, ey, l⟩ | ⟨kvs, k, b, e, ey, eb, l⟩
  · subst ey
    obtain ⟨z, hd, vs, rel, dd⟩ := dk_rd I.hok e
    obtain ⟨w', hw, rw'⟩ := RelO.some_of (v := v) (o := valueAt vs k) (by rw [l]; exact rel.val k)
    exact wpAny_getItem_of (kV_is ry) dd.mapOf hw (h w' _ (I.tok _) rw')
  · subst ey
    cases (show u = Value.ref b from ry)
    obtain ⟨z, hd, xs, rel, dd⟩ := dt_rd I.hok e
    obtain ⟨w', hw, rw'⟩ := RelO.some_of (v := v) (o := (atKey xs k).map (·.2)) (by rw [l]; exact rel.val k)
    obtain ⟨p, hp, hp2⟩ := Option.map_eq_some_iff.mp hw
    refine wpAny_getItem_heap (tupleKind_room_in1 hu) (key_of I.hok eb) dd hp ?_
    rw [hp2]
    exact h w' _ (I.tok _) rw'
/-- y in d -/
theorem d_in {Q : Value → Shared → Prop} (hu : A.units + 1 < cLine) (I : Inv X pins σ H s) (g : DGet H a y o) (ry : RelV y u) (h : ∀ s', Inv X pins σ H s' → Q (.bool o.isSome) s') :
    wpAny (model X.prog X.w) A (compareOp .In u (.ref a)) Q E s := by
  rcases g with ⟨kvs, k, e, ey, l⟩ | ⟨kvs, k, b, e, ey, eb, l⟩
  · subst ey
    obtain ⟨z, hd, vs, rel, dd⟩ := dk_rd I.hok e
    refine wpAny_in_of (kV_is ry) hd dd.mapOf ?_
    rw [← (rel.val k).isSome_eq, ← l]
    exact h _ (I.tok _)
  · subst ey
    cases (show u = Value.ref b from ry)
    obtain ⟨z, hd, xs, rel, dd⟩ := dt_rd I.hok e
    refine wpAny_in_heap (tupleKind_room_in1 hu) (key_of I.hok eb) hd dd ?_
    have q := (rel.val k).isSome_eq
    rw [Option.isSome_map] at q
    rw [← q, ← l]
    exact h _ (I.tok _)
theorem d_notIn {Q : Value → Shared → Prop} (hu : A.units + 1 < cLine) (I : Inv X pins σ H s) (g : DGet H a y o) (ry : RelV y u) (h : ∀ s', Inv X pins σ H s' → Q (.bool (!o.isSome)) s') :
    wpAny (model X.prog X.w) A (compareOp .NotIn u (.ref a)) Q E s := by
  rcases g with ⟨kvs, k, e, ey, l⟩ | ⟨kvs, k, b, e, ey, eb, l⟩
  · subst ey
    obtain ⟨z, hd, vs, rel, dd⟩ := dk_rd I.hok e
    refine wpAny_notIn_of (kV_is ry) hd dd.mapOf ?_
    rw [← (rel.val k).isSome_eq, ← l]
    exact h _ (I.tok _)
  · subst ey
    cases (show u = Value.ref b from ry)
    obtain ⟨z, hd, xs, rel, dd⟩ := dt_rd I.hok e
    refine wpAny_notIn_heap (tupleKind_room_in1 hu) (key_of I.hok eb) hd dd ?_
    have q := (rel.val k).isSome_eq
    rw [Option.isSome_map] at q
    rw [← q, ← l]
    exact h _ (I.tok _)
/-- a dict's object is replaced -/
theorem d_write {h' : Heap} {t' : Nat} {ob : HO} (I : Inv X pins σ H s) (mu : Mut (H a)) (hs : Heap.SameBut a s.heap h') (he : ∃ q, h'.get? a = some q) (new : ObjOk X.prog X.w (upd H a ob) h' a ob) :
    Inv X pins σ (upd H a ob) { s with heap := h', toks := t' } :=
  I.write (x := a) (e := a) mu (.inl rfl) (fun b q hb z => (hs.2 b hb).trans z) he new
theorem dk_new {P : Program} {w : World} {H' : Hp} {h' : Heap} {kvs : List (Key × V)} {vs : List (Key × Value)} (z : kvs.length ≤ sizeLine) (hd : (a == sysModules) = false) (rel : KV kvs vs) (dd : h'.DictOf (mixKind P w) a vs) :
    ObjOk P w H' h' a (.dK kvs) := ⟨z, hd, vs, rel, dd⟩
/-- d[y] = v -/
theorem d_setItem {H' : Hp} {Q : Unit → Shared → Prop} (hu : A.units + 1 < cLine) (I : Inv X pins σ H s) (g : DPut H a y v H') (ry : RelV y u) (rv : RelV v r) (h : ∀ s', Inv X pins σ H' s' → Q () s') :
    wpAny (model X.prog X.w) A (setItem (.ref a) u r) Q E s := by
  rcases g with ⟨kvs, k, e, ey, l, eH⟩ | ⟨kvs, k, b, e, ey, eb, l, eH⟩
  · subst ey eH
    obtain ⟨z, hd, vs, rel, dd⟩ := dk_of I.hok e
    have hz : vs.length ≤ sizeLine := by rw [← rel.length]; exact z
    have hl : (putK kvs k v).length ≤ sizeLine := by have := length_putK kvs k v; omega
    refine wpAny_setItem_pairs (hsz := hz) (kV_is ry) dd fun h' dd' hs => h _ ?_
    have he : ∃ q, h'.get? a = some q := let ⟨q, _, _, hq, _⟩ := dd'; ⟨q, hq⟩
    exact d_write I (by rw [e]; exact True.intro) hs he (dk_new hl hd (rel.put k rv) dd')
  · subst ey eH
    cases (show u = Value.ref b from ry)
    obtain ⟨z, hd, xs, rel, dd⟩ := dt_of I.hok e
    have hz : xs.length ≤ sizeLine := by rw [← Paired.length rel]; exact z
    have hl : (putK kvs k v).length ≤ sizeLine := by have := length_putK kvs k v; omega
    refine wpAny_setItem_heap (hsz := hz) (tupleKind_room_in1 hu) (key_of I.hok eb) dd fun h' dd' hs => h _ ?_
    obtain ⟨q, es, ep, hq, h2, h3, h4, _, h5⟩ := dd'
    refine d_write I (by rw [e]; exact True.intro) hs ⟨q, hq⟩ ⟨hl, hd, _, (rel.put k eb rv).keeps fun c ys ec => ?_, q, es, ep, hq, h2, h3, h4, h5⟩
    rw [upd_ne (ne_of ec e (fun z => nomatch z))]
    exact ec
end

section
variable {X : Cx} {pins : List (Addr × Obj)} {σ : St} {H : Hp} {s : Shared} {a : Addr} {kvs : List (Key × V)} {k : Key} {u : Value} {A : Around} {E : Value → Shared → Prop}
/-- del d[k] -/
theorem d_delItem {Q : Unit → Shared → Prop} (I : Inv X pins σ H s) (e : H a = some (.dK kvs)) (ry : RelV (kV k) u) (l : (valV kvs k).isSome = true) (h : ∀ s', Inv X pins σ (upd H a (.dK (dropK kvs k))) s' → Q () s') :
    wpAny (model X.prog X.w) A (delItem (.ref a) u) Q E s := by
  obtain ⟨z, hd, vs, rel, dd⟩ := dk_of I.hok e
  refine wpAny_delItem_slot dd.typeIs (by decide) PySem.F.slot_dict_delitem
    (call_meetsIn PySem.F.slot_dict_delitem dd.typeIs PySem.F.entry_dict_delitem (PySem.F.args_dict_delitem_2 _ _) (meets_dict_delitem_pairs (mixKind X.prog X.w) a (kV_is ry)) ⟨vs, dd, by rw [← rel.length]; exact z, by rw [← (rel.val k).isSome_eq]; exact l, fun h' dd' hs => h _ ?_⟩)
  have he : ∃ q, h'.get? a = some q := let ⟨q, _, _, hq, _⟩ := dd'; ⟨q, hq⟩
  exact d_write I (by rw [e]; exact True.intro) hs he (dk_new (Nat.le_trans (dropK_le kvs k) z) hd (rel.drop k) dd')
/-- d.pop(k[, x]), there -/
theorem d_pop {v : V} {more : List Value} {Q : Value → Shared → Prop} (I : Inv X pins σ H s) (e : H a = some (.dK kvs)) (ry : RelV (kV k) u) (l : valV kvs k = some v) (hm : more = [] ∨ ∃ x, more = [x])
    (h : ∀ w' s', Inv X pins σ (upd H a (.dK (dropK kvs k))) s' → RelV v w' → Q w' s') : wpAny (model X.prog X.w) A (call (.builtin "dict.pop") (.ref a :: u :: more)) Q E s := by
  obtain ⟨z, hd, vs, rel, dd⟩ := dk_of I.hok e
  obtain ⟨w', hw, rw'⟩ := RelO.some_of (v := v) (o := valueAt vs k) (by rw [← l]; exact rel.val k)
  have hp : (keyPart u).isSome = true := by
    cases k with
    | inl i => obtain ⟨t, q⟩ := (show ∃ t, u = Value.int i t from ry); subst q; rfl
    | inr x => obtain ⟨t, q⟩ := (show ∃ t, u = Value.str x t from ry); subst q; rfl
  have ha : argsOk "dict.pop" ⟨.ref a :: u :: more, []⟩ := by
    rcases hm with q | ⟨x, q⟩
    · subst q; exact PySem.F.args_dict_pop_2 _ _
    · subst q; exact PySem.F.args_dict_pop_3 _ _ _
  refine call_meetsIn PySem.F.slot_dict_pop dd.typeIs PySem.F.entry_dict_pop ha (meets_dict_pop_there (mixKind X.prog X.w) a (kV_is ry) more hm hp)
    ⟨vs, w', dd, by rw [← rel.length]; exact z, hw, fun h' dd' hs => h w' _ ?_ rw'⟩
  have he : ∃ q, h'.get? a = some q := let ⟨q, _, _, hq, _⟩ := dd'; ⟨q, hq⟩
  exact d_write I (by rw [e]; exact True.intro) hs he (dk_new (Nat.le_trans (dropK_le kvs k) z) hd (rel.drop k) dd')
/-- d.pop(k, x), not there -/
theorem d_popD {r : Value} {Q : Value → Shared → Prop} (I : Inv X pins σ H s) (e : H a = some (.dK kvs)) (ry : RelV (kV k) u) (l : valV kvs k = none) (h : ∀ s', Inv X pins σ H s' → Q r s') :
    wpAny (model X.prog X.w) A (call (.builtin "dict.pop") [.ref a, u, r]) Q E s := by
  obtain ⟨z, hd, vs, rel, dd⟩ := dk_of I.hok e
  have hn : valueAt vs k = none := RelO.none_of (by rw [← l]; exact rel.val k)
  have hp : (keyPart u).isSome = true := by
    cases k with
    | inl i => obtain ⟨t, q⟩ := (show ∃ t, u = Value.int i t from ry); subst q; rfl
    | inr x => obtain ⟨t, q⟩ := (show ∃ t, u = Value.str x t from ry); subst q; rfl
  exact call_meetsIn PySem.F.slot_dict_pop dd.typeIs PySem.F.entry_dict_pop (PySem.F.args_dict_pop_3 _ _ _) (meets_dict_pop_default (mixKind X.prog X.w) a (kV_is ry) hd hp r) ⟨vs, dd, hn, h _ (I.tok _)⟩
/-- d.clear() -/
theorem d_clear {Q : Value → Shared → Prop} (I : Inv X pins σ H s) (e : H a = some (.dK kvs)) (h : ∀ s', Inv X pins σ (upd H a (.dK [])) s' → Q .none s') : wpAny (model X.prog X.w) A (call (.builtin "dict.clear") [.ref a]) Q E s := by
  obtain ⟨z, hd, vs, rel, dd⟩ := dk_of I.hok e
  refine call_meetsIn PySem.F.slot_dict_clear dd.typeIs PySem.F.entry_dict_clear (PySem.F.args_dict_clear_1 _) (meets_dict_clear (mixKind X.prog X.w) a) ⟨vs, dd, by rw [← rel.length]; exact z, fun h' dd' hs => h _ ?_⟩
  have he : ∃ q, h'.get? a = some q := let ⟨q, _, _, hq, _⟩ := dd'; ⟨q, hq⟩
  exact d_write (t' := s.toks) I (by rw [e]; exact True.intro) hs he (dk_new (Nat.zero_le _) hd .nil dd')
/-- len(d) -/
theorem d_len {Q : Value → Shared → Prop} (I : Inv X pins σ H s) (e : Rd H a (.dK kvs)) (h : ∀ t s', Inv X pins σ H s' → Q (.int kvs.length t) s') : wpAny (model X.prog X.w) A (call (.builtin "len") [.ref a]) Q E s := by
  obtain ⟨z, hd, vs, rel, dd⟩ := dk_rd I.hok e
  refine call_len_dict hd dd (by rw [← rel.length]; rw [sizeLine_eq] at z; omega) ?_
  rw [← rel.length]
  exact h _ _ (I.tok _)
/-- if d -/
theorem d_truth {Q : Bool → Shared → Prop} (I : Inv X pins σ H s) (e : Rd H a (.dK kvs)) (h : ∀ s', Inv X pins σ H s' → Q (!kvs.isEmpty) s') : wpAny (model X.prog X.w) A (truthy (.ref a)) Q E s := by
  obtain ⟨z, hd, vs, rel, dd⟩ := dk_rd I.hok e
  refine wpAny_truthy_dict hd dd (by rw [← rel.length]; rw [sizeLine_eq] at z; omega) ?_
  have q : kvs.isEmpty = vs.isEmpty := by cases rel <;> rfl
  rw [← q]
  exact h _ (I.tok _)
end


/-! ### readings and rules -/
/-- the element of a subscription, not a slice -/
def NoSl (i : Expr) : Prop := ∀ ov iv, subscripted i false ov iv = operate [ov, iv] (getItem ov iv)
theorem subD_of {prog : Program} {w : World} {A : Around} {E : Value → Shared → Prop} {s : Shared} {env : Env} {value slice : Expr} {pos : Pos} {T id : String} {Q : Value → Shared → Prop}
    (hl : typeLookup (.type T) "__getitem__" = pure (some (.builtin id))) (hs : NoSl slice)
    (h : wpAny (model prog w) A (eval value env) (fun o s₁ => wpAny (model prog w) A (eval slice env) (fun i s₂ => s₂.TypeIs o T ∧ wpAny (model prog w) A (getItem o i) Q E s₂) E s₁) E s) :
    wpAny (model prog w) A (eval (.Subscript value slice pos) env) Q E s := by
  refine Subscript_ (wpAny_mono h (fun o s₁ h₁ => wpAny_mono h₁ (fun i s₂ h₂ => ?_) fun _ _ x => x) fun _ _ x => x)
  obtain ⟨hT, h₂⟩ := h₂
  unfold subscriptTail
  refine wpAny_bind ?_
  rw [getitemInPython_of_ne hT.not_modules]
  refine wpAny_bind (wpAny_specialOf hT hl ?_)
  have fin : wpAny (model prog w) A (subscripted slice false o i) (fun r s₃ => wpAny (model prog w) A (letTemporaryGo value o r >>= fun _ => pure r) Q E s₃) E s₂ := by
    rw [hs o i]
    exact wpAny_operating (wpAny_mono h₂ (fun r s₃ h₃ => wpAny_bind (wpAny_letTemporaryGo (wpAny_pure h₃))) fun _ _ x => x)
  first
    | exact wpAny_pure (wpAny_bind fin)
    | exact wpAny_bind (wpAny_pure (wpAny_bind fin))
    | exact wpAny_bind fin

theorem dict_typeIs {X : Cx} {pins : List (Addr × Obj)} {σ : St} {H : Hp} {s : Shared} {a : Addr} {y : V} {o : Option V} (I : Inv X pins σ H s) (g : DGet H a y o) : s.TypeIs (.ref a) "dict" := by
  rcases g with ⟨kvs, k, e, _, _⟩ | ⟨kvs, k, b, e, _, _, _⟩
  · obtain ⟨_, _, vs, _, dd⟩ := dk_rd I.hok e
    exact dd.typeIs
  · obtain ⟨_, _, xs, _, dd⟩ := dt_rd I.hok e
    exact dd.typeIs
theorem dict_noDict {X : Cx} {pins : List (Addr × Obj)} {σ : St} {H : Hp} {s : Shared} {a : Addr} {y : V} {o : Option V} (I : Inv X pins σ H s) (g : DGet H a y o) :
    ∀ b, Value.ref a = .ref b → ∃ ob, s.heap.get? b = some ob ∧ ob.dict = none := fun b q => by
  cases q
  rcases g with ⟨kvs, k, e, _, _⟩ | ⟨kvs, k, b, e, _, _, _⟩
  · obtain ⟨_, _, vs, _, ob, _, _, h1, h2, _⟩ := dk_rd I.hok e
    exact ⟨ob, h1, h2.2.1⟩
  · obtain ⟨_, _, xs, _, ob, _, _, h1, h2, _⟩ := dt_rd I.hok e
    exact ⟨ob, h1, h2.2.1⟩

/-- d[y] -/
def tDGet (td ty : TE) : TE := fun σ H Q => td σ H fun x H1 => ty σ H1 fun y H2 => ∃ a v, x = .ref a ∧ DGet H2 a y (some v) ∧ Q v H2
/-- y in d, y not in d -/
def tDIn (ty td : TE) : TE := fun σ H Q => ty σ H fun y H1 => td σ H1 fun x H2 => ∃ a o, x = .ref a ∧ DGet H2 a y o ∧ Q (.bl o.isSome) H2
def tDNotIn (ty td : TE) : TE := fun σ H Q => ty σ H fun y H1 => td σ H1 fun x H2 => ∃ a o, x = .ref a ∧ DGet H2 a y o ∧ Q (.bl (!o.isSome)) H2
/-- d[y] = v -/
def sDPut (td ty tv : TE) : TS := fun D σ H => tv σ H fun v H1 => td σ H1 fun x H2 => ty σ H2 fun y H3 => ∃ a H4, x = .ref a ∧ DPut H3 a y v H4 ∧ D.nx σ H4
/-- d[y] op= v -/
def sDAug (td ty tv : TE) (rd : V → V → Hp → VK → Prop) : TS := fun D σ H => td σ H fun x H1 => ty σ H1 fun y H2 => ∃ a v, x = .ref a ∧ DGet H2 a y (some v) ∧
  tv σ H2 fun y2 H3 => rd v y2 H3 fun z H4 => ∃ H5, DPut H4 a y z H5 ∧ D.nx σ H5
/-- del d[y] -/
def sDDel (td ty : TE) : TS := fun D σ H => td σ H fun x H1 => ty σ H1 fun y H2 => ∃ a kvs k, x = .ref a ∧ H2 a = some (.dK kvs) ∧ y = kV k ∧ (valV kvs k).isSome = true ∧ D.nx σ (upd H2 a (.dK (dropK kvs k)))

section
variable {X : Cx} {o i e value : Expr} {pos pos' tpos : Pos} {td ty tv : TE}
theorem pe_dget (hu : X.A.units + 1 < cLine) (ho : PE X o td) (hi : PE X i ty) (hs : NoSl i) : PE X (.Subscript o i pos) (tDGet td ty) := by
  intro pins s σ H Q I h
  refine subD_of PySem.F.slot_dict_getitem.lookup hs (thn (ho pins s σ H _ I h) fun u s1 ⟨x, H1, I1, rx, q1⟩ => thn (hi pins s1 σ H1 _ I1 q1) fun iv s2 ⟨y, H2, I2, ry, a, v, ex, g, q2⟩ => ?_)
  subst ex
  obtain rfl : u = Value.ref a := rx
  exact ⟨dict_typeIs I2 g, d_getItem hu I2 g ry fun w' s3 I3 rw' => ⟨v, H2, I3, rw', q2⟩⟩
theorem pc_din (hu : X.A.units + 1 < cLine) (hi : PE X i ty) (ho : PE X o td) : PC X .In i o (tDIn ty td) := by
  intro pins s σ H Q I h
  refine thn (hi pins s σ H _ I h) fun iv s1 ⟨y, H1, I1, ry, q1⟩ => thn (ho pins s1 σ H1 _ I1 q1) fun u s2 ⟨x, H2, I2, rx, a, ov, ex, g, q2⟩ => ?_
  subst ex
  obtain rfl : u = Value.ref a := rx
  exact d_in hu I2 g ry fun s3 I3 => ⟨.bl ov.isSome, H2, I3, rfl, q2⟩
theorem pc_dnotin (hu : X.A.units + 1 < cLine) (hi : PE X i ty) (ho : PE X o td) : PC X .NotIn i o (tDNotIn ty td) := by
  intro pins s σ H Q I h
  refine thn (hi pins s σ H _ I h) fun iv s1 ⟨y, H1, I1, ry, q1⟩ => thn (ho pins s1 σ H1 _ I1 q1) fun u s2 ⟨x, H2, I2, rx, a, ov, ex, g, q2⟩ => ?_
  subst ex
  obtain rfl : u = Value.ref a := rx
  exact d_notIn hu I2 g ry fun s3 I3 => ⟨.bl (!ov.isSome), H2, I3, rfl, q2⟩
theorem ps_dput (hu : X.A.units + 1 < cLine) (ho : PE X o td) (hi : PE X i ty) (hv : PE X value tv) (hs : swapsWith value (some (.Subscript o i pos')) pos.line X.env = pure false) :
    PS X (.Assign [.Subscript o i pos'] value pos) (sDPut td ty tv) := by
  intro pins s σ H D I h
  refine wpAny_Assign_Subscript (thn (hv pins s σ H _ I h) fun r s1 ⟨v, H1, I1, rv, q1⟩ => thn (ho pins s1 σ H1 _ I1 q1) fun u s2 ⟨x, H2, I2, rx, q2⟩ => thn (hi pins s2 σ H2 _ I2 q2) fun iv s3 ⟨y, H3, I3, ry, a, H4, ex, g, q3⟩ => ?_) hs
  subst ex
  obtain rfl : u = Value.ref a := rx
  exact d_setItem hu I3 g ry rv fun s4 I4 => ⟨σ, H4, I4, q3⟩
theorem ps_daug {op : Operator} {rd : V → V → Hp → VK → Prop} (hu : X.A.units + 1 < cLine) (ho : PE X o td) (hi : PE X i ty) (hv : PE X value tv) (hop : InOp X op rd)
    (ha : ∀ ov iv new, augStore i ov iv new = (do holding [new, ov, iv] (setItem ov iv new); release [new, ov, iv] []; pure .next)) : PS X (.AugAssign (.Subscript o i tpos) op value pos) (sDAug td ty tv rd) := by
  intro pins s σ H D I h
  refine wpAny_AugAssign_SubscriptAny (thn (ho pins s σ H _ I h) fun u s1 ⟨x, H1, I1, rx, q1⟩ => thn (hi pins s1 σ H1 _ I1 q1) fun iv s2 ⟨y, H2, I2, ry, a, v, ex, g, q2⟩ => ?_) ha
  subst ex
  obtain rfl : u = Value.ref a := rx
  refine d_getItem hu I2 g ry fun w' s3 I3 rw' => thn (hv pins s3 σ H2 _ I3 q2) fun w2 s4 ⟨y2, H3, I4, ry2, q3⟩ => thn (hop pins s4 σ H3 v y2 w' w2 _ I4 rw' ry2 q3) fun w3 s5 ⟨z, H4, I5, rz, H5, g5, q4⟩ => ?_
  exact d_setItem hu I5 g5 ry rz fun s6 I6 => ⟨σ, H5, I6, q4⟩
theorem ps_ddel (ho : PE X o td) (hi : PE X i ty) : PS X (.Delete [.Subscript o i tpos] pos) (sDDel td ty) := by
  intro pins s σ H D I h
  refine wpAny_Delete (wpAny_deleteEach_cons (wpAny_delete_Subscript (thn (ho pins s σ H _ I h) fun u s1 ⟨x, H1, I1, rx, q1⟩ => thn (hi pins s1 σ H1 _ I1 q1) fun iv s2 ⟨y, H2, I2, ry, a, kvs, k, ex, e, ey, l, q2⟩ => ?_)))
  subst ex ey
  obtain rfl : u = Value.ref a := rx
  exact d_delItem I2 e ry l fun s3 I3 => wpAny_deleteEach_nil ⟨σ, _, I3, q2⟩
end


/-! ### displays -/
theorem dk_empty {P : Program} {w : World} {H : Hp} (h : Heap) (hb : sysModules < h.objs.size) : ObjOk P w H (h.push { cls := .type "dict", data := .dict #[] }) h.objs.size (.dK []) :=
  ⟨Nat.zero_le _, beq_eq_false_iff_ne.mpr (Ne.symm (Nat.ne_of_lt hb)), [], .nil, Heap.DictOf.new h⟩
theorem dt_empty {P : Program} {w : World} {H : Hp} (h : Heap) (hb : sysModules < h.objs.size) : ObjOk P w H (h.push { cls := .type "dict", data := .dict #[] }) h.objs.size (.dT []) :=
  ⟨Nat.zero_le _, beq_eq_false_iff_ne.mpr (Ne.symm (Nat.ne_of_lt hb)), [], .nil, _, #[], 0, Heap.get?_push_size _ rfl, ⟨rfl, rfl, rfl⟩, rfl, rfl, List.nodup_nil⟩
/-- {}, to be a dict of the kind that is wanted -/
def tDNewK : TE := fun _ H Q => ∀ p, H p = none → Q (.ref p) (upd H p (.dK []))
def tDNewT : TE := fun _ H Q => ∀ p, H p = none → Q (.ref p) (upd H p (.dT []))
section
variable {X : Cx} {pos : Pos}
theorem pe_dnewK : PE X (.Dict [] [] pos) tDNewK := fun pins s σ H Q I h =>
  wpAny_Dict_empty ⟨.ref s.heap.objs.size, _, I.laid (a := s.heap.objs.size) (o := .dK []) (t' := s.toks) (fun _ _ q => Heap.get?_push_of_some _ q) (Nat.le_refl _) (dk_empty s.heap I.big), rfl, h _ (I.hok.fresh (Nat.le_refl _))⟩
theorem pe_dnewT : PE X (.Dict [] [] pos) tDNewT := fun pins s σ H Q I h =>
  wpAny_Dict_empty ⟨.ref s.heap.objs.size, _, I.laid (a := s.heap.objs.size) (o := .dT []) (t' := s.toks) (fun _ _ q => Heap.get?_push_of_some _ q) (Nat.le_refl _) (dt_empty s.heap I.big), rfl, h _ (I.hok.fresh (Nat.le_refl _))⟩
end

/-- the pairs of a display, from the left -/
def tPairs : List (TE × TE) → St → Hp → (List (V × V) → Hp → Prop) → Prop
  | [], _, H, Q => Q [] H
  | (tk, tv) :: r, σ, H, Q => tk σ H fun x H1 => tv σ H1 fun y H2 => tPairs r σ H2 fun ps H3 => Q ((x, y) :: ps) H3
abbrev VV : List (V × V) → List (Value × Value) → Prop := Paired fun p q => RelV p.1 q.1 ∧ RelV p.2 q.2
def PPs (X : Cx) (pos : Pos) (keys : List (Option Expr)) (values : List Expr) (trs : List (TE × TE)) : Prop :=
  ∀ (pins : List (Addr × Obj)) (s : Shared) (σ : St) (H : Hp) (Q : List (V × V) → Hp → Prop), Inv X pins σ H s → tPairs trs σ H Q →
    wpAny (model X.prog X.w) X.A (evalPairs (pairTrees keys values X.env pos)) (fun vs s' => ∃ ps H', Inv X pins σ H' s' ∧ VV ps vs ∧ Q ps H') X.xe s
theorem pps_nil {X : Cx} {pos : Pos} : PPs X pos [] [] [] := fun pins s σ H Q I h => pairTrees_nil_walk ⟨[], H, I, .nil, h⟩
theorem pps_cons {X : Cx} {pos : Pos} {k v : Expr} {ks : List (Option Expr)} {vs : List Expr} {tk tv : TE} {trs : List (TE × TE)} (hk : PE X k tk) (hv : PE X v tv) (hr : PPs X pos ks vs trs) :
    PPs X pos (some k :: ks) (v :: vs) ((tk, tv) :: trs) := fun pins s σ H Q I h =>
  pairTrees_cons_walk (thn (hk pins s σ H _ I h) fun u s1 ⟨x, H1, I1, rx, q1⟩ => thn (hv pins s1 σ H1 _ I1 q1) fun w2 s2 ⟨y, H2, I2, ry, q2⟩ =>
    thn (hr pins s2 σ H2 _ I2 q2) fun ws s3 ⟨ps, H3, I3, rel, q3⟩ => ⟨(x, y) :: ps, H3, I3, .cons ⟨rx, ry⟩ rel, q3⟩)

def mergeK (kvs more : List (Key × V)) : List (Key × V) := more.foldl (fun acc kv => putK acc kv.1 kv.2) kvs
theorem KV.merge : ∀ {more : List (Key × V)} {rs : List (Key × Value)} {kvs : List (Key × V)} {vs : List (Key × Value)}, KV more rs → KV kvs vs → KV (mergeK kvs more) (merged vs rs) := by
  intro more rs kvs vs r
  unfold KV at r
  induction r generalizing kvs vs with
  | nil => intro q; exact q
  | @cons p q ps qs h t ih =>
    intro r0
    have e : KV (putK kvs p.1 p.2) (stored vs q.1 q.2) := by
      have := r0.put p.1 h.2
      rw [← h.1]; exact this
    exact ih e
theorem length_mergeK : ∀ (more kvs : List (Key × V)), (mergeK kvs more).length ≤ kvs.length + more.length
  | [], kvs => by show kvs.length ≤ kvs.length + 0; omega
  | p :: r, kvs => by
    have h1 := length_mergeK r (putK kvs p.1 p.2)
    have h2 := length_putK kvs p.1 p.2
    show (mergeK (putK kvs p.1 p.2) r).length ≤ _
    rw [List.length_cons]; omega
theorem carries_of {P : Program} {w : World} : ∀ {kvs : List (Key × V)} {ws : List (Value × Value)}, VV (kvs.map fun kv => (kV kv.1, kv.2)) ws → ∃ rs, Carries (mixKind P w) ws rs ∧ KV kvs rs
  | [], _, r => by rw [List.map_nil] at r; cases r; exact ⟨[], True.intro, .nil⟩
  | p :: kvs, _, r => by
    rw [List.map_cons] at r
    cases r with
    | @cons a b as bs h t =>
      obtain ⟨rs, c, q⟩ := carries_of (P := P) (w := w) t
      obtain ⟨b1, b2⟩ := b
      exact ⟨(p.1, b2) :: rs, ⟨kV_is h.1, rfl, c⟩, .cons ⟨rfl, h.2⟩ q⟩
/-- {k: v, ..} with keys ints and texts; the new dict stands empty while the pairs are made -/
def tDisp (trs : List (TE × TE)) : TE := fun σ H Q => ∀ p, H p = none → tPairs trs σ (upd H p (.dK [])) fun ps H2 => H2 p = some (.dK []) ∧ ∃ kvs : List (Key × V), ps = kvs.map (fun kv => (kV kv.1, kv.2)) ∧ kvs.length ≤ 15 ∧ Q (.ref p) (upd H2 p (.dK (mergeK [] kvs)))
theorem pe_disp {X : Cx} {pos : Pos} {keys : List (Option Expr)} {values : List Expr} {trs : List (TE × TE)} (h : PPs X pos keys values trs) (hall : keys.all (·.isSome) = true) (hl : keys.length = values.length) (h0 : keys ≠ [])
    (h15 : keys.length ≤ 15) : PE X (.Dict keys values pos) (tDisp trs) := by
  intro pins s σ H Q I q
  have hn := I.hok.fresh (Nat.le_refl s.heap.objs.size)
  have I1 := I.laid (a := s.heap.objs.size) (o := .dK []) (h' := s.heap.push { cls := .type "dict", data := .dict #[] }) (t' := s.toks) (fun _ _ q => Heap.get?_push_of_some _ q) (Nat.le_refl _) (dk_empty s.heap I.big)
  refine wpAny_Dict_walk (knd := mixKind X.prog X.w) hall hl h0 h15 (thn (h pins _ σ _ _ I1 (q _ hn)) fun ws s2 ⟨ps, H2, I2, rel, e, kvs, ep, lk, q2⟩ => ?_)
  subst ep
  obtain ⟨rs, c, rk⟩ := carries_of (P := X.prog) (w := X.w) rel
  obtain ⟨z, hd, vs0, r0, dd⟩ := dk_of I2.hok e
  cases r0
  refine ⟨rs, c, dd, fun h' dd' hs => ⟨.ref s.heap.objs.size, _, ?_, rfl, q2⟩⟩
  have hz : (mergeK [] kvs).length ≤ sizeLine := by
    have h1 := length_mergeK kvs []
    rw [List.length_nil] at h1
    rw [sizeLine_eq]; omega
  have he : ∃ q, h'.get? s.heap.objs.size = some q := let ⟨q, _, _, hq, _⟩ := dd'; ⟨q, hq⟩
  exact d_write I2 (by rw [e]; exact True.intro) hs he (dk_new hz hd (rk.merge .nil) dd')


/-! ### methods -/
/-- a method call o.m(e) of a built-in, with one argument: what must be seen of the text -/
structure M1 (X : Cx) (o : Expr) (m : Str) (apos : Pos) (e : Expr) (cpos : Pos) : Prop where
  base : attributeBase o m X.env (eval o X.env) = eval o X.env
  few : ((backTo cpos (starEach [e] X.env)).all (fun x => !x.1) && (backToKw cpos (keywordEach [] X.env)).all (fun x => x.1.isSome)
    && decide (([e] : List Expr).length + ([] : List Keyword).length + (if ([] : List Keyword).isEmpty then 0 else 1) < 30)) = true
  line : (apos.endLine == cpos.line) = true
  trees : backTo cpos (starEach [e] X.env) = [(false, eval e X.env)]
structure M2 (X : Cx) (o : Expr) (m : Str) (apos : Pos) (e f : Expr) (cpos : Pos) : Prop where
  base : attributeBase o m X.env (eval o X.env) = eval o X.env
  few : ((backTo cpos (starEach [e, f] X.env)).all (fun x => !x.1) && (backToKw cpos (keywordEach [] X.env)).all (fun x => x.1.isSome)
    && decide (([e, f] : List Expr).length + ([] : List Keyword).length + (if ([] : List Keyword).isEmpty then 0 else 1) < 30)) = true
  line : (apos.endLine == cpos.line) = true
  trees : backTo cpos (starEach [e, f] X.env) = [(false, eval e X.env), (false, eval f X.env)]

/-- a is a dict, whatever its keys -/
def IsD (H : Hp) (a : Addr) : Prop := (∃ kvs, Rd H a (.dK kvs)) ∨ ∃ kvs, Rd H a (.dT kvs)
theorem isD_at {X : Cx} {pins : List (Addr × Obj)} {σ : St} {H : Hp} {s : Shared} {a : Addr} (I : Inv X pins σ H s) (d : IsD H a) :
    s.TypeIs (.ref a) "dict" ∧ (∀ b, Value.ref a = .ref b → ∃ ob, s.heap.get? b = some ob ∧ ob.dict = none) ∧ (a == sysModules) = false := by
  rcases d with ⟨kvs, e⟩ | ⟨kvs, e⟩
  · obtain ⟨_, hd, vs, _, dd⟩ := dk_rd I.hok e
    refine ⟨dd.typeIs, fun b q => ?_, hd⟩
    cases q
    obtain ⟨ob, _, _, h1, h2, _⟩ := dd
    exact ⟨ob, h1, h2.2.1⟩
  · obtain ⟨_, hd, xs, _, dd⟩ := dt_rd I.hok e
    refine ⟨dd.typeIs, fun b q => ?_, hd⟩
    cases q
    obtain ⟨ob, _, _, h1, h2, _⟩ := dd
    exact ⟨ob, h1, h2.2.1⟩

section
variable {X : Cx} {pins : List (Addr × Obj)} {σ : St} {H : Hp} {s : Shared} {a : Addr} {y d : V} {u r : Value} {o : Option V} {A : Around} {E : Value → Shared → Prop}
/-- d.get(y) -/
theorem d_get1 {Q : Value → Shared → Prop} (hu : A.units + 1 < cLine) (I : Inv X pins σ H s) (g : DGet H a y o) (ry : RelV y u) (h : ∀ w' s', Inv X pins σ H s' → RelV (o.getD .non) w' → Q w' s') :
    wpAny (model X.prog X.w) A (call (.builtin "dict.get") [.ref a, u]) Q E s := by
  rcases g with ⟨kvs, k, e, ey, l⟩ | ⟨kvs, k, b, e, ey, eb, l⟩
  · subst ey
    obtain ⟨z, hd, vs, rel, dd⟩ := dk_rd I.hok e
    refine call_meetsIn PySem.F.slot_dict_get dd.typeIs PySem.F.entry_dict_get (PySem.F.args_dict_get_2 _ _) (meets_dict_get (mixKind X.prog X.w) a (kV_is ry) hd) ⟨_, dd.mapOf, h _ _ (I.tok _) ?_⟩
    rw [l]
    exact (rel.val k).getD rfl
  · subst ey
    cases (show u = Value.ref b from ry)
    obtain ⟨z, hd, xs, rel, dd⟩ := dt_rd I.hok e
    refine call_meetsIn PySem.F.slot_dict_get dd.typeIs PySem.F.entry_dict_get (PySem.F.args_dict_get_2 _ _) (meetsH_dict_get (tupleKind (mixKind X.prog X.w)) a b hd) ⟨tupleKind_room_in1 hu, k, xs, key_of I.hok eb, dd, h _ _ (I.tok _) ?_⟩
    rw [l]
    exact (rel.val k).getD rfl
/-- d.get(y, x) -/
theorem d_get2 {Q : Value → Shared → Prop} (hu : A.units + 1 < cLine) (I : Inv X pins σ H s) (g : DGet H a y o) (ry : RelV y u) (rd : RelV d r) (h : ∀ w' s', Inv X pins σ H s' → RelV (o.getD d) w' → Q w' s') :
    wpAny (model X.prog X.w) A (call (.builtin "dict.get") [.ref a, u, r]) Q E s := by
  rcases g with ⟨kvs, k, e, ey, l⟩ | ⟨kvs, k, b, e, ey, eb, l⟩
  · subst ey
    obtain ⟨z, hd, vs, rel, dd⟩ := dk_rd I.hok e
    refine call_meetsIn PySem.F.slot_dict_get dd.typeIs PySem.F.entry_dict_get (PySem.F.args_dict_get_3 _ _ _) (meets_dict_get_default (mixKind X.prog X.w) a (kV_is ry) hd r) ⟨_, dd.mapOf, h _ _ (I.tok _) ?_⟩
    rw [l]
    exact (rel.val k).getD rd
  · subst ey
    cases (show u = Value.ref b from ry)
    obtain ⟨z, hd, xs, rel, dd⟩ := dt_rd I.hok e
    refine call_meetsIn PySem.F.slot_dict_get dd.typeIs PySem.F.entry_dict_get (PySem.F.args_dict_get_3 _ _ _) (meetsH_dict_get_default (tupleKind (mixKind X.prog X.w)) a b hd r) ⟨tupleKind_room_in1 hu, k, xs, key_of I.hok eb, dd, h _ _ (I.tok _) ?_⟩
    rw [l]
    exact (rel.val k).getD rd
end

def tDGet1 (td ty : TE) : TE := fun σ H Q => td σ H fun x H1 => ∃ a, x = .ref a ∧ IsD H1 a ∧ ty σ H1 fun y H2 => ∃ o, DGet H2 a y o ∧ Q (o.getD .non) H2
def tDGet2 (td ty tx : TE) : TE := fun σ H Q => td σ H fun x H1 => ∃ a, x = .ref a ∧ IsD H1 a ∧ ty σ H1 fun y H2 => tx σ H2 fun z H3 => ∃ o, DGet H3 a y o ∧ Q (o.getD z) H3
/-- d.pop(k): there; d.pop(k, x): there or not -/
def tDPop1 (td ty : TE) : TE := fun σ H Q => td σ H fun x H1 => ∃ a, x = .ref a ∧ IsD H1 a ∧ ty σ H1 fun y H2 => ∃ kvs k v, H2 a = some (.dK kvs) ∧ y = kV k ∧ valV kvs k = some v ∧ Q v (upd H2 a (.dK (dropK kvs k)))
def tDPop2 (td ty tx : TE) : TE := fun σ H Q => td σ H fun x H1 => ∃ a, x = .ref a ∧ IsD H1 a ∧ ty σ H1 fun y H2 => tx σ H2 fun z H3 => ∃ kvs k, H3 a = some (.dK kvs) ∧ y = kV k ∧
  (∀ v, valV kvs k = some v → Q v (upd H3 a (.dK (dropK kvs k)))) ∧ (valV kvs k = none → Q z H3)
section
variable {X : Cx} {o e f : Expr} {apos cpos : Pos} {td ty tx : TE}
theorem pe_dget1 (hu : X.A.units + 1 < cLine) (ho : PE X o td) (he : PE X e ty) (m : M1 X o "get" apos e cpos) : PE X (.Call (.Attribute o "get" apos) [e] [] cpos) (tDGet1 td ty) := by
  intro pins s σ H Q I h
  refine wpAny_Call_method m.base m.few m.line PySem.F.plainAttrs_dict PySem.F.slot_dict_get PySem.F.type_dict_get (thn (ho pins s σ H _ I h) fun u s1 ⟨x, H1, I1, rx, a, ex, d, q1⟩ => ?_)
  subst ex
  obtain rfl : u = Value.ref a := rx
  obtain ⟨t1, t2, _⟩ := isD_at I1 d
  refine ⟨t1, t2, ?_⟩
  rw [m.trees]
  refine Calls.callWith_builtin rfl (Calls.evalArgs_plain (Calls.spliced_cons (thn (he pins s1 σ H1 _ I1 q1) fun iv s2 ⟨y, H2, I2, ry, ov, g, q2⟩ => Calls.spliced_nil ?_)))
  exact d_get1 hu I2 g ry fun w' s3 I3 rw' => ⟨_, H2, I3, rw', q2⟩
theorem pe_dget2 (hu : X.A.units + 1 < cLine) (ho : PE X o td) (he : PE X e ty) (hf : PE X f tx) (m : M2 X o "get" apos e f cpos) : PE X (.Call (.Attribute o "get" apos) [e, f] [] cpos) (tDGet2 td ty tx) := by
  intro pins s σ H Q I h
  refine wpAny_Call_method m.base m.few m.line PySem.F.plainAttrs_dict PySem.F.slot_dict_get PySem.F.type_dict_get (thn (ho pins s σ H _ I h) fun u s1 ⟨x, H1, I1, rx, a, ex, d, q1⟩ => ?_)
  subst ex
  obtain rfl : u = Value.ref a := rx
  obtain ⟨t1, t2, _⟩ := isD_at I1 d
  refine ⟨t1, t2, ?_⟩
  rw [m.trees]
  refine Calls.callWith_builtin rfl (Calls.evalArgs_plain (Calls.spliced_cons (thn (he pins s1 σ H1 _ I1 q1) fun iv s2 ⟨y, H2, I2, ry, q2⟩ =>
    Calls.spliced_cons (thn (hf pins s2 σ H2 _ I2 q2) fun fv s3 ⟨z, H3, I3, rz, ov, g, q3⟩ => Calls.spliced_nil ?_))))
  exact d_get2 hu I3 g ry rz fun w' s4 I4 rw' => ⟨_, H3, I4, rw', q3⟩
theorem pe_dpop1 (ho : PE X o td) (he : PE X e ty) (m : M1 X o "pop" apos e cpos) : PE X (.Call (.Attribute o "pop" apos) [e] [] cpos) (tDPop1 td ty) := by
  intro pins s σ H Q I h
  refine wpAny_Call_method m.base m.few m.line PySem.F.plainAttrs_dict PySem.F.slot_dict_pop PySem.F.type_dict_pop (thn (ho pins s σ H _ I h) fun u s1 ⟨x, H1, I1, rx, a, ex, d, q1⟩ => ?_)
  subst ex
  obtain rfl : u = Value.ref a := rx
  obtain ⟨t1, t2, _⟩ := isD_at I1 d
  refine ⟨t1, t2, ?_⟩
  rw [m.trees]
  refine Calls.callWith_builtin rfl (Calls.evalArgs_plain (Calls.spliced_cons (thn (he pins s1 σ H1 _ I1 q1) fun iv s2 ⟨y, H2, I2, ry, kvs, k, v, ea, ey, l, q2⟩ => Calls.spliced_nil ?_)))
  subst ey
  exact d_pop I2 ea ry l (.inl rfl) fun w' s3 I3 rw' => ⟨v, _, I3, rw', q2⟩
theorem pe_dpop2 (ho : PE X o td) (he : PE X e ty) (hf : PE X f tx) (m : M2 X o "pop" apos e f cpos) : PE X (.Call (.Attribute o "pop" apos) [e, f] [] cpos) (tDPop2 td ty tx) := by
  intro pins s σ H Q I h
  refine wpAny_Call_method m.base m.few m.line PySem.F.plainAttrs_dict PySem.F.slot_dict_pop PySem.F.type_dict_pop (thn (ho pins s σ H _ I h) fun u s1 ⟨x, H1, I1, rx, a, ex, d, q1⟩ => ?_)
  subst ex
  obtain rfl : u = Value.ref a := rx
  obtain ⟨t1, t2, _⟩ := isD_at I1 d
  refine ⟨t1, t2, ?_⟩
  rw [m.trees]
  refine Calls.callWith_builtin rfl (Calls.evalArgs_plain (Calls.spliced_cons (thn (he pins s1 σ H1 _ I1 q1) fun iv s2 ⟨y, H2, I2, ry, q2⟩ =>
    Calls.spliced_cons (thn (hf pins s2 σ H2 _ I2 q2) fun fv s3 ⟨z, H3, I3, rz, kvs, k, ea, ey, q3, q4⟩ => Calls.spliced_nil ?_))))
  subst ey
  cases l : valV kvs k with
  | some v => exact d_pop I3 ea ry l (.inr ⟨fv, rfl⟩) fun w' s4 I4 rw' => ⟨v, _, I4, rw', q3 v l⟩
  | none => exact d_popD I3 ea ry l fun s4 I4 => ⟨z, H3, I4, rz, q4 l⟩
end

/-! ### dict(d): a copy -/
section
variable {X : Cx} {pins : List (Addr × Obj)} {σ : St} {H : Hp} {s : Shared} {a : Addr} {kvs : List (Key × V)} {A : Around} {E : Value → Shared → Prop}
theorem d_copyOf {Q : Value → Shared → Prop} (I : Inv X pins σ H s) (e : Rd H a (.dK kvs)) (h : ∀ p s', H p = none → Inv X pins σ (upd H p (.dK kvs)) s' → Q (.ref p) s') : wpAny (model X.prog X.w) A (call (.type "dict") [.ref a]) Q E s := by
  obtain ⟨z, hd, vs, rel, dd⟩ := dk_rd I.hok e
  refine kt_call_dict hd dd (by rw [← rel.length]; exact z) fun h' dd' hs => ?_
  refine h _ _ (I.hok.fresh (Nat.le_refl _)) (I.laid (a := s.heap.objs.size) (o := .dK kvs) (t' := s.toks) (fun b q hq => ?_) (Nat.le_refl _) (dk_new z (beq_eq_false_iff_ne.mpr (Ne.symm (Nat.ne_of_lt I.big))) rel dd'))
  exact (hs.2 b (Nat.ne_of_lt (Heap.lt_size hq))).trans (Heap.get?_push_of_some _ hq)
end


section
variable {X : Cx} {pins : List (Addr × Obj)} {σ : St} {H : Hp} {s : Shared} {a : Addr} {y : V} {u : Value} {A : Around} {E : Value → Shared → Prop}
/-- d[y], not there: a KeyError -/
theorem d_missing {Q : Value → Shared → Prop} (hu : A.units + 1 < cLine) (hh : A.handled = none) (I : Inv X pins σ H s) (g : DGet H a y none) (ry : RelV y u)
    (h : ∀ h' e t', Heap.NewExc s.heap h' e "KeyError" → E (.ref e) { s with heap := h', toks := t' }) : wpAny (model X.prog X.w) A (getItem (.ref a) u) Q E s := by
  rcases g with ⟨kvs, k, e, ey, l⟩ | ⟨kvs, k, b, e, ey, eb, l⟩
  · subst ey
    obtain ⟨z, hd, vs, rel, dd⟩ := dk_rd I.hok e
    have hn : valueAt vs k = none := RelO.none_of (by rw [l]; exact rel.val k)
    exact wpAny_getItem_missing_of (kV_is ry) hd hh dd.mapOf hn fun h' ex ne => h h' ex _ ne
  · subst ey
    cases (show u = Value.ref b from ry)
    obtain ⟨z, hd, xs, rel, dd⟩ := dt_rd I.hok e
    have hn : (atKey xs k).map (·.2) = none := RelO.none_of (by rw [l]; exact rel.val k)
    exact wpAny_getItem_missing_heap (tupleKind_room_in1 hu) (key_of I.hok eb) hd hh dd (Option.map_eq_none_iff.mp hn) fun h' ex ne => h h' ex _ ne
end
end L2

namespace HT
open PySem PyProof.Rows

/-- t < u of tuples of ints -/
def lexLt : List Int → List Int → Bool
  | [], [] => false
  | [], _ :: _ => true
  | _ :: _, [] => false
  | x :: xs, y :: ys => if x = y then lexLt xs ys else decide (x < y)
theorem lexLt_cons (x y : Int) (xs ys : List Int) : lexLt (x :: xs) (y :: ys) = if x = y then lexLt xs ys else decide (x < y) := rfl
theorem lexLt_nil_nil : lexLt [] [] = false := rfl
theorem lexLt_nil_cons (y : Int) (ys : List Int) : lexLt [] (y :: ys) = true := rfl
theorem lexLt_cons_nil (x : Int) (xs : List Int) : lexLt (x :: xs) [] = false := rfl

theorem eqAt_int (A : Around) (s : Shared) (a : Int) (t : Tok) (c : Int) (u : Tok) : ∃ e, SeqAt.EqAt A s (.int a t) (.int c u) e ∧ (e = true ↔ a = c) :=
  ⟨(a == c), SeqAt.EqAt.int_int a t c u, by simp⟩
theorem rcLt_int (A : Around) (s : Shared) (a : Int) (t : Tok) (c : Int) (u : Tok) (prog : Program) (w : World) (E : Value → Shared → Prop) (Q : Value → Shared → Prop) (h : Q (.bool (decide (a < c))) s) :
    wpAny (model prog w) A (richCompare .Lt (.int a t) (.int c u)) Q E s :=
  (PyProof.Rows.lt_int h : wpAny (model prog w) A (compareOp .Lt (.int a t) (.int c u)) Q E s)

section
open PySem.SeqAt
open PySem.AutoSeq1 (wpAny_loadPart')
open PySem.MeetsSeq PySem.MeetsSeq2 PySem.MeetsSeq3

theorem tuple_lt_ints (l b : Addr) (items items2 : Array Value) (n n2 : Nat) (dd dd2 : Option Addr) (sl sl2 : Array (Option Value)) (ns ms : List Int) (hi : IntsAre items.toList ns) (hj : IntsAre items2.toList ms) :
    Meets (Builtin.«tuple.__lt__» ⟨[.ref l, .ref b], []⟩)
      (fun _ R s => s.heap.get? l = some { cls := .type "tuple", dict := dd, data := .seq items n, slots := sl } ∧ s.heap.get? b = some { cls := .type "tuple", dict := dd2, data := .seq items2 n2, slots := sl2 } ∧
        R (.ok (.ret (.bool (lexLt ns ms)))) s) :=
  .of_wp fun prog w A R s h => by
    obtain ⟨hp, g, d, tk, os⟩ := s; obtain ⟨hl, hb, h⟩ := h
    have f2 := AutoSeq1.sub_tuple_tuple
    have z1 : items.size = ns.length := by rw [← hi.length]; simp
    have z2 : items2.size = ms.length := by rw [← hj.length]; simp
    wp_walk using wpAny_loadPart' hl, wpAny_loadPart' hb, wpAny_forIn_list _ (fun rest b s' => b.1 = none ∧ s' = ⟨hp, g, d, tk, os⟩ ∧ ∃ (vs ws : List Value) (ns' ms' : List Int), rest = vs.zip ws ∧
      IntsAre vs ns' ∧ IntsAre ws ms' ∧ ns'.length + items2.size = ms'.length + items.size ∧ R (.ok (.ret (.bool (lexLt ns' ms')))) ⟨hp, g, d, tk, os⟩) _
    case turn =>
      rintro ⟨y, x⟩ rest b s' ⟨hb', rfl, vs, ws, ns', ms', hz, hvi, hwi, hlen, hR⟩
      cases hvi with
      | nil => rw [List.zip_nil_left] at hz; cases hz
      | cons a t hvi' =>
        cases hwi with
        | nil => rw [List.zip_nil_right] at hz; cases hz
        | cons c u hwi' =>
          rw [List.zip_cons_cons] at hz
          injection hz with hyx hrest
          injection hyx with hy hx
          subst hy hx
          rw [lexLt_cons] at hR
          simp only [List.length_cons] at hlen
          obtain ⟨e, he, hiff⟩ := eqAt_int A.in1 ⟨hp, g, d, tk, os⟩ a t c u
          refine wpAny_bind (he prog w _ _ ?_)
          cases e with
          | true =>
            rw [if_pos (hiff.mp rfl)] at hR
            wp_walk
            exact ⟨rfl, rfl, _, _, _, _, hrest, hvi', hwi', by omega, hR⟩
          | false =>
            rw [if_neg (fun q => absurd (hiff.mpr q) Bool.false_ne_true)] at hR
            have hri := rcLt_int A.in1 ⟨hp, g, d, tk, os⟩ a t c u prog w
            wp_walk using hri
            exact ⟨_, rfl, by simpa using hR⟩
    case fin =>
      rintro ⟨b1, b2⟩ s' ⟨hb', rfl, vs, ws, ns', ms', hz, hvi, hwi, hlen, hR⟩
      simp only at hb'
      subst hb'
      have hv : lexLt ns' ms' = decide (items.size < items2.size) := by
        cases hvi with
        | nil =>
          cases hwi with
          | nil =>
            simp only [List.length_nil] at hlen
            rw [lexLt_nil_nil]
            exact (decide_eq_false (by omega)).symm
          | cons c u hw =>
            simp only [List.length_nil, List.length_cons] at hlen
            rw [lexLt_nil_cons]
            exact (decide_eq_true (by omega)).symm
        | cons a t hv =>
          cases hwi with
          | nil =>
            simp only [List.length_nil, List.length_cons] at hlen
            rw [lexLt_cons_nil]
            exact (decide_eq_false (by omega)).symm
          | cons c u hw =>
            rw [List.zip_cons_cons] at hz
            cases hz
      rw [hv] at hR
      wp_walk
      exact ⟨_, rfl, by simpa [Builtin.Tuple.tupleCompareSizes] using hR⟩
    case h =>
      exact ⟨rfl, rfl, items.toList, items2.toList, ns, ms, rfl, hi, hj, by omega, h⟩
end

section
variable {prog : Program} {w : World} {A : Around} {E : Value → Shared → Prop} {s : Shared}

theorem lt_tupInts {l b : Addr} {items items2 : Array Value} {ns ms : List Int} {Q : Value → Shared → Prop} (hl : IsTup s.heap l items) (hb : IsTup s.heap b items2) (hi : IntsAre items.toList ns) (hj : IntsAre items2.toList ms)
    (hu : A.units < cLine) (h : Q (.bool (lexLt ns ms)) s) : wpAny (model prog w) A (compareOp .Lt (.ref l) (.ref b)) Q E s := by
  obtain ⟨⟨cls, dd, data, sl⟩, ho, hc, n, hd⟩ := id hl
  obtain ⟨⟨cls2, dd2, data2, sl2⟩, ho2, hc2, n2, hd2⟩ := id hb
  simp only at hc hd hc2 hd2
  subst hc hd hc2 hd2
  exact richCompare_meets_room (op := .Lt) ⟨_, ho, rfl⟩ ⟨_, ho2, rfl⟩ PySem.F.slot_tuple_lt PySem.F.entry_tuple_lt (PySem.F.args_tuple_lt_2 _ _) (tuple_lt_ints l b items items2 n n2 dd dd2 sl sl2 ns ms hi hj)
    ⟨ho, ho2, show Value.bool (lexLt ns ms) ≠ Value.notImplemented ∧ Q (.bool (lexLt ns ms)) s from ⟨(fun x => nomatch x), h⟩⟩ hu

/-- t + u, t not empty -/
theorem cat_tup {t b : Addr} {vs ws : List Value} {Q : Value → Shared → Prop} (ht : IsTup s.heap t vs.toArray) (hb : IsTup s.heap b ws.toArray) (hv : vs ≠ [])
    (h1 : ws = [] → Q (.ref t) s) (h2 : ws ≠ [] → Q (.ref s.heap.objs.size) { s with heap := s.heap.push { cls := .type "tuple", data := .seq (vs ++ ws).toArray } })
    (hsz : vs.length + ws.length ≤ sizeLine) : wpAny (model prog w) A (binaryOp .Add (.ref t) (.ref b)) Q E s := by
  obtain ⟨⟨cls, dd, data, sl⟩, ho, hc, n, hd⟩ := id ht
  obtain ⟨⟨cls2, dd2, data2, sl2⟩, ho2, hc2, n2, hd2⟩ := id hb
  simp only at hc hd hc2 hd2
  subst hc hd hc2 hd2
  have e : vs.toArray ++ ws.toArray = (vs ++ ws).toArray := by simp
  by_cases hw : ws = []
  · exact concat_meets ⟨_, ho, rfl⟩ ⟨_, ho2, rfl⟩ noFill_tuple_add seq_tuple_add PySem.F.slot_tuple_add PySem.F.entry_tuple_add (PySem.F.args_tuple_add_2 _ _)
      (tuple_addW1 t b vs.toArray ws.toArray n n2 dd dd2 sl sl2 (by simpa using hv) (by simp [hw])) ⟨ho, ho2, h1 hw⟩
  · refine concat_meets ⟨_, ho, rfl⟩ ⟨_, ho2, rfl⟩ noFill_tuple_add seq_tuple_add PySem.F.slot_tuple_add PySem.F.entry_tuple_add (PySem.F.args_tuple_add_2 _ _)
      (tuple_addW2 t b vs.toArray ws.toArray n n2 dd dd2 sl sl2 (by simpa using hv) (by simpa using hw) (by rw [List.size_toArray, List.size_toArray]; exact hsz)) ⟨ho, ho2, ?_⟩
    rw [e]
    exact h2 hw

/-! ### t[a:b], not the whole -/
/-- a slice's bound as a place among n (d where it is left out) -/
def sIx (n d : Nat) : Option Int → Nat
  | none => d
  | some v => if v < 0 then (v + (n : Int)).toNat else min v.toNat n
theorem sIx_none (n d : Nat) : sIx n d none = d := rfl
theorem sIx_nat (n d k : Nat) : sIx n d (some (k : Int)) = min k n := by
  show (if (k : Int) < 0 then ((k : Int) + (n : Int)).toNat else min (k : Int).toNat n) = min k n
  rw [if_neg (by omega), Int.toNat_natCast]
theorem sIx_le (n d : Nat) (hd : d ≤ n) (o : Option Int) : sIx n d o ≤ n := by
  cases o with
  | none => exact hd
  | some v =>
    show (if v < 0 then (v + (n : Int)).toNat else min v.toNat n) ≤ n
    by_cases hv : v < 0
    · rw [if_pos hv]; omega
    · rw [if_neg hv]; exact Nat.min_le_right _ _
theorem clip_eq (v : Int) (n d : Nat) : (if v < 0 then max (v + (n : Int)) 0 else min v (n : Int)) = ((sIx n d (some v) : Nat) : Int) := by
  show (if v < 0 then max (v + (n : Int)) 0 else min v (n : Int)) = (((if v < 0 then (v + (n : Int)).toNat else min v.toNat n) : Nat) : Int)
  by_cases hv : v < 0
  · simp only [if_pos hv]; omega
  · simp only [if_neg hv]; omega
theorem adjust_gen (lo hi : Option Int) (n : Nat) : Builtin.Slice.sliceAdjust lo hi 1 (n : Int) = (((sIx n 0 lo : Nat) : Int), ((sIx n n hi : Nat) : Int)) := by
  have h1 : ¬ ((1 : Int) < 0) := by omega
  unfold Builtin.Slice.sliceAdjust
  simp only [h1, if_false]
  refine Prod.ext ?_ ?_
  · cases lo with
    | none => rfl
    | some v => exact clip_eq v n 0
  · cases hi with
    | none => rfl
    | some v => exact clip_eq v n n
theorem places_gen (i j : Nat) : Builtin.Slice.slicePlaces (i : Int) (j : Int) 1 = j - i := by
  unfold Builtin.Slice.slicePlaces
  have h1 : (1 : Int) > 0 := by omega
  simp only [h1, if_true, Int.ediv_one]
  split <;> omega
theorem slicePart_ {v : Value} {o : Option Int} {Q : Option Int → Shared → Prop} (p : IsPart v o) (h : Q o s) : wpAny (model prog w) A (Builtin.Slice.slicePartIndex v) Q E s := by
  cases p with
  | none => exact slicePart_none h
  | int i t => exact slicePart_int h
theorem sliceApplied_gen {sl : Addr} {vl vu : Value} {lo hi : Option Int} {n : Nat} {Q : Int × Int × Nat → Shared → Prop} (hs : s.heap.IsSliceOf sl vl vu .none) (pl : IsPart vl lo) (pu : IsPart vu hi)
    (h : Q (((sIx n 0 lo : Nat) : Int), 1, sIx n n hi - sIx n 0 lo) s) : wpAny (model prog w) A (Builtin.Slice.sliceApplied (.ref sl) (pure (n : Int))) Q E s := by
  obtain ⟨os, hos, hcs, hds⟩ := id hs
  unfold Builtin.Slice.sliceApplied Builtin.Slice.sliceFields
  refine wpAny_bind (wpAny_bind (wpAny_field hos hds (x := vl) rfl (wpAny_bind (wpAny_field hos hds (x := vu) rfl (wpAny_bind (wpAny_field hos hds (x := .none) rfl (wpAny_pure ?_)))))))
  refine wpAny_bind (slicePart_none ?_)
  show wpAny _ _ (if ((1 : Int) == 0) = true then _ else _) _ _ s
  rw [if_neg (by decide)]
  refine wpAny_bind (slicePart_ pl (wpAny_bind (slicePart_ pu (wpAny_bind (wpAny_pure ?_)))))
  show wpAny _ _ (match Builtin.Slice.sliceAdjust lo hi 1 (n : Int) with | (lo, hi) => pure (lo, (1 : Int), Builtin.Slice.slicePlaces lo hi 1)) _ _ s
  rw [adjust_gen lo hi n]
  show wpAny _ _ (pure (((sIx n 0 lo : Nat) : Int), (1 : Int), Builtin.Slice.slicePlaces ((sIx n 0 lo : Nat) : Int) ((sIx n n hi : Nat) : Int) 1)) _ _ s
  rw [places_gen]
  exact wpAny_pure h
theorem pick_gen (xs : Array Value) (i k : Nat) : ((List.range k).filterMap fun (m : Nat) => xs[((i : Int) + (m : Int) * 1).toNat]?).toArray = ((xs.toList.drop i).take k).toArray := by
  have e : (fun (m : Nat) => xs[((i : Int) + (m : Int) * 1).toNat]?) = fun m => xs[i + m]? := by
    funext m
    have : ((i : Int) + (m : Int) * 1).toNat = i + m := by omega
    rw [this]
  rw [e]
  have := pick_run xs i k
  rw [List.filterMap_map] at this
  have e2 : ((fun x => xs[x]?) ∘ fun x => i + x) = fun m => xs[i + m]? := rfl
  rw [e2] at this
  rw [this]

theorem getItem_tuple_cut {t sl : Addr} {items : Array Value} {vl vu : Value} {lo hi : Option Int} {Q : Value → Shared → Prop} (ht : IsTup s.heap t items) (hs : s.heap.IsSliceOf sl vl vu .none) (pl : IsPart vl lo) (pu : IsPart vu hi)
    (hw : ¬ (sIx items.size 0 lo = 0 ∧ sIx items.size items.size hi = items.size))
    (h : Q (.ref s.heap.objs.size) { s with heap := s.heap.push { cls := .type "tuple", data := .seq ((items.toList.drop (sIx items.size 0 lo)).take (sIx items.size items.size hi - sIx items.size 0 lo)).toArray } })
    (hsz : items.size ≤ sizeLine) : wpAny (model prog w) A (getItem (.ref t) (.ref sl)) Q E s := by
  have htake : sizeOk (.seq ((items.toList.drop (sIx items.size 0 lo)).take (sIx items.size items.size hi - sIx items.size 0 lo)).toArray) := by
    show ((items.toList.drop (sIx items.size 0 lo)).take (sIx items.size items.size hi - sIx items.size 0 lo)).toArray.size ≤ sizeLine
    rw [List.size_toArray, List.length_take, List.length_drop, Array.length_toList]
    omega
  have hj : sIx items.size items.size hi ≤ items.size := sIx_le _ _ (Nat.le_refl _) hi
  obtain ⟨os, hos, hcs, hds⟩ := id hs
  have hTs : s.TypeIs (.ref sl) "slice" := ⟨os, hos, hcs⟩
  unfold getItem
  try with_reducible refine wpAny_holding ?_
  first | refine wpAny_bind (wpAny_pure ?_) | skip
  refine wpAny_bind (wpAny_sequenceKey ht.typeIs (by decide) ?_)
  refine wpAny_bind (wpAny_callSpecial?_slot (name := Str.ofString "__getitem__") ht.typeIs PyProof.Rows.slot_tuple_getitem
    (wpAny_call_entry PyProof.Rows.slot_tuple_getitem ht.typeIs entry_tuple_getitem ?_ (args_tuple_getitem _ _)))
  show wpAny _ _ (Builtin.Tuple.tupleItemsOf (.ref t) >>= _) _ _ s
  refine wpAny_bind (tupleItemsOf_ ht ?_)
  refine wpAny_bind (wpAny_typeOf hTs ?_)
  rw [if_pos (by decide)]
  refine wpAny_bind (sliceApplied_gen hs pl pu ?_)
  have hno : ¬ ((((sIx items.size 0 lo : Nat) : Int) == 0 && (1 : Int) == 1 && (sIx items.size items.size hi - sIx items.size 0 lo) == items.size) = true) := by
    intro q
    rw [Bool.and_eq_true, Bool.and_eq_true] at q
    have q1 : ((sIx items.size 0 lo : Nat) : Int) = 0 := eq_of_beq q.1.1
    have q2 : sIx items.size items.size hi - sIx items.size 0 lo = items.size := eq_of_beq q.2
    exact hw ⟨by omega, by omega⟩
  show wpAny _ _ (if (((sIx items.size 0 lo : Nat) : Int) == 0 && (1 : Int) == 1 && (sIx items.size items.size hi - sIx items.size 0 lo) == items.size) = true then _ else _) _ _ s
  rw [if_neg hno, pick_gen]
  first
    | exact wpAny_bind (m := Builtin.Tuple.tupleExact _) (wpAny_newObj_type (wpAny_pure ⟨_, rfl, wpAny_pure h⟩) htake)
    | exact wpAny_bind (m := Builtin.Tuple.tupleExact _) (wpAny_newObj_type (wpAny_bind (wpAny_pure (wpAny_pure ⟨_, rfl, wpAny_pure h⟩))) htake)
    | exact wpAny_bind (wpAny_bind (m := Builtin.Tuple.tupleExact _) (wpAny_newObj_type (wpAny_pure (wpAny_pure ⟨_, rfl, wpAny_pure h⟩)) htake))
    | exact wpAny_bind (wpAny_bind (m := Builtin.Tuple.tupleExact _) (wpAny_newObj_type (wpAny_pure ⟨_, rfl, wpAny_pure h⟩) htake))
end
end HT

namespace L2
open PySem PySem.Spec PyProof.Rows

/-! ### the parts of a slice -/
abbrev TO := St → Hp → (Option Int → Hp → Prop) → Prop
/-- a slice's part (left out, or an int) -/
def PO (X : Cx) (e : Option Expr) (t : TO) : Prop :=
  ∀ (pins : List (Addr × Obj)) (s : Shared) (σ : St) (H : Hp) (Q : Option Int → Hp → Prop), Inv X pins σ H s → t σ H Q →
    wpAny (model X.prog X.w) X.A (evalPart e X.env) (fun u s' => ∃ o H', Inv X pins σ H' s' ∧ IsPart u o ∧ Q o H') X.xe s
def tNoPart : TO := fun _ H Q => Q none H
def tPart (t : TE) : TO := fun σ H Q => t σ H fun x H1 => ∃ i, x = .int i ∧ Q (some i) H1

theorem intsAre_of {ns : List Int} : ∀ {us : List Value}, Vals (ns.map V.int) us → IntsAre us ns := by
  induction ns with
  | nil => intro us r; rw [List.map_nil] at r; cases r; exact .nil
  | cons n ns ih =>
    intro us r
    rw [List.map_cons] at r
    cases r with
    | cons r1 r2 =>
      obtain ⟨t, e⟩ := r1
      subst e
      exact .cons n t (ih r2)

section
variable {X : Cx} {e : Expr} {te : TE} {lo hi : Option Expr} {tl th : TO} {pos p2 : Pos}

theorem po_none : PO X none tNoPart := by
  intro pins s σ H Q I h
  rw [evalPart_none]
  exact wpAny_pure ⟨none, H, I, .none, h⟩
theorem po_some (h : PE X e te) : PO X (some e) (tPart te) := by
  intro pins s σ H Q I hw
  rw [evalPart_some]
  refine thn (h pins s σ H _ I hw) fun u s1 ⟨x, H1, I1, r1, q1⟩ => ?_
  obtain ⟨i, rfl, q⟩ := q1
  obtain ⟨t, rfl⟩ := r1
  exact ⟨some i, H1, I1, .int i t, q⟩

/-- what a slice of a value is, by values: the slice object stands at sl -/
def SlR (X : Cx) (r : V → Option Int → Option Int → Hp → VK → Prop) : Prop :=
  ∀ (pins : List (Addr × Obj)) (s : Shared) (σ : St) (H : Hp) (x : V) (v vl vu : Value) (lo hi : Option Int) (sl : Addr) (Q : VK), Inv X pins σ H s → RelV x v → s.heap.IsSliceOf sl vl vu .none → IsPart vl lo → IsPart vu hi → r x lo hi H Q →
    ∃ T id, typeLookup (.type T) "__getitem__" = pure (some (.builtin id)) ∧ s.TypeIs v T ∧ wpAny (model X.prog X.w) X.A (getItem v (.ref sl)) (EP X pins σ Q) X.xe s
theorem SlR.or {r r' : V → Option Int → Option Int → Hp → VK → Prop} (h : SlR X r) (h' : SlR X r') : SlR X (fun x lo hi H Q => r x lo hi H Q ∨ r' x lo hi H Q) := by
  intro pins s σ H x v vl vu lo hi sl Q I rx hs pl pu q
  rcases q with q | q
  · exact h pins s σ H x v vl vu lo hi sl Q I rx hs pl pu q
  · exact h' pins s σ H x v vl vu lo hi sl Q I rx hs pl pu q
def tSl (r : V → Option Int → Option Int → Hp → VK → Prop) (te : TE) (tl th : TO) : TE := fun σ H Q => te σ H fun x H1 => tl σ H1 fun l H2 => th σ H2 fun u H3 => r x l u H3 Q
/-- a[lo:hi], any a -/
theorem pe_slice {r : V → Option Int → Option Int → Hp → VK → Prop} (hr : SlR X r) (he : PE X e te) (hl : PO X lo tl) (hu : PO X hi th) : PE X (.Subscript e (.Slice lo hi none p2) pos) (tSl r te tl th) := by
  intro pins s σ H Q I h
  refine Subscript_ (thn (he pins s σ H _ I h) fun v s1 ⟨x, H1, I1, r1, q1⟩ => ?_)
  refine wpAny_Slice (thn (hl pins s1 σ H1 _ I1 q1) fun vl s2 ⟨l, H2, I2, pl, q2⟩ => thn (hu pins s2 σ H2 _ I2 q2) fun vu s3 ⟨u, H3, I3, pu, q3⟩ => ?_)
  rw [evalPart_none]
  refine wpAny_pure ?_
  have I4 : Inv X pins σ H3 { s3 with heap := s3.heap.push { cls := .type "slice", data := .fields #[vl, vu, .none] } } := I3.kept (t' := s3.toks) fun b ob q => Heap.get?_push_of_some _ q
  obtain ⟨T, id, hT, ht, hg⟩ := hr pins { s3 with heap := s3.heap.push { cls := .type "slice", data := .fields #[vl, vu, .none] } } σ H3 x v vl vu l u s3.heap.objs.size Q I4 r1 (Heap.IsSliceOf.new ..) pl pu q3
  show wpAny (model X.prog X.w) X.A (subscriptTail e (.Slice lo hi none p2) v (.ref s3.heap.objs.size)) (EP X pins σ Q) X.xe { s3 with heap := s3.heap.push { cls := .type "slice", data := .fields #[vl, vu, .none] } }
  exact tail_any (ops := [.ref s3.heap.objs.size, v]) ht hT hg (by with_unfolding_all rfl)

/-- the items of xs[lo:hi] -/
def cutV (xs : List V) (lo hi : Option Int) : List V := (xs.drop (HT.sIx xs.length 0 lo)).take (HT.sIx xs.length xs.length hi - HT.sIx xs.length 0 lo)
theorem cutV_length (xs : List V) (lo hi : Option Int) : (cutV xs lo hi).length ≤ xs.length := by
  unfold cutV
  rw [List.length_take, List.length_drop]
  omega
/-- t[lo:hi], not the whole of it (the whole would be t itself) -/
def rSlT (K : PySem.W.Frag) : V → Option Int → Option Int → Hp → VK → Prop := fun x lo hi H Q => ∃ a xs, x = .ref a ∧ SqT K H a xs ∧
  ¬ (HT.sIx xs.length 0 lo = 0 ∧ HT.sIx xs.length xs.length hi = xs.length) ∧ ∀ p, H p = none → Q (.ref p) (upd H p (.tup (cutV xs lo hi)))
theorem sl_tup : SlR X (rSlT X.K) := by
  intro pins s σ H x v vl vu lo hi sl Q I rx hs pl pu h
  obtain ⟨a, xs, rfl, hx, hw, q⟩ := h
  cases rx
  obtain ⟨its, r, ht, hz⟩ := I.tuple hx
  have hlen : its.toArray.size = xs.length := by rw [List.size_toArray]; exact r.length.symm
  refine ⟨"tuple", _, PyProof.Rows.slot_tuple_getitem.lookup, ht.typeIs, ?_⟩
  refine HT.getItem_tuple_cut ht hs pl pu (by rw [hlen]; exact hw) ?_ (by rw [hlen]; exact hz)
  rw [hlen]
  refine ⟨.ref s.heap.objs.size, _, I.laid (t' := s.toks) (o := .tup (cutV xs lo hi)) (fun b ob q => Heap.get?_push_of_some _ q) (Nat.le_refl _) ?_, rfl, q _ (I.hok.fresh (Nat.le_refl _))⟩
  exact ⟨Nat.le_trans (cutV_length xs lo hi) hz, _, (r.drop (HT.sIx xs.length 0 lo)).take (HT.sIx xs.length xs.length hi - HT.sIx xs.length 0 lo), IsTup.new _ _⟩

/-! ### t < u, t + u -/
def rLtT (K : PySem.W.Frag) : R2 := fun x y H Q => ∃ a b ns ms, x = .ref a ∧ y = .ref b ∧ SqT K H a (ns.map V.int) ∧ SqT K H b (ms.map V.int) ∧ Q (.bl (HT.lexLt ns ms)) H
theorem op_ltT (hu : X.A.units < cLine) : OpR X (compareOp .Lt) (rLtT X.K) := by
  intro pins s σ H x y v u Q I rx ry h
  obtain ⟨a, b, ns, ms, rfl, rfl, ha, hb, q⟩ := h
  cases rx
  cases ry
  obtain ⟨its, r1, p1, _⟩ := I.tuple ha
  obtain ⟨its2, r2, p2, _⟩ := I.tuple hb
  have i1 : IntsAre its.toArray.toList ns := intsAre_of r1
  have i2 : IntsAre its2.toArray.toList ms := intsAre_of r2
  exact HT.lt_tupInts p1 p2 i1 i2 hu ⟨.bl (HT.lexLt ns ms), H, I, rfl, q⟩
/-- t + u, t not empty: u empty gives t itself -/
def rCatT (K : PySem.W.Frag) : R2 := fun x y H Q => ∃ a b xs ys, x = .ref a ∧ y = .ref b ∧ SqT K H a xs ∧ SqT K H b ys ∧ xs ≠ [] ∧ xs.length + ys.length ≤ sizeLine ∧
  (ys = [] → Q (.ref a) H) ∧ (ys ≠ [] → ∀ p, H p = none → Q (.ref p) (upd H p (.tup (xs ++ ys))))
theorem Vals.nil_iff {xs : List V} {us : List Value} (r : Vals xs us) : us = [] ↔ xs = [] := by
  cases r with
  | nil => simp
  | cons _ _ => simp
theorem op_catT : OpR X (binaryOp .Add) (rCatT X.K) := by
  intro pins s σ H x y v u Q I rx ry h
  obtain ⟨a, b, xs, ys, rfl, rfl, ha, hb, hx, hz, q1, q2⟩ := h
  cases rx
  cases ry
  obtain ⟨its, r1, p1, _⟩ := I.tuple ha
  obtain ⟨its2, r2, p2, _⟩ := I.tuple hb
  refine HT.cat_tup p1 p2 (fun z => hx (r1.nil_iff.mp z)) (fun z => ⟨.ref a, H, I, rfl, q1 (r2.nil_iff.mp z)⟩) (fun z => ?_) (by rw [← r1.length, ← r2.length]; exact hz)
  refine ⟨.ref s.heap.objs.size, _, I.laid (t' := s.toks) (o := .tup (xs ++ ys)) (fun b ob q => Heap.get?_push_of_some _ q) (Nat.le_refl _) ?_, rfl, q2 (fun w => z (r2.nil_iff.mpr w)) _ (I.hok.fresh (Nat.le_refl _))⟩
  exact ⟨by rw [List.length_append]; exact hz, _, r1.append r2, IsTup.new _ _⟩
/-- tuple(t) -/
theorem call_tupleT : CallR X (.type "tuple") (fun xs H Q => ∃ a ys, xs = [.ref a] ∧ SqT X.K H a ys ∧ Q (.ref a) H) := by
  intro pins s σ H xs us Q I r h
  obtain ⟨a, ys, rfl, ha, q⟩ := h
  obtain ⟨u, rfl, ru⟩ := vals1 r
  cases ru
  obtain ⟨its, _, p1, _⟩ := I.tuple ha
  exact call_tuple_same (items := its.toArray) p1 ⟨.ref a, H, I, rfl, q⟩
end
end L2

namespace L2
open PySem PySem.Spec PyProof.Rows

/-! ### places -/
/-- the place that an index of any sign means -/
def ixN (n : Nat) (i : Int) : Option Nat := if 0 ≤ i then (if i < n then some i.toNat else none) else if -(n : Int) ≤ i then some (i + n).toNat else none
def atI {α : Type} (xs : List α) (i : Int) : Option α := (ixN xs.length i).bind fun j => xs[j]?
theorem ixN_seq {n : Nat} {i : Int} {j : Nat} (h : ixN n i = some j) : seqIndex? i n = some j ∧ j < n ∧ -(n : Int) ≤ i ∧ i < n := by
  unfold ixN at h
  by_cases h0 : 0 ≤ i
  · rw [if_pos h0] at h
    by_cases h1 : i < n
    · rw [if_pos h1] at h
      have e : i.toNat = j := Option.some.inj h
      exact ⟨by rw [seqIndex_of h0 h1, e], by omega, by omega, h1⟩
    · rw [if_neg h1] at h; cases h
  · rw [if_neg h0] at h
    by_cases h1 : -(n : Int) ≤ i
    · rw [if_pos h1] at h
      have e : (i + n).toNat = j := Option.some.inj h
      exact ⟨by rw [seqIndex_neg (by omega) h1, e], by omega, h1, by omega⟩
    · rw [if_neg h1] at h; cases h
theorem atI_get {α : Type} {xs : List α} {i : Int} {v : α} (h : atI xs i = some v) : ∃ j, seqIndex? i xs.length = some j ∧ xs[j]? = some v ∧ j < xs.length ∧ -(xs.length : Int) ≤ i ∧ i < xs.length := by
  unfold atI at h
  cases e : ixN xs.length i with
  | none => rw [e] at h; cases h
  | some j =>
    rw [e] at h
    obtain ⟨h1, h2, h3, h4⟩ := ixN_seq e
    exact ⟨j, h1, h, h2, h3, h4⟩
theorem atI_nat {α : Type} {xs : List α} {j : Nat} {v : α} (h : xs[j]? = some v) : atI xs (j : Int) = some v := by
  have hj : j < xs.length := (List.getElem?_eq_some_iff.mp h).1
  have e : ixN xs.length (j : Int) = some j := by
    unfold ixN
    rw [if_pos (by omega), if_pos (by omega)]; simp
  unfold atI; rw [e]; exact h
theorem atI_last {α : Type} (xs : List α) (v : α) : atI (xs ++ [v]) (-1) = some v := by
  have hl : (xs ++ [v]).length = xs.length + 1 := by simp
  have e : ixN (xs ++ [v]).length (-1) = some xs.length := by
    unfold ixN
    rw [hl, if_neg (by decide), if_pos (by omega)]
    congr 1
    omega
  unfold atI
  rw [e]
  show (xs ++ [v])[xs.length]? = some v
  simp

/-! ### what may be subscripted -/
/-- what stands as an index of a plain subscript -/
def PlainIx (b : Expr) : Prop := ∀ o i, subscripted b false o i = operate [o, i] (getItem o i)
/-- a subscript by values -/
def IxR (X : Cx) (r : R2) : Prop :=
  ∀ (value slice : Expr) (pins : List (Addr × Obj)) (s : Shared) (σ : St) (H : Hp) (x y : V) (v u : Value) (Q : VK), Inv X pins σ H s → RelV x v → RelV y u → r x y H Q →
    subscripted slice false v u = operate [v, u] (getItem v u) → wpAny (model X.prog X.w) X.A (subscriptTail value slice v u) (EP X pins σ Q) X.xe s
/-- a call of a builtin's method by values: the receiver, the arguments -/
def MtR (X : Cx) (id : String) (r : V → List V → Hp → VK → Prop) : Prop :=
  ∀ (pins : List (Addr × Obj)) (s : Shared) (σ : St) (H : Hp) (x : V) (xs : List V) (v : Value) (us : List Value) (Q : VK), Inv X pins σ H s → RelV x v → Vals xs us → r x xs H Q →
    wpAny (model X.prog X.w) X.A (call (.builtin id) (v :: us)) (EP X pins σ Q) X.xe s
section
variable {X : Cx} {a b : Expr} {ta tb : TE} {pos : Pos}
theorem IxR.or {r r' : R2} (h : IxR X r) (h' : IxR X r') : IxR X (fun x y H Q => r x y H Q ∨ r' x y H Q) := by
  intro value slice pins s σ H x y v u Q I rx ry q hs
  rcases q with q | q
  · exact h value slice pins s σ H x y v u Q I rx ry q hs
  · exact h' value slice pins s σ H x y v u Q I rx ry q hs
theorem MtR.or {id : String} {r r' : V → List V → Hp → VK → Prop} (h : MtR X id r) (h' : MtR X id r') : MtR X id (fun x xs H Q => r x xs H Q ∨ r' x xs H Q) := by
  intro pins s σ H x xs v us Q I rx rs q
  rcases q with q | q
  · exact h pins s σ H x xs v us Q I rx rs q
  · exact h' pins s σ H x xs v us Q I rx rs q
/-- a[b] -/
theorem pe_ix {r : R2} (hr : IxR X r) (ha : PE X a ta) (hb : PE X b tb) (hs : PlainIx b) : PE X (.Subscript a b pos) (tOp r ta tb) := by
  intro pins s σ H Q I h
  exact Subscript_ (binT ha hb I h fun v u s2 x y H2 I2 rx ry q => hr a b pins s2 σ H2 x y v u Q I2 rx ry q (hs _ _))

def rIxL (K : PySem.W.Frag) : R2 := fun x y H Q => ∃ p xs i v, x = .ref p ∧ y = .int i ∧ SqL K H p xs ∧ atI xs i = some v ∧ Q v H
def rIxT (K : PySem.W.Frag) : R2 := fun x y H Q => ∃ p xs i v, x = .ref p ∧ y = .int i ∧ SqT K H p xs ∧ atI xs i = some v ∧ Q v H
def rIxS : R2 := fun x y H Q => ∃ z i c, x = .str z ∧ y = .int i ∧ z.length ≤ sizeLine ∧ atI z.cps.toList i = some c ∧ Q (.str ⟨#[c]⟩) H
theorem ix_list : IxR X (rIxL X.K) := by
  intro value slice pins s σ H x y v u Q I rx ry h hs
  obtain ⟨p, xs, i, z, rfl, rfl, hq, he, q⟩ := h
  cases rx
  obtain ⟨t, rfl⟩ := ry
  obtain ⟨its, r, pl, hz⟩ := I.list hq
  obtain ⟨j, h1, h2, h3, h4, h5⟩ := atI_get he
  obtain ⟨w, ew, rw'⟩ := r.get h2
  have hl := r.length
  have hn := line63
  have fin : EP X pins σ Q w s := ⟨z, H, I, rw', q⟩
  by_cases h0 : 0 ≤ i
  · have hj : i.toNat = j := by
      rw [seqIndex_of h0 h5] at h1
      exact Option.some.inj h1
    exact item_listR pl.isList h0 (by omega) (by rw [hj]; simpa using ew) fin hs
  · have hj : (i + (its.toArray.size : Int)).toNat = j := by
      rw [seqIndex_neg (by omega) h4] at h1
      rw [List.size_toArray, ← hl]
      exact Option.some.inj h1
    exact subscriptTail_builtinR (x := w) pl.isList.typeIs slot_list_getitem.lookup
      (wpAny_getItem_list_neg (Q := fun r s' => r = w ∧ EP X pins σ Q r s') pl.isList (by omega) (by rw [List.size_toArray] <;> omega) (by omega) (by rw [hj]; simpa using ew) ⟨rfl, fin⟩) hs
theorem ix_tup : IxR X (rIxT X.K) := by
  intro value slice pins s σ H x y v u Q I rx ry h hs
  obtain ⟨p, xs, i, z, rfl, rfl, hq, he, q⟩ := h
  cases rx
  obtain ⟨t, rfl⟩ := ry
  obtain ⟨its, r, pl, hz⟩ := I.tuple hq
  obtain ⟨j, h1, h2, h3, h4, h5⟩ := atI_get he
  obtain ⟨w, ew, rw'⟩ := r.get h2
  have hl := r.length
  have hn := line63
  have fin : EP X pins σ Q w s := ⟨z, H, I, rw', q⟩
  exact subscriptTail_builtinR (x := w) pl.typeIs slot_tuple_getitem.lookup
    (getItem_tuple (j := j) (Q := fun r s' => r = w ∧ EP X pins σ Q r s') pl (by omega) (by omega) (by rw [List.size_toArray, ← hl]; exact h1) (by simpa using ew) ⟨rfl, fin⟩) hs
theorem ix_str : IxR X rIxS := by
  intro value slice pins s σ H x y v u Q I rx ry h hs
  obtain ⟨z, i, c, rfl, rfl, hz, he, q⟩ := h
  obtain ⟨t, rfl⟩ := rx
  obtain ⟨t', rfl⟩ := ry
  obtain ⟨j, h1, h2, h3, h4, h5⟩ := atI_get he
  have hl : z.cps.toList.length = z.length := by simp [Str.length]
  rw [hl] at h1 h4 h5
  have hn := line63
  exact tail_any (typeIs_str s z t) slot_str_getitem.lookup (getItem_str (c := c) (by
    have e1 : decide (i < -(2 ^ 63 : Int)) = false := decide_eq_false (by omega)
    have e2 : decide (i ≥ 2 ^ 63) = false := decide_eq_false (by omega)
    rw [e1, e2, Bool.or_false]) (by rw [h1]; simpa using h2) ⟨.str ⟨#[c]⟩, H, I.tok _, ⟨_, rfl⟩, q⟩) hs
/-- list, tuple or str -/
def rIx (K : PySem.W.Frag) : R2 := fun x y H Q => rIxL K x y H Q ∨ rIxT K x y H Q ∨ rIxS x y H Q
theorem ix_seq : IxR X (rIx X.K) := ix_list.or (ix_tup.or ix_str)

/-! ### xs[i] = v, any sign -/
/-- the list's object behind a store -/
theorem mapSeq_set (its : List Value) (n j : Nat) (u : Value) : Obj.mapSeq (·.setIfInBounds j u) { cls := .type "list", data := .seq its.toArray n } = { cls := .type "list", data := .seq (its.set j u).toArray n } := by
  simp [Obj.mapSeq]
theorem Inv.lst {pins : List (Addr × Obj)} {σ : St} {H : Hp} {s : Shared} {p : Addr} {xs : List V} (I : Inv X pins σ H s) (h : H p = some (.lst xs)) :
    ∃ (its : List Value) (n : Nat), Vals xs its ∧ s.heap.get? p = some { cls := .type "list", data := .seq its.toArray n } ∧ xs.length ≤ sizeLine := by
  obtain ⟨z, its, n, r, e⟩ := I.hok p _ h
  exact ⟨its, n, r, e, z⟩
/-- the list at p is written by an update of its object -/
theorem Inv.lstUpd {pins : List (Addr × Obj)} {σ : St} {H : Hp} {s : Shared} {p : Addr} {xs ys : List V} {its its' : List Value} {n n' : Nat} {f : Obj → Obj} (I : Inv X pins σ H s) (h : H p = some (.lst xs))
    (ho : s.heap.get? p = some { cls := .type "list", data := .seq its.toArray n }) (hf : f { cls := .type "list", data := .seq its.toArray n } = { cls := .type "list", data := .seq its'.toArray n' }) (r : Vals ys its') (hz : ys.length ≤ sizeLine) (t : Nat) :
    Inv X pins σ (upd H p (.lst ys)) { s with heap := s.heap.update p f, toks := t } := by
  have e : (s.heap.update p f).get? p = some { cls := .type "list", data := .seq its'.toArray n' } := by
    rw [Heap.get?_update_self f ho (by rw [hf] <;> rfl), hf]
  refine I.write (x := p) (e := p) (by rw [h]; trivial) (.inl rfl) (fun b u hb q => (Heap.get?_update_other _ _ (Ne.symm hb)).trans q) ⟨_, e⟩ ?_
  exact ⟨hz, its', n', r, e⟩
def rSetL : V → V → V → Hp → (Hp → Prop) → Prop := fun o i v H Q => ∃ p xs k j, o = .ref p ∧ i = .int k ∧ H p = some (.lst xs) ∧ ixN xs.length k = some j ∧ Q (upd H p (.lst (xs.set j v)))
theorem set_list : PSet X rSetL := by
  intro pins s σ H o i v ov iv u Q I ro ri rv h
  obtain ⟨p, xs, k, j, rfl, rfl, hp, hj, q⟩ := h
  cases ro
  obtain ⟨t, rfl⟩ := ri
  obtain ⟨its, n, r, ho, hz⟩ := I.lst hp
  obtain ⟨h1, h2, h3, h4⟩ := ixN_seq hj
  have hl := r.length
  have hn := line63
  have I' : Inv X pins σ (upd H p (.lst (xs.set j v))) { s with heap := s.heap.update p (Obj.mapSeq (·.setIfInBounds j u)) } :=
    I.lstUpd hp ho (mapSeq_set its n j u) (r.set rv j) (by rw [List.length_set]; exact hz) s.toks
  by_cases h0 : 0 ≤ k
  · have hk : k.toNat = j := by
      rw [seqIndex_of h0 h4] at h1
      exact Option.some.inj h1
    exact PySem.W.ki_setAt ho h0 (by omega) (by rw [List.size_toArray, ← hl]; exact h4) (by rw [hk]; exact ⟨_, I', q⟩)
  · have hk : (k + (its.toArray.size : Int)).toNat = j := by
      rw [seqIndex_neg (by omega) h3] at h1
      rw [List.size_toArray, ← hl]
      exact Option.some.inj h1
    exact PySem.W.ki_setBack ho (by omega) (by rw [List.size_toArray, ← hl]; exact h3) (by omega) (by rw [hk]; exact ⟨_, I', q⟩)

/-! ### slices -/
theorem slice_bounds (lo hi : Option Int) (n : Nat) : (sliceBounds lo hi none n).1 = ((HT.sIx n 0 lo : Nat) : Int) ∧ (sliceBounds lo hi none n).2.1 = ((HT.sIx n n hi : Nat) : Int) ∧ (sliceBounds lo hi none n).2.2 = 1 := by
  refine ⟨?_, ?_, rfl⟩
  · cases lo with
    | none => simp [sliceBounds, HT.sIx]
    | some i =>
      simp only [sliceBounds, HT.sIx, Option.getD_none, show (1 : Int) > 0 by decide, if_true]
      by_cases h : i < 0
      · simp only [h, if_true] <;> omega
      · simp only [h, if_false] <;> omega
  · cases hi with
    | none => simp [sliceBounds, HT.sIx]
    | some i =>
      simp only [sliceBounds, HT.sIx, Option.getD_none, show (1 : Int) > 0 by decide, if_true]
      by_cases h : i < 0
      · simp only [h, if_true] <;> omega
      · simp only [h, if_false] <;> omega
theorem slicePick_cut (its : List Value) (lo hi : Option Int) : slicePick its.toArray lo hi none = ((its.drop (HT.sIx its.length 0 lo)).take (HT.sIx its.length its.length hi - HT.sIx its.length 0 lo)).toArray := by
  obtain ⟨h1, h2, h3⟩ := slice_bounds lo hi its.toArray.size
  unfold slicePick
  rw [h1, h2, h3]
  simp only [sliceRange_one, pick_run, List.size_toArray] <;> rfl
/-- xs[lo:hi] of a list: a new list -/
def rSlL (K : PySem.W.Frag) : V → Option Int → Option Int → Hp → VK → Prop := fun x lo hi H Q => ∃ a xs, x = .ref a ∧ SqL K H a xs ∧ ∀ p, H p = none → Q (.ref p) (upd H p (.lst (cutV xs lo hi)))
theorem sl_list : SlR X (rSlL X.K) := by
  intro pins s σ H x v vl vu lo hi sl Q I rx hs pl pu h
  obtain ⟨a, xs, rfl, hx, q⟩ := h
  cases rx
  obtain ⟨its, r, ht, hz⟩ := I.list hx
  have hlen := r.length
  refine ⟨"list", _, slot_list_getitem.lookup, ht.isList.typeIs, ?_⟩
  refine wpAny_getItem_list_slice ht.isList hs pl pu .none (by simp) ?_ (by rw [List.size_toArray] <;> omega)
  rw [slicePick_cut, ← hlen]
  refine ⟨.ref s.heap.objs.size, _, I.laid (t' := s.toks) (o := .lst (cutV xs lo hi)) (fun b ob q => Heap.get?_push_of_some _ q) (Nat.le_refl _) ?_, rfl, q _ (I.hok.fresh (Nat.le_refl _))⟩
  exact ⟨Nat.le_trans (cutV_length xs lo hi) hz, _, 0, (r.drop (HT.sIx xs.length 0 lo)).take (HT.sIx xs.length xs.length hi - HT.sIx xs.length 0 lo), Heap.get?_push_size _ rfl⟩

/-! ### in, not in: flat items -/
def flatV : V → Bool
  | .non => true
  | .bl _ => true
  | .int _ => true
  | .str _ => true
  | _ => false
/-- == of flat values -/
def eqV : V → V → Bool
  | .non, .non => true
  | .bl a, .bl b => a == b
  | .bl a, .int b => (if a then 1 else 0) == b
  | .int a, .bl b => a == (if b then 1 else 0)
  | .int a, .int b => a == b
  | .str a, .str b => a == b
  | _, _ => false
theorem eqAt_V {A : Around} {s : Shared} {y x : V} {u v : Value} (ry : RelV y u) (rx : RelV x v) (fy : flatV y = true) (fx : flatV x = true) : SeqAt.EqAt A s u v (eqV y x) := by
  cases y with
  | non =>
    cases ry
    cases x with
    | non => cases rx; exact SeqAt.EqAt.same _
    | bl b => cases rx; exact SeqAt.EqAt.none_bool b
    | int b => obtain ⟨t, rfl⟩ := rx; exact SeqAt.EqAt.none_int b t
    | str b => obtain ⟨t, rfl⟩ := rx; exact SeqAt.EqAt.none_str b t
    | _ => exact absurd (show false = true from fx) Bool.false_ne_true
  | bl a =>
    cases ry
    cases x with
    | non => cases rx; exact SeqAt.EqAt.bool_none a
    | bl b => cases rx; exact SeqAt.EqAt.bool_bool a b
    | int b => obtain ⟨t, rfl⟩ := rx; exact SeqAt.EqAt.bool_int a b t
    | str b => obtain ⟨t, rfl⟩ := rx; exact SeqAt.EqAt.bool_str a b t
    | _ => exact absurd (show false = true from fx) Bool.false_ne_true
  | int a =>
    obtain ⟨t', rfl⟩ := ry
    cases x with
    | non => cases rx; exact SeqAt.EqAt.int_none a t'
    | bl b => cases rx; exact SeqAt.EqAt.int_bool a t' b
    | int b => obtain ⟨t, rfl⟩ := rx; exact SeqAt.EqAt.int_int a t' b t
    | str b => obtain ⟨t, rfl⟩ := rx; exact SeqAt.EqAt.int_str a t' b t
    | _ => exact absurd (show false = true from fx) Bool.false_ne_true
  | str a =>
    obtain ⟨t', rfl⟩ := ry
    cases x with
    | non => cases rx; exact SeqAt.EqAt.str_none a t'
    | bl b => cases rx; exact SeqAt.EqAt.str_bool a t' b
    | int b => obtain ⟨t, rfl⟩ := rx; exact SeqAt.EqAt.str_int a t' b t
    | str b => obtain ⟨t, rfl⟩ := rx; exact SeqAt.EqAt.str_str a t' b t
    | _ => exact absurd (show false = true from fx) Bool.false_ne_true
  | _ => exact absurd (show false = true from fy) Bool.false_ne_true
/-- the items' answers, read off the values (a value's own answer does not lean on its token) -/
def eqU (x : V) (u : Value) : Bool := match u with
  | .none => eqV .non x
  | .bool b => eqV (.bl b) x
  | .int i _ => eqV (.int i) x
  | .str z _ => eqV (.str z) x
  | _ => false
theorem eqU_of {x y : V} {u : Value} (r : RelV y u) (f : flatV y = true) : eqU x u = eqV y x := by
  cases y with
  | non => cases r; rfl
  | bl b => cases r; rfl
  | int i => obtain ⟨t, rfl⟩ := r; rfl
  | str z => obtain ⟨t, rfl⟩ := r; rfl
  | _ => exact absurd (show false = true from f) Bool.false_ne_true
theorem any_eqU {x : V} : ∀ {xs : List V} {us : List Value}, Vals xs us → xs.all flatV = true → us.any (eqU x) = xs.any fun y => eqV y x
  | _, _, .nil, _ => rfl
  | y :: xs, u :: us, .cons r t, f => by
    rw [List.all_cons, Bool.and_eq_true] at f
    rw [List.any_cons, List.any_cons, eqU_of r f.1, any_eqU t f.2]
theorem mem_eqAt {A : Around} {s : Shared} {x : V} {v : Value} (rx : RelV x v) (fx : flatV x = true) : ∀ {xs : List V} {us : List Value}, Vals xs us → xs.all flatV = true → ∀ u ∈ us, SeqAt.EqAt A s u v (eqU x u)
  | _, _, .nil, _ => fun u hu => by cases hu
  | y :: xs, u :: us, .cons r t, f => fun u' hu => by
    rw [List.all_cons, Bool.and_eq_true] at f
    rcases List.mem_cons.mp hu with rfl | hu
    · rw [eqU_of r f.1]; exact eqAt_V r rx f.1 fx
    · exact mem_eqAt rx fx t f.2 u' hu
def inV (x : V) (xs : List V) : Bool := xs.any fun y => eqV y x
/-- x in a list or tuple of flat items -/
def rIn (K : PySem.W.Frag) (neg : Bool) : R2 := fun x y H Q => ∃ p xs, y = .ref p ∧ (SqL K H p xs ∨ SqT K H p xs) ∧ flatV x = true ∧ xs.all flatV = true ∧ Q (.bl (if neg then !inV x xs else inV x xs)) H
theorem op_in_seq : OpR X (compareOp .In) (rIn X.K false) := by
  intro pins s σ H x y v u Q I rx ry h
  obtain ⟨p, xs, rfl, hq, fx, fs, q⟩ := h
  cases ry
  rcases hq with hq | hq
  · obtain ⟨its, r, pl, hz⟩ := I.list hq
    refine SeqAt.in_listAt (eqU x) pl.isList (fun w hw => mem_eqAt rx fx r fs w (by simpa using hw)) ⟨.bl _, H, I, rfl, ?_⟩
    rw [show its.toArray.any (eqU x) = its.any (eqU x) by simp, any_eqU r fs]
    exact q
  · obtain ⟨its, r, pl, hz⟩ := I.tuple hq
    refine SeqAt.in_tupleAt (eqU x) pl (fun w hw => mem_eqAt rx fx r fs w (by simpa using hw)) ⟨.bl _, H, I, rfl, ?_⟩
    rw [show its.toArray.any (eqU x) = its.any (eqU x) by simp, any_eqU r fs]
    exact q
theorem op_notIn_seq : OpR X (compareOp .NotIn) (rIn X.K true) := by
  intro pins s σ H x y v u Q I rx ry h
  obtain ⟨p, xs, rfl, hq, fx, fs, q⟩ := h
  cases ry
  rcases hq with hq | hq
  · obtain ⟨its, r, pl, hz⟩ := I.list hq
    refine SeqAt.notIn_listAt (eqU x) pl.isList (fun w hw => mem_eqAt rx fx r fs w (by simpa using hw)) ⟨.bl _, H, I, rfl, ?_⟩
    rw [show its.toArray.any (eqU x) = its.any (eqU x) by simp, any_eqU r fs]
    exact q
  · obtain ⟨its, r, pl, hz⟩ := I.tuple hq
    refine SeqAt.notIn_tupleAt (eqU x) pl (fun w hw => mem_eqAt rx fx r fs w (by simpa using hw)) ⟨.bl _, H, I, rfl, ?_⟩
    rw [show its.toArray.any (eqU x) = its.any (eqU x) by simp, any_eqU r fs]
    exact q
theorem op_notIn_str : OpR X (compareOp .NotIn) (fun x y H Q => ∃ i j, x = .str i ∧ y = .str j ∧ Q (.bl (!(!(Builtin.Str.occurrences j i 0 j.length 1).isEmpty))) H) := by
  intro pins s σ H x y v u Q I rx ry h
  obtain ⟨i, j, rfl, rfl, q⟩ := h
  obtain ⟨t, rfl⟩ := rx
  obtain ⟨t', rfl⟩ := ry
  exact notIn_str ⟨.bl _, H, I, rfl, q⟩

/-! ### len, list(x), tuple(x) of any list or tuple that is read -/
theorem call_len_seq : CallR X (.builtin "len") (fun xs H Q => ∃ p ys, xs = [.ref p] ∧ (SqL X.K H p ys ∨ SqT X.K H p ys) ∧ Q (.int ys.length) H) := by
  intro pins s σ H xs us Q I r h
  obtain ⟨p, ys, rfl, hq, q⟩ := h
  obtain ⟨u, rfl, rx⟩ := vals1 r
  cases rx
  have hn := line63
  rcases hq with hq | hq
  · obtain ⟨its, r', pl, hz⟩ := I.list hq
    have hlen := r'.length
    exact Calls.call_len_list pl.isList (by simp only [List.size_toArray] <;> omega) ⟨.int ys.length, H, I.tok _, ⟨s.toks + 1, by rw [List.size_toArray, hlen]⟩, q⟩
  · obtain ⟨its, r', pl, hz⟩ := I.tuple hq
    have hlen := r'.length
    exact len_tuple pl (by simp only [List.size_toArray] <;> omega) ⟨.int ys.length, H, I.tok _, ⟨s.toks + 1, by rw [List.size_toArray, hlen]⟩, q⟩
theorem call_len_str : CallR X (.builtin "len") (fun xs H Q => ∃ z, xs = [.str z] ∧ z.length ≤ sizeLine ∧ Q (.int z.length) H) := by
  intro pins s σ H xs us Q I r h
  obtain ⟨z, rfl, hz, q⟩ := h
  obtain ⟨u, rfl, t, rfl⟩ := vals1 r
  have hn := line63
  exact len_str (by omega) ⟨.int z.length, H, I.tok _, ⟨_, rfl⟩, q⟩
theorem CallR.or {f : Value} {r r' : List V → Hp → VK → Prop} (h : CallR X f r) (h' : CallR X f r') : CallR X f (fun xs H Q => r xs H Q ∨ r' xs H Q) := by
  intro pins s σ H xs us Q I rs q
  rcases q with q | q
  · exact h pins s σ H xs us Q I rs q
  · exact h' pins s σ H xs us Q I rs q
theorem call_list_of : CallR X (.type "list") (fun xs H Q => ∃ p ys, xs = [.ref p] ∧ (SqL X.K H p ys ∨ SqT X.K H p ys) ∧ ∀ l, H l = none → Q (.ref l) (upd H l (.lst ys))) := by
  intro pins s σ H xs us Q I r h
  obtain ⟨p, ys, rfl, hq, q⟩ := h
  obtain ⟨u, rfl, rx⟩ := vals1 r
  cases rx
  have fin : ∀ (its : List Value), Vals ys its → ys.length ≤ sizeLine → ∀ (h' : Heap) (c' : Nat), (∀ b o', s.heap.get? b = some o' → h'.get? b = some o') →
      h'.get? s.heap.objs.size = some { cls := .type "list", dict := none, data := .seq its.toArray c', slots := #[] } → EP X pins σ Q (.ref s.heap.objs.size) { s with heap := h' } := fun its r' hz h' c' kp e =>
    ⟨.ref s.heap.objs.size, _, I.laid (t' := s.toks) kp (Nat.le_refl _) (show ObjOk X.prog X.w _ h' _ (.lst ys) from ⟨hz, its, c', r', e⟩), rfl, q _ (I.hok.fresh (Nat.le_refl _))⟩
  rcases hq with hq | hq
  · obtain ⟨its, r', pl, hz⟩ := I.list hq
    have hlen := r'.length
    obtain ⟨o, ho, hc, n, hd⟩ := pl.isList
    exact call_list_seq p (.inl rfl) ho hc hd (fun h' c' kp e => fin its r' hz h' c' kp e) (by simp only [List.size_toArray] <;> omega)
  · obtain ⟨its, r', pl, hz⟩ := I.tuple hq
    have hlen := r'.length
    obtain ⟨o, ho, hc, n, hd⟩ := pl
    exact call_list_seq p (.inr rfl) ho hc hd (fun h' c' kp e => fin its r' hz h' c' kp e) (by simp only [List.size_toArray] <;> omega)
theorem call_tuple_of : CallR X (.type "tuple") (fun xs H Q => ∃ p ys, xs = [.ref p] ∧ ((SqL X.K H p ys ∧ ∀ l, H l = none → Q (.ref l) (upd H l (.tup ys))) ∨ (SqT X.K H p ys ∧ Q (.ref p) H))) := by
  intro pins s σ H xs us Q I r h
  obtain ⟨p, ys, rfl, h⟩ := h
  obtain ⟨u, rfl, rx⟩ := vals1 r
  cases rx
  rcases h with ⟨hq, q⟩ | ⟨hq, q⟩
  · obtain ⟨its, r', pl, hz⟩ := I.list hq
    have hlen := r'.length
    refine call_tuple_list pl.isList (fun h' kp => ?_) (by simp only [List.size_toArray] <;> omega)
    have I1 : Inv X pins σ H { s with heap := h' } := I.kept (t' := s.toks) kp
    have I2 : Inv X pins σ (upd H h'.objs.size (.tup ys)) { s with heap := h'.push { cls := .type "tuple", data := .seq its.toArray } } :=
      I1.laid (t' := s.toks) (fun b o e => Heap.get?_push_of_some _ e) (Nat.le_refl _) (show ObjOk X.prog X.w _ _ _ (.tup ys) from ⟨hz, its, r', IsTup.new _ _⟩)
    exact ⟨.ref h'.objs.size, _, I2, rfl, q _ (I1.hok.fresh (Nat.le_refl _))⟩
  · obtain ⟨its, r', pl, hz⟩ := I.tuple hq
    exact call_tuple_same pl ⟨.ref p, H, I, rfl, q⟩

/-! ### the call of a builtin's method: o.m(..) -/
/-- the value is of that builtin type -/
def tyV (K : PySem.W.Frag) (T : String) (x : V) (H : Hp) : Prop := match x with
  | .str _ => T = "str"
  | .int _ => T = "int"
  | .ref p => (T = "list" ∧ ∃ xs, SqL K H p xs) ∨ (T = "tuple" ∧ ∃ o, K.lookup p = some o ∧ o.cls = .type "tuple" ∧ o.dict = none) ∨
      (T = "dict" ∧ ((∃ kvs, H p = some (.dK kvs)) ∨ ∃ kvs, H p = some (.dT kvs))) ∨ (T = "set" ∧ ∃ S n, H p = some (.set S n))
  | _ => False
theorem tyV_is {pins : List (Addr × Obj)} {σ : St} {H : Hp} {s : Shared} {T : String} {x : V} {v : Value} (I : Inv X pins σ H s) (r : RelV x v) (ty : tyV X.K T x H) :
    s.TypeIs v T ∧ ∀ a, v = .ref a → ∃ ob, s.heap.get? a = some ob ∧ ob.dict = none := by
  cases x with
  | str z =>
    obtain ⟨t, rfl⟩ := r
    cases (show T = "str" from ty)
    exact ⟨typeIs_str s z t, fun _ e => nomatch e⟩
  | int i =>
    obtain ⟨t, rfl⟩ := r
    cases (show T = "int" from ty)
    exact ⟨typeIs_int s i t, fun _ e => nomatch e⟩
  | ref p =>
    cases r
    rcases ty with ⟨rfl, xs, hq⟩ | ⟨rfl, o, hk, hc, hd⟩ | ⟨rfl, hk⟩ | ⟨rfl, S, n, hk⟩
    · obtain ⟨its, _, pl, _⟩ := I.list hq
      refine ⟨pl.isList.typeIs, fun a e => ?_⟩
      cases e
      obtain ⟨o, n, e, c, hd, _⟩ := pl
      exact ⟨o, e, hd⟩
    · refine ⟨⟨o, I.kIn p o hk, hc⟩, fun a e => ?_⟩
      cases e
      exact ⟨o, I.kIn _ o hk, hd⟩
    · have z : ∃ o, s.heap.get? p = some o ∧ o.ExactDict := by
        rcases hk with ⟨kvs, hk⟩ | ⟨kvs, hk⟩
        · obtain ⟨_, _, _, _, o, _, _, e, ex, _⟩ := I.hok p _ hk
          exact ⟨o, e, ex⟩
        · obtain ⟨_, _, _, _, o, _, _, e, ex, _⟩ := I.hok p _ hk
          exact ⟨o, e, ex⟩
      obtain ⟨o, e, ex⟩ := z
      refine ⟨⟨o, e, ex.1⟩, fun a e2 => ?_⟩
      cases e2
      exact ⟨o, e, ex.2.1⟩
    · obtain ⟨o, _, _, _, e, ex, _⟩ := I.hok p _ hk
      refine ⟨⟨o, e, ex.1⟩, fun a e2 => ?_⟩
      cases e2
      exact ⟨o, e, ex.2.1⟩
  | _ => exact False.elim ty
def tBM0 (K : PySem.W.Frag) (T : String) (r : V → List V → Hp → VK → Prop) (to : TE) : TE := fun σ H Q => to σ H fun x H1 => tyV K T x H1 ∧ r x [] H1 Q
def tBM (K : PySem.W.Frag) (T : String) (r : V → List V → Hp → VK → Prop) (to : TE) (t : TA) : TE := fun σ H Q => to σ H fun x H1 => tyV K T x H1 ∧ t σ H1 fun xs H2 => r x xs H2 Q
variable {o e : Expr} {es : List Expr} {to : TE} {t : TA} {name : Str} {apos cpos : Pos} {T id : String} {r : V → List V → Hp → VK → Prop}
theorem pe_bm0 (pa : PlainAttrs T) (slot : Slot T name id) (hty : typeOf (.builtin id) = pure (.type "method_descriptor")) (hm : MtR X id r) (ho : PE X o to)
    (hbase : attributeBase o name X.env (eval o X.env) = eval o X.env := by rfl) (hline : (apos.endLine == cpos.line) = true := by rfl) : PE X (.Call (.Attribute o name apos) [] [] cpos) (tBM0 X.K T r to) := by
  intro pins s σ H Q I h
  refine wpAny_Call_method0_late hbase hline (thn (ho pins s σ H _ I h) fun v s1 ⟨x, H1, I1, r1, ty, q1⟩ => ?_)
  obtain ⟨h1, h2⟩ := tyV_is I1 r1 ty
  exact ⟨T, id, pa, slot, hty, h1, h2, Calls.callWith_builtin rfl (PySem.evalArgs_none (hm pins s1 σ H1 x [] v [] Q I1 r1 .nil q1))⟩
theorem pe_bm (pa : PlainAttrs T) (slot : Slot T name id) (hty : typeOf (.builtin id) = pure (.type "method_descriptor")) (hm : MtR X id r) (ho : PE X o to) (ha : PA X (e :: es) t)
    (hbase : attributeBase o name X.env (eval o X.env) = eval o X.env := by rfl)
    (hfew : ((backTo cpos (starEach (e :: es) X.env)).all (fun x => !x.1) && (backToKw cpos (keywordEach [] X.env)).all (fun x => x.1.isSome)
      && decide ((e :: es).length + ([] : List Keyword).length + (if ([] : List Keyword).isEmpty then 0 else 1) < 30)) = true := by rfl)
    (hline : (apos.endLine == cpos.line) = true := by rfl) (hs : starEach (e :: es) X.env = (false, eval e X.env) :: starEach es X.env := by rfl) (hplain : (backTo cpos (starEach es X.env)).any (·.1) = false := by rfl) :
    PE X (.Call (.Attribute o name apos) (e :: es) [] cpos) (tBM X.K T r to t) := by
  intro pins s σ H Q I h
  refine wpAny_Call_method_late hbase hfew hline rfl (thn (ho pins s σ H _ I h) fun v s1 ⟨x, H1, I1, r1, ty, q1⟩ => ?_)
  obtain ⟨h1, h2⟩ := tyV_is I1 r1 ty
  refine ⟨T, id, pa, slot, hty, h1, h2, ?_⟩
  have hA := ha cpos pins s1 σ H1 _ I1 q1
  rw [hs] at hA ⊢
  refine Calls.callWith_builtin (by show (false || (backTo cpos (starEach es X.env)).any (·.1)) = false; rw [hplain] <;> rfl) (Calls.evalArgs_plain ?_)
  exact thn hA fun us s2 ⟨vs, H2, I2, r2, q2⟩ => hm pins s2 σ H2 x vs v us Q I2 r1 r2 q2
/- xs.append(e), list.index on a module's tuple .. are MtR facts of 06m -/
end
end L2

namespace L2
open PySem PySem.Spec PyProof.Rows

def MtM (X : Cx) (id : String) (r : V → List V → Hp → VK → Prop) : Prop :=
  ∀ (pins : List (Addr × Obj)) (s : Shared) (σ : St) (H : Hp) (x : V) (xs : List V) (v : Value) (us : List Value) (Q : VK), Inv X pins σ H s → RelV x v → Vals xs us → r x xs H Q →
    wpAny (model X.prog X.w) X.A (call (.builtin id) (v :: us)) (EP X pins σ Q) X.xe s

/-! ### lists of values -/
theorem Vals.one : ∀ {x : V} {us : List Value}, Vals [x] us → ∃ u, us = [u] ∧ RelV x u
  | _, _, .cons r .nil => ⟨_, rfl, r⟩
theorem Vals.two : ∀ {x y : V} {us : List Value}, Vals [x, y] us → ∃ u v, us = [u, v] ∧ RelV x u ∧ RelV y v
  | _, _, _, .cons r (.cons q .nil) => ⟨_, _, rfl, r, q⟩
theorem Vals.zero : ∀ {us : List Value}, Vals [] us → us = []
  | _, .nil => rfl
theorem Vals.dropLast {xs : List V} {us : List Value} (h : Vals xs us) : Vals xs.dropLast us.dropLast := by
  induction h with
  | nil => exact .nil
  | cons r t ih =>
    cases t with
    | nil => exact .nil
    | cons q t' => exact .cons r ih
theorem Vals.eraseIdx : ∀ {xs : List V} {us : List Value} (i : Nat), Vals xs us → Vals (xs.eraseIdx i) (us.eraseIdx i)
  | _, _, _, .nil => .nil
  | _, _, 0, .cons _ t => t
  | _, _, i + 1, .cons r t => .cons r (Vals.eraseIdx i t)
theorem Vals.reverse {xs : List V} {us : List Value} (h : Vals xs us) : Vals xs.reverse us.reverse := by
  induction h with
  | nil => exact .nil
  | cons r t ih => rw [List.reverse_cons, List.reverse_cons]; exact Vals.append ih (.cons r .nil)
theorem Vals.rep {xs : List V} {us : List Value} (h : Vals xs us) : ∀ k : Nat, Vals (List.replicate k xs).flatten (List.replicate k us).flatten
  | 0 => .nil
  | k + 1 => by
    rw [List.replicate_succ, List.replicate_succ, List.flatten_cons, List.flatten_cons]
    exact Vals.append h (Vals.rep h k)
theorem erase_last {α : Type} (l : List α) : l.eraseIdx (l.length - 1) = l.dropLast := by
  induction l with
  | nil => rfl
  | cons a r ih =>
    cases r with
    | nil => rfl
    | cons b r =>
      have e : (a :: b :: r).length - 1 = ((b :: r).length - 1) + 1 := by
        have h1 : (a :: b :: r).length = r.length + 2 := rfl
        have h2 : (b :: r).length = r.length + 1 := rfl
        omega
      rw [e, List.eraseIdx_cons_succ, ih]
      all_goals rfl
theorem len_erase {α : Type} : ∀ (l : List α) (i : Nat), (l.eraseIdx i).length ≤ l.length
  | [], _ => Nat.le_refl _
  | _ :: _, 0 => Nat.le_succ _
  | _ :: r, i + 1 => Nat.succ_le_succ (len_erase r i)
theorem foldl_rep (its : List Value) : ∀ (k : Nat) (acc : List Value),
    List.foldl (fun x1 x2 => x1 ++ x2) acc.toArray (List.replicate k its.toArray) = (acc ++ (List.replicate k its).flatten).toArray
  | 0, acc => by simp
  | k + 1, acc => by
    have e : acc.toArray ++ its.toArray = (acc ++ its).toArray := by simp
    have e2 : (acc ++ its) ++ (List.replicate k its).flatten = acc ++ (List.replicate (k + 1) its).flatten := by
      rw [List.replicate_succ, List.flatten_cons, List.append_assoc]
    rw [← e2, ← foldl_rep its k (acc ++ its), ← e, List.replicate_succ, List.foldl_cons]

section
variable {X : Cx} {pins : List (Addr × Obj)} {σ : St} {H : Hp} {s : Shared} {l b : Addr} {xs ys zs : List V}

/-! ### the two steps: a tracked list is rewritten, a new list is laid -/
theorem Inv.lset {its its' : List Value} {n : Nat} {f : Array Value → Array Value} {t' : Nat} (I : Inv X pins σ H s) (hH : H l = some (.lst xs))
    (e : s.heap.get? l = some { cls := .type "list", data := .seq its.toArray n }) (hf : f its.toArray = its'.toArray) (hv : Vals ys its') (hz : ys.length ≤ sizeLine) :
    Inv X pins σ (upd H l (.lst ys)) { s with heap := s.heap.update l (Obj.mapSeq f), toks := t' } := by
  have q := PySem.IsL.update e f
  rw [hf] at q
  refine I.write (x := l) (e := l) (by rw [hH]; exact trivial) (.inl rfl) (fun b' u hb hu => (Heap.get?_update_other s.heap (Obj.mapSeq f) (Ne.symm hb)).trans hu) ⟨_, q⟩ ?_
  exact ⟨hz, its', _, hv, q⟩
theorem Inv.lnew {its : List Value} {t' : Nat} (I : Inv X pins σ H s) (hv : Vals ys its) (hz : ys.length ≤ sizeLine) :
    Inv X pins σ (upd H s.heap.objs.size (.lst ys)) { s with heap := s.heap.push { cls := .type "list", data := .seq its.toArray }, toks := t' } :=
  I.laid (fun _ _ q => Heap.get?_push_of_some _ q) (Nat.le_refl _) ⟨hz, its, 0, hv, Heap.get?_push_size _ rfl⟩
theorem Inv.fresh (I : Inv X pins σ H s) : H s.heap.objs.size = none := I.hok.fresh (Nat.le_refl _)
theorem Inv.lstM (I : Inv X pins σ H s) (hH : H l = some (.lst xs)) : xs.length ≤ sizeLine ∧ ∃ (its : List Value) (n : Nat), Vals xs its ∧ xs.length = its.length ∧ s.heap.get? l = some { cls := .type "list", data := .seq its.toArray n } := by
  obtain ⟨z, its, n, r, e⟩ := I.hok l _ hH
  exact ⟨z, its, n, r, r.length, e⟩

theorem notLongL {n : Nat} (h : n ≤ sizeLine) : Builtin.List.listTooLong n = false := by
  unfold Builtin.List.listTooLong
  exact decide_eq_false (by omega)
end

section
variable {X : Cx}

/-! ### methods -/
def rAppend : V → List V → Hp → VK → Prop := fun x vs H Q => ∃ l xs y, x = .ref l ∧ vs = [y] ∧ H l = some (.lst xs) ∧ xs.length < sizeLine ∧ Q .non (upd H l (.lst (xs ++ [y])))
theorem mt_append : MtM X "list.append" rAppend := by
  intro pins s σ H x vs v us Q I rx rv h
  obtain ⟨l, xs, y, rfl, rfl, hH, hz, q⟩ := h
  cases rx
  obtain ⟨u, rfl, ru⟩ := rv.one
  obtain ⟨z, its, n, r, hl, e⟩ := I.lstM hH
  refine call_meets F.slot_list_append ⟨_, e, rfl⟩ F.entry_list_append (F.args_list_append_2 _ _) (PySem.list_append l its.toArray n u (by rw [List.size_toArray]; omega)) ⟨e, ?_⟩
  refine ⟨.non, _, I.lset (its' := its ++ [u]) hH e (by simp) (r.append (.cons ru .nil)) ?_, rfl, q⟩
  rw [List.length_append, List.length_singleton]
  omega

def rExtend : V → List V → Hp → VK → Prop := fun x vs H Q => ∃ l b xs zs, x = .ref l ∧ vs = [.ref b] ∧ H l = some (.lst xs) ∧ H b = some (.lst zs) ∧ xs.length + zs.length ≤ sizeLine ∧ Q .non (upd H l (.lst (xs ++ zs)))
theorem mt_extend : MtM X "list.extend" rExtend := by
  intro pins s σ H x vs v us Q I rx rv h
  obtain ⟨l, b, xs, zs, rfl, rfl, hH, hB, hz, q⟩ := h
  cases rx
  obtain ⟨u, rfl, ru⟩ := rv.one
  cases ru
  obtain ⟨z, its, n, r, hl, e⟩ := I.lstM hH
  obtain ⟨z2, its2, n2, r2, hl2, e2⟩ := I.lstM hB
  have hsz : its.toArray.size + its2.toArray.size ≤ sizeLine := by rw [List.size_toArray, List.size_toArray]; omega
  have hlong : ¬ (!its.toArray.isEmpty && Builtin.List.listTooLong (its.toArray.size + its2.toArray.size)) = true := by
    rw [notLongL hsz, Bool.and_false]
    exact Bool.false_ne_true
  refine call_meets F.slot_list_extend ⟨_, e, rfl⟩ F.entry_list_extend (F.args_list_extend_2 _ _)
    (AutoSeq1.list_extend_list_list_0 l its.toArray n b its2.toArray n2 hlong (by rw [List.size_toArray]; omega) (by omega)) ⟨e, e2, ?_⟩
  refine ⟨.non, _, I.lset (its' := its ++ its2) hH e (by simp) (r.append r2) ?_, rfl, q⟩
  rw [List.length_append]
  omega

def rPop : V → List V → Hp → VK → Prop := fun x vs H Q => ∃ l xs y, x = .ref l ∧ vs = [] ∧ H l = some (.lst xs) ∧ xs[xs.length - 1]? = some y ∧ Q y (upd H l (.lst xs.dropLast))
theorem mt_pop : MtM X "list.pop" rPop := by
  intro pins s σ H x vs v us Q I rx rv h
  obtain ⟨l, xs, y, rfl, rfl, hH, hy, q⟩ := h
  cases rx
  have hus := rv.zero
  subst hus
  obtain ⟨z, its, n, r, hl, e⟩ := I.lstM hH
  obtain ⟨u, hu, ru⟩ := r.get hy
  have hy' : its.toArray[its.toArray.size - 1]? = some u := by
    show its.toArray[its.length - 1]? = some u
    rw [← Array.getElem?_toList, ← hl]
    exact hu
  refine call_meets F.slot_list_pop ⟨_, e, rfl⟩ F.entry_list_pop (F.args_list_pop_1 _) (MeetsSeq.list_pop_last l its.toArray n u hy' (by rw [List.size_toArray]; omega)) ⟨e, ?_⟩
  refine ⟨y, _, I.lset (its' := its.dropLast) hH e ?_ r.dropLast ?_, ru, q⟩
  · show its.toArray.eraseIdxIfInBounds (its.toArray.size - 1) = its.dropLast.toArray
    rw [List.size_toArray, List.eraseIdxIfInBounds_toArray, erase_last]
  · rw [List.length_dropLast]
    omega

def rPopAt : V → List V → Hp → VK → Prop := fun x vs H Q => ∃ l xs i k y, x = .ref l ∧ vs = [.int i] ∧ H l = some (.lst xs) ∧ -(2 ^ 63) ≤ i ∧ i < 2 ^ 63 ∧ seqIndex? i xs.length = some k ∧ xs[k]? = some y ∧ Q y (upd H l (.lst (xs.eraseIdx k)))
theorem mt_popAt : MtM X "list.pop" rPopAt := by
  intro pins s σ H x vs v us Q I rx rv h
  obtain ⟨l, xs, i, k, y, rfl, rfl, hH, h1, h2, hk, hy, q⟩ := h
  cases rx
  obtain ⟨u, rfl, ru⟩ := rv.one
  obtain ⟨t, rfl⟩ := ru
  obtain ⟨z, its, n, r, hl, e⟩ := I.lstM hH
  obtain ⟨w, hw, rw'⟩ := r.get hy
  refine call_meets F.slot_list_pop ⟨_, e, rfl⟩ F.entry_list_pop (F.args_list_pop_2 _ _)
    (MeetsSeq.list_pop_at l its.toArray n i t k w (fitsIndex_both h1 h2) (by rw [List.size_toArray, ← hl]; exact hk) (by rw [← Array.getElem?_toList]; exact hw) (by rw [List.size_toArray]; omega)) ⟨e, ?_⟩
  refine ⟨y, _, I.lset (its' := its.eraseIdx k) hH e ?_ (r.eraseIdx k) ?_, rw', q⟩
  · show its.toArray.eraseIdxIfInBounds k = (its.eraseIdx k).toArray
    rw [List.eraseIdxIfInBounds_toArray]
  · have := len_erase xs k
    omega

def rReverse : V → List V → Hp → VK → Prop := fun x vs H Q => ∃ l xs, x = .ref l ∧ vs = [] ∧ H l = some (.lst xs) ∧ Q .non (upd H l (.lst xs.reverse))
theorem mt_reverse : MtM X "list.reverse" rReverse := by
  intro pins s σ H x vs v us Q I rx rv h
  obtain ⟨l, xs, rfl, rfl, hH, q⟩ := h
  cases rx
  have hus := rv.zero
  subst hus
  obtain ⟨z, its, n, r, hl, e⟩ := I.lstM hH
  refine call_meets F.slot_list_reverse ⟨_, e, rfl⟩ F.entry_list_reverse (F.args_list_reverse_1 _) (AutoSeq1.list_reverse_list_0 l its.toArray n (by rw [List.size_toArray]; omega)) ⟨e, ?_⟩
  refine ⟨.non, _, I.lset (its' := its.reverse) hH e (by simp) r.reverse ?_, rfl, q⟩
  rw [List.length_reverse]
  omega

def rClear : V → List V → Hp → VK → Prop := fun x vs H Q => ∃ l xs, x = .ref l ∧ vs = [] ∧ H l = some (.lst xs) ∧ Q .non (upd H l (.lst []))
theorem mt_clear : MtM X "list.clear" rClear := by
  intro pins s σ H x vs v us Q I rx rv h
  obtain ⟨l, xs, rfl, rfl, hH, q⟩ := h
  cases rx
  have hus := rv.zero
  subst hus
  obtain ⟨z, its, n, r, hl, e⟩ := I.lstM hH
  refine call_meets F.slot_list_clear ⟨_, e, rfl⟩ F.entry_list_clear (F.args_list_clear_1 _) (AutoSeq1.list_clear_list_0 l its.toArray n (by rw [List.size_toArray]; omega)) ⟨e, ?_⟩
  exact ⟨.non, _, I.lset (its' := []) (ys := []) hH e rfl .nil (Nat.zero_le _), rfl, q⟩

/-! ### list + list, list += list, list * int -/
def rCat : R2 := fun x y H Q => ∃ l b xs zs, x = .ref l ∧ y = .ref b ∧ H l = some (.lst xs) ∧ H b = some (.lst zs) ∧ xs.length + zs.length ≤ sizeLine ∧ ∀ p, H p = none → Q (.ref p) (upd H p (.lst (xs ++ zs)))
theorem op_cat : OpR X (binaryOp .Add) rCat := by
  intro pins s σ H x y v u Q I rx ry h
  obtain ⟨l, b, xs, zs, rfl, rfl, hH, hB, hz, q⟩ := h
  cases rx
  cases ry
  obtain ⟨z, its, n, r, hl, e⟩ := I.lstM hH
  obtain ⟨z2, its2, n2, r2, hl2, e2⟩ := I.lstM hB
  refine PySem.P.add_list e e2 ?_ (by rw [List.size_toArray, List.size_toArray]; omega)
  have ea : its.toArray ++ its2.toArray = (its ++ its2).toArray := by simp
  rw [ea]
  exact ⟨.ref _, _, I.lnew (t' := s.toks) (r.append r2) (by rw [List.length_append]; omega), rfl, q _ I.fresh⟩
/-- a list times an int (a negative one is nothing) -/
def rRep : R2 := fun x y H Q => ∃ l k xs, x = .ref l ∧ y = .int k ∧ H l = some (.lst xs) ∧ -(2 ^ 63) ≤ k ∧ k < 2 ^ 63 ∧ xs.length * k.toNat ≤ sizeLine ∧
  ∀ p, H p = none → Q (.ref p) (upd H p (.lst (List.replicate k.toNat xs).flatten))
theorem len_rep {α : Type} (xs : List α) (k : Nat) : (List.replicate k xs).flatten.length = k * xs.length := by
  induction k with
  | zero => simp
  | succ k ih => rw [List.replicate_succ, List.flatten_cons, List.length_append, ih, Nat.succ_mul, Nat.add_comm]
theorem op_rep : OpR X (binaryOp .Mult) rRep := by
  intro pins s σ H x y v u Q I rx ry h
  obtain ⟨l, k, xs, rfl, rfl, hH, h1, h2, hz, q⟩ := h
  cases rx
  obtain ⟨t, rfl⟩ := ry
  obtain ⟨z, its, n, r, hl, e⟩ := I.lstM hH
  have hlen : its.toArray.size * k.toNat ≤ sizeLine := by rw [List.size_toArray, ← hl]; exact hz
  have hcap : ¬ its.toArray.size * k.toNat > (2 ^ 63 - 1) / 8 := by
    have : (sizeLine : Nat) ≤ (2 ^ 63 - 1) / 8 := by decide
    omega
  have hfit : ¬ (!Builtin.List.listFitsIndex k) = true := by
    rw [fitsIndex_both h1 h2]
    exact Bool.false_ne_true
  have hlong : ¬ Builtin.List.listTooLong (its.toArray.size * k.toNat) = true := by
    rw [notLongL hlen]
    exact Bool.false_ne_true
  have hnew : List.foldl (fun x1 x2 => x1 ++ x2) #[] (List.replicate (if its.toArray.isEmpty = true then 0 else k.toNat) its.toArray) = (List.replicate k.toNat its).flatten.toArray := by
    have f0 : ∀ m : Nat, List.foldl (fun x1 x2 => x1 ++ x2) #[] (List.replicate m its.toArray) = (List.replicate m its).flatten.toArray := fun m => by
      have := foldl_rep its m []
      rw [List.nil_append] at this
      exact this
    rw [f0]
    cases its with
    | nil => simp
    | cons a r' => rw [if_neg (by simp)]
  refine wpAny_binaryOp_repeat_ref (T := "list") (U := "int") (by decide) ⟨_, e, rfl⟩ (fun s' => typeIs_int s' k t) noFill_list_mul F.fills_int_mul F.slot_int_rmul repeat_list F.slot_int_index.lookup
    (call_meets F.slot_int_rmul (typeIs_int s k t) F.entry_int_rmul (F.args_int_rmul_2 _ _) (int___rmul___int_list k t l its.toArray n)
      ⟨e, rfl, ⟨_, e, rfl⟩, call_meets F.slot_list_mul ⟨_, e, rfl⟩ F.entry_list_mul (F.args_list_mul_2 _ _) (AutoListH.list___mul___list_int_3 l its.toArray n k t hfit hcap hlong) ⟨e, ?_⟩⟩)
  rw [hnew]
  exact ⟨.ref _, _, I.lnew (t' := s.toks) (r.rep k.toNat) (by rw [len_rep, Nat.mul_comm]; exact hz), rfl, q _ I.fresh⟩

/-! ### del xs[i] -/
theorem del_list {pins : List (Addr × Obj)} {s : Shared} {σ : St} {H : Hp} {l : Addr} {xs : List V} {i : Int} {t : Tok} {k : Nat} {Q : Unit → Shared → Prop} (I : Inv X pins σ H s) (hH : H l = some (.lst xs))
    (h1 : -(2 ^ 63) ≤ i) (h2 : i < 2 ^ 63) (hk : seqIndex? i xs.length = some k) (h : ∀ s', Inv X pins σ (upd H l (.lst (xs.eraseIdx k))) s' → Q () s') :
    wpAny (model X.prog X.w) X.A (delItem (.ref l) (.int i t)) Q X.xe s := by
  obtain ⟨z, its, n, r, hl, e⟩ := I.lstM hH
  refine PySem.P.delItem_list (k := k) e (fitsIndex_both h1 h2) (by rw [List.size_toArray, ← hl]; exact hk) (h _ ?_) (by rw [List.size_toArray]; omega)
  refine I.lset (its' := its.eraseIdx k) (t' := s.toks) hH e ?_ (r.eraseIdx k) ?_
  · show its.toArray.eraseIdxIfInBounds k = (its.eraseIdx k).toArray
    rw [List.eraseIdxIfInBounds_toArray]
  · have := len_erase xs k
    omega
end

/-! ### xs[a:b] = ys -/
section
variable {prog : Program} {w : World} {A : Around} {E : Value → Shared → Prop} {s : Shared}
theorem splice_eq (its its2 : List Value) (a c : Nat) : its.toArray.extract 0 a ++ its2.toArray ++ its.toArray.extract c its.toArray.size = (its.take a ++ its2 ++ its.drop c).toArray := by
  apply Array.toList_inj.mp
  first
    | (simp
       exact List.take_of_length_le (by simp))
    | simp [List.take_of_length_le]
    | simp
theorem bounds_run {a c n : Nat} (hac : a ≤ c) (hc : c ≤ n) : sliceBounds (some (a : Int)) (some (c : Int)) none n = ((a : Int), (c : Int), 1) := by
  simp only [sliceBounds, Option.getD_none]
  have h1 : ¬ ((a : Int) < 0) := by omega
  have h2 : ¬ ((c : Int) < 0) := by omega
  simp only [h1, h2, if_false, show (1 : Int) > 0 by decide, if_true]
  congr 1
  · omega
  · congr 1; omega
set_option maxRecDepth 100000 in
/-- list.__setitem__ with a slice of step one and another list -/
theorem setItem_slice {l b sl : Addr} {items new : Array Value} {n n2 : Nat} {vl vu : Value} {a c : Nat} {Q : Unit → Shared → Prop}
    (e : s.heap.get? l = some { cls := .type "list", data := .seq items n }) (e2 : s.heap.get? b = some { cls := .type "list", data := .seq new n2 }) (hne : l ≠ b)
    (hs : s.heap.IsSliceOf sl vl vu .none) (pl : IsPart vl (some (a : Int))) (pu : IsPart vu (some (c : Int))) (hac : a ≤ c) (hc : c ≤ items.size)
    (hsz : items.size + new.size ≤ sizeLine) (h : Q () { s with heap := s.heap.update l (Obj.mapSeq fun xs => xs.extract 0 a ++ new ++ xs.extract c xs.size) }) :
    wpAny (model prog w) A (setItem (.ref l) (.ref sl) (.ref b)) Q E s := by
  have hl : s.heap.IsList l items := PySem.IsL.isList e
  have hb : s.heap.IsList b new := PySem.IsL.isList e2
  obtain ⟨os, hos, hcs, hds⟩ := id hs
  have hTs : s.TypeIs (.ref sl) "slice" := ⟨os, hos, hcs⟩
  have hstep : ¬ ((rawPart none == rawInt 0) = true) := Bool.false_ne_true
  have hsame : Builtin.List.listSameRef (.ref l) (.ref b) = false := by
    unfold Builtin.List.listSameRef
    exact beq_eq_false_iff_ne.mpr hne
  have hmax : (max (a : Int) (c : Int)).toNat = c := by omega
  have hz' : ((fun xs : Array Value => xs.extract 0 a ++ new ++ xs.extract c xs.size) items).size ≤ sizeLine + 1 := by
    simp only [Array.size_append, Array.size_extract]
    omega
  unfold setItem
  try with_reducible refine wpAny_holding ?_
  first | refine wpAny_bind (wpAny_pure ?_) | skip
  refine wpAny_bind (wpAny_sequenceKey hl.typeIs (by decide) ?_)
  refine wpAny_bind (wpAny_callSpecial?_slot (name := Str.ofString "__setitem__") hl.typeIs slot_list_setitem
    (wpAny_call_entry slot_list_setitem hl.typeIs entry_list_setitem ?_ (args_list_setitem _ _ _)))
  show wpAny _ _ (Builtin.List.listSubscript? (.ref sl) >>= _) _ _ s
  refine wpAny_bind ?_
  unfold Builtin.List.listSubscript?
  refine wpAny_bind (wpAny_specialOf hTs slice_no_index ?_)
  simp only [Option.isNone_none, if_true]
  refine wpAny_pure ?_
  show wpAny _ _ (typeOf (.ref sl) >>= _) _ _ s
  refine wpAny_bind (wpAny_typeOf hTs ?_)
  first
    | rw [if_neg (by decide)]
    | refine PySem.W.KFB.if_not (by decide) ?_
  rw [listSliceParts_eq]
  refine wpAny_bind (wpAny_bind (wpAny_field hos hds (x := .none) rfl (wpAny_bind (wpAny_listPart .none ?_))))
  rw [if_neg hstep]
  refine wpAny_bind (wpAny_field hos hds (x := vl) rfl (wpAny_bind (wpAny_listPart pl ?_)))
  refine wpAny_bind (wpAny_field hos hds (x := vu) rfl (wpAny_bind (wpAny_listPart pu (wpAny_pure ?_))))
  first
    | simp only [hsame, Bool.false_eq_true, if_false]
    | refine PySem.W.KFB.if_not hsame ?_
    | (dsimp only
       rw [if_neg (by rw [hsame]; exact Bool.false_ne_true)])
  refine wpAny_bind (m := Builtin.List.listAllItems (.ref b) "must assign iterable to extended slice") ?_
  unfold Builtin.List.listAllItems
  refine wpAny_bind (wpAny_typeOf hb.typeIs ?_)
  first
    | refine PySem.W.KFB.if_so (by decide) ?_
    | rw [if_pos (by decide)]
    | simp only [beq_self_eq_true, Bool.true_or, if_true]
  unfold Builtin.List.listItems
  refine wpAny_bind (wpAny_seqItems e2 rfl (wpAny_pure ?_))
  refine wpAny_bind (wpAny_bind (wpAny_seqItems e rfl (wpAny_pure ?_)))
  refine wpAny_bind (wpAny_of_eq ((sliceIndices_raw (some (a : Int)) (some (c : Int)) none items.size (by simp)).trans (congrArg (pure : Int × Int × Int → Sem (Int × Int × Int)) (bounds_run hac hc))) ?_)
  show wpAny _ _ (if ((1 : Int) == 1) = true then _ else _) _ _ s
  rw [if_pos (by decide)]
  refine wpAny_bind (wpAny_rule ?_)
  first
    | simp only [notLongL hsz, Bool.false_eq_true, if_false]
    | refine PySem.W.KFB.if_not (notLongL hsz) ?_
  first | refine wpAny_bind (wpAny_pure ?_) | skip
  show wpAny _ _ (updateSeq l (fun xs => xs.extract 0 ((a : Int)).toNat ++ new ++ xs.extract (max (a : Int) (c : Int)).toNat xs.size) >>= _) _ _ s
  rw [hmax, Int.toNat_natCast]
  refine wpAny_bind (wpAny_updateSeq (hz := Nat.le_trans (Nat.le_add_right _ _) hsz) (_hz' := hz') e rfl ?_)
  refine wpAny_bind (wpAny_letGo ?_)
  first
    | exact wpAny_bind (wpAny_pure (wpAny_pure ⟨.none, rfl, wpAny_pure h⟩))
    | exact wpAny_pure ⟨.none, rfl, wpAny_pure h⟩
end

section
variable {X : Cx}
/-- xs[a:c] = ys of another list, at the value level: sl is the slice object that was just made -/
theorem set_slice {pins : List (Addr × Obj)} {s : Shared} {σ : St} {H : Hp} {l b sl : Addr} {xs ys : List V} {a c : Int} {vl vu : Value} {Q : Unit → Shared → Prop} (I : Inv X pins σ H s)
    (hH : H l = some (.lst xs)) (hB : H b = some (.lst ys)) (hne : l ≠ b) (hs : s.heap.IsSliceOf sl vl vu .none) (ra : RelV (.int a) vl) (rc : RelV (.int c) vu) (h0 : 0 ≤ a) (hac : a ≤ c) (hc : c ≤ xs.length)
    (hz : xs.length + ys.length ≤ sizeLine) (h : ∀ s', Inv X pins σ (upd H l (.lst (xs.take a.toNat ++ ys ++ xs.drop c.toNat))) s' → Q () s') :
    wpAny (model X.prog X.w) X.A (setItem (.ref l) (.ref sl) (.ref b)) Q X.xe s := by
  obtain ⟨ta, rfl⟩ := ra
  obtain ⟨tc, rfl⟩ := rc
  obtain ⟨z, its, n, r, hl, e⟩ := I.lstM hH
  obtain ⟨z2, its2, n2, r2, hl2, e2⟩ := I.lstM hB
  obtain ⟨a', rfl⟩ := Int.eq_ofNat_of_zero_le h0
  obtain ⟨c', rfl⟩ := Int.eq_ofNat_of_zero_le (Int.le_trans h0 hac)
  simp only [Int.toNat_natCast] at h
  refine setItem_slice (a := a') (c := c') e e2 hne hs (.int _ _) (.int _ _) (by omega) (by rw [List.size_toArray]; omega) (by rw [List.size_toArray, List.size_toArray]; omega) (h _ ?_)
  refine I.lset (its' := its.take a' ++ its2 ++ its.drop c') (t' := s.toks) hH e ?_ (Vals.append (Vals.append (r.take _) r2) (r.drop _)) ?_
  · exact splice_eq its its2 a' c'
  · rw [List.length_append, List.length_append, List.length_take, List.length_drop]
    omega
end
end L2

namespace Att
open PySem PySem.W PySem.Calls PyProof.Rows

/-! ### the script -/
theorem ints_of_wellAll {P : Params} {h : Heap} : ∀ (ns : List Int) (vs : List Value), WellAll P h vs (ns.map WData.int) → IntsAre vs ns := by
  intro ns
  induction ns with
  | nil =>
    intro vs w
    rw [List.map_nil] at w
    cases w
    exact .nil
  | cons n ns ih =>
    intro vs w
    rw [List.map_cons] at w
    cases w with
    | cons a b =>
      cases a
      exact .cons _ _ (ih _ b)

theorem script_of {l : OpenLaw} {n : Nat} (hn : l.most = some n) {P : Params} {h : Heap} {args : List WData} {vals : List Value}
    (hpre : l.row.toRowW.claim.pre args = true) (hwl : WellAll P h vals args) :
    ∃ a vs ns, vals = [Value.ref a] ∧ args = [WData.list (ns.map WData.int)] ∧ h.get? a = some { cls := .type "list", data := .seq vs.toArray } ∧ IntsAre vs ns ∧ ns.length ≤ n := by
  have hsh : WShape.hasAll [] args [.list .int] = true := (pre_splitW hpre).1
  have hc : l.pre.holds [] { args := args } = true := (pre_splitW hpre).2
  obtain ⟨d, r, rfl, h1, h2⟩ := hasAllW_cons hsh
  obtain rfl := hasAllW_nil h2
  obtain ⟨xs, rfl, h3⟩ := hasW_list h1
  obtain ⟨ns, rfl⟩ := items_int h3
  have hlen : ns.length ≤ n := by
    unfold OpenLaw.pre at hc
    have h4 : (WTm.not (.lt (.lit (.int (n : Int))) (.len (.arg 0)))).holds [] { args := [.list (ns.map .int)] } = true := by
      have h4 := (holds_andW hc).1
      rw [hn] at h4
      exact h4
    have h5 := condW_of h4 (w_not (w_lt w_lit (w_len_list (w_arg rfl))))
    rw [List.length_map] at h5
    refine Nat.le_of_not_lt fun q => ?_
    have q' : (n : Int) < ((ns.length : Nat) : Int) := by omega
    first
      | (rw [decide_eq_true q'] at h5; exact absurd h5 (by decide))
      | (simp at h5; omega)
  cases hwl with
  | cons w1 w2 =>
    cases w2
    cases w1 with
    | list ho hall => exact ⟨_, _, ns, rfl, rfl, ho, ints_of_wellAll ns _ hall, hlen⟩

theorem post_true (l : OpenLaw) (args : List WData) : l.row.toRowW.claim.post args (.bool true) args = true :=
  postW_of (r := l.row.toRowW) (X := (true == true))
    (show WShape.has [] (.bool true) .bool = true by first | rfl | decide | simp [WShape.has, WShape.arms, WShape.armsAll])
    (show (WTm.eq .res (.lit (.bool true))).value [] { args := args, res := some (.bool true), after := args } = some (.bool (true == true)) from w_eq_bool (w_res rfl) w_lit) rfl

/-! ### the attachment: holds_open's last premise (the goal 'hc' behind k_head) from a wpAny of the law's body -/
theorem attach {l : OpenLaw} {n : Nat} {q : Program} {loose : List Str} {XP : (Str → Option Value) → Heap → Prop} {YP : World → Heap → Prop} {d : DefRec} {x : Str}
    (hn : l.most = some n) (hdf : d.params.defaults = [])
    (hbind : ∀ pm cd doc v : Value, bindArgs (docDef d.name d.params d.body d.scope pm cd doc) ⟨[v], []⟩ = pure [(x, v)])
    (hx : d.scope.names.lookup x = some .local ∨ d.scope.names.lookup x = some .cell)
    (hk : d.scope.kind = .function) (hco : d.scope.isCoroutine = false) (hgen : d.scope.isGenerator = false)
    (body : ∀ (w : World) (s₀ s₁ s : Shared) (mg mb : Str → Option Value) (fa : Addr) (o : Obj) (pm cd doc : Value) (a : Addr) (vs : List Value) (ns : List Int),
      Ground q loose [] XP w s₀ mg mb s₁.heap → YP w s₁.heap →
      s₁.heap.get? fa = some o → o.data = .func (docDef d.name d.params d.body d.scope pm cd doc) → s₁.heap.CodeRec cd d.name → mg d.name = some (.ref fa) →
      s₁.heap.get? a = some { cls := .type "list", data := .seq vs.toArray } → IntsAre vs ns → ns.length ≤ n →
      s.gens = #[] → s.os = s₁.os →
      Fr s₁.heap s₁.heap.objs.size s.heap (bindL (envOfC d.name d.scope s₁.heap.objs.size fa cd).kindOf [(x, .ref a)] fun _ => none) →
      Cl s₁.heap.objs.size (cellsFrom (s₁.heap.objs.size + 1) d.scope.names []) s.heap (bindC (envOfC d.name d.scope s₁.heap.objs.size fa cd).kindOf [(x, .ref a)] fun _ => none) →
      wpAny (model l.prog w) (callerA.deeper (envOfC d.name d.scope s₁.heap.objs.size fa cd)) (execs d.body (envOfC d.name d.scope s₁.heap.objs.size fa cd))
        (fun f s' => f = .ret (.bool true) ∧ OldK s₁.heap s'.heap ∧ s'.os = s₁.os ∧ AllBare s'.gens) (fun _ _ => False) s) :
    WalkO q loose XP YP l.row.toRowW d [] (fun f vs => PySem.call f vs) := by
  intro w s₀ s₁ mg mb G Y fa o pm cd doc dV kV ho hd hcd hD hmg hg args vals as hpre hlay hrd hwl hlo
  obtain rfl : dV = .none := Dflts.none hD hdf
  obtain rfl : kV = .none := Dflts.noKw hD
  obtain ⟨a, vs, ns, rfl, rfl, hobj, hints, hlen⟩ := script_of hn hpre hwl
  refine enter_call ?_
  refine call_cells_ret (o := o) (by rw [depth_caller]; decide) ho (fd_plain hd) G.T.nolimit hcd (hbind pm cd doc (.ref a)) (fun y hy => ?_) (fun h₁ tk F X => ?_) hco hgen hk
  · obtain rfl : y = (x, Value.ref a) := List.mem_singleton.mp hy
    rcases hx with e | e
    · exact .inl e
    · exact .inr ⟨e, cellsFrom_some _ _ _ (.inl e)⟩
  · refine wpAny_mono (body w s₀ s₁ { s₁ with heap := h₁, toks := tk } mg mb fa o pm cd doc a vs ns G Y ho (fd_plain hd) hcd hmg hobj hints hlen hg rfl F X) (fun f s' hq => ?_) (fun _ _ hq => hq)
    obtain ⟨rfl, h2, h3, h4⟩ := hq
    exact ⟨.inl ⟨.bool true, .bool true, [], rfl, fun _ => rfl, .bool true, post_true l _, fun _ => ⟨List.Pairwise.nil, fun _ hm => (nomatch hm)⟩⟩, h2, h3, h4⟩

/-- the same from a codeAny of the CALL (for a layer whose function contracts speak of calls) -/
theorem attach_call {l : OpenLaw} {n : Nat} {q : Program} {loose : List Str} {XP : (Str → Option Value) → Heap → Prop} {YP : World → Heap → Prop} {d : DefRec}
    (hn : l.most = some n) (hdf : d.params.defaults = [])
    (call : ∀ (w : World) (s₀ s₁ : Shared) (mg mb : Str → Option Value) (fa : Addr) (o : Obj) (pm cd doc : Value) (a : Addr) (vs : List Value) (ns : List Int),
      Ground q loose [] XP w s₀ mg mb s₁.heap → YP w s₁.heap →
      s₁.heap.get? fa = some o → o.data = .func (docDef d.name d.params d.body d.scope pm cd doc) → s₁.heap.CodeRec cd d.name → mg d.name = some (.ref fa) →
      s₁.heap.get? a = some { cls := .type "list", data := .seq vs.toArray } → IntsAre vs ns → ns.length ≤ n → s₁.gens = #[] →
      codeAny (model l.prog w) callerA (.call (.ref fa) ⟨[.ref a], []⟩) (fun r s' => r = .ok (.ret (.bool true)) ∧ OldK s₁.heap s'.heap ∧ s'.os = s₁.os ∧ AllBare s'.gens) s₁) :
    WalkO q loose XP YP l.row.toRowW d [] (fun f vs => PySem.call f vs) := by
  intro w s₀ s₁ mg mb G Y fa o pm cd doc dV kV ho hd hcd hD hmg hg args vals as hpre hlay hrd hwl hlo
  obtain rfl : dV = .none := Dflts.none hD hdf
  obtain rfl : kV = .none := Dflts.noKw hD
  obtain ⟨a, vs, ns, rfl, rfl, hobj, hints, hlen⟩ := script_of hn hpre hwl
  refine enter_call (codeAny_mono (call w s₀ s₁ mg mb fa o pm cd doc a vs ns G Y ho (fd_plain hd) hcd hmg hobj hints hlen hg) fun r s' hq => ?_)
  obtain ⟨rfl, h2, h3, h4⟩ := hq
  exact ⟨.inl ⟨.bool true, .bool true, [], rfl, fun _ => rfl, .bool true, post_true l _, fun _ => ⟨List.Pairwise.nil, fun _ hm => (nomatch hm)⟩⟩, h2, h3, h4⟩

/-- the same where the top left finished generators (o_head chose holds_openN): nothing may have changed at all and no generator may be left -/
theorem attachN {l : OpenLaw} {n : Nat} {q : Program} {loose : List Str} {XP : (Str → Option Value) → Heap → Prop} {YP : World → Heap → Prop} {d : DefRec} {x : Str}
    (hn : l.most = some n) (hdf : d.params.defaults = [])
    (hbind : ∀ pm cd doc v : Value, bindArgs (docDef d.name d.params d.body d.scope pm cd doc) ⟨[v], []⟩ = pure [(x, v)])
    (hx : d.scope.names.lookup x = some .local ∨ d.scope.names.lookup x = some .cell)
    (hk : d.scope.kind = .function) (hco : d.scope.isCoroutine = false) (hgen : d.scope.isGenerator = false)
    (body : ∀ (w : World) (s₀ s₁ s : Shared) (mg mb : Str → Option Value) (fa : Addr) (o : Obj) (pm cd doc : Value) (a : Addr) (vs : List Value) (ns : List Int),
      Ground q loose [] XP w s₀ mg mb s₁.heap → YP w s₁.heap →
      s₁.heap.get? fa = some o → o.data = .func (docDef d.name d.params d.body d.scope pm cd doc) → s₁.heap.CodeRec cd d.name → mg d.name = some (.ref fa) →
      s₁.heap.get? a = some { cls := .type "list", data := .seq vs.toArray } → IntsAre vs ns → ns.length ≤ n →
      s.gens = #[] → s.os = s₁.os →
      Fr s₁.heap s₁.heap.objs.size s.heap (bindL (envOfC d.name d.scope s₁.heap.objs.size fa cd).kindOf [(x, .ref a)] fun _ => none) →
      Cl s₁.heap.objs.size (cellsFrom (s₁.heap.objs.size + 1) d.scope.names []) s.heap (bindC (envOfC d.name d.scope s₁.heap.objs.size fa cd).kindOf [(x, .ref a)] fun _ => none) →
      wpAny (model l.prog w) (callerA.deeper (envOfC d.name d.scope s₁.heap.objs.size fa cd)) (execs d.body (envOfC d.name d.scope s₁.heap.objs.size fa cd))
        (fun f s' => f = .ret (.bool true) ∧ (∀ b o, s₁.heap.get? b = some o → s'.heap.get? b = some o) ∧ s'.os = s₁.os ∧ s'.gens = #[]) (fun _ _ => False) s) :
    WalkN q loose XP YP l.row.toRowW d [] (fun f vs => PySem.call f vs) := by
  intro w s₀ s₁ mg mb G Y fa o pm cd doc dV kV ho hd hcd hD hmg hg args vals as hpre hlay hrd hwl hlo
  obtain rfl : dV = .none := Dflts.none hD hdf
  obtain rfl : kV = .none := Dflts.noKw hD
  obtain ⟨a, vs, ns, rfl, rfl, hobj, hints, hlen⟩ := script_of hn hpre hwl
  refine enter_callW ?_
  refine call_cells_ret (o := o) (by rw [depth_caller]; decide) ho (fd_plain hd) G.T.nolimit hcd (hbind pm cd doc (.ref a)) (fun y hy => ?_) (fun h₁ tk F X => ?_) hco hgen hk
  · obtain rfl : y = (x, Value.ref a) := List.mem_singleton.mp hy
    rcases hx with e | e
    · exact .inl e
    · exact .inr ⟨e, cellsFrom_some _ _ _ (.inl e)⟩
  · refine wpAny_mono (body w s₀ s₁ { s₁ with heap := h₁, toks := tk } mg mb fa o pm cd doc a vs ns G Y ho (fd_plain hd) hcd hmg hobj hints hlen hg rfl F X) (fun f s' hq => ?_) (fun _ _ hq => hq)
    obtain ⟨rfl, h2, h3, h4⟩ := hq
    exact ⟨.inl ⟨.bool true, .bool true, [], rfl, fun _ => rfl, .bool true, post_true l _, fun _ => ⟨List.Pairwise.nil, fun _ hm => (nomatch hm)⟩⟩, h2, h3, h4⟩

/-! ### rules over ANY heap (no ledger) from facts about the written part K: the library's own take a ledger (News) for what they write -/
section
variable {prog : Program} {w : World} {A : Around} {E : Value → Shared → Prop} {s : Shared} {K : Frag}

/-- a def of the module, or a method (qual 'C.m'), entered: the frame is the next address; cells behind it -/
theorem call_fn {R : Result → Shared → Prop} {name qual : Str} {params : Arguments} {body : List Stmt} {scope : Scope} {dV kV doc pm cdv ct oc : Value} {an od : Option Addr} {osl : Array (Option Value)} {f : Addr} {args : Args} {binds : List (Str × Value)}
    (X : K.In s.heap) (hlim : s.heap.NoLimit) (ho : K.lookup f = some ⟨oc, od, .func (fnOf name qual params body scope dV kV doc pm an cdv ct), osl⟩) (hcd : codeIn K cdv qual = true) (hroom : A.depth < recursionLimit)
    (hbind : BindsTo s (fnOf name qual params body scope dV kV doc pm an cdv ct) args binds)
    (hkind : (binds.all fun y => scope.names.lookup y.1 == some .local || scope.names.lookup y.1 == some .cell) = true)
    (h : ∀ s₁, InCallC s s.heap.objs.size (bindL (envOfC qual scope s.heap.objs.size f cdv).kindOf binds fun _ => none) (cellsFrom (s.heap.objs.size + 1) scope.names [])
        (bindC (envOfC qual scope s.heap.objs.size f cdv).kindOf binds fun _ => none) s₁ →
      wpAny (model prog w) (A.deeper (envOfC qual scope s.heap.objs.size f cdv)) (execs body (envOfC qual scope s.heap.objs.size f cdv))
        (fun fl s' => R (.ok (.ret (match fl with | .ret v => v | _ => .none))) s')
        (fun e s' => wpAny (model prog w) (A.deeper (envOfC qual scope s.heap.objs.size f cdv)) (leaving (envOfC qual scope s.heap.objs.size f cdv) e) (fun _ s'' => R (.error e) s'') (fun e' s'' => R (.error e') s'') s') s₁)
    (hco : scope.isCoroutine = false) (hgen : scope.isGenerator = false) (hk : scope.kind = .function) : codeAny (model prog w) A (.call (.ref f) args) R s := by
  refine codeAny_call_function hroom (X _ _ ho) rfl hco hgen rfl (codeRec_of X hcd) (hbind _ _ _ _ ?_)
  refine wpAny_newFunctionEnv_cells hk (kindsX hkind _) fun env he s₁ x => ?_
  subst he
  exact ⟨hlim.keeps x.toInCall.keep, codeAny_func (h s₁ x)⟩

/-- C(..): dict at size, instance at size + 1, then __init__ -/
theorem make_obj {R : Result → Shared → Prop} {C fI : Addr} {rest : List Value} {kw : List (Str × Value)}
    (X : K.In s.heap) (hm : makesIn K C = true) (hi : findIn K (.ref C) "__init__" = some (some (.ref fI))) (hf : isFn K (.ref fI) = true)
    (h : codeAny (model prog w) (A.under (.builtin "type.__call__" ⟨.ref C :: rest, kw⟩)) (.call (.ref fI) ⟨.ref (s.heap.objs.size + 1) :: rest, kw⟩) (InitBack (s.heap.objs.size + 1) R)
      { s with heap := (s.heap.push emptyDict).push (instObj C s.heap.objs.size) }) : codeAny (model prog w) A (.call (.ref C) ⟨rest, kw⟩) R s := by
  obtain ⟨hh, g, d, t, os⟩ := s
  exact make_core (makes_of X hm) (looks_findIn X hi) (fun self => bind_fn X self (beq_iff_eq.mp hf)) (.inl rfl) h

/-- x.name where the instance's dict holds the name and the class does not -/
theorem get_field {x C : Addr} {ox : Obj} {es : List DictEntry} {n : Nat} {name : Str} {expr : Bool} {v : Value} {Q : Value → Shared → Prop}
    (X : K.In s.heap) (I : PySem.W.InstAt s.heap x ox C (some (dictOf es n))) (hg : plainGet K C name = true) (hh : hasDictIn K C = true) (ha : findIn K (.ref C) name = some none)
    (hl : getL name es = some (some v)) (hv : handedIn v = true) (h : Q v { s with toks := s.toks + 1 }) : wpAny (model prog w) A (getAttr (.ref x) name expr) Q E s :=
  get_value X I (plainGet_of hg).1 (findObj_own hh ha rfl hl) hv h

/-- x.m(..): the method found in the class -/
theorem get_method {x C f : Addr} {ox : Obj} {es : List DictEntry} {n : Nat} {name : Str} {pl : Sem Bool} {Q : Value × List Value → Shared → Prop}
    (X : K.In s.heap) (I : PySem.W.InstAt s.heap x ox C (some (dictOf es n))) (hg : plainGet K C name = true) (hf : findIn K (.ref C) name = some (some (.ref f))) (ht : isFn K (.ref f) = true)
    (hl : getL name es = some none) (h : Q (.ref f, [.ref x]) s) : wpAny (model prog w) A (getMethod (.ref x) name pl) Q E s :=
  method_fn X I (plainGet_of hg).1 (plainGet_of hg).2 hf (beq_iff_eq.mp ht) (by show (lookIn name (dictOf es n)).map _ = _; rw [lookIn_dict, hl]; rfl) h

/-! the whole heap as the ledger: makes every rule that writes through a ledger a rule over any heap -/
def noObjs (h : Heap) : Heap := { h with objs := #[] }
theorem noObjs_get (h : Heap) (b : Addr) : (noObjs h).get? b = none := by
  cases e : (noObjs h).get? b with
  | none => rfl
  | some o => exact absurd (Heap.lt_size e) (Nat.not_lt_zero _)
def ledger (h : Heap) (L d : Addr) : List (Addr × Obj) := (List.range h.objs.size).filterMap fun a => if a = L ∨ a = d then none else (h.get? a).map fun o => (a, o)
theorem mem_ledger {h : Heap} {L d a : Addr} {o : Obj} : (a, o) ∈ ledger h L d ↔ a ≠ L ∧ a ≠ d ∧ h.get? a = some o := by
  unfold ledger
  rw [List.mem_filterMap]
  constructor
  · rintro ⟨b, _, e⟩
    split at e
    · cases e
    · rename_i hb
      obtain ⟨o', ho, e'⟩ := Option.map_eq_some_iff.mp e
      cases e'
      exact ⟨fun q => hb (.inl q), fun q => hb (.inr q), ho⟩
  · rintro ⟨n1, n2, ho⟩
    refine ⟨a, List.mem_range.mpr (Heap.lt_size ho), ?_⟩
    rw [if_neg (show ¬ (a = L ∨ a = d) from fun q => q.elim n1 n2), ho] <;> rfl
theorem news_ledger {h : Heap} {L d : Addr} {od : Obj} (hne : d ≠ L) (ho : h.get? d = some od) : News (noObjs h) L h ([] ++ (d, od) :: ledger h L d) := by
  rintro ⟨a, o⟩ hp
  rcases List.mem_cons.mp hp with e | hp
  · cases e
    exact ⟨ho, hne, noObjs_get _ _⟩
  · obtain ⟨n1, n2, e⟩ := mem_ledger.mp hp
    exact ⟨e, n1, noObjs_get _ _⟩
theorem fr_all {h : Heap} {L : Addr} {m : Str → Option Value} (n : h.Ns L m) : Fr (noObjs h) L h m :=
  ⟨n, fun b o e => (by rw [noObjs_get] at e; cases e), Nat.zero_le _⟩
/-- Upd of the head entry (for append_K, setItem_K ..) -/
theorem upd_ledger {h : Heap} {L d : Addr} {o o' : Obj} : Upd d o o' ((d, o) :: ledger h L d) ((d, o') :: ledger h L d) :=
  .head fun ⟨_, _⟩ hp => (mem_ledger.mp hp).2.1

/-- x.name = v over any heap: L is any namespace of the heap (the frame's, say): its map stays, its object is not told; all else but the dict stays -/
theorem set_field {x C dx L : Addr} {ox : Obj} {m : Str → Option Value} {es es' : List DictEntry} {n n' : Nat} {name : Str} {v : Value} {Q : Unit → Shared → Prop}
    (X : K.In s.heap) (I : PySem.W.InstAt s.heap x ox C (some (dictOf es n))) (hd : ox.dict = some dx) (hL : s.heap.Ns L m) (hne : dx ≠ L)
    (hs : findIn K (.ref C) "__setattr__" = some (some (.builtin "object.__setattr__"))) (hp : plainOver K C = true) (ht : takerIn K C name = some none) (hh : hasDictIn K C = true) (hl : (getL name es).isSome = true)
    (e : (putL name (PyData.keyHash w.params name) (.str name (s.toks + 1)) v es, putN name es n) = (es', n')) (hz : es'.length ≤ 1000)
    (h : ∀ h' : Heap, h'.Ns L m → h'.get? dx = some (dictOf es' n') → (∀ b o, b ≠ dx → b ≠ L → s.heap.get? b = some o → h'.get? b = some o) → Q () { s with heap := h', toks := s.toks + 2 }) :
    wpAny (model prog w) A (setAttr (.ref x) name v) Q E s := by
  obtain ⟨e1, e2⟩ := Prod.mk.inj e
  have hdx : s.heap.get? dx = some (dictOf es n) := by
    have := I.dict
    rw [hd] at this
    exact this
  refine set_plain X I hs (osa_dict (s := { s with toks := s.toks + 1 }) (h₀ := noObjs s.heap) (L := L) (m := m) (od := dictOf es n) (od' := dictOf es' n') (es := es') (n := n') (pre := []) (post := ledger s.heap L dx)
    (fr_all hL) (news_ledger hne hdx) X I hd hp ht hh hl (fun _ q => nomatch q) (fun ⟨_, _⟩ q => (mem_ledger.mp q).2.1) (by rw [putName_dict, e1, e2]) rfl hz fun h' F' N' => ?_)
  exact h h' F'.ns (N'.get (List.Mem.head _)) fun b o n1 n2 ho => N'.get (List.Mem.tail _ (mem_ledger.mpr ⟨n2, n1, ho⟩))
end
end Att

namespace L2
open PySem PySem.Spec PyProof.Rows

theorem vals_ints : ∀ {vs : List Value} {ns : List Int}, IntsAre vs ns → Vals (ns.map V.int) vs
  | _, _, .nil => .nil
  | _, _, .cons n t h => .cons ⟨t, rfl⟩ (vals_ints h)

/-- nothing is tracked but the script, known to the object (or it is an object of the module) -/
def Only (H : Hp) : Prop := ∀ b, H b = none ∨ ∃ o xs, H b = some (.frz o (.lst xs))

/-- THE HEAD: the law's promise, at the heap behind the top. F, the promise of the law's def, may use that base is part of the heap (so K.In base, base.Ns mainGlobals mg stand in Mod) -/
theorem law_call {P : Program} {w : World} {K : PySem.W.Frag} {mg mb : Str → Option Value} {CX : CXT} {k : Nat} {fa a : Addr} {fd : FuncData} {x : Str} {sp : Sp} {s₁ : Shared} {vs : List Value} {ns : List Int}
    (KX : K.In s₁.heap) (hns : s₁.heap.Ns mainGlobals mg) (hb : s₁.heap.Ns builtinsNs mb) (hbb : ∀ x : Str, x ≠ "__name__" → mb x = bootBuiltins x) (hlim : s₁.heap.NoLimit) (hg : s₁.gens = #[])
    (ha : s₁.heap.get? a = some { cls := .type "list", data := .seq vs.toArray }) (hi : IntsAre vs ns) (hl : ns.length ≤ sizeLine) (hr : Room k callerA)
    (F : ∀ base : Heap, K.In base → base.Ns mainGlobals mg → FnOk P w K mg base CX k fa fd [x] sp) (hbind : ∀ (s : Shared) (u : Value), BindsTo s fd ⟨[u], []⟩ [(x, u)])
    (hsp : ∀ H : Hp, Only H → SqL K H a (ns.map V.int) → sp [.ref a] H (fun v _ => v = .bl true) fun _ _ _ => False)
    (hCX : ∀ H e s', CX [] H s₁ (fun _ _ _ => False) e s' → False) :
    codeAny (model P w) callerA (.call (.ref fa) ⟨[.ref a], []⟩) (fun r s' => r = .ok (.ret (.bool true)) ∧ OldK s₁.heap s'.heap ∧ s'.os = s₁.os ∧ AllBare s'.gens) s₁ := by
  have rv := vals_ints hi
  have lenV := hi.length
  -- from an abstract heap in which nothing but the script may be tracked
  have core : ∀ H : Hp, Only H → SqL K H a (ns.map V.int) → HOk P w H s₁.heap → (∀ b, H b ≠ none → b = a) → (H a ≠ none → K.lookup a = none) →
      codeAny (model P w) callerA (.call (.ref fa) ⟨[.ref a], []⟩) (fun r s' => r = .ok (.ret (.bool true)) ∧ OldK s₁.heap s'.heap ∧ s'.os = s₁.os ∧ AllBare s'.gens) s₁ := by
    intro H hO hS hok hA hK
    have base_of : ∀ {b : Addr} {o : Obj}, s₁.heap.get? b = some o → H b = none → (hidT s₁.heap H).get? b = some o := fun e n => hidT_get e n
    have noA : ∀ {b : Addr} {o : Obj} {es : Array DictEntry} {ep : Nat}, s₁.heap.get? b = some o → o.data = .dict es ep → H b = none := fun {b o es ep} e d => by
      cases q : H b with
      | none => rfl
      | some u =>
        have e' : b = a := hA b (by rw [q]; simp)
        subst e'
        rw [ha] at e; cases e
        have d' : Data.seq vs.toArray _ = Data.dict es ep := d
        cases d'
    have nsK : ∀ {b : Addr} {m : Str → Option Value}, s₁.heap.Ns b m → (hidT s₁.heap H).Ns b m := fun {b m} ⟨o, es, ep, e, d, r⟩ => ⟨o, es, ep, base_of e (noA e d), d, r⟩
    have hKb : K.In (hidT s₁.heap H) := fun b o e => base_of (KX b o e) (by
      cases q : H b with
      | none => rfl
      | some u =>
        have e' : b = a := hA b (by rw [q]; simp)
        subst e'
        rw [hK (by rw [q]; simp)] at e; cases e)
    have hM : Mod K mg (hidT s₁.heap H) := ⟨hKb, nsK hns, ⟨mb, nsK hb, hbb⟩, let ⟨mc, h1, h2⟩ := hlim; ⟨mc, nsK h1, h2⟩⟩
    have e0 : Env0 P w K mg (hidT s₁.heap H) callerA [] s₁ H := ⟨rfl, hM, fun b o e => of_hidT e, Nat.le_of_eq (hidT_size _ _), trivial, fun b hb => absurd (show b ∈ ([] : List Addr) from hb) (by simp), hok, .of_eq hg⟩
    refine codeAny_mono ((F _ hKb (nsK hns)).run callerA [] s₁ H ⟨[.ref a], []⟩ [.ref a] [.ref a] _ _ hr e0 (hbind s₁ (.ref a)) (.cons rfl .nil) (hsp H hO hS)) fun r s' h => ?_
    cases r with
    | error e => exact (hCX H e s' h).elim
    | ok fl =>
      cases fl with
      | next => exact False.elim h
      | brk => exact False.elim h
      | cont => exact False.elim h
      | ret u =>
        obtain ⟨v, H', os, bare, un, hok', r', q⟩ := h
        have q' : v = .bl true := q
        subst q'
        obtain rfl : u = Value.bool true := r'
        refine ⟨rfl, OldK.of_keep fun b o e => ?_, os, bare⟩
        cases q : H b with
        | none => exact un.keep b o e q (by intro z; exact absurd (show b ∈ ([] : List Addr) from z) (by simp)) (by simp)
        | some u =>
          rcases hO b with z | ⟨ob, xs, z⟩
          · rw [q] at z; cases z
          · have z2 := un.frzs b ob _ z
            obtain ⟨e1, _⟩ := hok b _ z
            obtain ⟨e2, _⟩ := hok' b _ z2
            rw [e] at e1; cases e1
            exact e2
  cases hk : K.lookup a with
  | some o =>
    -- the script is one of the module's own objects
    have e := KX a o hk
    rw [ha] at e
    cases e
    refine core (fun _ => none) (fun _ => .inl rfl) (.inr ⟨_, vs.toArray, _, hk, rfl, rfl, rfl, by rw [List.size_toArray, lenV]; exact hl, by simpa using rv⟩) (fun b u z => by have z' : (none : Option HO) = some u := z; cases z') (fun b z => absurd rfl z) fun z => absurd rfl z
  | none =>
    refine core (fun b => if b = a then some (.frz { cls := .type "list", data := .seq vs.toArray } (.lst (ns.map V.int))) else none) (fun b => ?_) (.inl (.inr ⟨{ cls := .type "list", data := .seq vs.toArray }, if_pos rfl⟩)) (fun b u z => ?_) (fun b z => ?_) fun _ => hk
    · by_cases hb : b = a
      · exact .inr ⟨_, _, if_pos hb⟩
      · exact .inl (if_neg hb)
    · by_cases hb : b = a
      · have z' := (if_pos hb).symm.trans z
        cases z'
        subst hb
        exact ⟨ha, by rw [List.length_map]; exact hl, vs, _, rv, ha⟩
      · have z' := (if_neg hb).symm.trans z
        cases z'
    · by_cases hb : b = a
      · exact hb
      · exact absurd (if_neg hb) z
end L2

namespace L2
open PySem PySem.Spec PyProof.Rows

abbrev KOf {K : PySem.W.Frag} {h : Heap} (_ : K.In h) : PySem.W.Frag := K

/-- the goal that k_head leaves (case hc), from the law's promise. F gives the function object fd (K's own) once, then the promise over every base -/
theorem walk_of {l : PySem.W.OpenLaw} {n k : Nat} {q : Program} {loose : List Str} {XP : (Str → Option Value) → Heap → Prop} {YP : World → Heap → Prop} {d : DefRec} {K : Params → PySem.W.Frag} {CX : World → CXT} {sp : World → Sp} {x : Str}
    (hn : l.most = some n) (hn2 : n ≤ sizeLine) (hdf : d.params.defaults = []) (hr : Room k callerA)
    (hY : ∀ (w : World) (h : Heap), YP w h → (K w.params).In h)
    (F : ∀ (w : World) (mg : Str → Option Value) (fa : Addr) (h : Heap), (K w.params).In h → h.Ns mainGlobals mg → mg d.name = some (.ref fa) →
      ∃ fd : FuncData, (∀ (s : Shared) (u : Value), BindsTo s fd ⟨[u], []⟩ [(x, u)]) ∧
        ∀ base : Heap, (K w.params).In base → base.Ns mainGlobals mg → FnOk l.prog w (K w.params) mg base (CX w) k fa fd [x] (sp w))
    (hsp : ∀ (w : World) (H : Hp) (a : Addr) (ns : List Int), ns.length ≤ n → Only H → SqL (K w.params) H a (ns.map V.int) → sp w [.ref a] H (fun v _ => v = .bl true) fun _ _ _ => False)
    (hCX : ∀ (w : World) (H : Hp) (s : Shared) (e : Value) (s' : Shared), CX w [] H s (fun _ _ _ => False) e s' → False) :
    PySem.W.WalkO q loose XP YP l.row.toRowW d [] (fun f vs => PySem.call f vs) := by
  refine Att.attach_call hn hdf fun w s₀ s₁ mg mb fa o pm cd doc a vs ns G Y ho hd hcd hmg hobj hints hlen hg => ?_
  have KX := hY w _ Y
  obtain ⟨fd, hb, hF⟩ := F w mg fa _ KX G.T.g hmg
  exact law_call KX G.T.g G.T.b G.T.builtins G.T.nolimit hg hobj hints (Nat.le_trans hlen hn2) hr hF hb (fun H hO hS => hsp w H a ns hlen hO hS) fun H e s' => hCX w H s₁ e s'
/-- the same where the promise hangs on the written part alone: (sp := My.sp_law), no hole under a binder -/
theorem walk_ofK {l : PySem.W.OpenLaw} {n k : Nat} {q : Program} {loose : List Str} {XP : (Str → Option Value) → Heap → Prop} {YP : World → Heap → Prop} {d : DefRec} {K : Params → PySem.W.Frag} {CX : CXT} {sp : PySem.W.Frag → Sp} {x : Str}
    (hn : l.most = some n) (hn2 : n ≤ sizeLine) (hdf : d.params.defaults = []) (hr : Room k callerA)
    (hY : ∀ (w : World) (h : Heap), YP w h → (K w.params).In h)
    (F : ∀ (w : World) (mg : Str → Option Value) (fa : Addr) (h : Heap), (K w.params).In h → h.Ns mainGlobals mg → mg d.name = some (.ref fa) →
      ∃ fd : FuncData, (∀ (s : Shared) (u : Value), BindsTo s fd ⟨[u], []⟩ [(x, u)]) ∧
        ∀ base : Heap, (K w.params).In base → base.Ns mainGlobals mg → FnOk l.prog w (K w.params) mg base CX k fa fd [x] (sp (K w.params)))
    (hsp : ∀ (K : PySem.W.Frag) (H : Hp) (a : Addr) (ns : List Int), ns.length ≤ n → Only H → SqL K H a (ns.map V.int) → sp K [.ref a] H (fun v _ => v = .bl true) fun _ _ _ => False)
    (hCX : ∀ (H : Hp) (s : Shared) (e : Value) (s' : Shared), CX [] H s (fun _ _ _ => False) e s' → False) :
    PySem.W.WalkO q loose XP YP l.row.toRowW d [] (fun f vs => PySem.call f vs) :=
  walk_of (K := K) (CX := fun _ => CX) (sp := fun w => sp (K w.params)) hn hn2 hdf hr hY F (fun w H a ns h1 h2 h3 => hsp (K w.params) H a ns h1 h2 h3) fun _ H s e s' => hCX H s e s'
end L2

/- THE LAST THEOREM (shape; LID, My.* are yours):
   My.Adr: a structure of the addresses that your layer names (classes, functions); My.Txt K t: a structure (Prop) of the equations over K;
   My.txt_mk : {K} {implicit addresses ..} (e1 : nsIn K mainGlobals "law" = some (some (.ref f))) (e2 : K.lookup f = some ⟨oc, od, .func (fnOf "law" "law" params body scope dV kV doc pm an cdv ct), sl⟩) (e3 : codeIn K cdv "law" = true) .. : ∃ t, My.Txt K t

set_option maxRecDepth 100000 in
set_option maxHeartbeats 0 in
theorem PySem.Challenge.cw_LID_holds : PySem.Challenge.rw_LID.Holds := by
  w_on; o_law; k_head; (case hw => w_witness2)
  k_fill
  refine L2.walk_of (l := PySem.Challenge.rw_LID) (n := 63) (k := 40) (x := "script") (CX := fun w => ..) (sp := fun _ => My.sp_law) rfl (by decide) rfl ⟨rfl, by decide, by decide⟩ (fun w h Y => PySem.W.kIn_of Y) ?F ?S ?C
  case F =>
    intro w mg fa h KX G hmg
    have T : ∃ t, My.Txt (L2.KOf KX) t := by
      dsimp only [L2.KOf]                          -- K must stand as «<heap const> w.params» for k_is
      refine' My.txt_mk ?e1 ?e2 ?e3 ..
      (case e1 => PySem.W.k_is)                    -- in the order: a name -> its address -> its object -> its parts
      (case e2 => PySem.W.k_is)
      ..
    obtain ⟨t, T⟩ := T
    have e0 := hmg.symm.trans (PySem.W.mg_of KX G T.law)
    cases e0                                       -- fa is the law's own address
    exact ⟨_, fun s u => .of_eq rfl, fun base kb nb => My.law_fn T kb nb⟩     -- if «.of_eq rfl» comes too early: refine' ⟨_, ?b, fun base kb nb => My.law_fn T kb nb⟩; exact fun s u => .of_eq rfl
  case S => exact fun w H a ns hl hO hS => ..
  case C => exact ..
(the tactic k_is has no namespace: write k_is) -/

/-! SHORT WORDS over the layer: a def of the text, its body, what a loop and a test want. -/
namespace L2
open PySem PySem.Spec PyProof.Rows

/-! ### the text by places -/
/-- the j-th statement of a class's body -/
def inClass (s : Stmt) (j : Nat) : Stmt := match s with
  | .ClassDef _ _ _ body _ _ _ _ _ _ _ => body.getD j (.Pass ⟨0, 0, 0, 0⟩)
  | _ => .Pass ⟨0, 0, 0, 0⟩
def defArgs (s : Stmt) : Arguments := match s with
  | .FunctionDef _ a _ _ _ _ _ _ _ _ => a
  | _ => { posonlyargs := [], args := [], vararg := none, kwonlyargs := [], kw_defaults := [], kwarg := none, defaults := [] }
def defBody (s : Stmt) : List Stmt := match s with
  | .FunctionDef _ _ b _ _ _ _ _ _ _ => b
  | _ => []
def defScope (s : Stmt) : Scope := match s with
  | .FunctionDef _ _ _ _ _ _ sc _ _ _ => sc
  | _ => { kind := .function, names := [], isGenerator := false, isCoroutine := false }

/-! ### no exception leaves a def -/
abbrev CX0 : CXT := fun _ _ _ _ _ _ => False
abbrev E0 : XK := fun _ _ _ => False
theorem pass0 {X : Cx} : Passes CX0 X E0 := fun _ _ _ _ _ _ _ h => h.elim

/-! ### a def (or method) of the text as it stands behind the top -/
structure Fun (K : PySem.W.Frag) (x qual : Str) (st : Stmt) (f : Addr) (fd : FuncData) : Prop where
  ex : ∃ (oc : Value) (od : Option Addr) (kV doc pm : Value) (an : Option Addr) (cdv ct : Value) (osl : Array (Option Value)),
    fd = PySem.W.fnOf x qual (defArgs st) (defBody st) (defScope st) .none kV doc pm an cdv ct ∧ K.lookup f = some ⟨oc, od, .func fd, osl⟩ ∧ PySem.W.codeIn K cdv qual = true
  kp : PySem.W.keepIn K (.ref f) = true
section
variable {P : Program} {w : World} {K : PySem.W.Frag} {mg : Str → Option Value} {base : Heap}
/-- THE RULE for a def: its body as a term of rules, and the reading of that term -/
theorem Fun.ok {x qual : Str} {st : Stmt} {f : Addr} {fd : FuncData} {N ps : List Str} {k : Nat} {sp : Sp} (F : Fun K x qual st f fd) (S : FnScope N ps (defScope st)) (len : ∀ vs H Q E, sp vs H Q E → vs.length = ps.length)
    (hbody : ∀ (cdv : Value) (A : Around) (outer : List Env) (s : Shared) (H : Hp) (vs : List V) (Q : VK) (E : XK), Room k (A.deeper (envOfC qual (defScope st) s.heap.objs.size f cdv)) → sp vs H Q E →
      ∃ t, PSs (cxOf CX0 P w K mg base N qual (defScope st) f cdv A outer s H E).nox (defBody st) t ∧ t { nx := fun _ H' => Q .non H', rt := Q } (start N vs) H) : FnOk P w K mg base CX0 (k + 1) f fd ps sp := by
  obtain ⟨oc, od, kV, doc, pm, an, cdv, ct, osl, rfl, lk, hcd⟩ := F.ex
  refine fn_of lk hcd S len fun A outer s H vs Q E hr hsp => ?_
  obtain ⟨t, h, q⟩ := hbody cdv A outer s H vs Q E hr hsp
  exact ⟨t, h.nox, q⟩
/-- how its arguments bind (no defaults): h is «fun _ _ _ _ _ _ us hl => match us, hl with | [_, _], _ => rfl», one _ a parameter -/
theorem Fun.binds {x qual : Str} {st : Stmt} {f : Addr} {fd : FuncData} {ps : List Str} (F : Fun K x qual st f fd)
    (h : ∀ (kV doc pm : Value) (an : Option Addr) (cdv ct : Value) (us : List Value), us.length = ps.length → bindArgs (PySem.W.fnOf x qual (defArgs st) (defBody st) (defScope st) .none kV doc pm an cdv ct) ⟨us, []⟩ = pure (ps.zip us)) : Binds K fd ps [] := by
  obtain ⟨oc, od, kV, doc, pm, an, cdv, ct, osl, rfl, lk, hcd⟩ := F.ex
  exact .all (h kV doc pm an cdv ct)
theorem fun_mk {x qual : Str} {st : Stmt} {f : Addr} {oc : Value} {od an : Option Addr} {osl : Array (Option Value)} {kV doc pm cdv ct : Value} (l : K.lookup f = some ⟨oc, od, .func (PySem.W.fnOf x qual (defArgs st) (defBody st) (defScope st) .none kV doc pm an cdv ct), osl⟩)
    (c : PySem.W.codeIn K cdv qual = true) (k : PySem.W.keepIn K (.ref f) = true) : Fun K x qual st f (PySem.W.fnOf x qual (defArgs st) (defBody st) (defScope st) .none kV doc pm an cdv ct) := ⟨⟨oc, od, kV, doc, pm, an, cdv, ct, osl, rfl, l, c⟩, k⟩
end
theorem hu_of {A : Around} {k : Nat} (hr : Room k A) : A.units + 1 < cLine := Nat.lt_of_le_of_lt (Nat.add_le_add_left (by decide : 1 ≤ 64) _) hr.units
theorem small1000 {n : Nat} (h : n ≤ 1000) : n < sizeLine := Nat.lt_of_le_of_lt h (by decide)

/-! ### expressions in short: the name that stands in the i-th slot -/
section
variable {X : Cx}
theorem pv (i : Nat) {x : Str} {pos : Pos} (hN : X.N[i]? = some x := by rfl) (hv : Vis X.env.scope x := by first | exact Or.inl rfl | exact Or.inr (Or.inl rfl) | exact Or.inr (Or.inr rfl)) (hd : (x == ("__debug__" : Str)) = false := by decide)
    (hcd : (x == ("__classdict__" : Str)) = false := by decide) : PE X (.Name x pos) (tVar i) := pe_var hN hv hd hcd
end

/-! ### tests -/
theorem iteF {A B : Prop} (h : B) : if false = true then A else B := by
  rw [if_neg Bool.false_ne_true]
  exact h
theorem iteT {A B : Prop} (h : A) : if true = true then A else B := by
  rw [if_pos rfl]
  exact h
theorem ite2 {c A B : Prop} [Decidable c] (h1 : c → A) (h2 : ¬ c → B) : if c then A else B := by
  by_cases h : c
  · rw [if_pos h]
    exact h1 h
  · rw [if_neg h]
    exact h2 h
theorem iteNS {c A B : Prop} [Decidable c] (hc : c) (h : B) : if (!decide c) = true then A else B := by
  rw [decide_eq_true hc]
  exact iteF h

/-! ### heaps -/
/-- all that was tracked is as it was -/
def Same (H H' : Hp) : Prop := ∀ b o, H b = some o → H' b = some o
theorem Same.refl (H : Hp) : Same H H := fun _ _ h => h
theorem Same.trans {H H1 H2 : Hp} (a : Same H H1) (b : Same H1 H2) : Same H H2 := fun c o h => b c o (a c o h)
theorem Same.free {H H' : Hp} (e : Same H H') {l : Addr} (h : H' l = Option.none) : H l = Option.none := by
  cases q : H l with
  | none => rfl
  | some o =>
    rw [e l o q] at h
    cases h
theorem Same.seq {K : PySem.W.Frag} {H H' : Hp} {a : Addr} {xs : List V} (e : Same H H') (h : SqL K H a xs) : SqL K H' a xs := by
  rcases h with (h | ⟨o, h⟩) | h
  · exact .inl (.inl (e _ _ h))
  · exact .inl (.inr ⟨o, e _ _ h⟩)
  · exact .inr h

end L2

namespace L2
open PySem PySem.Spec PyProof.Rows
section
variable {X : Cx}
theorem call_lenD : CallR X (.builtin "len") (fun xs H Q => ∃ a kvs, xs = [V.ref a] ∧ H a = some (.dK kvs) ∧ Q (.int kvs.length) H) := by
  intro pins s σ H xs us Q I r h
  obtain ⟨a, kvs, rfl, ha, q⟩ := h
  obtain ⟨u, rfl, ru⟩ := vals1 r
  cases ru
  exact d_len I (.inl ha) fun t s' I' => ⟨.int kvs.length, H, I', ⟨t, rfl⟩, q⟩
end
/-! ### a dict's pairs: keys that differ -/
section
variable {κ : Type} [DecidableEq κ]
theorem valV_not {kvs : List (κ × V)} {k : κ} (h : valV kvs k = none) : ¬ k ∈ kvs.map (·.1) := by
  intro m
  obtain ⟨p, hp, e⟩ := List.mem_map.mp m
  have q : (kvs.any fun kv => decide (kv.1 = k)) = true := List.any_eq_true.mpr ⟨p, hp, decide_eq_true e⟩
  rw [valV_any, h] at q
  exact absurd q (by simp)
theorem valV_in {kvs : List (κ × V)} {k : κ} {v : V} (h : valV kvs k = some v) : k ∈ kvs.map (·.1) := by
  have q : (kvs.any fun kv => decide (kv.1 = k)) = true := by
    rw [valV_any, h]
    all_goals rfl
  obtain ⟨p, hp, e⟩ := List.any_eq_true.mp q
  exact List.mem_map.mpr ⟨p, hp, of_decide_eq_true e⟩
theorem nd_snoc : ∀ {l : List κ} {k : κ}, l.Nodup → ¬ k ∈ l → (l ++ [k]).Nodup
  | [], k, _, _ => by simp
  | a :: r, k, h, hk => by
    obtain ⟨h1, h2⟩ := List.nodup_cons.mp h
    show (a :: (r ++ [k])).Nodup
    refine List.nodup_cons.mpr ⟨fun m => ?_, nd_snoc h2 fun m => hk (List.mem_cons.mpr (Or.inr m))⟩
    rcases List.mem_append.mp m with q | q
    · exact h1 q
    · exact hk (List.mem_cons.mpr (Or.inl (List.mem_singleton.mp q).symm))
theorem nd_putK {kvs : List (κ × V)} {k : κ} (v : V) (hn : (kvs.map (·.1)).Nodup) (h : valV kvs k = none) : ((putK kvs k v).map (·.1)).Nodup := by
  rw [putK_new v h, List.map_append]
  exact nd_snoc hn (valV_not h)
theorem dropK_pos {p : κ × V} {r : List (κ × V)} {k : κ} (e : p.1 = k) : dropK (p :: r) k = dropK r k := by
  unfold dropK
  rw [List.filter_cons, if_neg (by simp [e])]
theorem dropK_neg {p : κ × V} {r : List (κ × V)} {k : κ} (e : ¬ p.1 = k) : dropK (p :: r) k = p :: dropK r k := by
  unfold dropK
  rw [List.filter_cons, if_pos (by simp [e])]
theorem dropK_no : ∀ {kvs : List (κ × V)} {k : κ}, ¬ k ∈ kvs.map (·.1) → dropK kvs k = kvs
  | [], _, _ => rfl
  | p :: r, k, h => by
    have h' : ¬ k ∈ r.map (·.1) := fun m => by
      obtain ⟨q, hq, e⟩ := List.mem_map.mp m
      exact h (List.mem_map.mpr ⟨q, List.mem_cons.mpr (Or.inr hq), e⟩)
    rw [dropK_neg fun e => h (List.mem_map.mpr ⟨p, List.mem_cons.mpr (Or.inl rfl), e⟩), dropK_no h']
theorem dropK_mem {kvs : List (κ × V)} {k : κ} {p : κ × V} (h : p ∈ dropK kvs k) : p ∈ kvs := (List.mem_filter.mp h).1
theorem nd_dropK : ∀ {kvs : List (κ × V)} {k : κ}, (kvs.map (·.1)).Nodup → ((dropK kvs k).map (·.1)).Nodup
  | [], _, _ => List.nodup_nil
  | p :: r, k, h => by
    have h : (p.1 :: r.map (·.1)).Nodup := h
    obtain ⟨h1, h2⟩ := List.nodup_cons.mp h
    by_cases e : p.1 = k
    · rw [dropK_pos e]
      exact nd_dropK h2
    · rw [dropK_neg e]
      show (p.1 :: (dropK r k).map (·.1)).Nodup
      refine List.nodup_cons.mpr ⟨fun m => h1 ?_, nd_dropK h2⟩
      obtain ⟨q, hq, eq⟩ := List.mem_map.mp m
      exact List.mem_map.mpr ⟨q, dropK_mem hq, eq⟩
theorem dropK_len : ∀ {kvs : List (κ × V)} {k : κ}, (kvs.map (·.1)).Nodup → k ∈ kvs.map (·.1) → (dropK kvs k).length + 1 = kvs.length
  | [], _, _, m => by simp at m
  | p :: r, k, h, m => by
    have h : (p.1 :: r.map (·.1)).Nodup := h
    have m : k = p.1 ∨ k ∈ r.map (·.1) := List.mem_cons.mp m
    obtain ⟨h1, h2⟩ := List.nodup_cons.mp h
    by_cases e : p.1 = k
    · subst e
      rw [dropK_pos rfl, dropK_no h1]
      all_goals rfl
    · have m' : k ∈ r.map (·.1) := m.resolve_left fun z => e z.symm
      have q := dropK_len h2 m'
      rw [dropK_neg e, List.length_cons, List.length_cons]
      omega
end
end L2

set_option Elab.async false
set_option linter.all false
set_option maxRecDepth 100000
set_option maxHeartbeats 4000000
/-! Own rules over the hand layer: numbers of any size that is met, a dict walked by its items, copies, lists of keys, isinstance, == that comes out True. -/
namespace L2
open PySem PySem.Spec PyProof.Rows

/-! ### ints -/
/-- both factors below 2^n, n small -/
def CMulB (i j : Int) : Prop := ∃ n : Nat, n ≤ 60000000 ∧ i.natAbs < 2 ^ n ∧ j.natAbs < 2 ^ n
theorem bits_le {x : Int} {n : Nat} (h : x.natAbs < 2 ^ n) : Builtin.Int.intBits x ≤ n := by
  unfold Builtin.Int.intBits
  by_cases e : (x == 0) = true
  · rw [if_pos e]; exact Nat.zero_le _
  · rw [if_neg e]
    have hx : x.natAbs ≠ 0 := by
      intro z
      have : x = 0 := by omega
      rw [this] at e
      exact e rfl
    exact (Nat.log2_lt hx).mpr h
theorem CMulB.ok {i j : Int} (h : CMulB i j) : IntMulOk i j := by
  obtain ⟨n, hn, h1, h2⟩ := h
  have b1 := bits_le h1
  have b2 := bits_le h2
  intro z
  simp only [Bool.and_eq_true, Builtin.Int.intTooBig, decide_eq_true_eq] at z
  have e : (bitsLine : Nat) = 134217728 := by decide
  have z2 := z.2
  rw [e] at z2
  omega
def CMulX (i j : Int) : Prop := CMul i j ∨ CMulB i j
def CDivB (_ j : Int) : Prop := j ≠ 0 ∧ j.natAbs < 2 ^ 8000
theorem CDivB.ok {i j : Int} (h : CDivB i j) : Builtin.divisionGoesByPylong i j = false := by
  refine PyProof.noPylong_of_log2 ?_
  have hx : j.natAbs ≠ 0 := by have := h.1; omega
  have := (Nat.log2_lt hx).mpr h.2
  omega
section
variable {X : Cx}
theorem op_mulB : OpR X (binaryOp .Mult) (rI CMulX fun i j => .int (i * j)) := opI fun _ _ _ _ _ _ _ hc q => mul_int q (hc.elim CMul.ok CMulB.ok)
theorem op_fdivB : OpR X (binaryOp .FloorDiv) (rI CDivB fun i j => .int (i.fdiv j)) := opI fun _ _ _ _ _ _ _ hc q => floordiv_int hc.1 q (.inl hc.ok)
end

/-! ### a dict while it is walked -/
section
variable {X : Cx} {pins : List (Addr × Obj)} {σ : St} {H : Hp} {s : Shared} {a : Addr} {kvs : List (Key × V)}
theorem Inv.freeze (I : Inv X pins σ H s) (e : H a = some (.dK kvs)) : ∃ o, s.heap.get? a = some o ∧ Inv X pins σ (upd H a (.frz o (.dK kvs))) s := by
  have ok : ObjOk X.prog X.w H s.heap a (.dK kvs) := I.hok a _ e
  obtain ⟨z, y, vs, r, o, es, ep, ho, c⟩ := id ok
  refine ⟨o, ho, ?_⟩
  exact I.write (h' := s.heap) (t' := s.toks) (x := a) (e := a) (by rw [e]; exact True.intro) (.inl rfl) (fun _ _ _ q => q) ⟨o, ho⟩ ⟨ho, z, y, vs, r, o, es, ep, ho, c⟩
theorem Inv.thaw {o : Obj} (I : Inv X pins σ H s) (e : H a = some (.frz o (.dK kvs))) (hn : ∀ o u, X.H₀ a ≠ some (.frz o u)) : Inv X pins σ (upd H a (.dK kvs)) s := by
  have ne : ∀ b u, H b = some u → (∀ o u', u ≠ .frz o u') → b ≠ a := fun b u h d z => by
    subst z
    rw [e] at h
    exact d _ _ (Option.some.inj h).symm
  obtain ⟨ho, ok⟩ := (show ObjOk X.prog X.w H s.heap a (.frz o (.dK kvs)) from I.hok a _ e)
  refine ⟨I.ok, I.os, I.bare, ⟨fun b ob q n hb hx => I.base.keep b ob q n hb hx, fun b ob q n hb hx => I.base.slot b ob q n hb hx, fun b ob q n hx => ?_, fun b ob q hx => I.base.there b ob q hx, fun b xs q => ?_, fun b ob u q => ?_, fun b ps q => ?_⟩, I.loc, I.cell, ?_, fun x c q => ?_, fun p hp => ?_, fun b u q => ?_, I.len⟩
  · have z := I.base.free b ob q n hx
    rw [upd_ne (by intro y; subst y; rw [e] at z; cases z)]
    exact z
  · have z := I.base.tups b xs q
    rw [upd_ne (ne b _ z (fun _ _ y => by cases y))]
    exact z
  · have z := I.base.frzs b ob u q
    rw [upd_ne (by intro y; subst y; exact hn _ _ q)]
    exact z
  · obtain ⟨m, z⟩ := I.base.tbls b ps q
    exact ⟨m, by rw [upd_ne (ne b _ z (fun _ _ y => by cases y))]; exact z⟩
  · rw [upd_ne (by intro y; have z := I.free; rw [y, e] at z; cases z)]
    exact I.free
  · rw [upd_ne (by intro y; have z := I.freeC x c q; rw [y, e] at z; cases z)]
    exact I.freeC x c q
  · obtain ⟨p1, p2, p3, p4, p5⟩ := I.pin p hp
    refine ⟨p1, ?_, p3, p4, p5⟩
    rw [upd_ne (by intro y; rw [y, e] at p2; cases p2)]
    exact p2
  · by_cases hb : b = a
    · subst hb
      rw [upd_same] at q
      cases q
      exact ok
    · rw [upd_ne hb] at q
      exact (I.hok b u q).stay (fun _ _ _ z => z) (fun c z => by rw [upd_ne (ne c _ z (fun _ _ y => by cases y))]; exact z) fun c xs z => by rw [upd_ne (ne c _ z (fun _ _ y => by cases y))]; exact z
end

/-- the items of the dict at a, which stands as ob: at each turn a new tuple -/
def Itd (a : Addr) (ob : Obj) (kvs : List (Key × V)) : It :=
  ⟨fun i H => i < kvs.length ∧ H a = some (.frz ob (.dK kvs)), fun i H x H' => ∃ p k v, kvs[i]? = some (k, v) ∧ H p = none ∧ x = .ref p ∧ H' = upd H p (.tup [kV k, v]), fun i H => kvs.length ≤ i ∧ H a = some (.frz ob (.dK kvs))⟩

theorem kV_of_is {P : Program} {w : World} {k : Key} {u : Value} (h : (mixKind P w).is k u = true) : RelV (kV k) u := by
  rcases keyIs_shape (k := k) (v := u) h with ⟨i, t, rfl, rfl⟩ | ⟨x, t, rfl, rfl⟩
  · exact ⟨t, rfl⟩
  · exact ⟨t, rfl⟩
theorem KV.at {kvs : List (Key × V)} {vs : List (Key × Value)} (r : KV kvs vs) : ∀ {i : Nat} {k : Key} {v : V}, kvs[i]? = some (k, v) → ∃ u, vs[i]? = some (k, u) ∧ RelV v u := by
  unfold KV at r
  induction r with
  | nil => intro i k v h; simp at h
  | @cons p q ps qs h t ih =>
    intro i k v e
    cases i with
    | zero =>
      simp at e
      subst e
      have e1 : k = q.1 := h.1
      exact ⟨q.2, by rw [e1]; rfl, h.2⟩
    | succ i => simpa using ih (i := i) (k := k) (v := v) (by simpa using e)

theorem turn_items {P : Program} {w : World} {K : PySem.W.Frag} {elts : List Expr} {x1 : Nat} {pos : Pos} (a it : Addr) (ob : Obj) (kvs : List (Key × V)) (hne : a ≠ it) :
    Turn P w K (.Tuple elts x1 pos) (Itd a ob kvs) [it] it (fun i h => ∃ es ep ok ov, ob.data = .dict es ep ∧ IsItemIter h it a i kvs.length ep ok ov) where
  mem := by simp
  obj := fun i h st b hb => by
    have e : b = it := by simpa using hb
    subst e
    obtain ⟨es, ep, ok, ov, hd, e⟩ := st
    exact ⟨_, e, fun v z => by cases z⟩
  keep := fun i h h' st k => by
    obtain ⟨es, ep, ok, ov, hd, e⟩ := st
    exact ⟨es, ep, ok, ov, hd, k it (by simp) _ e⟩
  item := by
    intro X hP hw hK hc i pins s σ H E I hf st hg
    subst hP hw hK
    obtain ⟨es, ep, ok, ov, hd, hit⟩ := st
    obtain ⟨hi, hH⟩ := hg
    obtain ⟨ho, z, y, vs, r, o', es', ep', ho', c1, c2, c3, c4, c5⟩ := (show ObjOk X.prog X.w H s.heap a (.frz ob (.dK kvs)) from I.hok a _ hH)
    have eo : o' = ob := by rw [ho] at ho'; exact (Option.some.inj ho').symm
    subst eo
    rw [hd] at c2
    cases c2
    have hm : s.heap.DictAt (mixKind X.prog X.w) a vs ep := ⟨o', es, ho, c1, hd, c3, c4, c5⟩
    obtain ⟨⟨k, v⟩, hkv⟩ : ∃ q, kvs[i]? = some q := ⟨kvs[i], by simp [hi]⟩
    obtain ⟨u, hu, ru⟩ := r.at hkv
    have hl : kvs.length = vs.length := KV.length r
    rw [hl] at hit
    obtain ⟨f0, f1, f2, f3, f4, f5⟩ := hf it (by simp)
    refine wpAny_pyNext_items_item hit hm hu fun key h' hkey hout hT hsz hk => ?_
    refine ⟨.ref s.heap.objs.size, rfl, wpAny_letOwnedTupleGo_items hout fun h2 he hs => ?_⟩
    have lit : it < s.heap.objs.size := Heap.lt_size hit
    have I1 := I.laid (a := s.heap.objs.size) (o := .tup [kV k, v]) (h' := s.heap.push { cls := .type "tuple", data := .seq #[key, u] }) (t' := s.toks) (fun b q hq => Heap.get?_push_of_some _ hq) (Nat.le_refl _)
      ⟨by show 2 ≤ sizeLine; decide, [key, u], .cons (kV_of_is hkey) (.cons ru .nil), ⟨_, Heap.get?_push_size _ rfl, rfl, _, rfl⟩⟩
    have hfr : H s.heap.objs.size = none := I.hok.fresh (Nat.le_refl _)
    have nit : it ≠ s.heap.objs.size := Nat.ne_of_lt lit
    refine ⟨.ref s.heap.objs.size, upd H s.heap.objs.size (.tup [kV k, v]), ?_, rfl, ⟨_, k, v, hkv, hfr, rfl, rfl⟩, ⟨es, ep, key, u, hd, by rw [hl]; exact he⟩, fun b hb => ?_⟩
    · have I2 : Inv X pins σ (upd H s.heap.objs.size (.tup [kV k, v])) { s with heap := h2, toks := s.toks } := Inv.turned (s := { s with heap := s.heap.push { cls := .type "tuple", data := .seq #[key, u] }, toks := s.toks }) I1 (h' := h2) (t' := s.toks) (it := it) (fun b q hb hq => ?_) (by rw [upd_ne nit]; exact f0) f1 f3 f4 f5
      · exact I2
      · refine hs.extBut b q hb ?_
        rcases Heap.get?_push_cases hq with ⟨hbs, eq⟩ | hq
        · subst hbs
          subst eq
          exact hT
        · exact hk b q hb hq
    · have e : b = it := by simpa using hb
      subst e
      rw [upd_ne nit]
      exact f0
  done := by
    intro X hP hw hK hc i pins s σ H E I hf st hg
    subst hP hw hK
    obtain ⟨es, ep, ok, ov, hd, hit⟩ := st
    obtain ⟨hi, hH⟩ := hg
    obtain ⟨ho, z, y, vs, r, o', es', ep', ho', c1, c2, c3, c4, c5⟩ := (show ObjOk X.prog X.w H s.heap a (.frz ob (.dK kvs)) from I.hok a _ hH)
    have eo : o' = ob := by rw [ho] at ho'; exact (Option.some.inj ho').symm
    subst eo
    rw [hd] at c2
    cases c2
    have hm : s.heap.DictAt (mixKind X.prog X.w) a vs ep := ⟨o', es, ho, c1, hd, c3, c4, c5⟩
    have hl : kvs.length = vs.length := KV.length r
    rw [hl] at hit
    obtain ⟨f0, f1, f2, f3, f4, f5⟩ := hf it (by simp)
    exact wpAny_pyNext_items_end (I.ok.hd hc) hit hm (by simp; omega) fun h' eb => ⟨rfl, I.turned (t' := s.toks) (fun b o hb e => eb b o hb e) f0 f1 f3 f4 f5⟩
  self := fun A i s Q E st h => by
    obtain ⟨es, ep, ok, ov, hd, hit⟩ := st
    exact PySem.W.kcp_self hit h

section
variable {X : Cx}
/-- d.items(), walked: the dict stands frozen -/
def iItems (X : Cx) (td : TE) : TI := fun σ H R => td σ H fun x H1 => ∃ a kvs, x = .ref a ∧ H1 a = some (.dK kvs) ∧ ∀ ob, (∀ o u, X.H₀ a ≠ some (.frz o u)) → R (Itd a ob kvs) (upd H1 a (.frz ob (.dK kvs)))
theorem pi_items {o : Expr} {td : TE} {elts : List Expr} {x1 : Nat} {pos apos cpos : Pos} (ho : PE X o td) (hbase : attributeBase o "items" X.env (eval o X.env) = eval o X.env) (hline : (apos.endLine == cpos.line) = true) :
    PI X (.Tuple elts x1 pos) (.Call (.Attribute o "items" apos) [] [] cpos) (iItems X td) := by
  intro pins s σ H R I h
  refine wpAny_Call_method0_late hbase hline (thn (ho pins s σ H _ I h) fun v s1 ⟨x, H1, I1, r1, a, kvs, ex, hH, q⟩ => ?_)
  subst ex
  obtain rfl : v = Value.ref a := r1
  obtain ⟨t1, t2, hd⟩ := isD_at I1 (.inl ⟨kvs, .inl hH⟩)
  refine ⟨"dict", "dict.items", PySem.F.plainAttrs_dict, PySem.F.slot_dict_items, PySem.F.type_dict_items, t1, t2, Calls.callWith_builtin rfl (PySem.evalArgs_none ?_)⟩
  obtain ⟨z, y, vs, r, dd⟩ := dk_of I1.hok hH
  refine call_meetsIn PySem.F.slot_dict_items t1 PySem.F.entry_dict_items (PySem.F.args_dict_items_1 _) (meets_dict_items (mixKind X.prog X.w) a hd) ⟨⟨vs, dd⟩, ?_⟩
  have I2 : Inv X pins σ H1 { s1 with heap := s1.heap.push { cls := .type "dict_items", data := .fields #[.ref a] } } := I1.kept (t' := s1.toks) fun b o e => Heap.get?_push_of_some _ e
  have hna : ∀ o u, X.H₀ a ≠ some (.frz o u) := fun o u z => by
    have := I1.base.frzs a o u z
    rw [hH] at this
    cases this
  obtain ⟨ep, hat⟩ := dd.dictAt
  have hat2 := hat.push { cls := .type "dict_items", data := .fields #[.ref a] }
  refine wpAny_pyIter_items (v := s1.heap.objs.size) (d := a) ⟨_, Heap.get?_push_size _ rfl, rfl, rfl⟩ hat2 ?_
  obtain ⟨ob, hob, I3⟩ := (I2.kept (t' := s1.toks) (h' := (s1.heap.push { cls := .type "dict_items", data := .fields #[.ref a] }).push { cls := .type "dict_itemiterator", data := .fields #[.none, .bool false, .ref a, .int 0 0, .int vs.length 0, .int ep 0, .none, .none] }) fun b o e => Heap.get?_push_of_some _ e).freeze hH
  have la : a < (s1.heap.push { cls := .type "dict_items", data := .fields #[.ref a] }).objs.size := hat2.lt_size
  have hl : kvs.length = vs.length := KV.length r
  refine ⟨_, [_], _, _, upd H1 a (.frz ob (.dK kvs)), rfl, I3, turn_items a (s1.heap.push { cls := .type "dict_items", data := .fields #[.ref a] }).objs.size ob kvs (Nat.ne_of_lt la), ?_, fun b hb => ?_, q ob hna⟩
  · obtain ⟨o2, es, ho2, c1, c2, _⟩ := hat2
    have e3 : ob = o2 := by
      have e4 := Heap.get?_push_of_some { cls := .type "dict_itemiterator", data := .fields #[.none, .bool false, .ref a, .int 0 0, .int vs.length 0, .int ep 0, .none, .none] } ho2
      rw [e4] at hob
      exact (Option.some.inj hob).symm
    subst e3
    refine ⟨es, ep, .none, .none, c2, ?_⟩
    rw [hl]
    exact Heap.get?_push_size _ rfl
  · have e : b = (s1.heap.push { cls := .type "dict_items", data := .fields #[.ref a] }).objs.size := by simpa using hb
    subst e
    refine I2.fpOk (Nat.le_refl _) ?_
    rw [upd_ne (Nat.ne_of_gt la)]
    exact I2.hok.fresh (Nat.le_refl _)

/-- behind the loop the dict is as it was -/
def Thaw (X : Cx) (R : Hp → Prop) (H : Hp) : Prop := ∃ a ob kvs, H a = some (.frz ob (.dK kvs)) ∧ (∀ o u, X.H₀ a ≠ some (.frz o u)) ∧ R (upd H a (.dK kvs))
def ThawD (X : Cx) (D : Ends) : Ends := { nx := fun σ => Thaw X (D.nx σ), rt := fun v => Thaw X (D.rt v), bk := fun σ => Thaw X (D.bk σ), ct := fun σ => Thaw X (D.ct σ) }
/-- for k, v in d.items(): .. -/
def tForD (X : Cx) (td : TE) (g : TG) (tb : TS) : TS := fun D σ H => tFor (iItems X td) g tb (ThawD X D) σ H
theorem ps_forD {o : Expr} {td : TE} {elts : List Expr} {x1 : Nat} {pos apos cpos fpos : Pos} {body : List Stmt} {g : TG} {tb : TS} (hp : PassesOwn (model X.prog X.w) X.A X.env X.xe) (hc : X.calm = true) (ho : PE X o td)
    (hg : PG X (.Tuple elts x1 pos) g) (hb : PSs X body tb) (hbase : attributeBase o "items" X.env (eval o X.env) = eval o X.env := by rfl) (hline : (apos.endLine == cpos.line) = true := by rfl)
    (hs : ∀ x, foldedSetIterable (.Call (.Attribute o "items" apos) [] [] cpos) X.env x = pure x := by intro _; rfl) : PS X (.For (.Tuple elts x1 pos) (.Call (.Attribute o "items" apos) [] [] cpos) body [] fpos) (tForD X td g tb) := by
  intro pins s σ H D I h
  have base := ps_for (pos := fpos) hp hc (pi_items (elts := elts) (x1 := x1) (pos := pos) ho hbase hline) hg hb hs pins s σ H (ThawD X D) I h
  refine thn base fun f s' q => ?_
  cases f with
  | next => obtain ⟨σ', H', I', a, ob, kvs, e, hn, r⟩ := q; exact ⟨σ', _, I'.thaw e hn, r⟩
  | brk => obtain ⟨σ', H', I', a, ob, kvs, e, hn, r⟩ := q; exact ⟨σ', _, I'.thaw e hn, r⟩
  | cont => obtain ⟨σ', H', I', a, ob, kvs, e, hn, r⟩ := q; exact ⟨σ', _, I'.thaw e hn, r⟩
  | ret u => obtain ⟨v, σ', H', I', rv, a, ob, kvs, e, hn, r⟩ := q; exact ⟨v, σ', _, I'.thaw e hn, rv, r⟩
end
theorem for_items {a : Addr} {ob : Obj} {kvs : List (Key × V)} {g : TG} {tb : TS} {D : Ends} {σ : St} {H : Hp} (Pv : Nat → St → Hp → Prop) (h0 : Pv 0 σ H) (hl : ∀ i σ H, i ≤ kvs.length → Pv i σ H → H a = some (.frz ob (.dK kvs)))
    (hs : ∀ i k v σ H p, kvs[i]? = some (k, v) → Pv i σ H → H p = none → g (.ref p) σ (upd H p (.tup [kV k, v])) fun σ2 H2 => tb { D with nx := Pv (i + 1), ct := Pv (i + 1), bk := D.nx } σ2 H2) (hd : ∀ σ H, Pv kvs.length σ H → D.nx σ H) :
    ∃ W : Nat → Nat → St → Hp → Prop, (∃ m, W 0 m σ H) ∧ ∀ i m σ H, W i m σ H →
      ((Itd a ob kvs).stop i H ∧ D.nx σ H) ∨ ((Itd a ob kvs).go i H ∧ ∃ N : St → Hp → Prop, (∀ σ' H', N σ' H' → ∃ m', m' < m ∧ W (i + 1) m' σ' H') ∧ ∀ x H', (Itd a ob kvs).yld i H x H' → g x σ H' fun σ2 H2 => tb { D with nx := N, ct := N, bk := D.nx } σ2 H2) := by
  refine ⟨fun i m σ H => m = kvs.length - i ∧ i ≤ kvs.length ∧ Pv i σ H, ⟨kvs.length, by simp, Nat.zero_le _, h0⟩, ?_⟩
  rintro i m σ H ⟨rfl, hi, p⟩
  have q := hl i σ H hi p
  by_cases hlt : i < kvs.length
  · refine .inr ⟨⟨hlt, q⟩, Pv (i + 1), fun σ' H' p' => ⟨kvs.length - (i + 1), by omega, rfl, hlt, p'⟩, fun x H' y => ?_⟩
    obtain ⟨pa, k, v, e1, e2, rfl, rfl⟩ := y
    exact hs i k v σ H pa e1 p e2
  · have e : i = kvs.length := by omega
    subst e
    exact .inl ⟨⟨Nat.le_refl _, q⟩, hd σ H p⟩

/-! ### calls -/
section
variable {X : Cx}
/-- dict(d) -/
theorem call_dictD : CallR X (.type "dict") (fun xs H Q => ∃ a kvs, xs = [.ref a] ∧ Rd H a (.dK kvs) ∧ ∀ p, H p = none → Q (.ref p) (upd H p (.dK kvs))) := by
  intro pins s σ H xs us Q I r h
  obtain ⟨a, kvs, rfl, ha, q⟩ := h
  obtain ⟨u, rfl, ru⟩ := vals1 r
  cases ru
  exact d_copyOf I ha fun p s' hp I' => ⟨.ref p, _, I', rfl, q p hp⟩
/-- list(d): its keys -/
theorem call_listD (hc : X.calm = true) : CallR X (.type "list") (fun xs H Q => ∃ a kvs, xs = [.ref a] ∧ Rd H a (.dK kvs) ∧ ∀ p, H p = none → Q (.ref p) (upd H p (.lst (kvs.map fun kv => kV kv.1)))) := by
  intro pins s σ H xs us Q I r h
  obtain ⟨a, kvs, rfl, ha, q⟩ := h
  obtain ⟨u, rfl, ru⟩ := vals1 r
  cases ru
  obtain ⟨z, y, vs, rel, dd⟩ := dk_rd I.hok ha
  obtain ⟨ep, hat⟩ := dd.dictAt
  have hl : kvs.length = vs.length := KV.length rel
  refine PySem.W.kdl_call (PySem.W.kdl_dict (knd := mixKind X.prog X.w) (kvs := vs) (ep := ep) y) (I.ok.hd hc) hat (by rw [← hl]; exact z) fun h' tk acc' c' hk hS hacc => ?_
  have hfr : H s.heap.objs.size = none := I.hok.fresh (Nat.le_refl _)
  refine ⟨.ref s.heap.objs.size, _, I.laid (a := s.heap.objs.size) (o := .lst (kvs.map fun kv => kV kv.1)) (h' := h') (t' := tk) hk (Nat.le_refl _) ⟨by rw [List.length_map]; exact z, acc'.toList, c', ?_, by simpa using hS⟩, rfl, q _ hfr⟩
  have hn : acc'.toList.length = vs.length := by rw [Array.length_toList]; exact hacc.1
  have gen : ∀ (kvs : List (Key × V)) (us : List Value), us.length = kvs.length → (∀ (j : Nat) k v u, kvs[j]? = some (k, v) → us[j]? = some u → RelV (kV k) u) → Vals (kvs.map fun kv => kV kv.1) us := by
    intro kvs
    induction kvs with
    | nil => intro us e _; cases us with
      | nil => exact .nil
      | cons _ _ => simp at e
    | cons p r ih =>
      intro us e f
      cases us with
      | nil => simp at e
      | cons u us =>
        refine .cons (f 0 p.1 p.2 u rfl rfl) (ih us (by simpa using e) fun j k v w h1 h2 => f (j + 1) k v w (by simpa using h1) (by simpa using h2))
  refine gen kvs acc'.toList (by rw [hn, hl]) fun j k v u h1 h2 => ?_
  obtain ⟨k', x, hx, hkey⟩ := hacc.2 j u (by rw [← Array.getElem?_toList]; exact h2)
  obtain ⟨u', hu', _⟩ := rel.at h1
  rw [hu'] at hx
  cases hx
  exact kV_of_is hkey
/-- d.clear() -/
theorem mt_dclear : MtR X "dict.clear" (fun x xs H Q => ∃ a kvs, x = .ref a ∧ xs = [] ∧ H a = some (.dK kvs) ∧ Q .non (upd H a (.dK []))) := by
  intro pins s σ H x xs v us Q I rx rv h
  obtain ⟨a, kvs, rfl, rfl, ha, q⟩ := h
  cases rx
  cases rv
  exact d_clear I ha fun s' I' => ⟨.non, _, I', rfl, q⟩
/-- isinstance(x, c) -/
def clsV : V → Option Value
  | .ty n => some (.type n)
  | .ref a => some (.ref a)
  | _ => none
theorem call_isi : CallR X (.builtin "isinstance") (fun xs H Q => ∃ x c t b u, xs = [x, c] ∧ TyOf X.K H x t ∧ clsV c = some u ∧ PySem.W.kitOne X.K t u = some b ∧ Q (.bl b) H) := by
  intro pins s σ H xs us Q I r h
  obtain ⟨x, c, t, b, u, rfl, ty, rc, e, q⟩ := h
  obtain ⟨v, w', rfl, rx, rw'⟩ := vals2 r
  have ew : w' = u := by
    cases c with
    | ref a => cases rc; exact rw'
    | ty n => cases rc; exact rw'
    | non => cases rc
    | bl n => cases rc
    | int i => cases rc
    | str i => cases rc
    | byt i => cases rc
    | flt i => cases rc
  subst ew
  exact isinst_ok I rx ty e fun tk => ⟨.bl b, H, I.tok tk, rfl, q⟩
end

/-! ### == that comes out True -/
def All2 (R : V → V → Prop) : List V → List V → Prop
  | [], [] => True
  | x :: xs, y :: ys => R x y ∧ All2 R xs ys
  | _, _ => False
theorem All2.length {R : V → V → Prop} : ∀ {xs ys : List V}, All2 R xs ys → xs.length = ys.length
  | [], [], _ => rfl
  | _ :: xs, _ :: ys, h => by rw [List.length_cons, List.length_cons, All2.length h.2]
  | [], _ :: _, h => h.elim
  | _ :: _, [], h => h.elim
theorem All2.get {R : V → V → Prop} : ∀ {xs ys : List V} {j : Nat} {x y : V}, All2 R xs ys → xs[j]? = some x → ys[j]? = some y → R x y
  | x :: xs, y :: ys, 0, _, _, h, e1, e2 => by simp at e1 e2; subst e1 e2; exact h.1
  | _ :: xs, _ :: ys, j + 1, x, y, h, e1, e2 => All2.get (xs := xs) (ys := ys) (j := j) h.2 (by simpa using e1) (by simpa using e2)
  | [], [], _, _, _, _, e1, _ => by simp at e1
  | [], _ :: _, _, _, _, h, _, _ => h.elim
  | _ :: _, [], _, _, _, h, _, _ => h.elim
/-- flat values, tuples and lists of such: n deep -/
def EqT (K : PySem.W.Frag) (H : Hp) : Nat → V → V → Prop
  | 0, x, y => flatV x = true ∧ x = y
  | n + 1, x, y => (flatV x = true ∧ x = y) ∨ ∃ p q xs ys, x = .ref p ∧ y = .ref q ∧ ((SqT K H p xs ∧ SqT K H q ys) ∨ (SqL K H p xs ∧ SqL K H q ys)) ∧ All2 (EqT K H n) xs ys
theorem eqV_refl {x : V} (h : flatV x = true) : eqV x x = true := by
  cases x <;> first | rfl | (simp [eqV]; done) | (simp [flatV] at h)
theorem in1_units (A : Around) : A.in1.units = A.units + 1 := rfl
section
variable {X : Cx} {pins : List (Addr × Obj)} {σ : St} {H : Hp} {s : Shared}
theorem rcT_of {A : Around} {p q : Addr} {xs ys : List V} (I : Inv X pins σ H s) (hk : (SqT X.K H p xs ∧ SqT X.K H q ys) ∨ (SqL X.K H p xs ∧ SqL X.K H q ys)) (hu : A.units < cLine) (hl : xs.length = ys.length)
    (he : ∀ (j : Nat) x y u v, xs[j]? = some x → ys[j]? = some y → RelV x u → RelV y v → SeqAt.EqAt A.in1 s u v true) : SeqAt.RcAt A s (.ref p) (.ref q) true := by
  have fin : ∀ (its its2 : List Value), Vals xs its → Vals ys its2 → ∀ j (h1 : j < its.toArray.size) (h2 : j < its2.toArray.size), SeqAt.EqAt A.in1 s its.toArray[j] its2.toArray[j] true := by
    intro its its2 r1 r2 j h1 h2
    have l1 := r1.length
    have l2 := r2.length
    simp only [List.size_toArray] at h1 h2
    obtain ⟨u, hu1, ru⟩ := r1.get (i := j) (x := xs[j]'(by omega)) (by simp)
    obtain ⟨v, hv1, rv⟩ := r2.get (i := j) (x := ys[j]'(by omega)) (by simp)
    have e1 : its.toArray[j]'(by simpa using h1) = u := by
      have := List.getElem?_eq_some_iff.mp hu1
      obtain ⟨_, z⟩ := this
      simpa using z
    have e2 : its2.toArray[j]'(by simpa using h2) = v := by
      have := List.getElem?_eq_some_iff.mp hv1
      obtain ⟨_, z⟩ := this
      simpa using z
    rw [e1, e2]
    exact he j _ _ u v (by simp) (by simp) ru rv
  rcases hk with ⟨h1, h2⟩ | ⟨h1, h2⟩
  · obtain ⟨its, r1, t1, _⟩ := I.tuple h1
    obtain ⟨its2, r2, t2, _⟩ := I.tuple h2
    have l1 := r1.length
    have l2 := r2.length
    have z := SeqAt.RcAt.tuples (A := A) (e := fun _ => true) t1 t2 hu (fin its its2 r1 r2)
    have e : ((List.range (min its.toArray.size its2.toArray.size)).all (fun _ => true) && its.toArray.size == its2.toArray.size) = true := by
      simp only [List.size_toArray]
      simp
      omega
    rw [e] at z
    exact z
  · obtain ⟨its, r1, t1, _⟩ := I.list h1
    obtain ⟨its2, r2, t2, _⟩ := I.list h2
    have l1 := r1.length
    have l2 := r2.length
    have z := SeqAt.RcAt.lists (A := A) (e := fun _ => true) t1.isList t2.isList (by simp; omega) hu (fin its its2 r1 r2)
    have e : (List.range its.toArray.size).all (fun _ => true) = true := by simp
    rw [e] at z
    exact z
theorem eqT_at (I : Inv X pins σ H s) : ∀ (n : Nat) {A : Around} {x y : V} {u v : Value}, EqT X.K H n x y → RelV x u → RelV y v → A.units + n < cLine → SeqAt.EqAt A s u v true
  | 0, A, x, y, u, v, ⟨f, e⟩, ru, rv, _ => by
    subst e
    have z := eqAt_V (A := A) (s := s) ru rv f f
    rw [eqV_refl f] at z
    exact z
  | n + 1, A, x, y, u, v, .inl ⟨f, e⟩, ru, rv, _ => by
    subst e
    have z := eqAt_V (A := A) (s := s) ru rv f f
    rw [eqV_refl f] at z
    exact z
  | n + 1, A, x, y, u, v, .inr ⟨p, q, xs, ys, hx, hy, hk, al⟩, ru, rv, hu => by
    subst hx hy
    cases ru
    cases rv
    by_cases e : p = q
    · subst e
      exact SeqAt.EqAt.same _
    · refine SeqAt.EqAt.of_refs e (rcT_of I hk (by omega) al.length fun j x y u v h1 h2 r1 r2 => ?_)
      exact eqT_at I n (A := A.in1) (al.get h1 h2) r1 r2 (by rw [in1_units]; omega)
end
section
variable {X : Cx}
/-- two sequences that are equal -/
def rEqT (K : PySem.W.Frag) (b : Bool) : R2 := fun x y H Q => ∃ n p q xs ys, n ≤ 40 ∧ x = .ref p ∧ y = .ref q ∧ ((SqT K H p xs ∧ SqT K H q ys) ∨ (SqL K H p xs ∧ SqL K H q ys)) ∧ All2 (EqT K H n) xs ys ∧ Q (.bl b) H
theorem op_eqT (hu : X.A.units + 64 < cLine) : OpR X (compareOp .Eq) (rEqT X.K true) := by
  intro pins s σ H x y v u Q I rx ry h
  obtain ⟨n, p, q, xs, ys, hn, rfl, rfl, hk, al, hq⟩ := h
  cases rx
  cases ry
  refine rcT_of I hk (by omega) al.length (fun j x y u v h1 h2 r1 r2 => ?_) X.prog X.w X.xe _ ⟨.bl true, H, I, rfl, hq⟩
  exact eqT_at I n (A := X.A.in1) (al.get h1 h2) r1 r2 (by rw [in1_units]; omega)
theorem valueAt_of {kvs : List (Key × V)} {vs : List (Key × Value)} {k : Key} {y : V} (r : KV kvs vs) (e : valV kvs k = some y) : ∃ u, valueAt vs k = some u ∧ RelV y u :=
  RelO.some_of (v := y) (o := valueAt vs k) (by rw [← e]; exact r.val k)
/-- two dicts that are equal -/
def DEqT (K : PySem.W.Frag) (H : Hp) (n : Nat) (ka kb : List (Key × V)) : Prop := ka.length = kb.length ∧ ∀ k v, (k, v) ∈ ka → ∃ y, valV kb k = some y ∧ EqT K H n v y
theorem hitsT {pins : List (Addr × Obj)} {σ : St} {H : Hp} {s : Shared} {A : Around} {n : Nat} {kb : List (Key × V)} {vb : List (Key × Value)} (I : Inv X pins σ H s) (hu : A.units + n < cLine) (rb : KV kb vb) :
    ∀ {ka : List (Key × V)} {va : List (Key × Value)}, KV ka va → (∀ k v, (k, v) ∈ ka → ∃ y, valV kb k = some y ∧ EqT X.K H n v y) → PySem.W.KeqHits A s vb va true := by
  intro ka va ra
  unfold KV at ra
  induction ra with
  | nil => intro _; exact .nil
  | @cons p q ps qs h t ih =>
    intro f
    obtain ⟨y, e1, e2⟩ := f p.1 p.2 (List.mem_cons_self ..)
    obtain ⟨u, e3, ru⟩ := valueAt_of rb e1
    have z := PySem.W.KeqHits.hit (A := A) (s := s) (k := q.1) (v := q.2) (y := u) (r := qs) (by rw [← h.1]; exact e3) (eqT_at I n (A := A) e2 h.2 ru hu) (ih fun k v m => f k v (List.mem_cons_of_mem _ m))
    simpa using z
def rEqD (K : PySem.W.Frag) (b : Bool) : R2 := fun x y H Q => ∃ n p q ka kb, n ≤ 40 ∧ x = .ref p ∧ y = .ref q ∧ Rd H p (.dK ka) ∧ Rd H q (.dK kb) ∧ DEqT K H n ka kb ∧ Q (.bl b) H
theorem op_neD (hu : X.A.units + 64 < cLine) : OpR X (compareOp .NotEq) (rEqD X.K false) := by
  intro pins s σ H x y v u Q I rx ry h
  obtain ⟨n, p, q, ka, kb, hn, rfl, rfl, h1, h2, ⟨hl, al⟩, hq⟩ := h
  cases rx
  cases ry
  obtain ⟨z1, y1, va, r1, d1⟩ := dk_rd I.hok h1
  obtain ⟨z2, y2, vb, r2, d2⟩ := dk_rd I.hok h2
  have l1 : ka.length = va.length := KV.length r1
  have l2 : kb.length = vb.length := KV.length r2
  refine PySem.W.keq_ne (r := true) y1 y2 d1 d2 (by omega) (fun _ => hitsT I (by rw [in1_units]; omega) r2 r1 al) ?_
  have e : (va.length == vb.length && true) = true := by simp; omega
  rw [e]
  exact ⟨.bl false, H, I, rfl, hq⟩
theorem op_eqD (hu : X.A.units + 64 < cLine) : OpR X (compareOp .Eq) (rEqD X.K true) := by
  intro pins s σ H x y v u Q I rx ry h
  obtain ⟨n, p, q, ka, kb, hn, rfl, rfl, h1, h2, ⟨hl, al⟩, hq⟩ := h
  cases rx
  cases ry
  obtain ⟨z1, y1, va, r1, d1⟩ := dk_rd I.hok h1
  obtain ⟨z2, y2, vb, r2, d2⟩ := dk_rd I.hok h2
  have l1 : ka.length = va.length := KV.length r1
  have l2 : kb.length = vb.length := KV.length r2
  refine PySem.W.keq_eq (r := true) y1 y2 d1 d2 (by omega) (fun _ => hitsT I (by rw [in1_units]; omega) r2 r1 al) ?_
  have e : (va.length == vb.length && true) = true := by simp; omega
  rw [e]
  exact ⟨.bl true, H, I, rfl, hq⟩
end
end L2

/-! Steps of a reading, one lemma a word; heaps that grow. -/
namespace L2
open PySem PySem.Spec PyProof.Rows
section
variable {σ : St} {H : Hp} {Q : VK} {D : Ends} {K : PySem.W.Frag}
theorem a_seq {t u : TS} (h : t { D with nx := u D } σ H) : tSeq t u D σ H := h
/-- a join: R is whatever comes behind -/
theorem a_seqM {t u : TS} (M : St → Hp → Prop) (h1 : ∀ R : St → Hp → Prop, (∀ σ H, M σ H → R σ H) → t { D with nx := R } σ H) (h2 : ∀ σ H, M σ H → u D σ H) : tSeq t u D σ H := h1 (u D) h2
theorem a_asg {te : TE} {g : TG} (h : te σ H fun x H1 => g x σ H1 D.nx) : tAsg te g D σ H := h
theorem a_name {i : Nat} {v : V} {R : St → Hp → Prop} (h : R (σ.set i (some v)) H) : gName i v σ H R := h
theorem a_ret {te : TE} (h : te σ H D.rt) : tRet te D σ H := h
theorem a_retN (h : D.rt .non H) : tRetN D σ H := h
theorem a_drop {te : TE} (h : te σ H fun _ H1 => D.nx σ H1) : tDrop te D σ H := h
theorem a_next (h : D.nx σ H) : tNext D σ H := h
theorem a_if {c : TT} {t u : TS} (h : c σ H fun b H1 => if b = true then t D σ H1 else u D σ H1) : tIfS c t u D σ H := h
theorem a_var {i : Nat} {v : V} (e : σ[i]? = some (some v)) (h : Q v H) : tVar i σ H Q := ⟨v, e, h⟩
theorem a_c {v : V} (h : Q v H) : tC v σ H Q := h
theorem a_op {r : R2} {ta tb : TE} (h : ta σ H fun x H1 => tb σ H1 fun y H2 => r x y H2 Q) : tOp r ta tb σ H Q := h
theorem a_un {r : V → Hp → VK → Prop} {ta : TE} (h : ta σ H fun x H1 => r x H1 Q) : tUn r ta σ H Q := h
theorem a_I0 {g : Int → Int → V} {i j : Int} (h : Q (g i j) H) : rI0 g (.int i) (.int j) H Q := ⟨i, j, rfl, rfl, h⟩
theorem a_I {C : Int → Int → Prop} {g : Int → Int → V} {i j : Int} (c : C i j) (h : Q (g i j) H) : rI C g (.int i) (.int j) H Q := ⟨i, j, rfl, rfl, c, h⟩
theorem a_U {g : Int → V} {i : Int} (h : Q (g i) H) : rU g (.int i) H Q := ⟨i, rfl, h⟩
theorem a_test {t : TE} {R : Bool → Hp → Prop} (h : t σ H fun x H' => ∃ k, x = .bl k ∧ R k H') : tTest t σ H R := h
theorem a_tB {t : TE} {R : Bool → Hp → Prop} (h : t σ H fun x H' => ∃ k, x = .bl k ∧ R k H') : tB t σ H R := h
theorem a_bl {k : Bool} {R : Bool → Prop} (h : R k) : ∃ k', V.bl k = .bl k' ∧ R k' := ⟨k, rfl, h⟩
theorem a_eqI {i j : Int} (h : Q (.bl (decide (i = j))) H) : rEq (.int i) (.int j) H Q := ⟨rfl, by rw [dec_int, Bool.beq_eq_decide_eq]; exact h⟩
theorem a_neI {i j : Int} (h : Q (.bl (!decide (i = j))) H) : rNe (.int i) (.int j) H Q := ⟨rfl, by rw [dec_int, Bool.beq_eq_decide_eq]; exact h⟩
theorem a_eqB {i j : Bool} (h : Q (.bl (i == j)) H) : rEq (.bl i) (.bl j) H Q := ⟨rfl, by rw [dec_bl]; exact h⟩
theorem a_neB {i j : Bool} (h : Q (.bl (!(i == j))) H) : rNe (.bl i) (.bl j) H Q := ⟨rfl, by rw [dec_bl]; exact h⟩
theorem a_call {sp : Sp} {dvs : List V} {E : XK} {t : TA} (h : t σ H fun vs H1 => sp (vs ++ dvs) H1 Q E) : tCall sp dvs E t σ H Q := h
theorem a_cons {ta : TE} {tr : TA} {R : List V → Hp → Prop} (h : ta σ H fun x H1 => tr σ H1 fun xs H2 => R (x :: xs) H2) : tCons ta tr σ H R := h
theorem a_nil {R : List V → Hp → Prop} (h : R [] H) : tNil σ H R := h
theorem a_cb {r : List V → Hp → VK → Prop} {t : TA} (h : t σ H fun vs H1 => r vs H1 Q) : tCB r t σ H Q := h
theorem a_tup {t : TA} (h : t σ H fun xs H1 => xs.length ≤ sizeLine ∧ ∀ p, H1 p = none → Q (.ref p) (upd H1 p (.tup xs))) : tTup t σ H Q := h
theorem a_lst {t : TA} (h : t σ H fun xs H1 => xs.length ≤ sizeLine ∧ ∀ p, H1 p = none → Q (.ref p) (upd H1 p (.lst xs))) : tLst t σ H Q := h
theorem a_ixT {p : Addr} {xs : List V} {i : Int} {v : V} (h : SqT K H p xs) (e : atI xs i = some v) (q : Q v H) : rIxT K (.ref p) (.int i) H Q := ⟨p, xs, i, v, rfl, rfl, h, e, q⟩
theorem a_ixL {p : Addr} {xs : List V} {i : Int} {v : V} (h : SqL K H p xs) (e : atI xs i = some v) (q : Q v H) : rIxL K (.ref p) (.int i) H Q := ⟨p, xs, i, v, rfl, rfl, h, e, q⟩
theorem a_and {t u : TT} {R : Bool → Hp → Prop} (h : t σ H fun c H1 => if c = true then u σ H1 R else R false H1) : tAnd t u σ H R := h
theorem a_or {t u : TT} {R : Bool → Hp → Prop} (h : t σ H fun c H1 => if c = true then R true H1 else u σ H1 R) : tOr t u σ H R := h
theorem a_not {t : TT} {R : Bool → Hp → Prop} (h : t σ H fun c H1 => R (!c) H1) : tNot t σ H R := h
theorem a_andV {ta tb : TE} (h : ta σ H fun x H1 => ∃ c, x = .bl c ∧ if c = true then tb σ H1 Q else Q (.bl false) H1) : tAndV ta tb σ H Q := h
theorem a_orV {ta tb : TE} (h : ta σ H fun x H1 => ∃ c, x = .bl c ∧ if c = true then Q (.bl true) H1 else tb σ H1 Q) : tOrV ta tb σ H Q := h
theorem a_notV {ta : TE} (h : ta σ H fun x H1 => ∃ c, x = .bl c ∧ Q (.bl (!c)) H1) : tNotV ta σ H Q := h
theorem a_ifE {t : TT} {ta tb : TE} (h : t σ H fun c H1 => if c = true then ta σ H1 Q else tb σ H1 Q) : tIf t ta tb σ H Q := h
theorem a_par {i j : Nat} {ta : TA} (h : ta σ H fun vs H1 => ∃ v w, vs = [v, w] ∧ D.nx ((σ.set i (some v)).set j (some w)) H1) : tPar i j ta D σ H := h
theorem a_par2 {i j : Nat} {v w : V} {R : St → Hp → Prop} (h : R ((σ.set i (some v)).set j (some w)) H) : ∃ v' w', [v, w] = [v', w'] ∧ R ((σ.set i (some v')).set j (some w')) H := ⟨v, w, rfl, h⟩
/-- a cut: what holds behind the first statement -/
theorem a_cut {t u : TS} (M : St → Hp → Prop) (h1 : t { D with nx := M } σ H) (h2 : ∀ σ H, M σ H → u D σ H) (mono : ∀ D D' σ H, D.rt = D'.rt → D.bk = D'.bk → D.ct = D'.ct → (∀ σ H, D.nx σ H → D'.nx σ H) → t D σ H → t D' σ H) : tSeq t u D σ H :=
  mono { D with nx := M } { D with nx := u D } σ H rfl rfl rfl h2 h1
theorem iteD {c : Prop} [Decidable c] {A B : Prop} (h1 : c → A) (h2 : ¬ c → B) : if decide c = true then A else B := by
  by_cases h : c
  · rw [decide_eq_true h]; exact iteT (h1 h)
  · rw [decide_eq_false h]; exact iteF (h2 h)
theorem iteDN {c : Prop} [Decidable c] {A B : Prop} (h1 : ¬ c → A) (h2 : c → B) : if (!decide c) = true then A else B := by
  by_cases h : c
  · rw [decide_eq_true h]; exact iteF (h2 h)
  · rw [decide_eq_false h]; exact iteT (h1 h)
theorem iteDP {c : Prop} [Decidable c] {A B : Prop} (hc : c) (h : A) : if decide c = true then A else B := by rw [decide_eq_true hc]; exact iteT h
theorem iteDF {c : Prop} [Decidable c] {A B : Prop} (hc : ¬ c) (h : B) : if decide c = true then A else B := by rw [decide_eq_false hc]; exact iteF h
theorem iteNT {A B : Prop} (h : B) : if (!true) = true then A else B := iteF h
theorem iteNF {A B : Prop} (h : A) : if (!false) = true then A else B := iteT h
/-! ### heaps that grow -/
theorem Same.upd {a : Addr} {o : HO} (h : H a = none) : Same H (upd H a o) := fun b u e => by rw [upd_ne (ne_of_none e h)]; exact e
theorem Same.tup {H' : Hp} {a : Addr} {xs : List V} (e : Same H H') (h : SqT K H a xs) : SqT K H' a xs := by
  rcases h with (h | ⟨o, h⟩) | h
  · exact .inl (.inl (e _ _ h))
  · exact .inl (.inr ⟨o, e _ _ h⟩)
  · exact .inr h
theorem Same.rd {H' : Hp} {a : Addr} {u : HO} (e : Same H H') (h : Rd H a u) : Rd H' a u := by
  rcases h with h | ⟨o, h⟩
  · exact .inl (e _ _ h)
  · exact .inr ⟨o, e _ _ h⟩
/-- frozen, grown, thawed: as it was -/
theorem Same.thaw {H' : Hp} {a : Addr} {ob : Obj} {kvs : List (Key × V)} (h : H a = some (.dK kvs)) (e : Same (L2.upd H a (.frz ob (.dK kvs))) H') : Same H (L2.upd H' a (.dK kvs)) := fun b o q => by
  by_cases hb : b = a
  · subst hb; rw [upd_same]; rw [h] at q; exact q
  · rw [upd_ne hb]; exact e b o (by rw [upd_ne hb]; exact q)
theorem tup_frz {a b : Addr} {ob : Obj} {kvs : List (Key × V)} {xs : List V} (h : H a = some (.dK kvs)) (t : SqT K H b xs) : SqT K (L2.upd H a (.frz ob (.dK kvs))) b xs := by
  have ne : ∀ o, H b = some o → (∀ k, o ≠ .dK k) → b ≠ a := fun o e d z => by subst z; rw [h] at e; exact d _ (Option.some.inj e).symm
  rcases t with (t | ⟨o, t⟩) | t
  · exact .inl (.inl (by rw [upd_ne (ne _ t (fun _ z => by cases z))]; exact t))
  · exact .inl (.inr ⟨o, by rw [upd_ne (ne _ t (fun _ z => by cases z))]; exact t⟩)
  · exact .inr t
theorem tup_put {a b : Addr} {kvs : List (Key × V)} {o : HO} {xs : List V} (h : H a = some (.dK kvs)) (t : SqT K H b xs) : SqT K (L2.upd H a o) b xs := by
  have ne : ∀ o, H b = some o → (∀ k, o ≠ .dK k) → b ≠ a := fun o e d z => by subst z; rw [h] at e; exact d _ (Option.some.inj e).symm
  rcases t with (t | ⟨o, t⟩) | t
  · exact .inl (.inl (by rw [upd_ne (ne _ t (fun _ z => by cases z))]; exact t))
  · exact .inl (.inr ⟨o, by rw [upd_ne (ne _ t (fun _ z => by cases z))]; exact t⟩)
  · exact .inr t
end
end L2
namespace L2
open PySem PySem.Spec PyProof.Rows
section
variable {σ : St} {H : Hp} {Q : VK} {D : Ends} {K : PySem.W.Frag} {X : Cx}
theorem a_forD {td : TE} {g : TG} {tb : TS} (h : td σ H fun x H1 => ∃ a kvs, x = .ref a ∧ H1 a = some (.dK kvs) ∧ ∀ ob, (∀ o u, X.H₀ a ≠ some (.frz o u)) → ∃ W : Nat → Nat → St → Hp → Prop, (∃ m, W 0 m σ (upd H1 a (.frz ob (.dK kvs)))) ∧ ∀ i m σ H, W i m σ H →
      ((Itd a ob kvs).stop i H ∧ (ThawD X D).nx σ H) ∨ ((Itd a ob kvs).go i H ∧ ∃ N : St → Hp → Prop, (∀ σ' H', N σ' H' → ∃ m', m' < m ∧ W (i + 1) m' σ' H') ∧ ∀ x H', (Itd a ob kvs).yld i H x H' → g x σ H' fun σ2 H2 => tb { ThawD X D with nx := N, ct := N, bk := (ThawD X D).nx } σ2 H2)) :
    tForD X td g tb D σ H := h
theorem a_gtup2 {i j : Nat} {p : Addr} {x y : V} {R : St → Hp → Prop} (h : SqT K H p [x, y]) (q : R ((σ.set i (some x)).set j (some y)) H) : gTup K 2 (gCons (gName i) (gCons (gName j) gNil)) (.ref p) σ H R :=
  ⟨p, [x, y], rfl, h, rfl, x, [y], rfl, y, [], rfl, rfl, q⟩
theorem a_dput {td ty tv : TE} (h : tv σ H fun v H1 => td σ H1 fun x H2 => ty σ H2 fun y H3 => ∃ a H4, x = .ref a ∧ DPut H3 a y v H4 ∧ D.nx σ H4) : sDPut td ty tv D σ H := h
theorem a_dputK {a : Addr} {x : Str} {v : V} {kvs : List (Key × V)} {R : Hp → Prop} (h : H a = some (.dK kvs)) (hl : kvs.length < 100000) (q : R (upd H a (.dK (putK kvs (Sum.inr x) v)))) : ∃ a' H4, V.ref a = .ref a' ∧ DPut H a' (.str x) v H4 ∧ R H4 :=
  ⟨a, _, rfl, DPut.k (k := Sum.inr x) h (Nat.lt_trans hl (by decide)), q⟩
theorem a_dget {td ty : TE} (h : td σ H fun x H1 => ty σ H1 fun y H2 => ∃ a v, x = .ref a ∧ DGet H2 a y (some v) ∧ Q v H2) : tDGet td ty σ H Q := h
theorem a_dgetK {a : Addr} {x : Str} {v : V} {kvs : List (Key × V)} {R : V → Prop} (h : Rd H a (.dK kvs)) (e : valV kvs (Sum.inr x : Key) = some v) (q : R v) : ∃ a' v', V.ref a = .ref a' ∧ DGet H a' (kV (Sum.inr x)) (some v') ∧ R v' :=
  ⟨a, v, rfl, .inl ⟨kvs, Sum.inr x, h, rfl, e.symm⟩, q⟩
theorem a_dget2 {td ty tx : TE} (h : td σ H fun x H1 => ∃ a, x = .ref a ∧ IsD H1 a ∧ ty σ H1 fun y H2 => tx σ H2 fun z H3 => ∃ o, DGet H3 a y o ∧ Q (o.getD z) H3) : tDGet2 td ty tx σ H Q := h
theorem a_dpop2 {td ty tx : TE} (h : td σ H fun x H1 => ∃ a, x = .ref a ∧ IsD H1 a ∧ ty σ H1 fun y H2 => tx σ H2 fun z H3 => ∃ kvs k, H3 a = some (.dK kvs) ∧ y = kV k ∧
  (∀ v, valV kvs k = some v → Q v (upd H3 a (.dK (dropK kvs k)))) ∧ (valV kvs k = none → Q z H3)) : tDPop2 td ty tx σ H Q := h
theorem Same.updN {H' : Hp} {a : Addr} {o : HO} (e : Same H H') (n : H a = none) : Same H (L2.upd H' a o) := fun b u q => by rw [upd_ne (ne_of_none q n)]; exact e b u q
theorem a_sl {r : V → Option Int → Option Int → Hp → VK → Prop} {te : TE} {tl th : TO} (h : te σ H fun x H1 => tl σ H1 fun l H2 => th σ H2 fun u H3 => r x l u H3 Q) : tSl r te tl th σ H Q := h
theorem a_part {t : TE} {R : Option Int → Hp → Prop} (h : t σ H fun x H1 => ∃ i, x = .int i ∧ R (some i) H1) : tPart t σ H R := h
theorem a_pint {i : Int} {R : Int → Prop} (h : R i) : ∃ i', V.int i = .int i' ∧ R i' := ⟨i, rfl, h⟩
theorem a_noPart {R : Option Int → Hp → Prop} (h : R none H) : tNoPart σ H R := h
theorem cut_map {ns : List Int} {i j : Nat} : ∃ ns' : List Int, cutV (ns.map V.int) (some (i : Int)) (some (j : Int)) = ns'.map V.int ∧ ns'.length ≤ j - i := by
  refine ⟨(ns.drop (min i ns.length)).take (min j ns.length - min i ns.length), ?_, ?_⟩
  · unfold cutV
    rw [HT.sIx_nat, HT.sIx_nat, List.length_map, ← List.map_drop, ← List.map_take]
  · rw [List.length_take, List.length_drop]
    omega
end
end L2

/-! == through tuples and lists that hold dicts: it comes out True in this very model (a dict's hashes are the world's). -/
namespace L2
open PySem PySem.Spec PyProof.Rows
def EqW (P : Program) (w : World) (A : Around) (s : Shared) (u v : Value) : Prop := ∀ (E : Value → Shared → Prop) (Q : Bool → Shared → Prop), Q true s → wpAny (model P w) A (eqBool u v) Q E s
def RcW (P : Program) (w : World) (A : Around) (s : Shared) (u v : Value) : Prop := ∀ (E : Value → Shared → Prop) (Q : Value → Shared → Prop), Q (.bool true) s → wpAny (model P w) A (richCompare .Eq u v) Q E s
section
variable {P : Program} {w : World} {A : Around} {s : Shared}
theorem EqW.of_at {u v : Value} (h : SeqAt.EqAt A s u v true) : EqW P w A s u v := fun E Q q => h P w E Q q
theorem EqW.of_refs {a b : Addr} (h : RcW P w A s (.ref a) (.ref b)) : EqW P w A s (.ref a) (.ref b) := fun E Q q => by
  by_cases e : a = b
  · subst e
    exact SeqAt.EqAt.same _ P w E Q q
  · unfold eqBool
    refine wpAny_holding (wpAny_ite_split (fun z => absurd (Value.ref.inj (eq_of_beq z)) e) fun _ => ?_)
    exact wpAny_bind (h E _ (wpAny_truthy_bool q))
section
open PySem.AutoSeq1 (wpAny_loadPart')
theorem tupW (a b : Addr) (xs ys : Array Value) (n m : Nat) (da db : Option Addr) (sa sb : Array (Option Value)) (hz : xs.size = ys.size) :
    MeetsIn P w (Builtin.«tuple.__eq__» ⟨[.ref a, .ref b], []⟩) (fun A R s => s.heap.get? a = some ⟨.type "tuple", da, .seq xs n, sa⟩ ∧ s.heap.get? b = some ⟨.type "tuple", db, .seq ys m, sb⟩ ∧
      (∀ j (h1 : j < xs.size) (h2 : j < ys.size), EqW P w A.in1 s xs[j] ys[j]) ∧ R (.ok (.ret (.bool true))) s) := by
  refine .of_wp fun A R s h => ?_
  obtain ⟨hp, g, d, tk, os⟩ := s
  obtain ⟨ha, hb, he, hR⟩ := h
  have sub := AutoSeq1.sub_tuple_tuple
  have len : (xs.toList.zip ys.toList).length = xs.size := by simp; omega
  wp_walk using wpAny_loadPart' ha, wpAny_loadPart' hb, wpAny_forIn_list _ (fun r c s' => c.1 = none ∧ s' = ⟨hp, g, d, tk, os⟩ ∧ ∃ i, r = (xs.toList.zip ys.toList).drop i) _
  case turn =>
    rintro ⟨x, y⟩ r c s' ⟨hc, rfl, i, hr⟩
    by_cases lt : i < (xs.toList.zip ys.toList).length
    · rw [List.drop_eq_getElem_cons lt] at hr
      injection hr with e1 e2
      have i1 : i < xs.size := by omega
      have i2 : i < ys.size := by omega
      obtain ⟨ex, ey⟩ : x = xs[i] ∧ y = ys[i] := by
        have z := Prod.mk.inj (e1.trans List.getElem_zip)
        exact ⟨by simpa using z.1, by simpa using z.2⟩
      subst ex ey
      refine wpAny_bind (he i i1 i2 _ _ ?_)
      wp_walk
      exact ⟨rfl, rfl, i + 1, e2⟩
    · rw [List.drop_of_length_le (by omega)] at hr
      cases hr
  case fin =>
    rintro ⟨c1, c2⟩ s' ⟨hc, rfl, _⟩
    simp only at hc
    subst hc
    wp_walk
    refine ⟨_, rfl, ?_⟩
    simpa [Builtin.Tuple.tupleCompareSizes, hz] using hR
  case h => exact ⟨rfl, rfl, 0, rfl⟩
end
theorem RcW.tuples {a b : Addr} {xs ys : Array Value} (ha : IsTup s.heap a xs) (hb : IsTup s.heap b ys) (hz : xs.size = ys.size) (hu : A.units < cLine) (he : ∀ j (h1 : j < xs.size) (h2 : j < ys.size), EqW P w A.in1 s xs[j] ys[j]) : RcW P w A s (.ref a) (.ref b) := fun E Q q => by
  obtain ⟨⟨ca, da, xa, sa⟩, oa, ka, n, va⟩ := id ha
  obtain ⟨⟨cb, db, xb, sb⟩, ob, kb, m, vb⟩ := id hb
  simp only at ka va kb vb
  subst ka va kb vb
  refine wpAny_richCompare_same_room (op := .Eq) (T := "tuple") ⟨_, oa, rfl⟩ ⟨_, ob, rfl⟩ PySem.F.slot_tuple_eq ?_ hu
  exact call_meetsIn PySem.F.slot_tuple_eq ⟨_, oa, rfl⟩ PySem.F.entry_tuple_eq (PySem.F.args_tuple_eq_2 _ _) (tupW a b xs ys n m da db sa sb hz) ⟨oa, ob, he, ⟨(fun z => nomatch z), q⟩⟩
section
open PySem.AutoSeq1 (wpAny_loadPart')
open PySem.MeetsSeq PySem.MeetsSeq2 PySem.MeetsSeq3 PySem.SeqRoads2 PySem.SeqAt
theorem lstLoopW (a b : Addr) (xs ys : Array Value) (n m : Nat) (da db : Option Addr) (sa sb : Array (Option Value)) (hz : xs.size = ys.size) : ∀ (k i : Nat), xs.size - i = k →
    MeetsIn P w (Builtin.«list.__eq__.loop» ⟨[.ref a, .ref b, rawInt i, rawInt 2], []⟩) (fun A R s => s.heap.get? a = some ⟨.type "list", da, .seq xs n, sa⟩ ∧ s.heap.get? b = some ⟨.type "list", db, .seq ys m, sb⟩ ∧
      (∀ j (h1 : j < xs.size) (h2 : j < ys.size), EqW P w A.in1 s xs[j] ys[j]) ∧ R (.ok (.ret (.bool true))) s)
  | 0, i, hk => fun A R s h => by
    obtain ⟨hp, g, d, tk, os⟩ := s
    obtain ⟨ha, hb, he, hR⟩ := h
    wp_walk using wpAny_loadPart' ha, wpAny_loadPart' hb
    have z1 : xs[((i : Nat) : Int).toNat]? = none := by simp; omega
    have z2 : ys[((i : Nat) : Int).toNat]? = none := by simp; omega
    rw [z1, z2]
    wp_walk using wpAny_loadPart' ha, wpAny_loadPart' hb
    show R (.ok (.ret (.bool (xs.size == ys.size)))) _
    rw [hz, beq_self_eq_true]
    exact hR
  | k + 1, i, hk => fun A R s h => by
    obtain ⟨hp, g, d, tk, os⟩ := s
    obtain ⟨ha, hb, he, hR⟩ := h
    wp_walk using wpAny_loadPart' ha, wpAny_loadPart' hb
    have i1 : i < xs.size := by omega
    have i2 : i < ys.size := by omega
    have z1 : xs[((i : Nat) : Int).toNat]? = some xs[i] := by simp [i1]
    have z2 : ys[((i : Nat) : Int).toNat]? = some ys[i] := by simp [i2]
    rw [z1, z2]
    refine wpAny_bind (he i i1 i2 _ _ ?_)
    wp_walk
    have up : ((i : Int) + 1) = ((i + 1 : Nat) : Int) := Int.natCast_succ i
    rw [up]
    refine ⟨plainId_quiet plain_eq_loop _, codeAny_builtin entry_eq_loop ?_⟩
    rw [Around.under_plainId plain_eq_loop _]
    exact lstLoopW a b xs ys n m da db sa sb hz k (i + 1) (by omega) A R _ ⟨ha, hb, he, hR⟩
theorem lstW (a b : Addr) (xs ys : Array Value) (n m : Nat) (da db : Option Addr) (sa sb : Array (Option Value)) (hz : xs.size = ys.size) :
    MeetsIn P w (Builtin.«list.__eq__» ⟨[.ref a, .ref b], []⟩) (fun A R s => s.heap.get? a = some ⟨.type "list", da, .seq xs n, sa⟩ ∧ s.heap.get? b = some ⟨.type "list", db, .seq ys m, sb⟩ ∧
      (∀ j (h1 : j < xs.size) (h2 : j < ys.size), EqW P w A.in1 s xs[j] ys[j]) ∧ R (.ok (.ret (.bool true))) s) := fun A R s h => by
  obtain ⟨hp, g, d, tk, os⟩ := s
  obtain ⟨ha, hb, he, hR⟩ := h
  have sub := AutoSeq1.sub_list_list
  have same : ¬ (xs.size != ys.size) = true := by simp [hz]
  wp_walk using wpAny_loadPart' ha, wpAny_loadPart' hb
  refine ⟨plainId_quiet plain_eq_loop _, codeAny_builtin entry_eq_loop ?_⟩
  rw [Around.under_plainId plain_eq_loop _]
  exact lstLoopW a b xs ys n m da db sa sb hz _ 0 rfl A R _ ⟨ha, hb, he, hR⟩
end
theorem RcW.lists {a b : Addr} {xs ys : Array Value} (ha : s.heap.IsList a xs) (hb : s.heap.IsList b ys) (hz : xs.size = ys.size) (hu : A.units < cLine) (he : ∀ j (h1 : j < xs.size) (h2 : j < ys.size), EqW P w A.in1 s xs[j] ys[j]) : RcW P w A s (.ref a) (.ref b) := fun E Q q => by
  obtain ⟨⟨ca, da, xa, sa⟩, oa, ka, n, va⟩ := id ha
  obtain ⟨⟨cb, db, xb, sb⟩, ob, kb, m, vb⟩ := id hb
  simp only at ka va kb vb
  subst ka va kb vb
  refine wpAny_richCompare_same_room (op := .Eq) (T := "list") ⟨_, oa, rfl⟩ ⟨_, ob, rfl⟩ PySem.F.slot_list_eq ?_ hu
  exact call_meetsIn PySem.F.slot_list_eq ⟨_, oa, rfl⟩ PySem.F.entry_list_eq (PySem.F.args_list_eq_2 _ _) (lstW a b xs ys n m da db sa sb hz) ⟨oa, ob, he, ⟨(fun z => nomatch z), q⟩⟩
end
/-- flat values; tuples and lists of such; dicts by texts of what has no dict: n deep -/
def EqN (K : PySem.W.Frag) (H : Hp) : Nat → V → V → Prop
  | 0, x, y => flatV x = true ∧ x = y
  | n + 1, x, y => (flatV x = true ∧ x = y) ∨ ∃ p q, x = .ref p ∧ y = .ref q ∧ ((∃ xs ys, ((SqT K H p xs ∧ SqT K H q ys) ∨ (SqL K H p xs ∧ SqL K H q ys)) ∧ All2 (EqN K H n) xs ys) ∨
      ∃ ka kb, Rd H p (.dK ka) ∧ Rd H q (.dK kb) ∧ DEqT K H n ka kb)
section
variable {X : Cx} {pins : List (Addr × Obj)} {σ : St} {H : Hp} {s : Shared}
theorem rcW_seq {A : Around} {p q : Addr} {xs ys : List V} (I : Inv X pins σ H s) (hk : (SqT X.K H p xs ∧ SqT X.K H q ys) ∨ (SqL X.K H p xs ∧ SqL X.K H q ys)) (hu : A.units < cLine) (hl : xs.length = ys.length)
    (he : ∀ (j : Nat) x y u v, xs[j]? = some x → ys[j]? = some y → RelV x u → RelV y v → EqW X.prog X.w A.in1 s u v) : RcW X.prog X.w A s (.ref p) (.ref q) := by
  have fin : ∀ (us vs : List Value), Vals xs us → Vals ys vs → ∀ j (h1 : j < us.toArray.size) (h2 : j < vs.toArray.size), EqW X.prog X.w A.in1 s us.toArray[j] vs.toArray[j] := by
    intro us vs r1 r2 j h1 h2
    have l1 := r1.length
    have l2 := r2.length
    simp only [List.size_toArray] at h1 h2
    obtain ⟨u, e1, ru⟩ := r1.get (i := j) (x := xs[j]'(by omega)) (by simp)
    obtain ⟨v, e2, rv⟩ := r2.get (i := j) (x := ys[j]'(by omega)) (by simp)
    obtain ⟨_, f1⟩ := List.getElem?_eq_some_iff.mp e1
    obtain ⟨_, f2⟩ := List.getElem?_eq_some_iff.mp e2
    have g1 : us.toArray[j]'(by simpa using h1) = u := by simpa using f1
    have g2 : vs.toArray[j]'(by simpa using h2) = v := by simpa using f2
    rw [g1, g2]
    exact he j _ _ u v (by simp) (by simp) ru rv
  rcases hk with ⟨h1, h2⟩ | ⟨h1, h2⟩
  · obtain ⟨us, r1, t1, _⟩ := I.tuple h1
    obtain ⟨vs, r2, t2, _⟩ := I.tuple h2
    have l1 := r1.length
    have l2 := r2.length
    exact RcW.tuples t1 t2 (by simp; omega) hu (fin us vs r1 r2)
  · obtain ⟨us, r1, t1, _⟩ := I.list h1
    obtain ⟨vs, r2, t2, _⟩ := I.list h2
    have l1 := r1.length
    have l2 := r2.length
    exact RcW.lists t1.isList t2.isList (by simp; omega) hu (fin us vs r1 r2)
theorem rcW_dict {A : Around} {p q : Addr} {n : Nat} {ka kb : List (Key × V)} (I : Inv X pins σ H s) (h1 : Rd H p (.dK ka)) (h2 : Rd H q (.dK kb)) (hu : A.units + n + 1 < cLine) (h : DEqT X.K H n ka kb) : RcW X.prog X.w A s (.ref p) (.ref q) := fun E Q hq => by
  obtain ⟨hl, al⟩ := h
  obtain ⟨z1, y1, va, r1, d1⟩ := dk_rd I.hok h1
  obtain ⟨z2, y2, vb, r2, d2⟩ := dk_rd I.hok h2
  have l1 : ka.length = va.length := KV.length r1
  have l2 : kb.length = vb.length := KV.length r2
  refine PySem.W.keq_eq (r := true) y1 y2 d1 d2 (by omega) (fun _ => hitsT I (by rw [in1_units]; omega) r2 r1 al) ?_
  have e : (va.length == vb.length && true) = true := by simp; omega
  rw [e]
  exact hq
theorem eqN_at (I : Inv X pins σ H s) : ∀ (n : Nat) {A : Around} {x y : V} {u v : Value}, EqN X.K H n x y → RelV x u → RelV y v → A.units + n + 1 < cLine → EqW X.prog X.w A s u v
  | 0, A, x, y, u, v, ⟨f, e⟩, ru, rv, _ => by
    subst e
    have z := eqAt_V (A := A) (s := s) ru rv f f
    rw [eqV_refl f] at z
    exact .of_at z
  | n + 1, A, x, y, u, v, .inl ⟨f, e⟩, ru, rv, _ => by
    subst e
    have z := eqAt_V (A := A) (s := s) ru rv f f
    rw [eqV_refl f] at z
    exact .of_at z
  | n + 1, A, x, y, u, v, .inr ⟨p, q, hx, hy, .inl ⟨xs, ys, hk, al⟩⟩, ru, rv, hu => by
    subst hx hy
    cases ru
    cases rv
    refine .of_refs (rcW_seq I hk (by omega) al.length fun j x y u v h1 h2 r1 r2 => ?_)
    exact eqN_at I n (A := A.in1) (al.get h1 h2) r1 r2 (by rw [in1_units]; omega)
  | n + 1, A, x, y, u, v, .inr ⟨p, q, hx, hy, .inr ⟨ka, kb, h1, h2, h⟩⟩, ru, rv, hu => by
    subst hx hy
    cases ru
    cases rv
    exact .of_refs (rcW_dict I h1 h2 (by omega) h)
end
section
variable {X : Cx}
/-- two tuples or two lists, equal -/
def rEqN (K : PySem.W.Frag) : R2 := fun x y H Q => ∃ n p q xs ys, n ≤ 40 ∧ x = .ref p ∧ y = .ref q ∧ ((SqT K H p xs ∧ SqT K H q ys) ∨ (SqL K H p xs ∧ SqL K H q ys)) ∧ All2 (EqN K H n) xs ys ∧ Q (.bl true) H
theorem op_eqN (hu : X.A.units + 64 < cLine) : OpR X (compareOp .Eq) (rEqN X.K) := by
  intro pins s σ H x y v u Q I rx ry h
  obtain ⟨n, p, q, xs, ys, hn, rfl, rfl, hk, al, hq⟩ := h
  cases rx
  cases ry
  refine rcW_seq I hk (by omega) al.length (fun j x y u v h1 h2 r1 r2 => ?_) X.xe _ ⟨.bl true, H, I, rfl, hq⟩
  exact eqN_at I n (A := X.A.in1) (al.get h1 h2) r1 r2 (by rw [in1_units]; omega)
end
end L2

namespace Sf
def gd (a b : Int) : Int := (Int.gcd a b : Nat)
theorem gd_nn (a b : Int) : 0 ≤ gd a b := Int.natCast_nonneg _
theorem gd_zero (a : Int) (h : 0 ≤ a) : gd a 0 = a := by
  unfold gd; rw [Int.gcd_zero_right]; omega
theorem gd_mod {a b : Int} (ha : 0 ≤ a) (hb : 0 < b) : gd b (a % b) = gd a b := by
  unfold gd Int.gcd
  have e : (a % b).natAbs = a.natAbs % b.natAbs := by
    obtain ⟨m, rfl⟩ := Int.eq_ofNat_of_zero_le ha
    obtain ⟨n, rfl⟩ := Int.eq_ofNat_of_zero_le (Int.le_of_lt hb)
    simp only [Int.natAbs_natCast]
    rw [← Int.natCast_emod, Int.natAbs_natCast]
  rw [e, Nat.gcd_comm b.natAbs, Nat.gcd_comm a.natAbs, Nat.gcd_rec b.natAbs a.natAbs]
theorem gd_pos {a b : Int} (h : b ≠ 0) : 0 < gd a b := by
  unfold gd
  have := Int.gcd_pos_of_ne_zero_right a h
  omega
theorem gd_abs (a b : Int) : gd (a.natAbs : Int) (b.natAbs : Int) = gd a b := by
  unfold gd; simp [Int.gcd]
theorem abs_if (a : Int) : (if a < 0 then -a else a) = (a.natAbs : Int) := by split <;> omega
theorem gd_abs' (a b : Int) : gd (if a < 0 then -a else a) (if b < 0 then -b else b) = gd a b := by
  rw [abs_if, abs_if, gd_abs]
/-- the divisor as part takes it -/
def dv (t b : Int) : Int := if b < 0 then -(gd t b) else gd t b
theorem dv_ne {t b : Int} (h : b ≠ 0) : dv t b ≠ 0 := by
  have := gd_pos (a := t) h
  unfold dv; split <;> omega
theorem gd_dvd_l (t b : Int) : gd t b ∣ t := Int.gcd_dvd_left ..
theorem gd_dvd_r (t b : Int) : gd t b ∣ b := Int.gcd_dvd_right ..
theorem dv_dvd_l (t b : Int) : dv t b ∣ t := by
  unfold dv; split
  · exact Int.neg_dvd.mpr (gd_dvd_l t b)
  · exact gd_dvd_l t b
theorem dv_dvd_r (t b : Int) : dv t b ∣ b := by
  unfold dv; split
  · exact Int.neg_dvd.mpr (gd_dvd_r t b)
  · exact gd_dvd_r t b
theorem fd_ex {x d : Int} (h : d ∣ x) : x.fdiv d * d = x := by
  rw [Int.fdiv_mul_cancel h]
theorem part_num {t b : Int} (h : b ≠ 0) : t.fdiv (dv t b) = (Rat.divInt t b).num := by
  have hd := dv_ne (t := t) h
  refine Int.eq_of_mul_eq_mul_right hd ?_
  rw [fd_ex (dv_dvd_l t b), Rat.num_divInt]
  have e : b.gcd t = t.gcd b := Int.gcd_comm ..
  rw [e]
  have hg : ((t.gcd b : Nat) : Int) ∣ t := Int.gcd_dvd_left ..
  have hp := gd_pos (a := t) h
  unfold gd at hp
  unfold dv gd
  rw [Int.mul_ediv_assoc _ hg]
  obtain ⟨k, hk⟩ := hg
  generalize hG : ((t.gcd b : Nat) : Int) = g at *
  have hk2 : t / g = k := by rw [hk]; exact Int.mul_ediv_cancel_left k (by omega)
  rw [hk2]
  split
  · rename_i hb
    rw [Int.sign_eq_neg_one_of_neg hb]; grind
  · rename_i hb
    rw [Int.sign_eq_one_of_pos (by omega)]; grind
theorem part_den {t b : Int} (h : b ≠ 0) : b.fdiv (dv t b) = ((Rat.divInt t b).den : Int) := by
  have hd := dv_ne (t := t) h
  refine Int.eq_of_mul_eq_mul_right hd ?_
  rw [fd_ex (dv_dvd_r t b), Rat.den_divInt, if_neg h]
  have e : b.gcd t = t.gcd b := Int.gcd_comm ..
  rw [e]
  have hg : (t.gcd b) ∣ b.natAbs := by rw [← Int.ofNat_dvd_left]; exact Int.gcd_dvd_right ..
  have hp := gd_pos (a := t) h
  unfold gd at hp
  unfold dv gd
  obtain ⟨k, hk⟩ := hg
  have hk2 : b.natAbs / t.gcd b = k := by rw [hk]; exact Nat.mul_div_cancel_left k (by omega)
  rw [hk2]
  generalize t.gcd b = g at *
  have hk3 : (b.natAbs : Int) = (g : Int) * (k : Int) := by rw [hk]; exact Int.natCast_mul ..
  split <;> grind
theorem gd_num_den (q : Rat) : gd q.num q.den = 1 := by
  have := q.reduced
  unfold gd Int.gcd
  rw [Int.natAbs_natCast, this]; rfl
theorem den_pos (q : Rat) : 0 < (q.den : Int) := by have := q.den_nz; omega
theorem cross {t b : Int} (h : b ≠ 0) : (Rat.divInt t b).num * b = (Rat.divInt t b).den * t := by
  have := Rat.divInt_num_den (n := t) (d := b) h (n' := (Rat.divInt t b).num) (d' := (Rat.divInt t b).den) (z' := (Rat.divInt t b).den_nz) (c := (Rat.divInt t b).reduced) rfl
  obtain ⟨m, hm, e1, e2⟩ := this
  generalize (Rat.divInt t b).num = n at *
  generalize ((Rat.divInt t b).den : Int) = d at *
  rw [e1, e2]; grind
end Sf
namespace Sf
/-- top and bottom below 2^n -/
def Sm (n : Nat) (q : Rat) : Prop := q.num.natAbs < 2 ^ n ∧ q.den < 2 ^ n
theorem Sm.mono {n m : Nat} {q : Rat} (h : Sm n q) (k : n ≤ m) : Sm m q :=
  ⟨Nat.lt_of_lt_of_le h.1 (Nat.pow_le_pow_right (by decide) k), Nat.lt_of_lt_of_le h.2 (Nat.pow_le_pow_right (by decide) k)⟩
theorem divInt_le {t b : Int} (h : b ≠ 0) : (Rat.divInt t b).num.natAbs ≤ t.natAbs ∧ (Rat.divInt t b).den ≤ b.natAbs := by
  obtain ⟨m, hm, e1, e2⟩ := Rat.divInt_num_den (n := t) (d := b) h (n' := (Rat.divInt t b).num) (d' := (Rat.divInt t b).den) (z' := (Rat.divInt t b).den_nz) (c := (Rat.divInt t b).reduced) rfl
  have hm1 : 1 ≤ m.natAbs := by omega
  have a1 := congrArg Int.natAbs e1
  have a2 := congrArg Int.natAbs e2
  rw [Int.natAbs_mul] at a1 a2
  rw [Int.natAbs_natCast] at a2
  constructor
  · rw [a1]; exact Nat.le_mul_of_pos_right _ hm1
  · rw [a2]; exact Nat.le_mul_of_pos_right _ hm1
theorem sm_divInt {n : Nat} {t b : Int} (h : b ≠ 0) (h1 : t.natAbs < 2 ^ n) (h2 : b.natAbs < 2 ^ n) : Sm n (Rat.divInt t b) :=
  ⟨Nat.lt_of_le_of_lt (divInt_le h).1 h1, Nat.lt_of_le_of_lt (divInt_le h).2 h2⟩
theorem add_divInt (a b : Rat) : a + b = Rat.divInt (a.num * b.den + b.num * a.den) (a.den * b.den) := by
  rw [Rat.add_def', ← Rat.divInt_ofNat]
  rfl
theorem sub_divInt (a b : Rat) : a - b = Rat.divInt (a.num * b.den - b.num * a.den) (a.den * b.den) := by
  rw [Rat.sub_def', ← Rat.divInt_ofNat]
  rfl
theorem mul_divInt (a b : Rat) : a * b = Rat.divInt (a.num * b.num) (a.den * b.den) := by
  rw [Rat.mul_def', ← Rat.divInt_ofNat]
  rfl
theorem dens_ne (a b : Rat) : (a.den * b.den : Int) ≠ 0 := by
  have h1 := den_pos a
  have h2 := den_pos b
  exact Int.ne_of_gt (Int.mul_pos h1 h2)
theorem lt_mul {x y n m : Nat} (h1 : x < 2 ^ n) (h2 : y < 2 ^ m) : x * y < 2 ^ (n + m) := by
  rw [Nat.pow_add]
  exact Nat.mul_lt_mul'' h1 h2
theorem abs_mul_lt {x y : Int} {n m : Nat} (h1 : x.natAbs < 2 ^ n) (h2 : y.natAbs < 2 ^ m) : (x * y).natAbs < 2 ^ (n + m) := by
  rw [Int.natAbs_mul]; exact lt_mul h1 h2
theorem abs_add_lt {x y : Int} {n : Nat} (h1 : x.natAbs < 2 ^ n) (h2 : y.natAbs < 2 ^ n) : (x + y).natAbs < 2 ^ (n + 1) := by
  rw [Nat.pow_succ]; omega
theorem abs_sub_lt {x y : Int} {n : Nat} (h1 : x.natAbs < 2 ^ n) (h2 : y.natAbs < 2 ^ n) : (x - y).natAbs < 2 ^ (n + 1) := by
  rw [Nat.pow_succ]; omega
theorem den_abs {n : Nat} {q : Rat} (h : Sm n q) : (q.den : Int).natAbs < 2 ^ n := by rw [Int.natAbs_natCast]; exact h.2
theorem up2 {x : Int} {n m : Nat} (h : x.natAbs < 2 ^ n) (k : n ≤ m) : x.natAbs < 2 ^ m := Nat.lt_of_lt_of_le h (Nat.pow_le_pow_right (by decide) k)
theorem sm_add {n m : Nat} {a b : Rat} (h1 : Sm n a) (h2 : Sm m b) : Sm (n + m + 1) (a + b) := by
  rw [add_divInt]
  refine sm_divInt (dens_ne a b) ?_ ?_
  · refine abs_add_lt (abs_mul_lt h1.1 (den_abs h2)) ?_
    rw [Nat.add_comm n m]; exact abs_mul_lt h2.1 (den_abs h1)
  · exact up2 (abs_mul_lt (den_abs h1) (den_abs h2)) (by omega)
theorem sm_sub {n m : Nat} {a b : Rat} (h1 : Sm n a) (h2 : Sm m b) : Sm (n + m + 1) (a - b) := by
  rw [sub_divInt]
  refine sm_divInt (dens_ne a b) ?_ ?_
  · refine abs_sub_lt (abs_mul_lt h1.1 (den_abs h2)) ?_
    rw [Nat.add_comm n m]; exact abs_mul_lt h2.1 (den_abs h1)
  · exact up2 (abs_mul_lt (den_abs h1) (den_abs h2)) (by omega)
theorem sm_mul {n m : Nat} {a b : Rat} (h1 : Sm n a) (h2 : Sm m b) : Sm (n + m) (a * b) := by
  rw [mul_divInt]
  exact sm_divInt (dens_ne a b) (abs_mul_lt h1.1 h2.1) (abs_mul_lt (den_abs h1) (den_abs h2))
theorem sm_zero : Sm 1 0 := ⟨by decide, by decide⟩
theorem sm_neg {n : Nat} {a : Rat} (h : Sm n a) : Sm n (-a) := ⟨by rw [Rat.neg_num, Int.natAbs_neg]; exact h.1, h.2⟩
theorem num_zero {q : Rat} : q.num = 0 ↔ q = 0 := Rat.num_eq_zero
end Sf
namespace Sf
section
variable {κ : Type} [DecidableEq κ]
abbrev FL (κ : Type) := List (κ × Rat)
def gt (m : FL κ) (k : κ) : Option Rat := (m.find? fun p => decide (p.1 = k)).map (·.2)
def pt (m : FL κ) (k : κ) (q : Rat) : FL κ := if (m.any fun p => decide (p.1 = k)) = true then m.map (fun p => if p.1 = k then (p.1, q) else p) else m ++ [(k, q)]
def dr (m : FL κ) (k : κ) : FL κ := m.filter fun p => decide (p.1 ≠ k)
def nz (m : FL κ) : FL κ := m.filter fun p => decide (p.2 ≠ 0)
def sc (m : FL κ) (n : Rat) : FL κ := m.map fun p => (p.1, p.2 * n)
def val : FL κ → (κ → Rat) → Rat
  | [], _ => 0
  | p :: r, P => p.2 * P p.1 + val r P
def Nd (m : FL κ) : Prop := (m.map (·.1)).Nodup
theorem gt_nil (k : κ) : gt ([] : FL κ) k = none := rfl
theorem gt_pos {p : κ × Rat} {r : FL κ} {k : κ} (e : p.1 = k) : gt (p :: r) k = some p.2 := by simp [gt, List.find?_cons, e]
theorem gt_neg {p : κ × Rat} {r : FL κ} {k : κ} (e : ¬ p.1 = k) : gt (p :: r) k = gt r k := by simp [gt, List.find?_cons, e]
theorem gt_any (k : κ) : ∀ m : FL κ, (m.any fun p => decide (p.1 = k)) = (gt m k).isSome
  | [] => rfl
  | p :: r => by
    rw [List.any_cons]
    by_cases e : p.1 = k
    · simp [gt_pos e, e]
    · rw [gt_neg e, gt_any k r]; simp [e]
theorem gt_none_iff (k : κ) : ∀ m : FL κ, gt m k = none ↔ k ∉ m.map (·.1)
  | [] => by simp [gt_nil]
  | p :: r => by
    by_cases e : p.1 = k
    · simp [gt_pos e, e]
    · rw [gt_neg e, gt_none_iff k r]; simp [Ne.symm e]
theorem gt_mem {k : κ} {q : Rat} : ∀ {m : FL κ}, gt m k = some q → (k, q) ∈ m
  | p :: r, h => by
    by_cases e : p.1 = k
    · rw [gt_pos e] at h
      injection h with h
      rw [← e, ← h]; exact List.mem_cons_self ..
    · rw [gt_neg e] at h; exact List.mem_cons_of_mem _ (gt_mem h)
theorem gt_of_mem {k : κ} {q : Rat} : ∀ {m : FL κ}, Nd m → (k, q) ∈ m → gt m k = some q
  | p :: r, n, h => by
    obtain ⟨n1, n2⟩ := List.nodup_cons.mp (show (p.1 :: r.map (·.1)).Nodup from n)
    rcases List.mem_cons.mp h with e | h
    · subst e; exact gt_pos rfl
    · have ne : ¬ p.1 = k := fun z => n1 (by rw [z]; exact List.mem_map.mpr ⟨_, h, rfl⟩)
      rw [gt_neg ne]; exact gt_of_mem n2 h
theorem val_app (P : κ → Rat) : ∀ a b : FL κ, val (a ++ b) P = val a P + val b P
  | [], b => by simp [val, Rat.zero_add]
  | p :: r, b => by simp only [List.cons_append, val, val_app P r b]; grind
theorem val_repl (k : κ) (q : Rat) (P : κ → Rat) : ∀ m : FL κ, Nd m → val (m.map (fun p => if p.1 = k then (p.1, q) else p)) P = val m P + (if (gt m k).isSome then (q - (gt m k).getD 0) * P k else 0)
  | [], _ => by simp [val, gt_nil, Rat.add_zero]
  | p :: r, n => by
    obtain ⟨n1, n2⟩ := List.nodup_cons.mp (show (p.1 :: r.map (·.1)).Nodup from n)
    have ih := val_repl k q P r n2
    by_cases e : p.1 = k
    · have hn : gt r k = none := (gt_none_iff k r).mpr (e ▸ n1)
      rw [List.map_cons, gt_pos e]
      simp only [hn] at ih
      simp only [if_pos e, val, ih]
      rw [e]; simp; grind
    · rw [List.map_cons, gt_neg e]
      simp only [if_neg e, val, ih]; grind
theorem val_pt {m : FL κ} (n : Nd m) (k : κ) (q : Rat) (P : κ → Rat) : val (pt m k q) P = val m P + (q - (gt m k).getD 0) * P k := by
  unfold pt
  by_cases h : (m.any fun p => decide (p.1 = k)) = true
  · rw [if_pos h, val_repl k q P m n]
    rw [gt_any] at h
    rw [if_pos h]
  · rw [if_neg h, val_app]
    have hn : gt m k = none := by
      rw [gt_any] at h
      cases z : gt m k with
      | none => rfl
      | some _ => rw [z] at h; simp at h
    rw [hn]; simp [val]; grind
theorem val_nz (P : κ → Rat) : ∀ m : FL κ, val (nz m) P = val m P
  | [] => rfl
  | p :: r => by
    have ih := val_nz P r
    unfold nz at ih ⊢
    by_cases h : p.2 = 0
    · rw [List.filter_cons_of_neg (by simp [h])]; simp only [val, ih, h]; grind
    · rw [List.filter_cons_of_pos (by simp [h])]; simp only [val, ih]
theorem val_sc (n : Rat) (P : κ → Rat) : ∀ m : FL κ, val (sc m n) P = n * val m P
  | [] => by simp [sc, val]
  | p :: r => by
    have ih := val_sc n P r
    unfold sc at ih ⊢
    simp only [List.map_cons, val, ih]; grind
theorem val_dr (k : κ) (P : κ → Rat) : ∀ {m : FL κ}, Nd m → val (dr m k) P = val m P - (gt m k).getD 0 * P k
  | [], _ => by simp [dr, val, gt_nil]; grind
  | p :: r, n => by
    obtain ⟨n1, n2⟩ := List.nodup_cons.mp (show (p.1 :: r.map (·.1)).Nodup from n)
    have ih := val_dr k P n2
    unfold dr at ih ⊢
    by_cases e : p.1 = k
    · have hn : gt r k = none := (gt_none_iff k r).mpr (e ▸ n1)
      rw [List.filter_cons_of_neg (by simp [e]), gt_pos e, ih, hn]
      simp only [val, e]; simp; grind
    · rw [List.filter_cons_of_pos (by simp [e]), gt_neg e]
      simp only [val, ih]; grind
theorem pt_new {m : FL κ} {k : κ} (q : Rat) (h : gt m k = none) : pt m k q = m ++ [(k, q)] := by
  unfold pt; rw [gt_any, h]; rfl
theorem nd_filter (f : κ × Rat → Bool) {m : FL κ} (n : Nd m) : Nd (m.filter f) := by
  unfold Nd at *
  exact List.Pairwise.sublist (List.Sublist.map _ List.filter_sublist) n
theorem keys_repl (k : κ) (q : Rat) (m : FL κ) : (m.map (fun p => if p.1 = k then (p.1, q) else p)).map (·.1) = m.map (·.1) := by
  rw [List.map_map]
  refine List.map_congr_left fun p _ => ?_
  show (if p.1 = k then (p.1, q) else p).1 = p.1
  split <;> rfl
theorem nd_pt {m : FL κ} (n : Nd m) (k : κ) (q : Rat) : Nd (pt m k q) := by
  unfold pt
  by_cases h : (m.any fun p => decide (p.1 = k)) = true
  · rw [if_pos h]; unfold Nd; rw [keys_repl]; exact n
  · rw [if_neg h]
    have hn : gt m k = none := by
      rw [gt_any] at h
      cases z : gt m k with
      | none => rfl
      | some _ => rw [z] at h; simp at h
    unfold Nd at *
    rw [List.map_append]
    refine List.nodup_append.mpr ⟨n, by simp, ?_⟩
    intro a ha b hb
    have : b = k := by simpa using hb
    subst this
    exact fun z => (gt_none_iff b m).mp hn (z ▸ ha)
theorem nd_sc {m : FL κ} (n : Nd m) (x : Rat) : Nd (sc m x) := by
  unfold Nd sc at *; rw [List.map_map]; exact n
theorem gt_repl (k j : κ) (q : Rat) : ∀ m : FL κ, gt (m.map (fun p => if p.1 = k then (p.1, q) else p)) j = (gt m j).map fun x => if j = k then q else x
  | [] => rfl
  | p :: r => by
    have ih := gt_repl k j q r
    rw [List.map_cons]
    by_cases h : p.1 = k
    · rw [if_pos h]
      by_cases e : p.1 = j
      · rw [gt_pos (p := (p.1, q)) e, gt_pos e]; simp [← e, h]
      · rw [gt_neg (p := (p.1, q)) e, gt_neg e, ih]
    · rw [if_neg h]
      by_cases e : p.1 = j
      · rw [gt_pos e, gt_pos e]; simp [← e, h]
      · rw [gt_neg e, gt_neg e, ih]
theorem gt_snoc (k j : κ) (q : Rat) : ∀ m : FL κ, gt m k = none → gt (m ++ [(k, q)]) j = if j = k then some q else gt m j
  | [], _ => by
    by_cases e : k = j
    · rw [if_pos e.symm]; exact gt_pos (p := (k, q)) e
    · rw [if_neg (Ne.symm e)]; exact gt_neg (p := (k, q)) e
  | p :: r, h => by
    have hk : ¬ p.1 = k := fun z => by rw [gt_pos z] at h; cases h
    rw [gt_neg hk] at h
    have ih := gt_snoc k j q r h
    rw [List.cons_append]
    by_cases e : p.1 = j
    · rw [gt_pos e, gt_pos e, if_neg (fun z => hk (e.trans z))]
    · rw [gt_neg e, gt_neg e, ih]
theorem gt_pt (m : FL κ) (k j : κ) (q : Rat) : gt (pt m k q) j = if j = k then some q else gt m j := by
  unfold pt
  by_cases h : (m.any fun p => decide (p.1 = k)) = true
  · rw [if_pos h, gt_repl]
    rw [gt_any] at h
    by_cases e : j = k
    · subst e
      obtain ⟨x, hx⟩ := Option.isSome_iff_exists.mp h
      simp [hx]
    · simp [e]
  · rw [if_neg h]
    refine gt_snoc k j q m ?_
    rw [gt_any] at h
    cases z : gt m k with
    | none => rfl
    | some _ => rw [z] at h; simp at h
/-- a value along a list, from the left -/
def run (P : κ → Rat) (r : Rat) (m : FL κ) : Rat := m.foldl (fun t p => t + p.2 * P p.1) r
theorem run_eq (P : κ → Rat) : ∀ (m : FL κ) (r : Rat), run P r m = r + val m P
  | [], r => by simp [run, val, Rat.add_zero]
  | p :: m, r => by
    have ih := run_eq P m (r + p.2 * P p.1)
    unfold run at ih ⊢
    rw [List.foldl_cons, ih]; simp only [val]; grind
end
end Sf
namespace Sf
section
variable {κ : Type} [DecidableEq κ]
theorem take_snoc {α : Type} {m : List α} {i : Nat} {p : α} (e : m[i]? = some p) : m.take (i + 1) = m.take i ++ [p] := by
  rw [List.take_add_one, e]; rfl
theorem nd_fresh {m : FL κ} (n : Nd m) {i : Nat} {x : κ} {q : Rat} (e : m[i]? = some (x, q)) : gt (m.take i) x = none := by
  rw [gt_none_iff]
  intro h
  have hi : i < m.length := (List.getElem?_eq_some_iff.mp e).1
  have hm : (m.map (·.1))[i]? = some x := by rw [List.getElem?_map, e]; rfl
  rw [List.map_take] at h
  obtain ⟨j, hj, ej⟩ := List.mem_take_iff_getElem.mp h
  have hj' : j < i := by simp at hj; omega
  have n' : (m.map (·.1)).Nodup := n
  have := List.getElem?_eq_some_iff.mp hm
  obtain ⟨hi2, ei⟩ := this
  have := (List.pairwise_iff_getElem.mp n') j i (by omega) hi2 hj'
  exact this (by rw [ei]; exact ej)
theorem nz_app (a b : FL κ) : nz (a ++ b) = nz a ++ nz b := List.filter_append ..
theorem nz_snoc {m : FL κ} {i : Nat} {x : κ} {q : Rat} (e : m[i]? = some (x, q)) (h : ¬ q = 0) : nz (m.take (i + 1)) = nz (m.take i) ++ [(x, q)] := by
  rw [take_snoc e, nz_app]
  congr 1
  exact List.filter_cons_of_pos (by simp [h])
theorem nz_skip {m : FL κ} {i : Nat} {x : κ} {q : Rat} (e : m[i]? = some (x, q)) (h : q = 0) : nz (m.take (i + 1)) = nz (m.take i) := by
  rw [take_snoc e, nz_app]
  have : nz [(x, q)] = ([] : FL κ) := List.filter_cons_of_neg (by simp [h])
  rw [this, List.append_nil]
theorem gt_filter_none (f : κ × Rat → Bool) {m : FL κ} {x : κ} (h : gt m x = none) : gt (m.filter f) x = none := by
  rw [gt_none_iff] at h ⊢
  intro z
  obtain ⟨p, hp, e⟩ := List.mem_map.mp z
  exact h (List.mem_map.mpr ⟨p, (List.mem_filter.mp hp).1, e⟩)
theorem gt_sc_none {m : FL κ} {x : κ} (n : Rat) (h : gt m x = none) : gt (sc m n) x = none := by
  rw [gt_none_iff] at h ⊢
  unfold sc
  rw [List.map_map]
  exact h
theorem sc_snoc {m : FL κ} {i : Nat} {x : κ} {q : Rat} (n : Rat) (e : m[i]? = some (x, q)) : sc (m.take (i + 1)) n = sc (m.take i) n ++ [(x, q * n)] := by
  rw [take_snoc e]; unfold sc; rw [List.map_append]; rfl
/-- the one with the other's parts added -/
def addM (a b : FL κ) : FL κ := b.foldl (fun m p => pt m p.1 ((gt m p.1).getD 0 + p.2)) a
theorem addM_snoc {a b : FL κ} {i : Nat} {x : κ} {q : Rat} (e : b[i]? = some (x, q)) : addM a (b.take (i + 1)) = pt (addM a (b.take i)) x ((gt (addM a (b.take i)) x).getD 0 + q) := by
  rw [take_snoc e]; unfold addM; rw [List.foldl_append]; rfl
theorem nd_addM : ∀ (b a : FL κ), Nd a → Nd (addM a b)
  | [], a, h => h
  | p :: r, a, h => nd_addM r _ (nd_pt h _ _)
theorem val_addM (P : κ → Rat) : ∀ (b a : FL κ), Nd a → val (addM a b) P = val a P + val b P
  | [], a, _ => by simp [addM, val, Rat.add_zero]
  | p :: r, a, h => by
    have ih := val_addM P r (pt a p.1 ((gt a p.1).getD 0 + p.2)) (nd_pt h _ _)
    show val (addM (pt a p.1 ((gt a p.1).getD 0 + p.2)) r) P = _
    rw [ih, val_pt h]
    simp only [val]; grind
theorem gt_addM_other {x : κ} : ∀ (b a : FL κ), x ∉ b.map (·.1) → gt (addM a b) x = gt a x
  | [], a, _ => rfl
  | p :: r, a, h => by
    have h1 : ¬ x = p.1 := fun z => h (by rw [z]; simp)
    have ih := gt_addM_other (x := x) r (pt a p.1 ((gt a p.1).getD 0 + p.2)) (fun z => h (by simp [z]))
    show gt (addM (pt a p.1 ((gt a p.1).getD 0 + p.2)) r) x = _
    rw [ih, gt_pt, if_neg h1]
theorem gt_addM_fresh {a b : FL κ} (n : Nd b) {i : Nat} {x : κ} {q : Rat} (e : b[i]? = some (x, q)) : gt (addM a (b.take i)) x = gt a x :=
  gt_addM_other _ _ ((gt_none_iff x _).mp (nd_fresh n e))
theorem len_pt (m : FL κ) (k : κ) (q : Rat) : (pt m k q).length ≤ m.length + 1 := by
  unfold pt; split
  · rw [List.length_map]; omega
  · simp
theorem len_addM : ∀ (b a : FL κ), (addM a b).length ≤ a.length + b.length
  | [], a => by simp [addM]
  | p :: r, a => by
    have ih := len_addM r (pt a p.1 ((gt a p.1).getD 0 + p.2))
    have := len_pt a p.1 ((gt a p.1).getD 0 + p.2)
    show (addM (pt a p.1 ((gt a p.1).getD 0 + p.2)) r).length ≤ _
    rw [List.length_cons]; omega
theorem len_nz (m : FL κ) : (nz m).length ≤ m.length := List.length_filter_le _ _
theorem len_sc (m : FL κ) (n : Rat) : (sc m n).length = m.length := List.length_map ..
theorem nd_nz {m : FL κ} (n : Nd m) : Nd (nz m) := nd_filter _ n
theorem nd_dr {m : FL κ} (n : Nd m) (k : κ) : Nd (dr m k) := nd_filter _ n
theorem keys_pt {m : FL κ} {k x : κ} {q : Rat} (h : x ∈ (pt m k q).map (·.1)) : x = k ∨ x ∈ m.map (·.1) := by
  unfold pt at h
  split at h
  · rw [keys_repl] at h; exact .inr h
  · simp at h
    rcases h with h | h
    · exact .inr (by simpa using h)
    · exact .inl h
theorem keys_addM {x : κ} : ∀ (b a : FL κ), x ∈ (addM a b).map (·.1) → x ∈ a.map (·.1) ∨ x ∈ b.map (·.1)
  | [], a, h => .inl h
  | p :: r, a, h => by
    rcases keys_addM r _ (show x ∈ (addM (pt a p.1 ((gt a p.1).getD 0 + p.2)) r).map (·.1) from h) with h | h
    · rcases keys_pt h with h | h
      · exact .inr (by simp [h])
      · exact .inl h
    · exact .inr (List.mem_cons_of_mem _ h)
theorem keys_filter {f : κ × Rat → Bool} {m : FL κ} {x : κ} (h : x ∈ (m.filter f).map (·.1)) : x ∈ m.map (·.1) := by
  obtain ⟨p, hp, e⟩ := List.mem_map.mp h
  exact List.mem_map.mpr ⟨p, (List.mem_filter.mp hp).1, e⟩
theorem keys_sc (m : FL κ) (n : Rat) : (sc m n).map (·.1) = m.map (·.1) := by unfold sc; rw [List.map_map]; rfl
theorem run_snoc {P : κ → Rat} {r : Rat} {m : FL κ} {i : Nat} {x : κ} {q : Rat} (e : m[i]? = some (x, q)) : run P r (m.take (i + 1)) = run P r (m.take i) + q * P x := by
  rw [take_snoc e]; unfold run; rw [List.foldl_append]; rfl
end
end Sf
namespace Sf
section
variable {κ : Type} [DecidableEq κ]
theorem gt_addM {x : κ} : ∀ (b a : FL κ), Nd b → gt (addM a b) x = match gt b x with | none => gt a x | some q => some ((gt a x).getD 0 + q)
  | [], a, _ => rfl
  | p :: r, a, n => by
    obtain ⟨n1, n2⟩ := List.nodup_cons.mp (show (p.1 :: r.map (·.1)).Nodup from n)
    have ih := gt_addM (x := x) r (pt a p.1 ((gt a p.1).getD 0 + p.2)) n2
    show gt (addM (pt a p.1 ((gt a p.1).getD 0 + p.2)) r) x = _
    rw [ih, gt_pt]
    by_cases e : p.1 = x
    · have hn : gt r x = none := (gt_none_iff x r).mpr (e ▸ n1)
      rw [hn, gt_pos e, if_pos e.symm]
      simp [e]
    · rw [gt_neg e, if_neg (fun z => e z.symm)]
theorem gt_nz {x : κ} : ∀ {m : FL κ}, Nd m → gt (nz m) x = match gt m x with | none => none | some q => if q = 0 then none else some q
  | [], _ => rfl
  | p :: r, n => by
    obtain ⟨n1, n2⟩ := List.nodup_cons.mp (show (p.1 :: r.map (·.1)).Nodup from n)
    have ih := gt_nz (x := x) n2
    unfold nz at ih ⊢
    by_cases e : p.1 = x
    · have hn : gt r x = none := (gt_none_iff x r).mpr (e ▸ n1)
      rw [hn] at ih
      rw [gt_pos e]
      by_cases h : p.2 = 0
      · rw [List.filter_cons_of_neg (by simp [h]), ih]; simp [h]
      · rw [List.filter_cons_of_pos (by simp [h]), gt_pos e]; simp [h]
    · rw [gt_neg e]
      by_cases h : p.2 = 0
      · rw [List.filter_cons_of_neg (by simp [h]), ih]
      · rw [List.filter_cons_of_pos (by simp [h]), gt_neg e, ih]
theorem gt_sc {x : κ} (n : Rat) : ∀ m : FL κ, gt (sc m n) x = (gt m x).map (· * n)
  | [] => rfl
  | p :: r => by
    have ih := gt_sc (x := x) n r
    unfold sc at ih ⊢
    rw [List.map_cons]
    by_cases e : p.1 = x
    · rw [gt_pos (p := (p.1, p.2 * n)) e, gt_pos e]; rfl
    · rw [gt_neg (p := (p.1, p.2 * n)) e, gt_neg e, ih]
theorem gt_dr {x k : κ} : ∀ m : FL κ, gt (dr m k) x = if x = k then none else gt m x
  | [] => by simp [dr, gt_nil]
  | p :: r => by
    have ih := gt_dr (x := x) (k := k) r
    unfold dr at ih ⊢
    by_cases e : p.1 = k
    · rw [List.filter_cons_of_neg (by simp [e]), ih]
      by_cases h : x = k
      · simp [h]
      · rw [if_neg h, if_neg h, gt_neg (fun z => h (z.symm.trans e))]
    · rw [List.filter_cons_of_pos (by simp [e])]
      by_cases h : p.1 = x
      · rw [gt_pos h, gt_pos h, if_neg (fun z => e (h.trans z))]
      · rw [gt_neg h, gt_neg h, ih]
/-- every part below 2^n -/
def SmM (n : Nat) (m : FL κ) : Prop := ∀ x q, gt m x = some q → Sm n q
theorem SmM.mono {n k : Nat} {m : FL κ} (h : SmM n m) (e : n ≤ k) : SmM k m := fun x q z => (h x q z).mono e
theorem SmM.nil (n : Nat) : SmM n ([] : FL κ) := fun x q z => by cases z
theorem SmM.pt {n : Nat} {m : FL κ} (h : SmM n m) {k : κ} {q : Rat} (hq : Sm n q) : SmM n (pt m k q) := fun x r z => by
  rw [gt_pt] at z
  split at z
  · injection z with z; rw [← z]; exact hq
  · exact h x r z
theorem SmM.nz {n : Nat} {m : FL κ} (h : SmM n m) (nd : Nd m) : SmM n (nz m) := fun x r z => by
  rw [gt_nz nd] at z
  cases e : gt m x with
  | none => rw [e] at z; cases z
  | some q =>
    rw [e] at z
    simp only at z
    split at z
    · cases z
    · injection z with z; rw [← z]; exact h x q e
theorem SmM.getD {n : Nat} {m : FL κ} (h : SmM n m) (hn : 1 ≤ n) (x : κ) : Sm n ((gt m x).getD 0) := by
  cases e : gt m x with
  | none => exact sm_zero.mono hn
  | some q => exact h x q e
theorem SmM.add {n k : Nat} {a b : FL κ} (ha : SmM n a) (hb : SmM k b) (hn : 1 ≤ n) (nd : Nd b) : SmM (n + k + 1) (addM a b) := fun x r z => by
  rw [gt_addM b a nd] at z
  cases e : gt b x with
  | none => rw [e] at z; exact (ha x r z).mono (by omega)
  | some q => rw [e] at z; injection z with z; rw [← z]; exact sm_add (ha.getD hn x) (hb x q e)
theorem SmM.sc {n k : Nat} {a : FL κ} {t : Rat} (ha : SmM n a) (ht : Sm k t) : SmM (n + k) (sc a t) := fun x r z => by
  rw [gt_sc] at z
  cases e : gt a x with
  | none => rw [e] at z; cases z
  | some q => rw [e] at z; injection z with z; rw [← z]; exact sm_mul (ha x q e) ht
theorem SmM.dr {n : Nat} {a : FL κ} (ha : SmM n a) (k : κ) : SmM n (dr a k) := fun x r z => by
  rw [gt_dr] at z
  split at z
  · cases z
  · exact ha x r z
theorem SmM.at {n : Nat} {m : FL κ} (h : SmM n m) (nd : Nd m) {i : Nat} {x : κ} {q : Rat} (e : m[i]? = some (x, q)) : Sm n q := h x q (gt_of_mem nd (List.mem_of_getElem? e))
theorem sm_run {n k : Nat} {m : FL κ} {P : κ → Rat} {r : Rat} (h : SmM n m) (nd : Nd m) (hP : ∀ x, Sm k (P x)) (hr : Sm n r) : ∀ i, i ≤ m.length → Sm (n + i * (n + k + 1)) (run P r (m.take i))
  | 0, _ => by simpa [run] using hr
  | i + 1, hi => by
    have ih := sm_run h nd hP hr i (by omega)
    obtain ⟨⟨x, q⟩, e⟩ : ∃ p, m[i]? = some p := ⟨m[i]'(by omega), by simp⟩
    rw [run_snoc e]
    have := sm_add ih (sm_mul (h.at nd e) (hP x))
    refine this.mono ?_
    rw [Nat.add_mul]; omega
end
end Sf
namespace Sf
section
variable {κ : Type} [DecidableEq κ]
theorem dr_none {m : FL κ} {k : κ} (h : gt m k = none) : dr m k = m := by
  unfold dr
  rw [List.filter_eq_self]
  intro p hp
  have := (gt_none_iff k m).mp h
  simp only [decide_eq_true_eq]
  exact fun z => this (List.mem_map.mpr ⟨p, hp, z⟩)
end
end Sf
namespace Sf
section
variable {κ : Type} [DecidableEq κ]
theorem val_upd (x : κ) (B : Rat) (P : κ → Rat) : ∀ {m : FL κ}, Nd m → val m (fun y => if y = x then B else P y) = val m P + (gt m x).getD 0 * (B - P x)
  | [], _ => by simp [val, gt_nil]; grind
  | p :: r, n => by
    obtain ⟨n1, n2⟩ := List.nodup_cons.mp (show (p.1 :: r.map (·.1)).Nodup from n)
    have ih := val_upd x B P n2
    simp only [val]
    by_cases e : p.1 = x
    · have hn : gt r x = none := (gt_none_iff x r).mpr (e ▸ n1)
      rw [ih, hn, gt_pos e, if_pos e, e]; simp; grind
    · rw [ih, gt_neg e, if_neg e]; grind
end
end Sf

namespace Sf
section
variable {κ : Type} [DecidableEq κ]
theorem nz_idem (m : FL κ) : nz (nz m) = nz m := by unfold nz; rw [List.filter_filter]; simp
theorem nz_sc_zero (m : FL κ) : nz (sc m 0) = [] := by
  unfold nz sc
  rw [List.filter_eq_nil_iff]
  intro p hp
  obtain ⟨q, _, rfl⟩ := List.mem_map.mp hp
  simp [Rat.mul_zero]
theorem addM_nil (m : FL κ) : addM m [] = m := rfl
theorem addM_left : ∀ (b a : FL κ), Nd (a ++ b) → addM a b = a ++ b
  | [], a, _ => by simp [addM]
  | p :: r, a, h => by
    have hn : gt a p.1 = none := by
      rw [gt_none_iff]
      intro z
      unfold Nd at h
      rw [List.map_append, List.nodup_append] at h
      exact h.2.2 _ z _ (by simp) rfl
    show addM (pt a p.1 ((gt a p.1).getD 0 + p.2)) r = _
    rw [pt_new _ hn, hn]
    have e : (Option.none.getD (0 : Rat) + p.2) = p.2 := by simp [Rat.zero_add]
    have e2 : ((p.1, p.2) : κ × Rat) = p := rfl
    rw [e, e2, addM_left r (a ++ [p]) (by rw [List.append_assoc]; exact h), List.append_assoc]
    rfl
theorem addM_none {b : FL κ} (h : Nd b) : addM [] b = b := addM_left b [] h
/-- the part that a sum of two, the second n times, has at x -/
theorem gt_joined {a b : FL κ} {n : Rat} {x : κ} (na : Nd a) (nb : Nd b) : gt (nz (addM a (nz (sc b n)))) x = (if (gt a x).getD 0 + (gt b x).getD 0 * n = 0 then none else some ((gt a x).getD 0 + (gt b x).getD 0 * n)) := by
  have h1 := nd_addM (nz (sc b n)) a na
  rw [gt_nz h1, gt_addM _ _ (nd_nz (nd_sc nb n)), gt_nz (nd_sc nb n), gt_sc]
  cases e : gt b x with
  | none =>
    cases f : gt a x with
    | none => simp [Rat.add_zero]
    | some q => simp [Rat.add_zero]
  | some p =>
    simp only [Option.map_some, Option.getD_some]
    by_cases z : p * n = 0
    · rw [if_pos z]
      cases f : gt a x with
      | none => simp [z, Rat.add_zero]
      | some q => simp [z, Rat.add_zero]
    · rw [if_neg z]
theorem gt_added {a b : FL κ} {x : κ} (na : Nd a) (nb : Nd b) : gt (nz (addM a b)) x = (if (gt a x).getD 0 + (gt b x).getD 0 * 1 = 0 then none else some ((gt a x).getD 0 + (gt b x).getD 0 * 1)) := by
  have h1 := nd_addM b a na
  rw [gt_nz h1, gt_addM _ _ nb, Rat.mul_one]
  cases e : gt b x with
  | none =>
    cases f : gt a x with
    | none => simp [Rat.add_zero]
    | some q => simp [Rat.add_zero]
  | some p => simp
theorem gt_scaled {b : FL κ} {n : Rat} {x : κ} (nb : Nd b) : gt (nz (sc b n)) x = (if (gt ([] : FL κ) x).getD 0 + (gt b x).getD 0 * n = 0 then none else some ((gt ([] : FL κ) x).getD 0 + (gt b x).getD 0 * n)) := by
  rw [gt_nz (nd_sc nb n), gt_sc, gt_nil]
  cases e : gt b x with
  | none => simp [Rat.zero_add]
  | some p => simp [Rat.zero_add]
end
/-- a and n times b, over one bottom -/
theorem joined_divInt (a b n : Rat) : a + b * n = Rat.divInt (a.num * b.den * n.den + b.num * n.num * a.den) (a.den * b.den * n.den) := by
  have h1 : (a.den : Int) ≠ 0 := Int.ne_of_gt (den_pos a)
  have h2 : ((b.den : Int) * n.den) ≠ 0 := dens_ne b n
  have e1 : a = Rat.divInt a.num a.den := (Rat.num_divInt_den a).symm
  have e2 : b * n = Rat.divInt (b.num * n.num) (b.den * n.den) := mul_divInt b n
  have e3 := Rat.divInt_add_divInt a.num (b.num * n.num) h1 h2
  rw [← e1, ← e2] at e3
  rw [e3]
  congr 1 <;> grind
theorem divInt_zero_iff {t b : Int} (h : b ≠ 0) : Rat.divInt t b = 0 ↔ t = 0 := by
  have e : (0 : Rat) = Rat.divInt 0 1 := by simp
  rw [e, Rat.divInt_eq_divInt_iff h (by decide)]
  omega
theorem neg_mul_one (q : Rat) : q * (-1) = -q := by grind
end Sf

/-! Fractions and dicts of fractions on the abstract heap. -/
namespace Sf
open PySem L2
def fr (q : Rat) : List V := [.int q.num, .int (q.den : Int)]
theorem fr0 (q : Rat) : atI (fr q) 0 = some (.int q.num) := rfl
theorem fr1 (q : Rat) : atI (fr q) 1 = some (.int (q.den : Int)) := rfl
/-- tuples stay -/
def TupS (H H' : Hp) : Prop := ∀ b xs, H b = some (.tup xs) → H' b = some (.tup xs)
theorem TupS.refl (H : Hp) : TupS H H := fun _ _ h => h
theorem TupS.trans {H H1 H2 : Hp} (a : TupS H H1) (b : TupS H1 H2) : TupS H H2 := fun c xs h => b c xs (a c xs h)
theorem TupS.of {H H' : Hp} (e : Same H H') : TupS H H' := fun b xs h => e b _ h
theorem TupS.new {H : Hp} {a : Addr} {o : HO} (h : H a = none) : TupS H (upd H a o) := fun b xs e => by rw [upd_ne (ne_of_none e h)]; exact e
theorem TupS.put {H : Hp} {a : Addr} {o : HO} {kvs : List (Key × V)} (h : H a = some (.dK kvs)) : TupS H (upd H a o) := fun b xs e => by rw [upd_ne (ne_of e h (by intro z; cases z))]; exact e
theorem TupS.frz {H : Hp} {a : Addr} {ob : Obj} {u o : HO} (h : H a = some (.frz ob u)) : TupS H (upd H a o) := fun b xs e => by rw [upd_ne (ne_of e h (by intro z; cases z))]; exact e
/-- a dict's pairs bear the fractions of m -/
def FK (H : Hp) : List (Key × V) → FL Str → Prop
  | [], [] => True
  | p :: r, x :: s => p.1 = Sum.inr x.1 ∧ (∃ a, p.2 = .ref a ∧ H a = some (.tup (fr x.2))) ∧ FK H r s
  | _, _ => False
theorem FK.mono {H H' : Hp} (e : TupS H H') : ∀ {kvs : List (Key × V)} {m : FL Str}, FK H kvs m → FK H' kvs m
  | [], [], _ => True.intro
  | p :: r, x :: s, ⟨h1, ⟨a, h2, h3⟩, h4⟩ => ⟨h1, ⟨a, h2, e _ _ h3⟩, FK.mono e h4⟩
  | [], _ :: _, h => h.elim
  | _ :: _, [], h => h.elim
theorem FK.length {H : Hp} : ∀ {kvs : List (Key × V)} {m : FL Str}, FK H kvs m → kvs.length = m.length
  | [], [], _ => rfl
  | _ :: r, _ :: s, h => by rw [List.length_cons, List.length_cons, FK.length h.2.2]
  | [], _ :: _, h => h.elim
  | _ :: _, [], h => h.elim
theorem FK.get {H : Hp} : ∀ {kvs : List (Key × V)} {m : FL Str} {i : Nat} {k : Key} {v : V}, FK H kvs m → kvs[i]? = some (k, v) → ∃ x q a, m[i]? = some (x, q) ∧ k = Sum.inr x ∧ v = .ref a ∧ H a = some (.tup (fr q))
  | p :: r, x :: s, 0, k, v, ⟨h1, ⟨a, h2, h3⟩, h4⟩, e => by
    simp at e
    subst e
    exact ⟨x.1, x.2, a, rfl, h1, h2, h3⟩
  | p :: r, x :: s, i + 1, k, v, ⟨h1, _, h4⟩, e => by
    obtain ⟨x', q, a, e1, e2⟩ := FK.get (i := i) h4 (by simpa using e)
    exact ⟨x', q, a, by simpa using e1, e2⟩
  | [], [], i, _, _, _, e => by simp at e
  | [], _ :: _, _, _, _, h, _ => h.elim
  | _ :: _, [], _, _, _, h, _ => h.elim
theorem FK.snoc {H : Hp} {x : Str} {q : Rat} {a : Addr} (ha : H a = some (.tup (fr q))) : ∀ {kvs : List (Key × V)} {m : FL Str}, FK H kvs m → FK H (kvs ++ [(Sum.inr x, .ref a)]) (m ++ [(x, q)])
  | [], [], _ => ⟨rfl, ⟨a, rfl, ha⟩, True.intro⟩
  | _ :: _, _ :: _, ⟨h1, h2, h4⟩ => ⟨h1, h2, FK.snoc ha h4⟩
  | [], _ :: _, h => h.elim
  | _ :: _, [], h => h.elim
/-- what stands at a key -/
theorem FK.val {H : Hp} (x : Str) : ∀ {kvs : List (Key × V)} {m : FL Str}, FK H kvs m → (valV kvs (Sum.inr x : Key) = none ∧ gt m x = none) ∨ ∃ a q, valV kvs (Sum.inr x : Key) = some (.ref a) ∧ gt m x = some q ∧ H a = some (.tup (fr q))
  | [], [], _ => .inl ⟨rfl, rfl⟩
  | p :: r, y :: s, ⟨h1, ⟨a, h2, h3⟩, h4⟩ => by
    by_cases e : y.1 = x
    · have e2 : p.1 = (Sum.inr x : Key) := by rw [h1, e]
      exact .inr ⟨a, y.2, by rw [valV_pos e2, h2], gt_pos e, h3⟩
    · have e2 : ¬ p.1 = (Sum.inr x : Key) := by rw [h1]; exact fun z => e (Sum.inr.inj z)
      rw [valV_neg e2, gt_neg e]
      exact FK.val x h4
  | [], _ :: _, h => h.elim
  | _ :: _, [], h => h.elim
theorem FK.any {H : Hp} (x : Str) {kvs : List (Key × V)} {m : FL Str} (h : FK H kvs m) : (kvs.any fun kv => decide (kv.1 = (Sum.inr x : Key))) = (m.any fun p => decide (p.1 = x)) := by
  rw [valV_any, gt_any]
  rcases h.val x with ⟨h1, h2⟩ | ⟨a, q, h1, h2, _⟩
  · rw [h1, h2]; rfl
  · rw [h1, h2]; rfl
theorem FK.repl {H : Hp} {x : Str} {q : Rat} {a : Addr} (ha : H a = some (.tup (fr q))) : ∀ {kvs : List (Key × V)} {m : FL Str}, FK H kvs m →
    FK H (kvs.map fun kv => if kv.1 = (Sum.inr x : Key) then (kv.1, .ref a) else kv) (m.map fun p => if p.1 = x then (p.1, q) else p)
  | [], [], _ => True.intro
  | p :: r, y :: s, ⟨h1, h2, h4⟩ => by
    have ih := FK.repl (x := x) ha h4
    rw [List.map_cons, List.map_cons]
    by_cases e : y.1 = x
    · have e2 : p.1 = (Sum.inr x : Key) := by rw [h1, e]
      rw [if_pos e2, if_pos e]
      exact ⟨h1, ⟨a, rfl, ha⟩, ih⟩
    · have e2 : ¬ p.1 = (Sum.inr x : Key) := by rw [h1]; exact fun z => e (Sum.inr.inj z)
      rw [if_neg e2, if_neg e]
      exact ⟨h1, h2, ih⟩
  | [], _ :: _, h => h.elim
  | _ :: _, [], h => h.elim
theorem FK.put {H : Hp} {x : Str} {q : Rat} {a : Addr} (ha : H a = some (.tup (fr q))) {kvs : List (Key × V)} {m : FL Str} (h : FK H kvs m) : FK H (putK kvs (Sum.inr x : Key) (.ref a)) (pt m x q) := by
  unfold putK pt
  rw [h.any x]
  split
  · exact h.repl ha
  · exact h.snoc ha
theorem FK.drop {H : Hp} (x : Str) : ∀ {kvs : List (Key × V)} {m : FL Str}, FK H kvs m → FK H (dropK kvs (Sum.inr x : Key)) (dr m x)
  | [], [], _ => True.intro
  | p :: r, y :: s, ⟨h1, h2, h4⟩ => by
    have ih := FK.drop x h4
    unfold dropK dr at ih ⊢
    by_cases e : y.1 = x
    · have e2 : p.1 = (Sum.inr x : Key) := by rw [h1, e]
      rw [List.filter_cons_of_neg (by simp [e2]), List.filter_cons_of_neg (by simp [e])]
      exact ih
    · have e2 : ¬ p.1 = (Sum.inr x : Key) := by rw [h1]; exact fun z => e (Sum.inr.inj z)
      rw [List.filter_cons_of_pos (by simp [e2]), List.filter_cons_of_pos (by simp [e])]
      exact ⟨h1, h2, ih⟩
  | [], _ :: _, h => h.elim
  | _ :: _, [], h => h.elim
/-- two dicts of the same fractions are equal -/
theorem FK.eqD {K : PySem.W.Frag} {H : Hp} {ka kb : List (Key × V)} {m : FL Str} (h1 : FK H ka m) (h2 : FK H kb m) (nd : Nd m) : DEqT K H 1 ka kb := by
  refine ⟨by rw [h1.length, h2.length], fun k v hm => ?_⟩
  obtain ⟨i, hi⟩ := List.getElem?_of_mem hm
  obtain ⟨x, q, a, e1, rfl, rfl, ha⟩ := h1.get hi
  have hg : gt m x = some q := gt_of_mem nd (List.mem_of_getElem? e1)
  rcases h2.val x with ⟨_, z⟩ | ⟨b, q', v1, v2, v3⟩
  · rw [hg] at z; cases z
  · rw [hg] at v2
    cases v2
    exact ⟨_, v1, .inr ⟨a, b, _, _, rfl, rfl, .inl ⟨SqT.of ha, SqT.of v3⟩, ⟨⟨rfl, rfl⟩, ⟨rfl, rfl⟩, True.intro⟩⟩⟩
end Sf

/-! Worlds: F the part of the heap that no one changes any more, H the heap. What a value stands for is read in F alone. -/
namespace Vc
open PySem L2 Sf
/-- what stands in F is read alike in F' -/
def Le (F F' : Hp) : Prop := ∀ a u, (∀ o w, u ≠ .frz o w) → Rd F a u → Rd F' a u
theorem Le.refl (F : Hp) : Le F F := fun _ _ _ h => h
theorem Le.trans {F G H : Hp} (a : Le F G) (b : Le G H) : Le F H := fun x u n h => b x u n (a x u n h)
theorem Le.of {F F' : Hp} (e : Same F F') : Le F F' := fun a u _ h => e.rd h
theorem Le.tup {K : PySem.W.Frag} {F F' : Hp} {a : Addr} {xs : List V} (e : Le F F') (h : SqT K F a xs) : SqT K F' a xs := by
  rcases h with h | h
  · exact .inl (e _ _ (by intro o w z; cases z) h)
  · exact .inr h
theorem Le.lst {K : PySem.W.Frag} {F F' : Hp} {a : Addr} {xs : List V} (e : Le F F') (h : SqL K F a xs) : SqL K F' a xs := by
  rcases h with h | h
  · exact .inl (e _ _ (by intro o w z; cases z) h)
  · exact .inr h
theorem Le.dic {F F' : Hp} {a : Addr} {kvs : List (Key × V)} (e : Le F F') (h : Rd F a (.dK kvs)) : Rd F' a (.dK kvs) := e _ _ (by intro o w z; cases z) h
/-- what is walked just now stands in S -/
def Fz (S : Addr → Prop) (F : Hp) : Prop := ∀ a o u, F a = some (.frz o u) → S a
abbrev S0 : Addr → Prop := fun _ => False
def frzd (F : Hp) : Addr → Prop := fun a => ∃ o u, F a = some (.frz o u)
/-- from the world F, H to the world F', H': nothing that stood has changed; what is new in F' is new -/
structure Gr0 (F H F' H' : Hp) : Prop where
  h : Same H H'
  f : Same F F'
  s : Same F' H'
  n : ∀ a u, F' a = some u → F a = none → H a = none
/-- .. and nothing more is walked -/
structure Gr (F H F' H' : Hp) : Prop extends Gr0 F H F' H' where
  z : Fz (frzd F) F'
theorem Gr0.refl {F H : Hp} (s : Same F H) : Gr0 F H F H := ⟨Same.refl _, Same.refl _, s, (fun a u h e => by rw [h] at e; cases e)⟩
theorem Fz.refl (F : Hp) : Fz (frzd F) F := fun _ o u h => ⟨o, u, h⟩
theorem Gr.of {F H F' H' : Hp} (g : Gr0 F H F' H') (z : Fz (frzd F) F') : Gr F H F' H' := ⟨g, z⟩
theorem Gr.of0 {F H F' H' : Hp} (g : Gr0 F H F' H') (z : Fz S0 F') : Gr F H F' H' := ⟨g, fun a o u h => (z a o u h).elim⟩
theorem Gr.le {F H F' H' : Hp} (g : Gr F H F' H') : Le F F' := .of g.f
theorem Gr.fz {F H F' H' : Hp} {S : Addr → Prop} (g : Gr F H F' H') (c : Fz S F) : Fz S F' := fun a o u h => by
  obtain ⟨o', u', e⟩ := g.z a o u h
  exact c a o' u' e
theorem Gr0.trans {F H F1 H1 F2 H2 : Hp} (a : Gr0 F H F1 H1) (b : Gr0 F1 H1 F2 H2) : Gr0 F H F2 H2 :=
  ⟨a.h.trans b.h, a.f.trans b.f, b.s, (fun x u h e => match q : F1 x with
    | none => a.h.free (b.n x u h q)
    | some w => a.n x w q e)⟩
theorem Gr0.tr {F H F1 H1 F2 H2 : Hp} (a : Gr0 F H F1 H1) (b : Gr F1 H1 F2 H2) : Gr0 F H F2 H2 := a.trans b.toGr0
/-- what is owned stays so behind a call -/
theorem Gr.own {F H F' H' : Hp} (g : Gr F H F' H') {o : Addr} {u : HO} (eF : F o = none) (eH : H o = some u) : F' o = none := by
  cases q : F' o with
  | none => rfl
  | some w => have := g.n o w q eF; rw [eH] at this; cases this
/-- a new thing that no one changes -/
theorem al {F H : Hp} {o : HO} {R : V → Hp → Prop} (wd : Same F H) (nf : ∀ x u, o ≠ .frz x u) (h : ∀ (p : Addr) (F' H' : Hp), Gr F H F' H' → F' p = some o → R (.ref p) H') : ∀ p, H p = none → R (.ref p) (upd H p o) := fun p hp => by
  have fp : F p = none := wd.free hp
  refine h p (upd F p o) (upd H p o) ⟨⟨Same.upd hp, Same.upd fp, ?_, fun a u e q => ?_⟩, fun a x u e => ?_⟩ upd_same
  · intro b u e
    by_cases hb : b = p
    · subst hb; rw [upd_same] at e ⊢; exact e
    · rw [upd_ne hb] at e ⊢; exact wd b u e
  · by_cases hb : a = p
    · subst hb; exact hp
    · rw [upd_ne hb, q] at e; cases e
  · by_cases hb : a = p
    · subst hb; rw [upd_same] at e; exact absurd (Option.some.inj e) (nf x u)
    · rw [upd_ne hb] at e; exact ⟨_, _, e⟩
/-- .. at a place that is known -/
theorem al1 {F H : Hp} {o : HO} {p : Addr} {R : Hp → Prop} (wd : Same F H) (nf : ∀ x u, o ≠ .frz x u) (hp : H p = none) (h : ∀ F' H' : Hp, Gr F H F' H' → F' p = some o → R H') : R (upd H p o) := by
  have := al (R := fun v H' => ∀ q, v = .ref q → q = p → R H') wd nf (fun q F' H' g e z hz hq => by cases hz; subst hq; exact h F' H' g e) p hp
  exact this p rfl rfl
theorem Gr.at {F H F' H' : Hp} (g : Gr F H F' H') {o : Addr} {u : HO} {w : Option HO} (eH : H o = some u) (e : F o = w) : F' o = w := by
  cases q : F o with
  | none => rw [← e, q]; exact g.own q eH
  | some x => rw [← e, q]; exact g.f _ _ q
theorem al2 {F H : Hp} {o : HO} {p : Addr} (wd : Same F H) (nf : ∀ x u, o ≠ .frz x u) (hp : H p = none) : ∃ F', Gr F H F' (upd H p o) ∧ F' p = some o :=
  al1 (R := fun H' => ∃ F', Gr F H F' H' ∧ F' p = some o) wd nf hp fun F' _ g e => ⟨F', g, e⟩
/-- a new thing of one's own -/
theorem alo {Fb Hb F H : Hp} {o : HO} {R : V → Hp → Prop} (gb : Gr0 Fb Hb F H) (h : ∀ (p : Addr) (H' : Hp), Gr0 Fb Hb F H' → Same H H' → Hb p = none → F p = none → H' p = some o → (∀ a u, H a = some u → a ≠ p) → R (.ref p) H') : ∀ p, H p = none → R (.ref p) (upd H p o) := fun p hp =>
  h p (upd H p o) ⟨gb.h.updN (gb.h.free hp), gb.f, gb.s.updN (gb.s.free hp), gb.n⟩ (Same.upd hp) (gb.h.free hp) (gb.s.free hp) upd_same fun _ _ e => ne_of_none e hp
theorem alo2 {Fb Hb F H : Hp} {o : HO} {p : Addr} (gb : Gr0 Fb Hb F H) (hp : H p = none) : Gr0 Fb Hb F (upd H p o) ∧ Same H (upd H p o) ∧ Hb p = none ∧ F p = none ∧ (upd H p o) p = some o ∧ (∀ a u, H a = some u → a ≠ p) :=
  ⟨⟨gb.h.updN (gb.h.free hp), gb.f, gb.s.updN (gb.s.free hp), gb.n⟩, Same.upd hp, gb.h.free hp, gb.s.free hp, upd_same, fun _ _ e => ne_of_none e hp⟩
/-- a thing of one's own, changed -/
theorem chg {Fb Hb F H : Hp} {p : Addr} {o : HO} {R : Hp → Prop} (gb : Gr0 Fb Hb F H) (hb : Hb p = none) (hf : F p = none) (h : ∀ H' : Hp, Gr0 Fb Hb F H' → H' p = some o → (∀ a, a ≠ p → H' a = H a) → R H') : R (upd H p o) :=
  h (upd H p o) ⟨gb.h.updN hb, gb.f, gb.s.updN hf, gb.n⟩ upd_same fun _ e => upd_ne e
/-- a thing of one's own that no one changes from now on -/
theorem frz {Fb Hb F H : Hp} {S : Addr → Prop} {p : Addr} {o : HO} (gb : Gr0 Fb Hb F H) (cm : Fz S F) (hb : Hb p = none) (hf : F p = none) (hH : H p = some o) (nf : ∀ x u, o ≠ .frz x u) : ∃ F', Gr0 Fb Hb F' H ∧ Fz S F' ∧ Same F F' ∧ F' p = some o ∧ ∀ a, a ≠ p → F' a = F a := by
  refine ⟨upd F p o, ⟨gb.h, gb.f.trans (Same.upd hf), ?_, fun a u e q => ?_⟩, fun a x u e => ?_, Same.upd hf, upd_same, fun _ e => upd_ne e⟩
  · intro b u e
    by_cases hb : b = p
    · subst hb; rw [upd_same] at e; cases e; exact hH
    · rw [upd_ne hb] at e; exact gb.s b u e
  · by_cases hb' : a = p
    · subst hb'; exact hb
    · rw [upd_ne hb'] at e; exact gb.n a u e q
  · by_cases hb' : a = p
    · subst hb'; rw [upd_same] at e; exact absurd (Option.some.inj e) (nf x u)
    · rw [upd_ne hb'] at e; exact cm a x u e
theorem it2 {K : PySem.W.Frag} {F H : Hp} {i j : Nat} {p : Addr} {x y : V} {σ : St} {R : St → Hp → Prop} (wd : Same F H) (hp : H p = none) (h : ∀ F' H' : Hp, Gr F H F' H' → F' p = some (.tup [x, y]) → R ((σ.set i (some x)).set j (some y)) H') :
    gTup K 2 (gCons (gName i) (gCons (gName j) gNil)) (.ref p) σ (upd H p (.tup [x, y])) R :=
  al1 (R := fun H' => gTup K 2 (gCons (gName i) (gCons (gName j) gNil)) (.ref p) σ H' R) wd (by intro _ _ z; cases z) hp fun F' H' g e => a_gtup2 (SqT.of (g.s _ _ e)) (h F' H' g e)
/-! ### a dict that is walked -/
def fz (X : Hp) (a : Addr) (o : HO) : Hp := fun b => if b = a then (if X a = none then none else some o) else X b
theorem fz_ne {X : Hp} {a b : Addr} {o : HO} (h : b ≠ a) : fz X a o b = X b := by unfold fz; rw [if_neg h]
theorem fz_at {X : Hp} {a : Addr} {o : HO} : fz X a o a = if X a = none then none else some o := by unfold fz; rw [if_pos rfl]
theorem fz_some {X : Hp} {a : Addr} {o u : HO} (h : fz X a o a = some u) : X a ≠ none ∧ some o = some u := by
  rw [fz_at] at h
  split at h
  · cases h
  · rename_i q; exact ⟨q, h⟩
theorem fz_gr {Fb Hb F H : Hp} {a : Addr} (z : HO) (gb : Gr0 Fb Hb F H) : Gr0 (fz Fb a z) (fz Hb a z) (fz F a z) (upd H a z) := by
  refine ⟨fun b u e => ?_, fun b u e => ?_, fun b u e => ?_, fun b u e q => ?_⟩
  · by_cases hb : b = a
    · subst hb; rw [upd_same]; exact (fz_some e).2
    · rw [fz_ne hb] at e; rw [upd_ne hb]; exact gb.h b u e
  · by_cases hb : b = a
    · subst hb
      rw [fz_at] at e ⊢
      split at e
      · cases e
      · rename_i h
        obtain ⟨w, hw⟩ := Option.ne_none_iff_exists'.mp h
        rw [if_neg (by rw [gb.f _ _ hw]; intro z; cases z)]; exact e
    · rw [fz_ne hb] at e ⊢; exact gb.f b u e
  · by_cases hb : b = a
    · subst hb; rw [upd_same]; exact (fz_some e).2
    · rw [fz_ne hb] at e; rw [upd_ne hb]; exact gb.s b u e
  · by_cases hb : b = a
    · subst hb
      rw [fz_at] at e q ⊢
      split at e
      · cases e
      · rename_i h
        obtain ⟨w, hw⟩ := Option.ne_none_iff_exists'.mp h
        split at q
        · rename_i hf
          rw [if_pos (gb.n _ _ hw hf)]
        · cases q
    · rw [fz_ne hb] at e q ⊢; exact gb.n b u e q
theorem fz_le {F : Hp} {a : Addr} {ob : Obj} {kvs : List (Key × V)} (hF : F a = none ∨ F a = some (.dK kvs)) : Le F (fz F a (.frz ob (.dK kvs))) := fun b u n h => by
  by_cases hb : b = a
  · subst hb
    rcases hF with hF | hF
    · rcases h with h | ⟨o, h⟩ <;> (rw [hF] at h; cases h)
    · rcases h with h | ⟨o, h⟩
      · rw [hF] at h
        cases h
        refine .inr ⟨ob, ?_⟩
        rw [fz_at, if_neg (by rw [hF]; intro z; cases z)]
      · rw [hF] at h; cases h
  · rcases h with h | ⟨o, h⟩
    · exact .inl (by rw [fz_ne hb]; exact h)
    · exact .inr ⟨o, by rw [fz_ne hb]; exact h⟩
theorem fz_fz {F : Hp} {a : Addr} {z : HO} {S : Addr → Prop} (c : Fz S F) : Fz (fun b => b = a ∨ S b) (fz F a z) := fun b o u h => by
  by_cases hb : b = a
  · exact .inl hb
  · rw [fz_ne hb] at h; exact .inr (c b o u h)
/-- the loop is left: the dict stands as it stood -/
theorem thw {Fb Hb F H F' H' : Hp} {S : Addr → Prop} {a : Addr} {ob : Obj} {kvs : List (Key × V)} {R : Hp → Prop} (gb : Gr0 Fb Hb F H) (hH : H a = some (.dK kvs)) (hF : F a = none ∨ F a = some (.dK kvs))
    (gz : Gr0 (fz Fb a (.frz ob (.dK kvs))) (fz Hb a (.frz ob (.dK kvs))) F' H') (sF : F' a = fz F a (.frz ob (.dK kvs)) a) (cm : Fz (fun b => b = a ∨ S b) F')
    (h : ∀ F'' H'' : Hp, Gr0 Fb Hb F'' H'' → Fz S F'' → Le F' F'' → F'' a = F a → H'' a = some (.dK kvs) → (∀ b, b ≠ a → F'' b = F' b) → (∀ b, b ≠ a → H'' b = H' b) → R H'') : R (upd H' a (.dK kvs)) := by
  have nn : F'  a = none ∨ F' a = some (.frz ob (.dK kvs)) := by
    rw [sF, fz_at]; split
    · exact .inl rfl
    · exact .inr rfl
  refine h (fz F' a (.dK kvs)) (upd H' a (.dK kvs)) ⟨fun b u e => ?_, fun b u e => ?_, fun b u e => ?_, fun b u e q => ?_⟩ (fun b o u e => ?_) (fun b u n e => ?_) ?_ upd_same (fun b hb => fz_ne hb) (fun b hb => upd_ne hb)
  · by_cases hb : b = a
    · subst hb; rw [upd_same]; have := gb.h _ _ e; rw [hH] at this; exact this
    · rw [upd_ne hb]; exact gz.h b u (by rw [fz_ne hb]; exact e)
  · by_cases hb : b = a
    · subst hb
      have e1 := gb.f _ _ e
      rcases hF with hF | hF
      · rw [hF] at e1; cases e1
      · rw [hF] at e1
        have e2 : F' b = some (.frz ob (.dK kvs)) := by rw [sF, fz_at, if_neg (by rw [hF]; intro z; cases z)]
        rw [fz_at, if_neg (by rw [e2]; intro z; cases z)]
        exact e1
    · rw [fz_ne hb]; exact gz.f b u (by rw [fz_ne hb]; exact e)
  · by_cases hb : b = a
    · subst hb; rw [upd_same]; exact (fz_some e).2
    · rw [fz_ne hb] at e; rw [upd_ne hb]; exact gz.s b u e
  · by_cases hb : b = a
    · subst hb
      rw [fz_at] at e
      split at e
      · cases e
      · rename_i hn
        rw [sF, fz_at] at hn
        split at hn
        · exact absurd rfl hn
        · rename_i hf
          obtain ⟨w, hw⟩ := Option.ne_none_iff_exists'.mp hf
          exact gb.n _ _ hw q
    · rw [fz_ne hb] at e
      have := gz.n b u e (by rw [fz_ne hb]; exact q)
      rw [fz_ne hb] at this
      exact this
  · by_cases hb : b = a
    · subst hb; cases (fz_some e).2
    · rw [fz_ne hb] at e
      rcases cm b o u e with x | x
      · exact absurd x hb
      · exact x
  · by_cases hb : b = a
    · subst hb
      rcases nn with nn | nn
      · rcases e with e | ⟨o, e⟩ <;> (rw [nn] at e; cases e)
      · rcases e with e | ⟨o, e⟩
        · rw [nn] at e; cases e; exact absurd rfl (n _ _)
        · rw [nn] at e; cases e; refine .inl ?_; rw [fz_at, if_neg (by rw [nn]; intro z; cases z)]
    · rcases e with e | ⟨o, e⟩
      · exact .inl (by rw [fz_ne hb]; exact e)
      · exact .inr ⟨o, by rw [fz_ne hb]; exact e⟩
  · rw [fz_at, sF, fz_at]
    rcases hF with hF | hF <;> rw [hF]
    · rfl
    · rfl
theorem calm_at {F : Hp} {a : Addr} {kvs : List (Key × V)} (c : Fz S0 F) (h : Rd F a (.dK kvs)) : F a = some (.dK kvs) := by
  rcases h with h | ⟨o, h⟩
  · exact h
  · exact (c _ _ _ h).elim
/-! ### what values stand for -/
abbrev Rep (α : Type) := Hp → V → α → Prop
class Mo {α : Type} (A : Rep α) : Prop where
  mo : ∀ {F F' : Hp} {v : V} {x : α}, Le F F' → A F v x → A F' v x
def rI : Rep Int := fun _ v n => v = .int n
def rB : Rep Bool := fun _ v b => v = .bl b
def rS : Rep Str := fun _ v s => v = .str s
def rN : Rep Unit := fun _ v _ => v = .non
def rFr (K : PySem.W.Frag) : Rep Rat := fun F v q => ∃ a, v = .ref a ∧ SqT K F a (fr q)
def r2 (K : PySem.W.Frag) {α β : Type} (A : Rep α) (B : Rep β) : Rep (α × β) := fun F v x => ∃ a v1 v2, v = .ref a ∧ SqT K F a [v1, v2] ∧ A F v1 x.1 ∧ B F v2 x.2
def r3 (K : PySem.W.Frag) {α β γ : Type} (A : Rep α) (B : Rep β) (C : Rep γ) : Rep (α × β × γ) := fun F v x => ∃ a v1 v2 v3, v = .ref a ∧ SqT K F a [v1, v2, v3] ∧ A F v1 x.1 ∧ B F v2 x.2.1 ∧ C F v3 x.2.2
def r5 (K : PySem.W.Frag) {α β γ δ ε : Type} (A : Rep α) (B : Rep β) (C : Rep γ) (D : Rep δ) (E : Rep ε) : Rep (α × β × γ × δ × ε) := fun F v x => ∃ a v1 v2 v3 v4 v5, v = .ref a ∧ SqT K F a [v1, v2, v3, v4, v5] ∧ A F v1 x.1 ∧ B F v2 x.2.1 ∧ C F v3 x.2.2.1 ∧ D F v4 x.2.2.2.1 ∧ E F v5 x.2.2.2.2
def Al {α : Type} (A : Rep α) (F : Hp) : List V → List α → Prop
  | [], [] => True
  | v :: vs, x :: xs => A F v x ∧ Al A F vs xs
  | _, _ => False
def rL (K : PySem.W.Frag) {α : Type} (A : Rep α) : Rep (List α) := fun F v xs => ∃ a vs, v = .ref a ∧ SqL K F a vs ∧ Al A F vs xs
/-- a dict's pairs by texts -/
def Dk {α : Type} (A : Rep α) (F : Hp) : List (Key × V) → List (Str × α) → Prop
  | [], [] => True
  | p :: r, x :: s => p.1 = Sum.inr x.1 ∧ A F p.2 x.2 ∧ Dk A F r s
  | _, _ => False
def rD {α : Type} (A : Rep α) : Rep (List (Str × α)) := fun F v m => ∃ a kvs, v = .ref a ∧ Rd F a (.dK kvs) ∧ Dk A F kvs m ∧ (m.map (·.1)).Nodup
instance : Mo rI := ⟨fun _ h => h⟩
instance : Mo rB := ⟨fun _ h => h⟩
instance : Mo rS := ⟨fun _ h => h⟩
instance : Mo rN := ⟨fun _ h => h⟩
instance {K : PySem.W.Frag} : Mo (rFr K) := ⟨fun e ⟨a, h1, h2⟩ => ⟨a, h1, e.tup h2⟩⟩
instance {K : PySem.W.Frag} {α β : Type} {A : Rep α} {B : Rep β} [Mo A] [Mo B] : Mo (r2 K A B) := ⟨fun e ⟨a, v1, v2, h1, h2, h3, h4⟩ => ⟨a, v1, v2, h1, e.tup h2, Mo.mo e h3, Mo.mo e h4⟩⟩
instance {K : PySem.W.Frag} {α β γ : Type} {A : Rep α} {B : Rep β} {C : Rep γ} [Mo A] [Mo B] [Mo C] : Mo (r3 K A B C) := ⟨fun e ⟨a, v1, v2, v3, h1, h2, h3, h4, h5⟩ => ⟨a, v1, v2, v3, h1, e.tup h2, Mo.mo e h3, Mo.mo e h4, Mo.mo e h5⟩⟩
instance {K : PySem.W.Frag} {α β γ δ ε : Type} {A : Rep α} {B : Rep β} {C : Rep γ} {D : Rep δ} {E : Rep ε} [Mo A] [Mo B] [Mo C] [Mo D] [Mo E] : Mo (r5 K A B C D E) :=
  ⟨fun e ⟨a, v1, v2, v3, v4, v5, h1, h2, h3, h4, h5, h6, h7⟩ => ⟨a, v1, v2, v3, v4, v5, h1, e.tup h2, Mo.mo e h3, Mo.mo e h4, Mo.mo e h5, Mo.mo e h6, Mo.mo e h7⟩⟩
theorem Al.mo {α : Type} {A : Rep α} [Mo A] {F F' : Hp} (e : Le F F') : ∀ {vs : List V} {xs : List α}, Al A F vs xs → Al A F' vs xs
  | [], [], _ => True.intro
  | _ :: _, _ :: _, h => ⟨Mo.mo e h.1, Al.mo e h.2⟩
  | [], _ :: _, h => h.elim
  | _ :: _, [], h => h.elim
theorem Al.length {α : Type} {A : Rep α} {F : Hp} : ∀ {vs : List V} {xs : List α}, Al A F vs xs → vs.length = xs.length
  | [], [], _ => rfl
  | _ :: vs, _ :: xs, h => by rw [List.length_cons, List.length_cons, Al.length h.2]
  | [], _ :: _, h => h.elim
  | _ :: _, [], h => h.elim
theorem Al.get {α : Type} {A : Rep α} {F : Hp} : ∀ {vs : List V} {xs : List α} {i : Nat} {v : V}, Al A F vs xs → vs[i]? = some v → ∃ x, xs[i]? = some x ∧ A F v x
  | v :: vs, x :: xs, 0, w, h, e => by simp at e; subst e; exact ⟨x, rfl, h.1⟩
  | v :: vs, x :: xs, i + 1, w, h, e => by
    obtain ⟨y, h1, h2⟩ := Al.get (i := i) h.2 (by simpa using e)
    exact ⟨y, by simpa using h1, h2⟩
  | [], [], _, _, _, e => by simp at e
  | [], _ :: _, _, _, h, _ => h.elim
  | _ :: _, [], _, _, h, _ => h.elim
theorem Al.at {α : Type} {A : Rep α} {F : Hp} {vs : List V} {xs : List α} {i : Nat} {x : α} (h : Al A F vs xs) (e : xs[i]? = some x) : ∃ v, vs[i]? = some v ∧ A F v x := by
  have hl := h.length
  have hi : i < vs.length := by rw [hl]; exact (List.getElem?_eq_some_iff.mp e).1
  obtain ⟨y, h1, h2⟩ := h.get (i := i) (v := vs[i]) (by simp)
  rw [e] at h1
  cases h1
  exact ⟨_, by simp, h2⟩
theorem Al.app {α : Type} {A : Rep α} {F : Hp} : ∀ {vs ws : List V} {xs ys : List α}, Al A F vs xs → Al A F ws ys → Al A F (vs ++ ws) (xs ++ ys)
  | [], _, [], _, _, h => h
  | _ :: _, _, _ :: _, _, h, g => ⟨h.1, Al.app h.2 g⟩
  | [], _, _ :: _, _, h, _ => h.elim
  | _ :: _, _, [], _, h, _ => h.elim
theorem Al.snoc {α : Type} {A : Rep α} {F : Hp} {vs : List V} {xs : List α} {v : V} {x : α} (h : Al A F vs xs) (g : A F v x) : Al A F (vs ++ [v]) (xs ++ [x]) := h.app ⟨g, True.intro⟩
theorem al_ints {F : Hp} : ∀ {ns : List Int}, Al rI F (ns.map V.int) ns
  | [] => True.intro
  | _ :: ns => ⟨rfl, al_ints⟩
theorem Dk.mo {α : Type} {A : Rep α} [Mo A] {F F' : Hp} (e : Le F F') : ∀ {vs : List (Key × V)} {xs : List (Str × α)}, Dk A F vs xs → Dk A F' vs xs
  | [], [], _ => True.intro
  | _ :: _, _ :: _, h => ⟨h.1, Mo.mo e h.2.1, Dk.mo e h.2.2⟩
  | [], _ :: _, h => h.elim
  | _ :: _, [], h => h.elim
theorem Dk.length {α : Type} {A : Rep α} {F : Hp} : ∀ {vs : List (Key × V)} {xs : List (Str × α)}, Dk A F vs xs → vs.length = xs.length
  | [], [], _ => rfl
  | _ :: vs, _ :: xs, h => by rw [List.length_cons, List.length_cons, Dk.length h.2.2]
  | [], _ :: _, h => h.elim
  | _ :: _, [], h => h.elim
instance {K : PySem.W.Frag} {α : Type} {A : Rep α} [Mo A] : Mo (rL K A) := ⟨fun e ⟨a, vs, h1, h2, h3⟩ => ⟨a, vs, h1, e.lst h2, h3.mo e⟩⟩
instance {α : Type} {A : Rep α} [Mo A] : Mo (rD A) := ⟨fun e ⟨a, kvs, h1, h2, h3, h4⟩ => ⟨a, kvs, h1, e.dic h2, h3.mo e, h4⟩⟩
theorem Dk.get {α : Type} {A : Rep α} {F : Hp} : ∀ {kvs : List (Key × V)} {m : List (Str × α)} {i : Nat} {k : Key} {v : V}, Dk A F kvs m → kvs[i]? = some (k, v) → ∃ x y, m[i]? = some (x, y) ∧ k = Sum.inr x ∧ A F v y
  | p :: r, x :: s, 0, k, v, h, e => by
    simp at e
    subst e
    exact ⟨x.1, x.2, rfl, h.1, h.2.1⟩
  | p :: r, x :: s, i + 1, k, v, h, e => by
    obtain ⟨x', y, e1, e2⟩ := Dk.get (i := i) h.2.2 (by simpa using e)
    exact ⟨x', y, by simpa using e1, e2⟩
  | [], [], i, _, _, _, e => by simp at e
  | [], _ :: _, _, _, _, h, _ => h.elim
  | _ :: _, [], _, _, _, h, _ => h.elim
section
variable {α : Type}
def gtd (m : List (Str × α)) (k : Str) : Option α := (m.find? fun p => decide (p.1 = k)).map (·.2)
def ptd (m : List (Str × α)) (k : Str) (y : α) : List (Str × α) := if (m.any fun p => decide (p.1 = k)) = true then m.map (fun p => if p.1 = k then (p.1, y) else p) else m ++ [(k, y)]
theorem gtd_gt (m : FL Str) (k : Str) : gtd m k = gt m k := rfl
theorem ptd_pt (m : FL Str) (k : Str) (y : Rat) : ptd m k y = pt m k y := rfl
theorem gtd_pos {p : Str × α} {r : List (Str × α)} {k : Str} (e : p.1 = k) : gtd (p :: r) k = some p.2 := by simp [gtd, List.find?_cons, e]
theorem gtd_neg {p : Str × α} {r : List (Str × α)} {k : Str} (e : ¬ p.1 = k) : gtd (p :: r) k = gtd r k := by simp [gtd, List.find?_cons, e]
theorem gtd_any (k : Str) : ∀ m : List (Str × α), (m.any fun p => decide (p.1 = k)) = (gtd m k).isSome
  | [] => rfl
  | p :: r => by
    rw [List.any_cons, gtd_any k r]
    by_cases e : p.1 = k
    · rw [gtd_pos e, decide_eq_true e]; rfl
    · rw [gtd_neg e, decide_eq_false e]; rfl
theorem gtd_ptd (m : List (Str × α)) (k j : Str) (y : α) : gtd (ptd m k y) j = if j = k then some y else gtd m j := by
  have repl : ∀ m : List (Str × α), gtd (m.map (fun p => if p.1 = k then (p.1, y) else p)) j = (gtd m j).map fun x => if j = k then y else x := by
    intro m
    induction m with
    | nil => rfl
    | cons p r ih =>
      rw [List.map_cons]
      by_cases e : p.1 = k
      · rw [if_pos e]
        by_cases f : p.1 = j
        · rw [gtd_pos (p := (p.1, y)) f, gtd_pos f, Option.map_some, if_pos (f.symm.trans e)]
        · rw [gtd_neg (p := (p.1, y)) f, gtd_neg f, ih]
      · rw [if_neg e]
        by_cases f : p.1 = j
        · rw [gtd_pos f, gtd_pos f, Option.map_some, if_neg (fun z => e (f.trans z))]
        · rw [gtd_neg f, gtd_neg f, ih]
  unfold ptd
  rw [gtd_any]
  by_cases h : (gtd m k).isSome = true
  · rw [if_pos h, repl]
    by_cases f : j = k
    · subst f
      obtain ⟨v, e⟩ := Option.isSome_iff_exists.mp h
      rw [e, if_pos rfl]; simp
    · rw [if_neg f]; simp [f]
  · rw [if_neg h]
    have hn : gtd m k = none := by simpa using h
    have snoc : ∀ m : List (Str × α), gtd m k = none → gtd (m ++ [(k, y)]) j = if j = k then some y else gtd m j := by
      intro m
      induction m with
      | nil =>
        intro _
        by_cases f : j = k
        · rw [if_pos f]; exact gtd_pos f.symm
        · rw [if_neg f]; exact gtd_neg (fun z => f z.symm)
      | cons p r ih =>
        intro hm
        by_cases e : p.1 = k
        · rw [gtd_pos e] at hm; cases hm
        · rw [gtd_neg e] at hm
          rw [List.cons_append]
          by_cases f : p.1 = j
          · rw [gtd_pos f, gtd_pos f, if_neg (fun z => e (f.trans z))]
          · rw [gtd_neg f, gtd_neg f, ih hm]
    exact snoc m hn
theorem gtd_ptd_same (m : List (Str × α)) (k : Str) (y : α) : gtd (ptd m k y) k = some y := by rw [gtd_ptd, if_pos rfl]
theorem Dk.val {A : Rep α} {F : Hp} (x : Str) : ∀ {kvs : List (Key × V)} {m : List (Str × α)}, Dk A F kvs m → (valV kvs (Sum.inr x : Key) = none ∧ gtd m x = none) ∨ ∃ v y, valV kvs (Sum.inr x : Key) = some v ∧ gtd m x = some y ∧ A F v y
  | [], [], _ => .inl ⟨rfl, rfl⟩
  | p :: r, y :: s, h => by
    by_cases e : y.1 = x
    · have e2 : p.1 = (Sum.inr x : Key) := by rw [h.1, e]
      exact .inr ⟨p.2, y.2, by rw [valV_pos e2], gtd_pos e, h.2.1⟩
    · have e2 : ¬ p.1 = (Sum.inr x : Key) := by rw [h.1]; exact fun z => e (Sum.inr.inj z)
      rw [valV_neg e2, gtd_neg e]
      exact Dk.val x h.2.2
  | [], _ :: _, h => h.elim
  | _ :: _, [], h => h.elim
theorem Dk.some {A : Rep α} {F : Hp} {x : Str} {y : α} {kvs : List (Key × V)} {m : List (Str × α)} (h : Dk A F kvs m) (e : gtd m x = some y) : ∃ v, valV kvs (Sum.inr x : Key) = some v ∧ A F v y := by
  rcases h.val x with ⟨_, h2⟩ | ⟨v, y', h1, h2, h3⟩
  · rw [e] at h2; cases h2
  · rw [e] at h2; cases h2; exact ⟨v, h1, h3⟩
theorem Dk.none {A : Rep α} {F : Hp} {x : Str} {kvs : List (Key × V)} {m : List (Str × α)} (h : Dk A F kvs m) (e : gtd m x = none) : valV kvs (Sum.inr x : Key) = none := by
  rcases h.val x with ⟨h1, _⟩ | ⟨v, y', h1, h2, h3⟩
  · exact h1
  · rw [e] at h2; cases h2
theorem Dk.any {A : Rep α} {F : Hp} (x : Str) {kvs : List (Key × V)} {m : List (Str × α)} (h : Dk A F kvs m) : (kvs.any fun kv => decide (kv.1 = (Sum.inr x : Key))) = (m.any fun p => decide (p.1 = x)) := by
  rw [valV_any, gtd_any]
  rcases h.val x with ⟨h1, h2⟩ | ⟨a, q, h1, h2, _⟩
  · rw [h1, h2]; rfl
  · rw [h1, h2]; rfl
theorem Dk.snoc {A : Rep α} {F : Hp} {x : Str} {y : α} {v : V} (hv : A F v y) : ∀ {kvs : List (Key × V)} {m : List (Str × α)}, Dk A F kvs m → Dk A F (kvs ++ [(Sum.inr x, v)]) (m ++ [(x, y)])
  | [], [], _ => ⟨rfl, hv, True.intro⟩
  | _ :: _, _ :: _, h => ⟨h.1, h.2.1, Dk.snoc hv h.2.2⟩
  | [], _ :: _, h => h.elim
  | _ :: _, [], h => h.elim
theorem Dk.repl {A : Rep α} {F : Hp} {x : Str} {y : α} {v : V} (hv : A F v y) : ∀ {kvs : List (Key × V)} {m : List (Str × α)}, Dk A F kvs m →
    Dk A F (kvs.map fun kv => if kv.1 = (Sum.inr x : Key) then (kv.1, v) else kv) (m.map fun p => if p.1 = x then (p.1, y) else p)
  | [], [], _ => True.intro
  | p :: r, z :: s, h => by
    have ih := Dk.repl (x := x) hv h.2.2
    rw [List.map_cons, List.map_cons]
    by_cases e : z.1 = x
    · have e2 : p.1 = (Sum.inr x : Key) := by rw [h.1, e]
      rw [if_pos e2, if_pos e]
      exact ⟨h.1, hv, ih⟩
    · have e2 : ¬ p.1 = (Sum.inr x : Key) := by rw [h.1]; exact fun z => e (Sum.inr.inj z)
      rw [if_neg e2, if_neg e]
      exact ⟨h.1, h.2.1, ih⟩
  | [], _ :: _, h => h.elim
  | _ :: _, [], h => h.elim
theorem Dk.put {A : Rep α} {F : Hp} {x : Str} {y : α} {v : V} (hv : A F v y) {kvs : List (Key × V)} {m : List (Str × α)} (h : Dk A F kvs m) : Dk A F (putK kvs (Sum.inr x : Key) v) (ptd m x y) := by
  unfold putK ptd
  rw [h.any x]
  split
  · exact h.repl hv
  · exact h.snoc hv
end
/-! ### sizes -/
def bl (n : Nat) : Nat := if n = 0 then 0 else Nat.log2 n + 1
theorem bl_lt {n k : Nat} : n < 2 ^ k ↔ bl n ≤ k := by
  unfold bl
  by_cases h : n = 0
  · subst h; simp [Nat.two_pow_pos]
  · rw [if_neg h, ← Nat.log2_lt h]; omega
theorem bl_self (n : Nat) : n < 2 ^ bl n := bl_lt.mpr (Nat.le_refl _)
/-- the bits of an int; of a fraction -/
def bi (x : Int) : Nat := bl x.natAbs
def bs (q : Rat) : Nat := max (bl q.num.natAbs) (bl q.den)
theorem sm_of {q : Rat} {n : Nat} (h : bs q ≤ n) : Sm n q := ⟨bl_lt.mpr (by unfold bs at h; omega), bl_lt.mpr (by unfold bs at h; omega)⟩
theorem of_sm {q : Rat} {n : Nat} (h : Sm n q) : bs q ≤ n := by
  have h1 := bl_lt.mp h.1
  have h2 := bl_lt.mp h.2
  unfold bs
  omega
theorem sm_bs (q : Rat) : Sm (bs q) q := sm_of (Nat.le_refl _)
theorem bs_add (a b : Rat) : bs (a + b) ≤ bs a + bs b + 1 := of_sm (sm_add (sm_bs a) (sm_bs b))
theorem bs_sub (a b : Rat) : bs (a - b) ≤ bs a + bs b + 1 := of_sm (sm_sub (sm_bs a) (sm_bs b))
theorem bs_mul (a b : Rat) : bs (a * b) ≤ bs a + bs b := of_sm (sm_mul (sm_bs a) (sm_bs b))
theorem bs_neg (a : Rat) : bs (-a) ≤ bs a := of_sm (sm_neg (sm_bs a))
theorem bs_zero : bs 0 = 1 := by decide +kernel
theorem bs_one : bs 1 = 1 := by decide +kernel
theorem bi_lt {x : Int} {k : Nat} (h : x.natAbs < 2 ^ k) : bi x ≤ k := bl_lt.mp h
theorem lt_bi {x : Int} {k : Nat} (h : bi x ≤ k) : x.natAbs < 2 ^ k := bl_lt.mpr h
theorem bi_mul (x y : Int) : bi (x * y) ≤ bi x + bi y := bl_lt.mp (abs_mul_lt (bl_self _) (bl_self _))
theorem bi_add (x y : Int) : bi (x + y) ≤ max (bi x) (bi y) + 1 := by
  have h1 : x.natAbs < 2 ^ (max (bi x) (bi y)) := Nat.lt_of_lt_of_le (bl_self _) (Nat.pow_le_pow_right (by decide) (Nat.le_max_left _ _))
  have h2 : y.natAbs < 2 ^ (max (bi x) (bi y)) := Nat.lt_of_lt_of_le (bl_self _) (Nat.pow_le_pow_right (by decide) (Nat.le_max_right _ _))
  exact bl_lt.mp (abs_add_lt h1 h2)
theorem bi_sub (x y : Int) : bi (x - y) ≤ max (bi x) (bi y) + 1 := by
  have h1 : x.natAbs < 2 ^ (max (bi x) (bi y)) := Nat.lt_of_lt_of_le (bl_self _) (Nat.pow_le_pow_right (by decide) (Nat.le_max_left _ _))
  have h2 : y.natAbs < 2 ^ (max (bi x) (bi y)) := Nat.lt_of_lt_of_le (bl_self _) (Nat.pow_le_pow_right (by decide) (Nat.le_max_right _ _))
  exact bl_lt.mp (abs_sub_lt h1 h2)
theorem bi_small {x : Int} (k : Nat) (h : x.natAbs < 2 ^ k) : bi x ≤ k := bl_lt.mp h
theorem bi_num (q : Rat) : bi q.num ≤ bs q := by unfold bi bs; omega
theorem bi_den (q : Rat) : bi (q.den : Int) ≤ bs q := by unfold bi bs; rw [Int.natAbs_natCast]; omega
theorem bs_divInt {t b : Int} (h : b ≠ 0) {k : Nat} (h1 : bi t ≤ k) (h2 : bi b ≤ k) : bs (Rat.divInt t b) ≤ k := of_sm (sm_divInt h (lt_bi h1) (lt_bi h2))
theorem mulBB {x y : Int} (h1 : bi x ≤ 60000000) (h2 : bi y ≤ 60000000) : CMulX x y := .inr ⟨60000000, Nat.le_refl _, lt_bi h1, lt_bi h2⟩
theorem mulL2 {x y : Int} (h1 : -18446744073709551616 < x) (h2 : x < 18446744073709551616) : CMulX x y := .inl (.inl ⟨by omega, by omega⟩)
theorem mulR2 {x y : Int} (h1 : -18446744073709551616 < y) (h2 : y < 18446744073709551616) : CMulX x y := .inl (.inr ⟨by omega, by omega⟩)
theorem mulLB {x y : Int} (h1 : bi x ≤ 60) : CMulX x y := by
  have h := lt_bi h1
  refine .inl (.inl ⟨?_, ?_⟩) <;> omega
theorem mulRB {x y : Int} (h1 : bi y ≤ 60) : CMulX x y := by
  have h := lt_bi h1
  refine .inl (.inr ⟨?_, ?_⟩) <;> omega
theorem divB {x y : Int} (h0 : y ≠ 0) (h1 : bi y ≤ 8000) : CDivB x y := ⟨h0, lt_bi h1⟩
/-! ### steps -/
section
variable {σ : St} {H : Hp} {Q : VK} {D : Ends} {K : PySem.W.Frag}
theorem a_powC {i j z : Int} (e : i ^ j.toNat = z) (c : CPow i j) (h : Q (.int z) H) : L2.rI CPow (fun i j => .int (i ^ j.toNat)) (.int i) (.int j) H Q := ⟨i, j, rfl, rfl, c, by dsimp only; rw [e]; exact h⟩
theorem a_lenT {p : Addr} {ys : List V} {m : Int} (h : SqT K H p ys) (e : (ys.length : Int) = m) (q : Q (.int m) H) : ∃ p' ys', [V.ref p] = [V.ref p'] ∧ (SqL K H p' ys' ∨ SqT K H p' ys') ∧ Q (.int (ys'.length : Int)) H := ⟨p, ys, rfl, .inr h, by rw [e]; exact q⟩
theorem a_eqS {x y : Str} (h : Q (.bl (decide (x = y))) H) : rEq (.str x) (.str y) H Q := ⟨rfl, by
  have e : decide (V.str x = V.str y) = decide (x = y) := by
    by_cases q : x = y
    · subst q; simp
    · rw [decide_eq_false q, decide_eq_false (fun z => q (V.str.inj z))]
  rw [e]; exact h⟩
theorem a_neS {x y : Str} (h : Q (.bl (!decide (x = y))) H) : rNe (.str x) (.str y) H Q := ⟨rfl, by
  have e : decide (V.str x = V.str y) = decide (x = y) := by
    by_cases q : x = y
    · subst q; simp
    · rw [decide_eq_false q, decide_eq_false (fun z => q (V.str.inj z))]
  rw [e]; exact h⟩
theorem iteB {b : Bool} {A B : Prop} (h1 : b = true → A) (h2 : b = false → B) : if b = true then A else B := by
  cases b
  · exact iteF (h2 rfl)
  · exact iteT (h1 rfl)
theorem iteNB {b : Bool} {A B : Prop} (h1 : b = false → A) (h2 : b = true → B) : if (!b) = true then A else B := by
  cases b
  · exact iteT (h1 rfl)
  · exact iteF (h2 rfl)
theorem fr_int (n : Int) : fr ((n : Int) : Rat) = [.int n, .int 1] := by
  unfold fr
  rw [Rat.num_intCast, Rat.den_intCast]
  rfl
theorem fr_lit {q : Rat} {t b : Int} (h1 : q.num = t) (h2 : (q.den : Int) = b) : fr q = [.int t, .int b] := by unfold fr; rw [h1, h2]
end
/-- the class of a value -/
def TyX (K : PySem.W.Frag) (H : Hp) (x : V) (t : Value) : Prop := TyOf K H x t ∨ (t = .type "tuple" ∧ ∃ a xs, x = .ref a ∧ SqT K H a xs) ∨ (t = .type "list" ∧ ∃ a xs, x = .ref a ∧ SqL K H a xs) ∨ (t = .type "dict" ∧ ∃ a kvs, x = .ref a ∧ Rd H a (.dK kvs))
section
variable {K : PySem.W.Frag} {H : Hp}
theorem tx_tup {a : Addr} {xs : List V} (h : SqT K H a xs) : TyX K H (.ref a) (.type "tuple") := .inr (.inl ⟨rfl, a, xs, rfl, h⟩)
theorem tx_lst {a : Addr} {xs : List V} (h : SqL K H a xs) : TyX K H (.ref a) (.type "list") := .inr (.inr (.inl ⟨rfl, a, xs, rfl, h⟩))
theorem tx_dic {a : Addr} {kvs : List (Key × V)} (h : Rd H a (.dK kvs)) : TyX K H (.ref a) (.type "dict") := .inr (.inr (.inr ⟨rfl, a, kvs, rfl, h⟩))
theorem tx_int {i : Int} : TyX K H (.int i) (.type "int") := .inl (.int i)
theorem tx_str {i : Str} : TyX K H (.str i) (.type "str") := .inl (.str i)
theorem tx_bl {i : Bool} : TyX K H (.bl i) (.type "bool") := .inl (.bl i)
theorem tx_non : TyX K H .non (.type "NoneType") := .inl .non
end
section
open PySem.Spec PyProof.Rows
variable {X : Cx}
theorem call_isx : CallR X (.builtin "isinstance") (fun xs H Q => ∃ x c t b u, xs = [x, c] ∧ TyX X.K H x t ∧ clsV c = some u ∧ PySem.W.kitOne X.K t u = some b ∧ Q (.bl b) H) := by
  intro pins s σ H xs us Q I r h
  obtain ⟨x, c, t, b, u, rfl, ty, rc, e, q⟩ := h
  rcases ty with ty | ⟨rfl, a, ys, rfl, hs⟩ | ⟨rfl, a, ys, rfl, hs⟩ | ⟨rfl, a, kvs, rfl, hs⟩
  · exact call_isi pins s σ H [x, c] us Q I r ⟨x, c, t, b, u, rfl, ty, rc, e, q⟩
  all_goals
    obtain ⟨v, w', rfl, rx, rw'⟩ := vals2 r
    have ew : w' = u := by
      cases c with
      | ref a => cases rc; exact rw'
      | ty n => cases rc; exact rw'
      | non => cases rc
      | bl n => cases rc
      | int i => cases rc
      | str i => cases rc
      | byt i => cases rc
      | flt i => cases rc
    subst ew
    cases (show v = Value.ref a from rx)
  · obtain ⟨its, _, p, _⟩ := I.tuple hs
    obtain ⟨o, h1, h2, _⟩ := p
    exact PySem.W.kia_one PySem.W.kitx_tuple I.kIn ⟨o, h1, h2⟩ e (fun z => nomatch z) fun tk => ⟨.bl b, H, I.tok tk, rfl, q⟩
  · obtain ⟨its, _, p, _⟩ := I.list hs
    obtain ⟨o, h1, h2, _⟩ := p.isList
    exact PySem.W.kia_one PySem.W.kitx_list I.kIn ⟨o, h1, h2⟩ e (fun z => nomatch z) fun tk => ⟨.bl b, H, I.tok tk, rfl, q⟩
  · obtain ⟨_, _, vs, _, p⟩ := dk_rd I.hok hs
    obtain ⟨o, es, ep, h1, h2, _⟩ := p
    exact PySem.W.kia_one PySem.W.kitx_dict I.kIn ⟨o, h1, h2.1⟩ e (fun z => nomatch z) fun tk => ⟨.bl b, H, I.tok tk, rfl, q⟩
end
/-! ### a list's item at an int; dicts -/
theorem Al.ix {α : Type} {A : Rep α} {F : Hp} {vs : List V} {xs : List α} (h : Al A F vs xs) {i : Int} (h0 : 0 ≤ i) (h1 : i < xs.length) : ∃ x v, xs[i.toNat]? = some x ∧ atI vs i = some v ∧ A F v x := by
  have hi : i.toNat < xs.length := by omega
  obtain ⟨v, e1, e2⟩ := h.at (i := i.toNat) (x := xs[i.toNat]) (by simp [hi])
  refine ⟨xs[i.toNat], v, by simp [hi], ?_, e2⟩
  have := atI_nat e1
  rw [Int.toNat_of_nonneg h0] at this
  exact this
theorem nd_ptd {α : Type} {m : List (Str × α)} (n : (m.map (·.1)).Nodup) (k : Str) (y : α) : ((ptd m k y).map (·.1)).Nodup := by
  unfold ptd
  split
  · rw [List.map_map]
    have e : (m.map ((·.1) ∘ fun p => if p.1 = k then (p.1, y) else p)) = m.map (·.1) := by
      apply List.map_congr_left
      intro p _
      simp only [Function.comp]
      split <;> rfl
    rw [e]; exact n
  · rename_i h
    rw [List.map_append, List.nodup_append]
    refine ⟨n, by simp, ?_⟩
    intro a ha b hb e
    simp at hb
    subst hb
    subst e
    obtain ⟨p, hp, hk⟩ := List.mem_map.mp ha
    apply h
    rw [List.any_eq_true]
    exact ⟨p, hp, by simp [hk]⟩
/-! ### texts -/
/-- the sign at a place -/
def sgn (z : Str) (i : Int) : Str := ⟨#[z.cps.toList.getD i.toNat 0]⟩
theorem a_ixS {H : Hp} {Q : VK} {z : Str} {i : Int} (hz : z.length ≤ sizeLine) (h0 : 0 ≤ i) (h1 : i < z.length) (h : Q (.str (sgn z i)) H) : rIxS (.str z) (.int i) H Q := by
  have hl : z.cps.toList.length = z.length := by rw [Array.length_toList]; rfl
  have e : z.cps.toList[i.toNat]? = some (z.cps.toList.getD i.toNat 0) := by
    rw [List.getD_eq_getElem?_getD, List.getElem?_eq_getElem (by omega)]
    rfl
  have := atI_nat e
  rw [Int.toNat_of_nonneg h0] at this
  exact ⟨z, i, _, rfl, rfl, hz, this, h⟩
theorem str_len_app (x y : Str) : (x ++ y).length = x.length + y.length := Array.size_append
/-! ### cuts -/
def cutA {α : Type} (xs : List α) (lo hi : Option Int) : List α := (xs.drop (HT.sIx xs.length 0 lo)).take (HT.sIx xs.length xs.length hi - HT.sIx xs.length 0 lo)
theorem cutA_le {α : Type} (xs : List α) (lo hi : Option Int) : (cutA xs lo hi).length ≤ xs.length := by
  unfold cutA
  rw [List.length_take, List.length_drop]
  omega
theorem Al.drop {α : Type} {A : Rep α} {F : Hp} : ∀ (n : Nat) {vs : List V} {xs : List α}, Al A F vs xs → Al A F (vs.drop n) (xs.drop n)
  | 0, _, _, h => h
  | _ + 1, [], [], _ => True.intro
  | n + 1, _ :: _, _ :: _, h => Al.drop n h.2
  | _ + 1, [], _ :: _, h => h.elim
  | _ + 1, _ :: _, [], h => h.elim
theorem Al.take {α : Type} {A : Rep α} {F : Hp} : ∀ (n : Nat) {vs : List V} {xs : List α}, Al A F vs xs → Al A F (vs.take n) (xs.take n)
  | 0, _, _, _ => True.intro
  | _ + 1, [], [], _ => True.intro
  | n + 1, _ :: _, _ :: _, h => ⟨h.1, Al.take n h.2⟩
  | _ + 1, [], _ :: _, h => h.elim
  | _ + 1, _ :: _, [], h => h.elim
theorem Al.cut {α : Type} {A : Rep α} {F : Hp} {vs : List V} {xs : List α} (lo hi : Option Int) (h : Al A F vs xs) : Al A F (cutV vs lo hi) (cutA xs lo hi) := by
  unfold cutV cutA
  rw [h.length]
  exact (h.drop _).take _
end Vc

/-! == of what values stand for. -/
namespace Vc
open PySem L2 Sf
section
variable {X : Cx} {pins : List (Addr × Obj)} {σ : St} {F H : Hp} {s : Shared} {Au : Around}
theorem rel_fun : ∀ {x y : V} {u : Value}, RelV x u → RelV y u → x = y := by
  intro x y u h1 h2
  cases x <;> cases y <;> simp only [RelV] at h1 h2 <;> first
    | rfl
    | (subst h1; simp at h2; subst h2; rfl)
    | (subst h1; simp at h2; done)
    | (obtain ⟨t, rfl⟩ := h1; obtain ⟨t', e⟩ := h2; simp at e; rw [e.1])
    | (obtain ⟨t, rfl⟩ := h1; simp at h2; done)
    | (obtain ⟨t, rfl⟩ := h2; simp at h1; done)
theorem vals_fun : ∀ {xs ys : List V} {us : List Value}, Vals xs us → Vals ys us → xs = ys
  | [], [], _, _, _ => rfl
  | _ :: _, _ :: _, _, .cons h t, .cons h' t' => by rw [rel_fun h h', vals_fun t t']
  | [], _ :: _, _, h, h' => by cases h; cases h'
  | _ :: _, [], _, h, h' => by cases h'; cases h
theorem sqT_fun {a : Addr} {xs ys : List V} (I : Inv X pins σ H s) (h1 : SqT X.K H a xs) (h2 : SqT X.K H a ys) : xs = ys := by
  obtain ⟨us, r1, ⟨o1, g1, c1, n1, d1⟩, _⟩ := I.tuple h1
  obtain ⟨ws, r2, ⟨o2, g2, c2, n2, d2⟩, _⟩ := I.tuple h2
  rw [g1] at g2
  cases g2
  rw [d1] at d2
  injection d2 with e _
  have : us = ws := by simpa using e
  subst this
  exact vals_fun r1 r2
theorem sqL_fun {a : Addr} {xs ys : List V} (I : Inv X pins σ H s) (h1 : SqL X.K H a xs) (h2 : SqL X.K H a ys) : xs = ys := by
  obtain ⟨us, r1, p1, _⟩ := I.list h1
  obtain ⟨ws, r2, p2, _⟩ := I.list h2
  obtain ⟨o1, g1, c1, n1, d1⟩ := p1.isList
  obtain ⟨o2, g2, c2, n2, d2⟩ := p2.isList
  rw [g1] at g2
  cases g2
  rw [d1] at d2
  injection d2 with e _
  have : us = ws := by simpa using e
  subst this
  exact vals_fun r1 r2
theorem rc_tups {a b : Addr} {xs ys : List V} (I : Inv X pins σ H s) (h1 : SqT X.K H a xs) (h2 : SqT X.K H b ys) (hu : Au.units < cLine) (hl : xs.length = ys.length) (e : Nat → Bool)
    (he : ∀ (j : Nat) x y u v, xs[j]? = some x → ys[j]? = some y → RelV x u → RelV y v → SeqAt.EqAt Au.in1 s u v (e j)) : SeqAt.RcAt Au s (.ref a) (.ref b) ((List.range xs.length).all e) := by
  obtain ⟨us, r1, t1, _⟩ := I.tuple h1
  obtain ⟨ws, r2, t2, _⟩ := I.tuple h2
  have l1 := r1.length
  have l2 := r2.length
  have z := SeqAt.RcAt.tuples (A := Au) (e := e) t1 t2 hu (fun j h1 h2 => ?_)
  · have e0 : ((List.range (min us.toArray.size ws.toArray.size)).all e && us.toArray.size == ws.toArray.size) = (List.range xs.length).all e := by
      simp only [List.size_toArray]
      have e1 : min us.length ws.length = xs.length := by omega
      have e2 : (us.length == ws.length) = true := by simp; omega
      rw [e1, e2, Bool.and_true]
    rw [e0] at z
    exact z
  · simp only [List.size_toArray] at h1 h2
    obtain ⟨u, e1, ru⟩ := r1.get (i := j) (x := xs[j]'(by omega)) (by simp)
    obtain ⟨v, e2, rv⟩ := r2.get (i := j) (x := ys[j]'(by omega)) (by simp)
    obtain ⟨_, f1⟩ := List.getElem?_eq_some_iff.mp e1
    obtain ⟨_, f2⟩ := List.getElem?_eq_some_iff.mp e2
    have g1 : us.toArray[j]'(by simpa using h1) = u := by simpa using f1
    have g2 : ws.toArray[j]'(by simpa using h2) = v := by simpa using f2
    rw [g1, g2]
    exact he j _ _ u v (by simp) (by simp) ru rv
theorem rc_lsts {a b : Addr} {xs ys : List V} (I : Inv X pins σ H s) (h1 : SqL X.K H a xs) (h2 : SqL X.K H b ys) (hu : Au.units < cLine) (hl : xs.length = ys.length) (e : Nat → Bool)
    (he : ∀ (j : Nat) x y u v, xs[j]? = some x → ys[j]? = some y → RelV x u → RelV y v → SeqAt.EqAt Au.in1 s u v (e j)) : SeqAt.RcAt Au s (.ref a) (.ref b) ((List.range xs.length).all e) := by
  obtain ⟨us, r1, t1, _⟩ := I.list h1
  obtain ⟨ws, r2, t2, _⟩ := I.list h2
  have l1 := r1.length
  have l2 := r2.length
  have z := SeqAt.RcAt.lists (A := Au) (e := e) t1.isList t2.isList (by simp; omega) hu (fun j h1 h2 => ?_)
  · have e0 : (List.range us.toArray.size).all e = (List.range xs.length).all e := by
      simp only [List.size_toArray]
      rw [← l1]
    rw [e0] at z
    exact z
  · simp only [List.size_toArray] at h1 h2
    obtain ⟨u, e1, ru⟩ := r1.get (i := j) (x := xs[j]'(by omega)) (by simp)
    obtain ⟨v, e2, rv⟩ := r2.get (i := j) (x := ys[j]'(by omega)) (by simp)
    obtain ⟨_, f1⟩ := List.getElem?_eq_some_iff.mp e1
    obtain ⟨_, f2⟩ := List.getElem?_eq_some_iff.mp e2
    have g1 : us.toArray[j]'(by simpa using h1) = u := by simpa using f1
    have g2 : ws.toArray[j]'(by simpa using h2) = v := by simpa using f2
    rw [g1, g2]
    exact he j _ _ u v (by simp) (by simp) ru rv
end
/-- == of two that stand for x and y is x = y; dep deep -/
class Qf {α : Type} [DecidableEq α] (K : PySem.W.Frag) (A : Rep α) (dep : outParam Nat) : Prop where
  fn : ∀ {X : Cx} {pins : List (Addr × Obj)} {σ : St} {F H : Hp} {s : Shared} {v : V} {x y : α}, X.K = K → Inv X pins σ H s → Same F H → A F v x → A F v y → x = y
  qf : ∀ {X : Cx} {pins : List (Addr × Obj)} {σ : St} {F H : Hp} {s : Shared} {Au : Around} {v w : V} {x y : α} {u u' : Value}, X.K = K → Inv X pins σ H s → Same F H → A F v x → A F w y → RelV v u → RelV w u' → Au.units + dep < cLine → SeqAt.EqAt Au s u u' (decide (x = y))
/-- .. of things on the heap: by richCompare -/
class Qr {α : Type} [DecidableEq α] (K : PySem.W.Frag) (A : Rep α) (dep : outParam Nat) : Prop where
  fn : ∀ {X : Cx} {pins : List (Addr × Obj)} {σ : St} {F H : Hp} {s : Shared} {v : V} {x y : α}, X.K = K → Inv X pins σ H s → Same F H → A F v x → A F v y → x = y
  rf : ∀ {F : Hp} {v : V} {x : α}, A F v x → ∃ a, v = .ref a
  rc : ∀ {X : Cx} {pins : List (Addr × Obj)} {σ : St} {F H : Hp} {s : Shared} {Au : Around} {a b : Addr} {x y : α}, X.K = K → Inv X pins σ H s → Same F H → A F (.ref a) x → A F (.ref b) y → Au.units + dep < cLine → SeqAt.RcAt Au s (.ref a) (.ref b) (decide (x = y))
instance (priority := low) {α : Type} [DecidableEq α] {K : PySem.W.Frag} {A : Rep α} {d : Nat} [q : Qr K A d] : Qf K A d where
  fn := q.fn
  qf := fun {X pins σ F H s Au v w x y u u'} hK I wd h1 h2 r1 r2 hu => by
    obtain ⟨a, rfl⟩ := q.rf h1
    obtain ⟨b, rfl⟩ := q.rf h2
    cases r1
    cases r2
    by_cases e : a = b
    · subst e
      rw [decide_eq_true (q.fn hK I wd h1 h2)]
      exact SeqAt.EqAt.same _
    · exact SeqAt.EqAt.of_refs e (q.rc hK I wd h1 h2 hu)
theorem qf_flat {α : Type} [DecidableEq α] {K : PySem.W.Frag} {A : Rep α} (f : α → V) (hf : ∀ F v x, A F v x ↔ v = f x) (fl : ∀ x, flatV (f x) = true) (he : ∀ x y, eqV (f x) (f y) = decide (x = y)) (hi : ∀ x y, f x = f y → x = y) : Qf K A 0 where
  fn := fun {X pins σ F H s v x y} _ _ _ h1 h2 => hi x y (((hf F v x).mp h1).symm.trans ((hf F v y).mp h2))
  qf := fun {X pins σ F H s Au v w x y u u'} _ _ _ h1 h2 r1 r2 _ => by
    have e1 := (hf F v x).mp h1
    have e2 := (hf F w y).mp h2
    subst e1 e2
    rw [← he x y]
    exact eqAt_V r1 r2 (fl x) (fl y)
instance {K : PySem.W.Frag} : Qf K rI 0 := qf_flat V.int (fun _ _ _ => Iff.rfl) (fun _ => rfl) (fun x y => by show (x == y) = _; rw [Bool.beq_eq_decide_eq]) (fun _ _ h => V.int.inj h)
instance {K : PySem.W.Frag} : Qf K rS 0 := qf_flat V.str (fun _ _ _ => Iff.rfl) (fun _ => rfl) (fun x y => by show (x == y) = _; rw [Bool.beq_eq_decide_eq]) (fun _ _ h => V.str.inj h)
instance {K : PySem.W.Frag} : Qf K rB 0 := qf_flat V.bl (fun _ _ _ => Iff.rfl) (fun _ => rfl) (fun x y => by show (x == y) = _; rw [Bool.beq_eq_decide_eq]) (fun _ _ h => V.bl.inj h)
theorem rat_dec (p q : Rat) : decide (p = q) = (decide (p.num = q.num) && decide ((p.den : Int) = (q.den : Int))) := by
  by_cases h : p = q
  · subst h; simp
  · rw [decide_eq_false h]
    by_cases h1 : p.num = q.num
    · have h2 : ¬ ((p.den : Int) = (q.den : Int)) := fun z => h (Rat.ext h1 (by omega))
      rw [decide_eq_false h2, Bool.and_false]
    · rw [decide_eq_false h1, Bool.false_and]
theorem int_eqAt {Au : Around} {s : Shared} {i j : Int} {u v : Value} (r1 : RelV (.int i) u) (r2 : RelV (.int j) v) : SeqAt.EqAt Au s u v (decide (i = j)) := by
  have z := eqAt_V (A := Au) (s := s) r1 r2 rfl rfl
  have e : eqV (.int i) (.int j) = decide (i = j) := by show (i == j) = _; rw [Bool.beq_eq_decide_eq]
  rw [e] at z
  exact z
instance {K : PySem.W.Frag} : Qr K (rFr K) 1 where
  fn := fun {X pins σ F H s v x y} hK I wd h1 h2 => by
    subst hK
    obtain ⟨a, rfl, g1⟩ := h1
    obtain ⟨b, e, g2⟩ := h2
    cases e
    have z := sqT_fun I (wd.tup g1) (wd.tup g2)
    unfold fr at z
    injection z with z1 z2
    injection z2 with z2 _
    have n1 := V.int.inj z1
    have n2 := V.int.inj z2
    exact Rat.ext n1 (by omega)
  rf := fun ⟨a, h, _⟩ => ⟨a, h⟩
  rc := fun {X pins σ F H s Au a b x y} hK I wd h1 h2 hu => by
    subst hK
    obtain ⟨a', e1, g1⟩ := h1
    obtain ⟨b', e2, g2⟩ := h2
    cases e1
    cases e2
    have z := rc_tups (Au := Au) I (wd.tup g1) (wd.tup g2) (by omega) rfl (fun j => if j = 0 then decide (x.num = y.num) else decide ((x.den : Int) = (y.den : Int))) (fun j p q u v h1 h2 r1 r2 => by
      match j, h1, h2 with
      | 0, h1, h2 => cases h1; cases h2; exact int_eqAt r1 r2
      | 1, h1, h2 => cases h1; cases h2; exact int_eqAt r1 r2
      | j + 2, h1, h2 => cases h1)
    rw [rat_dec]
    have e : (List.range (fr x).length).all (fun j => if j = 0 then decide (x.num = y.num) else decide ((x.den : Int) = (y.den : Int))) = (decide (x.num = y.num) && decide ((x.den : Int) = (y.den : Int))) := by
      show (List.range 2).all _ = _
      simp [List.range_succ]
    rw [e] at z
    exact z
instance {K : PySem.W.Frag} {α β : Type} [DecidableEq α] [DecidableEq β] {A : Rep α} {B : Rep β} {d e : Nat} [qa : Qf K A d] [qb : Qf K B e] : Qr K (r2 K A B) (d + e + 1) where
  fn := fun {X pins σ F H s v x y} hK I wd h1 h2 => by
    subst hK
    obtain ⟨a, v1, v2, rfl, g, k1, k2⟩ := h1
    obtain ⟨b, w1, w2, e, g', l1, l2⟩ := h2
    cases e
    have z := sqT_fun I (wd.tup g) (wd.tup g')
    injection z with z1 z2
    injection z2 with z2 _
    subst z1 z2
    exact Prod.ext (qa.fn rfl I wd k1 l1) (qb.fn rfl I wd k2 l2)
  rf := fun ⟨a, _, _, h, _⟩ => ⟨a, h⟩
  rc := fun {X pins σ F H s Au a b x y} hK I wd h1 h2 hu => by
    subst hK
    obtain ⟨a', v1, v2, e1, g1, k1, k2⟩ := h1
    obtain ⟨b', w1, w2, e2, g2, l1, l2⟩ := h2
    cases e1
    cases e2
    have z := rc_tups (Au := Au) I (wd.tup g1) (wd.tup g2) (by omega) rfl (fun j => if j = 0 then decide (x.1 = y.1) else decide (x.2 = y.2)) (fun j p q u v h1 h2 r1 r2 => by
      match j, h1, h2 with
      | 0, h1, h2 => cases h1; cases h2; exact qa.qf rfl I wd k1 l1 r1 r2 (by rw [in1_units]; omega)
      | 1, h1, h2 => cases h1; cases h2; exact qb.qf rfl I wd k2 l2 r1 r2 (by rw [in1_units]; omega)
      | j + 2, h1, h2 => cases h1)
    have e0 : decide (x = y) = (decide (x.1 = y.1) && decide (x.2 = y.2)) := by
      rw [← Bool.decide_and]
      congr 1
      exact propext Prod.ext_iff
    have e : (List.range [v1, v2].length).all (fun j => if j = 0 then decide (x.1 = y.1) else decide (x.2 = y.2)) = (decide (x.1 = y.1) && decide (x.2 = y.2)) := by
      show (List.range 2).all _ = _
      simp [List.range_succ]
    rw [e] at z
    rw [e0]
    exact z
theorem al_fun {K : PySem.W.Frag} {α : Type} [DecidableEq α] {A : Rep α} {d : Nat} [qa : Qf K A d] {X : Cx} {pins : List (Addr × Obj)} {σ : St} {F H : Hp} {s : Shared} (hK : X.K = K) (I : Inv X pins σ H s) (wd : Same F H) :
    ∀ {vs : List V} {xs ys : List α}, Al A F vs xs → Al A F vs ys → xs = ys
  | [], [], [], _, _ => rfl
  | _ :: _, _ :: _, _ :: _, h, g => by rw [qa.fn hK I wd h.1 g.1, al_fun hK I wd h.2 g.2]
  | [], _ :: _, _, h, _ => h.elim
  | [], [], _ :: _, _, h => h.elim
  | _ :: _, [], _, h, _ => h.elim
  | _ :: _, _ :: _, [], _, h => h.elim
theorem all_dec {α : Type} [DecidableEq α] : ∀ (xs ys : List α), xs.length = ys.length → (List.range xs.length).all (fun j => decide (xs[j]? = ys[j]?)) = decide (xs = ys) := by
  intro xs ys h
  by_cases e : xs = ys
  · subst e; simp
  · rw [decide_eq_false e, Bool.eq_false_iff]
    intro z
    apply e
    rw [List.all_eq_true] at z
    apply List.ext_getElem? 
    intro j
    by_cases hj : j < xs.length
    · exact of_decide_eq_true (z j (List.mem_range.mpr hj))
    · rw [List.getElem?_eq_none (by omega), List.getElem?_eq_none (by omega)]
instance {K : PySem.W.Frag} {α : Type} [DecidableEq α] {A : Rep α} {d : Nat} [qa : Qf K A d] : Qr K (rL K A) (d + 1) where
  fn := fun {X pins σ F H s v x y} hK I wd h1 h2 => by
    obtain ⟨a, vs, rfl, g, k1⟩ := h1
    obtain ⟨b, ws, e, g', l1⟩ := h2
    cases e
    subst hK
    have z := sqL_fun I (wd.seq g) (wd.seq g')
    subst z
    exact al_fun rfl I wd k1 l1
  rf := fun ⟨a, _, h, _⟩ => ⟨a, h⟩
  rc := fun {X pins σ F H s Au a b x y} hK I wd h1 h2 hu => by
    subst hK
    obtain ⟨a', vs, e1, g1, k1⟩ := h1
    obtain ⟨b', ws, e2, g2, l1⟩ := h2
    cases e1
    cases e2
    have n1 := k1.length
    have n2 := l1.length
    by_cases hl : x.length = y.length
    · have z := rc_lsts (Au := Au) I (wd.seq g1) (wd.seq g2) (by omega) (by omega) (fun j => decide (x[j]? = y[j]?)) (fun j p q u v h1 h2 r1 r2 => by
        obtain ⟨m1, e1, f1⟩ := k1.get h1
        obtain ⟨m2, e2, f2⟩ := l1.get h2
        have e0 : decide (x[j]? = y[j]?) = decide (m1 = m2) := by
          rw [e1, e2]
          congr 1
          exact propext ⟨fun h => Option.some.inj h, fun h => by rw [h]⟩
        rw [e0]
        exact qa.qf rfl I wd f1 f2 r1 r2 (by rw [in1_units]; omega))
      rw [n1, all_dec x y hl] at z
      exact z
    · rw [decide_eq_false (fun z => hl (by rw [z]))]
      obtain ⟨us, r1, t1, _⟩ := I.list (wd.seq g1)
      obtain ⟨zs, r2, t2, _⟩ := I.list (wd.seq g2)
      have m1 := r1.length
      have m2 := r2.length
      exact SeqAt.RcAt.lists_lengths t1.isList t2.isList (by simp; omega) (by omega)
section
variable {X : Cx}
def rQ {α : Type} [DecidableEq α] (A : Rep α) : R2 := fun v w H Q => ∃ F x y, Same F H ∧ A F v x ∧ A F w y ∧ Q (.bl (decide (x = y))) H
theorem op_eqQ {α : Type} [DecidableEq α] {K : PySem.W.Frag} {A : Rep α} {d : Nat} [q : Qr K A d] (hK : X.K = K) (hu : X.A.units + 64 < cLine) (hd : d ≤ 60 := by decide) : OpR X (compareOp .Eq) (rQ A) := by
  intro pins s σ H x y v u Q I rx ry h
  obtain ⟨F, p, r, wd, h1, h2, hq⟩ := h
  obtain ⟨a, rfl⟩ := q.rf h1
  obtain ⟨b, rfl⟩ := q.rf h2
  cases rx
  cases ry
  exact q.rc hK I wd h1 h2 (by omega) X.prog X.w X.xe _ ⟨.bl _, H, I, rfl, hq⟩
end
/-! ### == that comes out True, dicts within -/
theorem eqT_up {K : PySem.W.Frag} {H : Hp} : ∀ {n : Nat} {x y : V}, EqT K H n x y → EqT K H (n + 1) x y
  | 0, _, _, h => .inl h
  | n + 1, _, _, .inl h => .inl h
  | n + 1, _, _, .inr ⟨p, q, xs, ys, h1, h2, h3, h4⟩ => .inr ⟨p, q, xs, ys, h1, h2, h3, by
    have gen : ∀ {xs ys : List V}, All2 (EqT K H n) xs ys → All2 (EqT K H (n + 1)) xs ys := by
      intro xs
      induction xs with
      | nil => intro ys h; cases ys with
        | nil => exact True.intro
        | cons _ _ => exact h.elim
      | cons x xs ih => intro ys h; cases ys with
        | nil => exact h.elim
        | cons y ys => exact ⟨eqT_up h.1, ih h.2⟩
    exact gen h4⟩
theorem eqT_mono {K : PySem.W.Frag} {H : Hp} {n m : Nat} {x y : V} (h : EqT K H n x y) (k : n ≤ m) : EqT K H m x y := by
  induction k with
  | refl => exact h
  | step _ ih => exact eqT_up ih
theorem deqT_up {K : PySem.W.Frag} {H : Hp} {n : Nat} {ka kb : List (Key × V)} (h : DEqT K H n ka kb) : DEqT K H (n + 1) ka kb := ⟨h.1, fun k v m => by obtain ⟨y, e1, e2⟩ := h.2 k v m; exact ⟨y, e1, eqT_up e2⟩⟩
theorem eqN_up {K : PySem.W.Frag} {H : Hp} : ∀ {n : Nat} {x y : V}, EqN K H n x y → EqN K H (n + 1) x y
  | 0, _, _, h => .inl h
  | n + 1, _, _, .inl h => .inl h
  | n + 1, _, _, .inr ⟨p, q, h1, h2, .inr ⟨ka, kb, g1, g2, g3⟩⟩ => .inr ⟨p, q, h1, h2, .inr ⟨ka, kb, g1, g2, deqT_up g3⟩⟩
  | n + 1, _, _, .inr ⟨p, q, h1, h2, .inl ⟨xs, ys, h3, h4⟩⟩ => .inr ⟨p, q, h1, h2, .inl ⟨xs, ys, h3, by
    have gen : ∀ {xs ys : List V}, All2 (EqN K H n) xs ys → All2 (EqN K H (n + 1)) xs ys := by
      intro xs
      induction xs with
      | nil => intro ys h; cases ys with
        | nil => exact True.intro
        | cons _ _ => exact h.elim
      | cons x xs ih => intro ys h; cases ys with
        | nil => exact h.elim
        | cons y ys => exact ⟨eqN_up h.1, ih h.2⟩
    exact gen h4⟩⟩
theorem eqN_mono {K : PySem.W.Frag} {H : Hp} {n m : Nat} {x y : V} (h : EqN K H n x y) (k : n ≤ m) : EqN K H m x y := by
  induction k with
  | refl => exact h
  | step _ ih => exact eqN_up ih
theorem eqT_toN {K : PySem.W.Frag} {H : Hp} : ∀ {n : Nat} {x y : V}, EqT K H n x y → EqN K H n x y
  | 0, _, _, h => h
  | n + 1, _, _, .inl h => .inl h
  | n + 1, _, _, .inr ⟨p, q, xs, ys, h1, h2, h3, h4⟩ => .inr ⟨p, q, h1, h2, .inl ⟨xs, ys, h3, by
    have gen : ∀ {xs ys : List V}, All2 (EqT K H n) xs ys → All2 (EqN K H n) xs ys := by
      intro xs
      induction xs with
      | nil => intro ys h; cases ys with
        | nil => exact True.intro
        | cons _ _ => exact h.elim
      | cons x xs ih => intro ys h; cases ys with
        | nil => exact h.elim
        | cons y ys => exact ⟨eqT_toN h.1, ih h.2⟩
    exact gen h4⟩⟩
/-- two that stand for the same are equal (no dict within) -/
class Et {α : Type} (K : PySem.W.Frag) (A : Rep α) (n : outParam Nat) : Prop where
  et : ∀ {F H : Hp} {v w : V} {x : α}, Same F H → A F v x → A F w x → EqT K H n v w
instance {K : PySem.W.Frag} : Et K rI 0 := ⟨fun _ h g => by cases h; cases g; exact ⟨rfl, rfl⟩⟩
instance {K : PySem.W.Frag} : Et K rS 0 := ⟨fun _ h g => by cases h; cases g; exact ⟨rfl, rfl⟩⟩
instance {K : PySem.W.Frag} : Et K rB 0 := ⟨fun _ h g => by cases h; cases g; exact ⟨rfl, rfl⟩⟩
instance {K : PySem.W.Frag} : Et K rN 0 := ⟨fun _ h g => by cases h; cases g; exact ⟨rfl, rfl⟩⟩
instance {K : PySem.W.Frag} : Et K (rFr K) 1 := ⟨fun wd ⟨a, h1, h2⟩ ⟨b, g1, g2⟩ => .inr ⟨a, b, _, _, h1, g1, .inl ⟨wd.tup h2, wd.tup g2⟩, ⟨rfl, rfl⟩, ⟨rfl, rfl⟩, True.intro⟩⟩
instance {K : PySem.W.Frag} {α β : Type} {A : Rep α} {B : Rep β} {n m : Nat} [Et K A n] [Et K B m] : Et K (r2 K A B) (n + m + 1) :=
  ⟨fun wd ⟨a, v1, v2, h1, h2, h3, h4⟩ ⟨b, w1, w2, g1, g2, g3, g4⟩ => .inr ⟨a, b, _, _, h1, g1, .inl ⟨wd.tup h2, wd.tup g2⟩, eqT_mono (Et.et wd h3 g3) (by omega), eqT_mono (Et.et wd h4 g4) (by omega), True.intro⟩⟩
theorem al_et {K : PySem.W.Frag} {α : Type} {A : Rep α} {n : Nat} [Et K A n] {F H : Hp} (wd : Same F H) : ∀ {vs ws : List V} {xs : List α}, Al A F vs xs → Al A F ws xs → All2 (EqT K H n) vs ws
  | [], [], [], _, _ => True.intro
  | _ :: _, _ :: _, _ :: _, h, g => ⟨Et.et wd h.1 g.1, al_et wd h.2 g.2⟩
  | [], _ :: _, [], _, g => g.elim
  | _ :: _, _, [], h, _ => h.elim
  | [], _, _ :: _, h, _ => h.elim
  | _ :: _, [], _ :: _, _, g => g.elim
instance {K : PySem.W.Frag} {α : Type} {A : Rep α} {n : Nat} [Et K A n] : Et K (rL K A) (n + 1) :=
  ⟨fun wd ⟨a, vs, h1, h2, h3⟩ ⟨b, ws, g1, g2, g3⟩ => .inr ⟨a, b, _, _, h1, g1, .inr ⟨wd.seq h2, wd.seq g2⟩, al_et wd h3 g3⟩⟩
/-- .. dicts within -/
class En {α : Type} (K : PySem.W.Frag) (A : Rep α) (n : outParam Nat) : Prop where
  en : ∀ {F H : Hp} {v w : V} {x : α}, Same F H → A F v x → A F w x → EqN K H n v w
instance (priority := low) {K : PySem.W.Frag} {α : Type} {A : Rep α} {n : Nat} [Et K A n] : En K A n := ⟨fun wd h g => eqT_toN (Et.et wd h g)⟩
theorem dk_deq {K : PySem.W.Frag} {α : Type} {A : Rep α} {n : Nat} [Et K A n] {F H : Hp} {ka kb : List (Key × V)} {m m' : List (Str × α)} (wd : Same F H) (h : Dk A F ka m) (g : Dk A F kb m') (hn : (m.map (·.1)).Nodup) (hl : m.length = m'.length) (hg : ∀ k y, gtd m k = some y → gtd m' k = some y) : DEqT K H n ka kb := by
  refine ⟨by rw [h.length, g.length, hl], fun k v hm => ?_⟩
  obtain ⟨i, hi⟩ := List.getElem?_of_mem hm
  obtain ⟨x, q, e1, rfl, ha⟩ := h.get hi
  have hgt : gtd m x = some q := by
    have mem := List.mem_of_getElem? e1
    clear h hi hm hl hg e1
    induction m with
    | nil => cases mem
    | cons p r ih =>
      rw [List.map_cons, List.nodup_cons] at hn
      rcases List.mem_cons.mp mem with e | e
      · subst e; exact gtd_pos rfl
      · have ne : ¬ p.1 = x := fun z => hn.1 (by rw [z]; exact List.mem_map.mpr ⟨_, e, rfl⟩)
        rw [gtd_neg ne]; exact ih hn.2 e
  obtain ⟨w, v1, v3⟩ := g.some (hg x q hgt)
  exact ⟨w, v1, Et.et wd ha v3⟩
instance {K : PySem.W.Frag} {α : Type} {A : Rep α} {n : Nat} [Et K A n] : En K (rD A) (n + 1) :=
  ⟨fun wd ⟨a, ka, h1, h2, h3, h4⟩ ⟨b, kb, g1, g2, g3, g4⟩ => .inr ⟨a, b, h1, g1, .inr ⟨ka, kb, wd.rd h2, wd.rd g2, dk_deq wd h3 g3 h4 rfl fun _ _ e => e⟩⟩⟩
instance (priority := low) {K : PySem.W.Frag} {α β : Type} {A : Rep α} {B : Rep β} {n m : Nat} [En K A n] [En K B m] : En K (r2 K A B) (n + m + 1) :=
  ⟨fun wd ⟨a, v1, v2, h1, h2, h3, h4⟩ ⟨b, w1, w2, g1, g2, g3, g4⟩ => .inr ⟨a, b, h1, g1, .inl ⟨_, _, .inl ⟨wd.tup h2, wd.tup g2⟩, eqN_mono (En.en wd h3 g3) (by omega), eqN_mono (En.en wd h4 g4) (by omega), True.intro⟩⟩⟩
instance {K : PySem.W.Frag} {α β γ δ ε : Type} {A : Rep α} {B : Rep β} {C : Rep γ} {D : Rep δ} {E : Rep ε} {n m k l j : Nat} [En K A n] [En K B m] [En K C k] [En K D l] [En K E j] : En K (r5 K A B C D E) (n + m + k + l + j + 1) :=
  ⟨fun wd ⟨a, v1, v2, v3, v4, v5, h1, h2, h3, h4, h5, h6, h7⟩ ⟨b, w1, w2, w3, w4, w5, g1, g2, g3, g4, g5, g6, g7⟩ =>
    .inr ⟨a, b, h1, g1, .inl ⟨_, _, .inl ⟨wd.tup h2, wd.tup g2⟩, eqN_mono (En.en wd h3 g3) (by omega), eqN_mono (En.en wd h4 g4) (by omega), eqN_mono (En.en wd h5 g5) (by omega), eqN_mono (En.en wd h6 g6) (by omega), eqN_mono (En.en wd h7 g7) (by omega), True.intro⟩⟩⟩
theorem al_en {K : PySem.W.Frag} {α : Type} {A : Rep α} {n : Nat} [En K A n] {F H : Hp} (wd : Same F H) : ∀ {vs ws : List V} {xs : List α}, Al A F vs xs → Al A F ws xs → All2 (EqN K H n) vs ws
  | [], [], [], _, _ => True.intro
  | _ :: _, _ :: _, _ :: _, h, g => ⟨En.en wd h.1 g.1, al_en wd h.2 g.2⟩
  | [], _ :: _, [], _, g => g.elim
  | _ :: _, _, [], h, _ => h.elim
  | [], _, _ :: _, h, _ => h.elim
  | _ :: _, [], _ :: _, _, g => g.elim
instance (priority := low) {K : PySem.W.Frag} {α : Type} {A : Rep α} {n : Nat} [En K A n] : En K (rL K A) (n + 1) :=
  ⟨fun wd ⟨a, vs, h1, h2, h3⟩ ⟨b, ws, g1, g2, g3⟩ => .inr ⟨a, b, h1, g1, .inl ⟨_, _, .inr ⟨wd.seq h2, wd.seq g2⟩, al_en wd h3 g3⟩⟩⟩
section
variable {K : PySem.W.Frag} {F H : Hp} {Q : VK}
/-- two tuples (lists) that stand for the same -/
theorem a_eqN5 {α β γ δ ε : Type} {A : Rep α} {B : Rep β} {C : Rep γ} {D : Rep δ} {E : Rep ε} {n m k l j : Nat} [En K A n] [En K B m] [En K C k] [En K D l] [En K E j] {v w : V} {x : α × β × γ × δ × ε} (wd : Same F H) (h : r5 K A B C D E F v x) (g : r5 K A B C D E F w x) (hn : n + m + k + l + j ≤ 40) (q : Q (.bl true) H) : rEqN K v w H Q := by
  obtain ⟨a, v1, v2, v3, v4, v5, h1, h2, h3, h4, h5, h6, h7⟩ := h
  obtain ⟨b, w1, w2, w3, w4, w5, g1, g2, g3, g4, g5, g6, g7⟩ := g
  exact ⟨n + m + k + l + j, a, b, _, _, hn, h1, g1, .inl ⟨wd.tup h2, wd.tup g2⟩, ⟨eqN_mono (En.en wd h3 g3) (by omega), eqN_mono (En.en wd h4 g4) (by omega), eqN_mono (En.en wd h5 g5) (by omega), eqN_mono (En.en wd h6 g6) (by omega), eqN_mono (En.en wd h7 g7) (by omega), True.intro⟩, q⟩
theorem a_eqN2 {α β : Type} {A : Rep α} {B : Rep β} {n m : Nat} [En K A n] [En K B m] {v w : V} {x : α × β} (wd : Same F H) (h : r2 K A B F v x) (g : r2 K A B F w x) (hn : n + m ≤ 40) (q : Q (.bl true) H) : rEqN K v w H Q := by
  obtain ⟨a, v1, v2, h1, h2, h3, h4⟩ := h
  obtain ⟨b, w1, w2, g1, g2, g3, g4⟩ := g
  exact ⟨n + m, a, b, _, _, hn, h1, g1, .inl ⟨wd.tup h2, wd.tup g2⟩, ⟨eqN_mono (En.en wd h3 g3) (by omega), eqN_mono (En.en wd h4 g4) (by omega), True.intro⟩, q⟩
theorem a_eqDr {α : Type} {A : Rep α} {n : Nat} [Et K A n] {p q : Addr} {ka kb : List (Key × V)} {m m' : List (Str × α)} (wd : Same F H) (h1 : Rd H p (.dK ka)) (h : Dk A F ka m) (g1 : Rd H q (.dK kb)) (g : Dk A F kb m') (hm : (m.map (·.1)).Nodup) (hl : m.length = m'.length) (hg : ∀ k y, gtd m k = some y → gtd m' k = some y) (hn : n ≤ 40) {b : Bool} (k : Q (.bl b) H) : rEqD K b (.ref p) (.ref q) H Q :=
  ⟨n, p, q, ka, kb, hn, rfl, rfl, h1, g1, dk_deq wd h g hm hl hg, k⟩
end
end Vc

/-! A list comprehension: its block is a context of its own. -/
namespace L2
open PySem PySem.Spec PyProof.Rows
/-! ### the cells that a block closes over -/
def clStep (env : Env) (cs : List (Str × Addr)) (y : Str × NameKind) : List (Str × Addr) := if (y.2 == .free) = true then (match env.cells.lookup y.1 with | some a => (y.1, a) :: cs | none => cs) else cs
def clOf (scope : Scope) (env : Env) : List (Str × Addr) := scope.names.foldl (clStep env) []
def clAll (scope : Scope) (env : Env) : Bool := scope.names.all fun y => !(y.2 == .free) || (env.cells.lookup y.1).isSome
theorem closureFor_clOf {scope : Scope} {env : Env} (h : clAll scope env = true) : closureFor scope env = pure (clOf scope env) := by
  unfold closureFor clOf
  unfold clAll at h
  have gen : ∀ (l : List (Str × NameKind)) (cs : List (Str × Addr)), (l.all fun y => !(y.2 == .free) || (env.cells.lookup y.1).isSome) = true →
      (forIn l cs fun x r => match x with | (name, kind) => if (kind == NameKind.free) = true then (do let a ← cellOf env name; pure (ForInStep.yield ((name, a) :: r))) else pure (ForInStep.yield r) : Sem (List (Str × Addr))) = pure (l.foldl (clStep env) cs) := by
    intro l
    induction l with
    | nil => intro cs _; rfl
    | cons y r ih =>
      intro cs ha
      rw [List.all_cons, Bool.and_eq_true] at ha
      obtain ⟨n, k⟩ := y
      rw [List.forIn_cons, List.foldl_cons]
      by_cases hk : (k == NameKind.free) = true
      · have h1 := ha.1
        simp only [hk, Bool.not_true, Bool.false_or] at h1
        obtain ⟨a, e⟩ := Option.isSome_iff_exists.mp h1
        have e1 : clStep env cs (n, k) = (n, a) :: cs := by unfold clStep; simp [hk, e]
        have e2 : cellOf env n = pure a := by unfold cellOf; rw [e]
        rw [e1, ← ih _ ha.2]
        simp only [hk, if_true, e2, pure_bind]
      · have e1 : clStep env cs (n, k) = cs := by unfold clStep; simp [hk]
        rw [e1, ← ih _ ha.2]
        simp only [hk, if_false, pure_bind, Bool.false_eq_true]
  have := gen scope.names [] h
  simp only [this, pure_bind]
theorem clOf_sub {scope : Scope} {env : Env} {x : Str} {c : Addr} (h : (clOf scope env).lookup x = some c) : env.cells.lookup x = some c := by
  unfold clOf at h
  have gen : ∀ (l : List (Str × NameKind)) (cs : List (Str × Addr)), (cs.lookup x = some c → env.cells.lookup x = some c) → (l.foldl (clStep env) cs).lookup x = some c → env.cells.lookup x = some c := by
    intro l
    induction l with
    | nil => intro cs f g; exact f g
    | cons y r ih =>
      intro cs f g
      rw [List.foldl_cons] at g
      refine ih _ (fun z => ?_) g
      unfold clStep at z
      split at z
      · split at z
        · rename_i a e
          rw [List.lookup_cons] at z
          by_cases hx : (x == y.1) = true
          · rw [hx] at z
            have := eq_of_beq hx
            subst this
            simp at z
            rw [← z]; exact e
          · simp only [hx] at z
            exact f z
        · exact f z
      · exact f z
  exact gen scope.names [] (fun z => by cases z) h
theorem clOf_has {scope : Scope} {env : Env} {x : Str} (ha : clAll scope env = true) (h : scope.names.lookup x = some .free) : ∃ c, (clOf scope env).lookup x = some c := by
  unfold clOf
  unfold clAll at ha
  have keep : ∀ (l : List (Str × NameKind)) (cs : List (Str × Addr)), (∃ c, cs.lookup x = some c) → ∃ c, (l.foldl (clStep env) cs).lookup x = some c := by
    intro l
    induction l with
    | nil => intro cs f; exact f
    | cons y r ih =>
      intro cs f
      rw [List.foldl_cons]
      refine ih _ ?_
      unfold clStep
      split
      · split
        · rw [List.lookup_cons]
          by_cases hx : (x == y.1) = true
          · rw [hx]; exact ⟨_, rfl⟩
          · simp only [hx]; exact f
        · exact f
      · exact f
  have gen : ∀ (l : List (Str × NameKind)) (cs : List (Str × Addr)), (l.all fun y => !(y.2 == .free) || (env.cells.lookup y.1).isSome) = true → l.lookup x = some .free → ∃ c, (l.foldl (clStep env) cs).lookup x = some c := by
    intro l
    induction l with
    | nil => intro cs _ f; cases f
    | cons y r ih =>
      intro cs ha f
      rw [List.all_cons, Bool.and_eq_true] at ha
      obtain ⟨n, k⟩ := y
      rw [List.foldl_cons]
      rw [List.lookup_cons] at f
      by_cases hx : (x == n) = true
      · rw [hx] at f
        have := eq_of_beq hx
        subst this
        simp at f
        subst f
        refine keep r _ ?_
        have h1 : (env.cells.lookup x).isSome = true := ha.1
        obtain ⟨a, e⟩ := Option.isSome_iff_exists.mp h1
        refine ⟨a, ?_⟩
        unfold clStep
        rw [if_pos (show ((NameKind.free) == NameKind.free) = true from rfl)]
        dsimp only
        rw [e]
        dsimp only
        rw [List.lookup_cons, hx]
      · simp only [hx] at f
        exact ih _ ha.2 f
  exact gen scope.names [] ha h
theorem relabel_inv {scope : Scope} {env : Env} {x : Str} (hcell : ∀ y ∈ scope.names, y.2 ≠ .cell) (h : (relabel scope env).names.lookup x = some .cell ∨ (relabel scope env).names.lookup x = some .free) : scope.names.lookup x = some .free := by
  unfold relabel at h
  dsimp only at h
  have gen : ∀ l : List (Str × NameKind), (∀ y ∈ l, y.2 ≠ .cell) → ((l.map fun (n, k) => if (k == NameKind.free && env.scope.kind == .function && env.kindOf n == some .cell) then (n, NameKind.cell) else (n, k)).lookup x = some .cell ∨ (l.map fun (n, k) => if (k == NameKind.free && env.scope.kind == .function && env.kindOf n == some .cell) then (n, NameKind.cell) else (n, k)).lookup x = some .free) → l.lookup x = some .free := by
    intro l
    induction l with
    | nil => intro _ f; rcases f with f | f <;> cases f
    | cons y r ih =>
      intro hc f
      obtain ⟨n, k⟩ := y
      have hk : k ≠ .cell := hc (n, k) (List.mem_cons_self ..)
      rw [List.map_cons] at f
      rw [List.lookup_cons]
      by_cases hx : (x == n) = true
      · rw [hx]
        dsimp only at f ⊢
        by_cases hf : (k == NameKind.free && env.scope.kind == .function && env.kindOf n == some .cell) = true
        · have : k = .free := by
            simp only [Bool.and_eq_true] at hf
            exact eq_of_beq hf.1.1
          rw [this]
        · rw [if_neg hf, List.lookup_cons, hx] at f
          simp only [Option.some.injEq] at f
          rcases f with f | f
          · exact absurd f hk
          · rw [f]
      · simp only [hx]
        refine ih (fun y hy => hc y (List.mem_cons_of_mem _ hy)) ?_
        dsimp only at f
        split at f <;> (rw [List.lookup_cons] at f; simp only [hx] at f; exact f)
  exact gen scope.names hcell h
/-! ### the block's context -/
inductive Wk : St → St → Prop
  | nil : Wk [] []
  | non {a b : St} {x : Option V} : Wk a b → Wk (none :: a) (x :: b)
  | som {a b : St} {v : V} : Wk a b → Wk (some v :: a) (some v :: b)
theorem Wk.length {a b : St} (h : Wk a b) : b.length = a.length := by
  induction h with
  | nil => rfl
  | non _ ih => simp [ih]
  | som _ ih => simp [ih]
theorem Wk.get {a b : St} (h : Wk a b) : ∀ {i : Nat} {v : V}, a[i]? = some (some v) → b[i]? = some (some v) := by
  induction h with
  | nil => intro i v e; simp at e
  | non _ ih =>
    intro i v e
    cases i with
    | zero => simp at e
    | succ i => simpa using ih (i := i) (v := v) (by simpa using e)
  | som _ ih =>
    intro i v e
    cases i with
    | zero => simpa using e
    | succ i => simpa using ih (i := i) (v := v) (by simpa using e)
theorem wk_refl : ∀ a : St, Wk a a
  | [] => .nil
  | none :: a => .non (wk_refl a)
  | some _ :: a => .som (wk_refl a)
def pickS (ix : List (Option Nat)) (σ : St) : St := ix.map fun o => match o with | none => none | some i => (σ[i]?).getD none
def PickOk (X : Cx) (sc : Scope) : List Str → List (Option Nat) → Prop
  | [], [] => True
  | _ :: N, none :: ix => PickOk X sc N ix
  | x :: N, some i :: ix => X.N[i]? = some x ∧ X.env.kindOf x = some .cell ∧ sc.names.lookup x = some .free ∧ PickOk X sc N ix
  | _, _ => False
theorem PickOk.length {X : Cx} {sc : Scope} : ∀ {N : List Str} {ix : List (Option Nat)}, PickOk X sc N ix → ix.length = N.length
  | [], [], _ => rfl
  | _ :: N, none :: ix, h => by rw [List.length_cons, List.length_cons, PickOk.length (X := X) (sc := sc) (N := N) (ix := ix) h]
  | _ :: N, some i :: ix, h => by rw [List.length_cons, List.length_cons, PickOk.length (X := X) (sc := sc) (N := N) (ix := ix) h.2.2.2]
  | [], _ :: _, h => h.elim
  | _ :: _, [], h => h.elim
theorem PickOk.get {X : Cx} {sc : Scope} {σ : St} : ∀ {N : List Str} {ix : List (Option Nat)} {j : Nat} {x : Str} {v : V}, PickOk X sc N ix → N[j]? = some x → (pickS ix σ)[j]? = some (some v) → ∃ i : Nat, X.N[i]? = some x ∧ X.env.kindOf x = some .cell ∧ sc.names.lookup x = some .free ∧ σ[i]? = some (some v)
  | _ :: N, none :: ix, 0, x, v, h, e1, e2 => by simp [pickS] at e2
  | _ :: N, none :: ix, j + 1, x, v, h, e1, e2 => PickOk.get (N := N) (ix := ix) (j := j) h (by simpa using e1) (by simpa [pickS] using e2)
  | y :: N, some i :: ix, 0, x, v, h, e1, e2 => by
    simp at e1
    subst e1
    refine ⟨i, h.1, h.2.1, h.2.2.1, ?_⟩
    simp [pickS] at e2
    cases q : σ[i]? with
    | none => rw [q] at e2; simp at e2
    | some o => rw [q] at e2; simp at e2; rw [e2]
  | y :: N, some i :: ix, j + 1, x, v, h, e1, e2 => PickOk.get (N := N) (ix := ix) (j := j) h.2.2.2 (by simpa using e1) (by simpa [pickS] using e2)
  | [], [], _, _, _, _, e1, _ => by simp at e1
  | [], _ :: _, _, _, _, h, _, _ => h.elim
  | _ :: _, [], _, _, _, h, _, _ => h.elim
theorem relabel_free {scope : Scope} {env : Env} {x : Str} (h : scope.names.lookup x = some .free) : (relabel scope env).names.lookup x = some .cell ∨ (relabel scope env).names.lookup x = some .free := by
  unfold relabel
  dsimp only
  have gen : ∀ l : List (Str × NameKind), l.lookup x = some .free → ((l.map fun (n, k) => if (k == NameKind.free && env.scope.kind == .function && env.kindOf n == some .cell) then (n, NameKind.cell) else (n, k)).lookup x = some .cell ∨ (l.map fun (n, k) => if (k == NameKind.free && env.scope.kind == .function && env.kindOf n == some .cell) then (n, NameKind.cell) else (n, k)).lookup x = some .free) := by
    intro l
    induction l with
    | nil => intro f; cases f
    | cons y r ih =>
      intro f
      obtain ⟨n, k⟩ := y
      rw [List.lookup_cons] at f
      rw [List.map_cons]
      by_cases hx : (x == n) = true
      · rw [hx] at f
        simp at f
        subst f
        dsimp only
        split
        · left; rw [List.lookup_cons, hx]
        · right; rw [List.lookup_cons, hx]
      · simp only [hx] at f
        dsimp only
        split <;> (rw [List.lookup_cons]; simp only [hx]; exact ih f)
  exact gen scope.names h
def cxComp (X : Cx) (scope : Scope) (N : List Str) (C : Addr) (s : Shared) (H : Hp) (fp : List Addr) (pl : List (Addr × Obj)) : Cx where
  prog := X.prog
  w := X.w
  K := X.K
  mg := X.mg
  base := X.base
  A := X.A
  N := N
  s₀ := s
  H₀ := H
  env := compEnvC scope (clOf scope X.env) C X.env
  outer := X.stack
  stack := X.stack
  ex := fp
  fn := fun _ => false
  calm := X.calm
  pn := X.pn ++ pl
  xe := fun _ _ => False
/-- the tests of a clause -/
def PTs (Y : Cx) (ifs : List Expr) (t : TT) : Prop :=
  ∀ (pins : List (Addr × Obj)) (s : Shared) (σ : St) (H : Hp) (Q : Bool → Hp → Prop), Inv Y pins σ H s → t σ H Q →
    wpAny (model Y.prog Y.w) Y.A (forIn ifs true fun c r => if r = true then do let ok ← isTrue c Y.env (eval c Y.env); pure (ForInStep.yield ok) else pure (ForInStep.yield r)) (TP Y pins σ Q) Y.xe s
def tYes : TT := fun _ H Q => Q true H
theorem pts_nil {Y : Cx} : PTs Y [] tYes := fun _ _ _ H _ I h => wpAny_tests_nil ⟨H, I, h⟩
theorem pts_one {Y : Cx} {c : Expr} {t : TT} (h : PT Y c t) : PTs Y [c] t := fun pins s σ H Q I q => wpAny_tests_one (h pins s σ H Q I q)
/-- the comprehension's loop, whatever its target -/
theorem compLoop_any {prog : Program} {w : World} {A : Around} {R : Result → Shared → Prop} {s : Shared} {elt target iter : Expr} {ifs : List Expr} {scope : Scope} {pos : Pos} {it acc : Value} {env : Env} (I : Nat → Shared → Prop)
    (turn : ∀ n s, I n s → wpAny (model prog w) A (pyNext it) (fun r s₁ => match r with
      | none => R (.ok .next) s₁
      | some v => wpAny (model prog w) A (letOwnedTupleGo target it v) (fun _ s₀ => wpAny (model prog w) A (assign target env v) (fun _ s₂ =>
          wpAny (model prog w) A (forIn ifs true fun c r => if r = true then do let ok ← isTrue c env (eval c env); pure (ForInStep.yield ok) else pure (ForInStep.yield r)) (fun ok s₃ =>
            if ok = true then wpAny (model prog w) A (eval elt env) (fun x s₄ =>
              wpAny (model prog w) A (call (.builtin "list.append") [acc, x]) (fun _ s₅ => ∃ m, m < n ∧ I m s₅) (notedBy (model prog w) A env fun e s' => R (.error e) s') s₄) (notedBy (model prog w) A env fun e s' => R (.error e) s') s₃
            else ∃ m, m < n ∧ I m s₃) (notedBy (model prog w) A env fun e s' => R (.error e) s') s₂) (notedBy (model prog w) A env fun e s' => R (.error e) s') s₀) (notedBy (model prog w) A env fun e s' => R (.error e) s') s₁) (notedBy (model prog w) A env fun e s' => R (.error e) s') s)
    (n : Nat) (h : I n s) : codeAny (model prog w) A (.compLoop (.ListComp elt [⟨target, iter, ifs, 0⟩] scope pos) 0 it acc env) R s := by
  refine codeAny_loop rfl I (fun n s hI => ?_) n h
  show wpAny _ A ((compTurn (.ListComp elt [⟨target, iter, ifs, 0⟩] scope pos) 0 it acc env).onRaise (fun x => do noteFrame x env; theTreesLotGoes x)) _ _ s
  refine wpAny_noted ?_
  rw [compTurn_list]
  refine wpAny_bind (wpAny_standAt (wpAny_bind (wpAny_mono (turn n s hI) (fun r s₁ h₁ => ?_) fun _ _ h' => h')))
  cases r with
  | none => exact wpAny_pure h₁
  | some v =>
    refine wpAny_bind (wpAny_mono h₁ (fun _ s₀ h₀ => ?_) fun _ _ h' => h')
    refine wpAny_bind (wpAny_mono h₀ (fun _ s₂ h₂ => wpAny_bind (wpAny_mono h₂ (fun ok s₃ h₃ => ?_) fun _ _ h' => h')) fun _ _ h' => h')
    cases ok with
    | false => exact wpAny_pure ⟨rfl, h₃⟩
    | true =>
      exact wpAny_bind (wpAny_bind (wpAny_mono h₃ (fun x s₄ h₄ => wpAny_bind (wpAny_mono h₄ (fun _ s₅ h₅ => wpAny_pure (wpAny_pure ⟨rfl, h₅⟩)) fun _ _ h' => h')) fun _ _ h' => h'))
end L2

namespace L2
open PySem PySem.Spec PyProof.Rows
section
variable {X : Cx} {pins : List (Addr × Obj)} {σ : St} {H : Hp} {s : Shared} {scope : Scope} {N : List Str} {fp : List Addr} {C : Addr}
theorem comp_ok (I : Inv X pins σ H s) (hC : s.heap.objs.size ≤ C) (hf : ∀ b ∈ fp, FpOk X pins H b) (hfo : ∀ b ∈ fp, ∃ o, s.heap.get? b = some o) (hkind : scope.kind = .function) (hcell : ∀ y ∈ scope.names, y.2 ≠ .cell) (hall : clAll scope X.env = true) :
    (cxComp X scope N C s H fp pins).Ok where
  mod := I.ok.mod
  kind := hkind
  glob := I.ok.glob
  blt := I.ok.blt
  above := hC
  inj := fun x y c h1 h2 => I.ok.inj x y c (clOf_sub h1) (clOf_sub h2)
  has := fun x h => clOf_has hall (relabel_inv hcell h)
  cab := fun x c h => by cases h
  hd := I.ok.hd
  frames := I.ok.frames
  stk := .inl rfl
  exf := fun b hb => ⟨fun z => by obtain ⟨o, e⟩ := hfo b hb; have := Heap.lt_size e; subst z; exact absurd (Nat.lt_of_lt_of_le this hC) (Nat.lt_irrefl _), fun x c e => (hf b hb).2.2.2.2.1 x c (clOf_sub e)⟩
  bs := I.bs
  bsz := Nat.le_trans I.ok.bsz I.sz
  noex := fun b o e hb => by
    rcases (hf b hb).2.2.2.1 with z | z
    · exact I.ok.noex b o e z
    · exact absurd (Nat.lt_of_lt_of_le (Heap.lt_size e) (Nat.le_trans I.ok.bsz z)) (Nat.lt_irrefl _)
  exfs := fun b hb hm => by
    rcases List.mem_cons.mp (I.stkSub b hm) with z | z
    · exact (hf b hb).2.1 z
    · exact (hf b hb).2.2.1 z
  funs := I.stack
  frf := I.stkFree
theorem comp_inv {h' : Heap} {m : Str → Option Value} {t' : Nat} {ix : List (Option Nat)} (I : Inv X pins σ H s) (ok : (cxComp X scope N C s H fp pins).Ok) (hC : s.heap.objs.size ≤ C) (k : ∀ b o, s.heap.get? b = some o → h'.get? b = some o) (hn : h'.Ns C m) (hpk : PickOk X scope N ix) (hall : clAll scope X.env = true) :
    Inv (cxComp X scope N C s H fp pins) [] (pickS ix σ) H { s with heap := h', toks := t' } where
  ok := ok
  os := rfl
  bare := I.bare
  base := Un.kept k
  loc := ⟨m, hn, fun i x v e1 e2 e3 => by
    obtain ⟨i', hN, hk, hfr, hσ⟩ := hpk.get e1 e2
    obtain ⟨m0, _, hl⟩ := I.loc
    obtain ⟨u, r, look⟩ := hl i' x v hN hσ (.inr (.inl hk))
    rcases look with ⟨z, _⟩ | ⟨_, c, hc, o, ho, hd⟩
    · rw [hk] at z; cases z
    · obtain ⟨c', hc'⟩ := clOf_has hall hfr
      have e := clOf_sub hc'
      rw [hc] at e
      cases e
      exact ⟨u, r, .inr ⟨relabel_free hfr, c, hc', o, k _ _ ho, hd⟩⟩⟩
  cell := fun x c e => by
    obtain ⟨v, o, ho, hd⟩ := I.cell x c (clOf_sub e)
    exact ⟨v, o, k _ _ ho, hd⟩
  free := I.hok.fresh hC
  freeC := fun x c e => I.freeC x c (clOf_sub e)
  pin := fun p hp => by
    have hp' : p ∈ X.pn ++ pins := by simpa [cxComp] using hp
    obtain ⟨e, n, ne, nf, d⟩ := I.pin p hp'
    refine ⟨k _ _ e, n, fun z => ?_, fun z => ?_, d⟩
    · have := Heap.lt_size e
      have z' : p.1 = C := z
      rw [z'] at this
      exact absurd (Nat.lt_of_lt_of_le this hC) (Nat.lt_irrefl _)
    · rcases List.mem_cons.mp (I.stkSub p.1 z) with q | q
      · exact ne q
      · exact nf q
  hok := I.hok.kept k
  len := by
    have := hpk.length
    simp [pickS, cxComp, this]
/-- behind the block: what was made in it is one's own -/
theorem comp_back {σ' : St} {H' : Hp} {s' : Shared} {D : Addr} {acc : List V} {its : List Value} {pl : List (Addr × Obj)} (I : Inv X pins σ H s) (J : Inv (cxComp X scope N C s H fp pins) pl σ' H' s') (hD : D = s.heap.objs.size) (hf : ∀ b ∈ fp, FpOk X pins H b)
    (hl : s'.heap.PlainList D its.toArray) (hv : Vals acc its) (hz : acc.length ≤ sizeLine) (hn : H' D = none) : Inv X pins σ (upd H' D (.lst acc)) s' := by
  have hDn : ∀ b o, s.heap.get? b = some o → b ≠ D := fun b o e z => by rw [z, hD] at e; exact absurd (Heap.lt_size e) (Nat.lt_irrefl _)
  have hHD : H D = none := I.hok.fresh (by rw [hD]; exact Nat.le_refl _)
  refine I.call' (ch := fp) J.os ⟨J.base.keep, J.base.slot, fun b o e n hx => ?_, J.base.there, fun b xs e => ?_, fun b o u e => ?_, fun b ps e => ?_⟩ (fun b u e => ?_) J.bare fun b hb => ⟨(hf b hb).2.2.2.1, (hf b hb).2.1, (hf b hb).2.2.2.2.1, (hf b hb).2.2.2.2.2⟩
  · rw [upd_ne (hDn b o e)]; exact J.base.free b o e n hx
  · rw [upd_ne (ne_of_none e hHD)]; exact J.base.tups b xs e
  · rw [upd_ne (ne_of_none e hHD)]; exact J.base.frzs b o u e
  · obtain ⟨mo, e2⟩ := J.base.tbls b ps e
    exact ⟨mo, by rw [upd_ne (ne_of_none e hHD)]; exact e2⟩
  · by_cases hb : b = D
    · subst hb
      rw [upd_same] at e
      cases e
      obtain ⟨n, g⟩ := hl
      exact ⟨hz, its, n, hv, g⟩
    · rw [upd_ne hb] at e
      exact (J.hok b u e).stay (fun _ _ _ q => q) (fun c q => by rw [upd_ne (ne_of_none q hn)]; exact q) fun c xs q => by rw [upd_ne (ne_of_none q hn)]; exact q
end
/-- [elt for target in iter if test] -/
def tComp (wi : TI) (g : TG) (ti : TT) (te : TE) (ix : List (Option Nat)) : TE := fun σ H Q => wi σ H fun J H1 => ∃ W : Nat → Nat → List V → Hp → Prop, (∃ m, W 0 m [] H1) ∧ ∀ i m acc H, W i m acc H →
  (J.stop i H ∧ acc.length ≤ sizeLine ∧ ∀ p, H p = none → Q (.ref p) (upd H p (.lst acc))) ∨
  (J.go i H ∧ ∃ N : List V → Hp → Prop, (∀ acc' H', N acc' H' → ∃ m', m' < m ∧ W (i + 1) m' acc' H') ∧ ∀ x H', J.yld i H x H' → g x (pickS ix σ) H' fun σ2 H2 => Wk (pickS ix σ) σ2 ∧ ti σ2 H2 fun b H3 => if b = true then te σ2 H3 fun v H4 => acc.length < sizeLine ∧ N (acc ++ [v]) H4 else N acc H3)
section
variable {X : Cx} {elt target iter : Expr} {ifs : List Expr} {scope : Scope} {pos : Pos} {N : List Str} {ix : List (Option Nat)} {wi : TI} {g : TG} {ti : TT} {te : TE}
theorem comp_run {pins : List (Addr × Obj)} {σ : St} {H2 : Hp} {s2 : Shared} {Q : VK} {RR : Value → Addr → Result → Shared → Prop} {E : Value → Shared → Prop} {it : Addr} {fp : List Addr} {tn : Nat → Heap → Prop} {J : It}
    (hc : X.calm = true) (hg : ∀ C s H fp pl, PG (cxComp X scope N C s H fp pl) target g) (ht : ∀ C s H fp pl, PTs (cxComp X scope N C s H fp pl) ifs ti) (he : ∀ C s H fp pl, PE (cxComp X scope N C s H fp pl) elt te)
    (hkind : scope.kind = .function) (hcell : ∀ y ∈ scope.names, y.2 ≠ .cell) (hall : clAll scope X.env = true) (hpk : PickOk X scope N ix)
    (I2 : Inv X pins σ H2 s2) (T : Turn X.prog X.w X.K target J fp it tn) (st2 : tn 0 s2.heap) (f2 : ∀ b ∈ fp, FpOk X pins H2 b)
    (h : ∃ W : Nat → Nat → List V → Hp → Prop, (∃ m, W 0 m [] H2) ∧ ∀ i m acc H, W i m acc H →
      (J.stop i H ∧ acc.length ≤ sizeLine ∧ ∀ p, H p = none → Q (.ref p) (upd H p (.lst acc))) ∨
      (J.go i H ∧ ∃ N : List V → Hp → Prop, (∀ acc' H', N acc' H' → ∃ m', m' < m ∧ W (i + 1) m' acc' H') ∧ ∀ x H', J.yld i H x H' → g x (pickS ix σ) H' fun σ2 H2 => Wk (pickS ix σ) σ2 ∧ ti σ2 H2 fun b H3 => if b = true then te σ2 H3 fun v H4 => acc.length < sizeLine ∧ N (acc ++ [v]) H4 else N acc H3))
    (hR : ∀ (D C : Addr) (s' : Shared) (H' : Hp) (m : Str → Option Value), Inv X pins σ H' s' → s'.heap.Ns C m → H' C = none → s2.heap.objs.size ≤ C → Q (.ref D) H' → RR (.ref D) C (.ok .next) s') :
    wpAny (model X.prog X.w) X.A (newList []) (fun acc s₃ => wpAny (model X.prog X.w) X.A (newFunctionEnv scope X.env.globals (clOf scope X.env) [] X.env.qual none .none (some X.env)) (fun cenv s₄ =>
      codeAny (model X.prog X.w) X.A (.compStart (.ListComp elt [⟨target, iter, ifs, 0⟩] scope pos) 0 (.ref it) acc { cenv with scope := relabel scope X.env }) (RR acc cenv.locals) s₄) E s₃) E s2 := by
  obtain ⟨W, ⟨m0, w0⟩, turn⟩ := h
  refine wpAny_newObj_type (wpAny_newFunctionEnv hcell (by intro y hy; simp at hy) (fun h₁ hns₁ hsb₁ => ?_) hkind)
  dsimp only at hns₁ hsb₁ ⊢
  generalize hH2 : s2.heap.push { cls := .type "list", dict := none, data := .seq ([] : List Value).toArray } = P2 at hns₁ hsb₁ ⊢
  have hC : P2.objs.size = s2.heap.objs.size + 1 := by rw [← hH2, Heap.size_push]
  have hDC : s2.heap.objs.size ≠ P2.objs.size := by rw [hC]; exact Nat.ne_of_lt (Nat.lt_succ_self _)
  have hCle : s2.heap.objs.size ≤ P2.objs.size := by rw [hC]; exact Nat.le_succ _
  have below : ∀ b, b < s2.heap.objs.size → b ≠ P2.objs.size ∧ b ≠ s2.heap.objs.size := fun b hb => ⟨by rw [hC]; exact Nat.ne_of_lt (Nat.lt_succ_of_lt hb), Nat.ne_of_lt hb⟩
  have old : ∀ b o, s2.heap.get? b = some o → h₁.get? b = some o := fun b o e => hsb₁.extBut b o (below b (Heap.lt_size e)).1 (Heap.get?_push_of_some _ (hH2 ▸ Heap.get?_push_of_some _ e))
  have hacc : h₁.PlainList s2.heap.objs.size #[] := ⟨_, hsb₁.extBut _ _ hDC (Heap.get?_push_of_some _ (hH2 ▸ Heap.get?_push_size _ rfl))⟩
  have hfo : ∀ b ∈ fp, ∃ o, s2.heap.get? b = some o := fun b hb => let ⟨o, e, _⟩ := T.obj 0 _ st2 b hb; ⟨o, e⟩
  have hfD : s2.heap.objs.size ∉ fp := fun hm => by obtain ⟨o, e⟩ := hfo _ hm; exact absurd (Heap.lt_size e) (Nat.lt_irrefl _)
  have ok := comp_ok (N := N) (C := P2.objs.size) I2 hCle f2 hfo hkind hcell hall
  have st1 : tn 0 h₁ := T.keep 0 _ _ st2 fun b _ o e => old b o e
  have J0 := comp_inv (t' := s2.toks + ([] : List (Str × Value)).length) (ix := ix) I2 ok hCle old hns₁ hpk hall
  have pnD : ∀ p ∈ X.pn ++ pins, p.1 ≠ s2.heap.objs.size := fun p hp => (below _ (Heap.lt_size (I2.pin p hp).1)).2
  have cellD : ∀ x c, (clOf scope X.env).lookup x = some c → c ≠ s2.heap.objs.size := fun x c e => by
    obtain ⟨v, o, ho, _⟩ := I2.cell x c (clOf_sub e)
    exact (below _ (Heap.lt_size ho)).2
  have stat : ∀ {pl : List (Addr × Obj)} {H' : Hp}, (∀ b ∈ fp, H' b = none) → (∀ p ∈ pl, p.1 = s2.heap.objs.size) → ∀ b ∈ fp, FpOk (cxComp X scope N P2.objs.size s2 H2 fp pins) pl H' b := fun {pl H'} hn hp b hb => by
    refine ⟨hn b hb, (ok.exf b hb).1, ok.exfs b hb, .inl hb, (ok.exf b hb).2, fun p hm => ?_⟩
    rcases List.mem_append.mp hm with z | z
    · exact (f2 b hb).2.2.2.2.2 p z
    · rw [hp p z]; intro q; rw [q] at hfD; exact hfD hb
  have loop : ∀ s₃ : Shared, s₃ = { s2 with heap := h₁, toks := s2.toks + ([] : List (Str × Value)).length } →
      codeAny (model X.prog X.w) X.A (.compLoop (.ListComp elt [⟨target, iter, ifs, 0⟩] scope pos) 0 (.ref it) (.ref s2.heap.objs.size) (compEnvC scope (clOf scope X.env) P2.objs.size X.env)) (RR (.ref s2.heap.objs.size) P2.objs.size) s₃ := by
    rintro s₃ rfl
    refine compLoop_any (fun n s' => ∃ i acc its σ' H', Inv (cxComp X scope N P2.objs.size s2 H2 fp pins) [] σ' H' s' ∧ Wk (pickS ix σ) σ' ∧ tn i s'.heap ∧ (∀ b ∈ fp, H' b = none) ∧ s'.heap.PlainList s2.heap.objs.size (List.toArray its) ∧ Vals acc its ∧ H' s2.heap.objs.size = none ∧ W i n acc H') ?_ m0
      ⟨0, [], [], _, H2, J0, wk_refl _, st1, fun b hb => (f2 b hb).1, hacc, .nil, I2.hok.fresh (Nat.le_refl _), w0⟩
    rintro n s3 ⟨i, acc, its, σ3, H3, I3, wk3, st3, fr3, pl3, va3, nd3, w3⟩
    obtain ⟨kk, g3⟩ := id pl3
    -- the list that grows stands pinned
    have I3' : Inv (cxComp X scope N P2.objs.size s2 H2 fp pins) [(s2.heap.objs.size, ⟨.type "list", none, .seq (List.toArray its) kk, #[]⟩)] σ3 H3 s3 := I3.pins_of fun p hp => by
      have e := List.mem_singleton.mp hp
      subst e
      refine ⟨g3, nd3, hDC, fun z => ?_, fun v q => by cases q⟩
      obtain ⟨_, o, ho, _⟩ := (I2.stack).mem z
      exact absurd (Heap.lt_size ho) (Nat.lt_irrefl _)
    have onlyD : ∀ p ∈ [((s2.heap.objs.size, ⟨.type "list", none, .seq (List.toArray its) kk, #[]⟩) : Addr × Obj)], p.1 = s2.heap.objs.size := fun p hp => by
      rw [List.mem_singleton.mp hp]
    rcases turn i n acc H3 w3 with ⟨stop, hlen, fin⟩ | ⟨go, NN, hNN, step⟩
    · refine wpAny_mono (T.done (cxComp X scope N P2.objs.size s2 H2 fp pins) rfl rfl rfl hc i _ s3 σ3 H3 _ I3' (stat fr3 onlyD) st3 stop) (fun r s4 h4 => ?_) fun _ _ z => z
      obtain ⟨hr, I4⟩ := h4
      subst hr
      have g4 := (I4.pin (s2.heap.objs.size, _) (List.mem_append_right _ (List.mem_singleton.mpr rfl))).1
      obtain ⟨mm, hnm, _⟩ := I4.loc
      have B := comp_back I2 I4 rfl f2 ⟨kk, g4⟩ va3 hlen nd3
      refine hR _ _ s4 _ mm B hnm ?_ hCle (fin _ nd3)
      rw [upd_ne (Ne.symm hDC)]
      exact I4.free
    · refine wpAny_mono (T.item (cxComp X scope N P2.objs.size s2 H2 fp pins) rfl rfl rfl hc i _ s3 σ3 H3 _ I3' (stat fr3 onlyD) st3 go) (fun r s4 h4 => ?_) fun _ _ z => z
      obtain ⟨u, hr, h4⟩ := h4
      subst hr
      refine wpAny_mono h4 (fun _ s5 h5 => ?_) fun _ _ z => z
      obtain ⟨x, H5, I5, r5, y5, st5, fr5⟩ := h5
      have I5w := I5.weak wk3.length.symm (fun i v e => wk3.get e)
      have I5' := I5w.pinned (fp := fp) (stat fr5 onlyD) (T.obj _ _ st5)
      refine wpAny_mono (hg P2.objs.size s2 H2 fp pins _ s5 _ H5 x u _ I5' r5 (step x H5 y5)) (fun _ s6 h6 => ?_) fun _ _ z => z.elim
      obtain ⟨σ6, H6, I6, wk6, q6⟩ := h6
      refine wpAny_mono (ht P2.objs.size s2 H2 fp pins _ s6 σ6 H6 _ I6 q6) (fun ok s7 h7 => ?_) fun _ _ z => z.elim
      obtain ⟨H7, I7, q7⟩ := h7
      have keepT : ∀ {σ8 : St} {H8 : Hp} {s8 : Shared}, Inv (cxComp X scope N P2.objs.size s2 H2 fp pins) ([((s2.heap.objs.size, ⟨.type "list", none, .seq (List.toArray its) kk, #[]⟩) : Addr × Obj)] ++ pinsAt fp s5.heap) σ8 H8 s8 →
          (∀ b ∈ fp, ∀ o, s5.heap.get? b = some o → s8.heap.get? b = some o) ∧ (∀ b ∈ fp, H8 b = none) := fun {σ8 H8 s8} I8 => by
        refine ⟨fun b hb o e => (I8.pin (b, o) (List.mem_append_right _ (List.mem_append_right _ (mem_pinsAt hb e)))).1, fun b hb => ?_⟩
        obtain ⟨o, e, d⟩ := T.obj _ _ st5 b hb
        exact (I8.pin (b, o) (List.mem_append_right _ (List.mem_append_right _ (mem_pinsAt hb e)))).2.1
      have unpin : ∀ {σ8 : St} {H8 : Hp} {s8 : Shared} {pl : List (Addr × Obj)}, Inv (cxComp X scope N P2.objs.size s2 H2 fp pins) pl σ8 H8 s8 → Inv (cxComp X scope N P2.objs.size s2 H2 fp pins) [] σ8 H8 s8 := fun I8 => I8.pins_of fun p hp => by cases hp
      cases ok with
      | false =>
        simp only [Bool.false_eq_true, if_false] at q7 ⊢
        obtain ⟨m', hm, w7⟩ := hNN _ _ q7
        have p7 := I7.pin (s2.heap.objs.size, _) (List.mem_append_right _ (List.mem_append_left _ (List.mem_singleton.mpr rfl)))
        obtain ⟨k1, k2⟩ := keepT I7
        exact ⟨m', hm, i + 1, acc, its, σ6, H7, unpin I7, wk6, T.keep _ _ _ st5 k1, k2, ⟨kk, p7.1⟩, va3, p7.2.1, w7⟩
      | true =>
        simp only [if_true] at q7 ⊢
        refine wpAny_mono (he P2.objs.size s2 H2 fp pins _ s7 σ6 H7 _ I7 q7) (fun y s8 h8 => ?_) fun _ _ z => z.elim
        obtain ⟨v, H8, I8, r8, hlt, q8⟩ := h8
        obtain ⟨m', hm, w8⟩ := hNN _ _ q8
        have p8 := I8.pin (s2.heap.objs.size, _) (List.mem_append_right _ (List.mem_append_left _ (List.mem_singleton.mpr rfl)))
        obtain ⟨k1, k2⟩ := keepT I8
        have hl := va3.length
        refine wpAny_list_append_plain (items := List.toArray its) (hsz := by rw [List.size_toArray, ← hl]; exact Nat.le_of_lt hlt) ⟨kk, p8.1⟩ fun h₅ hl₅ hs₅ => ?_
        have I9 : Inv (cxComp X scope N P2.objs.size s2 H2 fp pins) [] σ6 H8 { s8 with heap := h₅ } := (unpin I8).turned (t' := s8.toks) (it := s2.heap.objs.size) (fun b o hb e => hs₅.extBut b o hb e) p8.2.1 hDC (.inr (Nat.le_refl _)) cellD (fun p hp => by
          have hp' : p ∈ X.pn ++ pins := by simpa [cxComp] using hp
          exact pnD p hp')
        refine ⟨m', hm, i + 1, acc ++ [v], its ++ [y], σ6, H8, I9, wk6, T.keep _ _ _ st5 fun b hb o e => hs₅.extBut b o (fun z => hfD (z ▸ hb)) (k1 b hb o e), k2, ?_, va3.append (.cons r8 .nil), p8.2.1, w8⟩
        have e : (its ++ [y]).toArray = its.toArray.push y := by simp
        rw [e]
        exact hl₅
  exact codeAny_compStart_list (loop _ rfl) (T.self X.A 0 _ _ _ st1 (loop _ rfl))
theorem pe_comp (hc : X.calm = true) (hi : PI X target iter wi) (hg : ∀ C s H fp pl, PG (cxComp X scope N C s H fp pl) target g) (ht : ∀ C s H fp pl, PTs (cxComp X scope N C s H fp pl) ifs ti) (he : ∀ C s H fp pl, PE (cxComp X scope N C s H fp pl) elt te)
    (hpk : PickOk X scope N ix) (hkind : scope.kind = .function := by rfl) (hcell : ∀ y ∈ scope.names, y.2 ≠ .cell := by decide) (hnames : ∀ x ∈ scope.names, x.2 = .local → scope.names.lookup x.1 = some .local := by decide) (hall : clAll scope X.env = true := by rfl)
    (hs : ∀ x, foldedSetIterable iter X.env x = pure x := by intro _; rfl) : PE X (.ListComp elt [⟨target, iter, ifs, 0⟩] scope pos) (tComp wi g ti te ix) := by
  intro pins s σ H Q I h
  rw [eval_ListComp]
  refine wpAny_comprehension_free (use := none) rfl hs (closureFor_clOf hall) hkind hnames ?_
  refine thn (hi pins s σ H _ I h) fun v s1 h1 => thn h1 fun itv s2 h2 => ?_
  obtain ⟨it, fp, tn, J, H2, e, I2, T, st2, f2, h⟩ := h2
  subst e
  refine comp_run (RR := fun acc C => compPost (model X.prog X.w) X.A X.xe none (EP X pins σ Q) acc C) hc hg ht he hkind hcell hall hpk I2 T st2 f2 h ?_
  intro D C s' H' m B hn hHC hle q
  refine ⟨m, hn, fun h' hs' => ⟨.ref D, H', B.turned (t' := s'.toks) (it := C) (fun b o hb e => hs'.extBut b o hb e) hHC (Nat.ne_of_gt (Nat.lt_of_lt_of_le I2.lt hle)) (.inr (Nat.le_trans I2.sz hle)) (fun x c e => ?_) (fun p hp => ?_), rfl, q⟩⟩
  · obtain ⟨v, o, ho, _⟩ := I2.cell x c e
    exact Nat.ne_of_lt (Nat.lt_of_lt_of_le (Heap.lt_size ho) hle)
  · exact Nat.ne_of_lt (Nat.lt_of_lt_of_le (Heap.lt_size (I2.pin p hp).1) hle)
/-- y = [.. for ..] -/
theorem ps_setC {i : Nat} {y : Str} {py spos : Pos} (hN : X.N.Nodup) (hyi : X.N[i]? = some y) (hy : Loc X.env.scope y) (hc : X.calm = true) (hi : PI X target iter wi) (hg : ∀ C s H fp pl, PG (cxComp X scope N C s H fp pl) target g) (ht : ∀ C s H fp pl, PTs (cxComp X scope N C s H fp pl) ifs ti) (he : ∀ C s H fp pl, PE (cxComp X scope N C s H fp pl) elt te)
    (hpk : PickOk X scope N ix) (hsw : swapsWith (.ListComp elt [⟨target, iter, ifs, 0⟩] scope pos) (some (.Name y py)) spos.line X.env = pure true := by with_unfolding_all rfl) (hkind : scope.kind = .function := by rfl) (hcell : ∀ y ∈ scope.names, y.2 ≠ .cell := by decide) (hnames : ∀ x ∈ scope.names, x.2 = .local → scope.names.lookup x.1 = some .local := by decide) (hall : clAll scope X.env = true := by rfl)
    (hs : ∀ x, foldedSetIterable iter X.env x = pure x := by intro _; rfl) (hf : X.fn y = true ∨ X.env.scope.names.lookup y = some .local := by first | exact .inl rfl | exact .inr rfl | assumption) : PS X (.Assign [.Name y py] (.ListComp elt [⟨target, iter, ifs, 0⟩] scope pos) spos) (tAsg (tComp wi g ti te ix) (gName i)) := by
  intro pins s σ H D I h
  rw [exec_Assign_Name_used _ _ _ _ hsw]
  refine wpAny_bind (wpAny_standAt (wpAny_bind ?_))
  show wpAny _ X.A (do let _ ← comprehension (.ListComp elt [⟨target, iter, ifs, 0⟩] scope pos) scope X.env _ (newList []) false (eval iter X.env) (some (assign (.Name y py) X.env))) _ _ s
  refine wpAny_bind (wpAny_mono (wpAny_comprehension_free (use := some (assign (.Name y py) X.env)) (Q := fun _ s' => SP X pins D .next s') rfl hs (closureFor_clOf hall) hkind hnames ?_) (fun _ s' hq => wpAny_pure (wpAny_pure hq)) fun _ _ e => e)
  refine thn (hi pins s σ H _ I h) fun v s1 h1 => thn h1 fun itv s2 h2 => ?_
  obtain ⟨it, fp, tn, J, H2, e, I2, T, st2, f2, h⟩ := h2
  subst e
  refine comp_run (Q := fun x H1 => gName i x σ H1 D.nx) (RR := fun acc C => compPost (model X.prog X.w) X.A X.xe (some (assign (.Name y py) X.env)) (fun _ s' => SP X pins D .next s') acc C) hc hg ht he hkind hcell hall hpk I2 T st2 f2 h ?_
  intro Dd C s' H' m B hn hHC hle q
  show wpAny _ X.A (assign (.Name y py) X.env (.ref Dd)) _ _ _
  have cC : ∀ x c, X.env.cells.lookup x = some c → c ≠ C := fun x c e => by
    obtain ⟨v, o, ho, _⟩ := I2.cell x c e
    exact Nat.ne_of_lt (Nat.lt_of_lt_of_le (Heap.lt_size ho) hle)
  have lC : X.env.locals ≠ C := Nat.ne_of_lt (Nat.lt_of_lt_of_le I2.lt hle)
  refine wpAny_assign_Name (store_ok2 (v := .ref Dd) B hN hyi hy rfl (fun s4 I4 hsb => ?_) hf)
  obtain ⟨a, hsa, ha⟩ := hsb
  have nC : C ≠ a := by
    rcases ha with z | z
    · rw [z]; exact Ne.symm lC
    · exact Ne.symm (cC _ _ z)
  refine ⟨m, hn.sameBut hsa nC, fun h' hs' => ⟨_, H', I4.turned (t' := s4.toks) (it := C) (fun b o hb e => hs'.extBut b o hb e) hHC (Ne.symm lC) (.inr (Nat.le_trans I2.sz hle)) cC (fun p hp => ?_), q⟩⟩
  exact Nat.ne_of_lt (Nat.lt_of_lt_of_le (Heap.lt_size (I2.pin p hp).1) hle)
end
/-! ### the forms that one uses -/
section
variable {g : TG} {ti : TT} {te : TE} {ix : List (Option Nat)} {σ : St} {Q : VK}
/-- what the loop of a comprehension over J wants -/
def CompW (J : It) (g : TG) (ti : TT) (te : TE) (ix : List (Option Nat)) (σ : St) (Q : VK) (H1 : Hp) : Prop := ∃ W : Nat → Nat → List V → Hp → Prop, (∃ m, W 0 m [] H1) ∧ ∀ i m acc H, W i m acc H →
  (J.stop i H ∧ acc.length ≤ sizeLine ∧ ∀ p, H p = none → Q (.ref p) (upd H p (.lst acc))) ∨
  (J.go i H ∧ ∃ N : List V → Hp → Prop, (∀ acc' H', N acc' H' → ∃ m', m' < m ∧ W (i + 1) m' acc' H') ∧ ∀ x H', J.yld i H x H' → g x (pickS ix σ) H' fun σ2 H2 => Wk (pickS ix σ) σ2 ∧ ti σ2 H2 fun b H3 => if b = true then te σ2 H3 fun v H4 => acc.length < sizeLine ∧ N (acc ++ [v]) H4 else N acc H3)
theorem a_comp {wi : TI} {H : Hp} (h : wi σ H fun J H1 => CompW J g ti te ix σ Q H1) : tComp wi g ti te ix σ H Q := h
theorem compw {J : It} {n : Nat} {H1 : Hp} (Pv : Nat → List V → Hp → Prop) (h0 : Pv 0 [] H1) (hgo : ∀ i acc H, i < n → Pv i acc H → J.go i H) (hst : ∀ acc H, Pv n acc H → J.stop n H)
    (hs : ∀ i x acc H H', i < n → Pv i acc H → J.yld i H x H' → g x (pickS ix σ) H' fun σ2 H2 => Wk (pickS ix σ) σ2 ∧ ti σ2 H2 fun b H3 => if b = true then te σ2 H3 fun v H4 => acc.length < sizeLine ∧ Pv (i + 1) (acc ++ [v]) H4 else Pv (i + 1) acc H3)
    (hd : ∀ acc H, Pv n acc H → acc.length ≤ sizeLine ∧ ∀ p, H p = none → Q (.ref p) (upd H p (.lst acc))) : CompW J g ti te ix σ Q H1 := by
  refine ⟨fun i m acc H => m = n - i ∧ i ≤ n ∧ Pv i acc H, ⟨n, by simp, Nat.zero_le _, h0⟩, ?_⟩
  rintro i m acc H ⟨rfl, hi, p⟩
  by_cases hlt : i < n
  · exact .inr ⟨hgo i acc H hlt p, Pv (i + 1), fun acc' H' p' => ⟨n - (i + 1), by omega, rfl, hlt, p'⟩, fun x H' y => hs i x acc H H' hlt p y⟩
  · have e : i = n := by omega
    subst e
    exact .inl ⟨hst acc H p, hd acc H p⟩
theorem comp_list {K : PySem.W.Frag} {a : Addr} {xs : List V} {H1 : Hp} (Pv : Nat → List V → Hp → Prop) (h0 : Pv 0 [] H1) (hl : ∀ i acc H, i ≤ xs.length → Pv i acc H → SqL K H a xs)
    (hs : ∀ i x acc H, xs[i]? = some x → Pv i acc H → g x (pickS ix σ) H fun σ2 H2 => Wk (pickS ix σ) σ2 ∧ ti σ2 H2 fun b H3 => if b = true then te σ2 H3 fun v H4 => acc.length < sizeLine ∧ Pv (i + 1) (acc ++ [v]) H4 else Pv (i + 1) acc H3)
    (hd : ∀ acc H, Pv xs.length acc H → acc.length ≤ sizeLine ∧ ∀ p, H p = none → Q (.ref p) (upd H p (.lst acc))) : CompW (Itl K a) g ti te ix σ Q H1 := by
  refine compw (n := xs.length) Pv h0 (fun i acc H hi p => ⟨xs, xs[i], hl i acc H (Nat.le_of_lt hi) p, by simp [hi]⟩) (fun acc H p => ⟨xs, hl _ acc H (Nat.le_refl _) p, Nat.le_refl _⟩) (fun i x acc H H' hi p y => ?_) hd
  obtain ⟨e, y⟩ := y
  subst e
  exact hs i x acc _ (y xs (hl i acc _ (Nat.le_of_lt hi) p)) p
theorem comp_range {lo : Int} {n : Nat} {H1 : Hp} (Pv : Nat → List V → Hp → Prop) (h0 : Pv 0 [] H1)
    (hs : ∀ i acc H, i < n → Pv i acc H → g (.int (lo + i)) (pickS ix σ) H fun σ2 H2 => Wk (pickS ix σ) σ2 ∧ ti σ2 H2 fun b H3 => if b = true then te σ2 H3 fun v H4 => acc.length < sizeLine ∧ Pv (i + 1) (acc ++ [v]) H4 else Pv (i + 1) acc H3)
    (hd : ∀ acc H, Pv n acc H → acc.length ≤ sizeLine ∧ ∀ p, H p = none → Q (.ref p) (upd H p (.lst acc))) : CompW (Itr lo n) g ti te ix σ Q H1 := by
  refine compw (n := n) Pv h0 (fun i acc H hi p => hi) (fun acc H p => Nat.le_refl _) (fun i x acc H H' hi p y => ?_) hd
  obtain ⟨e, y⟩ := y
  subst e
  subst y
  exact hs i acc _ hi p
end
end L2

/-! Cuts of texts, ranges by steps. -/
namespace L2
open PySem PySem.Spec PyProof.Rows
section
variable {X : Cx}
def rSlS : V → Option Int → Option Int → Hp → VK → Prop := fun x lo hi H Q => ∃ z, x = .str z ∧ z.length ≤ sizeLine ∧ Q (.str (Txt.slice z lo hi)) H
theorem sl_str : SlR X rSlS := by
  intro pins s σ H x v vl vu lo hi sl Q I rx hs pl pu h
  obtain ⟨z, rfl, hz, q⟩ := h
  obtain ⟨t, rfl⟩ := (show ∃ t, v = Value.str z t from rx)
  refine ⟨"str", _, F.slot_str_getitem.lookup, typeIs_str _ _ _, ?_⟩
  have fin : ∀ (tk : Tok) (k : Nat), EP X pins σ Q (.str (Txt.slice z lo hi) tk) { s with toks := k } := fun tk k => ⟨.str _, H, I.tok k, ⟨tk, rfl⟩, q⟩
  cases pl with
  | none =>
    cases pu with
    | none => exact wpAny_getItem_str_slice (l := none) (u := none) (st := none) hs rfl (post_val_or_str ⟨Nat.le_trans (Txt.slice_le z _ _) hz, fun t' k => fin t' k⟩)
    | int j tj => exact wpAny_getItem_str_slice (l := none) (u := some (j, tj)) (st := none) hs rfl (post_val_or_str ⟨Nat.le_trans (Txt.slice_le z _ _) hz, fun t' k => fin t' k⟩)
  | int i ti =>
    cases pu with
    | none => exact wpAny_getItem_str_slice (l := some (i, ti)) (u := none) (st := none) hs rfl (post_val_or_str ⟨Nat.le_trans (Txt.slice_le z _ _) hz, fun t' k => fin t' k⟩)
    | int j tj => exact wpAny_getItem_str_slice (l := some (i, ti)) (u := some (j, tj)) (st := none) hs rfl (post_val_or_str ⟨Nat.le_trans (Txt.slice_le z _ _) hz, fun t' k => fin t' k⟩)
end
/-- lo, lo + c, .. (n of them) -/
def Its (lo c : Int) (n : Nat) : It := ⟨fun i _ => i < n, fun i H x H' => H' = H ∧ x = .int (lo + i * c), fun i _ => n ≤ i⟩
theorem turn_rangeS {P : Program} {w : World} {K : PySem.W.Frag} {tg : Expr} (it : Addr) (lo c : Int) (n : Nat) : Turn P w K tg (Its lo c n) [it] it (fun i h => IsRangeIter h it (lo + (i : Nat) * c) ((n : Int) - (i : Nat)) c) where
  mem := by simp
  obj := fun i h st b hb => by
    have e : b = it := by simpa using hb
    subst e
    exact ⟨_, st, fun v z => by
      have z' : Data.fields _ = Data.cell v := z
      cases z'⟩
  keep := fun i h h' st k => k it (by simp) _ st
  item := by
    intro X hP hw hK hc i pins s σ H E I hf st hg
    subst hP hw hK
    obtain ⟨f0, f1, f2, f3, f4, f5⟩ := hf it (by simp)
    have W := Walks.range (prog := X.prog) (w := X.w) (I.ok.hd hc) it lo c n
    refine W.item i s _ _ hg st fun v h' tk hv st' kk => ?_
    obtain ⟨t, rfl⟩ := hv
    have I1 : Inv X pins σ H { s with heap := h', toks := tk } := I.turned (fun b o hb e => kk b o (by simpa using hb) e) f0 f1 f3 f4 f5
    exact ⟨_, rfl, go_of (s := { s with heap := h', toks := tk }) (n := "range_iterator") st' rfl rfl (by decide) ⟨.int (lo + i * c), H, I1, ⟨t, rfl⟩, ⟨rfl, rfl⟩, st', fun b hb => (hf b hb).1⟩⟩
  done := by
    intro X hP hw hK hc i pins s σ H E I hf st hg
    subst hP hw hK
    obtain ⟨f0, f1, f2, f3, f4, f5⟩ := hf it (by simp)
    exact wpAny_pyNext_range_end (I.ok.hd hc) st (by have : n ≤ i := hg; omega) fun h' eb => ⟨rfl, I.turned (t' := s.toks) (fun b o hb e => eb b o hb e) f0 f1 f3 f4 f5⟩
  self := fun _ _ _ _ _ st h => wpAny_pyIter_rangeiter st h
section
variable {X : Cx} {tg : Expr}
def iRng3 (ta : TA) : TI := fun σ H R => ta σ H fun vs H1 => ∃ i j c : Int, vs = [.int i, .int j, .int c] ∧ 0 < c ∧ c < 1000000 ∧ (-1000000000 ≤ i ∧ i < 1000000000 ∧ -1000000000 ≤ j ∧ j < 1000000000) ∧ R (Its i c (if i < j then (j - i - 1) / c + 1 else 0).toNat) H1
theorem small_c {a b c : Int} (h0 : 0 < c) (h1 : c < 1000000) (ha : -1000000000 ≤ a) (ha' : a < 1000000000) (hb : -1000000000 ≤ b) (hb' : b < 1000000000) : Builtin.Range.small a b c = true := by
  unfold Builtin.Range.small Builtin.Range.rangeSize
  simp only [Builtin.Range.rangeFitsLong, Bool.and_eq_true, Bool.or_eq_true, decide_eq_true_eq, beq_iff_eq, show c > 0 from h0, if_true]
  split
  · have e1 := Int.ediv_le_self (b := c) (a := b - a - 1) (by omega)
    have e2 : 0 ≤ (b - a - 1) / c := Int.ediv_nonneg (by omega) (by omega)
    omega
  · omega
theorem pi_range3 {a b c : Expr} {ta : TA} {p pos : Pos} (hg : Gl X "range") (hm : X.mg "range" = none) (ha : PA X [a, b, c] ta) (hs : starEach [a, b, c] X.env = [(false, eval a X.env), (false, eval b X.env), (false, eval c X.env)] := by rfl) (hs2 : starEach [b, c] X.env = [(false, eval b X.env), (false, eval c X.env)] := by rfl) :
    PI X tg (.Call (.Name "range" p) [a, b, c] [] pos) (iRng3 ta) := by
  intro pins s σ H R I h
  refine Call_ (ld_blt I hg hm boot_range (PyProof.Rows.callWith_type1 (thn (ha pos pins s σ H _ I h) fun us s1 ⟨vs, H1, I1, r1, q1⟩ => ?_) (by rw [hs, hs2]) (by rw [hs2]; rfl)))
  obtain ⟨i, j, k, e, h0, h1, ⟨q1, q2, q3, q4⟩, q⟩ := q1
  subst e
  cases r1 with
  | cons r rr =>
    cases rr with
    | cons r' rr =>
      cases rr with
      | cons r'' rr =>
        cases rr
        obtain ⟨t, rfl⟩ := r
        obtain ⟨t', rfl⟩ := r'
        obtain ⟨t'', rfl⟩ := r''
        refine call_range_3 (by omega) ?_ (.inl (PyProof.noPylong_small (by omega)))
        refine wpAny_pyIter_range (IsRange.new ..) (small_c h0 h1 q1 q2 q3 q4) ?_
        have I2 : Inv X pins σ H1 { s1 with heap := s1.heap.push { cls := .type "range", data := .fields #[.int i t, .int j t', .int k t''] }, toks := s1.toks } := I1.kept fun b o e => Heap.get?_push_of_some _ e
        refine ⟨(s1.heap.push { cls := .type "range", data := .fields #[.int i t, .int j t', .int k t''] }).objs.size, [(s1.heap.push { cls := .type "range", data := .fields #[.int i t, .int j t', .int k t''] }).objs.size], _, _, H1, rfl,
          I2.kept (t' := s1.toks) fun b o e => Heap.get?_push_of_some _ e, turn_rangeS _ i k (if i < j then (j - i - 1) / k + 1 else 0).toNat, ?_, fun b hb => ?_, q⟩
        · have e1 : i + ((0 : Nat) : Int) * k = i := by simp
          have e2 : (((if i < j then (j - i - 1) / k + 1 else 0).toNat : Nat) : Int) - ((0 : Nat) : Int) = Builtin.Range.rangeSize i j k := by
            unfold Builtin.Range.rangeSize
            rw [if_pos (show k > 0 from h0)]
            split
            · have : 0 ≤ (j - i - 1) / k := Int.ediv_nonneg (by omega) (by omega)
              omega
            · simp
          show IsRangeIter _ _ (i + ((0 : Nat) : Int) * k) ((((if i < j then (j - i - 1) / k + 1 else 0).toNat : Nat) : Int) - ((0 : Nat) : Int)) k
          rw [e1, e2]
          exact Heap.get?_push_size _ rfl
        · have e : b = (s1.heap.push { cls := .type "range", data := .fields #[.int i t, .int j t', .int k t''] }).objs.size := by simpa using hb
          subst e
          exact I2.fpOk (Nat.le_refl _) (I2.hok.fresh (Nat.le_refl _))
end
theorem for_rangeS {lo c : Int} {n : Nat} {g : TG} {tb : TS} {D : Ends} {σ : St} {H : Hp} (Pv : Nat → St → Hp → Prop) (h0 : Pv 0 σ H)
    (hs : ∀ i σ H, i < n → Pv i σ H → g (.int (lo + i * c)) σ H fun σ2 H2 => tb { D with nx := Pv (i + 1), ct := Pv (i + 1), bk := D.nx } σ2 H2) (hd : ∀ σ H, Pv n σ H → D.nx σ H) :
    ∃ W : Nat → Nat → St → Hp → Prop, (∃ m, W 0 m σ H) ∧ ∀ i m σ H, W i m σ H →
      ((Its lo c n).stop i H ∧ D.nx σ H) ∨ ((Its lo c n).go i H ∧ ∃ N : St → Hp → Prop, (∀ σ' H', N σ' H' → ∃ m', m' < m ∧ W (i + 1) m' σ' H') ∧ ∀ x H', (Its lo c n).yld i H x H' → g x σ H' fun σ2 H2 => tb { D with nx := N, ct := N, bk := D.nx } σ2 H2) := by
  refine ⟨fun i m σ H => m = n - i ∧ i ≤ n ∧ Pv i σ H, ⟨n, by simp, Nat.zero_le _, h0⟩, ?_⟩
  rintro i m σ H ⟨rfl, hi, p⟩
  by_cases hlt : i < n
  · refine .inr ⟨hlt, Pv (i + 1), fun σ' H' p' => ⟨n - (i + 1), by omega, rfl, hlt, p'⟩, fun x H' y => ?_⟩
    obtain ⟨rfl, rfl⟩ := y
    exact hs i σ _ hlt p
  · have e : i = n := by omega
    subst e
    exact .inl ⟨Nat.le_refl _, hd σ H p⟩
section
variable {σ : St} {H : Hp} {R : It → Hp → Prop} {K : PySem.W.Frag}
theorem a_for {wi : TI} {g : TG} {tb : TS} {D : Ends} (h : wi σ H fun J H1 => ∃ W : Nat → Nat → St → Hp → Prop, (∃ m, W 0 m σ H1) ∧ ∀ i m σ H, W i m σ H →
  (J.stop i H ∧ D.nx σ H) ∨ (J.go i H ∧ ∃ N : St → Hp → Prop, (∀ σ' H', N σ' H' → ∃ m', m' < m ∧ W (i + 1) m' σ' H') ∧ ∀ x H', J.yld i H x H' → g x σ H' fun σ2 H2 => tb { D with nx := N, ct := N, bk := D.nx } σ2 H2)) : tFor wi g tb D σ H := h
theorem a_rng1 {ta : TA} (h : ta σ H fun vs H1 => ∃ j : Int, vs = [.int j] ∧ -(2 ^ 62) ≤ j ∧ j < 2 ^ 62 ∧ R (Itr 0 j.toNat) H1) : iRng1 ta σ H R := h
theorem a_rng2 {ta : TA} (h : ta σ H fun vs H1 => ∃ i j : Int, vs = [.int i, .int j] ∧ (-(2 ^ 62) ≤ i ∧ i < 2 ^ 62 ∧ -(2 ^ 62) ≤ j ∧ j < 2 ^ 62) ∧ R (Itr i (j - i).toNat) H1) : iRng2 ta σ H R := h
theorem a_rng3 {ta : TA} (h : ta σ H fun vs H1 => ∃ i j c : Int, vs = [.int i, .int j, .int c] ∧ 0 < c ∧ c < 1000000 ∧ (-1000000000 ≤ i ∧ i < 1000000000 ∧ -1000000000 ≤ j ∧ j < 1000000000) ∧ R (Its i c (if i < j then (j - i - 1) / c + 1 else 0).toNat) H1) : iRng3 ta σ H R := h
theorem a_ilist {tl : TE} (h : tl σ H fun x H1 => ∃ a, x = .ref a ∧ (∃ xs, SqL K H1 a xs) ∧ R (Itl K a) H1) : iList K tl σ H R := h
theorem a_itup {tl : TE} (h : tl σ H fun x H1 => ∃ a, x = .ref a ∧ (∃ xs, SqT K H1 a xs) ∧ R (Itt K a) H1) : iTup K tl σ H R := h
end
end L2

namespace L2
open PySem PySem.Spec PyProof.Rows
/-! ### exceptions: how one flies, a raise, a call that may raise, a try with one handler -/
/-- an exception in flight: its object and its trace, both made behind h0, both untracked -/
def Fly (h0 h : Heap) (H : Hp) (x : Addr) (cls : Value) : Prop :=
  h0.get? x = none ∧ H x = none ∧ ∃ a0 oe vs T oT ts, h0.get? T = none ∧ H T = none ∧ h.get? x = some oe ∧ oe.cls = cls ∧ vs[0]? = some a0 ∧ oe.data = .fields vs ∧ vs[1]? = some (.ref T) ∧ T ≠ x ∧ h.get? T = some oT ∧ oT.data = .fields ts ∧ ts[3]? = some .none
/-- an exception behind a call -/
def CX1 (P : Program) (w : World) : CXT := fun outer H s E e s' => ∃ x cls H', e = .ref x ∧ s'.os = s.os ∧ AllBare s'.gens ∧ Un (frs outer) [] H H' s.heap s'.heap ∧ HOk P w H' s'.heap ∧ Fly s.heap s'.heap H' x cls ∧ E cls none H'

theorem ObjOk.has {P : Program} {w : World} {H : Hp} {h : Heap} {a : Addr} {o : HO} (x : ObjOk P w H h a o) : ∃ u, h.get? a = some u := by
  cases o with
  | lst xs => obtain ⟨_, _, _, _, e⟩ := x; exact ⟨_, e⟩
  | tup xs => obtain ⟨_, _, _, u, e, _⟩ := x; exact ⟨_, e⟩
  | dK kvs => obtain ⟨_, _, _, _, u, _, _, e, _⟩ := x; exact ⟨_, e⟩
  | dT kvs => obtain ⟨_, _, _, _, u, _, _, e, _⟩ := x; exact ⟨_, e⟩
  | set S n => obtain ⟨u, _, _, _, e, _⟩ := x; exact ⟨_, e⟩
  | ins C dx fs => obtain ⟨_, _, _, e, _⟩ := x; exact ⟨_, e⟩
  | own y => exact x
  | xd fs => obtain ⟨_, ⟨u, _, _, e, _⟩, _⟩ := x; exact ⟨_, e⟩
  | rng lo hi => obtain ⟨_, _, _, e⟩ := x; exact ⟨_, e⟩
  | frz ob u => obtain ⟨e, _⟩ := x; exact ⟨_, e⟩
  | tbl ps => exact ⟨_, x⟩
  | met f y => exact ⟨_, x⟩
  | ext φ => exact x.2.1

/-- a heap in which, but for things at l, all stands, and the rest but for its slots -/
theorem fly_on {P : Program} {w : World} {fs fr l bad : List Addr} {H H' : Hp} {h h1 h2 : Heap} (u : Un fs [] H H' h h1) (hok : HOk P w H' h1) (hl : ∀ b ∈ l, b ∈ bad ∨ b ∈ fr) (hb : ∀ b ∈ bad, h.get? b = none ∧ H' b = none)
    (hfr : ∀ b ∈ fr, (b ∈ fs ∨ h.get? b = none) ∧ H' b = none ∧ ∃ o, h1.get? b = some o ∧ ∀ vs, o.data ≠ .fields vs) (hfs : ∀ b ∈ fs, b ∈ fr) (k : (PySem.W.hideAll h1 l).StaysIn h2) (sm : h1.UpToSlots h2) :
    Un fs [] H H' h h2 ∧ HOk P w H' h2 ∧ ∀ x cls a0, h2.TracedW (PySem.W.hideAll h1 l) x cls a0 → h.get? x = none → H' x = none → Fly h h2 H' x cls := by
  have gt : ∀ b o, h1.get? b = some o → b ∉ bad → b ∉ fr → h2.get? b = some o := fun b o e n1 n2 => k b o (PySem.W.hideAll_get _ e fun z => (hl b z).elim n1 n2)
  have nb : ∀ b o, h.get? b = some o → b ∉ bad := fun b o e z => by rw [(hb b z).1] at e; cases e
  have slots : ∀ b o, b ∈ fr → h1.get? b = some o → ∃ sl, h2.get? b = some { o with slots := sl } := fun b o hf e => by
    obtain ⟨_, _, o', e', d⟩ := hfr b hf
    rw [e] at e'
    cases e'
    exact sm b o e d
  have tr : ∀ b u, H' b = some u → b ∉ bad ∧ b ∉ fr := fun b u e => ⟨fun z => (by rw [(hb b z).2] at e; cases e), fun z => (by rw [(hfr b z).2.1] at e; cases e)⟩
  refine ⟨⟨fun b o e n hf hx => ?_, fun b o e n hf hx => ?_, fun b o e n hx => u.free b o e n hx, fun b o e hx => ?_, u.tups, u.frzs, u.tbls⟩, fun b v e => ?_, fun x cls a0 ht hx hHx => ?_⟩
  · refine gt b o (u.keep b o e n hf hx) (nb b o e) fun z => ?_
    rcases (hfr b z).1 with q | q
    · exact hf q
    · rw [e] at q; cases q
  · obtain ⟨sl, e1⟩ := u.slot b o e n hf hx
    obtain ⟨sl', e2⟩ := slots b _ (hfs b hf) e1
    exact ⟨sl', e2⟩
  · obtain ⟨o', e1⟩ := u.there b o e hx
    by_cases hf : b ∈ fr
    · obtain ⟨sl, e2⟩ := slots b o' hf e1
      exact ⟨_, e2⟩
    · exact ⟨o', gt b o' e1 (nb b o e) hf⟩
  · refine (hok b v e).stay (fun c o hc q => ?_) (fun _ q => q) fun _ _ q => q
    rcases hc with rfl | hc
    · exact gt c o q (tr c v e).1 (tr c v e).2
    · exact gt c o q (tr c _ hc).1 (tr c _ hc).2
  · obtain ⟨oe, vs, T, oT, ts, t1, ⟨t2, t3⟩, t4, t5, t6, t7, t8, t9, t10⟩ := ht
    have hT : h.get? T = none ∧ H' T = none := by
      cases q : h1.get? T with
      | none =>
        refine ⟨?_, ?_⟩
        · cases r : h.get? T with
          | none => rfl
          | some o => obtain ⟨o', e'⟩ := u.there T o r (by simp); rw [q] at e'; cases e'
        · cases r : H' T with
          | none => rfl
          | some v => obtain ⟨o', e'⟩ := (hok T v r).has; rw [q] at e'; cases e'
      | some o =>
        by_cases hm : T ∈ l
        · rcases hl T hm with z | z
          · exact hb T z
          · obtain ⟨sl, e2⟩ := slots T o z q
            obtain ⟨_, _, o', e', d⟩ := hfr T z
            rw [q] at e'
            cases e'
            rw [t8] at e2
            cases e2
            exact absurd t9 (d ts)
        · have := PySem.W.hideAll_get _ q hm
          rw [t6] at this; cases this
    exact ⟨hx, hHx, a0, oe, vs, T, oT, ts, hT.1, hT.2, t1, t2, t3, t4, t5, t7, t8, t9, t10⟩

/-- of a flying exception: the library's word, over the heap without it, its trace and the frames -/
theorem Fly.traced {h0 h : Heap} {H : Hp} {x : Addr} {cls : Value} (f : Fly h0 h H x cls) : ∃ T a0, h0.get? T = none ∧ H T = none ∧ ∀ l : List Addr, T ∈ l → h.TracedW (PySem.W.hideAll h l) x cls a0 := by
  obtain ⟨_, _, a0, oe, vs, T, oT, ts, t1, t2, t3, t4, t5, t6, t7, t8, t9, t10, t11⟩ := f
  exact ⟨T, a0, t1, t2, fun l hl => ⟨oe, vs, T, oT, ts, t3, ⟨t4, t5⟩, t6, t7, PySem.W.hideAll_none _ hl, t8, t9, t10, t11⟩⟩

section
variable {X : Cx} {pins : List (Addr × Obj)} {σ : St} {H : Hp} {s : Shared}
theorem mem_frs {l : List Env} : ∀ env ∈ l, ∀ a, env.frame = some a → a ∈ frs l := fun env he a hf => List.mem_filterMap.mpr ⟨env, he, hf⟩
/-- what is known of the frames that run -/
theorem Inv.frm (I : Inv X pins σ H s) : ∀ b ∈ frs X.stack, (b ∈ X.fs ∨ X.s₀.heap.get? b = none) ∧ H b = none ∧ ∃ o, s.heap.get? b = some o ∧ ∀ vs, o.data ≠ .fields vs := fun b hb => by
  refine ⟨?_, I.stkFree b hb, (I.stack.mem hb).2⟩
  rcases List.mem_cons.mp (I.stkSub b hb) with e | e
  · exact .inr (by rw [e]; exact Heap.get?_none_of_le I.ok.above)
  · exact .inl e
/-- an exception leaves this frame -/
theorem leave1 {E : XK} {x : Addr} {cls : Value} (hs : X.stack = X.env :: X.outer) (hf : X.env.frame = some X.env.locals) (hex : X.ex = []) (I : Inv X pins σ H s) {l bad : List Addr} {h1 : Heap}
    (hl : ∀ b ∈ l, b ∈ bad ∨ b ∈ frs X.stack) (hb : ∀ b ∈ bad, X.s₀.heap.get? b = none ∧ H b = none) (k : (PySem.W.hideAll s.heap l).StaysIn h1) (sm : s.heap.UpToSlots h1) {a0 : Value} (ht : h1.TracedW (PySem.W.hideAll s.heap l) x cls a0)
    (hx : X.s₀.heap.get? x = none) (hHx : H x = none) (e : E cls none H) : CX1 X.prog X.w X.outer X.H₀ X.s₀ E (.ref x) { s with heap := h1 } := by
  have ub := I.base
  rw [hex] at ub
  obtain ⟨u, ok, fl⟩ := fly_on ub I.hok hl hb I.frm (fun b hb => by rw [hs]; unfold frs; rw [List.filterMap_cons, hf]; exact List.mem_cons_of_mem _ hb) k sm
  exact ⟨x, cls, H, rfl, I.os, I.bare, u, ok, fl x cls a0 ht hx hHx, e⟩

/-- the wish of a def's body about exceptions -/
def Xe1 (X : Cx) (E : XK) : Prop := X.xe = fun e s' => wpAny (model X.prog X.w) X.A (leaving X.env e) (fun _ s'' => CX1 X.prog X.w X.outer X.H₀ X.s₀ E e s'') (fun e' s'' => CX1 X.prog X.w X.outer X.H₀ X.s₀ E e' s'') s'
/-- what a callee raises leaves this frame too -/
theorem pass1 {E : XK} (hs : X.stack = X.env :: X.outer) (hf : X.env.frame = some X.env.locals) (hex : X.ex = []) (hxe : Xe1 X E) : Passes (CX1 X.prog X.w) X E := by
  intro pins σ H s e s' I hc
  obtain ⟨x, cls, H', rfl, os, bare, un, hok, fly, hE⟩ := hc
  have J : Inv X pins σ H' s' := I.call' (ch := []) os un hok bare (fun b z => absurd z (by simp))
  have up : ∀ b, s.heap.get? b = none → X.s₀.heap.get? b = none := fun b z => by
    cases q : X.s₀.heap.get? b with
    | none => rfl
    | some o => obtain ⟨o', e'⟩ := I.base.there b o q (by rw [hex]; simp); rw [z] at e'; cases e'
  obtain ⟨T, a0, hT0, hT, htr⟩ := fly.traced
  rw [hxe]
  have hin : ∀ env ∈ X.env :: X.outer, ∀ a, env.frame = some a → a ∈ x :: T :: frs X.stack := fun env he a hf => .tail _ (.tail _ (by rw [hs]; exact mem_frs env he a hf))
  refine wpAny_leaving_nextW (base := PySem.W.hideAll s'.heap (x :: T :: frs X.stack)) (by rw [J.ok.frames, hs]) (PySem.W.funFrames_hide (hs ▸ J.stack) hin) hf (htr _ (.tail _ (.head _))) (fun b o q => PySem.W.of_hideAll _ q)
    (PySem.W.hideAll_none _ (.head _)) fun h' hL => ?_
  obtain ⟨k1, _, k3, k4⟩ := hL
  exact leave1 hs hf hex J (bad := [x, T]) (fun b hb => by
    rcases List.mem_cons.mp hb with z | hb
    · exact .inl (by rw [z]; exact .head _)
    · rcases List.mem_cons.mp hb with z | hb
      · exact .inl (by rw [z]; exact .tail _ (.head _))
      · exact .inr hb) (fun b hb => by
    rcases List.mem_cons.mp hb with z | hb
    · rw [z]; exact ⟨up _ fly.1, fly.2.1⟩
    · have z : b = T := by simpa using hb
      rw [z]; exact ⟨up _ hT0, hT⟩) k1 k4 k3 (up _ fly.1) fly.2.1 hE
end

/-! ### raise C(e) -/
/-- a class of one's own below ValueError, as the part tells it -/
theorem exc_obj {K : PySem.W.Frag} {h : Heap} {C : Addr} {bmB : List Value} {newId : String} (X : K.In h) (q : PySem.W.excIn K C bmB newId = true) :
    ∃ bm N nm qn bs hd sn sub ab col dd k0 k1 k2 k3 k5 mN, h.get? C = some (excClassObj nm qn C N bs bm hd sn sub ab col dd k0 k1 k2 k3 k5 newId) ∧ h.Ns N mN ∧ mN "__init__" = none ∧ OwnTail h bmB bm := by
  unfold PySem.W.excIn at q
  split at q
  case h_2 => cases q
  case h_1 ddc cdc slc hlook =>
    split at q
    case h_2 => cases q
    case h_1 Cc bmc k0 k1 k2 k3 nn k5 hmro hslots =>
      simp only [Bool.and_eq_true, beq_iff_eq, Bool.not_eq_true'] at q
      obtain ⟨⟨⟨⟨⟨e1, e2⟩, e3⟩, e4⟩, e5⟩, e6⟩ := q
      obtain ⟨nm, bs, mro, ns, qn, hd, sn, sub, ab, col, del⟩ := cdc
      dsimp only at hmro e3 e5 e6
      obtain ⟨ll⟩ := slc
      simp only at hslots
      subst e1 e2 e3 hmro hslots
      exact ⟨_, _, _, _, _, _, _, _, _, _, _, _, _, _, _, _, _, X _ _ hlook, .of_isNs (PySem.W.isNs_of_in X e5), PySem.W.nsMap_none_of_in X e5 e6, PySem.W.tail_of_in X e4⟩
/-- raise C(e): the class at C -/
def tRaise (C : Addr) (E : XK) (te : TE) : TS := fun _ σ H => te σ H fun _ H' => E (.ref C) none H'
section
variable {X : Cx}
theorem ps_raise {E : XK} {x : Str} {np cpos pos : Pos} {e₀ : Expr} {te : TE} {C : Addr} {B newId initId : String} {bmB : List Value} (hs : X.stack = X.env :: X.outer) (hf : X.env.frame = some X.env.locals) (hex : X.ex = []) (hxe : Xe1 X E)
    (hcalm : X.calm = true) (hg : Gl X x) (hm : X.mg x = some (.ref C)) (FB : ExcBaseFacts B newId initId bmB) (hq : PySem.W.excIn X.K C bmB newId = true) (he : PE X e₀ te) (hdb : (x == ("__debug__" : Str)) = false := by decide)
    (hst : starEach [e₀] X.env = (false, eval e₀ X.env) :: starEach [] X.env := by rfl) (hpl : (backTo cpos (starEach [] X.env)).any (·.1) = false := by rfl) :
    PS X (.Raise (some (.Call (.Name x np) [e₀] [] cpos)) none pos) (tRaise C E te) := by
  intro pins s σ H D I h
  obtain ⟨bm, N, nm, qn, bs, hd, sn, sub, ab, col, dd, k0, k1, k2, k3, k5, mN, hC, hN, hni, T⟩ := exc_obj I.ok.mod.kin hq
  refine wpAny_Raise_call_subT (C := C) (nm := nm) (q := qn) (N := N) (bs := bs) (bm := bm) (hdct := hd) (sn := sn) (sub := sub) (ab := ab) (col := col) (dd := dd) (k0 := k0) (k1 := k1) (k2 := k2) (k3 := k3) (k5 := k5)
    FB (mN := mN) (T.hasType FB.hasBase) (I.ok.hd hcalm) (by rw [hst]; show (false || (backTo cpos (starEach [] X.env)).any (·.1)) = false; rw [hpl]; rfl) hni (ld_glob I hg hm ⟨rfl, ?_⟩ hdb)
  rw [hst]
  refine Calls.evalArgs_plain ?_
  refine Calls.spliced_cons ?_
  refine thn (he pins s σ H _ I h) fun u s1 ⟨v, H1, I1, _, q1⟩ => ?_
  refine Calls.spliced_nil ?_
  refine ⟨rfl, by show (1 : Nat) ≤ sizeLine; decide, I1.bk _ _ hC, hN.keeps I1.bk, T.keeps I1.bk, fun h' e hmade => ?_⟩
  obtain ⟨t, ht, ht0, htt⟩ := hmade.there
  have J : Inv X pins σ H1 { s1 with heap := h' } := I1.call' (ch := []) rfl (Un.kept hmade.keeps) (I1.hok.kept hmade.keeps) I1.bare (fun b z => absurd z (by simp))
  have up : ∀ b, s1.heap.get? b = none → X.s₀.heap.get? b = none := fun b z => by
    cases q : X.s₀.heap.get? b with
    | none => rfl
    | some o => obtain ⟨o', e'⟩ := I1.base.there b o q (by rw [hex]; simp); rw [z] at e'; cases e'
  have hHe : H1 e = none := by
    cases r : H1 e with
    | none => rfl
    | some v => obtain ⟨o', e'⟩ := (I1.hok e v r).has; rw [hmade.new] at e'; cases e'
  rw [hxe]
  have hin : ∀ env ∈ X.env :: X.outer, ∀ a, env.frame = some a → a ∈ e :: frs X.stack := fun env he a hf => .tail _ (by rw [hs]; exact mem_frs env he a hf)
  refine wpAny_leaving_firstW (base := PySem.W.hideAll h' (e :: frs X.stack)) (a0 := .ref t) (by rw [J.ok.frames, hs]) (PySem.W.funFrames_hide (hs ▸ J.stack) hin) hf ht (fun b o q => PySem.W.of_hideAll _ q)
    (PySem.W.hideAll_none _ (.head _)) rfl rfl rfl fun h2 hL => ?_
  obtain ⟨l1, _, l3, l4⟩ := hL
  exact leave1 hs hf hex J (bad := [e]) (fun b hb => by
    rcases List.mem_cons.mp hb with z | hb
    · exact .inl (by rw [z]; exact .head _)
    · exact .inr hb) (fun b hb => by
    have z : b = e := by simpa using hb
    rw [z]; exact ⟨up _ hmade.new, hHe⟩) l1 l4 l3 (up _ hmade.new) hHe q1
end
end L2

namespace L2
open PySem PySem.Spec PyProof.Rows
/-! ### a def that may raise; a call within a try; try with one handler -/
section
variable {P : Program} {w : World} {K : PySem.W.Frag} {mg : Str → Option Value} {base : Heap}
/-- a def of the text that may raise -/
theorem Fun.ok1 {x qual : Str} {st : Stmt} {f : Addr} {fd : FuncData} {N ps : List Str} {k : Nat} {sp : Sp} (F : Fun K x qual st f fd) (S : FnScope N ps (defScope st)) (len : ∀ vs H Q E, sp vs H Q E → vs.length = ps.length)
    (hbody : ∀ (cdv : Value) (A : Around) (outer : List Env) (s : Shared) (H : Hp) (vs : List V) (Q : VK) (E : XK), Room k (A.deeper (envOfC qual (defScope st) s.heap.objs.size f cdv)) → sp vs H Q E →
      ∃ t, PSs (cxOf (CX1 P w) P w K mg base N qual (defScope st) f cdv A outer s H E) (defBody st) t ∧ t { nx := fun _ H' => Q .non H', rt := Q } (start N vs) H) : FnOk P w K mg base (CX1 P w) (k + 1) f fd ps sp := by
  obtain ⟨oc, od, kV, doc, pm, an, cdv, ct, osl, rfl, lk, hcd⟩ := F.ex
  exact fn_of lk hcd S len fun A outer s H vs Q E hr hsp => hbody cdv A outer s H vs Q E hr hsp
end
section
variable {X : Cx}
/-- what a callee raises, at these locals, is what this code wants of exceptions -/
def PassAt (CX : CXT) (X : Cx) (σ : St) (E : XK) : Prop := ∀ (pins : List (Addr × Obj)) (H : Hp) (s : Shared) (e : Value) (s' : Shared), Inv X pins σ H s → CX X.stack H s E e s' → X.xe e s'
/-- f(..) within a try: the wish about exceptions by the locals -/
def tCallX (sp : Sp) (dvs : List V) (R : St → XK) (t : TA) : TE := fun σ H Q => t σ H fun vs H1 => sp (vs ++ dvs) H1 Q (R σ)
variable {CX : CXT} {k : Nat} {f : Addr} {fd : FuncData} {ps : List Str} {sp : Sp} {dvs : List V} {ds : List Value} {x : Str} {p pos : Pos} {e : Expr} {es : List Expr} {t : TA}
theorem run_fnX {E : XK} {pins : List (Addr × Obj)} {σ : St} {H : Hp} {s : Shared} {Q : VK} {us : List Value} {vs : List V} (F : FnOk X.prog X.w X.K X.mg X.base CX k f fd ps sp) (hr : Room k X.A) (hb : Binds X.K fd ps ds) (hd : Vals dvs ds)
    (hx : PassAt CX X σ E) (I : Inv X pins σ H s) (r : Vals vs us) (h : sp (vs ++ dvs) H Q E) : wpAny (model X.prog X.w) X.A (call (.ref f) us) (EP X pins σ Q) X.xe s := by
  have r2 := r.append hd
  have hl : (us ++ ds).length = ps.length := r2.length ▸ F.len _ _ _ _ h
  refine wpAny_call (codeAny_mono (F.run X.A X.stack s H ⟨us, []⟩ (us ++ ds) (vs ++ dvs) Q E hr I.env0 (hb s us I.kIn hl) r2 h) fun r s' hq => ?_)
  match r, hq with
  | .error e, hq => exact hx pins H s e s' I hq
  | .ok (.ret u), hq => exact I.after hq
  | .ok .next, hq => exact hq.elim
  | .ok .brk, hq => exact hq.elim
  | .ok .cont, hq => exact hq.elim
theorem pe_callX {R : St → XK} (F : FnOk X.prog X.w X.K X.mg X.base CX k f fd ps sp) (hr : Room k X.A) (hg : Gl X x) (hm : X.mg x = some (.ref f)) (hk : PySem.W.keepIn X.K (.ref f) = true) (hb : Binds X.K fd ps ds) (hd : Vals dvs ds)
    (hx : ∀ σ, PassAt CX X σ (R σ)) (ha : PA X (e :: es) t) (hdb : (x == ("__debug__" : Str)) = false := by decide) (he : starEach (e :: es) X.env = (false, eval e X.env) :: starEach es X.env := by rfl)
    (hpl : (backTo pos (starEach es X.env)).any (·.1) = false := by rfl) : PE X (.Call (.Name x p) (e :: es) [] pos) (tCallX sp dvs R t) := by
  intro pins s σ H Q I h
  refine wpAny_Call_Name_kw (ld_glob I hg hm ?_ hdb)
  exact PySem.W.callWith_K (h₀ := X.base) I.ok.mod.kin hk (thn (ha pos pins s σ H _ I h) fun us s1 ⟨vs, H1, I1, r, q⟩ => ⟨I1.kIn, run_fnX F hr hb hd (hx σ) I1 r q⟩) he hpl

/-- the pins told another way, another wish -/
abbrev Cx.kept2 (X : Cx) (pn : List (Addr × Obj)) (xe : Value → Shared → Prop) : Cx := { X with pn := pn, xe := xe }
theorem Cx.Ok.kept2 (ok : X.Ok) (pn : List (Addr × Obj)) (xe : Value → Shared → Prop) : (X.kept2 pn xe).Ok :=
  ⟨ok.mod, ok.kind, ok.glob, ok.blt, ok.above, ok.inj, ok.has, ok.cab, ok.hd, ok.frames, ok.stk, ok.exf, ok.bs, ok.bsz, ok.noex, ok.exfs, ok.funs, ok.frf⟩
theorem Inv.keep2 {pins : List (Addr × Obj)} {σ : St} {H : Hp} {s : Shared} (I : Inv X pins σ H s) (xe : Value → Shared → Prop) : Inv (X.kept2 (X.pn ++ pins) xe) [] σ H s :=
  ⟨I.ok.kept2 _ xe, I.os, I.bare, I.base, I.loc, I.cell, I.free, I.freeC, by rw [List.append_nil]; exact I.pin, I.hok, I.len⟩
theorem Inv.unkeep2 {pins more : List (Addr × Obj)} {xe : Value → Shared → Prop} {σ : St} {H : Hp} {s : Shared} (ok : X.Ok) (I : Inv (X.kept2 (X.pn ++ pins) xe) more σ H s) : Inv X pins σ H s :=
  ⟨ok, I.os, I.bare, I.base, I.loc, I.cell, I.free, I.freeC, fun p hp => I.pin p (List.mem_append_left _ hp), I.hok, I.len⟩
/-- within the suite of a handler: the exception is held -/
abbrev Cx.inHandler (X : Cx) (v : Value) : Cx := { X with A := X.A.mark (some v), calm := false, xe := fun _ _ => False }
theorem Inv.inHandler {pins : List (Addr × Obj)} {σ : St} {H : Hp} {s : Shared} (I : Inv X pins σ H s) (v : Value) : Inv (X.inHandler v) pins σ H s :=
  ⟨⟨I.ok.mod, I.ok.kind, I.ok.glob, I.ok.blt, I.ok.above, I.ok.inj, I.ok.has, I.ok.cab, fun z => Bool.noConfusion z, I.ok.frames, I.ok.stk, I.ok.exf, I.ok.bs, I.ok.bsz, I.ok.noex, I.ok.exfs, I.ok.funs, I.ok.frf⟩,
    I.os, I.bare, I.base, I.loc, I.cell, I.free, I.freeC, I.pin, I.hok, I.len⟩
theorem Inv.outHandler {pins : List (Addr × Obj)} {σ : St} {H : Hp} {s : Shared} {v : Value} (ok : X.Ok) (I : Inv (X.inHandler v) pins σ H s) : Inv X pins σ H s :=
  ⟨ok, I.os, I.bare, I.base, I.loc, I.cell, I.free, I.freeC, I.pin, I.hok, I.len⟩
theorem SP.imp {Y : Cx} {pins pins' : List (Addr × Obj)} {D : Ends} {fl : Flow} {s : Shared} (q : SP Y pins' D fl s) (h : ∀ σ H, Inv Y pins' σ H s → Inv X pins σ H s) : SP X pins D fl s := by
  cases fl with
  | next => obtain ⟨σ', H', I, q⟩ := q; exact ⟨σ', H', h _ _ I, q⟩
  | brk => obtain ⟨σ', H', I, q⟩ := q; exact ⟨σ', H', h _ _ I, q⟩
  | cont => obtain ⟨σ', H', I, q⟩ := q; exact ⟨σ', H', h _ _ I, q⟩
  | ret u => obtain ⟨v, σ', H', I, r, q⟩ := q; exact ⟨v, σ', H', h _ _ I, r, q⟩

/-- what the try's body wants of an exception: the handler's class has it, the suite does the rest -/
def Cat (K : PySem.W.Frag) (C : Addr) (th : TS) (D : Ends) : St → XK := fun σ cls _ H => PySem.W.exmOne K cls (.ref C) = some true ∧ th D σ H
/-- try: .. except C: .. -/
def tTry (K : PySem.W.Frag) (C : Addr) (tb : (St → XK) → TS) (th : TS) : TS := fun D σ H => tb (Cat K C th D) D σ H
theorem ps_try {body suite : List Stmt} {b₀ : Stmt} {x : Str} {np hpos pos : Pos} {C : Addr} {tb : (St → XK) → TS} {th : TS} (hs : X.stack = X.env :: X.outer) (hf : X.env.frame = some X.env.locals) (hg : Gl X x) (hm : X.mg x = some (.ref C))
    (hb : ∀ (pn : List (Addr × Obj)) (xe : Value → Shared → Prop) (R : St → XK), (∀ σ, PassAt (CX1 X.prog X.w) (X.kept2 pn xe) σ (R σ)) → PSs (X.kept2 pn xe) body (tb R))
    (hh : ∀ v : Value, PSs (X.inHandler v) (b₀ :: suite) th) (hdb : (x == ("__debug__" : Str)) = false := by decide) :
    PS X (.Try body [.ExceptHandler (some (.Name x np)) none (b₀ :: suite) hpos] [] [] pos) (tTry X.K C tb th) := by
  intro pins s σ H D I h
  refine wpAny_Try_except ?_
  have land : ∀ σ', PassAt (CX1 X.prog X.w) (X.kept2 (X.pn ++ pins) fun e s₁ => wpAny (model X.prog X.w) X.A (noteFrame e X.env) (fun _ s₂ => wpAny (model X.prog X.w) X.A (setFlight e none)
      (fun _ s₃ => wpAny (model X.prog X.w) X.A (handleBy e X.env [.ExceptHandler (some (.Name x np)) none (b₀ :: suite) hpos]) (SP X pins D) X.xe s₃) X.xe s₂) X.xe s₁) σ' (Cat X.K C th D σ') := by
    intro σ' pins' H1 s1 e s2 I1 hc
    obtain ⟨y, cls, H2, rfl, os, bare, un, hok, fly, hcat, hth⟩ := hc
    have J1 : Inv X pins σ' H1 s1 := Inv.unkeep2 I.ok I1
    have J2 : Inv X pins σ' H2 s2 := J1.call' (ch := []) os un hok bare (fun b z => absurd z (by simp))
    obtain ⟨T, a0, hT0, hT, htr⟩ := fly.traced
    have hin : ∀ env ∈ X.env :: X.outer, ∀ a, env.frame = some a → a ∈ y :: T :: frs X.stack := fun env he a hf => .tail _ (.tail _ (by rw [hs]; exact mem_frs env he a hf))
    have fl0 : Heap.FlyingW (PySem.W.hideAll s2.heap (y :: T :: frs X.stack)) (X.env :: X.outer) y cls a0 s2.heap :=
      ⟨fun b o q => PySem.W.of_hideAll _ q, PySem.W.hideAll_none _ (.head _), PySem.W.funFrames_hide (hs ▸ J2.stack) hin, htr _ (.tail _ (.head _))⟩
    have after : ∀ h2 : Heap, (PySem.W.hideAll s2.heap (y :: T :: frs X.stack)).StaysIn h2 → s2.heap.UpToSlots h2 → Inv X pins σ' H2 { s2 with heap := h2 } := fun h2 k sm => by
      obtain ⟨u, ok, _⟩ := fly_on (fs := frs X.stack) (fr := frs X.stack) (bad := [y, T]) un hok (fun b hb => by
        rcases List.mem_cons.mp hb with z | hb
        · exact .inl (by rw [z]; exact .head _)
        · rcases List.mem_cons.mp hb with z | hb
          · exact .inl (by rw [z]; exact .tail _ (.head _))
          · exact .inr hb) (fun b hb => by
        rcases List.mem_cons.mp hb with z | hb
        · rw [z]; exact ⟨fly.1, fly.2.1⟩
        · have z : b = T := by simpa using hb
          rw [z]; exact ⟨hT0, hT⟩) (fun b hb => ⟨.inl hb, (J2.frm b hb).2⟩) (fun _ hb => hb) k sm
      exact J1.call' (s' := { s2 with heap := h2 }) (ch := []) os u ok bare (fun b z => absurd z (by simp))
    refine wpAny_looks_onW (by rw [I.ok.frames, hs]) hf fl0 fun h4 held4 sm4 => ?_
    refine wpAny_landsW held4 fun h5 fl5 sm5 => ?_
    have J5 := after h5 fl5.1 (sm4.trans sm5)
    refine wpAny_handleBy_cons (codeAny_handlers_test ?_) (by intro q; cases q)
    have M5 := J5.inHandler (.ref y)
    refine ld_glob (X := X.inHandler (.ref y)) M5 hg hm ?_ hdb
    obtain ⟨ob, hob, hoc⟩ := fl5.there
    subst hoc
    refine (PySem.W.exm_one (M := model X.prog X.w) J5.kIn ((PySem.W.Looks.ld hob).andThen .now) hcat).here ?_
    refine codeAny_handlers_suite (lands_againW fl5 fun h6 fl6 sm6 => ?_)
    have J6 := (after h6 fl6.1 ((sm4.trans sm5).trans sm6)).inHandler (.ref y)
    exact wpAny_mono (hh (.ref y) pins _ σ' H2 D J6 hth) (fun fl s7 q => q.imp fun σ H J => Inv.outHandler I.ok J) fun _ _ z => z.elim
  refine wpAny_mono (hb _ _ _ land [] s σ H D (I.keep2 _) h) (fun fl s1 q => ?_) fun _ _ z => z
  have q' : SP X pins D fl s1 := q.imp fun σ H J => Inv.unkeep2 I.ok J
  cases fl with
  | next => exact wpAny_execs_nil q'
  | brk => exact q'
  | cont => exact q'
  | ret u => exact q'
theorem a_try {K : PySem.W.Frag} {C : Addr} {tb : (St → XK) → TS} {th : TS} {D : Ends} {σ : St} {H : Hp} (h : tb (Cat K C th D) D σ H) : tTry K C tb th D σ H := h
theorem a_callX {R : St → XK} {σ : St} {H : Hp} {Q : VK} (h : t σ H fun vs H1 => sp (vs ++ []) H1 Q (R σ)) : tCallX sp [] R t σ H Q := h
theorem a_cat {K : PySem.W.Frag} {C : Addr} {th : TS} {D : Ends} {σ : St} {cls : Value} {o : Option Addr} {H : Hp} (h : PySem.W.exmOne K cls (.ref C) = some true) (q : th D σ H) : Cat K C th D σ cls o H := ⟨h, q⟩
theorem a_raise {C : Addr} {E : XK} {te : TE} {D : Ends} {σ : St} {H : Hp} (h : te σ H fun _ H' => E (.ref C) none H') : tRaise C E te D σ H := h
end
end L2

namespace L2
open PySem PySem.Spec PyProof.Rows PySem.W Builtin Builtin.ObjectAttr Builtin.Getset_descriptor
/-! ### an exception that was caught: isinstance -/
/-- what the part tells of a class of one's own below BaseException -/
structure ExcK (K : Frag) (C : Addr) : Prop where
  fg : findIn K (.ref C) "__getattribute__" = some (some (.builtin "BaseException.__getattribute__"))
  fn : findIn K (.ref C) "__getattr__" = some none
  fc : findIn K (.ref C) "__class__" = some (some (.builtin "object.__class__"))
  mo : mroIn K C (.type "object") = some true
  sb : subIn K (.ref C) (.type "BaseException") = some true
/-- an exception of the class at C -/
def ExAt (x C : Addr) (h : Heap) : Prop := ∃ o, h.get? x = some o ∧ o.cls = .ref C
theorem ExAt.ty {M : Model} {x C : Addr} {h : Heap} (p : ExAt x C h) : Looks M h (typeOf (.ref x)) (.ref C) := by
  obtain ⟨o, h1, h2⟩ := p
  rw [← h2]
  exact (Looks.ld h1).andThen .now
section
variable {prog : Program} {w : World} {A : Around} {E : Value → Shared → Prop} {K : Frag} {h : Heap} {g : Array GenState} {d : Drawn} {t : Nat} {os : OsState} {x C : Addr}
theorem exc_check {M : Model} {nameV : Value} {Q : Unit → Shared → Prop} (Z : ExcK K C) (X : K.In h) (I : ExAt x C h) (hq : Q () ⟨h, g, d, t, os⟩) :
    wpAny M A (checkBuiltinCall "BaseException.__getattribute__" ⟨[.ref x, nameV], []⟩) Q E ⟨h, g, d, t, os⟩ := by
  have hk : builtinKind "BaseException.__getattribute__" = some .slot := by decide +kernel
  have hsp : splitId "BaseException.__getattribute__" = some ("BaseException", "__getattribute__") := by decide +kernel
  have ha := F.args_bexc_ga (.ref x) nameV
  have L0 := I.ty (M := M)
  have L1 := looks_subIn (M := M) X Z.sb
  simp only [checkBuiltinCall, hk, hsp]
  refine wpAny_bind ?_
  unfold isInstance
  refine wpAny_bind (L0.at (L1.at ?_))
  repeat (any_goals (first | assumption | wp_step))
theorem exc_get {tp : Value} {R : Result → Shared → Prop} (Z : ExcK K C) (X : K.In h) (I : ExAt x C h) (hq : R (.ok (.ret (.ref C))) ⟨h, g, d, t, os⟩) :
    codeAny (model prog w) A (.call (.builtin "getset_descriptor.__get__") ⟨[.builtin "object.__class__", .ref x, tp], []⟩) R ⟨h, g, d, t, os⟩ := by
  have hT5 : (⟨h, g, d, t, os⟩ : Shared).TypeIs (.builtin "object.__class__") "getset_descriptor" := F.typeOf_object_class
  have L0 := I.ty (M := model prog w)
  have L1 := looks_mroIn (M := model prog w) X Z.mo
  refine codeAny_call_builtin (KF.slot_gs).plain (KF.entry_gs) ((KF.slot_gs).check _ _ _ _ _ _ _ _ (KF.type_class) ((KF.args_gs) _ _ _) ?_)
  (unfold Builtin.«getset_descriptor.__get__» descrGet; rw [dga_obj]; refine wpAny_bind (wpAny_pure ?_); unfold descrGetter descrCheckInstance descrNameAndClass isInstance; simp only [KF.owner_class])
  repeat (any_goals (first | assumption | with_reducible refine Looks.at L0 ?_ | with_reducible refine Looks.at L1 ?_ | wp_step))
  (refine ⟨Code.quiet_builtin _ (by decide +kernel), codeAny_builtin KF.entry_class ?_⟩; unfold Builtin.«object.__class__» shownTypeOf)
  repeat (any_goals (first | assumption | with_reducible refine Looks.at L0 ?_ | wp_step))
theorem exc_entry {tk : Tok} {Q : Fin → Shared → Prop} (Z : ExcK K C) (X : K.In h) (I : ExAt x C h) (hq : Q (.done (.ret (.ref C))) ⟨h, g, d, t, os⟩) :
    wpAny (model prog w) A (Builtin.«object.__getattribute__» ⟨[.ref x, .str "__class__" tk], []⟩) Q E ⟨h, g, d, t, os⟩ := by
  have hT5 : (⟨h, g, d, t, os⟩ : Shared).TypeIs (.builtin "object.__class__") "getset_descriptor" := F.typeOf_object_class
  have f5 := F.typeOf_object_class
  have f6 := F.slot_gs_get.lookup
  have f7 := F.slot_gs_set.lookup
  have L0 := I.ty (M := model prog w)
  have L1 := looks_findIn (M := model prog w) X Z.fc
  repeat (any_goals (first | assumption | with_reducible refine Looks.at L0 ?_ | with_reducible refine Looks.at L1 ?_ | wp_step))
  refine exc_get Z X I ?_
  repeat (any_goals (first | assumption | wp_step))
theorem exc_by {tk : Tok} {Q : Value → Shared → Prop} (Z : ExcK K C) (X : K.In h) (I : ExAt x C h) (hq : Q (.ref C) ⟨h, g, d, t, os⟩) :
    wpAny (model prog w) A (getAttrBy (.ref x) (.str "__class__" tk) false) Q E ⟨h, g, d, t, os⟩ := by
  have f3 := F.excAttr_ValueError.ga.bind (.ref x)
  have L0 := I.ty (M := model prog w)
  have L1 := looks_findIn (M := model prog w) X Z.fg
  have L2 := looks_findIn (M := model prog w) X Z.fn
  have hx2 : (Value.builtin "BaseException.__getattribute__" == Value.builtin "object.__getattribute__") = false := by decide +kernel
  have hx1 : (onTheHeap (Value.ref C) && Value.builtin "BaseException.__getattribute__" == Value.builtin "object.__getattribute__") = false := by rw [hx2]; rfl
  repeat (any_goals (first | assumption | with_reducible refine Looks.at L0 ?_ | with_reducible refine Looks.at L1 ?_ | with_reducible refine Looks.at L2 ?_ | wp_step))
  refine codeAny_call_builtin F.excAttr_ValueError.ga.plain F.entry_bexc_ga (exc_check Z X I (exc_entry Z X I ?_))
  repeat (any_goals (first | assumption | wp_step))
theorem exc_class {Q : Option Value → Shared → Prop} (Z : ExcK K C) (X : K.In h) (I : ExAt x C h) (hq : Q (some (.ref C)) ⟨h, g, d, t + 1, os⟩) : wpAny (model prog w) A (getAttr? (.ref x) "__class__") Q E ⟨h, g, d, t, os⟩ := by
  unfold getAttr? getAttrBy?
  repeat (any_goals (first | assumption | with_reducible apply exc_by Z X I | wp_step))
theorem kitx_exc (Z : ExcK K C) : KitX K (.ref x) (.ref C) (ExAt x C) where
  ty := fun _ _ _ I => I.ty
  it := fun _ _ X _ => by
    have e := Z.fn
    unfold findIn at e
    dsimp only at e
    split at e
    · rename_i ho
      intro A' Q' E' s' k q
      unfold isType loadHead
      exact wpAny_bind (wpAny_loadPart (k _ _ (X _ _ ho)) (wpAny_pure q))
    · cases e
  ne := fun h tp dd its n sl X htp => by
    have e := Z.fn
    unfold findIn at e
    dsimp only at e
    split at e
    · rename_i ho
      refine Bool.eq_false_iff.mpr fun q => ?_
      have e : C = tp := Value.ref.inj (beq_iff_eq.mp q)
      subst e
      have z := (X _ _ ho).symm.trans htp
      cases z
    · cases e
  ca := fun {_ _ _ _ _ s} X I k => by
    obtain ⟨hh, gg, dd, tt, oo⟩ := s
    exact exc_class Z X I k
end
/-- a caught exception, tracked -/
def exO (x C : Addr) : HO := .ext (ExAt x C)
theorem exO_ok {P : Program} {w : World} {H : Hp} {h : Heap} {x C : Addr} (p : ExAt x C h) : ObjOk P w H h x (exO x C) := by
  refine ⟨p, ?_, fun h1 h2 q k => ?_⟩
  · obtain ⟨o, e, _⟩ := p
    exact ⟨o, e⟩
  · obtain ⟨o, e, c⟩ := q
    exact ⟨o, k o e, c⟩
section
variable {X : Cx}
/-- isinstance(e, C) of a caught exception -/
theorem call_ise : CallR X (.builtin "isinstance") (fun xs H Q => ∃ x D c b u, xs = [.ref x, c] ∧ Rd H x (exO x D) ∧ ExcK X.K D ∧ clsV c = some u ∧ kitOne X.K (.ref D) u = some b ∧ Q (.bl b) H) := by
  intro pins s σ H xs us Q I r h
  obtain ⟨x, D, c, b, u, rfl, hx, Z, rc, e, q⟩ := h
  obtain ⟨v, w', rfl, rx, rw'⟩ := vals2 r
  have ew : w' = u := by
    cases c with
    | ref a => cases rc; exact rw'
    | ty n => cases rc; exact rw'
    | non => cases rc
    | bl n => cases rc
    | int i => cases rc
    | str i => cases rc
    | byt i => cases rc
    | flt i => cases rc
  subst ew
  cases (show v = Value.ref x from rx)
  have hx : ExAt x D s.heap := by
    rcases hx with hx | ⟨o, hx⟩
    · exact (I.hok x _ hx).1
    · exact (I.hok x _ hx).2.1
  exact kia_one (kitx_exc Z) I.kIn hx e (fun z => nomatch z) fun tk => ⟨.bl b, H, I.tok tk, rfl, q⟩
end
end L2

namespace L2
open PySem PySem.Spec PyProof.Rows
/-! ### where no exception is wanted of a def that may raise; defs that run while an exception is held; except C as n -/
theorem pass0x {P : Program} {w : World} {X : Cx} : Passes (CX1 P w) X E0 := fun _ _ _ _ _ _ _ ⟨_, _, _, _, _, _, _, _, _, h⟩ => h.elim
/-- room, whatever exception is held -/
structure RoomH (k : Nat) (A : Around) : Prop where
  dp : A.depth + 3 * k + 5 < recursionLimit
  un : A.units + 16 * k + 200 < cLine
theorem Room.toH {j k : Nat} {A : Around} (r : Room k A) (h : j ≤ k) (v : Option Value) : RoomH j (A.mark v) := ⟨by have := r.dp; show A.depth + 3 * j + 5 < _; omega, by have := r.un; show A.units + 16 * j + 200 < _; omega⟩
theorem RoomH.deeper {k : Nat} {A : Around} (r : RoomH (k + 1) A) (env : Env) : RoomH k (A.deeper env) :=
  ⟨by have := r.dp; show A.depth + 1 + 3 * k + 5 < _; omega, by have := r.un; show A.units + 3 + 16 * k + 200 < _; omega⟩
theorem RoomH.units {k : Nat} {A : Around} (r : RoomH k A) : A.units + 64 < cLine := by have := r.un; omega
theorem hu_ofH {A : Around} {k : Nat} (hr : RoomH k A) : A.units + 1 < cLine := by have := hr.un; omega
/-- what a def promises, whatever exception is held; none leaves it -/
structure FnOkH (P : Program) (w : World) (K : PySem.W.Frag) (mg : Str → Option Value) (base : Heap) (k : Nat) (f : Addr) (fd : FuncData) (ps : List Str) (sp : Sp) : Prop where
  len : ∀ vs H Q E, sp vs H Q E → vs.length = ps.length
  run : ∀ (A : Around) (outer : List Env) (s : Shared) (H : Hp) (args : Args) (us : List Value) (vs : List V) (Q : VK) (E : XK), RoomH k A → Env0 P w K mg base A outer s H → BindsTo s fd args (ps.zip us) → Vals vs us → sp vs H Q E →
    codeAny (model P w) A (.call (.ref f) args) (CR CX0 outer P w H s Q E) s
/-- no word of what is held, no exception -/
abbrev Cx.loose (X : Cx) : Cx := { X with calm := false, xe := fun _ _ => False }
section
variable {P : Program} {w : World} {K : PySem.W.Frag} {mg : Str → Option Value} {base : Heap}
theorem Fun.okH {x qual : Str} {st : Stmt} {f : Addr} {fd : FuncData} {N ps : List Str} {k : Nat} {sp : Sp} (F : Fun K x qual st f fd) (S : FnScope N ps (defScope st)) (len : ∀ vs H Q E, sp vs H Q E → vs.length = ps.length)
    (hbody : ∀ (cdv : Value) (A : Around) (outer : List Env) (s : Shared) (H : Hp) (vs : List V) (Q : VK) (E : XK), RoomH k (A.deeper (envOfC qual (defScope st) s.heap.objs.size f cdv)) → sp vs H Q E →
      ∃ t, PSs (cxOf CX0 P w K mg base N qual (defScope st) f cdv A outer s H E).loose (defBody st) t ∧ t { nx := fun _ H' => Q .non H', rt := Q } (start N vs) H) : FnOkH P w K mg base (k + 1) f fd ps sp := by
  obtain ⟨oc, od, kV, doc, pm, an, cdv, ct, osl, rfl, lk, hcd⟩ := F.ex
  refine ⟨len, fun A outer s H args us vs Q E hr e0 hb r hsp => ?_⟩
  have KX : K.In s.heap := e0.mod.kin.keeps fun b o e => (e0.bs b o e).1
  have par : ∀ y ∈ ps.zip us, (defScope st).names.lookup y.1 = some .local ∨ ((defScope st).names.lookup y.1 = some .cell ∧ ((cellsFrom (s.heap.objs.size + 1) (defScope st).names []).lookup y.1).isSome = true) := fun y hy =>
    (S.par y.1 (List.of_mem_zip (show (y.1, y.2) ∈ ps.zip us from hy)).1).imp_right fun q => ⟨q, PySem.W.cellsFrom_some _ _ _ (.inl q)⟩
  refine codeAny_call_function (by have := hr.dp; omega) (KX _ _ lk) rfl S.co S.gen rfl (PySem.W.codeRec_of KX hcd) (hb _ _ _ _ (wpAny_newFunctionEnv_cells S.kind par fun env he s1 x => ?_))
  subst he
  refine ⟨(e0.mod.nolimit.keeps fun b o e => (e0.bs b o e).1).keeps x.toInCall.keep, codeAny_func ?_⟩
  obtain ⟨t, ht, hq⟩ := hbody cdv A outer s H vs Q E (hr.deeper _) hsp
  have I0 : Inv (cxOf CX0 P w K mg base N qual (defScope st) f cdv { A with handled := none } outer s H E) [] (start N vs) H s1 :=
    inv_start S rfl ⟨e0.frames, e0.mod, e0.bs, e0.bsz, e0.funs, e0.frf, e0.hok, e0.bare⟩ (len _ _ _ _ hsp) r x
  have o := I0.ok
  have I : Inv (cxOf CX0 P w K mg base N qual (defScope st) f cdv A outer s H E).loose [] (start N vs) H s1 :=
    ⟨⟨o.mod, o.kind, o.glob, o.blt, o.above, o.inj, o.has, o.cab, fun z => Bool.noConfusion z, Around.frames_deeper e0.frames, o.stk, o.exf, o.bs, o.bsz, o.noex, o.exfs, o.funs, o.frf⟩,
      I0.os, I0.bare, I0.base, I0.loc, I0.cell, I0.free, I0.freeC, I0.pin, I0.hok, I0.len⟩
  refine wpAny_mono (ht [] s1 (start N vs) H _ I hq) (fun fl s' hs => ?_) fun e s' hs => hs.elim
  match fl, hs with
  | .ret u, ⟨v, σ', H', J, rv, q⟩ => exact ⟨v, H', J.os, J.bare, J.base, J.hok, rv, q⟩
  | .next, ⟨σ', H', J, q⟩ => exact ⟨V.non, H', J.os, J.bare, J.base, J.hok, rfl, q⟩
  | .brk, ⟨_, _, _, q⟩ => exact q.elim
  | .cont, ⟨_, _, _, q⟩ => exact q.elim
end
section
variable {X : Cx} {k : Nat} {f : Addr} {fd : FuncData} {ps : List Str} {sp : Sp} {x : Str} {p pos : Pos} {e : Expr} {es : List Expr} {t : TA}
/-- f(..) while an exception is held -/
theorem pe_callH (F : FnOkH X.prog X.w X.K X.mg X.base k f fd ps sp) (hr : RoomH k X.A) (hg : Gl X x) (hm : X.mg x = some (.ref f)) (hk : PySem.W.keepIn X.K (.ref f) = true) (hb : Binds X.K fd ps []) (ha : PA X (e :: es) t)
    (hdb : (x == ("__debug__" : Str)) = false := by decide) (he : starEach (e :: es) X.env = (false, eval e X.env) :: starEach es X.env := by rfl) (hpl : (backTo pos (starEach es X.env)).any (·.1) = false := by rfl) :
    PE X (.Call (.Name x p) (e :: es) [] pos) (tCall sp [] E0 t) := by
  intro pins s σ H Q I h
  refine wpAny_Call_Name_kw (ld_glob I hg hm ?_ hdb)
  refine PySem.W.callWith_K (h₀ := X.base) I.ok.mod.kin hk (thn (ha pos pins s σ H _ I h) fun us s1 ⟨vs, H1, I1, r, q⟩ => ⟨I1.kIn, ?_⟩) he hpl
  have q : sp vs H1 Q E0 := by have z : sp (vs ++ []) H1 Q E0 := q; rw [List.append_nil] at z; exact z
  have hl : us.length = ps.length := r.length ▸ F.len _ _ _ _ q
  have hb' := hb s1 us I1.kIn (by rw [List.append_nil]; exact hl)
  rw [List.append_nil] at hb'
  refine wpAny_call (codeAny_mono (F.run X.A X.stack s1 H1 ⟨us, []⟩ us vs Q E0 hr I1.env0 hb' r q) fun r s' hq => ?_)
  match r, hq with
  | .error e, hq => exact hq.elim
  | .ok (.ret u), hq => exact I1.after hq
  | .ok .next, hq => exact hq.elim
  | .ok .brk, hq => exact hq.elim
  | .ok .cont, hq => exact hq.elim
end
section
variable {X : Cx}
/-- a local name has gone -/
theorem Inv.gone {pins : List (Addr × Obj)} {σ : St} {H : Hp} {s : Shared} {i : Nat} {n : Str} {m : Str → Option Value} {v : Option Value} {h' : Heap} {tk : Nat} (I : Inv X pins σ H s) (hN : X.N.Nodup) (hi : X.N[i]? = some n)
    (hm : s.heap.Ns X.env.locals m) (hl : ∀ (j : Nat) (x : Str) (v : V), X.N[j]? = some x → σ[j]? = some (some v) → Vis X.env.scope x → ∃ u, RelV v u ∧ Look X.env s.heap m x u)
    (hn : h'.Ns X.env.locals (fun x => if x = n then v else m x)) (hs : Heap.SameBut X.env.locals s.heap h') : Inv X pins (σ.set i none) H { s with heap := h', toks := tk } := by
  have apart : ∀ b o, X.s₀.heap.get? b = some o → b ≠ X.env.locals := fun b o e => Nat.ne_of_lt (Nat.lt_of_lt_of_le (Heap.lt_size e) I.ok.above)
  refine ⟨I.ok, I.os, I.bare, ⟨fun b o e q hb hx => (hs.2 b (apart b o e)).trans (I.base.keep b o e q hb hx), fun b o e q hb hx => ?_, I.base.free, fun b o e hx => ?_, I.base.tups, I.base.frzs, I.base.tbls⟩,
    ⟨_, hn, fun j y w' e1 e2 e3 => ?_⟩, fun y c e => ?_, I.free, I.freeC, fun p hp => ?_, fun b u e => ?_, by rw [List.length_set]; exact I.len⟩
  · obtain ⟨sl, z⟩ := I.base.slot b o e q hb hx
    exact ⟨sl, (hs.2 b (apart b o e)).trans z⟩
  · obtain ⟨o', z⟩ := I.base.there b o e hx
    exact ⟨o', (hs.2 b (apart b o e)).trans z⟩
  · have hj : i ≠ j := fun z => by
      subst z
      rw [List.getElem?_set] at e2
      split at e2
      · split at e2 <;> cases e2
      · rename_i q; exact q rfl
    rw [List.getElem?_set_ne hj] at e2
    obtain ⟨u, r, q⟩ := hl j y w' e1 e2 e3
    refine ⟨u, r, q.imp (fun q => ⟨q.1, ?_⟩) fun ⟨k, c, e, z⟩ => ⟨k, c, e, z.sameBut hs (I.cne y c e)⟩⟩
    have ny : y ≠ n := fun z => hj (nodup_ix hN hi (z ▸ e1))
    show (if y = n then v else m y) = _
    rw [if_neg ny]
    exact q.2
  · obtain ⟨u, z⟩ := I.cell y c e
    exact ⟨u, z.sameBut hs (I.cne y c e)⟩
  · obtain ⟨e, q, ne, r⟩ := I.pin p hp
    exact ⟨(hs.2 p.1 ne).trans e, q, ne, r⟩
  · refine (I.hok b u e).stay (fun c o hc q => (hs.2 c ?_).trans q) (fun _ q => q) fun _ _ q => q
    rintro rfl
    rcases hc with z | z
    · rw [← z, I.free] at e; cases e
    · rw [I.free] at z; cases z
/-- behind the suite the name goes -/
def Ends.less (D : Ends) (i : Nat) : Ends := { nx := fun σ H => D.nx (σ.set i none) H, rt := D.rt, bk := fun σ H => D.bk (σ.set i none) H, ct := fun σ H => D.ct (σ.set i none) H }
/-- except C as n: the exception lies at n, tracked -/
def CatAs (K : PySem.W.Frag) (C : Addr) (i : Nat) (th : TS) (D : Ends) : St → XK := fun σ cls _ H => PySem.W.exmOne K cls (.ref C) = some true ∧ ∃ B, cls = .ref B ∧ ∀ y, H y = none → th (D.less i) (σ.set i (some (.ref y))) (upd H y (exO y B))
def tTryAs (K : PySem.W.Frag) (C : Addr) (i : Nat) (tb : (St → XK) → TS) (th : TS) : TS := fun D σ H => tb (CatAs K C i th D) D σ H
theorem ps_tryAs {body suite : List Stmt} {b₀ : Stmt} {x n : Str} {np hpos pos : Pos} {C : Addr} {i : Nat} {tb : (St → XK) → TS} {th : TS} (hs : X.stack = X.env :: X.outer) (hf : X.env.frame = some X.env.locals) (hg : Gl X x) (hm : X.mg x = some (.ref C))
    (hN : X.N.Nodup) (hi : X.N[i]? = some n) (hn : X.env.scope.names.lookup n = some .local)
    (hb : ∀ (pn : List (Addr × Obj)) (xe : Value → Shared → Prop) (R : St → XK), (∀ σ, PassAt (CX1 X.prog X.w) (X.kept2 pn xe) σ (R σ)) → PSs (X.kept2 pn xe) body (tb R))
    (hh : ∀ v : Value, PSs (X.inHandler v) (b₀ :: suite) th) (hdb : (x == ("__debug__" : Str)) = false := by decide) :
    PS X (.Try body [.ExceptHandler (some (.Name x np)) (some n) (b₀ :: suite) hpos] [] [] pos) (tTryAs X.K C i tb th) := by
  intro pins s σ H D I h
  refine wpAny_Try_except ?_
  have land : ∀ σ', PassAt (CX1 X.prog X.w) (X.kept2 (X.pn ++ pins) fun e s₁ => wpAny (model X.prog X.w) X.A (noteFrame e X.env) (fun _ s₂ => wpAny (model X.prog X.w) X.A (setFlight e none)
      (fun _ s₃ => wpAny (model X.prog X.w) X.A (handleBy e X.env [.ExceptHandler (some (.Name x np)) (some n) (b₀ :: suite) hpos]) (SP X pins D) X.xe s₃) X.xe s₂) X.xe s₁) σ' (CatAs X.K C i th D σ') := by
    intro σ' pins' H1 s1 e s2 I1 hc
    obtain ⟨y, cls, H2, rfl, os, bare, un, hok, fly, hcat, B, rfl, hth⟩ := hc
    have J1 : Inv X pins σ' H1 s1 := Inv.unkeep2 I.ok I1
    have J2 : Inv X pins σ' H2 s2 := J1.call' (ch := []) os un hok bare (fun b z => absurd z (by simp))
    obtain ⟨T, a0, hT0, hT, htr⟩ := fly.traced
    have hin : ∀ env ∈ X.env :: X.outer, ∀ a, env.frame = some a → a ∈ y :: T :: frs X.stack := fun env he a hf => .tail _ (.tail _ (by rw [hs]; exact mem_frs env he a hf))
    have fl0 : Heap.FlyingW (PySem.W.hideAll s2.heap (y :: T :: frs X.stack)) (X.env :: X.outer) y (.ref B) a0 s2.heap :=
      ⟨fun b o q => PySem.W.of_hideAll _ q, PySem.W.hideAll_none _ (.head _), PySem.W.funFrames_hide (hs ▸ J2.stack) hin, htr _ (.tail _ (.head _))⟩
    have on : ∀ h2 : Heap, (PySem.W.hideAll s2.heap (y :: T :: frs X.stack)).StaysIn h2 → s2.heap.UpToSlots h2 → Un (frs X.stack) [] H1 H2 s1.heap h2 ∧ HOk X.prog X.w H2 h2 := fun h2 k sm => by
      obtain ⟨u, ok, _⟩ := fly_on (fs := frs X.stack) (fr := frs X.stack) (bad := [y, T]) un hok (fun b hb => by
        rcases List.mem_cons.mp hb with z | hb
        · exact .inl (by rw [z]; exact .head _)
        · rcases List.mem_cons.mp hb with z | hb
          · exact .inl (by rw [z]; exact .tail _ (.head _))
          · exact .inr hb) (fun b hb => by
        rcases List.mem_cons.mp hb with z | hb
        · rw [z]; exact ⟨fly.1, fly.2.1⟩
        · have z : b = T := by simpa using hb
          rw [z]; exact ⟨hT0, hT⟩) (fun b hb => ⟨.inl hb, (J2.frm b hb).2⟩) (fun _ hb => hb) k sm
      exact ⟨u, ok⟩
    refine wpAny_looks_onW (by rw [I.ok.frames, hs]) hf fl0 fun h4 held4 sm4 => ?_
    refine wpAny_landsW held4 fun h5 fl5 sm5 => ?_
    have o5 := on h5 fl5.1 (sm4.trans sm5)
    have J5 : Inv X pins σ' H2 { s2 with heap := h5 } := J1.call' (s' := { s2 with heap := h5 }) (ch := []) os o5.1 o5.2 bare (fun b z => absurd z (by simp))
    refine wpAny_handleBy_cons (codeAny_handlers_test ?_) (by intro q; cases q)
    refine ld_glob (X := X.inHandler (.ref y)) (J5.inHandler (.ref y)) hg hm ?_ hdb
    obtain ⟨ob, hob, hoc⟩ := fl5.there
    refine (PySem.W.exm_one (M := model X.prog X.w) J5.kIn (show PySem.W.Looks _ h5 (typeOf (.ref y)) (.ref B) from ExAt.ty ⟨ob, hob, hoc⟩) hcat).here ?_
    refine codeAny_handlers_suite_as (lands_againW fl5 fun h6 fl6 sm6 => ?_)
    have o6 := on h6 fl6.1 ((sm4.trans sm5).trans sm6)
    obtain ⟨ob6, hob6, hoc6⟩ := fl6.there
    have ne : ∀ b o, H2 b = some o → b ≠ y := fun b o q z => by rw [z, fly.2.1] at q; cases q
    have un6 : Un (frs X.stack) [] H1 (upd H2 y (exO y B)) s1.heap h6 :=
      ⟨o6.1.keep, o6.1.slot, fun b o e q hx => by rw [upd_ne (fun z => by rw [z, fly.1] at e; cases e)]; exact o6.1.free b o e q hx, o6.1.there, fun b xs q => by rw [upd_ne (ne b _ (o6.1.tups b xs q))]; exact o6.1.tups b xs q,
        fun b o u q => by rw [upd_ne (ne b _ (o6.1.frzs b o u q))]; exact o6.1.frzs b o u q, fun b ps q => by
          obtain ⟨more, z⟩ := o6.1.tbls b ps q
          exact ⟨more, by rw [upd_ne (ne b _ z)]; exact z⟩⟩
    have ok6 : HOk X.prog X.w (upd H2 y (exO y B)) h6 := fun b o q => by
      by_cases z : b = y
      · subst z
        rw [upd_same] at q
        cases q
        exact exO_ok ⟨ob6, hob6, hoc6⟩
      · rw [upd_ne z] at q
        exact (o6.2 b o q).stay (fun _ _ _ e => e) (fun c e => by rw [upd_ne (ne c _ e)]; exact e) fun c xs e => by rw [upd_ne (ne c _ e)]; exact e
    have J6 : Inv X pins σ' (upd H2 y (exO y B)) { s2 with heap := h6 } := J1.call' (s' := { s2 with heap := h6 }) (ch := []) os un6 ok6 bare (fun b z => absurd z (by simp))
    refine store_ok (X := X.inHandler (.ref y)) (v := .ref y) (J6.inHandler (.ref y)) hN hi (.inl hn) rfl (fun s7 J7 => ?_) (.inr hn)
    refine wpAny_mono (hh (.ref y) pins s7 _ _ _ J7 (hth y fly.2.1)) (fun fl s8 q => ?_) fun _ _ z => z.elim
    have go : ∀ {σ8 : St} {H8 : Hp} {R : Unit → Shared → Prop}, Inv (X.inHandler (.ref y)) pins σ8 H8 s8 → (∀ s9, Inv X pins (σ8.set i none) H8 s9 → R () s9) → wpAny (model X.prog X.w) X.A (do bindName X.env n .none; unbindBehindTheSuite X.env n hpos) R X.xe s8 := by
      intro σ8 H8 R J8 hR
      have J := Inv.outHandler I.ok J8
      obtain ⟨m, hm8, hl8⟩ := J.loc
      exact wpAny_nameGoes_keeps hn hm8 (by rw [I.ok.kind]; rfl) fun h9 v hn9 hs9 => hR _ (J.gone hN hi hm8 hl8 hn9 hs9)
    match fl, q with
    | .next, ⟨σ8, H8, J8, q⟩ => exact go J8 fun s9 J9 => ⟨_, _, J9, q⟩
    | .brk, ⟨σ8, H8, J8, q⟩ => exact go J8 fun s9 J9 => ⟨_, _, J9, q⟩
    | .cont, ⟨σ8, H8, J8, q⟩ => exact go J8 fun s9 J9 => ⟨_, _, J9, q⟩
    | .ret u, ⟨v, σ8, H8, J8, rv, q⟩ => exact go J8 fun s9 J9 => ⟨v, _, _, J9, rv, q⟩
  refine wpAny_mono (hb _ _ _ land [] s σ H D (I.keep2 _) h) (fun fl s1 q => ?_) fun _ _ z => z
  have q' : SP X pins D fl s1 := q.imp fun σ H J => Inv.unkeep2 I.ok J
  cases fl with
  | next => exact wpAny_execs_nil q'
  | brk => exact q'
  | cont => exact q'
  | ret u => exact q'
theorem a_tryAs {K : PySem.W.Frag} {C : Addr} {i : Nat} {tb : (St → XK) → TS} {th : TS} {D : Ends} {σ : St} {H : Hp} (h : tb (CatAs K C i th D) D σ H) : tTryAs K C i tb th D σ H := h
theorem a_catAs {K : PySem.W.Frag} {C B : Addr} {i : Nat} {th : TS} {D : Ends} {σ : St} {o : Option Addr} {H : Hp} (h : PySem.W.exmOne K (.ref B) (.ref C) = some true) (q : ∀ y, H y = none → th (D.less i) (σ.set i (some (.ref y))) (upd H y (exO y B))) :
    CatAs K C i th D σ (.ref B) o H := ⟨h, B, rfl, q⟩
end
end L2
namespace Vc
open PySem L2 Sf
/-- a caught exception, by its class -/
def rX : Rep Addr := fun F v B => ∃ a, v = .ref a ∧ Rd F a (exO a B)
theorem Le.exc {F F' : Hp} {a B : Addr} (e : Le F F') (h : Rd F a (exO a B)) : Rd F' a (exO a B) := e _ _ (by intro o w z; cases z) h
end Vc

namespace L2
open PySem PySem.Spec PyProof.Rows
/-! ### enumerate(list) -/
/-- (0, x0), (1, x1), ..: each turn a new tuple -/
def Ite (K : PySem.W.Frag) (a : Addr) : It :=
  ⟨fun i H => ∃ xs x, SqL K H a xs ∧ xs[i]? = some x, fun i H y H' => ∃ p x, y = .ref p ∧ H p = none ∧ (∀ xs, SqL K H a xs → xs[i]? = some x) ∧ H' = upd H p (.tup [.int i, x]), fun i H => ∃ xs, SqL K H a xs ∧ xs.length ≤ i⟩
/-- two records of ours have turned -/
theorem Inv.turned2 {X : Cx} {pins : List (Addr × Obj)} {σ : St} {H : Hp} {s : Shared} {h' : Heap} {t' : Nat} {a b : Addr} (I : Inv X pins σ H s) (k : ∀ c o, c ≠ a → c ≠ b → s.heap.get? c = some o → h'.get? c = some o)
    (ha : FpOk X pins H a) (hb : FpOk X pins H b) (ea : ∃ o, h'.get? a = some o) (eb : ∃ o, h'.get? b = some o) : Inv X pins σ H { s with heap := h', toks := t' } := by
  obtain ⟨a0, a1, a2, a3, a4, a5⟩ := ha
  obtain ⟨b0, b1, b2, b3, b4, b5⟩ := hb
  refine I.call' (s' := { s with heap := h', toks := t' }) (ch := [a, b]) rfl ⟨fun c o e _ _ hc => ?_, fun c o e _ _ hc => ⟨o.slots, ?_⟩, fun _ _ _ n _ => n, fun c o e hc => ⟨o, ?_⟩, fun _ _ q => q, fun _ _ _ q => q, fun _ ps q => ⟨#[], by rw [q]; simp⟩⟩ (fun c u e => ?_) I.bare (fun c hc => ?_)
  · exact k c o (fun z => hc (by simp [z])) (fun z => hc (by simp [z])) e
  · exact k c o (fun z => hc (by simp [z])) (fun z => hc (by simp [z])) e
  · exact k c o (fun z => hc (by simp [z])) (fun z => hc (by simp [z])) e
  · refine (I.hok c u e).stay (fun d o hd q => k d o ?_ ?_ q) (fun _ q => q) fun _ _ q => q
    · rintro rfl
      rcases hd with z | z
      · rw [← z, a0] at e; cases e
      · rw [a0] at z; cases z
    · rintro rfl
      rcases hd with z | z
      · rw [← z, b0] at e; cases e
      · rw [b0] at z; cases z
  · rcases List.mem_cons.mp hc with z | hc
    · rw [z]; exact ⟨a3, a1, a4, a5⟩
    · have z : c = b := by simpa using hc
      rw [z]; exact ⟨b3, b1, b4, b5⟩
theorem turn_enum {P : Program} {w : World} {K : PySem.W.Frag} {elts : List Expr} {x1 : Nat} {pos : Pos} (a it en : Addr) (hne : en ≠ it) :
    Turn P w K (.Tuple elts x1 pos) (Ite K a) [en, it] en (fun i h => (∃ old, IsEnum h en it i old) ∧ h.IsListIter it a i) where
  mem := by simp
  obj := fun i h st b hb => by
    obtain ⟨⟨old, e1⟩, o, e2, c, d⟩ := st
    rcases List.mem_cons.mp hb with z | hb
    · rw [z]; exact ⟨_, e1, fun v z => by cases z⟩
    · have z : b = it := by simpa using hb
      rw [z]; exact ⟨o, e2, fun v z => by rw [d] at z; cases z⟩
  keep := fun i h h' st k => by
    obtain ⟨⟨old, e1⟩, e2⟩ := st
    exact ⟨⟨old, k en (by simp) _ e1⟩, e2.at fun o e => k it (by simp) o e⟩
  item := by
    intro X hP hw hK hc i pins s σ H E I hf st hg
    subst hP hw hK
    obtain ⟨⟨old, he⟩, hit⟩ := st
    obtain ⟨xs, x, hq, hx⟩ := hg
    obtain ⟨its, rv, p, hz⟩ := I.list hq
    obtain ⟨u, hu, ru⟩ := rv.get hx
    have fe := hf en (by simp)
    have fi := hf it (by simp)
    refine wpAny_pyNext_enum_item he hit p.isList (x := u) (by simpa using hu) hne fun h' hout hit' hT hsz hk => ?_
    refine ⟨.ref s.heap.objs.size, rfl, wpAny_letOwnedTupleGo_enum hout fun h2 he2 hs => ?_⟩
    have le : en < s.heap.objs.size := Heap.lt_size he
    have li : it < s.heap.objs.size := let ⟨o, e, _⟩ := hit; Heap.lt_size e
    have hfr : H s.heap.objs.size = none := I.hok.fresh (Nat.le_refl _)
    have ne1 : en ≠ s.heap.objs.size := Nat.ne_of_lt le
    have ne2 : it ≠ s.heap.objs.size := Nat.ne_of_lt li
    have I1 := I.laid (a := s.heap.objs.size) (o := .tup [.int i, x]) (h' := s.heap.push { cls := .type "tuple", data := .seq #[.int i s.toks, u] }) (t' := s.toks) (fun b q hq => Heap.get?_push_of_some _ hq) (Nat.le_refl _)
      ⟨by show 2 ≤ sizeLine; decide, [.int i s.toks, u], .cons ⟨_, rfl⟩ (.cons ru .nil), ⟨_, Heap.get?_push_size _ rfl, rfl, _, rfl⟩⟩
    have up : ∀ {b : Addr}, b ≠ s.heap.objs.size → FpOk X pins H b → FpOk X pins (upd H s.heap.objs.size (.tup [.int i, x])) b := fun hb f => ⟨by rw [upd_ne hb]; exact f.1, f.2⟩
    have hk2 : ∀ b q, b ≠ en → b ≠ it → (s.heap.push { cls := .type "tuple", data := .seq #[.int i s.toks, u] }).get? b = some q → h2.get? b = some q := fun b q h1 h3 hq => by
      refine hs.extBut b q h1 ?_
      rcases Heap.get?_push_cases hq with ⟨hbs, eq⟩ | hq
      · subst hbs
        subst eq
        exact hT
      · exact hk b q h1 h3 hq
    obtain ⟨oi, ei, ci, di⟩ := hit'
    have hit2 : h2.IsListIter it a (i + 1) := ⟨oi, hs.extBut it oi (Ne.symm hne) ei, ci, di⟩
    refine ⟨.ref s.heap.objs.size, upd H s.heap.objs.size (.tup [.int i, x]), ?_, rfl, ⟨_, x, rfl, hfr, fun ys hy => by rw [I.list_inj hy hq]; exact hx, rfl⟩, ⟨⟨_, he2⟩, hit2⟩, fun b hb => ?_⟩
    · exact Inv.turned2 (s := { s with heap := s.heap.push { cls := .type "tuple", data := .seq #[.int i s.toks, u] }, toks := s.toks }) (t' := s.toks + 1) I1 hk2 (up ne1 fe) (up ne2 fi) ⟨_, he2⟩ ⟨oi, hs.extBut it oi (Ne.symm hne) ei⟩
    · rcases List.mem_cons.mp hb with z | hb
      · rw [z, upd_ne ne1]; exact fe.1
      · have z : b = it := by simpa using hb
        rw [z, upd_ne ne2]; exact fi.1
  done := by
    intro X hP hw hK hc i pins s σ H E I hf st hg
    subst hP hw hK
    obtain ⟨⟨old, he⟩, hit⟩ := st
    obtain ⟨xs, hq, hx⟩ := hg
    obtain ⟨its, rv, p, hz⟩ := I.list hq
    have hl := rv.length
    obtain ⟨f0, f1, f2, f3, f4, f5⟩ := hf it (by simp)
    exact wpAny_pyNext_enum_end (I.ok.hd hc) he hit p.isList (by simp; omega) fun h' eb => ⟨rfl, I.turned (t' := s.toks) (fun b o hb e => eb b o hb e) f0 f1 f3 f4 f5⟩
  self := fun _ _ _ _ _ st h => let ⟨⟨_, he⟩, _⟩ := st; wpAny_pyIter_enum he h
section
variable {X : Cx}
def iEnum (K : PySem.W.Frag) (ta : TA) : TI := fun σ H R => ta σ H fun vs H1 => ∃ a, vs = [.ref a] ∧ (∃ xs, SqL K H1 a xs) ∧ R (Ite K a) H1
theorem pi_enum {l : Expr} {ta : TA} {elts : List Expr} {x1 : Nat} {tpos p pos : Pos} (hg : Gl X "enumerate") (hm : X.mg "enumerate" = none) (ha : PA X [l] ta) (hs : starEach [l] X.env = [(false, eval l X.env)] := by rfl) :
    PI X (.Tuple elts x1 tpos) (.Call (.Name "enumerate" p) [l] [] pos) (iEnum X.K ta) := by
  intro pins s σ H R I h
  refine Call_ (ld_blt I hg hm (u := .type "enumerate") rfl (PyProof.Rows.callWith_type1 (thn (ha pos pins s σ H _ I h) fun us s1 ⟨vs, H1, I1, r1, a, e, ⟨xs, hq⟩, q⟩ => ?_) hs rfl))
  subst e
  cases r1 with
  | cons r rr =>
    cases rr
    cases r
    obtain ⟨its, rv, p, hz⟩ := I1.list hq
    refine call_enumerate_list p.isList fun h' hE hit hsz hk => wpAny_pyIter_enum hE ?_
    have ne : s1.heap.objs.size + 1 ≠ s1.heap.objs.size := by omega
    refine ⟨s1.heap.objs.size + 1, [s1.heap.objs.size + 1, s1.heap.objs.size], _, _, H1, rfl, I1.kept (t' := s1.toks) hk, turn_enum a _ _ ne, ⟨⟨_, hE⟩, hit⟩, fun b hb => ?_, q⟩
    rcases List.mem_cons.mp hb with z | hb
    · rw [z]; exact I1.fpOk (by omega) (I1.hok.fresh (by omega))
    · have z : b = s1.heap.objs.size := by simpa using hb
      rw [z]; exact I1.fpOk (Nat.le_refl _) (I1.hok.fresh (Nat.le_refl _))
end
theorem a_ienum {K : PySem.W.Frag} {ta : TA} {σ : St} {H : Hp} {R : It → Hp → Prop} (h : ta σ H fun vs H1 => ∃ a, vs = [.ref a] ∧ (∃ xs, SqL K H1 a xs) ∧ R (Ite K a) H1) : iEnum K ta σ H R := h
/-- for i, x in enumerate(l) by what holds ahead of each turn; xs: what the list holds -/
theorem for_enum {K : PySem.W.Frag} {a : Addr} {xs : List V} {g : TG} {tb : TS} {D : Ends} {σ : St} {H : Hp} (Pv : Nat → St → Hp → Prop) (h0 : Pv 0 σ H)
    (hl : ∀ i σ H, i ≤ xs.length → Pv i σ H → SqL K H a xs)
    (hs : ∀ i x σ H p, xs[i]? = some x → Pv i σ H → H p = none → g (.ref p) σ (upd H p (.tup [.int i, x])) fun σ2 H2 => tb { D with nx := Pv (i + 1), ct := Pv (i + 1), bk := D.nx } σ2 H2) (hd : ∀ σ H, Pv xs.length σ H → D.nx σ H) :
    ∃ W : Nat → Nat → St → Hp → Prop, (∃ m, W 0 m σ H) ∧ ∀ i m σ H, W i m σ H →
      ((Ite K a).stop i H ∧ D.nx σ H) ∨ ((Ite K a).go i H ∧ ∃ N : St → Hp → Prop, (∀ σ' H', N σ' H' → ∃ m', m' < m ∧ W (i + 1) m' σ' H') ∧ ∀ x H', (Ite K a).yld i H x H' → g x σ H' fun σ2 H2 => tb { D with nx := N, ct := N, bk := D.nx } σ2 H2) := by
  refine ⟨fun i m σ H => m = xs.length - i ∧ i ≤ xs.length ∧ Pv i σ H, ⟨xs.length, by simp, Nat.zero_le _, h0⟩, ?_⟩
  rintro i m σ H ⟨rfl, hi, p⟩
  have q := hl i σ H hi p
  rcases Nat.lt_or_ge i xs.length with hlt | hge
  · refine .inr ⟨⟨xs, xs[i], q, by simp [hlt]⟩, Pv (i + 1), fun σ' H' p' => ⟨xs.length - (i + 1), by omega, rfl, hlt, p'⟩, fun y H' z => ?_⟩
    obtain ⟨pa, x, rfl, e2, e3, rfl⟩ := z
    exact hs i x σ H pa (e3 xs q) p e2
  · obtain rfl : i = xs.length := by omega
    exact .inl ⟨⟨xs, q, hge⟩, hd σ H p⟩
end L2

namespace L2
open PySem PySem.Spec PyProof.Rows
/-! ### any, all of a list of bools -/
theorem vals_bools : ∀ {bs : List Bool} {us : List Value}, Vals (bs.map V.bl) us → us = bs.map Value.bool
  | [], _, .nil => rfl
  | b :: r, _, .cons h t => by
    have e := vals_bools (bs := r) t
    subst e
    cases h
    rfl
theorem any_range (bs : List Bool) : (List.range bs.length).any (fun i => bs.getD i false) = bs.any id := by
  rw [Bool.eq_iff_iff, List.any_eq_true, List.any_eq_true]
  constructor
  · rintro ⟨i, hi, h⟩
    rw [List.mem_range] at hi
    refine ⟨bs[i], List.getElem_mem hi, ?_⟩
    rw [List.getD_eq_getElem?_getD, List.getElem?_eq_getElem hi] at h
    exact h
  · rintro ⟨b, hb, h⟩
    obtain ⟨i, hi, rfl⟩ := List.getElem_of_mem hb
    refine ⟨i, List.mem_range.mpr hi, ?_⟩
    rw [List.getD_eq_getElem?_getD, List.getElem?_eq_getElem hi]
    exact h
theorem all_range (bs : List Bool) : (List.range bs.length).all (fun i => bs.getD i false) = bs.all id := by
  rw [Bool.eq_iff_iff, List.all_eq_true, List.all_eq_true]
  constructor
  · intro h b hb
    obtain ⟨i, hi, rfl⟩ := List.getElem_of_mem hb
    have z := h i (List.mem_range.mpr hi)
    rw [List.getD_eq_getElem?_getD, List.getElem?_eq_getElem hi] at z
    exact z
  · intro h i hi
    rw [List.mem_range] at hi
    rw [List.getD_eq_getElem?_getD, List.getElem?_eq_getElem hi]
    exact h _ (List.getElem_mem hi)
theorem truth_bools {prog : Program} {w : World} {A : Around} (bs : List Bool) : TruthOf prog w A (fun i v => (bs.map Value.bool).toArray[i]? = some v) (fun i => bs.getD i false) := by
  intro i v s Q E hP hQ
  simp only [List.getElem?_toArray, List.getElem?_map] at hP
  cases q : bs[i]? with
  | none => rw [q] at hP; cases hP
  | some b =>
    rw [q] at hP
    cases hP
    have hQ : Q (bs.getD i false) s := hQ
    rw [List.getD_eq_getElem?_getD, q] at hQ
    exact wpAny_pure hQ
section
variable {X : Cx}
theorem call_anyB (hc : X.calm = true) : CallR X (.builtin "any") (fun xs H Q => ∃ (a : Addr) (bs : List Bool), xs = [.ref a] ∧ SqL X.K H a (bs.map V.bl) ∧ Q (.bl (bs.any id)) H) := by
  intro pins s σ H xs us Q I r h
  obtain ⟨a, bs, rfl, hq, q⟩ := h
  obtain ⟨u, rfl, ru⟩ := vals1 r
  cases ru
  obtain ⟨its, rv, p, hz⟩ := I.list hq
  obtain rfl := vals_bools rv
  have hL := p.isList
  have la : a < s.heap.objs.size := (let ⟨_, e, _⟩ := hL; Heap.lt_size e)
  refine call_any_walk (wpAny_pyIter_list hL ?_)
  refine ⟨s.heap.objs.size, _, _, _, _, _, _, rfl, Walks.list (by exact I.ok.hd hc) _ a (Nat.ne_of_lt la) _, ⟨⟨_, Heap.get?_push_size _ rfl, rfl, rfl⟩, (let ⟨o, e, c⟩ := hL; ⟨o, Heap.get?_push_of_some _ e, c⟩)⟩, truth_bools bs, fun h' tk hk => ?_⟩
  refine ⟨.bl (bs.any id), H, I.kept fun b o e => hk b o (fun z => absurd (Heap.lt_size e) (by rw [show b = s.heap.objs.size from by simpa using z]; exact Nat.lt_irrefl _)) (Heap.get?_push_of_some _ e), ?_, q⟩
  rw [← any_range]
  show _ = _
  simp
theorem call_allB (hc : X.calm = true) : CallR X (.builtin "all") (fun xs H Q => ∃ (a : Addr) (bs : List Bool), xs = [.ref a] ∧ SqL X.K H a (bs.map V.bl) ∧ Q (.bl (bs.all id)) H) := by
  intro pins s σ H xs us Q I r h
  obtain ⟨a, bs, rfl, hq, q⟩ := h
  obtain ⟨u, rfl, ru⟩ := vals1 r
  cases ru
  obtain ⟨its, rv, p, hz⟩ := I.list hq
  obtain rfl := vals_bools rv
  have hL := p.isList
  have la : a < s.heap.objs.size := (let ⟨_, e, _⟩ := hL; Heap.lt_size e)
  refine call_all_walk (wpAny_pyIter_list hL ?_)
  refine ⟨s.heap.objs.size, _, _, _, _, _, _, rfl, Walks.list (by exact I.ok.hd hc) _ a (Nat.ne_of_lt la) _, ⟨⟨_, Heap.get?_push_size _ rfl, rfl, rfl⟩, (let ⟨o, e, c⟩ := hL; ⟨o, Heap.get?_push_of_some _ e, c⟩)⟩, truth_bools bs, fun h' tk hk => ?_⟩
  refine ⟨.bl (bs.all id), H, I.kept fun b o e => hk b o (fun z => absurd (Heap.lt_size e) (by rw [show b = s.heap.objs.size from by simpa using z]; exact Nat.lt_irrefl _)) (Heap.get?_push_of_some _ e), ?_, q⟩
  rw [← all_range]
  show _ = _
  simp
end
end L2
namespace L2
theorem a_yes {σ : St} {H : Hp} {R : Bool → Hp → Prop} (h : R true H) : tYes σ H R := h
theorem sizeLine_big : 1000000 ≤ PySem.sizeLine := by decide
end L2
namespace Vc
open PySem L2 Sf
theorem Al.bools {F : Hp} : ∀ {vs : List V} {bs : List Bool}, Al rB F vs bs → vs = bs.map V.bl
  | [], [], _ => rfl
  | _ :: _, _ :: _, ⟨h1, h2⟩ => by rw [List.map_cons, ← Al.bools h2]; cases h1; rfl
  | [], _ :: _, h => h.elim
  | _ :: _, [], h => h.elim
end Vc

namespace L2
open PySem PySem.Spec PyProof.Rows
/-! ### a dict's keys and values, walked: the dict stands frozen -/
def Itk (sel : Key × V → V) (a : Addr) (ob : Obj) (kvs : List (Key × V)) : It :=
  ⟨fun i H => i < kvs.length ∧ H a = some (.frz ob (.dK kvs)), fun i H x H' => H' = H ∧ ∃ kv, kvs[i]? = some kv ∧ x = sel kv, fun i H => kvs.length ≤ i ∧ H a = some (.frz ob (.dK kvs))⟩
abbrev selK : Key × V → V := fun kv => kV kv.1
abbrev selV : Key × V → V := fun kv => kv.2
/-- a frozen dict, as the library tells it -/
theorem frz_at {X : Cx} {pins : List (Addr × Obj)} {σ : St} {H : Hp} {s : Shared} {a : Addr} {ob : Obj} {kvs : List (Key × V)} {es : Array DictEntry} {ep : Nat} (I : Inv X pins σ H s) (hH : H a = some (.frz ob (.dK kvs))) (hd : ob.data = .dict es ep) :
    ∃ vs, KV kvs vs ∧ s.heap.DictAt (mixKind X.prog X.w) a vs ep ∧ kvs.length = vs.length := by
  obtain ⟨ho, z, y, vs, r, o', es', ep', ho', c1, c2, c3, c4, c5⟩ := (show ObjOk X.prog X.w H s.heap a (.frz ob (.dK kvs)) from I.hok a _ hH)
  have eo : ob = o' := Option.some.inj (ho.symm.trans ho')
  subst eo
  rw [hd] at c2
  cases c2
  exact ⟨vs, r, ⟨ob, es, ho, c1, hd, c3, c4, c5⟩, KV.length r⟩
theorem turn_keys {P : Program} {w : World} {K : PySem.W.Frag} {tg : Expr} (a it : Addr) (ob : Obj) (kvs : List (Key × V)) :
    Turn P w K tg (Itk selK a ob kvs) [it] it (fun i h => ∃ es ep, ob.data = .dict es ep ∧ h.IsKeyIter it a i kvs.length ep) where
  mem := by simp
  obj := fun i h st b hb => by
    obtain ⟨es, ep, hd, o, e, c, d⟩ := st
    rw [show b = it from by simpa using hb]
    exact ⟨o, e, fun v z => by rw [d] at z; cases z⟩
  keep := fun i h h' st k => by
    obtain ⟨es, ep, hd, o, e, c, d⟩ := st
    exact ⟨es, ep, hd, o, k it (by simp) o e, c, d⟩
  item := by
    intro X hP hw hK hc i pins s σ H E I hf st hg
    subst hP hw hK
    obtain ⟨es, ep, hd, hit⟩ := st
    obtain ⟨hi, hH⟩ := hg
    obtain ⟨vs, r, hm, hl⟩ := frz_at I hH hd
    obtain ⟨⟨k, v⟩, hkv⟩ : ∃ q, kvs[i]? = some q := ⟨kvs[i], by simp [hi]⟩
    obtain ⟨u, hu, ru⟩ := r.at hkv
    rw [hl] at hit
    obtain ⟨f0, f1, f2, f3, f4, f5⟩ := hf it (by simp)
    refine wpAny_pyNext_dict_item hit hm hu fun key h' hkey hit' sb => ?_
    have I1 : Inv X pins σ H { s with heap := h' } := I.turned (t' := s.toks) (fun b o hb e => (sb.2 b hb).trans e) f0 f1 f3 f4 f5
    obtain ⟨o, e, c, d⟩ := id hit'
    refine ⟨key, rfl, go_of (s := { s with heap := h' }) e c d (by decide) ⟨kV k, H, I1, kV_of_is hkey, ⟨rfl, _, hkv, rfl⟩, ⟨es, ep, hd, by rw [hl]; exact hit'⟩, fun b hb => (hf b hb).1⟩⟩
  done := by
    intro X hP hw hK hc i pins s σ H E I hf st hg
    subst hP hw hK
    obtain ⟨es, ep, hd, hit⟩ := st
    obtain ⟨hi, hH⟩ := hg
    obtain ⟨vs, r, hm, hl⟩ := frz_at I hH hd
    rw [hl] at hit
    obtain ⟨f0, f1, f2, f3, f4, f5⟩ := hf it (by simp)
    exact wpAny_pyNext_dict_end (I.ok.hd hc) hit hm (by simp; omega) fun h' eb => ⟨rfl, I.turned (t' := s.toks) (fun b o hb e => eb b o hb e) f0 f1 f3 f4 f5⟩
  self := fun _ _ _ _ _ st h => let ⟨_, _, _, hit⟩ := st; wpAny_pyIter_keyiter hit h
theorem turn_vals {P : Program} {w : World} {K : PySem.W.Frag} {tg : Expr} (a it : Addr) (ob : Obj) (kvs : List (Key × V)) :
    Turn P w K tg (Itk selV a ob kvs) [it] it (fun i h => ∃ es ep, ob.data = .dict es ep ∧ h.IsValIter it a i kvs.length ep) where
  mem := by simp
  obj := fun i h st b hb => by
    obtain ⟨es, ep, hd, o, e, c, d⟩ := st
    rw [show b = it from by simpa using hb]
    exact ⟨o, e, fun v z => by rw [d] at z; cases z⟩
  keep := fun i h h' st k => by
    obtain ⟨es, ep, hd, o, e, c, d⟩ := st
    exact ⟨es, ep, hd, o, k it (by simp) o e, c, d⟩
  item := by
    intro X hP hw hK hc i pins s σ H E I hf st hg
    subst hP hw hK
    obtain ⟨es, ep, hd, hit⟩ := st
    obtain ⟨hi, hH⟩ := hg
    obtain ⟨vs, r, hm, hl⟩ := frz_at I hH hd
    obtain ⟨⟨k, v⟩, hkv⟩ : ∃ q, kvs[i]? = some q := ⟨kvs[i], by simp [hi]⟩
    obtain ⟨u, hu, ru⟩ := r.at hkv
    rw [hl] at hit
    obtain ⟨f0, f1, f2, f3, f4, f5⟩ := hf it (by simp)
    refine wpAny_pyNext_values_item hit hm hu fun h' hit' sb => ?_
    have I1 : Inv X pins σ H { s with heap := h' } := I.turned (t' := s.toks) (fun b o hb e => (sb.2 b hb).trans e) f0 f1 f3 f4 f5
    obtain ⟨o, e, c, d⟩ := id hit'
    refine ⟨u, rfl, go_of (s := { s with heap := h' }) e c d (by decide) ⟨v, H, I1, ru, ⟨rfl, _, hkv, rfl⟩, ⟨es, ep, hd, by rw [hl]; exact hit'⟩, fun b hb => (hf b hb).1⟩⟩
  done := by
    intro X hP hw hK hc i pins s σ H E I hf st hg
    subst hP hw hK
    obtain ⟨es, ep, hd, hit⟩ := st
    obtain ⟨hi, hH⟩ := hg
    obtain ⟨vs, r, hm, hl⟩ := frz_at I hH hd
    rw [hl] at hit
    obtain ⟨f0, f1, f2, f3, f4, f5⟩ := hf it (by simp)
    exact wpAny_pyNext_values_end (I.ok.hd hc) hit hm (by simp; omega) fun h' eb => ⟨rfl, I.turned (t' := s.toks) (fun b o hb e => eb b o hb e) f0 f1 f3 f4 f5⟩
  self := fun _ _ _ _ _ st h => let ⟨_, _, _, hit⟩ := st; wpAny_pyIter_valiter hit h
section
variable {X : Cx}
/-- the keys (or the values) of the dict that td reads -/
def iDk (sel : Key × V → V) (X : Cx) (td : TE) : TI := fun σ H R => td σ H fun x H1 => ∃ a kvs, x = .ref a ∧ H1 a = some (.dK kvs) ∧ ∀ ob, (∀ o u, X.H₀ a ≠ some (.frz o u)) → R (Itk sel a ob kvs) (upd H1 a (.frz ob (.dK kvs)))
theorem pi_keys {o tg : Expr} {td : TE} (ho : PE X o td) : PI X tg o (iDk selK X td) := by
  intro pins s σ H R I h
  refine thn (ho pins s σ H _ I h) fun v s1 ⟨x, H1, I1, r1, a, kvs, ex, hH, q⟩ => ?_
  subst ex
  obtain rfl : v = Value.ref a := r1
  obtain ⟨t1, t2, hd⟩ := isD_at I1 (.inl ⟨kvs, .inl hH⟩)
  obtain ⟨z, y, vs, r, dd⟩ := dk_of I1.hok hH
  have hna : ∀ o u, X.H₀ a ≠ some (.frz o u) := fun o u z => by
    have := I1.base.frzs a o u z
    rw [hH] at this; cases this
  obtain ⟨ep, hat⟩ := dd.dictAt
  refine wpAny_pyIter_dict hd hat ?_
  obtain ⟨ob, hob, I3⟩ := (I1.kept (t' := s1.toks) (h' := s1.heap.push { cls := .type "dict_keyiterator", data := .fields #[.ref a, .int 0 0, .int vs.length 0, .int ep 0] }) fun b o e => Heap.get?_push_of_some _ e).freeze hH
  have la : a < s1.heap.objs.size := hat.lt_size
  have hl : kvs.length = vs.length := KV.length r
  refine ⟨_, [_], _, _, upd H1 a (.frz ob (.dK kvs)), rfl, I3, turn_keys a s1.heap.objs.size ob kvs, ?_, fun b hb => ?_, q ob hna⟩
  · obtain ⟨o2, es, ho2, c1, c2, _⟩ := hat
    have e3 : ob = o2 := Option.some.inj (hob.symm.trans (Heap.get?_push_of_some _ ho2))
    subst e3
    exact ⟨es, ep, c2, by rw [hl]; exact ⟨_, Heap.get?_push_size _ rfl, rfl, rfl⟩⟩
  · have e : b = s1.heap.objs.size := by simpa using hb
    subst e
    exact I1.fpOk (Nat.le_refl _) (by rw [upd_ne (Nat.ne_of_gt la)]; exact I1.hok.fresh (Nat.le_refl _))
theorem pi_vals {o tg : Expr} {td : TE} {apos cpos : Pos} (ho : PE X o td) (hbase : attributeBase o "values" X.env (eval o X.env) = eval o X.env) (hline : (apos.endLine == cpos.line) = true) :
    PI X tg (.Call (.Attribute o "values" apos) [] [] cpos) (iDk selV X td) := by
  intro pins s σ H R I h
  refine wpAny_Call_method0_late hbase hline (thn (ho pins s σ H _ I h) fun v s1 ⟨x, H1, I1, r1, a, kvs, ex, hH, q⟩ => ?_)
  subst ex
  obtain rfl : v = Value.ref a := r1
  obtain ⟨t1, t2, hd⟩ := isD_at I1 (.inl ⟨kvs, .inl hH⟩)
  refine ⟨"dict", "dict.values", PySem.F.plainAttrs_dict, PySem.F.slot_dict_values, PySem.F.type_dict_values, t1, t2, Calls.callWith_builtin rfl (PySem.evalArgs_none ?_)⟩
  obtain ⟨z, y, vs, r, dd⟩ := dk_of I1.hok hH
  refine call_meetsIn PySem.F.slot_dict_values t1 PySem.F.entry_dict_values (PySem.F.args_dict_values_1 _) (meets_dict_values (mixKind X.prog X.w) a hd) ⟨⟨vs, dd⟩, ?_⟩
  have I2 : Inv X pins σ H1 { s1 with heap := s1.heap.push { cls := .type "dict_values", data := .fields #[.ref a] } } := I1.kept (t' := s1.toks) fun b o e => Heap.get?_push_of_some _ e
  have hna : ∀ o u, X.H₀ a ≠ some (.frz o u) := fun o u z => by
    have := I1.base.frzs a o u z
    rw [hH] at this; cases this
  obtain ⟨ep, hat⟩ := dd.dictAt
  have hat2 := hat.push { cls := .type "dict_values", data := .fields #[.ref a] }
  refine wpAny_pyIter_values (v := s1.heap.objs.size) (d := a) ⟨_, Heap.get?_push_size _ rfl, rfl, rfl⟩ hat2 ?_
  obtain ⟨ob, hob, I3⟩ := (I2.kept (t' := s1.toks) (h' := (s1.heap.push { cls := .type "dict_values", data := .fields #[.ref a] }).push { cls := .type "dict_valueiterator", data := .fields #[.ref a, .int 0 0, .int vs.length 0, .int ep 0] }) fun b o e => Heap.get?_push_of_some _ e).freeze hH
  have la : a < (s1.heap.push { cls := .type "dict_values", data := .fields #[.ref a] }).objs.size := hat2.lt_size
  have hl : kvs.length = vs.length := KV.length r
  refine ⟨_, [_], _, _, upd H1 a (.frz ob (.dK kvs)), rfl, I3, turn_vals a (s1.heap.push { cls := .type "dict_values", data := .fields #[.ref a] }).objs.size ob kvs, ?_, fun b hb => ?_, q ob hna⟩
  · obtain ⟨o2, es, ho2, c1, c2, _⟩ := hat2
    have e3 : ob = o2 := Option.some.inj (hob.symm.trans (Heap.get?_push_of_some _ ho2))
    subst e3
    exact ⟨es, ep, c2, by rw [hl]; exact ⟨_, Heap.get?_push_size _ rfl, rfl, rfl⟩⟩
  · have e : b = (s1.heap.push { cls := .type "dict_values", data := .fields #[.ref a] }).objs.size := by simpa using hb
    subst e
    exact I2.fpOk (Nat.le_refl _) (by rw [upd_ne (Nat.ne_of_gt la)]; exact I2.hok.fresh (Nat.le_refl _))
/-- a statement (an expression) behind which what was walked is thawed -/
def tThaw (X : Cx) (t : TS) : TS := fun D σ H => t (ThawD X D) σ H
theorem ps_thaw {st : Stmt} {t : TS} (h : PS X st t) : PS X st (tThaw X t) := by
  intro pins s σ H D I q
  refine thn (h pins s σ H (ThawD X D) I q) fun f s' q => ?_
  cases f with
  | next => obtain ⟨σ', H', I', a, ob, kvs, e, hn, r⟩ := q; exact ⟨σ', _, I'.thaw e hn, r⟩
  | brk => obtain ⟨σ', H', I', a, ob, kvs, e, hn, r⟩ := q; exact ⟨σ', _, I'.thaw e hn, r⟩
  | cont => obtain ⟨σ', H', I', a, ob, kvs, e, hn, r⟩ := q; exact ⟨σ', _, I'.thaw e hn, r⟩
  | ret u => obtain ⟨v, σ', H', I', rv, a, ob, kvs, e, hn, r⟩ := q; exact ⟨v, σ', _, I'.thaw e hn, rv, r⟩
def tThawE (X : Cx) (t : TE) : TE := fun σ H Q => t σ H fun v => Thaw X (Q v)
theorem pe_thaw {e : Expr} {t : TE} (h : PE X e t) : PE X e (tThawE X t) := by
  intro pins s σ H Q I q
  refine thn (h pins s σ H _ I q) fun u s' ⟨v, H', I', rv, a, ob, kvs, e, hn, r⟩ => ?_
  exact ⟨v, _, I'.thaw e hn, rv, r⟩
end
theorem a_thaw {X : Cx} {t : TS} {D : Ends} {σ : St} {H : Hp} (h : t (ThawD X D) σ H) : tThaw X t D σ H := h
theorem a_thawE {X : Cx} {t : TE} {σ : St} {H : Hp} {Q : VK} (h : t σ H fun v => Thaw X (Q v)) : tThawE X t σ H Q := h
theorem a_idk {X : Cx} {sel : Key × V → V} {td : TE} {σ : St} {H : Hp} {R : It → Hp → Prop} (h : td σ H fun x H1 => ∃ a kvs, x = .ref a ∧ H1 a = some (.dK kvs) ∧ ∀ ob, (∀ o u, X.H₀ a ≠ some (.frz o u)) → R (Itk sel a ob kvs) (upd H1 a (.frz ob (.dK kvs)))) : iDk sel X td σ H R := h
theorem for_dk {sel : Key × V → V} {a : Addr} {ob : Obj} {kvs : List (Key × V)} {g : TG} {tb : TS} {D : Ends} {σ : St} {H : Hp} (Pv : Nat → St → Hp → Prop) (h0 : Pv 0 σ H) (hl : ∀ i σ H, i ≤ kvs.length → Pv i σ H → H a = some (.frz ob (.dK kvs)))
    (hs : ∀ i k v σ H, kvs[i]? = some (k, v) → Pv i σ H → g (sel (k, v)) σ H fun σ2 H2 => tb { D with nx := Pv (i + 1), ct := Pv (i + 1), bk := D.nx } σ2 H2) (hd : ∀ σ H, Pv kvs.length σ H → D.nx σ H) :
    ∃ W : Nat → Nat → St → Hp → Prop, (∃ m, W 0 m σ H) ∧ ∀ i m σ H, W i m σ H →
      ((Itk sel a ob kvs).stop i H ∧ D.nx σ H) ∨ ((Itk sel a ob kvs).go i H ∧ ∃ N : St → Hp → Prop, (∀ σ' H', N σ' H' → ∃ m', m' < m ∧ W (i + 1) m' σ' H') ∧ ∀ x H', (Itk sel a ob kvs).yld i H x H' → g x σ H' fun σ2 H2 => tb { D with nx := N, ct := N, bk := D.nx } σ2 H2) := by
  refine ⟨fun i m σ H => m = kvs.length - i ∧ i ≤ kvs.length ∧ Pv i σ H, ⟨kvs.length, by simp, Nat.zero_le _, h0⟩, ?_⟩
  rintro i m σ H ⟨rfl, hi, p⟩
  have q := hl i σ H hi p
  rcases Nat.lt_or_ge i kvs.length with hlt | hge
  · refine .inr ⟨⟨hlt, q⟩, Pv (i + 1), fun σ' H' p' => ⟨kvs.length - (i + 1), by omega, rfl, hlt, p'⟩, fun x H' y => ?_⟩
    obtain ⟨rfl, ⟨k, v⟩, e, rfl⟩ := y
    exact hs i k v σ _ e p
  · obtain rfl : i = kvs.length := by omega
    exact .inl ⟨⟨Nat.le_refl _, q⟩, hd σ H p⟩
section
variable {g : TG} {ti : TT} {te : TE} {ix : List (Option Nat)} {σ : St} {Q : VK}
theorem comp_dk {sel : Key × V → V} {a : Addr} {ob : Obj} {kvs : List (Key × V)} {H1 : Hp} (Pv : Nat → List V → Hp → Prop) (h0 : Pv 0 [] H1) (hl : ∀ i acc H, i ≤ kvs.length → Pv i acc H → H a = some (.frz ob (.dK kvs)))
    (hs : ∀ i k v acc H, kvs[i]? = some (k, v) → Pv i acc H → g (sel (k, v)) (pickS ix σ) H fun σ2 H2 => Wk (pickS ix σ) σ2 ∧ ti σ2 H2 fun b H3 => if b = true then te σ2 H3 fun v H4 => acc.length < sizeLine ∧ Pv (i + 1) (acc ++ [v]) H4 else Pv (i + 1) acc H3)
    (hd : ∀ acc H, Pv kvs.length acc H → acc.length ≤ sizeLine ∧ ∀ p, H p = none → Q (.ref p) (upd H p (.lst acc))) : CompW (Itk sel a ob kvs) g ti te ix σ Q H1 := by
  refine compw (n := kvs.length) Pv h0 (fun i acc H hi p => ⟨hi, hl i acc H (Nat.le_of_lt hi) p⟩) (fun acc H p => ⟨Nat.le_refl _, hl _ acc H (Nat.le_refl _) p⟩) (fun i x acc H H' hi p y => ?_) hd
  obtain ⟨rfl, ⟨k, v⟩, e, rfl⟩ := y
  exact hs i k v acc _ e p
end
end L2

namespace L2
open PySem PySem.Spec PyProof.Rows
/-! ### zip of two lists -/
/-- records of ours have turned -/
theorem Inv.turnedL {X : Cx} {pins : List (Addr × Obj)} {σ : St} {H : Hp} {s : Shared} {h' : Heap} {t' : Nat} {ch : List Addr} (I : Inv X pins σ H s) (k : ∀ c o, c ∉ ch → s.heap.get? c = some o → h'.get? c = some o)
    (hf : ∀ b ∈ ch, FpOk X pins H b) : Inv X pins σ H { s with heap := h', toks := t' } := by
  refine I.call' (s' := { s with heap := h', toks := t' }) (ch := ch) rfl ⟨fun c o e _ _ hc => k c o hc e, fun c o e _ _ hc => ⟨o.slots, k c o hc e⟩, fun _ _ _ n _ => n, fun c o e hc => ⟨o, k c o hc e⟩, fun _ _ q => q, fun _ _ _ q => q, fun _ ps q => ⟨#[], by rw [q]; simp⟩⟩ (fun c u e => ?_) I.bare (fun c hc => ?_)
  · refine (I.hok c u e).stay (fun d o hd q => k d o (fun hm => ?_) q) (fun _ q => q) fun _ _ q => q
    have d0 := (hf d hm).1
    rcases hd with z | z
    · rw [← z, d0] at e; cases e
    · rw [d0] at z; cases z
  · obtain ⟨a0, a1, a2, a3, a4, a5⟩ := hf c hc
    exact ⟨a3, a1, a4, a5⟩
/-- (x0, y0), (x1, y1), ..: each turn a new tuple -/
def Itz (K : PySem.W.Frag) (a b : Addr) : It :=
  ⟨fun i H => ∃ xs ys x y, SqL K H a xs ∧ SqL K H b ys ∧ xs[i]? = some x ∧ ys[i]? = some y,
    fun i H v H' => ∃ p x y, v = .ref p ∧ H p = none ∧ (∀ xs, SqL K H a xs → xs[i]? = some x) ∧ (∀ ys, SqL K H b ys → ys[i]? = some y) ∧ H' = upd H p (.tup [x, y]),
    fun i H => ∃ xs ys, SqL K H a xs ∧ SqL K H b ys ∧ (xs.length ≤ i ∨ ys.length ≤ i)⟩
theorem turn_zip {P : Program} {w : World} {K : PySem.W.Frag} {elts : List Expr} {x1 : Nat} {pos : Pos} {a b z TI TO i1 i2 : Addr} (D : ZipApart z TI TO i1 i2 a b) :
    Turn P w K (.Tuple elts x1 pos) (Itz K a b) [z, TI, TO, i1, i2] z (fun i h => IsZip h z TI TO .none ∧ IsPair h TI (.ref i1) (.ref i2) ∧ (∃ c d, IsPair h TO c d) ∧ h.IsListIter i1 a i ∧ h.IsListIter i2 b i) where
  mem := by simp
  obj := fun i h st c hc => by
    obtain ⟨e1, e2, ⟨u, v, e3⟩, ⟨o4, e4, c4, d4⟩, ⟨o5, e5, c5, d5⟩⟩ := st
    simp only [List.mem_cons, List.not_mem_nil, or_false] at hc
    rcases hc with rfl | rfl | rfl | rfl | rfl
    · exact ⟨_, e1, fun v z => by cases z⟩
    · exact ⟨_, e2, fun v z => by cases z⟩
    · exact ⟨_, e3, fun v z => by cases z⟩
    · exact ⟨o4, e4, fun v z => by rw [d4] at z; cases z⟩
    · exact ⟨o5, e5, fun v z => by rw [d5] at z; cases z⟩
  keep := fun i h h' st k => by
    obtain ⟨e1, e2, ⟨u, v, e3⟩, e4, e5⟩ := st
    exact ⟨k z (by simp) _ e1, k TI (by simp) _ e2, ⟨u, v, k TO (by simp) _ e3⟩, e4.at fun o e => k i1 (by simp) o e, e5.at fun o e => k i2 (by simp) o e⟩
  item := by
    intro X hP hw hK hc i pins s σ H E I hf st hg
    subst hP hw hK
    obtain ⟨e1, e2, ⟨c, d, e3⟩, e4, e5⟩ := st
    obtain ⟨xs, ys, x, y, hq, hq', hx, hy⟩ := hg
    obtain ⟨its, rv, p, hz⟩ := I.list hq
    obtain ⟨its', rv', p', hz'⟩ := I.list hq'
    obtain ⟨u, hu, ru⟩ := rv.get hx
    obtain ⟨u', hu', ru'⟩ := rv'.get hy
    refine wpAny_pyNext_zip_item D e1 e2 e3 e4 e5 p.isList p'.isList (x := u) (y := u') (by simpa using hu) (by simpa using hu') fun h' g1 g2 g3 g4 hT hsz hk => ?_
    refine ⟨.ref s.heap.objs.size, rfl, wpAny_letOwnedTupleGo_zip g1 fun h2 hz2 hs => ?_⟩
    have hfr : H s.heap.objs.size = none := I.hok.fresh (Nat.le_refl _)
    have lt : ∀ {c o}, s.heap.get? c = some o → c ≠ s.heap.objs.size := fun e => Nat.ne_of_lt (Heap.lt_size e)
    have ne : ∀ c ∈ [z, TI, TO, i1, i2], c ≠ s.heap.objs.size := fun c hc => by
      simp only [List.mem_cons, List.not_mem_nil, or_false] at hc
      rcases hc with rfl | rfl | rfl | rfl | rfl
      · exact lt e1
      · exact lt e2
      · exact lt e3
      · obtain ⟨o, e, _⟩ := e4; exact lt e
      · obtain ⟨o, e, _⟩ := e5; exact lt e
    have I1 := I.laid (a := s.heap.objs.size) (o := .tup [x, y]) (h' := s.heap.push { cls := .type "tuple", data := .seq #[u, u'] }) (t' := s.toks) (fun b q hq => Heap.get?_push_of_some _ hq) (Nat.le_refl _)
      ⟨by show 2 ≤ sizeLine; decide, [u, u'], .cons ru (.cons ru' .nil), ⟨_, Heap.get?_push_size _ rfl, rfl, _, rfl⟩⟩
    have hk2 : ∀ c q, c ∉ [z, TI, TO, i1, i2] → (s.heap.push { cls := .type "tuple", data := .seq #[u, u'] }).get? c = some q → h2.get? c = some q := fun c q hc hq => by
      refine hs.extBut c q (fun z' => hc (by simp [z'])) ?_
      rcases Heap.get?_push_cases hq with ⟨hbs, eq⟩ | hq
      · subst hbs
        subst eq
        exact hT
      · exact hk c q (fun z' => hc (by simp [z'])) (fun z' => hc (by simp [z'])) (fun z' => hc (by simp [z'])) (fun z' => hc (by simp [z'])) hq
    have t2 : IsPair h2 TI (.ref i1) (.ref i2) := hs.extBut TI _ D.TIz (hk TI _ D.TIz D.TITO D.TIi1 D.TIi2 e2)
    have t3 : IsPair h2 TO u u' := hs.extBut TO _ D.TOz g2
    have t4 : h2.IsListIter i1 a (i + 1) := g3.at fun o e => hs.extBut i1 o D.i1z e
    have t5 : h2.IsListIter i2 b (i + 1) := g4.at fun o e => hs.extBut i2 o D.i2z e
    refine ⟨.ref s.heap.objs.size, upd H s.heap.objs.size (.tup [x, y]), ?_, rfl, ⟨_, x, y, rfl, hfr, fun ys hy => by rw [I.list_inj hy hq]; exact hx, fun ys hy' => by rw [I.list_inj hy' hq']; exact hy, rfl⟩, ⟨hz2, t2, ⟨_, _, t3⟩, t4, t5⟩, fun c hc => ?_⟩
    · exact Inv.turnedL (s := { s with heap := s.heap.push { cls := .type "tuple", data := .seq #[u, u'] }, toks := s.toks }) (t' := s.toks) I1 hk2 fun c hc => ⟨by rw [upd_ne (ne c hc)]; exact (hf c hc).1, (hf c hc).2⟩
    · rw [upd_ne (ne c hc)]; exact (hf c hc).1
  done := by
    intro X hP hw hK hc i pins s σ H E I hf st hg
    subst hP hw hK
    obtain ⟨e1, e2, ⟨c, d, e3⟩, e4, e5⟩ := st
    obtain ⟨xs, ys, hq, hq', hor⟩ := hg
    obtain ⟨its, rv, p, hz⟩ := I.list hq
    obtain ⟨its', rv', p', hz'⟩ := I.list hq'
    have l1 := rv.length
    have l2 := rv'.length
    refine wpAny_pyNext_zip_end (I.ok.hd hc) D e1 e2 e3 e4 e5 p.isList p'.isList (hor.imp (fun h => by simp; omega) fun h => by simp; omega) fun h' hk => ⟨rfl, I.turnedL (t' := s.toks) (ch := [z, TI, TO, i1, i2]) (fun c o hc e => ?_) hf⟩
    exact hk c o (fun z' => hc (by simp [z'])) (fun z' => hc (by simp [z'])) (fun z' => hc (by simp [z'])) (fun z' => hc (by simp [z'])) e
  self := fun _ _ _ _ _ st h => wpAny_pyIter_zip st.1 h
section
variable {X : Cx}
def iZip (K : PySem.W.Frag) (ta : TA) : TI := fun σ H R => ta σ H fun vs H1 => ∃ a b, vs = [.ref a, .ref b] ∧ (∃ xs, SqL K H1 a xs) ∧ (∃ ys, SqL K H1 b ys) ∧ R (Itz K a b) H1
theorem pi_zip {l m : Expr} {ta : TA} {elts : List Expr} {x1 : Nat} {tpos p pos : Pos} (hg : Gl X "zip") (hm : X.mg "zip" = none) (ha : PA X [l, m] ta) (hs : starEach [l, m] X.env = [(false, eval l X.env), (false, eval m X.env)] := by rfl)
    (hs2 : starEach [m] X.env = [(false, eval m X.env)] := by rfl) : PI X (.Tuple elts x1 tpos) (.Call (.Name "zip" p) [l, m] [] pos) (iZip X.K ta) := by
  intro pins s σ H R I h
  refine Call_ (ld_blt I hg hm (u := .type "zip") rfl (PyProof.Rows.callWith_type1 (thn (ha pos pins s σ H _ I h) fun us s1 ⟨vs, H1, I1, r1, a, b, e, ⟨xs, hq⟩, ⟨ys, hq'⟩, q⟩ => ?_) (by rw [hs, hs2]) (by rw [hs2]; rfl)))
  subst e
  cases r1 with
  | cons r rr =>
    cases rr with
    | cons r' rr =>
      cases rr
      cases r
      cases r'
      obtain ⟨its, rv, p, hz⟩ := I1.list hq
      obtain ⟨its', rv', p', hz'⟩ := I1.list hq'
      have la : a < s1.heap.objs.size := let ⟨_, e, _⟩ := p.isList; Heap.lt_size e
      have lb : b < s1.heap.objs.size := let ⟨_, e, _⟩ := p'.isList; Heap.lt_size e
      refine call_zip_2 p.isList p'.isList fun h' g1 g2 g3 g4 g5 hsz hk => wpAny_pyIter_zip g1 ?_
      have Dz : ZipApart (s1.heap.objs.size + 4) (s1.heap.objs.size + 2) (s1.heap.objs.size + 3) s1.heap.objs.size (s1.heap.objs.size + 1) a b := by
        have lt : ∀ {x y : Nat}, x < y → x ≠ y := fun h => Nat.ne_of_lt h
        have gt : ∀ {x y : Nat}, y < x → x ≠ y := fun h => Nat.ne_of_gt h
        constructor <;> first | exact lt (by omega) | exact gt (by omega) | exact lt (Nat.lt_of_lt_of_le la (by omega)) | exact lt (Nat.lt_of_lt_of_le lb (by omega))
      refine ⟨s1.heap.objs.size + 4, [s1.heap.objs.size + 4, s1.heap.objs.size + 2, s1.heap.objs.size + 3, s1.heap.objs.size, s1.heap.objs.size + 1], _, _, H1, rfl, I1.kept (t' := s1.toks) hk, turn_zip Dz, ⟨g1, g2, ⟨_, _, g3⟩, g4, g5⟩, fun c hc => ?_, q⟩
      have z : s1.heap.objs.size ≤ c := by
        simp only [List.mem_cons, List.not_mem_nil, or_false] at hc
        rcases hc with rfl | rfl | rfl | rfl | rfl
        · exact Nat.le_add_right _ _
        · exact Nat.le_add_right _ _
        · exact Nat.le_add_right _ _
        · exact Nat.le_refl _
        · exact Nat.le_add_right _ _
      exact I1.fpOk z (I1.hok.fresh z)
end
theorem a_izip {K : PySem.W.Frag} {ta : TA} {σ : St} {H : Hp} {R : It → Hp → Prop} (h : ta σ H fun vs H1 => ∃ a b, vs = [.ref a, .ref b] ∧ (∃ xs, SqL K H1 a xs) ∧ (∃ ys, SqL K H1 b ys) ∧ R (Itz K a b) H1) : iZip K ta σ H R := h
/-- for x, y in zip(l, m), two lists of one length -/
theorem for_zip {K : PySem.W.Frag} {a b : Addr} {xs ys : List V} {g : TG} {tb : TS} {D : Ends} {σ : St} {H : Hp} (Pv : Nat → St → Hp → Prop) (h0 : Pv 0 σ H) (hl : ∀ i σ H, i ≤ min xs.length ys.length → Pv i σ H → SqL K H a xs ∧ SqL K H b ys)
    (hs : ∀ i x y σ H p, xs[i]? = some x → ys[i]? = some y → Pv i σ H → H p = none → g (.ref p) σ (upd H p (.tup [x, y])) fun σ2 H2 => tb { D with nx := Pv (i + 1), ct := Pv (i + 1), bk := D.nx } σ2 H2) (hd : ∀ σ H, Pv (min xs.length ys.length) σ H → D.nx σ H) :
    ∃ W : Nat → Nat → St → Hp → Prop, (∃ m, W 0 m σ H) ∧ ∀ i m σ H, W i m σ H →
      ((Itz K a b).stop i H ∧ D.nx σ H) ∨ ((Itz K a b).go i H ∧ ∃ N : St → Hp → Prop, (∀ σ' H', N σ' H' → ∃ m', m' < m ∧ W (i + 1) m' σ' H') ∧ ∀ x H', (Itz K a b).yld i H x H' → g x σ H' fun σ2 H2 => tb { D with nx := N, ct := N, bk := D.nx } σ2 H2) := by
  refine ⟨fun i m σ H => m = min xs.length ys.length - i ∧ i ≤ min xs.length ys.length ∧ Pv i σ H, ⟨min xs.length ys.length, by simp, Nat.zero_le _, h0⟩, ?_⟩
  rintro i m σ H ⟨rfl, hi, p⟩
  obtain ⟨q1, q2⟩ := hl i σ H hi p
  rcases Nat.lt_or_ge i (min xs.length ys.length) with hlt | hge
  · have h1 : i < xs.length := by omega
    have h2 : i < ys.length := by omega
    refine .inr ⟨⟨xs, ys, xs[i], ys[i], q1, q2, by simp [h1], by simp [h2]⟩, Pv (i + 1), fun σ' H' p' => ⟨min xs.length ys.length - (i + 1), by omega, rfl, hlt, p'⟩, fun v H' z => ?_⟩
    obtain ⟨pa, x, y, rfl, e2, e3, e4, rfl⟩ := z
    exact hs i x y σ H pa (e3 xs q1) (e4 ys q2) p e2
  · have e : i = min xs.length ys.length := by omega
    subst e
    exact .inl ⟨⟨xs, ys, q1, q2, by omega⟩, hd σ H p⟩
end L2
namespace Vc
open PySem L2 Sf
/-- d.get(x, z) by what the dict stands for -/
theorem dgetD {α : Type} {A : Rep α} {F H : Hp} {a : Addr} {kvs : List (Key × V)} {m : List (Str × α)} {z : V} {d : α} (x : Str) (rd : Rd H a (.dK kvs)) (dk : Dk A F kvs m) (hz : A F z d) : ∃ o, DGet H a (V.str x) o ∧ A F (o.getD z) ((gtd m x).getD d) := by
  refine ⟨valV kvs (Sum.inr x : Key), .inl ⟨kvs, Sum.inr x, rd, rfl, rfl⟩, ?_⟩
  rcases dk.val x with ⟨e1, e2⟩ | ⟨v, y, e1, e2, e3⟩
  · rw [e1, e2]; exact hz
  · rw [e1, e2]; exact e3
/-- x in d -/
theorem a_dinD {α : Type} {A : Rep α} {F H : Hp} {a : Addr} {kvs : List (Key × V)} {m : List (Str × α)} {x : Str} {Q : VK} (rd : Rd H a (.dK kvs)) (dk : Dk A F kvs m) (q : Q (.bl (gtd m x).isSome) H) :
    ∃ a' o, V.ref a = .ref a' ∧ DGet H a' (kV (Sum.inr x)) o ∧ Q (.bl o.isSome) H := by
  refine ⟨a, valV kvs (Sum.inr x : Key), rfl, .inl ⟨kvs, Sum.inr x, rd, rfl, rfl⟩, ?_⟩
  rcases dk.val x with ⟨e1, e2⟩ | ⟨v, y, e1, e2, e3⟩
  · rw [e1]; rw [e2] at q; exact q
  · rw [e1]; rw [e2] at q; exact q
end Vc
namespace L2
theorem a_chain {r r' : R2} {ta tb tc : TE} {σ : St} {H : Hp} {Q : VK} (h : ta σ H fun x H1 => tb σ H1 fun y H2 => r x y H2 fun z H3 => ∃ k, z = .bl k ∧ (if k = true then tc σ H3 fun w' H4 => r' y w' H4 Q else Q (.bl false) H3)) : tChain r r' ta tb tc σ H Q := h
end L2

namespace L2
open PySem PySem.Spec PyProof.Rows
/-! ### f-strings of texts -/
section
variable {X : Cx}
/-- the parts of an f-string from the left, out being the text so far -/
def PJ (X : Cx) (es : List Expr) (t : Str → TE) : Prop :=
  ∀ (out : Str) (pins : List (Addr × Obj)) (s : Shared) (σ : St) (H : Hp) (Q : VK), Inv X pins σ H s → t out σ H Q → wpAny (model X.prog X.w) X.A (joinParts out (evalEach es X.env)) (EP X pins σ Q) X.xe s
def jNil : Str → TE := fun out _ H Q => out.length ≤ sizeLine ∧ Q (.str out) H
def jTxt (x : Str) (t : Str → TE) : Str → TE := fun out σ H Q => (out ++ x).length ≤ sizeLine ∧ t (out ++ x) σ H Q
def jVal (te : TE) (t : Str → TE) : Str → TE := fun out σ H Q => te σ H fun v H1 => ∃ y, v = .str y ∧ y.length ≤ sizeLine ∧ (out ++ y).length ≤ sizeLine ∧ t (out ++ y) σ H1 Q
theorem pj_nil : PJ X [] jNil := fun out pins s σ H Q I h => joinParts_nil ⟨.str out, H, I.tok _, ⟨_, rfl⟩, h.2⟩ h.1
theorem pj_txt {x : Str} {j : Nat} {pos : Pos} {es : List Expr} {t : Str → TE} (hr : PJ X es t) : PJ X (.Constant (.str x) j pos :: es) (jTxt x t) := fun out pins s σ H Q I h =>
  joinParts_cons (rest := evalEach es X.env) (Calls.Constant_str ⟨h.1, hr (out ++ x) pins _ σ H Q (I.tok _) h.2⟩)
theorem pj_val {e : Expr} {pos : Pos} {es : List Expr} {te : TE} {t : Str → TE} (he : PE X e te) (hr : PJ X es t) : PJ X (.FormattedValue e (-1) none pos :: es) (jVal te t) := fun out pins s σ H Q I h =>
  joinParts_cons (rest := evalEach es X.env) (FormattedValue_plain (thn (he pins s σ H _ I h) fun v s1 ⟨x, H1, I1, r1, y, e1, hz, hq, q1⟩ => by
    subst e1
    obtain ⟨t', rfl⟩ := r1
    exact formatField_str (fun t' tk => ⟨hq, hr (out ++ y) pins _ σ H1 Q (I1.tok _) q1⟩) hz))
def tJ (t : Str → TE) : TE := t Str.empty
theorem pe_fstr {a b : Expr} {es : List Expr} {pos : Pos} {t : Str → TE} (h : PJ X (a :: b :: es) t) : PE X (.JoinedStr (a :: b :: es) pos) (tJ t) := fun pins s σ H Q I q =>
  JoinedStr_many (h Str.empty pins s σ H Q I q)
end
section
variable {σ : St} {H : Hp} {Q : VK}
theorem str_empty_app (x : Str) : Str.empty ++ x = x := by
  cases x with
  | mk c =>
    show (⟨Str.empty.cps ++ c⟩ : Str) = ⟨c⟩
    congr 1
    show #[] ++ c = c
    simp
theorem a_fs {t : Str → TE} (h : t Str.empty σ H Q) : tJ t σ H Q := h
theorem a_jv0 {te : TE} {t : Str → TE} (h : te σ H fun v H1 => ∃ y, v = .str y ∧ y.length ≤ sizeLine ∧ t y σ H1 Q) (mono : ∀ (R R' : VK), (∀ v H1, R v H1 → R' v H1) → te σ H R → te σ H R') : jVal te t Str.empty σ H Q := by
  refine mono _ _ (fun v H1 ⟨y, e, hz, q⟩ => ⟨y, e, hz, ?_, ?_⟩) h
  · rw [str_empty_app]; exact hz
  · rw [str_empty_app]; exact q
theorem a_jv {te : TE} {t : Str → TE} {out : Str} (h : te σ H fun v H1 => ∃ y, v = .str y ∧ y.length ≤ sizeLine ∧ (out ++ y).length ≤ sizeLine ∧ t (out ++ y) σ H1 Q) : jVal te t out σ H Q := h
theorem a_jt {x : Str} {t : Str → TE} {out : Str} (hz : (out ++ x).length ≤ sizeLine) (h : t (out ++ x) σ H Q) : jTxt x t out σ H Q := ⟨hz, h⟩
theorem a_jn {out : Str} (hz : out.length ≤ sizeLine) (h : Q (.str out) H) : jNil out σ H Q := ⟨hz, h⟩
/-! ### append to a list of one's own -/
theorem a_bm {K : PySem.W.Frag} {T : String} {r : V → List V → Hp → VK → Prop} {to : TE} {t : TA} (h : to σ H fun x H1 => tyV K T x H1 ∧ t σ H1 fun xs H2 => r x xs H2 Q) : tBM K T r to t σ H Q := h
theorem a_bm0 {K : PySem.W.Frag} {T : String} {r : V → List V → Hp → VK → Prop} {to : TE} (h : to σ H fun x H1 => tyV K T x H1 ∧ r x [] H1 Q) : tBM0 K T r to σ H Q := h
theorem a_app {l : Addr} {xs : List V} {y : V} (h : H l = some (.lst xs)) (hz : xs.length < sizeLine) (q : Q .non (upd H l (.lst (xs ++ [y])))) : rAppend (.ref l) [y] H Q := ⟨l, xs, y, rfl, rfl, h, hz, q⟩
end
/-! ### comprehensions over zip -/
section
variable {g : TG} {ti : TT} {te : TE} {ix : List (Option Nat)} {σ : St} {Q : VK}
theorem comp_zip {K : PySem.W.Frag} {a b : Addr} {xs ys : List V} {H1 : Hp} (Pv : Nat → List V → Hp → Prop) (h0 : Pv 0 [] H1) (hl : ∀ i acc H, i ≤ min xs.length ys.length → Pv i acc H → SqL K H a xs ∧ SqL K H b ys)
    (hs : ∀ i x y acc H p, xs[i]? = some x → ys[i]? = some y → Pv i acc H → H p = none → g (.ref p) (pickS ix σ) (upd H p (.tup [x, y])) fun σ2 H2 => Wk (pickS ix σ) σ2 ∧ ti σ2 H2 fun b H3 => if b = true then te σ2 H3 fun v H4 => acc.length < sizeLine ∧ Pv (i + 1) (acc ++ [v]) H4 else Pv (i + 1) acc H3)
    (hd : ∀ acc H, Pv (min xs.length ys.length) acc H → acc.length ≤ sizeLine ∧ ∀ p, H p = none → Q (.ref p) (upd H p (.lst acc))) : CompW (Itz K a b) g ti te ix σ Q H1 := by
  refine compw (n := min xs.length ys.length) Pv h0 (fun i acc H hi p => ?_) (fun acc H p => ?_) (fun i x acc H H' hi p y => ?_) hd
  · obtain ⟨q1, q2⟩ := hl i acc H (Nat.le_of_lt hi) p
    exact ⟨xs, ys, xs[i]'(by omega), ys[i]'(by omega), q1, q2, by simp, by simp⟩
  · obtain ⟨q1, q2⟩ := hl _ acc H (Nat.le_refl _) p
    refine ⟨xs, ys, q1, q2, ?_⟩
    omega
  · obtain ⟨q1, q2⟩ := hl i acc H (Nat.le_of_lt hi) p
    obtain ⟨pa, x1, y1, rfl, e2, e3, e4, rfl⟩ := y
    exact hs i x1 y1 acc H pa (e3 xs q1) (e4 ys q2) p e2
end
end L2
namespace Vc
open PySem L2 Sf
/-! ### != of lists -/
section
variable {X : Cx} {pins : List (Addr × Obj)} {σ : St} {H : Hp} {s : Shared} {Au : Around}
theorem rn_lsts {a b : Addr} {xs ys : List V} (I : Inv X pins σ H s) (h1 : SqL X.K H a xs) (h2 : SqL X.K H b ys) (hu : Au.units < cLine) (hl : xs.length = ys.length) (e : Nat → Bool)
    (he : ∀ (j : Nat) x y u v, xs[j]? = some x → ys[j]? = some y → RelV x u → RelV y v → SeqAt.EqAt Au.in1 s u v (e j)) : SeqAt.RcNeAt Au s (.ref a) (.ref b) (!(List.range xs.length).all e) := by
  obtain ⟨us, r1, t1, _⟩ := I.list h1
  obtain ⟨ws, r2, t2, _⟩ := I.list h2
  have l1 := r1.length
  have l2 := r2.length
  have z := SeqAt.RcNeAt.lists (A := Au) (e := e) t1.isList t2.isList (by simp; omega) hu (fun j h1 h2 => ?_)
  · have e0 : (List.range us.toArray.size).all e = (List.range xs.length).all e := by
      simp only [List.size_toArray]
      rw [← l1]
    rw [e0] at z
    exact z
  · simp only [List.size_toArray] at h1 h2
    obtain ⟨u, e1, ru⟩ := r1.get (i := j) (x := xs[j]'(by omega)) (by simp)
    obtain ⟨v, e2, rv⟩ := r2.get (i := j) (x := ys[j]'(by omega)) (by simp)
    obtain ⟨_, f1⟩ := List.getElem?_eq_some_iff.mp e1
    obtain ⟨_, f2⟩ := List.getElem?_eq_some_iff.mp e2
    have g1 : us.toArray[j]'(by simpa using h1) = u := by simpa using f1
    have g2 : ws.toArray[j]'(by simpa using h2) = v := by simpa using f2
    rw [g1, g2]
    exact he j _ _ u v (by simp) (by simp) ru rv
end
section
variable {X : Cx}
def rQn {α : Type} [DecidableEq α] (A : Rep α) : R2 := fun v w H Q => ∃ F x y, Same F H ∧ A F v x ∧ A F w y ∧ Q (.bl (!decide (x = y))) H
theorem op_neQ {α : Type} [DecidableEq α] {K : PySem.W.Frag} {A : Rep α} {d : Nat} [qa : Qf K A d] (hK : X.K = K) (hu : X.A.units + 64 < cLine) (hd : d ≤ 60 := by decide) : OpR X (compareOp .NotEq) (rQn (rL K A)) := by
  intro pins s σ H p q v u Q I rx ry h
  subst hK
  obtain ⟨F, x, y, wd, ⟨a, vs, rfl, g1, k1⟩, ⟨b, ws, rfl, g2, l1⟩, hq⟩ := h
  cases rx
  cases ry
  have n1 := k1.length
  have n2 := l1.length
  by_cases hl : x.length = y.length
  · have z := rn_lsts (Au := X.A) I (wd.seq g1) (wd.seq g2) (by omega) (by omega) (fun j => decide (x[j]? = y[j]?)) (fun j p q u v h1 h2 r1 r2 => by
      obtain ⟨m1, e1, f1⟩ := k1.get h1
      obtain ⟨m2, e2, f2⟩ := l1.get h2
      have e0 : decide (x[j]? = y[j]?) = decide (m1 = m2) := by
        rw [e1, e2]
        congr 1
        exact propext ⟨fun h => Option.some.inj h, fun h => by rw [h]⟩
      rw [e0]
      exact qa.qf rfl I wd f1 f2 r1 r2 (by rw [in1_units]; omega))
    rw [n1, all_dec x y hl] at z
    exact z X.prog X.w X.xe _ ⟨.bl _, H, I, rfl, hq⟩
  · rw [decide_eq_false (fun z => hl (by rw [z]))] at hq
    obtain ⟨us, r1, t1, _⟩ := I.list (wd.seq g1)
    obtain ⟨zs, r2, t2, _⟩ := I.list (wd.seq g2)
    have m1 := r1.length
    have m2 := r2.length
    exact SeqAt.RcNeAt.lists_lengths (A := X.A) t1.isList t2.isList (by simp; omega) (by omega) X.prog X.w X.xe _ ⟨.bl true, H, I, rfl, hq⟩
end
/-! ### a text in a list of texts -/
theorem Al.strs {F : Hp} : ∀ {vs : List V} {xs : List Str}, Al rS F vs xs → vs = xs.map V.str
  | [], [], _ => rfl
  | v :: vs, x :: xs, h => by rw [List.map_cons, ← Al.strs h.2]; exact congrArg (· :: vs) h.1
  | [], _ :: _, h => h.elim
  | _ :: _, [], h => h.elim
theorem inV_strs (x : Str) : ∀ xs : List Str, inV (.str x) (xs.map V.str) = decide (x ∈ xs)
  | [] => by rw [decide_eq_false (by simp)]; rfl
  | y :: r => by
    have ih := inV_strs x r
    unfold inV at ih ⊢
    rw [List.map_cons, List.any_cons, ih]
    by_cases e : y = x
    · subst e
      rw [show eqV (.str y) (.str y) = true from eqV_refl rfl, Bool.true_or, decide_eq_true (by simp)]
    · have h1 : eqV (.str y) (.str x) = false := by
        show (y == x) = false
        simpa using e
      rw [h1, Bool.false_or]
      by_cases m : x ∈ r
      · rw [decide_eq_true m, decide_eq_true (List.mem_cons_of_mem _ m)]
      · rw [decide_eq_false m, decide_eq_false]
        intro z
        rcases List.mem_cons.mp z with z | z
        · exact e z.symm
        · exact m z
theorem flat_strs : ∀ xs : List Str, (xs.map V.str).all flatV = true
  | [] => rfl
  | y :: r => by rw [List.map_cons, List.all_cons, flat_strs r]; rfl
theorem a_inS {K : PySem.W.Frag} {F H : Hp} {Q : VK} {p : Addr} {vs : List V} {xs : List Str} {x : Str} (h : SqL K H p vs) (al : Al rS F vs xs) (q : Q (.bl (decide (x ∈ xs))) H) : rIn K false (.str x) (.ref p) H Q := by
  refine ⟨p, vs, rfl, .inl h, rfl, ?_, ?_⟩
  · rw [al.strs]; exact flat_strs xs
  · rw [al.strs, if_neg (by simp), inV_strs]; exact q
/-! ### the text of an int -/
theorem str_int_le {i : Int} {n : Nat} (h : bi i ≤ n) (hn : 0 < n) : ((toString i : String) : Str).length ≤ n + 1 := by
  show (Str.ofString (toString i)).length ≤ n + 1
  rw [PySem.ofString_length]
  refine int_text_length_le hn ?_
  have := lt_bi h
  by_cases z : i.natAbs = 0
  · rw [z]; exact Nat.lt_of_le_of_lt (by decide) hn
  · exact (Nat.log2_lt z).mpr this
theorem str_int_log {i : Int} {n : Nat} (h : bi i ≤ n) (hn : 0 < n) (h2 : n ≤ 1900) : i.natAbs.log2 < 1920 := by
  have := lt_bi h
  by_cases z : i.natAbs = 0
  · rw [z]; decide
  · exact Nat.lt_of_lt_of_le ((Nat.log2_lt z).mpr this) (by omega)
end Vc
namespace Vc
open PySem L2 Sf
/-! ### what a call made for the caller alone -/
def ownL {α : Type} (A : Rep α) (F H H' : Hp) (v : V) (r : List α) : Prop := ∃ p vs, v = .ref p ∧ H p = none ∧ H' p = some (.lst vs) ∧ F p = none ∧ Al A F vs r
def ownD {α : Type} (A : Rep α) (F H H' : Hp) (v : V) (r : List (Str × α)) : Prop := ∃ p kvs, v = .ref p ∧ H p = none ∧ H' p = some (.dK kvs) ∧ F p = none ∧ Dk A F kvs r ∧ (r.map (·.1)).Nodup
theorem tyV_lst {K : PySem.W.Frag} {H : Hp} {p : Addr} {xs : List V} (h : H p = some (.lst xs)) : tyV K "list" (.ref p) H := by
  exact .inl ⟨rfl, xs, SqL.of h⟩
theorem tyV_dic {K : PySem.W.Frag} {H : Hp} {p : Addr} {kvs : List (Key × V)} (h : H p = some (.dK kvs)) : tyV K "dict" (.ref p) H := .inr (.inr (.inl ⟨rfl, .inl ⟨kvs, h⟩⟩))
theorem cutA_most {α : Type} (xs : List α) (a b : Nat) : (cutA xs (some (a : Int)) (some (b : Int))).length ≤ b - a := by
  unfold cutA
  rw [HT.sIx_nat, HT.sIx_nat, List.length_take, List.length_drop]
  omega
theorem cutA_from {α : Type} (xs : List α) (a : Nat) : cutA xs (some (a : Int)) none = xs.drop a := by
  unfold cutA
  rw [HT.sIx_nat, HT.sIx_none]
  by_cases h : a ≤ xs.length
  · rw [Nat.min_eq_left h, List.take_of_length_le (by rw [List.length_drop]; omega)]
  · rw [Nat.min_eq_right (by omega), List.drop_eq_nil_of_le (Nat.le_refl _), List.drop_eq_nil_of_le (by omega)]
    simp
theorem str_app_assoc (x y z : Str) : x ++ y ++ z = x ++ (y ++ z) := by
  cases x; cases y; cases z
  show (⟨_ ++ _ ++ _⟩ : Str) = ⟨_ ++ (_ ++ _)⟩
  rw [Array.append_assoc]
theorem zip_take_map {α β γ : Type} {xs : List α} {ys : List β} {i : Nat} {x : α} {y : β} (f : α × β → γ) (hx : xs[i]? = some x) (hy : ys[i]? = some y) : ((xs.zip ys).take (i + 1)).map f = ((xs.zip ys).take i).map f ++ [f (x, y)] := by
  have h : (xs.zip ys)[i]? = some (x, y) := by rw [List.getElem?_zip_eq_some]; exact ⟨hx, hy⟩
  rw [List.take_add_one, h, List.map_append]
  rfl
theorem map_take_succ {α β : Type} {xs : List α} {i : Nat} {x : α} (f : α → β) (hx : xs[i]? = some x) : (xs.take (i + 1)).map f = (xs.take i).map f ++ [f x] := by
  rw [List.take_add_one, hx, List.map_append]
  rfl
theorem all_id {xs : List Bool} (h : ∀ b ∈ xs, b = true) : xs.all id = true := by
  rw [List.all_eq_true]
  exact fun b m => h b m
theorem getD_of {α : Type} {xs : List α} {n : Nat} {x d : α} (h : xs[n]? = some x) : xs.getD n d = x := by rw [List.getD_eq_getElem?_getD, h]; rfl
end Vc

namespace L2
open PySem PySem.Spec PyProof.Rows
/-! ### a text some times -/
def rRepS : R2 := fun x y H Q => ∃ z n, x = .str z ∧ y = .int n ∧ z.length ≤ 100 ∧ 0 ≤ n ∧ n ≤ 1000 ∧ Q (.str (Txt.mul z n)) H
theorem op_rep_str {X : Cx} : OpR X (binaryOp .Mult) rRepS := by
  intro pins s σ H x y v u Q I rx ry h
  obtain ⟨z, n, rfl, rfl, hz, h0, h1, q⟩ := h
  obtain ⟨t, rfl⟩ := rx
  obtain ⟨t', rfl⟩ := ry
  exact SB.mul (mulOk_of 100 1000 hz (by omega) (by omega) (by decide) (by decide)) fun t' k => ⟨.str _, H, I.tok _, ⟨_, rfl⟩, q⟩
end L2
namespace Vc
open PySem L2 Sf
theorem rep_len {z : Str} {n : Int} (h0 : 0 ≤ n) : ((Txt.mul z n).length : Int) = (z.length : Int) * n := by
  rw [PyProof.Rows.len_mul, if_neg (by simpa using h0)]
theorem rep_lenN {z : Str} {n : Int} {N : Nat} (h : z.length = N) (h0 : 0 ≤ n) : ((Txt.mul z n).length : Int) = (N : Int) * n := by rw [rep_len h0, h]
theorem str_app_nil (x : Str) : x ++ ("" : Str) = x := by
  cases x with
  | mk c =>
    show (⟨c ++ #[]⟩ : Str) = ⟨c⟩
    simp
end Vc

namespace L2
open PySem PySem.Spec PyProof.Rows
/-! ### sorted(d), d a dict by texts -/
section
variable {X : Cx}
theorem strsAre_of {ks : List Str} : ∀ {us : List Value}, us.length = ks.length → (∀ (j : Nat) x u, ks[j]? = some x → us[j]? = some u → ∃ t, u = .str x t) → StrsAre us ks := by
  induction ks with
  | nil => intro us e _; cases us with
    | nil => exact .nil
    | cons _ _ => simp at e
  | cons x r ih =>
    intro us e f
    cases us with
    | nil => simp at e
    | cons u us =>
      obtain ⟨t, rfl⟩ := f 0 x u rfl rfl
      exact .cons _ _ (ih (by simpa using e) fun j y v h1 h2 => f (j + 1) y v (by simpa using h1) (by simpa using h2))
theorem vals_strs {us : List Value} {ks : List Str} (h : StrsAre us ks) : Vals (ks.map V.str) us := by
  induction h with
  | nil => exact .nil
  | cons _ _ _ ih => exact .cons ⟨_, rfl⟩ ih
def rSortD : List V → Hp → VK → Prop := fun xs H Q => ∃ a kvs ks, xs = [.ref a] ∧ Rd H a (.dK kvs) ∧ kvs.map (·.1) = ks.map (Sum.inr : Str → Key) ∧ ks.length < 64 ∧
    ∀ ks' : List Str, ks'.Perm ks → sortedS ks' = true → ∀ p, H p = none → Q (.ref p) (upd H p (.lst (ks'.map V.str)))
theorem call_sortedD (hc : X.calm = true) : CallR X (.builtin "sorted") rSortD := by
  intro pins s σ H xs us Q I r h
  obtain ⟨a, kvs, ks, rfl, ha, hk, h64, q⟩ := h
  obtain ⟨u, rfl, ru⟩ := vals1 r
  cases ru
  obtain ⟨z, y, vs, rel, dd⟩ := dk_rd I.hok ha
  obtain ⟨ep, hat⟩ := dd.dictAt
  have hl : kvs.length = vs.length := KV.length rel
  have hlk : kvs.length = ks.length := by have := congrArg List.length hk; simpa using this
  refine Calls.call_function_entry kind_sorted plain_sorted entry_sorted (args_sorted1 _) ?_
  unfold Builtin.«sorted»
  refine wpAny_bind (m := checkCount "sorted" 1 1 _) (wpAny_pure ?_)
  refine wpAny_bind (PySem.W.kdu_collect (PySem.W.kdl_dict (knd := mixKind X.prog X.w) (kvs := vs) (ep := ep) y) (I.ok.hd hc) hat (by rw [← hl]; exact z) fun h' tk acc hkp hacc => ?_)
  have hS : StrsAre acc.toList ks := by
    refine strsAre_of (by rw [Array.length_toList, hacc.1, ← hl, hlk]) fun j x u h1 h2 => ?_
    obtain ⟨k', v, hx, hkey⟩ := hacc.2 j u (by rw [← Array.getElem?_toList]; exact h2)
    obtain ⟨p, hp⟩ : ∃ p, kvs[j]? = some p := by
      have : j < kvs.length := by rw [hlk]; exact (List.getElem?_eq_some_iff.mp h1).1
      exact ⟨kvs[j], by simp [this]⟩
    have e1 : p.1 = Sum.inr x := by
      have := congrArg (fun l => l[j]?) hk
      simp only [List.getElem?_map, hp, h1, Option.map_some] at this
      exact Option.some.inj this
    obtain ⟨u', hu', _⟩ := rel.at (k := p.1) (v := p.2) hp
    rw [hu'] at hx
    cases hx
    have := kV_of_is hkey
    rw [e1] at this
    exact this
  have I1 : Inv X pins σ H { s with heap := h', toks := tk } := I.kept (t' := tk) hkp
  refine wpAny_bind (wpAny_newList ?_)
  have hoL : (h'.push (seqObj "list" acc.toList.toArray 0)).get? h'.objs.size = some (seqObj "list" acc.toList.toArray 0) := Heap.get?_push_size _ rfl
  show wpAny _ _ _ _ _ { s with heap := h'.push (seqObj "list" acc.toList.toArray 0), toks := tk }
  have h64' : acc.toList.length < 64 := by rw [Array.length_toList, hacc.1, ← hl, hlk]; exact h64
  refine wpAny_bind (wpAny_holding (wpAny_call_entry slot_list_sort ⟨_, hoL, rfl⟩ entry_list_sort (list_sort_treeK strKind_oneLt hoL hS.keysOf (fun v1 v2 rest e => keyKind_strs (by rw [← e]; exact hS)) h64' fun st' a1 a2 => ⟨_, rfl, ?_⟩) (args_list_sort _)))
  obtain ⟨ss', b1, b2, b3⟩ := sorted_out_str hS a1 a2
  refine wpAny_pure ⟨_, rfl, ?_⟩
  obtain ⟨e, he⟩ := sortedHeap_at (out := (arrOf st').map (·.2)) hoL
  have hfr : H h'.objs.size = none := I1.hok.fresh (Nat.le_refl _)
  refine ⟨.ref h'.objs.size, _, I1.laid (a := h'.objs.size) (o := .lst (ss'.map V.str)) (t' := tk) (fun b o eb => ?_) (Nat.le_refl _) ⟨?_, ((arrOf st').map (·.2)).toList, e, vals_strs b1, by rw [Array.toArray_toList]; exact he⟩, rfl, q ss' b2 b3 _ hfr⟩
  · have lb : b < h'.objs.size := Heap.lt_size eb
    rw [sortedHeap_old (Nat.ne_of_lt lb) (by rw [size_push']; exact Nat.lt_succ_of_lt lb)]
    exact Heap.get?_push_of_some _ eb
  · rw [List.length_map, b2.length_eq]
    have := line63
    have : ks.length ≤ sizeLine := by rw [← hlk]; exact z
    exact this
end
/-! ### for x in reversed(l) -/
def Itv (K : PySem.W.Frag) (a : Addr) (n : Nat) : It :=
  ⟨fun i H => ∃ xs x, SqL K H a xs ∧ i < n ∧ xs[n - 1 - i]? = some x, fun i H x H' => H' = H ∧ ∀ xs, SqL K H a xs → xs[n - 1 - i]? = some x, fun i _ => n ≤ i⟩
theorem turn_rev {P : Program} {w : World} {K : PySem.W.Frag} {tg : Expr} (a it : Addr) (n : Nat) : Turn P w K tg (Itv K a n) [it] it (fun i h => i ≤ n ∧ h.IsRevIter it a ((n : Int) - 1 - (i : Int))) where
  mem := by simp
  obj := fun i h st b hb => by
    have e : b = it := by simpa using hb
    subst e
    obtain ⟨_, o, e, c, d⟩ := st
    exact ⟨o, e, fun v z => by rw [d] at z; cases z⟩
  keep := fun i h h' st k => ⟨st.1, st.2.at fun o e => k it (by simp) o e⟩
  item := by
    intro X hP hw hK hc i pins s σ H E I hf st hg
    subst hP hw hK
    obtain ⟨xs, x, hq, hi, hx⟩ := hg
    obtain ⟨its, rv, p, hz⟩ := I.list hq
    obtain ⟨u, hu, ru⟩ := rv.get hx
    obtain ⟨f0, f1, f2, f3, f4, f5⟩ := hf it (by simp)
    have e1 : (n : Int) - 1 - (i : Int) = ((n - 1 - i : Nat) : Int) := by omega
    have st1 := st.2
    rw [e1] at st1
    refine wpAny_pyNext_rev_item st1 p.isList (x := u) (by simpa using hu) fun h' st' sb => ?_
    have I1 : Inv X pins σ H { s with heap := h' } := I.turned (t' := s.toks) (fun b o hb e => (sb.2 b hb).trans e) f0 f1 f3 f4 f5
    have e2 : ((n - 1 - i : Nat) : Int) - 1 = (n : Int) - 1 - ((i + 1 : Nat) : Int) := by omega
    rw [e2] at st'
    obtain ⟨o, e, c, d⟩ := id st'
    exact ⟨u, rfl, go_of (s := { s with heap := h' }) e c d (by decide) ⟨x, H, I1, ru, ⟨rfl, fun ys hy => by rw [I.list_inj hy hq]; exact hx⟩, ⟨hi, st'⟩, fun b hb => (hf b hb).1⟩⟩
  done := by
    intro X hP hw hK hc i pins s σ H E I hf st hg
    subst hP hw hK
    obtain ⟨f0, f1, f2, f3, f4, f5⟩ := hf it (by simp)
    have hi : i = n := Nat.le_antisymm st.1 hg
    have st1 := st.2
    rw [show (n : Int) - 1 - (i : Int) = -1 by omega] at st1
    exact wpAny_pyNext_rev_end (I.ok.hd hc) st1 fun h' eb => ⟨rfl, I.turned (t' := s.toks) (fun b o hb e => eb b o hb e) f0 f1 f3 f4 f5⟩
  self := fun _ _ _ _ _ st h => wpAny_pyIter_revIter st.2 h
section
variable {X : Cx}
def iRev (K : PySem.W.Frag) (ta : TA) : TI := fun σ H R => ta σ H fun vs H1 => ∃ a xs, vs = [.ref a] ∧ SqL K H1 a xs ∧ R (Itv K a xs.length) H1
theorem pi_rev {l tg : Expr} {ta : TA} {p pos : Pos} (hg : Gl X "reversed") (hm : X.mg "reversed" = none) (ha : PA X [l] ta) (hs : starEach [l] X.env = [(false, eval l X.env)] := by rfl) :
    PI X tg (.Call (.Name "reversed" p) [l] [] pos) (iRev X.K ta) := by
  intro pins s σ H R I h
  refine Call_ (ld_blt I hg hm (u := .type "reversed") rfl (PyProof.Rows.callWith_type1 (thn (ha pos pins s σ H _ I h) fun us s1 ⟨vs, H1, I1, r1, a, xs, e, hq, q⟩ => ?_) hs rfl))
  subst e
  cases r1 with
  | cons r rr =>
    cases rr
    cases r
    obtain ⟨its, rv, p, hz⟩ := I1.list hq
    have hl := rv.length
    refine call_reversed_list p.isList ?_
    have hI : (s1.heap.push (revObj a ((its.toArray.size : Int) - 1))).IsRevIter s1.heap.objs.size a ((xs.length : Int) - 1 - ((0 : Nat) : Int)) := by
      refine ⟨_, Heap.get?_push_size _ rfl, rfl, ?_⟩
      show Data.fields #[.ref a, rawInt ((its.toArray.size : Int) - 1)] = _
      rw [show ((its.toArray.size : Int) - 1) = (xs.length : Int) - 1 - ((0 : Nat) : Int) by simp; omega]
    refine wpAny_pyIter_revIter (s := { s1 with heap := s1.heap.push (revObj a ((its.toArray.size : Int) - 1)) }) hI ?_
    refine ⟨s1.heap.objs.size, [s1.heap.objs.size], _, _, H1, rfl, I1.kept (t' := s1.toks) fun b o e => Heap.get?_push_of_some _ e, turn_rev a _ _, ⟨Nat.zero_le _, hI⟩, fun b hb => ?_, q⟩
    have e : b = s1.heap.objs.size := by simpa using hb
    subst e
    exact I1.fpOk (Nat.le_refl _) (I1.hok.fresh (Nat.le_refl _))
end
theorem a_irev {K : PySem.W.Frag} {ta : TA} {σ : St} {H : Hp} {R : It → Hp → Prop} (h : ta σ H fun vs H1 => ∃ a xs, vs = [.ref a] ∧ SqL K H1 a xs ∧ R (Itv K a xs.length) H1) : iRev K ta σ H R := h
theorem for_rev {K : PySem.W.Frag} {a : Addr} {xs : List V} {g : TG} {tb : TS} {D : Ends} {σ : St} {H : Hp} (Pv : Nat → St → Hp → Prop) (h0 : Pv 0 σ H)
    (hl : ∀ i σ H, i ≤ xs.length → Pv i σ H → SqL K H a xs)
    (hs : ∀ i x σ H, i < xs.length → xs[xs.length - 1 - i]? = some x → Pv i σ H → g x σ H fun σ2 H2 => tb { D with nx := Pv (i + 1), ct := Pv (i + 1), bk := D.nx } σ2 H2) (hd : ∀ σ H, Pv xs.length σ H → D.nx σ H) :
    ∃ W : Nat → Nat → St → Hp → Prop, (∃ m, W 0 m σ H) ∧ ∀ i m σ H, W i m σ H →
      ((Itv K a xs.length).stop i H ∧ D.nx σ H) ∨ ((Itv K a xs.length).go i H ∧ ∃ N : St → Hp → Prop, (∀ σ' H', N σ' H' → ∃ m', m' < m ∧ W (i + 1) m' σ' H') ∧ ∀ x H', (Itv K a xs.length).yld i H x H' → g x σ H' fun σ2 H2 => tb { D with nx := N, ct := N, bk := D.nx } σ2 H2) := by
  refine ⟨fun i m σ H => m = xs.length - i ∧ i ≤ xs.length ∧ Pv i σ H, ⟨xs.length, by simp, Nat.zero_le _, h0⟩, ?_⟩
  rintro i m σ H ⟨rfl, hi, p⟩
  have q := hl i σ H hi p
  rcases Nat.lt_or_ge i xs.length with hlt | hge
  · refine .inr ⟨⟨xs, xs[xs.length - 1 - i]'(by omega), q, hlt, by simp⟩, Pv (i + 1), fun σ' H' p' => ⟨xs.length - (i + 1), by omega, rfl, hlt, p'⟩, fun y H' z => ?_⟩
    obtain ⟨rfl, e3⟩ := z
    exact hs i y σ _ hlt (e3 xs q) p
  · obtain rfl : i = xs.length := by omega
    exact .inl ⟨Nat.le_refl _, hd σ H p⟩
/-! ### list(d.values()) -/
section
variable {X : Cx}
def tLV (td : TE) : TE := fun σ H Q => td σ H fun x H1 => ∃ a kvs, x = .ref a ∧ H1 a = some (.dK kvs) ∧ ∀ p, H1 p = none → Q (.ref p) (upd H1 p (.lst (kvs.map (·.2))))
theorem vals_vals {kvs : List (Key × V)} {vs : List (Key × Value)} {us : List Value} (r : KV kvs vs) (hl : us.length = kvs.length) (h : ∀ (j : Nat) u, us[j]? = some u → ∃ k, vs[j]? = some (k, u)) : Vals (kvs.map (·.2)) us := by
  induction kvs generalizing vs us with
  | nil => cases us with
    | nil => exact .nil
    | cons _ _ => simp at hl
  | cons p t ih =>
    cases us with
    | nil => simp at hl
    | cons u us =>
      unfold KV at r
      cases r with
      | cons h1 h2 =>
        rename_i q qs
        obtain ⟨k, e⟩ := h 0 u rfl
        have e2 : q = (k, u) := by simpa using e
        refine .cons (by rw [e2] at h1; exact h1.2) (ih (vs := qs) h2 (by simpa using hl) fun j w hw => ?_)
        obtain ⟨k', e'⟩ := h (j + 1) w (by simpa using hw)
        exact ⟨k', by simpa using e'⟩
theorem pe_listvals {o : Expr} {td : TE} {p apos cpos pos : Pos} (hc : X.calm = true) (hg : Gl X "list") (hm : X.mg "list" = none) (ho : PE X o td) (hbase : attributeBase o "values" X.env (eval o X.env) = eval o X.env) (hline : (apos.endLine == cpos.line) = true)
    (hs : starEach [.Call (.Attribute o "values" apos) [] [] cpos] X.env = [(false, eval (.Call (.Attribute o "values" apos) [] [] cpos) X.env)] := by rfl) :
    PE X (.Call (.Name "list" p) [.Call (.Attribute o "values" apos) [] [] cpos] [] pos) (tLV td) := by
  intro pins s σ H Q I h
  refine wpAny_Call_Name_kw (ld_blt I hg hm (u := .type "list") rfl ?_)
  refine PyProof.Rows.callWith_type1 ?_ hs rfl
  rw [hs]
  show wpAny _ _ (spliced ((false, eval (.Call (.Attribute o "values" apos) [] [] cpos) X.env) :: backTo pos [])) _ _ s
  refine Calls.spliced_cons ?_
  refine wpAny_Call_method0_late hbase hline (thn (ho pins s σ H _ I h) fun v s1 ⟨x, H1, I1, r1, a, kvs, ex, hH, q⟩ => ?_)
  subst ex
  obtain rfl : v = Value.ref a := r1
  obtain ⟨t1, t2, hd⟩ := isD_at I1 (.inl ⟨kvs, .inl hH⟩)
  refine ⟨"dict", "dict.values", PySem.F.plainAttrs_dict, PySem.F.slot_dict_values, PySem.F.type_dict_values, t1, t2, Calls.callWith_builtin rfl (PySem.evalArgs_none ?_)⟩
  obtain ⟨z, y, vs, r, dd⟩ := dk_of I1.hok hH
  refine call_meetsIn PySem.F.slot_dict_values t1 PySem.F.entry_dict_values (PySem.F.args_dict_values_1 _) (meets_dict_values (mixKind X.prog X.w) a hd) ⟨⟨vs, dd⟩, ?_⟩
  have I2 : Inv X pins σ H1 { s1 with heap := s1.heap.push { cls := .type "dict_values", data := .fields #[.ref a] } } := I1.kept (t' := s1.toks) fun b o e => Heap.get?_push_of_some _ e
  obtain ⟨ep, hat⟩ := dd.dictAt
  have hat2 := hat.push { cls := .type "dict_values", data := .fields #[.ref a] }
  have hl : kvs.length = vs.length := KV.length r
  refine Calls.spliced_nil ?_
  refine PySem.W.kdl_call (s := { s1 with heap := s1.heap.push { cls := .type "dict_values", data := .fields #[.ref a] } }) (PySem.W.kdl_values (knd := mixKind X.prog X.w) (kvs := vs) (ep := ep) (r := s1.heap.objs.size) (d := a)) (I.ok.hd hc) ⟨⟨_, Heap.get?_push_size _ rfl, rfl, rfl⟩, hat2⟩ (by rw [← hl]; exact z) fun h' tk acc' c' hk hS hacc => ?_
  have hfr : H1 (s1.heap.push { cls := .type "dict_values", data := .fields #[.ref a] }).objs.size = none := I2.hok.fresh (Nat.le_refl _)
  refine ⟨.ref _, _, I2.laid (o := .lst (kvs.map (·.2))) (h' := h') (t' := tk) hk (Nat.le_refl _) ⟨by rw [List.length_map]; exact z, acc'.toList, c', ?_, by rw [Array.toArray_toList]; exact hS⟩, rfl, q _ hfr⟩
  refine vals_vals r (by rw [Array.length_toList, hacc.1, hl]) fun j u hu => ?_
  exact hacc.2 j u (by rw [← Array.getElem?_toList]; exact hu)
end
end L2
namespace Vc
open PySem L2 Sf
theorem str_lt_anti {a b : List Nat} (h1 : ¬ a < b) (h2 : ¬ b < a) : a = b := by
  rw [List.not_lt] at h1 h2
  exact List.le_antisymm h2 h1
theorem sortedS_pw : ∀ (l : List Str), PyProof.Rows.sortedS l = true → l.Pairwise (fun a b => ¬ b.cps.toList < a.cps.toList)
  | [], _ => .nil
  | x :: r, h => by
    have tr : ∀ a b c : List Nat, ¬ b < a → ¬ c < b → ¬ c < a := fun a b c h1 h2 => by
      rw [List.not_lt] at h1 h2 ⊢
      exact List.le_trans h1 h2
    have gen : ∀ (r : List Str) (p : Str), PyProof.Rows.risingS p r = true → (p :: r).Pairwise (fun a b => ¬ b.cps.toList < a.cps.toList) := by
      intro r
      induction r with
      | nil => intro p _; exact List.pairwise_singleton _ _
      | cons y t ih =>
        intro p h
        have h' : (!PySem.Spec.ltCps y.cps.toList p.cps.toList && PyProof.Rows.risingS y t) = true := h
        rw [Bool.and_eq_true, PyProof.Rows.ltCps_eq] at h'
        have h1 : ¬ y.cps.toList < p.cps.toList := by simpa using h'.1
        have w := ih y h'.2
        refine List.pairwise_cons.mpr ⟨fun b hb => ?_, w⟩
        rcases List.mem_cons.mp hb with e | hb
        · rw [e]; exact h1
        · exact tr _ _ _ h1 ((List.pairwise_cons.mp w).1 b hb)
    exact gen r x h
theorem sorted_one {a b : List Str} (h1 : PyProof.Rows.sortedS a = true) (h2 : PyProof.Rows.sortedS b = true) (p : a.Perm b) : a = b := by
  refine List.Perm.eq_of_pairwise (le := fun a b => ¬ b.cps.toList < a.cps.toList) (fun x y _ _ e1 e2 => ?_) (sortedS_pw a h1) (sortedS_pw b h2) p
  have := str_lt_anti e2 e1
  cases x; cases y
  simpa using this
theorem Dk.vals {α : Type} {A : Rep α} {F : Hp} : ∀ {kvs : List (Key × V)} {m : List (Str × α)}, Dk A F kvs m → Al A F (kvs.map (·.2)) (m.map (·.2))
  | [], [], _ => True.intro
  | _ :: _, _ :: _, h => ⟨h.2.1, Dk.vals h.2.2⟩
  | [], _ :: _, h => h.elim
  | _ :: _, [], h => h.elim
theorem Dk.keys {α : Type} {A : Rep α} {F : Hp} : ∀ {kvs : List (Key × V)} {m : List (Str × α)}, Dk A F kvs m → kvs.map (·.1) = (m.map (·.1)).map (Sum.inr : Str → Key)
  | [], [], _ => rfl
  | p :: r, x :: s, h => by rw [List.map_cons, List.map_cons, List.map_cons, h.1, Dk.keys h.2.2]
  | [], _ :: _, h => h.elim
  | _ :: _, [], h => h.elim
theorem Dk.keyA {α : Type} {A : Rep α} {F : Hp} : ∀ {kvs : List (Key × V)} {m : List (Str × α)}, Dk A F kvs m → Al rS F (kvs.map fun kv => kV kv.1) (m.map (·.1))
  | [], [], _ => True.intro
  | p :: r, x :: s, h => ⟨by show kV p.1 = .str x.1; rw [h.1]; rfl, Dk.keyA h.2.2⟩
  | [], _ :: _, h => h.elim
  | _ :: _, [], h => h.elim
theorem al_strs {F : Hp} : ∀ {xs : List Str}, Al rS F (xs.map V.str) xs
  | [] => True.intro
  | _ :: _ => ⟨rfl, al_strs⟩
/-- the keys, sorted -/
noncomputable def srt (ks : List Str) : List Str := Classical.epsilon fun l => l.Perm ks ∧ PyProof.Rows.sortedS l = true
theorem srt_of {ks l : List Str} (h : l.Perm ks) (g : PyProof.Rows.sortedS l = true) : l = srt ks := by
  have := Classical.epsilon_spec (p := fun l : List Str => l.Perm ks ∧ PyProof.Rows.sortedS l = true) ⟨l, h, g⟩
  exact sorted_one g this.2 (h.trans this.1.symm)
section
variable {K : PySem.W.Frag} {F H : Hp} {Q : VK}
theorem a_sortD {α : Type} {A : Rep α} {a : Addr} {kvs : List (Key × V)} {m : List (Str × α)} (h : Rd H a (.dK kvs)) (dk : Dk A F kvs m) (hl : m.length < 64) (q : ∀ p, H p = none → Q (.ref p) (upd H p (.lst ((srt (m.map (·.1))).map V.str)))) :
    rSortD [V.ref a] H Q :=
  ⟨a, kvs, m.map (·.1), rfl, h, dk.keys, by rw [List.length_map]; exact hl, fun ks' e1 e2 p hp => by rw [srt_of e1 e2]; exact q p hp⟩
/-- two sums: dicts that tell the same, and the same fraction -/
theorem a_eqN2D {α β : Type} {A : Rep α} {B : Rep β} {n k : Nat} [Et K A n] [En K B k] {v w : V} {m m' : List (Str × α)} {y : β} (wd : Same F H) (h : r2 K (rD A) B F v (m, y)) (g : r2 K (rD A) B F w (m', y)) (hl : m.length = m'.length) (hg : ∀ k y, gtd m k = some y → gtd m' k = some y) (hn : n + 1 + k ≤ 40) (q : Q (.bl true) H) : rEqN K v w H Q := by
  obtain ⟨a, v1, v2, h1, h2, ⟨c, kc, e1, e2, e3, e4⟩, h4⟩ := h
  obtain ⟨b, w1, w2, g1, g2, ⟨d, kd, f1, f2, f3, f4⟩, g4⟩ := g
  have ed : EqN K H (n + 1) v1 w1 := .inr ⟨c, d, e1, f1, .inr ⟨kc, kd, wd.rd e2, wd.rd f2, dk_deq wd e3 f3 e4 hl hg⟩⟩
  exact ⟨n + 1 + k, a, b, _, _, hn, h1, g1, .inl ⟨wd.tup h2, wd.tup g2⟩, ⟨eqN_mono ed (by omega), eqN_mono (En.en wd h4 g4) (by omega), True.intro⟩, q⟩
end
end Vc

namespace Vc
open PySem L2 Sf
/-- what is lent to a call: it is read there, and it is the caller's own behind it -/
def lentD {α : Type} (A : Rep α) (F H : Hp) (v : V) (m : List (Str × α)) : Prop := ∃ p kvs, v = .ref p ∧ H p = some (.dK kvs) ∧ F p = none ∧ Dk A F kvs m ∧ (m.map (·.1)).Nodup
def lentL {α : Type} (A : Rep α) (F H : Hp) (v : V) (r : List α) : Prop := ∃ p vs, v = .ref p ∧ H p = some (.lst vs) ∧ F p = none ∧ Al A F vs r
theorem a_lv {td : TE} {σ : L2.St} {H : Hp} {Q : VK} (h : td σ H fun x H1 => ∃ a kvs, x = .ref a ∧ H1 a = some (.dK kvs) ∧ ∀ p, H1 p = none → Q (.ref p) (upd H1 p (.lst (kvs.map (·.2))))) : tLV td σ H Q := h
theorem cutA_in {α : Type} {xs : List α} {i : Nat} (a b : Nat) (h : i < (cutA xs (some (a : Int)) (some (b : Int))).length) : a + i < xs.length := by
  unfold cutA at h
  rw [HT.sIx_nat, HT.sIx_nat, List.length_take, List.length_drop] at h
  omega
theorem mem_nd {α : Type} {m : List (Str × α)} (n : (m.map (·.1)).Nodup) {x : Str} {y : α} (h : (x, y) ∈ m) : gtd m x = some y := by
  induction m with
  | nil => cases h
  | cons p r ih =>
    rw [List.map_cons, List.nodup_cons] at n
    rcases List.mem_cons.mp h with e | e
    · subst e; exact gtd_pos rfl
    · have ne : ¬ p.1 = x := fun z => n.1 (by rw [z]; exact List.mem_map.mpr ⟨_, e, rfl⟩)
      rw [gtd_neg ne]; exact ih n.2 e
theorem gtd_mem {α : Type} {m : List (Str × α)} {x : Str} {y : α} (h : gtd m x = some y) : (x, y) ∈ m := by
  induction m with
  | nil => cases h
  | cons p r ih =>
    by_cases e : p.1 = x
    · rw [gtd_pos e] at h; cases h; subst e; exact List.mem_cons_self ..
    · rw [gtd_neg e] at h; exact List.mem_cons_of_mem _ (ih h)
theorem ptd_new {α : Type} {m : List (Str × α)} {x : Str} {y : α} (h : ∀ p ∈ m, p.1 ≠ x) : ptd m x y = m ++ [(x, y)] := by
  unfold ptd
  rw [if_neg]
  intro z
  rw [List.any_eq_true] at z
  obtain ⟨p, hp, e⟩ := z
  exact h p hp (by simpa using e)
/-- the keys ahead of a place are others -/
theorem nd_take {α : Type} {m : List (Str × α)} (n : (m.map (·.1)).Nodup) {i : Nat} {x : Str} {y : α} (h : m[i]? = some (x, y)) : ∀ p ∈ m.take i, p.1 ≠ x := by
  intro p hp e
  obtain ⟨j, hj⟩ := List.getElem?_of_mem hp
  have hlt : j < i := by
    have := (List.getElem?_eq_some_iff.mp hj).1
    rw [List.length_take] at this
    omega
  rw [List.getElem?_take_of_lt hlt] at hj
  have e1 : (m.map (·.1))[j]? = some x := by rw [List.getElem?_map, hj, Option.map_some, e]
  have e2 : (m.map (·.1))[i]? = some x := by rw [List.getElem?_map, h]; rfl
  have := (List.getElem?_inj (List.getElem?_eq_some_iff.mp e1).1 n).mp (e1.trans e2.symm)
  omega
/-- the parts that are not 0 -/
def keepS (m : List (Str × Rat)) : List (Str × Rat) := m.filter fun p => !decide (p.2.num = 0)
theorem keep_put {m : List (Str × Rat)} (n : (m.map (·.1)).Nodup) {i : Nat} {x : Str} {q : Rat} (h : m[i]? = some (x, q)) (hq : ¬ q.num = 0) : ptd (keepS (m.take i)) x q = keepS (m.take (i + 1)) := by
  have hk : ∀ p ∈ keepS (m.take i), p.1 ≠ x := fun p hp => nd_take n h p (List.mem_filter.mp hp).1
  rw [ptd_new hk, List.take_add_one, h]
  unfold keepS
  rw [List.filter_append]
  congr 1
  have hq' : ¬ q = 0 := fun z => hq (by rw [z]; rfl)
  simp [hq']
theorem keep_skip {m : List (Str × Rat)} {i : Nat} {x : Str} {q : Rat} (h : m[i]? = some (x, q)) (hq : q.num = 0) : keepS (m.take i) = keepS (m.take (i + 1)) := by
  rw [List.take_add_one, h]
  unfold keepS
  rw [List.filter_append, Option.toList_some, List.filter_cons, List.filter_nil, hq]
  simp
theorem keep_len (m : List (Str × Rat)) : (keepS m).length ≤ m.length := List.length_filter_le _ _
theorem keep_nd {m : List (Str × Rat)} (n : (m.map (·.1)).Nodup) : ((keepS m).map (·.1)).Nodup := n.sublist (List.filter_sublist.map _)
theorem rev_put {α : Type} {m : List (Str × α)} (n : (m.map (·.1)).Nodup) {i : Nat} {x : Str} {y : α} (hi : i < m.length) (h : (m.map (·.1))[m.length - 1 - i]? = some x) (g : gtd m x = some y) : ptd (m.reverse.take i) x y = m.reverse.take (i + 1) := by
  have h1 : m[m.length - 1 - i]? = some (x, y) := by
    rw [List.getElem?_map] at h
    cases e : m[m.length - 1 - i]? with
    | none => rw [e] at h; cases h
    | some p =>
      rw [e] at h
      have hp : p.1 = x := Option.some.inj h
      have := mem_nd n (x := p.1) (y := p.2) (List.mem_of_getElem? e)
      rw [hp, g] at this
      cases this
      cases p
      simp at hp
      subst hp
      rfl
  have h2 : m.reverse[i]? = some (x, y) := by rw [List.getElem?_reverse hi]; exact h1
  have n2 : (m.reverse.map (·.1)).Nodup := by rw [List.map_reverse]; exact (List.pairwise_reverse.mpr (n.imp fun h => Ne.symm h))
  rw [ptd_new (nd_take n2 h2), List.take_add_one, h2]
  rfl
theorem keep_rev (m : List (Str × Rat)) : keepS m.reverse = (keepS m).reverse := by unfold keepS; rw [List.filter_reverse]
theorem gtd_rev {α : Type} {m : List (Str × α)} (n : (m.map (·.1)).Nodup) {x : Str} {y : α} (h : gtd m.reverse x = some y) : gtd m x = some y := mem_nd n (List.mem_reverse.mp (gtd_mem h))
theorem srt_len (ks : List Str) : (srt ks).length = ks.length := by
  have e : ∃ l : List Str, l.Perm ks ∧ PyProof.Rows.sortedS l = true := by
    refine ⟨ks.mergeSort (fun a b => !decide (b.cps.toList < a.cps.toList)), List.mergeSort_perm _ _, PyProof.Rows.sortedS_of_pairwise _ ?_⟩
    have := List.pairwise_mergeSort (le := fun a b : Str => !decide (b.cps.toList < a.cps.toList)) (fun a b c h1 h2 => by
      have h1' : ¬ b.cps.toList < a.cps.toList := by simpa using h1
      have h2' : ¬ c.cps.toList < b.cps.toList := by simpa using h2
      rw [List.not_lt] at h1' h2'
      have := List.not_lt.mpr (List.le_trans h1' h2')
      simpa using this) (fun a b => by
      rcases List.le_total a.cps.toList b.cps.toList with h | h
      · have := List.not_lt.mpr h
        simp [this]
      · have := List.not_lt.mpr h
        simp [this]) ks
    refine this.imp fun h => ?_
    rw [PyProof.Rows.ltCps_eq]
    simpa using h
  exact (Classical.epsilon_spec e).1.length_eq
end Vc

namespace L2
open PySem PySem.Spec PyProof.Rows
/-! ### a def with defaults -/
structure FunD (K : PySem.W.Frag) (x qual : Str) (st : Stmt) (f : Addr) (fd : FuncData) (ds : List Value) : Prop where
  ex : ∃ (oc : Value) (od : Option Addr) (kV doc pm : Value) (an : Option Addr) (cdv ct : Value) (osl : Array (Option Value)) (T : Addr) (o : Obj) (n : Nat),
    fd = PySem.W.fnOf x qual (defArgs st) (defBody st) (defScope st) (.ref T) kV doc pm an cdv ct ∧ K.lookup f = some ⟨oc, od, .func fd, osl⟩ ∧ PySem.W.codeIn K cdv qual = true ∧ K.lookup T = some o ∧ o.data = .seq ds.toArray n
  kp : PySem.W.keepIn K (.ref f) = true
section
variable {P : Program} {w : World} {K : PySem.W.Frag} {mg : Str → Option Value} {base : Heap}
theorem FunD.ok1 {x qual : Str} {st : Stmt} {f : Addr} {fd : FuncData} {ds : List Value} {N ps : List Str} {k : Nat} {sp : Sp} (F : FunD K x qual st f fd ds) (S : FnScope N ps (defScope st)) (len : ∀ vs H Q E, sp vs H Q E → vs.length = ps.length)
    (hbody : ∀ (cdv : Value) (A : Around) (outer : List Env) (s : Shared) (H : Hp) (vs : List V) (Q : VK) (E : XK), Room k (A.deeper (envOfC qual (defScope st) s.heap.objs.size f cdv)) → sp vs H Q E →
      ∃ t, PSs (cxOf (CX1 P w) P w K mg base N qual (defScope st) f cdv A outer s H E) (defBody st) t ∧ t { nx := fun _ H' => Q .non H', rt := Q } (start N vs) H) : FnOk P w K mg base (CX1 P w) (k + 1) f fd ps sp := by
  obtain ⟨oc, od, kV, doc, pm, an, cdv, ct, osl, T, o, n, rfl, lk, hcd, _⟩ := F.ex
  exact fn_of lk hcd S len fun A outer s H vs Q E hr hsp => hbody cdv A outer s H vs Q E hr hsp
theorem fund_mk {x qual : Str} {st : Stmt} {f T : Addr} {oc : Value} {od an : Option Addr} {osl : Array (Option Value)} {kV doc pm cdv ct : Value} {o : Obj} {ds : List Value} {n : Nat} (l : K.lookup f = some ⟨oc, od, .func (PySem.W.fnOf x qual (defArgs st) (defBody st) (defScope st) (.ref T) kV doc pm an cdv ct), osl⟩)
    (c : PySem.W.codeIn K cdv qual = true) (k : PySem.W.keepIn K (.ref f) = true) (lT : K.lookup T = some o) (hT : o.data = .seq ds.toArray n) : FunD K x qual st f (PySem.W.fnOf x qual (defArgs st) (defBody st) (defScope st) (.ref T) kV doc pm an cdv ct) ds := ⟨⟨oc, od, kV, doc, pm, an, cdv, ct, osl, T, o, n, rfl, l, c, lT, hT⟩, k⟩
theorem FunD.binds {x qual : Str} {st : Stmt} {f : Addr} {fd : FuncData} {ps : List Str} {ds ds' : List Value} (F : FunD K x qual st f fd ds)
    (h : ∀ (T : Addr) (kV doc pm : Value) (an : Option Addr) (cdv ct : Value) (us : List Value), (us ++ ds').length = ps.length → ∃ k : Option (Array Value) → Sem (List (Str × Value)),
      bindArgs (PySem.W.fnOf x qual (defArgs st) (defBody st) (defScope st) (.ref T) kV doc pm an cdv ct) ⟨us, []⟩ = (seqItems? (.ref T) >>= k) ∧ k (some ds.toArray) = pure (ps.zip (us ++ ds'))) : Binds K fd ps ds' := by
  obtain ⟨oc, od, kV, doc, pm, an, cdv, ct, osl, T, o, n, rfl, lk, hcd, lT, hT⟩ := F.ex
  intro s us X hl
  obtain ⟨k, h1, h2⟩ := h T kV doc pm an cdv ct us hl
  exact BindsTo.of_defaults (T := T) (o := o) rfl (X _ _ lT) hT h1 h2
end
/-! ### comprehensions over a tuple -/
section
variable {g : TG} {ti : TT} {te : TE} {ix : List (Option Nat)} {σ : St} {Q : VK}
theorem comp_tup {K : PySem.W.Frag} {a : Addr} {xs : List V} {H1 : Hp} (Pv : Nat → List V → Hp → Prop) (h0 : Pv 0 [] H1) (hl : ∀ i acc H, i ≤ xs.length → Pv i acc H → SqT K H a xs)
    (hs : ∀ i x acc H, xs[i]? = some x → Pv i acc H → g x (pickS ix σ) H fun σ2 H2 => Wk (pickS ix σ) σ2 ∧ ti σ2 H2 fun b H3 => if b = true then te σ2 H3 fun v H4 => acc.length < sizeLine ∧ Pv (i + 1) (acc ++ [v]) H4 else Pv (i + 1) acc H3)
    (hd : ∀ acc H, Pv xs.length acc H → acc.length ≤ sizeLine ∧ ∀ p, H p = none → Q (.ref p) (upd H p (.lst acc))) : CompW (Itt K a) g ti te ix σ Q H1 := by
  refine compw (n := xs.length) Pv h0 (fun i acc H hi p => ⟨xs, xs[i], hl i acc H (Nat.le_of_lt hi) p, by simp [hi]⟩) (fun acc H p => ⟨xs, hl _ acc H (Nat.le_refl _) p, Nat.le_refl _⟩) (fun i x acc H H' hi p y => ?_) hd
  obtain ⟨e, y⟩ := y
  subst e
  exact hs i x acc _ (y xs (hl i acc _ (Nat.le_of_lt hi) p)) p
end
end L2
namespace Vc
open PySem L2 Sf
def rIsx (K : PySem.W.Frag) : List V → Hp → VK → Prop := fun xs H Q => ∃ x c t b u, xs = [x, c] ∧ TyX K H x t ∧ clsV c = some u ∧ PySem.W.kitOne K t u = some b ∧ Q (.bl b) H
def rIse (K : PySem.W.Frag) : List V → Hp → VK → Prop := fun xs H Q => ∃ x D c b u, xs = [V.ref x, c] ∧ Rd H x (exO x D) ∧ ExcK K D ∧ clsV c = some u ∧ PySem.W.kitOne K (Value.ref D) u = some b ∧ Q (V.bl b) H
def r4 (K : PySem.W.Frag) {α β γ δ : Type} (A : Rep α) (B : Rep β) (C : Rep γ) (D : Rep δ) : Rep (α × β × γ × δ) := fun F v x => ∃ a v1 v2 v3 v4, v = .ref a ∧ SqT K F a [v1, v2, v3, v4] ∧ A F v1 x.1 ∧ B F v2 x.2.1 ∧ C F v3 x.2.2.1 ∧ D F v4 x.2.2.2
instance {K : PySem.W.Frag} {α β γ δ : Type} {A : Rep α} {B : Rep β} {C : Rep γ} {D : Rep δ} [Mo A] [Mo B] [Mo C] [Mo D] : Mo (r4 K A B C D) := ⟨fun e ⟨a, v1, v2, v3, v4, h1, h2, h3, h4, h5, h6⟩ => ⟨a, v1, v2, v3, v4, h1, e.tup h2, Mo.mo e h3, Mo.mo e h4, Mo.mo e h5, Mo.mo e h6⟩⟩
section
variable {K : PySem.W.Frag} {F H : Hp} {Q : VK}
theorem a_eqN3 {α β γ : Type} {A : Rep α} {B : Rep β} {C : Rep γ} {n m k : Nat} [En K A n] [En K B m] [En K C k] {v w : V} {x : α × β × γ} (wd : Same F H) (h : r3 K A B C F v x) (g : r3 K A B C F w x) (hn : n + m + k ≤ 40) (q : Q (.bl true) H) : rEqN K v w H Q := by
  obtain ⟨a, v1, v2, v3, h1, h2, h3, h4, h5⟩ := h
  obtain ⟨b, w1, w2, w3, g1, g2, g3, g4, g5⟩ := g
  exact ⟨n + m + k, a, b, _, _, hn, h1, g1, .inl ⟨wd.tup h2, wd.tup g2⟩, ⟨eqN_mono (En.en wd h3 g3) (by omega), eqN_mono (En.en wd h4 g4) (by omega), eqN_mono (En.en wd h5 g5) (by omega), True.intro⟩, q⟩
theorem a_eqN4 {α β γ δ : Type} {A : Rep α} {B : Rep β} {C : Rep γ} {D : Rep δ} {n m k l : Nat} [En K A n] [En K B m] [En K C k] [En K D l] {v w : V} {x : α × β × γ × δ} (wd : Same F H) (h : r4 K A B C D F v x) (g : r4 K A B C D F w x) (hn : n + m + k + l ≤ 40) (q : Q (.bl true) H) : rEqN K v w H Q := by
  obtain ⟨a, v1, v2, v3, v4, h1, h2, h3, h4, h5, h6⟩ := h
  obtain ⟨b, w1, w2, w3, w4, g1, g2, g3, g4, g5, g6⟩ := g
  exact ⟨n + m + k + l, a, b, _, _, hn, h1, g1, .inl ⟨wd.tup h2, wd.tup g2⟩, ⟨eqN_mono (En.en wd h3 g3) (by omega), eqN_mono (En.en wd h4 g4) (by omega), eqN_mono (En.en wd h5 g5) (by omega), eqN_mono (En.en wd h6 g6) (by omega), True.intro⟩, q⟩
/-- a text that is not in a tuple of texts -/
theorem a_inCn {p : Addr} {xs : List Str} {x : Str} (h : SqT K H p (xs.map V.str)) (q : Q (.bl (!decide (x ∈ xs))) H) : rIn K true (.str x) (.ref p) H Q := by
  refine ⟨p, xs.map V.str, rfl, .inr h, rfl, flat_strs xs, ?_⟩
  rw [if_pos rfl, inV_strs]; exact q
theorem a_inC {p : Addr} {xs : List Str} {x : Str} (h : SqT K H p (xs.map V.str)) (q : Q (.bl (decide (x ∈ xs))) H) : rIn K false (.str x) (.ref p) H Q := by
  refine ⟨p, xs.map V.str, rfl, .inr h, rfl, flat_strs xs, ?_⟩
  rw [if_neg (by simp), inV_strs]; exact q
theorem al_fr {F : Hp} (q : Rat) : Al rI F (fr q) [q.num, (q.den : Int)] := ⟨rfl, rfl, True.intro⟩
end
end Vc

namespace L2
open PySem PySem.Spec PyProof.Rows
/-! ### != through tuples and lists that hold dicts, where both are the same -/
def RnW (P : Program) (w : World) (A : Around) (s : Shared) (u v : Value) : Prop := ∀ (E : Value → Shared → Prop) (Q : Value → Shared → Prop), Q (.bool false) s → wpAny (model P w) A (richCompare .NotEq u v) Q E s
section
variable {P : Program} {w : World} {A : Around} {s : Shared}
section
open PySem.AutoSeq1 (wpAny_loadPart')
theorem tupNW (a b : Addr) (xs ys : Array Value) (n m : Nat) (da db : Option Addr) (sa sb : Array (Option Value)) (hz : xs.size = ys.size) :
    MeetsIn P w (Builtin.«tuple.__ne__» ⟨[.ref a, .ref b], []⟩) (fun A R s => s.heap.get? a = some ⟨.type "tuple", da, .seq xs n, sa⟩ ∧ s.heap.get? b = some ⟨.type "tuple", db, .seq ys m, sb⟩ ∧
      (∀ j (h1 : j < xs.size) (h2 : j < ys.size), EqW P w A.in1 s xs[j] ys[j]) ∧ R (.ok (.ret (.bool false))) s) := by
  refine .of_wp fun A R s h => ?_
  obtain ⟨hp, g, d, tk, os⟩ := s
  obtain ⟨ha, hb, he, hR⟩ := h
  have sub := AutoSeq1.sub_tuple_tuple
  have len : (xs.toList.zip ys.toList).length = xs.size := by simp; omega
  wp_walk using wpAny_loadPart' ha, wpAny_loadPart' hb, wpAny_forIn_list _ (fun r c s' => c.1 = none ∧ s' = ⟨hp, g, d, tk, os⟩ ∧ ∃ i, r = (xs.toList.zip ys.toList).drop i) _
  case turn =>
    rintro ⟨x, y⟩ r c s' ⟨hc, rfl, i, hr⟩
    by_cases lt : i < (xs.toList.zip ys.toList).length
    · rw [List.drop_eq_getElem_cons lt] at hr
      injection hr with e1 e2
      have i1 : i < xs.size := by omega
      have i2 : i < ys.size := by omega
      obtain ⟨ex, ey⟩ : x = xs[i] ∧ y = ys[i] := by
        have z := Prod.mk.inj (e1.trans List.getElem_zip)
        exact ⟨by simpa using z.1, by simpa using z.2⟩
      subst ex ey
      refine wpAny_bind (he i i1 i2 _ _ ?_)
      wp_walk
      exact ⟨rfl, rfl, i + 1, e2⟩
    · rw [List.drop_of_length_le (by omega)] at hr
      cases hr
  case fin =>
    rintro ⟨c1, c2⟩ s' ⟨hc, rfl, _⟩
    simp only at hc
    subst hc
    wp_walk
    refine ⟨_, rfl, ?_⟩
    simpa [Builtin.Tuple.tupleCompareSizes, hz] using hR
  case h => exact ⟨rfl, rfl, 0, rfl⟩
end
theorem RnW.tuples {a b : Addr} {xs ys : Array Value} (ha : IsTup s.heap a xs) (hb : IsTup s.heap b ys) (hz : xs.size = ys.size) (hu : A.units < cLine) (he : ∀ j (h1 : j < xs.size) (h2 : j < ys.size), EqW P w A.in1 s xs[j] ys[j]) : RnW P w A s (.ref a) (.ref b) := fun E Q q => by
  obtain ⟨⟨ca, da, xa, sa⟩, oa, ka, n, va⟩ := id ha
  obtain ⟨⟨cb, db, xb, sb⟩, ob, kb, m, vb⟩ := id hb
  simp only at ka va kb vb
  subst ka va kb vb
  refine wpAny_richCompare_same_room (op := .NotEq) (T := "tuple") ⟨_, oa, rfl⟩ ⟨_, ob, rfl⟩ PySem.F.slot_tuple_ne ?_ hu
  exact call_meetsIn PySem.F.slot_tuple_ne ⟨_, oa, rfl⟩ PySem.F.entry_tuple_ne (PySem.F.args_tuple_ne_2 _ _) (tupNW a b xs ys n m da db sa sb hz) ⟨oa, ob, he, ⟨(fun z => nomatch z), q⟩⟩
section
open PySem.AutoSeq1 (wpAny_loadPart')
open PySem.MeetsSeq PySem.MeetsSeq2 PySem.MeetsSeq3 PySem.SeqRoads2 PySem.SeqAt
theorem lstLoopNW (a b : Addr) (xs ys : Array Value) (n m : Nat) (da db : Option Addr) (sa sb : Array (Option Value)) (hz : xs.size = ys.size) : ∀ (k i : Nat), xs.size - i = k →
    MeetsIn P w (Builtin.«list.__eq__.loop» ⟨[.ref a, .ref b, rawInt i, rawInt 3], []⟩) (fun A R s => s.heap.get? a = some ⟨.type "list", da, .seq xs n, sa⟩ ∧ s.heap.get? b = some ⟨.type "list", db, .seq ys m, sb⟩ ∧
      (∀ j (h1 : j < xs.size) (h2 : j < ys.size), EqW P w A.in1 s xs[j] ys[j]) ∧ R (.ok (.ret (.bool false))) s)
  | 0, i, hk => fun A R s h => by
    obtain ⟨hp, g, d, tk, os⟩ := s
    obtain ⟨ha, hb, he, hR⟩ := h
    wp_walk using wpAny_loadPart' ha, wpAny_loadPart' hb
    have z1 : xs[((i : Nat) : Int).toNat]? = none := by simp; omega
    have z2 : ys[((i : Nat) : Int).toNat]? = none := by simp; omega
    rw [z1, z2]
    wp_walk using wpAny_loadPart' ha, wpAny_loadPart' hb
    show R (.ok (.ret (.bool (xs.size != ys.size)))) _
    rw [hz, bne_self_eq_false]
    exact hR
  | k + 1, i, hk => fun A R s h => by
    obtain ⟨hp, g, d, tk, os⟩ := s
    obtain ⟨ha, hb, he, hR⟩ := h
    wp_walk using wpAny_loadPart' ha, wpAny_loadPart' hb
    have i1 : i < xs.size := by omega
    have i2 : i < ys.size := by omega
    have z1 : xs[((i : Nat) : Int).toNat]? = some xs[i] := by simp [i1]
    have z2 : ys[((i : Nat) : Int).toNat]? = some ys[i] := by simp [i2]
    rw [z1, z2]
    refine wpAny_bind (he i i1 i2 _ _ ?_)
    wp_walk
    have up : ((i : Int) + 1) = ((i + 1 : Nat) : Int) := Int.natCast_succ i
    rw [up]
    refine ⟨plainId_quiet plain_eq_loop _, codeAny_builtin entry_eq_loop ?_⟩
    rw [Around.under_plainId plain_eq_loop _]
    exact lstLoopNW a b xs ys n m da db sa sb hz k (i + 1) (by omega) A R _ ⟨ha, hb, he, hR⟩
theorem lstNW (a b : Addr) (xs ys : Array Value) (n m : Nat) (da db : Option Addr) (sa sb : Array (Option Value)) (hz : xs.size = ys.size) :
    MeetsIn P w (Builtin.«list.__ne__» ⟨[.ref a, .ref b], []⟩) (fun A R s => s.heap.get? a = some ⟨.type "list", da, .seq xs n, sa⟩ ∧ s.heap.get? b = some ⟨.type "list", db, .seq ys m, sb⟩ ∧
      (∀ j (h1 : j < xs.size) (h2 : j < ys.size), EqW P w A.in1 s xs[j] ys[j]) ∧ R (.ok (.ret (.bool false))) s) := fun A R s h => by
  obtain ⟨hp, g, d, tk, os⟩ := s
  obtain ⟨ha, hb, he, hR⟩ := h
  have sub := AutoSeq1.sub_list_list
  have same : ¬ (xs.size != ys.size) = true := by simp [hz]
  wp_walk using wpAny_loadPart' ha, wpAny_loadPart' hb
  refine ⟨plainId_quiet plain_eq_loop _, codeAny_builtin entry_eq_loop ?_⟩
  rw [Around.under_plainId plain_eq_loop _]
  exact lstLoopNW a b xs ys n m da db sa sb hz _ 0 rfl A R _ ⟨ha, hb, he, hR⟩
end
theorem RnW.lists {a b : Addr} {xs ys : Array Value} (ha : s.heap.IsList a xs) (hb : s.heap.IsList b ys) (hz : xs.size = ys.size) (hu : A.units < cLine) (he : ∀ j (h1 : j < xs.size) (h2 : j < ys.size), EqW P w A.in1 s xs[j] ys[j]) : RnW P w A s (.ref a) (.ref b) := fun E Q q => by
  obtain ⟨⟨ca, da, xa, sa⟩, oa, ka, n, va⟩ := id ha
  obtain ⟨⟨cb, db, xb, sb⟩, ob, kb, m, vb⟩ := id hb
  simp only at ka va kb vb
  subst ka va kb vb
  refine wpAny_richCompare_same_room (op := .NotEq) (T := "list") ⟨_, oa, rfl⟩ ⟨_, ob, rfl⟩ PySem.F.slot_list_ne ?_ hu
  exact call_meetsIn PySem.F.slot_list_ne ⟨_, oa, rfl⟩ PySem.F.entry_list_ne (PySem.F.args_list_ne_2 _ _) (lstNW a b xs ys n m da db sa sb hz) ⟨oa, ob, he, ⟨(fun z => nomatch z), q⟩⟩
end
section
variable {X : Cx} {pins : List (Addr × Obj)} {σ : St} {H : Hp} {s : Shared}
theorem rnW_seq {A : Around} {p q : Addr} {xs ys : List V} (I : Inv X pins σ H s) (hk : (SqT X.K H p xs ∧ SqT X.K H q ys) ∨ (SqL X.K H p xs ∧ SqL X.K H q ys)) (hu : A.units < cLine) (hl : xs.length = ys.length)
    (he : ∀ (j : Nat) x y u v, xs[j]? = some x → ys[j]? = some y → RelV x u → RelV y v → EqW X.prog X.w A.in1 s u v) : RnW X.prog X.w A s (.ref p) (.ref q) := by
  have fin : ∀ (us vs : List Value), Vals xs us → Vals ys vs → ∀ j (h1 : j < us.toArray.size) (h2 : j < vs.toArray.size), EqW X.prog X.w A.in1 s us.toArray[j] vs.toArray[j] := by
    intro us vs r1 r2 j h1 h2
    have l1 := r1.length
    have l2 := r2.length
    simp only [List.size_toArray] at h1 h2
    obtain ⟨u, e1, ru⟩ := r1.get (i := j) (x := xs[j]'(by omega)) (by simp)
    obtain ⟨v, e2, rv⟩ := r2.get (i := j) (x := ys[j]'(by omega)) (by simp)
    obtain ⟨_, f1⟩ := List.getElem?_eq_some_iff.mp e1
    obtain ⟨_, f2⟩ := List.getElem?_eq_some_iff.mp e2
    have g1 : us.toArray[j]'(by simpa using h1) = u := by simpa using f1
    have g2 : vs.toArray[j]'(by simpa using h2) = v := by simpa using f2
    rw [g1, g2]
    exact he j _ _ u v (by simp) (by simp) ru rv
  rcases hk with ⟨h1, h2⟩ | ⟨h1, h2⟩
  · obtain ⟨us, r1, t1, _⟩ := I.tuple h1
    obtain ⟨vs, r2, t2, _⟩ := I.tuple h2
    have l1 := r1.length
    have l2 := r2.length
    exact RnW.tuples t1 t2 (by simp; omega) hu (fin us vs r1 r2)
  · obtain ⟨us, r1, t1, _⟩ := I.list h1
    obtain ⟨vs, r2, t2, _⟩ := I.list h2
    have l1 := r1.length
    have l2 := r2.length
    exact RnW.lists t1.isList t2.isList (by simp; omega) hu (fin us vs r1 r2)
end
section
variable {X : Cx}
def rNeN (K : PySem.W.Frag) : R2 := fun x y H Q => rEqN K x y H fun _ _ => Q (.bl false) H
theorem op_neN (hu : X.A.units + 64 < cLine) : OpR X (compareOp .NotEq) (rNeN X.K) := by
  intro pins s σ H x y v u Q I rx ry h
  obtain ⟨n, p, q, xs, ys, hn, rfl, rfl, hk, al, hq⟩ := h
  cases rx
  cases ry
  refine rnW_seq I hk (by omega) al.length (fun j x y u v h1 h2 r1 r2 => ?_) X.xe _ ⟨.bl false, H, I, rfl, hq⟩
  exact eqN_at I n (A := X.A.in1) (al.get h1 h2) r1 r2 (by rw [in1_units]; omega)
end
end L2
namespace Vc
open PySem L2 Sf
section
variable {K : PySem.W.Frag} {F H : Hp} {Q : VK}
theorem a_neN {v w : V} (h : ∀ Q' : VK, Q' (.bl true) H → rEqN K v w H Q') (q : Q (.bl false) H) : rNeN K v w H Q := h (fun _ _ => Q (.bl false) H) q
theorem a_eqNL {α : Type} {A : Rep α} {n : Nat} [En K A n] {v w : V} {x : List α} (wd : Same F H) (h : rL K A F v x) (g : rL K A F w x) (hn : n ≤ 40) (q : Q (.bl true) H) : rEqN K v w H Q := by
  obtain ⟨a, vs, h1, h2, h3⟩ := h
  obtain ⟨b, ws, g1, g2, g3⟩ := g
  exact ⟨n, a, b, _, _, hn, h1, g1, .inr ⟨wd.seq h2, wd.seq g2⟩, al_en wd h3 g3, q⟩
end
/-! ### what is told may be changed: its parts are new -/
/-- a list of tuples that begin with a dict: list, tuples and dicts stand in F, and the dicts (and the list) were not there in H0 -/
def DeepA (F H0 : Hp) (vs : List V) : Prop := ∀ u ∈ vs, ∃ t d xs kvs, u = V.ref t ∧ F t = some (.tup (V.ref d :: xs)) ∧ F d = some (.dK kvs) ∧ H0 d = none
def Deep (F H0 : Hp) (v : V) : Prop := ∃ p vs, v = V.ref p ∧ H0 p = none ∧ F p = some (.lst vs) ∧ DeepA F H0 vs
theorem DeepA.same {F F' H0 : Hp} {vs : List V} (h : DeepA F H0 vs) (s : Same F F') : DeepA F' H0 vs := fun u hu => by
  obtain ⟨t, d, xs, kvs, e, h1, h2, h3⟩ := h u hu
  exact ⟨t, d, xs, kvs, e, s _ _ h1, s _ _ h2, h3⟩
theorem DeepA.nil {F H0 : Hp} : DeepA F H0 [] := fun u hu => nomatch hu
theorem DeepA.snoc {F H0 : Hp} {vs : List V} {t d : Addr} {xs : List V} {kvs : List (Key × V)} (h : DeepA F H0 vs) (h1 : F t = some (.tup (V.ref d :: xs))) (h2 : F d = some (.dK kvs)) (h3 : H0 d = none) : DeepA F H0 (vs ++ [V.ref t]) := fun u hu => by
  rcases List.mem_append.mp hu with z | z
  · exact h u z
  · rw [List.mem_singleton.mp z]; exact ⟨t, d, xs, kvs, rfl, h1, h2, h3⟩
/-- .. by the heap alone, behind the dicts that were cleared -/
def DeepH (H Hb F : Hp) (vs : List V) : Prop := ∀ u ∈ vs, ∃ t d xs kvs, u = V.ref t ∧ H t = some (.tup (V.ref d :: xs)) ∧ H d = some (.dK kvs) ∧ Hb d = none ∧ F d = none
theorem DeepA.h {F F0 H H0 Hb : Hp} {vs : List V} (h : DeepA F H0 vs) (s : Same F H) (sb : Same Hb H0) (sf : Same F0 H0) : DeepH H Hb F0 vs := fun u hu => by
  obtain ⟨t, d, xs, kvs, e, h1, h2, h3⟩ := h u hu
  exact ⟨t, d, xs, kvs, e, s _ _ h1, s _ _ h2, sb.free h3, sf.free h3⟩
theorem DeepH.upd {H Hb F : Hp} {vs : List V} {d : Addr} (h : DeepH H Hb F vs) {kv : List (Key × V)} (hd : H d = some (.dK kv)) : DeepH (upd H d (.dK [])) Hb F vs := fun u hu => by
  obtain ⟨t, d', xs, kvs, e, h1, h2, h3, h4⟩ := h u hu
  have n1 : t ≠ d := fun z => by rw [z, hd] at h1; cases h1
  by_cases z : d' = d
  · subst z
    exact ⟨t, d', xs, [], e, by rw [upd_ne n1]; exact h1, upd_same, h3, h4⟩
  · exact ⟨t, d', xs, kvs, e, by rw [upd_ne n1]; exact h1, by rw [upd_ne z]; exact h2, h3, h4⟩
theorem gr_back {Fb Hb F H H' : Hp} (gb : Gr0 Fb Hb F H) (s : Same H H') : Gr0 Fb Hb F H' := ⟨gb.h.trans s, gb.f, gb.s.trans s, gb.n⟩
theorem gr_updN {Fb Hb F H : Hp} {p : Addr} {o : HO} (gb : Gr0 Fb Hb F H) (hb : Hb p = none) (hf : F p = none) : Gr0 Fb Hb F (upd H p o) := ⟨gb.h.updN hb, gb.f, gb.s.updN hf, gb.n⟩
end Vc

namespace Sf
open PySem L2 Vc
def top (i : Nat) : Stmt := PySem.Challenge.pw_springframe_k71_rows_at_a_width.main.body.getD i (.Pass ⟨0, 0, 0, 0⟩)
abbrev s_part : Stmt := top 4
abbrev s_greatest_divisor : Stmt := top 5
abbrev s_plus : Stmt := top 6
abbrev s_times : Stmt := top 7
abbrev s_rows_at : Stmt := top 9
abbrev s_law_cell_at : Stmt := top 11
abbrev s_law_mix : Stmt := top 12
abbrev s_law_divisor : Stmt := top 13
abbrev s_law_lowest : Stmt := top 14
abbrev s_law_number : Stmt := top 15
abbrev s_law_growing : Stmt := top 16
abbrev s_law_width : Stmt := top 17
abbrev s_law_copy : Stmt := top 18
abbrev s_law_whole : Stmt := top 19
abbrev s_law_right : Stmt := top 20
abbrev s_law : Stmt := top 21
theorem sc_part : FnScope ["top", "bottom", "divisor"] ["top", "bottom"] (defScope s_part) := ⟨rfl, rfl, rfl, by decide +kernel, rfl, by decide +kernel, by decide +kernel⟩
theorem sc_greatest_divisor : FnScope ["one", "other", "remainder"] ["one", "other"] (defScope s_greatest_divisor) := ⟨rfl, rfl, rfl, by decide +kernel, rfl, by decide +kernel, by decide +kernel⟩
theorem sc_plus : FnScope ["one", "other"] ["one", "other"] (defScope s_plus) := ⟨rfl, rfl, rfl, by decide +kernel, rfl, by decide +kernel, by decide +kernel⟩
theorem sc_times : FnScope ["one", "other"] ["one", "other"] (defScope s_times) := ⟨rfl, rfl, rfl, by decide +kernel, rfl, by decide +kernel, by decide +kernel⟩
theorem sc_rows_at : FnScope ["growing", "width"] ["growing", "width"] (defScope s_rows_at) := ⟨rfl, rfl, rfl, by decide +kernel, rfl, by decide +kernel, by decide +kernel⟩
theorem sc_law_cell_at : FnScope ["_law_script", "_law_k"] ["_law_script", "_law_k"] (defScope s_law_cell_at) := ⟨rfl, rfl, rfl, by decide +kernel, rfl, by decide +kernel, by decide +kernel⟩
theorem sc_law_mix : FnScope ["_law_cell", "_law_k", "_law_number_here"] ["_law_cell", "_law_k"] (defScope s_law_mix) := ⟨rfl, rfl, rfl, by decide +kernel, rfl, by decide +kernel, by decide +kernel⟩
theorem sc_law_divisor : FnScope ["_law_one", "_law_other"] ["_law_one", "_law_other"] (defScope s_law_divisor) := ⟨rfl, rfl, rfl, by decide +kernel, rfl, by decide +kernel, by decide +kernel⟩
theorem sc_law_lowest : FnScope ["_law_top", "_law_bottom", "_law_both"] ["_law_top", "_law_bottom"] (defScope s_law_lowest) := ⟨rfl, rfl, rfl, by decide +kernel, rfl, by decide +kernel, by decide +kernel⟩
theorem sc_law_number : FnScope ["_law_cell", "_law_k", "_law_way"] ["_law_cell", "_law_k"] (defScope s_law_number) := ⟨rfl, rfl, rfl, by decide +kernel, rfl, by decide +kernel, by decide +kernel⟩
theorem sc_law_growing : FnScope ["_law_cell", "_law_parts", "_law_k", "_law_number_here", "_law_kind", "_law_rank"] ["_law_cell"] (defScope s_law_growing) := ⟨rfl, rfl, rfl, by decide +kernel, rfl, by decide +kernel, by decide +kernel⟩
theorem sc_law_width : FnScope ["_law_first", "_law_way"] ["_law_first"] (defScope s_law_width) := ⟨rfl, rfl, rfl, by decide +kernel, rfl, by decide +kernel, by decide +kernel⟩
theorem sc_law_copy : FnScope ["_law_growing_here"] ["_law_growing_here"] (defScope s_law_copy) := ⟨rfl, rfl, rfl, by decide +kernel, rfl, by decide +kernel, by decide +kernel⟩
theorem sc_law_whole : FnScope ["_law_found"] ["_law_found"] (defScope s_law_whole) := ⟨rfl, rfl, rfl, by decide +kernel, rfl, by decide +kernel, by decide +kernel⟩
theorem sc_law_right : FnScope ["_law_found", "_law_growing_here", "_law_width_here", "_law_one", "_law_pair", "_law_other", "_law_pace", "_law_number_here", "_law_by", "_law_top", "_law_due"] ["_law_found", "_law_growing_here", "_law_width_here"] (defScope s_law_right) := ⟨rfl, rfl, rfl, by decide +kernel, rfl, by decide +kernel, by decide +kernel⟩
theorem sc_law : FnScope ["_law_script", "_law_first", "_law_growing_here", "_law_width_here", "_law_handed", "_law_found", "_law_one"] ["_law_script"] (defScope s_law) := ⟨rfl, rfl, rfl, by decide +kernel, rfl, by decide +kernel, by decide +kernel⟩
structure Tx (K : PySem.W.Frag) (mg : Str → Option Value) where
  a_part : Addr
  d_part : FuncData
  F_part : Fun K "part" "part" s_part a_part d_part
  b_part : Binds K d_part ["top", "bottom"] []
  m_part : mg "part" = some (.ref a_part)
  a_greatest_divisor : Addr
  d_greatest_divisor : FuncData
  F_greatest_divisor : Fun K "greatest_divisor" "greatest_divisor" s_greatest_divisor a_greatest_divisor d_greatest_divisor
  b_greatest_divisor : Binds K d_greatest_divisor ["one", "other"] []
  m_greatest_divisor : mg "greatest_divisor" = some (.ref a_greatest_divisor)
  a_plus : Addr
  d_plus : FuncData
  F_plus : Fun K "plus" "plus" s_plus a_plus d_plus
  b_plus : Binds K d_plus ["one", "other"] []
  m_plus : mg "plus" = some (.ref a_plus)
  a_times : Addr
  d_times : FuncData
  F_times : Fun K "times" "times" s_times a_times d_times
  b_times : Binds K d_times ["one", "other"] []
  m_times : mg "times" = some (.ref a_times)
  a_rows_at : Addr
  d_rows_at : FuncData
  F_rows_at : Fun K "rows_at" "rows_at" s_rows_at a_rows_at d_rows_at
  b_rows_at : Binds K d_rows_at ["growing", "width"] []
  m_rows_at : mg "rows_at" = some (.ref a_rows_at)
  a_law_cell_at : Addr
  d_law_cell_at : FuncData
  F_law_cell_at : Fun K "_law_cell_at" "_law_cell_at" s_law_cell_at a_law_cell_at d_law_cell_at
  b_law_cell_at : Binds K d_law_cell_at ["_law_script", "_law_k"] []
  m_law_cell_at : mg "_law_cell_at" = some (.ref a_law_cell_at)
  a_law_mix : Addr
  d_law_mix : FuncData
  F_law_mix : Fun K "_law_mix" "_law_mix" s_law_mix a_law_mix d_law_mix
  b_law_mix : Binds K d_law_mix ["_law_cell", "_law_k"] []
  m_law_mix : mg "_law_mix" = some (.ref a_law_mix)
  a_law_divisor : Addr
  d_law_divisor : FuncData
  F_law_divisor : Fun K "_law_divisor" "_law_divisor" s_law_divisor a_law_divisor d_law_divisor
  b_law_divisor : Binds K d_law_divisor ["_law_one", "_law_other"] []
  m_law_divisor : mg "_law_divisor" = some (.ref a_law_divisor)
  a_law_lowest : Addr
  d_law_lowest : FuncData
  F_law_lowest : Fun K "_law_lowest" "_law_lowest" s_law_lowest a_law_lowest d_law_lowest
  b_law_lowest : Binds K d_law_lowest ["_law_top", "_law_bottom"] []
  m_law_lowest : mg "_law_lowest" = some (.ref a_law_lowest)
  a_law_number : Addr
  d_law_number : FuncData
  F_law_number : Fun K "_law_number" "_law_number" s_law_number a_law_number d_law_number
  b_law_number : Binds K d_law_number ["_law_cell", "_law_k"] []
  m_law_number : mg "_law_number" = some (.ref a_law_number)
  a_law_growing : Addr
  d_law_growing : FuncData
  F_law_growing : Fun K "_law_growing" "_law_growing" s_law_growing a_law_growing d_law_growing
  b_law_growing : Binds K d_law_growing ["_law_cell"] []
  m_law_growing : mg "_law_growing" = some (.ref a_law_growing)
  a_law_width : Addr
  d_law_width : FuncData
  F_law_width : Fun K "_law_width" "_law_width" s_law_width a_law_width d_law_width
  b_law_width : Binds K d_law_width ["_law_first"] []
  m_law_width : mg "_law_width" = some (.ref a_law_width)
  a_law_copy : Addr
  d_law_copy : FuncData
  F_law_copy : Fun K "_law_copy" "_law_copy" s_law_copy a_law_copy d_law_copy
  b_law_copy : Binds K d_law_copy ["_law_growing_here"] []
  m_law_copy : mg "_law_copy" = some (.ref a_law_copy)
  a_law_whole : Addr
  d_law_whole : FuncData
  F_law_whole : Fun K "_law_whole" "_law_whole" s_law_whole a_law_whole d_law_whole
  b_law_whole : Binds K d_law_whole ["_law_found"] []
  m_law_whole : mg "_law_whole" = some (.ref a_law_whole)
  a_law_right : Addr
  d_law_right : FuncData
  F_law_right : Fun K "_law_right" "_law_right" s_law_right a_law_right d_law_right
  b_law_right : Binds K d_law_right ["_law_found", "_law_growing_here", "_law_width_here"] []
  m_law_right : mg "_law_right" = some (.ref a_law_right)
  a_law : Addr
  d_law : FuncData
  F_law : Fun K "law" "law" s_law a_law d_law
  b_law : Binds K d_law ["_law_script"] []
  m_law : mg "law" = some (.ref a_law)
  z_abs : mg "abs" = none
  z_len : mg "len" = none
  z_range : mg "range" = none
  z_isinstance : mg "isinstance" = none
  z_tuple : mg "tuple" = none
  z_bool : mg "bool" = none
  z_int : mg "int" = none
  z_dict : mg "dict" = none
  z_list : mg "list" = none
  z_zip : mg "zip" = none
def tx_mk {K : PySem.W.Frag} {h : Heap} {mg : Str → Option Value} (X : K.In h) (G : h.Ns mainGlobals mg)
    {f0 : Addr} {od0 an0 : Option Addr} {sl0 : Array (Option Value)} {oc0 kV0 dc0 pm0 cd0 ct0 : Value}
    {f1 : Addr} {od1 an1 : Option Addr} {sl1 : Array (Option Value)} {oc1 kV1 dc1 pm1 cd1 ct1 : Value}
    {f2 : Addr} {od2 an2 : Option Addr} {sl2 : Array (Option Value)} {oc2 kV2 dc2 pm2 cd2 ct2 : Value}
    {f3 : Addr} {od3 an3 : Option Addr} {sl3 : Array (Option Value)} {oc3 kV3 dc3 pm3 cd3 ct3 : Value}
    {f4 : Addr} {od4 an4 : Option Addr} {sl4 : Array (Option Value)} {oc4 kV4 dc4 pm4 cd4 ct4 : Value}
    {f5 : Addr} {od5 an5 : Option Addr} {sl5 : Array (Option Value)} {oc5 kV5 dc5 pm5 cd5 ct5 : Value}
    {f6 : Addr} {od6 an6 : Option Addr} {sl6 : Array (Option Value)} {oc6 kV6 dc6 pm6 cd6 ct6 : Value}
    {f7 : Addr} {od7 an7 : Option Addr} {sl7 : Array (Option Value)} {oc7 kV7 dc7 pm7 cd7 ct7 : Value}
    {f8 : Addr} {od8 an8 : Option Addr} {sl8 : Array (Option Value)} {oc8 kV8 dc8 pm8 cd8 ct8 : Value}
    {f9 : Addr} {od9 an9 : Option Addr} {sl9 : Array (Option Value)} {oc9 kV9 dc9 pm9 cd9 ct9 : Value}
    {f10 : Addr} {od10 an10 : Option Addr} {sl10 : Array (Option Value)} {oc10 kV10 dc10 pm10 cd10 ct10 : Value}
    {f11 : Addr} {od11 an11 : Option Addr} {sl11 : Array (Option Value)} {oc11 kV11 dc11 pm11 cd11 ct11 : Value}
    {f12 : Addr} {od12 an12 : Option Addr} {sl12 : Array (Option Value)} {oc12 kV12 dc12 pm12 cd12 ct12 : Value}
    {f13 : Addr} {od13 an13 : Option Addr} {sl13 : Array (Option Value)} {oc13 kV13 dc13 pm13 cd13 ct13 : Value}
    {f14 : Addr} {od14 an14 : Option Addr} {sl14 : Array (Option Value)} {oc14 kV14 dc14 pm14 cd14 ct14 : Value}
    {f15 : Addr} {od15 an15 : Option Addr} {sl15 : Array (Option Value)} {oc15 kV15 dc15 pm15 cd15 ct15 : Value}
    (e0 : PySem.W.nsIn K mainGlobals "part" = some (some (.ref f0)))
    (l0 : K.lookup f0 = some ⟨oc0, od0, .func (PySem.W.fnOf "part" "part" (defArgs s_part) (defBody s_part) (defScope s_part) .none kV0 dc0 pm0 an0 cd0 ct0), sl0⟩)
    (c0 : PySem.W.codeIn K cd0 "part" = true)
    (k0 : PySem.W.keepIn K (.ref f0) = true)
    (e1 : PySem.W.nsIn K mainGlobals "greatest_divisor" = some (some (.ref f1)))
    (l1 : K.lookup f1 = some ⟨oc1, od1, .func (PySem.W.fnOf "greatest_divisor" "greatest_divisor" (defArgs s_greatest_divisor) (defBody s_greatest_divisor) (defScope s_greatest_divisor) .none kV1 dc1 pm1 an1 cd1 ct1), sl1⟩)
    (c1 : PySem.W.codeIn K cd1 "greatest_divisor" = true)
    (k1 : PySem.W.keepIn K (.ref f1) = true)
    (e2 : PySem.W.nsIn K mainGlobals "plus" = some (some (.ref f2)))
    (l2 : K.lookup f2 = some ⟨oc2, od2, .func (PySem.W.fnOf "plus" "plus" (defArgs s_plus) (defBody s_plus) (defScope s_plus) .none kV2 dc2 pm2 an2 cd2 ct2), sl2⟩)
    (c2 : PySem.W.codeIn K cd2 "plus" = true)
    (k2 : PySem.W.keepIn K (.ref f2) = true)
    (e3 : PySem.W.nsIn K mainGlobals "times" = some (some (.ref f3)))
    (l3 : K.lookup f3 = some ⟨oc3, od3, .func (PySem.W.fnOf "times" "times" (defArgs s_times) (defBody s_times) (defScope s_times) .none kV3 dc3 pm3 an3 cd3 ct3), sl3⟩)
    (c3 : PySem.W.codeIn K cd3 "times" = true)
    (k3 : PySem.W.keepIn K (.ref f3) = true)
    (e4 : PySem.W.nsIn K mainGlobals "rows_at" = some (some (.ref f4)))
    (l4 : K.lookup f4 = some ⟨oc4, od4, .func (PySem.W.fnOf "rows_at" "rows_at" (defArgs s_rows_at) (defBody s_rows_at) (defScope s_rows_at) .none kV4 dc4 pm4 an4 cd4 ct4), sl4⟩)
    (c4 : PySem.W.codeIn K cd4 "rows_at" = true)
    (k4 : PySem.W.keepIn K (.ref f4) = true)
    (e5 : PySem.W.nsIn K mainGlobals "_law_cell_at" = some (some (.ref f5)))
    (l5 : K.lookup f5 = some ⟨oc5, od5, .func (PySem.W.fnOf "_law_cell_at" "_law_cell_at" (defArgs s_law_cell_at) (defBody s_law_cell_at) (defScope s_law_cell_at) .none kV5 dc5 pm5 an5 cd5 ct5), sl5⟩)
    (c5 : PySem.W.codeIn K cd5 "_law_cell_at" = true)
    (k5 : PySem.W.keepIn K (.ref f5) = true)
    (e6 : PySem.W.nsIn K mainGlobals "_law_mix" = some (some (.ref f6)))
    (l6 : K.lookup f6 = some ⟨oc6, od6, .func (PySem.W.fnOf "_law_mix" "_law_mix" (defArgs s_law_mix) (defBody s_law_mix) (defScope s_law_mix) .none kV6 dc6 pm6 an6 cd6 ct6), sl6⟩)
    (c6 : PySem.W.codeIn K cd6 "_law_mix" = true)
    (k6 : PySem.W.keepIn K (.ref f6) = true)
    (e7 : PySem.W.nsIn K mainGlobals "_law_divisor" = some (some (.ref f7)))
    (l7 : K.lookup f7 = some ⟨oc7, od7, .func (PySem.W.fnOf "_law_divisor" "_law_divisor" (defArgs s_law_divisor) (defBody s_law_divisor) (defScope s_law_divisor) .none kV7 dc7 pm7 an7 cd7 ct7), sl7⟩)
    (c7 : PySem.W.codeIn K cd7 "_law_divisor" = true)
    (k7 : PySem.W.keepIn K (.ref f7) = true)
    (e8 : PySem.W.nsIn K mainGlobals "_law_lowest" = some (some (.ref f8)))
    (l8 : K.lookup f8 = some ⟨oc8, od8, .func (PySem.W.fnOf "_law_lowest" "_law_lowest" (defArgs s_law_lowest) (defBody s_law_lowest) (defScope s_law_lowest) .none kV8 dc8 pm8 an8 cd8 ct8), sl8⟩)
    (c8 : PySem.W.codeIn K cd8 "_law_lowest" = true)
    (k8 : PySem.W.keepIn K (.ref f8) = true)
    (e9 : PySem.W.nsIn K mainGlobals "_law_number" = some (some (.ref f9)))
    (l9 : K.lookup f9 = some ⟨oc9, od9, .func (PySem.W.fnOf "_law_number" "_law_number" (defArgs s_law_number) (defBody s_law_number) (defScope s_law_number) .none kV9 dc9 pm9 an9 cd9 ct9), sl9⟩)
    (c9 : PySem.W.codeIn K cd9 "_law_number" = true)
    (k9 : PySem.W.keepIn K (.ref f9) = true)
    (e10 : PySem.W.nsIn K mainGlobals "_law_growing" = some (some (.ref f10)))
    (l10 : K.lookup f10 = some ⟨oc10, od10, .func (PySem.W.fnOf "_law_growing" "_law_growing" (defArgs s_law_growing) (defBody s_law_growing) (defScope s_law_growing) .none kV10 dc10 pm10 an10 cd10 ct10), sl10⟩)
    (c10 : PySem.W.codeIn K cd10 "_law_growing" = true)
    (k10 : PySem.W.keepIn K (.ref f10) = true)
    (e11 : PySem.W.nsIn K mainGlobals "_law_width" = some (some (.ref f11)))
    (l11 : K.lookup f11 = some ⟨oc11, od11, .func (PySem.W.fnOf "_law_width" "_law_width" (defArgs s_law_width) (defBody s_law_width) (defScope s_law_width) .none kV11 dc11 pm11 an11 cd11 ct11), sl11⟩)
    (c11 : PySem.W.codeIn K cd11 "_law_width" = true)
    (k11 : PySem.W.keepIn K (.ref f11) = true)
    (e12 : PySem.W.nsIn K mainGlobals "_law_copy" = some (some (.ref f12)))
    (l12 : K.lookup f12 = some ⟨oc12, od12, .func (PySem.W.fnOf "_law_copy" "_law_copy" (defArgs s_law_copy) (defBody s_law_copy) (defScope s_law_copy) .none kV12 dc12 pm12 an12 cd12 ct12), sl12⟩)
    (c12 : PySem.W.codeIn K cd12 "_law_copy" = true)
    (k12 : PySem.W.keepIn K (.ref f12) = true)
    (e13 : PySem.W.nsIn K mainGlobals "_law_whole" = some (some (.ref f13)))
    (l13 : K.lookup f13 = some ⟨oc13, od13, .func (PySem.W.fnOf "_law_whole" "_law_whole" (defArgs s_law_whole) (defBody s_law_whole) (defScope s_law_whole) .none kV13 dc13 pm13 an13 cd13 ct13), sl13⟩)
    (c13 : PySem.W.codeIn K cd13 "_law_whole" = true)
    (k13 : PySem.W.keepIn K (.ref f13) = true)
    (e14 : PySem.W.nsIn K mainGlobals "_law_right" = some (some (.ref f14)))
    (l14 : K.lookup f14 = some ⟨oc14, od14, .func (PySem.W.fnOf "_law_right" "_law_right" (defArgs s_law_right) (defBody s_law_right) (defScope s_law_right) .none kV14 dc14 pm14 an14 cd14 ct14), sl14⟩)
    (c14 : PySem.W.codeIn K cd14 "_law_right" = true)
    (k14 : PySem.W.keepIn K (.ref f14) = true)
    (e15 : PySem.W.nsIn K mainGlobals "law" = some (some (.ref f15)))
    (l15 : K.lookup f15 = some ⟨oc15, od15, .func (PySem.W.fnOf "law" "law" (defArgs s_law) (defBody s_law) (defScope s_law) .none kV15 dc15 pm15 an15 cd15 ct15), sl15⟩)
    (c15 : PySem.W.codeIn K cd15 "law" = true)
    (k15 : PySem.W.keepIn K (.ref f15) = true)
    (z0 : PySem.W.nsIn K mainGlobals "abs" = some none)
    (z1 : PySem.W.nsIn K mainGlobals "len" = some none)
    (z2 : PySem.W.nsIn K mainGlobals "range" = some none)
    (z3 : PySem.W.nsIn K mainGlobals "isinstance" = some none)
    (z4 : PySem.W.nsIn K mainGlobals "tuple" = some none)
    (z5 : PySem.W.nsIn K mainGlobals "bool" = some none)
    (z6 : PySem.W.nsIn K mainGlobals "int" = some none)
    (z7 : PySem.W.nsIn K mainGlobals "dict" = some none)
    (z8 : PySem.W.nsIn K mainGlobals "list" = some none)
    (z9 : PySem.W.nsIn K mainGlobals "zip" = some none)
    : Tx K mg where
  a_part := f0
  d_part := _
  F_part := fun_mk (st := s_part) l0 c0 k0
  b_part := (fun_mk (st := s_part) l0 c0 k0).binds (ps := ["top", "bottom"]) fun _ _ _ _ _ _ us hl => match us, hl with | [_, _], _ => rfl
  m_part := PySem.W.mg_of X G e0
  a_greatest_divisor := f1
  d_greatest_divisor := _
  F_greatest_divisor := fun_mk (st := s_greatest_divisor) l1 c1 k1
  b_greatest_divisor := (fun_mk (st := s_greatest_divisor) l1 c1 k1).binds (ps := ["one", "other"]) fun _ _ _ _ _ _ us hl => match us, hl with | [_, _], _ => rfl
  m_greatest_divisor := PySem.W.mg_of X G e1
  a_plus := f2
  d_plus := _
  F_plus := fun_mk (st := s_plus) l2 c2 k2
  b_plus := (fun_mk (st := s_plus) l2 c2 k2).binds (ps := ["one", "other"]) fun _ _ _ _ _ _ us hl => match us, hl with | [_, _], _ => rfl
  m_plus := PySem.W.mg_of X G e2
  a_times := f3
  d_times := _
  F_times := fun_mk (st := s_times) l3 c3 k3
  b_times := (fun_mk (st := s_times) l3 c3 k3).binds (ps := ["one", "other"]) fun _ _ _ _ _ _ us hl => match us, hl with | [_, _], _ => rfl
  m_times := PySem.W.mg_of X G e3
  a_rows_at := f4
  d_rows_at := _
  F_rows_at := fun_mk (st := s_rows_at) l4 c4 k4
  b_rows_at := (fun_mk (st := s_rows_at) l4 c4 k4).binds (ps := ["growing", "width"]) fun _ _ _ _ _ _ us hl => match us, hl with | [_, _], _ => rfl
  m_rows_at := PySem.W.mg_of X G e4
  a_law_cell_at := f5
  d_law_cell_at := _
  F_law_cell_at := fun_mk (st := s_law_cell_at) l5 c5 k5
  b_law_cell_at := (fun_mk (st := s_law_cell_at) l5 c5 k5).binds (ps := ["_law_script", "_law_k"]) fun _ _ _ _ _ _ us hl => match us, hl with | [_, _], _ => rfl
  m_law_cell_at := PySem.W.mg_of X G e5
  a_law_mix := f6
  d_law_mix := _
  F_law_mix := fun_mk (st := s_law_mix) l6 c6 k6
  b_law_mix := (fun_mk (st := s_law_mix) l6 c6 k6).binds (ps := ["_law_cell", "_law_k"]) fun _ _ _ _ _ _ us hl => match us, hl with | [_, _], _ => rfl
  m_law_mix := PySem.W.mg_of X G e6
  a_law_divisor := f7
  d_law_divisor := _
  F_law_divisor := fun_mk (st := s_law_divisor) l7 c7 k7
  b_law_divisor := (fun_mk (st := s_law_divisor) l7 c7 k7).binds (ps := ["_law_one", "_law_other"]) fun _ _ _ _ _ _ us hl => match us, hl with | [_, _], _ => rfl
  m_law_divisor := PySem.W.mg_of X G e7
  a_law_lowest := f8
  d_law_lowest := _
  F_law_lowest := fun_mk (st := s_law_lowest) l8 c8 k8
  b_law_lowest := (fun_mk (st := s_law_lowest) l8 c8 k8).binds (ps := ["_law_top", "_law_bottom"]) fun _ _ _ _ _ _ us hl => match us, hl with | [_, _], _ => rfl
  m_law_lowest := PySem.W.mg_of X G e8
  a_law_number := f9
  d_law_number := _
  F_law_number := fun_mk (st := s_law_number) l9 c9 k9
  b_law_number := (fun_mk (st := s_law_number) l9 c9 k9).binds (ps := ["_law_cell", "_law_k"]) fun _ _ _ _ _ _ us hl => match us, hl with | [_, _], _ => rfl
  m_law_number := PySem.W.mg_of X G e9
  a_law_growing := f10
  d_law_growing := _
  F_law_growing := fun_mk (st := s_law_growing) l10 c10 k10
  b_law_growing := (fun_mk (st := s_law_growing) l10 c10 k10).binds (ps := ["_law_cell"]) fun _ _ _ _ _ _ us hl => match us, hl with | [_], _ => rfl
  m_law_growing := PySem.W.mg_of X G e10
  a_law_width := f11
  d_law_width := _
  F_law_width := fun_mk (st := s_law_width) l11 c11 k11
  b_law_width := (fun_mk (st := s_law_width) l11 c11 k11).binds (ps := ["_law_first"]) fun _ _ _ _ _ _ us hl => match us, hl with | [_], _ => rfl
  m_law_width := PySem.W.mg_of X G e11
  a_law_copy := f12
  d_law_copy := _
  F_law_copy := fun_mk (st := s_law_copy) l12 c12 k12
  b_law_copy := (fun_mk (st := s_law_copy) l12 c12 k12).binds (ps := ["_law_growing_here"]) fun _ _ _ _ _ _ us hl => match us, hl with | [_], _ => rfl
  m_law_copy := PySem.W.mg_of X G e12
  a_law_whole := f13
  d_law_whole := _
  F_law_whole := fun_mk (st := s_law_whole) l13 c13 k13
  b_law_whole := (fun_mk (st := s_law_whole) l13 c13 k13).binds (ps := ["_law_found"]) fun _ _ _ _ _ _ us hl => match us, hl with | [_], _ => rfl
  m_law_whole := PySem.W.mg_of X G e13
  a_law_right := f14
  d_law_right := _
  F_law_right := fun_mk (st := s_law_right) l14 c14 k14
  b_law_right := (fun_mk (st := s_law_right) l14 c14 k14).binds (ps := ["_law_found", "_law_growing_here", "_law_width_here"]) fun _ _ _ _ _ _ us hl => match us, hl with | [_, _, _], _ => rfl
  m_law_right := PySem.W.mg_of X G e14
  a_law := f15
  d_law := _
  F_law := fun_mk (st := s_law) l15 c15 k15
  b_law := (fun_mk (st := s_law) l15 c15 k15).binds (ps := ["_law_script"]) fun _ _ _ _ _ _ us hl => match us, hl with | [_], _ => rfl
  m_law := PySem.W.mg_of X G e15
  z_abs := PySem.W.mg_none_of X G z0
  z_len := PySem.W.mg_none_of X G z1
  z_range := PySem.W.mg_none_of X G z2
  z_isinstance := PySem.W.mg_none_of X G z3
  z_tuple := PySem.W.mg_none_of X G z4
  z_bool := PySem.W.mg_none_of X G z5
  z_int := PySem.W.mg_none_of X G z6
  z_dict := PySem.W.mg_none_of X G z7
  z_list := PySem.W.mg_none_of X G z8
  z_zip := PySem.W.mg_none_of X G z9
section
variable {P : Program} {w : World} {K : PySem.W.Frag} {mg : Str → Option Value} {base : Heap}
local macro_rules | `(tactic| walk_at "v0") => `(tactic| first
  | with_reducible refine a_asg ?_
  | with_reducible refine a_name ?_
  | with_reducible refine a_ret ?_
  | with_reducible refine a_drop ?_
  | with_reducible refine a_next ?_
  | with_reducible refine a_if ?_
  | ((with_reducible refine' a_var ?ve ?_); (case ve => rfl))
  | with_reducible refine a_c ?_
  | with_reducible refine a_op ?_
  | with_reducible refine a_un ?_
  | with_reducible refine a_I0 ?_
  | with_reducible refine a_U ?_
  | with_reducible refine a_test ?_
  | with_reducible refine a_tB ?_
  | with_reducible refine a_bl ?_
  | with_reducible refine a_eqI ?_
  | with_reducible refine a_neI ?_
  | with_reducible refine a_eqB ?_
  | with_reducible refine a_neB ?_
  | with_reducible refine a_call ?_
  | with_reducible refine a_cons ?_
  | with_reducible refine a_nil ?_
  | with_reducible refine a_cb ?_
  | with_reducible refine a_tup ?_
  | with_reducible refine a_lst ?_
  | with_reducible refine a_and ?_
  | with_reducible refine a_or ?_
  | with_reducible refine a_not ?_
  | with_reducible refine a_andV ?_
  | with_reducible refine a_orV ?_
  | with_reducible refine a_notV ?_
  | with_reducible refine a_ifE ?_
  | with_reducible refine a_sl ?_
  | with_reducible refine a_part ?_
  | with_reducible refine a_noPart ?_
  | with_reducible refine a_pint ?_
  | with_reducible refine a_par ?_
  | with_reducible refine a_par2 ?_
  | dsimp only)
local macro_rules | `(tactic| walk_at "v") => `(tactic| first | with_reducible refine a_seq ?_ | walk_at "v0")
local macro_rules | `(tactic| walk_at "vt") => `(tactic| repeat walk_at "v0")
local macro_rules | `(tactic| walk_at "vs") => `(tactic| repeat walk_at "v")
local macro_rules | `(tactic| walk_at "o") => `(tactic| first | assumption | omega | rfl | trivial | decide | (refine ⟨?_, ?_⟩ <;> walk_at "o"))
local macro_rules | `(tactic| walk_at "ol") => `(tactic| first | omega | (simp only [List.length_cons, List.length_nil, List.length_append]; omega))
local macro_rules | `(tactic| walk_at "om") => `(tactic| first | exact mulL2 (by omega) (by omega) | exact mulR2 (by omega) (by omega) | exact mulLB (by omega) | exact mulRB (by omega) | exact mulBB (by omega) (by omega))
local macro_rules | `(tactic| walk_at "od") => `(tactic| first | exact divB (by omega) (by omega))
/-! ### numbers -/
def sp_gd : Sp := fun vs H Q _ => ∃ a b : Int, vs = [.int a, .int b] ∧ 0 ≤ a ∧ 0 ≤ b ∧ Q (.int (gd a b)) H
theorem ok_greatest_divisor (T : Tx K mg) : FnOk P w K mg base CX0 1 T.a_greatest_divisor T.d_greatest_divisor ["one", "other"] sp_gd := by
  refine T.F_greatest_divisor.ok sc_greatest_divisor (fun vs H Q E h => ?_) (fun cdv A outer s H vs Q E hr h => ?_)
  · obtain ⟨a, b, rfl, _⟩ := h
    rfl
  · obtain ⟨a, b, rfl, ha, hb, k⟩ := h
    refine ⟨_, (@pss_cons _ _ _ _ _ (ps_while PassesOwn.never (pt_cmpR op_ne (pv 1) pe_int (nomark _)) (@pss_cons _ _ _ _ _ (ps_set (i := 2) sc_greatest_divisor.nd rfl (Or.inl rfl) (pe_op op_mod (pv 0) (pv 1)))
      (@pss_cons _ _ _ _ _ (ps_set (i := 0) sc_greatest_divisor.nd rfl (Or.inl rfl) (pv 1))
      (pss_one (ps_set (i := 1) sc_greatest_divisor.nd rfl (Or.inl rfl) (pv 2))))))
      (pss_one (ps_ret (pv 0)))), ?_⟩
    refine a_seq ?_
    refine ⟨fun m σ H' => ∃ (x y : Int) (z : Option V), σ = [some (.int x), some (.int y), z] ∧ H' = H ∧ 0 ≤ x ∧ 0 ≤ y ∧ gd x y = gd a b ∧ m = y.toNat, ⟨b.toNat, a, b, none, rfl, rfl, ha, hb, rfl, rfl⟩, ?_⟩
    rintro m σ H' ⟨x, y, z, rfl, rfl, hx, hy, e, rfl⟩
    walk_at "vs"
    refine iteDN (fun hne => ?_) (fun hz => ?_)
    · refine ⟨fun σ' H' => ∃ (x' y' : Int) (z : Option V), σ' = [some (.int x'), some (.int y'), z] ∧ H' = _ ∧ 0 ≤ x' ∧ 0 ≤ y' ∧ gd x' y' = gd a b ∧ y'.toNat < y.toNat, fun σ' H' ⟨x', y', z', e1, e2, e3, e4, e5, e6⟩ => ⟨y'.toNat, e6, x', y', z', e1, e2, e3, e4, e5, rfl⟩, ?_⟩
      walk_at "vs"
      refine a_I (by omega) ?_
      walk_at "vs"
      refine ⟨y, x % y, _, rfl, rfl, hy, Int.emod_nonneg _ hne, ?_, ?_⟩
      · rw [gd_mod hx (by omega)]; exact e
      · have := Int.emod_lt_of_pos x (show 0 < y by omega)
        have := Int.emod_nonneg x hne
        omega
    · walk_at "vs"
      rw [hz, gd_zero x hx] at e
      rw [e]
      exact k
def sp_part : Sp := fun vs H Q _ => ∃ t b : Int, vs = [.int t, .int b] ∧ b ≠ 0 ∧ b.natAbs < 2 ^ 8000 ∧ ∀ p, H p = none → Q (.ref p) (upd H p (.tup (fr (Rat.divInt t b))))
theorem gd_le {t b : Int} (h : b ≠ 0) : (gd t b).natAbs ≤ b.natAbs := by
  have h1 := gd_dvd_r t b
  have h2 := Int.natAbs_dvd_natAbs.mpr h1
  exact Nat.le_of_dvd (by omega) h2
theorem dv_le {t b : Int} (h : b ≠ 0) : (dv t b).natAbs ≤ b.natAbs := by
  have := gd_le (t := t) h
  unfold dv
  split
  · rw [Int.natAbs_neg]; exact this
  · exact this
theorem ok_part (T : Tx K mg) : FnOk P w K mg base CX0 2 T.a_part T.d_part ["top", "bottom"] sp_part := by
  refine T.F_part.ok sc_part (fun vs H Q E h => ?_) (fun cdv A outer s H vs Q E hr h => ?_)
  · obtain ⟨a, b, rfl, _⟩ := h
    rfl
  · obtain ⟨t, b, rfl, hb, hz, k⟩ := h
    refine ⟨_, (@pss_cons _ _ _ _ _ (ps_if (pt_cmpR op_eq (pv 1) pe_int (nomark _)) (pss_one ps_never) pss_nil)
      (@pss_cons _ _ _ _ _ (ps_set (i := 2) sc_part.nd rfl (Or.inl rfl) (pe_call ((ok_greatest_divisor T).mono (by decide)) hr rfl T.m_greatest_divisor T.F_greatest_divisor.kp T.b_greatest_divisor .nil pass0 (pa_cons (pe_callB call_abs rfl T.z_abs rfl (pa_cons (pv 0) pa_nil)) (pa_cons (pe_callB call_abs rfl T.z_abs rfl (pa_cons (pv 1) pa_nil)) pa_nil))))
      (@pss_cons _ _ _ _ _ (ps_if (pt_cmpR op_lt (pv 1) pe_int (nomark _)) (pss_one (ps_set (i := 2) sc_part.nd rfl (Or.inl rfl) (pe_un un_neg (pv 2)))) pss_nil)
      (pss_one (ps_ret (pe_tup (pa_cons (pe_op op_fdivB (pv 0) (pv 2)) (pa_cons (pe_op op_fdivB (pv 1) (pv 2)) pa_nil)))))))), ?_⟩
    walk_at "vs"
    refine iteDF hb ?_
    walk_at "vs"
    refine ⟨t, rfl, ?_⟩
    walk_at "vs"
    refine ⟨b, rfl, ?_⟩
    walk_at "vs"
    have e : gd (if t < 0 then -t else t) (if b < 0 then -b else b) = gd t b := gd_abs' t b
    refine ⟨_, _, rfl, (by split <;> omega), (by split <;> omega), ?_⟩
    rw [e]
    have hd := dv_ne (t := t) hb
    have hl : (dv t b).natAbs < 2 ^ 8000 := Nat.lt_of_le_of_lt (dv_le hb) hz
    have fin : ∀ p, H p = none → Q (.ref p) (upd H p (.tup [.int (t.fdiv (dv t b)), .int (b.fdiv (dv t b))])) := fun p hp => by
      rw [part_num hb, part_den hb]
      exact k p hp
    walk_at "vs"
    refine iteD (fun hn => ?_) (fun hn => ?_)
    · have ed : -(gd t b) = dv t b := by unfold dv; rw [if_pos hn]
      walk_at "vs"
      rw [ed]
      refine a_I ⟨hd, hl⟩ ?_
      walk_at "vs"
      refine a_I ⟨hd, hl⟩ ?_
      walk_at "vs"
      exact ⟨by show 2 ≤ sizeLine; decide, fin⟩
    · have ed : gd t b = dv t b := by unfold dv; rw [if_neg hn]
      walk_at "vs"
      rw [ed]
      refine a_I ⟨hd, hl⟩ ?_
      walk_at "vs"
      refine a_I ⟨hd, hl⟩ ?_
      walk_at "vs"
      exact ⟨by show 2 ≤ sizeLine; decide, fin⟩
def sp_two (f : Rat → Rat → Rat) (K : PySem.W.Frag) : Sp := fun vs H Q _ => ∃ (a b : Addr) (p q : Rat), vs = [.ref a, .ref b] ∧ SqT K H a (fr p) ∧ SqT K H b (fr q) ∧ Sm 3900 p ∧ Sm 3900 q ∧ ∀ c, H c = none → Q (.ref c) (upd H c (.tup (fr (f p q))))
theorem mulB {x y : Int} (h1 : x.natAbs < 2 ^ 3900) (h2 : y.natAbs < 2 ^ 3900) : CMulX x y := .inr ⟨3900, by decide, h1, h2⟩
theorem ok_plus (T : Tx K mg) : FnOk P w K mg base CX0 3 T.a_plus T.d_plus ["one", "other"] (sp_two (· + ·) K) := by
  refine T.F_plus.ok sc_plus (fun vs H Q E h => ?_) (fun cdv A outer s H vs Q E hr h => ?_)
  · obtain ⟨a, b, p, q, rfl, _⟩ := h
    rfl
  · obtain ⟨a, b, p, q, rfl, ta, tb, sp, sq, k⟩ := h
    refine ⟨_, (pss_one (ps_ret (pe_call ((ok_part T).mono (by decide)) hr rfl T.m_part T.F_part.kp T.b_part .nil pass0 (pa_cons (pe_op op_add (pe_op op_mulB (pe_ix ix_tup (pv 0) pe_int (fun _ _ => rfl)) (pe_ix ix_tup (pv 1) pe_int (fun _ _ => rfl))) (pe_op op_mulB (pe_ix ix_tup (pv 1) pe_int (fun _ _ => rfl)) (pe_ix ix_tup (pv 0) pe_int (fun _ _ => rfl)))) (pa_cons (pe_op op_mulB (pe_ix ix_tup (pv 0) pe_int (fun _ _ => rfl)) (pe_ix ix_tup (pv 1) pe_int (fun _ _ => rfl))) pa_nil))))), ?_⟩
    have d1 := den_abs sp
    have d2 := den_abs sq
    walk_at "vs"
    refine a_ixT ta (fr0 p) ?_
    walk_at "vs"
    refine a_ixT tb (fr1 q) ?_
    refine a_I (mulB sp.1 d2) ?_
    walk_at "vs"
    refine a_ixT tb (fr0 q) ?_
    walk_at "vs"
    refine a_ixT ta (fr1 p) ?_
    refine a_I (mulB sq.1 d1) ?_
    walk_at "vs"
    refine a_ixT ta (fr1 p) ?_
    walk_at "vs"
    refine a_ixT tb (fr1 q) ?_
    refine a_I (mulB d1 d2) ?_
    walk_at "vs"
    refine ⟨_, _, rfl, dens_ne p q, up2 (abs_mul_lt d1 d2) (by decide), fun c hc => ?_⟩
    have e := add_divInt p q
    rw [← e]
    exact k c hc
theorem ok_times (T : Tx K mg) : FnOk P w K mg base CX0 3 T.a_times T.d_times ["one", "other"] (sp_two (· * ·) K) := by
  refine T.F_times.ok sc_times (fun vs H Q E h => ?_) (fun cdv A outer s H vs Q E hr h => ?_)
  · obtain ⟨a, b, p, q, rfl, _⟩ := h
    rfl
  · obtain ⟨a, b, p, q, rfl, ta, tb, sp, sq, k⟩ := h
    refine ⟨_, (pss_one (ps_ret (pe_call ((ok_part T).mono (by decide)) hr rfl T.m_part T.F_part.kp T.b_part .nil pass0 (pa_cons (pe_op op_mulB (pe_ix ix_tup (pv 0) pe_int (fun _ _ => rfl)) (pe_ix ix_tup (pv 1) pe_int (fun _ _ => rfl))) (pa_cons (pe_op op_mulB (pe_ix ix_tup (pv 0) pe_int (fun _ _ => rfl)) (pe_ix ix_tup (pv 1) pe_int (fun _ _ => rfl))) pa_nil))))), ?_⟩
    have d1 := den_abs sp
    have d2 := den_abs sq
    walk_at "vs"
    refine a_ixT ta (fr0 p) ?_
    walk_at "vs"
    refine a_ixT tb (fr0 q) ?_
    refine a_I (mulB sp.1 sq.1) ?_
    walk_at "vs"
    refine a_ixT ta (fr1 p) ?_
    walk_at "vs"
    refine a_ixT tb (fr1 q) ?_
    refine a_I (mulB d1 d2) ?_
    walk_at "vs"
    refine ⟨_, _, rfl, dens_ne p q, up2 (abs_mul_lt d1 d2) (by decide), fun c hc => ?_⟩
    have e := mul_divInt p q
    rw [← e]
    exact k c hc
theorem bi_mono {x y : Int} (h : x.natAbs ≤ y.natAbs) : bi x ≤ bi y := bi_lt (Nat.lt_of_le_of_lt h (lt_bi (Nat.le_refl _)))
theorem gd_abs0 (x : Int) : gd x 0 = if x < 0 then -x else x := by rw [abs_if]; unfold gd; rw [Int.gcd_zero_right]
theorem gd_mod' {a b : Int} (hb : 0 < b) : gd b (a % b) = gd a b := by
  unfold gd
  have e : a % b = a - b * (a / b) := Int.emod_def a b
  rw [e, Int.gcd_sub_mul_left_right, Int.gcd_comm]
theorem ptd_len {α : Type} (m : List (Str × α)) (x : Str) (y : α) : (ptd m x y).length ≤ m.length + 1 := by
  unfold ptd
  split
  · rw [List.length_map]; omega
  · rw [List.length_append]; exact Nat.le_refl _
theorem bs_intC {n : Int} (h1 : -1000000000 ≤ n) (h2 : n ≤ 1000000000) : bs ((n : Int) : Rat) ≤ 40 := by
  have z1 : bl n.natAbs ≤ 40 := bi_small (x := n) 40 (by omega)
  have z2 : bl 1 ≤ 40 := by decide +kernel
  unfold bs
  rw [Rat.num_intCast, Rat.den_intCast]
  omega
abbrev Row71 := List (Str × Rat) × Str × Rat × Int × Int
def rowS (w : Rat) (p : Row71 × Rat) : Row71 := (p.1.1, p.1.2.1, p.1.2.2.1 + p.2 * w, p.1.2.2.2.1, p.1.2.2.2.2)
def rowsS (g : List (Row71 × Rat)) (w : Rat) : List Row71 := g.map (rowS w)
theorem rowsS_len (g : List (Row71 × Rat)) (w : Rat) : (rowsS g w).length = g.length := List.length_map _
theorem rowsS_get {g : List (Row71 × Rat)} {w : Rat} {i : Nat} {p : Row71 × Rat} (h : g[i]? = some p) : (rowsS g w)[i]? = some (rowS w p) := by unfold rowsS; rw [List.getElem?_map, h]; rfl
theorem frac71 (q p w : Rat) : Rat.divInt (q.num * ((p.den : Int) * (w.den : Int)) + p.num * w.num * (q.den : Int)) ((q.den : Int) * ((p.den : Int) * (w.den : Int))) = q + p * w := by
  have hq : (q.den : Int) ≠ 0 := by have := den_pos q; omega
  have hp : (p.den : Int) ≠ 0 := by have := den_pos p; omega
  have hw : (w.den : Int) ≠ 0 := by have := den_pos w; omega
  have hpw : (p.den : Int) * (w.den : Int) ≠ 0 := Int.mul_ne_zero hp hw
  conv => rhs; rw [← Rat.num_divInt_den q, ← Rat.num_divInt_den p, ← Rat.num_divInt_den w]
  rw [Rat.divInt_mul_divInt, Rat.divInt_add_divInt _ _ hq hpw]
theorem row_eq (w : Rat) (y : Row71 × Rat) : (y.1.1, y.1.2.1, Rat.divInt (y.1.2.2.1.num * ((y.2.den : Int) * (w.den : Int)) + y.2.num * w.num * (y.1.2.2.1.den : Int)) ((y.1.2.2.1.den : Int) * ((y.2.den : Int) * (w.den : Int)))) = ((rowS w y).1, (rowS w y).2.1, (rowS w y).2.2.1) := by
  rw [frac71]; rfl
def sp_rows_at (K : PySem.W.Frag) : Sp := fun vs H Q _ => ∃ (F : Hp) (v_growing v_width : V) (growing : (List (((List (Str × Rat)) × Str × Rat × Int × Int) × Rat))) (width : Rat), vs = [v_growing, v_width] ∧ Same F H ∧ (rL K (r2 K (r5 K (rD (rFr K)) rS (rFr K) rI rI) (rFr K))) F v_growing growing ∧ (rFr K) F v_width width ∧ (growing.length ≤ 100 ∧ (∀ p ∈ growing, bs p.1.2.2.1 ≤ 40 ∧ bs p.2 ≤ 40) ∧ bs width ≤ 40) ∧ ∀ (v : V) (F' H' : Hp), Gr F H F' H' → (rL K (r5 K (rD (rFr K)) rS (rFr K) rI rI)) F' v (rowsS growing width) → (Deep F' H v) → Q v H'
set_option linter.unusedVariables false in
theorem ok_rows_at (T : Tx K mg) : FnOk P w K mg base CX0 4 T.a_rows_at T.d_rows_at ["growing", "width"] (sp_rows_at K) := by
  refine T.F_rows_at.ok sc_rows_at (fun vs H Q E h => ?_) (fun cdv A outer s H vs Q E hr h => ?_)
  · obtain ⟨F, v_growing, v_width, growing, width, rfl, _⟩ := h
    rfl
  · obtain ⟨F, v_growing, v_width, growing, width, rfl, wd, r_growing, r_width, hpre, k⟩ := h
    have hu := hu_of hr
    have gb := Gr0.refl wd
    have cm := Fz.refl F
    obtain ⟨a1, vs2, rfl, sq3, al4⟩ := r_growing
    obtain ⟨a5, rfl, sq6⟩ := r_width
    obtain ⟨w1, w2, w3⟩ := hpre
    refine ⟨_, (pss_one (ps_ret (pe_comp (N := ["one", "pace", "width"]) (ix := [none, none, some 1]) rfl (pi_list (pv 0)) (fun _ _ _ _ _ => (show PG _ _ (gTup K 2 _) from pg_tup rfl (pgs_cons (pg_name (i := 0) (show List.Nodup (["one", "pace", "width"] : List Str) from by decide) rfl (Or.inl rfl)) (pgs_cons (pg_name (i := 1) (show List.Nodup (["one", "pace", "width"] : List Str) from by decide) rfl (Or.inl rfl)) pgs_nil)))) (fun _ _ _ _ _ => pts_nil) (fun _ _ _ _ _ => (pe_tup (pa_cons (pe_callTy call_dictD rfl T.z_dict rfl (pa_cons (pe_ix (show IxR _ (rIxT K) from ix_tup) (pv 0) pe_int (fun _ _ => rfl)) pa_nil)) (pa_cons (pe_ix (show IxR _ (rIxT K) from ix_tup) (pv 0) pe_int (fun _ _ => rfl)) (pa_cons (pe_call ((ok_plus T).mono (by decide)) hr rfl T.m_plus T.F_plus.kp T.b_plus .nil pass0 (pa_cons (pe_ix (show IxR _ (rIxT K) from ix_tup) (pv 0) pe_int (fun _ _ => rfl)) (pa_cons (pe_call ((ok_times T).mono (by decide)) hr rfl T.m_times T.F_times.kp T.b_times .nil pass0 (pa_cons (pv 1) (pa_cons (pv 2) pa_nil))) pa_nil))) (pa_cons (pe_ix (show IxR _ (rIxT K) from ix_tup) (pv 0) pe_int (fun _ _ => rfl)) (pa_cons (pe_ix (show IxR _ (rIxT K) from ix_tup) (pv 0) pe_int (fun _ _ => rfl)) pa_nil))))))) ⟨rfl, rfl, rfl, True.intro⟩))), ?_⟩
    refine a_ret ?_
    refine a_comp ?_
    refine a_ilist ?_
    refine a_var rfl ?_
    have hml9 : (growing).length ≤ 1000000 := by omega
    refine ⟨_, rfl, ⟨_, (Same.seq gb.s sq3)⟩, comp_list (K := K) (a := a1) (xs := vs2) (fun i acc H' => ∃ (F7 : Hp) (ts8 : List ((List (Str × Rat)) × Str × Rat × Int × Int)), True ∧ Gr0 F H F7 H' ∧ Fz (frzd F) F7 ∧ Le F F7 ∧ Al (r5 K (rD (rFr K)) rS (rFr K) rI rI) F7 acc ts8 ∧ ts8.length ≤ i ∧ (ts8 = (growing.take i).map (rowS width) ∧ DeepA F7 H acc)) ?_ ?_ ?_ ?_⟩
    · exact ⟨F, [], True.intro, gb, cm, Le.refl _, (show Al (r5 K (rD (rFr K)) rS (rFr K) rI rI) F [] [] from True.intro), (by first | (simp; done) | (rw [List.length_append]; simp only [List.length_cons, List.length_nil]; omega) | omega), by exact ⟨rfl, DeepA.nil⟩⟩
    · rintro i acc H10 _ ⟨F11, ts15, _, gb12, cm13, le14, al16, tl17, ⟨q1, q2⟩⟩
      exact (Same.seq gb12.s (Le.lst le14 sq3))
    · rintro i18 y21 acc22 H19 hi20 ⟨F23, ts27, _, gb24, cm25, le26, al28, tl29, ⟨q1, q2⟩⟩
      obtain ⟨x30, hx31, hr32⟩ := Al.get (Al.mo le26 al4) hi20
      have hil := (List.getElem?_eq_some_iff.mp hx31).1
      obtain ⟨a33, v35, v36, rfl, sq34, h37, h38⟩ := hr32
      obtain ⟨a39, v41, v42, v43, v44, v45, rfl, sq40, h46, h47, h48, h49, h50⟩ := h37
      obtain ⟨a51, kvs52, rfl, rd53, dk54, nd55⟩ := h46
      obtain rfl : v42 = V.str x30.1.2.1 := h47
      obtain ⟨a56, rfl, sq57⟩ := h48
      obtain rfl : v44 = V.int x30.1.2.2.2.1 := h49
      obtain rfl : v45 = V.int x30.1.2.2.2.2 := h50
      obtain ⟨a58, rfl, sq59⟩ := h38
      refine a_gtup2 (Same.tup gb24.s sq34) ?_
      refine ⟨Wk.non (Wk.non (Wk.som (Wk.nil))), ?_⟩
      try dsimp only
      obtain ⟨u1, u2⟩ := w2 _ (List.mem_of_getElem? hx31)
      refine a_yes ?_
      refine iteT ?_
      refine a_tup ?_
      refine a_cons ?_
      refine a_cb ?_
      refine a_cons ?_
      refine a_op ?_
      refine a_var rfl ?_
      refine a_c ?_
      refine a_ixT (Same.tup gb24.s sq40) rfl ?_
      refine a_nil ?_
      refine ⟨_, _, rfl, (Same.rd gb24.s rd53), fun p60 hp61 => ?_⟩
      obtain ⟨gb63, sm64, hb65, oF66, oH67, ne68⟩ := alo2 (o := (.dK kvs52)) gb24 hp61
      generalize upd H19 p60 (.dK kvs52) = H62 at gb63 sm64 oH67 ⊢
      refine a_cons ?_
      refine a_op ?_
      refine a_var rfl ?_
      refine a_c ?_
      refine a_ixT (Same.tup gb63.s sq40) rfl ?_
      refine a_cons ?_
      refine a_call ?_
      refine a_cons ?_
      refine a_op ?_
      refine a_var rfl ?_
      refine a_c ?_
      refine a_ixT (Same.tup gb63.s sq40) rfl ?_
      refine a_cons ?_
      refine a_call ?_
      refine a_cons ?_
      refine a_var rfl ?_
      refine a_cons ?_
      refine a_var rfl ?_
      refine a_nil ?_
      refine ⟨_, _, x30.2, width, rfl, (Same.tup gb63.s sq59), (Same.tup gb63.s (Le.tup le26 sq6)), sm_of (by walk_at "o"), sm_of (by walk_at "o"), fun p69 hp70 => ?_⟩
      obtain ⟨F71, g73, e74⟩ := al2 (o := (.tup (fr (x30.2 * width)))) gb63.s (by intro _ _ z; cases z) hp70
      generalize upd H62 p69 (.tup (fr (x30.2 * width))) = H72 at g73 ⊢
      have gb75 := gb63.tr g73
      have le76 := g73.le
      have oH77 := g73.h _ _ oH67
      have oF78 := g73.own oF66 oH67
      have cm79 := g73.fz cm25
      have b80 := bs_mul x30.2 width
      refine a_nil ?_
      refine ⟨_, _, x30.1.2.2.1, (x30.2 * width), rfl, (Same.tup gb75.s (Le.tup le76 sq57)), (Same.tup gb75.s (SqT.of e74)), sm_of (by walk_at "o"), sm_of (by walk_at "o"), fun p81 hp82 => ?_⟩
      obtain ⟨F83, g85, e86⟩ := al2 (o := (.tup (fr (x30.1.2.2.1 + (x30.2 * width))))) gb75.s (by intro _ _ z; cases z) hp82
      generalize upd H72 p81 (.tup (fr (x30.1.2.2.1 + (x30.2 * width)))) = H84 at g85 ⊢
      have gb87 := gb75.tr g85
      have le88 := g85.le
      have oH89 := g85.h _ _ oH77
      have oF90 := g85.own oF78 oH77
      have cm91 := g85.fz cm79
      have b92 := bs_add x30.1.2.2.1 (x30.2 * width)
      refine a_cons ?_
      refine a_op ?_
      refine a_var rfl ?_
      refine a_c ?_
      refine a_ixT (Same.tup gb87.s (Le.tup (le76.trans le88) sq40)) rfl ?_
      refine a_cons ?_
      refine a_op ?_
      refine a_var rfl ?_
      refine a_c ?_
      refine a_ixT (Same.tup gb87.s (Le.tup (le76.trans le88) sq40)) rfl ?_
      refine a_nil ?_
      obtain ⟨F93, gb94, cm95, le96s, e97, ne98⟩ := frz gb87 cm91 hb65 oF90 oH89 (by intro _ _ z; cases z)
      have le96 := Le.of le96s
      refine ⟨by show 5 ≤ sizeLine; decide, fun p99 hp100 => ?_⟩
      obtain ⟨F101, g103, e104⟩ := al2 (o := (.tup [V.ref p60, V.str x30.1.2.1, V.ref p81, V.int x30.1.2.2.2.1, V.int x30.1.2.2.2.2])) gb94.s (by intro _ _ z; cases z) hp100
      generalize upd H84 p99 (.tup [V.ref p60, V.str x30.1.2.1, V.ref p81, V.int x30.1.2.2.2.1, V.int x30.1.2.2.2.2]) = H102 at g103 ⊢
      have gb105 := gb94.tr g103
      have le106 := g103.le
      have cm107 := g103.fz cm95
      have hde := g103.f _ _ e97
      have hdb := hb65
      have hdt := e104
      refine ⟨by rw [Al.length (Al.mo (((le76.trans le88).trans le96).trans le106) al28)]; have := sizeLine_big; omega, ?_⟩
      exact ⟨F101, (ts27 ++ [(x30.1.1, x30.1.2.1, (x30.1.2.2.1 + (x30.2 * width)), x30.1.2.2.2.1, x30.1.2.2.2.2)]), True.intro, gb105, cm107, ((((le26.trans le76).trans le88).trans le96).trans le106), (Al.snoc (Al.mo (((le76.trans le88).trans le96).trans le106) al28) ⟨_, _, _, _, _, _, rfl, (SqT.of e104), ⟨_, _, rfl, (Le.dic le106 (Rd.of e97)), (Dk.mo le106 (Dk.mo ((le76.trans le88).trans le96) dk54)), nd55⟩, rfl, ⟨_, rfl, (Le.tup (le96.trans le106) (SqT.of e86))⟩, rfl, rfl⟩), (by first | (simp; done) | (rw [List.length_append]; simp only [List.length_cons, List.length_nil]; omega) | omega), by exact ⟨by rw [map_take_succ _ hx31, ← q1]; rfl, DeepA.snoc (q2.same (Same.trans (Same.trans (Same.trans g73.f g85.f) le96s) g103.f)) hdt hde hdb⟩⟩
    · rintro acc109 H108 ⟨F110, ts114, _, gb111, cm112, le113, al115, tl116, ⟨q1, q2⟩⟩
      have hlen := Al.length (Al.mo le113 al4)
      refine ⟨(by rw [Al.length al115]; have := sizeLine_big; omega), fun p117 hp118 => ?_⟩
      obtain ⟨F119, g121, e122⟩ := al2 (o := (.lst acc109)) gb111.s (by intro _ _ z; cases z) hp118
      generalize upd H108 p117 (.lst acc109) = H120 at g121 ⊢
      have gb123 := gb111.tr g121
      have le124 := g121.le
      have cm125 := g121.fz cm112
      have hfresh := gb111.h.free hp118
      have hat := e122
      have hsm := g121.f
      have hval : (ts114 : (List ((List (Str × Rat)) × Str × Rat × Int × Int))) = (rowsS growing width) := by (rw [q1, List.take_of_length_le (by omega)]; rfl)
      have rp126 : (rL K (r5 K (rD (rFr K)) rS (rFr K) rI rI)) F119 (V.ref p117) (ts114) := ⟨_, _, rfl, (SqL.of e122), (Al.mo le124 al115)⟩
      replace rp126 := Eq.mp (congrArg ((rL K (r5 K (rD (rFr K)) rS (rFr K) rI rI)) F119 (V.ref p117)) hval) rp126
      exact k _ _ _ (Gr.of gb123 cm125) rp126 (by exact ⟨_, _, rfl, hfresh, hat, q2.same hsm⟩)
def sp_law_cell_at (K : PySem.W.Frag) : Sp := fun vs H Q _ => ∃ (F : Hp) (v_script v_k' : V) (script : (List Int)) (k' : Int), vs = [v_script, v_k'] ∧ Same F H ∧ (∃ a, v_script = .ref a ∧ SqL K H a (script.map V.int)) ∧ rI F v_k' k' ∧ (0 ≤ k') ∧ ∀ (v : V) (F' H' : Hp) (r : Int), Gr F H F' H' → rI F' v r → Q v H'
set_option linter.unusedVariables false in
theorem ok_law_cell_at (T : Tx K mg) : FnOk P w K mg base CX0 1 T.a_law_cell_at T.d_law_cell_at ["_law_script", "_law_k"] (sp_law_cell_at K) := by
  refine T.F_law_cell_at.ok sc_law_cell_at (fun vs H Q E h => ?_) (fun cdv A outer s H vs Q E hr h => ?_)
  · obtain ⟨F, v_script, v_k', script, k', rfl, _⟩ := h
    rfl
  · obtain ⟨F, v_script, v_k', script, k', rfl, wd, r_script, r_k', hpre, k⟩ := h
    have hu := hu_of hr
    have gb := Gr0.refl wd
    have cm := Fz.refl F
    obtain ⟨a1, rfl, sq2⟩ := r_script
    obtain rfl : v_k' = V.int k' := r_k'
    refine ⟨_, (@pss_cons _ _ _ _ _ (ps_if (pt_cmpR op_lt (pv 1) (pe_callB call_len_seq rfl T.z_len rfl (pa_cons (pv 0) pa_nil)) (nomark _)) (pss_one (ps_ret (pe_ix ix_list (pv 0) (pv 1) (fun _ _ => rfl)))) pss_nil)
          (pss_one (ps_ret pe_int))), ?_⟩
    refine a_seq ?_
    refine a_if ?_
    refine a_test ?_
    refine a_op ?_
    refine a_var rfl ?_
    refine a_cb ?_
    refine a_cons ?_
    refine a_var rfl ?_
    refine a_nil ?_
    refine ⟨_, _, rfl, .inl (Same.seq gb.h sq2), ?_⟩
    rw [Al.length (al_ints (F := F) (ns := script))]
    refine a_I0 ?_
    refine a_bl ?_
    refine iteD (fun c3 => ?_) (fun c3 => ?_)
    · refine a_ret ?_
      refine a_op ?_
      refine a_var rfl ?_
      refine a_var rfl ?_
      obtain ⟨x5, v4, h6, h7, h8⟩ := Al.ix (al_ints (F := F) (ns := script)) (i := k') (by walk_at "o") (by walk_at "ol")
      refine a_ixL (Same.seq gb.h sq2) h7 ?_
      obtain rfl : v4 = V.int x5 := h8
      exact k _ _ _ (x5) (Gr.of gb cm) (rfl)
    · refine a_next ?_
      try dsimp only
      refine a_ret ?_
      refine a_c ?_
      exact k _ _ _ (0) (Gr.of gb cm) (rfl)
def sp_law_mix (K : PySem.W.Frag) : Sp := fun vs H Q _ => ∃ (F : Hp) (v_cell v_k' : V) (cell : Int) (k' : Int), vs = [v_cell, v_k'] ∧ Same F H ∧ rI F v_cell cell ∧ rI F v_k' k' ∧ ∀ (v : V) (F' H' : Hp) (r : Int), Gr F H F' H' → rI F' v r → (0 ≤ r ∧ r < 2147483647) → Q v H'
set_option linter.unusedVariables false in
theorem ok_law_mix (T : Tx K mg) : FnOk P w K mg base CX0 1 T.a_law_mix T.d_law_mix ["_law_cell", "_law_k"] (sp_law_mix K) := by
  refine T.F_law_mix.ok sc_law_mix (fun vs H Q E h => ?_) (fun cdv A outer s H vs Q E hr h => ?_)
  · obtain ⟨F, v_cell, v_k', cell, k', rfl, _⟩ := h
    rfl
  · obtain ⟨F, v_cell, v_k', cell, k', rfl, wd, r_cell, r_k', k⟩ := h
    have hu := hu_of hr
    have gb := Gr0.refl wd
    have cm := Fz.refl F
    obtain rfl : v_cell = V.int cell := r_cell
    obtain rfl : v_k' = V.int k' := r_k'
    refine ⟨_, (@pss_cons _ _ _ _ _ (ps_set (i := 2) sc_law_mix.nd rfl (Or.inl rfl) (pe_op op_mod (pe_op op_mulB (pe_op op_mod (pe_op op_add (pe_op op_add (pv 0) (pe_op op_mulB pe_int (pv 1))) pe_int) pe_int) pe_int) pe_int))
          (@pss_cons _ _ _ _ _ (ps_set (i := 2) sc_law_mix.nd rfl (Or.inl rfl) (pe_op op_mod (pe_op op_mulB (pv 2) (pe_op op_add (pe_op op_fdiv (pv 2) pe_int) pe_int)) pe_int))
          (pss_one (ps_ret (pe_op op_mod (pe_op op_mulB (pv 2) (pe_op op_add (pe_op op_fdiv (pv 2) pe_int) pe_int)) pe_int))))), ?_⟩
    refine a_seq ?_
    refine a_asg ?_
    refine a_op ?_
    refine a_op ?_
    refine a_op ?_
    refine a_op ?_
    refine a_op ?_
    refine a_var rfl ?_
    refine a_op ?_
    refine a_c ?_
    refine a_var rfl ?_
    refine a_I (mulL2 (by decide) (by decide)) ?_
    refine a_I0 ?_
    refine a_c ?_
    refine a_I0 ?_
    refine a_c ?_
    refine a_I (by decide) ?_
    have m1 : 0 ≤ (((cell + (7919 * k')) + 1) % 2147483647) ∧ (((cell + (7919 * k')) + 1) % 2147483647) < 2147483647 := ⟨Int.emod_nonneg _ (by decide), Int.emod_lt_of_pos _ (by decide)⟩
    refine a_c ?_
    refine a_I (mulR2 (by decide) (by decide)) ?_
    refine a_c ?_
    refine a_I (by decide) ?_
    have m2 : 0 ≤ (((((cell + (7919 * k')) + 1) % 2147483647) * 48271) % 2147483647) ∧ (((((cell + (7919 * k')) + 1) % 2147483647) * 48271) % 2147483647) < 2147483647 := ⟨Int.emod_nonneg _ (by decide), Int.emod_lt_of_pos _ (by decide)⟩
    refine a_name ?_
    try dsimp only
    refine a_seq ?_
    refine a_asg ?_
    refine a_op ?_
    refine a_op ?_
    refine a_var rfl ?_
    refine a_op ?_
    refine a_op ?_
    refine a_var rfl ?_
    refine a_c ?_
    refine a_I ⟨by decide, by decide⟩ ?_
    refine a_c ?_
    refine a_I0 ?_
    refine a_I (by walk_at "om") ?_
    refine a_c ?_
    refine a_I (by decide) ?_
    have m3 : 0 ≤ (((((((cell + (7919 * k')) + 1) % 2147483647) * 48271) % 2147483647) * (((((((cell + (7919 * k')) + 1) % 2147483647) * 48271) % 2147483647) / 1009) + 69621)) % 2147483647) ∧ (((((((cell + (7919 * k')) + 1) % 2147483647) * 48271) % 2147483647) * (((((((cell + (7919 * k')) + 1) % 2147483647) * 48271) % 2147483647) / 1009) + 69621)) % 2147483647) < 2147483647 := ⟨Int.emod_nonneg _ (by decide), Int.emod_lt_of_pos _ (by decide)⟩
    refine a_name ?_
    try dsimp only
    refine a_ret ?_
    refine a_op ?_
    refine a_op ?_
    refine a_var rfl ?_
    refine a_op ?_
    refine a_op ?_
    refine a_var rfl ?_
    refine a_c ?_
    refine a_I ⟨by decide, by decide⟩ ?_
    refine a_c ?_
    refine a_I0 ?_
    refine a_I (by walk_at "om") ?_
    refine a_c ?_
    refine a_I (by decide) ?_
    have m4 : 0 ≤ (((((((((cell + (7919 * k')) + 1) % 2147483647) * 48271) % 2147483647) * (((((((cell + (7919 * k')) + 1) % 2147483647) * 48271) % 2147483647) / 1009) + 69621)) % 2147483647) * (((((((((cell + (7919 * k')) + 1) % 2147483647) * 48271) % 2147483647) * (((((((cell + (7919 * k')) + 1) % 2147483647) * 48271) % 2147483647) / 1009) + 69621)) % 2147483647) / 127) + 30011)) % 2147483647) ∧ (((((((((cell + (7919 * k')) + 1) % 2147483647) * 48271) % 2147483647) * (((((((cell + (7919 * k')) + 1) % 2147483647) * 48271) % 2147483647) / 1009) + 69621)) % 2147483647) * (((((((((cell + (7919 * k')) + 1) % 2147483647) * 48271) % 2147483647) * (((((((cell + (7919 * k')) + 1) % 2147483647) * 48271) % 2147483647) / 1009) + 69621)) % 2147483647) / 127) + 30011)) % 2147483647) < 2147483647 := ⟨Int.emod_nonneg _ (by decide), Int.emod_lt_of_pos _ (by decide)⟩
    exact k _ _ _ ((((((((((cell + (7919 * k')) + 1) % 2147483647) * 48271) % 2147483647) * (((((((cell + (7919 * k')) + 1) % 2147483647) * 48271) % 2147483647) / 1009) + 69621)) % 2147483647) * (((((((((cell + (7919 * k')) + 1) % 2147483647) * 48271) % 2147483647) * (((((((cell + (7919 * k')) + 1) % 2147483647) * 48271) % 2147483647) / 1009) + 69621)) % 2147483647) / 127) + 30011)) % 2147483647)) (Gr.of gb cm) (rfl) (by walk_at "o")
def sp_law_divisor (K : PySem.W.Frag) : Sp := fun vs H Q _ => ∃ (F : Hp) (v_one v_other : V) (one : Int) (other : Int), vs = [v_one, v_other] ∧ Same F H ∧ rI F v_one one ∧ rI F v_other other ∧ (0 ≤ other) ∧ ∀ (v : V) (F' H' : Hp), Gr F H F' H' → rI F' v (gd one other) → Q v H'
set_option linter.unusedVariables false in
theorem ok_law_divisor (T : Tx K mg) : FnOk P w K mg base CX0 1 T.a_law_divisor T.d_law_divisor ["_law_one", "_law_other"] (sp_law_divisor K) := by
  refine T.F_law_divisor.ok sc_law_divisor (fun vs H Q E h => ?_) (fun cdv A outer s H vs Q E hr h => ?_)
  · obtain ⟨F, v_one, v_other, one, other, rfl, _⟩ := h
    rfl
  · obtain ⟨F, v_one, v_other, one, other, rfl, wd, r_one, r_other, hpre, k⟩ := h
    have hu := hu_of hr
    have gb := Gr0.refl wd
    have cm := Fz.refl F
    obtain rfl : v_one = V.int one := r_one
    obtain rfl : v_other = V.int other := r_other
    refine ⟨_, (@pss_cons _ _ _ _ _ (ps_while PassesOwn.never (pt_cmpR op_ne (pv 1) pe_int (nomark _)) (pss_one (ps_par (i := 0) (j := 1) rfl sc_law_divisor.nd rfl rfl (by decide) rfl rfl (pa_cons (pv 1) (pa_cons (pe_op op_mod (pv 0) (pv 1)) pa_nil)) rfl)))
          (pss_one (ps_ret (pe_callB call_abs rfl T.z_abs rfl (pa_cons (pv 0) pa_nil))))), ?_⟩
    refine a_seq ?_
    refine ⟨fun m σ' H' => ∃ (F1 : Hp) (one2 : Int) (other3 : Int), σ' = [some (V.int one2), some (V.int other3)] ∧ Gr0 F H F1 H' ∧ Fz (frzd F) F1 ∧ Le F F1 ∧ (0 ≤ other3 ∧ gd one2 other3 = gd one other) ∧ m = other3.toNat, ⟨other.toNat, ?_⟩, ?_⟩
    · exact ⟨F, one, other, rfl, gb, cm, Le.refl _, by exact ⟨hpre, rfl⟩, rfl⟩
    · rintro m σ' H4 ⟨F5, one9, other10, rfl, gb6, cm7, le8, ⟨i1, i2⟩, rfl⟩
      refine a_test ?_
      refine a_op ?_
      refine a_var rfl ?_
      refine a_c ?_
      refine a_neI ?_
      refine a_bl ?_
      refine iteDN (fun c11 => ?_) (fun c11 => ?_)
      · refine ⟨fun σ' H' => ∃ (F1 : Hp) (one2 : Int) (other3 : Int), σ' = [some (V.int one2), some (V.int other3)] ∧ Gr0 F H F1 H' ∧ Fz (frzd F) F1 ∧ Le F F1 ∧ (0 ≤ other3 ∧ gd one2 other3 = gd one other) ∧ other3.toNat < other10.toNat, fun σ' H' ⟨y0, y1, y2, y3, y4, y5, y6, y7, hlt⟩ => ⟨_, hlt, y0, y1, y2, y3, y4, y5, y6, y7, rfl⟩, ?_⟩
        refine a_par ?_
        refine a_cons ?_
        refine a_var rfl ?_
        refine a_cons ?_
        refine a_op ?_
        refine a_var rfl ?_
        refine a_var rfl ?_
        refine a_I (by walk_at "o") ?_
        have m12 : 0 ≤ (one9 % other10) ∧ (one9 % other10) < other10 := ⟨Int.emod_nonneg _ (by walk_at "o"), Int.emod_lt_of_pos _ (by walk_at "o")⟩
        refine a_nil ?_
        refine a_par2 ?_
        try dsimp only
        exact ⟨F5, other10, (one9 % other10), rfl, gb6, cm7, le8, by exact ⟨Int.emod_nonneg _ (by omega), by rw [gd_mod' (by omega)]; exact i2⟩, by (have := Int.emod_lt_of_pos one9 (show 0 < other10 by omega); omega)⟩
      · try dsimp only
        refine a_ret ?_
        refine a_cb ?_
        refine a_cons ?_
        refine a_var rfl ?_
        refine a_nil ?_
        refine ⟨_, rfl, ?_⟩
        have hval : ((if one9 < 0 then -one9 else one9) : Int) = (gd one other) := by (have e : other10 = 0 := (by omega); rw [e] at i2; rw [← i2]; exact (gd_abs0 _).symm)
        have rp13 : rI F5 (V.int (if one9 < 0 then -one9 else one9)) ((if one9 < 0 then -one9 else one9)) := rfl
        replace rp13 := Eq.mp (congrArg (rI F5 (V.int (if one9 < 0 then -one9 else one9))) hval) rp13
        exact k _ _ _ (Gr.of gb6 cm7) rp13
def sp_law_lowest (K : PySem.W.Frag) : Sp := fun vs H Q _ => ∃ (F : Hp) (v_top v_bottom : V) (top : Int) (bottom : Int), vs = [v_top, v_bottom] ∧ Same F H ∧ rI F v_top top ∧ rI F v_bottom bottom ∧ (0 < bottom ∧ bi bottom ≤ 7000) ∧ ∀ (v : V) (F' H' : Hp), Gr F H F' H' → (rFr K) F' v (Rat.divInt top bottom) → Q v H'
set_option linter.unusedVariables false in
theorem ok_law_lowest (T : Tx K mg) : FnOk P w K mg base CX0 2 T.a_law_lowest T.d_law_lowest ["_law_top", "_law_bottom"] (sp_law_lowest K) := by
  refine T.F_law_lowest.ok sc_law_lowest (fun vs H Q E h => ?_) (fun cdv A outer s H vs Q E hr h => ?_)
  · obtain ⟨F, v_top, v_bottom, top, bottom, rfl, _⟩ := h
    rfl
  · obtain ⟨F, v_top, v_bottom, top, bottom, rfl, wd, r_top, r_bottom, hpre, k⟩ := h
    have hu := hu_of hr
    have gb := Gr0.refl wd
    have cm := Fz.refl F
    obtain rfl : v_top = V.int top := r_top
    obtain rfl : v_bottom = V.int bottom := r_bottom
    obtain ⟨hb, hz⟩ := hpre
    refine ⟨_, (@pss_cons _ _ _ _ _ (ps_set (i := 2) sc_law_lowest.nd rfl (Or.inl rfl) (pe_call ((ok_law_divisor T).mono (by decide)) hr rfl T.m_law_divisor T.F_law_divisor.kp T.b_law_divisor .nil pass0 (pa_cons (pv 0) (pa_cons (pv 1) pa_nil))))
          (pss_one (ps_ret (pe_tup (pa_cons (pe_op op_fdivB (pv 0) (pv 2)) (pa_cons (pe_op op_fdivB (pv 1) (pv 2)) pa_nil)))))), ?_⟩
    refine a_seq ?_
    refine a_asg ?_
    refine a_call ?_
    refine a_cons ?_
    refine a_var rfl ?_
    refine a_cons ?_
    refine a_var rfl ?_
    refine a_nil ?_
    refine ⟨F, _, _, top, bottom, rfl, gb.s, rfl, rfl, (by walk_at "o"), ?_⟩
    rintro v1 F2 H3  g5 hr6 
    have gb8 := gb.tr g5
    have le9 := g5.le
    have cm10 := g5.fz cm
    obtain rfl : v1 = V.int (gd top bottom) := hr6
    refine a_name ?_
    try dsimp only
    have hb0 : bottom ≠ 0 := by omega
    have hd := dv_ne (t := top) hb0
    have ed : gd top bottom = dv top bottom := by unfold dv; rw [if_neg (by omega)]
    have hl : bi (gd top bottom) ≤ 8000 := by rw [ed]; exact Nat.le_trans (bi_mono (dv_le hb0)) (by omega)
    refine a_ret ?_
    refine a_tup ?_
    refine a_cons ?_
    refine a_op ?_
    refine a_var rfl ?_
    refine a_var rfl ?_
    refine a_I (by walk_at "od") ?_
    refine a_cons ?_
    refine a_op ?_
    refine a_var rfl ?_
    refine a_var rfl ?_
    refine a_I (by walk_at "od") ?_
    refine a_nil ?_
    refine ⟨by show 2 ≤ sizeLine; decide, fun p11 hp12 => ?_⟩
    obtain ⟨F13, g15, e16⟩ := al2 (o := (.tup [V.int (Int.fdiv top (gd top bottom)), V.int (Int.fdiv bottom (gd top bottom))])) gb8.s (by intro _ _ z; cases z) hp12
    generalize upd H3 p11 (.tup [V.int (Int.fdiv top (gd top bottom)), V.int (Int.fdiv bottom (gd top bottom))]) = H14 at g15 ⊢
    have gb17 := gb8.tr g15
    have le18 := g15.le
    have cm19 := g15.fz cm10
    have sq20 : SqT K F13 p11 (fr (Rat.divInt top bottom)) := by rw [show fr (Rat.divInt top bottom) = [V.int (Int.fdiv top (gd top bottom)), V.int (Int.fdiv bottom (gd top bottom))] from by unfold fr; rw [← part_num hb0, ← part_den hb0, ← ed]]; exact SqT.of e16
    have rp21 : (rFr K) F13 (V.ref p11) ((Rat.divInt top bottom)) := ⟨_, rfl, sq20⟩
    exact k _ _ _ (Gr.of gb17 cm19) rp21
def sp_law_number (K : PySem.W.Frag) : Sp := fun vs H Q _ => ∃ (F : Hp) (v_cell v_k' : V) (cell : Int) (k' : Int), vs = [v_cell, v_k'] ∧ Same F H ∧ rI F v_cell cell ∧ rI F v_k' k' ∧ ∀ (v : V) (F' H' : Hp) (r : Rat), Gr F H F' H' → (rFr K) F' v r → (bs r ≤ 40) → Q v H'
set_option linter.unusedVariables false in
theorem ok_law_number (T : Tx K mg) : FnOk P w K mg base CX0 3 T.a_law_number T.d_law_number ["_law_cell", "_law_k"] (sp_law_number K) := by
  refine T.F_law_number.ok sc_law_number (fun vs H Q E h => ?_) (fun cdv A outer s H vs Q E hr h => ?_)
  · obtain ⟨F, v_cell, v_k', cell, k', rfl, _⟩ := h
    rfl
  · obtain ⟨F, v_cell, v_k', cell, k', rfl, wd, r_cell, r_k', k⟩ := h
    have hu := hu_of hr
    have gb := Gr0.refl wd
    have cm := Fz.refl F
    obtain rfl : v_cell = V.int cell := r_cell
    obtain rfl : v_k' = V.int k' := r_k'
    refine ⟨_, (@pss_cons _ _ _ _ _ (ps_set (i := 2) sc_law_number.nd rfl (Or.inl rfl) (pe_op op_mod (pe_call ((ok_law_mix T).mono (by decide)) hr rfl T.m_law_mix T.F_law_mix.kp T.b_law_mix .nil pass0 (pa_cons (pv 0) (pa_cons (pv 1) pa_nil))) pe_int))
          (@pss_cons _ _ _ _ _ (ps_if (pt_cmpR op_eq (pv 2) pe_int (nomark _)) (pss_one (ps_ret (pe_tup (pa_cons (pe_op op_sub (pe_op op_mod (pe_call ((ok_law_mix T).mono (by decide)) hr rfl T.m_law_mix T.F_law_mix.kp T.b_law_mix .nil pass0 (pa_cons (pv 0) (pa_cons (pe_op op_add (pv 1) pe_int) pa_nil))) pe_int) pe_int) (pa_cons pe_int pa_nil))))) pss_nil)
          (@pss_cons _ _ _ _ _ (ps_if (pt_cmpR op_eq (pv 2) pe_int (nomark _)) (pss_one (ps_ret (pe_call ((ok_law_lowest T).mono (by decide)) hr rfl T.m_law_lowest T.F_law_lowest.kp T.b_law_lowest .nil pass0 (pa_cons (pe_op op_sub (pe_op op_mod (pe_call ((ok_law_mix T).mono (by decide)) hr rfl T.m_law_mix T.F_law_mix.kp T.b_law_mix .nil pass0 (pa_cons (pv 0) (pa_cons (pe_op op_add (pv 1) pe_int) pa_nil))) pe_int) pe_int) (pa_cons (pe_op op_add pe_int (pe_op op_mod (pe_call ((ok_law_mix T).mono (by decide)) hr rfl T.m_law_mix T.F_law_mix.kp T.b_law_mix .nil pass0 (pa_cons (pv 0) (pa_cons (pe_op op_add (pv 1) pe_int) pa_nil))) pe_int)) pa_nil))))) pss_nil)
          (pss_one (ps_ret (pe_call ((ok_law_lowest T).mono (by decide)) hr rfl T.m_law_lowest T.F_law_lowest.kp T.b_law_lowest .nil pass0 (pa_cons (pe_op op_sub (pe_op op_mod (pe_op op_mulB (pe_call ((ok_law_mix T).mono (by decide)) hr rfl T.m_law_mix T.F_law_mix.kp T.b_law_mix .nil pass0 (pa_cons (pv 0) (pa_cons (pe_op op_add (pv 1) pe_int) pa_nil))) pe_int) (pe_op op_mulB pe_int (pe_op op_pow pe_int pe_int))) (pe_op op_pow pe_int pe_int)) (pa_cons (pe_op op_add pe_int (pe_op op_mod (pe_call ((ok_law_mix T).mono (by decide)) hr rfl T.m_law_mix T.F_law_mix.kp T.b_law_mix .nil pass0 (pa_cons (pv 0) (pa_cons (pe_op op_add (pv 1) pe_int) pa_nil))) (pe_op op_pow pe_int pe_int))) pa_nil)))))))), ?_⟩
    refine a_seq ?_
    refine a_asg ?_
    refine a_op ?_
    refine a_call ?_
    refine a_cons ?_
    refine a_var rfl ?_
    refine a_cons ?_
    refine a_var rfl ?_
    refine a_nil ?_
    refine ⟨F, _, _, cell, k', rfl, gb.s, rfl, rfl, ?_⟩
    rintro v1 F2 H3 r4 g5 hr6 hp7
    have gb8 := gb.tr g5
    have le9 := g5.le
    have cm10 := g5.fz cm
    obtain rfl : v1 = V.int r4 := hr6
    refine a_c ?_
    refine a_I (by decide) ?_
    have m11 : 0 ≤ (r4 % 3) ∧ (r4 % 3) < 3 := ⟨Int.emod_nonneg _ (by decide), Int.emod_lt_of_pos _ (by decide)⟩
    refine a_name ?_
    try dsimp only
    refine a_seq ?_
    refine a_if ?_
    refine a_test ?_
    refine a_op ?_
    refine a_var rfl ?_
    refine a_c ?_
    refine a_eqI ?_
    refine a_bl ?_
    refine iteD (fun c12 => ?_) (fun c12 => ?_)
    · refine a_ret ?_
      refine a_tup ?_
      refine a_cons ?_
      refine a_op ?_
      refine a_op ?_
      refine a_call ?_
      refine a_cons ?_
      refine a_var rfl ?_
      refine a_cons ?_
      refine a_op ?_
      refine a_var rfl ?_
      refine a_c ?_
      refine a_I0 ?_
      refine a_nil ?_
      refine ⟨F2, _, _, cell, (k' + 1), rfl, gb8.s, rfl, rfl, ?_⟩
      rintro v13 F14 H15 r16 g17 hr18 hp19
      have gb20 := gb8.tr g17
      have le21 := g17.le
      have cm22 := g17.fz cm10
      obtain rfl : v13 = V.int r16 := hr18
      refine a_c ?_
      refine a_I (by decide) ?_
      have m23 : 0 ≤ (r16 % 41) ∧ (r16 % 41) < 41 := ⟨Int.emod_nonneg _ (by decide), Int.emod_lt_of_pos _ (by decide)⟩
      refine a_c ?_
      refine a_I0 ?_
      refine a_cons ?_
      refine a_c ?_
      refine a_nil ?_
      refine ⟨by show 2 ≤ sizeLine; decide, fun p24 hp25 => ?_⟩
      obtain ⟨F26, g28, e29⟩ := al2 (o := (.tup [V.int ((r16 % 41) - 20), V.int 1])) gb20.s (by intro _ _ z; cases z) hp25
      generalize upd H15 p24 (.tup [V.int ((r16 % 41) - 20), V.int 1]) = H27 at g28 ⊢
      have gb30 := gb20.tr g28
      have le31 := g28.le
      have cm32 := g28.fz cm22
      have sq33 : SqT K F26 p24 (fr ((((r16 % 41) - 20) : Int) : Rat)) := by rw [fr_int]; exact SqT.of e29
      exact k _ _ _ (((((r16 % 41) - 20) : Int) : Rat)) (Gr.of gb30 cm32) (⟨_, rfl, sq33⟩) (by exact bs_intC (by omega) (by omega))
    · refine a_next ?_
      try dsimp only
      refine a_seq ?_
      refine a_if ?_
      refine a_test ?_
      refine a_op ?_
      refine a_var rfl ?_
      refine a_c ?_
      refine a_eqI ?_
      refine a_bl ?_
      refine iteD (fun c34 => ?_) (fun c34 => ?_)
      · refine a_ret ?_
        refine a_call ?_
        refine a_cons ?_
        refine a_op ?_
        refine a_op ?_
        refine a_call ?_
        refine a_cons ?_
        refine a_var rfl ?_
        refine a_cons ?_
        refine a_op ?_
        refine a_var rfl ?_
        refine a_c ?_
        refine a_I0 ?_
        refine a_nil ?_
        refine ⟨F2, _, _, cell, (k' + 1), rfl, gb8.s, rfl, rfl, ?_⟩
        rintro v35 F36 H37 r38 g39 hr40 hp41
        have gb42 := gb8.tr g39
        have le43 := g39.le
        have cm44 := g39.fz cm10
        obtain rfl : v35 = V.int r38 := hr40
        refine a_c ?_
        refine a_I (by decide) ?_
        have m45 : 0 ≤ (r38 % 41) ∧ (r38 % 41) < 41 := ⟨Int.emod_nonneg _ (by decide), Int.emod_lt_of_pos _ (by decide)⟩
        refine a_c ?_
        refine a_I0 ?_
        refine a_cons ?_
        refine a_op ?_
        refine a_c ?_
        refine a_op ?_
        refine a_call ?_
        refine a_cons ?_
        refine a_var rfl ?_
        refine a_cons ?_
        refine a_op ?_
        refine a_var rfl ?_
        refine a_c ?_
        refine a_I0 ?_
        refine a_nil ?_
        refine ⟨F36, _, _, cell, (k' + 2), rfl, gb42.s, rfl, rfl, ?_⟩
        rintro v46 F47 H48 r49 g50 hr51 hp52
        have gb53 := gb42.tr g50
        have le54 := g50.le
        have cm55 := g50.fz cm44
        obtain rfl : v46 = V.int r49 := hr51
        refine a_c ?_
        refine a_I (by decide) ?_
        have m56 : 0 ≤ (r49 % 8) ∧ (r49 % 8) < 8 := ⟨Int.emod_nonneg _ (by decide), Int.emod_lt_of_pos _ (by decide)⟩
        refine a_I0 ?_
        refine a_nil ?_
        refine ⟨F47, _, _, ((r38 % 41) - 20), (2 + (r49 % 8)), rfl, gb53.s, rfl, rfl, (by exact ⟨by omega, Nat.le_trans (bi_small 40 (by omega)) (by decide)⟩), ?_⟩
        rintro v57 F58 H59  g61 hr62 
        have gb64 := gb53.tr g61
        have le65 := g61.le
        have cm66 := g61.fz cm55
        obtain ⟨a67, rfl, sq68⟩ := hr62
        exact k _ _ _ ((Rat.divInt (((r38 % 41) - 20)) ((2 + (r49 % 8))))) (Gr.of gb64 cm66) (⟨_, rfl, sq68⟩) (by exact bs_divInt (by omega) (bi_small 40 (by omega)) (bi_small 40 (by omega)))
      · refine a_next ?_
        try dsimp only
        refine a_ret ?_
        refine a_call ?_
        refine a_cons ?_
        refine a_op ?_
        refine a_op ?_
        refine a_op ?_
        refine a_call ?_
        refine a_cons ?_
        refine a_var rfl ?_
        refine a_cons ?_
        refine a_op ?_
        refine a_var rfl ?_
        refine a_c ?_
        refine a_I0 ?_
        refine a_nil ?_
        refine ⟨F2, _, _, cell, (k' + 1), rfl, gb8.s, rfl, rfl, ?_⟩
        rintro v69 F70 H71 r72 g73 hr74 hp75
        have gb76 := gb8.tr g73
        have le77 := g73.le
        have cm78 := g73.fz cm10
        obtain rfl : v69 = V.int r72 := hr74
        refine a_c ?_
        refine a_I (mulR2 (by decide) (by decide)) ?_
        refine a_op ?_
        refine a_c ?_
        refine a_op ?_
        refine a_c ?_
        refine a_c ?_
        refine a_powC (z := 100000000000) (by decide) ⟨by decide, by decide, by decide⟩ ?_
        refine a_I (mulL2 (by decide) (by decide)) ?_
        refine a_I (by walk_at "o") ?_
        have m79 : 0 ≤ ((r72 * 467) % (2 * 100000000000)) ∧ ((r72 * 467) % (2 * 100000000000)) < (2 * 100000000000) := ⟨Int.emod_nonneg _ (by walk_at "o"), Int.emod_lt_of_pos _ (by walk_at "o")⟩
        refine a_op ?_
        refine a_c ?_
        refine a_c ?_
        refine a_powC (z := 100000000000) (by decide) ⟨by decide, by decide, by decide⟩ ?_
        refine a_I0 ?_
        refine a_cons ?_
        refine a_op ?_
        refine a_c ?_
        refine a_op ?_
        refine a_call ?_
        refine a_cons ?_
        refine a_var rfl ?_
        refine a_cons ?_
        refine a_op ?_
        refine a_var rfl ?_
        refine a_c ?_
        refine a_I0 ?_
        refine a_nil ?_
        refine ⟨F70, _, _, cell, (k' + 2), rfl, gb76.s, rfl, rfl, ?_⟩
        rintro v80 F81 H82 r83 g84 hr85 hp86
        have gb87 := gb76.tr g84
        have le88 := g84.le
        have cm89 := g84.fz cm78
        obtain rfl : v80 = V.int r83 := hr85
        refine a_op ?_
        refine a_c ?_
        refine a_c ?_
        refine a_powC (z := 100000) (by decide) ⟨by decide, by decide, by decide⟩ ?_
        refine a_I (by decide) ?_
        have m90 : 0 ≤ (r83 % 100000) ∧ (r83 % 100000) < 100000 := ⟨Int.emod_nonneg _ (by decide), Int.emod_lt_of_pos _ (by decide)⟩
        refine a_I0 ?_
        refine a_nil ?_
        refine ⟨F81, _, _, (((r72 * 467) % (2 * 100000000000)) - 100000000000), (1 + (r83 % 100000)), rfl, gb87.s, rfl, rfl, (by exact ⟨by omega, Nat.le_trans (bi_small 40 (by omega)) (by decide)⟩), ?_⟩
        rintro v91 F92 H93  g95 hr96 
        have gb98 := gb87.tr g95
        have le99 := g95.le
        have cm100 := g95.fz cm89
        obtain ⟨a101, rfl, sq102⟩ := hr96
        exact k _ _ _ ((Rat.divInt ((((r72 * 467) % (2 * 100000000000)) - 100000000000)) ((1 + (r83 % 100000))))) (Gr.of gb98 cm100) (⟨_, rfl, sq102⟩) (by exact bs_divInt (by omega) (bi_small 40 (by omega)) (bi_small 40 (by omega)))
def sp_law_growing (K : PySem.W.Frag) : Sp := fun vs H Q _ => ∃ (F : Hp) (v_cell : V) (cell : Int), vs = [v_cell] ∧ Same F H ∧ rI F v_cell cell ∧ ∀ (v : V) (F' H' : Hp) (r : (((List (Str × Rat)) × Str × Rat × Int × Int) × Rat)), Gr F H F' H' → (r2 K (r5 K (rD (rFr K)) rS (rFr K) rI rI) (rFr K)) F' v r → (bs r.1.2.2.1 ≤ 40 ∧ bs r.2 ≤ 40) → Q v H'
set_option linter.unusedVariables false in
theorem ok_law_growing (T : Tx K mg) : FnOk P w K mg base CX0 4 T.a_law_growing T.d_law_growing ["_law_cell"] (sp_law_growing K) := by
  refine T.F_law_growing.ok sc_law_growing (fun vs H Q E h => ?_) (fun cdv A outer s H vs Q E hr h => ?_)
  · obtain ⟨F, v_cell, cell, rfl, _⟩ := h
    rfl
  · obtain ⟨F, v_cell, cell, rfl, wd, r_cell, k⟩ := h
    have hu := hu_of hr
    have gb := Gr0.refl wd
    have cm := Fz.refl F
    obtain rfl : v_cell = V.int cell := r_cell
    refine ⟨_, (@pss_cons _ _ _ _ _ (ps_set (i := 1) sc_law_growing.nd rfl (Or.inl rfl) pe_dnewK)
          (@pss_cons _ _ _ _ _ (ps_for PassesOwn.never rfl (pi_range1 rfl T.z_range (pa_cons (pe_op op_mod (pe_call ((ok_law_mix T).mono (by decide)) hr rfl T.m_law_mix T.F_law_mix.kp T.b_law_mix .nil pass0 (pa_cons (pv 0) (pa_cons pe_int pa_nil))) pe_int) pa_nil)) (pg_name (i := 2) sc_law_growing.nd rfl (Or.inl rfl)) (@pss_cons _ _ _ _ _ (ps_set (i := 3) sc_law_growing.nd rfl (Or.inl rfl) (pe_call ((ok_law_number T).mono (by decide)) hr rfl T.m_law_number T.F_law_number.kp T.b_law_number .nil pass0 (pa_cons (pv 0) (pa_cons (pe_op op_add (pe_op op_mulB pe_int (pv 2)) pe_int) pa_nil))))
          (pss_one (ps_if (pt_cmpR op_ne (pe_ix ix_tup (pv 3) pe_int (fun _ _ => rfl)) pe_int (nomark _)) (pss_one (ps_dput hu (pv 1) (pe_op op_add_str (pe_ix ix_list (pe_lst (pa_cons pe_str (pa_cons pe_str (pa_cons pe_str pa_nil)))) (pe_op op_mod (pv 0) pe_int) (fun _ _ => rfl)) (pe_ix ix_str pe_str (pv 2) (fun _ _ => rfl))) (pv 3) rfl)) pss_nil))))
          (@pss_cons _ _ _ _ _ (ps_set (i := 4) sc_law_growing.nd rfl (Or.inl rfl) (pe_ix ix_list (pe_lst (pa_cons pe_str (pa_cons pe_str (pa_cons pe_str pa_nil)))) (pe_op op_mod (pe_call ((ok_law_mix T).mono (by decide)) hr rfl T.m_law_mix T.F_law_mix.kp T.b_law_mix .nil pass0 (pa_cons (pv 0) (pa_cons pe_int pa_nil))) pe_int) (fun _ _ => rfl)))
          (@pss_cons _ _ _ _ _ (ps_set (i := 5) sc_law_growing.nd rfl (Or.inl rfl) (pe_op op_mod (pe_call ((ok_law_mix T).mono (by decide)) hr rfl T.m_law_mix T.F_law_mix.kp T.b_law_mix .nil pass0 (pa_cons (pv 0) (pa_cons pe_int pa_nil))) pe_int))
          (pss_one (ps_ret (pe_tup (pa_cons (pe_tup (pa_cons (pv 1) (pa_cons (pv 4) (pa_cons (pe_call ((ok_law_number T).mono (by decide)) hr rfl T.m_law_number T.F_law_number.kp T.b_law_number .nil pass0 (pa_cons (pv 0) (pa_cons pe_int pa_nil))) (pa_cons (pv 5) (pa_cons (pe_op op_add pe_int (pe_op op_mod (pe_call ((ok_law_mix T).mono (by decide)) hr rfl T.m_law_mix T.F_law_mix.kp T.b_law_mix .nil pass0 (pa_cons (pv 0) (pa_cons pe_int pa_nil))) (pe_op op_pow pe_int pe_int))) pa_nil)))))) (pa_cons (pe_call ((ok_law_number T).mono (by decide)) hr rfl T.m_law_number T.F_law_number.kp T.b_law_number .nil pass0 (pa_cons (pv 0) (pa_cons pe_int pa_nil))) pa_nil))))))))), ?_⟩
    refine a_seq ?_
    refine a_asg ?_
    refine fun p1 hp2 => ?_
    obtain ⟨gb4, sm5, hb6, oF7, oH8, ne9⟩ := alo2 (o := (.dK [])) gb hp2
    generalize upd H p1 (.dK []) = H3 at gb4 sm5 oH8 ⊢
    refine a_name ?_
    try dsimp only
    refine a_seq ?_
    refine a_for ?_
    refine a_rng1 ?_
    refine a_cons ?_
    refine a_op ?_
    refine a_call ?_
    refine a_cons ?_
    refine a_var rfl ?_
    refine a_cons ?_
    refine a_c ?_
    refine a_nil ?_
    refine ⟨F, _, _, cell, 1, rfl, gb4.s, rfl, rfl, ?_⟩
    rintro v10 F11 H12 r13 g14 hr15 hp16
    have gb17 := gb4.tr g14
    have le18 := g14.le
    have oH19 := g14.h _ _ oH8
    have oF20 := g14.own oF7 oH8
    have cm21 := g14.fz cm
    obtain rfl : v10 = V.int r13 := hr15
    refine a_c ?_
    refine a_I (by decide) ?_
    have m22 : 0 ≤ (r13 % 5) ∧ (r13 % 5) < 5 := ⟨Int.emod_nonneg _ (by decide), Int.emod_lt_of_pos _ (by decide)⟩
    refine a_nil ?_
    refine ⟨_, rfl, by first | omega | walk_at "o", by first | omega | walk_at "o", for_range (lo := 0) (n := (Int.toNat (r13 % 5))) (fun i σ' H' => ∃ (F23 : Hp) (kv24 : List (Key × V)) (parts25 : List (Str × Rat)) (o26 : Option V) (o27 : Option V), σ' = [some (V.int cell), some (V.ref p1), o27, o26, none, none] ∧ Gr0 F H F23 H' ∧ Fz (frzd F) F23 ∧ Le F11 F23 ∧ H' p1 = some (.dK kv24) ∧ F23 p1 = none ∧ Dk (rFr K) F23 kv24 parts25 ∧ (parts25.map (·.1)).Nodup ∧ (parts25.length ≤ i)) ?_ ?_ ?_⟩
    · exact ⟨F11, _, [], _, _, rfl, gb17, cm21, Le.refl _, oH19, oF20, (Dk.mo le18 True.intro), List.nodup_nil, by exact Nat.le_refl _⟩
    · rintro i28 σ' H29 hi30 ⟨F31, kv35, m36, o37, o38, rfl, gb32, cm33, le34, oH39, oF40, dk41, nd42, q1⟩
      rw [show (0 : Int) + (i28 : Int) = (i28 : Int) from Int.zero_add _]
      refine a_name ?_
      try dsimp only
      have u1 : i28 ≤ 3 := by omega
      refine a_seq ?_
      refine a_asg ?_
      refine a_call ?_
      refine a_cons ?_
      refine a_var rfl ?_
      refine a_cons ?_
      refine a_op ?_
      refine a_op ?_
      refine a_c ?_
      refine a_var rfl ?_
      refine a_I (mulL2 (by decide) (by decide)) ?_
      refine a_c ?_
      refine a_I0 ?_
      refine a_nil ?_
      refine ⟨F31, _, _, cell, ((3 * (i28 : Int)) + 2), rfl, gb32.s, rfl, rfl, ?_⟩
      rintro v43 F44 H45 r46 g47 hr48 hp49
      have gb50 := gb32.tr g47
      have le51 := g47.le
      have oH52 := g47.h _ _ oH39
      have oF53 := g47.own oF40 oH39
      have cm54 := g47.fz cm33
      obtain ⟨a55, rfl, sq56⟩ := hr48
      refine a_name ?_
      try dsimp only
      refine a_if ?_
      refine a_test ?_
      refine a_op ?_
      refine a_op ?_
      refine a_var rfl ?_
      refine a_c ?_
      refine a_ixT (Same.tup gb50.s sq56) (fr0 r46) ?_
      refine a_c ?_
      refine a_neI ?_
      refine a_bl ?_
      refine iteDN (fun c57 => ?_) (fun c57 => ?_)
      · refine a_dput ?_
        refine a_var rfl ?_
        refine a_var rfl ?_
        refine a_op ?_
        refine a_op ?_
        refine a_lst ?_
        refine a_cons ?_
        refine a_c ?_
        have ln58 : ("left " : Str).length = 5 := by decide +kernel
        refine a_cons ?_
        refine a_c ?_
        have ln59 : ("" : Str).length = 0 := by decide +kernel
        refine a_cons ?_
        refine a_c ?_
        have ln60 : ("gap" : Str).length = 3 := by decide +kernel
        refine a_nil ?_
        refine ⟨by show 3 ≤ sizeLine; decide, fun p61 hp62 => ?_⟩
        obtain ⟨F63, g65, e66⟩ := al2 (o := (.lst [V.str ("left " : Str), V.str ("" : Str), V.str ("gap" : Str)])) gb50.s (by intro _ _ z; cases z) hp62
        generalize upd H45 p61 (.lst [V.str ("left " : Str), V.str ("" : Str), V.str ("gap" : Str)]) = H64 at g65 ⊢
        have gb67 := gb50.tr g65
        have le68 := g65.le
        have oH69 := g65.h _ _ oH52
        have oF70 := g65.own oF53 oH52
        have cm71 := g65.fz cm54
        have al72 : Al rS F63 [.str ("left " : Str), .str ("" : Str), .str ("gap" : Str)] [("left " : Str), ("" : Str), ("gap" : Str)] := ⟨rfl, ⟨rfl, ⟨rfl, True.intro⟩⟩⟩
        refine a_op ?_
        refine a_var rfl ?_
        refine a_c ?_
        refine a_I (by decide) ?_
        have m73 : 0 ≤ (cell % 3) ∧ (cell % 3) < 3 := ⟨Int.emod_nonneg _ (by decide), Int.emod_lt_of_pos _ (by decide)⟩
        obtain ⟨x75, v74, h76, h77, h78⟩ := Al.ix al72 (i := (cell % 3)) (by walk_at "o") (by walk_at "ol")
        refine a_ixL (Same.seq gb67.s (SqL.of e66)) h77 ?_
        have h76m := List.mem_of_getElem? h76
        simp only [List.mem_cons, List.not_mem_nil, or_false] at h76m
        have h76l : x75.length ≤ 5 := by rcases h76m with z | z | z <;> (rw [z]; decide +kernel)
        obtain rfl : v74 = V.str x75 := h78
        refine a_op ?_
        refine a_c ?_
        have ln79 : ("dbca" : Str).length = 4 := by decide +kernel
        refine a_var rfl ?_
        refine a_ixS (Nat.le_trans (show ("dbca" : Str).length ≤ 100000 by omega) (by decide)) (by walk_at "o") (by walk_at "o") ?_
        have ln80 : (sgn ("dbca" : Str) (i28 : Int)).length = 1 := rfl
        have ln81 : (x75 ++ (sgn ("dbca" : Str) (i28 : Int))).length = x75.length + (sgn ("dbca" : Str) (i28 : Int)).length := str_len_app _ _
        refine ⟨_, _, rfl, rfl, Nat.le_trans (show _ ≤ 100000 by omega) (by decide), ?_⟩
        refine a_dputK oH69 (by rw [Dk.length (Dk.mo (le51.trans le68) dk41)]; omega) (chg gb67 hb6 oF70 (fun H82 gb83 oH84 ne85 => ?_))
        try dsimp only
        exact ⟨F63, _, (ptd m36 (x75 ++ (sgn ("dbca" : Str) (i28 : Int))) r46), _, _, rfl, gb83, cm71, ((le34.trans le51).trans le68), oH84, oF70, (Dk.put (x := (x75 ++ (sgn ("dbca" : Str) (i28 : Int)))) ⟨_, rfl, (Le.tup le68 sq56)⟩ (Dk.mo (le51.trans le68) dk41)), (nd_ptd nd42 (x75 ++ (sgn ("dbca" : Str) (i28 : Int))) r46), by first | exact Nat.le_trans (ptd_len _ _ _) (by omega) | omega⟩
      · refine a_next ?_
        try dsimp only
        exact ⟨F44, _, m36, _, _, rfl, gb50, cm54, (le34.trans le51), oH52, oF53, (Dk.mo le51 dk41), nd42, by first | exact Nat.le_trans (ptd_len _ _ _) (by omega) | omega⟩
    · rintro σ' H86 ⟨F87, kv91, m92, o93, o94, rfl, gb88, cm89, le90, oH95, oF96, dk97, nd98, q1⟩
      try dsimp only
      refine a_seq ?_
      refine a_asg ?_
      refine a_op ?_
      refine a_lst ?_
      refine a_cons ?_
      refine a_c ?_
      have ln99 : ("least" : Str).length = 5 := by decide +kernel
      refine a_cons ?_
      refine a_c ?_
      have ln100 : ("most" : Str).length = 4 := by decide +kernel
      refine a_cons ?_
      refine a_c ?_
      have ln101 : ("just" : Str).length = 4 := by decide +kernel
      refine a_nil ?_
      refine ⟨by show 3 ≤ sizeLine; decide, fun p102 hp103 => ?_⟩
      obtain ⟨F104, g106, e107⟩ := al2 (o := (.lst [V.str ("least" : Str), V.str ("most" : Str), V.str ("just" : Str)])) gb88.s (by intro _ _ z; cases z) hp103
      generalize upd H86 p102 (.lst [V.str ("least" : Str), V.str ("most" : Str), V.str ("just" : Str)]) = H105 at g106 ⊢
      have gb108 := gb88.tr g106
      have le109 := g106.le
      have oH110 := g106.h _ _ oH95
      have oF111 := g106.own oF96 oH95
      have cm112 := g106.fz cm89
      have al113 : Al rS F104 [.str ("least" : Str), .str ("most" : Str), .str ("just" : Str)] [("least" : Str), ("most" : Str), ("just" : Str)] := ⟨rfl, ⟨rfl, ⟨rfl, True.intro⟩⟩⟩
      refine a_op ?_
      refine a_call ?_
      refine a_cons ?_
      refine a_var rfl ?_
      refine a_cons ?_
      refine a_c ?_
      refine a_nil ?_
      refine ⟨F104, _, _, cell, 20, rfl, gb108.s, rfl, rfl, ?_⟩
      rintro v114 F115 H116 r117 g118 hr119 hp120
      have gb121 := gb108.tr g118
      have le122 := g118.le
      have oH123 := g118.h _ _ oH110
      have oF124 := g118.own oF111 oH110
      have cm125 := g118.fz cm112
      obtain rfl : v114 = V.int r117 := hr119
      refine a_c ?_
      refine a_I (by decide) ?_
      have m126 : 0 ≤ (r117 % 3) ∧ (r117 % 3) < 3 := ⟨Int.emod_nonneg _ (by decide), Int.emod_lt_of_pos _ (by decide)⟩
      obtain ⟨x128, v127, h129, h130, h131⟩ := Al.ix (Al.mo le122 al113) (i := (r117 % 3)) (by walk_at "o") (by walk_at "ol")
      refine a_ixL (Same.seq gb121.s (Le.lst le122 (SqL.of e107))) h130 ?_
      have h129m := List.mem_of_getElem? h129
      simp only [List.mem_cons, List.not_mem_nil, or_false] at h129m
      have h129l : x128.length ≤ 5 := by rcases h129m with z | z | z <;> (rw [z]; decide +kernel)
      obtain rfl : v127 = V.str x128 := h131
      refine a_name ?_
      try dsimp only
      refine a_seq ?_
      refine a_asg ?_
      refine a_op ?_
      refine a_call ?_
      refine a_cons ?_
      refine a_var rfl ?_
      refine a_cons ?_
      refine a_c ?_
      refine a_nil ?_
      refine ⟨F115, _, _, cell, 21, rfl, gb121.s, rfl, rfl, ?_⟩
      rintro v132 F133 H134 r135 g136 hr137 hp138
      have gb139 := gb121.tr g136
      have le140 := g136.le
      have oH141 := g136.h _ _ oH123
      have oF142 := g136.own oF124 oH123
      have cm143 := g136.fz cm125
      obtain rfl : v132 = V.int r135 := hr137
      refine a_c ?_
      refine a_I (by decide) ?_
      have m144 : 0 ≤ (r135 % 5) ∧ (r135 % 5) < 5 := ⟨Int.emod_nonneg _ (by decide), Int.emod_lt_of_pos _ (by decide)⟩
      refine a_name ?_
      try dsimp only
      refine a_ret ?_
      refine a_tup ?_
      refine a_cons ?_
      refine a_tup ?_
      refine a_cons ?_
      refine a_var rfl ?_
      refine a_cons ?_
      refine a_var rfl ?_
      refine a_cons ?_
      refine a_call ?_
      refine a_cons ?_
      refine a_var rfl ?_
      refine a_cons ?_
      refine a_c ?_
      refine a_nil ?_
      refine ⟨F133, _, _, cell, 22, rfl, gb139.s, rfl, rfl, ?_⟩
      rintro v145 F146 H147 r148 g149 hr150 hp151
      have gb152 := gb139.tr g149
      have le153 := g149.le
      have oH154 := g149.h _ _ oH141
      have oF155 := g149.own oF142 oH141
      have cm156 := g149.fz cm143
      obtain ⟨a157, rfl, sq158⟩ := hr150
      refine a_cons ?_
      refine a_var rfl ?_
      refine a_cons ?_
      refine a_op ?_
      refine a_c ?_
      refine a_op ?_
      refine a_call ?_
      refine a_cons ?_
      refine a_var rfl ?_
      refine a_cons ?_
      refine a_c ?_
      refine a_nil ?_
      refine ⟨F146, _, _, cell, 25, rfl, gb152.s, rfl, rfl, ?_⟩
      rintro v159 F160 H161 r162 g163 hr164 hp165
      have gb166 := gb152.tr g163
      have le167 := g163.le
      have oH168 := g163.h _ _ oH154
      have oF169 := g163.own oF155 oH154
      have cm170 := g163.fz cm156
      obtain rfl : v159 = V.int r162 := hr164
      refine a_op ?_
      refine a_c ?_
      refine a_c ?_
      refine a_powC (z := 1000000) (by decide) ⟨by decide, by decide, by decide⟩ ?_
      refine a_I (by decide) ?_
      have m171 : 0 ≤ (r162 % 1000000) ∧ (r162 % 1000000) < 1000000 := ⟨Int.emod_nonneg _ (by decide), Int.emod_lt_of_pos _ (by decide)⟩
      refine a_I0 ?_
      refine a_nil ?_
      obtain ⟨F172, gb173, cm174, le175s, e176, ne177⟩ := frz gb166 cm170 hb6 oF169 oH168 (by intro _ _ z; cases z)
      have le175 := Le.of le175s
      refine ⟨by show 5 ≤ sizeLine; decide, fun p178 hp179 => ?_⟩
      obtain ⟨F180, g182, e183⟩ := al2 (o := (.tup [V.ref p1, V.str x128, V.ref a157, V.int (r135 % 5), V.int (1 + (r162 % 1000000))])) gb173.s (by intro _ _ z; cases z) hp179
      generalize upd H161 p178 (.tup [V.ref p1, V.str x128, V.ref a157, V.int (r135 % 5), V.int (1 + (r162 % 1000000))]) = H181 at g182 ⊢
      have gb184 := gb173.tr g182
      have le185 := g182.le
      have cm186 := g182.fz cm174
      have hde := g182.f _ _ e176
      have hdb := hb6
      have hdt := e183
      refine a_cons ?_
      refine a_call ?_
      refine a_cons ?_
      refine a_var rfl ?_
      refine a_cons ?_
      refine a_c ?_
      refine a_nil ?_
      refine ⟨F180, _, _, cell, 26, rfl, gb184.s, rfl, rfl, ?_⟩
      rintro v187 F188 H189 r190 g191 hr192 hp193
      have gb194 := gb184.tr g191
      have le195 := g191.le
      have cm196 := g191.fz cm186
      obtain ⟨a197, rfl, sq198⟩ := hr192
      refine a_nil ?_
      refine ⟨by show 2 ≤ sizeLine; decide, fun p199 hp200 => ?_⟩
      obtain ⟨F201, g203, e204⟩ := al2 (o := (.tup [V.ref p178, V.ref a197])) gb194.s (by intro _ _ z; cases z) hp200
      generalize upd H189 p199 (.tup [V.ref p178, V.ref a197]) = H202 at g203 ⊢
      have gb205 := gb194.tr g203
      have le206 := g203.le
      have cm207 := g203.fz cm196
      exact k _ _ _ (((m92, x128, r148, (r135 % 5), (1 + (r162 % 1000000))), r190)) (Gr.of gb205 cm207) (⟨_, _, _, rfl, (SqT.of e204), ⟨_, _, _, _, _, _, rfl, (Le.tup (le195.trans le206) (SqT.of e183)), ⟨_, _, rfl, (Le.dic ((le185.trans le195).trans le206) (Rd.of e176)), (Dk.mo ((le185.trans le195).trans le206) (Dk.mo (((((le109.trans le122).trans le140).trans le153).trans le167).trans le175) dk97)), nd98⟩, rfl, ⟨_, rfl, (Le.tup ((((le167.trans le175).trans le185).trans le195).trans le206) sq158)⟩, rfl, rfl⟩, ⟨_, rfl, (Le.tup le206 sq198)⟩⟩) (by exact ⟨by assumption, by assumption⟩)
def sp_law_width (K : PySem.W.Frag) : Sp := fun vs H Q _ => ∃ (F : Hp) (v_first : V) (first : Int), vs = [v_first] ∧ Same F H ∧ rI F v_first first ∧ ∀ (v : V) (F' H' : Hp) (r : Rat), Gr F H F' H' → (rFr K) F' v r → (bs r ≤ 40) → Q v H'
set_option linter.unusedVariables false in
theorem ok_law_width (T : Tx K mg) : FnOk P w K mg base CX0 3 T.a_law_width T.d_law_width ["_law_first"] (sp_law_width K) := by
  refine T.F_law_width.ok sc_law_width (fun vs H Q E h => ?_) (fun cdv A outer s H vs Q E hr h => ?_)
  · obtain ⟨F, v_first, first, rfl, _⟩ := h
    rfl
  · obtain ⟨F, v_first, first, rfl, wd, r_first, k⟩ := h
    have hu := hu_of hr
    have gb := Gr0.refl wd
    have cm := Fz.refl F
    obtain rfl : v_first = V.int first := r_first
    refine ⟨_, (@pss_cons _ _ _ _ _ (ps_set (i := 1) sc_law_width.nd rfl (Or.inl rfl) (pe_op op_mod (pv 0) pe_int))
          (@pss_cons _ _ _ _ _ (ps_if (pt_cmpR op_eq (pv 1) pe_int (nomark _)) (pss_one (ps_ret (pe_tup (pa_cons pe_int (pa_cons pe_int pa_nil))))) pss_nil)
          (pss_one (ps_ret (pe_call ((ok_law_lowest T).mono (by decide)) hr rfl T.m_law_lowest T.F_law_lowest.kp T.b_law_lowest .nil pass0 (pa_cons (pe_op op_mod (pe_call ((ok_law_mix T).mono (by decide)) hr rfl T.m_law_mix T.F_law_mix.kp T.b_law_mix .nil pass0 (pa_cons (pv 0) (pa_cons pe_int pa_nil))) (pe_ix ix_list (pe_lst (pa_cons pe_int (pa_cons pe_int (pa_cons (pe_op op_pow pe_int pe_int) pa_nil)))) (pe_op op_sub (pv 1) pe_int) (fun _ _ => rfl))) (pa_cons (pe_ix ix_list (pe_lst (pa_cons pe_int (pa_cons pe_int (pa_cons pe_int pa_nil)))) (pe_op op_sub (pv 1) pe_int) (fun _ _ => rfl)) pa_nil))))))), ?_⟩
    refine a_seq ?_
    refine a_asg ?_
    refine a_op ?_
    refine a_var rfl ?_
    refine a_c ?_
    refine a_I (by decide) ?_
    have m1 : 0 ≤ (first % 4) ∧ (first % 4) < 4 := ⟨Int.emod_nonneg _ (by decide), Int.emod_lt_of_pos _ (by decide)⟩
    refine a_name ?_
    try dsimp only
    refine a_seq ?_
    refine a_if ?_
    refine a_test ?_
    refine a_op ?_
    refine a_var rfl ?_
    refine a_c ?_
    refine a_eqI ?_
    refine a_bl ?_
    refine iteD (fun c2 => ?_) (fun c2 => ?_)
    · refine a_ret ?_
      refine a_tup ?_
      refine a_cons ?_
      refine a_c ?_
      refine a_cons ?_
      refine a_c ?_
      refine a_nil ?_
      refine ⟨by show 2 ≤ sizeLine; decide, fun p3 hp4 => ?_⟩
      obtain ⟨F5, g7, e8⟩ := al2 (o := (.tup [V.int 0, V.int 1])) gb.s (by intro _ _ z; cases z) hp4
      generalize upd H p3 (.tup [V.int 0, V.int 1]) = H6 at g7 ⊢
      have gb9 := gb.tr g7
      have le10 := g7.le
      have cm11 := g7.fz cm
      have sq12 : SqT K F5 p3 (fr ((0 : Int) : Rat)) := by rw [fr_int]; exact SqT.of e8
      exact k _ _ _ (((0 : Int) : Rat)) (Gr.of gb9 cm11) (⟨_, rfl, sq12⟩) (by decide +kernel)
    · refine a_next ?_
      try dsimp only
      refine a_ret ?_
      refine a_call ?_
      refine a_cons ?_
      refine a_op ?_
      refine a_call ?_
      refine a_cons ?_
      refine a_var rfl ?_
      refine a_cons ?_
      refine a_c ?_
      refine a_nil ?_
      refine ⟨F, _, _, first, 1, rfl, gb.s, rfl, rfl, ?_⟩
      rintro v13 F14 H15 r16 g17 hr18 hp19
      have gb20 := gb.tr g17
      have le21 := g17.le
      have cm22 := g17.fz cm
      obtain rfl : v13 = V.int r16 := hr18
      refine a_op ?_
      refine a_lst ?_
      refine a_cons ?_
      refine a_c ?_
      refine a_cons ?_
      refine a_c ?_
      refine a_cons ?_
      refine a_op ?_
      refine a_c ?_
      refine a_c ?_
      refine a_powC (z := 1000000) (by decide) ⟨by decide, by decide, by decide⟩ ?_
      refine a_nil ?_
      refine ⟨by show 3 ≤ sizeLine; decide, fun p23 hp24 => ?_⟩
      obtain ⟨F25, g27, e28⟩ := al2 (o := (.lst [V.int 9, V.int 40, V.int 1000000])) gb20.s (by intro _ _ z; cases z) hp24
      generalize upd H15 p23 (.lst [V.int 9, V.int 40, V.int 1000000]) = H26 at g27 ⊢
      have gb29 := gb20.tr g27
      have le30 := g27.le
      have cm31 := g27.fz cm22
      have al32 : Al rI F25 [.int 9, .int 40, .int 1000000] [9, 40, 1000000] := ⟨rfl, ⟨rfl, ⟨rfl, True.intro⟩⟩⟩
      refine a_op ?_
      refine a_var rfl ?_
      refine a_c ?_
      refine a_I0 ?_
      obtain ⟨x34, v33, h35, h36, h37⟩ := Al.ix al32 (i := ((first % 4) - 1)) (by walk_at "o") (by walk_at "ol")
      refine a_ixL (Same.seq gb29.s (SqL.of e28)) h36 ?_
      have h35m := List.mem_of_getElem? h35
      simp only [List.mem_cons, List.not_mem_nil, or_false] at h35m
      obtain rfl : v33 = V.int x34 := h37
      refine a_I (by walk_at "o") ?_
      have m38 : 0 ≤ (r16 % x34) ∧ (r16 % x34) < x34 := ⟨Int.emod_nonneg _ (by walk_at "o"), Int.emod_lt_of_pos _ (by walk_at "o")⟩
      refine a_cons ?_
      refine a_op ?_
      refine a_lst ?_
      refine a_cons ?_
      refine a_c ?_
      refine a_cons ?_
      refine a_c ?_
      refine a_cons ?_
      refine a_c ?_
      refine a_nil ?_
      refine ⟨by show 3 ≤ sizeLine; decide, fun p39 hp40 => ?_⟩
      obtain ⟨F41, g43, e44⟩ := al2 (o := (.lst [V.int 1, V.int 3, V.int 7])) gb29.s (by intro _ _ z; cases z) hp40
      generalize upd H26 p39 (.lst [V.int 1, V.int 3, V.int 7]) = H42 at g43 ⊢
      have gb45 := gb29.tr g43
      have le46 := g43.le
      have cm47 := g43.fz cm31
      have al48 : Al rI F41 [.int 1, .int 3, .int 7] [1, 3, 7] := ⟨rfl, ⟨rfl, ⟨rfl, True.intro⟩⟩⟩
      refine a_op ?_
      refine a_var rfl ?_
      refine a_c ?_
      refine a_I0 ?_
      obtain ⟨x50, v49, h51, h52, h53⟩ := Al.ix al48 (i := ((first % 4) - 1)) (by walk_at "o") (by walk_at "ol")
      refine a_ixL (Same.seq gb45.s (SqL.of e44)) h52 ?_
      have h51m := List.mem_of_getElem? h51
      simp only [List.mem_cons, List.not_mem_nil, or_false] at h51m
      obtain rfl : v49 = V.int x50 := h53
      refine a_nil ?_
      refine ⟨F41, _, _, (r16 % x34), x50, rfl, gb45.s, rfl, rfl, (by exact ⟨by omega, Nat.le_trans (bi_small 40 (by omega)) (by decide)⟩), ?_⟩
      rintro v54 F55 H56  g58 hr59 
      have gb61 := gb45.tr g58
      have le62 := g58.le
      have cm63 := g58.fz cm47
      obtain ⟨a64, rfl, sq65⟩ := hr59
      exact k _ _ _ ((Rat.divInt ((r16 % x34)) x50)) (Gr.of gb61 cm63) (⟨_, rfl, sq65⟩) (by exact bs_divInt (by omega) (bi_small 40 (by omega)) (bi_small 40 (by omega)))
def sp_law_copy (K : PySem.W.Frag) : Sp := fun vs H Q _ => ∃ (F : Hp) (v_growing_here : V) (growing_here : (List (((List (Str × Rat)) × Str × Rat × Int × Int) × Rat))), vs = [v_growing_here] ∧ Same F H ∧ (rL K (r2 K (r5 K (rD (rFr K)) rS (rFr K) rI rI) (rFr K))) F v_growing_here growing_here ∧ (growing_here.length ≤ 100) ∧ ∀ (v : V) (F' H' : Hp), Gr F H F' H' → (rL K (r2 K (r5 K (rD (rFr K)) rS (rFr K) rI rI) (rFr K))) F' v (growing_here) → Q v H'
set_option linter.unusedVariables false in
theorem ok_law_copy (T : Tx K mg) : FnOk P w K mg base CX0 1 T.a_law_copy T.d_law_copy ["_law_growing_here"] (sp_law_copy K) := by
  refine T.F_law_copy.ok sc_law_copy (fun vs H Q E h => ?_) (fun cdv A outer s H vs Q E hr h => ?_)
  · obtain ⟨F, v_growing_here, growing_here, rfl, _⟩ := h
    rfl
  · obtain ⟨F, v_growing_here, growing_here, rfl, wd, r_growing_here, hpre, k⟩ := h
    have hu := hu_of hr
    have gb := Gr0.refl wd
    have cm := Fz.refl F
    obtain ⟨a1, vs2, rfl, sq3, al4⟩ := r_growing_here
    refine ⟨_, (pss_one (ps_ret (pe_comp (N := ["_law_one", "_law_pace"]) (ix := [none, none]) rfl (pi_list (pv 0)) (fun _ _ _ _ _ => (show PG _ _ (gTup K 2 _) from pg_tup rfl (pgs_cons (pg_name (i := 0) (show List.Nodup (["_law_one", "_law_pace"] : List Str) from by decide) rfl (Or.inl rfl)) (pgs_cons (pg_name (i := 1) (show List.Nodup (["_law_one", "_law_pace"] : List Str) from by decide) rfl (Or.inl rfl)) pgs_nil)))) (fun _ _ _ _ _ => pts_nil) (fun _ _ _ _ _ => (pe_tup (pa_cons (pe_tup (pa_cons (pe_callTy call_dictD rfl T.z_dict rfl (pa_cons (pe_ix (show IxR _ (rIxT K) from ix_tup) (pv 0) pe_int (fun _ _ => rfl)) pa_nil)) (pa_cons (pe_ix (show IxR _ (rIxT K) from ix_tup) (pv 0) pe_int (fun _ _ => rfl)) (pa_cons (pe_ix (show IxR _ (rIxT K) from ix_tup) (pv 0) pe_int (fun _ _ => rfl)) (pa_cons (pe_ix (show IxR _ (rIxT K) from ix_tup) (pv 0) pe_int (fun _ _ => rfl)) (pa_cons (pe_ix (show IxR _ (rIxT K) from ix_tup) (pv 0) pe_int (fun _ _ => rfl)) pa_nil)))))) (pa_cons (pv 1) pa_nil)))) True.intro))), ?_⟩
    refine a_ret ?_
    refine a_comp ?_
    refine a_ilist ?_
    refine a_var rfl ?_
    have hml7 : (growing_here).length ≤ 1000000 := by omega
    refine ⟨_, rfl, ⟨_, (Same.seq gb.s sq3)⟩, comp_list (K := K) (a := a1) (xs := vs2) (fun i acc H' => ∃ (F5 : Hp) (ts6 : List (((List (Str × Rat)) × Str × Rat × Int × Int) × Rat)), True ∧ Gr0 F H F5 H' ∧ Fz (frzd F) F5 ∧ Le F F5 ∧ Al (r2 K (r5 K (rD (rFr K)) rS (rFr K) rI rI) (rFr K)) F5 acc ts6 ∧ ts6.length ≤ i ∧ (ts6 = growing_here.take i)) ?_ ?_ ?_ ?_⟩
    · exact ⟨F, [], True.intro, gb, cm, Le.refl _, (show Al (r2 K (r5 K (rD (rFr K)) rS (rFr K) rI rI) (rFr K)) F [] [] from True.intro), (by first | (simp; done) | (rw [List.length_append]; simp only [List.length_cons, List.length_nil]; omega) | omega), by rfl⟩
    · rintro i acc H8 _ ⟨F9, ts13, _, gb10, cm11, le12, al14, tl15, q1⟩
      exact (Same.seq gb10.s (Le.lst le12 sq3))
    · rintro i16 y19 acc20 H17 hi18 ⟨F21, ts25, _, gb22, cm23, le24, al26, tl27, q1⟩
      obtain ⟨x28, hx29, hr30⟩ := Al.get (Al.mo le24 al4) hi18
      have hil := (List.getElem?_eq_some_iff.mp hx29).1
      obtain ⟨a31, v33, v34, rfl, sq32, h35, h36⟩ := hr30
      obtain ⟨a37, v39, v40, v41, v42, v43, rfl, sq38, h44, h45, h46, h47, h48⟩ := h35
      obtain ⟨a49, kvs50, rfl, rd51, dk52, nd53⟩ := h44
      obtain rfl : v40 = V.str x28.1.2.1 := h45
      obtain ⟨a54, rfl, sq55⟩ := h46
      obtain rfl : v42 = V.int x28.1.2.2.2.1 := h47
      obtain rfl : v43 = V.int x28.1.2.2.2.2 := h48
      obtain ⟨a56, rfl, sq57⟩ := h36
      refine a_gtup2 (Same.tup gb22.s sq32) ?_
      refine ⟨Wk.non (Wk.non (Wk.nil)), ?_⟩
      try dsimp only
      refine a_yes ?_
      refine iteT ?_
      refine a_tup ?_
      refine a_cons ?_
      refine a_tup ?_
      refine a_cons ?_
      refine a_cb ?_
      refine a_cons ?_
      refine a_op ?_
      refine a_var rfl ?_
      refine a_c ?_
      refine a_ixT (Same.tup gb22.s sq38) rfl ?_
      refine a_nil ?_
      refine ⟨_, _, rfl, (Same.rd gb22.s rd51), fun p58 hp59 => ?_⟩
      obtain ⟨gb61, sm62, hb63, oF64, oH65, ne66⟩ := alo2 (o := (.dK kvs50)) gb22 hp59
      generalize upd H17 p58 (.dK kvs50) = H60 at gb61 sm62 oH65 ⊢
      refine a_cons ?_
      refine a_op ?_
      refine a_var rfl ?_
      refine a_c ?_
      refine a_ixT (Same.tup gb61.s sq38) rfl ?_
      refine a_cons ?_
      refine a_op ?_
      refine a_var rfl ?_
      refine a_c ?_
      refine a_ixT (Same.tup gb61.s sq38) rfl ?_
      refine a_cons ?_
      refine a_op ?_
      refine a_var rfl ?_
      refine a_c ?_
      refine a_ixT (Same.tup gb61.s sq38) rfl ?_
      refine a_cons ?_
      refine a_op ?_
      refine a_var rfl ?_
      refine a_c ?_
      refine a_ixT (Same.tup gb61.s sq38) rfl ?_
      refine a_nil ?_
      obtain ⟨F67, gb68, cm69, le70s, e71, ne72⟩ := frz gb61 cm23 hb63 oF64 oH65 (by intro _ _ z; cases z)
      have le70 := Le.of le70s
      refine ⟨by show 5 ≤ sizeLine; decide, fun p73 hp74 => ?_⟩
      obtain ⟨F75, g77, e78⟩ := al2 (o := (.tup [V.ref p58, V.str x28.1.2.1, V.ref a54, V.int x28.1.2.2.2.1, V.int x28.1.2.2.2.2])) gb68.s (by intro _ _ z; cases z) hp74
      generalize upd H60 p73 (.tup [V.ref p58, V.str x28.1.2.1, V.ref a54, V.int x28.1.2.2.2.1, V.int x28.1.2.2.2.2]) = H76 at g77 ⊢
      have gb79 := gb68.tr g77
      have le80 := g77.le
      have cm81 := g77.fz cm69
      have hde := g77.f _ _ e71
      have hdb := hb63
      have hdt := e78
      refine a_cons ?_
      refine a_var rfl ?_
      refine a_nil ?_
      refine ⟨by show 2 ≤ sizeLine; decide, fun p82 hp83 => ?_⟩
      obtain ⟨F84, g86, e87⟩ := al2 (o := (.tup [V.ref p73, V.ref a56])) gb79.s (by intro _ _ z; cases z) hp83
      generalize upd H76 p82 (.tup [V.ref p73, V.ref a56]) = H85 at g86 ⊢
      have gb88 := gb79.tr g86
      have le89 := g86.le
      have cm90 := g86.fz cm81
      refine ⟨by rw [Al.length (Al.mo ((le70.trans le80).trans le89) al26)]; have := sizeLine_big; omega, ?_⟩
      exact ⟨F84, (ts25 ++ [((x28.1.1, x28.1.2.1, x28.1.2.2.1, x28.1.2.2.2.1, x28.1.2.2.2.2), x28.2)]), True.intro, gb88, cm90, (((le24.trans le70).trans le80).trans le89), (Al.snoc (Al.mo ((le70.trans le80).trans le89) al26) ⟨_, _, _, rfl, (SqT.of e87), ⟨_, _, _, _, _, _, rfl, (Le.tup le89 (SqT.of e78)), ⟨_, _, rfl, (Le.dic (le80.trans le89) (Rd.of e71)), (Dk.mo (le80.trans le89) (Dk.mo le70 dk52)), nd53⟩, rfl, ⟨_, rfl, (Le.tup ((le70.trans le80).trans le89) sq55)⟩, rfl, rfl⟩, ⟨_, rfl, (Le.tup ((le70.trans le80).trans le89) sq57)⟩⟩), (by first | (simp; done) | (rw [List.length_append]; simp only [List.length_cons, List.length_nil]; omega) | omega), by rw [List.take_add_one, hx29, ← q1]; rfl⟩
    · rintro acc92 H91 ⟨F93, ts97, _, gb94, cm95, le96, al98, tl99, q1⟩
      have hlen := Al.length (Al.mo le96 al4)
      refine ⟨(by rw [Al.length al98]; have := sizeLine_big; omega), fun p100 hp101 => ?_⟩
      obtain ⟨F102, g104, e105⟩ := al2 (o := (.lst acc92)) gb94.s (by intro _ _ z; cases z) hp101
      generalize upd H91 p100 (.lst acc92) = H103 at g104 ⊢
      have gb106 := gb94.tr g104
      have le107 := g104.le
      have cm108 := g104.fz cm95
      have hval : (ts97 : (List (((List (Str × Rat)) × Str × Rat × Int × Int) × Rat))) = (growing_here) := by rw [q1, List.take_of_length_le (by omega)]
      have rp109 : (rL K (r2 K (r5 K (rD (rFr K)) rS (rFr K) rI rI) (rFr K))) F102 (V.ref p100) (ts97) := ⟨_, _, rfl, (SqL.of e105), (Al.mo le107 al98)⟩
      replace rp109 := Eq.mp (congrArg ((rL K (r2 K (r5 K (rD (rFr K)) rS (rFr K) rI rI) (rFr K))) F102 (V.ref p100)) hval) rp109
      exact k _ _ _ (Gr.of gb106 cm108) rp109
def sp_law_whole (K : PySem.W.Frag) : Sp := fun vs H Q _ => ∃ (F : Hp) (v_found : V) (found : Int), vs = [v_found] ∧ Same F H ∧ rI F v_found found ∧ ∀ (v : V) (F' H' : Hp), Gr F H F' H' → rB F' v (true) → Q v H'
set_option linter.unusedVariables false in
theorem ok_law_whole (T : Tx K mg) : FnOk P w K mg base CX0 1 T.a_law_whole T.d_law_whole ["_law_found"] (sp_law_whole K) := by
  refine T.F_law_whole.ok sc_law_whole (fun vs H Q E h => ?_) (fun cdv A outer s H vs Q E hr h => ?_)
  · obtain ⟨F, v_found, found, rfl, _⟩ := h
    rfl
  · obtain ⟨F, v_found, found, rfl, wd, r_found, k⟩ := h
    have hu := hu_of hr
    have gb := Gr0.refl wd
    have cm := Fz.refl F
    obtain rfl : v_found = V.int found := r_found
    refine ⟨_, (pss_one (ps_ret (pe_and (pe_callB call_isx rfl T.z_isinstance rfl (pa_cons (pv 0) (pa_cons (pe_bltn (v := .ty "int") rfl T.z_int rfl rfl) pa_nil))) (pe_one (pe_not (pe_callB call_isx rfl T.z_isinstance rfl (pa_cons (pv 0) (pa_cons (pe_bltn (v := .ty "bool") rfl T.z_bool rfl rfl) pa_nil)))))))), ?_⟩
    refine a_ret ?_
    refine a_andV ?_
    refine a_cb ?_
    refine a_cons ?_
    refine a_var rfl ?_
    refine a_cons ?_
    refine a_c ?_
    refine a_nil ?_
    refine ⟨_, _, _, true, _, rfl, tx_int, rfl, rfl, ?_⟩
    refine a_bl ?_
    refine iteT ?_
    refine a_notV ?_
    refine a_cb ?_
    refine a_cons ?_
    refine a_var rfl ?_
    refine a_cons ?_
    refine a_c ?_
    refine a_nil ?_
    refine ⟨_, _, _, false, _, rfl, tx_int, rfl, rfl, ?_⟩
    refine a_bl ?_
    have rp1 : rB F (V.bl (!false)) ((!false)) := rfl
    exact k _ _ _ (Gr.of gb cm) rp1
def sp_law_right (K : PySem.W.Frag) : Sp := fun vs H Q _ => ∃ (F : Hp) (v_found v_growing_here v_width_here : V) (found : (List ((List (Str × Rat)) × Str × Rat × Int × Int))) (growing_here : (List (((List (Str × Rat)) × Str × Rat × Int × Int) × Rat))) (width_here : Rat), vs = [v_found, v_growing_here, v_width_here] ∧ Same F H ∧ (rL K (r5 K (rD (rFr K)) rS (rFr K) rI rI)) F v_found found ∧ (rL K (r2 K (r5 K (rD (rFr K)) rS (rFr K) rI rI) (rFr K))) F v_growing_here growing_here ∧ (rFr K) F v_width_here width_here ∧ (found = rowsS growing_here width_here ∧ growing_here.length ≤ 100 ∧ (∀ p ∈ growing_here, bs p.1.2.2.1 ≤ 40 ∧ bs p.2 ≤ 40) ∧ bs width_here ≤ 40) ∧ ∀ (v : V) (F' H' : Hp), Gr F H F' H' → rB F' v (true) → Q v H'
set_option linter.unusedVariables false in
theorem ok_law_right (T : Tx K mg) : FnOk P w K mg base CX0 3 T.a_law_right T.d_law_right ["_law_found", "_law_growing_here", "_law_width_here"] (sp_law_right K) := by
  refine T.F_law_right.ok sc_law_right (fun vs H Q E h => ?_) (fun cdv A outer s H vs Q E hr h => ?_)
  · obtain ⟨F, v_found, v_growing_here, v_width_here, found, growing_here, width_here, rfl, _⟩ := h
    rfl
  · obtain ⟨F, v_found, v_growing_here, v_width_here, found, growing_here, width_here, rfl, wd, r_found, r_growing_here, r_width_here, hpre, k⟩ := h
    have hu := hu_of hr
    have gb := Gr0.refl wd
    have cm := Fz.refl F
    obtain ⟨a1, vs2, rfl, sq3, al4⟩ := r_found
    obtain ⟨a5, vs6, rfl, sq7, al8⟩ := r_growing_here
    obtain ⟨a9, rfl, sq10⟩ := r_width_here
    obtain ⟨w1, w2, w3, w4⟩ := hpre
    refine ⟨_, (@pss_cons _ _ _ _ _ (ps_if (PW.pt (pw_or (pt_not (pt_val (pe_callB call_isx rfl T.z_isinstance rfl (pa_cons (pv 0) (pa_cons (pe_bltn (v := .ty "list") rfl T.z_list rfl rfl) pa_nil))))) (pw_or1 (pt_cmpR op_ne (pe_callB call_len_seq rfl T.z_len rfl (pa_cons (pv 0) pa_nil)) (pe_callB call_len_seq rfl T.z_len rfl (pa_cons (pv 1) pa_nil)) (nomark _))))) (pss_one (ps_ret pe_bl)) pss_nil)
          (@pss_cons _ _ _ _ _ (ps_for PassesOwn.never rfl (pi_zip rfl T.z_zip (pa_cons (pv 0) (pa_cons (pv 1) pa_nil))) (pg_tup rfl (pgs_cons (pg_name (i := 3) sc_law_right.nd rfl (Or.inl rfl)) (pgs_cons (pg_name (i := 4) sc_law_right.nd rfl (Or.inl rfl)) pgs_nil))) (@pss_cons _ _ _ _ _ (ps_asg (pv 4) (pg_tup rfl (pgs_cons (pg_name (i := 5) sc_law_right.nd rfl (Or.inl rfl)) (pgs_cons (pg_name (i := 6) sc_law_right.nd rfl (Or.inl rfl)) pgs_nil))))
          (@pss_cons _ _ _ _ _ (ps_set (i := 7) sc_law_right.nd rfl (Or.inl rfl) (pe_ix ix_tup (pv 5) pe_int (fun _ _ => rfl)))
          (@pss_cons _ _ _ _ _ (ps_set (i := 8) sc_law_right.nd rfl (Or.inl rfl) (pe_op op_mulB (pe_ix ix_tup (pv 6) pe_int (fun _ _ => rfl)) (pe_ix ix_tup (pv 2) pe_int (fun _ _ => rfl))))
          (@pss_cons _ _ _ _ _ (ps_set (i := 9) sc_law_right.nd rfl (Or.inl rfl) (pe_op op_add (pe_op op_mulB (pe_ix ix_tup (pv 7) pe_int (fun _ _ => rfl)) (pv 8)) (pe_op op_mulB (pe_op op_mulB (pe_ix ix_tup (pv 6) pe_int (fun _ _ => rfl)) (pe_ix ix_tup (pv 2) pe_int (fun _ _ => rfl))) (pe_ix ix_tup (pv 7) pe_int (fun _ _ => rfl)))))
          (@pss_cons _ _ _ _ _ (ps_set (i := 10) sc_law_right.nd rfl (Or.inl rfl) (pe_call ((ok_law_lowest T).mono (by decide)) hr rfl T.m_law_lowest T.F_law_lowest.kp T.b_law_lowest .nil pass0 (pa_cons (pv 9) (pa_cons (pe_op op_mulB (pe_ix ix_tup (pv 7) pe_int (fun _ _ => rfl)) (pv 8)) pa_nil))))
          (@pss_cons _ _ _ _ _ (ps_if (PW.pt (pw_or (pt_not (pt_val (pe_callB call_isx rfl T.z_isinstance rfl (pa_cons (pv 3) (pa_cons (pe_bltn (v := .ty "tuple") rfl T.z_tuple rfl rfl) pa_nil))))) (pw_or (pt_cmpR (op_neN hr.units) (pe_slice sl_tup (pv 3) po_none (po_some pe_int)) (pe_tup (pa_cons (pe_ix ix_tup (pv 5) pe_int (fun _ _ => rfl)) (pa_cons (pe_ix ix_tup (pv 5) pe_int (fun _ _ => rfl)) (pa_cons (pv 10) pa_nil)))) (nomark _)) (pw_or1 (pt_cmpR (op_neN hr.units) (pe_slice sl_tup (pv 3) (po_some pe_int) po_none) (pe_slice sl_tup (pv 5) (po_some pe_int) po_none) (nomark _)))))) (pss_one (ps_ret pe_bl)) pss_nil)
          (pss_one (ps_if (PW.pt (pw_or (pt_not (pt_val (pe_call ((ok_law_whole T).mono (by decide)) hr rfl T.m_law_whole T.F_law_whole.kp T.b_law_whole .nil pass0 (pa_cons (pe_ix ix_tup (pe_ix ix_tup (pv 3) pe_int (fun _ _ => rfl)) pe_int (fun _ _ => rfl)) pa_nil)))) (pw_or (pt_not (pt_val (pe_call ((ok_law_whole T).mono (by decide)) hr rfl T.m_law_whole T.F_law_whole.kp T.b_law_whole .nil pass0 (pa_cons (pe_ix ix_tup (pe_ix ix_tup (pv 3) pe_int (fun _ _ => rfl)) pe_int (fun _ _ => rfl)) pa_nil)))) (pw_or1 (pt_not (pt_val (pe_call ((ok_law_whole T).mono (by decide)) hr rfl T.m_law_whole T.F_law_whole.kp T.b_law_whole .nil pass0 (pa_cons (pe_ix ix_tup (pv 3) pe_int (fun _ _ => rfl)) pa_nil)))))))) (pss_one (ps_ret pe_bl)) pss_nil)))))))))
          (pss_one (ps_ret pe_bl)))), ?_⟩
    refine a_seq ?_
    refine a_if ?_
    refine a_or ?_
    refine a_not ?_
    refine a_tB ?_
    refine a_cb ?_
    refine a_cons ?_
    refine a_var rfl ?_
    refine a_cons ?_
    refine a_c ?_
    refine a_nil ?_
    refine ⟨_, _, _, true, _, rfl, (tx_lst (Same.seq gb.s sq3)), rfl, rfl, ?_⟩
    refine a_bl ?_
    refine iteNT ?_
    refine a_test ?_
    refine a_op ?_
    refine a_cb ?_
    refine a_cons ?_
    refine a_var rfl ?_
    refine a_nil ?_
    refine ⟨_, _, rfl, .inl (Same.seq gb.s sq3), ?_⟩
    rw [Al.length al4]
    refine a_cb ?_
    refine a_cons ?_
    refine a_var rfl ?_
    refine a_nil ?_
    refine ⟨_, _, rfl, .inl (Same.seq gb.s sq7), ?_⟩
    rw [Al.length al8]
    refine a_neI ?_
    refine a_bl ?_
    refine iteDN (fun c11 => ?_) (fun c11 => ?_)
    · refine a_ret ?_
      refine a_c ?_
      exfalso
      exact c11 (by rw [w1, rowsS_len])
    · refine a_next ?_
      try dsimp only
      refine a_seq ?_
      refine a_for ?_
      refine a_izip ?_
      refine a_cons ?_
      refine a_var rfl ?_
      refine a_cons ?_
      refine a_var rfl ?_
      refine a_nil ?_
      refine ⟨_, _, rfl, ⟨_, (Same.seq gb.s sq3)⟩, ⟨_, (Same.seq gb.s sq7)⟩, for_zip (K := K) (a := a1) (b := a5) (xs := vs2) (ys := vs6) (fun i σ' H' => ∃ (F12 : Hp) (o13 : Option V) (o14 : Option V) (o15 : Option V) (o16 : Option V) (o17 : Option V) (o18 : Option V) (o19 : Option V) (o20 : Option V), σ' = [some (V.ref a1), some (V.ref a5), some (V.ref a9), o19, o20, o13, o14, o15, o16, o17, o18] ∧ Gr0 F H F12 H' ∧ Fz (frzd F) F12 ∧ Le F F12 ∧ (True)) ?_ ?_ ?_ ?_⟩
      · exact ⟨F, _, _, _, _, _, _, _, _, rfl, gb, cm, Le.refl _, by trivial⟩
      · rintro i σ' H21 _ ⟨F22, o27, o28, o29, o30, o31, o32, o33, o34, rfl, gb23, cm24, le25, inv26⟩
        exact ⟨(Same.seq gb23.s (Le.lst le25 sq3)), (Same.seq gb23.s (Le.lst le25 sq7))⟩
      · rintro i35 y39 z40 σ' H36 p41 hi37 hj38 ⟨F43, o48, o49, o50, o51, o52, o53, o54, o55, rfl, gb44, cm45, le46, inv47⟩ hp42
        obtain ⟨x56, hx57, hr58⟩ := Al.get (Al.mo le46 al4) hi37
        obtain ⟨x59, hx60, hr61⟩ := Al.get (Al.mo le46 al8) hj38
        obtain ⟨a66, v68, v69, v70, v71, v72, rfl, sq67, h73, h74, h75, h76, h77⟩ := hr58
        obtain ⟨a78, kvs79, rfl, rd80, dk81, nd82⟩ := h73
        obtain rfl : v69 = V.str x56.2.1 := h74
        obtain ⟨a83, rfl, sq84⟩ := h75
        obtain rfl : v71 = V.int x56.2.2.2.1 := h76
        obtain rfl : v72 = V.int x56.2.2.2.2 := h77
        obtain ⟨a85, v87, v88, rfl, sq86, h89, h90⟩ := hr61
        obtain ⟨a91, v93, v94, v95, v96, v97, rfl, sq92, h98, h99, h100, h101, h102⟩ := h89
        obtain ⟨a103, kvs104, rfl, rd105, dk106, nd107⟩ := h98
        obtain rfl : v94 = V.str x59.1.2.1 := h99
        obtain ⟨a108, rfl, sq109⟩ := h100
        obtain rfl : v96 = V.int x59.1.2.2.2.1 := h101
        obtain rfl : v97 = V.int x59.1.2.2.2.2 := h102
        obtain ⟨a110, rfl, sq111⟩ := h90
        refine it2 (K := K) gb44.s hp42 (fun F62 H63 g64 e65 => ?_)
        have gb112 := gb44.tr g64
        have le113 := g64.le
        have cm114 := g64.fz cm45
        try dsimp only
        obtain ⟨u1, u2⟩ := w3 _ (List.mem_of_getElem? hx60)
        have e1 : x56 = rowS width_here x59 := by have z := hx57; rw [w1, rowsS_get hx60] at z; exact (Option.some.inj z).symm
        have uy := x59
        refine a_seq ?_
        refine a_asg ?_
        refine a_var rfl ?_
        refine a_gtup2 (Same.tup gb112.s (Le.tup le113 sq86)) ?_
        try dsimp only
        refine a_seq ?_
        refine a_asg ?_
        refine a_op ?_
        refine a_var rfl ?_
        refine a_c ?_
        refine a_ixT (Same.tup gb112.s (Le.tup le113 sq92)) rfl ?_
        refine a_name ?_
        try dsimp only
        refine a_seq ?_
        refine a_asg ?_
        refine a_op ?_
        refine a_op ?_
        refine a_var rfl ?_
        refine a_c ?_
        refine a_ixT (Same.tup gb112.s (Le.tup le113 sq111)) (fr1 x59.2) ?_
        have b115 := bi_den x59.2
        refine a_op ?_
        refine a_var rfl ?_
        refine a_c ?_
        refine a_ixT (Same.tup gb112.s (Le.tup (le46.trans le113) sq10)) (fr1 width_here) ?_
        have b116 := bi_den width_here
        refine a_I (by walk_at "om") ?_
        have b117 := bi_mul (x59.2.den : Int) (width_here.den : Int)
        refine a_name ?_
        try dsimp only
        refine a_seq ?_
        refine a_asg ?_
        refine a_op ?_
        refine a_op ?_
        refine a_op ?_
        refine a_var rfl ?_
        refine a_c ?_
        refine a_ixT (Same.tup gb112.s (Le.tup le113 sq109)) (fr0 x59.1.2.2.1) ?_
        have b118 := bi_num x59.1.2.2.1
        refine a_var rfl ?_
        refine a_I (by walk_at "om") ?_
        have b119 := bi_mul x59.1.2.2.1.num ((x59.2.den : Int) * (width_here.den : Int))
        refine a_op ?_
        refine a_op ?_
        refine a_op ?_
        refine a_var rfl ?_
        refine a_c ?_
        refine a_ixT (Same.tup gb112.s (Le.tup le113 sq111)) (fr0 x59.2) ?_
        have b120 := bi_num x59.2
        refine a_op ?_
        refine a_var rfl ?_
        refine a_c ?_
        refine a_ixT (Same.tup gb112.s (Le.tup (le46.trans le113) sq10)) (fr0 width_here) ?_
        have b121 := bi_num width_here
        refine a_I (by walk_at "om") ?_
        have b122 := bi_mul x59.2.num width_here.num
        refine a_op ?_
        refine a_var rfl ?_
        refine a_c ?_
        refine a_ixT (Same.tup gb112.s (Le.tup le113 sq109)) (fr1 x59.1.2.2.1) ?_
        have b123 := bi_den x59.1.2.2.1
        refine a_I (by walk_at "om") ?_
        have b124 := bi_mul (x59.2.num * width_here.num) (x59.1.2.2.1.den : Int)
        refine a_I0 ?_
        have b125 := bi_add (x59.1.2.2.1.num * ((x59.2.den : Int) * (width_here.den : Int))) ((x59.2.num * width_here.num) * (x59.1.2.2.1.den : Int))
        refine a_name ?_
        try dsimp only
        refine a_seq ?_
        refine a_asg ?_
        refine a_call ?_
        refine a_cons ?_
        refine a_var rfl ?_
        refine a_cons ?_
        refine a_op ?_
        refine a_op ?_
        refine a_var rfl ?_
        refine a_c ?_
        refine a_ixT (Same.tup gb112.s (Le.tup le113 sq109)) (fr1 x59.1.2.2.1) ?_
        have b126 := bi_den x59.1.2.2.1
        refine a_var rfl ?_
        refine a_I (by walk_at "om") ?_
        have b127 := bi_mul (x59.1.2.2.1.den : Int) ((x59.2.den : Int) * (width_here.den : Int))
        refine a_nil ?_
        refine ⟨F62, _, _, ((x59.1.2.2.1.num * ((x59.2.den : Int) * (width_here.den : Int))) + ((x59.2.num * width_here.num) * (x59.1.2.2.1.den : Int))), ((x59.1.2.2.1.den : Int) * ((x59.2.den : Int) * (width_here.den : Int))), rfl, gb112.s, rfl, rfl, (by exact ⟨Int.mul_pos (den_pos _) (Int.mul_pos (den_pos _) (den_pos _)), by omega⟩), ?_⟩
        rintro v128 F129 H130  g132 hr133 
        have gb135 := gb112.tr g132
        have le136 := g132.le
        have cm137 := g132.fz cm114
        obtain ⟨a138, rfl, sq139⟩ := hr133
        refine a_name ?_
        try dsimp only
        refine a_seq ?_
        refine a_if ?_
        refine a_or ?_
        refine a_not ?_
        refine a_tB ?_
        refine a_cb ?_
        refine a_cons ?_
        refine a_var rfl ?_
        refine a_cons ?_
        refine a_c ?_
        refine a_nil ?_
        refine ⟨_, _, _, true, _, rfl, (tx_tup (Same.tup gb135.s (Le.tup (le113.trans le136) sq67))), rfl, rfl, ?_⟩
        refine a_bl ?_
        refine iteNT ?_
        refine a_or ?_
        refine a_test ?_
        refine a_op ?_
        refine a_sl ?_
        refine a_var rfl ?_
        refine a_noPart ?_
        refine a_part ?_
        refine a_c ?_
        refine a_pint ?_
        refine ⟨_, _, rfl, (Same.tup gb135.s (Le.tup (le113.trans le136) sq67)), (by show ¬ (HT.sIx 5 0 none = 0 ∧ HT.sIx 5 5 (some 3) = 5); decide), fun p140 hp141 => ?_⟩
        rw [show cutV ([V.ref a78, V.str x56.2.1, V.ref a83, V.int x56.2.2.2.1, V.int x56.2.2.2.2] : List V) none (some 3) = [V.ref a78, V.str x56.2.1, V.ref a83] from rfl]
        obtain ⟨F142, g144, e145⟩ := al2 (o := (.tup [V.ref a78, V.str x56.2.1, V.ref a83])) gb135.s (by intro _ _ z; cases z) hp141
        generalize upd H130 p140 (.tup [V.ref a78, V.str x56.2.1, V.ref a83]) = H143 at g144 ⊢
        have gb146 := gb135.tr g144
        have le147 := g144.le
        have cm148 := g144.fz cm137
        refine a_tup ?_
        refine a_cons ?_
        refine a_op ?_
        refine a_var rfl ?_
        refine a_c ?_
        refine a_ixT (Same.tup gb146.s (Le.tup ((le113.trans le136).trans le147) sq92)) rfl ?_
        refine a_cons ?_
        refine a_op ?_
        refine a_var rfl ?_
        refine a_c ?_
        refine a_ixT (Same.tup gb146.s (Le.tup ((le113.trans le136).trans le147) sq92)) rfl ?_
        refine a_cons ?_
        refine a_var rfl ?_
        refine a_nil ?_
        refine ⟨by show 3 ≤ sizeLine; decide, fun p149 hp150 => ?_⟩
        obtain ⟨F151, g153, e154⟩ := al2 (o := (.tup [V.ref a103, V.str x59.1.2.1, V.ref a138])) gb146.s (by intro _ _ z; cases z) hp150
        generalize upd H143 p149 (.tup [V.ref a103, V.str x59.1.2.1, V.ref a138]) = H152 at g153 ⊢
        have gb155 := gb146.tr g153
        have le156 := g153.le
        have cm157 := g153.fz cm148
        have hq158 : (r3 K (rD (rFr K)) rS (rFr K)) F151 (V.ref p149) (x59.1.1, x59.1.2.1, (Rat.divInt (((x59.1.2.2.1.num * ((x59.2.den : Int) * (width_here.den : Int))) + ((x59.2.num * width_here.num) * (x59.1.2.2.1.den : Int)))) (((x59.1.2.2.1.den : Int) * ((x59.2.den : Int) * (width_here.den : Int)))))) := ⟨_, _, _, _, rfl, (SqT.of e154), ⟨_, _, rfl, (Le.dic (((le113.trans le136).trans le147).trans le156) rd105), (Dk.mo (((le113.trans le136).trans le147).trans le156) dk106), nd107⟩, rfl, ⟨_, rfl, (Le.tup (le147.trans le156) sq139)⟩⟩
        rw [show (x59.1.1, x59.1.2.1, (Rat.divInt (((x59.1.2.2.1.num * ((x59.2.den : Int) * (width_here.den : Int))) + ((x59.2.num * width_here.num) * (x59.1.2.2.1.den : Int)))) (((x59.1.2.2.1.den : Int) * ((x59.2.den : Int) * (width_here.den : Int)))))) = (x56.1, x56.2.1, x56.2.2.1) from by rw [e1]; exact row_eq _ _] at hq158
        refine a_neN (fun Q' q' => a_eqN3 (K := K) gb155.s (show (r3 K (rD (rFr K)) rS (rFr K)) F151 (V.ref p140) (x56.1, x56.2.1, x56.2.2.1) from ⟨_, _, _, _, rfl, (Le.tup le156 (SqT.of e145)), ⟨_, _, rfl, (Le.dic (((le113.trans le136).trans le147).trans le156) rd80), (Dk.mo (((le113.trans le136).trans le147).trans le156) dk81), nd82⟩, rfl, ⟨_, rfl, (Le.tup (((le113.trans le136).trans le147).trans le156) sq84)⟩⟩) hq158 (by decide) q') ?_
        refine a_bl ?_
        refine iteF ?_
        refine a_test ?_
        refine a_op ?_
        refine a_sl ?_
        refine a_var rfl ?_
        refine a_part ?_
        refine a_c ?_
        refine a_pint ?_
        refine a_noPart ?_
        refine ⟨_, _, rfl, (Same.tup gb155.s (Le.tup (((le113.trans le136).trans le147).trans le156) sq67)), (by show ¬ (HT.sIx 5 0 (some 3) = 0 ∧ HT.sIx 5 5 none = 5); decide), fun p159 hp160 => ?_⟩
        rw [show cutV ([V.ref a78, V.str x56.2.1, V.ref a83, V.int x56.2.2.2.1, V.int x56.2.2.2.2] : List V) (some 3) none = [V.int x56.2.2.2.1, V.int x56.2.2.2.2] from rfl]
        obtain ⟨F161, g163, e164⟩ := al2 (o := (.tup [V.int x56.2.2.2.1, V.int x56.2.2.2.2])) gb155.s (by intro _ _ z; cases z) hp160
        generalize upd H152 p159 (.tup [V.int x56.2.2.2.1, V.int x56.2.2.2.2]) = H162 at g163 ⊢
        have gb165 := gb155.tr g163
        have le166 := g163.le
        have cm167 := g163.fz cm157
        refine a_sl ?_
        refine a_var rfl ?_
        refine a_part ?_
        refine a_c ?_
        refine a_pint ?_
        refine a_noPart ?_
        refine ⟨_, _, rfl, (Same.tup gb165.s (Le.tup ((((le113.trans le136).trans le147).trans le156).trans le166) sq92)), (by show ¬ (HT.sIx 5 0 (some 3) = 0 ∧ HT.sIx 5 5 none = 5); decide), fun p168 hp169 => ?_⟩
        rw [show cutV ([V.ref a103, V.str x59.1.2.1, V.ref a108, V.int x59.1.2.2.2.1, V.int x59.1.2.2.2.2] : List V) (some 3) none = [V.int x59.1.2.2.2.1, V.int x59.1.2.2.2.2] from rfl]
        obtain ⟨F170, g172, e173⟩ := al2 (o := (.tup [V.int x59.1.2.2.2.1, V.int x59.1.2.2.2.2])) gb165.s (by intro _ _ z; cases z) hp169
        generalize upd H162 p168 (.tup [V.int x59.1.2.2.2.1, V.int x59.1.2.2.2.2]) = H171 at g172 ⊢
        have gb174 := gb165.tr g172
        have le175 := g172.le
        have cm176 := g172.fz cm167
        have hq177 : (r2 K rI rI) F170 (V.ref p168) (x59.1.2.2.2.1, x59.1.2.2.2.2) := ⟨_, _, _, rfl, (SqT.of e173), rfl, rfl⟩
        rw [show (x59.1.2.2.2.1, x59.1.2.2.2.2) = (x56.2.2.2.1, x56.2.2.2.2) from by rw [e1]; rfl] at hq177
        refine a_neN (fun Q' q' => a_eqN2 (K := K) gb174.s (show (r2 K rI rI) F170 (V.ref p159) (x56.2.2.2.1, x56.2.2.2.2) from ⟨_, _, _, rfl, (Le.tup le175 (SqT.of e164)), rfl, rfl⟩) hq177 (by decide) q') ?_
        refine a_bl ?_
        refine iteF ?_
        refine a_next ?_
        try dsimp only
        refine a_if ?_
        refine a_or ?_
        refine a_not ?_
        refine a_tB ?_
        refine a_call ?_
        refine a_cons ?_
        refine a_op ?_
        refine a_op ?_
        refine a_var rfl ?_
        refine a_c ?_
        refine a_ixT (Same.tup gb174.s (Le.tup (((((le113.trans le136).trans le147).trans le156).trans le166).trans le175) sq67)) rfl ?_
        refine a_c ?_
        refine a_ixT (Same.tup gb174.s (Le.tup (((((le113.trans le136).trans le147).trans le156).trans le166).trans le175) sq84)) (fr0 x56.2.2.1) ?_
        have b178 := bi_num x56.2.2.1
        refine a_nil ?_
        refine ⟨F170, _, x56.2.2.1.num, rfl, gb174.s, rfl, ?_⟩
        rintro v179 F180 H181  g183 hr184 
        have gb186 := gb174.tr g183
        have le187 := g183.le
        have cm188 := g183.fz cm176
        obtain rfl : v179 = V.bl true := hr184
        refine a_bl ?_
        refine iteNT ?_
        refine a_or ?_
        refine a_not ?_
        refine a_tB ?_
        refine a_call ?_
        refine a_cons ?_
        refine a_op ?_
        refine a_op ?_
        refine a_var rfl ?_
        refine a_c ?_
        refine a_ixT (Same.tup gb186.s (Le.tup ((((((le113.trans le136).trans le147).trans le156).trans le166).trans le175).trans le187) sq67)) rfl ?_
        refine a_c ?_
        refine a_ixT (Same.tup gb186.s (Le.tup ((((((le113.trans le136).trans le147).trans le156).trans le166).trans le175).trans le187) sq84)) (fr1 x56.2.2.1) ?_
        have b189 := bi_den x56.2.2.1
        refine a_nil ?_
        refine ⟨F180, _, (x56.2.2.1.den : Int), rfl, gb186.s, rfl, ?_⟩
        rintro v190 F191 H192  g194 hr195 
        have gb197 := gb186.tr g194
        have le198 := g194.le
        have cm199 := g194.fz cm188
        obtain rfl : v190 = V.bl true := hr195
        refine a_bl ?_
        refine iteNT ?_
        refine a_not ?_
        refine a_tB ?_
        refine a_call ?_
        refine a_cons ?_
        refine a_op ?_
        refine a_var rfl ?_
        refine a_c ?_
        refine a_ixT (Same.tup gb197.s (Le.tup (((((((le113.trans le136).trans le147).trans le156).trans le166).trans le175).trans le187).trans le198) sq67)) rfl ?_
        refine a_nil ?_
        refine ⟨F191, _, x56.2.2.2.1, rfl, gb197.s, rfl, ?_⟩
        rintro v200 F201 H202  g204 hr205 
        have gb207 := gb197.tr g204
        have le208 := g204.le
        have cm209 := g204.fz cm199
        obtain rfl : v200 = V.bl true := hr205
        refine a_bl ?_
        refine iteNT ?_
        refine a_next ?_
        try dsimp only
        exact ⟨F201, _, _, _, _, _, _, _, _, rfl, gb207, cm209, (((((((((le46.trans le113).trans le136).trans le147).trans le156).trans le166).trans le175).trans le187).trans le198).trans le208), by trivial⟩
      · rintro σ' H210 ⟨F211, o216, o217, o218, o219, o220, o221, o222, o223, rfl, gb212, cm213, le214, inv215⟩
        have hlen := Al.length (Al.mo le214 al4)
        have hlen2 := Al.length (Al.mo le214 al8)
        try dsimp only
        refine a_ret ?_
        refine a_c ?_
        have rp224 : rB F211 (V.bl true) (true) := rfl
        exact k _ _ _ (Gr.of gb212 cm213) rp224
def sp_law (K : PySem.W.Frag) : Sp := fun vs H Q _ => ∃ (a : Addr) (ns : List Int), vs = [.ref a] ∧ SqL K H a (ns.map V.int) ∧ ns.length ≤ 63 ∧ ∀ H', Q (.bl true) H'
theorem ok_law (T : Tx K mg) : FnOk P w K mg base CX0 8 T.a_law T.d_law ["_law_script"] (sp_law K) := by
  refine T.F_law.ok sc_law (fun vs H Q E h => ?_) (fun cdv A outer s H vs Q E hr h => ?_)
  · obtain ⟨a, script, rfl, _⟩ := h
    rfl
  · obtain ⟨a, script, rfl, hS, hl, k⟩ := h
    have hu := hu_of hr
    have gb : Gr0 (fun _ => none) H (fun _ => none) H := Gr0.refl (fun _ _ z => by cases z)
    have cm : Fz S0 (fun _ => none) := fun _ _ _ z => by cases z
    refine ⟨_, (@pss_cons _ _ _ _ _ (ps_set (i := 1) sc_law.nd rfl (Or.inl rfl) (pe_call ((ok_law_cell_at T).mono (by decide)) hr rfl T.m_law_cell_at T.F_law_cell_at.kp T.b_law_cell_at .nil pass0 (pa_cons (pv 0) (pa_cons pe_int pa_nil))))
          (@pss_cons _ _ _ _ _ (ps_setC (i := 2) (N := ["_law_cell"]) (ix := [none]) sc_law.nd rfl (Or.inl rfl) rfl (pi_list (pe_slice sl_list (pv 0) (po_some pe_int) (po_some pe_int))) (fun _ _ _ _ _ => (pg_name (i := 0) (show List.Nodup (["_law_cell"] : List Str) from by decide) rfl (Or.inl rfl))) (fun _ _ _ _ _ => pts_nil) (fun _ _ _ _ _ => (pe_call ((ok_law_growing T).mono (by decide)) hr rfl T.m_law_growing T.F_law_growing.kp T.b_law_growing .nil pass0 (pa_cons (pv 0) pa_nil))) True.intro)
          (@pss_cons _ _ _ _ _ (ps_set (i := 3) sc_law.nd rfl (Or.inl rfl) (pe_call ((ok_law_width T).mono (by decide)) hr rfl T.m_law_width T.F_law_width.kp T.b_law_width .nil pass0 (pa_cons (pv 1) pa_nil)))
          (@pss_cons _ _ _ _ _ (ps_set (i := 4) sc_law.nd rfl (Or.inl rfl) (pe_call ((ok_law_copy T).mono (by decide)) hr rfl T.m_law_copy T.F_law_copy.kp T.b_law_copy .nil pass0 (pa_cons (pv 2) pa_nil)))
          (@pss_cons _ _ _ _ _ (ps_set (i := 5) sc_law.nd rfl (Or.inl rfl) (pe_call ((ok_rows_at T).mono (by decide)) hr rfl T.m_rows_at T.F_rows_at.kp T.b_rows_at .nil pass0 (pa_cons (pv 4) (pa_cons (pv 3) pa_nil))))
          (@pss_cons _ _ _ _ _ (ps_if (PW.pt (pw_or (pt_not (pt_val (pe_call ((ok_law_right T).mono (by decide)) hr rfl T.m_law_right T.F_law_right.kp T.b_law_right .nil pass0 (pa_cons (pv 5) (pa_cons (pv 2) (pa_cons (pv 3) pa_nil)))))) (pw_or1 (pt_cmpR (op_neN hr.units) (pv 4) (pv 2) (nomark _))))) (pss_one (ps_ret pe_bl)) pss_nil)
          (@pss_cons _ _ _ _ _ (ps_for PassesOwn.never rfl (pi_list (pv 5)) (pg_name (i := 6) sc_law.nd rfl (Or.inl rfl)) (pss_one (ps_expr (pe_bm0 PySem.F.plainAttrs_dict PySem.F.slot_dict_clear PySem.F.type_dict_clear mt_dclear (pe_ix ix_tup (pv 6) pe_int (fun _ _ => rfl))))))
          (@pss_cons _ _ _ _ _ (ps_expr (pe_bm0 PySem.F.plainAttrs_list PySem.F.slot_list_clear PySem.F.type_list_clear mt_clear (pv 5)))
          (pss_one (ps_ret (pe_and (pe_cmpR (op_eqN hr.units) (pv 4) (pv 2) (nomark _)) (pe_one (pe_call ((ok_law_right T).mono (by decide)) hr rfl T.m_law_right T.F_law_right.kp T.b_law_right .nil pass0 (pa_cons (pe_call ((ok_rows_at T).mono (by decide)) hr rfl T.m_rows_at T.F_rows_at.kp T.b_rows_at .nil pass0 (pa_cons (pv 4) (pa_cons (pe_tup (pa_cons pe_int (pa_cons pe_int pa_nil))) pa_nil))) (pa_cons (pv 2) (pa_cons (pe_tup (pa_cons pe_int (pa_cons pe_int pa_nil))) pa_nil)))))))))))))))), ?_⟩
    have h53 : bs (Rat.divInt 5 3) ≤ 40 := by decide +kernel
    refine a_seq ?_
    refine a_asg ?_
    refine a_call ?_
    refine a_cons ?_
    refine a_var rfl ?_
    refine a_cons ?_
    refine a_c ?_
    refine a_nil ?_
    refine ⟨(fun _ => none), _, _, script, 0, rfl, gb.s, ⟨_, rfl, (Same.seq gb.h hS)⟩, rfl, (by walk_at "o"), ?_⟩
    rintro v1 F2 H3 r4 g5 hr6 
    have gb8 := gb.tr g5
    have le9 := g5.le
    have cm10 := g5.fz cm
    obtain rfl : v1 = V.int r4 := hr6
    refine a_name ?_
    try dsimp only
    refine a_seq ?_
    refine a_asg ?_
    refine a_comp ?_
    refine a_ilist ?_
    refine a_sl ?_
    refine a_var rfl ?_
    refine a_part ?_
    refine a_c ?_
    refine a_pint ?_
    refine a_part ?_
    refine a_c ?_
    refine a_pint ?_
    refine ⟨_, _, rfl, (Same.seq gb8.h hS), fun p11 hp12 => ?_⟩
    obtain ⟨F13, g15, e16⟩ := al2 (o := (.lst (cutV (script.map V.int) (some 1) (some 13)))) gb8.s (by intro _ _ z; cases z) hp12
    generalize upd H3 p11 (.lst (cutV (script.map V.int) (some 1) (some 13))) = H14 at g15 ⊢
    have gb17 := gb8.tr g15
    have le18 := g15.le
    have cm19 := g15.fz cm10
    have al20 := Al.cut (some 1) (some 13) (al_ints (F := F13) (ns := script))
    have ln21 : (cutA script (some 1) (some 13)).length ≤ script.length := cutA_le _ _ _
    have ln22 : (cutA script (some 1) (some 13)).length ≤ 12 := cutA_most script 1 13
    have hml25 : ((cutA script (some 1) (some 13))).length ≤ 1000000 := by omega
    refine ⟨_, rfl, ⟨_, (Same.seq gb17.s (SqL.of e16))⟩, comp_list (K := K) (a := p11) (xs := (cutV (script.map V.int) (some 1) (some 13))) (fun i acc H' => ∃ (F23 : Hp) (ts24 : List (((List (Str × Rat)) × Str × Rat × Int × Int) × Rat)), True ∧ Gr0 (fun _ => none) H F23 H' ∧ Fz S0 F23 ∧ Le F13 F23 ∧ Al (r2 K (r5 K (rD (rFr K)) rS (rFr K) rI rI) (rFr K)) F23 acc ts24 ∧ ts24.length ≤ i ∧ (∀ p ∈ ts24, bs p.1.2.2.1 ≤ 40 ∧ bs p.2 ≤ 40)) ?_ ?_ ?_ ?_⟩
    · exact ⟨F13, [], True.intro, gb17, cm19, Le.refl _, (show Al (r2 K (r5 K (rD (rFr K)) rS (rFr K) rI rI) (rFr K)) F13 [] [] from True.intro), (by first | (simp; done) | (rw [List.length_append]; simp only [List.length_cons, List.length_nil]; omega) | omega), by exact fun b h => nomatch h⟩
    · rintro i acc H26 _ ⟨F27, ts31, _, gb28, cm29, le30, al32, tl33, j1⟩
      exact (Same.seq gb28.s (Le.lst le30 (SqL.of e16)))
    · rintro i34 y37 acc38 H35 hi36 ⟨F39, ts43, _, gb40, cm41, le42, al44, tl45, j1⟩
      obtain ⟨x46, hx47, hr48⟩ := Al.get (Al.mo le42 al20) hi36
      have hil := (List.getElem?_eq_some_iff.mp hx47).1
      refine a_name ?_
      obtain rfl : y37 = V.int x46 := hr48
      refine ⟨Wk.non (Wk.nil), ?_⟩
      try dsimp only
      refine a_yes ?_
      refine iteT ?_
      refine a_call ?_
      refine a_cons ?_
      refine a_var rfl ?_
      refine a_nil ?_
      refine ⟨F39, _, x46, rfl, gb40.s, rfl, ?_⟩
      rintro v49 F50 H51 r52 g53 hr54 hp55
      have gb56 := gb40.tr g53
      have le57 := g53.le
      have cm58 := g53.fz cm41
      obtain ⟨a59, v61, v62, rfl, sq60, h63, h64⟩ := hr54
      obtain ⟨a65, v67, v68, v69, v70, v71, rfl, sq66, h72, h73, h74, h75, h76⟩ := h63
      obtain ⟨a77, kvs78, rfl, rd79, dk80, nd81⟩ := h72
      obtain rfl : v68 = V.str r52.1.2.1 := h73
      obtain ⟨a82, rfl, sq83⟩ := h74
      obtain rfl : v70 = V.int r52.1.2.2.2.1 := h75
      obtain rfl : v71 = V.int r52.1.2.2.2.2 := h76
      obtain ⟨a84, rfl, sq85⟩ := h64
      refine ⟨by rw [Al.length (Al.mo le57 al44)]; have := sizeLine_big; omega, ?_⟩
      exact ⟨F50, (ts43 ++ [r52]), True.intro, gb56, cm58, (le42.trans le57), (Al.snoc (Al.mo le57 al44) ⟨_, _, _, rfl, sq60, ⟨_, _, _, _, _, _, rfl, sq66, ⟨_, _, rfl, rd79, dk80, nd81⟩, rfl, ⟨_, rfl, sq83⟩, rfl, rfl⟩, ⟨_, rfl, sq85⟩⟩), (by first | (simp; done) | (rw [List.length_append]; simp only [List.length_cons, List.length_nil]; omega) | omega), by exact fun x h => (List.mem_append.mp h).elim (j1 x) fun z => by rw [List.mem_singleton.mp z]; assumption⟩
    · rintro acc87 H86 ⟨F88, ts92, _, gb89, cm90, le91, al93, tl94, j1⟩
      have hlen := Al.length (Al.mo le91 al20)
      refine ⟨(by rw [Al.length al93]; have := sizeLine_big; omega), fun p95 hp96 => ?_⟩
      obtain ⟨F97, g99, e100⟩ := al2 (o := (.lst acc87)) gb89.s (by intro _ _ z; cases z) hp96
      generalize upd H86 p95 (.lst acc87) = H98 at g99 ⊢
      have gb101 := gb89.tr g99
      have le102 := g99.le
      have cm103 := g99.fz cm90
      refine a_name ?_
      try dsimp only
      refine a_seq ?_
      refine a_asg ?_
      refine a_call ?_
      refine a_cons ?_
      refine a_var rfl ?_
      refine a_nil ?_
      refine ⟨F97, _, r4, rfl, gb101.s, rfl, ?_⟩
      rintro v104 F105 H106 r107 g108 hr109 hp110
      have gb111 := gb101.tr g108
      have le112 := g108.le
      have cm113 := g108.fz cm103
      obtain ⟨a114, rfl, sq115⟩ := hr109
      refine a_name ?_
      try dsimp only
      refine a_seq ?_
      refine a_asg ?_
      refine a_call ?_
      refine a_cons ?_
      refine a_var rfl ?_
      refine a_nil ?_
      refine ⟨F105, _, ts92, rfl, gb111.s, ⟨_, _, rfl, (Le.lst le112 (SqL.of e100)), (Al.mo le112 (Al.mo le102 al93))⟩, (by omega), ?_⟩
      rintro v116 F117 H118  g120 hr121 
      have gb123 := gb111.tr g120
      have le124 := g120.le
      have cm125 := g120.fz cm113
      obtain ⟨a126, vs127, rfl, sq128, al129⟩ := hr121
      refine a_name ?_
      try dsimp only
      refine a_seq ?_
      refine a_asg ?_
      refine a_call ?_
      refine a_cons ?_
      refine a_var rfl ?_
      refine a_cons ?_
      refine a_var rfl ?_
      refine a_nil ?_
      refine ⟨F117, _, _, (ts92), r107, rfl, gb123.s, ⟨_, _, rfl, sq128, al129⟩, ⟨_, rfl, (Le.tup le124 sq115)⟩, (by exact ⟨by omega, j1, by assumption⟩), ?_⟩
      rintro v130 F131 H132  g134 hr135 hp136
      have gb137 := gb123.tr g134
      have le138 := g134.le
      have cm139 := g134.fz cm125
      obtain ⟨a140, vs141, rfl, sq142, al143⟩ := hr135
      obtain ⟨pF, vF, zF, hF0, hFl, hFd⟩ := hp136
      cases zF
      refine a_name ?_
      try dsimp only
      refine a_seq ?_
      refine a_if ?_
      refine a_or ?_
      refine a_not ?_
      refine a_tB ?_
      refine a_call ?_
      refine a_cons ?_
      refine a_var rfl ?_
      refine a_cons ?_
      refine a_var rfl ?_
      refine a_cons ?_
      refine a_var rfl ?_
      refine a_nil ?_
      refine ⟨F131, _, _, _, (rowsS ((ts92)) r107), ts92, r107, rfl, gb137.s, ⟨_, _, rfl, sq142, al143⟩, ⟨_, _, rfl, (Le.lst ((le112.trans le124).trans le138) (SqL.of e100)), (Al.mo ((le112.trans le124).trans le138) (Al.mo le102 al93))⟩, ⟨_, rfl, (Le.tup (le124.trans le138) sq115)⟩, (by exact ⟨rfl, by omega, j1, by assumption⟩), ?_⟩
      rintro v144 F145 H146  g148 hr149 
      have gb151 := gb137.tr g148
      have le152 := g148.le
      have cm153 := g148.fz cm139
      obtain rfl : v144 = V.bl true := hr149
      refine a_bl ?_
      refine iteNT ?_
      refine a_test ?_
      refine a_op ?_
      refine a_var rfl ?_
      refine a_var rfl ?_
      have hq154 : (rL K (r2 K (r5 K (rD (rFr K)) rS (rFr K) rI rI) (rFr K))) F145 (V.ref p95) ts92 := ⟨_, _, rfl, (Le.lst (((le112.trans le124).trans le138).trans le152) (SqL.of e100)), (Al.mo (((le112.trans le124).trans le138).trans le152) (Al.mo le102 al93))⟩
      refine a_neN (fun Q' q' => a_eqNL (K := K) gb151.s (show (rL K (r2 K (r5 K (rD (rFr K)) rS (rFr K) rI rI) (rFr K))) F145 (V.ref a126) (ts92) from ⟨_, _, rfl, (Le.lst (le138.trans le152) sq128), (Al.mo (le138.trans le152) al129)⟩) hq154 (by decide) q') ?_
      refine a_bl ?_
      refine iteF ?_
      refine a_next ?_
      try dsimp only
      refine a_seq ?_
      have hsm2 := g148.f
      have hL2 : H146 a140 = some (.lst vF) := gb151.s _ _ (hsm2 _ _ hFl)
      have hD3 := (hFd.same hsm2).h gb151.s gb123.h gb123.s
      have hB := gr_back gb123 (Same.trans g134.h g148.h)
      refine a_for ?_
      refine a_ilist ?_
      refine a_var rfl ?_
      refine ⟨_, rfl, ⟨_, SqL.of hL2⟩, for_list (K := K) (a := a140) (xs := vF) (fun _ σ' H' => (∃ o, σ' = [some (V.ref a), some (V.int r4), some (V.ref p95), some (V.ref a114), some (V.ref a126), some (V.ref a140), o]) ∧ Gr0 (fun _ => none) H F117 H' ∧ H' a140 = some (.lst vF) ∧ DeepH H' H F117 vF) ⟨⟨none, rfl⟩, hB, hL2, hD3⟩ (fun i σ' H' _ h => SqL.of h.2.2.1) ?_ ?_⟩
      · rintro i y σ' H' hi ⟨⟨o, rfl⟩, gB, hL, hD⟩
        obtain ⟨t, d, xs, kvs, rfl, h1, h2, h3, h4⟩ := hD _ (List.mem_of_getElem? hi)
        refine a_name ?_
        try dsimp only
        refine a_drop ?_
        refine a_bm0 ?_
        refine a_op ?_
        refine a_var rfl ?_
        refine a_c ?_
        refine a_ixT (v := V.ref d) (SqT.of h1) (atI_nat (show (V.ref d :: xs)[0]? = some (V.ref d) from rfl)) ?_
        refine ⟨tyV_dic h2, _, _, rfl, rfl, h2, ?_⟩
        exact ⟨⟨_, rfl⟩, gr_updN gB h3 h4, by rw [upd_ne (fun z => by rw [z, h2] at hL; cases hL)]; exact hL, hD.upd h2⟩
      · rintro σ' H9 ⟨⟨o9, rfl⟩, gb9, hL9, hD9⟩
        try dsimp only
        refine a_seq ?_
        refine a_drop ?_
        refine a_bm0 ?_
        refine a_var rfl ?_
        refine ⟨tyV_lst hL9, _, _, rfl, rfl, hL9, ?_⟩
        have gb10 := gr_updN (o := .lst []) gb9 (gb123.h.free hF0) (gb123.s.free hF0)
        generalize upd H9 a140 (.lst []) = H10 at gb10 ⊢
        try dsimp only
        refine a_ret ?_
        refine a_andV ?_
        refine a_op ?_
        refine a_var rfl ?_
        refine a_var rfl ?_
        have hq155 : (rL K (r2 K (r5 K (rD (rFr K)) rS (rFr K) rI rI) (rFr K))) F117 (V.ref p95) ts92 := ⟨_, _, rfl, (Le.lst (le112.trans le124) (SqL.of e100)), (Al.mo (le112.trans le124) (Al.mo le102 al93))⟩
        refine a_eqNL (K := K) gb10.s (show (rL K (r2 K (r5 K (rD (rFr K)) rS (rFr K) rI rI) (rFr K))) F117 (V.ref a126) (ts92) from ⟨_, _, rfl, sq128, al129⟩) hq155 (by decide) ?_
        refine a_bl ?_
        refine iteT ?_
        refine a_call ?_
        refine a_cons ?_
        refine a_call ?_
        refine a_cons ?_
        refine a_var rfl ?_
        refine a_cons ?_
        refine a_tup ?_
        refine a_cons ?_
        refine a_c ?_
        refine a_cons ?_
        refine a_c ?_
        refine a_nil ?_
        refine ⟨by show 2 ≤ sizeLine; decide, fun p156 hp157 => ?_⟩
        obtain ⟨F158, g160, e161⟩ := al2 (o := (.tup [V.int 5, V.int 3])) gb10.s (by intro _ _ z; cases z) hp157
        generalize upd H10 p156 (.tup [V.int 5, V.int 3]) = H159 at g160 ⊢
        have gb162 := gb10.tr g160
        have le163 := g160.le
        have cm164 := g160.fz cm125
        have sq165 : SqT K F158 p156 (fr (Rat.divInt 5 3)) := by rw [fr_lit (t := 5) (b := 3) (by decide +kernel) (by decide +kernel)]; exact SqT.of e161
        refine a_nil ?_
        refine ⟨F158, _, _, (ts92), (Rat.divInt 5 3), rfl, gb162.s, ⟨_, _, rfl, (Le.lst le163 sq128), (Al.mo le163 al129)⟩, ⟨_, rfl, sq165⟩, (by exact ⟨by omega, j1, h53⟩), ?_⟩
        rintro v166 F167 H168  g170 hr171 hp172
        have gb173 := gb162.tr g170
        have le174 := g170.le
        have cm175 := g170.fz cm164
        obtain ⟨a176, vs177, rfl, sq178, al179⟩ := hr171
        refine a_cons ?_
        refine a_var rfl ?_
        refine a_cons ?_
        refine a_tup ?_
        refine a_cons ?_
        refine a_c ?_
        refine a_cons ?_
        refine a_c ?_
        refine a_nil ?_
        refine ⟨by show 2 ≤ sizeLine; decide, fun p180 hp181 => ?_⟩
        obtain ⟨F182, g184, e185⟩ := al2 (o := (.tup [V.int 5, V.int 3])) gb173.s (by intro _ _ z; cases z) hp181
        generalize upd H168 p180 (.tup [V.int 5, V.int 3]) = H183 at g184 ⊢
        have gb186 := gb173.tr g184
        have le187 := g184.le
        have cm188 := g184.fz cm175
        have sq189 : SqT K F182 p180 (fr (Rat.divInt 5 3)) := by rw [fr_lit (t := 5) (b := 3) (by decide +kernel) (by decide +kernel)]; exact SqT.of e185
        refine a_nil ?_
        refine ⟨F182, _, _, _, (rowsS ((ts92)) ((Rat.divInt 5 3))), ts92, (Rat.divInt 5 3), rfl, gb186.s, ⟨_, _, rfl, (Le.lst le187 sq178), (Al.mo le187 al179)⟩, ⟨_, _, rfl, (Le.lst ((((le112.trans le124).trans le163).trans le174).trans le187) (SqL.of e100)), (Al.mo ((((le112.trans le124).trans le163).trans le174).trans le187) (Al.mo le102 al93))⟩, ⟨_, rfl, sq189⟩, (by exact ⟨rfl, by omega, j1, h53⟩), ?_⟩
        rintro v190 F191 H192  g194 hr195 
        have gb197 := gb186.tr g194
        have le198 := g194.le
        have cm199 := g194.fz cm188
        obtain rfl : v190 = V.bl true := hr195
        exact k _
end
theorem walk {l : PySem.W.OpenLaw} {q : Program} {loose : List Str} {XP : (Str → Option Value) → Heap → Prop} {YP : World → Heap → Prop} {d : DefRec} {K : Params → PySem.W.Frag} (hn : l.most = some 63) (hdf : d.params.defaults = []) (hnm : d.name = "law")
    (hY : ∀ (w : World) (h : Heap), YP w h → (K w.params).In h)
    (F : ∀ (w : World) (mg : Str → Option Value) (h : Heap), (K w.params).In h → h.Ns mainGlobals mg → Nonempty (Tx (K w.params) mg)) :
    PySem.W.WalkO q loose XP YP l.row.toRowW d [] (fun f vs => PySem.call f vs) := by
  refine L2.walk_of (n := 63) (k := 8) (x := "_law_script") (CX := fun _ => CX0) (sp := fun w => sp_law (K w.params)) hn (by decide) hdf ⟨rfl, by decide, by decide⟩ hY ?_ (fun _ _ a ns hl _ hS => ⟨a, ns, rfl, hS, hl, fun _ => rfl⟩) fun _ _ _ _ _ z => z
  intro w mg fa h KX G hmg
  obtain ⟨T⟩ := F w mg h KX G
  rw [hnm] at hmg
  have e := hmg.symm.trans T.m_law
  cases e
  refine ⟨T.d_law, fun s v => ?_, fun base _ _ => ok_law T⟩
  obtain ⟨oc, od, kV, doc, pm, an, cdv, ct, osl, hfd, lk, hcd⟩ := T.F_law.ex
  rw [hfd]
  exact .of_eq rfl
end Sf
open PySem PySem.W PyProof.Rows
set_option maxRecDepth 100000 in
set_option maxHeartbeats 0 in
theorem PySem.Challenge.cw_springframe_k71_rows_at_a_width_holds : PySem.Challenge.rw_springframe_k71_rows_at_a_width.Holds := by
  w_on; o_law; k_head; (case hw => w_witness2)
  k_fill
  refine Sf.walk (l := PySem.Challenge.rw_springframe_k71_rows_at_a_width) rfl rfl rfl (fun w h Y => PySem.W.kIn_of Y) ?F
  case F =>
    intro w mg h KX G
    refine' ⟨Sf.tx_mk KX G ?e0 ?l0 ?c0 ?k0 ?e1 ?l1 ?c1 ?k1 ?e2 ?l2 ?c2 ?k2 ?e3 ?l3 ?c3 ?k3 ?e4 ?l4 ?c4 ?k4 ?e5 ?l5 ?c5 ?k5 ?e6 ?l6 ?c6 ?k6 ?e7 ?l7 ?c7 ?k7 ?e8 ?l8 ?c8 ?k8 ?e9 ?l9 ?c9 ?k9 ?e10 ?l10 ?c10 ?k10 ?e11 ?l11 ?c11 ?k11 ?e12 ?l12 ?c12 ?k12 ?e13 ?l13 ?c13 ?k13 ?e14 ?l14 ?c14 ?k14 ?e15 ?l15 ?c15 ?k15 ?z0 ?z1 ?z2 ?z3 ?z4 ?z5 ?z6 ?z7 ?z8 ?z9⟩
    (case e0 => k_is)
    (case l0 => k_is)
    (case c0 => k_is)
    (case k0 => k_is)
    (case e1 => k_is)
    (case l1 => k_is)
    (case c1 => k_is)
    (case k1 => k_is)
    (case e2 => k_is)
    (case l2 => k_is)
    (case c2 => k_is)
    (case k2 => k_is)
    (case e3 => k_is)
    (case l3 => k_is)
    (case c3 => k_is)
    (case k3 => k_is)
    (case e4 => k_is)
    (case l4 => k_is)
    (case c4 => k_is)
    (case k4 => k_is)
    (case e5 => k_is)
    (case l5 => k_is)
    (case c5 => k_is)
    (case k5 => k_is)
    (case e6 => k_is)
    (case l6 => k_is)
    (case c6 => k_is)
    (case k6 => k_is)
    (case e7 => k_is)
    (case l7 => k_is)
    (case c7 => k_is)
    (case k7 => k_is)
    (case e8 => k_is)
    (case l8 => k_is)
    (case c8 => k_is)
    (case k8 => k_is)
    (case e9 => k_is)
    (case l9 => k_is)
    (case c9 => k_is)
    (case k9 => k_is)
    (case e10 => k_is)
    (case l10 => k_is)
    (case c10 => k_is)
    (case k10 => k_is)
    (case e11 => k_is)
    (case l11 => k_is)
    (case c11 => k_is)
    (case k11 => k_is)
    (case e12 => k_is)
    (case l12 => k_is)
    (case c12 => k_is)
    (case k12 => k_is)
    (case e13 => k_is)
    (case l13 => k_is)
    (case c13 => k_is)
    (case k13 => k_is)
    (case e14 => k_is)
    (case l14 => k_is)
    (case c14 => k_is)
    (case k14 => k_is)
    (case e15 => k_is)
    (case l15 => k_is)
    (case c15 => k_is)
    (case k15 => k_is)
    (case z0 => k_is)
    (case z1 => k_is)
    (case z2 => k_is)
    (case z3 => k_is)
    (case z4 => k_is)
    (case z5 => k_is)
    (case z6 => k_is)
    (case z7 => k_is)
    (case z8 => k_is)
    (case z9 => k_is)
#print axioms PySem.Challenge.cw_springframe_k71_rows_at_a_width_holds

