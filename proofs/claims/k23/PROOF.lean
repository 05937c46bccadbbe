import PyProof.Rows.All
import Wide.All
import OpenK.AllK
import Wide.FinOn
import Lean
import PyProof.EqAt
import PyProof.EqKinds
import PyProof.TupleCall
import PySem.Challenge.RW_springframe_k23_fits_and_goals
set_option Elab.async false
set_option linter.all false
set_option maxRecDepth 100000
namespace L2
open PySem PySem.Spec PyProof.Rows
abbrev Key := Sum Int Str
def keyIs : Key → Value → Bool
  | .inl k, v => Value.isInt k v
  | .inr x, v => Value.isStrOf x v
def keyH (w : World) : Key → Int
  | .inl k => hashInt k
  | .inr x => hashStr w x
theorem keyIs_shape : ∀ {k : Key} {v : Value}, keyIs k v = true → (∃ i t, k = Sum.inl i ∧ v = Value.int i t) ∨ (∃ x t, k = Sum.inr x ∧ v = Value.str x t)
  | .inl i, v, h => by
    obtain ⟨t, e⟩ := Value.isInt_shape (k := i) (v := v) h
    exact .inl ⟨i, t, rfl, e⟩
  | .inr x, v, h => by
    obtain ⟨t, e⟩ := Value.isStrOf_shape (x := x) (v := v) h
    exact .inr ⟨x, t, rfl, e⟩
theorem keyIs_int (i : Int) (t : Tok) : keyIs (.inl i) (.int i t) = true := by simp [keyIs, Value.isInt]
theorem keyIs_str (x : Str) (t : Tok) : keyIs (.inr x) (.str x t) = true := by simp [keyIs, Value.isStrOf]
theorem key_ll (a b : Int) : decide ((Sum.inl a : Key) = Sum.inl b) = (a == b) := by
  by_cases e : a = b
  · subst e; simp
  · have h : ¬ (Sum.inl a : Key) = Sum.inl b := fun q => e (Sum.inl.inj q)
    rw [decide_eq_false h]
    exact (beq_eq_false_iff_ne.mpr e).symm
theorem key_rr (a b : Str) : decide ((Sum.inr a : Key) = Sum.inr b) = decide (a = b) := by
  by_cases e : a = b
  · subst e; simp
  · have h : ¬ (Sum.inr a : Key) = Sum.inr b := fun q => e (Sum.inr.inj q)
    rw [decide_eq_false h, decide_eq_false e]
theorem key_lr (a : Int) (b : Str) : decide ((Sum.inl a : Key) = Sum.inr b) = false := decide_eq_false (fun q => nomatch q)
theorem key_rl (a : Str) (b : Int) : decide ((Sum.inr a : Key) = Sum.inl b) = false := decide_eq_false (fun q => nomatch q)
def mixKind (prog : Program) (w : World) : PySem.KeyKind prog w Key where
  is := keyIs
  hash := keyH w
  inj := fun v a b ha hb => by
    rcases keyIs_shape ha with ⟨i, t, rfl, rfl⟩ | ⟨x, t, rfl, rfl⟩
    · rcases keyIs_shape hb with ⟨j, u, rfl, e⟩ | ⟨y, u, rfl, e⟩
      · injection e with e1 _; rw [e1]
      · exact nomatch e
    · rcases keyIs_shape hb with ⟨j, u, rfl, e⟩ | ⟨y, u, rfl, e⟩
      · exact nomatch e
      · injection e with e1 _; rw [e1]
  byValue := fun k v h => by
    rcases keyIs_shape h with ⟨i, t, rfl, rfl⟩ | ⟨x, t, rfl, rfl⟩ <;> rfl
  pyHash := fun hv h => by
    rcases keyIs_shape hv with ⟨i, t, rfl, rfl⟩ | ⟨x, t, rfl, rfl⟩
    · exact wpAny_pyHash_int h
    · exact wpAny_pyHash_str h
  eqBool := fun hu hv h => by
    rcases keyIs_shape hu with ⟨i, t, rfl, rfl⟩ | ⟨x, t, rfl, rfl⟩
    · rcases keyIs_shape hv with ⟨j, u, rfl, rfl⟩ | ⟨y, u, rfl, rfl⟩
      · rw [key_ll] at h; exact wpAny_eqBool_int h
      · rw [key_lr] at h; exact SeqAt.EqAt.int_str i t y u _ _ _ _ h
    · rcases keyIs_shape hv with ⟨j, u, rfl, rfl⟩ | ⟨y, u, rfl, rfl⟩
      · rw [key_rl] at h; exact SeqAt.EqAt.str_int x t j u _ _ _ _ h
      · rw [key_rr] at h; exact wpAny_eqBool_str h
  «strs» := fun k x t v h => by
    rcases keyIs_shape h with ⟨i, u, rfl, e⟩ | ⟨y, u, rfl, e⟩
    · exact nomatch e
    · injection e with e1 _
      subst e1
      cases v <;> rfl
theorem mixKind_int (prog : Program) (w : World) (i : Int) (t : Tok) : (mixKind prog w).is (.inl i) (.int i t) = true := keyIs_int i t
theorem mixKind_str (prog : Program) (w : World) (x : Str) (t : Tok) : (mixKind prog w).is (.inr x) (.str x t) = true := keyIs_str x t
end L2
namespace L2
open PySem PySem.Spec PyProof.Rows
inductive V where
  | non | bl (b : Bool) | int (i : Int) | str (x : Str) | byt (b : Array UInt8) | flt (b : UInt64) | ref (a : Addr) | ty (n : String)
  deriving DecidableEq
def RelV : V → Value → Prop
  | .non, u => u = Value.none
  | .bl b, u => u = Value.bool b
  | .int i, u => ∃ t, u = Value.int i t
  | .str x, u => ∃ t, u = Value.str x t
  | .byt b, u => ∃ t, u = Value.bytes b t
  | .flt b, u => ∃ t, u = Value.float b t
  | .ref a, u => u = Value.ref a
  | .ty n, u => u = Value.type n
abbrev Vals : List V → List Value → Prop := Paired RelV
theorem Vals.length {xs : List V} {us : List Value} (r : Vals xs us) : xs.length = us.length := Paired.length r
theorem Vals.get : ∀ {xs : List V} {us : List Value} {i : Nat} {x : V}, Vals xs us → xs[i]? = some x → ∃ u, us[i]? = some u ∧ RelV x u
  | _, _, _, _, .nil, e => by simp at e
  | _, _, 0, _, .cons r _, e => by simp at e; subst e; exact ⟨_, rfl, r⟩
  | _, _, i + 1, x, .cons _ t, e => by
    obtain ⟨u, h1, h2⟩ := Vals.get (i := i) (x := x) t (by simpa using e)
    exact ⟨u, by simpa using h1, h2⟩
theorem Vals.set {x : V} {u : Value} (r : RelV x u) : ∀ {xs : List V} {us : List Value} (i : Nat), Vals xs us → Vals (xs.set i x) (us.set i u)
  | _, _, _, .nil => .nil
  | _, _, 0, .cons _ t => .cons r t
  | _, _, i + 1, .cons q t => .cons q (Vals.set r i t)
theorem Vals.append : ∀ {xs ys : List V} {us ws : List Value}, Vals xs us → Vals ys ws → Vals (xs ++ ys) (us ++ ws)
  | _, _, _, _, .nil, s => s
  | _, _, _, _, .cons r t, s => .cons r (Vals.append t s)
theorem Vals.take : ∀ {xs : List V} {us : List Value} (n : Nat), Vals xs us → Vals (xs.take n) (us.take n)
  | _, _, 0, _ => .nil
  | _, _, _ + 1, .nil => .nil
  | _, _, n + 1, .cons r t => .cons r (Vals.take n t)
theorem Vals.drop : ∀ {xs : List V} {us : List Value} (n : Nat), Vals xs us → Vals (xs.drop n) (us.drop n)
  | _, _, 0, r => r
  | _, _, _ + 1, .nil => .nil
  | _, _, n + 1, .cons _ t => Vals.drop n t
def RelO : Option V → Option Value → Prop
  | some v, some u => RelV v u
  | none, none => True
  | _, _ => False
def KV {κ : Type} : List (κ × V) → List (κ × Value) → Prop := Paired fun (p : κ × V) (q : κ × Value) => p.1 = q.1 ∧ RelV p.2 q.2
def kV : Key → V
  | .inl i => .int i
  | .inr x => .str x
inductive HO where
  /-- a list -/
  | lst (xs : List V)
  /-- a tuple (never changes) -/
  | tup (xs : List V)
  /-- a dict whose keys are ints and texts; one whose keys are tuples of ints and texts (the empty one is both) -/
  | dK (kvs : List (Key × V)) | dT (kvs : List (List Key × V))
  /-- a set of ints: its members, its size -/
  | set (S : Int → Bool) (n : Nat)
  /-- an instance of the class at C, its dict at dx, its attributes -/
  | ins (C dx : Addr) (fs : List (Str × V))
  /-- the dict of the instance at x -/
  | own (x : Addr)
  /-- the dict of an exception -/
  | xd (fs : List (Str × V))
  /-- a bound method, f of x -/
  | met (f x : Addr)
  /-- a range object lo, lo + 1, .. below hi -/
  | rng (lo hi : Int)
  /-- a thing that is known to the object (the script; a dict while a loop walks it): read, never written while it is so -/
  | frz (o : Obj) (u : HO)
  /-- a code object's table -/
  | tbl (ps : Array Value)
  /-- any other thing, by what is true of its one object (a def of one's own: SetO a S n := HO.ext fun h => ..) -/
  | ext (φ : Heap → Prop)
abbrev Hp := Addr → Option HO
def upd (H : Hp) (a : Addr) (o : HO) : Hp := fun b => if b = a then some o else H b
theorem upd_same {H : Hp} {a : Addr} {o : HO} : upd H a o a = some o := by unfold upd; rw [if_pos rfl]
theorem upd_ne {H : Hp} {a b : Addr} {o : HO} (h : b ≠ a) : upd H a o b = H b := by unfold upd; rw [if_neg h]
theorem ne_of {H : Hp} {a b : Addr} {o u : HO} (h : H a = some o) (h' : H b = some u) (d : o ≠ u) : a ≠ b := by
  intro e; subst e; rw [h] at h'; exact d (Option.some.inj h')
theorem ne_of_none {H : Hp} {a b : Addr} {o : HO} (h : H a = some o) (h' : H b = none) : a ≠ b := by
  intro e; subst e; rw [h] at h'; cases h'
section
variable (P : Program) (w : World)
def ObjOk (H : Hp) (h : Heap) (a : Addr) : HO → Prop
  | .lst xs => xs.length ≤ sizeLine ∧ ∃ (its : List Value) (n : Nat), Vals xs its ∧ h.get? a = some { cls := .type "list", data := .seq its.toArray n }
  | .tup xs => xs.length ≤ sizeLine ∧ ∃ its : List Value, Vals xs its ∧ IsTup h a its.toArray
  | .dK kvs => kvs.length ≤ sizeLine ∧ (a == sysModules) = false ∧ ∃ vs, KV kvs vs ∧ h.DictOf (mixKind P w) a vs
  | .dT kvs => kvs.length ≤ sizeLine ∧ (a == sysModules) = false ∧ ∃ xs : List (List Key × Addr × Value),
      Paired (fun (p : List Key × V) (q : List Key × Addr × Value) => p.1 = q.1 ∧ H q.2.1 = some (.tup (p.1.map kV)) ∧ RelV p.2 q.2.2) kvs xs ∧
      ∃ o es ep, h.get? a = some o ∧ o.ExactDict ∧ o.data = .dict es ep ∧ es.toList = xs.map (entryOfKey (tupleKind (mixKind P w))) ∧ (xs.map (·.1)).Nodup
  | .set S n => h.SetOf (intKind P w) a S n
  | .ins C dx fs => H dx = some (.own a) ∧ fs.length ≤ 1000 ∧ dx ≠ a ∧ h.get? a = some (PySem.W.instObj C dx) ∧
      ∃ mA, h.Ns1 dx mA ∧ (∀ f, RelO (fs.lookup f) (mA f)) ∧ PySem.Within mA (fs.map (·.1))
  | .own _ => ∃ o, h.get? a = some o
  | .xd fs => ∃ mA, h.Ns1 a mA ∧ ∀ f, RelO (fs.lookup f) (mA f)
  | .rng lo hi => ∃ t u v, h.get? a = some { cls := .type "range", data := .fields #[.int lo t, .int hi u, .int 1 v] }
  | .frz o u => h.get? a = some o ∧ ObjOk H h a u
  | .tbl ps => h.get? a = some { cls := .none, data := .fields ps }
  | .met f x => h.get? a = some (PySem.W.methodObj (.ref f) (.ref x))
  | .ext φ => φ h ∧ (∃ o, h.get? a = some o) ∧ ∀ h1 h2 : Heap, φ h1 → (∀ o, h1.get? a = some o → h2.get? a = some o) → φ h2
def HOk (H : Hp) (h : Heap) : Prop := ∀ a o, H a = some o → ObjOk P w H h a o
end
section
variable {P : Program} {w : World} {H H' : Hp} {h h' : Heap} {a : Addr} {o : HO}
theorem ObjOk.lt (x : ObjOk P w H h a o) : a < h.objs.size := by
  cases o with
  | lst xs => obtain ⟨_, _, _, _, e⟩ := x; exact Heap.lt_size e
  | tup xs => obtain ⟨_, _, _, p⟩ := x; exact p.lt
  | dK kvs => obtain ⟨_, _, _, _, o, _, _, e, _⟩ := x; exact Heap.lt_size e
  | dT kvs => obtain ⟨_, _, _, _, o, _, _, e, _⟩ := x; exact Heap.lt_size e
  | set S n => obtain ⟨o, _, _, _, e, _⟩ := x; exact Heap.lt_size e
  | ins C dx fs => obtain ⟨_, _, _, e, _⟩ := x; exact Heap.lt_size e
  | own y => obtain ⟨_, e⟩ := x; exact Heap.lt_size e
  | xd fs => obtain ⟨_, ⟨_, _, _, e, _⟩, _⟩ := x; exact Heap.lt_size e
  | rng lo hi => obtain ⟨_, _, _, e⟩ := x; exact Heap.lt_size e
  | frz ob u => obtain ⟨e, _⟩ := x; exact Heap.lt_size e
  | tbl ps => exact Heap.lt_size (show h.get? a = some _ from x)
  | met f y => exact Heap.lt_size (show h.get? a = some _ from x)
  | ext φ => obtain ⟨_, ⟨_, e⟩, _⟩ := x; exact Heap.lt_size e
theorem Paired.mapP {α β : Type} {F G : α → β → Prop} : ∀ {l₁ : List α} {l₂ : List β}, Paired F l₁ l₂ → (∀ a b, F a b → G a b) → Paired G l₁ l₂
  | _, _, .nil, _ => .nil
  | _, _, .cons r t, f => .cons (f _ _ r) (Paired.mapP t f)
theorem ObjOk.stay (x : ObjOk P w H h a o) (k : ∀ b u, (b = a ∨ H b = some (.own a)) → h.get? b = some u → h'.get? b = some u)
    (ho : ∀ b, H b = some (.own a) → H' b = some (.own a)) (ht : ∀ b xs, H b = some (.tup xs) → H' b = some (.tup xs)) : ObjOk P w H' h' a o := by
  induction o with
  | lst xs => obtain ⟨z, its, n, r, e⟩ := x; exact ⟨z, its, n, r, k _ _ (.inl rfl) e⟩
  | tup xs => obtain ⟨z, its, r, ob, e, c⟩ := x; exact ⟨z, its, r, ob, k _ _ (.inl rfl) e, c⟩
  | dK kvs => obtain ⟨z, y, vs, r, ob, es, ep, e, c⟩ := x; exact ⟨z, y, vs, r, ob, es, ep, k _ _ (.inl rfl) e, c⟩
  | dT kvs =>
    obtain ⟨z, y, xs, r, ob, es, ep, e, c⟩ := x
    exact ⟨z, y, xs, Paired.mapP r fun p q z => ⟨z.1, ht _ _ z.2.1, z.2.2⟩, ob, es, ep, k _ _ (.inl rfl) e, c⟩
  | set S n => obtain ⟨ob, es, ep, t, e, c⟩ := x; exact ⟨ob, es, ep, t, k _ _ (.inl rfl) e, c⟩
  | ins C dx fs =>
    obtain ⟨d, z, ne, e, mA, ⟨od, es, ep, e2, c⟩, r⟩ := x
    exact ⟨ho _ d, z, ne, k _ _ (.inl rfl) e, mA, ⟨od, es, ep, k _ _ (.inr d) e2, c⟩, r⟩
  | own y => obtain ⟨ob, e⟩ := x; exact ⟨ob, k _ _ (.inl rfl) e⟩
  | xd fs => obtain ⟨mA, ⟨od, es, ep, e, c⟩, r⟩ := x; exact ⟨mA, ⟨od, es, ep, k _ _ (.inl rfl) e, c⟩, r⟩
  | rng lo hi => obtain ⟨t, u, v, e⟩ := x; exact ⟨t, u, v, k _ _ (.inl rfl) e⟩
  | frz ob u ih => obtain ⟨e, q⟩ := x; exact ⟨k _ _ (.inl rfl) e, ih q⟩
  | tbl ps =>
    have e : h.get? a = some { cls := .none, data := .fields ps } := x
    show h'.get? a = some { cls := .none, data := .fields ps }
    exact k a _ (.inl rfl) e
  | met f y =>
    have e : h.get? a = some (PySem.W.methodObj (.ref f) (.ref y)) := x
    show h'.get? a = some (PySem.W.methodObj (.ref f) (.ref y))
    exact k a _ (.inl rfl) e
  | ext φ => obtain ⟨p, ⟨o, e⟩, st⟩ := x; exact ⟨st _ _ p fun o q => k _ _ (.inl rfl) q, ⟨o, k _ _ (.inl rfl) e⟩, st⟩
theorem HOk.lt (x : HOk P w H h) (e : H a = some o) : a < h.objs.size := (x a o e).lt
theorem HOk.fresh (x : HOk P w H h) (e : h.objs.size ≤ a) : H a = none := by
  cases q : H a with
  | none => rfl
  | some u => exact absurd (Nat.lt_of_lt_of_le (x.lt q) e) (Nat.lt_irrefl _)
theorem HOk.kept (x : HOk P w H h) (k : ∀ b u, h.get? b = some u → h'.get? b = some u) : HOk P w H h' := fun a o e =>
  (x a o e).stay (fun b u _ q => k b u q) (fun _ q => q) fun _ _ q => q
theorem HOk.laid (x : HOk P w H h) (k : ∀ b u, h.get? b = some u → h'.get? b = some u) (hp : h.objs.size ≤ a) (new : ObjOk P w (upd H a o) h' a o) : HOk P w (upd H a o) h' := fun b u e => by
  have hn := x.fresh hp
  by_cases hb : b = a
  · subst hb; rw [upd_same] at e; cases e; exact new
  · rw [upd_ne hb] at e
    exact (x b u e).stay (fun c v _ q => k c v q) (fun c q => by rw [upd_ne (ne_of_none q hn)]; exact q) fun c xs q => by rw [upd_ne (ne_of_none q hn)]; exact q
end
def Rd (H : Hp) (a : Addr) (u : HO) : Prop := H a = some u ∨ ∃ o, H a = some (.frz o u)
theorem Rd.of {H : Hp} {a : Addr} {u : HO} (h : H a = some u) : Rd H a u := .inl h
theorem Rd.ok {P : Program} {w : World} {H : Hp} {h : Heap} {a : Addr} {u : HO} (r : Rd H a u) (x : HOk P w H h) : ObjOk P w H h a u := by
  rcases r with r | ⟨o, r⟩
  · exact x a u r
  · obtain ⟨_, q⟩ := x a _ r
    exact q
def Mut : Option HO → Prop
  | some (.lst _) => True
  | some (.dK _) => True
  | some (.dT _) => True
  | some (.set _ _) => True
  | some (.ins _ _ _) => True
  | some (.ext _) => True
  | _ => False
section
variable {P : Program} {w : World} {H : Hp} {h h' : Heap} {x e : Addr} {o' : HO}
theorem HOk.write (ok : HOk P w H h) (mu : Mut (H x)) (he : e = x ∨ H e = some (.own x)) (k : ∀ b u, b ≠ e → h.get? b = some u → h'.get? b = some u) (heo : ∃ u, h'.get? e = some u)
    (new : ObjOk P w (upd H x o') h' x o') : HOk P w (upd H x o') h' := fun b u q => by
  have nown : ∀ c y, H c = some (.own y) → c ≠ x := fun c y r z => by subst z; rw [r] at mu; exact mu
  have ntup : ∀ c xs, H c = some (.tup xs) → c ≠ x := fun c xs r z => by subst z; rw [r] at mu; exact mu
  by_cases hb : b = x
  · subst hb; rw [upd_same] at q; cases q; exact new
  · rw [upd_ne hb] at q
    by_cases hbe : b = e
    · have q' : H b = some (.own x) := by
        rcases he with z | z
        · exact absurd (hbe.trans z) hb
        · rw [hbe]; exact z
      rw [q] at q'; cases q'
      obtain ⟨v, hv⟩ := heo
      exact ⟨v, by rw [hbe]; exact hv⟩
    · refine (ok b u q).stay (fun c v hc r => k c v ?_ r) (fun c r => by rw [upd_ne (nown c b r)]; exact r) fun c xs r => by rw [upd_ne (ntup c xs r)]; exact r
      rcases hc with rfl | hc
      · exact hbe
      · rintro rfl
        rcases he with z | z
        · exact nown c b hc z
        · rw [hc] at z; cases z; exact hb rfl
end
structure Un (fs ex : List Addr) (H H' : Hp) (h h' : Heap) : Prop where
  keep : ∀ b o, h.get? b = some o → H b = none → b ∉ fs → b ∉ ex → h'.get? b = some o
  slot : ∀ b o, h.get? b = some o → H b = none → b ∈ fs → b ∉ ex → ∃ sl, h'.get? b = some { o with slots := sl }
  free : ∀ b o, h.get? b = some o → H b = none → b ∉ ex → H' b = none
  there : ∀ b o, h.get? b = some o → b ∉ ex → ∃ o', h'.get? b = some o'
  tups : ∀ b xs, H b = some (.tup xs) → H' b = some (.tup xs)
  frzs : ∀ b o u, H b = some (.frz o u) → H' b = some (.frz o u)
  tbls : ∀ b ps, H b = some (.tbl ps) → ∃ more, H' b = some (.tbl (ps ++ more))
section
variable {fs fs' ex ex' : List Addr} {H H1 H2 : Hp} {h h1 h2 h' : Heap} {a x e : Addr} {o : HO}
theorem Un.any (u : Un fs ex H H1 h h1) {b : Addr} {ob : Obj} (q : h.get? b = some ob) (n : H b = none) (hx : b ∉ ex) : ∃ sl, h1.get? b = some { ob with slots := sl } := by
  by_cases hb : b ∈ fs
  · exact u.slot b ob q n hb hx
  · exact ⟨ob.slots, u.keep b ob q n hb hx⟩
theorem Un.trans (a : Un fs ex H H1 h h1) (b : Un fs ex H1 H2 h1 h2) : Un fs ex H H2 h h2 where
  keep := fun c ob q n hc hx => b.keep c ob (a.keep c ob q n hc hx) (a.free c ob q n hx) hc hx
  slot := fun c ob q n hc hx => by
    obtain ⟨sl, e1⟩ := a.slot c ob q n hc hx
    obtain ⟨sl', e2⟩ := b.slot c _ e1 (a.free c ob q n hx) hc hx
    exact ⟨sl', e2⟩
  free := fun c ob q n hx => by
    obtain ⟨o', e1⟩ := a.there c ob q hx
    exact b.free c o' e1 (a.free c ob q n hx) hx
  there := fun c ob q hx => by
    obtain ⟨o', e1⟩ := a.there c ob q hx
    exact b.there c o' e1 hx
  tups := fun c xs q => b.tups c xs (a.tups c xs q)
  frzs := fun c ob xs q => b.frzs c ob xs (a.frzs c ob xs q)
  tbls := fun c ps q => by
    obtain ⟨m1, e1⟩ := a.tbls c ps q
    obtain ⟨m2, e2⟩ := b.tbls c _ e1
    exact ⟨m1 ++ m2, by rw [e2, Array.append_assoc]⟩
theorem Un.kept (k : ∀ b u, h.get? b = some u → h'.get? b = some u) : Un fs ex H H h h' :=
  ⟨fun b ob q _ _ _ => k b ob q, fun b ob q _ _ _ => ⟨ob.slots, k b ob q⟩, fun _ _ _ n _ => n, fun b ob q _ => ⟨ob, k b ob q⟩, fun _ _ q => q, fun _ _ _ q => q, fun _ ps q => ⟨#[], by rw [q]; simp⟩⟩
theorem Un.refl : Un fs ex H H h h := Un.kept fun _ _ q => q
theorem Un.laid (k : ∀ b u, h.get? b = some u → h'.get? b = some u) (hp : h.objs.size ≤ a) (hn : H a = none) : Un fs ex H (upd H a o) h h' where
  keep := fun b u q _ _ _ => k b u q
  slot := fun b u q _ _ _ => ⟨u.slots, k b u q⟩
  free := fun b u q n _ => by rw [upd_ne (Nat.ne_of_lt (Nat.lt_of_lt_of_le (Heap.lt_size q) hp))]; exact n
  there := fun b u q _ => ⟨u, k b u q⟩
  tups := fun b xs q => by rw [upd_ne (ne_of_none q hn)]; exact q
  frzs := fun b u xs q => by rw [upd_ne (ne_of_none q hn)]; exact q
  tbls := fun b ps q => ⟨#[], by rw [upd_ne (ne_of_none q hn), q]; simp⟩
theorem Un.write (mu : Mut (H x)) (he : e = x ∨ H e = some (.own x)) (k : ∀ b u, b ≠ e → h.get? b = some u → h'.get? b = some u) (heo : ∃ u, h'.get? e = some u) : Un fs ex H (upd H x o) h h' := by
  have hx : ∀ b, H b = none → b ≠ x := fun b n z => by subst z; rw [n] at mu; exact mu
  have hb : ∀ b, H b = none → b ≠ e := fun b n z => by
    subst z
    rcases he with r | r
    · exact hx b n r
    · rw [n] at r; cases r
  have hm : ∀ b u, H b = some u → ¬ Mut (some u) → b ≠ x := fun b u q nm z => by subst z; rw [q] at mu; exact nm mu
  refine ⟨fun b u q n _ _ => k b u (hb b n) q, fun b u q n _ _ => ⟨u.slots, k b u (hb b n) q⟩, fun b u q n _ => by rw [upd_ne (hx b n)]; exact n, fun b u q _ => ?_,
    fun b xs q => by rw [upd_ne (hm b _ q fun z => z)]; exact q, fun b u xs q => by rw [upd_ne (hm b _ q fun z => z)]; exact q, fun b ps q => ⟨#[], by rw [upd_ne (hm b _ q fun z => z), q]; simp⟩⟩
  by_cases hbe : b = e
  · subst hbe; exact heo
  · exact ⟨u, k b u hbe q⟩
theorem Un.mono (u : Un fs ex H H1 h h1) (hs : ∀ b ∈ fs, b ∈ fs') (hx : ∀ b ∈ ex, b ∈ ex') : Un fs' ex' H H1 h h1 :=
  ⟨fun b ob q n hb he => u.keep b ob q n (fun z => hb (hs b z)) fun z => he (hx b z), fun _ _ q n _ he => u.any q n fun z => he (hx _ z), fun b ob q n he => u.free b ob q n fun z => he (hx b z), fun b ob q he => u.there b ob q fun z => he (hx b z), u.tups, u.frzs, u.tbls⟩
end
def trk (h : Heap) (H : Hp) : List Addr := (List.range h.objs.size).filter fun a => (H a).isSome
def hidT (h : Heap) (H : Hp) : Heap := PySem.W.hideAll h (trk h H)
theorem hidT_size (h : Heap) (H : Hp) : (hidT h H).objs.size = h.objs.size := PySem.W.hideAll_size _ _
theorem hidT_get {h : Heap} {H : Hp} {b : Addr} {o : Obj} (e : h.get? b = some o) (n : H b = none) : (hidT h H).get? b = some o :=
  PySem.W.hideAll_get _ e fun hm => by
    have q : (H b).isSome = true := (List.mem_filter.mp hm).2
    rw [n] at q; simp at q
theorem of_hidT {h : Heap} {H : Hp} {b : Addr} {o : Obj} (e : (hidT h H).get? b = some o) : h.get? b = some o ∧ H b = none := by
  have e' : h.get? b = some o := PySem.W.of_hideAll (trk h H) e
  refine ⟨e', ?_⟩
  cases q : H b with
  | none => rfl
  | some x =>
    have hm : b ∈ trk h H := List.mem_filter.mpr ⟨List.mem_range.mpr (Heap.lt_size e'), by simp [q]⟩
    have z : (hidT h H).get? b = none := PySem.W.hideAll_none (trk h H) hm
    rw [z] at e; cases e
def allNews (g h : Heap) (L : Addr) : List (Addr × Obj) := (List.range h.objs.size).filterMap fun a => if a = L ∨ (g.get? a).isSome = true then none else (h.get? a).map fun o => (a, o)
def rest (g h : Heap) (L d : Addr) : List (Addr × Obj) := (allNews g h L).filter fun p => decide (p.1 ≠ d)
end L2
namespace L2
open PySem PySem.Spec PyProof.Rows
structure Mod (K : PySem.W.Frag) (mg : Str → Option Value) (base : Heap) : Prop where
  kin : K.In base
  glob : base.Ns mainGlobals mg
  blt : ∃ mb, base.Ns builtinsNs mb ∧ ∀ x : Str, x ≠ "__name__" → mb x = bootBuiltins x
  nolimit : base.NoLimit
structure Cx where
  prog : Program
  w : World
  K : PySem.W.Frag
  mg : Str → Option Value
  base : Heap
  A : Around
  N : List Str
  s₀ : Shared
  H₀ : Hp
  env : Env
  outer : List Env
  stack : List Env
  ex : List Addr
  fn : Str → Bool
  calm : Bool
  pn : List (Addr × Obj)
  xe : Value → Shared → Prop
def frs (l : List Env) : List Addr := l.filterMap (·.frame)
abbrev Cx.fs (X : Cx) : List Addr := frs X.outer
def Vis (sc : Scope) (x : Str) : Prop := sc.names.lookup x = some .local ∨ sc.names.lookup x = some .cell ∨ sc.names.lookup x = some .free
def Loc (sc : Scope) (x : Str) : Prop := sc.names.lookup x = some .local ∨ sc.names.lookup x = some .cell
def Look (env : Env) (h : Heap) (m : Str → Option Value) (x : Str) (u : Value) : Prop :=
  (env.kindOf x = some .local ∧ m x = some u) ∨ ((env.kindOf x = some .cell ∨ env.kindOf x = some .free) ∧ ∃ c, env.cells.lookup x = some c ∧ h.IsCell c (some u))
structure Cx.Ok (X : Cx) : Prop where
  mod : Mod X.K X.mg X.base
  kind : X.env.scope.kind = .function
  glob : X.env.globals = mainGlobals
  blt : X.env.builtins = builtinsNs
  above : X.s₀.heap.objs.size ≤ X.env.locals
  inj : ∀ x y c, X.env.cells.lookup x = some c → X.env.cells.lookup y = some c → x = y
  has : ∀ x, (X.env.kindOf x = some .cell ∨ X.env.kindOf x = some .free) → ∃ c, X.env.cells.lookup x = some c
  cab : ∀ x c, X.fn x = true → X.env.cells.lookup x = some c → X.s₀.heap.objs.size ≤ c
  hd : X.calm = true → X.A.handled = none
  frames : X.A.frames = some X.stack
  stk : X.stack = X.outer ∨ (X.stack = X.env :: X.outer ∧ X.env.frame = some X.env.locals)
  exf : ∀ b ∈ X.ex, b ≠ X.env.locals ∧ ∀ x c, X.env.cells.lookup x = some c → c ≠ b
  bs : ∀ b o, X.base.get? b = some o → X.s₀.heap.get? b = some o ∧ X.H₀ b = none
  bsz : X.base.objs.size ≤ X.s₀.heap.objs.size
  noex : ∀ b o, X.base.get? b = some o → b ∉ X.ex
  exfs : ∀ b ∈ X.ex, b ∉ X.fs
  funs : X.s₀.heap.FunFrames X.base X.outer
  frf : ∀ b ∈ X.fs, X.H₀ b = none
structure Inv (X : Cx) (pins : List (Addr × Obj)) (σ : List (Option V)) (H : Hp) (s : Shared) : Prop where
  ok : X.Ok
  os : s.os = X.s₀.os
  bare : AllBare s.gens
  base : Un X.fs X.ex X.H₀ H X.s₀.heap s.heap
  loc : ∃ m, s.heap.Ns X.env.locals m ∧ ∀ (i : Nat) (x : Str) (v : V), X.N[i]? = some x → σ[i]? = some (some v) → Vis X.env.scope x → ∃ u, RelV v u ∧ Look X.env s.heap m x u
  cell : ∀ x c, X.env.cells.lookup x = some c → ∃ v, s.heap.IsCell c v
  free : H X.env.locals = none
  freeC : ∀ x c, X.env.cells.lookup x = some c → H c = none
  pin : ∀ p ∈ X.pn ++ pins, s.heap.get? p.1 = some p.2 ∧ H p.1 = none ∧ p.1 ≠ X.env.locals ∧ p.1 ∉ X.fs ∧ ∀ v, p.2.data ≠ .cell v
  hok : HOk X.prog X.w H s.heap
  len : σ.length = X.N.length
section
variable {X : Cx} {pins : List (Addr × Obj)} {σ : List (Option V)} {H H' : Hp} {s : Shared} {h' : Heap}
theorem Cx.Ok.nofr (ok : X.Ok) {b : Addr} {o : Obj} (e : X.base.get? b = some o) : b ∉ X.fs := fun hb => by
  have := (ok.funs.mem hb).1
  rw [e] at this; cases this
theorem Inv.bs (I : Inv X pins σ H s) : ∀ b o, X.base.get? b = some o → s.heap.get? b = some o ∧ H b = none := fun b o e =>
  ⟨I.base.keep b o (I.ok.bs b o e).1 (I.ok.bs b o e).2 (I.ok.nofr e) (I.ok.noex b o e), I.base.free b o (I.ok.bs b o e).1 (I.ok.bs b o e).2 (I.ok.noex b o e)⟩
theorem Inv.bk (I : Inv X pins σ H s) : ∀ b o, X.base.get? b = some o → s.heap.get? b = some o := fun b o e => (I.bs b o e).1
theorem Inv.mod (I : Inv X pins σ H s) : Mod X.K X.mg X.base := I.ok.mod
theorem Inv.kIn (I : Inv X pins σ H s) : X.K.In s.heap := I.ok.mod.kin.keeps I.bk
theorem Inv.nolimit (I : Inv X pins σ H s) : s.heap.NoLimit := I.ok.mod.nolimit.keeps I.bk
theorem Inv.fr (I : Inv X pins σ H s) : ∃ m, Fr X.base X.env.locals s.heap m :=
  let ⟨m, hn, _⟩ := I.loc
  ⟨m, hn, I.bk, Nat.le_trans I.ok.bsz I.ok.above⟩
theorem Inv.lt (I : Inv X pins σ H s) : X.env.locals < s.heap.objs.size := let ⟨_, hn, _⟩ := I.loc; hn.lt
theorem Inv.sz (I : Inv X pins σ H s) : X.s₀.heap.objs.size ≤ s.heap.objs.size := Nat.le_trans I.ok.above (Nat.le_of_lt I.lt)
theorem Inv.nofs (I : Inv X pins σ H s) {a : Addr} (h : s.heap.objs.size ≤ a) : a ∉ X.fs := fun hb => by
  obtain ⟨_, o, ho, _⟩ := I.ok.funs.mem hb
  exact absurd (Nat.lt_of_lt_of_le (Heap.lt_size ho) (Nat.le_trans I.sz h)) (Nat.lt_irrefl _)
theorem Inv.cne (I : Inv X pins σ H s) : ∀ x c, X.env.cells.lookup x = some c → c ≠ X.env.locals := fun x c e z => by
  obtain ⟨v, o, ho, hd⟩ := I.cell x c e
  obtain ⟨m, ⟨o', es, ep, ho', hd', _⟩, _⟩ := I.loc
  rw [z, ho'] at ho; cases ho; rw [hd'] at hd; cases hd
theorem Inv.funs (I : Inv X pins σ H s) : s.heap.FunFrames X.base X.outer := by
  have all : ∀ (l : List Env), (∀ b ∈ frs l, b ∈ X.fs) → X.s₀.heap.FunFrames X.base l → s.heap.FunFrames X.base l := by
    intro l
    induction l with
    | nil => intro _ _; trivial
    | cons env r ih =>
      intro hs hl
      obtain ⟨hk, ⟨L, o, hf, hn, ho, hd⟩, hr⟩ := hl
      have hL : L ∈ X.fs := hs L (by unfold frs; rw [List.filterMap_cons, hf]; exact List.mem_cons_self)
      obtain ⟨sl, e⟩ := I.base.slot L o ho (I.ok.frf L hL) hL fun z => I.ok.exfs L z hL
      exact ⟨hk, ⟨L, _, hf, hn, e, hd⟩, ih (fun b hb => hs b (by unfold frs; rw [List.filterMap_cons, hf]; exact List.mem_cons_of_mem _ hb)) hr⟩
  exact all X.outer (fun _ hb => hb) I.ok.funs
theorem Inv.stack (I : Inv X pins σ H s) : s.heap.FunFrames X.base X.stack := by
  rcases I.ok.stk with e | ⟨e, hf⟩
  · rw [e]; exact I.funs
  · rw [e]
    obtain ⟨m, hn, _⟩ := I.loc
    refine .cons (by rw [I.ok.kind]; decide) hf hn ?_ I.funs
    exact Heap.get?_none_of_le (Nat.le_trans I.ok.bsz I.ok.above)
theorem Inv.stkSub (I : Inv X pins σ H s) : ∀ b ∈ frs X.stack, b ∈ X.env.locals :: X.fs := fun b hb => by
  rcases I.ok.stk with e | ⟨e, hf⟩
  · rw [e] at hb; exact List.mem_cons_of_mem _ hb
  · rw [e] at hb
    unfold frs at hb
    rw [List.filterMap_cons, hf] at hb
    exact hb
theorem Inv.stkFree (I : Inv X pins σ H s) : ∀ b ∈ frs X.stack, H b = none := fun b hb => by
  rcases List.mem_cons.mp (I.stkSub b hb) with e | hb
  · rw [e]; exact I.free
  · obtain ⟨_, o, ho, _⟩ := I.ok.funs.mem hb
    exact I.base.free b o ho (I.ok.frf b hb) fun z => I.ok.exfs b z hb
theorem Inv.step {g' : Array GenState} {t' : Nat} {d' : Drawn} {ch : List Addr} (I : Inv X pins σ H s)
    (hch : ∀ b ∈ ch, (b ∈ X.ex ∨ X.s₀.heap.objs.size ≤ b) ∧ b ≠ X.env.locals ∧ (∀ x c, X.env.cells.lookup x = some c → c ≠ b) ∧ ∀ p ∈ X.pn ++ pins, p.1 ≠ b)
    (keep : ∀ b o, b ≠ X.env.locals → b ∉ X.fs → b ∉ ch → s.heap.get? b = some o → H b = none → h'.get? b = some o)
    (slot : ∀ b o, b ≠ X.env.locals → b ∈ X.fs → b ∉ ch → s.heap.get? b = some o → H b = none → ∃ sl, h'.get? b = some { o with slots := sl }) (free : ∀ b o, b ∉ ch → s.heap.get? b = some o → H b = none → H' b = none)
    (there : ∀ b o, b ∉ ch → s.heap.get? b = some o → ∃ o', h'.get? b = some o')
    (tups : ∀ b xs, H b = some (.tup xs) → H' b = some (.tup xs)) (frzs : ∀ b o u, H b = some (.frz o u) → H' b = some (.frz o u)) (tbls : ∀ b ps, H b = some (.tbl ps) → ∃ more, H' b = some (.tbl (ps ++ more)))
    (ns : ∀ m, s.heap.Ns X.env.locals m → h'.Ns X.env.locals m) (hok : HOk X.prog X.w H' h') (hg : AllBare g') :
    Inv X pins σ H' { s with heap := h', gens := g', drawn := d', toks := t' } := by
  have neL : ∀ b o, X.s₀.heap.get? b = some o → b ≠ X.env.locals := fun b o e => Nat.ne_of_lt (Nat.lt_of_lt_of_le (Heap.lt_size e) I.ok.above)
  have neC : ∀ b o, X.s₀.heap.get? b = some o → b ∉ X.ex → b ∉ ch := fun b o e hx hb => by
    rcases (hch b hb).1 with z | z
    · exact hx z
    · exact absurd (Nat.lt_of_lt_of_le (Heap.lt_size e) z) (Nat.lt_irrefl _)
  have cellK : ∀ x c, X.env.cells.lookup x = some c → ∀ v, s.heap.IsCell c v → h'.IsCell c v := fun x c e v ⟨o, ho, hd⟩ => by
    have nch : c ∉ ch := fun z => (hch c z).2.2.1 x c e rfl
    by_cases hc : c ∈ X.fs
    · obtain ⟨sl, q⟩ := slot c o (I.cne x c e) hc nch ho (I.freeC x c e)
      exact ⟨_, q, hd⟩
    · exact ⟨o, keep c o (I.cne x c e) hc nch ho (I.freeC x c e), hd⟩
  refine ⟨I.ok, I.os, hg, ⟨fun b o e n hb hx => ?_, fun b o e n hb hx => ?_, fun b o e n hx => ?_, fun b o e hx => ?_, fun b xs e => tups b xs (I.base.tups b xs e), fun b o xs e => frzs b o xs (I.base.frzs b o xs e), fun b ps e => ?_⟩, ?_, fun x c e => ?_, ?_, fun x c e => ?_, fun p hp => ?_, hok, I.len⟩
  · exact keep b o (neL b o e) hb (neC b o e hx) (I.base.keep b o e n hb hx) (I.base.free b o e n hx)
  · obtain ⟨sl, e1⟩ := I.base.slot b o e n hb hx
    obtain ⟨sl', e2⟩ := slot b _ (neL b o e) hb (neC b o e hx) e1 (I.base.free b o e n hx)
    exact ⟨sl', e2⟩
  · obtain ⟨o', e1⟩ := I.base.there b o e hx
    exact free b o' (neC b o e hx) e1 (I.base.free b o e n hx)
  · obtain ⟨o', e1⟩ := I.base.there b o e hx
    exact there b o' (neC b o e hx) e1
  · obtain ⟨m1, e1⟩ := I.base.tbls b ps e
    obtain ⟨m2, e2⟩ := tbls b _ e1
    exact ⟨m1 ++ m2, by rw [e2, Array.append_assoc]⟩
  · obtain ⟨m, hn, hl⟩ := I.loc
    refine ⟨m, ns m hn, fun i x v e1 e2 e3 => ?_⟩
    obtain ⟨u, r, l⟩ := hl i x v e1 e2 e3
    refine ⟨u, r, ?_⟩
    rcases l with l | ⟨k, c, e, z⟩
    · exact .inl l
    · exact .inr ⟨k, c, e, cellK x c e _ z⟩
  · obtain ⟨v, z⟩ := I.cell x c e
    exact ⟨v, cellK x c e v z⟩
  · obtain ⟨m, ⟨o, _, _, ho, _⟩, _⟩ := I.loc
    exact free _ o (fun z => (hch _ z).2.1 rfl) ho I.free
  · obtain ⟨v, o, ho, hd⟩ := I.cell x c e
    exact free c o (fun z => (hch c z).2.2.1 x c e rfl) ho (I.freeC x c e)
  · obtain ⟨e, n, ne, nf, d⟩ := I.pin p hp
    have nch : p.1 ∉ ch := fun z => (hch p.1 z).2.2.2 p hp rfl
    exact ⟨keep p.1 p.2 ne nf nch e n, free p.1 p.2 nch e n, ne, nf, d⟩
theorem Inv.un {t' : Nat} (I : Inv X pins σ H s) (u : Un X.fs [] H H' s.heap h') (hok : HOk X.prog X.w H' h') : Inv X pins σ H' { s with heap := h', toks := t' } := by
  obtain ⟨m, ⟨o, es, ep, ho, r⟩, _⟩ := id I.loc
  obtain ⟨sl, hL⟩ := u.any ho I.free (by simp)
  exact I.step (g' := s.gens) (d' := s.drawn) (ch := []) (fun _ z => nomatch z) (fun b o _ hb _ e n => u.keep b o e n hb (by simp)) (fun b o _ hb _ e n => u.slot b o e n hb (by simp)) (fun b o _ e n => u.free b o e n (by simp)) (fun b o _ e => u.there b o e (by simp)) u.tups u.frzs u.tbls (fun m' hm => by
    obtain ⟨o', es', ep', ho', r'⟩ := hm
    rw [ho] at ho'; cases ho'
    exact ⟨_, es', ep', hL, r'⟩) hok I.bare
theorem Inv.call {g' : Array GenState} {t' : Nat} {d' : Drawn} {ch : List Addr} (I : Inv X pins σ H s) (u : Un (frs X.stack) ch H H' s.heap h') (hok : HOk X.prog X.w H' h') (hg : AllBare g')
    (hch : ∀ b ∈ ch, (b ∈ X.ex ∨ X.s₀.heap.objs.size ≤ b) ∧ b ≠ X.env.locals ∧ (∀ x c, X.env.cells.lookup x = some c → c ≠ b) ∧ ∀ p ∈ X.pn ++ pins, p.1 ≠ b) :
    Inv X pins σ H' { s with heap := h', gens := g', drawn := d', toks := t' } := by
  obtain ⟨m, ⟨o, es, ep, ho, r⟩, _⟩ := id I.loc
  obtain ⟨sl, hL⟩ := u.any ho I.free fun z => (hch _ z).2.1 rfl
  exact I.step (ch := ch) hch (fun b o hL hb hc e n => u.keep b o e n (fun z => (List.mem_cons.mp (I.stkSub b z)).elim hL hb) hc) (fun b o _ _ hc e n => u.any e n hc) (fun b o hc e n => u.free b o e n hc) (fun b o hc e => u.there b o e hc) u.tups u.frzs u.tbls (fun m' hm => by
    obtain ⟨o', es', ep', ho', r'⟩ := hm
    rw [ho] at ho'; cases ho'
    exact ⟨_, es', ep', hL, r'⟩) hok hg
theorem Inv.turned {t' : Nat} {it : Addr} (I : Inv X pins σ H s) (k : ∀ b o, b ≠ it → s.heap.get? b = some o → h'.get? b = some o) (hn : H it = none) (hL : it ≠ X.env.locals)
    (h1 : it ∈ X.ex ∨ X.s₀.heap.objs.size ≤ it) (h2 : ∀ x c, X.env.cells.lookup x = some c → c ≠ it) (h3 : ∀ p ∈ X.pn ++ pins, p.1 ≠ it) : Inv X pins σ H { s with heap := h', toks := t' } := by
  have nit : ∀ b u, H b = some u → b ≠ it := fun b u e z => by rw [z, hn] at e; cases e
  refine I.step (g' := s.gens) (d' := s.drawn) (ch := [it]) (fun b hb => ?_) (fun b o _ _ hc e _ => k b o (fun z => hc (by simp [z])) e) (fun b o _ _ hc e _ => ⟨o.slots, k b o (fun z => hc (by simp [z])) e⟩) (fun _ _ _ _ n => n)
    (fun b o hc e => ⟨o, k b o (fun z => hc (by simp [z])) e⟩) (fun _ _ e => e) (fun _ _ _ e => e) (fun b ps e => ⟨#[], by rw [e]; simp⟩) (fun m hm => ?_) (fun b u e => ?_) I.bare
  · have e : b = it := by simpa using hb
    subst e
    exact ⟨h1, hL, h2, h3⟩
  · obtain ⟨o, es, ep, ho, r⟩ := hm
    exact ⟨o, es, ep, k _ o (Ne.symm hL) ho, r⟩
  · refine (I.hok b u e).stay (fun c v hc q => k c v ?_ q) (fun _ q => q) fun _ _ q => q
    rcases hc with z | z
    · rw [z]; exact nit b u e
    · exact nit c _ z
theorem Inv.tok (I : Inv X pins σ H s) (t : Nat) : Inv X pins σ H { s with toks := t } := I.un (h' := s.heap) (t' := t) Un.refl I.hok
theorem Inv.kept {t' : Nat} (I : Inv X pins σ H s) (k : ∀ b u, s.heap.get? b = some u → h'.get? b = some u) : Inv X pins σ H { s with heap := h', toks := t' } := I.un (Un.kept k) (I.hok.kept k)
theorem Inv.laid {a : Addr} {o : HO} {t' : Nat} (I : Inv X pins σ H s) (k : ∀ b u, s.heap.get? b = some u → h'.get? b = some u) (hp : s.heap.objs.size ≤ a) (new : ObjOk X.prog X.w (upd H a o) h' a o) :
    Inv X pins σ (upd H a o) { s with heap := h', toks := t' } := I.un (Un.laid k hp (I.hok.fresh hp)) (I.hok.laid k hp new)
theorem Inv.write {x e : Addr} {o : HO} {t' : Nat} (I : Inv X pins σ H s) (mu : Mut (H x)) (he : e = x ∨ H e = some (.own x)) (k : ∀ b u, b ≠ e → s.heap.get? b = some u → h'.get? b = some u) (heo : ∃ u, h'.get? e = some u)
    (new : ObjOk X.prog X.w (upd H x o) h' x o) : Inv X pins σ (upd H x o) { s with heap := h', toks := t' } := I.un (Un.write mu he k heo) (I.hok.write mu he k heo new)
theorem Inv.weak {σ' : List (Option V)} (I : Inv X pins σ H s) (hl : σ'.length = σ.length) (w : ∀ (i : Nat) v, σ'[i]? = some (some v) → σ[i]? = some (some v)) : Inv X pins σ' H s :=
  ⟨I.ok, I.os, I.bare, I.base, let ⟨m, hn, hl'⟩ := I.loc; ⟨m, hn, fun i x v e1 e2 e3 => hl' i x v e1 (w i v e2) e3⟩, I.cell, I.free, I.freeC, I.pin, I.hok, hl.trans I.len⟩
theorem Inv.pins_of {pins' : List (Addr × Obj)} (I : Inv X pins σ H s) (h : ∀ p ∈ pins', s.heap.get? p.1 = some p.2 ∧ H p.1 = none ∧ p.1 ≠ X.env.locals ∧ p.1 ∉ X.fs ∧ ∀ v, p.2.data ≠ .cell v) : Inv X pins' σ H s :=
  ⟨I.ok, I.os, I.bare, I.base, I.loc, I.cell, I.free, I.freeC, fun p hp => (List.mem_append.mp hp).elim (fun z => I.pin p (List.mem_append_left _ z)) (h p), I.hok, I.len⟩
theorem nodup_ix {N : List Str} (hN : N.Nodup) {i j : Nat} {x : Str} (a : N[i]? = some x) (b : N[j]? = some x) : i = j := by
  obtain ⟨h1, e1⟩ := List.getElem?_eq_some_iff.mp a
  obtain ⟨h2, e2⟩ := List.getElem?_eq_some_iff.mp b
  exact (List.getElem_inj hN).mp (e1.trans e2.symm)
theorem store_ok2 {M : Model} {A : Around} {E : Value → Shared → Prop} {i : Nat} {x : Str} {v : V} {u : Value} {Q : Unit → Shared → Prop} (I : Inv X pins σ H s) (hN : X.N.Nodup) (hi : X.N[i]? = some x) (hx : Loc X.env.scope x) (r : RelV v u)
    (h : ∀ s', Inv X pins (σ.set i (some v)) H s' → (∃ a, Heap.SameBut a s.heap s'.heap ∧ (a = X.env.locals ∨ X.env.cells.lookup x = some a)) → Q () s') (hf : X.fn x = true ∨ X.env.scope.names.lookup x = some .local := by first | exact .inl rfl | exact .inr rfl | assumption) : wpAny M A (storeName X.env x u) Q E s := by
  obtain ⟨m, hn, hl⟩ := id I.loc
  have hcls : (X.env.scope.kind == .class || (X.env.scope.kind == .module && X.env.locals != X.env.globals)) = false := by rw [I.ok.kind]; rfl
  have hiσ : i < σ.length := by rw [I.len]; exact (List.getElem?_eq_some_iff.mp hi).1
  have cne := I.cne
  have tracked : ∀ {a : Addr} {h' : Heap}, (∃ o, s.heap.get? a = some o ∧ H a = none) → Heap.SameBut a s.heap h' → HOk X.prog X.w H h' := fun {a h'} ha hs b ob e => by
    obtain ⟨_, _, hfree⟩ := ha
    refine (I.hok b ob e).stay (fun c w' hc q => (hs.2 c ?_).trans q) (fun _ q => q) fun _ _ q => q
    rintro rfl
    rcases hc with rfl | hc
    · rw [hfree] at e; cases e
    · rw [hfree] at hc; cases hc
  rcases hx with hk | hk
  · refine wpAny_storeName_local hk hn (fun h' hn' hs => ?_) hcls
    obtain ⟨oL, _, _, hoL, _⟩ := id hn
    refine h _ ⟨I.ok, I.os, I.bare, ⟨fun b o e n hb hx => ?_, fun b o e n hb hx => ?_, I.base.free, fun b o e hx => ?_, I.base.tups, I.base.frzs, I.base.tbls⟩, ⟨_, hn', fun j y v' e1 e2 e3 => ?_⟩, fun y c e => ?_, I.free, I.freeC, fun p hp => ?_, tracked ⟨oL, hoL, I.free⟩ hs, by simpa using I.len⟩ ⟨_, hs, .inl rfl⟩
    · exact (hs.2 b (Nat.ne_of_lt (Nat.lt_of_lt_of_le (Heap.lt_size e) I.ok.above))).trans (I.base.keep b o e n hb hx)
    · obtain ⟨sl, e1⟩ := I.base.slot b o e n hb hx
      exact ⟨sl, (hs.2 b (Nat.ne_of_lt (Nat.lt_of_lt_of_le (Heap.lt_size e) I.ok.above))).trans e1⟩
    · obtain ⟨o', e1⟩ := I.base.there b o e hx
      exact ⟨o', (hs.2 b (Nat.ne_of_lt (Nat.lt_of_lt_of_le (Heap.lt_size e) I.ok.above))).trans e1⟩
    · by_cases hj : j = i
      · subst hj
        rw [hi] at e1; cases e1
        rw [List.getElem?_set_self hiσ] at e2
        cases e2
        exact ⟨u, r, .inl ⟨hk, by simp⟩⟩
      · rw [List.getElem?_set_ne (Ne.symm hj)] at e2
        obtain ⟨u', r', q⟩ := hl j y v' e1 e2 e3
        refine ⟨u', r', ?_⟩
        rcases q with ⟨k, e⟩ | ⟨k, c, e, z⟩
        · refine .inl ⟨k, ?_⟩
          have : y ≠ x := fun e => hj (nodup_ix hN e1 (e ▸ hi))
          simp [this, e]
        · exact .inr ⟨k, c, e, z.sameBut hs (cne y c e)⟩
    · obtain ⟨w', z⟩ := I.cell y c e
      exact ⟨w', z.sameBut hs (cne y c e)⟩
    · obtain ⟨e, n, ne, nf, d⟩ := I.pin p hp
      exact ⟨(hs.2 p.1 ne).trans e, n, ne, nf, d⟩
  · have hfn : X.fn x = true := by
      rcases hf with z | z
      · exact z
      · rw [z] at hk; cases hk
    obtain ⟨c, hc⟩ := I.ok.has x (.inl hk)
    obtain ⟨w', z⟩ := I.cell x c hc
    refine wpAny_storeName_cell I.ok.kind hk hc z (fun h' hc' hs => ?_)
    obtain ⟨oc, hoc, hocd⟩ := id z
    refine h { s with heap := h' } ⟨I.ok, I.os, I.bare, ⟨fun b o e n hb hx => ?_, fun b o e n hb hx => ?_, I.base.free, fun b o e hx => ?_, I.base.tups, I.base.frzs, I.base.tbls⟩, ⟨m, hn.sameBut hs (Ne.symm (cne x c hc)), fun j y v' e1 e2 e3 => ?_⟩, fun y c' e => ?_, I.free, I.freeC, fun p hp => ?_, tracked ⟨oc, hoc, I.freeC x c hc⟩ hs, by simpa using I.len⟩ ⟨c, hs, .inr hc⟩
    · exact (hs.2 b (Nat.ne_of_lt (Nat.lt_of_lt_of_le (Heap.lt_size e) (I.ok.cab x c hfn hc)))).trans (I.base.keep b o e n hb hx)
    · obtain ⟨sl, e1⟩ := I.base.slot b o e n hb hx
      exact ⟨sl, (hs.2 b (Nat.ne_of_lt (Nat.lt_of_lt_of_le (Heap.lt_size e) (I.ok.cab x c hfn hc)))).trans e1⟩
    · obtain ⟨o', e1⟩ := I.base.there b o e hx
      exact ⟨o', (hs.2 b (Nat.ne_of_lt (Nat.lt_of_lt_of_le (Heap.lt_size e) (I.ok.cab x c hfn hc)))).trans e1⟩
    · by_cases hj : j = i
      · subst hj
        rw [hi] at e1; cases e1
        rw [List.getElem?_set_self hiσ] at e2
        cases e2
        exact ⟨u, r, .inr ⟨.inl hk, c, hc, hc'⟩⟩
      · rw [List.getElem?_set_ne (Ne.symm hj)] at e2
        obtain ⟨u', r', q⟩ := hl j y v' e1 e2 e3
        refine ⟨u', r', ?_⟩
        rcases q with q | ⟨k, c', e, z'⟩
        · exact .inl q
        · refine .inr ⟨k, c', e, z'.sameBut hs ?_⟩
          rintro rfl
          exact hj (nodup_ix hN e1 (I.ok.inj _ _ _ e hc ▸ hi))
    · by_cases hcc : c' = c
      · subst hcc; exact ⟨_, hc'⟩
      · obtain ⟨w2, z2⟩ := I.cell y c' e
        exact ⟨w2, z2.sameBut hs hcc⟩
    · obtain ⟨e, n, ne, nf, d⟩ := I.pin p hp
      refine ⟨(hs.2 p.1 ?_).trans e, n, ne, nf, d⟩
      intro q
      rw [q, hoc] at e
      have q' : oc = p.2 := Option.some.inj e
      exact d w' (by rw [← q']; exact hocd)
theorem store_ok {M : Model} {A : Around} {E : Value → Shared → Prop} {i : Nat} {x : Str} {v : V} {u : Value} {Q : Unit → Shared → Prop} (I : Inv X pins σ H s) (hN : X.N.Nodup) (hi : X.N[i]? = some x) (hx : Loc X.env.scope x) (r : RelV v u)
    (h : ∀ s', Inv X pins (σ.set i (some v)) H s' → Q () s') (hf : X.fn x = true ∨ X.env.scope.names.lookup x = some .local := by first | exact .inl rfl | exact .inr rfl | assumption) : wpAny M A (storeName X.env x u) Q E s :=
  store_ok2 I hN hi hx r (fun s' I' _ => h s' I') hf
theorem Inv.call' {s' : Shared} {ch : List Addr} (I : Inv X pins σ H s) (ho : s'.os = s.os) (u : Un (frs X.stack) ch H H' s.heap s'.heap) (hok : HOk X.prog X.w H' s'.heap) (hg : AllBare s'.gens)
    (hch : ∀ b ∈ ch, (b ∈ X.ex ∨ X.s₀.heap.objs.size ≤ b) ∧ b ≠ X.env.locals ∧ (∀ x c, X.env.cells.lookup x = some c → c ≠ b) ∧ ∀ p ∈ X.pn ++ pins, p.1 ≠ b) : Inv X pins σ H' s' := by
  obtain ⟨h', g', d', t', o'⟩ := s'
  have e : o' = s.os := ho
  subst e
  exact I.call (g' := g') (t' := t') (d' := d') u hok hg hch
end
abbrev XK := Value → Option Addr → Hp → Prop
abbrev St := List (Option V)
abbrev VK := V → Hp → Prop
abbrev TE := St → Hp → VK → Prop
abbrev TT := St → Hp → (Bool → Hp → Prop) → Prop
abbrev TA := St → Hp → (List V → Hp → Prop) → Prop
structure Ends where
  nx : St → Hp → Prop
  rt : VK
  bk : St → Hp → Prop := fun _ _ => False
  ct : St → Hp → Prop := fun _ _ => False
abbrev TS := Ends → St → Hp → Prop
def EP (X : Cx) (pins : List (Addr × Obj)) (σ : St) (Q : VK) (u : Value) (s' : Shared) : Prop := ∃ v H', Inv X pins σ H' s' ∧ RelV v u ∧ Q v H'
def TP (X : Cx) (pins : List (Addr × Obj)) (σ : St) (Q : Bool → Hp → Prop) (b : Bool) (s' : Shared) : Prop := ∃ H', Inv X pins σ H' s' ∧ Q b H'
def AP (X : Cx) (pins : List (Addr × Obj)) (σ : St) (Q : List V → Hp → Prop) (us : List Value) (s' : Shared) : Prop := ∃ vs H', Inv X pins σ H' s' ∧ Vals vs us ∧ Q vs H'
def SP (X : Cx) (pins : List (Addr × Obj)) (D : Ends) (f : Flow) (s' : Shared) : Prop :=
  match f with
  | .next => ∃ σ' H', Inv X pins σ' H' s' ∧ D.nx σ' H'
  | .brk => ∃ σ' H', Inv X pins σ' H' s' ∧ D.bk σ' H'
  | .cont => ∃ σ' H', Inv X pins σ' H' s' ∧ D.ct σ' H'
  | .ret u => ∃ v σ' H', Inv X pins σ' H' s' ∧ RelV v u ∧ D.rt v H'
def PE (X : Cx) (e : Expr) (t : TE) : Prop :=
  ∀ (pins : List (Addr × Obj)) (s : Shared) (σ : St) (H : Hp) (Q : VK), Inv X pins σ H s → t σ H Q → wpAny (model X.prog X.w) X.A (eval e X.env) (EP X pins σ Q) X.xe s
def PT (X : Cx) (e : Expr) (t : TT) : Prop :=
  ∀ (pins : List (Addr × Obj)) (s : Shared) (σ : St) (H : Hp) (Q : Bool → Hp → Prop), Inv X pins σ H s → t σ H Q → wpAny (model X.prog X.w) X.A (isTrue e X.env (eval e X.env)) (TP X pins σ Q) X.xe s
def PW (X : Cx) (e : Expr) (t : TT) : Prop :=
  ∀ (whole : Sem Value) (pins : List (Addr × Obj)) (s : Shared) (σ : St) (H : Hp) (Q : Bool → Hp → Prop), Inv X pins σ H s → t σ H Q → wpAny (model X.prog X.w) X.A (isTrue e X.env whole) (TP X pins σ Q) X.xe s
theorem PW.pt {X : Cx} {e : Expr} {t : TT} (h : PW X e t) : PT X e t := h _
def PA (X : Cx) (es : List Expr) (t : TA) : Prop :=
  ∀ (pos : Pos) (pins : List (Addr × Obj)) (s : Shared) (σ : St) (H : Hp) (Q : List V → Hp → Prop), Inv X pins σ H s → t σ H Q → wpAny (model X.prog X.w) X.A (spliced (backTo pos (starEach es X.env))) (AP X pins σ Q) X.xe s
def PS (X : Cx) (st : Stmt) (t : TS) : Prop :=
  ∀ (pins : List (Addr × Obj)) (s : Shared) (σ : St) (H : Hp) (D : Ends), Inv X pins σ H s → t D σ H → wpAny (model X.prog X.w) X.A (exec st X.env) (SP X pins D) X.xe s
def PSs (X : Cx) (st : List Stmt) (t : TS) : Prop :=
  ∀ (pins : List (Addr × Obj)) (s : Shared) (σ : St) (H : Hp) (D : Ends), Inv X pins σ H s → t D σ H → wpAny (model X.prog X.w) X.A (execs st X.env) (SP X pins D) X.xe s
theorem thn {α : Type} {t : Sem α} {Q Q' : α → Shared → Prop} {M : Model} {A : Around} {E : Value → Shared → Prop} {s : Shared} (h : wpAny M A t Q E s) (hQ : ∀ a s, Q a s → Q' a s) : wpAny M A t Q' E s := wpAny_mono h hQ fun _ _ x => x
end L2
namespace L2
open PySem PySem.Spec PyProof.Rows
section
variable {X : Cx}
def tVar (i : Nat) : TE := fun σ H Q => ∃ v, σ[i]? = some (some v) ∧ Q v H
def tC (v : V) : TE := fun _ H Q => Q v H
theorem pe_var {i : Nat} {x : Str} {pos : Pos} (hN : X.N[i]? = some x) (hv : Vis X.env.scope x) (hd : (x == ("__debug__" : Str)) = false := by decide) (hcd : (x == ("__classdict__" : Str)) = false := by decide) : PE X (.Name x pos) (tVar i) := by
  intro pins s σ H Q I h
  obtain ⟨v, e, h⟩ := h
  obtain ⟨m, hn, hl⟩ := I.loc
  obtain ⟨u, r, l⟩ := hl i x v hN e hv
  have fin : EP X pins σ Q u s := ⟨v, H, I, r, h⟩
  rcases l with ⟨hk, hm⟩ | ⟨hk, c, hc, hcell⟩
  · exact wpAny_Name (wpAny_loadName_local I.ok.kind hk hn hm fin) hd
  · rcases hk with hk | hk
    · exact wpAny_Name (wpAny_loadName_cell I.ok.kind hk hc hcell fin) hd
    · exact wpAny_Name (wpAny_loadName_free I.ok.kind hk hc hcell fin hcd) hd
theorem pe_int {i j pos} : PE X (.Constant (.int i) j pos) (tC (.int i)) := fun _ _ _ H _ I h => wpAny_Constant_int ⟨.int i, H, I.tok _, ⟨_, rfl⟩, h⟩
theorem pe_bl {b j pos} : PE X (.Constant (.bool b) j pos) (tC (.bl b)) := fun _ _ _ H _ I h => Constant_bool ⟨.bl b, H, I, rfl, h⟩
theorem pe_str {x j pos} : PE X (.Constant (.str x) j pos) (tC (.str x)) := fun _ _ _ H _ I h => Calls.Constant_str ⟨.str x, H, I.tok _, ⟨_, rfl⟩, h⟩
def Gl (X : Cx) (x : Str) : Prop := X.env.kindOf x = some .globalImplicit
theorem ld_glob {E : Value → Shared → Prop} {pins : List (Addr × Obj)} {s : Shared} {σ : St} {H : Hp} {x : Str} {u : Value} {pos : Pos} {Q : Value → Shared → Prop} (I : Inv X pins σ H s) (hg : Gl X x) (hm : X.mg x = some u) (h : Q u s)
    (hd : (x == ("__debug__" : Str)) = false := by decide) : wpAny (model X.prog X.w) X.A (eval (.Name x pos) X.env) Q E s :=
  Calls.Name_function_global I.ok.kind hg (Calls.loadGlobal_global (by rw [I.ok.glob]; exact I.mod.glob.keeps I.bk) hm h) hd
theorem ld_blt {E : Value → Shared → Prop} {pins : List (Addr × Obj)} {s : Shared} {σ : St} {H : Hp} {x : Str} {u : Value} {pos : Pos} {Q : Value → Shared → Prop} (I : Inv X pins σ H s) (hg : Gl X x) (hm : X.mg x = none) (hv : bootBuiltins x = some u) (h : Q u s)
    (hn : x ≠ "__name__" := by decide) (hd : (x == ("__debug__" : Str)) = false := by decide) : wpAny (model X.prog X.w) X.A (eval (.Name x pos) X.env) Q E s := by
  obtain ⟨mb, h1, h2⟩ := I.mod.blt
  exact Calls.Name_function_global I.ok.kind hg (Calls.loadGlobal_builtin (by rw [I.ok.glob]; exact I.mod.glob.keeps I.bk) hm (by rw [I.ok.blt]; exact h1.keeps I.bk) ((h2 x hn).trans hv) h) hd
theorem pe_glob {x : Str} {v : V} {u : Value} {pos : Pos} (hg : Gl X x) (hm : X.mg x = some u) (r : RelV v u) (hd : (x == ("__debug__" : Str)) = false := by decide) : PE X (.Name x pos) (tC v) :=
  fun _ _ _ H _ I h => ld_glob I hg hm ⟨v, H, I, r, h⟩ hd
theorem pe_bltn {x : Str} {v : V} {u : Value} {pos : Pos} (hg : Gl X x) (hm : X.mg x = none) (hv : bootBuiltins x = some u) (r : RelV v u) (hn : x ≠ "__name__" := by decide) (hd : (x == ("__debug__" : Str)) = false := by decide) : PE X (.Name x pos) (tC v) :=
  fun _ _ _ H _ I h => ld_blt I hg hm hv ⟨v, H, I, r, h⟩ hn hd
variable {a b : Expr} {ta tb : TE} {pos : Pos}
def tB (t : TE) : TT := fun σ H Q => t σ H fun x H1 => ∃ c, x = .bl c ∧ Q c H1
theorem pt_val {e : Expr} {t : TE} (h : PE X e t) (he : ∀ whole, isTrue e X.env whole = (do let v ← whole; standAt e.pos; holding [v] (truthy v)) := by intro _; rfl) : PT X e (tB t) := by
  intro pins s σ H Q I hw
  refine isTrue_plain (thn (h pins s σ H _ I hw) fun v s1 ⟨x, H1, I1, r1, q1⟩ => ?_) (he _)
  obtain ⟨d, rfl, q⟩ := q1
  cases r1
  exact wpAny_truthy_bool ⟨H1, I1, q⟩
variable {tA tB' : TT} {rest : List Expr}
def tAnd (t u : TT) : TT := fun σ H Q => t σ H fun c H1 => if c = true then u σ H1 Q else Q false H1
def tOr (t u : TT) : TT := fun σ H Q => t σ H fun c H1 => if c = true then Q true H1 else u σ H1 Q
def tNot (t : TT) : TT := fun σ H Q => t σ H fun c H1 => Q (!c) H1
theorem pw_and1 (ha : PT X a tA) : PW X (.BoolOp .And [a] pos) tA := by
  intro wh pins s σ H Q I h
  refine isTrue_and (thn (ha pins s σ H Q I h) fun c s1 e => ?_)
  cases c with
  | true => exact isTrue_and_nil e
  | false => exact e
theorem pw_or1 (ha : PT X a tA) : PW X (.BoolOp .Or [a] pos) tA := by
  intro wh pins s σ H Q I h
  refine isTrue_or (thn (ha pins s σ H Q I h) fun c s1 e => ?_)
  cases c with
  | false => exact isTrue_or_nil e
  | true => exact e
theorem pw_and (ha : PT X a tA) (hb : PW X (.BoolOp .And (b :: rest) pos) tB') : PW X (.BoolOp .And (a :: b :: rest) pos) (tAnd tA tB') := by
  intro wh pins s σ H Q I h
  refine isTrue_and (thn (ha pins s σ H _ I h) fun c s1 ⟨H1, I1, q1⟩ => ?_)
  cases c with
  | true => exact hb wh pins s1 σ H1 Q I1 q1
  | false => exact ⟨H1, I1, q1⟩
theorem pw_or (ha : PT X a tA) (hb : PW X (.BoolOp .Or (b :: rest) pos) tB') : PW X (.BoolOp .Or (a :: b :: rest) pos) (tOr tA tB') := by
  intro wh pins s σ H Q I h
  refine isTrue_or (thn (ha pins s σ H _ I h) fun c s1 ⟨H1, I1, q1⟩ => ?_)
  cases c with
  | true => exact ⟨H1, I1, q1⟩
  | false => exact hb wh pins s1 σ H1 Q I1 q1
theorem pt_not (ha : PT X a tA) : PT X (.UnaryOp .Not a pos) (tNot tA) := by
  intro pins s σ H Q I h
  exact isTrue_not (ha pins s σ H (fun c H1 => Q (!c) H1) I h)
def tAndV (ta tb : TE) : TE := fun σ H Q => ta σ H fun x H1 => ∃ c, x = .bl c ∧ if c = true then tb σ H1 Q else Q (.bl false) H1
def tOrV (ta tb : TE) : TE := fun σ H Q => ta σ H fun x H1 => ∃ c, x = .bl c ∧ if c = true then Q (.bl true) H1 else tb σ H1 Q
def tNotV (ta : TE) : TE := fun σ H Q => ta σ H fun x H1 => ∃ c, x = .bl c ∧ Q (.bl (!c)) H1
def tIf (t : TT) (ta tb : TE) : TE := fun σ H Q => t σ H fun c H1 => if c = true then ta σ H1 Q else tb σ H1 Q
end
end L2
namespace L2
open PySem PySem.Spec PyProof.Rows
def SqL (K : PySem.W.Frag) (H : Hp) (a : Addr) (xs : List V) : Prop :=
  Rd H a (.lst xs) ∨
    ∃ (o : Obj) (its : Array Value) (n : Nat), K.lookup a = some o ∧ o.cls = .type "list" ∧ o.dict = none ∧ o.data = .seq its n ∧ its.size ≤ sizeLine ∧ Vals xs its.toList
def SqT (K : PySem.W.Frag) (H : Hp) (a : Addr) (xs : List V) : Prop :=
  Rd H a (.tup xs) ∨
    ∃ (o : Obj) (its : Array Value) (n : Nat), K.lookup a = some o ∧ o.cls = .type "tuple" ∧ o.data = .seq its n ∧ its.size ≤ sizeLine ∧ Vals xs its.toList
def absV : Value → Option V
  | .none => some .non
  | .bool b => some (.bl b)
  | .int i _ => some (.int i)
  | .str x _ => some (.str x)
  | .bytes b _ => some (.byt b)
  | .float b _ => some (.flt b)
  | .ref a => some (.ref a)
  | .type n => some (.ty n)
  | _ => none
theorem RelV.abs {x : V} {u : Value} (r : RelV x u) : absV u = some x := by
  cases x with
  | non => cases r; rfl
  | bl _ => cases r; rfl
  | int _ => obtain ⟨t, rfl⟩ := r; rfl
  | str _ => obtain ⟨t, rfl⟩ := r; rfl
  | byt _ => obtain ⟨t, rfl⟩ := r; rfl
  | flt _ => obtain ⟨t, rfl⟩ := r; rfl
  | ref _ => cases r; rfl
  | ty _ => cases r; rfl
theorem RelV.inj {x y : V} {u : Value} (r : RelV x u) (q : RelV y u) : x = y := Option.some.inj (r.abs.symm.trans q.abs)
theorem Vals.inj : ∀ {xs ys : List V} {us : List Value}, Vals xs us → Vals ys us → xs = ys
  | _, _, _, .nil, .nil => rfl
  | _, _, _, .cons r t, .cons r' t' => by rw [r.inj r', Vals.inj t t']
section
variable {X : Cx} {pins : List (Addr × Obj)} {σ : St} {H : Hp} {s : Shared} {a : Addr} {xs ys : List V}
theorem SqL.of {K : PySem.W.Frag} (h : H a = some (.lst xs)) : SqL K H a xs := .inl (.inl h)
theorem SqT.of {K : PySem.W.Frag} (h : H a = some (.tup xs)) : SqT K H a xs := .inl (.inl h)
theorem Inv.list (I : Inv X pins σ H s) (h : SqL X.K H a xs) : ∃ its : List Value, Vals xs its ∧ PlainL s.heap a its.toArray ∧ xs.length ≤ sizeLine := by
  rcases h with h | ⟨o, its, n, hk, hc, hd, hs, hz, r⟩
  · obtain ⟨z, its, n, r, e⟩ := h.ok I.hok
    exact ⟨its, r, ⟨_, n, e, rfl, rfl, rfl⟩, z⟩
  · refine ⟨its.toList, r, ⟨o, n, I.kIn a o hk, hc, hd, by simpa using hs⟩, ?_⟩
    have e := r.length
    simp only [Array.length_toList] at e
    omega
theorem Inv.tuple (I : Inv X pins σ H s) (h : SqT X.K H a xs) : ∃ its : List Value, Vals xs its ∧ IsTup s.heap a its.toArray ∧ xs.length ≤ sizeLine := by
  rcases h with h | ⟨o, its, n, hk, hc, hs, hz, r⟩
  · obtain ⟨z, its, r, p⟩ := h.ok I.hok
    exact ⟨its, r, p, z⟩
  · refine ⟨its.toList, r, ⟨o, I.kIn a o hk, hc, n, by simpa using hs⟩, ?_⟩
    have e := r.length
    simp only [Array.length_toList] at e
    omega
theorem Inv.list_inj (I : Inv X pins σ H s) (h : SqL X.K H a xs) (h' : SqL X.K H a ys) : xs = ys := by
  obtain ⟨its, r, ⟨o, n, e, _, _, d⟩, _⟩ := I.list h
  obtain ⟨its', r', ⟨o', n', e', _, _, d'⟩, _⟩ := I.list h'
  rw [e] at e'; cases e'
  rw [d] at d'
  injection d' with d1 _
  have : its = its' := by simpa using congrArg Array.toList d1
  subst this
  exact r.inj r'
end
abbrev Cx.wish (X : Cx) (E : Value → Shared → Prop) : Cx := { X with xe := E }
abbrev Cx.nox (X : Cx) : Cx := X.wish fun _ _ => False
theorem Cx.Ok.wish {X : Cx} (ok : X.Ok) (E : Value → Shared → Prop) : (X.wish E).Ok :=
  ⟨ok.mod, ok.kind, ok.glob, ok.blt, ok.above, ok.inj, ok.has, ok.cab, ok.hd, ok.frames, ok.stk, ok.exf, ok.bs, ok.bsz, ok.noex, ok.exfs, ok.funs, ok.frf⟩
theorem Cx.Ok.unwish {X : Cx} {E : Value → Shared → Prop} (ok : (X.wish E).Ok) : X.Ok :=
  ⟨ok.mod, ok.kind, ok.glob, ok.blt, ok.above, ok.inj, ok.has, ok.cab, ok.hd, ok.frames, ok.stk, ok.exf, ok.bs, ok.bsz, ok.noex, ok.exfs, ok.funs, ok.frf⟩
section
variable {X : Cx} {pins : List (Addr × Obj)} {σ : St} {H : Hp} {s : Shared} {E : Value → Shared → Prop}
theorem Inv.wish (I : Inv X pins σ H s) (E : Value → Shared → Prop) : Inv (X.wish E) pins σ H s := ⟨I.ok.wish E, I.os, I.bare, I.base, I.loc, I.cell, I.free, I.freeC, I.pin, I.hok, I.len⟩
theorem Inv.unwish (I : Inv (X.wish E) pins σ H s) : Inv X pins σ H s := ⟨I.ok.unwish, I.os, I.bare, I.base, I.loc, I.cell, I.free, I.freeC, I.pin, I.hok, I.len⟩
theorem SP.unwish {D : Ends} {f : Flow} {s' : Shared} (h : SP (X.wish E) pins D f s') : SP X pins D f s' := by
  cases f with
  | next => obtain ⟨σ', H', I, q⟩ := h; exact ⟨σ', H', I.unwish, q⟩
  | brk => obtain ⟨σ', H', I, q⟩ := h; exact ⟨σ', H', I.unwish, q⟩
  | cont => obtain ⟨σ', H', I, q⟩ := h; exact ⟨σ', H', I.unwish, q⟩
  | ret u => obtain ⟨v, σ', H', I, r, q⟩ := h; exact ⟨v, σ', H', I.unwish, r, q⟩
theorem PE.nox {e : Expr} {t : TE} (h : PE X.nox e t) : PE X e t := fun pins s σ H Q I hw =>
  wpAny_mono (h pins s σ H Q (I.wish _) hw) (fun _ _ ⟨v, H', I', r, q⟩ => ⟨v, H', I'.unwish, r, q⟩) fun _ _ z => False.elim z
theorem PT.nox {e : Expr} {t : TT} (h : PT X.nox e t) : PT X e t := fun pins s σ H Q I hw =>
  wpAny_mono (h pins s σ H Q (I.wish _) hw) (fun _ _ ⟨H', I', q⟩ => ⟨H', I'.unwish, q⟩) fun _ _ z => False.elim z
theorem PSs.nox {st : List Stmt} {t : TS} (h : PSs X.nox st t) : PSs X st t := fun pins s σ H D I hw =>
  wpAny_mono (h pins s σ H D (I.wish _) hw) (fun _ _ q => q.unwish) fun _ _ z => False.elim z
end
section
variable {X : Cx} {st : Stmt} {rest : List Stmt} {t u : TS} {e : Expr} {te : TE} {pos : Pos}
def tNext : TS := fun D σ H => D.nx σ H
def tSeq (t u : TS) : TS := fun D σ H => t { D with nx := u D } σ H
theorem pss_nil : PSs X [] tNext := fun _ _ σ H _ I h => wpAny_execs_nil ⟨σ, H, I, h⟩
theorem pss_cons (h1 : PS X st t) (h2 : PSs X rest u) : PSs X (st :: rest) (tSeq t u) := by
  intro pins s σ H D I h
  refine wpAny_execs_cons (thn (h1 pins s σ H { D with nx := u D } I h) fun f s1 q => ?_)
  cases f with
  | next =>
    obtain ⟨σ', H', I', q⟩ := q
    exact h2 pins s1 σ' H' D I' q
  | ret v => exact q
  | brk => exact q
  | cont => exact q
theorem pss_one (h1 : PS X st t) : PSs X [st] t := by
  intro pins s σ H D I h
  refine wpAny_execs_cons (thn (h1 pins s σ H D I h) fun f s1 q => ?_)
  cases f with
  | next => exact wpAny_execs_nil q
  | ret v => exact q
  | brk => exact q
  | cont => exact q
theorem Inv.quiet {pins : List (Addr × Obj)} {σ : St} {H : Hp} {s : Shared} (I : Inv X pins σ H s) : interactive X.env = false := by simp [interactive, I.ok.kind]
def tDrop (te : TE) : TS := fun D σ H => te σ H fun _ H1 => D.nx σ H1
def tRet (te : TE) : TS := fun D σ H => te σ H D.rt
theorem ps_ret (he : PE X e te) : PS X (.Return (some e) pos) (tRet te) := by
  intro pins s σ H D I h
  exact wpAny_Return_some (thn (he pins s σ H _ I h) fun v s1 ⟨x, H1, I1, r1, q1⟩ => ⟨x, σ, H1, I1, r1, q1⟩)
def tIfS (c : TT) (t u : TS) : TS := fun D σ H => c σ H fun b H1 => if b = true then t D σ H1 else u D σ H1
theorem ps_if {c : Expr} {a b : List Stmt} {tc : TT} (hc : PT X c tc) (ha : PSs X a t) (hb : PSs X b u) : PS X (.If c a b pos) (tIfS tc t u) := by
  intro pins s σ H D I h
  refine wpAny_If (thn (hc pins s σ H _ I h) fun d s1 ⟨H1, I1, q1⟩ => ?_)
  cases d with
  | true => exact ha pins s1 σ H1 D I1 q1
  | false => exact hb pins s1 σ H1 D I1 q1
def tNever : TS := fun _ _ _ => False
theorem ps_never : PS X st tNever := fun _ _ _ _ _ _ h => h.elim
end
abbrev TG := V → St → Hp → (St → Hp → Prop) → Prop
abbrev TGs := List V → St → Hp → (St → Hp → Prop) → Prop
def PG (X : Cx) (target : Expr) (t : TG) : Prop :=
  ∀ (pins : List (Addr × Obj)) (s : Shared) (σ : St) (H : Hp) (v : V) (u : Value) (Q : St → Hp → Prop), Inv X pins σ H s → RelV v u → t v σ H Q →
    wpAny (model X.prog X.w) X.A (assign target X.env u) (fun _ s' => ∃ σ' H', Inv X pins σ' H' s' ∧ Q σ' H') X.xe s
def PGs (X : Cx) (ts : List Expr) (t : TGs) : Prop :=
  ∀ (pins : List (Addr × Obj)) (s : Shared) (σ : St) (H : Hp) (vs : List V) (us : List Value) (Q : St → Hp → Prop), Inv X pins σ H s → Vals vs us → t vs σ H Q →
    wpAny (model X.prog X.w) X.A (assignInOrder ((assignEach ts X.env).map (·.2)) us) (fun _ s' => ∃ σ' H', Inv X pins σ' H' s' ∧ Q σ' H') X.xe s
abbrev TSet := V → V → V → Hp → (Hp → Prop) → Prop
def PSet (X : Cx) (t : TSet) : Prop :=
  ∀ (pins : List (Addr × Obj)) (s : Shared) (σ : St) (H : Hp) (o i v : V) (ov iv u : Value) (Q : Hp → Prop), Inv X pins σ H s → RelV o ov → RelV i iv → RelV v u → t o i v H Q →
    wpAny (model X.prog X.w) X.A (setItem ov iv u) (fun _ s' => ∃ H', Inv X pins σ H' s' ∧ Q H') X.xe s
section
variable {X : Cx} {pos : Pos}
def gName (i : Nat) : TG := fun v σ H Q => Q (σ.set i (some v)) H
theorem pg_name {i : Nat} {x : Str} (hN : X.N.Nodup) (hi : X.N[i]? = some x) (hx : Loc X.env.scope x) (hf : X.fn x = true ∨ X.env.scope.names.lookup x = some .local := by first | exact .inl rfl | exact .inr rfl | assumption) : PG X (.Name x pos) (gName i) := by
  intro pins s σ H v u Q I r h
  exact wpAny_assign_Name (store_ok I hN hi hx r (fun s' I' => ⟨_, H, I', h⟩) hf)
def gNil : TGs := fun vs σ H Q => vs = [] ∧ Q σ H
def gCons (t : TG) (u : TGs) : TGs := fun vs σ H Q => ∃ v r, vs = v :: r ∧ t v σ H fun σ' H' => u r σ' H' Q
theorem pgs_nil : PGs X [] gNil := by
  intro pins s σ H vs us Q I r h
  obtain ⟨e, h⟩ := h
  subst e
  cases r
  exact assignInOrder_nil ⟨σ, H, I, h⟩
theorem pgs_cons {e : Expr} {es : List Expr} {t : TG} {u : TGs} (h1 : PG X e t) (h2 : PGs X es u)
    (hs : (assignEach (e :: es) X.env).map (·.2) = assign e X.env :: (assignEach es X.env).map (·.2) := by rfl) : PGs X (e :: es) (gCons t u) := by
  intro pins s σ H vs us Q I r h
  obtain ⟨v, vr, e1, h⟩ := h
  subst e1
  cases r with
  | cons r rr =>
    rw [hs]
    refine assignInOrder_cons (thn (h1 pins s σ H _ _ _ I r h) fun _ s1 ⟨σ1, H1, I1, q1⟩ => ?_)
    exact h2 pins s1 σ1 H1 _ _ Q I1 rr q1
def gTup (K : PySem.W.Frag) (n : Nat) (t : TGs) : TG := fun v σ H Q => ∃ a xs, v = .ref a ∧ SqT K H a xs ∧ xs.length = n ∧ t xs σ H Q
theorem pg_tup {es : List Expr} {k : Nat} {t : TGs} {n : Nat} (hc : X.calm = true) (h : PGs X es t)
    (hn : (assignEach es X.env).length = n := by rfl) (hst : (assignEach es X.env).findIdx? (·.1) = none := by rfl) : PG X (.Tuple es k pos) (gTup X.K n t) := by
  intro pins s σ H v u Q I r hw
  obtain ⟨a, xs, e1, hq, hl, hw⟩ := hw
  subst e1
  cases r
  obtain ⟨its, rv, ht, hz⟩ := I.tuple hq
  refine assign_Tuple_tuple (I.ok.hd hc) ht (by simp [hn, ← hl, rv.length]) hst fun h' hx => ?_
  have I1 : Inv X pins σ H { s with heap := h' } := I.kept (t' := s.toks) fun b o e => hx b o (Nat.ne_of_lt (Heap.lt_size e)) e
  exact h pins _ σ H xs _ Q I1 (by simpa using rv) hw
def gSub (to ti : TE) (t : TSet) : TG := fun v σ H Q => to σ H fun o H1 => ti σ H1 fun i H2 => t o i v H2 fun H3 => Q σ H3
theorem pg_sub {o i : Expr} {to ti : TE} {t : TSet} (ho : PE X o to) (hi : PE X i ti) (hs : PSet X t)
    (ha : ∀ v, assign (.Subscript o i pos) X.env v = (do
      let ov ← holding [v] (eval o X.env)
      let iv ← holding [v, ov] (eval i X.env)
      standAt pos
      holding [v, ov, iv] (setItem ov iv v)
      release [v, ov, iv] []) := by intro _; rfl) : PG X (.Subscript o i pos) (gSub to ti t) := by
  intro pins s σ H v u Q I r h
  rw [ha]
  refine wpAny_bind (wpAny_holding (thn (ho pins s σ H _ I h) fun ov s1 ⟨x, H1, I1, r1, q1⟩ => ?_))
  refine wpAny_bind (wpAny_holding (thn (hi pins s1 σ H1 _ I1 q1) fun iv s2 ⟨y, H2, I2, r2, q2⟩ => ?_))
  refine wpAny_bind (wpAny_standAt (wpAny_bind (wpAny_holding (thn (hs pins s2 σ H2 x y v ov iv u _ I2 r1 r2 r q2) fun _ s3 ⟨H3, I3, q3⟩ => ?_))))
  exact wpAny_release ⟨σ, H3, I3, q3⟩
def tAsg (te : TE) (g : TG) : TS := fun D σ H => te σ H fun x H1 => g x σ H1 D.nx
theorem ps_asg {tg e : Expr} {te : TE} {g : TG} (he : PE X e te) (hg : PG X tg g) (hs : swapsWithSole [tg] e pos.line X.env = pure false := by rfl) (hw : swappedStores [tg] e X.env = pure none := by rfl)
    (h1 : (assignEach [tg] X.env).map (·.2) = [assign tg X.env] := by rfl) : PS X (.Assign [tg] e pos) (tAsg te g) := by
  intro pins s σ H D I h
  refine wpAny_Assign_stores (thn (he pins s σ H _ I h) fun v s1 ⟨x, H1, I1, r1, q1⟩ => ?_) hs hw
  rw [h1]
  exact thn (hg pins s1 σ H1 x v _ I1 r1 q1) fun _ s2 q => q
theorem ps_set {i : Nat} {x : Str} {e : Expr} {te : TE} {pos' : Pos} (hN : X.N.Nodup) (hi : X.N[i]? = some x) (hx : Loc X.env.scope x) (he : PE X e te) (hs : swapsWith e (some (.Name x pos')) pos.line X.env = pure false := by rfl) (hf : X.fn x = true ∨ X.env.scope.names.lookup x = some .local := by first | exact .inl rfl | exact .inr rfl | assumption) :
    PS X (.Assign [.Name x pos'] e pos) (tAsg te (gName i)) := by
  intro pins s σ H D I h
  refine wpAny_Assign_Name (thn (he pins s σ H _ I h) fun v s1 ⟨y, H1, I1, r1, q1⟩ => ?_) hs
  exact store_ok I1 hN hi hx r1 (fun s2 I2 => ⟨_, H1, I2, q1⟩) hf
def tPar (i j : Nat) (ta : TA) : TS := fun D σ H => ta σ H fun vs H1 => ∃ v w, vs = [v, w] ∧ D.nx ((σ.set i (some v)).set j (some w)) H1
theorem ps_par {i j : Nat} {x y : Str} {a b : Expr} {ta : TA} {px py pt : Pos} {kt k2 pt2} (hc : X.calm = true) (hN : X.N.Nodup) (hi : X.N[i]? = some x) (hj : X.N[j]? = some y) (hij : i ≠ j)
    (hx : X.env.scope.names.lookup x = some .local) (hy : X.env.scope.names.lookup y = some .local) (ha : PA X [a, b] ta)
    (hw : swappedStores [.Tuple [.Name x px, .Name y py] kt pt] (.Tuple [a, b] k2 pt2) X.env = pure (some [x, y]))
    (hs : swapsWithSole [.Tuple [.Name x px, .Name y py] kt pt] (.Tuple [a, b] k2 pt2) pos.line X.env = pure false := by rfl) :
    PS X (.Assign [.Tuple [.Name x px, .Name y py] kt pt] (.Tuple [a, b] k2 pt2) pos) (tPar i j ta) := by
  intro pins s σ H D I h
  rw [exec_Assign_arm]
  refine wpAny_bind (wpAny_standAt ?_)
  rw [hs]
  refine wpAny_bind (wpAny_pure ?_)
  rw [if_neg (by decide)]
  refine wpAny_bind (Tuple_ (thn (ha _ pins s σ H _ I h) fun us s1 ⟨vs, H1, I1, r1, q1⟩ => ?_))
  obtain ⟨v, w, e1, q1⟩ := q1
  subst e1
  obtain ⟨u1, u2, rfl, rv, rw'⟩ : ∃ u1 u2, us = [u1, u2] ∧ RelV v u1 ∧ RelV w u2 := by
    cases r1 with
    | cons p q =>
      cases q with
      | cons p' q' =>
        cases q'
        exact ⟨_, _, rfl, p, p'⟩
  refine wpAny_newObj_type ?_ (by show 2 ≤ sizeLine; decide)
  have I2 : Inv X pins σ H1 { s1 with heap := s1.heap.push { cls := .type "tuple", data := .seq [u1, u2].toArray } } := I1.kept (t' := s1.toks) fun b o e => Heap.get?_push_of_some _ e
  rw [hw]
  refine wpAny_bind (wpAny_pure ?_)
  show wpAny (model X.prog X.w) X.A (do rule "assign.swapped-stores"; let items ← unpackItems (.ref s1.heap.objs.size) 2 none; assignInOrder [fun v => bindName X.env y v, fun v => bindName X.env x v] items.reverse; pure Flow.next) _ _ _
  refine wpAny_bind (wpAny_rule (wpAny_bind (unpackItems_tuple (items := #[u1, u2]) (I.ok.hd hc) (IsTup.new s1.heap _) fun h' hx' => ?_)))
  have I3 := I2.kept (h' := h') (t' := s1.toks) fun b o e => hx' b o (Nat.ne_of_lt (Heap.lt_size e)) e
  show wpAny _ _ (assignInOrder [fun v => bindName X.env y v, fun v => bindName X.env x v] [u2, u1] >>= fun _ => pure Flow.next) _ _ _
  refine wpAny_bind (assignInOrder_cons (wpAny_bindName (store_ok I3 hN hj (.inl hy) rw' (fun s2 I4 => ?_) (.inr hy))))
  refine assignInOrder_cons (wpAny_bindName (store_ok I4 hN hi (.inl hx) rv (fun s3 I5 => assignInOrder_nil (wpAny_pure ?_)) (.inr hx)))
  rw [List.set_comm _ _ (Ne.symm hij)] at I5
  exact ⟨_, H1, I5, q1⟩
end
section
variable {X : Cx} {pos : Pos}
def tWhile (c : TT) (tb : TS) : TS := fun D σ H => ∃ W : Nat → St → Hp → Prop, (∃ m, W m σ H) ∧ ∀ m σ H, W m σ H →
  c σ H fun b H1 => if b = true then ∃ N : St → Hp → Prop, (∀ σ' H', N σ' H' → ∃ m', m' < m ∧ W m' σ' H') ∧ tb { D with nx := N, ct := N, bk := D.nx } σ H1 else D.nx σ H1
theorem ps_while {c : Expr} {body : List Stmt} {tc : TT} {tb : TS} (hp : PassesOwn (model X.prog X.w) X.A X.env X.xe) (hc : PT X c tc) (hb : PSs X body tb) : PS X (.While c body [] pos) (tWhile tc tb) := by
  intro pins s σ H D I h
  obtain ⟨W, ⟨m0, w0⟩, turn⟩ := h
  refine wpAny_While (codeAny_whileLoop (fun n s' => ∃ σ' H', Inv X pins σ' H' s' ∧ W n σ' H') ?_ m0 ⟨σ, H, I, w0⟩)
  rintro n s1 ⟨σ1, H1, I1, w1⟩
  refine wpAny_passesOwn hp (thn (hc pins s1 σ1 H1 _ I1 (turn n σ1 H1 w1)) fun b s2 ⟨H2, I2, q2⟩ => ?_)
  cases b with
  | true =>
    obtain ⟨N, hN, q2⟩ := q2
    rw [if_pos rfl]
    refine wpAny_passesOwn hp (thn (hb pins s2 σ1 H2 _ I2 q2) fun f s3 q3 => ?_)
    cases f with
    | next =>
      obtain ⟨σ3, H3, I3, n3⟩ := q3
      obtain ⟨m', hm, w3⟩ := hN σ3 H3 n3
      exact ⟨m', hm, σ3, H3, I3, w3⟩
    | cont =>
      obtain ⟨σ3, H3, I3, n3⟩ := q3
      obtain ⟨m', hm, w3⟩ := hN σ3 H3 n3
      exact ⟨m', hm, σ3, H3, I3, w3⟩
    | brk => exact q3
    | ret v => exact q3
  | false =>
    rw [if_neg Bool.false_ne_true]
    exact wpAny_execs_nil ⟨σ1, H2, I2, q2⟩
end
structure It where
  go : Nat → Hp → Prop
  yld : Nat → Hp → V → Hp → Prop
  stop : Nat → Hp → Prop
def FpOk (X : Cx) (pins : List (Addr × Obj)) (H : Hp) (b : Addr) : Prop :=
  H b = none ∧ b ≠ X.env.locals ∧ b ∉ X.fs ∧ (b ∈ X.ex ∨ X.s₀.heap.objs.size ≤ b) ∧ (∀ x c, X.env.cells.lookup x = some c → c ≠ b) ∧ ∀ p ∈ X.pn ++ pins, p.1 ≠ b
theorem Inv.fpOk {X : Cx} {pins : List (Addr × Obj)} {σ : St} {H H' : Hp} {s : Shared} {b : Addr} (I : Inv X pins σ H s) (hb : s.heap.objs.size ≤ b) (hn : H' b = none) : FpOk X pins H' b := by
  refine ⟨hn, Nat.ne_of_gt (Nat.lt_of_lt_of_le I.lt hb), I.nofs hb, .inr (Nat.le_trans I.sz hb), fun x c e z => ?_, fun p hp z => ?_⟩
  · obtain ⟨v, q⟩ := I.cell x c e
    exact absurd (Nat.lt_of_lt_of_le q.lt (by rw [z]; exact hb)) (Nat.lt_irrefl _)
  · exact absurd (Nat.lt_of_lt_of_le (Heap.lt_size (I.pin p hp).1) (by rw [z]; exact hb)) (Nat.lt_irrefl _)
structure Turn (P : Program) (w : World) (K : PySem.W.Frag) (tg : Expr) (J : It) (fp : List Addr) (it : Addr) (tn : Nat → Heap → Prop) : Prop where
  mem : it ∈ fp
  obj : ∀ i h, tn i h → ∀ b ∈ fp, ∃ o, h.get? b = some o ∧ ∀ v, o.data ≠ .cell v
  keep : ∀ i h h', tn i h → (∀ b ∈ fp, ∀ o, h.get? b = some o → h'.get? b = some o) → tn i h'
  item : ∀ (X : Cx), X.prog = P → X.w = w → X.K = K → X.calm = true → ∀ (i : Nat) (pins : List (Addr × Obj)) (s : Shared) (σ : St) (H : Hp) (E : Value → Shared → Prop), Inv X pins σ H s → (∀ b ∈ fp, FpOk X pins H b) → tn i s.heap → J.go i H →
    wpAny (model P w) X.A (pyNext (.ref it)) (fun r s1 => ∃ u, r = some u ∧
      wpAny (model P w) X.A (letOwnedTupleGo tg (.ref it) u) (fun _ s2 => ∃ x H', Inv X pins σ H' s2 ∧ RelV x u ∧ J.yld i H x H' ∧ tn (i + 1) s2.heap ∧ ∀ b ∈ fp, H' b = none) E s1) E s
  done : ∀ (X : Cx), X.prog = P → X.w = w → X.K = K → X.calm = true → ∀ (i : Nat) (pins : List (Addr × Obj)) (s : Shared) (σ : St) (H : Hp) (E : Value → Shared → Prop), Inv X pins σ H s → (∀ b ∈ fp, FpOk X pins H b) → tn i s.heap → J.stop i H →
    wpAny (model P w) X.A (pyNext (.ref it)) (fun r s1 => r = none ∧ Inv X pins σ H s1) E s
  self : ∀ (A : Around) (i : Nat) (s : Shared) (Q : Value → Shared → Prop) (E : Value → Shared → Prop), tn i s.heap → Q (.ref it) s → wpAny (model P w) A (pyIter (.ref it)) Q E s
abbrev TI := St → Hp → (It → Hp → Prop) → Prop
def PIE (X : Cx) (pins : List (Addr × Obj)) (σ : St) (tg : Expr) (R : It → Hp → Prop) (itv : Value) (s2 : Shared) : Prop :=
  ∃ (it : Addr) (fp : List Addr) (tn : Nat → Heap → Prop) (J : It) (H' : Hp), itv = .ref it ∧ Inv X pins σ H' s2 ∧ Turn X.prog X.w X.K tg J fp it tn ∧ tn 0 s2.heap ∧ (∀ b ∈ fp, FpOk X pins H' b) ∧ R J H'
def PI (X : Cx) (tg iter : Expr) (wi : TI) : Prop :=
  ∀ (pins : List (Addr × Obj)) (s : Shared) (σ : St) (H : Hp) (R : It → Hp → Prop), Inv X pins σ H s → wi σ H R →
    wpAny (model X.prog X.w) X.A (eval iter X.env) (fun v s1 => wpAny (model X.prog X.w) X.A (pyIter v) (PIE X pins σ tg R) X.xe s1) X.xe s
theorem go_of {M : Model} {A : Around} {E : Value → Shared → Prop} {s : Shared} {tg : Expr} {it : Addr} {u : Value} {o : Obj} {n : String} {vs : Array Value} {Q : Unit → Shared → Prop} (ho : s.heap.get? it = some o) (hc : o.cls = .type n) (hd : o.data = .fields vs)
    (hn : ["enumerate", "zip", "dict_itemiterator", "dict_reverseitemiterator", "odict_iterator", "itertools.zip_longest", "itertools.pairwise"].contains n = false) (hQ : Q () s) : wpAny M A (letOwnedTupleGo tg (.ref it) u) Q E s := by
  unfold letOwnedTupleGo
  cases tg <;> first
    | exact wpAny_pure hQ
    | (cases u <;> first
        | exact wpAny_pure hQ
        | (refine wpAny_bind (wpAny_load ho ?_)
           rw [hc, hd]
           show wpAny M A (if (["enumerate", "zip", "dict_itemiterator", "dict_reverseitemiterator", "odict_iterator", "itertools.zip_longest", "itertools.pairwise"].contains n && vs[0]? == some (rawInt _)) = true then _ else _) Q E s
           rw [if_neg (by intro h; rw [hn, Bool.false_and] at h; cases h)]
           exact wpAny_pure hQ))
def Itl (K : PySem.W.Frag) (a : Addr) : It :=
  ⟨fun i H => ∃ xs x, SqL K H a xs ∧ xs[i]? = some x, fun i H x H' => H' = H ∧ ∀ xs, SqL K H a xs → xs[i]? = some x, fun i H => ∃ xs, SqL K H a xs ∧ xs.length ≤ i⟩
def Itr (lo : Int) (n : Nat) : It := ⟨fun i _ => i < n, fun i H x H' => H' = H ∧ x = .int (lo + i), fun i _ => n ≤ i⟩
theorem turn_list {P : Program} {w : World} {K : PySem.W.Frag} {tg : Expr} (a it : Addr) : Turn P w K tg (Itl K a) [it] it (fun i h => h.IsListIter it a i) where
  mem := by simp
  obj := fun i h st b hb => by
    have e : b = it := by simpa using hb
    subst e
    obtain ⟨o, e, c, d⟩ := st
    exact ⟨o, e, fun v z => by rw [d] at z; cases z⟩
  keep := fun i h h' st k => st.at fun o e => k it (by simp) o e
  item := by
    intro X hP hw hK hc i pins s σ H E I hf st hg
    subst hP hw hK
    obtain ⟨xs, x, hq, hx⟩ := hg
    obtain ⟨its, rv, p, hz⟩ := I.list hq
    obtain ⟨u, hu, ru⟩ := rv.get hx
    obtain ⟨f0, f1, f2, f3, f4, f5⟩ := hf it (by simp)
    refine wpAny_pyNext_list_item st p.isList (x := u) (by simpa using hu) fun h' st' sb => ?_
    have I1 : Inv X pins σ H { s with heap := h' } := I.turned (t' := s.toks) (fun b o hb e => (sb.2 b hb).trans e) f0 f1 f3 f4 f5
    obtain ⟨o, e, c, d⟩ := id st'
    exact ⟨u, rfl, go_of (s := { s with heap := h' }) e c d (by decide) ⟨x, H, I1, ru, ⟨rfl, fun ys hy => by rw [I.list_inj hy hq]; exact hx⟩, st', fun b hb => (hf b hb).1⟩⟩
  done := by
    intro X hP hw hK hc i pins s σ H E I hf st hg
    subst hP hw hK
    obtain ⟨xs, hq, hx⟩ := hg
    obtain ⟨its, rv, p, hz⟩ := I.list hq
    obtain ⟨f0, f1, f2, f3, f4, f5⟩ := hf it (by simp)
    have hl := rv.length
    exact wpAny_pyNext_list_end (I.ok.hd hc) st p.isList (by simp; omega) fun h' eb => ⟨rfl, I.turned (t' := s.toks) (fun b o hb e => eb b o hb e) f0 f1 f3 f4 f5⟩
  self := fun _ _ _ _ _ st h => wpAny_pyIter_listiter st h
theorem turn_range {P : Program} {w : World} {K : PySem.W.Frag} {tg : Expr} (it : Addr) (lo : Int) (n : Nat) : Turn P w K tg (Itr lo n) [it] it (fun i h => IsRangeIter h it (lo + (i : Nat) * 1) ((n : Int) - (i : Nat)) 1) where
  mem := by simp
  obj := fun i h st b hb => by
    have e : b = it := by simpa using hb
    subst e
    exact ⟨_, st, fun v z => by
      have z' : Data.fields _ = Data.cell v := z
      cases z'⟩
  keep := fun i h h' st k => k it (by simp) _ st
  item := by
    intro X hP hw hK hc i pins s σ H E I hf st hg
    subst hP hw hK
    obtain ⟨f0, f1, f2, f3, f4, f5⟩ := hf it (by simp)
    have W := Walks.range (prog := X.prog) (w := X.w) (I.ok.hd hc) it lo 1 n
    refine W.item i s _ _ hg st fun v h' tk hv st' kk => ?_
    obtain ⟨t, rfl⟩ := hv
    have I1 : Inv X pins σ H { s with heap := h', toks := tk } := I.turned (fun b o hb e => kk b o (by simpa using hb) e) f0 f1 f3 f4 f5
    refine ⟨_, rfl, go_of (s := { s with heap := h', toks := tk }) (n := "range_iterator") st' rfl rfl (by decide) ⟨.int (lo + i), H, I1, ⟨t, ?_⟩, ⟨rfl, rfl⟩, st', fun b hb => (hf b hb).1⟩⟩
    rw [Int.mul_one]
  done := by
    intro X hP hw hK hc i pins s σ H E I hf st hg
    subst hP hw hK
    obtain ⟨f0, f1, f2, f3, f4, f5⟩ := hf it (by simp)
    exact wpAny_pyNext_range_end (I.ok.hd hc) st (by have : n ≤ i := hg; omega) fun h' eb => ⟨rfl, I.turned (t' := s.toks) (fun b o hb e => eb b o hb e) f0 f1 f3 f4 f5⟩
  self := fun _ _ _ _ _ st h => wpAny_pyIter_rangeiter st h
end L2
namespace L2
open PySem PySem.Spec PyProof.Rows
section
variable {X : Cx} {tg : Expr}
def iList (K : PySem.W.Frag) (tl : TE) : TI := fun σ H R => tl σ H fun x H1 => ∃ a, x = .ref a ∧ (∃ xs, SqL K H1 a xs) ∧ R (Itl K a) H1
theorem pi_list {l : Expr} {tl : TE} (hl : PE X l tl) : PI X tg l (iList X.K tl) := by
  intro pins s σ H R I h
  refine thn (hl pins s σ H _ I h) fun v s1 ⟨x, H1, I1, r1, q1⟩ => ?_
  obtain ⟨a, e, ⟨xs, hq⟩, q⟩ := q1
  subst e
  cases r1
  obtain ⟨its, rv, p, hz⟩ := I1.list hq
  refine wpAny_pyIter_list p.isList ?_
  refine ⟨s1.heap.objs.size, [s1.heap.objs.size], _, _, H1, rfl, I1.kept (t' := s1.toks) fun b o e => Heap.get?_push_of_some _ e, turn_list a _, ⟨_, Heap.get?_push_size _ rfl, rfl, rfl⟩, fun b hb => ?_, q⟩
  have e : b = s1.heap.objs.size := by simpa using hb
  subst e
  exact I1.fpOk (Nat.le_refl _) (I1.hok.fresh (Nat.le_refl _))
theorem range_it {pins : List (Addr × Obj)} {σ : St} {H : Hp} {s : Shared} {R : It → Hp → Prop} {E : Value → Shared → Prop} {lo hi : Int} {t u v : Tok} {tk : Nat} (I : Inv X pins σ H s) (h1 : -(2 ^ 62) ≤ lo) (h2 : lo < 2 ^ 62) (h3 : -(2 ^ 62) ≤ hi) (h4 : hi < 2 ^ 62)
    (q : R (Itr lo (hi - lo).toNat) H) : wpAny (model X.prog X.w) X.A (pyIter (.ref s.heap.objs.size)) (PIE X pins σ tg R) E { s with heap := s.heap.push { cls := .type "range", data := .fields #[.int lo t, .int hi u, .int 1 v] }, toks := tk } := by
  refine wpAny_pyIter_range (IsRange.new ..) (small_one h1 h2 h3 h4) ?_
  have I1 : Inv X pins σ H { s with heap := s.heap.push { cls := .type "range", data := .fields #[.int lo t, .int hi u, .int 1 v] }, toks := tk } := I.kept fun b o e => Heap.get?_push_of_some _ e
  refine ⟨(s.heap.push { cls := .type "range", data := .fields #[.int lo t, .int hi u, .int 1 v] }).objs.size, [(s.heap.push { cls := .type "range", data := .fields #[.int lo t, .int hi u, .int 1 v] }).objs.size], _, _, H, rfl,
    I1.kept (t' := tk) fun b o e => Heap.get?_push_of_some _ e, turn_range _ lo (hi - lo).toNat, ?_, fun b hb => ?_, q⟩
  · have e1 : lo + ((0 : Nat) : Int) * 1 = lo := by simp
    have e2 : (((hi - lo).toNat : Nat) : Int) - ((0 : Nat) : Int) = Builtin.Range.rangeSize lo hi 1 := by rw [rangeSize_one]; split <;> omega
    show IsRangeIter _ _ (lo + ((0 : Nat) : Int) * 1) ((((hi - lo).toNat : Nat) : Int) - ((0 : Nat) : Int)) 1
    rw [e1, e2]
    exact Heap.get?_push_size _ rfl
  · have e : b = (s.heap.push { cls := .type "range", data := .fields #[.int lo t, .int hi u, .int 1 v] }).objs.size := by simpa using hb
    subst e
    exact I1.fpOk (Nat.le_refl _) (I1.hok.fresh (Nat.le_refl _))
def iRng1 (ta : TA) : TI := fun σ H R => ta σ H fun vs H1 => ∃ j : Int, vs = [.int j] ∧ -(2 ^ 62) ≤ j ∧ j < 2 ^ 62 ∧ R (Itr 0 j.toNat) H1
def iRng2 (ta : TA) : TI := fun σ H R => ta σ H fun vs H1 => ∃ i j : Int, vs = [.int i, .int j] ∧ (-(2 ^ 62) ≤ i ∧ i < 2 ^ 62 ∧ -(2 ^ 62) ≤ j ∧ j < 2 ^ 62) ∧ R (Itr i (j - i).toNat) H1
theorem pi_range1 {a : Expr} {ta : TA} {p pos : Pos} (hg : Gl X "range") (hm : X.mg "range" = none) (ha : PA X [a] ta) (hs : starEach [a] X.env = [(false, eval a X.env)] := by rfl) : PI X tg (.Call (.Name "range" p) [a] [] pos) (iRng1 ta) := by
  intro pins s σ H R I h
  refine Call_ (ld_blt I hg hm boot_range (PyProof.Rows.callWith_type1 (thn (ha pos pins s σ H _ I h) fun us s1 ⟨vs, H1, I1, r1, q1⟩ => ?_) hs rfl))
  obtain ⟨j, e, q1, q2, q⟩ := q1
  subst e
  cases r1 with
  | cons r rr =>
    cases rr
    obtain ⟨t, rfl⟩ := r
    exact call_range_1 (range_it I1 (by omega) (by omega) q1 q2 (by simpa using q))
theorem pi_range2 {a b : Expr} {ta : TA} {p pos : Pos} (hg : Gl X "range") (hm : X.mg "range" = none) (ha : PA X [a, b] ta) (hs : starEach [a, b] X.env = [(false, eval a X.env), (false, eval b X.env)] := by rfl) (hs2 : starEach [b] X.env = [(false, eval b X.env)] := by rfl) :
    PI X tg (.Call (.Name "range" p) [a, b] [] pos) (iRng2 ta) := by
  intro pins s σ H R I h
  refine Call_ (ld_blt I hg hm boot_range (PyProof.Rows.callWith_type1 (thn (ha pos pins s σ H _ I h) fun us s1 ⟨vs, H1, I1, r1, q1⟩ => ?_) (by rw [hs, hs2]) (by rw [hs2]; rfl)))
  obtain ⟨i, j, e, ⟨q1, q2, q3, q4⟩, q⟩ := q1
  subst e
  cases r1 with
  | cons r rr =>
    cases rr with
    | cons r' rr =>
      cases rr
      obtain ⟨t, rfl⟩ := r
      obtain ⟨t', rfl⟩ := r'
      exact call_range_2 (range_it I1 q1 q2 q3 q4 q)
def tFor (wi : TI) (g : TG) (tb : TS) : TS := fun D σ H => wi σ H fun J H1 => ∃ W : Nat → Nat → St → Hp → Prop, (∃ m, W 0 m σ H1) ∧ ∀ i m σ H, W i m σ H →
  (J.stop i H ∧ D.nx σ H) ∨ (J.go i H ∧ ∃ N : St → Hp → Prop, (∀ σ' H', N σ' H' → ∃ m', m' < m ∧ W (i + 1) m' σ' H') ∧ ∀ x H', J.yld i H x H' → g x σ H' fun σ2 H2 => tb { D with nx := N, ct := N, bk := D.nx } σ2 H2)
def pinsAt (fp : List Addr) (h : Heap) : List (Addr × Obj) := fp.filterMap fun b => (h.get? b).map fun o => (b, o)
theorem mem_pinsAt {fp : List Addr} {h : Heap} {b : Addr} {o : Obj} (hb : b ∈ fp) (e : h.get? b = some o) : (b, o) ∈ pinsAt fp h := List.mem_filterMap.mpr ⟨b, hb, by rw [e]; rfl⟩
theorem of_pinsAt {fp : List Addr} {h : Heap} {p : Addr × Obj} (hp : p ∈ pinsAt fp h) : p.1 ∈ fp ∧ h.get? p.1 = some p.2 := by
  obtain ⟨b, hb, e⟩ := List.mem_filterMap.mp hp
  cases q : h.get? b with
  | none => rw [q] at e; cases e
  | some o =>
    rw [q] at e
    have e' : (b, o) = p := Option.some.inj e
    subst e'
    exact ⟨hb, q⟩
theorem Inv.pinned {pins : List (Addr × Obj)} {σ : St} {H : Hp} {s : Shared} {fp : List Addr} (I : Inv X pins σ H s) (hf : ∀ b ∈ fp, FpOk X pins H b) (ho : ∀ b ∈ fp, ∃ o, s.heap.get? b = some o ∧ ∀ v, o.data ≠ .cell v) : Inv X (pins ++ pinsAt fp s.heap) σ H s :=
  I.pins_of fun p hp => (List.mem_append.mp hp).elim (fun z => I.pin p (List.mem_append_right _ z)) fun z => by
    obtain ⟨hb, e⟩ := of_pinsAt z
    obtain ⟨f0, f1, f2, _⟩ := hf p.1 hb
    obtain ⟨o, e', d⟩ := ho p.1 hb
    rw [e] at e'; cases e'
    exact ⟨e, f0, f1, f2, d⟩
theorem Inv.unpinned {pins pl : List (Addr × Obj)} {σ : St} {H : Hp} {s : Shared} (I : Inv X (pins ++ pl) σ H s) : Inv X pins σ H s := I.pins_of fun p hp => I.pin p (List.mem_append_right _ (List.mem_append_left _ hp))
theorem ps_for {iter : Expr} {body : List Stmt} {wi : TI} {g : TG} {tb : TS} {pos : Pos} (hp : PassesOwn (model X.prog X.w) X.A X.env X.xe) (hc : X.calm = true) (hi : PI X tg iter wi) (hg : PG X tg g) (hb : PSs X body tb)
    (hs : ∀ x, foldedSetIterable iter X.env x = pure x := by intro _; rfl) : PS X (.For tg iter body [] pos) (tFor wi g tb) := by
  intro pins s σ H D I h
  refine wpAny_For (thn (hi pins s σ H _ I h) fun v s1 h1 => thn h1 fun itv s2 h2 => ?_) hs
  obtain ⟨it, fp, tn, J, H2, e, I2, T, st2, f2, W, ⟨m0, w0⟩, turn⟩ := h2
  subst e
  have stat : ∀ {H' : Hp}, (∀ b ∈ fp, H' b = none) → ∀ b ∈ fp, FpOk X pins H' b := fun hn b hb => ⟨hn b hb, (f2 b hb).2⟩
  refine codeAny_forLoop_any (fun n s' => ∃ i σ' H', Inv X pins σ' H' s' ∧ tn i s'.heap ∧ (∀ b ∈ fp, H' b = none) ∧ W i n σ' H') ?_ m0 ⟨0, σ, H2, I2, st2, fun b hb => (f2 b hb).1, w0⟩
  rintro n s3 ⟨i, σ3, H3, I3, st3, fr3, w3⟩
  rcases turn i n σ3 H3 w3 with ⟨stop, qn⟩ | ⟨go, N, hN, step⟩
  · refine wpAny_passesOwn hp (thn (T.done X rfl rfl rfl hc i pins s3 σ3 H3 X.xe I3 (stat fr3) st3 stop) fun r s4 ⟨hr, I4⟩ => ?_)
    subst hr
    exact wpAny_execs_nil ⟨σ3, H3, I4, qn⟩
  · refine wpAny_passesOwn hp (thn (T.item X rfl rfl rfl hc i pins s3 σ3 H3 X.xe I3 (stat fr3) st3 go) fun r s4 ⟨u, hr, h4⟩ => ?_)
    subst hr
    refine wpAny_passesOwn hp (thn h4 fun _ s5 ⟨x, H5, I5, r5, y5, st5, fr5⟩ => ?_)
    have I5' := I5.pinned (stat fr5) (T.obj _ _ st5)
    refine wpAny_passesOwn hp (thn (hg _ s5 σ3 H5 x u _ I5' r5 (step x H5 y5)) fun _ s6 ⟨σ6, H6, I6, q6⟩ => ?_)
    refine wpAny_passesOwn hp (thn (hb _ s6 σ6 H6 _ I6 q6) fun f s7 q7 => ?_)
    have again : ∀ {σ7 : St} {H7 : Hp}, Inv X (pins ++ pinsAt fp s5.heap) σ7 H7 s7 → N σ7 H7 → ∃ m, m < n ∧ ∃ i σ' H', Inv X pins σ' H' s7 ∧ tn i s7.heap ∧ (∀ b ∈ fp, H' b = none) ∧ W i m σ' H' := fun {σ7 H7} I7 n7 => by
      obtain ⟨m', hm, w7⟩ := hN σ7 H7 n7
      refine ⟨m', hm, i + 1, σ7, H7, I7.unpinned, T.keep _ _ _ st5 fun b hb o e => (I7.pin (b, o) (List.mem_append_right _ (List.mem_append_right _ (mem_pinsAt hb e)))).1, fun b hb => ?_, w7⟩
      obtain ⟨o, e, d⟩ := T.obj _ _ st5 b hb
      exact (I7.pin (b, o) (List.mem_append_right _ (List.mem_append_right _ (mem_pinsAt hb e)))).2.1
    cases f with
    | next => obtain ⟨σ7, H7, I7, n7⟩ := q7; exact again I7 n7
    | cont => obtain ⟨σ7, H7, I7, n7⟩ := q7; exact again I7 n7
    | brk => obtain ⟨σ7, H7, I7, q7⟩ := q7; exact ⟨σ7, H7, I7.unpinned, q7⟩
    | ret v => obtain ⟨x7, σ7, H7, I7, r7, q7⟩ := q7; exact ⟨x7, σ7, H7, I7.unpinned, r7, q7⟩
end
theorem for_list {K : PySem.W.Frag} {a : Addr} {xs : List V} {g : TG} {tb : TS} {D : Ends} {σ : St} {H : Hp} (Pv : Nat → St → Hp → Prop) (h0 : Pv 0 σ H) (hl : ∀ i σ H, i ≤ xs.length → Pv i σ H → SqL K H a xs)
    (hs : ∀ i x σ H, xs[i]? = some x → Pv i σ H → g x σ H fun σ2 H2 => tb { D with nx := Pv (i + 1), ct := Pv (i + 1), bk := D.nx } σ2 H2) (hd : ∀ σ H, Pv xs.length σ H → D.nx σ H) :
    ∃ W : Nat → Nat → St → Hp → Prop, (∃ m, W 0 m σ H) ∧ ∀ i m σ H, W i m σ H →
      ((Itl K a).stop i H ∧ D.nx σ H) ∨ ((Itl K a).go i H ∧ ∃ N : St → Hp → Prop, (∀ σ' H', N σ' H' → ∃ m', m' < m ∧ W (i + 1) m' σ' H') ∧ ∀ x H', (Itl K a).yld i H x H' → g x σ H' fun σ2 H2 => tb { D with nx := N, ct := N, bk := D.nx } σ2 H2) := by
  refine ⟨fun i m σ H => m = xs.length - i ∧ i ≤ xs.length ∧ Pv i σ H, ⟨xs.length, by simp, Nat.zero_le _, h0⟩, ?_⟩
  rintro i m σ H ⟨rfl, hi, p⟩
  have q := hl i σ H hi p
  by_cases hlt : i < xs.length
  · refine .inr ⟨⟨xs, xs[i], q, by simp [hlt]⟩, Pv (i + 1), fun σ' H' p' => ⟨xs.length - (i + 1), by omega, rfl, hlt, p'⟩, fun x H' y => ?_⟩
    obtain ⟨e, y⟩ := y
    subst e
    exact hs i x σ _ (y xs q) p
  · have e : i = xs.length := by omega
    subst e
    exact .inl ⟨⟨xs, q, Nat.le_refl _⟩, hd σ H p⟩
theorem for_range {lo : Int} {n : Nat} {g : TG} {tb : TS} {D : Ends} {σ : St} {H : Hp} (Pv : Nat → St → Hp → Prop) (h0 : Pv 0 σ H)
    (hs : ∀ i σ H, i < n → Pv i σ H → g (.int (lo + i)) σ H fun σ2 H2 => tb { D with nx := Pv (i + 1), ct := Pv (i + 1), bk := D.nx } σ2 H2) (hd : ∀ σ H, Pv n σ H → D.nx σ H) :
    ∃ W : Nat → Nat → St → Hp → Prop, (∃ m, W 0 m σ H) ∧ ∀ i m σ H, W i m σ H →
      ((Itr lo n).stop i H ∧ D.nx σ H) ∨ ((Itr lo n).go i H ∧ ∃ N : St → Hp → Prop, (∀ σ' H', N σ' H' → ∃ m', m' < m ∧ W (i + 1) m' σ' H') ∧ ∀ x H', (Itr lo n).yld i H x H' → g x σ H' fun σ2 H2 => tb { D with nx := N, ct := N, bk := D.nx } σ2 H2) := by
  refine ⟨fun i m σ H => m = n - i ∧ i ≤ n ∧ Pv i σ H, ⟨n, by simp, Nat.zero_le _, h0⟩, ?_⟩
  rintro i m σ H ⟨rfl, hi, p⟩
  by_cases hlt : i < n
  · refine .inr ⟨hlt, Pv (i + 1), fun σ' H' p' => ⟨n - (i + 1), by omega, rfl, hlt, p'⟩, fun x H' y => ?_⟩
    obtain ⟨e, y⟩ := y
    subst e y
    exact hs i σ _ hlt p
  · have e : i = n := by omega
    subst e
    exact .inl ⟨Nat.le_refl _, hd σ H p⟩
end L2
namespace L2
open PySem PySem.Spec PyProof.Rows
abbrev R2 := V → V → Hp → VK → Prop
def OpR (X : Cx) (f : Value → Value → Sem Value) (r : R2) : Prop :=
  ∀ (pins : List (Addr × Obj)) (s : Shared) (σ : St) (H : Hp) (x y : V) (v u : Value) (Q : VK), Inv X pins σ H s → RelV x v → RelV y u → r x y H Q →
    wpAny (model X.prog X.w) X.A (f v u) (EP X pins σ Q) X.xe s
def UnR (X : Cx) (f : Value → Sem Value) (r : V → Hp → VK → Prop) : Prop :=
  ∀ (pins : List (Addr × Obj)) (s : Shared) (σ : St) (H : Hp) (x : V) (v : Value) (Q : VK), Inv X pins σ H s → RelV x v → r x H Q →
    wpAny (model X.prog X.w) X.A (f v) (EP X pins σ Q) X.xe s
def CallR (X : Cx) (f : Value) (r : List V → Hp → VK → Prop) : Prop :=
  ∀ (pins : List (Addr × Obj)) (s : Shared) (σ : St) (H : Hp) (xs : List V) (us : List Value) (Q : VK), Inv X pins σ H s → Vals xs us → r xs H Q →
    wpAny (model X.prog X.w) X.A (call f us) (EP X pins σ Q) X.xe s
def tOp (r : R2) (ta tb : TE) : TE := fun σ H Q => ta σ H fun x H1 => tb σ H1 fun y H2 => r x y H2 Q
def tUn (r : V → Hp → VK → Prop) (ta : TE) : TE := fun σ H Q => ta σ H fun x H1 => r x H1 Q
def rI (C : Int → Int → Prop) (g : Int → Int → V) : R2 := fun x y H Q => ∃ i j, x = .int i ∧ y = .int j ∧ C i j ∧ Q (g i j) H
def rI0 (g : Int → Int → V) : R2 := fun x y H Q => ∃ i j, x = .int i ∧ y = .int j ∧ Q (g i j) H
def rU (g : Int → V) : V → Hp → VK → Prop := fun x H Q => ∃ i, x = .int i ∧ Q (g i) H
section
variable {X : Cx} {a b c : Expr} {ta tb tc : TE} {pos : Pos}
theorem binT (ha : PE X a ta) (hb : PE X b tb) {pins : List (Addr × Obj)} {s : Shared} {σ : St} {H : Hp} {R : V → V → Hp → Prop} (I : Inv X pins σ H s)
    (h : ta σ H fun x H1 => tb σ H1 fun y H2 => R x y H2) {Q : Value → Shared → Prop} {f : Value → Value → Sem Value}
    (hf : ∀ v u s2 x y H2, Inv X pins σ H2 s2 → RelV x v → RelV y u → R x y H2 → wpAny (model X.prog X.w) X.A (f v u) Q X.xe s2) :
    wpAny (model X.prog X.w) X.A (eval a X.env) (fun v s₁ => wpAny (model X.prog X.w) X.A (eval b X.env) (fun u s₂ => wpAny (model X.prog X.w) X.A (f v u) Q X.xe s₂) X.xe s₁) X.xe s := by
  refine thn (ha pins s σ H _ I h) fun v s1 ⟨x, H1, I1, r1, q1⟩ => ?_
  refine thn (hb pins s1 σ H1 _ I1 q1) fun u s2 ⟨y, H2, I2, r2, q2⟩ => ?_
  exact hf v u s2 x y H2 I2 r1 r2 q2
theorem pe_op {op : Operator} {r : R2} (ho : OpR X (binaryOp op) r) (ha : PE X a ta) (hb : PE X b tb) : PE X (.BinOp a op b pos) (tOp r ta tb) := by
  intro pins s σ H Q I h
  exact wpAny_BinOp (binT ha hb I h fun v u s2 x y H2 I2 rx ry q => ho pins s2 σ H2 x y v u Q I2 rx ry q)
theorem pe_un {op : UnaryOp} {r : V → Hp → VK → Prop} (ho : UnR X (unaryOp op) r) (ha : PE X a ta) : PE X (.UnaryOp op a pos) (tUn r ta) := by
  intro pins s σ H Q I h
  exact UnaryOp_ (thn (ha pins s σ H _ I h) fun v s1 ⟨x, H1, I1, r1, q1⟩ => ho pins s1 σ H1 x v Q I1 r1 q1)
theorem opI {f : Value → Value → Sem Value} {C : Int → Int → Prop} {g : Int → Int → Int}
    (rule : ∀ (i j : Int) (t u : Tok) (s : Shared) (Q : Value → Shared → Prop) (E : Value → Shared → Prop), C i j → Q (.int (g i j) s.toks) { s with toks := s.toks + 1 } → wpAny (model X.prog X.w) X.A (f (.int i t) (.int j u)) Q E s) :
    OpR X f (rI C fun i j => .int (g i j)) := by
  intro pins s σ H x y v u Q I rx ry h
  obtain ⟨i, j, rfl, rfl, hc, q⟩ := h
  obtain ⟨t, rfl⟩ := rx
  obtain ⟨t', rfl⟩ := ry
  exact rule i j t t' s _ _ hc ⟨.int (g i j), H, I.tok _, ⟨_, rfl⟩, q⟩
theorem opI0 {f : Value → Value → Sem Value} {g : Int → Int → Int}
    (rule : ∀ (i j : Int) (t u : Tok) (s : Shared) (Q : Value → Shared → Prop) (E : Value → Shared → Prop), Q (.int (g i j) s.toks) { s with toks := s.toks + 1 } → wpAny (model X.prog X.w) X.A (f (.int i t) (.int j u)) Q E s) :
    OpR X f (rI0 fun i j => .int (g i j)) := by
  intro pins s σ H x y v u Q I rx ry h
  obtain ⟨i, j, rfl, rfl, q⟩ := h
  obtain ⟨t, rfl⟩ := rx
  obtain ⟨t', rfl⟩ := ry
  exact rule i j t t' s _ _ ⟨.int (g i j), H, I.tok _, ⟨_, rfl⟩, q⟩
theorem opB0 {f : Value → Value → Sem Value} {g : Int → Int → Bool}
    (rule : ∀ (i j : Int) (t u : Tok) (s : Shared) (Q : Value → Shared → Prop) (E : Value → Shared → Prop), Q (.bool (g i j)) s → wpAny (model X.prog X.w) X.A (f (.int i t) (.int j u)) Q E s) :
    OpR X f (rI0 fun i j => .bl (g i j)) := by
  intro pins s σ H x y v u Q I rx ry h
  obtain ⟨i, j, rfl, rfl, q⟩ := h
  obtain ⟨t, rfl⟩ := rx
  obtain ⟨t', rfl⟩ := ry
  exact rule i j t t' s _ _ ⟨.bl (g i j), H, I, rfl, q⟩
def CDiv (i j : Int) : Prop := 0 < j ∧ j < 1073741824
def CPow (i j : Int) : Prop := 0 ≤ j ∧ j ≤ 1000000 ∧ i.natAbs < 2 ^ 64
def CMul (i j : Int) : Prop := (-(2 ^ 64) < i ∧ i < 2 ^ 64) ∨ (-(2 ^ 64) < j ∧ j < 2 ^ 64)
theorem CMul.ok {i j : Int} (h : CMul i j) : IntMulOk i j := by
  rcases h with ⟨h1, h2⟩ | ⟨h1, h2⟩
  · exact .of_left (intBits_le_64 h1 h2)
  · exact .of_right (intBits_le_64 h1 h2)
theorem op_add : OpR X (binaryOp .Add) (rI0 fun i j => .int (i + j)) := opI0 fun _ _ _ _ _ _ _ q => add_int q
theorem op_sub : OpR X (binaryOp .Sub) (rI0 fun i j => .int (i - j)) := opI0 fun _ _ _ _ _ _ _ q => sub_int q
theorem op_fdiv : OpR X (binaryOp .FloorDiv) (rI CDiv fun i j => .int (i / j)) := opI fun i j _ _ _ _ _ hc q => by
  have h1 : (0 : Int) < j := hc.1
  have h2 : j < 1073741824 := hc.2
  exact floordiv_int (by omega) (by rw [Int.fdiv_eq_ediv_of_nonneg i (by omega)]; exact q) (.inl (PyProof.noPylong_small (by omega)))
theorem op_mod : OpR X (binaryOp .Mod) (rI (fun _ j => 0 < j) fun i j => .int (i % j)) := opI fun i j _ _ _ _ _ hc q => by
  have h1 : (0 : Int) < j := hc
  exact mod_int' (by omega) (by rw [Int.fmod_eq_emod_of_nonneg i (by omega)]; exact q)
theorem op_pow : OpR X (binaryOp .Pow) (rI CPow fun i j => .int (i ^ j.toNat)) := opI fun _ _ _ _ _ _ _ hc q => pow_int_small hc.1 hc.2.1 hc.2.2 q
theorem unI {f : Value → Sem Value} {g : Int → Int}
    (rule : ∀ (i : Int) (t : Tok) (s : Shared) (Q : Value → Shared → Prop) (E : Value → Shared → Prop), Q (.int (g i) s.toks) { s with toks := s.toks + 1 } → wpAny (model X.prog X.w) X.A (f (.int i t)) Q E s) :
    UnR X f (rU fun i => .int (g i)) := by
  intro pins s σ H x v Q I rx h
  obtain ⟨i, rfl, q⟩ := h
  obtain ⟨t, rfl⟩ := rx
  exact rule i t s _ _ ⟨.int (g i), H, I.tok _, ⟨_, rfl⟩, q⟩
theorem un_neg : UnR X (unaryOp .USub) (rU fun i => .int (-i)) := unI fun _ _ _ _ _ q => neg_int q
end
def scal : V → V → Bool
  | .non, .non => true | .non, .int _ => true | .int _, .non => true | .non, .bl _ => true | .bl _, .non => true | .non, .str _ => true | .str _, .non => true
  | .int _, .int _ => true | .bl _, .bl _ => true | .str _, .str _ => true | .byt _, .byt _ => true
  | .int _, .str _ => true | .str _, .int _ => true | .bl _, .str _ => true | .str _, .bl _ => true
  | _, _ => false
def rEq : R2 := fun x y H Q => scal x y = true ∧ Q (.bl (decide (x = y))) H
def rNe : R2 := fun x y H Q => scal x y = true ∧ Q (.bl (!decide (x = y))) H
theorem dec_int {i j : Int} : decide (V.int i = V.int j) = (i == j) := by
  rw [Bool.eq_iff_iff]
  simp
theorem dec_bl {i j : Bool} : decide (V.bl i = V.bl j) = (i == j) := by
  rw [Bool.eq_iff_iff]
  simp
theorem dec_str {i j : Str} : decide (V.str i = V.str j) = (i == j) := by
  rw [Bool.eq_iff_iff]
  simp
theorem dec_byt {i j : Array UInt8} : decide (V.byt i = V.byt j) = (i.toList == j.toList) := by
  rw [Bool.eq_iff_iff]
  cases i
  cases j
  simp
section
variable {X : Cx} {a b c : Expr} {ta tb tc : TE} {pos : Pos}
theorem fin_bl {pins : List (Addr × Obj)} {σ : St} {H : Hp} {s : Shared} {Q : VK} {k k' : Bool} (I : Inv X pins σ H s) (q : Q (.bl k) H) (e : k = k') : EP X pins σ Q (.bool k') s := by
  subst e
  exact ⟨.bl k, H, I, rfl, q⟩
theorem op_eq : OpR X (compareOp .Eq) rEq := by
  intro pins s σ H x y v u Q I rx ry h
  obtain ⟨hs, q⟩ := h
  cases x with
  | non =>
    cases rx
    cases y with
    | non => cases ry; exact PySem.EqNone.eq_none_none (fin_bl I q (by simp))
    | bl j => cases ry; exact PySem.EqNone.eq_none_bool (fin_bl I q (by simp))
    | int j => obtain ⟨t', rfl⟩ := ry; exact PySem.EqNone.eq_none_int (fin_bl I q (by simp))
    | str j => obtain ⟨t', rfl⟩ := ry; exact PySem.EqNone.eq_none_str (fin_bl I q (by simp))
    | _ => exact absurd (show false = true from hs) Bool.false_ne_true
  | bl i =>
    cases rx
    cases y with
    | non => cases ry; exact PySem.EqNone.eq_bool_none (fin_bl I q (by simp))
    | bl j => cases ry; exact eq_bool (fin_bl I q dec_bl)
    | str j => obtain ⟨t', rfl⟩ := ry; exact PySem.EqMixed.eq_bool_str (fin_bl I q (by simp))
    | _ => exact absurd (show false = true from hs) Bool.false_ne_true
  | int i =>
    obtain ⟨t, rfl⟩ := rx
    cases y with
    | non => cases ry; exact PySem.EqNone.eq_int_none (fin_bl I q (by simp))
    | int j => obtain ⟨t', rfl⟩ := ry; exact eq_int (fin_bl I q dec_int)
    | str j => obtain ⟨t', rfl⟩ := ry; exact PySem.EqMixed.eq_int_str (fin_bl I q (by simp))
    | _ => exact absurd (show false = true from hs) Bool.false_ne_true
  | str i =>
    obtain ⟨t, rfl⟩ := rx
    cases y with
    | non => cases ry; exact PySem.EqNone.eq_str_none (fin_bl I q (by simp))
    | bl j => cases ry; exact PySem.EqMixed.eq_str_bool (fin_bl I q (by simp))
    | int j => obtain ⟨t', rfl⟩ := ry; exact PySem.EqMixed.eq_str_int (fin_bl I q (by simp))
    | str j => obtain ⟨t', rfl⟩ := ry; exact eq_str (fin_bl I q dec_str)
    | _ => exact absurd (show false = true from hs) Bool.false_ne_true
  | byt i =>
    obtain ⟨t, rfl⟩ := rx
    cases y with
    | byt j => obtain ⟨t', rfl⟩ := ry; exact PySem.W.eq_bytes (fin_bl I q dec_byt)
    | _ => exact absurd (show false = true from hs) Bool.false_ne_true
  | _ => cases y <;> exact absurd (show false = true from hs) Bool.false_ne_true
theorem op_ne : OpR X (compareOp .NotEq) rNe := by
  intro pins s σ H x y v u Q I rx ry h
  obtain ⟨hs, q⟩ := h
  cases x with
  | non =>
    cases rx
    cases y with
    | non => cases ry; exact PySem.EqNone.ne_none_none (fin_bl I q (by simp))
    | bl j => cases ry; exact PySem.EqNone.ne_none_bool (fin_bl I q (by simp))
    | int j => obtain ⟨t', rfl⟩ := ry; exact PySem.EqNone.ne_none_int (fin_bl I q (by simp))
    | str j => obtain ⟨t', rfl⟩ := ry; exact PySem.EqNone.ne_none_str (fin_bl I q (by simp))
    | _ => exact absurd (show false = true from hs) Bool.false_ne_true
  | bl i =>
    cases rx
    cases y with
    | non => cases ry; exact PySem.EqNone.ne_bool_none (fin_bl I q (by simp))
    | bl j => cases ry; exact ne_bool (fin_bl I q (congrArg not dec_bl))
    | str j => obtain ⟨t', rfl⟩ := ry; exact PySem.EqMixed.ne_bool_str (fin_bl I q (by simp))
    | _ => exact absurd (show false = true from hs) Bool.false_ne_true
  | int i =>
    obtain ⟨t, rfl⟩ := rx
    cases y with
    | non => cases ry; exact PySem.EqNone.ne_int_none (fin_bl I q (by simp))
    | int j => obtain ⟨t', rfl⟩ := ry; exact ne_int (fin_bl I q (congrArg not dec_int))
    | str j => obtain ⟨t', rfl⟩ := ry; exact PySem.EqMixed.ne_int_str (fin_bl I q (by simp))
    | _ => exact absurd (show false = true from hs) Bool.false_ne_true
  | str i =>
    obtain ⟨t, rfl⟩ := rx
    cases y with
    | non => cases ry; exact PySem.EqNone.ne_str_none (fin_bl I q (by simp))
    | bl j => cases ry; exact PySem.EqMixed.ne_str_bool (fin_bl I q (by simp))
    | int j => obtain ⟨t', rfl⟩ := ry; exact PySem.EqMixed.ne_str_int (fin_bl I q (by simp))
    | str j => obtain ⟨t', rfl⟩ := ry; exact ne_str (fin_bl I q (congrArg not dec_str))
    | _ => exact absurd (show false = true from hs) Bool.false_ne_true
  | byt i =>
    obtain ⟨t, rfl⟩ := rx
    cases y with
    | byt j => obtain ⟨t', rfl⟩ := ry; exact PySem.W.ne_bytes (fin_bl I q (congrArg not dec_byt))
    | _ => exact absurd (show false = true from hs) Bool.false_ne_true
  | _ => cases y <;> exact absurd (show false = true from hs) Bool.false_ne_true
theorem op_lt : OpR X (compareOp .Lt) (rI0 fun i j => .bl (decide (i < j))) := opB0 fun _ _ _ _ _ _ _ q => lt_int q
theorem op_gt : OpR X (compareOp .Gt) (rI0 fun i j => .bl (decide (j < i))) := opB0 fun _ _ _ _ _ _ _ q => gt_int q
theorem nomark (b : Expr) {op : CmpOp} (h : op ≠ .In := by decide) (h2 : op ≠ .NotIn := by decide) : behindInMarks op b = false := by
  have e1 : (op == CmpOp.In) = false := by cases op <;> first | rfl | exact absurd rfl h
  have e2 : (op == CmpOp.NotIn) = false := by cases op <;> first | rfl | exact absurd rfl h2
  cases b <;> simp [behindInMarks, e1, e2]
theorem pe_cmpR {op : CmpOp} {r : R2} (ho : OpR X (compareOp op) r) (ha : PE X a ta) (hb : PE X b tb) (hm : behindInMarks op b = false) : PE X (.Compare a [op] [b] pos) (tOp r ta tb) := by
  intro pins s σ H Q I h
  exact wpAny_Compare1 (binT ha hb I h fun v u s2 x y H2 I2 rx ry q => ho pins s2 σ H2 x y v u Q I2 rx ry q) hm
def tTest (t : TE) : TT := fun σ H Q => t σ H fun x H' => ∃ k, x = .bl k ∧ Q k H'
theorem pt_cmpR {op : CmpOp} {r : R2} (ho : OpR X (compareOp op) r) (ha : PE X a ta) (hb : PE X b tb) (hm : behindInMarks op b = false) : PT X (.Compare a [op] [b] pos) (tTest (tOp r ta tb)) := by
  intro pins s σ H Q I h
  refine wpAny_isTrue_Compare1 (thn (ha pins s σ H _ I h) fun v s1 ⟨x, H1, I1, r1, q1⟩ => thn (hb pins s1 σ H1 _ I1 q1) fun u s2 ⟨y, H2, I2, r2, q2⟩ =>
    thn (ho pins s2 σ H2 x y v u _ I2 r1 r2 q2) fun c s3 ⟨z, H3, I3, r3, k, e, q3⟩ => ?_) hm
  subst e
  cases r3
  exact wpAny_truthy_bool ⟨H3, I3, q3⟩
theorem line63 : (sizeLine : Nat) < 2 ^ 63 := by rw [sizeLine_eq]; decide
theorem op_add_str : OpR X (binaryOp .Add) (fun x y H Q => ∃ i j, x = .str i ∧ y = .str j ∧ i.length + j.length ≤ sizeLine ∧ Q (.str (i ++ j)) H) := by
  intro pins s σ H x y v u Q I rx ry h
  obtain ⟨i, j, rfl, rfl, hz, q⟩ := h
  obtain ⟨t, rfl⟩ := rx
  obtain ⟨t', rfl⟩ := ry
  exact add_str (fun t' tk => ⟨.str (i ++ j), H, I.tok _, ⟨_, rfl⟩, q⟩) hz
theorem vals1 {x : V} {us : List Value} (r : Vals [x] us) : ∃ u, us = [u] ∧ RelV x u := by
  cases r with
  | cons r1 r2 => cases r2; exact ⟨_, rfl, r1⟩
theorem vals2 {x y : V} {us : List Value} (r : Vals [x, y] us) : ∃ u w', us = [u, w'] ∧ RelV x u ∧ RelV y w' := by
  cases r with
  | cons r1 r2 =>
    cases r2 with
    | cons r3 r4 => cases r4; exact ⟨_, _, rfl, r1, r3⟩
theorem call_abs : CallR X (.builtin "abs") (fun xs H Q => ∃ i, xs = [.int i] ∧ Q (.int (if i < 0 then -i else i)) H) := by
  intro pins s σ H xs us Q I r h
  obtain ⟨i, rfl, q⟩ := h
  obtain ⟨u, rfl, t, rfl⟩ := vals1 r
  exact call_abs_int fun u tk => ⟨.int (if i < 0 then -i else i), H, I.tok _, ⟨_, rfl⟩, q⟩
end
end L2
namespace L2
open PySem PySem.Spec PyProof.Rows
structure ObjM (h : Heap) (x dx C : Addr) (mA : Str → Option Value) : Prop where
  obj : h.get? x = some (PySem.W.instObj C dx)
  ns : h.Ns1 dx mA
  ne : dx ≠ x
theorem lookIn_ns {h : Heap} {dx : Addr} {mA : Str → Option Value} (n : h.Ns1 dx mA) : ∃ od, h.get? dx = some od ∧ ∀ name, PySem.W.lookIn name od = some (mA name) := by
  obtain ⟨o, es, ep, ho, hd, hk, _, hm⟩ := n
  refine ⟨o, ho, fun name => ?_⟩
  have e := hm name
  unfold nsFind findBy at e
  rw [← Array.find?_toList] at e
  unfold PySem.W.lookIn
  rw [hd]
  dsimp only
  split
  · rename_i y q
    rw [q] at e
    exact congrArg some e
  · rename_i q
    rw [q] at e
    have a : es.toList.any (·.refKey) = false := by
      rw [List.any_eq_false]
      intro y hy
      obtain ⟨z, t, hkey⟩ := hk y (Array.mem_toList_iff.mp hy)
      simp [DictEntry.refKey, hkey]
    have a' : ¬ es.toList.any (·.refKey) = true := by rw [a]; exact Bool.false_ne_true
    rw [if_neg a']
    exact congrArg some e
theorem ObjM.look {h : Heap} {x dx C : Addr} {mA : Str → Option Value} (I : ObjM h x dx C mA) : ∃ od, PySem.W.InstAt h x (PySem.W.instObj C dx) C (some od) ∧ ∀ name, PySem.W.lookIn name od = some (mA name) :=
  let ⟨od, ho, hl⟩ := lookIn_ns I.ns
  ⟨od, ⟨I.obj, rfl, rfl, ho⟩, hl⟩
section
variable {prog : Program} {w : World} {A : Around} {E : Value → Shared → Prop} {s : Shared} {K : PySem.W.Frag} {x dx C f : Addr} {mA : Str → Option Value} {name : Str} {v : Value}
end
theorem RelO.some_of {v : V} {o : Option Value} (r : RelO (some v) o) : ∃ u, o = some u ∧ RelV v u := by
  cases o with
  | none => exact (show False from r).elim
  | some u => exact ⟨u, rfl, r⟩
section
variable {P : Program} {w : World} {H H' : Hp} {h h' : Heap} {a C dx : Addr} {fs fs' : List (Str × V)}
theorem ins_get (hok : HOk P w H h) (e : H a = some (.ins C dx fs)) : ∃ mA, ObjM h a dx C mA ∧ (∀ f, RelO (fs.lookup f) (mA f)) ∧ PySem.Within mA (fs.map (·.1)) ∧ fs.length ≤ 1000 ∧ H dx = some (.own a) := by
  obtain ⟨d, z, ne, ob, mA, n, r, q⟩ := (show ObjOk P w H h a (.ins C dx fs) from hok a _ e)
  exact ⟨mA, ⟨ob, n, ne⟩, r, q, z, d⟩
end
structure Cls (K : PySem.W.Frag) (C : Addr) : Prop where
  pg : PySem.W.plainGet K C Str.empty = true
  hd : PySem.W.hasDictIn K C = true
  po : PySem.W.plainOver K C = true
  sa : PySem.W.findIn K (.ref C) "__setattr__" = some (some (.builtin "object.__setattr__"))
theorem Cls.get {K : PySem.W.Frag} {C : Addr} (c : Cls K C) (f : Str) : PySem.W.plainGet K C f = true := c.pg
structure Con (K : PySem.W.Frag) (C : Addr) (f : Str) (v : V) (u : Value) : Prop where
  at_ : PySem.W.findIn K (.ref C) f = some (some u)
  rel : RelV v u
  get : PySem.W.specialIn K u "__get__" = some none
  cp : PySem.W.copiedNames.contains f = false
structure Meth (K : PySem.W.Frag) (C : Addr) (m : Str) (f : Addr) : Prop where
  at_ : PySem.W.findIn K (.ref C) m = some (some (.ref f))
  fn : PySem.W.isFn K (.ref f) = true
  kp : PySem.W.keepIn K (.ref f) = true
section
variable {X : Cx} {pins : List (Addr × Obj)} {σ : St} {H : Hp} {s : Shared} {a C dx : Addr} {fs : List (Str × V)} {f : Str} {v : V} {A : Around} {E : Value → Shared → Prop}
end
section
variable {X : Cx} {o e value : Expr} {f : Str} {pos pos' tpos : Pos} {ta tv : TE}
end
section
variable {X : Cx} {pins : List (Addr × Obj)} {σ : St} {H : Hp} {s : Shared} {A : Around} {E : Value → Shared → Prop} {Q : Value → Shared → Prop} {c : Value} {b : Bool}
inductive TyOf (K : PySem.W.Frag) (H : Hp) : V → Value → Prop where
  | non : TyOf K H .non (.type "NoneType")
  | bl (x : Bool) : TyOf K H (.bl x) (.type "bool")
  | int (i : Int) : TyOf K H (.int i) (.type "int")
  | str (x : Str) : TyOf K H (.str x) (.type "str")
  | flt (x : UInt64) : TyOf K H (.flt x) (.type "float")
  | lst {a : Addr} {xs : List V} (e : H a = some (.lst xs)) : TyOf K H (.ref a) (.type "list")
  | frz {a : Addr} {o : Obj} {xs : List V} (e : H a = some (.frz o (.lst xs))) : TyOf K H (.ref a) (.type "list")
  | tup {a : Addr} {xs : List V} (e : H a = some (.tup xs)) : TyOf K H (.ref a) (.type "tuple")
  | dK {a : Addr} {kvs : List (Key × V)} (e : H a = some (.dK kvs)) : TyOf K H (.ref a) (.type "dict")
  | dT {a : Addr} {kvs : List (List Key × V)} (e : H a = some (.dT kvs)) : TyOf K H (.ref a) (.type "dict")
  | ins {a C dx : Addr} {fs : List (Str × V)} (e : H a = some (.ins C dx fs)) (cl : Cls K C) (ha : PySem.W.findIn K (.ref C) "__class__" = some (some (.builtin "object.__class__")))
      (hn : PySem.W.specialIn K (.builtin "object.__class__") "__get__" = some (some (.builtin "getset_descriptor.__get__"))) (htk : PySem.W.takesIn K (.builtin "object.__class__") = some true)
      (hm : PySem.W.mroIn K C (.type "object") = some true) : TyOf K H (.ref a) (.ref C)
theorem isinst_ok {x : V} {u t : Value} (I : Inv X pins σ H s) (rx : RelV x u) (ty : TyOf X.K H x t) (e : PySem.W.kitOne X.K t c = some b) (h : ∀ tk, Q (.bool b) { s with toks := tk }) :
    wpAny (model X.prog X.w) A (call (.builtin "isinstance") [u, c]) Q E s := by
  cases ty with
  | non => cases (show u = Value.none from rx); exact PySem.W.kia_one PySem.W.kitx_none I.kIn True.intro e (fun z => nomatch z) h
  | bl y => cases (show u = Value.bool y from rx); exact PySem.W.kia_one PySem.W.kitx_bool I.kIn True.intro e (fun z => nomatch z) h
  | int i => obtain ⟨t, q⟩ := (show ∃ t, u = Value.int i t from rx); cases q; exact PySem.W.kia_one PySem.W.kitx_int I.kIn True.intro e (fun z => nomatch z) h
  | str y => obtain ⟨t, q⟩ := (show ∃ t, u = Value.str y t from rx); cases q; exact PySem.W.kia_one PySem.W.kitx_str I.kIn True.intro e (fun z => nomatch z) h
  | flt y => obtain ⟨t, q⟩ := (show ∃ t, u = Value.float y t from rx); cases q; exact PySem.W.kia_one PySem.W.kitx_float I.kIn True.intro e (fun z => nomatch z) h
  | @lst a xs ea =>
    cases (show u = Value.ref a from rx)
    obtain ⟨_, _, n, _, h1⟩ := (show ObjOk X.prog X.w H s.heap a (.lst xs) from I.hok a _ ea)
    exact PySem.W.kia_one PySem.W.kitx_list I.kIn ⟨_, h1, rfl⟩ e (fun z => nomatch z) h
  | @frz a ob xs ea =>
    cases (show u = Value.ref a from rx)
    obtain ⟨_, _, _, n, _, h1⟩ := (show ObjOk X.prog X.w H s.heap a (.frz ob (.lst xs)) from I.hok a _ ea)
    exact PySem.W.kia_one PySem.W.kitx_list I.kIn ⟨_, h1, rfl⟩ e (fun z => nomatch z) h
  | @tup a xs ea =>
    cases (show u = Value.ref a from rx)
    obtain ⟨_, _, _, p⟩ := (show ObjOk X.prog X.w H s.heap a (.tup xs) from I.hok a _ ea)
    obtain ⟨o, h1, h2, _⟩ := p
    exact PySem.W.kia_one PySem.W.kitx_tuple I.kIn ⟨o, h1, h2⟩ e (fun z => nomatch z) h
  | @dK a kvs ea =>
    cases (show u = Value.ref a from rx)
    obtain ⟨_, _, vs, _, p⟩ := (show ObjOk X.prog X.w H s.heap a (.dK kvs) from I.hok a _ ea)
    obtain ⟨o, es, ep, h1, h2, _⟩ := p
    exact PySem.W.kia_one PySem.W.kitx_dict I.kIn ⟨o, h1, h2.1⟩ e (fun z => nomatch z) h
  | @dT a kvs ea =>
    cases (show u = Value.ref a from rx)
    obtain ⟨_, _, xs, _, o, es, ep, h1, h2, _⟩ := (show ObjOk X.prog X.w H s.heap a (.dT kvs) from I.hok a _ ea)
    exact PySem.W.kia_one PySem.W.kitx_dict I.kIn ⟨o, h1, h2.1⟩ e (fun z => nomatch z) h
  | @ins a C dx fs ea cl ha hn htk hm =>
    cases (show u = Value.ref a from rx)
    obtain ⟨mA, O, _⟩ := ins_get I.hok ea
    obtain ⟨od, J, _⟩ := O.look
    exact PySem.W.kia_one (PySem.W.kitx_own (cl.get _) cl.hd ha hn htk hm) I.kIn J e (fun z => nomatch z) h
end
end L2
namespace L2
open PySem PySem.Spec PyProof.Rows
structure Room (k : Nat) (A : Around) : Prop where
  hd : A.handled = none
  dp : A.depth + 3 * k + 5 < recursionLimit
  un : A.units + 16 * k + 200 < cLine
theorem Room.mono {j k : Nat} {A : Around} (r : Room k A) (h : j ≤ k) : Room j A := ⟨r.hd, by have := r.dp; omega, by have := r.un; omega⟩
theorem Room.deeper {k : Nat} {A : Around} (r : Room (k + 1) A) (env : Env) : Room k (A.deeper env) :=
  ⟨r.hd, by have := r.dp; show A.depth + 1 + 3 * k + 5 < _; omega, by have := r.un; show A.units + 3 + 16 * k + 200 < _; omega⟩
theorem Room.in1 {k : Nat} {A : Around} (r : Room (k + 1) A) : Room k A.in1 :=
  ⟨r.hd, by have := r.dp; show A.depth + 3 * k + 5 < _; omega, by have := r.un; show A.units + 1 + 16 * k + 200 < _; omega⟩
theorem Room.depth {k : Nat} {A : Around} (r : Room k A) : A.depth < recursionLimit := by have := r.dp; omega
theorem Room.units {k : Nat} {A : Around} (r : Room k A) : A.units + 64 < cLine := by have := r.un; omega
def tNil : TA := fun _ H Q => Q [] H
def tCons (ta : TE) (tr : TA) : TA := fun σ H Q => ta σ H fun x H1 => tr σ H1 fun xs H2 => Q (x :: xs) H2
section
variable {X : Cx} {e : Expr} {es : List Expr} {te : TE} {t : TA} {pos : Pos}
theorem pa_nil : PA X [] tNil := fun _ _ _ _ H Q I h => Calls.spliced_nil ⟨[], H, I, .nil, h⟩
theorem pa_cons (ha : PE X e te) (hr : PA X es t) (hs : starEach (e :: es) X.env = (false, eval e X.env) :: starEach es X.env := by rfl) : PA X (e :: es) (tCons te t) := by
  intro pos pins s σ H Q I h
  rw [hs]
  show wpAny _ _ (spliced ((false, eval e X.env) :: backTo pos (starEach es X.env))) _ _ s
  refine Calls.spliced_cons (thn (ha pins s σ H _ I h) fun u s1 ⟨x, H1, I1, r1, q1⟩ => ?_)
  exact thn (hr pos pins s1 σ H1 _ I1 q1) fun us s2 ⟨xs, H2, I2, r2, q2⟩ => ⟨x :: xs, H2, I2, .cons r1 r2, q2⟩
def tTup (t : TA) : TE := fun σ H Q => t σ H fun xs H1 => xs.length ≤ sizeLine ∧ ∀ p, H1 p = none → Q (.ref p) (upd H1 p (.tup xs))
def tLst (t : TA) : TE := fun σ H Q => t σ H fun xs H1 => xs.length ≤ sizeLine ∧ ∀ p, H1 p = none → Q (.ref p) (upd H1 p (.lst xs))
theorem pe_tup {x1} (h : PA X es t) : PE X (.Tuple es x1 pos) (tTup t) := by
  intro pins s σ H Q I hq
  refine wpAny_Tuple_spliced (thn (h pos pins s σ H _ I hq) fun us s1 ⟨xs, H1, I1, r, z, q⟩ => ⟨by rw [← r.length]; exact z, ?_⟩)
  have hf : H1 s1.heap.objs.size = none := I1.hok.fresh (Nat.le_refl _)
  refine ⟨.ref s1.heap.objs.size, upd H1 s1.heap.objs.size (.tup xs), I1.laid (t' := s1.toks) (fun b u e => Heap.get?_push_of_some _ e) (Nat.le_refl _) ?_, rfl, q _ hf⟩
  exact ⟨z, us, r, ⟨_, Heap.get?_push_size _ rfl, rfl, _, rfl⟩⟩
theorem pe_lst (h : PA X es t) : PE X (.List es pos) (tLst t) := by
  intro pins s σ H Q I hq
  refine wpAny_List_spliced (thn (h pos pins s σ H _ I hq) fun us s1 ⟨xs, H1, I1, r, z, q⟩ => ⟨by rw [← r.length]; exact z, ?_⟩)
  have hf : H1 s1.heap.objs.size = none := I1.hok.fresh (Nat.le_refl _)
  refine ⟨.ref s1.heap.objs.size, upd H1 s1.heap.objs.size (.lst xs), I1.laid (t' := s1.toks) (fun b u e => Heap.get?_push_of_some _ e) (Nat.le_refl _) ?_, rfl, q _ hf⟩
  exact ⟨z, us, 0, r, Heap.get?_push_size _ rfl⟩
end
abbrev Sp := List V → Hp → VK → XK → Prop
abbrev CXT := List Env → Hp → Shared → XK → Value → Shared → Prop
structure Env0 (P : Program) (w : World) (K : PySem.W.Frag) (mg : Str → Option Value) (base : Heap) (A : Around) (outer : List Env) (s : Shared) (H : Hp) : Prop where
  frames : A.frames = some outer
  mod : Mod K mg base
  bs : ∀ b o, base.get? b = some o → s.heap.get? b = some o ∧ H b = none
  bsz : base.objs.size ≤ s.heap.objs.size
  funs : s.heap.FunFrames base outer
  frf : ∀ b ∈ frs outer, H b = none
  hok : HOk P w H s.heap
  bare : AllBare s.gens
def CE (outer : List Env) (P : Program) (w : World) (H : Hp) (s : Shared) (Q : VK) (u : Value) (s' : Shared) : Prop :=
  ∃ v H', s'.os = s.os ∧ AllBare s'.gens ∧ Un (frs outer) [] H H' s.heap s'.heap ∧ HOk P w H' s'.heap ∧ RelV v u ∧ Q v H'
def CR (CX : CXT) (outer : List Env) (P : Program) (w : World) (H : Hp) (s : Shared) (Q : VK) (E : XK) (r : Result) (s' : Shared) : Prop :=
  match r with
  | .ok (.ret u) => CE outer P w H s Q u s'
  | .ok _ => False
  | .error e => CX outer H s E e s'
structure FnOk (P : Program) (w : World) (K : PySem.W.Frag) (mg : Str → Option Value) (base : Heap) (CX : CXT) (k : Nat) (f : Addr) (fd : FuncData) (ps : List Str) (sp : Sp) : Prop where
  len : ∀ vs H Q E, sp vs H Q E → vs.length = ps.length
  run : ∀ (A : Around) (outer : List Env) (s : Shared) (H : Hp) (args : Args) (us : List Value) (vs : List V) (Q : VK) (E : XK), Room k A → Env0 P w K mg base A outer s H → BindsTo s fd args (ps.zip us) → Vals vs us → sp vs H Q E →
    codeAny (model P w) A (.call (.ref f) args) (CR CX outer P w H s Q E) s
theorem FnOk.mono {P : Program} {w : World} {K : PySem.W.Frag} {mg : Str → Option Value} {base : Heap} {CX : CXT} {j k : Nat} {f : Addr} {fd : FuncData} {ps : List Str} {sp : Sp} (F : FnOk P w K mg base CX j f fd ps sp) (h : j ≤ k) :
    FnOk P w K mg base CX k f fd ps sp := ⟨F.len, fun A outer s H args us vs Q E hr => F.run A outer s H args us vs Q E (hr.mono h)⟩
theorem Env0.in1 {P : Program} {w : World} {K : PySem.W.Frag} {mg : Str → Option Value} {base : Heap} {A : Around} {outer : List Env} {s : Shared} {H : Hp} (e : Env0 P w K mg base A outer s H) :
    Env0 P w K mg base A.in1 outer s H := ⟨e.frames, e.mod, e.bs, e.bsz, e.funs, e.frf, e.hok, e.bare⟩
section
variable {X : Cx} {pins : List (Addr × Obj)} {σ : St} {H : Hp} {s s' : Shared}
theorem Inv.env0 (I : Inv X pins σ H s) : Env0 X.prog X.w X.K X.mg X.base X.A X.stack s H :=
  ⟨I.ok.frames, I.ok.mod, I.bs, Nat.le_trans I.ok.bsz I.sz, I.stack, I.stkFree, I.hok, I.bare⟩
theorem Inv.after {Q : VK} {u : Value} (I : Inv X pins σ H s) (h : CE X.stack X.prog X.w H s Q u s') : EP X pins σ Q u s' := by
  obtain ⟨v, H', os, bare, un, hok, r, q⟩ := h
  obtain ⟨hh, g, d, t, os'⟩ := s'
  obtain rfl : os' = s.os := os
  exact ⟨v, H', I.call (h' := hh) (g' := g) (d' := d) (t' := t) (ch := []) un hok bare (fun b z => absurd z (by simp)), r, q⟩
end
def tCall (sp : Sp) (dvs : List V) (E : XK) (t : TA) : TE := fun σ H Q => t σ H fun vs H1 => sp (vs ++ dvs) H1 Q E
def Binds (K : PySem.W.Frag) (fd : FuncData) (ps : List Str) (ds : List Value) : Prop :=
  ∀ (s : Shared) (us : List Value), K.In s.heap → (us ++ ds).length = ps.length → BindsTo s fd ⟨us, []⟩ (ps.zip (us ++ ds))
theorem Binds.all {K : PySem.W.Frag} {fd : FuncData} {ps : List Str} (h : ∀ us : List Value, us.length = ps.length → bindArgs fd ⟨us, []⟩ = pure (ps.zip us)) : Binds K fd ps [] := fun s us _ hl => by
  rw [List.append_nil] at hl ⊢
  exact .of_eq (h us hl)
def Passes (CX : CXT) (X : Cx) (E : XK) : Prop := ∀ (pins : List (Addr × Obj)) (σ : St) (H : Hp) (s : Shared) (e : Value) (s' : Shared), Inv X pins σ H s → CX X.stack H s E e s' → X.xe e s'
section
variable {X : Cx} {CX : CXT} {k : Nat} {f C : Addr} {fd : FuncData} {ps : List Str} {sp : Sp} {dvs : List V} {ds : List Value} {E : XK} {x m : Str} {p pos apos : Pos} {e o : Expr} {es : List Expr} {ta : TE} {t : TA}
theorem run_fn {pins : List (Addr × Obj)} {σ : St} {H : Hp} {s : Shared} {Q : VK} {us : List Value} {vs : List V} (F : FnOk X.prog X.w X.K X.mg X.base CX k f fd ps sp) (hr : Room k X.A) (hb : Binds X.K fd ps ds) (hd : Vals dvs ds) (hx : Passes CX X E)
    (I : Inv X pins σ H s) (r : Vals vs us) (h : sp (vs ++ dvs) H Q E) : wpAny (model X.prog X.w) X.A (call (.ref f) us) (EP X pins σ Q) X.xe s := by
  have r2 : Vals (vs ++ dvs) (us ++ ds) := r.append hd
  have hl : (us ++ ds).length = ps.length := by rw [← r2.length]; exact F.len _ _ _ _ h
  refine wpAny_call (codeAny_mono (F.run X.A X.stack s H ⟨us, []⟩ (us ++ ds) (vs ++ dvs) Q E hr I.env0 (hb s us I.kIn hl) r2 h) fun r s' hq => ?_)
  cases r with
  | error e => exact hx pins σ H s e s' I hq
  | ok fl =>
    cases fl with
    | ret u => exact I.after hq
    | next => exact False.elim hq
    | brk => exact False.elim hq
    | cont => exact False.elim hq
theorem pe_call (F : FnOk X.prog X.w X.K X.mg X.base CX k f fd ps sp) (hr : Room k X.A) (hg : Gl X x) (hm : X.mg x = some (.ref f)) (hk : PySem.W.keepIn X.K (.ref f) = true) (hb : Binds X.K fd ps ds) (hd : Vals dvs ds) (hx : Passes CX X E)
    (ha : PA X (e :: es) t) (hdb : (x == ("__debug__" : Str)) = false := by decide) (he : starEach (e :: es) X.env = (false, eval e X.env) :: starEach es X.env := by rfl) (hpl : (backTo pos (starEach es X.env)).any (·.1) = false := by rfl) :
    PE X (.Call (.Name x p) (e :: es) [] pos) (tCall sp dvs E t) := by
  intro pins s σ H Q I h
  refine wpAny_Call_Name_kw (ld_glob I hg hm ?_ hdb)
  refine PySem.W.callWith_K (h₀ := X.base) I.ok.mod.kin hk (thn (ha pos pins s σ H _ I h) fun us s1 ⟨vs, H1, I1, r, q⟩ => ⟨I1.kIn, ?_⟩) he hpl
  exact run_fn F hr hb hd hx I1 r q
structure Mk (K : PySem.W.Frag) (C f : Addr) : Prop where
  makes : PySem.W.makesIn K C = true
  init : PySem.W.findIn K (.ref C) "__init__" = some (some (.ref f))
  fn : PySem.W.isFn K (.ref f) = true
  kp : PySem.W.keepIn K (.ref C) = true
end
section
variable {X : Cx} {CX : CXT} {k : Nat} {f C : Addr} {fd : FuncData} {ps ks : List Str} {sp : Sp} {E : XK} {x m : Str} {p pos apos kpos : Pos} {e o : Expr} {es : List Expr} {kws : List Keyword} {te ta : TE} {t tk : TA} {nm : Option Str}
structure KBinds (K : PySem.W.Frag) (fd : FuncData) (ps ks : List Str) (g : List Value → List Value → List Value) (gV : List V → List V → List V) : Prop where
  to : ∀ (s : Shared) (us ws : List Value), K.In s.heap → (g us ws).length = ps.length → BindsTo s fd ⟨us, ks.zip ws⟩ (ps.zip (g us ws))
  rel : ∀ {vs : List V} {us : List Value} {zs : List V} {ws : List Value}, Vals vs us → Vals zs ws → Vals (gV vs zs) (g us ws)
variable {g : List Value → List Value → List Value} {gV : List V → List V → List V}
end
structure FnScope (N P : List Str) (sc : Scope) : Prop where
  kind : sc.kind = .function
  co : sc.isCoroutine = false
  gen : sc.isGenerator = false
  nd : N.Nodup
  pre : N.take P.length = P
  par : ∀ x ∈ P, sc.names.lookup x = some .local ∨ sc.names.lookup x = some .cell
  nofree : ∀ y ∈ sc.names, y.2 ≠ .free
theorem bindL_out {kindOf : Str → Option NameKind} {x : Str} : ∀ {binds : List (Str × Value)} {m : Str → Option Value}, (∀ v, (x, v) ∉ binds) → bindL kindOf binds m x = m x
  | [], _, _ => rfl
  | (n, v) :: r, m, h => by
    unfold bindL
    rw [bindL_out fun w hw => h w (List.mem_cons_of_mem _ hw)]
    split
    · have : x ≠ n := by rintro rfl; exact h v List.mem_cons_self
      simp [this]
    · rfl
theorem bindC_out {kindOf : Str → Option NameKind} {x : Str} : ∀ {binds : List (Str × Value)} {m : Str → Option Value}, (∀ v, (x, v) ∉ binds) → bindC kindOf binds m x = m x
  | [], _, _ => rfl
  | (n, v) :: r, m, h => by
    unfold bindC
    rw [bindC_out fun w hw => h w (List.mem_cons_of_mem _ hw)]
    split
    · rfl
    · have : x ≠ n := by rintro rfl; exact h v List.mem_cons_self
      simp [this]
theorem bindL_get {kindOf : Str → Option NameKind} {x : Str} {v : Value} : ∀ {P : List Str} {vs : List Value} {i : Nat} {m : Str → Option Value}, P.Nodup → P[i]? = some x → vs[i]? = some v → kindOf x = some .local →
    bindL kindOf (P.zip vs) m x = some v
  | [], _, _, _, _, h, _, _ => by simp at h
  | _ :: _, [], _, _, _, _, h, _ => by simp at h
  | p :: P, w :: vs, 0, m, nd, h1, h2, hk => by
    simp at h1 h2; subst h1; subst h2
    show bindL kindOf ((p, w) :: P.zip vs) m p = _
    unfold bindL
    rw [bindL_out fun v hv => (List.nodup_cons.mp nd).1 (List.of_mem_zip hv).1, if_pos hk]
    simp
  | p :: P, w :: vs, i + 1, m, nd, h1, h2, hk => by
    show bindL kindOf ((p, w) :: P.zip vs) m x = _
    unfold bindL
    exact bindL_get (i := i) (List.nodup_cons.mp nd).2 (by simpa using h1) (by simpa using h2) hk
theorem bindC_get {kindOf : Str → Option NameKind} {x : Str} {v : Value} : ∀ {P : List Str} {vs : List Value} {i : Nat} {m : Str → Option Value}, P.Nodup → P[i]? = some x → vs[i]? = some v → kindOf x ≠ some .local →
    bindC kindOf (P.zip vs) m x = some v
  | [], _, _, _, _, h, _, _ => by simp at h
  | _ :: _, [], _, _, _, _, h, _ => by simp at h
  | p :: P, w :: vs, 0, m, nd, h1, h2, hk => by
    simp at h1 h2; subst h1; subst h2
    show bindC kindOf ((p, w) :: P.zip vs) m p = _
    unfold bindC
    rw [bindC_out fun v hv => (List.nodup_cons.mp nd).1 (List.of_mem_zip hv).1, if_neg hk]
    simp
  | p :: P, w :: vs, i + 1, m, nd, h1, h2, hk => by
    show bindC kindOf ((p, w) :: P.zip vs) m x = _
    unfold bindC
    exact bindC_get (i := i) (List.nodup_cons.mp nd).2 (by simpa using h1) (by simpa using h2) hk
def start (N : List Str) (vs : List V) : St := vs.map some ++ List.replicate (N.length - vs.length) none
def cxOf (CX : CXT) (P : Program) (w : World) (K : PySem.W.Frag) (mg : Str → Option Value) (base : Heap) (N : List Str) (qual : Str) (scope : Scope) (f : Addr) (cd : Value) (A : Around) (outer : List Env) (s : Shared) (H : Hp) (E : XK) : Cx where
  prog := P
  w := w
  K := K
  mg := mg
  base := base
  A := A.deeper (envOfC qual scope s.heap.objs.size f cd)
  N := N
  s₀ := s
  H₀ := H
  env := envOfC qual scope s.heap.objs.size f cd
  outer := outer
  stack := envOfC qual scope s.heap.objs.size f cd :: outer
  ex := []
  calm := true
  fn := fun _ => true
  pn := []
  xe := fun e s' => wpAny (model P w) (A.deeper (envOfC qual scope s.heap.objs.size f cd)) (leaving (envOfC qual scope s.heap.objs.size f cd) e) (fun _ s'' => CX outer H s E e s'') (fun e' s'' => CX outer H s E e' s'') s'
theorem cell_has {sc : Scope} {n : Nat} {x : Str} (h : sc.names.lookup x = some .cell) : ∃ c, (cellsFrom n sc.names []).lookup x = some c := by
  have q := PySem.W.cellsFrom_some sc.names n [] (.inl h)
  exact Option.isSome_iff_exists.mp q
theorem inv_start {CX : CXT} {P : Program} {w : World} {K : PySem.W.Frag} {mg : Str → Option Value} {base : Heap} {N ps : List Str} {qual : Str} {scope : Scope} {f : Addr} {cd : Value} {A : Around} {outer : List Env} {s s1 : Shared} {H : Hp} {E : XK} {us : List Value} {vs : List V}
    (S : FnScope N ps scope) (hd : A.handled = none) (e0 : Env0 P w K mg base A outer s H) (hl : vs.length = ps.length) (r : Vals vs us)
    (x : InCallC s s.heap.objs.size (bindL (envOfC qual scope s.heap.objs.size f cd).kindOf (ps.zip us) fun _ => none) (cellsFrom (s.heap.objs.size + 1) scope.names []) (bindC (envOfC qual scope s.heap.objs.size f cd).kindOf (ps.zip us) fun _ => none) s1) :
    Inv (cxOf CX P w K mg base N qual scope f cd A outer s H E) [] (start N vs) H s1 := by
  have hpl : ps.length ≤ N.length := by have := congrArg List.length S.pre; rw [List.length_take] at this; omega
  obtain ⟨h1, tk, rfl, hk⟩ := x.done
  have noA : ∀ b : Addr, b ∉ (cxOf CX P w K mg base N qual scope f cd A outer s H E).ex := fun b z => absurd (show b ∈ ([] : List Addr) from z) (by simp)
  refine ⟨⟨e0.mod, S.kind, rfl, rfl, Nat.le_refl _, fun y z c h1 h2 => ?_, fun y hy => ?_, fun y c _ h => ?_, fun _ => hd, Around.frames_deeper e0.frames, .inr ⟨rfl, rfl⟩, fun b z => absurd z (noA b), e0.bs, e0.bsz, fun b _ _ => noA b, fun b z => absurd z (noA b), e0.funs, e0.frf⟩,
    rfl, e0.bare, Un.kept hk, ⟨_, x.toInCall.ns, fun i y v h1 h2 h3 => ?_⟩, fun y c h => ⟨_, x.cell y c h⟩, e0.hok.fresh (Nat.le_refl _), fun y c h => ?_, fun p hp => absurd (show p ∈ ([] : List (Addr × Obj)) from hp) (by simp), e0.hok.kept hk, ?_⟩
  · exact name_of_addr x.apart (PySem.mem_of_lookup h1) (PySem.mem_of_lookup h2)
  · have hy : scope.names.lookup y = some .cell ∨ scope.names.lookup y = some .free := hy
    rcases hy with hy | hy
    · exact cell_has hy
    · exact absurd rfl (S.nofree _ (PySem.mem_of_lookup hy))
  · exact Nat.le_of_lt (x.above y c (PySem.mem_of_lookup h))
  · have hi : i < vs.length := by
      unfold start at h2
      by_cases hi : i < vs.length
      · exact hi
      · rw [List.getElem?_append_right (by simpa using hi)] at h2
        rw [List.getElem?_replicate] at h2
        split at h2 <;> cases h2
    have ha : vs[i]? = some v := by
      unfold start at h2
      rw [List.getElem?_append_left (by simpa using hi), List.getElem?_map] at h2
      cases e : vs[i]? with
      | none => rw [e] at h2; cases h2
      | some a => rw [e] at h2; cases h2; rfl
    obtain ⟨u, hu, rv⟩ := r.get ha
    have hp : ps[i]? = some y := by
      rw [← S.pre, List.getElem?_take_of_lt (by omega)]; exact h1
    have ndP : ps.Nodup := by rw [← S.pre]; exact S.nd.sublist (List.take_sublist _ _)
    refine ⟨u, rv, ?_⟩
    rcases S.par y (List.mem_of_getElem? hp) with k | k
    · exact .inl ⟨k, bindL_get ndP hp hu k⟩
    · obtain ⟨c, e⟩ := cell_has (n := s.heap.objs.size + 1) k
      refine .inr ⟨.inl k, c, e, ?_⟩
      have q := x.cell y c e
      rw [bindC_get ndP hp hu (by show scope.names.lookup y ≠ _; rw [k]; decide)] at q
      exact q
  · exact e0.hok.fresh (Nat.le_of_lt (x.above y c (PySem.mem_of_lookup h)))
  · unfold start
    show _ = N.length
    rw [List.length_append, List.length_map, List.length_replicate]
    omega
theorem fn_of {CX : CXT} {P : Program} {w : World} {K : PySem.W.Frag} {mg : Str → Option Value} {base : Heap} {k : Nat} {f : Addr} {name qual : Str} {params : Arguments} {body : List Stmt} {scope : Scope} {dV kV doc pm cdv ct oc : Value} {an od : Option Addr}
    {osl : Array (Option Value)} {N ps : List Str} {sp : Sp} (lk : K.lookup f = some ⟨oc, od, .func (PySem.W.fnOf name qual params body scope dV kV doc pm an cdv ct), osl⟩) (hcd : PySem.W.codeIn K cdv qual = true) (S : FnScope N ps scope)
    (len : ∀ vs H Q E, sp vs H Q E → vs.length = ps.length)
    (hbody : ∀ (A : Around) (outer : List Env) (s : Shared) (H : Hp) (vs : List V) (Q : VK) (E : XK), Room k (A.deeper (envOfC qual scope s.heap.objs.size f cdv)) → sp vs H Q E →
      ∃ t, PSs (cxOf CX P w K mg base N qual scope f cdv A outer s H E) body t ∧ t { nx := fun _ H' => Q .non H', rt := Q } (start N vs) H) :
    FnOk P w K mg base CX (k + 1) f (PySem.W.fnOf name qual params body scope dV kV doc pm an cdv ct) ps sp := by
  refine ⟨len, fun A outer s H args us vs Q E hr e0 hb r hsp => ?_⟩
  have hl := len _ _ _ _ hsp
  have KX : K.In s.heap := e0.mod.kin.keeps fun b o e => (e0.bs b o e).1
  have lim : s.heap.NoLimit := e0.mod.nolimit.keeps fun b o e => (e0.bs b o e).1
  have hkind : ∀ y ∈ ps.zip us, scope.names.lookup y.1 = some .local ∨ (scope.names.lookup y.1 = some .cell ∧ ((cellsFrom (s.heap.objs.size + 1) scope.names []).lookup y.1).isSome = true) := fun ⟨n, v⟩ hy => by
    rcases S.par n (List.of_mem_zip hy).1 with q | q
    · exact .inl q
    · exact .inr ⟨q, PySem.W.cellsFrom_some _ _ _ (.inl q)⟩
  refine codeAny_call_function hr.depth (KX _ _ lk) rfl S.co S.gen rfl (PySem.W.codeRec_of KX hcd) (hb _ _ _ _ ?_)
  refine wpAny_newFunctionEnv_cells S.kind hkind fun env he s1 x => ?_
  subst he
  refine ⟨lim.keeps x.toInCall.keep, codeAny_func ?_⟩
  obtain ⟨t, ht, hq⟩ := hbody A outer s H vs Q E (hr.deeper _) hsp
  have I : Inv (cxOf CX P w K mg base N qual scope f cdv A outer s H E) [] (start N vs) H s1 := inv_start S hr.hd e0 hl r x
  refine wpAny_mono (ht [] s1 (start N vs) H _ I hq) (fun fl s' hs => ?_) fun e s' hs => hs
  have fin : ∀ {σ' : St} {H' : Hp} {v : V} {u : Value}, Inv (cxOf CX P w K mg base N qual scope f cdv A outer s H E) [] σ' H' s' → RelV v u → Q v H' → CE outer P w H s Q u s' :=
    fun {σ' H' v u} J rv q => ⟨v, H', J.os, J.bare, J.base, J.hok, rv, q⟩
  cases fl with
  | ret u =>
    obtain ⟨v, σ', H', J, rv, q⟩ := hs
    exact fin J rv q
  | next =>
    obtain ⟨σ', H', J, q⟩ := hs
    exact fin (v := V.non) (u := Value.none) J rfl q
  | brk =>
    obtain ⟨_, _, _, q⟩ := hs
    exact False.elim q
  | cont =>
    obtain ⟨_, _, _, q⟩ := hs
    exact False.elim q
end L2
namespace L2
open PySem PySem.Spec PyProof.Rows
section
variable {X : Cx} {x : Str} {p pos : Pos} {e : Expr} {es : List Expr} {t : TA} {id T : String} {r : List V → Hp → VK → Prop}
def tCB (r : List V → Hp → VK → Prop) (t : TA) : TE := fun σ H Q => t σ H fun vs H1 => r vs H1 Q
theorem pe_callB (hc : CallR X (.builtin id) r) (hg : Gl X x) (hm : X.mg x = none) (hv : bootBuiltins x = some (.builtin id)) (ha : PA X (e :: es) t) (hn : x ≠ "__name__" := by decide) (hdb : (x == ("__debug__" : Str)) = false := by decide)
    (he : starEach (e :: es) X.env = (false, eval e X.env) :: starEach es X.env := by rfl) (hpl : (backTo pos (starEach es X.env)).any (·.1) = false := by rfl) : PE X (.Call (.Name x p) (e :: es) [] pos) (tCB r t) := by
  intro pins s σ H Q I h
  refine wpAny_Call_Name_kw (ld_blt I hg hm hv ?_ hn hdb)
  exact PyProof.Rows.callWith_builtin1 (thn (ha pos pins s σ H _ I h) fun us s1 ⟨vs, H1, I1, r1, q1⟩ => hc pins s1 σ H1 vs us Q I1 r1 q1) he hpl
theorem pe_callTy (hc : CallR X (.type T) r) (hg : Gl X x) (hm : X.mg x = none) (hv : bootBuiltins x = some (.type T)) (ha : PA X (e :: es) t) (hn : x ≠ "__name__" := by decide) (hdb : (x == ("__debug__" : Str)) = false := by decide)
    (he : starEach (e :: es) X.env = (false, eval e X.env) :: starEach es X.env := by rfl) (hpl : (backTo pos (starEach es X.env)).any (·.1) = false := by rfl) : PE X (.Call (.Name x p) (e :: es) [] pos) (tCB r t) := by
  intro pins s σ H Q I h
  refine wpAny_Call_Name_kw (ld_blt I hg hm hv ?_ hn hdb)
  exact PyProof.Rows.callWith_type1 (thn (ha pos pins s σ H _ I h) fun us s1 ⟨vs, H1, I1, r1, q1⟩ => hc pins s1 σ H1 vs us Q I1 r1 q1) he hpl
end
end L2
namespace L2
open PySem PySem.Spec PyProof.Rows
section
variable {κ : Type} [DecidableEq κ]
def valV (kvs : List (κ × V)) (k : κ) : Option V := (kvs.find? fun kv => decide (kv.1 = k)).map (·.2)
def putK (kvs : List (κ × V)) (k : κ) (v : V) : List (κ × V) :=
  if (kvs.any fun kv => decide (kv.1 = k)) = true then kvs.map (fun kv => if kv.1 = k then (kv.1, v) else kv) else kvs ++ [(k, v)]
def dropK (kvs : List (κ × V)) (k : κ) : List (κ × V) := kvs.filter fun kv => decide (kv.1 ≠ k)
theorem valV_pos {p : κ × V} {r : List (κ × V)} {k : κ} (e : p.1 = k) : valV (p :: r) k = some p.2 := by simp [valV, List.find?_cons, e]
theorem valV_neg {p : κ × V} {r : List (κ × V)} {k : κ} (e : ¬ p.1 = k) : valV (p :: r) k = valV r k := by simp [valV, List.find?_cons, e]
theorem valV_any (k : κ) : ∀ kvs : List (κ × V), (kvs.any fun kv => decide (kv.1 = k)) = (valV kvs k).isSome
  | [] => rfl
  | p :: r => by
    rw [List.any_cons]
    by_cases e : p.1 = k
    · simp only [valV_pos e, decide_eq_true e, Bool.true_or, Option.isSome_some]
    · rw [valV_neg e, decide_eq_false e, Bool.false_or]; exact valV_any k r
theorem length_putK (kvs : List (κ × V)) (k : κ) (v : V) : (putK kvs k v).length ≤ kvs.length + 1 := by
  unfold putK
  split
  · rw [List.length_map]; omega
  · rw [List.length_append, List.length_cons, List.length_nil]; omega
theorem RelO.isSome_eq {o : Option V} {u : Option Value} (r : RelO o u) : o.isSome = u.isSome := by
  cases o with
  | none => cases u with
    | none => rfl
    | some _ => exact (show False from r).elim
  | some _ => cases u with
    | none => exact (show False from r).elim
    | some _ => rfl
theorem RelO.getD {o : Option V} {u : Option Value} {d : V} {d' : Value} (r : RelO o u) (rd : RelV d d') : RelV (o.getD d) (u.getD d') := by
  cases o with
  | none => cases u with
    | none => exact rd
    | some _ => exact (show False from r).elim
  | some _ => cases u with
    | none => exact (show False from r).elim
    | some _ => exact r
theorem KV.val {kvs : List (κ × V)} {vs : List (κ × Value)} (r : KV kvs vs) (k : κ) : RelO (valV kvs k) (valueAt vs k) := by
  unfold KV at r
  induction r with
  | nil => exact True.intro
  | @cons p q ps qs h t ih =>
    obtain ⟨h1, h2⟩ := h
    by_cases e : p.1 = k
    · have e' : q.1 = k := h1.symm.trans e
      have b : valueAt (q :: qs) k = some q.2 := by simp [valueAt, List.find?_cons, e']
      rw [valV_pos e, b]; exact h2
    · have e' : ¬ q.1 = k := fun z => e (h1.trans z)
      have b : valueAt (q :: qs) k = valueAt qs k := by simp [valueAt, List.find?_cons, e']
      rw [valV_neg e, b]; exact ih
theorem KV.any {kvs : List (κ × V)} {vs : List (κ × Value)} (r : KV kvs vs) (k : κ) : (kvs.any fun kv => decide (kv.1 = k)) = vs.any fun kv => decide (kv.1 = k) := by
  unfold KV at r
  induction r with
  | nil => rfl
  | cons h t ih => rw [List.any_cons, List.any_cons, ih, h.1]
theorem KV.repl {kvs : List (κ × V)} {vs : List (κ × Value)} (r : KV kvs vs) (k : κ) {y : V} {u : Value} (ry : RelV y u) :
    KV (kvs.map fun kv => if kv.1 = k then (kv.1, y) else kv) (vs.map fun kv => if kv.1 = k then (kv.1, u) else kv) := by
  unfold KV at r ⊢
  induction r with
  | nil => exact .nil
  | @cons p q ps qs h t ih =>
    rw [List.map_cons, List.map_cons]
    refine .cons ?_ ih
    obtain ⟨h1, h2⟩ := h
    by_cases e : p.1 = k
    · rw [if_pos e, if_pos (h1.symm.trans e)]; exact ⟨h1, ry⟩
    · rw [if_neg e, if_neg (fun z => e (h1.trans z))]; exact ⟨h1, h2⟩
theorem KV.put {kvs : List (κ × V)} {vs : List (κ × Value)} (r : KV kvs vs) (k : κ) {y : V} {u : Value} (ry : RelV y u) : KV (putK kvs k y) (stored vs k u) := by
  unfold putK stored
  rw [r.any k]
  by_cases e : (vs.any fun kv => decide (kv.1 = k)) = true
  · rw [if_pos e, if_pos e]; exact r.repl k ry
  · rw [if_neg e, if_neg e]; exact Paired.snoc r ⟨rfl, ry⟩
theorem KV.drop {kvs : List (κ × V)} {vs : List (κ × Value)} (r : KV kvs vs) (k : κ) : KV (dropK kvs k) (without vs k) := by
  unfold KV at r ⊢
  unfold dropK without
  induction r with
  | nil => exact .nil
  | @cons p q ps qs h t ih =>
    obtain ⟨h1, h2⟩ := h
    rw [List.filter_cons, List.filter_cons]
    by_cases e : p.1 = k
    · have a : ¬ decide (p.1 ≠ k) = true := by simp [e]
      have b : ¬ decide (q.1 ≠ k) = true := by simp [h1.symm.trans e]
      rw [if_neg a, if_neg b]; exact ih
    · have e' : ¬ q.1 = k := fun z => e (h1.trans z)
      have a : decide (p.1 ≠ k) = true := by simp [e]
      have b : decide (q.1 ≠ k) = true := by simp [e']
      rw [if_pos a, if_pos b]; exact .cons ⟨h1, h2⟩ ih
theorem KV.keys {kvs : List (κ × V)} {vs : List (κ × Value)} (r : KV kvs vs) : kvs.map (·.1) = vs.map (·.1) := by
  unfold KV at r
  induction r with
  | nil => rfl
  | cons h t ih => rw [List.map_cons, List.map_cons, ih, h.1]
theorem KV.length {kvs : List (κ × V)} {vs : List (κ × Value)} (r : KV kvs vs) : kvs.length = vs.length := Paired.length r
end
theorem kV_is {P : Program} {w : World} {k : Key} {u : Value} (r : RelV (kV k) u) : (mixKind P w).is k u = true := by
  cases k with
  | inl i => obtain ⟨t, e⟩ := (show ∃ t, u = Value.int i t from r); subst e; exact mixKind_int P w i t
  | inr x => obtain ⟨t, e⟩ := (show ∃ t, u = Value.str x t from r); subst e; exact mixKind_str P w x t
theorem items_are {P : Program} {w : World} : ∀ {ks : List Key} {us : List Value}, Vals (ks.map kV) us → ItemsAre (mixKind P w) ks us
  | [], _, r => by rw [List.map_nil] at r; cases r; exact .nil
  | k :: ks, _, r => by
    rw [List.map_cons] at r
    cases r with
    | cons h t => exact .cons (kV_is h) (items_are t)
abbrev KT (H : Hp) : List (List Key × V) → List (List Key × Addr × Value) → Prop := Paired fun p q => p.1 = q.1 ∧ H q.2.1 = some (.tup (p.1.map kV)) ∧ RelV p.2 q.2.2
theorem KT.val {H : Hp} {kvs : List (List Key × V)} {xs : List (List Key × Addr × Value)} (r : KT H kvs xs) (k : List Key) : RelO (valV kvs k) ((atKey xs k).map (·.2)) := by
  induction r with
  | nil => exact True.intro
  | @cons p q ps qs h t ih =>
    obtain ⟨h1, _, h2⟩ := h
    by_cases e : p.1 = k
    · have e' : q.1 = k := h1.symm.trans e
      have b : atKey (q :: qs) k = some q.2 := by simp [atKey, List.find?_cons, e']
      rw [valV_pos e, b]; exact h2
    · have e' : ¬ q.1 = k := fun z => e (h1.trans z)
      have b : atKey (q :: qs) k = atKey qs k := by simp [atKey, List.find?_cons, e']
      rw [valV_neg e, b]; exact ih
theorem KT.repl {H : Hp} {kvs : List (List Key × V)} {xs : List (List Key × Addr × Value)} (r : KT H kvs xs) (k : List Key) {y : V} {u : Value} (ry : RelV y u) :
    KT H (kvs.map fun kv => if kv.1 = k then (kv.1, y) else kv) (xs.map (putAt k u)) := by
  induction r with
  | nil => exact .nil
  | @cons p q ps qs h t ih =>
    rw [List.map_cons, List.map_cons]
    refine .cons ?_ ih
    obtain ⟨h1, h2, h3⟩ := h
    unfold putAt
    by_cases e : p.1 = k
    · rw [if_pos e, if_pos (h1.symm.trans e)]; exact ⟨h1, h2, ry⟩
    · rw [if_neg e, if_neg (fun z => e (h1.trans z))]; exact ⟨h1, h2, h3⟩
theorem KT.put {H : Hp} {kvs : List (List Key × V)} {xs : List (List Key × Addr × Value)} (r : KT H kvs xs) (k : List Key) {b : Addr} {y : V} {u : Value} (hb : H b = some (.tup (k.map kV))) (ry : RelV y u) :
    KT H (putK kvs k y) (storedH xs k b u) := by
  have e : (kvs.any fun kv => decide (kv.1 = k)) = (atKey xs k).isSome := by
    rw [valV_any, (r.val k).isSome_eq, Option.isSome_map]
  unfold putK storedH
  rw [e]
  by_cases q : (atKey xs k).isSome = true
  · rw [if_pos q, if_pos q]; exact r.repl k ry
  · rw [if_neg q, if_neg q]; exact Paired.snoc r ⟨rfl, hb, ry⟩
theorem KT.keeps {H H' : Hp} {kvs : List (List Key × V)} {xs : List (List Key × Addr × Value)} (r : KT H kvs xs) (ht : ∀ b ys, H b = some (.tup ys) → H' b = some (.tup ys)) : KT H' kvs xs :=
  Paired.mapP r fun _ _ z => ⟨z.1, ht _ _ z.2.1, z.2.2⟩
section
variable {P : Program} {w : World} {H : Hp} {h : Heap} {a : Addr}
theorem rd_of {u : HO} (ok : HOk P w H h) (e : Rd H a u) : ObjOk P w H h a u := e.ok ok
theorem dk_rd {kvs : List (Key × V)} (ok : HOk P w H h) (e : Rd H a (.dK kvs)) : kvs.length ≤ sizeLine ∧ (a == sysModules) = false ∧ ∃ vs, KV kvs vs ∧ h.DictOf (mixKind P w) a vs :=
  show ObjOk P w H h a (.dK kvs) from rd_of ok e
theorem dk_of {kvs : List (Key × V)} (ok : HOk P w H h) (e : H a = some (.dK kvs)) : kvs.length ≤ sizeLine ∧ (a == sysModules) = false ∧ ∃ vs, KV kvs vs ∧ h.DictOf (mixKind P w) a vs := dk_rd ok (.inl e)
theorem key_of {ks : List Key} (ok : HOk P w H h) (e : H a = some (.tup (ks.map kV))) : (tupleKind (mixKind P w)).is h ks a := by
  obtain ⟨_, its, r, o, h1, h2, n, h3⟩ := (show ObjOk P w H h a (.tup (ks.map kV)) from ok a _ e)
  exact ⟨o, its.toArray, n, h1, h2, h3, by simpa using items_are r⟩
theorem dt_rd {kvs : List (List Key × V)} (ok : HOk P w H h) (e : Rd H a (.dT kvs)) : kvs.length ≤ sizeLine ∧ (a == sysModules) = false ∧
    ∃ xs, KT H kvs xs ∧ h.DictOfH (tupleKind (mixKind P w)) a xs := by
  obtain ⟨z, y, xs, r, o, es, ep, h1, h2, h3, h4, h5⟩ := (show ObjOk P w H h a (.dT kvs) from rd_of ok e)
  refine ⟨z, y, xs, r, o, es, ep, h1, h2, h3, h4, fun x hx => ?_, h5⟩
  have all : ∀ {l : List (List Key × V)} {m : List (List Key × Addr × Value)}, KT H l m → ∀ x ∈ m, (tupleKind (mixKind P w)).is h x.1 x.2.1 := by
    intro l m q
    induction q with
    | nil => intro x hx; exact nomatch hx
    | @cons p q ps qs hq t ih =>
      intro x hx
      rcases List.mem_cons.mp hx with e | hx
      · subst e
        exact key_of ok (by rw [← hq.1]; exact hq.2.1)
      · exact ih x hx
  exact all r x hx
theorem dt_of {kvs : List (List Key × V)} (ok : HOk P w H h) (e : H a = some (.dT kvs)) : kvs.length ≤ sizeLine ∧ (a == sysModules) = false ∧
    ∃ xs, KT H kvs xs ∧ h.DictOfH (tupleKind (mixKind P w)) a xs := dt_rd ok (.inl e)
end
def DGet (H : Hp) (a : Addr) (y : V) (r : Option V) : Prop :=
  (∃ kvs k, Rd H a (.dK kvs) ∧ y = kV k ∧ r = valV kvs k) ∨ ∃ kvs k b, Rd H a (.dT kvs) ∧ y = .ref b ∧ H b = some (.tup (k.map kV)) ∧ r = valV kvs k
def DPut (H : Hp) (a : Addr) (y v : V) (H' : Hp) : Prop :=
  (∃ kvs k, H a = some (.dK kvs) ∧ y = kV k ∧ kvs.length < sizeLine ∧ H' = upd H a (.dK (putK kvs k v))) ∨
  ∃ kvs k b, H a = some (.dT kvs) ∧ y = .ref b ∧ H b = some (.tup (k.map kV)) ∧ kvs.length < sizeLine ∧ H' = upd H a (.dT (putK kvs k v))
theorem DGet.k {H : Hp} {a : Addr} {kvs : List (Key × V)} {k : Key} (e : H a = some (.dK kvs)) : DGet H a (kV k) (valV kvs k) := .inl ⟨kvs, k, .inl e, rfl, rfl⟩
theorem DGet.t {H : Hp} {a b : Addr} {kvs : List (List Key × V)} {k : List Key} (e : H a = some (.dT kvs)) (eb : H b = some (.tup (k.map kV))) : DGet H a (.ref b) (valV kvs k) := .inr ⟨kvs, k, b, .inl e, rfl, eb, rfl⟩
theorem DPut.k {H : Hp} {a : Addr} {kvs : List (Key × V)} {k : Key} {v : V} (e : H a = some (.dK kvs)) (hl : kvs.length < sizeLine) : DPut H a (kV k) v (upd H a (.dK (putK kvs k v))) := .inl ⟨kvs, k, e, rfl, hl, rfl⟩
theorem DPut.t {H : Hp} {a b : Addr} {kvs : List (List Key × V)} {k : List Key} {v : V} (e : H a = some (.dT kvs)) (eb : H b = some (.tup (k.map kV))) (hl : kvs.length < sizeLine) :
    DPut H a (.ref b) v (upd H a (.dT (putK kvs k v))) := .inr ⟨kvs, k, b, e, rfl, eb, hl, rfl⟩
section
variable {X : Cx} {pins : List (Addr × Obj)} {σ : St} {H : Hp} {s : Shared} {a : Addr} {y v : V} {u r : Value} {o : Option V} {A : Around} {E : Value → Shared → Prop}
theorem Inv.big (I : Inv X pins σ H s) : sysModules < s.heap.objs.size := by
  have h : mainGlobals < s.heap.objs.size := (I.mod.glob.keeps I.bk).lt
  exact Nat.lt_trans (by decide) h
theorem d_getItem {Q : Value → Shared → Prop} (hu : A.units + 1 < cLine) (I : Inv X pins σ H s) (g : DGet H a y (some v)) (ry : RelV y u) (h : ∀ w' s', Inv X pins σ H s' → RelV v w' → Q w' s') :
    wpAny (model X.prog X.w) A (getItem (.ref a) u) Q E s := by
  rcases g with ⟨kvs, k, e, ey, l⟩ | ⟨kvs, k, b, e, ey, eb, l⟩
  · subst ey
    obtain ⟨z, hd, vs, rel, dd⟩ := dk_rd I.hok e
    obtain ⟨w', hw, rw'⟩ := RelO.some_of (v := v) (o := valueAt vs k) (by rw [l]; exact rel.val k)
    exact wpAny_getItem_of (kV_is ry) dd.mapOf hw (h w' _ (I.tok _) rw')
  · subst ey
    cases (show u = Value.ref b from ry)
    obtain ⟨z, hd, xs, rel, dd⟩ := dt_rd I.hok e
    obtain ⟨w', hw, rw'⟩ := RelO.some_of (v := v) (o := (atKey xs k).map (·.2)) (by rw [l]; exact rel.val k)
    obtain ⟨p, hp, hp2⟩ := Option.map_eq_some_iff.mp hw
    refine wpAny_getItem_heap (tupleKind_room_in1 hu) (key_of I.hok eb) dd hp ?_
    rw [hp2]
    exact h w' _ (I.tok _) rw'
theorem d_write {h' : Heap} {t' : Nat} {ob : HO} (I : Inv X pins σ H s) (mu : Mut (H a)) (hs : Heap.SameBut a s.heap h') (he : ∃ q, h'.get? a = some q) (new : ObjOk X.prog X.w (upd H a ob) h' a ob) :
    Inv X pins σ (upd H a ob) { s with heap := h', toks := t' } :=
  I.write (x := a) (e := a) mu (.inl rfl) (fun b q hb z => (hs.2 b hb).trans z) he new
theorem dk_new {P : Program} {w : World} {H' : Hp} {h' : Heap} {kvs : List (Key × V)} {vs : List (Key × Value)} (z : kvs.length ≤ sizeLine) (hd : (a == sysModules) = false) (rel : KV kvs vs) (dd : h'.DictOf (mixKind P w) a vs) :
    ObjOk P w H' h' a (.dK kvs) := ⟨z, hd, vs, rel, dd⟩
theorem d_setItem {H' : Hp} {Q : Unit → Shared → Prop} (hu : A.units + 1 < cLine) (I : Inv X pins σ H s) (g : DPut H a y v H') (ry : RelV y u) (rv : RelV v r) (h : ∀ s', Inv X pins σ H' s' → Q () s') :
    wpAny (model X.prog X.w) A (setItem (.ref a) u r) Q E s := by
  rcases g with ⟨kvs, k, e, ey, l, eH⟩ | ⟨kvs, k, b, e, ey, eb, l, eH⟩
  · subst ey eH
    obtain ⟨z, hd, vs, rel, dd⟩ := dk_of I.hok e
    have hz : vs.length ≤ sizeLine := by rw [← rel.length]; exact z
    have hl : (putK kvs k v).length ≤ sizeLine := by have := length_putK kvs k v; omega
    refine wpAny_setItem_pairs (hsz := hz) (kV_is ry) dd fun h' dd' hs => h _ ?_
    have he : ∃ q, h'.get? a = some q := let ⟨q, _, _, hq, _⟩ := dd'; ⟨q, hq⟩
    exact d_write I (by rw [e]; exact True.intro) hs he (dk_new hl hd (rel.put k rv) dd')
  · subst ey eH
    cases (show u = Value.ref b from ry)
    obtain ⟨z, hd, xs, rel, dd⟩ := dt_of I.hok e
    have hz : xs.length ≤ sizeLine := by rw [← Paired.length rel]; exact z
    have hl : (putK kvs k v).length ≤ sizeLine := by have := length_putK kvs k v; omega
    refine wpAny_setItem_heap (hsz := hz) (tupleKind_room_in1 hu) (key_of I.hok eb) dd fun h' dd' hs => h _ ?_
    obtain ⟨q, es, ep, hq, h2, h3, h4, _, h5⟩ := dd'
    refine d_write I (by rw [e]; exact True.intro) hs ⟨q, hq⟩ ⟨hl, hd, _, (rel.put k eb rv).keeps fun c ys ec => ?_, q, es, ep, hq, h2, h3, h4, h5⟩
    rw [upd_ne (ne_of ec e (fun z => nomatch z))]
    exact ec
end
section
variable {X : Cx} {pins : List (Addr × Obj)} {σ : St} {H : Hp} {s : Shared} {a : Addr} {kvs : List (Key × V)} {k : Key} {u : Value} {A : Around} {E : Value → Shared → Prop}
end
def NoSl (i : Expr) : Prop := ∀ ov iv, subscripted i false ov iv = operate [ov, iv] (getItem ov iv)
theorem subD_of {prog : Program} {w : World} {A : Around} {E : Value → Shared → Prop} {s : Shared} {env : Env} {value slice : Expr} {pos : Pos} {T id : String} {Q : Value → Shared → Prop}
    (hl : typeLookup (.type T) "__getitem__" = pure (some (.builtin id))) (hs : NoSl slice)
    (h : wpAny (model prog w) A (eval value env) (fun o s₁ => wpAny (model prog w) A (eval slice env) (fun i s₂ => s₂.TypeIs o T ∧ wpAny (model prog w) A (getItem o i) Q E s₂) E s₁) E s) :
    wpAny (model prog w) A (eval (.Subscript value slice pos) env) Q E s := by
  refine Subscript_ (wpAny_mono h (fun o s₁ h₁ => wpAny_mono h₁ (fun i s₂ h₂ => ?_) fun _ _ x => x) fun _ _ x => x)
  obtain ⟨hT, h₂⟩ := h₂
  unfold subscriptTail
  refine wpAny_bind ?_
  rw [getitemInPython_of_ne hT.not_modules]
  refine wpAny_bind (wpAny_specialOf hT hl ?_)
  have fin : wpAny (model prog w) A (subscripted slice false o i) (fun r s₃ => wpAny (model prog w) A (letTemporaryGo value o r >>= fun _ => pure r) Q E s₃) E s₂ := by
    rw [hs o i]
    exact wpAny_operating (wpAny_mono h₂ (fun r s₃ h₃ => wpAny_bind (wpAny_letTemporaryGo (wpAny_pure h₃))) fun _ _ x => x)
  first
    | exact wpAny_pure (wpAny_bind fin)
    | exact wpAny_bind (wpAny_pure (wpAny_bind fin))
    | exact wpAny_bind fin
theorem dict_typeIs {X : Cx} {pins : List (Addr × Obj)} {σ : St} {H : Hp} {s : Shared} {a : Addr} {y : V} {o : Option V} (I : Inv X pins σ H s) (g : DGet H a y o) : s.TypeIs (.ref a) "dict" := by
  rcases g with ⟨kvs, k, e, _, _⟩ | ⟨kvs, k, b, e, _, _, _⟩
  · obtain ⟨_, _, vs, _, dd⟩ := dk_rd I.hok e
    exact dd.typeIs
  · obtain ⟨_, _, xs, _, dd⟩ := dt_rd I.hok e
    exact dd.typeIs
def tDGet (td ty : TE) : TE := fun σ H Q => td σ H fun x H1 => ty σ H1 fun y H2 => ∃ a v, x = .ref a ∧ DGet H2 a y (some v) ∧ Q v H2
def sDPut (td ty tv : TE) : TS := fun D σ H => tv σ H fun v H1 => td σ H1 fun x H2 => ty σ H2 fun y H3 => ∃ a H4, x = .ref a ∧ DPut H3 a y v H4 ∧ D.nx σ H4
section
variable {X : Cx} {o i e value : Expr} {pos pos' tpos : Pos} {td ty tv : TE}
theorem pe_dget (hu : X.A.units + 1 < cLine) (ho : PE X o td) (hi : PE X i ty) (hs : NoSl i) : PE X (.Subscript o i pos) (tDGet td ty) := by
  intro pins s σ H Q I h
  refine subD_of PySem.F.slot_dict_getitem.lookup hs (thn (ho pins s σ H _ I h) fun u s1 ⟨x, H1, I1, rx, q1⟩ => thn (hi pins s1 σ H1 _ I1 q1) fun iv s2 ⟨y, H2, I2, ry, a, v, ex, g, q2⟩ => ?_)
  subst ex
  obtain rfl : u = Value.ref a := rx
  exact ⟨dict_typeIs I2 g, d_getItem hu I2 g ry fun w' s3 I3 rw' => ⟨v, H2, I3, rw', q2⟩⟩
theorem ps_dput (hu : X.A.units + 1 < cLine) (ho : PE X o td) (hi : PE X i ty) (hv : PE X value tv) (hs : swapsWith value (some (.Subscript o i pos')) pos.line X.env = pure false) :
    PS X (.Assign [.Subscript o i pos'] value pos) (sDPut td ty tv) := by
  intro pins s σ H D I h
  refine wpAny_Assign_Subscript (thn (hv pins s σ H _ I h) fun r s1 ⟨v, H1, I1, rv, q1⟩ => thn (ho pins s1 σ H1 _ I1 q1) fun u s2 ⟨x, H2, I2, rx, q2⟩ => thn (hi pins s2 σ H2 _ I2 q2) fun iv s3 ⟨y, H3, I3, ry, a, H4, ex, g, q3⟩ => ?_) hs
  subst ex
  obtain rfl : u = Value.ref a := rx
  exact d_setItem hu I3 g ry rv fun s4 I4 => ⟨σ, H4, I4, q3⟩
end
theorem dk_empty {P : Program} {w : World} {H : Hp} (h : Heap) (hb : sysModules < h.objs.size) : ObjOk P w H (h.push { cls := .type "dict", data := .dict #[] }) h.objs.size (.dK []) :=
  ⟨Nat.zero_le _, beq_eq_false_iff_ne.mpr (Ne.symm (Nat.ne_of_lt hb)), [], .nil, Heap.DictOf.new h⟩
def tDNewK : TE := fun _ H Q => ∀ p, H p = none → Q (.ref p) (upd H p (.dK []))
section
variable {X : Cx} {pos : Pos}
theorem pe_dnewK : PE X (.Dict [] [] pos) tDNewK := fun pins s σ H Q I h =>
  wpAny_Dict_empty ⟨.ref s.heap.objs.size, _, I.laid (a := s.heap.objs.size) (o := .dK []) (t' := s.toks) (fun _ _ q => Heap.get?_push_of_some _ q) (Nat.le_refl _) (dk_empty s.heap I.big), rfl, h _ (I.hok.fresh (Nat.le_refl _))⟩
end
structure M1 (X : Cx) (o : Expr) (m : Str) (apos : Pos) (e : Expr) (cpos : Pos) : Prop where
  base : attributeBase o m X.env (eval o X.env) = eval o X.env
  few : ((backTo cpos (starEach [e] X.env)).all (fun x => !x.1) && (backToKw cpos (keywordEach [] X.env)).all (fun x => x.1.isSome)
    && decide (([e] : List Expr).length + ([] : List Keyword).length + (if ([] : List Keyword).isEmpty then 0 else 1) < 30)) = true
  line : (apos.endLine == cpos.line) = true
  trees : backTo cpos (starEach [e] X.env) = [(false, eval e X.env)]
structure M2 (X : Cx) (o : Expr) (m : Str) (apos : Pos) (e f : Expr) (cpos : Pos) : Prop where
  base : attributeBase o m X.env (eval o X.env) = eval o X.env
  few : ((backTo cpos (starEach [e, f] X.env)).all (fun x => !x.1) && (backToKw cpos (keywordEach [] X.env)).all (fun x => x.1.isSome)
    && decide (([e, f] : List Expr).length + ([] : List Keyword).length + (if ([] : List Keyword).isEmpty then 0 else 1) < 30)) = true
  line : (apos.endLine == cpos.line) = true
  trees : backTo cpos (starEach [e, f] X.env) = [(false, eval e X.env), (false, eval f X.env)]
def IsD (H : Hp) (a : Addr) : Prop := (∃ kvs, Rd H a (.dK kvs)) ∨ ∃ kvs, Rd H a (.dT kvs)
theorem isD_at {X : Cx} {pins : List (Addr × Obj)} {σ : St} {H : Hp} {s : Shared} {a : Addr} (I : Inv X pins σ H s) (d : IsD H a) :
    s.TypeIs (.ref a) "dict" ∧ (∀ b, Value.ref a = .ref b → ∃ ob, s.heap.get? b = some ob ∧ ob.dict = none) ∧ (a == sysModules) = false := by
  rcases d with ⟨kvs, e⟩ | ⟨kvs, e⟩
  · obtain ⟨_, hd, vs, _, dd⟩ := dk_rd I.hok e
    refine ⟨dd.typeIs, fun b q => ?_, hd⟩
    cases q
    obtain ⟨ob, _, _, h1, h2, _⟩ := dd
    exact ⟨ob, h1, h2.2.1⟩
  · obtain ⟨_, hd, xs, _, dd⟩ := dt_rd I.hok e
    refine ⟨dd.typeIs, fun b q => ?_, hd⟩
    cases q
    obtain ⟨ob, _, _, h1, h2, _⟩ := dd
    exact ⟨ob, h1, h2.2.1⟩
section
variable {X : Cx} {pins : List (Addr × Obj)} {σ : St} {H : Hp} {s : Shared} {a : Addr} {y d : V} {u r : Value} {o : Option V} {A : Around} {E : Value → Shared → Prop}
end
section
variable {X : Cx} {o e f : Expr} {apos cpos : Pos} {td ty tx : TE}
end
section
variable {X : Cx} {pins : List (Addr × Obj)} {σ : St} {H : Hp} {s : Shared} {a : Addr} {kvs : List (Key × V)} {A : Around} {E : Value → Shared → Prop}
theorem d_copyOf {Q : Value → Shared → Prop} (I : Inv X pins σ H s) (e : Rd H a (.dK kvs)) (h : ∀ p s', H p = none → Inv X pins σ (upd H p (.dK kvs)) s' → Q (.ref p) s') : wpAny (model X.prog X.w) A (call (.type "dict") [.ref a]) Q E s := by
  obtain ⟨z, hd, vs, rel, dd⟩ := dk_rd I.hok e
  refine kt_call_dict hd dd (by rw [← rel.length]; exact z) fun h' dd' hs => ?_
  refine h _ _ (I.hok.fresh (Nat.le_refl _)) (I.laid (a := s.heap.objs.size) (o := .dK kvs) (t' := s.toks) (fun b q hq => ?_) (Nat.le_refl _) (dk_new z (beq_eq_false_iff_ne.mpr (Ne.symm (Nat.ne_of_lt I.big))) rel dd'))
  exact (hs.2 b (Nat.ne_of_lt (Heap.lt_size hq))).trans (Heap.get?_push_of_some _ hq)
end
section
variable {X : Cx} {pins : List (Addr × Obj)} {σ : St} {H : Hp} {s : Shared} {a : Addr} {y : V} {u : Value} {A : Around} {E : Value → Shared → Prop}
end
end L2
namespace HT
open PySem PyProof.Rows
section
open PySem.SeqAt
open PySem.AutoSeq1 (wpAny_loadPart')
open PySem.MeetsSeq PySem.MeetsSeq2 PySem.MeetsSeq3
end
section
variable {prog : Program} {w : World} {A : Around} {E : Value → Shared → Prop} {s : Shared}
def sIx (n d : Nat) : Option Int → Nat
  | none => d
  | some v => if v < 0 then (v + (n : Int)).toNat else min v.toNat n
theorem sIx_nat (n d k : Nat) : sIx n d (some (k : Int)) = min k n := by
  show (if (k : Int) < 0 then ((k : Int) + (n : Int)).toNat else min (k : Int).toNat n) = min k n
  rw [if_neg (by omega), Int.toNat_natCast]
end
end HT
namespace L2
open PySem PySem.Spec PyProof.Rows
abbrev TO := St → Hp → (Option Int → Hp → Prop) → Prop
def PO (X : Cx) (e : Option Expr) (t : TO) : Prop :=
  ∀ (pins : List (Addr × Obj)) (s : Shared) (σ : St) (H : Hp) (Q : Option Int → Hp → Prop), Inv X pins σ H s → t σ H Q →
    wpAny (model X.prog X.w) X.A (evalPart e X.env) (fun u s' => ∃ o H', Inv X pins σ H' s' ∧ IsPart u o ∧ Q o H') X.xe s
def tNoPart : TO := fun _ H Q => Q none H
def tPart (t : TE) : TO := fun σ H Q => t σ H fun x H1 => ∃ i, x = .int i ∧ Q (some i) H1
section
variable {X : Cx} {e : Expr} {te : TE} {lo hi : Option Expr} {tl th : TO} {pos p2 : Pos}
theorem po_some (h : PE X e te) : PO X (some e) (tPart te) := by
  intro pins s σ H Q I hw
  rw [evalPart_some]
  refine thn (h pins s σ H _ I hw) fun u s1 ⟨x, H1, I1, r1, q1⟩ => ?_
  obtain ⟨i, rfl, q⟩ := q1
  obtain ⟨t, rfl⟩ := r1
  exact ⟨some i, H1, I1, .int i t, q⟩
def SlR (X : Cx) (r : V → Option Int → Option Int → Hp → VK → Prop) : Prop :=
  ∀ (pins : List (Addr × Obj)) (s : Shared) (σ : St) (H : Hp) (x : V) (v vl vu : Value) (lo hi : Option Int) (sl : Addr) (Q : VK), Inv X pins σ H s → RelV x v → s.heap.IsSliceOf sl vl vu .none → IsPart vl lo → IsPart vu hi → r x lo hi H Q →
    ∃ T id, typeLookup (.type T) "__getitem__" = pure (some (.builtin id)) ∧ s.TypeIs v T ∧ wpAny (model X.prog X.w) X.A (getItem v (.ref sl)) (EP X pins σ Q) X.xe s
def tSl (r : V → Option Int → Option Int → Hp → VK → Prop) (te : TE) (tl th : TO) : TE := fun σ H Q => te σ H fun x H1 => tl σ H1 fun l H2 => th σ H2 fun u H3 => r x l u H3 Q
theorem pe_slice {r : V → Option Int → Option Int → Hp → VK → Prop} (hr : SlR X r) (he : PE X e te) (hl : PO X lo tl) (hu : PO X hi th) : PE X (.Subscript e (.Slice lo hi none p2) pos) (tSl r te tl th) := by
  intro pins s σ H Q I h
  refine Subscript_ (thn (he pins s σ H _ I h) fun v s1 ⟨x, H1, I1, r1, q1⟩ => ?_)
  refine wpAny_Slice (thn (hl pins s1 σ H1 _ I1 q1) fun vl s2 ⟨l, H2, I2, pl, q2⟩ => thn (hu pins s2 σ H2 _ I2 q2) fun vu s3 ⟨u, H3, I3, pu, q3⟩ => ?_)
  rw [evalPart_none]
  refine wpAny_pure ?_
  have I4 : Inv X pins σ H3 { s3 with heap := s3.heap.push { cls := .type "slice", data := .fields #[vl, vu, .none] } } := I3.kept (t' := s3.toks) fun b ob q => Heap.get?_push_of_some _ q
  obtain ⟨T, id, hT, ht, hg⟩ := hr pins { s3 with heap := s3.heap.push { cls := .type "slice", data := .fields #[vl, vu, .none] } } σ H3 x v vl vu l u s3.heap.objs.size Q I4 r1 (Heap.IsSliceOf.new ..) pl pu q3
  show wpAny (model X.prog X.w) X.A (subscriptTail e (.Slice lo hi none p2) v (.ref s3.heap.objs.size)) (EP X pins σ Q) X.xe { s3 with heap := s3.heap.push { cls := .type "slice", data := .fields #[vl, vu, .none] } }
  exact tail_any (ops := [.ref s3.heap.objs.size, v]) ht hT hg (by with_unfolding_all rfl)
def cutV (xs : List V) (lo hi : Option Int) : List V := (xs.drop (HT.sIx xs.length 0 lo)).take (HT.sIx xs.length xs.length hi - HT.sIx xs.length 0 lo)
theorem cutV_length (xs : List V) (lo hi : Option Int) : (cutV xs lo hi).length ≤ xs.length := by
  unfold cutV
  rw [List.length_take, List.length_drop]
  omega
end
end L2
namespace L2
open PySem PySem.Spec PyProof.Rows
def ixN (n : Nat) (i : Int) : Option Nat := if 0 ≤ i then (if i < n then some i.toNat else none) else if -(n : Int) ≤ i then some (i + n).toNat else none
def atI {α : Type} (xs : List α) (i : Int) : Option α := (ixN xs.length i).bind fun j => xs[j]?
theorem ixN_seq {n : Nat} {i : Int} {j : Nat} (h : ixN n i = some j) : seqIndex? i n = some j ∧ j < n ∧ -(n : Int) ≤ i ∧ i < n := by
  unfold ixN at h
  by_cases h0 : 0 ≤ i
  · rw [if_pos h0] at h
    by_cases h1 : i < n
    · rw [if_pos h1] at h
      have e : i.toNat = j := Option.some.inj h
      exact ⟨by rw [seqIndex_of h0 h1, e], by omega, by omega, h1⟩
    · rw [if_neg h1] at h; cases h
  · rw [if_neg h0] at h
    by_cases h1 : -(n : Int) ≤ i
    · rw [if_pos h1] at h
      have e : (i + n).toNat = j := Option.some.inj h
      exact ⟨by rw [seqIndex_neg (by omega) h1, e], by omega, h1, by omega⟩
    · rw [if_neg h1] at h; cases h
theorem atI_get {α : Type} {xs : List α} {i : Int} {v : α} (h : atI xs i = some v) : ∃ j, seqIndex? i xs.length = some j ∧ xs[j]? = some v ∧ j < xs.length ∧ -(xs.length : Int) ≤ i ∧ i < xs.length := by
  unfold atI at h
  cases e : ixN xs.length i with
  | none => rw [e] at h; cases h
  | some j =>
    rw [e] at h
    obtain ⟨h1, h2, h3, h4⟩ := ixN_seq e
    exact ⟨j, h1, h, h2, h3, h4⟩
theorem atI_nat {α : Type} {xs : List α} {j : Nat} {v : α} (h : xs[j]? = some v) : atI xs (j : Int) = some v := by
  have hj : j < xs.length := (List.getElem?_eq_some_iff.mp h).1
  have e : ixN xs.length (j : Int) = some j := by
    unfold ixN
    rw [if_pos (by omega), if_pos (by omega)]; simp
  unfold atI; rw [e]; exact h
def PlainIx (b : Expr) : Prop := ∀ o i, subscripted b false o i = operate [o, i] (getItem o i)
def IxR (X : Cx) (r : R2) : Prop :=
  ∀ (value slice : Expr) (pins : List (Addr × Obj)) (s : Shared) (σ : St) (H : Hp) (x y : V) (v u : Value) (Q : VK), Inv X pins σ H s → RelV x v → RelV y u → r x y H Q →
    subscripted slice false v u = operate [v, u] (getItem v u) → wpAny (model X.prog X.w) X.A (subscriptTail value slice v u) (EP X pins σ Q) X.xe s
section
variable {X : Cx} {a b : Expr} {ta tb : TE} {pos : Pos}
theorem pe_ix {r : R2} (hr : IxR X r) (ha : PE X a ta) (hb : PE X b tb) (hs : PlainIx b) : PE X (.Subscript a b pos) (tOp r ta tb) := by
  intro pins s σ H Q I h
  exact Subscript_ (binT ha hb I h fun v u s2 x y H2 I2 rx ry q => hr a b pins s2 σ H2 x y v u Q I2 rx ry q (hs _ _))
def rIxL (K : PySem.W.Frag) : R2 := fun x y H Q => ∃ p xs i v, x = .ref p ∧ y = .int i ∧ SqL K H p xs ∧ atI xs i = some v ∧ Q v H
def rIxT (K : PySem.W.Frag) : R2 := fun x y H Q => ∃ p xs i v, x = .ref p ∧ y = .int i ∧ SqT K H p xs ∧ atI xs i = some v ∧ Q v H
def rIxS : R2 := fun x y H Q => ∃ z i c, x = .str z ∧ y = .int i ∧ z.length ≤ sizeLine ∧ atI z.cps.toList i = some c ∧ Q (.str ⟨#[c]⟩) H
theorem ix_list : IxR X (rIxL X.K) := by
  intro value slice pins s σ H x y v u Q I rx ry h hs
  obtain ⟨p, xs, i, z, rfl, rfl, hq, he, q⟩ := h
  cases rx
  obtain ⟨t, rfl⟩ := ry
  obtain ⟨its, r, pl, hz⟩ := I.list hq
  obtain ⟨j, h1, h2, h3, h4, h5⟩ := atI_get he
  obtain ⟨w, ew, rw'⟩ := r.get h2
  have hl := r.length
  have hn := line63
  have fin : EP X pins σ Q w s := ⟨z, H, I, rw', q⟩
  by_cases h0 : 0 ≤ i
  · have hj : i.toNat = j := by
      rw [seqIndex_of h0 h5] at h1
      exact Option.some.inj h1
    exact item_listR pl.isList h0 (by omega) (by rw [hj]; simpa using ew) fin hs
  · have hj : (i + (its.toArray.size : Int)).toNat = j := by
      rw [seqIndex_neg (by omega) h4] at h1
      rw [List.size_toArray, ← hl]
      exact Option.some.inj h1
    exact subscriptTail_builtinR (x := w) pl.isList.typeIs slot_list_getitem.lookup
      (wpAny_getItem_list_neg (Q := fun r s' => r = w ∧ EP X pins σ Q r s') pl.isList (by omega) (by rw [List.size_toArray] <;> omega) (by omega) (by rw [hj]; simpa using ew) ⟨rfl, fin⟩) hs
theorem ix_tup : IxR X (rIxT X.K) := by
  intro value slice pins s σ H x y v u Q I rx ry h hs
  obtain ⟨p, xs, i, z, rfl, rfl, hq, he, q⟩ := h
  cases rx
  obtain ⟨t, rfl⟩ := ry
  obtain ⟨its, r, pl, hz⟩ := I.tuple hq
  obtain ⟨j, h1, h2, h3, h4, h5⟩ := atI_get he
  obtain ⟨w, ew, rw'⟩ := r.get h2
  have hl := r.length
  have hn := line63
  have fin : EP X pins σ Q w s := ⟨z, H, I, rw', q⟩
  exact subscriptTail_builtinR (x := w) pl.typeIs slot_tuple_getitem.lookup
    (getItem_tuple (j := j) (Q := fun r s' => r = w ∧ EP X pins σ Q r s') pl (by omega) (by omega) (by rw [List.size_toArray, ← hl]; exact h1) (by simpa using ew) ⟨rfl, fin⟩) hs
theorem ix_str : IxR X rIxS := by
  intro value slice pins s σ H x y v u Q I rx ry h hs
  obtain ⟨z, i, c, rfl, rfl, hz, he, q⟩ := h
  obtain ⟨t, rfl⟩ := rx
  obtain ⟨t', rfl⟩ := ry
  obtain ⟨j, h1, h2, h3, h4, h5⟩ := atI_get he
  have hl : z.cps.toList.length = z.length := by simp [Str.length]
  rw [hl] at h1 h4 h5
  have hn := line63
  exact tail_any (typeIs_str s z t) slot_str_getitem.lookup (getItem_str (c := c) (by
    have e1 : decide (i < -(2 ^ 63 : Int)) = false := decide_eq_false (by omega)
    have e2 : decide (i ≥ 2 ^ 63) = false := decide_eq_false (by omega)
    rw [e1, e2, Bool.or_false]) (by rw [h1]; simpa using h2) ⟨.str ⟨#[c]⟩, H, I.tok _, ⟨_, rfl⟩, q⟩) hs
theorem mapSeq_set (its : List Value) (n j : Nat) (u : Value) : Obj.mapSeq (·.setIfInBounds j u) { cls := .type "list", data := .seq its.toArray n } = { cls := .type "list", data := .seq (its.set j u).toArray n } := by
  simp [Obj.mapSeq]
theorem Inv.lst {pins : List (Addr × Obj)} {σ : St} {H : Hp} {s : Shared} {p : Addr} {xs : List V} (I : Inv X pins σ H s) (h : H p = some (.lst xs)) :
    ∃ (its : List Value) (n : Nat), Vals xs its ∧ s.heap.get? p = some { cls := .type "list", data := .seq its.toArray n } ∧ xs.length ≤ sizeLine := by
  obtain ⟨z, its, n, r, e⟩ := I.hok p _ h
  exact ⟨its, n, r, e, z⟩
theorem Inv.lstUpd {pins : List (Addr × Obj)} {σ : St} {H : Hp} {s : Shared} {p : Addr} {xs ys : List V} {its its' : List Value} {n n' : Nat} {f : Obj → Obj} (I : Inv X pins σ H s) (h : H p = some (.lst xs))
    (ho : s.heap.get? p = some { cls := .type "list", data := .seq its.toArray n }) (hf : f { cls := .type "list", data := .seq its.toArray n } = { cls := .type "list", data := .seq its'.toArray n' }) (r : Vals ys its') (hz : ys.length ≤ sizeLine) (t : Nat) :
    Inv X pins σ (upd H p (.lst ys)) { s with heap := s.heap.update p f, toks := t } := by
  have e : (s.heap.update p f).get? p = some { cls := .type "list", data := .seq its'.toArray n' } := by
    rw [Heap.get?_update_self f ho (by rw [hf] <;> rfl), hf]
  refine I.write (x := p) (e := p) (by rw [h]; trivial) (.inl rfl) (fun b u hb q => (Heap.get?_update_other _ _ (Ne.symm hb)).trans q) ⟨_, e⟩ ?_
  exact ⟨hz, its', n', r, e⟩
def rSetL : V → V → V → Hp → (Hp → Prop) → Prop := fun o i v H Q => ∃ p xs k j, o = .ref p ∧ i = .int k ∧ H p = some (.lst xs) ∧ ixN xs.length k = some j ∧ Q (upd H p (.lst (xs.set j v)))
theorem set_list : PSet X rSetL := by
  intro pins s σ H o i v ov iv u Q I ro ri rv h
  obtain ⟨p, xs, k, j, rfl, rfl, hp, hj, q⟩ := h
  cases ro
  obtain ⟨t, rfl⟩ := ri
  obtain ⟨its, n, r, ho, hz⟩ := I.lst hp
  obtain ⟨h1, h2, h3, h4⟩ := ixN_seq hj
  have hl := r.length
  have hn := line63
  have I' : Inv X pins σ (upd H p (.lst (xs.set j v))) { s with heap := s.heap.update p (Obj.mapSeq (·.setIfInBounds j u)) } :=
    I.lstUpd hp ho (mapSeq_set its n j u) (r.set rv j) (by rw [List.length_set]; exact hz) s.toks
  by_cases h0 : 0 ≤ k
  · have hk : k.toNat = j := by
      rw [seqIndex_of h0 h4] at h1
      exact Option.some.inj h1
    exact PySem.W.ki_setAt ho h0 (by omega) (by rw [List.size_toArray, ← hl]; exact h4) (by rw [hk]; exact ⟨_, I', q⟩)
  · have hk : (k + (its.toArray.size : Int)).toNat = j := by
      rw [seqIndex_neg (by omega) h3] at h1
      rw [List.size_toArray, ← hl]
      exact Option.some.inj h1
    exact PySem.W.ki_setBack ho (by omega) (by rw [List.size_toArray, ← hl]; exact h3) (by omega) (by rw [hk]; exact ⟨_, I', q⟩)
theorem slice_bounds (lo hi : Option Int) (n : Nat) : (sliceBounds lo hi none n).1 = ((HT.sIx n 0 lo : Nat) : Int) ∧ (sliceBounds lo hi none n).2.1 = ((HT.sIx n n hi : Nat) : Int) ∧ (sliceBounds lo hi none n).2.2 = 1 := by
  refine ⟨?_, ?_, rfl⟩
  · cases lo with
    | none => simp [sliceBounds, HT.sIx]
    | some i =>
      simp only [sliceBounds, HT.sIx, Option.getD_none, show (1 : Int) > 0 by decide, if_true]
      by_cases h : i < 0
      · simp only [h, if_true] <;> omega
      · simp only [h, if_false] <;> omega
  · cases hi with
    | none => simp [sliceBounds, HT.sIx]
    | some i =>
      simp only [sliceBounds, HT.sIx, Option.getD_none, show (1 : Int) > 0 by decide, if_true]
      by_cases h : i < 0
      · simp only [h, if_true] <;> omega
      · simp only [h, if_false] <;> omega
theorem slicePick_cut (its : List Value) (lo hi : Option Int) : slicePick its.toArray lo hi none = ((its.drop (HT.sIx its.length 0 lo)).take (HT.sIx its.length its.length hi - HT.sIx its.length 0 lo)).toArray := by
  obtain ⟨h1, h2, h3⟩ := slice_bounds lo hi its.toArray.size
  unfold slicePick
  rw [h1, h2, h3]
  simp only [sliceRange_one, pick_run, List.size_toArray] <;> rfl
def rSlL (K : PySem.W.Frag) : V → Option Int → Option Int → Hp → VK → Prop := fun x lo hi H Q => ∃ a xs, x = .ref a ∧ SqL K H a xs ∧ ∀ p, H p = none → Q (.ref p) (upd H p (.lst (cutV xs lo hi)))
theorem sl_list : SlR X (rSlL X.K) := by
  intro pins s σ H x v vl vu lo hi sl Q I rx hs pl pu h
  obtain ⟨a, xs, rfl, hx, q⟩ := h
  cases rx
  obtain ⟨its, r, ht, hz⟩ := I.list hx
  have hlen := r.length
  refine ⟨"list", _, slot_list_getitem.lookup, ht.isList.typeIs, ?_⟩
  refine wpAny_getItem_list_slice ht.isList hs pl pu .none (by simp) ?_ (by rw [List.size_toArray] <;> omega)
  rw [slicePick_cut, ← hlen]
  refine ⟨.ref s.heap.objs.size, _, I.laid (t' := s.toks) (o := .lst (cutV xs lo hi)) (fun b ob q => Heap.get?_push_of_some _ q) (Nat.le_refl _) ?_, rfl, q _ (I.hok.fresh (Nat.le_refl _))⟩
  exact ⟨Nat.le_trans (cutV_length xs lo hi) hz, _, 0, (r.drop (HT.sIx xs.length 0 lo)).take (HT.sIx xs.length xs.length hi - HT.sIx xs.length 0 lo), Heap.get?_push_size _ rfl⟩
def flatV : V → Bool
  | .non => true
  | .bl _ => true
  | .int _ => true
  | .str _ => true
  | _ => false
def eqV : V → V → Bool
  | .non, .non => true
  | .bl a, .bl b => a == b
  | .bl a, .int b => (if a then 1 else 0) == b
  | .int a, .bl b => a == (if b then 1 else 0)
  | .int a, .int b => a == b
  | .str a, .str b => a == b
  | _, _ => false
theorem eqAt_V {A : Around} {s : Shared} {y x : V} {u v : Value} (ry : RelV y u) (rx : RelV x v) (fy : flatV y = true) (fx : flatV x = true) : SeqAt.EqAt A s u v (eqV y x) := by
  cases y with
  | non =>
    cases ry
    cases x with
    | non => cases rx; exact SeqAt.EqAt.same _
    | bl b => cases rx; exact SeqAt.EqAt.none_bool b
    | int b => obtain ⟨t, rfl⟩ := rx; exact SeqAt.EqAt.none_int b t
    | str b => obtain ⟨t, rfl⟩ := rx; exact SeqAt.EqAt.none_str b t
    | _ => exact absurd (show false = true from fx) Bool.false_ne_true
  | bl a =>
    cases ry
    cases x with
    | non => cases rx; exact SeqAt.EqAt.bool_none a
    | bl b => cases rx; exact SeqAt.EqAt.bool_bool a b
    | int b => obtain ⟨t, rfl⟩ := rx; exact SeqAt.EqAt.bool_int a b t
    | str b => obtain ⟨t, rfl⟩ := rx; exact SeqAt.EqAt.bool_str a b t
    | _ => exact absurd (show false = true from fx) Bool.false_ne_true
  | int a =>
    obtain ⟨t', rfl⟩ := ry
    cases x with
    | non => cases rx; exact SeqAt.EqAt.int_none a t'
    | bl b => cases rx; exact SeqAt.EqAt.int_bool a t' b
    | int b => obtain ⟨t, rfl⟩ := rx; exact SeqAt.EqAt.int_int a t' b t
    | str b => obtain ⟨t, rfl⟩ := rx; exact SeqAt.EqAt.int_str a t' b t
    | _ => exact absurd (show false = true from fx) Bool.false_ne_true
  | str a =>
    obtain ⟨t', rfl⟩ := ry
    cases x with
    | non => cases rx; exact SeqAt.EqAt.str_none a t'
    | bl b => cases rx; exact SeqAt.EqAt.str_bool a t' b
    | int b => obtain ⟨t, rfl⟩ := rx; exact SeqAt.EqAt.str_int a t' b t
    | str b => obtain ⟨t, rfl⟩ := rx; exact SeqAt.EqAt.str_str a t' b t
    | _ => exact absurd (show false = true from fx) Bool.false_ne_true
  | _ => exact absurd (show false = true from fy) Bool.false_ne_true
theorem call_len_seq : CallR X (.builtin "len") (fun xs H Q => ∃ p ys, xs = [.ref p] ∧ (SqL X.K H p ys ∨ SqT X.K H p ys) ∧ Q (.int ys.length) H) := by
  intro pins s σ H xs us Q I r h
  obtain ⟨p, ys, rfl, hq, q⟩ := h
  obtain ⟨u, rfl, rx⟩ := vals1 r
  cases rx
  have hn := line63
  rcases hq with hq | hq
  · obtain ⟨its, r', pl, hz⟩ := I.list hq
    have hlen := r'.length
    exact Calls.call_len_list pl.isList (by simp only [List.size_toArray] <;> omega) ⟨.int ys.length, H, I.tok _, ⟨s.toks + 1, by rw [List.size_toArray, hlen]⟩, q⟩
  · obtain ⟨its, r', pl, hz⟩ := I.tuple hq
    have hlen := r'.length
    exact len_tuple pl (by simp only [List.size_toArray] <;> omega) ⟨.int ys.length, H, I.tok _, ⟨s.toks + 1, by rw [List.size_toArray, hlen]⟩, q⟩
theorem call_list_of : CallR X (.type "list") (fun xs H Q => ∃ p ys, xs = [.ref p] ∧ (SqL X.K H p ys ∨ SqT X.K H p ys) ∧ ∀ l, H l = none → Q (.ref l) (upd H l (.lst ys))) := by
  intro pins s σ H xs us Q I r h
  obtain ⟨p, ys, rfl, hq, q⟩ := h
  obtain ⟨u, rfl, rx⟩ := vals1 r
  cases rx
  have fin : ∀ (its : List Value), Vals ys its → ys.length ≤ sizeLine → ∀ (h' : Heap) (c' : Nat), (∀ b o', s.heap.get? b = some o' → h'.get? b = some o') →
      h'.get? s.heap.objs.size = some { cls := .type "list", dict := none, data := .seq its.toArray c', slots := #[] } → EP X pins σ Q (.ref s.heap.objs.size) { s with heap := h' } := fun its r' hz h' c' kp e =>
    ⟨.ref s.heap.objs.size, _, I.laid (t' := s.toks) kp (Nat.le_refl _) (show ObjOk X.prog X.w _ h' _ (.lst ys) from ⟨hz, its, c', r', e⟩), rfl, q _ (I.hok.fresh (Nat.le_refl _))⟩
  rcases hq with hq | hq
  · obtain ⟨its, r', pl, hz⟩ := I.list hq
    have hlen := r'.length
    obtain ⟨o, ho, hc, n, hd⟩ := pl.isList
    exact call_list_seq p (.inl rfl) ho hc hd (fun h' c' kp e => fin its r' hz h' c' kp e) (by simp only [List.size_toArray] <;> omega)
  · obtain ⟨its, r', pl, hz⟩ := I.tuple hq
    have hlen := r'.length
    obtain ⟨o, ho, hc, n, hd⟩ := pl
    exact call_list_seq p (.inr rfl) ho hc hd (fun h' c' kp e => fin its r' hz h' c' kp e) (by simp only [List.size_toArray] <;> omega)
variable {o e : Expr} {es : List Expr} {to : TE} {t : TA} {name : Str} {apos cpos : Pos} {T id : String} {r : V → List V → Hp → VK → Prop}
end
end L2
namespace L2
open PySem PySem.Spec PyProof.Rows
theorem Vals.one : ∀ {x : V} {us : List Value}, Vals [x] us → ∃ u, us = [u] ∧ RelV x u
  | _, _, .cons r .nil => ⟨_, rfl, r⟩
theorem Vals.zero : ∀ {us : List Value}, Vals [] us → us = []
  | _, .nil => rfl
theorem Vals.reverse {xs : List V} {us : List Value} (h : Vals xs us) : Vals xs.reverse us.reverse := by
  induction h with
  | nil => exact .nil
  | cons r t ih => rw [List.reverse_cons, List.reverse_cons]; exact Vals.append ih (.cons r .nil)
section
variable {X : Cx} {pins : List (Addr × Obj)} {σ : St} {H : Hp} {s : Shared} {l b : Addr} {xs ys zs : List V}
theorem Inv.fresh (I : Inv X pins σ H s) : H s.heap.objs.size = none := I.hok.fresh (Nat.le_refl _)
end
section
variable {X : Cx}
end
section
variable {prog : Program} {w : World} {A : Around} {E : Value → Shared → Prop} {s : Shared}
end
section
variable {X : Cx}
end
end L2
namespace Att
open PySem PySem.W PySem.Calls PyProof.Rows
theorem ints_of_wellAll {P : Params} {h : Heap} : ∀ (ns : List Int) (vs : List Value), WellAll P h vs (ns.map WData.int) → IntsAre vs ns := by
  intro ns
  induction ns with
  | nil =>
    intro vs w
    rw [List.map_nil] at w
    cases w
    exact .nil
  | cons n ns ih =>
    intro vs w
    rw [List.map_cons] at w
    cases w with
    | cons a b =>
      cases a
      exact .cons _ _ (ih _ b)
theorem script_of {l : OpenLaw} {n : Nat} (hn : l.most = some n) {P : Params} {h : Heap} {args : List WData} {vals : List Value}
    (hpre : l.row.toRowW.claim.pre args = true) (hwl : WellAll P h vals args) :
    ∃ a vs ns, vals = [Value.ref a] ∧ args = [WData.list (ns.map WData.int)] ∧ h.get? a = some { cls := .type "list", data := .seq vs.toArray } ∧ IntsAre vs ns ∧ ns.length ≤ n := by
  have hsh : WShape.hasAll [] args [.list .int] = true := (pre_splitW hpre).1
  have hc : l.pre.holds [] { args := args } = true := (pre_splitW hpre).2
  obtain ⟨d, r, rfl, h1, h2⟩ := hasAllW_cons hsh
  obtain rfl := hasAllW_nil h2
  obtain ⟨xs, rfl, h3⟩ := hasW_list h1
  obtain ⟨ns, rfl⟩ := items_int h3
  have hlen : ns.length ≤ n := by
    unfold OpenLaw.pre at hc
    have h4 : (WTm.not (.lt (.lit (.int (n : Int))) (.len (.arg 0)))).holds [] { args := [.list (ns.map .int)] } = true := by
      have h4 := (holds_andW hc).1
      rw [hn] at h4
      exact h4
    have h5 := condW_of h4 (w_not (w_lt w_lit (w_len_list (w_arg rfl))))
    rw [List.length_map] at h5
    refine Nat.le_of_not_lt fun q => ?_
    have q' : (n : Int) < ((ns.length : Nat) : Int) := by omega
    first
      | (rw [decide_eq_true q'] at h5; exact absurd h5 (by decide))
      | (simp at h5; omega)
  cases hwl with
  | cons w1 w2 =>
    cases w2
    cases w1 with
    | list ho hall => exact ⟨_, _, ns, rfl, rfl, ho, ints_of_wellAll ns _ hall, hlen⟩
theorem post_true (l : OpenLaw) (args : List WData) : l.row.toRowW.claim.post args (.bool true) args = true :=
  postW_of (r := l.row.toRowW) (X := (true == true))
    (show WShape.has [] (.bool true) .bool = true by first | rfl | decide | simp [WShape.has, WShape.arms, WShape.armsAll])
    (show (WTm.eq .res (.lit (.bool true))).value [] { args := args, res := some (.bool true), after := args } = some (.bool (true == true)) from w_eq_bool (w_res rfl) w_lit) rfl
theorem attach_call {l : OpenLaw} {n : Nat} {q : Program} {loose : List Str} {XP : (Str → Option Value) → Heap → Prop} {YP : World → Heap → Prop} {d : DefRec}
    (hn : l.most = some n) (hdf : d.params.defaults = [])
    (call : ∀ (w : World) (s₀ s₁ : Shared) (mg mb : Str → Option Value) (fa : Addr) (o : Obj) (pm cd doc : Value) (a : Addr) (vs : List Value) (ns : List Int),
      Ground q loose [] XP w s₀ mg mb s₁.heap → YP w s₁.heap →
      s₁.heap.get? fa = some o → o.data = .func (docDef d.name d.params d.body d.scope pm cd doc) → s₁.heap.CodeRec cd d.name → mg d.name = some (.ref fa) →
      s₁.heap.get? a = some { cls := .type "list", data := .seq vs.toArray } → IntsAre vs ns → ns.length ≤ n → s₁.gens = #[] →
      codeAny (model l.prog w) callerA (.call (.ref fa) ⟨[.ref a], []⟩) (fun r s' => r = .ok (.ret (.bool true)) ∧ OldK s₁.heap s'.heap ∧ s'.os = s₁.os ∧ AllBare s'.gens) s₁) :
    WalkO q loose XP YP l.row.toRowW d [] (fun f vs => PySem.call f vs) := by
  intro w s₀ s₁ mg mb G Y fa o pm cd doc dV kV ho hd hcd hD hmg hg args vals as hpre hlay hrd hwl hlo
  obtain rfl : dV = .none := Dflts.none hD hdf
  obtain rfl : kV = .none := Dflts.noKw hD
  obtain ⟨a, vs, ns, rfl, rfl, hobj, hints, hlen⟩ := script_of hn hpre hwl
  refine enter_call (codeAny_mono (call w s₀ s₁ mg mb fa o pm cd doc a vs ns G Y ho (fd_plain hd) hcd hmg hobj hints hlen hg) fun r s' hq => ?_)
  obtain ⟨rfl, h2, h3, h4⟩ := hq
  exact ⟨.inl ⟨.bool true, .bool true, [], rfl, fun _ => rfl, .bool true, post_true l _, fun _ => ⟨List.Pairwise.nil, fun _ hm => (nomatch hm)⟩⟩, h2, h3, h4⟩
section
variable {prog : Program} {w : World} {A : Around} {E : Value → Shared → Prop} {s : Shared} {K : Frag}
end
end Att
namespace L2
open PySem PySem.Spec PyProof.Rows
theorem vals_ints : ∀ {vs : List Value} {ns : List Int}, IntsAre vs ns → Vals (ns.map V.int) vs
  | _, _, .nil => .nil
  | _, _, .cons n t h => .cons ⟨t, rfl⟩ (vals_ints h)
def Only (H : Hp) : Prop := ∀ b, H b = none ∨ ∃ o xs, H b = some (.frz o (.lst xs))
theorem law_call {P : Program} {w : World} {K : PySem.W.Frag} {mg mb : Str → Option Value} {CX : CXT} {k : Nat} {fa a : Addr} {fd : FuncData} {x : Str} {sp : Sp} {s₁ : Shared} {vs : List Value} {ns : List Int}
    (KX : K.In s₁.heap) (hns : s₁.heap.Ns mainGlobals mg) (hb : s₁.heap.Ns builtinsNs mb) (hbb : ∀ x : Str, x ≠ "__name__" → mb x = bootBuiltins x) (hlim : s₁.heap.NoLimit) (hg : s₁.gens = #[])
    (ha : s₁.heap.get? a = some { cls := .type "list", data := .seq vs.toArray }) (hi : IntsAre vs ns) (hl : ns.length ≤ sizeLine) (hr : Room k callerA)
    (F : ∀ base : Heap, K.In base → base.Ns mainGlobals mg → FnOk P w K mg base CX k fa fd [x] sp) (hbind : ∀ (s : Shared) (u : Value), BindsTo s fd ⟨[u], []⟩ [(x, u)])
    (hsp : ∀ H : Hp, Only H → SqL K H a (ns.map V.int) → sp [.ref a] H (fun v _ => v = .bl true) fun _ _ _ => False)
    (hCX : ∀ H e s', CX [] H s₁ (fun _ _ _ => False) e s' → False) :
    codeAny (model P w) callerA (.call (.ref fa) ⟨[.ref a], []⟩) (fun r s' => r = .ok (.ret (.bool true)) ∧ OldK s₁.heap s'.heap ∧ s'.os = s₁.os ∧ AllBare s'.gens) s₁ := by
  have rv := vals_ints hi
  have lenV := hi.length
  have core : ∀ H : Hp, Only H → SqL K H a (ns.map V.int) → HOk P w H s₁.heap → (∀ b, H b ≠ none → b = a) → (H a ≠ none → K.lookup a = none) →
      codeAny (model P w) callerA (.call (.ref fa) ⟨[.ref a], []⟩) (fun r s' => r = .ok (.ret (.bool true)) ∧ OldK s₁.heap s'.heap ∧ s'.os = s₁.os ∧ AllBare s'.gens) s₁ := by
    intro H hO hS hok hA hK
    have base_of : ∀ {b : Addr} {o : Obj}, s₁.heap.get? b = some o → H b = none → (hidT s₁.heap H).get? b = some o := fun e n => hidT_get e n
    have noA : ∀ {b : Addr} {o : Obj} {es : Array DictEntry} {ep : Nat}, s₁.heap.get? b = some o → o.data = .dict es ep → H b = none := fun {b o es ep} e d => by
      cases q : H b with
      | none => rfl
      | some u =>
        have e' : b = a := hA b (by rw [q]; simp)
        subst e'
        rw [ha] at e; cases e
        have d' : Data.seq vs.toArray _ = Data.dict es ep := d
        cases d'
    have nsK : ∀ {b : Addr} {m : Str → Option Value}, s₁.heap.Ns b m → (hidT s₁.heap H).Ns b m := fun {b m} ⟨o, es, ep, e, d, r⟩ => ⟨o, es, ep, base_of e (noA e d), d, r⟩
    have hKb : K.In (hidT s₁.heap H) := fun b o e => base_of (KX b o e) (by
      cases q : H b with
      | none => rfl
      | some u =>
        have e' : b = a := hA b (by rw [q]; simp)
        subst e'
        rw [hK (by rw [q]; simp)] at e; cases e)
    have hM : Mod K mg (hidT s₁.heap H) := ⟨hKb, nsK hns, ⟨mb, nsK hb, hbb⟩, let ⟨mc, h1, h2⟩ := hlim; ⟨mc, nsK h1, h2⟩⟩
    have e0 : Env0 P w K mg (hidT s₁.heap H) callerA [] s₁ H := ⟨rfl, hM, fun b o e => of_hidT e, Nat.le_of_eq (hidT_size _ _), trivial, fun b hb => absurd (show b ∈ ([] : List Addr) from hb) (by simp), hok, .of_eq hg⟩
    refine codeAny_mono ((F _ hKb (nsK hns)).run callerA [] s₁ H ⟨[.ref a], []⟩ [.ref a] [.ref a] _ _ hr e0 (hbind s₁ (.ref a)) (.cons rfl .nil) (hsp H hO hS)) fun r s' h => ?_
    cases r with
    | error e => exact (hCX H e s' h).elim
    | ok fl =>
      cases fl with
      | next => exact False.elim h
      | brk => exact False.elim h
      | cont => exact False.elim h
      | ret u =>
        obtain ⟨v, H', os, bare, un, hok', r', q⟩ := h
        have q' : v = .bl true := q
        subst q'
        obtain rfl : u = Value.bool true := r'
        refine ⟨rfl, OldK.of_keep fun b o e => ?_, os, bare⟩
        cases q : H b with
        | none => exact un.keep b o e q (by intro z; exact absurd (show b ∈ ([] : List Addr) from z) (by simp)) (by simp)
        | some u =>
          rcases hO b with z | ⟨ob, xs, z⟩
          · rw [q] at z; cases z
          · have z2 := un.frzs b ob _ z
            obtain ⟨e1, _⟩ := hok b _ z
            obtain ⟨e2, _⟩ := hok' b _ z2
            rw [e] at e1; cases e1
            exact e2
  cases hk : K.lookup a with
  | some o =>
    have e := KX a o hk
    rw [ha] at e
    cases e
    refine core (fun _ => none) (fun _ => .inl rfl) (.inr ⟨_, vs.toArray, _, hk, rfl, rfl, rfl, by rw [List.size_toArray, lenV]; exact hl, by simpa using rv⟩) (fun b u z => by have z' : (none : Option HO) = some u := z; cases z') (fun b z => absurd rfl z) fun z => absurd rfl z
  | none =>
    refine core (fun b => if b = a then some (.frz { cls := .type "list", data := .seq vs.toArray } (.lst (ns.map V.int))) else none) (fun b => ?_) (.inl (.inr ⟨{ cls := .type "list", data := .seq vs.toArray }, if_pos rfl⟩)) (fun b u z => ?_) (fun b z => ?_) fun _ => hk
    · by_cases hb : b = a
      · exact .inr ⟨_, _, if_pos hb⟩
      · exact .inl (if_neg hb)
    · by_cases hb : b = a
      · have z' := (if_pos hb).symm.trans z
        cases z'
        subst hb
        exact ⟨ha, by rw [List.length_map]; exact hl, vs, _, rv, ha⟩
      · have z' := (if_neg hb).symm.trans z
        cases z'
    · by_cases hb : b = a
      · exact hb
      · exact absurd (if_neg hb) z
end L2
namespace L2
open PySem PySem.Spec PyProof.Rows
theorem walk_of {l : PySem.W.OpenLaw} {n k : Nat} {q : Program} {loose : List Str} {XP : (Str → Option Value) → Heap → Prop} {YP : World → Heap → Prop} {d : DefRec} {K : Params → PySem.W.Frag} {CX : World → CXT} {sp : World → Sp} {x : Str}
    (hn : l.most = some n) (hn2 : n ≤ sizeLine) (hdf : d.params.defaults = []) (hr : Room k callerA)
    (hY : ∀ (w : World) (h : Heap), YP w h → (K w.params).In h)
    (F : ∀ (w : World) (mg : Str → Option Value) (fa : Addr) (h : Heap), (K w.params).In h → h.Ns mainGlobals mg → mg d.name = some (.ref fa) →
      ∃ fd : FuncData, (∀ (s : Shared) (u : Value), BindsTo s fd ⟨[u], []⟩ [(x, u)]) ∧
        ∀ base : Heap, (K w.params).In base → base.Ns mainGlobals mg → FnOk l.prog w (K w.params) mg base (CX w) k fa fd [x] (sp w))
    (hsp : ∀ (w : World) (H : Hp) (a : Addr) (ns : List Int), ns.length ≤ n → Only H → SqL (K w.params) H a (ns.map V.int) → sp w [.ref a] H (fun v _ => v = .bl true) fun _ _ _ => False)
    (hCX : ∀ (w : World) (H : Hp) (s : Shared) (e : Value) (s' : Shared), CX w [] H s (fun _ _ _ => False) e s' → False) :
    PySem.W.WalkO q loose XP YP l.row.toRowW d [] (fun f vs => PySem.call f vs) := by
  refine Att.attach_call hn hdf fun w s₀ s₁ mg mb fa o pm cd doc a vs ns G Y ho hd hcd hmg hobj hints hlen hg => ?_
  have KX := hY w _ Y
  obtain ⟨fd, hb, hF⟩ := F w mg fa _ KX G.T.g hmg
  exact law_call KX G.T.g G.T.b G.T.builtins G.T.nolimit hg hobj hints (Nat.le_trans hlen hn2) hr hF hb (fun H hO hS => hsp w H a ns hlen hO hS) fun H e s' => hCX w H s₁ e s'
end L2
namespace L2
open PySem PySem.Spec PyProof.Rows
def defArgs (s : Stmt) : Arguments := match s with
  | .FunctionDef _ a _ _ _ _ _ _ _ _ => a
  | _ => { posonlyargs := [], args := [], vararg := none, kwonlyargs := [], kw_defaults := [], kwarg := none, defaults := [] }
def defBody (s : Stmt) : List Stmt := match s with
  | .FunctionDef _ _ b _ _ _ _ _ _ _ => b
  | _ => []
def defScope (s : Stmt) : Scope := match s with
  | .FunctionDef _ _ _ _ _ _ sc _ _ _ => sc
  | _ => { kind := .function, names := [], isGenerator := false, isCoroutine := false }
abbrev CX0 : CXT := fun _ _ _ _ _ _ => False
abbrev E0 : XK := fun _ _ _ => False
theorem pass0 {X : Cx} : Passes CX0 X E0 := fun _ _ _ _ _ _ _ h => h.elim
structure Fun (K : PySem.W.Frag) (x qual : Str) (st : Stmt) (f : Addr) (fd : FuncData) : Prop where
  ex : ∃ (oc : Value) (od : Option Addr) (kV doc pm : Value) (an : Option Addr) (cdv ct : Value) (osl : Array (Option Value)),
    fd = PySem.W.fnOf x qual (defArgs st) (defBody st) (defScope st) .none kV doc pm an cdv ct ∧ K.lookup f = some ⟨oc, od, .func fd, osl⟩ ∧ PySem.W.codeIn K cdv qual = true
  kp : PySem.W.keepIn K (.ref f) = true
section
variable {P : Program} {w : World} {K : PySem.W.Frag} {mg : Str → Option Value} {base : Heap}
theorem Fun.ok {x qual : Str} {st : Stmt} {f : Addr} {fd : FuncData} {N ps : List Str} {k : Nat} {sp : Sp} (F : Fun K x qual st f fd) (S : FnScope N ps (defScope st)) (len : ∀ vs H Q E, sp vs H Q E → vs.length = ps.length)
    (hbody : ∀ (cdv : Value) (A : Around) (outer : List Env) (s : Shared) (H : Hp) (vs : List V) (Q : VK) (E : XK), Room k (A.deeper (envOfC qual (defScope st) s.heap.objs.size f cdv)) → sp vs H Q E →
      ∃ t, PSs (cxOf CX0 P w K mg base N qual (defScope st) f cdv A outer s H E).nox (defBody st) t ∧ t { nx := fun _ H' => Q .non H', rt := Q } (start N vs) H) : FnOk P w K mg base CX0 (k + 1) f fd ps sp := by
  obtain ⟨oc, od, kV, doc, pm, an, cdv, ct, osl, rfl, lk, hcd⟩ := F.ex
  refine fn_of lk hcd S len fun A outer s H vs Q E hr hsp => ?_
  obtain ⟨t, h, q⟩ := hbody cdv A outer s H vs Q E hr hsp
  exact ⟨t, h.nox, q⟩
theorem Fun.binds {x qual : Str} {st : Stmt} {f : Addr} {fd : FuncData} {ps : List Str} (F : Fun K x qual st f fd)
    (h : ∀ (kV doc pm : Value) (an : Option Addr) (cdv ct : Value) (us : List Value), us.length = ps.length → bindArgs (PySem.W.fnOf x qual (defArgs st) (defBody st) (defScope st) .none kV doc pm an cdv ct) ⟨us, []⟩ = pure (ps.zip us)) : Binds K fd ps [] := by
  obtain ⟨oc, od, kV, doc, pm, an, cdv, ct, osl, rfl, lk, hcd⟩ := F.ex
  exact .all (h kV doc pm an cdv ct)
theorem fun_mk {x qual : Str} {st : Stmt} {f : Addr} {oc : Value} {od an : Option Addr} {osl : Array (Option Value)} {kV doc pm cdv ct : Value} (l : K.lookup f = some ⟨oc, od, .func (PySem.W.fnOf x qual (defArgs st) (defBody st) (defScope st) .none kV doc pm an cdv ct), osl⟩)
    (c : PySem.W.codeIn K cdv qual = true) (k : PySem.W.keepIn K (.ref f) = true) : Fun K x qual st f (PySem.W.fnOf x qual (defArgs st) (defBody st) (defScope st) .none kV doc pm an cdv ct) := ⟨⟨oc, od, kV, doc, pm, an, cdv, ct, osl, rfl, l, c⟩, k⟩
end
theorem hu_of {A : Around} {k : Nat} (hr : Room k A) : A.units + 1 < cLine := Nat.lt_of_le_of_lt (Nat.add_le_add_left (by decide : 1 ≤ 64) _) hr.units
section
variable {X : Cx}
theorem pv (i : Nat) {x : Str} {pos : Pos} (hN : X.N[i]? = some x := by rfl) (hv : Vis X.env.scope x := by first | exact Or.inl rfl | exact Or.inr (Or.inl rfl) | exact Or.inr (Or.inr rfl)) (hd : (x == ("__debug__" : Str)) = false := by decide)
    (hcd : (x == ("__classdict__" : Str)) = false := by decide) : PE X (.Name x pos) (tVar i) := pe_var hN hv hd hcd
end
theorem iteF {A B : Prop} (h : B) : if false = true then A else B := by
  rw [if_neg Bool.false_ne_true]
  exact h
theorem iteT {A B : Prop} (h : A) : if true = true then A else B := by
  rw [if_pos rfl]
  exact h
def Same (H H' : Hp) : Prop := ∀ b o, H b = some o → H' b = some o
theorem Same.refl (H : Hp) : Same H H := fun _ _ h => h
theorem Same.trans {H H1 H2 : Hp} (a : Same H H1) (b : Same H1 H2) : Same H H2 := fun c o h => b c o (a c o h)
theorem Same.free {H H' : Hp} (e : Same H H') {l : Addr} (h : H' l = Option.none) : H l = Option.none := by
  cases q : H l with
  | none => rfl
  | some o =>
    rw [e l o q] at h
    cases h
theorem Same.seq {K : PySem.W.Frag} {H H' : Hp} {a : Addr} {xs : List V} (e : Same H H') (h : SqL K H a xs) : SqL K H' a xs := by
  rcases h with (h | ⟨o, h⟩) | h
  · exact .inl (.inl (e _ _ h))
  · exact .inl (.inr ⟨o, e _ _ h⟩)
  · exact .inr h
end L2
namespace L2
open PySem PySem.Spec PyProof.Rows
section
variable {X : Cx}
end
section
variable {κ : Type} [DecidableEq κ]
end
end L2
set_option Elab.async false
set_option linter.all false
set_option maxRecDepth 100000
set_option maxHeartbeats 4000000
namespace L2
open PySem PySem.Spec PyProof.Rows
def CMulB (i j : Int) : Prop := ∃ n : Nat, n ≤ 60000000 ∧ i.natAbs < 2 ^ n ∧ j.natAbs < 2 ^ n
theorem bits_le {x : Int} {n : Nat} (h : x.natAbs < 2 ^ n) : Builtin.Int.intBits x ≤ n := by
  unfold Builtin.Int.intBits
  by_cases e : (x == 0) = true
  · rw [if_pos e]; exact Nat.zero_le _
  · rw [if_neg e]
    have hx : x.natAbs ≠ 0 := by
      intro z
      have : x = 0 := by omega
      rw [this] at e
      exact e rfl
    exact (Nat.log2_lt hx).mpr h
theorem CMulB.ok {i j : Int} (h : CMulB i j) : IntMulOk i j := by
  obtain ⟨n, hn, h1, h2⟩ := h
  have b1 := bits_le h1
  have b2 := bits_le h2
  intro z
  simp only [Bool.and_eq_true, Builtin.Int.intTooBig, decide_eq_true_eq] at z
  have e : (bitsLine : Nat) = 134217728 := by decide
  have z2 := z.2
  rw [e] at z2
  omega
def CMulX (i j : Int) : Prop := CMul i j ∨ CMulB i j
def CDivB (_ j : Int) : Prop := j ≠ 0 ∧ j.natAbs < 2 ^ 8000
theorem CDivB.ok {i j : Int} (h : CDivB i j) : Builtin.divisionGoesByPylong i j = false := by
  refine PyProof.noPylong_of_log2 ?_
  have hx : j.natAbs ≠ 0 := by have := h.1; omega
  have := (Nat.log2_lt hx).mpr h.2
  omega
section
variable {X : Cx}
theorem op_mulB : OpR X (binaryOp .Mult) (rI CMulX fun i j => .int (i * j)) := opI fun _ _ _ _ _ _ _ hc q => mul_int q (hc.elim CMul.ok CMulB.ok)
theorem op_fdivB : OpR X (binaryOp .FloorDiv) (rI CDivB fun i j => .int (i.fdiv j)) := opI fun _ _ _ _ _ _ _ hc q => floordiv_int hc.1 q (.inl hc.ok)
end
section
variable {X : Cx} {pins : List (Addr × Obj)} {σ : St} {H : Hp} {s : Shared} {a : Addr} {kvs : List (Key × V)}
theorem Inv.freeze (I : Inv X pins σ H s) (e : H a = some (.dK kvs)) : ∃ o, s.heap.get? a = some o ∧ Inv X pins σ (upd H a (.frz o (.dK kvs))) s := by
  have ok : ObjOk X.prog X.w H s.heap a (.dK kvs) := I.hok a _ e
  obtain ⟨z, y, vs, r, o, es, ep, ho, c⟩ := id ok
  refine ⟨o, ho, ?_⟩
  exact I.write (h' := s.heap) (t' := s.toks) (x := a) (e := a) (by rw [e]; exact True.intro) (.inl rfl) (fun _ _ _ q => q) ⟨o, ho⟩ ⟨ho, z, y, vs, r, o, es, ep, ho, c⟩
theorem Inv.thaw {o : Obj} (I : Inv X pins σ H s) (e : H a = some (.frz o (.dK kvs))) (hn : ∀ o u, X.H₀ a ≠ some (.frz o u)) : Inv X pins σ (upd H a (.dK kvs)) s := by
  have ne : ∀ b u, H b = some u → (∀ o u', u ≠ .frz o u') → b ≠ a := fun b u h d z => by
    subst z
    rw [e] at h
    exact d _ _ (Option.some.inj h).symm
  obtain ⟨ho, ok⟩ := (show ObjOk X.prog X.w H s.heap a (.frz o (.dK kvs)) from I.hok a _ e)
  refine ⟨I.ok, I.os, I.bare, ⟨fun b ob q n hb hx => I.base.keep b ob q n hb hx, fun b ob q n hb hx => I.base.slot b ob q n hb hx, fun b ob q n hx => ?_, fun b ob q hx => I.base.there b ob q hx, fun b xs q => ?_, fun b ob u q => ?_, fun b ps q => ?_⟩, I.loc, I.cell, ?_, fun x c q => ?_, fun p hp => ?_, fun b u q => ?_, I.len⟩
  · have z := I.base.free b ob q n hx
    rw [upd_ne (by intro y; subst y; rw [e] at z; cases z)]
    exact z
  · have z := I.base.tups b xs q
    rw [upd_ne (ne b _ z (fun _ _ y => by cases y))]
    exact z
  · have z := I.base.frzs b ob u q
    rw [upd_ne (by intro y; subst y; exact hn _ _ q)]
    exact z
  · obtain ⟨m, z⟩ := I.base.tbls b ps q
    exact ⟨m, by rw [upd_ne (ne b _ z (fun _ _ y => by cases y))]; exact z⟩
  · rw [upd_ne (by intro y; have z := I.free; rw [y, e] at z; cases z)]
    exact I.free
  · rw [upd_ne (by intro y; have z := I.freeC x c q; rw [y, e] at z; cases z)]
    exact I.freeC x c q
  · obtain ⟨p1, p2, p3, p4, p5⟩ := I.pin p hp
    refine ⟨p1, ?_, p3, p4, p5⟩
    rw [upd_ne (by intro y; rw [y, e] at p2; cases p2)]
    exact p2
  · by_cases hb : b = a
    · subst hb
      rw [upd_same] at q
      cases q
      exact ok
    · rw [upd_ne hb] at q
      exact (I.hok b u q).stay (fun _ _ _ z => z) (fun c z => by rw [upd_ne (ne c _ z (fun _ _ y => by cases y))]; exact z) fun c xs z => by rw [upd_ne (ne c _ z (fun _ _ y => by cases y))]; exact z
end
def Itd (a : Addr) (ob : Obj) (kvs : List (Key × V)) : It :=
  ⟨fun i H => i < kvs.length ∧ H a = some (.frz ob (.dK kvs)), fun i H x H' => ∃ p k v, kvs[i]? = some (k, v) ∧ H p = none ∧ x = .ref p ∧ H' = upd H p (.tup [kV k, v]), fun i H => kvs.length ≤ i ∧ H a = some (.frz ob (.dK kvs))⟩
theorem kV_of_is {P : Program} {w : World} {k : Key} {u : Value} (h : (mixKind P w).is k u = true) : RelV (kV k) u := by
  rcases keyIs_shape (k := k) (v := u) h with ⟨i, t, rfl, rfl⟩ | ⟨x, t, rfl, rfl⟩
  · exact ⟨t, rfl⟩
  · exact ⟨t, rfl⟩
theorem KV.at {kvs : List (Key × V)} {vs : List (Key × Value)} (r : KV kvs vs) : ∀ {i : Nat} {k : Key} {v : V}, kvs[i]? = some (k, v) → ∃ u, vs[i]? = some (k, u) ∧ RelV v u := by
  unfold KV at r
  induction r with
  | nil => intro i k v h; simp at h
  | @cons p q ps qs h t ih =>
    intro i k v e
    cases i with
    | zero =>
      simp at e
      subst e
      have e1 : k = q.1 := h.1
      exact ⟨q.2, by rw [e1]; rfl, h.2⟩
    | succ i => simpa using ih (i := i) (k := k) (v := v) (by simpa using e)
theorem turn_items {P : Program} {w : World} {K : PySem.W.Frag} {elts : List Expr} {x1 : Nat} {pos : Pos} (a it : Addr) (ob : Obj) (kvs : List (Key × V)) (hne : a ≠ it) :
    Turn P w K (.Tuple elts x1 pos) (Itd a ob kvs) [it] it (fun i h => ∃ es ep ok ov, ob.data = .dict es ep ∧ IsItemIter h it a i kvs.length ep ok ov) where
  mem := by simp
  obj := fun i h st b hb => by
    have e : b = it := by simpa using hb
    subst e
    obtain ⟨es, ep, ok, ov, hd, e⟩ := st
    exact ⟨_, e, fun v z => by cases z⟩
  keep := fun i h h' st k => by
    obtain ⟨es, ep, ok, ov, hd, e⟩ := st
    exact ⟨es, ep, ok, ov, hd, k it (by simp) _ e⟩
  item := by
    intro X hP hw hK hc i pins s σ H E I hf st hg
    subst hP hw hK
    obtain ⟨es, ep, ok, ov, hd, hit⟩ := st
    obtain ⟨hi, hH⟩ := hg
    obtain ⟨ho, z, y, vs, r, o', es', ep', ho', c1, c2, c3, c4, c5⟩ := (show ObjOk X.prog X.w H s.heap a (.frz ob (.dK kvs)) from I.hok a _ hH)
    have eo : o' = ob := by rw [ho] at ho'; exact (Option.some.inj ho').symm
    subst eo
    rw [hd] at c2
    cases c2
    have hm : s.heap.DictAt (mixKind X.prog X.w) a vs ep := ⟨o', es, ho, c1, hd, c3, c4, c5⟩
    obtain ⟨⟨k, v⟩, hkv⟩ : ∃ q, kvs[i]? = some q := ⟨kvs[i], by simp [hi]⟩
    obtain ⟨u, hu, ru⟩ := r.at hkv
    have hl : kvs.length = vs.length := KV.length r
    rw [hl] at hit
    obtain ⟨f0, f1, f2, f3, f4, f5⟩ := hf it (by simp)
    refine wpAny_pyNext_items_item hit hm hu fun key h' hkey hout hT hsz hk => ?_
    refine ⟨.ref s.heap.objs.size, rfl, wpAny_letOwnedTupleGo_items hout fun h2 he hs => ?_⟩
    have lit : it < s.heap.objs.size := Heap.lt_size hit
    have I1 := I.laid (a := s.heap.objs.size) (o := .tup [kV k, v]) (h' := s.heap.push { cls := .type "tuple", data := .seq #[key, u] }) (t' := s.toks) (fun b q hq => Heap.get?_push_of_some _ hq) (Nat.le_refl _)
      ⟨by show 2 ≤ sizeLine; decide, [key, u], .cons (kV_of_is hkey) (.cons ru .nil), ⟨_, Heap.get?_push_size _ rfl, rfl, _, rfl⟩⟩
    have hfr : H s.heap.objs.size = none := I.hok.fresh (Nat.le_refl _)
    have nit : it ≠ s.heap.objs.size := Nat.ne_of_lt lit
    refine ⟨.ref s.heap.objs.size, upd H s.heap.objs.size (.tup [kV k, v]), ?_, rfl, ⟨_, k, v, hkv, hfr, rfl, rfl⟩, ⟨es, ep, key, u, hd, by rw [hl]; exact he⟩, fun b hb => ?_⟩
    · have I2 : Inv X pins σ (upd H s.heap.objs.size (.tup [kV k, v])) { s with heap := h2, toks := s.toks } := Inv.turned (s := { s with heap := s.heap.push { cls := .type "tuple", data := .seq #[key, u] }, toks := s.toks }) I1 (h' := h2) (t' := s.toks) (it := it) (fun b q hb hq => ?_) (by rw [upd_ne nit]; exact f0) f1 f3 f4 f5
      · exact I2
      · refine hs.extBut b q hb ?_
        rcases Heap.get?_push_cases hq with ⟨hbs, eq⟩ | hq
        · subst hbs
          subst eq
          exact hT
        · exact hk b q hb hq
    · have e : b = it := by simpa using hb
      subst e
      rw [upd_ne nit]
      exact f0
  done := by
    intro X hP hw hK hc i pins s σ H E I hf st hg
    subst hP hw hK
    obtain ⟨es, ep, ok, ov, hd, hit⟩ := st
    obtain ⟨hi, hH⟩ := hg
    obtain ⟨ho, z, y, vs, r, o', es', ep', ho', c1, c2, c3, c4, c5⟩ := (show ObjOk X.prog X.w H s.heap a (.frz ob (.dK kvs)) from I.hok a _ hH)
    have eo : o' = ob := by rw [ho] at ho'; exact (Option.some.inj ho').symm
    subst eo
    rw [hd] at c2
    cases c2
    have hm : s.heap.DictAt (mixKind X.prog X.w) a vs ep := ⟨o', es, ho, c1, hd, c3, c4, c5⟩
    have hl : kvs.length = vs.length := KV.length r
    rw [hl] at hit
    obtain ⟨f0, f1, f2, f3, f4, f5⟩ := hf it (by simp)
    exact wpAny_pyNext_items_end (I.ok.hd hc) hit hm (by simp; omega) fun h' eb => ⟨rfl, I.turned (t' := s.toks) (fun b o hb e => eb b o hb e) f0 f1 f3 f4 f5⟩
  self := fun A i s Q E st h => by
    obtain ⟨es, ep, ok, ov, hd, hit⟩ := st
    exact PySem.W.kcp_self hit h
section
variable {X : Cx}
def iItems (X : Cx) (td : TE) : TI := fun σ H R => td σ H fun x H1 => ∃ a kvs, x = .ref a ∧ H1 a = some (.dK kvs) ∧ ∀ ob, (∀ o u, X.H₀ a ≠ some (.frz o u)) → R (Itd a ob kvs) (upd H1 a (.frz ob (.dK kvs)))
theorem pi_items {o : Expr} {td : TE} {elts : List Expr} {x1 : Nat} {pos apos cpos : Pos} (ho : PE X o td) (hbase : attributeBase o "items" X.env (eval o X.env) = eval o X.env) (hline : (apos.endLine == cpos.line) = true) :
    PI X (.Tuple elts x1 pos) (.Call (.Attribute o "items" apos) [] [] cpos) (iItems X td) := by
  intro pins s σ H R I h
  refine wpAny_Call_method0_late hbase hline (thn (ho pins s σ H _ I h) fun v s1 ⟨x, H1, I1, r1, a, kvs, ex, hH, q⟩ => ?_)
  subst ex
  obtain rfl : v = Value.ref a := r1
  obtain ⟨t1, t2, hd⟩ := isD_at I1 (.inl ⟨kvs, .inl hH⟩)
  refine ⟨"dict", "dict.items", PySem.F.plainAttrs_dict, PySem.F.slot_dict_items, PySem.F.type_dict_items, t1, t2, Calls.callWith_builtin rfl (PySem.evalArgs_none ?_)⟩
  obtain ⟨z, y, vs, r, dd⟩ := dk_of I1.hok hH
  refine call_meetsIn PySem.F.slot_dict_items t1 PySem.F.entry_dict_items (PySem.F.args_dict_items_1 _) (meets_dict_items (mixKind X.prog X.w) a hd) ⟨⟨vs, dd⟩, ?_⟩
  have I2 : Inv X pins σ H1 { s1 with heap := s1.heap.push { cls := .type "dict_items", data := .fields #[.ref a] } } := I1.kept (t' := s1.toks) fun b o e => Heap.get?_push_of_some _ e
  have hna : ∀ o u, X.H₀ a ≠ some (.frz o u) := fun o u z => by
    have := I1.base.frzs a o u z
    rw [hH] at this
    cases this
  obtain ⟨ep, hat⟩ := dd.dictAt
  have hat2 := hat.push { cls := .type "dict_items", data := .fields #[.ref a] }
  refine wpAny_pyIter_items (v := s1.heap.objs.size) (d := a) ⟨_, Heap.get?_push_size _ rfl, rfl, rfl⟩ hat2 ?_
  obtain ⟨ob, hob, I3⟩ := (I2.kept (t' := s1.toks) (h' := (s1.heap.push { cls := .type "dict_items", data := .fields #[.ref a] }).push { cls := .type "dict_itemiterator", data := .fields #[.none, .bool false, .ref a, .int 0 0, .int vs.length 0, .int ep 0, .none, .none] }) fun b o e => Heap.get?_push_of_some _ e).freeze hH
  have la : a < (s1.heap.push { cls := .type "dict_items", data := .fields #[.ref a] }).objs.size := hat2.lt_size
  have hl : kvs.length = vs.length := KV.length r
  refine ⟨_, [_], _, _, upd H1 a (.frz ob (.dK kvs)), rfl, I3, turn_items a (s1.heap.push { cls := .type "dict_items", data := .fields #[.ref a] }).objs.size ob kvs (Nat.ne_of_lt la), ?_, fun b hb => ?_, q ob hna⟩
  · obtain ⟨o2, es, ho2, c1, c2, _⟩ := hat2
    have e3 : ob = o2 := by
      have e4 := Heap.get?_push_of_some { cls := .type "dict_itemiterator", data := .fields #[.none, .bool false, .ref a, .int 0 0, .int vs.length 0, .int ep 0, .none, .none] } ho2
      rw [e4] at hob
      exact (Option.some.inj hob).symm
    subst e3
    refine ⟨es, ep, .none, .none, c2, ?_⟩
    rw [hl]
    exact Heap.get?_push_size _ rfl
  · have e : b = (s1.heap.push { cls := .type "dict_items", data := .fields #[.ref a] }).objs.size := by simpa using hb
    subst e
    refine I2.fpOk (Nat.le_refl _) ?_
    rw [upd_ne (Nat.ne_of_gt la)]
    exact I2.hok.fresh (Nat.le_refl _)
def Thaw (X : Cx) (R : Hp → Prop) (H : Hp) : Prop := ∃ a ob kvs, H a = some (.frz ob (.dK kvs)) ∧ (∀ o u, X.H₀ a ≠ some (.frz o u)) ∧ R (upd H a (.dK kvs))
def ThawD (X : Cx) (D : Ends) : Ends := { nx := fun σ => Thaw X (D.nx σ), rt := fun v => Thaw X (D.rt v), bk := fun σ => Thaw X (D.bk σ), ct := fun σ => Thaw X (D.ct σ) }
def tForD (X : Cx) (td : TE) (g : TG) (tb : TS) : TS := fun D σ H => tFor (iItems X td) g tb (ThawD X D) σ H
theorem ps_forD {o : Expr} {td : TE} {elts : List Expr} {x1 : Nat} {pos apos cpos fpos : Pos} {body : List Stmt} {g : TG} {tb : TS} (hp : PassesOwn (model X.prog X.w) X.A X.env X.xe) (hc : X.calm = true) (ho : PE X o td)
    (hg : PG X (.Tuple elts x1 pos) g) (hb : PSs X body tb) (hbase : attributeBase o "items" X.env (eval o X.env) = eval o X.env := by rfl) (hline : (apos.endLine == cpos.line) = true := by rfl)
    (hs : ∀ x, foldedSetIterable (.Call (.Attribute o "items" apos) [] [] cpos) X.env x = pure x := by intro _; rfl) : PS X (.For (.Tuple elts x1 pos) (.Call (.Attribute o "items" apos) [] [] cpos) body [] fpos) (tForD X td g tb) := by
  intro pins s σ H D I h
  have base := ps_for (pos := fpos) hp hc (pi_items (elts := elts) (x1 := x1) (pos := pos) ho hbase hline) hg hb hs pins s σ H (ThawD X D) I h
  refine thn base fun f s' q => ?_
  cases f with
  | next => obtain ⟨σ', H', I', a, ob, kvs, e, hn, r⟩ := q; exact ⟨σ', _, I'.thaw e hn, r⟩
  | brk => obtain ⟨σ', H', I', a, ob, kvs, e, hn, r⟩ := q; exact ⟨σ', _, I'.thaw e hn, r⟩
  | cont => obtain ⟨σ', H', I', a, ob, kvs, e, hn, r⟩ := q; exact ⟨σ', _, I'.thaw e hn, r⟩
  | ret u => obtain ⟨v, σ', H', I', rv, a, ob, kvs, e, hn, r⟩ := q; exact ⟨v, σ', _, I'.thaw e hn, rv, r⟩
end
theorem for_items {a : Addr} {ob : Obj} {kvs : List (Key × V)} {g : TG} {tb : TS} {D : Ends} {σ : St} {H : Hp} (Pv : Nat → St → Hp → Prop) (h0 : Pv 0 σ H) (hl : ∀ i σ H, i ≤ kvs.length → Pv i σ H → H a = some (.frz ob (.dK kvs)))
    (hs : ∀ i k v σ H p, kvs[i]? = some (k, v) → Pv i σ H → H p = none → g (.ref p) σ (upd H p (.tup [kV k, v])) fun σ2 H2 => tb { D with nx := Pv (i + 1), ct := Pv (i + 1), bk := D.nx } σ2 H2) (hd : ∀ σ H, Pv kvs.length σ H → D.nx σ H) :
    ∃ W : Nat → Nat → St → Hp → Prop, (∃ m, W 0 m σ H) ∧ ∀ i m σ H, W i m σ H →
      ((Itd a ob kvs).stop i H ∧ D.nx σ H) ∨ ((Itd a ob kvs).go i H ∧ ∃ N : St → Hp → Prop, (∀ σ' H', N σ' H' → ∃ m', m' < m ∧ W (i + 1) m' σ' H') ∧ ∀ x H', (Itd a ob kvs).yld i H x H' → g x σ H' fun σ2 H2 => tb { D with nx := N, ct := N, bk := D.nx } σ2 H2) := by
  refine ⟨fun i m σ H => m = kvs.length - i ∧ i ≤ kvs.length ∧ Pv i σ H, ⟨kvs.length, by simp, Nat.zero_le _, h0⟩, ?_⟩
  rintro i m σ H ⟨rfl, hi, p⟩
  have q := hl i σ H hi p
  by_cases hlt : i < kvs.length
  · refine .inr ⟨⟨hlt, q⟩, Pv (i + 1), fun σ' H' p' => ⟨kvs.length - (i + 1), by omega, rfl, hlt, p'⟩, fun x H' y => ?_⟩
    obtain ⟨pa, k, v, e1, e2, rfl, rfl⟩ := y
    exact hs i k v σ H pa e1 p e2
  · have e : i = kvs.length := by omega
    subst e
    exact .inl ⟨⟨Nat.le_refl _, q⟩, hd σ H p⟩
section
variable {X : Cx}
theorem call_dictD : CallR X (.type "dict") (fun xs H Q => ∃ a kvs, xs = [.ref a] ∧ Rd H a (.dK kvs) ∧ ∀ p, H p = none → Q (.ref p) (upd H p (.dK kvs))) := by
  intro pins s σ H xs us Q I r h
  obtain ⟨a, kvs, rfl, ha, q⟩ := h
  obtain ⟨u, rfl, ru⟩ := vals1 r
  cases ru
  exact d_copyOf I ha fun p s' hp I' => ⟨.ref p, _, I', rfl, q p hp⟩
def clsV : V → Option Value
  | .ty n => some (.type n)
  | .ref a => some (.ref a)
  | _ => none
theorem call_isi : CallR X (.builtin "isinstance") (fun xs H Q => ∃ x c t b u, xs = [x, c] ∧ TyOf X.K H x t ∧ clsV c = some u ∧ PySem.W.kitOne X.K t u = some b ∧ Q (.bl b) H) := by
  intro pins s σ H xs us Q I r h
  obtain ⟨x, c, t, b, u, rfl, ty, rc, e, q⟩ := h
  obtain ⟨v, w', rfl, rx, rw'⟩ := vals2 r
  have ew : w' = u := by
    cases c with
    | ref a => cases rc; exact rw'
    | ty n => cases rc; exact rw'
    | non => cases rc
    | bl n => cases rc
    | int i => cases rc
    | str i => cases rc
    | byt i => cases rc
    | flt i => cases rc
  subst ew
  exact isinst_ok I rx ty e fun tk => ⟨.bl b, H, I.tok tk, rfl, q⟩
end
def All2 (R : V → V → Prop) : List V → List V → Prop
  | [], [] => True
  | x :: xs, y :: ys => R x y ∧ All2 R xs ys
  | _, _ => False
theorem All2.length {R : V → V → Prop} : ∀ {xs ys : List V}, All2 R xs ys → xs.length = ys.length
  | [], [], _ => rfl
  | _ :: xs, _ :: ys, h => by rw [List.length_cons, List.length_cons, All2.length h.2]
  | [], _ :: _, h => h.elim
  | _ :: _, [], h => h.elim
theorem All2.get {R : V → V → Prop} : ∀ {xs ys : List V} {j : Nat} {x y : V}, All2 R xs ys → xs[j]? = some x → ys[j]? = some y → R x y
  | x :: xs, y :: ys, 0, _, _, h, e1, e2 => by simp at e1 e2; subst e1 e2; exact h.1
  | _ :: xs, _ :: ys, j + 1, x, y, h, e1, e2 => All2.get (xs := xs) (ys := ys) (j := j) h.2 (by simpa using e1) (by simpa using e2)
  | [], [], _, _, _, _, e1, _ => by simp at e1
  | [], _ :: _, _, _, _, h, _, _ => h.elim
  | _ :: _, [], _, _, _, h, _, _ => h.elim
def EqT (K : PySem.W.Frag) (H : Hp) : Nat → V → V → Prop
  | 0, x, y => flatV x = true ∧ x = y
  | n + 1, x, y => (flatV x = true ∧ x = y) ∨ ∃ p q xs ys, x = .ref p ∧ y = .ref q ∧ ((SqT K H p xs ∧ SqT K H q ys) ∨ (SqL K H p xs ∧ SqL K H q ys)) ∧ All2 (EqT K H n) xs ys
theorem in1_units (A : Around) : A.in1.units = A.units + 1 := rfl
section
variable {X : Cx} {pins : List (Addr × Obj)} {σ : St} {H : Hp} {s : Shared}
end
section
variable {X : Cx}
def DEqT (K : PySem.W.Frag) (H : Hp) (n : Nat) (ka kb : List (Key × V)) : Prop := ka.length = kb.length ∧ ∀ k v, (k, v) ∈ ka → ∃ y, valV kb k = some y ∧ EqT K H n v y
end
end L2
namespace L2
open PySem PySem.Spec PyProof.Rows
section
variable {σ : St} {H : Hp} {Q : VK} {D : Ends} {K : PySem.W.Frag}
theorem a_seq {t u : TS} (h : t { D with nx := u D } σ H) : tSeq t u D σ H := h
theorem a_seqM {t u : TS} (M : St → Hp → Prop) (h1 : ∀ R : St → Hp → Prop, (∀ σ H, M σ H → R σ H) → t { D with nx := R } σ H) (h2 : ∀ σ H, M σ H → u D σ H) : tSeq t u D σ H := h1 (u D) h2
theorem a_asg {te : TE} {g : TG} (h : te σ H fun x H1 => g x σ H1 D.nx) : tAsg te g D σ H := h
theorem a_name {i : Nat} {v : V} {R : St → Hp → Prop} (h : R (σ.set i (some v)) H) : gName i v σ H R := h
theorem a_ret {te : TE} (h : te σ H D.rt) : tRet te D σ H := h
theorem a_drop {te : TE} (h : te σ H fun _ H1 => D.nx σ H1) : tDrop te D σ H := h
theorem a_next (h : D.nx σ H) : tNext D σ H := h
theorem a_if {c : TT} {t u : TS} (h : c σ H fun b H1 => if b = true then t D σ H1 else u D σ H1) : tIfS c t u D σ H := h
theorem a_var {i : Nat} {v : V} (e : σ[i]? = some (some v)) (h : Q v H) : tVar i σ H Q := ⟨v, e, h⟩
theorem a_c {v : V} (h : Q v H) : tC v σ H Q := h
theorem a_op {r : R2} {ta tb : TE} (h : ta σ H fun x H1 => tb σ H1 fun y H2 => r x y H2 Q) : tOp r ta tb σ H Q := h
theorem a_un {r : V → Hp → VK → Prop} {ta : TE} (h : ta σ H fun x H1 => r x H1 Q) : tUn r ta σ H Q := h
theorem a_I0 {g : Int → Int → V} {i j : Int} (h : Q (g i j) H) : rI0 g (.int i) (.int j) H Q := ⟨i, j, rfl, rfl, h⟩
theorem a_I {C : Int → Int → Prop} {g : Int → Int → V} {i j : Int} (c : C i j) (h : Q (g i j) H) : rI C g (.int i) (.int j) H Q := ⟨i, j, rfl, rfl, c, h⟩
theorem a_U {g : Int → V} {i : Int} (h : Q (g i) H) : rU g (.int i) H Q := ⟨i, rfl, h⟩
theorem a_test {t : TE} {R : Bool → Hp → Prop} (h : t σ H fun x H' => ∃ k, x = .bl k ∧ R k H') : tTest t σ H R := h
theorem a_tB {t : TE} {R : Bool → Hp → Prop} (h : t σ H fun x H' => ∃ k, x = .bl k ∧ R k H') : tB t σ H R := h
theorem a_bl {k : Bool} {R : Bool → Prop} (h : R k) : ∃ k', V.bl k = .bl k' ∧ R k' := ⟨k, rfl, h⟩
theorem a_eqI {i j : Int} (h : Q (.bl (decide (i = j))) H) : rEq (.int i) (.int j) H Q := ⟨rfl, by rw [dec_int, Bool.beq_eq_decide_eq]; exact h⟩
theorem a_neI {i j : Int} (h : Q (.bl (!decide (i = j))) H) : rNe (.int i) (.int j) H Q := ⟨rfl, by rw [dec_int, Bool.beq_eq_decide_eq]; exact h⟩
theorem a_eqB {i j : Bool} (h : Q (.bl (i == j)) H) : rEq (.bl i) (.bl j) H Q := ⟨rfl, by rw [dec_bl]; exact h⟩
theorem a_neB {i j : Bool} (h : Q (.bl (!(i == j))) H) : rNe (.bl i) (.bl j) H Q := ⟨rfl, by rw [dec_bl]; exact h⟩
theorem a_call {sp : Sp} {dvs : List V} {E : XK} {t : TA} (h : t σ H fun vs H1 => sp (vs ++ dvs) H1 Q E) : tCall sp dvs E t σ H Q := h
theorem a_cons {ta : TE} {tr : TA} {R : List V → Hp → Prop} (h : ta σ H fun x H1 => tr σ H1 fun xs H2 => R (x :: xs) H2) : tCons ta tr σ H R := h
theorem a_nil {R : List V → Hp → Prop} (h : R [] H) : tNil σ H R := h
theorem a_cb {r : List V → Hp → VK → Prop} {t : TA} (h : t σ H fun vs H1 => r vs H1 Q) : tCB r t σ H Q := h
theorem a_tup {t : TA} (h : t σ H fun xs H1 => xs.length ≤ sizeLine ∧ ∀ p, H1 p = none → Q (.ref p) (upd H1 p (.tup xs))) : tTup t σ H Q := h
theorem a_lst {t : TA} (h : t σ H fun xs H1 => xs.length ≤ sizeLine ∧ ∀ p, H1 p = none → Q (.ref p) (upd H1 p (.lst xs))) : tLst t σ H Q := h
theorem a_ixT {p : Addr} {xs : List V} {i : Int} {v : V} (h : SqT K H p xs) (e : atI xs i = some v) (q : Q v H) : rIxT K (.ref p) (.int i) H Q := ⟨p, xs, i, v, rfl, rfl, h, e, q⟩
theorem a_ixL {p : Addr} {xs : List V} {i : Int} {v : V} (h : SqL K H p xs) (e : atI xs i = some v) (q : Q v H) : rIxL K (.ref p) (.int i) H Q := ⟨p, xs, i, v, rfl, rfl, h, e, q⟩
theorem a_and {t u : TT} {R : Bool → Hp → Prop} (h : t σ H fun c H1 => if c = true then u σ H1 R else R false H1) : tAnd t u σ H R := h
theorem a_or {t u : TT} {R : Bool → Hp → Prop} (h : t σ H fun c H1 => if c = true then R true H1 else u σ H1 R) : tOr t u σ H R := h
theorem a_not {t : TT} {R : Bool → Hp → Prop} (h : t σ H fun c H1 => R (!c) H1) : tNot t σ H R := h
theorem a_andV {ta tb : TE} (h : ta σ H fun x H1 => ∃ c, x = .bl c ∧ if c = true then tb σ H1 Q else Q (.bl false) H1) : tAndV ta tb σ H Q := h
theorem a_orV {ta tb : TE} (h : ta σ H fun x H1 => ∃ c, x = .bl c ∧ if c = true then Q (.bl true) H1 else tb σ H1 Q) : tOrV ta tb σ H Q := h
theorem a_notV {ta : TE} (h : ta σ H fun x H1 => ∃ c, x = .bl c ∧ Q (.bl (!c)) H1) : tNotV ta σ H Q := h
theorem a_ifE {t : TT} {ta tb : TE} (h : t σ H fun c H1 => if c = true then ta σ H1 Q else tb σ H1 Q) : tIf t ta tb σ H Q := h
theorem a_par {i j : Nat} {ta : TA} (h : ta σ H fun vs H1 => ∃ v w, vs = [v, w] ∧ D.nx ((σ.set i (some v)).set j (some w)) H1) : tPar i j ta D σ H := h
theorem a_par2 {i j : Nat} {v w : V} {R : St → Hp → Prop} (h : R ((σ.set i (some v)).set j (some w)) H) : ∃ v' w', [v, w] = [v', w'] ∧ R ((σ.set i (some v')).set j (some w')) H := ⟨v, w, rfl, h⟩
theorem iteD {c : Prop} [Decidable c] {A B : Prop} (h1 : c → A) (h2 : ¬ c → B) : if decide c = true then A else B := by
  by_cases h : c
  · rw [decide_eq_true h]; exact iteT (h1 h)
  · rw [decide_eq_false h]; exact iteF (h2 h)
theorem iteDN {c : Prop} [Decidable c] {A B : Prop} (h1 : ¬ c → A) (h2 : c → B) : if (!decide c) = true then A else B := by
  by_cases h : c
  · rw [decide_eq_true h]; exact iteF (h2 h)
  · rw [decide_eq_false h]; exact iteT (h1 h)
theorem iteDF {c : Prop} [Decidable c] {A B : Prop} (hc : ¬ c) (h : B) : if decide c = true then A else B := by rw [decide_eq_false hc]; exact iteF h
theorem iteNT {A B : Prop} (h : B) : if (!true) = true then A else B := iteF h
theorem Same.upd {a : Addr} {o : HO} (h : H a = none) : Same H (upd H a o) := fun b u e => by rw [upd_ne (ne_of_none e h)]; exact e
theorem Same.tup {H' : Hp} {a : Addr} {xs : List V} (e : Same H H') (h : SqT K H a xs) : SqT K H' a xs := by
  rcases h with (h | ⟨o, h⟩) | h
  · exact .inl (.inl (e _ _ h))
  · exact .inl (.inr ⟨o, e _ _ h⟩)
  · exact .inr h
theorem Same.rd {H' : Hp} {a : Addr} {u : HO} (e : Same H H') (h : Rd H a u) : Rd H' a u := by
  rcases h with h | ⟨o, h⟩
  · exact .inl (e _ _ h)
  · exact .inr ⟨o, e _ _ h⟩
theorem Same.thaw {H' : Hp} {a : Addr} {ob : Obj} {kvs : List (Key × V)} (h : H a = some (.dK kvs)) (e : Same (L2.upd H a (.frz ob (.dK kvs))) H') : Same H (L2.upd H' a (.dK kvs)) := fun b o q => by
  by_cases hb : b = a
  · subst hb; rw [upd_same]; rw [h] at q; exact q
  · rw [upd_ne hb]; exact e b o (by rw [upd_ne hb]; exact q)
end
end L2
namespace L2
open PySem PySem.Spec PyProof.Rows
section
variable {σ : St} {H : Hp} {Q : VK} {D : Ends} {K : PySem.W.Frag} {X : Cx}
theorem a_forD {td : TE} {g : TG} {tb : TS} (h : td σ H fun x H1 => ∃ a kvs, x = .ref a ∧ H1 a = some (.dK kvs) ∧ ∀ ob, (∀ o u, X.H₀ a ≠ some (.frz o u)) → ∃ W : Nat → Nat → St → Hp → Prop, (∃ m, W 0 m σ (upd H1 a (.frz ob (.dK kvs)))) ∧ ∀ i m σ H, W i m σ H →
      ((Itd a ob kvs).stop i H ∧ (ThawD X D).nx σ H) ∨ ((Itd a ob kvs).go i H ∧ ∃ N : St → Hp → Prop, (∀ σ' H', N σ' H' → ∃ m', m' < m ∧ W (i + 1) m' σ' H') ∧ ∀ x H', (Itd a ob kvs).yld i H x H' → g x σ H' fun σ2 H2 => tb { ThawD X D with nx := N, ct := N, bk := (ThawD X D).nx } σ2 H2)) :
    tForD X td g tb D σ H := h
theorem a_gtup2 {i j : Nat} {p : Addr} {x y : V} {R : St → Hp → Prop} (h : SqT K H p [x, y]) (q : R ((σ.set i (some x)).set j (some y)) H) : gTup K 2 (gCons (gName i) (gCons (gName j) gNil)) (.ref p) σ H R :=
  ⟨p, [x, y], rfl, h, rfl, x, [y], rfl, y, [], rfl, rfl, q⟩
theorem a_dput {td ty tv : TE} (h : tv σ H fun v H1 => td σ H1 fun x H2 => ty σ H2 fun y H3 => ∃ a H4, x = .ref a ∧ DPut H3 a y v H4 ∧ D.nx σ H4) : sDPut td ty tv D σ H := h
theorem a_dputK {a : Addr} {x : Str} {v : V} {kvs : List (Key × V)} {R : Hp → Prop} (h : H a = some (.dK kvs)) (hl : kvs.length < 100000) (q : R (upd H a (.dK (putK kvs (Sum.inr x) v)))) : ∃ a' H4, V.ref a = .ref a' ∧ DPut H a' (.str x) v H4 ∧ R H4 :=
  ⟨a, _, rfl, DPut.k (k := Sum.inr x) h (Nat.lt_trans hl (by decide)), q⟩
theorem a_dget {td ty : TE} (h : td σ H fun x H1 => ty σ H1 fun y H2 => ∃ a v, x = .ref a ∧ DGet H2 a y (some v) ∧ Q v H2) : tDGet td ty σ H Q := h
theorem a_dgetK {a : Addr} {x : Str} {v : V} {kvs : List (Key × V)} {R : V → Prop} (h : Rd H a (.dK kvs)) (e : valV kvs (Sum.inr x : Key) = some v) (q : R v) : ∃ a' v', V.ref a = .ref a' ∧ DGet H a' (kV (Sum.inr x)) (some v') ∧ R v' :=
  ⟨a, v, rfl, .inl ⟨kvs, Sum.inr x, h, rfl, e.symm⟩, q⟩
theorem Same.updN {H' : Hp} {a : Addr} {o : HO} (e : Same H H') (n : H a = none) : Same H (L2.upd H' a o) := fun b u q => by rw [upd_ne (ne_of_none q n)]; exact e b u q
theorem a_sl {r : V → Option Int → Option Int → Hp → VK → Prop} {te : TE} {tl th : TO} (h : te σ H fun x H1 => tl σ H1 fun l H2 => th σ H2 fun u H3 => r x l u H3 Q) : tSl r te tl th σ H Q := h
theorem a_part {t : TE} {R : Option Int → Hp → Prop} (h : t σ H fun x H1 => ∃ i, x = .int i ∧ R (some i) H1) : tPart t σ H R := h
theorem a_pint {i : Int} {R : Int → Prop} (h : R i) : ∃ i', V.int i = .int i' ∧ R i' := ⟨i, rfl, h⟩
theorem a_noPart {R : Option Int → Hp → Prop} (h : R none H) : tNoPart σ H R := h
end
end L2
namespace L2
open PySem PySem.Spec PyProof.Rows
def EqW (P : Program) (w : World) (A : Around) (s : Shared) (u v : Value) : Prop := ∀ (E : Value → Shared → Prop) (Q : Bool → Shared → Prop), Q true s → wpAny (model P w) A (eqBool u v) Q E s
def RcW (P : Program) (w : World) (A : Around) (s : Shared) (u v : Value) : Prop := ∀ (E : Value → Shared → Prop) (Q : Value → Shared → Prop), Q (.bool true) s → wpAny (model P w) A (richCompare .Eq u v) Q E s
section
variable {P : Program} {w : World} {A : Around} {s : Shared}
theorem EqW.of_refs {a b : Addr} (h : RcW P w A s (.ref a) (.ref b)) : EqW P w A s (.ref a) (.ref b) := fun E Q q => by
  by_cases e : a = b
  · subst e
    exact SeqAt.EqAt.same _ P w E Q q
  · unfold eqBool
    refine wpAny_holding (wpAny_ite_split (fun z => absurd (Value.ref.inj (eq_of_beq z)) e) fun _ => ?_)
    exact wpAny_bind (h E _ (wpAny_truthy_bool q))
section
open PySem.AutoSeq1 (wpAny_loadPart')
theorem tupW (a b : Addr) (xs ys : Array Value) (n m : Nat) (da db : Option Addr) (sa sb : Array (Option Value)) (hz : xs.size = ys.size) :
    MeetsIn P w (Builtin.«tuple.__eq__» ⟨[.ref a, .ref b], []⟩) (fun A R s => s.heap.get? a = some ⟨.type "tuple", da, .seq xs n, sa⟩ ∧ s.heap.get? b = some ⟨.type "tuple", db, .seq ys m, sb⟩ ∧
      (∀ j (h1 : j < xs.size) (h2 : j < ys.size), EqW P w A.in1 s xs[j] ys[j]) ∧ R (.ok (.ret (.bool true))) s) := by
  refine .of_wp fun A R s h => ?_
  obtain ⟨hp, g, d, tk, os⟩ := s
  obtain ⟨ha, hb, he, hR⟩ := h
  have sub := AutoSeq1.sub_tuple_tuple
  have len : (xs.toList.zip ys.toList).length = xs.size := by simp; omega
  wp_walk using wpAny_loadPart' ha, wpAny_loadPart' hb, wpAny_forIn_list _ (fun r c s' => c.1 = none ∧ s' = ⟨hp, g, d, tk, os⟩ ∧ ∃ i, r = (xs.toList.zip ys.toList).drop i) _
  case turn =>
    rintro ⟨x, y⟩ r c s' ⟨hc, rfl, i, hr⟩
    by_cases lt : i < (xs.toList.zip ys.toList).length
    · rw [List.drop_eq_getElem_cons lt] at hr
      injection hr with e1 e2
      have i1 : i < xs.size := by omega
      have i2 : i < ys.size := by omega
      obtain ⟨ex, ey⟩ : x = xs[i] ∧ y = ys[i] := by
        have z := Prod.mk.inj (e1.trans List.getElem_zip)
        exact ⟨by simpa using z.1, by simpa using z.2⟩
      subst ex ey
      refine wpAny_bind (he i i1 i2 _ _ ?_)
      wp_walk
      exact ⟨rfl, rfl, i + 1, e2⟩
    · rw [List.drop_of_length_le (by omega)] at hr
      cases hr
  case fin =>
    rintro ⟨c1, c2⟩ s' ⟨hc, rfl, _⟩
    simp only at hc
    subst hc
    wp_walk
    refine ⟨_, rfl, ?_⟩
    simpa [Builtin.Tuple.tupleCompareSizes, hz] using hR
  case h => exact ⟨rfl, rfl, 0, rfl⟩
end
theorem RcW.tuples {a b : Addr} {xs ys : Array Value} (ha : IsTup s.heap a xs) (hb : IsTup s.heap b ys) (hz : xs.size = ys.size) (hu : A.units < cLine) (he : ∀ j (h1 : j < xs.size) (h2 : j < ys.size), EqW P w A.in1 s xs[j] ys[j]) : RcW P w A s (.ref a) (.ref b) := fun E Q q => by
  obtain ⟨⟨ca, da, xa, sa⟩, oa, ka, n, va⟩ := id ha
  obtain ⟨⟨cb, db, xb, sb⟩, ob, kb, m, vb⟩ := id hb
  simp only at ka va kb vb
  subst ka va kb vb
  refine wpAny_richCompare_same_room (op := .Eq) (T := "tuple") ⟨_, oa, rfl⟩ ⟨_, ob, rfl⟩ PySem.F.slot_tuple_eq ?_ hu
  exact call_meetsIn PySem.F.slot_tuple_eq ⟨_, oa, rfl⟩ PySem.F.entry_tuple_eq (PySem.F.args_tuple_eq_2 _ _) (tupW a b xs ys n m da db sa sb hz) ⟨oa, ob, he, ⟨(fun z => nomatch z), q⟩⟩
section
open PySem.AutoSeq1 (wpAny_loadPart')
open PySem.MeetsSeq PySem.MeetsSeq2 PySem.MeetsSeq3 PySem.SeqRoads2 PySem.SeqAt
theorem lstLoopW (a b : Addr) (xs ys : Array Value) (n m : Nat) (da db : Option Addr) (sa sb : Array (Option Value)) (hz : xs.size = ys.size) : ∀ (k i : Nat), xs.size - i = k →
    MeetsIn P w (Builtin.«list.__eq__.loop» ⟨[.ref a, .ref b, rawInt i, rawInt 2], []⟩) (fun A R s => s.heap.get? a = some ⟨.type "list", da, .seq xs n, sa⟩ ∧ s.heap.get? b = some ⟨.type "list", db, .seq ys m, sb⟩ ∧
      (∀ j (h1 : j < xs.size) (h2 : j < ys.size), EqW P w A.in1 s xs[j] ys[j]) ∧ R (.ok (.ret (.bool true))) s)
  | 0, i, hk => fun A R s h => by
    obtain ⟨hp, g, d, tk, os⟩ := s
    obtain ⟨ha, hb, he, hR⟩ := h
    wp_walk using wpAny_loadPart' ha, wpAny_loadPart' hb
    have z1 : xs[((i : Nat) : Int).toNat]? = none := by simp; omega
    have z2 : ys[((i : Nat) : Int).toNat]? = none := by simp; omega
    rw [z1, z2]
    wp_walk using wpAny_loadPart' ha, wpAny_loadPart' hb
    show R (.ok (.ret (.bool (xs.size == ys.size)))) _
    rw [hz, beq_self_eq_true]
    exact hR
  | k + 1, i, hk => fun A R s h => by
    obtain ⟨hp, g, d, tk, os⟩ := s
    obtain ⟨ha, hb, he, hR⟩ := h
    wp_walk using wpAny_loadPart' ha, wpAny_loadPart' hb
    have i1 : i < xs.size := by omega
    have i2 : i < ys.size := by omega
    have z1 : xs[((i : Nat) : Int).toNat]? = some xs[i] := by simp [i1]
    have z2 : ys[((i : Nat) : Int).toNat]? = some ys[i] := by simp [i2]
    rw [z1, z2]
    refine wpAny_bind (he i i1 i2 _ _ ?_)
    wp_walk
    have up : ((i : Int) + 1) = ((i + 1 : Nat) : Int) := Int.natCast_succ i
    rw [up]
    refine ⟨plainId_quiet plain_eq_loop _, codeAny_builtin entry_eq_loop ?_⟩
    rw [Around.under_plainId plain_eq_loop _]
    exact lstLoopW a b xs ys n m da db sa sb hz k (i + 1) (by omega) A R _ ⟨ha, hb, he, hR⟩
theorem lstW (a b : Addr) (xs ys : Array Value) (n m : Nat) (da db : Option Addr) (sa sb : Array (Option Value)) (hz : xs.size = ys.size) :
    MeetsIn P w (Builtin.«list.__eq__» ⟨[.ref a, .ref b], []⟩) (fun A R s => s.heap.get? a = some ⟨.type "list", da, .seq xs n, sa⟩ ∧ s.heap.get? b = some ⟨.type "list", db, .seq ys m, sb⟩ ∧
      (∀ j (h1 : j < xs.size) (h2 : j < ys.size), EqW P w A.in1 s xs[j] ys[j]) ∧ R (.ok (.ret (.bool true))) s) := fun A R s h => by
  obtain ⟨hp, g, d, tk, os⟩ := s
  obtain ⟨ha, hb, he, hR⟩ := h
  have sub := AutoSeq1.sub_list_list
  have same : ¬ (xs.size != ys.size) = true := by simp [hz]
  wp_walk using wpAny_loadPart' ha, wpAny_loadPart' hb
  refine ⟨plainId_quiet plain_eq_loop _, codeAny_builtin entry_eq_loop ?_⟩
  rw [Around.under_plainId plain_eq_loop _]
  exact lstLoopW a b xs ys n m da db sa sb hz _ 0 rfl A R _ ⟨ha, hb, he, hR⟩
end
theorem RcW.lists {a b : Addr} {xs ys : Array Value} (ha : s.heap.IsList a xs) (hb : s.heap.IsList b ys) (hz : xs.size = ys.size) (hu : A.units < cLine) (he : ∀ j (h1 : j < xs.size) (h2 : j < ys.size), EqW P w A.in1 s xs[j] ys[j]) : RcW P w A s (.ref a) (.ref b) := fun E Q q => by
  obtain ⟨⟨ca, da, xa, sa⟩, oa, ka, n, va⟩ := id ha
  obtain ⟨⟨cb, db, xb, sb⟩, ob, kb, m, vb⟩ := id hb
  simp only at ka va kb vb
  subst ka va kb vb
  refine wpAny_richCompare_same_room (op := .Eq) (T := "list") ⟨_, oa, rfl⟩ ⟨_, ob, rfl⟩ PySem.F.slot_list_eq ?_ hu
  exact call_meetsIn PySem.F.slot_list_eq ⟨_, oa, rfl⟩ PySem.F.entry_list_eq (PySem.F.args_list_eq_2 _ _) (lstW a b xs ys n m da db sa sb hz) ⟨oa, ob, he, ⟨(fun z => nomatch z), q⟩⟩
end
def EqN (K : PySem.W.Frag) (H : Hp) : Nat → V → V → Prop
  | 0, x, y => flatV x = true ∧ x = y
  | n + 1, x, y => (flatV x = true ∧ x = y) ∨ ∃ p q, x = .ref p ∧ y = .ref q ∧ ((∃ xs ys, ((SqT K H p xs ∧ SqT K H q ys) ∨ (SqL K H p xs ∧ SqL K H q ys)) ∧ All2 (EqN K H n) xs ys) ∨
      ∃ ka kb, Rd H p (.dK ka) ∧ Rd H q (.dK kb) ∧ DEqT K H n ka kb)
section
variable {X : Cx} {pins : List (Addr × Obj)} {σ : St} {H : Hp} {s : Shared}
end
section
variable {X : Cx}
end
end L2
namespace Sf
def gd (a b : Int) : Int := (Int.gcd a b : Nat)
theorem gd_zero (a : Int) (h : 0 ≤ a) : gd a 0 = a := by
  unfold gd; rw [Int.gcd_zero_right]; omega
theorem gd_mod {a b : Int} (ha : 0 ≤ a) (hb : 0 < b) : gd b (a % b) = gd a b := by
  unfold gd Int.gcd
  have e : (a % b).natAbs = a.natAbs % b.natAbs := by
    obtain ⟨m, rfl⟩ := Int.eq_ofNat_of_zero_le ha
    obtain ⟨n, rfl⟩ := Int.eq_ofNat_of_zero_le (Int.le_of_lt hb)
    simp only [Int.natAbs_natCast]
    rw [← Int.natCast_emod, Int.natAbs_natCast]
  rw [e, Nat.gcd_comm b.natAbs, Nat.gcd_comm a.natAbs, Nat.gcd_rec b.natAbs a.natAbs]
theorem gd_pos {a b : Int} (h : b ≠ 0) : 0 < gd a b := by
  unfold gd
  have := Int.gcd_pos_of_ne_zero_right a h
  omega
theorem gd_abs (a b : Int) : gd (a.natAbs : Int) (b.natAbs : Int) = gd a b := by
  unfold gd; simp [Int.gcd]
theorem abs_if (a : Int) : (if a < 0 then -a else a) = (a.natAbs : Int) := by split <;> omega
theorem gd_abs' (a b : Int) : gd (if a < 0 then -a else a) (if b < 0 then -b else b) = gd a b := by
  rw [abs_if, abs_if, gd_abs]
def dv (t b : Int) : Int := if b < 0 then -(gd t b) else gd t b
theorem dv_ne {t b : Int} (h : b ≠ 0) : dv t b ≠ 0 := by
  have := gd_pos (a := t) h
  unfold dv; split <;> omega
theorem gd_dvd_l (t b : Int) : gd t b ∣ t := Int.gcd_dvd_left ..
theorem gd_dvd_r (t b : Int) : gd t b ∣ b := Int.gcd_dvd_right ..
theorem dv_dvd_l (t b : Int) : dv t b ∣ t := by
  unfold dv; split
  · exact Int.neg_dvd.mpr (gd_dvd_l t b)
  · exact gd_dvd_l t b
theorem dv_dvd_r (t b : Int) : dv t b ∣ b := by
  unfold dv; split
  · exact Int.neg_dvd.mpr (gd_dvd_r t b)
  · exact gd_dvd_r t b
theorem fd_ex {x d : Int} (h : d ∣ x) : x.fdiv d * d = x := by
  rw [Int.fdiv_mul_cancel h]
theorem part_num {t b : Int} (h : b ≠ 0) : t.fdiv (dv t b) = (Rat.divInt t b).num := by
  have hd := dv_ne (t := t) h
  refine Int.eq_of_mul_eq_mul_right hd ?_
  rw [fd_ex (dv_dvd_l t b), Rat.num_divInt]
  have e : b.gcd t = t.gcd b := Int.gcd_comm ..
  rw [e]
  have hg : ((t.gcd b : Nat) : Int) ∣ t := Int.gcd_dvd_left ..
  have hp := gd_pos (a := t) h
  unfold gd at hp
  unfold dv gd
  rw [Int.mul_ediv_assoc _ hg]
  obtain ⟨k, hk⟩ := hg
  generalize hG : ((t.gcd b : Nat) : Int) = g at *
  have hk2 : t / g = k := by rw [hk]; exact Int.mul_ediv_cancel_left k (by omega)
  rw [hk2]
  split
  · rename_i hb
    rw [Int.sign_eq_neg_one_of_neg hb]; grind
  · rename_i hb
    rw [Int.sign_eq_one_of_pos (by omega)]; grind
theorem part_den {t b : Int} (h : b ≠ 0) : b.fdiv (dv t b) = ((Rat.divInt t b).den : Int) := by
  have hd := dv_ne (t := t) h
  refine Int.eq_of_mul_eq_mul_right hd ?_
  rw [fd_ex (dv_dvd_r t b), Rat.den_divInt, if_neg h]
  have e : b.gcd t = t.gcd b := Int.gcd_comm ..
  rw [e]
  have hg : (t.gcd b) ∣ b.natAbs := by rw [← Int.ofNat_dvd_left]; exact Int.gcd_dvd_right ..
  have hp := gd_pos (a := t) h
  unfold gd at hp
  unfold dv gd
  obtain ⟨k, hk⟩ := hg
  have hk2 : b.natAbs / t.gcd b = k := by rw [hk]; exact Nat.mul_div_cancel_left k (by omega)
  rw [hk2]
  generalize t.gcd b = g at *
  have hk3 : (b.natAbs : Int) = (g : Int) * (k : Int) := by rw [hk]; exact Int.natCast_mul ..
  split <;> grind
theorem den_pos (q : Rat) : 0 < (q.den : Int) := by have := q.den_nz; omega
theorem cross {t b : Int} (h : b ≠ 0) : (Rat.divInt t b).num * b = (Rat.divInt t b).den * t := by
  have := Rat.divInt_num_den (n := t) (d := b) h (n' := (Rat.divInt t b).num) (d' := (Rat.divInt t b).den) (z' := (Rat.divInt t b).den_nz) (c := (Rat.divInt t b).reduced) rfl
  obtain ⟨m, hm, e1, e2⟩ := this
  generalize (Rat.divInt t b).num = n at *
  generalize ((Rat.divInt t b).den : Int) = d at *
  rw [e1, e2]; grind
end Sf
namespace Sf
def Sm (n : Nat) (q : Rat) : Prop := q.num.natAbs < 2 ^ n ∧ q.den < 2 ^ n
theorem Sm.mono {n m : Nat} {q : Rat} (h : Sm n q) (k : n ≤ m) : Sm m q :=
  ⟨Nat.lt_of_lt_of_le h.1 (Nat.pow_le_pow_right (by decide) k), Nat.lt_of_lt_of_le h.2 (Nat.pow_le_pow_right (by decide) k)⟩
theorem divInt_le {t b : Int} (h : b ≠ 0) : (Rat.divInt t b).num.natAbs ≤ t.natAbs ∧ (Rat.divInt t b).den ≤ b.natAbs := by
  obtain ⟨m, hm, e1, e2⟩ := Rat.divInt_num_den (n := t) (d := b) h (n' := (Rat.divInt t b).num) (d' := (Rat.divInt t b).den) (z' := (Rat.divInt t b).den_nz) (c := (Rat.divInt t b).reduced) rfl
  have hm1 : 1 ≤ m.natAbs := by omega
  have a1 := congrArg Int.natAbs e1
  have a2 := congrArg Int.natAbs e2
  rw [Int.natAbs_mul] at a1 a2
  rw [Int.natAbs_natCast] at a2
  constructor
  · rw [a1]; exact Nat.le_mul_of_pos_right _ hm1
  · rw [a2]; exact Nat.le_mul_of_pos_right _ hm1
theorem sm_divInt {n : Nat} {t b : Int} (h : b ≠ 0) (h1 : t.natAbs < 2 ^ n) (h2 : b.natAbs < 2 ^ n) : Sm n (Rat.divInt t b) :=
  ⟨Nat.lt_of_le_of_lt (divInt_le h).1 h1, Nat.lt_of_le_of_lt (divInt_le h).2 h2⟩
theorem add_divInt (a b : Rat) : a + b = Rat.divInt (a.num * b.den + b.num * a.den) (a.den * b.den) := by
  rw [Rat.add_def', ← Rat.divInt_ofNat]
  rfl
theorem sub_divInt (a b : Rat) : a - b = Rat.divInt (a.num * b.den - b.num * a.den) (a.den * b.den) := by
  rw [Rat.sub_def', ← Rat.divInt_ofNat]
  rfl
theorem mul_divInt (a b : Rat) : a * b = Rat.divInt (a.num * b.num) (a.den * b.den) := by
  rw [Rat.mul_def', ← Rat.divInt_ofNat]
  rfl
theorem dens_ne (a b : Rat) : (a.den * b.den : Int) ≠ 0 := by
  have h1 := den_pos a
  have h2 := den_pos b
  exact Int.ne_of_gt (Int.mul_pos h1 h2)
theorem lt_mul {x y n m : Nat} (h1 : x < 2 ^ n) (h2 : y < 2 ^ m) : x * y < 2 ^ (n + m) := by
  rw [Nat.pow_add]
  exact Nat.mul_lt_mul'' h1 h2
theorem abs_mul_lt {x y : Int} {n m : Nat} (h1 : x.natAbs < 2 ^ n) (h2 : y.natAbs < 2 ^ m) : (x * y).natAbs < 2 ^ (n + m) := by
  rw [Int.natAbs_mul]; exact lt_mul h1 h2
theorem abs_add_lt {x y : Int} {n : Nat} (h1 : x.natAbs < 2 ^ n) (h2 : y.natAbs < 2 ^ n) : (x + y).natAbs < 2 ^ (n + 1) := by
  rw [Nat.pow_succ]; omega
theorem abs_sub_lt {x y : Int} {n : Nat} (h1 : x.natAbs < 2 ^ n) (h2 : y.natAbs < 2 ^ n) : (x - y).natAbs < 2 ^ (n + 1) := by
  rw [Nat.pow_succ]; omega
theorem den_abs {n : Nat} {q : Rat} (h : Sm n q) : (q.den : Int).natAbs < 2 ^ n := by rw [Int.natAbs_natCast]; exact h.2
theorem up2 {x : Int} {n m : Nat} (h : x.natAbs < 2 ^ n) (k : n ≤ m) : x.natAbs < 2 ^ m := Nat.lt_of_lt_of_le h (Nat.pow_le_pow_right (by decide) k)
theorem sm_add {n m : Nat} {a b : Rat} (h1 : Sm n a) (h2 : Sm m b) : Sm (n + m + 1) (a + b) := by
  rw [add_divInt]
  refine sm_divInt (dens_ne a b) ?_ ?_
  · refine abs_add_lt (abs_mul_lt h1.1 (den_abs h2)) ?_
    rw [Nat.add_comm n m]; exact abs_mul_lt h2.1 (den_abs h1)
  · exact up2 (abs_mul_lt (den_abs h1) (den_abs h2)) (by omega)
theorem sm_sub {n m : Nat} {a b : Rat} (h1 : Sm n a) (h2 : Sm m b) : Sm (n + m + 1) (a - b) := by
  rw [sub_divInt]
  refine sm_divInt (dens_ne a b) ?_ ?_
  · refine abs_sub_lt (abs_mul_lt h1.1 (den_abs h2)) ?_
    rw [Nat.add_comm n m]; exact abs_mul_lt h2.1 (den_abs h1)
  · exact up2 (abs_mul_lt (den_abs h1) (den_abs h2)) (by omega)
theorem sm_mul {n m : Nat} {a b : Rat} (h1 : Sm n a) (h2 : Sm m b) : Sm (n + m) (a * b) := by
  rw [mul_divInt]
  exact sm_divInt (dens_ne a b) (abs_mul_lt h1.1 h2.1) (abs_mul_lt (den_abs h1) (den_abs h2))
theorem sm_zero : Sm 1 0 := ⟨by decide, by decide⟩
theorem sm_neg {n : Nat} {a : Rat} (h : Sm n a) : Sm n (-a) := ⟨by rw [Rat.neg_num, Int.natAbs_neg]; exact h.1, h.2⟩
end Sf
namespace Sf
section
variable {κ : Type} [DecidableEq κ]
abbrev FL (κ : Type) := List (κ × Rat)
def gt (m : FL κ) (k : κ) : Option Rat := (m.find? fun p => decide (p.1 = k)).map (·.2)
def pt (m : FL κ) (k : κ) (q : Rat) : FL κ := if (m.any fun p => decide (p.1 = k)) = true then m.map (fun p => if p.1 = k then (p.1, q) else p) else m ++ [(k, q)]
def dr (m : FL κ) (k : κ) : FL κ := m.filter fun p => decide (p.1 ≠ k)
def sc (m : FL κ) (n : Rat) : FL κ := m.map fun p => (p.1, p.2 * n)
def val : FL κ → (κ → Rat) → Rat
  | [], _ => 0
  | p :: r, P => p.2 * P p.1 + val r P
def Nd (m : FL κ) : Prop := (m.map (·.1)).Nodup
theorem gt_nil (k : κ) : gt ([] : FL κ) k = none := rfl
theorem gt_pos {p : κ × Rat} {r : FL κ} {k : κ} (e : p.1 = k) : gt (p :: r) k = some p.2 := by simp [gt, List.find?_cons, e]
theorem gt_neg {p : κ × Rat} {r : FL κ} {k : κ} (e : ¬ p.1 = k) : gt (p :: r) k = gt r k := by simp [gt, List.find?_cons, e]
theorem gt_any (k : κ) : ∀ m : FL κ, (m.any fun p => decide (p.1 = k)) = (gt m k).isSome
  | [] => rfl
  | p :: r => by
    rw [List.any_cons]
    by_cases e : p.1 = k
    · simp [gt_pos e, e]
    · rw [gt_neg e, gt_any k r]; simp [e]
theorem gt_of_mem {k : κ} {q : Rat} : ∀ {m : FL κ}, Nd m → (k, q) ∈ m → gt m k = some q
  | p :: r, n, h => by
    obtain ⟨n1, n2⟩ := List.nodup_cons.mp (show (p.1 :: r.map (·.1)).Nodup from n)
    rcases List.mem_cons.mp h with e | h
    · subst e; exact gt_pos rfl
    · have ne : ¬ p.1 = k := fun z => n1 (by rw [z]; exact List.mem_map.mpr ⟨_, h, rfl⟩)
      rw [gt_neg ne]; exact gt_of_mem n2 h
theorem gt_repl (k j : κ) (q : Rat) : ∀ m : FL κ, gt (m.map (fun p => if p.1 = k then (p.1, q) else p)) j = (gt m j).map fun x => if j = k then q else x
  | [] => rfl
  | p :: r => by
    have ih := gt_repl k j q r
    rw [List.map_cons]
    by_cases h : p.1 = k
    · rw [if_pos h]
      by_cases e : p.1 = j
      · rw [gt_pos (p := (p.1, q)) e, gt_pos e]; simp [← e, h]
      · rw [gt_neg (p := (p.1, q)) e, gt_neg e, ih]
    · rw [if_neg h]
      by_cases e : p.1 = j
      · rw [gt_pos e, gt_pos e]; simp [← e, h]
      · rw [gt_neg e, gt_neg e, ih]
theorem gt_snoc (k j : κ) (q : Rat) : ∀ m : FL κ, gt m k = none → gt (m ++ [(k, q)]) j = if j = k then some q else gt m j
  | [], _ => by
    by_cases e : k = j
    · rw [if_pos e.symm]; exact gt_pos (p := (k, q)) e
    · rw [if_neg (Ne.symm e)]; exact gt_neg (p := (k, q)) e
  | p :: r, h => by
    have hk : ¬ p.1 = k := fun z => by rw [gt_pos z] at h; cases h
    rw [gt_neg hk] at h
    have ih := gt_snoc k j q r h
    rw [List.cons_append]
    by_cases e : p.1 = j
    · rw [gt_pos e, gt_pos e, if_neg (fun z => hk (e.trans z))]
    · rw [gt_neg e, gt_neg e, ih]
theorem gt_pt (m : FL κ) (k j : κ) (q : Rat) : gt (pt m k q) j = if j = k then some q else gt m j := by
  unfold pt
  by_cases h : (m.any fun p => decide (p.1 = k)) = true
  · rw [if_pos h, gt_repl]
    rw [gt_any] at h
    by_cases e : j = k
    · subst e
      obtain ⟨x, hx⟩ := Option.isSome_iff_exists.mp h
      simp [hx]
    · simp [e]
  · rw [if_neg h]
    refine gt_snoc k j q m ?_
    rw [gt_any] at h
    cases z : gt m k with
    | none => rfl
    | some _ => rw [z] at h; simp at h
def run (P : κ → Rat) (r : Rat) (m : FL κ) : Rat := m.foldl (fun t p => t + p.2 * P p.1) r
theorem run_eq (P : κ → Rat) : ∀ (m : FL κ) (r : Rat), run P r m = r + val m P
  | [], r => by simp [run, val, Rat.add_zero]
  | p :: m, r => by
    have ih := run_eq P m (r + p.2 * P p.1)
    unfold run at ih ⊢
    rw [List.foldl_cons, ih]; simp only [val]; grind
end
end Sf
namespace Sf
section
variable {κ : Type} [DecidableEq κ]
theorem take_snoc {α : Type} {m : List α} {i : Nat} {p : α} (e : m[i]? = some p) : m.take (i + 1) = m.take i ++ [p] := by
  rw [List.take_add_one, e]; rfl
theorem run_snoc {P : κ → Rat} {r : Rat} {m : FL κ} {i : Nat} {x : κ} {q : Rat} (e : m[i]? = some (x, q)) : run P r (m.take (i + 1)) = run P r (m.take i) + q * P x := by
  rw [take_snoc e]; unfold run; rw [List.foldl_append]; rfl
end
end Sf
namespace Sf
section
variable {κ : Type} [DecidableEq κ]
theorem gt_sc {x : κ} (n : Rat) : ∀ m : FL κ, gt (sc m n) x = (gt m x).map (· * n)
  | [] => rfl
  | p :: r => by
    have ih := gt_sc (x := x) n r
    unfold sc at ih ⊢
    rw [List.map_cons]
    by_cases e : p.1 = x
    · rw [gt_pos (p := (p.1, p.2 * n)) e, gt_pos e]; rfl
    · rw [gt_neg (p := (p.1, p.2 * n)) e, gt_neg e, ih]
theorem gt_dr {x k : κ} : ∀ m : FL κ, gt (dr m k) x = if x = k then none else gt m x
  | [] => by simp [dr, gt_nil]
  | p :: r => by
    have ih := gt_dr (x := x) (k := k) r
    unfold dr at ih ⊢
    by_cases e : p.1 = k
    · rw [List.filter_cons_of_neg (by simp [e]), ih]
      by_cases h : x = k
      · simp [h]
      · rw [if_neg h, if_neg h, gt_neg (fun z => h (z.symm.trans e))]
    · rw [List.filter_cons_of_pos (by simp [e])]
      by_cases h : p.1 = x
      · rw [gt_pos h, gt_pos h, if_neg (fun z => e (h.trans z))]
      · rw [gt_neg h, gt_neg h, ih]
def SmM (n : Nat) (m : FL κ) : Prop := ∀ x q, gt m x = some q → Sm n q
theorem SmM.mono {n k : Nat} {m : FL κ} (h : SmM n m) (e : n ≤ k) : SmM k m := fun x q z => (h x q z).mono e
theorem SmM.nil (n : Nat) : SmM n ([] : FL κ) := fun x q z => by cases z
theorem SmM.pt {n : Nat} {m : FL κ} (h : SmM n m) {k : κ} {q : Rat} (hq : Sm n q) : SmM n (pt m k q) := fun x r z => by
  rw [gt_pt] at z
  split at z
  · injection z with z; rw [← z]; exact hq
  · exact h x r z
theorem SmM.getD {n : Nat} {m : FL κ} (h : SmM n m) (hn : 1 ≤ n) (x : κ) : Sm n ((gt m x).getD 0) := by
  cases e : gt m x with
  | none => exact sm_zero.mono hn
  | some q => exact h x q e
theorem SmM.sc {n k : Nat} {a : FL κ} {t : Rat} (ha : SmM n a) (ht : Sm k t) : SmM (n + k) (sc a t) := fun x r z => by
  rw [gt_sc] at z
  cases e : gt a x with
  | none => rw [e] at z; cases z
  | some q => rw [e] at z; injection z with z; rw [← z]; exact sm_mul (ha x q e) ht
theorem SmM.dr {n : Nat} {a : FL κ} (ha : SmM n a) (k : κ) : SmM n (dr a k) := fun x r z => by
  rw [gt_dr] at z
  split at z
  · cases z
  · exact ha x r z
theorem SmM.at {n : Nat} {m : FL κ} (h : SmM n m) (nd : Nd m) {i : Nat} {x : κ} {q : Rat} (e : m[i]? = some (x, q)) : Sm n q := h x q (gt_of_mem nd (List.mem_of_getElem? e))
end
end Sf
namespace Sf
section
variable {κ : Type} [DecidableEq κ]
end
end Sf
namespace Sf
section
variable {κ : Type} [DecidableEq κ]
end
end Sf
namespace Sf
section
variable {κ : Type} [DecidableEq κ]
end
end Sf
namespace Sf
open PySem L2
def fr (q : Rat) : List V := [.int q.num, .int (q.den : Int)]
theorem fr0 (q : Rat) : atI (fr q) 0 = some (.int q.num) := rfl
theorem fr1 (q : Rat) : atI (fr q) 1 = some (.int (q.den : Int)) := rfl
def TupS (H H' : Hp) : Prop := ∀ b xs, H b = some (.tup xs) → H' b = some (.tup xs)
theorem TupS.refl (H : Hp) : TupS H H := fun _ _ h => h
theorem TupS.trans {H H1 H2 : Hp} (a : TupS H H1) (b : TupS H1 H2) : TupS H H2 := fun c xs h => b c xs (a c xs h)
theorem TupS.of {H H' : Hp} (e : Same H H') : TupS H H' := fun b xs h => e b _ h
theorem TupS.new {H : Hp} {a : Addr} {o : HO} (h : H a = none) : TupS H (upd H a o) := fun b xs e => by rw [upd_ne (ne_of_none e h)]; exact e
theorem TupS.put {H : Hp} {a : Addr} {o : HO} {kvs : List (Key × V)} (h : H a = some (.dK kvs)) : TupS H (upd H a o) := fun b xs e => by rw [upd_ne (ne_of e h (by intro z; cases z))]; exact e
theorem TupS.frz {H : Hp} {a : Addr} {ob : Obj} {u o : HO} (h : H a = some (.frz ob u)) : TupS H (upd H a o) := fun b xs e => by rw [upd_ne (ne_of e h (by intro z; cases z))]; exact e
def FK (H : Hp) : List (Key × V) → FL Str → Prop
  | [], [] => True
  | p :: r, x :: s => p.1 = Sum.inr x.1 ∧ (∃ a, p.2 = .ref a ∧ H a = some (.tup (fr x.2))) ∧ FK H r s
  | _, _ => False
theorem FK.mono {H H' : Hp} (e : TupS H H') : ∀ {kvs : List (Key × V)} {m : FL Str}, FK H kvs m → FK H' kvs m
  | [], [], _ => True.intro
  | p :: r, x :: s, ⟨h1, ⟨a, h2, h3⟩, h4⟩ => ⟨h1, ⟨a, h2, e _ _ h3⟩, FK.mono e h4⟩
  | [], _ :: _, h => h.elim
  | _ :: _, [], h => h.elim
theorem FK.length {H : Hp} : ∀ {kvs : List (Key × V)} {m : FL Str}, FK H kvs m → kvs.length = m.length
  | [], [], _ => rfl
  | _ :: r, _ :: s, h => by rw [List.length_cons, List.length_cons, FK.length h.2.2]
  | [], _ :: _, h => h.elim
  | _ :: _, [], h => h.elim
theorem FK.get {H : Hp} : ∀ {kvs : List (Key × V)} {m : FL Str} {i : Nat} {k : Key} {v : V}, FK H kvs m → kvs[i]? = some (k, v) → ∃ x q a, m[i]? = some (x, q) ∧ k = Sum.inr x ∧ v = .ref a ∧ H a = some (.tup (fr q))
  | p :: r, x :: s, 0, k, v, ⟨h1, ⟨a, h2, h3⟩, h4⟩, e => by
    simp at e
    subst e
    exact ⟨x.1, x.2, a, rfl, h1, h2, h3⟩
  | p :: r, x :: s, i + 1, k, v, ⟨h1, _, h4⟩, e => by
    obtain ⟨x', q, a, e1, e2⟩ := FK.get (i := i) h4 (by simpa using e)
    exact ⟨x', q, a, by simpa using e1, e2⟩
  | [], [], i, _, _, _, e => by simp at e
  | [], _ :: _, _, _, _, h, _ => h.elim
  | _ :: _, [], _, _, _, h, _ => h.elim
theorem FK.snoc {H : Hp} {x : Str} {q : Rat} {a : Addr} (ha : H a = some (.tup (fr q))) : ∀ {kvs : List (Key × V)} {m : FL Str}, FK H kvs m → FK H (kvs ++ [(Sum.inr x, .ref a)]) (m ++ [(x, q)])
  | [], [], _ => ⟨rfl, ⟨a, rfl, ha⟩, True.intro⟩
  | _ :: _, _ :: _, ⟨h1, h2, h4⟩ => ⟨h1, h2, FK.snoc ha h4⟩
  | [], _ :: _, h => h.elim
  | _ :: _, [], h => h.elim
theorem FK.val {H : Hp} (x : Str) : ∀ {kvs : List (Key × V)} {m : FL Str}, FK H kvs m → (valV kvs (Sum.inr x : Key) = none ∧ gt m x = none) ∨ ∃ a q, valV kvs (Sum.inr x : Key) = some (.ref a) ∧ gt m x = some q ∧ H a = some (.tup (fr q))
  | [], [], _ => .inl ⟨rfl, rfl⟩
  | p :: r, y :: s, ⟨h1, ⟨a, h2, h3⟩, h4⟩ => by
    by_cases e : y.1 = x
    · have e2 : p.1 = (Sum.inr x : Key) := by rw [h1, e]
      exact .inr ⟨a, y.2, by rw [valV_pos e2, h2], gt_pos e, h3⟩
    · have e2 : ¬ p.1 = (Sum.inr x : Key) := by rw [h1]; exact fun z => e (Sum.inr.inj z)
      rw [valV_neg e2, gt_neg e]
      exact FK.val x h4
  | [], _ :: _, h => h.elim
  | _ :: _, [], h => h.elim
theorem FK.any {H : Hp} (x : Str) {kvs : List (Key × V)} {m : FL Str} (h : FK H kvs m) : (kvs.any fun kv => decide (kv.1 = (Sum.inr x : Key))) = (m.any fun p => decide (p.1 = x)) := by
  rw [valV_any, gt_any]
  rcases h.val x with ⟨h1, h2⟩ | ⟨a, q, h1, h2, _⟩
  · rw [h1, h2]; rfl
  · rw [h1, h2]; rfl
theorem FK.repl {H : Hp} {x : Str} {q : Rat} {a : Addr} (ha : H a = some (.tup (fr q))) : ∀ {kvs : List (Key × V)} {m : FL Str}, FK H kvs m →
    FK H (kvs.map fun kv => if kv.1 = (Sum.inr x : Key) then (kv.1, .ref a) else kv) (m.map fun p => if p.1 = x then (p.1, q) else p)
  | [], [], _ => True.intro
  | p :: r, y :: s, ⟨h1, h2, h4⟩ => by
    have ih := FK.repl (x := x) ha h4
    rw [List.map_cons, List.map_cons]
    by_cases e : y.1 = x
    · have e2 : p.1 = (Sum.inr x : Key) := by rw [h1, e]
      rw [if_pos e2, if_pos e]
      exact ⟨h1, ⟨a, rfl, ha⟩, ih⟩
    · have e2 : ¬ p.1 = (Sum.inr x : Key) := by rw [h1]; exact fun z => e (Sum.inr.inj z)
      rw [if_neg e2, if_neg e]
      exact ⟨h1, h2, ih⟩
  | [], _ :: _, h => h.elim
  | _ :: _, [], h => h.elim
theorem FK.put {H : Hp} {x : Str} {q : Rat} {a : Addr} (ha : H a = some (.tup (fr q))) {kvs : List (Key × V)} {m : FL Str} (h : FK H kvs m) : FK H (putK kvs (Sum.inr x : Key) (.ref a)) (pt m x q) := by
  unfold putK pt
  rw [h.any x]
  split
  · exact h.repl ha
  · exact h.snoc ha
theorem FK.drop {H : Hp} (x : Str) : ∀ {kvs : List (Key × V)} {m : FL Str}, FK H kvs m → FK H (dropK kvs (Sum.inr x : Key)) (dr m x)
  | [], [], _ => True.intro
  | p :: r, y :: s, ⟨h1, h2, h4⟩ => by
    have ih := FK.drop x h4
    unfold dropK dr at ih ⊢
    by_cases e : y.1 = x
    · have e2 : p.1 = (Sum.inr x : Key) := by rw [h1, e]
      rw [List.filter_cons_of_neg (by simp [e2]), List.filter_cons_of_neg (by simp [e])]
      exact ih
    · have e2 : ¬ p.1 = (Sum.inr x : Key) := by rw [h1]; exact fun z => e (Sum.inr.inj z)
      rw [List.filter_cons_of_pos (by simp [e2]), List.filter_cons_of_pos (by simp [e])]
      exact ⟨h1, h2, ih⟩
  | [], _ :: _, h => h.elim
  | _ :: _, [], h => h.elim
end Sf
namespace Vc
open PySem L2 Sf
def Le (F F' : Hp) : Prop := ∀ a u, (∀ o w, u ≠ .frz o w) → Rd F a u → Rd F' a u
theorem Le.refl (F : Hp) : Le F F := fun _ _ _ h => h
theorem Le.trans {F G H : Hp} (a : Le F G) (b : Le G H) : Le F H := fun x u n h => b x u n (a x u n h)
theorem Le.of {F F' : Hp} (e : Same F F') : Le F F' := fun a u _ h => e.rd h
theorem Le.tup {K : PySem.W.Frag} {F F' : Hp} {a : Addr} {xs : List V} (e : Le F F') (h : SqT K F a xs) : SqT K F' a xs := by
  rcases h with h | h
  · exact .inl (e _ _ (by intro o w z; cases z) h)
  · exact .inr h
theorem Le.lst {K : PySem.W.Frag} {F F' : Hp} {a : Addr} {xs : List V} (e : Le F F') (h : SqL K F a xs) : SqL K F' a xs := by
  rcases h with h | h
  · exact .inl (e _ _ (by intro o w z; cases z) h)
  · exact .inr h
theorem Le.dic {F F' : Hp} {a : Addr} {kvs : List (Key × V)} (e : Le F F') (h : Rd F a (.dK kvs)) : Rd F' a (.dK kvs) := e _ _ (by intro o w z; cases z) h
def Fz (S : Addr → Prop) (F : Hp) : Prop := ∀ a o u, F a = some (.frz o u) → S a
abbrev S0 : Addr → Prop := fun _ => False
def frzd (F : Hp) : Addr → Prop := fun a => ∃ o u, F a = some (.frz o u)
structure Gr0 (F H F' H' : Hp) : Prop where
  h : Same H H'
  f : Same F F'
  s : Same F' H'
  n : ∀ a u, F' a = some u → F a = none → H a = none
structure Gr (F H F' H' : Hp) : Prop extends Gr0 F H F' H' where
  z : Fz (frzd F) F'
theorem Gr0.refl {F H : Hp} (s : Same F H) : Gr0 F H F H := ⟨Same.refl _, Same.refl _, s, (fun a u h e => by rw [h] at e; cases e)⟩
theorem Fz.refl (F : Hp) : Fz (frzd F) F := fun _ o u h => ⟨o, u, h⟩
theorem Gr.of {F H F' H' : Hp} (g : Gr0 F H F' H') (z : Fz (frzd F) F') : Gr F H F' H' := ⟨g, z⟩
theorem Gr.of0 {F H F' H' : Hp} (g : Gr0 F H F' H') (z : Fz S0 F') : Gr F H F' H' := ⟨g, fun a o u h => (z a o u h).elim⟩
theorem Gr.le {F H F' H' : Hp} (g : Gr F H F' H') : Le F F' := .of g.f
theorem Gr.fz {F H F' H' : Hp} {S : Addr → Prop} (g : Gr F H F' H') (c : Fz S F) : Fz S F' := fun a o u h => by
  obtain ⟨o', u', e⟩ := g.z a o u h
  exact c a o' u' e
theorem Gr0.trans {F H F1 H1 F2 H2 : Hp} (a : Gr0 F H F1 H1) (b : Gr0 F1 H1 F2 H2) : Gr0 F H F2 H2 :=
  ⟨a.h.trans b.h, a.f.trans b.f, b.s, (fun x u h e => match q : F1 x with
    | none => a.h.free (b.n x u h q)
    | some w => a.n x w q e)⟩
theorem Gr0.tr {F H F1 H1 F2 H2 : Hp} (a : Gr0 F H F1 H1) (b : Gr F1 H1 F2 H2) : Gr0 F H F2 H2 := a.trans b.toGr0
theorem Gr.own {F H F' H' : Hp} (g : Gr F H F' H') {o : Addr} {u : HO} (eF : F o = none) (eH : H o = some u) : F' o = none := by
  cases q : F' o with
  | none => rfl
  | some w => have := g.n o w q eF; rw [eH] at this; cases this
theorem al {F H : Hp} {o : HO} {R : V → Hp → Prop} (wd : Same F H) (nf : ∀ x u, o ≠ .frz x u) (h : ∀ (p : Addr) (F' H' : Hp), Gr F H F' H' → F' p = some o → R (.ref p) H') : ∀ p, H p = none → R (.ref p) (upd H p o) := fun p hp => by
  have fp : F p = none := wd.free hp
  refine h p (upd F p o) (upd H p o) ⟨⟨Same.upd hp, Same.upd fp, ?_, fun a u e q => ?_⟩, fun a x u e => ?_⟩ upd_same
  · intro b u e
    by_cases hb : b = p
    · subst hb; rw [upd_same] at e ⊢; exact e
    · rw [upd_ne hb] at e ⊢; exact wd b u e
  · by_cases hb : a = p
    · subst hb; exact hp
    · rw [upd_ne hb, q] at e; cases e
  · by_cases hb : a = p
    · subst hb; rw [upd_same] at e; exact absurd (Option.some.inj e) (nf x u)
    · rw [upd_ne hb] at e; exact ⟨_, _, e⟩
theorem al1 {F H : Hp} {o : HO} {p : Addr} {R : Hp → Prop} (wd : Same F H) (nf : ∀ x u, o ≠ .frz x u) (hp : H p = none) (h : ∀ F' H' : Hp, Gr F H F' H' → F' p = some o → R H') : R (upd H p o) := by
  have := al (R := fun v H' => ∀ q, v = .ref q → q = p → R H') wd nf (fun q F' H' g e z hz hq => by cases hz; subst hq; exact h F' H' g e) p hp
  exact this p rfl rfl
theorem Gr.at {F H F' H' : Hp} (g : Gr F H F' H') {o : Addr} {u : HO} {w : Option HO} (eH : H o = some u) (e : F o = w) : F' o = w := by
  cases q : F o with
  | none => rw [← e, q]; exact g.own q eH
  | some x => rw [← e, q]; exact g.f _ _ q
theorem al2 {F H : Hp} {o : HO} {p : Addr} (wd : Same F H) (nf : ∀ x u, o ≠ .frz x u) (hp : H p = none) : ∃ F', Gr F H F' (upd H p o) ∧ F' p = some o :=
  al1 (R := fun H' => ∃ F', Gr F H F' H' ∧ F' p = some o) wd nf hp fun F' _ g e => ⟨F', g, e⟩
theorem alo2 {Fb Hb F H : Hp} {o : HO} {p : Addr} (gb : Gr0 Fb Hb F H) (hp : H p = none) : Gr0 Fb Hb F (upd H p o) ∧ Same H (upd H p o) ∧ Hb p = none ∧ F p = none ∧ (upd H p o) p = some o ∧ (∀ a u, H a = some u → a ≠ p) :=
  ⟨⟨gb.h.updN (gb.h.free hp), gb.f, gb.s.updN (gb.s.free hp), gb.n⟩, Same.upd hp, gb.h.free hp, gb.s.free hp, upd_same, fun _ _ e => ne_of_none e hp⟩
theorem chg {Fb Hb F H : Hp} {p : Addr} {o : HO} {R : Hp → Prop} (gb : Gr0 Fb Hb F H) (hb : Hb p = none) (hf : F p = none) (h : ∀ H' : Hp, Gr0 Fb Hb F H' → H' p = some o → (∀ a, a ≠ p → H' a = H a) → R H') : R (upd H p o) :=
  h (upd H p o) ⟨gb.h.updN hb, gb.f, gb.s.updN hf, gb.n⟩ upd_same fun _ e => upd_ne e
theorem frz {Fb Hb F H : Hp} {S : Addr → Prop} {p : Addr} {o : HO} (gb : Gr0 Fb Hb F H) (cm : Fz S F) (hb : Hb p = none) (hf : F p = none) (hH : H p = some o) (nf : ∀ x u, o ≠ .frz x u) : ∃ F', Gr0 Fb Hb F' H ∧ Fz S F' ∧ Same F F' ∧ F' p = some o ∧ ∀ a, a ≠ p → F' a = F a := by
  refine ⟨upd F p o, ⟨gb.h, gb.f.trans (Same.upd hf), ?_, fun a u e q => ?_⟩, fun a x u e => ?_, Same.upd hf, upd_same, fun _ e => upd_ne e⟩
  · intro b u e
    by_cases hb : b = p
    · subst hb; rw [upd_same] at e; cases e; exact hH
    · rw [upd_ne hb] at e; exact gb.s b u e
  · by_cases hb' : a = p
    · subst hb'; exact hb
    · rw [upd_ne hb'] at e; exact gb.n a u e q
  · by_cases hb' : a = p
    · subst hb'; rw [upd_same] at e; exact absurd (Option.some.inj e) (nf x u)
    · rw [upd_ne hb'] at e; exact cm a x u e
theorem it2 {K : PySem.W.Frag} {F H : Hp} {i j : Nat} {p : Addr} {x y : V} {σ : St} {R : St → Hp → Prop} (wd : Same F H) (hp : H p = none) (h : ∀ F' H' : Hp, Gr F H F' H' → F' p = some (.tup [x, y]) → R ((σ.set i (some x)).set j (some y)) H') :
    gTup K 2 (gCons (gName i) (gCons (gName j) gNil)) (.ref p) σ (upd H p (.tup [x, y])) R :=
  al1 (R := fun H' => gTup K 2 (gCons (gName i) (gCons (gName j) gNil)) (.ref p) σ H' R) wd (by intro _ _ z; cases z) hp fun F' H' g e => a_gtup2 (SqT.of (g.s _ _ e)) (h F' H' g e)
def fz (X : Hp) (a : Addr) (o : HO) : Hp := fun b => if b = a then (if X a = none then none else some o) else X b
theorem fz_ne {X : Hp} {a b : Addr} {o : HO} (h : b ≠ a) : fz X a o b = X b := by unfold fz; rw [if_neg h]
theorem fz_at {X : Hp} {a : Addr} {o : HO} : fz X a o a = if X a = none then none else some o := by unfold fz; rw [if_pos rfl]
theorem fz_some {X : Hp} {a : Addr} {o u : HO} (h : fz X a o a = some u) : X a ≠ none ∧ some o = some u := by
  rw [fz_at] at h
  split at h
  · cases h
  · rename_i q; exact ⟨q, h⟩
theorem fz_gr {Fb Hb F H : Hp} {a : Addr} (z : HO) (gb : Gr0 Fb Hb F H) : Gr0 (fz Fb a z) (fz Hb a z) (fz F a z) (upd H a z) := by
  refine ⟨fun b u e => ?_, fun b u e => ?_, fun b u e => ?_, fun b u e q => ?_⟩
  · by_cases hb : b = a
    · subst hb; rw [upd_same]; exact (fz_some e).2
    · rw [fz_ne hb] at e; rw [upd_ne hb]; exact gb.h b u e
  · by_cases hb : b = a
    · subst hb
      rw [fz_at] at e ⊢
      split at e
      · cases e
      · rename_i h
        obtain ⟨w, hw⟩ := Option.ne_none_iff_exists'.mp h
        rw [if_neg (by rw [gb.f _ _ hw]; intro z; cases z)]; exact e
    · rw [fz_ne hb] at e ⊢; exact gb.f b u e
  · by_cases hb : b = a
    · subst hb; rw [upd_same]; exact (fz_some e).2
    · rw [fz_ne hb] at e; rw [upd_ne hb]; exact gb.s b u e
  · by_cases hb : b = a
    · subst hb
      rw [fz_at] at e q ⊢
      split at e
      · cases e
      · rename_i h
        obtain ⟨w, hw⟩ := Option.ne_none_iff_exists'.mp h
        split at q
        · rename_i hf
          rw [if_pos (gb.n _ _ hw hf)]
        · cases q
    · rw [fz_ne hb] at e q ⊢; exact gb.n b u e q
theorem fz_le {F : Hp} {a : Addr} {ob : Obj} {kvs : List (Key × V)} (hF : F a = none ∨ F a = some (.dK kvs)) : Le F (fz F a (.frz ob (.dK kvs))) := fun b u n h => by
  by_cases hb : b = a
  · subst hb
    rcases hF with hF | hF
    · rcases h with h | ⟨o, h⟩ <;> (rw [hF] at h; cases h)
    · rcases h with h | ⟨o, h⟩
      · rw [hF] at h
        cases h
        refine .inr ⟨ob, ?_⟩
        rw [fz_at, if_neg (by rw [hF]; intro z; cases z)]
      · rw [hF] at h; cases h
  · rcases h with h | ⟨o, h⟩
    · exact .inl (by rw [fz_ne hb]; exact h)
    · exact .inr ⟨o, by rw [fz_ne hb]; exact h⟩
theorem fz_fz {F : Hp} {a : Addr} {z : HO} {S : Addr → Prop} (c : Fz S F) : Fz (fun b => b = a ∨ S b) (fz F a z) := fun b o u h => by
  by_cases hb : b = a
  · exact .inl hb
  · rw [fz_ne hb] at h; exact .inr (c b o u h)
theorem thw {Fb Hb F H F' H' : Hp} {S : Addr → Prop} {a : Addr} {ob : Obj} {kvs : List (Key × V)} {R : Hp → Prop} (gb : Gr0 Fb Hb F H) (hH : H a = some (.dK kvs)) (hF : F a = none ∨ F a = some (.dK kvs))
    (gz : Gr0 (fz Fb a (.frz ob (.dK kvs))) (fz Hb a (.frz ob (.dK kvs))) F' H') (sF : F' a = fz F a (.frz ob (.dK kvs)) a) (cm : Fz (fun b => b = a ∨ S b) F')
    (h : ∀ F'' H'' : Hp, Gr0 Fb Hb F'' H'' → Fz S F'' → Le F' F'' → F'' a = F a → H'' a = some (.dK kvs) → (∀ b, b ≠ a → F'' b = F' b) → (∀ b, b ≠ a → H'' b = H' b) → R H'') : R (upd H' a (.dK kvs)) := by
  have nn : F'  a = none ∨ F' a = some (.frz ob (.dK kvs)) := by
    rw [sF, fz_at]; split
    · exact .inl rfl
    · exact .inr rfl
  refine h (fz F' a (.dK kvs)) (upd H' a (.dK kvs)) ⟨fun b u e => ?_, fun b u e => ?_, fun b u e => ?_, fun b u e q => ?_⟩ (fun b o u e => ?_) (fun b u n e => ?_) ?_ upd_same (fun b hb => fz_ne hb) (fun b hb => upd_ne hb)
  · by_cases hb : b = a
    · subst hb; rw [upd_same]; have := gb.h _ _ e; rw [hH] at this; exact this
    · rw [upd_ne hb]; exact gz.h b u (by rw [fz_ne hb]; exact e)
  · by_cases hb : b = a
    · subst hb
      have e1 := gb.f _ _ e
      rcases hF with hF | hF
      · rw [hF] at e1; cases e1
      · rw [hF] at e1
        have e2 : F' b = some (.frz ob (.dK kvs)) := by rw [sF, fz_at, if_neg (by rw [hF]; intro z; cases z)]
        rw [fz_at, if_neg (by rw [e2]; intro z; cases z)]
        exact e1
    · rw [fz_ne hb]; exact gz.f b u (by rw [fz_ne hb]; exact e)
  · by_cases hb : b = a
    · subst hb; rw [upd_same]; exact (fz_some e).2
    · rw [fz_ne hb] at e; rw [upd_ne hb]; exact gz.s b u e
  · by_cases hb : b = a
    · subst hb
      rw [fz_at] at e
      split at e
      · cases e
      · rename_i hn
        rw [sF, fz_at] at hn
        split at hn
        · exact absurd rfl hn
        · rename_i hf
          obtain ⟨w, hw⟩ := Option.ne_none_iff_exists'.mp hf
          exact gb.n _ _ hw q
    · rw [fz_ne hb] at e
      have := gz.n b u e (by rw [fz_ne hb]; exact q)
      rw [fz_ne hb] at this
      exact this
  · by_cases hb : b = a
    · subst hb; cases (fz_some e).2
    · rw [fz_ne hb] at e
      rcases cm b o u e with x | x
      · exact absurd x hb
      · exact x
  · by_cases hb : b = a
    · subst hb
      rcases nn with nn | nn
      · rcases e with e | ⟨o, e⟩ <;> (rw [nn] at e; cases e)
      · rcases e with e | ⟨o, e⟩
        · rw [nn] at e; cases e; exact absurd rfl (n _ _)
        · rw [nn] at e; cases e; refine .inl ?_; rw [fz_at, if_neg (by rw [nn]; intro z; cases z)]
    · rcases e with e | ⟨o, e⟩
      · exact .inl (by rw [fz_ne hb]; exact e)
      · exact .inr ⟨o, by rw [fz_ne hb]; exact e⟩
  · rw [fz_at, sF, fz_at]
    rcases hF with hF | hF <;> rw [hF]
    · rfl
    · rfl
theorem calm_at {F : Hp} {a : Addr} {kvs : List (Key × V)} (c : Fz S0 F) (h : Rd F a (.dK kvs)) : F a = some (.dK kvs) := by
  rcases h with h | ⟨o, h⟩
  · exact h
  · exact (c _ _ _ h).elim
abbrev Rep (α : Type) := Hp → V → α → Prop
class Mo {α : Type} (A : Rep α) : Prop where
  mo : ∀ {F F' : Hp} {v : V} {x : α}, Le F F' → A F v x → A F' v x
def rI : Rep Int := fun _ v n => v = .int n
def rB : Rep Bool := fun _ v b => v = .bl b
def rS : Rep Str := fun _ v s => v = .str s
def rN : Rep Unit := fun _ v _ => v = .non
def rFr (K : PySem.W.Frag) : Rep Rat := fun F v q => ∃ a, v = .ref a ∧ SqT K F a (fr q)
def r2 (K : PySem.W.Frag) {α β : Type} (A : Rep α) (B : Rep β) : Rep (α × β) := fun F v x => ∃ a v1 v2, v = .ref a ∧ SqT K F a [v1, v2] ∧ A F v1 x.1 ∧ B F v2 x.2
def r3 (K : PySem.W.Frag) {α β γ : Type} (A : Rep α) (B : Rep β) (C : Rep γ) : Rep (α × β × γ) := fun F v x => ∃ a v1 v2 v3, v = .ref a ∧ SqT K F a [v1, v2, v3] ∧ A F v1 x.1 ∧ B F v2 x.2.1 ∧ C F v3 x.2.2
def r5 (K : PySem.W.Frag) {α β γ δ ε : Type} (A : Rep α) (B : Rep β) (C : Rep γ) (D : Rep δ) (E : Rep ε) : Rep (α × β × γ × δ × ε) := fun F v x => ∃ a v1 v2 v3 v4 v5, v = .ref a ∧ SqT K F a [v1, v2, v3, v4, v5] ∧ A F v1 x.1 ∧ B F v2 x.2.1 ∧ C F v3 x.2.2.1 ∧ D F v4 x.2.2.2.1 ∧ E F v5 x.2.2.2.2
def Al {α : Type} (A : Rep α) (F : Hp) : List V → List α → Prop
  | [], [] => True
  | v :: vs, x :: xs => A F v x ∧ Al A F vs xs
  | _, _ => False
def rL (K : PySem.W.Frag) {α : Type} (A : Rep α) : Rep (List α) := fun F v xs => ∃ a vs, v = .ref a ∧ SqL K F a vs ∧ Al A F vs xs
def Dk {α : Type} (A : Rep α) (F : Hp) : List (Key × V) → List (Str × α) → Prop
  | [], [] => True
  | p :: r, x :: s => p.1 = Sum.inr x.1 ∧ A F p.2 x.2 ∧ Dk A F r s
  | _, _ => False
def rD {α : Type} (A : Rep α) : Rep (List (Str × α)) := fun F v m => ∃ a kvs, v = .ref a ∧ Rd F a (.dK kvs) ∧ Dk A F kvs m ∧ (m.map (·.1)).Nodup
instance : Mo rI := ⟨fun _ h => h⟩
instance : Mo rB := ⟨fun _ h => h⟩
instance : Mo rS := ⟨fun _ h => h⟩
instance : Mo rN := ⟨fun _ h => h⟩
instance {K : PySem.W.Frag} : Mo (rFr K) := ⟨fun e ⟨a, h1, h2⟩ => ⟨a, h1, e.tup h2⟩⟩
instance {K : PySem.W.Frag} {α β : Type} {A : Rep α} {B : Rep β} [Mo A] [Mo B] : Mo (r2 K A B) := ⟨fun e ⟨a, v1, v2, h1, h2, h3, h4⟩ => ⟨a, v1, v2, h1, e.tup h2, Mo.mo e h3, Mo.mo e h4⟩⟩
instance {K : PySem.W.Frag} {α β γ : Type} {A : Rep α} {B : Rep β} {C : Rep γ} [Mo A] [Mo B] [Mo C] : Mo (r3 K A B C) := ⟨fun e ⟨a, v1, v2, v3, h1, h2, h3, h4, h5⟩ => ⟨a, v1, v2, v3, h1, e.tup h2, Mo.mo e h3, Mo.mo e h4, Mo.mo e h5⟩⟩
instance {K : PySem.W.Frag} {α β γ δ ε : Type} {A : Rep α} {B : Rep β} {C : Rep γ} {D : Rep δ} {E : Rep ε} [Mo A] [Mo B] [Mo C] [Mo D] [Mo E] : Mo (r5 K A B C D E) :=
  ⟨fun e ⟨a, v1, v2, v3, v4, v5, h1, h2, h3, h4, h5, h6, h7⟩ => ⟨a, v1, v2, v3, v4, v5, h1, e.tup h2, Mo.mo e h3, Mo.mo e h4, Mo.mo e h5, Mo.mo e h6, Mo.mo e h7⟩⟩
theorem Al.mo {α : Type} {A : Rep α} [Mo A] {F F' : Hp} (e : Le F F') : ∀ {vs : List V} {xs : List α}, Al A F vs xs → Al A F' vs xs
  | [], [], _ => True.intro
  | _ :: _, _ :: _, h => ⟨Mo.mo e h.1, Al.mo e h.2⟩
  | [], _ :: _, h => h.elim
  | _ :: _, [], h => h.elim
theorem Al.length {α : Type} {A : Rep α} {F : Hp} : ∀ {vs : List V} {xs : List α}, Al A F vs xs → vs.length = xs.length
  | [], [], _ => rfl
  | _ :: vs, _ :: xs, h => by rw [List.length_cons, List.length_cons, Al.length h.2]
  | [], _ :: _, h => h.elim
  | _ :: _, [], h => h.elim
theorem Al.get {α : Type} {A : Rep α} {F : Hp} : ∀ {vs : List V} {xs : List α} {i : Nat} {v : V}, Al A F vs xs → vs[i]? = some v → ∃ x, xs[i]? = some x ∧ A F v x
  | v :: vs, x :: xs, 0, w, h, e => by simp at e; subst e; exact ⟨x, rfl, h.1⟩
  | v :: vs, x :: xs, i + 1, w, h, e => by
    obtain ⟨y, h1, h2⟩ := Al.get (i := i) h.2 (by simpa using e)
    exact ⟨y, by simpa using h1, h2⟩
  | [], [], _, _, _, e => by simp at e
  | [], _ :: _, _, _, h, _ => h.elim
  | _ :: _, [], _, _, h, _ => h.elim
theorem Al.at {α : Type} {A : Rep α} {F : Hp} {vs : List V} {xs : List α} {i : Nat} {x : α} (h : Al A F vs xs) (e : xs[i]? = some x) : ∃ v, vs[i]? = some v ∧ A F v x := by
  have hl := h.length
  have hi : i < vs.length := by rw [hl]; exact (List.getElem?_eq_some_iff.mp e).1
  obtain ⟨y, h1, h2⟩ := h.get (i := i) (v := vs[i]) (by simp)
  rw [e] at h1
  cases h1
  exact ⟨_, by simp, h2⟩
theorem Al.app {α : Type} {A : Rep α} {F : Hp} : ∀ {vs ws : List V} {xs ys : List α}, Al A F vs xs → Al A F ws ys → Al A F (vs ++ ws) (xs ++ ys)
  | [], _, [], _, _, h => h
  | _ :: _, _, _ :: _, _, h, g => ⟨h.1, Al.app h.2 g⟩
  | [], _, _ :: _, _, h, _ => h.elim
  | _ :: _, _, [], _, h, _ => h.elim
theorem Al.snoc {α : Type} {A : Rep α} {F : Hp} {vs : List V} {xs : List α} {v : V} {x : α} (h : Al A F vs xs) (g : A F v x) : Al A F (vs ++ [v]) (xs ++ [x]) := h.app ⟨g, True.intro⟩
theorem al_ints {F : Hp} : ∀ {ns : List Int}, Al rI F (ns.map V.int) ns
  | [] => True.intro
  | _ :: ns => ⟨rfl, al_ints⟩
theorem Dk.mo {α : Type} {A : Rep α} [Mo A] {F F' : Hp} (e : Le F F') : ∀ {vs : List (Key × V)} {xs : List (Str × α)}, Dk A F vs xs → Dk A F' vs xs
  | [], [], _ => True.intro
  | _ :: _, _ :: _, h => ⟨h.1, Mo.mo e h.2.1, Dk.mo e h.2.2⟩
  | [], _ :: _, h => h.elim
  | _ :: _, [], h => h.elim
theorem Dk.length {α : Type} {A : Rep α} {F : Hp} : ∀ {vs : List (Key × V)} {xs : List (Str × α)}, Dk A F vs xs → vs.length = xs.length
  | [], [], _ => rfl
  | _ :: vs, _ :: xs, h => by rw [List.length_cons, List.length_cons, Dk.length h.2.2]
  | [], _ :: _, h => h.elim
  | _ :: _, [], h => h.elim
instance {K : PySem.W.Frag} {α : Type} {A : Rep α} [Mo A] : Mo (rL K A) := ⟨fun e ⟨a, vs, h1, h2, h3⟩ => ⟨a, vs, h1, e.lst h2, h3.mo e⟩⟩
instance {α : Type} {A : Rep α} [Mo A] : Mo (rD A) := ⟨fun e ⟨a, kvs, h1, h2, h3, h4⟩ => ⟨a, kvs, h1, e.dic h2, h3.mo e, h4⟩⟩
theorem Dk.get {α : Type} {A : Rep α} {F : Hp} : ∀ {kvs : List (Key × V)} {m : List (Str × α)} {i : Nat} {k : Key} {v : V}, Dk A F kvs m → kvs[i]? = some (k, v) → ∃ x y, m[i]? = some (x, y) ∧ k = Sum.inr x ∧ A F v y
  | p :: r, x :: s, 0, k, v, h, e => by
    simp at e
    subst e
    exact ⟨x.1, x.2, rfl, h.1, h.2.1⟩
  | p :: r, x :: s, i + 1, k, v, h, e => by
    obtain ⟨x', y, e1, e2⟩ := Dk.get (i := i) h.2.2 (by simpa using e)
    exact ⟨x', y, by simpa using e1, e2⟩
  | [], [], i, _, _, _, e => by simp at e
  | [], _ :: _, _, _, _, h, _ => h.elim
  | _ :: _, [], _, _, _, h, _ => h.elim
section
variable {α : Type}
def gtd (m : List (Str × α)) (k : Str) : Option α := (m.find? fun p => decide (p.1 = k)).map (·.2)
def ptd (m : List (Str × α)) (k : Str) (y : α) : List (Str × α) := if (m.any fun p => decide (p.1 = k)) = true then m.map (fun p => if p.1 = k then (p.1, y) else p) else m ++ [(k, y)]
theorem ptd_pt (m : FL Str) (k : Str) (y : Rat) : ptd m k y = pt m k y := rfl
theorem gtd_pos {p : Str × α} {r : List (Str × α)} {k : Str} (e : p.1 = k) : gtd (p :: r) k = some p.2 := by simp [gtd, List.find?_cons, e]
theorem gtd_neg {p : Str × α} {r : List (Str × α)} {k : Str} (e : ¬ p.1 = k) : gtd (p :: r) k = gtd r k := by simp [gtd, List.find?_cons, e]
theorem gtd_any (k : Str) : ∀ m : List (Str × α), (m.any fun p => decide (p.1 = k)) = (gtd m k).isSome
  | [] => rfl
  | p :: r => by
    rw [List.any_cons, gtd_any k r]
    by_cases e : p.1 = k
    · rw [gtd_pos e, decide_eq_true e]; rfl
    · rw [gtd_neg e, decide_eq_false e]; rfl
theorem Dk.val {A : Rep α} {F : Hp} (x : Str) : ∀ {kvs : List (Key × V)} {m : List (Str × α)}, Dk A F kvs m → (valV kvs (Sum.inr x : Key) = none ∧ gtd m x = none) ∨ ∃ v y, valV kvs (Sum.inr x : Key) = some v ∧ gtd m x = some y ∧ A F v y
  | [], [], _ => .inl ⟨rfl, rfl⟩
  | p :: r, y :: s, h => by
    by_cases e : y.1 = x
    · have e2 : p.1 = (Sum.inr x : Key) := by rw [h.1, e]
      exact .inr ⟨p.2, y.2, by rw [valV_pos e2], gtd_pos e, h.2.1⟩
    · have e2 : ¬ p.1 = (Sum.inr x : Key) := by rw [h.1]; exact fun z => e (Sum.inr.inj z)
      rw [valV_neg e2, gtd_neg e]
      exact Dk.val x h.2.2
  | [], _ :: _, h => h.elim
  | _ :: _, [], h => h.elim
theorem Dk.some {A : Rep α} {F : Hp} {x : Str} {y : α} {kvs : List (Key × V)} {m : List (Str × α)} (h : Dk A F kvs m) (e : gtd m x = some y) : ∃ v, valV kvs (Sum.inr x : Key) = some v ∧ A F v y := by
  rcases h.val x with ⟨_, h2⟩ | ⟨v, y', h1, h2, h3⟩
  · rw [e] at h2; cases h2
  · rw [e] at h2; cases h2; exact ⟨v, h1, h3⟩
theorem Dk.none {A : Rep α} {F : Hp} {x : Str} {kvs : List (Key × V)} {m : List (Str × α)} (h : Dk A F kvs m) (e : gtd m x = none) : valV kvs (Sum.inr x : Key) = none := by
  rcases h.val x with ⟨h1, _⟩ | ⟨v, y', h1, h2, h3⟩
  · exact h1
  · rw [e] at h2; cases h2
theorem Dk.any {A : Rep α} {F : Hp} (x : Str) {kvs : List (Key × V)} {m : List (Str × α)} (h : Dk A F kvs m) : (kvs.any fun kv => decide (kv.1 = (Sum.inr x : Key))) = (m.any fun p => decide (p.1 = x)) := by
  rw [valV_any, gtd_any]
  rcases h.val x with ⟨h1, h2⟩ | ⟨a, q, h1, h2, _⟩
  · rw [h1, h2]; rfl
  · rw [h1, h2]; rfl
theorem Dk.snoc {A : Rep α} {F : Hp} {x : Str} {y : α} {v : V} (hv : A F v y) : ∀ {kvs : List (Key × V)} {m : List (Str × α)}, Dk A F kvs m → Dk A F (kvs ++ [(Sum.inr x, v)]) (m ++ [(x, y)])
  | [], [], _ => ⟨rfl, hv, True.intro⟩
  | _ :: _, _ :: _, h => ⟨h.1, h.2.1, Dk.snoc hv h.2.2⟩
  | [], _ :: _, h => h.elim
  | _ :: _, [], h => h.elim
theorem Dk.repl {A : Rep α} {F : Hp} {x : Str} {y : α} {v : V} (hv : A F v y) : ∀ {kvs : List (Key × V)} {m : List (Str × α)}, Dk A F kvs m →
    Dk A F (kvs.map fun kv => if kv.1 = (Sum.inr x : Key) then (kv.1, v) else kv) (m.map fun p => if p.1 = x then (p.1, y) else p)
  | [], [], _ => True.intro
  | p :: r, z :: s, h => by
    have ih := Dk.repl (x := x) hv h.2.2
    rw [List.map_cons, List.map_cons]
    by_cases e : z.1 = x
    · have e2 : p.1 = (Sum.inr x : Key) := by rw [h.1, e]
      rw [if_pos e2, if_pos e]
      exact ⟨h.1, hv, ih⟩
    · have e2 : ¬ p.1 = (Sum.inr x : Key) := by rw [h.1]; exact fun z => e (Sum.inr.inj z)
      rw [if_neg e2, if_neg e]
      exact ⟨h.1, h.2.1, ih⟩
  | [], _ :: _, h => h.elim
  | _ :: _, [], h => h.elim
theorem Dk.put {A : Rep α} {F : Hp} {x : Str} {y : α} {v : V} (hv : A F v y) {kvs : List (Key × V)} {m : List (Str × α)} (h : Dk A F kvs m) : Dk A F (putK kvs (Sum.inr x : Key) v) (ptd m x y) := by
  unfold putK ptd
  rw [h.any x]
  split
  · exact h.repl hv
  · exact h.snoc hv
end
def bl (n : Nat) : Nat := if n = 0 then 0 else Nat.log2 n + 1
theorem bl_lt {n k : Nat} : n < 2 ^ k ↔ bl n ≤ k := by
  unfold bl
  by_cases h : n = 0
  · subst h; simp [Nat.two_pow_pos]
  · rw [if_neg h, ← Nat.log2_lt h]; omega
theorem bl_self (n : Nat) : n < 2 ^ bl n := bl_lt.mpr (Nat.le_refl _)
def bi (x : Int) : Nat := bl x.natAbs
def bs (q : Rat) : Nat := max (bl q.num.natAbs) (bl q.den)
theorem sm_of {q : Rat} {n : Nat} (h : bs q ≤ n) : Sm n q := ⟨bl_lt.mpr (by unfold bs at h; omega), bl_lt.mpr (by unfold bs at h; omega)⟩
theorem of_sm {q : Rat} {n : Nat} (h : Sm n q) : bs q ≤ n := by
  have h1 := bl_lt.mp h.1
  have h2 := bl_lt.mp h.2
  unfold bs
  omega
theorem sm_bs (q : Rat) : Sm (bs q) q := sm_of (Nat.le_refl _)
theorem bs_add (a b : Rat) : bs (a + b) ≤ bs a + bs b + 1 := of_sm (sm_add (sm_bs a) (sm_bs b))
theorem bs_sub (a b : Rat) : bs (a - b) ≤ bs a + bs b + 1 := of_sm (sm_sub (sm_bs a) (sm_bs b))
theorem bs_mul (a b : Rat) : bs (a * b) ≤ bs a + bs b := of_sm (sm_mul (sm_bs a) (sm_bs b))
theorem bs_neg (a : Rat) : bs (-a) ≤ bs a := of_sm (sm_neg (sm_bs a))
theorem bs_zero : bs 0 = 1 := by decide +kernel
theorem bi_lt {x : Int} {k : Nat} (h : x.natAbs < 2 ^ k) : bi x ≤ k := bl_lt.mp h
theorem lt_bi {x : Int} {k : Nat} (h : bi x ≤ k) : x.natAbs < 2 ^ k := bl_lt.mpr h
theorem bi_mul (x y : Int) : bi (x * y) ≤ bi x + bi y := bl_lt.mp (abs_mul_lt (bl_self _) (bl_self _))
theorem bi_add (x y : Int) : bi (x + y) ≤ max (bi x) (bi y) + 1 := by
  have h1 : x.natAbs < 2 ^ (max (bi x) (bi y)) := Nat.lt_of_lt_of_le (bl_self _) (Nat.pow_le_pow_right (by decide) (Nat.le_max_left _ _))
  have h2 : y.natAbs < 2 ^ (max (bi x) (bi y)) := Nat.lt_of_lt_of_le (bl_self _) (Nat.pow_le_pow_right (by decide) (Nat.le_max_right _ _))
  exact bl_lt.mp (abs_add_lt h1 h2)
theorem bi_sub (x y : Int) : bi (x - y) ≤ max (bi x) (bi y) + 1 := by
  have h1 : x.natAbs < 2 ^ (max (bi x) (bi y)) := Nat.lt_of_lt_of_le (bl_self _) (Nat.pow_le_pow_right (by decide) (Nat.le_max_left _ _))
  have h2 : y.natAbs < 2 ^ (max (bi x) (bi y)) := Nat.lt_of_lt_of_le (bl_self _) (Nat.pow_le_pow_right (by decide) (Nat.le_max_right _ _))
  exact bl_lt.mp (abs_sub_lt h1 h2)
theorem bi_small {x : Int} (k : Nat) (h : x.natAbs < 2 ^ k) : bi x ≤ k := bl_lt.mp h
theorem bi_num (q : Rat) : bi q.num ≤ bs q := by unfold bi bs; omega
theorem bi_den (q : Rat) : bi (q.den : Int) ≤ bs q := by unfold bi bs; rw [Int.natAbs_natCast]; omega
theorem bs_divInt {t b : Int} (h : b ≠ 0) {k : Nat} (h1 : bi t ≤ k) (h2 : bi b ≤ k) : bs (Rat.divInt t b) ≤ k := of_sm (sm_divInt h (lt_bi h1) (lt_bi h2))
theorem mulBB {x y : Int} (h1 : bi x ≤ 60000000) (h2 : bi y ≤ 60000000) : CMulX x y := .inr ⟨60000000, Nat.le_refl _, lt_bi h1, lt_bi h2⟩
theorem mulL2 {x y : Int} (h1 : -18446744073709551616 < x) (h2 : x < 18446744073709551616) : CMulX x y := .inl (.inl ⟨by omega, by omega⟩)
theorem mulR2 {x y : Int} (h1 : -18446744073709551616 < y) (h2 : y < 18446744073709551616) : CMulX x y := .inl (.inr ⟨by omega, by omega⟩)
theorem mulLB {x y : Int} (h1 : bi x ≤ 60) : CMulX x y := by
  have h := lt_bi h1
  refine .inl (.inl ⟨?_, ?_⟩) <;> omega
theorem mulRB {x y : Int} (h1 : bi y ≤ 60) : CMulX x y := by
  have h := lt_bi h1
  refine .inl (.inr ⟨?_, ?_⟩) <;> omega
theorem divB {x y : Int} (h0 : y ≠ 0) (h1 : bi y ≤ 8000) : CDivB x y := ⟨h0, lt_bi h1⟩
section
variable {σ : St} {H : Hp} {Q : VK} {D : Ends} {K : PySem.W.Frag}
theorem a_powC {i j z : Int} (e : i ^ j.toNat = z) (c : CPow i j) (h : Q (.int z) H) : L2.rI CPow (fun i j => .int (i ^ j.toNat)) (.int i) (.int j) H Q := ⟨i, j, rfl, rfl, c, by dsimp only; rw [e]; exact h⟩
theorem a_eqS {x y : Str} (h : Q (.bl (decide (x = y))) H) : rEq (.str x) (.str y) H Q := ⟨rfl, by
  have e : decide (V.str x = V.str y) = decide (x = y) := by
    by_cases q : x = y
    · subst q; simp
    · rw [decide_eq_false q, decide_eq_false (fun z => q (V.str.inj z))]
  rw [e]; exact h⟩
theorem a_neS {x y : Str} (h : Q (.bl (!decide (x = y))) H) : rNe (.str x) (.str y) H Q := ⟨rfl, by
  have e : decide (V.str x = V.str y) = decide (x = y) := by
    by_cases q : x = y
    · subst q; simp
    · rw [decide_eq_false q, decide_eq_false (fun z => q (V.str.inj z))]
  rw [e]; exact h⟩
theorem iteB {b : Bool} {A B : Prop} (h1 : b = true → A) (h2 : b = false → B) : if b = true then A else B := by
  cases b
  · exact iteF (h2 rfl)
  · exact iteT (h1 rfl)
theorem iteNB {b : Bool} {A B : Prop} (h1 : b = false → A) (h2 : b = true → B) : if (!b) = true then A else B := by
  cases b
  · exact iteT (h1 rfl)
  · exact iteF (h2 rfl)
theorem fr_int (n : Int) : fr ((n : Int) : Rat) = [.int n, .int 1] := by
  unfold fr
  rw [Rat.num_intCast, Rat.den_intCast]
  rfl
theorem fr_lit {q : Rat} {t b : Int} (h1 : q.num = t) (h2 : (q.den : Int) = b) : fr q = [.int t, .int b] := by unfold fr; rw [h1, h2]
end
def TyX (K : PySem.W.Frag) (H : Hp) (x : V) (t : Value) : Prop := TyOf K H x t ∨ (t = .type "tuple" ∧ ∃ a xs, x = .ref a ∧ SqT K H a xs) ∨ (t = .type "list" ∧ ∃ a xs, x = .ref a ∧ SqL K H a xs) ∨ (t = .type "dict" ∧ ∃ a kvs, x = .ref a ∧ Rd H a (.dK kvs))
section
variable {K : PySem.W.Frag} {H : Hp}
theorem tx_tup {a : Addr} {xs : List V} (h : SqT K H a xs) : TyX K H (.ref a) (.type "tuple") := .inr (.inl ⟨rfl, a, xs, rfl, h⟩)
theorem tx_int {i : Int} : TyX K H (.int i) (.type "int") := .inl (.int i)
theorem tx_str {i : Str} : TyX K H (.str i) (.type "str") := .inl (.str i)
end
section
open PySem.Spec PyProof.Rows
variable {X : Cx}
theorem call_isx : CallR X (.builtin "isinstance") (fun xs H Q => ∃ x c t b u, xs = [x, c] ∧ TyX X.K H x t ∧ clsV c = some u ∧ PySem.W.kitOne X.K t u = some b ∧ Q (.bl b) H) := by
  intro pins s σ H xs us Q I r h
  obtain ⟨x, c, t, b, u, rfl, ty, rc, e, q⟩ := h
  rcases ty with ty | ⟨rfl, a, ys, rfl, hs⟩ | ⟨rfl, a, ys, rfl, hs⟩ | ⟨rfl, a, kvs, rfl, hs⟩
  · exact call_isi pins s σ H [x, c] us Q I r ⟨x, c, t, b, u, rfl, ty, rc, e, q⟩
  all_goals
    obtain ⟨v, w', rfl, rx, rw'⟩ := vals2 r
    have ew : w' = u := by
      cases c with
      | ref a => cases rc; exact rw'
      | ty n => cases rc; exact rw'
      | non => cases rc
      | bl n => cases rc
      | int i => cases rc
      | str i => cases rc
      | byt i => cases rc
      | flt i => cases rc
    subst ew
    cases (show v = Value.ref a from rx)
  · obtain ⟨its, _, p, _⟩ := I.tuple hs
    obtain ⟨o, h1, h2, _⟩ := p
    exact PySem.W.kia_one PySem.W.kitx_tuple I.kIn ⟨o, h1, h2⟩ e (fun z => nomatch z) fun tk => ⟨.bl b, H, I.tok tk, rfl, q⟩
  · obtain ⟨its, _, p, _⟩ := I.list hs
    obtain ⟨o, h1, h2, _⟩ := p.isList
    exact PySem.W.kia_one PySem.W.kitx_list I.kIn ⟨o, h1, h2⟩ e (fun z => nomatch z) fun tk => ⟨.bl b, H, I.tok tk, rfl, q⟩
  · obtain ⟨_, _, vs, _, p⟩ := dk_rd I.hok hs
    obtain ⟨o, es, ep, h1, h2, _⟩ := p
    exact PySem.W.kia_one PySem.W.kitx_dict I.kIn ⟨o, h1, h2.1⟩ e (fun z => nomatch z) fun tk => ⟨.bl b, H, I.tok tk, rfl, q⟩
end
theorem Al.ix {α : Type} {A : Rep α} {F : Hp} {vs : List V} {xs : List α} (h : Al A F vs xs) {i : Int} (h0 : 0 ≤ i) (h1 : i < xs.length) : ∃ x v, xs[i.toNat]? = some x ∧ atI vs i = some v ∧ A F v x := by
  have hi : i.toNat < xs.length := by omega
  obtain ⟨v, e1, e2⟩ := h.at (i := i.toNat) (x := xs[i.toNat]) (by simp [hi])
  refine ⟨xs[i.toNat], v, by simp [hi], ?_, e2⟩
  have := atI_nat e1
  rw [Int.toNat_of_nonneg h0] at this
  exact this
theorem nd_ptd {α : Type} {m : List (Str × α)} (n : (m.map (·.1)).Nodup) (k : Str) (y : α) : ((ptd m k y).map (·.1)).Nodup := by
  unfold ptd
  split
  · rw [List.map_map]
    have e : (m.map ((·.1) ∘ fun p => if p.1 = k then (p.1, y) else p)) = m.map (·.1) := by
      apply List.map_congr_left
      intro p _
      simp only [Function.comp]
      split <;> rfl
    rw [e]; exact n
  · rename_i h
    rw [List.map_append, List.nodup_append]
    refine ⟨n, by simp, ?_⟩
    intro a ha b hb e
    simp at hb
    subst hb
    subst e
    obtain ⟨p, hp, hk⟩ := List.mem_map.mp ha
    apply h
    rw [List.any_eq_true]
    exact ⟨p, hp, by simp [hk]⟩
def sgn (z : Str) (i : Int) : Str := ⟨#[z.cps.toList.getD i.toNat 0]⟩
theorem a_ixS {H : Hp} {Q : VK} {z : Str} {i : Int} (hz : z.length ≤ sizeLine) (h0 : 0 ≤ i) (h1 : i < z.length) (h : Q (.str (sgn z i)) H) : rIxS (.str z) (.int i) H Q := by
  have hl : z.cps.toList.length = z.length := by rw [Array.length_toList]; rfl
  have e : z.cps.toList[i.toNat]? = some (z.cps.toList.getD i.toNat 0) := by
    rw [List.getD_eq_getElem?_getD, List.getElem?_eq_getElem (by omega)]
    rfl
  have := atI_nat e
  rw [Int.toNat_of_nonneg h0] at this
  exact ⟨z, i, _, rfl, rfl, hz, this, h⟩
theorem str_len_app (x y : Str) : (x ++ y).length = x.length + y.length := Array.size_append
def cutA {α : Type} (xs : List α) (lo hi : Option Int) : List α := (xs.drop (HT.sIx xs.length 0 lo)).take (HT.sIx xs.length xs.length hi - HT.sIx xs.length 0 lo)
theorem cutA_le {α : Type} (xs : List α) (lo hi : Option Int) : (cutA xs lo hi).length ≤ xs.length := by
  unfold cutA
  rw [List.length_take, List.length_drop]
  omega
theorem Al.drop {α : Type} {A : Rep α} {F : Hp} : ∀ (n : Nat) {vs : List V} {xs : List α}, Al A F vs xs → Al A F (vs.drop n) (xs.drop n)
  | 0, _, _, h => h
  | _ + 1, [], [], _ => True.intro
  | n + 1, _ :: _, _ :: _, h => Al.drop n h.2
  | _ + 1, [], _ :: _, h => h.elim
  | _ + 1, _ :: _, [], h => h.elim
theorem Al.take {α : Type} {A : Rep α} {F : Hp} : ∀ (n : Nat) {vs : List V} {xs : List α}, Al A F vs xs → Al A F (vs.take n) (xs.take n)
  | 0, _, _, _ => True.intro
  | _ + 1, [], [], _ => True.intro
  | n + 1, _ :: _, _ :: _, h => ⟨h.1, Al.take n h.2⟩
  | _ + 1, [], _ :: _, h => h.elim
  | _ + 1, _ :: _, [], h => h.elim
theorem Al.cut {α : Type} {A : Rep α} {F : Hp} {vs : List V} {xs : List α} (lo hi : Option Int) (h : Al A F vs xs) : Al A F (cutV vs lo hi) (cutA xs lo hi) := by
  unfold cutV cutA
  rw [h.length]
  exact (h.drop _).take _
end Vc
namespace Vc
open PySem L2 Sf
section
variable {X : Cx} {pins : List (Addr × Obj)} {σ : St} {F H : Hp} {s : Shared} {Au : Around}
theorem rel_fun : ∀ {x y : V} {u : Value}, RelV x u → RelV y u → x = y := by
  intro x y u h1 h2
  cases x <;> cases y <;> simp only [RelV] at h1 h2 <;> first
    | rfl
    | (subst h1; simp at h2; subst h2; rfl)
    | (subst h1; simp at h2; done)
    | (obtain ⟨t, rfl⟩ := h1; obtain ⟨t', e⟩ := h2; simp at e; rw [e.1])
    | (obtain ⟨t, rfl⟩ := h1; simp at h2; done)
    | (obtain ⟨t, rfl⟩ := h2; simp at h1; done)
theorem vals_fun : ∀ {xs ys : List V} {us : List Value}, Vals xs us → Vals ys us → xs = ys
  | [], [], _, _, _ => rfl
  | _ :: _, _ :: _, _, .cons h t, .cons h' t' => by rw [rel_fun h h', vals_fun t t']
  | [], _ :: _, _, h, h' => by cases h; cases h'
  | _ :: _, [], _, h, h' => by cases h'; cases h
theorem sqT_fun {a : Addr} {xs ys : List V} (I : Inv X pins σ H s) (h1 : SqT X.K H a xs) (h2 : SqT X.K H a ys) : xs = ys := by
  obtain ⟨us, r1, ⟨o1, g1, c1, n1, d1⟩, _⟩ := I.tuple h1
  obtain ⟨ws, r2, ⟨o2, g2, c2, n2, d2⟩, _⟩ := I.tuple h2
  rw [g1] at g2
  cases g2
  rw [d1] at d2
  injection d2 with e _
  have : us = ws := by simpa using e
  subst this
  exact vals_fun r1 r2
theorem sqL_fun {a : Addr} {xs ys : List V} (I : Inv X pins σ H s) (h1 : SqL X.K H a xs) (h2 : SqL X.K H a ys) : xs = ys := by
  obtain ⟨us, r1, p1, _⟩ := I.list h1
  obtain ⟨ws, r2, p2, _⟩ := I.list h2
  obtain ⟨o1, g1, c1, n1, d1⟩ := p1.isList
  obtain ⟨o2, g2, c2, n2, d2⟩ := p2.isList
  rw [g1] at g2
  cases g2
  rw [d1] at d2
  injection d2 with e _
  have : us = ws := by simpa using e
  subst this
  exact vals_fun r1 r2
theorem rc_tups {a b : Addr} {xs ys : List V} (I : Inv X pins σ H s) (h1 : SqT X.K H a xs) (h2 : SqT X.K H b ys) (hu : Au.units < cLine) (hl : xs.length = ys.length) (e : Nat → Bool)
    (he : ∀ (j : Nat) x y u v, xs[j]? = some x → ys[j]? = some y → RelV x u → RelV y v → SeqAt.EqAt Au.in1 s u v (e j)) : SeqAt.RcAt Au s (.ref a) (.ref b) ((List.range xs.length).all e) := by
  obtain ⟨us, r1, t1, _⟩ := I.tuple h1
  obtain ⟨ws, r2, t2, _⟩ := I.tuple h2
  have l1 := r1.length
  have l2 := r2.length
  have z := SeqAt.RcAt.tuples (A := Au) (e := e) t1 t2 hu (fun j h1 h2 => ?_)
  · have e0 : ((List.range (min us.toArray.size ws.toArray.size)).all e && us.toArray.size == ws.toArray.size) = (List.range xs.length).all e := by
      simp only [List.size_toArray]
      have e1 : min us.length ws.length = xs.length := by omega
      have e2 : (us.length == ws.length) = true := by simp; omega
      rw [e1, e2, Bool.and_true]
    rw [e0] at z
    exact z
  · simp only [List.size_toArray] at h1 h2
    obtain ⟨u, e1, ru⟩ := r1.get (i := j) (x := xs[j]'(by omega)) (by simp)
    obtain ⟨v, e2, rv⟩ := r2.get (i := j) (x := ys[j]'(by omega)) (by simp)
    obtain ⟨_, f1⟩ := List.getElem?_eq_some_iff.mp e1
    obtain ⟨_, f2⟩ := List.getElem?_eq_some_iff.mp e2
    have g1 : us.toArray[j]'(by simpa using h1) = u := by simpa using f1
    have g2 : ws.toArray[j]'(by simpa using h2) = v := by simpa using f2
    rw [g1, g2]
    exact he j _ _ u v (by simp) (by simp) ru rv
theorem rc_lsts {a b : Addr} {xs ys : List V} (I : Inv X pins σ H s) (h1 : SqL X.K H a xs) (h2 : SqL X.K H b ys) (hu : Au.units < cLine) (hl : xs.length = ys.length) (e : Nat → Bool)
    (he : ∀ (j : Nat) x y u v, xs[j]? = some x → ys[j]? = some y → RelV x u → RelV y v → SeqAt.EqAt Au.in1 s u v (e j)) : SeqAt.RcAt Au s (.ref a) (.ref b) ((List.range xs.length).all e) := by
  obtain ⟨us, r1, t1, _⟩ := I.list h1
  obtain ⟨ws, r2, t2, _⟩ := I.list h2
  have l1 := r1.length
  have l2 := r2.length
  have z := SeqAt.RcAt.lists (A := Au) (e := e) t1.isList t2.isList (by simp; omega) hu (fun j h1 h2 => ?_)
  · have e0 : (List.range us.toArray.size).all e = (List.range xs.length).all e := by
      simp only [List.size_toArray]
      rw [← l1]
    rw [e0] at z
    exact z
  · simp only [List.size_toArray] at h1 h2
    obtain ⟨u, e1, ru⟩ := r1.get (i := j) (x := xs[j]'(by omega)) (by simp)
    obtain ⟨v, e2, rv⟩ := r2.get (i := j) (x := ys[j]'(by omega)) (by simp)
    obtain ⟨_, f1⟩ := List.getElem?_eq_some_iff.mp e1
    obtain ⟨_, f2⟩ := List.getElem?_eq_some_iff.mp e2
    have g1 : us.toArray[j]'(by simpa using h1) = u := by simpa using f1
    have g2 : ws.toArray[j]'(by simpa using h2) = v := by simpa using f2
    rw [g1, g2]
    exact he j _ _ u v (by simp) (by simp) ru rv
end
class Qf {α : Type} [DecidableEq α] (K : PySem.W.Frag) (A : Rep α) (dep : outParam Nat) : Prop where
  fn : ∀ {X : Cx} {pins : List (Addr × Obj)} {σ : St} {F H : Hp} {s : Shared} {v : V} {x y : α}, X.K = K → Inv X pins σ H s → Same F H → A F v x → A F v y → x = y
  qf : ∀ {X : Cx} {pins : List (Addr × Obj)} {σ : St} {F H : Hp} {s : Shared} {Au : Around} {v w : V} {x y : α} {u u' : Value}, X.K = K → Inv X pins σ H s → Same F H → A F v x → A F w y → RelV v u → RelV w u' → Au.units + dep < cLine → SeqAt.EqAt Au s u u' (decide (x = y))
class Qr {α : Type} [DecidableEq α] (K : PySem.W.Frag) (A : Rep α) (dep : outParam Nat) : Prop where
  fn : ∀ {X : Cx} {pins : List (Addr × Obj)} {σ : St} {F H : Hp} {s : Shared} {v : V} {x y : α}, X.K = K → Inv X pins σ H s → Same F H → A F v x → A F v y → x = y
  rf : ∀ {F : Hp} {v : V} {x : α}, A F v x → ∃ a, v = .ref a
  rc : ∀ {X : Cx} {pins : List (Addr × Obj)} {σ : St} {F H : Hp} {s : Shared} {Au : Around} {a b : Addr} {x y : α}, X.K = K → Inv X pins σ H s → Same F H → A F (.ref a) x → A F (.ref b) y → Au.units + dep < cLine → SeqAt.RcAt Au s (.ref a) (.ref b) (decide (x = y))
instance (priority := low) {α : Type} [DecidableEq α] {K : PySem.W.Frag} {A : Rep α} {d : Nat} [q : Qr K A d] : Qf K A d where
  fn := q.fn
  qf := fun {X pins σ F H s Au v w x y u u'} hK I wd h1 h2 r1 r2 hu => by
    obtain ⟨a, rfl⟩ := q.rf h1
    obtain ⟨b, rfl⟩ := q.rf h2
    cases r1
    cases r2
    by_cases e : a = b
    · subst e
      rw [decide_eq_true (q.fn hK I wd h1 h2)]
      exact SeqAt.EqAt.same _
    · exact SeqAt.EqAt.of_refs e (q.rc hK I wd h1 h2 hu)
theorem qf_flat {α : Type} [DecidableEq α] {K : PySem.W.Frag} {A : Rep α} (f : α → V) (hf : ∀ F v x, A F v x ↔ v = f x) (fl : ∀ x, flatV (f x) = true) (he : ∀ x y, eqV (f x) (f y) = decide (x = y)) (hi : ∀ x y, f x = f y → x = y) : Qf K A 0 where
  fn := fun {X pins σ F H s v x y} _ _ _ h1 h2 => hi x y (((hf F v x).mp h1).symm.trans ((hf F v y).mp h2))
  qf := fun {X pins σ F H s Au v w x y u u'} _ _ _ h1 h2 r1 r2 _ => by
    have e1 := (hf F v x).mp h1
    have e2 := (hf F w y).mp h2
    subst e1 e2
    rw [← he x y]
    exact eqAt_V r1 r2 (fl x) (fl y)
instance {K : PySem.W.Frag} : Qf K rI 0 := qf_flat V.int (fun _ _ _ => Iff.rfl) (fun _ => rfl) (fun x y => by show (x == y) = _; rw [Bool.beq_eq_decide_eq]) (fun _ _ h => V.int.inj h)
instance {K : PySem.W.Frag} : Qf K rS 0 := qf_flat V.str (fun _ _ _ => Iff.rfl) (fun _ => rfl) (fun x y => by show (x == y) = _; rw [Bool.beq_eq_decide_eq]) (fun _ _ h => V.str.inj h)
instance {K : PySem.W.Frag} : Qf K rB 0 := qf_flat V.bl (fun _ _ _ => Iff.rfl) (fun _ => rfl) (fun x y => by show (x == y) = _; rw [Bool.beq_eq_decide_eq]) (fun _ _ h => V.bl.inj h)
theorem rat_dec (p q : Rat) : decide (p = q) = (decide (p.num = q.num) && decide ((p.den : Int) = (q.den : Int))) := by
  by_cases h : p = q
  · subst h; simp
  · rw [decide_eq_false h]
    by_cases h1 : p.num = q.num
    · have h2 : ¬ ((p.den : Int) = (q.den : Int)) := fun z => h (Rat.ext h1 (by omega))
      rw [decide_eq_false h2, Bool.and_false]
    · rw [decide_eq_false h1, Bool.false_and]
theorem int_eqAt {Au : Around} {s : Shared} {i j : Int} {u v : Value} (r1 : RelV (.int i) u) (r2 : RelV (.int j) v) : SeqAt.EqAt Au s u v (decide (i = j)) := by
  have z := eqAt_V (A := Au) (s := s) r1 r2 rfl rfl
  have e : eqV (.int i) (.int j) = decide (i = j) := by show (i == j) = _; rw [Bool.beq_eq_decide_eq]
  rw [e] at z
  exact z
instance {K : PySem.W.Frag} : Qr K (rFr K) 1 where
  fn := fun {X pins σ F H s v x y} hK I wd h1 h2 => by
    subst hK
    obtain ⟨a, rfl, g1⟩ := h1
    obtain ⟨b, e, g2⟩ := h2
    cases e
    have z := sqT_fun I (wd.tup g1) (wd.tup g2)
    unfold fr at z
    injection z with z1 z2
    injection z2 with z2 _
    have n1 := V.int.inj z1
    have n2 := V.int.inj z2
    exact Rat.ext n1 (by omega)
  rf := fun ⟨a, h, _⟩ => ⟨a, h⟩
  rc := fun {X pins σ F H s Au a b x y} hK I wd h1 h2 hu => by
    subst hK
    obtain ⟨a', e1, g1⟩ := h1
    obtain ⟨b', e2, g2⟩ := h2
    cases e1
    cases e2
    have z := rc_tups (Au := Au) I (wd.tup g1) (wd.tup g2) (by omega) rfl (fun j => if j = 0 then decide (x.num = y.num) else decide ((x.den : Int) = (y.den : Int))) (fun j p q u v h1 h2 r1 r2 => by
      match j, h1, h2 with
      | 0, h1, h2 => cases h1; cases h2; exact int_eqAt r1 r2
      | 1, h1, h2 => cases h1; cases h2; exact int_eqAt r1 r2
      | j + 2, h1, h2 => cases h1)
    rw [rat_dec]
    have e : (List.range (fr x).length).all (fun j => if j = 0 then decide (x.num = y.num) else decide ((x.den : Int) = (y.den : Int))) = (decide (x.num = y.num) && decide ((x.den : Int) = (y.den : Int))) := by
      show (List.range 2).all _ = _
      simp [List.range_succ]
    rw [e] at z
    exact z
instance {K : PySem.W.Frag} {α β : Type} [DecidableEq α] [DecidableEq β] {A : Rep α} {B : Rep β} {d e : Nat} [qa : Qf K A d] [qb : Qf K B e] : Qr K (r2 K A B) (d + e + 1) where
  fn := fun {X pins σ F H s v x y} hK I wd h1 h2 => by
    subst hK
    obtain ⟨a, v1, v2, rfl, g, k1, k2⟩ := h1
    obtain ⟨b, w1, w2, e, g', l1, l2⟩ := h2
    cases e
    have z := sqT_fun I (wd.tup g) (wd.tup g')
    injection z with z1 z2
    injection z2 with z2 _
    subst z1 z2
    exact Prod.ext (qa.fn rfl I wd k1 l1) (qb.fn rfl I wd k2 l2)
  rf := fun ⟨a, _, _, h, _⟩ => ⟨a, h⟩
  rc := fun {X pins σ F H s Au a b x y} hK I wd h1 h2 hu => by
    subst hK
    obtain ⟨a', v1, v2, e1, g1, k1, k2⟩ := h1
    obtain ⟨b', w1, w2, e2, g2, l1, l2⟩ := h2
    cases e1
    cases e2
    have z := rc_tups (Au := Au) I (wd.tup g1) (wd.tup g2) (by omega) rfl (fun j => if j = 0 then decide (x.1 = y.1) else decide (x.2 = y.2)) (fun j p q u v h1 h2 r1 r2 => by
      match j, h1, h2 with
      | 0, h1, h2 => cases h1; cases h2; exact qa.qf rfl I wd k1 l1 r1 r2 (by rw [in1_units]; omega)
      | 1, h1, h2 => cases h1; cases h2; exact qb.qf rfl I wd k2 l2 r1 r2 (by rw [in1_units]; omega)
      | j + 2, h1, h2 => cases h1)
    have e0 : decide (x = y) = (decide (x.1 = y.1) && decide (x.2 = y.2)) := by
      rw [← Bool.decide_and]
      congr 1
      exact propext Prod.ext_iff
    have e : (List.range [v1, v2].length).all (fun j => if j = 0 then decide (x.1 = y.1) else decide (x.2 = y.2)) = (decide (x.1 = y.1) && decide (x.2 = y.2)) := by
      show (List.range 2).all _ = _
      simp [List.range_succ]
    rw [e] at z
    rw [e0]
    exact z
theorem al_fun {K : PySem.W.Frag} {α : Type} [DecidableEq α] {A : Rep α} {d : Nat} [qa : Qf K A d] {X : Cx} {pins : List (Addr × Obj)} {σ : St} {F H : Hp} {s : Shared} (hK : X.K = K) (I : Inv X pins σ H s) (wd : Same F H) :
    ∀ {vs : List V} {xs ys : List α}, Al A F vs xs → Al A F vs ys → xs = ys
  | [], [], [], _, _ => rfl
  | _ :: _, _ :: _, _ :: _, h, g => by rw [qa.fn hK I wd h.1 g.1, al_fun hK I wd h.2 g.2]
  | [], _ :: _, _, h, _ => h.elim
  | [], [], _ :: _, _, h => h.elim
  | _ :: _, [], _, h, _ => h.elim
  | _ :: _, _ :: _, [], _, h => h.elim
theorem all_dec {α : Type} [DecidableEq α] : ∀ (xs ys : List α), xs.length = ys.length → (List.range xs.length).all (fun j => decide (xs[j]? = ys[j]?)) = decide (xs = ys) := by
  intro xs ys h
  by_cases e : xs = ys
  · subst e; simp
  · rw [decide_eq_false e, Bool.eq_false_iff]
    intro z
    apply e
    rw [List.all_eq_true] at z
    apply List.ext_getElem? 
    intro j
    by_cases hj : j < xs.length
    · exact of_decide_eq_true (z j (List.mem_range.mpr hj))
    · rw [List.getElem?_eq_none (by omega), List.getElem?_eq_none (by omega)]
instance {K : PySem.W.Frag} {α : Type} [DecidableEq α] {A : Rep α} {d : Nat} [qa : Qf K A d] : Qr K (rL K A) (d + 1) where
  fn := fun {X pins σ F H s v x y} hK I wd h1 h2 => by
    obtain ⟨a, vs, rfl, g, k1⟩ := h1
    obtain ⟨b, ws, e, g', l1⟩ := h2
    cases e
    subst hK
    have z := sqL_fun I (wd.seq g) (wd.seq g')
    subst z
    exact al_fun rfl I wd k1 l1
  rf := fun ⟨a, _, h, _⟩ => ⟨a, h⟩
  rc := fun {X pins σ F H s Au a b x y} hK I wd h1 h2 hu => by
    subst hK
    obtain ⟨a', vs, e1, g1, k1⟩ := h1
    obtain ⟨b', ws, e2, g2, l1⟩ := h2
    cases e1
    cases e2
    have n1 := k1.length
    have n2 := l1.length
    by_cases hl : x.length = y.length
    · have z := rc_lsts (Au := Au) I (wd.seq g1) (wd.seq g2) (by omega) (by omega) (fun j => decide (x[j]? = y[j]?)) (fun j p q u v h1 h2 r1 r2 => by
        obtain ⟨m1, e1, f1⟩ := k1.get h1
        obtain ⟨m2, e2, f2⟩ := l1.get h2
        have e0 : decide (x[j]? = y[j]?) = decide (m1 = m2) := by
          rw [e1, e2]
          congr 1
          exact propext ⟨fun h => Option.some.inj h, fun h => by rw [h]⟩
        rw [e0]
        exact qa.qf rfl I wd f1 f2 r1 r2 (by rw [in1_units]; omega))
      rw [n1, all_dec x y hl] at z
      exact z
    · rw [decide_eq_false (fun z => hl (by rw [z]))]
      obtain ⟨us, r1, t1, _⟩ := I.list (wd.seq g1)
      obtain ⟨zs, r2, t2, _⟩ := I.list (wd.seq g2)
      have m1 := r1.length
      have m2 := r2.length
      exact SeqAt.RcAt.lists_lengths t1.isList t2.isList (by simp; omega) (by omega)
section
variable {X : Cx}
def rQ {α : Type} [DecidableEq α] (A : Rep α) : R2 := fun v w H Q => ∃ F x y, Same F H ∧ A F v x ∧ A F w y ∧ Q (.bl (decide (x = y))) H
theorem op_eqQ {α : Type} [DecidableEq α] {K : PySem.W.Frag} {A : Rep α} {d : Nat} [q : Qr K A d] (hK : X.K = K) (hu : X.A.units + 64 < cLine) (hd : d ≤ 60 := by decide) : OpR X (compareOp .Eq) (rQ A) := by
  intro pins s σ H x y v u Q I rx ry h
  obtain ⟨F, p, r, wd, h1, h2, hq⟩ := h
  obtain ⟨a, rfl⟩ := q.rf h1
  obtain ⟨b, rfl⟩ := q.rf h2
  cases rx
  cases ry
  exact q.rc hK I wd h1 h2 (by omega) X.prog X.w X.xe _ ⟨.bl _, H, I, rfl, hq⟩
end
theorem eqT_up {K : PySem.W.Frag} {H : Hp} : ∀ {n : Nat} {x y : V}, EqT K H n x y → EqT K H (n + 1) x y
  | 0, _, _, h => .inl h
  | n + 1, _, _, .inl h => .inl h
  | n + 1, _, _, .inr ⟨p, q, xs, ys, h1, h2, h3, h4⟩ => .inr ⟨p, q, xs, ys, h1, h2, h3, by
    have gen : ∀ {xs ys : List V}, All2 (EqT K H n) xs ys → All2 (EqT K H (n + 1)) xs ys := by
      intro xs
      induction xs with
      | nil => intro ys h; cases ys with
        | nil => exact True.intro
        | cons _ _ => exact h.elim
      | cons x xs ih => intro ys h; cases ys with
        | nil => exact h.elim
        | cons y ys => exact ⟨eqT_up h.1, ih h.2⟩
    exact gen h4⟩
theorem eqT_mono {K : PySem.W.Frag} {H : Hp} {n m : Nat} {x y : V} (h : EqT K H n x y) (k : n ≤ m) : EqT K H m x y := by
  induction k with
  | refl => exact h
  | step _ ih => exact eqT_up ih
theorem deqT_up {K : PySem.W.Frag} {H : Hp} {n : Nat} {ka kb : List (Key × V)} (h : DEqT K H n ka kb) : DEqT K H (n + 1) ka kb := ⟨h.1, fun k v m => by obtain ⟨y, e1, e2⟩ := h.2 k v m; exact ⟨y, e1, eqT_up e2⟩⟩
theorem eqN_up {K : PySem.W.Frag} {H : Hp} : ∀ {n : Nat} {x y : V}, EqN K H n x y → EqN K H (n + 1) x y
  | 0, _, _, h => .inl h
  | n + 1, _, _, .inl h => .inl h
  | n + 1, _, _, .inr ⟨p, q, h1, h2, .inr ⟨ka, kb, g1, g2, g3⟩⟩ => .inr ⟨p, q, h1, h2, .inr ⟨ka, kb, g1, g2, deqT_up g3⟩⟩
  | n + 1, _, _, .inr ⟨p, q, h1, h2, .inl ⟨xs, ys, h3, h4⟩⟩ => .inr ⟨p, q, h1, h2, .inl ⟨xs, ys, h3, by
    have gen : ∀ {xs ys : List V}, All2 (EqN K H n) xs ys → All2 (EqN K H (n + 1)) xs ys := by
      intro xs
      induction xs with
      | nil => intro ys h; cases ys with
        | nil => exact True.intro
        | cons _ _ => exact h.elim
      | cons x xs ih => intro ys h; cases ys with
        | nil => exact h.elim
        | cons y ys => exact ⟨eqN_up h.1, ih h.2⟩
    exact gen h4⟩⟩
theorem eqN_mono {K : PySem.W.Frag} {H : Hp} {n m : Nat} {x y : V} (h : EqN K H n x y) (k : n ≤ m) : EqN K H m x y := by
  induction k with
  | refl => exact h
  | step _ ih => exact eqN_up ih
theorem eqT_toN {K : PySem.W.Frag} {H : Hp} : ∀ {n : Nat} {x y : V}, EqT K H n x y → EqN K H n x y
  | 0, _, _, h => h
  | n + 1, _, _, .inl h => .inl h
  | n + 1, _, _, .inr ⟨p, q, xs, ys, h1, h2, h3, h4⟩ => .inr ⟨p, q, h1, h2, .inl ⟨xs, ys, h3, by
    have gen : ∀ {xs ys : List V}, All2 (EqT K H n) xs ys → All2 (EqN K H n) xs ys := by
      intro xs
      induction xs with
      | nil => intro ys h; cases ys with
        | nil => exact True.intro
        | cons _ _ => exact h.elim
      | cons x xs ih => intro ys h; cases ys with
        | nil => exact h.elim
        | cons y ys => exact ⟨eqT_toN h.1, ih h.2⟩
    exact gen h4⟩⟩
class Et {α : Type} (K : PySem.W.Frag) (A : Rep α) (n : outParam Nat) : Prop where
  et : ∀ {F H : Hp} {v w : V} {x : α}, Same F H → A F v x → A F w x → EqT K H n v w
instance {K : PySem.W.Frag} : Et K rI 0 := ⟨fun _ h g => by cases h; cases g; exact ⟨rfl, rfl⟩⟩
instance {K : PySem.W.Frag} : Et K rS 0 := ⟨fun _ h g => by cases h; cases g; exact ⟨rfl, rfl⟩⟩
instance {K : PySem.W.Frag} : Et K rB 0 := ⟨fun _ h g => by cases h; cases g; exact ⟨rfl, rfl⟩⟩
instance {K : PySem.W.Frag} : Et K rN 0 := ⟨fun _ h g => by cases h; cases g; exact ⟨rfl, rfl⟩⟩
instance {K : PySem.W.Frag} : Et K (rFr K) 1 := ⟨fun wd ⟨a, h1, h2⟩ ⟨b, g1, g2⟩ => .inr ⟨a, b, _, _, h1, g1, .inl ⟨wd.tup h2, wd.tup g2⟩, ⟨rfl, rfl⟩, ⟨rfl, rfl⟩, True.intro⟩⟩
instance {K : PySem.W.Frag} {α β : Type} {A : Rep α} {B : Rep β} {n m : Nat} [Et K A n] [Et K B m] : Et K (r2 K A B) (n + m + 1) :=
  ⟨fun wd ⟨a, v1, v2, h1, h2, h3, h4⟩ ⟨b, w1, w2, g1, g2, g3, g4⟩ => .inr ⟨a, b, _, _, h1, g1, .inl ⟨wd.tup h2, wd.tup g2⟩, eqT_mono (Et.et wd h3 g3) (by omega), eqT_mono (Et.et wd h4 g4) (by omega), True.intro⟩⟩
theorem al_et {K : PySem.W.Frag} {α : Type} {A : Rep α} {n : Nat} [Et K A n] {F H : Hp} (wd : Same F H) : ∀ {vs ws : List V} {xs : List α}, Al A F vs xs → Al A F ws xs → All2 (EqT K H n) vs ws
  | [], [], [], _, _ => True.intro
  | _ :: _, _ :: _, _ :: _, h, g => ⟨Et.et wd h.1 g.1, al_et wd h.2 g.2⟩
  | [], _ :: _, [], _, g => g.elim
  | _ :: _, _, [], h, _ => h.elim
  | [], _, _ :: _, h, _ => h.elim
  | _ :: _, [], _ :: _, _, g => g.elim
instance {K : PySem.W.Frag} {α : Type} {A : Rep α} {n : Nat} [Et K A n] : Et K (rL K A) (n + 1) :=
  ⟨fun wd ⟨a, vs, h1, h2, h3⟩ ⟨b, ws, g1, g2, g3⟩ => .inr ⟨a, b, _, _, h1, g1, .inr ⟨wd.seq h2, wd.seq g2⟩, al_et wd h3 g3⟩⟩
class En {α : Type} (K : PySem.W.Frag) (A : Rep α) (n : outParam Nat) : Prop where
  en : ∀ {F H : Hp} {v w : V} {x : α}, Same F H → A F v x → A F w x → EqN K H n v w
instance (priority := low) {K : PySem.W.Frag} {α : Type} {A : Rep α} {n : Nat} [Et K A n] : En K A n := ⟨fun wd h g => eqT_toN (Et.et wd h g)⟩
theorem dk_deq {K : PySem.W.Frag} {α : Type} {A : Rep α} {n : Nat} [Et K A n] {F H : Hp} {ka kb : List (Key × V)} {m m' : List (Str × α)} (wd : Same F H) (h : Dk A F ka m) (g : Dk A F kb m') (hn : (m.map (·.1)).Nodup) (hl : m.length = m'.length) (hg : ∀ k y, gtd m k = some y → gtd m' k = some y) : DEqT K H n ka kb := by
  refine ⟨by rw [h.length, g.length, hl], fun k v hm => ?_⟩
  obtain ⟨i, hi⟩ := List.getElem?_of_mem hm
  obtain ⟨x, q, e1, rfl, ha⟩ := h.get hi
  have hgt : gtd m x = some q := by
    have mem := List.mem_of_getElem? e1
    clear h hi hm hl hg e1
    induction m with
    | nil => cases mem
    | cons p r ih =>
      rw [List.map_cons, List.nodup_cons] at hn
      rcases List.mem_cons.mp mem with e | e
      · subst e; exact gtd_pos rfl
      · have ne : ¬ p.1 = x := fun z => hn.1 (by rw [z]; exact List.mem_map.mpr ⟨_, e, rfl⟩)
        rw [gtd_neg ne]; exact ih hn.2 e
  obtain ⟨w, v1, v3⟩ := g.some (hg x q hgt)
  exact ⟨w, v1, Et.et wd ha v3⟩
instance {K : PySem.W.Frag} {α : Type} {A : Rep α} {n : Nat} [Et K A n] : En K (rD A) (n + 1) :=
  ⟨fun wd ⟨a, ka, h1, h2, h3, h4⟩ ⟨b, kb, g1, g2, g3, g4⟩ => .inr ⟨a, b, h1, g1, .inr ⟨ka, kb, wd.rd h2, wd.rd g2, dk_deq wd h3 g3 h4 rfl fun _ _ e => e⟩⟩⟩
instance (priority := low) {K : PySem.W.Frag} {α β : Type} {A : Rep α} {B : Rep β} {n m : Nat} [En K A n] [En K B m] : En K (r2 K A B) (n + m + 1) :=
  ⟨fun wd ⟨a, v1, v2, h1, h2, h3, h4⟩ ⟨b, w1, w2, g1, g2, g3, g4⟩ => .inr ⟨a, b, h1, g1, .inl ⟨_, _, .inl ⟨wd.tup h2, wd.tup g2⟩, eqN_mono (En.en wd h3 g3) (by omega), eqN_mono (En.en wd h4 g4) (by omega), True.intro⟩⟩⟩
instance {K : PySem.W.Frag} {α β γ δ ε : Type} {A : Rep α} {B : Rep β} {C : Rep γ} {D : Rep δ} {E : Rep ε} {n m k l j : Nat} [En K A n] [En K B m] [En K C k] [En K D l] [En K E j] : En K (r5 K A B C D E) (n + m + k + l + j + 1) :=
  ⟨fun wd ⟨a, v1, v2, v3, v4, v5, h1, h2, h3, h4, h5, h6, h7⟩ ⟨b, w1, w2, w3, w4, w5, g1, g2, g3, g4, g5, g6, g7⟩ =>
    .inr ⟨a, b, h1, g1, .inl ⟨_, _, .inl ⟨wd.tup h2, wd.tup g2⟩, eqN_mono (En.en wd h3 g3) (by omega), eqN_mono (En.en wd h4 g4) (by omega), eqN_mono (En.en wd h5 g5) (by omega), eqN_mono (En.en wd h6 g6) (by omega), eqN_mono (En.en wd h7 g7) (by omega), True.intro⟩⟩⟩
theorem al_en {K : PySem.W.Frag} {α : Type} {A : Rep α} {n : Nat} [En K A n] {F H : Hp} (wd : Same F H) : ∀ {vs ws : List V} {xs : List α}, Al A F vs xs → Al A F ws xs → All2 (EqN K H n) vs ws
  | [], [], [], _, _ => True.intro
  | _ :: _, _ :: _, _ :: _, h, g => ⟨En.en wd h.1 g.1, al_en wd h.2 g.2⟩
  | [], _ :: _, [], _, g => g.elim
  | _ :: _, _, [], h, _ => h.elim
  | [], _, _ :: _, h, _ => h.elim
  | _ :: _, [], _ :: _, _, g => g.elim
instance (priority := low) {K : PySem.W.Frag} {α : Type} {A : Rep α} {n : Nat} [En K A n] : En K (rL K A) (n + 1) :=
  ⟨fun wd ⟨a, vs, h1, h2, h3⟩ ⟨b, ws, g1, g2, g3⟩ => .inr ⟨a, b, h1, g1, .inl ⟨_, _, .inr ⟨wd.seq h2, wd.seq g2⟩, al_en wd h3 g3⟩⟩⟩
section
variable {K : PySem.W.Frag} {F H : Hp} {Q : VK}
end
end Vc
namespace L2
open PySem PySem.Spec PyProof.Rows
def clStep (env : Env) (cs : List (Str × Addr)) (y : Str × NameKind) : List (Str × Addr) := if (y.2 == .free) = true then (match env.cells.lookup y.1 with | some a => (y.1, a) :: cs | none => cs) else cs
def clOf (scope : Scope) (env : Env) : List (Str × Addr) := scope.names.foldl (clStep env) []
def clAll (scope : Scope) (env : Env) : Bool := scope.names.all fun y => !(y.2 == .free) || (env.cells.lookup y.1).isSome
theorem closureFor_clOf {scope : Scope} {env : Env} (h : clAll scope env = true) : closureFor scope env = pure (clOf scope env) := by
  unfold closureFor clOf
  unfold clAll at h
  have gen : ∀ (l : List (Str × NameKind)) (cs : List (Str × Addr)), (l.all fun y => !(y.2 == .free) || (env.cells.lookup y.1).isSome) = true →
      (forIn l cs fun x r => match x with | (name, kind) => if (kind == NameKind.free) = true then (do let a ← cellOf env name; pure (ForInStep.yield ((name, a) :: r))) else pure (ForInStep.yield r) : Sem (List (Str × Addr))) = pure (l.foldl (clStep env) cs) := by
    intro l
    induction l with
    | nil => intro cs _; rfl
    | cons y r ih =>
      intro cs ha
      rw [List.all_cons, Bool.and_eq_true] at ha
      obtain ⟨n, k⟩ := y
      rw [List.forIn_cons, List.foldl_cons]
      by_cases hk : (k == NameKind.free) = true
      · have h1 := ha.1
        simp only [hk, Bool.not_true, Bool.false_or] at h1
        obtain ⟨a, e⟩ := Option.isSome_iff_exists.mp h1
        have e1 : clStep env cs (n, k) = (n, a) :: cs := by unfold clStep; simp [hk, e]
        have e2 : cellOf env n = pure a := by unfold cellOf; rw [e]
        rw [e1, ← ih _ ha.2]
        simp only [hk, if_true, e2, pure_bind]
      · have e1 : clStep env cs (n, k) = cs := by unfold clStep; simp [hk]
        rw [e1, ← ih _ ha.2]
        simp only [hk, if_false, pure_bind, Bool.false_eq_true]
  have := gen scope.names [] h
  simp only [this, pure_bind]
theorem clOf_sub {scope : Scope} {env : Env} {x : Str} {c : Addr} (h : (clOf scope env).lookup x = some c) : env.cells.lookup x = some c := by
  unfold clOf at h
  have gen : ∀ (l : List (Str × NameKind)) (cs : List (Str × Addr)), (cs.lookup x = some c → env.cells.lookup x = some c) → (l.foldl (clStep env) cs).lookup x = some c → env.cells.lookup x = some c := by
    intro l
    induction l with
    | nil => intro cs f g; exact f g
    | cons y r ih =>
      intro cs f g
      rw [List.foldl_cons] at g
      refine ih _ (fun z => ?_) g
      unfold clStep at z
      split at z
      · split at z
        · rename_i a e
          rw [List.lookup_cons] at z
          by_cases hx : (x == y.1) = true
          · rw [hx] at z
            have := eq_of_beq hx
            subst this
            simp at z
            rw [← z]; exact e
          · simp only [hx] at z
            exact f z
        · exact f z
      · exact f z
  exact gen scope.names [] (fun z => by cases z) h
theorem clOf_has {scope : Scope} {env : Env} {x : Str} (ha : clAll scope env = true) (h : scope.names.lookup x = some .free) : ∃ c, (clOf scope env).lookup x = some c := by
  unfold clOf
  unfold clAll at ha
  have keep : ∀ (l : List (Str × NameKind)) (cs : List (Str × Addr)), (∃ c, cs.lookup x = some c) → ∃ c, (l.foldl (clStep env) cs).lookup x = some c := by
    intro l
    induction l with
    | nil => intro cs f; exact f
    | cons y r ih =>
      intro cs f
      rw [List.foldl_cons]
      refine ih _ ?_
      unfold clStep
      split
      · split
        · rw [List.lookup_cons]
          by_cases hx : (x == y.1) = true
          · rw [hx]; exact ⟨_, rfl⟩
          · simp only [hx]; exact f
        · exact f
      · exact f
  have gen : ∀ (l : List (Str × NameKind)) (cs : List (Str × Addr)), (l.all fun y => !(y.2 == .free) || (env.cells.lookup y.1).isSome) = true → l.lookup x = some .free → ∃ c, (l.foldl (clStep env) cs).lookup x = some c := by
    intro l
    induction l with
    | nil => intro cs _ f; cases f
    | cons y r ih =>
      intro cs ha f
      rw [List.all_cons, Bool.and_eq_true] at ha
      obtain ⟨n, k⟩ := y
      rw [List.foldl_cons]
      rw [List.lookup_cons] at f
      by_cases hx : (x == n) = true
      · rw [hx] at f
        have := eq_of_beq hx
        subst this
        simp at f
        subst f
        refine keep r _ ?_
        have h1 : (env.cells.lookup x).isSome = true := ha.1
        obtain ⟨a, e⟩ := Option.isSome_iff_exists.mp h1
        refine ⟨a, ?_⟩
        unfold clStep
        rw [if_pos (show ((NameKind.free) == NameKind.free) = true from rfl)]
        dsimp only
        rw [e]
        dsimp only
        rw [List.lookup_cons, hx]
      · simp only [hx] at f
        exact ih _ ha.2 f
  exact gen scope.names [] ha h
theorem relabel_inv {scope : Scope} {env : Env} {x : Str} (hcell : ∀ y ∈ scope.names, y.2 ≠ .cell) (h : (relabel scope env).names.lookup x = some .cell ∨ (relabel scope env).names.lookup x = some .free) : scope.names.lookup x = some .free := by
  unfold relabel at h
  dsimp only at h
  have gen : ∀ l : List (Str × NameKind), (∀ y ∈ l, y.2 ≠ .cell) → ((l.map fun (n, k) => if (k == NameKind.free && env.scope.kind == .function && env.kindOf n == some .cell) then (n, NameKind.cell) else (n, k)).lookup x = some .cell ∨ (l.map fun (n, k) => if (k == NameKind.free && env.scope.kind == .function && env.kindOf n == some .cell) then (n, NameKind.cell) else (n, k)).lookup x = some .free) → l.lookup x = some .free := by
    intro l
    induction l with
    | nil => intro _ f; rcases f with f | f <;> cases f
    | cons y r ih =>
      intro hc f
      obtain ⟨n, k⟩ := y
      have hk : k ≠ .cell := hc (n, k) (List.mem_cons_self ..)
      rw [List.map_cons] at f
      rw [List.lookup_cons]
      by_cases hx : (x == n) = true
      · rw [hx]
        dsimp only at f ⊢
        by_cases hf : (k == NameKind.free && env.scope.kind == .function && env.kindOf n == some .cell) = true
        · have : k = .free := by
            simp only [Bool.and_eq_true] at hf
            exact eq_of_beq hf.1.1
          rw [this]
        · rw [if_neg hf, List.lookup_cons, hx] at f
          simp only [Option.some.injEq] at f
          rcases f with f | f
          · exact absurd f hk
          · rw [f]
      · simp only [hx]
        refine ih (fun y hy => hc y (List.mem_cons_of_mem _ hy)) ?_
        dsimp only at f
        split at f <;> (rw [List.lookup_cons] at f; simp only [hx] at f; exact f)
  exact gen scope.names hcell h
inductive Wk : St → St → Prop
  | nil : Wk [] []
  | non {a b : St} {x : Option V} : Wk a b → Wk (none :: a) (x :: b)
  | som {a b : St} {v : V} : Wk a b → Wk (some v :: a) (some v :: b)
theorem Wk.length {a b : St} (h : Wk a b) : b.length = a.length := by
  induction h with
  | nil => rfl
  | non _ ih => simp [ih]
  | som _ ih => simp [ih]
theorem Wk.get {a b : St} (h : Wk a b) : ∀ {i : Nat} {v : V}, a[i]? = some (some v) → b[i]? = some (some v) := by
  induction h with
  | nil => intro i v e; simp at e
  | non _ ih =>
    intro i v e
    cases i with
    | zero => simp at e
    | succ i => simpa using ih (i := i) (v := v) (by simpa using e)
  | som _ ih =>
    intro i v e
    cases i with
    | zero => simpa using e
    | succ i => simpa using ih (i := i) (v := v) (by simpa using e)
theorem wk_refl : ∀ a : St, Wk a a
  | [] => .nil
  | none :: a => .non (wk_refl a)
  | some _ :: a => .som (wk_refl a)
def pickS (ix : List (Option Nat)) (σ : St) : St := ix.map fun o => match o with | none => none | some i => (σ[i]?).getD none
def PickOk (X : Cx) (sc : Scope) : List Str → List (Option Nat) → Prop
  | [], [] => True
  | _ :: N, none :: ix => PickOk X sc N ix
  | x :: N, some i :: ix => X.N[i]? = some x ∧ X.env.kindOf x = some .cell ∧ sc.names.lookup x = some .free ∧ PickOk X sc N ix
  | _, _ => False
theorem PickOk.length {X : Cx} {sc : Scope} : ∀ {N : List Str} {ix : List (Option Nat)}, PickOk X sc N ix → ix.length = N.length
  | [], [], _ => rfl
  | _ :: N, none :: ix, h => by rw [List.length_cons, List.length_cons, PickOk.length (X := X) (sc := sc) (N := N) (ix := ix) h]
  | _ :: N, some i :: ix, h => by rw [List.length_cons, List.length_cons, PickOk.length (X := X) (sc := sc) (N := N) (ix := ix) h.2.2.2]
  | [], _ :: _, h => h.elim
  | _ :: _, [], h => h.elim
theorem PickOk.get {X : Cx} {sc : Scope} {σ : St} : ∀ {N : List Str} {ix : List (Option Nat)} {j : Nat} {x : Str} {v : V}, PickOk X sc N ix → N[j]? = some x → (pickS ix σ)[j]? = some (some v) → ∃ i : Nat, X.N[i]? = some x ∧ X.env.kindOf x = some .cell ∧ sc.names.lookup x = some .free ∧ σ[i]? = some (some v)
  | _ :: N, none :: ix, 0, x, v, h, e1, e2 => by simp [pickS] at e2
  | _ :: N, none :: ix, j + 1, x, v, h, e1, e2 => PickOk.get (N := N) (ix := ix) (j := j) h (by simpa using e1) (by simpa [pickS] using e2)
  | y :: N, some i :: ix, 0, x, v, h, e1, e2 => by
    simp at e1
    subst e1
    refine ⟨i, h.1, h.2.1, h.2.2.1, ?_⟩
    simp [pickS] at e2
    cases q : σ[i]? with
    | none => rw [q] at e2; simp at e2
    | some o => rw [q] at e2; simp at e2; rw [e2]
  | y :: N, some i :: ix, j + 1, x, v, h, e1, e2 => PickOk.get (N := N) (ix := ix) (j := j) h.2.2.2 (by simpa using e1) (by simpa [pickS] using e2)
  | [], [], _, _, _, _, e1, _ => by simp at e1
  | [], _ :: _, _, _, _, h, _, _ => h.elim
  | _ :: _, [], _, _, _, h, _, _ => h.elim
theorem relabel_free {scope : Scope} {env : Env} {x : Str} (h : scope.names.lookup x = some .free) : (relabel scope env).names.lookup x = some .cell ∨ (relabel scope env).names.lookup x = some .free := by
  unfold relabel
  dsimp only
  have gen : ∀ l : List (Str × NameKind), l.lookup x = some .free → ((l.map fun (n, k) => if (k == NameKind.free && env.scope.kind == .function && env.kindOf n == some .cell) then (n, NameKind.cell) else (n, k)).lookup x = some .cell ∨ (l.map fun (n, k) => if (k == NameKind.free && env.scope.kind == .function && env.kindOf n == some .cell) then (n, NameKind.cell) else (n, k)).lookup x = some .free) := by
    intro l
    induction l with
    | nil => intro f; cases f
    | cons y r ih =>
      intro f
      obtain ⟨n, k⟩ := y
      rw [List.lookup_cons] at f
      rw [List.map_cons]
      by_cases hx : (x == n) = true
      · rw [hx] at f
        simp at f
        subst f
        dsimp only
        split
        · left; rw [List.lookup_cons, hx]
        · right; rw [List.lookup_cons, hx]
      · simp only [hx] at f
        dsimp only
        split <;> (rw [List.lookup_cons]; simp only [hx]; exact ih f)
  exact gen scope.names h
def cxComp (X : Cx) (scope : Scope) (N : List Str) (C : Addr) (s : Shared) (H : Hp) (fp : List Addr) (pl : List (Addr × Obj)) : Cx where
  prog := X.prog
  w := X.w
  K := X.K
  mg := X.mg
  base := X.base
  A := X.A
  N := N
  s₀ := s
  H₀ := H
  env := compEnvC scope (clOf scope X.env) C X.env
  outer := X.stack
  stack := X.stack
  ex := fp
  fn := fun _ => false
  calm := X.calm
  pn := X.pn ++ pl
  xe := fun _ _ => False
def PTs (Y : Cx) (ifs : List Expr) (t : TT) : Prop :=
  ∀ (pins : List (Addr × Obj)) (s : Shared) (σ : St) (H : Hp) (Q : Bool → Hp → Prop), Inv Y pins σ H s → t σ H Q →
    wpAny (model Y.prog Y.w) Y.A (forIn ifs true fun c r => if r = true then do let ok ← isTrue c Y.env (eval c Y.env); pure (ForInStep.yield ok) else pure (ForInStep.yield r)) (TP Y pins σ Q) Y.xe s
def tYes : TT := fun _ H Q => Q true H
theorem pts_nil {Y : Cx} : PTs Y [] tYes := fun _ _ _ H _ I h => wpAny_tests_nil ⟨H, I, h⟩
theorem pts_one {Y : Cx} {c : Expr} {t : TT} (h : PT Y c t) : PTs Y [c] t := fun pins s σ H Q I q => wpAny_tests_one (h pins s σ H Q I q)
theorem compLoop_any {prog : Program} {w : World} {A : Around} {R : Result → Shared → Prop} {s : Shared} {elt target iter : Expr} {ifs : List Expr} {scope : Scope} {pos : Pos} {it acc : Value} {env : Env} (I : Nat → Shared → Prop)
    (turn : ∀ n s, I n s → wpAny (model prog w) A (pyNext it) (fun r s₁ => match r with
      | none => R (.ok .next) s₁
      | some v => wpAny (model prog w) A (letOwnedTupleGo target it v) (fun _ s₀ => wpAny (model prog w) A (assign target env v) (fun _ s₂ =>
          wpAny (model prog w) A (forIn ifs true fun c r => if r = true then do let ok ← isTrue c env (eval c env); pure (ForInStep.yield ok) else pure (ForInStep.yield r)) (fun ok s₃ =>
            if ok = true then wpAny (model prog w) A (eval elt env) (fun x s₄ =>
              wpAny (model prog w) A (call (.builtin "list.append") [acc, x]) (fun _ s₅ => ∃ m, m < n ∧ I m s₅) (notedBy (model prog w) A env fun e s' => R (.error e) s') s₄) (notedBy (model prog w) A env fun e s' => R (.error e) s') s₃
            else ∃ m, m < n ∧ I m s₃) (notedBy (model prog w) A env fun e s' => R (.error e) s') s₂) (notedBy (model prog w) A env fun e s' => R (.error e) s') s₀) (notedBy (model prog w) A env fun e s' => R (.error e) s') s₁) (notedBy (model prog w) A env fun e s' => R (.error e) s') s)
    (n : Nat) (h : I n s) : codeAny (model prog w) A (.compLoop (.ListComp elt [⟨target, iter, ifs, 0⟩] scope pos) 0 it acc env) R s := by
  refine codeAny_loop rfl I (fun n s hI => ?_) n h
  show wpAny _ A ((compTurn (.ListComp elt [⟨target, iter, ifs, 0⟩] scope pos) 0 it acc env).onRaise (fun x => do noteFrame x env; theTreesLotGoes x)) _ _ s
  refine wpAny_noted ?_
  rw [compTurn_list]
  refine wpAny_bind (wpAny_standAt (wpAny_bind (wpAny_mono (turn n s hI) (fun r s₁ h₁ => ?_) fun _ _ h' => h')))
  cases r with
  | none => exact wpAny_pure h₁
  | some v =>
    refine wpAny_bind (wpAny_mono h₁ (fun _ s₀ h₀ => ?_) fun _ _ h' => h')
    refine wpAny_bind (wpAny_mono h₀ (fun _ s₂ h₂ => wpAny_bind (wpAny_mono h₂ (fun ok s₃ h₃ => ?_) fun _ _ h' => h')) fun _ _ h' => h')
    cases ok with
    | false => exact wpAny_pure ⟨rfl, h₃⟩
    | true =>
      exact wpAny_bind (wpAny_bind (wpAny_mono h₃ (fun x s₄ h₄ => wpAny_bind (wpAny_mono h₄ (fun _ s₅ h₅ => wpAny_pure (wpAny_pure ⟨rfl, h₅⟩)) fun _ _ h' => h')) fun _ _ h' => h'))
end L2
namespace L2
open PySem PySem.Spec PyProof.Rows
section
variable {X : Cx} {pins : List (Addr × Obj)} {σ : St} {H : Hp} {s : Shared} {scope : Scope} {N : List Str} {fp : List Addr} {C : Addr}
theorem comp_ok (I : Inv X pins σ H s) (hC : s.heap.objs.size ≤ C) (hf : ∀ b ∈ fp, FpOk X pins H b) (hfo : ∀ b ∈ fp, ∃ o, s.heap.get? b = some o) (hkind : scope.kind = .function) (hcell : ∀ y ∈ scope.names, y.2 ≠ .cell) (hall : clAll scope X.env = true) :
    (cxComp X scope N C s H fp pins).Ok where
  mod := I.ok.mod
  kind := hkind
  glob := I.ok.glob
  blt := I.ok.blt
  above := hC
  inj := fun x y c h1 h2 => I.ok.inj x y c (clOf_sub h1) (clOf_sub h2)
  has := fun x h => clOf_has hall (relabel_inv hcell h)
  cab := fun x c h => by cases h
  hd := I.ok.hd
  frames := I.ok.frames
  stk := .inl rfl
  exf := fun b hb => ⟨fun z => by obtain ⟨o, e⟩ := hfo b hb; have := Heap.lt_size e; subst z; exact absurd (Nat.lt_of_lt_of_le this hC) (Nat.lt_irrefl _), fun x c e => (hf b hb).2.2.2.2.1 x c (clOf_sub e)⟩
  bs := I.bs
  bsz := Nat.le_trans I.ok.bsz I.sz
  noex := fun b o e hb => by
    rcases (hf b hb).2.2.2.1 with z | z
    · exact I.ok.noex b o e z
    · exact absurd (Nat.lt_of_lt_of_le (Heap.lt_size e) (Nat.le_trans I.ok.bsz z)) (Nat.lt_irrefl _)
  exfs := fun b hb hm => by
    rcases List.mem_cons.mp (I.stkSub b hm) with z | z
    · exact (hf b hb).2.1 z
    · exact (hf b hb).2.2.1 z
  funs := I.stack
  frf := I.stkFree
theorem comp_inv {h' : Heap} {m : Str → Option Value} {t' : Nat} {ix : List (Option Nat)} (I : Inv X pins σ H s) (ok : (cxComp X scope N C s H fp pins).Ok) (hC : s.heap.objs.size ≤ C) (k : ∀ b o, s.heap.get? b = some o → h'.get? b = some o) (hn : h'.Ns C m) (hpk : PickOk X scope N ix) (hall : clAll scope X.env = true) :
    Inv (cxComp X scope N C s H fp pins) [] (pickS ix σ) H { s with heap := h', toks := t' } where
  ok := ok
  os := rfl
  bare := I.bare
  base := Un.kept k
  loc := ⟨m, hn, fun i x v e1 e2 e3 => by
    obtain ⟨i', hN, hk, hfr, hσ⟩ := hpk.get e1 e2
    obtain ⟨m0, _, hl⟩ := I.loc
    obtain ⟨u, r, look⟩ := hl i' x v hN hσ (.inr (.inl hk))
    rcases look with ⟨z, _⟩ | ⟨_, c, hc, o, ho, hd⟩
    · rw [hk] at z; cases z
    · obtain ⟨c', hc'⟩ := clOf_has hall hfr
      have e := clOf_sub hc'
      rw [hc] at e
      cases e
      exact ⟨u, r, .inr ⟨relabel_free hfr, c, hc', o, k _ _ ho, hd⟩⟩⟩
  cell := fun x c e => by
    obtain ⟨v, o, ho, hd⟩ := I.cell x c (clOf_sub e)
    exact ⟨v, o, k _ _ ho, hd⟩
  free := I.hok.fresh hC
  freeC := fun x c e => I.freeC x c (clOf_sub e)
  pin := fun p hp => by
    have hp' : p ∈ X.pn ++ pins := by simpa [cxComp] using hp
    obtain ⟨e, n, ne, nf, d⟩ := I.pin p hp'
    refine ⟨k _ _ e, n, fun z => ?_, fun z => ?_, d⟩
    · have := Heap.lt_size e
      have z' : p.1 = C := z
      rw [z'] at this
      exact absurd (Nat.lt_of_lt_of_le this hC) (Nat.lt_irrefl _)
    · rcases List.mem_cons.mp (I.stkSub p.1 z) with q | q
      · exact ne q
      · exact nf q
  hok := I.hok.kept k
  len := by
    have := hpk.length
    simp [pickS, cxComp, this]
theorem comp_back {σ' : St} {H' : Hp} {s' : Shared} {D : Addr} {acc : List V} {its : List Value} {pl : List (Addr × Obj)} (I : Inv X pins σ H s) (J : Inv (cxComp X scope N C s H fp pins) pl σ' H' s') (hD : D = s.heap.objs.size) (hf : ∀ b ∈ fp, FpOk X pins H b)
    (hl : s'.heap.PlainList D its.toArray) (hv : Vals acc its) (hz : acc.length ≤ sizeLine) (hn : H' D = none) : Inv X pins σ (upd H' D (.lst acc)) s' := by
  have hDn : ∀ b o, s.heap.get? b = some o → b ≠ D := fun b o e z => by rw [z, hD] at e; exact absurd (Heap.lt_size e) (Nat.lt_irrefl _)
  have hHD : H D = none := I.hok.fresh (by rw [hD]; exact Nat.le_refl _)
  refine I.call' (ch := fp) J.os ⟨J.base.keep, J.base.slot, fun b o e n hx => ?_, J.base.there, fun b xs e => ?_, fun b o u e => ?_, fun b ps e => ?_⟩ (fun b u e => ?_) J.bare fun b hb => ⟨(hf b hb).2.2.2.1, (hf b hb).2.1, (hf b hb).2.2.2.2.1, (hf b hb).2.2.2.2.2⟩
  · rw [upd_ne (hDn b o e)]; exact J.base.free b o e n hx
  · rw [upd_ne (ne_of_none e hHD)]; exact J.base.tups b xs e
  · rw [upd_ne (ne_of_none e hHD)]; exact J.base.frzs b o u e
  · obtain ⟨mo, e2⟩ := J.base.tbls b ps e
    exact ⟨mo, by rw [upd_ne (ne_of_none e hHD)]; exact e2⟩
  · by_cases hb : b = D
    · subst hb
      rw [upd_same] at e
      cases e
      obtain ⟨n, g⟩ := hl
      exact ⟨hz, its, n, hv, g⟩
    · rw [upd_ne hb] at e
      exact (J.hok b u e).stay (fun _ _ _ q => q) (fun c q => by rw [upd_ne (ne_of_none q hn)]; exact q) fun c xs q => by rw [upd_ne (ne_of_none q hn)]; exact q
end
def tComp (wi : TI) (g : TG) (ti : TT) (te : TE) (ix : List (Option Nat)) : TE := fun σ H Q => wi σ H fun J H1 => ∃ W : Nat → Nat → List V → Hp → Prop, (∃ m, W 0 m [] H1) ∧ ∀ i m acc H, W i m acc H →
  (J.stop i H ∧ acc.length ≤ sizeLine ∧ ∀ p, H p = none → Q (.ref p) (upd H p (.lst acc))) ∨
  (J.go i H ∧ ∃ N : List V → Hp → Prop, (∀ acc' H', N acc' H' → ∃ m', m' < m ∧ W (i + 1) m' acc' H') ∧ ∀ x H', J.yld i H x H' → g x (pickS ix σ) H' fun σ2 H2 => Wk (pickS ix σ) σ2 ∧ ti σ2 H2 fun b H3 => if b = true then te σ2 H3 fun v H4 => acc.length < sizeLine ∧ N (acc ++ [v]) H4 else N acc H3)
section
variable {X : Cx} {elt target iter : Expr} {ifs : List Expr} {scope : Scope} {pos : Pos} {N : List Str} {ix : List (Option Nat)} {wi : TI} {g : TG} {ti : TT} {te : TE}
theorem comp_run {pins : List (Addr × Obj)} {σ : St} {H2 : Hp} {s2 : Shared} {Q : VK} {RR : Value → Addr → Result → Shared → Prop} {E : Value → Shared → Prop} {it : Addr} {fp : List Addr} {tn : Nat → Heap → Prop} {J : It}
    (hc : X.calm = true) (hg : ∀ C s H fp pl, PG (cxComp X scope N C s H fp pl) target g) (ht : ∀ C s H fp pl, PTs (cxComp X scope N C s H fp pl) ifs ti) (he : ∀ C s H fp pl, PE (cxComp X scope N C s H fp pl) elt te)
    (hkind : scope.kind = .function) (hcell : ∀ y ∈ scope.names, y.2 ≠ .cell) (hall : clAll scope X.env = true) (hpk : PickOk X scope N ix)
    (I2 : Inv X pins σ H2 s2) (T : Turn X.prog X.w X.K target J fp it tn) (st2 : tn 0 s2.heap) (f2 : ∀ b ∈ fp, FpOk X pins H2 b)
    (h : ∃ W : Nat → Nat → List V → Hp → Prop, (∃ m, W 0 m [] H2) ∧ ∀ i m acc H, W i m acc H →
      (J.stop i H ∧ acc.length ≤ sizeLine ∧ ∀ p, H p = none → Q (.ref p) (upd H p (.lst acc))) ∨
      (J.go i H ∧ ∃ N : List V → Hp → Prop, (∀ acc' H', N acc' H' → ∃ m', m' < m ∧ W (i + 1) m' acc' H') ∧ ∀ x H', J.yld i H x H' → g x (pickS ix σ) H' fun σ2 H2 => Wk (pickS ix σ) σ2 ∧ ti σ2 H2 fun b H3 => if b = true then te σ2 H3 fun v H4 => acc.length < sizeLine ∧ N (acc ++ [v]) H4 else N acc H3))
    (hR : ∀ (D C : Addr) (s' : Shared) (H' : Hp) (m : Str → Option Value), Inv X pins σ H' s' → s'.heap.Ns C m → H' C = none → s2.heap.objs.size ≤ C → Q (.ref D) H' → RR (.ref D) C (.ok .next) s') :
    wpAny (model X.prog X.w) X.A (newList []) (fun acc s₃ => wpAny (model X.prog X.w) X.A (newFunctionEnv scope X.env.globals (clOf scope X.env) [] X.env.qual none .none (some X.env)) (fun cenv s₄ =>
      codeAny (model X.prog X.w) X.A (.compStart (.ListComp elt [⟨target, iter, ifs, 0⟩] scope pos) 0 (.ref it) acc { cenv with scope := relabel scope X.env }) (RR acc cenv.locals) s₄) E s₃) E s2 := by
  obtain ⟨W, ⟨m0, w0⟩, turn⟩ := h
  refine wpAny_newObj_type (wpAny_newFunctionEnv hcell (by intro y hy; simp at hy) (fun h₁ hns₁ hsb₁ => ?_) hkind)
  dsimp only at hns₁ hsb₁ ⊢
  generalize hH2 : s2.heap.push { cls := .type "list", dict := none, data := .seq ([] : List Value).toArray } = P2 at hns₁ hsb₁ ⊢
  have hC : P2.objs.size = s2.heap.objs.size + 1 := by rw [← hH2, Heap.size_push]
  have hDC : s2.heap.objs.size ≠ P2.objs.size := by rw [hC]; exact Nat.ne_of_lt (Nat.lt_succ_self _)
  have hCle : s2.heap.objs.size ≤ P2.objs.size := by rw [hC]; exact Nat.le_succ _
  have below : ∀ b, b < s2.heap.objs.size → b ≠ P2.objs.size ∧ b ≠ s2.heap.objs.size := fun b hb => ⟨by rw [hC]; exact Nat.ne_of_lt (Nat.lt_succ_of_lt hb), Nat.ne_of_lt hb⟩
  have old : ∀ b o, s2.heap.get? b = some o → h₁.get? b = some o := fun b o e => hsb₁.extBut b o (below b (Heap.lt_size e)).1 (Heap.get?_push_of_some _ (hH2 ▸ Heap.get?_push_of_some _ e))
  have hacc : h₁.PlainList s2.heap.objs.size #[] := ⟨_, hsb₁.extBut _ _ hDC (Heap.get?_push_of_some _ (hH2 ▸ Heap.get?_push_size _ rfl))⟩
  have hfo : ∀ b ∈ fp, ∃ o, s2.heap.get? b = some o := fun b hb => let ⟨o, e, _⟩ := T.obj 0 _ st2 b hb; ⟨o, e⟩
  have hfD : s2.heap.objs.size ∉ fp := fun hm => by obtain ⟨o, e⟩ := hfo _ hm; exact absurd (Heap.lt_size e) (Nat.lt_irrefl _)
  have ok := comp_ok (N := N) (C := P2.objs.size) I2 hCle f2 hfo hkind hcell hall
  have st1 : tn 0 h₁ := T.keep 0 _ _ st2 fun b _ o e => old b o e
  have J0 := comp_inv (t' := s2.toks + ([] : List (Str × Value)).length) (ix := ix) I2 ok hCle old hns₁ hpk hall
  have pnD : ∀ p ∈ X.pn ++ pins, p.1 ≠ s2.heap.objs.size := fun p hp => (below _ (Heap.lt_size (I2.pin p hp).1)).2
  have cellD : ∀ x c, (clOf scope X.env).lookup x = some c → c ≠ s2.heap.objs.size := fun x c e => by
    obtain ⟨v, o, ho, _⟩ := I2.cell x c (clOf_sub e)
    exact (below _ (Heap.lt_size ho)).2
  have stat : ∀ {pl : List (Addr × Obj)} {H' : Hp}, (∀ b ∈ fp, H' b = none) → (∀ p ∈ pl, p.1 = s2.heap.objs.size) → ∀ b ∈ fp, FpOk (cxComp X scope N P2.objs.size s2 H2 fp pins) pl H' b := fun {pl H'} hn hp b hb => by
    refine ⟨hn b hb, (ok.exf b hb).1, ok.exfs b hb, .inl hb, (ok.exf b hb).2, fun p hm => ?_⟩
    rcases List.mem_append.mp hm with z | z
    · exact (f2 b hb).2.2.2.2.2 p z
    · rw [hp p z]; intro q; rw [q] at hfD; exact hfD hb
  have loop : ∀ s₃ : Shared, s₃ = { s2 with heap := h₁, toks := s2.toks + ([] : List (Str × Value)).length } →
      codeAny (model X.prog X.w) X.A (.compLoop (.ListComp elt [⟨target, iter, ifs, 0⟩] scope pos) 0 (.ref it) (.ref s2.heap.objs.size) (compEnvC scope (clOf scope X.env) P2.objs.size X.env)) (RR (.ref s2.heap.objs.size) P2.objs.size) s₃ := by
    rintro s₃ rfl
    refine compLoop_any (fun n s' => ∃ i acc its σ' H', Inv (cxComp X scope N P2.objs.size s2 H2 fp pins) [] σ' H' s' ∧ Wk (pickS ix σ) σ' ∧ tn i s'.heap ∧ (∀ b ∈ fp, H' b = none) ∧ s'.heap.PlainList s2.heap.objs.size (List.toArray its) ∧ Vals acc its ∧ H' s2.heap.objs.size = none ∧ W i n acc H') ?_ m0
      ⟨0, [], [], _, H2, J0, wk_refl _, st1, fun b hb => (f2 b hb).1, hacc, .nil, I2.hok.fresh (Nat.le_refl _), w0⟩
    rintro n s3 ⟨i, acc, its, σ3, H3, I3, wk3, st3, fr3, pl3, va3, nd3, w3⟩
    obtain ⟨kk, g3⟩ := id pl3
    have I3' : Inv (cxComp X scope N P2.objs.size s2 H2 fp pins) [(s2.heap.objs.size, ⟨.type "list", none, .seq (List.toArray its) kk, #[]⟩)] σ3 H3 s3 := I3.pins_of fun p hp => by
      have e := List.mem_singleton.mp hp
      subst e
      refine ⟨g3, nd3, hDC, fun z => ?_, fun v q => by cases q⟩
      obtain ⟨_, o, ho, _⟩ := (I2.stack).mem z
      exact absurd (Heap.lt_size ho) (Nat.lt_irrefl _)
    have onlyD : ∀ p ∈ [((s2.heap.objs.size, ⟨.type "list", none, .seq (List.toArray its) kk, #[]⟩) : Addr × Obj)], p.1 = s2.heap.objs.size := fun p hp => by
      rw [List.mem_singleton.mp hp]
    rcases turn i n acc H3 w3 with ⟨stop, hlen, fin⟩ | ⟨go, NN, hNN, step⟩
    · refine wpAny_mono (T.done (cxComp X scope N P2.objs.size s2 H2 fp pins) rfl rfl rfl hc i _ s3 σ3 H3 _ I3' (stat fr3 onlyD) st3 stop) (fun r s4 h4 => ?_) fun _ _ z => z
      obtain ⟨hr, I4⟩ := h4
      subst hr
      have g4 := (I4.pin (s2.heap.objs.size, _) (List.mem_append_right _ (List.mem_singleton.mpr rfl))).1
      obtain ⟨mm, hnm, _⟩ := I4.loc
      have B := comp_back I2 I4 rfl f2 ⟨kk, g4⟩ va3 hlen nd3
      refine hR _ _ s4 _ mm B hnm ?_ hCle (fin _ nd3)
      rw [upd_ne (Ne.symm hDC)]
      exact I4.free
    · refine wpAny_mono (T.item (cxComp X scope N P2.objs.size s2 H2 fp pins) rfl rfl rfl hc i _ s3 σ3 H3 _ I3' (stat fr3 onlyD) st3 go) (fun r s4 h4 => ?_) fun _ _ z => z
      obtain ⟨u, hr, h4⟩ := h4
      subst hr
      refine wpAny_mono h4 (fun _ s5 h5 => ?_) fun _ _ z => z
      obtain ⟨x, H5, I5, r5, y5, st5, fr5⟩ := h5
      have I5w := I5.weak wk3.length.symm (fun i v e => wk3.get e)
      have I5' := I5w.pinned (fp := fp) (stat fr5 onlyD) (T.obj _ _ st5)
      refine wpAny_mono (hg P2.objs.size s2 H2 fp pins _ s5 _ H5 x u _ I5' r5 (step x H5 y5)) (fun _ s6 h6 => ?_) fun _ _ z => z.elim
      obtain ⟨σ6, H6, I6, wk6, q6⟩ := h6
      refine wpAny_mono (ht P2.objs.size s2 H2 fp pins _ s6 σ6 H6 _ I6 q6) (fun ok s7 h7 => ?_) fun _ _ z => z.elim
      obtain ⟨H7, I7, q7⟩ := h7
      have keepT : ∀ {σ8 : St} {H8 : Hp} {s8 : Shared}, Inv (cxComp X scope N P2.objs.size s2 H2 fp pins) ([((s2.heap.objs.size, ⟨.type "list", none, .seq (List.toArray its) kk, #[]⟩) : Addr × Obj)] ++ pinsAt fp s5.heap) σ8 H8 s8 →
          (∀ b ∈ fp, ∀ o, s5.heap.get? b = some o → s8.heap.get? b = some o) ∧ (∀ b ∈ fp, H8 b = none) := fun {σ8 H8 s8} I8 => by
        refine ⟨fun b hb o e => (I8.pin (b, o) (List.mem_append_right _ (List.mem_append_right _ (mem_pinsAt hb e)))).1, fun b hb => ?_⟩
        obtain ⟨o, e, d⟩ := T.obj _ _ st5 b hb
        exact (I8.pin (b, o) (List.mem_append_right _ (List.mem_append_right _ (mem_pinsAt hb e)))).2.1
      have unpin : ∀ {σ8 : St} {H8 : Hp} {s8 : Shared} {pl : List (Addr × Obj)}, Inv (cxComp X scope N P2.objs.size s2 H2 fp pins) pl σ8 H8 s8 → Inv (cxComp X scope N P2.objs.size s2 H2 fp pins) [] σ8 H8 s8 := fun I8 => I8.pins_of fun p hp => by cases hp
      cases ok with
      | false =>
        simp only [Bool.false_eq_true, if_false] at q7 ⊢
        obtain ⟨m', hm, w7⟩ := hNN _ _ q7
        have p7 := I7.pin (s2.heap.objs.size, _) (List.mem_append_right _ (List.mem_append_left _ (List.mem_singleton.mpr rfl)))
        obtain ⟨k1, k2⟩ := keepT I7
        exact ⟨m', hm, i + 1, acc, its, σ6, H7, unpin I7, wk6, T.keep _ _ _ st5 k1, k2, ⟨kk, p7.1⟩, va3, p7.2.1, w7⟩
      | true =>
        simp only [if_true] at q7 ⊢
        refine wpAny_mono (he P2.objs.size s2 H2 fp pins _ s7 σ6 H7 _ I7 q7) (fun y s8 h8 => ?_) fun _ _ z => z.elim
        obtain ⟨v, H8, I8, r8, hlt, q8⟩ := h8
        obtain ⟨m', hm, w8⟩ := hNN _ _ q8
        have p8 := I8.pin (s2.heap.objs.size, _) (List.mem_append_right _ (List.mem_append_left _ (List.mem_singleton.mpr rfl)))
        obtain ⟨k1, k2⟩ := keepT I8
        have hl := va3.length
        refine wpAny_list_append_plain (items := List.toArray its) (hsz := by rw [List.size_toArray, ← hl]; exact Nat.le_of_lt hlt) ⟨kk, p8.1⟩ fun h₅ hl₅ hs₅ => ?_
        have I9 : Inv (cxComp X scope N P2.objs.size s2 H2 fp pins) [] σ6 H8 { s8 with heap := h₅ } := (unpin I8).turned (t' := s8.toks) (it := s2.heap.objs.size) (fun b o hb e => hs₅.extBut b o hb e) p8.2.1 hDC (.inr (Nat.le_refl _)) cellD (fun p hp => by
          have hp' : p ∈ X.pn ++ pins := by simpa [cxComp] using hp
          exact pnD p hp')
        refine ⟨m', hm, i + 1, acc ++ [v], its ++ [y], σ6, H8, I9, wk6, T.keep _ _ _ st5 fun b hb o e => hs₅.extBut b o (fun z => hfD (z ▸ hb)) (k1 b hb o e), k2, ?_, va3.append (.cons r8 .nil), p8.2.1, w8⟩
        have e : (its ++ [y]).toArray = its.toArray.push y := by simp
        rw [e]
        exact hl₅
  exact codeAny_compStart_list (loop _ rfl) (T.self X.A 0 _ _ _ st1 (loop _ rfl))
theorem pe_comp (hc : X.calm = true) (hi : PI X target iter wi) (hg : ∀ C s H fp pl, PG (cxComp X scope N C s H fp pl) target g) (ht : ∀ C s H fp pl, PTs (cxComp X scope N C s H fp pl) ifs ti) (he : ∀ C s H fp pl, PE (cxComp X scope N C s H fp pl) elt te)
    (hpk : PickOk X scope N ix) (hkind : scope.kind = .function := by rfl) (hcell : ∀ y ∈ scope.names, y.2 ≠ .cell := by decide) (hnames : ∀ x ∈ scope.names, x.2 = .local → scope.names.lookup x.1 = some .local := by decide) (hall : clAll scope X.env = true := by rfl)
    (hs : ∀ x, foldedSetIterable iter X.env x = pure x := by intro _; rfl) : PE X (.ListComp elt [⟨target, iter, ifs, 0⟩] scope pos) (tComp wi g ti te ix) := by
  intro pins s σ H Q I h
  rw [eval_ListComp]
  refine wpAny_comprehension_free (use := none) rfl hs (closureFor_clOf hall) hkind hnames ?_
  refine thn (hi pins s σ H _ I h) fun v s1 h1 => thn h1 fun itv s2 h2 => ?_
  obtain ⟨it, fp, tn, J, H2, e, I2, T, st2, f2, h⟩ := h2
  subst e
  refine comp_run (RR := fun acc C => compPost (model X.prog X.w) X.A X.xe none (EP X pins σ Q) acc C) hc hg ht he hkind hcell hall hpk I2 T st2 f2 h ?_
  intro D C s' H' m B hn hHC hle q
  refine ⟨m, hn, fun h' hs' => ⟨.ref D, H', B.turned (t' := s'.toks) (it := C) (fun b o hb e => hs'.extBut b o hb e) hHC (Nat.ne_of_gt (Nat.lt_of_lt_of_le I2.lt hle)) (.inr (Nat.le_trans I2.sz hle)) (fun x c e => ?_) (fun p hp => ?_), rfl, q⟩⟩
  · obtain ⟨v, o, ho, _⟩ := I2.cell x c e
    exact Nat.ne_of_lt (Nat.lt_of_lt_of_le (Heap.lt_size ho) hle)
  · exact Nat.ne_of_lt (Nat.lt_of_lt_of_le (Heap.lt_size (I2.pin p hp).1) hle)
theorem ps_setC {i : Nat} {y : Str} {py spos : Pos} (hN : X.N.Nodup) (hyi : X.N[i]? = some y) (hy : Loc X.env.scope y) (hc : X.calm = true) (hi : PI X target iter wi) (hg : ∀ C s H fp pl, PG (cxComp X scope N C s H fp pl) target g) (ht : ∀ C s H fp pl, PTs (cxComp X scope N C s H fp pl) ifs ti) (he : ∀ C s H fp pl, PE (cxComp X scope N C s H fp pl) elt te)
    (hpk : PickOk X scope N ix) (hsw : swapsWith (.ListComp elt [⟨target, iter, ifs, 0⟩] scope pos) (some (.Name y py)) spos.line X.env = pure true := by with_unfolding_all rfl) (hkind : scope.kind = .function := by rfl) (hcell : ∀ y ∈ scope.names, y.2 ≠ .cell := by decide) (hnames : ∀ x ∈ scope.names, x.2 = .local → scope.names.lookup x.1 = some .local := by decide) (hall : clAll scope X.env = true := by rfl)
    (hs : ∀ x, foldedSetIterable iter X.env x = pure x := by intro _; rfl) (hf : X.fn y = true ∨ X.env.scope.names.lookup y = some .local := by first | exact .inl rfl | exact .inr rfl | assumption) : PS X (.Assign [.Name y py] (.ListComp elt [⟨target, iter, ifs, 0⟩] scope pos) spos) (tAsg (tComp wi g ti te ix) (gName i)) := by
  intro pins s σ H D I h
  rw [exec_Assign_Name_used _ _ _ _ hsw]
  refine wpAny_bind (wpAny_standAt (wpAny_bind ?_))
  show wpAny _ X.A (do let _ ← comprehension (.ListComp elt [⟨target, iter, ifs, 0⟩] scope pos) scope X.env _ (newList []) false (eval iter X.env) (some (assign (.Name y py) X.env))) _ _ s
  refine wpAny_bind (wpAny_mono (wpAny_comprehension_free (use := some (assign (.Name y py) X.env)) (Q := fun _ s' => SP X pins D .next s') rfl hs (closureFor_clOf hall) hkind hnames ?_) (fun _ s' hq => wpAny_pure (wpAny_pure hq)) fun _ _ e => e)
  refine thn (hi pins s σ H _ I h) fun v s1 h1 => thn h1 fun itv s2 h2 => ?_
  obtain ⟨it, fp, tn, J, H2, e, I2, T, st2, f2, h⟩ := h2
  subst e
  refine comp_run (Q := fun x H1 => gName i x σ H1 D.nx) (RR := fun acc C => compPost (model X.prog X.w) X.A X.xe (some (assign (.Name y py) X.env)) (fun _ s' => SP X pins D .next s') acc C) hc hg ht he hkind hcell hall hpk I2 T st2 f2 h ?_
  intro Dd C s' H' m B hn hHC hle q
  show wpAny _ X.A (assign (.Name y py) X.env (.ref Dd)) _ _ _
  have cC : ∀ x c, X.env.cells.lookup x = some c → c ≠ C := fun x c e => by
    obtain ⟨v, o, ho, _⟩ := I2.cell x c e
    exact Nat.ne_of_lt (Nat.lt_of_lt_of_le (Heap.lt_size ho) hle)
  have lC : X.env.locals ≠ C := Nat.ne_of_lt (Nat.lt_of_lt_of_le I2.lt hle)
  refine wpAny_assign_Name (store_ok2 (v := .ref Dd) B hN hyi hy rfl (fun s4 I4 hsb => ?_) hf)
  obtain ⟨a, hsa, ha⟩ := hsb
  have nC : C ≠ a := by
    rcases ha with z | z
    · rw [z]; exact Ne.symm lC
    · exact Ne.symm (cC _ _ z)
  refine ⟨m, hn.sameBut hsa nC, fun h' hs' => ⟨_, H', I4.turned (t' := s4.toks) (it := C) (fun b o hb e => hs'.extBut b o hb e) hHC (Ne.symm lC) (.inr (Nat.le_trans I2.sz hle)) cC (fun p hp => ?_), q⟩⟩
  exact Nat.ne_of_lt (Nat.lt_of_lt_of_le (Heap.lt_size (I2.pin p hp).1) hle)
end
section
variable {g : TG} {ti : TT} {te : TE} {ix : List (Option Nat)} {σ : St} {Q : VK}
def CompW (J : It) (g : TG) (ti : TT) (te : TE) (ix : List (Option Nat)) (σ : St) (Q : VK) (H1 : Hp) : Prop := ∃ W : Nat → Nat → List V → Hp → Prop, (∃ m, W 0 m [] H1) ∧ ∀ i m acc H, W i m acc H →
  (J.stop i H ∧ acc.length ≤ sizeLine ∧ ∀ p, H p = none → Q (.ref p) (upd H p (.lst acc))) ∨
  (J.go i H ∧ ∃ N : List V → Hp → Prop, (∀ acc' H', N acc' H' → ∃ m', m' < m ∧ W (i + 1) m' acc' H') ∧ ∀ x H', J.yld i H x H' → g x (pickS ix σ) H' fun σ2 H2 => Wk (pickS ix σ) σ2 ∧ ti σ2 H2 fun b H3 => if b = true then te σ2 H3 fun v H4 => acc.length < sizeLine ∧ N (acc ++ [v]) H4 else N acc H3)
theorem a_comp {wi : TI} {H : Hp} (h : wi σ H fun J H1 => CompW J g ti te ix σ Q H1) : tComp wi g ti te ix σ H Q := h
theorem compw {J : It} {n : Nat} {H1 : Hp} (Pv : Nat → List V → Hp → Prop) (h0 : Pv 0 [] H1) (hgo : ∀ i acc H, i < n → Pv i acc H → J.go i H) (hst : ∀ acc H, Pv n acc H → J.stop n H)
    (hs : ∀ i x acc H H', i < n → Pv i acc H → J.yld i H x H' → g x (pickS ix σ) H' fun σ2 H2 => Wk (pickS ix σ) σ2 ∧ ti σ2 H2 fun b H3 => if b = true then te σ2 H3 fun v H4 => acc.length < sizeLine ∧ Pv (i + 1) (acc ++ [v]) H4 else Pv (i + 1) acc H3)
    (hd : ∀ acc H, Pv n acc H → acc.length ≤ sizeLine ∧ ∀ p, H p = none → Q (.ref p) (upd H p (.lst acc))) : CompW J g ti te ix σ Q H1 := by
  refine ⟨fun i m acc H => m = n - i ∧ i ≤ n ∧ Pv i acc H, ⟨n, by simp, Nat.zero_le _, h0⟩, ?_⟩
  rintro i m acc H ⟨rfl, hi, p⟩
  by_cases hlt : i < n
  · exact .inr ⟨hgo i acc H hlt p, Pv (i + 1), fun acc' H' p' => ⟨n - (i + 1), by omega, rfl, hlt, p'⟩, fun x H' y => hs i x acc H H' hlt p y⟩
  · have e : i = n := by omega
    subst e
    exact .inl ⟨hst acc H p, hd acc H p⟩
theorem comp_list {K : PySem.W.Frag} {a : Addr} {xs : List V} {H1 : Hp} (Pv : Nat → List V → Hp → Prop) (h0 : Pv 0 [] H1) (hl : ∀ i acc H, i ≤ xs.length → Pv i acc H → SqL K H a xs)
    (hs : ∀ i x acc H, xs[i]? = some x → Pv i acc H → g x (pickS ix σ) H fun σ2 H2 => Wk (pickS ix σ) σ2 ∧ ti σ2 H2 fun b H3 => if b = true then te σ2 H3 fun v H4 => acc.length < sizeLine ∧ Pv (i + 1) (acc ++ [v]) H4 else Pv (i + 1) acc H3)
    (hd : ∀ acc H, Pv xs.length acc H → acc.length ≤ sizeLine ∧ ∀ p, H p = none → Q (.ref p) (upd H p (.lst acc))) : CompW (Itl K a) g ti te ix σ Q H1 := by
  refine compw (n := xs.length) Pv h0 (fun i acc H hi p => ⟨xs, xs[i], hl i acc H (Nat.le_of_lt hi) p, by simp [hi]⟩) (fun acc H p => ⟨xs, hl _ acc H (Nat.le_refl _) p, Nat.le_refl _⟩) (fun i x acc H H' hi p y => ?_) hd
  obtain ⟨e, y⟩ := y
  subst e
  exact hs i x acc _ (y xs (hl i acc _ (Nat.le_of_lt hi) p)) p
end
end L2
namespace L2
open PySem PySem.Spec PyProof.Rows
section
variable {X : Cx}
end
section
variable {X : Cx} {tg : Expr}
end
section
variable {σ : St} {H : Hp} {R : It → Hp → Prop} {K : PySem.W.Frag}
theorem a_for {wi : TI} {g : TG} {tb : TS} {D : Ends} (h : wi σ H fun J H1 => ∃ W : Nat → Nat → St → Hp → Prop, (∃ m, W 0 m σ H1) ∧ ∀ i m σ H, W i m σ H →
  (J.stop i H ∧ D.nx σ H) ∨ (J.go i H ∧ ∃ N : St → Hp → Prop, (∀ σ' H', N σ' H' → ∃ m', m' < m ∧ W (i + 1) m' σ' H') ∧ ∀ x H', J.yld i H x H' → g x σ H' fun σ2 H2 => tb { D with nx := N, ct := N, bk := D.nx } σ2 H2)) : tFor wi g tb D σ H := h
theorem a_rng1 {ta : TA} (h : ta σ H fun vs H1 => ∃ j : Int, vs = [.int j] ∧ -(2 ^ 62) ≤ j ∧ j < 2 ^ 62 ∧ R (Itr 0 j.toNat) H1) : iRng1 ta σ H R := h
theorem a_rng2 {ta : TA} (h : ta σ H fun vs H1 => ∃ i j : Int, vs = [.int i, .int j] ∧ (-(2 ^ 62) ≤ i ∧ i < 2 ^ 62 ∧ -(2 ^ 62) ≤ j ∧ j < 2 ^ 62) ∧ R (Itr i (j - i).toNat) H1) : iRng2 ta σ H R := h
theorem a_ilist {tl : TE} (h : tl σ H fun x H1 => ∃ a, x = .ref a ∧ (∃ xs, SqL K H1 a xs) ∧ R (Itl K a) H1) : iList K tl σ H R := h
end
end L2
namespace L2
open PySem PySem.Spec PyProof.Rows
theorem ObjOk.has {P : Program} {w : World} {H : Hp} {h : Heap} {a : Addr} {o : HO} (x : ObjOk P w H h a o) : ∃ u, h.get? a = some u := by
  cases o with
  | lst xs => obtain ⟨_, _, _, _, e⟩ := x; exact ⟨_, e⟩
  | tup xs => obtain ⟨_, _, _, u, e, _⟩ := x; exact ⟨_, e⟩
  | dK kvs => obtain ⟨_, _, _, _, u, _, _, e, _⟩ := x; exact ⟨_, e⟩
  | dT kvs => obtain ⟨_, _, _, _, u, _, _, e, _⟩ := x; exact ⟨_, e⟩
  | set S n => obtain ⟨u, _, _, _, e, _⟩ := x; exact ⟨_, e⟩
  | ins C dx fs => obtain ⟨_, _, _, e, _⟩ := x; exact ⟨_, e⟩
  | own y => exact x
  | xd fs => obtain ⟨_, ⟨u, _, _, e, _⟩, _⟩ := x; exact ⟨_, e⟩
  | rng lo hi => obtain ⟨_, _, _, e⟩ := x; exact ⟨_, e⟩
  | frz ob u => obtain ⟨e, _⟩ := x; exact ⟨_, e⟩
  | tbl ps => exact ⟨_, x⟩
  | met f y => exact ⟨_, x⟩
  | ext φ => exact x.2.1
section
variable {X : Cx} {pins : List (Addr × Obj)} {σ : St} {H : Hp} {s : Shared}
end
section
variable {X : Cx}
end
end L2
namespace L2
open PySem PySem.Spec PyProof.Rows
section
variable {P : Program} {w : World} {K : PySem.W.Frag} {mg : Str → Option Value} {base : Heap}
end
section
variable {X : Cx}
variable {CX : CXT} {k : Nat} {f : Addr} {fd : FuncData} {ps : List Str} {sp : Sp} {dvs : List V} {ds : List Value} {x : Str} {p pos : Pos} {e : Expr} {es : List Expr} {t : TA}
end
end L2
namespace L2
open PySem PySem.Spec PyProof.Rows PySem.W Builtin Builtin.ObjectAttr Builtin.Getset_descriptor
structure ExcK (K : Frag) (C : Addr) : Prop where
  fg : findIn K (.ref C) "__getattribute__" = some (some (.builtin "BaseException.__getattribute__"))
  fn : findIn K (.ref C) "__getattr__" = some none
  fc : findIn K (.ref C) "__class__" = some (some (.builtin "object.__class__"))
  mo : mroIn K C (.type "object") = some true
  sb : subIn K (.ref C) (.type "BaseException") = some true
def ExAt (x C : Addr) (h : Heap) : Prop := ∃ o, h.get? x = some o ∧ o.cls = .ref C
theorem ExAt.ty {M : Model} {x C : Addr} {h : Heap} (p : ExAt x C h) : Looks M h (typeOf (.ref x)) (.ref C) := by
  obtain ⟨o, h1, h2⟩ := p
  rw [← h2]
  exact (Looks.ld h1).andThen .now
section
variable {prog : Program} {w : World} {A : Around} {E : Value → Shared → Prop} {K : Frag} {h : Heap} {g : Array GenState} {d : Drawn} {t : Nat} {os : OsState} {x C : Addr}
end
section
variable {X : Cx}
end
end L2
namespace L2
open PySem PySem.Spec PyProof.Rows
structure RoomH (k : Nat) (A : Around) : Prop where
  dp : A.depth + 3 * k + 5 < recursionLimit
  un : A.units + 16 * k + 200 < cLine
theorem RoomH.deeper {k : Nat} {A : Around} (r : RoomH (k + 1) A) (env : Env) : RoomH k (A.deeper env) :=
  ⟨by have := r.dp; show A.depth + 1 + 3 * k + 5 < _; omega, by have := r.un; show A.units + 3 + 16 * k + 200 < _; omega⟩
theorem RoomH.units {k : Nat} {A : Around} (r : RoomH k A) : A.units + 64 < cLine := by have := r.un; omega
structure FnOkH (P : Program) (w : World) (K : PySem.W.Frag) (mg : Str → Option Value) (base : Heap) (k : Nat) (f : Addr) (fd : FuncData) (ps : List Str) (sp : Sp) : Prop where
  len : ∀ vs H Q E, sp vs H Q E → vs.length = ps.length
  run : ∀ (A : Around) (outer : List Env) (s : Shared) (H : Hp) (args : Args) (us : List Value) (vs : List V) (Q : VK) (E : XK), RoomH k A → Env0 P w K mg base A outer s H → BindsTo s fd args (ps.zip us) → Vals vs us → sp vs H Q E →
    codeAny (model P w) A (.call (.ref f) args) (CR CX0 outer P w H s Q E) s
abbrev Cx.loose (X : Cx) : Cx := { X with calm := false, xe := fun _ _ => False }
section
variable {P : Program} {w : World} {K : PySem.W.Frag} {mg : Str → Option Value} {base : Heap}
end
section
variable {X : Cx} {k : Nat} {f : Addr} {fd : FuncData} {ps : List Str} {sp : Sp} {x : Str} {p pos : Pos} {e : Expr} {es : List Expr} {t : TA}
end
section
variable {X : Cx}
end
end L2
namespace Vc
open PySem L2 Sf
end Vc
namespace L2
open PySem PySem.Spec PyProof.Rows
theorem Inv.turned2 {X : Cx} {pins : List (Addr × Obj)} {σ : St} {H : Hp} {s : Shared} {h' : Heap} {t' : Nat} {a b : Addr} (I : Inv X pins σ H s) (k : ∀ c o, c ≠ a → c ≠ b → s.heap.get? c = some o → h'.get? c = some o)
    (ha : FpOk X pins H a) (hb : FpOk X pins H b) (ea : ∃ o, h'.get? a = some o) (eb : ∃ o, h'.get? b = some o) : Inv X pins σ H { s with heap := h', toks := t' } := by
  obtain ⟨a0, a1, a2, a3, a4, a5⟩ := ha
  obtain ⟨b0, b1, b2, b3, b4, b5⟩ := hb
  refine I.call' (s' := { s with heap := h', toks := t' }) (ch := [a, b]) rfl ⟨fun c o e _ _ hc => ?_, fun c o e _ _ hc => ⟨o.slots, ?_⟩, fun _ _ _ n _ => n, fun c o e hc => ⟨o, ?_⟩, fun _ _ q => q, fun _ _ _ q => q, fun _ ps q => ⟨#[], by rw [q]; simp⟩⟩ (fun c u e => ?_) I.bare (fun c hc => ?_)
  · exact k c o (fun z => hc (by simp [z])) (fun z => hc (by simp [z])) e
  · exact k c o (fun z => hc (by simp [z])) (fun z => hc (by simp [z])) e
  · exact k c o (fun z => hc (by simp [z])) (fun z => hc (by simp [z])) e
  · refine (I.hok c u e).stay (fun d o hd q => k d o ?_ ?_ q) (fun _ q => q) fun _ _ q => q
    · rintro rfl
      rcases hd with z | z
      · rw [← z, a0] at e; cases e
      · rw [a0] at z; cases z
    · rintro rfl
      rcases hd with z | z
      · rw [← z, b0] at e; cases e
      · rw [b0] at z; cases z
  · rcases List.mem_cons.mp hc with z | hc
    · rw [z]; exact ⟨a3, a1, a4, a5⟩
    · have z : c = b := by simpa using hc
      rw [z]; exact ⟨b3, b1, b4, b5⟩
section
variable {X : Cx}
end
end L2
namespace L2
open PySem PySem.Spec PyProof.Rows
theorem vals_bools : ∀ {bs : List Bool} {us : List Value}, Vals (bs.map V.bl) us → us = bs.map Value.bool
  | [], _, .nil => rfl
  | b :: r, _, .cons h t => by
    have e := vals_bools (bs := r) t
    subst e
    cases h
    rfl
theorem any_range (bs : List Bool) : (List.range bs.length).any (fun i => bs.getD i false) = bs.any id := by
  rw [Bool.eq_iff_iff, List.any_eq_true, List.any_eq_true]
  constructor
  · rintro ⟨i, hi, h⟩
    rw [List.mem_range] at hi
    refine ⟨bs[i], List.getElem_mem hi, ?_⟩
    rw [List.getD_eq_getElem?_getD, List.getElem?_eq_getElem hi] at h
    exact h
  · rintro ⟨b, hb, h⟩
    obtain ⟨i, hi, rfl⟩ := List.getElem_of_mem hb
    refine ⟨i, List.mem_range.mpr hi, ?_⟩
    rw [List.getD_eq_getElem?_getD, List.getElem?_eq_getElem hi]
    exact h
theorem all_range (bs : List Bool) : (List.range bs.length).all (fun i => bs.getD i false) = bs.all id := by
  rw [Bool.eq_iff_iff, List.all_eq_true, List.all_eq_true]
  constructor
  · intro h b hb
    obtain ⟨i, hi, rfl⟩ := List.getElem_of_mem hb
    have z := h i (List.mem_range.mpr hi)
    rw [List.getD_eq_getElem?_getD, List.getElem?_eq_getElem hi] at z
    exact z
  · intro h i hi
    rw [List.mem_range] at hi
    rw [List.getD_eq_getElem?_getD, List.getElem?_eq_getElem hi]
    exact h _ (List.getElem_mem hi)
theorem truth_bools {prog : Program} {w : World} {A : Around} (bs : List Bool) : TruthOf prog w A (fun i v => (bs.map Value.bool).toArray[i]? = some v) (fun i => bs.getD i false) := by
  intro i v s Q E hP hQ
  simp only [List.getElem?_toArray, List.getElem?_map] at hP
  cases q : bs[i]? with
  | none => rw [q] at hP; cases hP
  | some b =>
    rw [q] at hP
    cases hP
    have hQ : Q (bs.getD i false) s := hQ
    rw [List.getD_eq_getElem?_getD, q] at hQ
    exact wpAny_pure hQ
section
variable {X : Cx}
theorem call_anyB (hc : X.calm = true) : CallR X (.builtin "any") (fun xs H Q => ∃ (a : Addr) (bs : List Bool), xs = [.ref a] ∧ SqL X.K H a (bs.map V.bl) ∧ Q (.bl (bs.any id)) H) := by
  intro pins s σ H xs us Q I r h
  obtain ⟨a, bs, rfl, hq, q⟩ := h
  obtain ⟨u, rfl, ru⟩ := vals1 r
  cases ru
  obtain ⟨its, rv, p, hz⟩ := I.list hq
  obtain rfl := vals_bools rv
  have hL := p.isList
  have la : a < s.heap.objs.size := (let ⟨_, e, _⟩ := hL; Heap.lt_size e)
  refine call_any_walk (wpAny_pyIter_list hL ?_)
  refine ⟨s.heap.objs.size, _, _, _, _, _, _, rfl, Walks.list (by exact I.ok.hd hc) _ a (Nat.ne_of_lt la) _, ⟨⟨_, Heap.get?_push_size _ rfl, rfl, rfl⟩, (let ⟨o, e, c⟩ := hL; ⟨o, Heap.get?_push_of_some _ e, c⟩)⟩, truth_bools bs, fun h' tk hk => ?_⟩
  refine ⟨.bl (bs.any id), H, I.kept fun b o e => hk b o (fun z => absurd (Heap.lt_size e) (by rw [show b = s.heap.objs.size from by simpa using z]; exact Nat.lt_irrefl _)) (Heap.get?_push_of_some _ e), ?_, q⟩
  rw [← any_range]
  show _ = _
  simp
theorem call_allB (hc : X.calm = true) : CallR X (.builtin "all") (fun xs H Q => ∃ (a : Addr) (bs : List Bool), xs = [.ref a] ∧ SqL X.K H a (bs.map V.bl) ∧ Q (.bl (bs.all id)) H) := by
  intro pins s σ H xs us Q I r h
  obtain ⟨a, bs, rfl, hq, q⟩ := h
  obtain ⟨u, rfl, ru⟩ := vals1 r
  cases ru
  obtain ⟨its, rv, p, hz⟩ := I.list hq
  obtain rfl := vals_bools rv
  have hL := p.isList
  have la : a < s.heap.objs.size := (let ⟨_, e, _⟩ := hL; Heap.lt_size e)
  refine call_all_walk (wpAny_pyIter_list hL ?_)
  refine ⟨s.heap.objs.size, _, _, _, _, _, _, rfl, Walks.list (by exact I.ok.hd hc) _ a (Nat.ne_of_lt la) _, ⟨⟨_, Heap.get?_push_size _ rfl, rfl, rfl⟩, (let ⟨o, e, c⟩ := hL; ⟨o, Heap.get?_push_of_some _ e, c⟩)⟩, truth_bools bs, fun h' tk hk => ?_⟩
  refine ⟨.bl (bs.all id), H, I.kept fun b o e => hk b o (fun z => absurd (Heap.lt_size e) (by rw [show b = s.heap.objs.size from by simpa using z]; exact Nat.lt_irrefl _)) (Heap.get?_push_of_some _ e), ?_, q⟩
  rw [← all_range]
  show _ = _
  simp
end
end L2
namespace L2
theorem a_yes {σ : St} {H : Hp} {R : Bool → Hp → Prop} (h : R true H) : tYes σ H R := h
theorem sizeLine_big : 1000000 ≤ PySem.sizeLine := by decide
end L2
namespace Vc
open PySem L2 Sf
theorem Al.bools {F : Hp} : ∀ {vs : List V} {bs : List Bool}, Al rB F vs bs → vs = bs.map V.bl
  | [], [], _ => rfl
  | _ :: _, _ :: _, ⟨h1, h2⟩ => by rw [List.map_cons, ← Al.bools h2]; cases h1; rfl
  | [], _ :: _, h => h.elim
  | _ :: _, [], h => h.elim
end Vc
namespace L2
open PySem PySem.Spec PyProof.Rows
def Itk (sel : Key × V → V) (a : Addr) (ob : Obj) (kvs : List (Key × V)) : It :=
  ⟨fun i H => i < kvs.length ∧ H a = some (.frz ob (.dK kvs)), fun i H x H' => H' = H ∧ ∃ kv, kvs[i]? = some kv ∧ x = sel kv, fun i H => kvs.length ≤ i ∧ H a = some (.frz ob (.dK kvs))⟩
abbrev selV : Key × V → V := fun kv => kv.2
theorem frz_at {X : Cx} {pins : List (Addr × Obj)} {σ : St} {H : Hp} {s : Shared} {a : Addr} {ob : Obj} {kvs : List (Key × V)} {es : Array DictEntry} {ep : Nat} (I : Inv X pins σ H s) (hH : H a = some (.frz ob (.dK kvs))) (hd : ob.data = .dict es ep) :
    ∃ vs, KV kvs vs ∧ s.heap.DictAt (mixKind X.prog X.w) a vs ep ∧ kvs.length = vs.length := by
  obtain ⟨ho, z, y, vs, r, o', es', ep', ho', c1, c2, c3, c4, c5⟩ := (show ObjOk X.prog X.w H s.heap a (.frz ob (.dK kvs)) from I.hok a _ hH)
  have eo : ob = o' := Option.some.inj (ho.symm.trans ho')
  subst eo
  rw [hd] at c2
  cases c2
  exact ⟨vs, r, ⟨ob, es, ho, c1, hd, c3, c4, c5⟩, KV.length r⟩
theorem turn_vals {P : Program} {w : World} {K : PySem.W.Frag} {tg : Expr} (a it : Addr) (ob : Obj) (kvs : List (Key × V)) :
    Turn P w K tg (Itk selV a ob kvs) [it] it (fun i h => ∃ es ep, ob.data = .dict es ep ∧ h.IsValIter it a i kvs.length ep) where
  mem := by simp
  obj := fun i h st b hb => by
    obtain ⟨es, ep, hd, o, e, c, d⟩ := st
    rw [show b = it from by simpa using hb]
    exact ⟨o, e, fun v z => by rw [d] at z; cases z⟩
  keep := fun i h h' st k => by
    obtain ⟨es, ep, hd, o, e, c, d⟩ := st
    exact ⟨es, ep, hd, o, k it (by simp) o e, c, d⟩
  item := by
    intro X hP hw hK hc i pins s σ H E I hf st hg
    subst hP hw hK
    obtain ⟨es, ep, hd, hit⟩ := st
    obtain ⟨hi, hH⟩ := hg
    obtain ⟨vs, r, hm, hl⟩ := frz_at I hH hd
    obtain ⟨⟨k, v⟩, hkv⟩ : ∃ q, kvs[i]? = some q := ⟨kvs[i], by simp [hi]⟩
    obtain ⟨u, hu, ru⟩ := r.at hkv
    rw [hl] at hit
    obtain ⟨f0, f1, f2, f3, f4, f5⟩ := hf it (by simp)
    refine wpAny_pyNext_values_item hit hm hu fun h' hit' sb => ?_
    have I1 : Inv X pins σ H { s with heap := h' } := I.turned (t' := s.toks) (fun b o hb e => (sb.2 b hb).trans e) f0 f1 f3 f4 f5
    obtain ⟨o, e, c, d⟩ := id hit'
    refine ⟨u, rfl, go_of (s := { s with heap := h' }) e c d (by decide) ⟨v, H, I1, ru, ⟨rfl, _, hkv, rfl⟩, ⟨es, ep, hd, by rw [hl]; exact hit'⟩, fun b hb => (hf b hb).1⟩⟩
  done := by
    intro X hP hw hK hc i pins s σ H E I hf st hg
    subst hP hw hK
    obtain ⟨es, ep, hd, hit⟩ := st
    obtain ⟨hi, hH⟩ := hg
    obtain ⟨vs, r, hm, hl⟩ := frz_at I hH hd
    rw [hl] at hit
    obtain ⟨f0, f1, f2, f3, f4, f5⟩ := hf it (by simp)
    exact wpAny_pyNext_values_end (I.ok.hd hc) hit hm (by simp; omega) fun h' eb => ⟨rfl, I.turned (t' := s.toks) (fun b o hb e => eb b o hb e) f0 f1 f3 f4 f5⟩
  self := fun _ _ _ _ _ st h => let ⟨_, _, _, hit⟩ := st; wpAny_pyIter_valiter hit h
section
variable {X : Cx}
def iDk (sel : Key × V → V) (X : Cx) (td : TE) : TI := fun σ H R => td σ H fun x H1 => ∃ a kvs, x = .ref a ∧ H1 a = some (.dK kvs) ∧ ∀ ob, (∀ o u, X.H₀ a ≠ some (.frz o u)) → R (Itk sel a ob kvs) (upd H1 a (.frz ob (.dK kvs)))
theorem pi_vals {o tg : Expr} {td : TE} {apos cpos : Pos} (ho : PE X o td) (hbase : attributeBase o "values" X.env (eval o X.env) = eval o X.env) (hline : (apos.endLine == cpos.line) = true) :
    PI X tg (.Call (.Attribute o "values" apos) [] [] cpos) (iDk selV X td) := by
  intro pins s σ H R I h
  refine wpAny_Call_method0_late hbase hline (thn (ho pins s σ H _ I h) fun v s1 ⟨x, H1, I1, r1, a, kvs, ex, hH, q⟩ => ?_)
  subst ex
  obtain rfl : v = Value.ref a := r1
  obtain ⟨t1, t2, hd⟩ := isD_at I1 (.inl ⟨kvs, .inl hH⟩)
  refine ⟨"dict", "dict.values", PySem.F.plainAttrs_dict, PySem.F.slot_dict_values, PySem.F.type_dict_values, t1, t2, Calls.callWith_builtin rfl (PySem.evalArgs_none ?_)⟩
  obtain ⟨z, y, vs, r, dd⟩ := dk_of I1.hok hH
  refine call_meetsIn PySem.F.slot_dict_values t1 PySem.F.entry_dict_values (PySem.F.args_dict_values_1 _) (meets_dict_values (mixKind X.prog X.w) a hd) ⟨⟨vs, dd⟩, ?_⟩
  have I2 : Inv X pins σ H1 { s1 with heap := s1.heap.push { cls := .type "dict_values", data := .fields #[.ref a] } } := I1.kept (t' := s1.toks) fun b o e => Heap.get?_push_of_some _ e
  have hna : ∀ o u, X.H₀ a ≠ some (.frz o u) := fun o u z => by
    have := I1.base.frzs a o u z
    rw [hH] at this; cases this
  obtain ⟨ep, hat⟩ := dd.dictAt
  have hat2 := hat.push { cls := .type "dict_values", data := .fields #[.ref a] }
  refine wpAny_pyIter_values (v := s1.heap.objs.size) (d := a) ⟨_, Heap.get?_push_size _ rfl, rfl, rfl⟩ hat2 ?_
  obtain ⟨ob, hob, I3⟩ := (I2.kept (t' := s1.toks) (h' := (s1.heap.push { cls := .type "dict_values", data := .fields #[.ref a] }).push { cls := .type "dict_valueiterator", data := .fields #[.ref a, .int 0 0, .int vs.length 0, .int ep 0] }) fun b o e => Heap.get?_push_of_some _ e).freeze hH
  have la : a < (s1.heap.push { cls := .type "dict_values", data := .fields #[.ref a] }).objs.size := hat2.lt_size
  have hl : kvs.length = vs.length := KV.length r
  refine ⟨_, [_], _, _, upd H1 a (.frz ob (.dK kvs)), rfl, I3, turn_vals a (s1.heap.push { cls := .type "dict_values", data := .fields #[.ref a] }).objs.size ob kvs, ?_, fun b hb => ?_, q ob hna⟩
  · obtain ⟨o2, es, ho2, c1, c2, _⟩ := hat2
    have e3 : ob = o2 := Option.some.inj (hob.symm.trans (Heap.get?_push_of_some _ ho2))
    subst e3
    exact ⟨es, ep, c2, by rw [hl]; exact ⟨_, Heap.get?_push_size _ rfl, rfl, rfl⟩⟩
  · have e : b = (s1.heap.push { cls := .type "dict_values", data := .fields #[.ref a] }).objs.size := by simpa using hb
    subst e
    exact I2.fpOk (Nat.le_refl _) (by rw [upd_ne (Nat.ne_of_gt la)]; exact I2.hok.fresh (Nat.le_refl _))
def tThaw (X : Cx) (t : TS) : TS := fun D σ H => t (ThawD X D) σ H
theorem ps_thaw {st : Stmt} {t : TS} (h : PS X st t) : PS X st (tThaw X t) := by
  intro pins s σ H D I q
  refine thn (h pins s σ H (ThawD X D) I q) fun f s' q => ?_
  cases f with
  | next => obtain ⟨σ', H', I', a, ob, kvs, e, hn, r⟩ := q; exact ⟨σ', _, I'.thaw e hn, r⟩
  | brk => obtain ⟨σ', H', I', a, ob, kvs, e, hn, r⟩ := q; exact ⟨σ', _, I'.thaw e hn, r⟩
  | cont => obtain ⟨σ', H', I', a, ob, kvs, e, hn, r⟩ := q; exact ⟨σ', _, I'.thaw e hn, r⟩
  | ret u => obtain ⟨v, σ', H', I', rv, a, ob, kvs, e, hn, r⟩ := q; exact ⟨v, σ', _, I'.thaw e hn, rv, r⟩
def tThawE (X : Cx) (t : TE) : TE := fun σ H Q => t σ H fun v => Thaw X (Q v)
theorem pe_thaw {e : Expr} {t : TE} (h : PE X e t) : PE X e (tThawE X t) := by
  intro pins s σ H Q I q
  refine thn (h pins s σ H _ I q) fun u s' ⟨v, H', I', rv, a, ob, kvs, e, hn, r⟩ => ?_
  exact ⟨v, _, I'.thaw e hn, rv, r⟩
end
theorem a_thaw {X : Cx} {t : TS} {D : Ends} {σ : St} {H : Hp} (h : t (ThawD X D) σ H) : tThaw X t D σ H := h
theorem a_thawE {X : Cx} {t : TE} {σ : St} {H : Hp} {Q : VK} (h : t σ H fun v => Thaw X (Q v)) : tThawE X t σ H Q := h
theorem a_idk {X : Cx} {sel : Key × V → V} {td : TE} {σ : St} {H : Hp} {R : It → Hp → Prop} (h : td σ H fun x H1 => ∃ a kvs, x = .ref a ∧ H1 a = some (.dK kvs) ∧ ∀ ob, (∀ o u, X.H₀ a ≠ some (.frz o u)) → R (Itk sel a ob kvs) (upd H1 a (.frz ob (.dK kvs)))) : iDk sel X td σ H R := h
theorem for_dk {sel : Key × V → V} {a : Addr} {ob : Obj} {kvs : List (Key × V)} {g : TG} {tb : TS} {D : Ends} {σ : St} {H : Hp} (Pv : Nat → St → Hp → Prop) (h0 : Pv 0 σ H) (hl : ∀ i σ H, i ≤ kvs.length → Pv i σ H → H a = some (.frz ob (.dK kvs)))
    (hs : ∀ i k v σ H, kvs[i]? = some (k, v) → Pv i σ H → g (sel (k, v)) σ H fun σ2 H2 => tb { D with nx := Pv (i + 1), ct := Pv (i + 1), bk := D.nx } σ2 H2) (hd : ∀ σ H, Pv kvs.length σ H → D.nx σ H) :
    ∃ W : Nat → Nat → St → Hp → Prop, (∃ m, W 0 m σ H) ∧ ∀ i m σ H, W i m σ H →
      ((Itk sel a ob kvs).stop i H ∧ D.nx σ H) ∨ ((Itk sel a ob kvs).go i H ∧ ∃ N : St → Hp → Prop, (∀ σ' H', N σ' H' → ∃ m', m' < m ∧ W (i + 1) m' σ' H') ∧ ∀ x H', (Itk sel a ob kvs).yld i H x H' → g x σ H' fun σ2 H2 => tb { D with nx := N, ct := N, bk := D.nx } σ2 H2) := by
  refine ⟨fun i m σ H => m = kvs.length - i ∧ i ≤ kvs.length ∧ Pv i σ H, ⟨kvs.length, by simp, Nat.zero_le _, h0⟩, ?_⟩
  rintro i m σ H ⟨rfl, hi, p⟩
  have q := hl i σ H hi p
  rcases Nat.lt_or_ge i kvs.length with hlt | hge
  · refine .inr ⟨⟨hlt, q⟩, Pv (i + 1), fun σ' H' p' => ⟨kvs.length - (i + 1), by omega, rfl, hlt, p'⟩, fun x H' y => ?_⟩
    obtain ⟨rfl, ⟨k, v⟩, e, rfl⟩ := y
    exact hs i k v σ _ e p
  · obtain rfl : i = kvs.length := by omega
    exact .inl ⟨⟨Nat.le_refl _, q⟩, hd σ H p⟩
section
variable {g : TG} {ti : TT} {te : TE} {ix : List (Option Nat)} {σ : St} {Q : VK}
theorem comp_dk {sel : Key × V → V} {a : Addr} {ob : Obj} {kvs : List (Key × V)} {H1 : Hp} (Pv : Nat → List V → Hp → Prop) (h0 : Pv 0 [] H1) (hl : ∀ i acc H, i ≤ kvs.length → Pv i acc H → H a = some (.frz ob (.dK kvs)))
    (hs : ∀ i k v acc H, kvs[i]? = some (k, v) → Pv i acc H → g (sel (k, v)) (pickS ix σ) H fun σ2 H2 => Wk (pickS ix σ) σ2 ∧ ti σ2 H2 fun b H3 => if b = true then te σ2 H3 fun v H4 => acc.length < sizeLine ∧ Pv (i + 1) (acc ++ [v]) H4 else Pv (i + 1) acc H3)
    (hd : ∀ acc H, Pv kvs.length acc H → acc.length ≤ sizeLine ∧ ∀ p, H p = none → Q (.ref p) (upd H p (.lst acc))) : CompW (Itk sel a ob kvs) g ti te ix σ Q H1 := by
  refine compw (n := kvs.length) Pv h0 (fun i acc H hi p => ⟨hi, hl i acc H (Nat.le_of_lt hi) p⟩) (fun acc H p => ⟨Nat.le_refl _, hl _ acc H (Nat.le_refl _) p⟩) (fun i x acc H H' hi p y => ?_) hd
  obtain ⟨rfl, ⟨k, v⟩, e, rfl⟩ := y
  exact hs i k v acc _ e p
end
end L2
namespace L2
open PySem PySem.Spec PyProof.Rows
section
variable {X : Cx}
end
end L2
namespace Vc
open PySem L2 Sf
end Vc
namespace L2
end L2
namespace L2
open PySem PySem.Spec PyProof.Rows
section
variable {X : Cx}
end
section
variable {σ : St} {H : Hp} {Q : VK}
end
section
variable {g : TG} {ti : TT} {te : TE} {ix : List (Option Nat)} {σ : St} {Q : VK}
end
end L2
namespace Vc
open PySem L2 Sf
section
variable {X : Cx} {pins : List (Addr × Obj)} {σ : St} {H : Hp} {s : Shared} {Au : Around}
end
section
variable {X : Cx}
def rQn {α : Type} [DecidableEq α] (A : Rep α) : R2 := fun v w H Q => ∃ F x y, Same F H ∧ A F v x ∧ A F w y ∧ Q (.bl (!decide (x = y))) H
end
theorem Al.strs {F : Hp} : ∀ {vs : List V} {xs : List Str}, Al rS F vs xs → vs = xs.map V.str
  | [], [], _ => rfl
  | v :: vs, x :: xs, h => by rw [List.map_cons, ← Al.strs h.2]; exact congrArg (· :: vs) h.1
  | [], _ :: _, h => h.elim
  | _ :: _, [], h => h.elim
end Vc
namespace Vc
open PySem L2 Sf
theorem cutA_most {α : Type} (xs : List α) (a b : Nat) : (cutA xs (some (a : Int)) (some (b : Int))).length ≤ b - a := by
  unfold cutA
  rw [HT.sIx_nat, HT.sIx_nat, List.length_take, List.length_drop]
  omega
theorem map_take_succ {α β : Type} {xs : List α} {i : Nat} {x : α} (f : α → β) (hx : xs[i]? = some x) : (xs.take (i + 1)).map f = (xs.take i).map f ++ [f x] := by
  rw [List.take_add_one, hx, List.map_append]
  rfl
theorem getD_of {α : Type} {xs : List α} {n : Nat} {x d : α} (h : xs[n]? = some x) : xs.getD n d = x := by rw [List.getD_eq_getElem?_getD, h]; rfl
end Vc
namespace L2
open PySem PySem.Spec PyProof.Rows
end L2
namespace Vc
open PySem L2 Sf
end Vc
namespace L2
open PySem PySem.Spec PyProof.Rows
section
variable {X : Cx}
end
section
variable {X : Cx}
end
section
variable {X : Cx}
end
end L2
namespace Vc
open PySem L2 Sf
theorem Dk.vals {α : Type} {A : Rep α} {F : Hp} : ∀ {kvs : List (Key × V)} {m : List (Str × α)}, Dk A F kvs m → Al A F (kvs.map (·.2)) (m.map (·.2))
  | [], [], _ => True.intro
  | _ :: _, _ :: _, h => ⟨h.2.1, Dk.vals h.2.2⟩
  | [], _ :: _, h => h.elim
  | _ :: _, [], h => h.elim
theorem Dk.keys {α : Type} {A : Rep α} {F : Hp} : ∀ {kvs : List (Key × V)} {m : List (Str × α)}, Dk A F kvs m → kvs.map (·.1) = (m.map (·.1)).map (Sum.inr : Str → Key)
  | [], [], _ => rfl
  | p :: r, x :: s, h => by rw [List.map_cons, List.map_cons, List.map_cons, h.1, Dk.keys h.2.2]
  | [], _ :: _, h => h.elim
  | _ :: _, [], h => h.elim
section
variable {K : PySem.W.Frag} {F H : Hp} {Q : VK}
end
end Vc
namespace Vc
open PySem L2 Sf
end Vc
namespace L2
open PySem PySem.Spec PyProof.Rows
structure FunD (K : PySem.W.Frag) (x qual : Str) (st : Stmt) (f : Addr) (fd : FuncData) (ds : List Value) : Prop where
  ex : ∃ (oc : Value) (od : Option Addr) (kV doc pm : Value) (an : Option Addr) (cdv ct : Value) (osl : Array (Option Value)) (T : Addr) (o : Obj) (n : Nat),
    fd = PySem.W.fnOf x qual (defArgs st) (defBody st) (defScope st) (.ref T) kV doc pm an cdv ct ∧ K.lookup f = some ⟨oc, od, .func fd, osl⟩ ∧ PySem.W.codeIn K cdv qual = true ∧ K.lookup T = some o ∧ o.data = .seq ds.toArray n
  kp : PySem.W.keepIn K (.ref f) = true
section
variable {P : Program} {w : World} {K : PySem.W.Frag} {mg : Str → Option Value} {base : Heap}
theorem FunD.binds {x qual : Str} {st : Stmt} {f : Addr} {fd : FuncData} {ps : List Str} {ds ds' : List Value} (F : FunD K x qual st f fd ds)
    (h : ∀ (T : Addr) (kV doc pm : Value) (an : Option Addr) (cdv ct : Value) (us : List Value), (us ++ ds').length = ps.length → ∃ k : Option (Array Value) → Sem (List (Str × Value)),
      bindArgs (PySem.W.fnOf x qual (defArgs st) (defBody st) (defScope st) (.ref T) kV doc pm an cdv ct) ⟨us, []⟩ = (seqItems? (.ref T) >>= k) ∧ k (some ds.toArray) = pure (ps.zip (us ++ ds'))) : Binds K fd ps ds' := by
  obtain ⟨oc, od, kV, doc, pm, an, cdv, ct, osl, T, o, n, rfl, lk, hcd, lT, hT⟩ := F.ex
  intro s us X hl
  obtain ⟨k, h1, h2⟩ := h T kV doc pm an cdv ct us hl
  exact BindsTo.of_defaults (T := T) (o := o) rfl (X _ _ lT) hT h1 h2
end
section
variable {g : TG} {ti : TT} {te : TE} {ix : List (Option Nat)} {σ : St} {Q : VK}
end
end L2
namespace Vc
open PySem L2 Sf
def r4 (K : PySem.W.Frag) {α β γ δ : Type} (A : Rep α) (B : Rep β) (C : Rep γ) (D : Rep δ) : Rep (α × β × γ × δ) := fun F v x => ∃ a v1 v2 v3 v4, v = .ref a ∧ SqT K F a [v1, v2, v3, v4] ∧ A F v1 x.1 ∧ B F v2 x.2.1 ∧ C F v3 x.2.2.1 ∧ D F v4 x.2.2.2
instance {K : PySem.W.Frag} {α β γ δ : Type} {A : Rep α} {B : Rep β} {C : Rep γ} {D : Rep δ} [Mo A] [Mo B] [Mo C] [Mo D] : Mo (r4 K A B C D) := ⟨fun e ⟨a, v1, v2, v3, v4, h1, h2, h3, h4, h5, h6⟩ => ⟨a, v1, v2, v3, v4, h1, e.tup h2, Mo.mo e h3, Mo.mo e h4, Mo.mo e h5, Mo.mo e h6⟩⟩
section
variable {K : PySem.W.Frag} {F H : Hp} {Q : VK}
end
end Vc
namespace L2
open PySem PySem.Spec PyProof.Rows
def RnW (P : Program) (w : World) (A : Around) (s : Shared) (u v : Value) : Prop := ∀ (E : Value → Shared → Prop) (Q : Value → Shared → Prop), Q (.bool false) s → wpAny (model P w) A (richCompare .NotEq u v) Q E s
section
variable {P : Program} {w : World} {A : Around} {s : Shared}
section
open PySem.AutoSeq1 (wpAny_loadPart')
theorem tupNW (a b : Addr) (xs ys : Array Value) (n m : Nat) (da db : Option Addr) (sa sb : Array (Option Value)) (hz : xs.size = ys.size) :
    MeetsIn P w (Builtin.«tuple.__ne__» ⟨[.ref a, .ref b], []⟩) (fun A R s => s.heap.get? a = some ⟨.type "tuple", da, .seq xs n, sa⟩ ∧ s.heap.get? b = some ⟨.type "tuple", db, .seq ys m, sb⟩ ∧
      (∀ j (h1 : j < xs.size) (h2 : j < ys.size), EqW P w A.in1 s xs[j] ys[j]) ∧ R (.ok (.ret (.bool false))) s) := by
  refine .of_wp fun A R s h => ?_
  obtain ⟨hp, g, d, tk, os⟩ := s
  obtain ⟨ha, hb, he, hR⟩ := h
  have sub := AutoSeq1.sub_tuple_tuple
  have len : (xs.toList.zip ys.toList).length = xs.size := by simp; omega
  wp_walk using wpAny_loadPart' ha, wpAny_loadPart' hb, wpAny_forIn_list _ (fun r c s' => c.1 = none ∧ s' = ⟨hp, g, d, tk, os⟩ ∧ ∃ i, r = (xs.toList.zip ys.toList).drop i) _
  case turn =>
    rintro ⟨x, y⟩ r c s' ⟨hc, rfl, i, hr⟩
    by_cases lt : i < (xs.toList.zip ys.toList).length
    · rw [List.drop_eq_getElem_cons lt] at hr
      injection hr with e1 e2
      have i1 : i < xs.size := by omega
      have i2 : i < ys.size := by omega
      obtain ⟨ex, ey⟩ : x = xs[i] ∧ y = ys[i] := by
        have z := Prod.mk.inj (e1.trans List.getElem_zip)
        exact ⟨by simpa using z.1, by simpa using z.2⟩
      subst ex ey
      refine wpAny_bind (he i i1 i2 _ _ ?_)
      wp_walk
      exact ⟨rfl, rfl, i + 1, e2⟩
    · rw [List.drop_of_length_le (by omega)] at hr
      cases hr
  case fin =>
    rintro ⟨c1, c2⟩ s' ⟨hc, rfl, _⟩
    simp only at hc
    subst hc
    wp_walk
    refine ⟨_, rfl, ?_⟩
    simpa [Builtin.Tuple.tupleCompareSizes, hz] using hR
  case h => exact ⟨rfl, rfl, 0, rfl⟩
end
theorem RnW.tuples {a b : Addr} {xs ys : Array Value} (ha : IsTup s.heap a xs) (hb : IsTup s.heap b ys) (hz : xs.size = ys.size) (hu : A.units < cLine) (he : ∀ j (h1 : j < xs.size) (h2 : j < ys.size), EqW P w A.in1 s xs[j] ys[j]) : RnW P w A s (.ref a) (.ref b) := fun E Q q => by
  obtain ⟨⟨ca, da, xa, sa⟩, oa, ka, n, va⟩ := id ha
  obtain ⟨⟨cb, db, xb, sb⟩, ob, kb, m, vb⟩ := id hb
  simp only at ka va kb vb
  subst ka va kb vb
  refine wpAny_richCompare_same_room (op := .NotEq) (T := "tuple") ⟨_, oa, rfl⟩ ⟨_, ob, rfl⟩ PySem.F.slot_tuple_ne ?_ hu
  exact call_meetsIn PySem.F.slot_tuple_ne ⟨_, oa, rfl⟩ PySem.F.entry_tuple_ne (PySem.F.args_tuple_ne_2 _ _) (tupNW a b xs ys n m da db sa sb hz) ⟨oa, ob, he, ⟨(fun z => nomatch z), q⟩⟩
section
open PySem.AutoSeq1 (wpAny_loadPart')
open PySem.MeetsSeq PySem.MeetsSeq2 PySem.MeetsSeq3 PySem.SeqRoads2 PySem.SeqAt
theorem lstLoopNW (a b : Addr) (xs ys : Array Value) (n m : Nat) (da db : Option Addr) (sa sb : Array (Option Value)) (hz : xs.size = ys.size) : ∀ (k i : Nat), xs.size - i = k →
    MeetsIn P w (Builtin.«list.__eq__.loop» ⟨[.ref a, .ref b, rawInt i, rawInt 3], []⟩) (fun A R s => s.heap.get? a = some ⟨.type "list", da, .seq xs n, sa⟩ ∧ s.heap.get? b = some ⟨.type "list", db, .seq ys m, sb⟩ ∧
      (∀ j (h1 : j < xs.size) (h2 : j < ys.size), EqW P w A.in1 s xs[j] ys[j]) ∧ R (.ok (.ret (.bool false))) s)
  | 0, i, hk => fun A R s h => by
    obtain ⟨hp, g, d, tk, os⟩ := s
    obtain ⟨ha, hb, he, hR⟩ := h
    wp_walk using wpAny_loadPart' ha, wpAny_loadPart' hb
    have z1 : xs[((i : Nat) : Int).toNat]? = none := by simp; omega
    have z2 : ys[((i : Nat) : Int).toNat]? = none := by simp; omega
    rw [z1, z2]
    wp_walk using wpAny_loadPart' ha, wpAny_loadPart' hb
    show R (.ok (.ret (.bool (xs.size != ys.size)))) _
    rw [hz, bne_self_eq_false]
    exact hR
  | k + 1, i, hk => fun A R s h => by
    obtain ⟨hp, g, d, tk, os⟩ := s
    obtain ⟨ha, hb, he, hR⟩ := h
    wp_walk using wpAny_loadPart' ha, wpAny_loadPart' hb
    have i1 : i < xs.size := by omega
    have i2 : i < ys.size := by omega
    have z1 : xs[((i : Nat) : Int).toNat]? = some xs[i] := by simp [i1]
    have z2 : ys[((i : Nat) : Int).toNat]? = some ys[i] := by simp [i2]
    rw [z1, z2]
    refine wpAny_bind (he i i1 i2 _ _ ?_)
    wp_walk
    have up : ((i : Int) + 1) = ((i + 1 : Nat) : Int) := Int.natCast_succ i
    rw [up]
    refine ⟨plainId_quiet plain_eq_loop _, codeAny_builtin entry_eq_loop ?_⟩
    rw [Around.under_plainId plain_eq_loop _]
    exact lstLoopNW a b xs ys n m da db sa sb hz k (i + 1) (by omega) A R _ ⟨ha, hb, he, hR⟩
theorem lstNW (a b : Addr) (xs ys : Array Value) (n m : Nat) (da db : Option Addr) (sa sb : Array (Option Value)) (hz : xs.size = ys.size) :
    MeetsIn P w (Builtin.«list.__ne__» ⟨[.ref a, .ref b], []⟩) (fun A R s => s.heap.get? a = some ⟨.type "list", da, .seq xs n, sa⟩ ∧ s.heap.get? b = some ⟨.type "list", db, .seq ys m, sb⟩ ∧
      (∀ j (h1 : j < xs.size) (h2 : j < ys.size), EqW P w A.in1 s xs[j] ys[j]) ∧ R (.ok (.ret (.bool false))) s) := fun A R s h => by
  obtain ⟨hp, g, d, tk, os⟩ := s
  obtain ⟨ha, hb, he, hR⟩ := h
  have sub := AutoSeq1.sub_list_list
  have same : ¬ (xs.size != ys.size) = true := by simp [hz]
  wp_walk using wpAny_loadPart' ha, wpAny_loadPart' hb
  refine ⟨plainId_quiet plain_eq_loop _, codeAny_builtin entry_eq_loop ?_⟩
  rw [Around.under_plainId plain_eq_loop _]
  exact lstLoopNW a b xs ys n m da db sa sb hz _ 0 rfl A R _ ⟨ha, hb, he, hR⟩
end
theorem RnW.lists {a b : Addr} {xs ys : Array Value} (ha : s.heap.IsList a xs) (hb : s.heap.IsList b ys) (hz : xs.size = ys.size) (hu : A.units < cLine) (he : ∀ j (h1 : j < xs.size) (h2 : j < ys.size), EqW P w A.in1 s xs[j] ys[j]) : RnW P w A s (.ref a) (.ref b) := fun E Q q => by
  obtain ⟨⟨ca, da, xa, sa⟩, oa, ka, n, va⟩ := id ha
  obtain ⟨⟨cb, db, xb, sb⟩, ob, kb, m, vb⟩ := id hb
  simp only at ka va kb vb
  subst ka va kb vb
  refine wpAny_richCompare_same_room (op := .NotEq) (T := "list") ⟨_, oa, rfl⟩ ⟨_, ob, rfl⟩ PySem.F.slot_list_ne ?_ hu
  exact call_meetsIn PySem.F.slot_list_ne ⟨_, oa, rfl⟩ PySem.F.entry_list_ne (PySem.F.args_list_ne_2 _ _) (lstNW a b xs ys n m da db sa sb hz) ⟨oa, ob, he, ⟨(fun z => nomatch z), q⟩⟩
end
section
variable {X : Cx} {pins : List (Addr × Obj)} {σ : St} {H : Hp} {s : Shared}
end
section
variable {X : Cx}
end
end L2
namespace Vc
open PySem L2 Sf
section
variable {K : PySem.W.Frag} {F H : Hp} {Q : VK}
end
def DeepA (F H0 : Hp) (vs : List V) : Prop := ∀ u ∈ vs, ∃ t d xs kvs, u = V.ref t ∧ F t = some (.tup (V.ref d :: xs)) ∧ F d = some (.dK kvs) ∧ H0 d = none
theorem DeepA.same {F F' H0 : Hp} {vs : List V} (h : DeepA F H0 vs) (s : Same F F') : DeepA F' H0 vs := fun u hu => by
  obtain ⟨t, d, xs, kvs, e, h1, h2, h3⟩ := h u hu
  exact ⟨t, d, xs, kvs, e, s _ _ h1, s _ _ h2, h3⟩
theorem DeepA.nil {F H0 : Hp} : DeepA F H0 [] := fun u hu => nomatch hu
theorem DeepA.snoc {F H0 : Hp} {vs : List V} {t d : Addr} {xs : List V} {kvs : List (Key × V)} (h : DeepA F H0 vs) (h1 : F t = some (.tup (V.ref d :: xs))) (h2 : F d = some (.dK kvs)) (h3 : H0 d = none) : DeepA F H0 (vs ++ [V.ref t]) := fun u hu => by
  rcases List.mem_append.mp hu with z | z
  · exact h u z
  · rw [List.mem_singleton.mp z]; exact ⟨t, d, xs, kvs, rfl, h1, h2, h3⟩
def DeepH (H Hb F : Hp) (vs : List V) : Prop := ∀ u ∈ vs, ∃ t d xs kvs, u = V.ref t ∧ H t = some (.tup (V.ref d :: xs)) ∧ H d = some (.dK kvs) ∧ Hb d = none ∧ F d = none
theorem DeepA.h {F F0 H H0 Hb : Hp} {vs : List V} (h : DeepA F H0 vs) (s : Same F H) (sb : Same Hb H0) (sf : Same F0 H0) : DeepH H Hb F0 vs := fun u hu => by
  obtain ⟨t, d, xs, kvs, e, h1, h2, h3⟩ := h u hu
  exact ⟨t, d, xs, kvs, e, s _ _ h1, s _ _ h2, sb.free h3, sf.free h3⟩
theorem DeepH.upd {H Hb F : Hp} {vs : List V} {d : Addr} (h : DeepH H Hb F vs) {kv : List (Key × V)} (hd : H d = some (.dK kv)) : DeepH (upd H d (.dK [])) Hb F vs := fun u hu => by
  obtain ⟨t, d', xs, kvs, e, h1, h2, h3, h4⟩ := h u hu
  have n1 : t ≠ d := fun z => by rw [z, hd] at h1; cases h1
  by_cases z : d' = d
  · subst z
    exact ⟨t, d', xs, [], e, by rw [upd_ne n1]; exact h1, upd_same, h3, h4⟩
  · exact ⟨t, d', xs, kvs, e, by rw [upd_ne n1]; exact h1, by rw [upd_ne z]; exact h2, h3, h4⟩
theorem gr_updN {Fb Hb F H : Hp} {p : Addr} {o : HO} (gb : Gr0 Fb Hb F H) (hb : Hb p = none) (hf : F p = none) : Gr0 Fb Hb F (upd H p o) := ⟨gb.h.updN hb, gb.f, gb.s.updN hf, gb.n⟩
end Vc
namespace L2
open PySem PySem.Spec PyProof.Rows
section
variable {X : Cx}
end
section
variable {X : Cx}
end
end L2
namespace Vc
open PySem L2 Sf
abbrev Grid := List (List Str)
def Sq (H Hb F : Hp) (p : Addr) (rs : List Addr) (g : Grid) : Prop :=
  H p = some (.lst (rs.map V.ref)) ∧ F p = none ∧ rs.length = g.length ∧ rs.Nodup ∧ ∀ (i : Nat) r row, rs[i]? = some r → g[i]? = some row → H r = some (.lst (row.map V.str)) ∧ Hb r = none ∧ F r = none
def gset (g : Grid) (i j : Nat) (x : Str) : Grid := g.set i ((g.getD i []).set j x)
theorem Sq.at {H Hb F : Hp} {p : Addr} {rs : List Addr} {g : Grid} (h : Sq H Hb F p rs g) {i : Nat} (hi : i < g.length) : ∃ r row, rs[i]? = some r ∧ g[i]? = some row ∧ H r = some (.lst (row.map V.str)) ∧ Hb r = none ∧ F r = none := by
  have h1 : rs[i]? = some (rs[i]'(by have := h.2.2.1; omega)) := by simp
  have h2 : g[i]? = some g[i] := by simp [hi]
  exact ⟨_, _, h1, h2, h.2.2.2.2 i _ _ h1 h2⟩
theorem Sq.set {H Hb F : Hp} {p r : Addr} {rs : List Addr} {g : Grid} {i j : Nat} {row : List Str} {x : Str} (h : Sq H Hb F p rs g) (hr : rs[i]? = some r) (hg : g[i]? = some row) : Sq (upd H r (.lst ((row.map V.str).set j (V.str x)))) Hb F p rs (gset g i j x) := by
  obtain ⟨a, b, c, d, e⟩ := h
  obtain ⟨e1, e2, e3⟩ := e i r row hr hg
  have npr : p ≠ r := fun z => by
    rw [z, e1] at a
    have a' : row.map V.str = rs.map V.ref := by injection a with a; injection a
    cases rs with
    | nil => cases hr
    | cons q t => cases row with
      | nil => cases a'
      | cons y u => rw [List.map_cons, List.map_cons] at a'; injection a' with z1 _; cases z1
  refine ⟨by rw [upd_ne npr]; exact a, b, by unfold gset; rw [List.length_set]; exact c, d, fun k q w h1 h2 => ?_⟩
  unfold gset at h2
  by_cases hk : k = i
  · subst hk
    rw [hr] at h1
    cases h1
    rw [List.getElem?_set_self (List.getElem?_eq_some_iff.mp hg).1, getD_of hg] at h2
    cases h2
    exact ⟨by rw [upd_same, List.map_set], e2, e3⟩
  · rw [List.getElem?_set_ne (Ne.symm hk)] at h2
    obtain ⟨f1, f2, f3⟩ := e k q w h1 h2
    have nq : q ≠ r := fun z => hk ((List.getElem?_inj (List.getElem?_eq_some_iff.mp h1).1 d).mp (by rw [h1, hr, z]))
    exact ⟨by rw [upd_ne nq]; exact f1, f2, f3⟩
def SqA (H Hb F : Hp) (rs : List Addr) (n : Nat) : Prop := rs.Nodup ∧ ∀ r ∈ rs, H r = some (.lst (List.replicate n (V.str "."))) ∧ Hb r = none ∧ F r = none
theorem SqA.nil {H Hb F : Hp} {n : Nat} : SqA H Hb F [] n := ⟨List.nodup_nil, fun _ h => nomatch h⟩
theorem SqA.snoc {H Hb F Fb : Hp} {rs : List Addr} {n : Nat} {p1 p2 : Addr} {o1 : HO} (h : SqA H Hb F rs n) (gb : Gr0 Fb Hb F H) (hp1 : H p1 = none) (hp2 : upd H p1 o1 p2 = none) :
    SqA (upd (upd H p1 o1) p2 (.lst (List.replicate n (V.str ".")))) Hb F (rs ++ [p2]) n ∧ Gr0 Fb Hb F (upd (upd H p1 o1) p2 (.lst (List.replicate n (V.str ".")))) := by
  have n12 : p2 ≠ p1 := fun z => by rw [z, upd_same] at hp2; cases hp2
  have hp2' : H p2 = none := by rw [upd_ne n12] at hp2; exact hp2
  have g1 := gr_updN (o := o1) gb (gb.h.free hp1) (gb.s.free hp1)
  have g2 := gr_updN (o := .lst (List.replicate n (V.str "."))) g1 (gb.h.free hp2') (gb.s.free hp2')
  refine ⟨⟨?_, fun r hr => ?_⟩, g2⟩
  · rw [List.nodup_append]
    refine ⟨h.1, by simp, fun a ha b hb => ?_⟩
    rw [List.mem_singleton.mp hb]
    rintro rfl
    have := (h.2 a ha).1
    rw [hp2'] at this; cases this
  · rcases List.mem_append.mp hr with z | z
    · obtain ⟨a, b, c⟩ := h.2 r z
      have m1 : r ≠ p1 := fun z => by rw [z, hp1] at a; cases a
      have m2 : r ≠ p2 := fun z => by rw [z, hp2'] at a; cases a
      exact ⟨by rw [upd_ne m2, upd_ne m1]; exact a, b, c⟩
    · rw [List.mem_singleton.mp z]
      exact ⟨upd_same, gb.h.free hp2', gb.s.free hp2'⟩
theorem Sq.of {H Hb F Fb : Hp} {rs : List Addr} {n m : Nat} {p : Addr} (h : SqA H Hb F rs n) (gb : Gr0 Fb Hb F H) (hp : H p = none) (hl : rs.length = m) :
    Sq (upd H p (.lst (rs.map V.ref))) Hb F p rs (List.replicate m (List.replicate n ".")) ∧ Gr0 Fb Hb F (upd H p (.lst (rs.map V.ref))) := by
  refine ⟨⟨upd_same, gb.s.free hp, by rw [List.length_replicate]; exact hl, h.1, fun i r row h1 h2 => ?_⟩, gr_updN gb (gb.h.free hp) (gb.s.free hp)⟩
  have hr := List.mem_of_getElem? h1
  obtain ⟨a, b, c⟩ := h.2 r hr
  have hrow : row = List.replicate n (("." : Str)) := List.eq_of_mem_replicate (List.mem_of_getElem? h2)
  have ne : r ≠ p := fun z => by rw [z, hp] at a; cases a
  exact ⟨by rw [upd_ne ne, hrow, List.map_replicate]; exact a, b, c⟩
theorem a_gsub {to ti : TE} {t : TSet} {v : V} {σ : L2.St} {H : Hp} {Q : L2.St → Hp → Prop} (h : to σ H fun o H1 => ti σ H1 fun i H2 => t o i v H2 fun H3 => Q σ H3) : gSub to ti t v σ H Q := h
theorem ixN_nat {n : Nat} {i : Int} (h0 : 0 ≤ i) (h1 : i < n) : ixN n i = some i.toNat := by unfold ixN; rw [if_pos h0, if_pos h1]
instance {K : PySem.W.Frag} {α β γ δ : Type} {A : Rep α} {B : Rep β} {C : Rep γ} {D : Rep δ} {n m k l : Nat} [Et K A n] [Et K B m] [Et K C k] [Et K D l] : Et K (r4 K A B C D) (n + m + k + l + 1) :=
  ⟨fun wd ⟨a, v1, v2, v3, v4, h1, h2, h3, h4, h5, h6⟩ ⟨b, w1, w2, w3, w4, g1, g2, g3, g4, g5, g6⟩ => .inr ⟨a, b, _, _, h1, g1, .inl ⟨wd.tup h2, wd.tup g2⟩, eqT_mono (Et.et wd h3 g3) (by omega), eqT_mono (Et.et wd h4 g4) (by omega), eqT_mono (Et.et wd h5 g5) (by omega), eqT_mono (Et.et wd h6 g6) (by omega), True.intro⟩⟩
structure ZSs (X : Cx) (st : List Stmt) (t : TS) : Prop where
  h : PSs X st t
theorem zss_cons {X : Cx} {st : Stmt} {rest : List Stmt} {t u : TS} (h1 : PS X st t) (h2 : ZSs X rest u) : ZSs X (st :: rest) (tSeq t u) := ⟨pss_cons h1 h2.h⟩
theorem zss_one {X : Cx} {st : Stmt} {t : TS} (h1 : PS X st t) : ZSs X [st] t := ⟨pss_one h1⟩
structure ZS (X : Cx) (st : Stmt) (t : TS) : Prop where
  h : PS X st t
structure ZE (X : Cx) (e : Expr) (t : TE) : Prop where
  h : PE X e t
structure ZA (X : Cx) (e : List Expr) (t : TA) : Prop where
  h : PA X e t
theorem zss_consZ {X : Cx} {st : Stmt} {rest : List Stmt} {t u : TS} (h1 : ZS X st t) (h2 : ZSs X rest u) : ZSs X (st :: rest) (tSeq t u) := ⟨pss_cons h1.h h2.h⟩
theorem zs_set {X : Cx} {pos : Pos} {i : Nat} {x : Str} {e : Expr} {te : TE} {pos' : Pos} (hN : X.N.Nodup) (hi : X.N[i]? = some x) (hx : Loc X.env.scope x) (hs : swapsWith e (some (.Name x pos')) pos.line X.env = pure false) (hf : X.fn x = true ∨ X.env.scope.names.lookup x = some .local) (he : ZE X e te) :
    ZS X (.Assign [.Name x pos'] e pos) (tAsg te (gName i)) := ⟨ps_set hN hi hx he.h hs hf⟩
theorem ze_lst {X : Cx} {pos : Pos} {es t} (h : ZA X es t) : ZE X (.List es pos) (tLst t) := ⟨pe_lst h.h⟩
theorem za_cons {X : Cx} {e te es t} (hs : starEach (e :: es) X.env = (false, eval e X.env) :: starEach es X.env) (ha : ZE X e te) (hr : ZA X es t) : ZA X (e :: es) (tCons te t) := ⟨pa_cons ha.h hr.h hs⟩
theorem za_nil {X : Cx} : ZA X [] tNil := ⟨pa_nil⟩
end Vc
namespace L2
open PySem PySem.Spec PyProof.Rows
section
variable {prog : Program} {w : World} {κ : Type} [DecidableEq κ] {kn : KeyKind prog w κ} {A : Around} {E : Value → Shared → Prop} {s : Shared}
set_option maxRecDepth 100000 in
theorem meets_enumK (kn : KeyKind prog w κ) (d : Addr) (pairs : List (κ × Value)) (ep : Nat) (hsys : (d == sysModules) = false) :
    MeetsIn prog w (Builtin.«enumerate.__new__» ⟨[.type "enumerate", .ref d], []⟩) (fun _ R s => s.heap.DictAt kn d pairs ep ∧
      R (.ok (.ret (.ref (s.heap.push { cls := .type "dict_keyiterator", data := .fields #[.ref d, .int 0 0, .int pairs.length 0, .int ep 0] }).objs.size)))
        { s with heap := (s.heap.push { cls := .type "dict_keyiterator", data := .fields #[.ref d, .int 0 0, .int pairs.length 0, .int ep 0] }).push { cls := .type "enumerate", data := .fields #[.none, .bool false, .ref s.heap.objs.size, rawInt 0, .none, .none] } }) :=
  .of_wp fun A R s h => by
    obtain ⟨hp, g, dd, tk, os⟩ := s
    obtain ⟨hat, h⟩ := h
    have hsub := sub_enumerate
    obtain ⟨od, es, hod, q⟩ := id hat
    wp_walk using AutoSeq1.wpAny_loadPart' hod
    refine wpAny_stack_any fun st => wpAny_pure ?_
    split
    · rename_i c _ _ _ _ _
      cases (c == Value.type "enumerate") <;> (wp_walk using AutoSeq1.wpAny_loadPart' hod, wpAny_pyIter_dict hsys hat) <;> exact ⟨_, rfl, h⟩
    · wp_walk using AutoSeq1.wpAny_loadPart' hod, wpAny_pyIter_dict hsys hat
      exact ⟨_, rfl, h⟩
theorem call_enumK {d : Addr} {pairs : List (κ × Value)} {ep : Nat} {Q : Value → Shared → Prop} (hsys : (d == sysModules) = false) (hat : s.heap.DictAt kn d pairs ep)
    (h : ∀ h', IsEnum h' (s.heap.objs.size + 1) s.heap.objs.size 0 .none → h'.IsKeyIter s.heap.objs.size d 0 pairs.length ep → (∀ b o, s.heap.get? b = some o → h'.get? b = some o) → Q (.ref (s.heap.objs.size + 1)) { s with heap := h' }) :
    wpAny (model prog w) A (call (.type "enumerate") [.ref d]) Q E s := by
  refine callType_newIn F.called_enumerate (by decide) (F.typeCall_enumerate_1 _) (F.newCall_enumerate_1 _) (fun o => F.args_object_init_2 o _) F.entry_enumerate_new (meets_enumK kn d pairs ep hsys) ⟨hat, ?_⟩
  obtain ⟨h1, e1⟩ : ∃ h1, h1 = s.heap.push { cls := .type "dict_keyiterator", data := .fields #[.ref d, .int 0 0, .int pairs.length 0, .int ep 0] } := ⟨_, rfl⟩
  have z1 : h1.objs.size = s.heap.objs.size + 1 := by rw [e1]; exact Heap.size_push ..
  have k1 : h1.get? s.heap.objs.size = some { cls := .type "dict_keyiterator", data := .fields #[.ref d, .int 0 0, .int pairs.length 0, .int ep 0] } := by rw [e1]; exact Heap.get?_push_size _ rfl
  have k2 : ∀ b o, s.heap.get? b = some o → h1.get? b = some o := fun b o e => by rw [e1]; exact Heap.get?_push_of_some _ e
  rw [← e1]
  show _ ∧ _
  have he := Heap.get?_push_size h1 (o := { cls := .type "enumerate", data := .fields #[.none, .bool false, .ref s.heap.objs.size, rawInt 0, .none, .none] }) rfl
  rw [z1] at he ⊢
  exact ⟨⟨_, he, rfl⟩, h _ he ⟨_, Heap.get?_push_of_some _ k1, rfl, rfl⟩ fun b o e => Heap.get?_push_of_some _ (k2 b o e)⟩
theorem nextK_item {it d : Addr} {i ep : Nat} {pairs : List (κ × Value)} {k : κ} {v : Value} {Q : Value → Shared → Prop} (st : s.heap.IsKeyIter it d i pairs.length ep) (hat : s.heap.DictAt kn d pairs ep) (hx : pairs[i]? = some (k, v))
    (hQ : ∀ key h', kn.is k key = true → h'.IsKeyIter it d (i + 1) pairs.length ep → Heap.SameBut it s.heap h' → Q key { s with heap := h' }) : wpAny (model prog w) A (Builtin.SmallTypes.nextOf (.ref it)) Q E s := by
  obtain ⟨oi, hoi, c, dt⟩ := id st
  obtain ⟨od, es, hod, _, hdd, _, hps, _⟩ := id hat
  unfold Builtin.SmallTypes.nextOf
  refine wpAny_bind (wpAny_callSpecial?_slot (name := Str.ofString "__next__") st.typeIs F.slot_dict_keyiterator_next (wpAny_call_entry F.slot_dict_keyiterator_next st.typeIs F.entry_dict_keyiterator_next ?_ (F.args_dict_keyiterator_next_1 _)))
  refine wpAny_bind (wpAny_pure (wpAny_bind (wpAny_bind (wpAny_bind (wpAny_typeNameOfWhole_keyiter st.typeIs (wpAny_pure (wpAny_bind (wpAny_fieldsOf hoi dt ?_))))))))
  have ho : Builtin.Dict_items.ownsTuple "dict_keyiterator" = false := by decide
  have sz : es.size = pairs.length := by rw [← hps.length]; simp
  have lt : i < es.size := by rw [sz]; exact (List.getElem?_eq_some_iff.mp hx).1
  simp only [ho, Bool.false_eq_true, if_false]
  show wpAny _ _ (if (Value.ref d == .none) = true then _ else _) _ _ s
  rw [if_neg (show ¬ (Value.ref d == .none) = true from Bool.false_ne_true)]
  refine wpAny_bind (wpAny_pure (wpAny_bind (wpAny_dictEntries hod hdd ?_)))
  rw [if_neg (by simp [sz])]
  refine wpAny_bind (wpAny_pure (wpAny_bind (wpAny_dictEpoch hod hdd ?_)))
  rw [if_neg (by simp)]
  refine wpAny_pure ?_
  have hk := (hps.get? (e := es[i]) (by simp [lt]) hx).1
  simp only [show ¬ (i : Int) < 0 by omega, if_false, Int.toNat_natCast, Array.getElem?_eq_getElem lt]
  refine wpAny_bind (wpAny_bind (wpAny_typeNameOfWhole_keyiter st.typeIs (wpAny_pure (wpAny_bind (wpAny_isOneOf_keyiter st.typeIs ?_)))))
  show wpAny _ _ (setField (.ref it) 1 (rawInt (i + 1)) >>= _) _ _ s
  refine wpAny_bind (wpAny_setField hoi dt (by simp) ?_)
  have st' : (s.heap.update it (Obj.mapFields (·.setIfInBounds 1 (rawInt (i + 1))))).IsKeyIter it d (i + 1) pairs.length ep := ⟨_, Heap.get?_update_self _ hoi (Obj.isFreed_of_fields (Obj.data_mapFields dt _)), (Obj.cls_mapFields ..).trans c, by rw [Obj.data_mapFields dt]; simp [rawInt]⟩
  refine wpAny_bind (wpAny_holding (wpAny_bind (wpAny_isOneOf_keyiter (s := { s with heap := s.heap.update it (Obj.mapFields (·.setIfInBounds 1 (rawInt (i + 1)))) }) st'.typeIs ?_)))
  show wpAny _ _ (pure es[i].key) _ _ _
  exact wpAny_pure (wpAny_pure ⟨_, rfl, wpAny_pure (hQ _ _ hk st' (Heap.SameBut.update ..))⟩)
theorem nextK_end {it d : Addr} {i ep : Nat} {pairs : List (κ × Value)} {Q : Value → Shared → Prop} (hh : A.handled = none) (st : s.heap.IsKeyIter it d i pairs.length ep) (hat : s.heap.DictAt kn d pairs ep) (hx : pairs.length ≤ i)
    (hE : ∀ h' e, Heap.ExtBut it s.heap h' → (∃ o, h'.get? e = some o ∧ o.cls = .type "StopIteration") → E (.ref e) { s with heap := h' }) : wpAny (model prog w) A (Builtin.SmallTypes.nextOf (.ref it)) Q E s := by
  obtain ⟨oi, hoi, c, dt⟩ := id st
  obtain ⟨od, es, hod, _, hdd, _, hps, _⟩ := id hat
  unfold Builtin.SmallTypes.nextOf
  refine wpAny_bind (wpAny_callSpecial?_slot (name := Str.ofString "__next__") st.typeIs F.slot_dict_keyiterator_next (wpAny_call_entry F.slot_dict_keyiterator_next st.typeIs F.entry_dict_keyiterator_next ?_ (F.args_dict_keyiterator_next_1 _)))
  refine wpAny_bind (wpAny_pure (wpAny_bind (wpAny_bind (wpAny_bind (wpAny_typeNameOfWhole_keyiter st.typeIs (wpAny_pure (wpAny_bind (wpAny_fieldsOf hoi dt ?_))))))))
  have ho : Builtin.Dict_items.ownsTuple "dict_keyiterator" = false := by decide
  have sz : es.size = pairs.length := by rw [← hps.length]; simp
  simp only [ho, Bool.false_eq_true, if_false]
  show wpAny _ _ (if (Value.ref d == .none) = true then _ else _) _ _ s
  rw [if_neg (show ¬ (Value.ref d == .none) = true from Bool.false_ne_true)]
  refine wpAny_bind (wpAny_pure (wpAny_bind (wpAny_dictEntries hod hdd ?_)))
  rw [if_neg (by simp [sz])]
  refine wpAny_bind (wpAny_pure (wpAny_bind (wpAny_dictEpoch hod hdd ?_)))
  rw [if_neg (by simp)]
  refine wpAny_pure ?_
  simp only [show ¬ (i : Int) < 0 by omega, if_false, Int.toNat_natCast, Array.getElem?_eq_none (show es.size ≤ i by omega)]
  refine wpAny_bind (wpAny_bind (wpAny_typeNameOfWhole_keyiter st.typeIs (wpAny_pure ?_)))
  show wpAny _ _ (setField (.ref it) 0 .none >>= _) _ _ s
  refine wpAny_bind (wpAny_setField hoi dt (by simp) ?_)
  show wpAny _ _ (newExc (.type "StopIteration") [] >>= _) _ _ _
  simp only [newExc, newTuple]
  refine wpAny_bind (wpAny_bind (wpAny_newObj_type (wpAny_bind (m := firstArgMember _ _) (wpAny_of_eq (a := Value.none) (by simp only [firstArgMember]; rfl) (wpAny_newObj_type ?_ (by size_fits)))) (by size_fits)))
  simp only [raiseNew]
  refine wpAny_bind (wpAny_handled ?_)
  first | rw [show A.in1.handled = none from hh] | rw [hh]
  exact wpAny_bind (wpAny_pure (wpAny_throw (hE _ _ (((Heap.SameBut.update ..).extBut.push _).push _) ⟨_, Heap.get?_push_size _ rfl, rfl⟩)))
theorem draws_keys (hh : A.handled = none) (it d : Addr) (hne : d ≠ it) (pairs : List (κ × Value)) (ep : Nat) :
    Draws prog w A it [it, d] pairs.length (fun i u => ∃ k v, pairs[i]? = some (k, v) ∧ kn.is k u = true) (fun i h => h.IsKeyIter it d i pairs.length ep ∧ h.DictAt kn d pairs ep) where
  live := fun _ _ st => let ⟨⟨o, ho, _⟩, _⟩ := st; ⟨o, ho⟩
  frame := fun _ _ _ st hk => let ⟨⟨o, ho, r⟩, o2, es, ho2, r2⟩ := st; ⟨⟨o, hk it (by simp) o ho, r⟩, o2, es, hk d (by simp) o2 ho2, r2⟩
  item := fun i s Q E hi st hQ => by
    obtain ⟨⟨k, v⟩, hx⟩ : ∃ q, pairs[i]? = some q := ⟨pairs[i], by simp [hi]⟩
    exact nextK_item st.1 st.2 hx fun key h' hk st' sb => hQ _ h' s.toks ⟨k, v, hx, hk⟩ ⟨st', st.2.extBut sb.extBut hne⟩ sb
  done := fun s Q E st hE => nextK_end hh st.1 st.2 (Nat.le_refl _) hE
end
def Itke (a : Addr) (ob : Obj) (kvs : List (Key × V)) : It :=
  ⟨fun i H => i < kvs.length ∧ H a = some (.frz ob (.dK kvs)), fun i H y H' => ∃ p kv, y = .ref p ∧ H p = none ∧ kvs[i]? = some kv ∧ H' = upd H p (.tup [.int i, kV kv.1]), fun i H => kvs.length ≤ i ∧ H a = some (.frz ob (.dK kvs))⟩
theorem turn_enumK {P : Program} {w : World} {K : PySem.W.Frag} {elts : List Expr} {x1 : Nat} {pos : Pos} (a it en : Addr) (ob : Obj) (kvs : List (Key × V)) (hne : en ≠ it) :
    Turn P w K (.Tuple elts x1 pos) (Itke a ob kvs) [en, it] en (fun i h => i ≤ kvs.length ∧ (∃ old, IsEnum h en it i old) ∧ ∃ es ep, ob.data = .dict es ep ∧ h.IsKeyIter it a i kvs.length ep) where
  mem := by simp
  obj := fun i h st b hb => by
    obtain ⟨il, ⟨old, e1⟩, es, ep, hd, o, e2, c, d⟩ := st
    rcases List.mem_cons.mp hb with z | hb
    · rw [z]; exact ⟨_, e1, fun v z => by cases z⟩
    · have z : b = it := by simpa using hb
      rw [z]; exact ⟨o, e2, fun v z => by rw [d] at z; cases z⟩
  keep := fun i h h' st k => by
    obtain ⟨il, ⟨old, e1⟩, es, ep, hd, o, e2, c, d⟩ := st
    exact ⟨il, ⟨old, k en (by simp) _ e1⟩, es, ep, hd, o, k it (by simp) o e2, c, d⟩
  item := by
    intro X hP hw hK hc i pins s σ H E I hf st hg
    subst hP hw hK
    obtain ⟨il, ⟨old, he⟩, es, ep, hd, hit⟩ := st
    obtain ⟨hi, hH⟩ := hg
    obtain ⟨vs, r, hm, hl⟩ := frz_at I hH hd
    have fe := hf en (by simp)
    have fi := hf it (by simp)
    have nai : a ≠ it := fun z => by rw [z, fi.1] at hH; cases hH
    have nae : a ≠ en := fun z => by rw [z, fe.1] at hH; cases hH
    rw [hl] at hit hi
    have D := draws_keys (prog := X.prog) (w := X.w) (kn := mixKind X.prog X.w) (A := X.A.in1) (show X.A.in1.handled = none from I.ok.hd hc) it a nai vs ep
    refine wpAny_pyNext_enum_itemD D he ⟨hit, hm⟩ hi hne (fun z => by
      rcases List.mem_cons.mp z with z | z
      · exact hne z
      · exact nae (List.mem_singleton.mp z).symm) fun x h' tk hx hout hst hT hsz hk => ?_
    obtain ⟨k, v, hkv, hkey⟩ := hx
    obtain ⟨⟨k', v'⟩, hkv'⟩ : ∃ q, kvs[i]? = some q := ⟨kvs[i]'(by omega), by simp⟩
    obtain ⟨u, hu, ru⟩ := r.at hkv'
    rw [hkv] at hu
    cases hu
    refine ⟨.ref s.heap.objs.size, rfl, wpAny_letOwnedTupleGo_enum hout fun h2 he2 hs => ?_⟩
    have le : en < s.heap.objs.size := Heap.lt_size he
    have li : it < s.heap.objs.size := let ⟨o, e, _⟩ := hit; Heap.lt_size e
    have hfr : H s.heap.objs.size = none := I.hok.fresh (Nat.le_refl _)
    have ne1 : en ≠ s.heap.objs.size := Nat.ne_of_lt le
    have ne2 : it ≠ s.heap.objs.size := Nat.ne_of_lt li
    have I1 := I.laid (a := s.heap.objs.size) (o := .tup [.int i, kV k]) (h' := s.heap.push { cls := .type "tuple", data := .seq #[.int i tk, x] }) (t' := s.toks) (fun b q hq => Heap.get?_push_of_some _ hq) (Nat.le_refl _)
      ⟨by show 2 ≤ sizeLine; decide, [.int i tk, x], .cons ⟨_, rfl⟩ (.cons (kV_of_is hkey) .nil), ⟨_, Heap.get?_push_size _ rfl, rfl, _, rfl⟩⟩
    have up : ∀ {b : Addr}, b ≠ s.heap.objs.size → FpOk X pins H b → FpOk X pins (upd H s.heap.objs.size (.tup [.int i, kV k])) b := fun hb f => ⟨by rw [upd_ne hb]; exact f.1, f.2⟩
    have hk2 : ∀ b q, b ≠ en → b ≠ it → (s.heap.push { cls := .type "tuple", data := .seq #[.int i tk, x] }).get? b = some q → h2.get? b = some q := fun b q h1 h3 hq => by
      refine hs.extBut b q h1 ?_
      rcases Heap.get?_push_cases hq with ⟨hbs, eq⟩ | hq
      · subst hbs
        subst eq
        exact hT
      · exact hk b q h1 h3 hq
    obtain ⟨⟨oi, ei, ci, di⟩, _⟩ := hst
    have hit2 : h2.IsKeyIter it a (i + 1) vs.length ep := ⟨oi, hs.extBut it oi (Ne.symm hne) ei, ci, di⟩
    refine ⟨.ref s.heap.objs.size, upd H s.heap.objs.size (.tup [.int i, kV k]), ?_, rfl, ⟨_, _, rfl, hfr, hkv', rfl⟩, ⟨by omega, ⟨_, he2⟩, es, ep, hd, by rw [hl]; exact hit2⟩, fun b hb => ?_⟩
    · exact Inv.turned2 (s := { s with heap := s.heap.push { cls := .type "tuple", data := .seq #[.int i tk, x] }, toks := s.toks }) (t' := tk + 1) I1 hk2 (up ne1 fe) (up ne2 fi) ⟨_, he2⟩ ⟨oi, hs.extBut it oi (Ne.symm hne) ei⟩
    · rcases List.mem_cons.mp hb with z | hb
      · rw [z, upd_ne ne1]; exact fe.1
      · have z : b = it := by simpa using hb
        rw [z, upd_ne ne2]; exact fi.1
  done := by
    intro X hP hw hK hc i pins s σ H E I hf st hg
    subst hP hw hK
    obtain ⟨il, ⟨old, he⟩, es, ep, hd, hit⟩ := st
    obtain ⟨hi, hH⟩ := hg
    obtain ⟨vs, r, hm, hl⟩ := frz_at I hH hd
    obtain ⟨f0, f1, f2, f3, f4, f5⟩ := hf it (by simp)
    have nai : a ≠ it := fun z => by rw [z, f0] at hH; cases hH
    obtain rfl : i = vs.length := by omega
    rw [hl] at hit
    have D := draws_keys (prog := X.prog) (w := X.w) (kn := mixKind X.prog X.w) (A := X.A.in1) (show X.A.in1.handled = none from I.ok.hd hc) it a nai vs ep
    exact wpAny_pyNext_enum_endD D he ⟨hit, hm⟩ fun h' eb => ⟨rfl, I.turned (t' := s.toks) (fun b o hb e => eb b o hb e) f0 f1 f3 f4 f5⟩
  self := fun _ _ _ _ _ st h => let ⟨_, ⟨_, he⟩, _⟩ := st; wpAny_pyIter_enum he h
section
variable {X : Cx}
def iEnumK (X : Cx) (ta : TA) : TI := fun σ H R => ta σ H fun vs H1 => ∃ a kvs, vs = [.ref a] ∧ H1 a = some (.dK kvs) ∧ ∀ ob, (∀ o u, X.H₀ a ≠ some (.frz o u)) → R (Itke a ob kvs) (upd H1 a (.frz ob (.dK kvs)))
theorem pi_enumK {l : Expr} {ta : TA} {elts : List Expr} {x1 : Nat} {tpos p pos : Pos} (hg : Gl X "enumerate") (hm : X.mg "enumerate" = none) (ha : PA X [l] ta) (hs : starEach [l] X.env = [(false, eval l X.env)] := by rfl) :
    PI X (.Tuple elts x1 tpos) (.Call (.Name "enumerate" p) [l] [] pos) (iEnumK X ta) := by
  intro pins s σ H R I h
  refine Call_ (ld_blt I hg hm (u := .type "enumerate") rfl (PyProof.Rows.callWith_type1 (thn (ha pos pins s σ H _ I h) fun us s1 ⟨vs, H1, I1, r1, a, kvs, e, hH, q⟩ => ?_) hs rfl))
  subst e
  cases r1 with
  | cons r rr =>
    cases rr
    cases r
    obtain ⟨t1, t2, hd⟩ := isD_at I1 (.inl ⟨kvs, .inl hH⟩)
    obtain ⟨z, y, vs, r, dd⟩ := dk_of I1.hok hH
    have hna : ∀ o u, X.H₀ a ≠ some (.frz o u) := fun o u z => by
      have := I1.base.frzs a o u z
      rw [hH] at this; cases this
    obtain ⟨ep, hat⟩ := dd.dictAt
    refine call_enumK hd hat fun h' hE hit hk => wpAny_pyIter_enum hE ?_
    obtain ⟨ob, hob, I3⟩ := (I1.kept (t' := s1.toks) hk).freeze hH
    have la : a < s1.heap.objs.size := hat.lt_size
    have hl : kvs.length = vs.length := KV.length r
    have ne : s1.heap.objs.size + 1 ≠ s1.heap.objs.size := by omega
    refine ⟨s1.heap.objs.size + 1, [s1.heap.objs.size + 1, s1.heap.objs.size], _, _, upd H1 a (.frz ob (.dK kvs)), rfl, I3, turn_enumK a _ _ ob kvs ne, ⟨Nat.zero_le _, ⟨_, hE⟩, ?_⟩, fun b hb => ?_, q ob hna⟩
    · obtain ⟨o2, es, ho2, c1, c2, _⟩ := hat
      have e3 : ob = o2 := Option.some.inj (hob.symm.trans (hk _ _ ho2))
      subst e3
      exact ⟨es, ep, c2, by rw [hl]; exact hit⟩
    · rcases List.mem_cons.mp hb with z | hb
      · rw [z]; exact I1.fpOk (by omega) (by rw [upd_ne (Nat.ne_of_gt (Nat.lt_succ_of_lt la))]; exact I1.hok.fresh (by omega))
      · have z : b = s1.heap.objs.size := by simpa using hb
        rw [z]; exact I1.fpOk (Nat.le_refl _) (by rw [upd_ne (Nat.ne_of_gt la)]; exact I1.hok.fresh (Nat.le_refl _))
end
theorem a_ienumK {X : Cx} {ta : TA} {σ : St} {H : Hp} {R : It → Hp → Prop} (h : ta σ H fun vs H1 => ∃ a kvs, vs = [.ref a] ∧ H1 a = some (.dK kvs) ∧ ∀ ob, (∀ o u, X.H₀ a ≠ some (.frz o u)) → R (Itke a ob kvs) (upd H1 a (.frz ob (.dK kvs)))) : iEnumK X ta σ H R := h
theorem for_enumK {a : Addr} {ob : Obj} {kvs : List (Key × V)} {g : TG} {tb : TS} {D : Ends} {σ : St} {H : Hp} (Pv : Nat → St → Hp → Prop) (h0 : Pv 0 σ H) (hl : ∀ i σ H, i ≤ kvs.length → Pv i σ H → H a = some (.frz ob (.dK kvs)))
    (hs : ∀ i k v σ H p, kvs[i]? = some (k, v) → Pv i σ H → H p = none → g (.ref p) σ (upd H p (.tup [.int i, kV k])) fun σ2 H2 => tb { D with nx := Pv (i + 1), ct := Pv (i + 1), bk := D.nx } σ2 H2) (hd : ∀ σ H, Pv kvs.length σ H → D.nx σ H) :
    ∃ W : Nat → Nat → St → Hp → Prop, (∃ m, W 0 m σ H) ∧ ∀ i m σ H, W i m σ H →
      ((Itke a ob kvs).stop i H ∧ D.nx σ H) ∨ ((Itke a ob kvs).go i H ∧ ∃ N : St → Hp → Prop, (∀ σ' H', N σ' H' → ∃ m', m' < m ∧ W (i + 1) m' σ' H') ∧ ∀ x H', (Itke a ob kvs).yld i H x H' → g x σ H' fun σ2 H2 => tb { D with nx := N, ct := N, bk := D.nx } σ2 H2) := by
  refine ⟨fun i m σ H => m = kvs.length - i ∧ i ≤ kvs.length ∧ Pv i σ H, ⟨kvs.length, by simp, Nat.zero_le _, h0⟩, ?_⟩
  rintro i m σ H ⟨rfl, hi, p⟩
  have q := hl i σ H hi p
  rcases Nat.lt_or_ge i kvs.length with hlt | hge
  · refine .inr ⟨⟨hlt, q⟩, Pv (i + 1), fun σ' H' p' => ⟨kvs.length - (i + 1), by omega, rfl, hlt, p'⟩, fun x H' y => ?_⟩
    obtain ⟨pa, ⟨k, v⟩, rfl, e2, e3, rfl⟩ := y
    exact hs i k v σ H pa e3 p e2
  · obtain rfl : i = kvs.length := by omega
    exact .inl ⟨⟨Nat.le_refl _, q⟩, hd σ H p⟩
end L2
namespace L2
open PySem PySem.Spec PyProof.Rows
section
variable {prog : Program} {w : World} {A : Around} {E : Value → Shared → Prop} {s : Shared}
theorem lri_noLen : typeLookup (.type "list_reverseiterator") "__len__" = pure none := by rw [typeLookup_type, builtinLookup_eq_fast]; kernel_rfl
theorem lri_hint : typeLookup (.type "list_reverseiterator") "__length_hint__" = pure (some (.builtin "list_reverseiterator.__length_hint__")) := by rw [typeLookup_type, builtinLookup_eq_fast]; kernel_rfl
theorem hint_lri {r : Addr} {Q : Bool → Shared → Prop} (hT : s.TypeIs (.ref r) "list_reverseiterator") (h : Q false s) : wpAny (model prog w) A (Builtin.List.listLengthHint (.ref r)) Q E s := by
  unfold Builtin.List.listLengthHint
  refine wpAny_bind (wpAny_specialOf hT lri_noLen ?_)
  show wpAny _ A (specialOf (Value.ref r) (Str.ofString "__length_hint__") >>= _) _ _ _
  refine wpAny_bind (wpAny_specialOf hT lri_hint ?_)
  generalize hid : ("list_reverseiterator.__length_hint__" : String) = i0
  wp_delta
  rw [show splitId i0 = some ("list_reverseiterator", "__length_hint__") from by subst hid; decide +kernel]
  subst hid
  refine wpAny_bind (wpAny_isInstance (T := "list_reverseiterator") (b := true) hT (by rw [isSubtype_type]; kernel_rfl) ?_)
  refine wpAny_ite_split (fun z => absurd z (by decide)) (fun _ => ?_)
  refine wpAny_ite_split (fun _ => ?_) (fun z => absurd (by decide +kernel) z)
  refine wpAny_ite_split (fun z => absurd z (by decide +kernel)) (fun _ => ?_)
  exact wpAny_pure h
theorem extend_it {T : String} {I : Addr} {fp : List Addr} {n : Nat} {P : Nat → Value → Prop} {St : Nat → Heap → Prop} {R : Result → Shared → Prop} (W : Walks prog w A.in1 I fp [I] n P St) (hI : I ∈ fp)
    (hT : ∀ i (s : Shared), St i s.heap → s.TypeIs (.ref I) T) (n1 : (Value.type T == Value.type "list") = false) (n2 : (Value.type T == Value.type "tuple") = false)
    (hh : ∀ (s : Shared) (Q : Bool → Shared → Prop) (E : Value → Shared → Prop), s.TypeIs (.ref I) T → Q false s → wpAny (model prog w) A.in1 (Builtin.List.listLengthHint (.ref I)) Q E s)
    (hst : St 0 s.heap) (S : Addr) (hSf : S ∉ fp) (res : Value) (c0 : Nat) (hS : s.heap.get? S = some { cls := .type "list", data := .seq #[] c0 })
    (hR : ∀ h' tk acc c, (∀ b o, b ≠ S → b ≠ I → s.heap.get? b = some o → h'.get? b = some o) → h'.get? S = some { cls := .type "list", dict := none, data := .seq acc c, slots := #[] } → ItemsOf P acc n → R (.ok (.ret res)) { s with heap := h', toks := tk }) (hn : n ≤ sizeLine) :
    wpAny (model prog w) A.in1 (Builtin.List.listExtendWith (.ref S) (.ref I) res)
      (fun fin s' => match fin with | .done f => R (.ok f) s' | .again c' => c'.quiet = true ∧ codeAny (model prog w) A c' R s') (fun e s' => R (.error e) s') s := by
  have nSI : S ≠ I := fun z => hSf (z ▸ hI)
  have key : ∀ (h : Heap) (c1 tk : Nat), St 0 h → (∀ b o, b ≠ S → s.heap.get? b = some o → h.get? b = some o) → h.get? S = some { cls := .type "list", data := .seq #[] c1 } →
      codeAny (model prog w) A (.builtin "list.extend.loop" ⟨[.ref S, .ref I, res], []⟩) R { s with heap := h, toks := tk } := by
    intro h c1 tk st hk hS1
    refine codeAny_extend_loopS W.toS hn S hSf res n 0 _ #[] c1 rfl (Nat.zero_le _) st hS1 (ItemsOf.nil _) fun s' acc c mv hS2 items => ?_
    rw [Moved.eq_with mv]
    exact hR s'.heap s'.toks acc c (fun b o h1 h2 e => mv.heap b o (fun z => by
      rcases List.mem_cons.mp z with z | z
      · exact h1 z
      · exact h2 (List.mem_singleton.mp z)) (hk b o h1 e)) hS2 items
  unfold Builtin.List.listExtendWith
  refine wpAny_bind (wpAny_typeOf (hT 0 s hst) ?_)
  simp only [show Builtin.List.listSameRef (.ref S) (.ref I) = false by simp [Builtin.List.listSameRef, nSI], n1, n2, Bool.or_false, Bool.false_eq_true, if_false]
  refine wpAny_bind (W.self 0 s _ _ hst (wpAny_bind (wpAny_holding (hh s _ _ (hT 0 s hst) ?_))))
  refine wpAny_ite_split (fun _ => ?_) (fun _ => wpAny_pure ⟨plainId_quiet PySem.F.plain_extend_loop _, key _ c0 _ hst (fun b o _ e => e) hS⟩)
  refine wpAny_bind (wpAny_rule (wpAny_bind ?_))
  show wpAny _ _ (updateSeq S (·.push .none) >>= fun _ => updateSeq S (·.pop)) _ _ s
  refine wpAny_bind (wpAny_updateSeq hS rfl ?_)
  have q1 := Heap.get?_update_self (Obj.mapSeq (·.push Value.none)) hS rfl
  refine wpAny_updateSeq (hz := by seq_fits) q1 rfl ?_
  have q2 := Heap.get?_update_self (Obj.mapSeq (·.pop)) q1 rfl
  have oth : ∀ b o, b ≠ S → s.heap.get? b = some o → ((s.heap.update S (Obj.mapSeq (·.push Value.none))).update S (Obj.mapSeq (·.pop))).get? b = some o := fun b o z e => (Heap.get?_update_other _ _ z.symm).trans ((Heap.get?_update_other _ _ z.symm).trans e)
  exact wpAny_pure ⟨plainId_quiet PySem.F.plain_extend_loop _, key _ _ _ (W.frame 0 _ _ hst fun b hb o e => oth b o (fun z => hSf (z ▸ hb)) e) oth q2⟩
theorem list_it {T : String} {I : Addr} {fp : List Addr} {n : Nat} {P : Nat → Value → Prop} {St : Nat → Heap → Prop} {Q : Value → Shared → Prop} (W : Walks prog w A.in1.in1 I fp [I] n P St) (hI : I ∈ fp) (hfp : ∀ b ∈ fp, b < s.heap.objs.size)
    (hT : ∀ i (s : Shared), St i s.heap → s.TypeIs (.ref I) T) (n1 : (Value.type T == Value.type "list") = false) (n2 : (Value.type T == Value.type "tuple") = false)
    (hh : ∀ (s : Shared) (Q : Bool → Shared → Prop) (E : Value → Shared → Prop), s.TypeIs (.ref I) T → Q false s → wpAny (model prog w) A.in1.in1 (Builtin.List.listLengthHint (.ref I)) Q E s)
    (hst : St 0 s.heap) (hn : n ≤ sizeLine)
    (hQ : ∀ h' tk acc c, (∀ b o, b ≠ I → s.heap.get? b = some o → h'.get? b = some o) → h'.get? s.heap.objs.size = some { cls := .type "list", dict := none, data := .seq acc c, slots := #[] } → ItemsOf P acc n → Q (.ref s.heap.objs.size) { s with heap := h', toks := tk }) :
    wpAny (model prog w) A (call (.type "list") [.ref I]) Q E s := by
  refine callType_codes (Q₁ := fun o s₁ => o = .ref s.heap.objs.size ∧ s₁ = { s with heap := s.heap.push { cls := .type "list", data := .seq #[] } }) PySem.F.called_list (PySem.F.typeCall_list_1 _) PySem.F.entry_list_init (code_list_new _ ⟨rfl, rfl⟩) fun o s₁ h₁ => ?_
  obtain ⟨rfl, rfl⟩ := h₁
  have hS : (s.heap.push { cls := .type "list", data := .seq #[] }).get? s.heap.objs.size = some { cls := .type "list", data := .seq #[] } := Heap.get?_push_size _ rfl
  have hSf : s.heap.objs.size ∉ fp := fun z => Nat.lt_irrefl _ (hfp _ z)
  refine ⟨⟨_, hS, rfl⟩, PySem.F.args_list_init_2 _ _, ?_⟩
  show wpAny _ _ (do let old ← Builtin.List.listItems (.ref s.heap.objs.size); Builtin.List.listUpdate (.ref s.heap.objs.size) (fun _ => #[]); letGo old.toList.reverse; Builtin.List.listExtendWith (.ref s.heap.objs.size) (.ref I) .none) _ _ _
  refine wpAny_bind ?_
  unfold Builtin.List.listItems
  refine wpAny_bind (wpAny_seqItems hS rfl (wpAny_pure ?_))
  show wpAny _ _ (updateSeq s.heap.objs.size (fun _ => #[]) >>= fun _ => letGo (#[] : Array Value).toList.reverse >>= fun _ => Builtin.List.listExtendWith (.ref s.heap.objs.size) (.ref I) .none) _ _ _
  refine wpAny_bind (wpAny_updateSeq hS rfl ?_)
  have q2 := Heap.get?_update_self (Obj.mapSeq (fun _ => (#[] : Array Value))) hS rfl
  have oth : ∀ b o, b ≠ s.heap.objs.size → s.heap.get? b = some o → ((s.heap.push { cls := .type "list", data := .seq #[] }).update s.heap.objs.size (Obj.mapSeq (fun _ => (#[] : Array Value)))).get? b = some o :=
    fun b o z e => (Heap.get?_update_other _ _ z.symm).trans (Heap.get?_push_of_some _ e)
  refine wpAny_bind (wpAny_letGo ?_)
  refine extend_it (A := A.in1) W hI hT n1 n2 hh (W.frame 0 _ _ hst fun b hb o e => oth b o (fun z => hSf (z ▸ hb)) e) _ hSf .none _ q2 (fun h' tk acc c hk hS' items => ?_) hn
  exact ⟨rfl, hQ h' tk acc c (fun b o z e => hk b o (Nat.ne_of_lt (Heap.lt_size e)) z (oth b o (Nat.ne_of_lt (Heap.lt_size e)) e)) hS' items⟩
end
theorem vals_app {xs ys : List V} {us vs : List Value} (h : Vals xs us) (g : Vals ys vs) : Vals (xs ++ ys) (us ++ vs) := by
  induction h with
  | nil => exact g
  | cons a _ ih => exact .cons a ih
theorem vals_rev {xs : List V} {us : List Value} (h : Vals xs us) : Vals xs.reverse us.reverse := by
  induction h with
  | nil => exact .nil
  | cons a _ ih => rw [List.reverse_cons, List.reverse_cons]; exact vals_app ih (.cons a .nil)
section
variable {X : Cx}
def tLR (K : PySem.W.Frag) (ta : TA) : TE := fun σ H Q => ta σ H fun vs H1 => ∃ a xs, vs = [.ref a] ∧ SqL K H1 a xs ∧ ∀ p, H1 p = none → Q (.ref p) (upd H1 p (.lst xs.reverse))
theorem pe_listrev {l : Expr} {ta : TA} {p p2 pos2 pos : Pos} (hc : X.calm = true) (hg : Gl X "list") (hm : X.mg "list" = none) (hg2 : Gl X "reversed") (hm2 : X.mg "reversed" = none) (ha : PA X [l] ta) (hs2 : starEach [l] X.env = [(false, eval l X.env)] := by rfl)
    (hs : starEach [.Call (.Name "reversed" p2) [l] [] pos2] X.env = [(false, eval (.Call (.Name "reversed" p2) [l] [] pos2) X.env)] := by rfl) :
    PE X (.Call (.Name "list" p) [.Call (.Name "reversed" p2) [l] [] pos2] [] pos) (tLR X.K ta) := by
  intro pins s σ H Q I h
  refine wpAny_Call_Name_kw (ld_blt I hg hm (u := .type "list") rfl ?_)
  refine PyProof.Rows.callWith_type1 ?_ hs rfl
  rw [hs]
  show wpAny _ _ (spliced ((false, eval (.Call (.Name "reversed" p2) [l] [] pos2) X.env) :: backTo pos [])) _ _ s
  refine Calls.spliced_cons ?_
  refine Call_ (ld_blt I hg2 hm2 (u := .type "reversed") rfl (PyProof.Rows.callWith_type1 (thn (ha pos2 pins s σ H _ I h) fun us s1 ⟨vs, H1, I1, r1, a, xs, e, hq, q⟩ => ?_) hs2 rfl))
  subst e
  cases r1 with
  | cons r rr =>
    cases rr
    cases r
    obtain ⟨its, rv, pl, hz⟩ := I1.list hq
    have hl := rv.length
    refine call_reversed_list pl.isList ?_
    refine Calls.spliced_nil ?_
    have la : a < s1.heap.objs.size := let ⟨o, ho, _⟩ := pl.isList; Heap.lt_size ho
    have W := Walks.listRev (prog := X.prog) (w := X.w) (A := X.A.in1.in1) (show X.A.in1.in1.handled = none from I.ok.hd hc) s1.heap.objs.size a (Nat.ne_of_lt la) its.toArray
    have I2 : Inv X pins σ H1 { s1 with heap := s1.heap.push (revObj a ((its.toArray.size : Int) - 1)) } := I1.kept (t' := s1.toks) fun b o e => Heap.get?_push_of_some _ e
    have hI : (s1.heap.push (revObj a ((its.toArray.size : Int) - 1))).IsRevIter s1.heap.objs.size a ((its.toArray.size : Int) - 1 - ((0 : Nat) : Int)) := by
      refine ⟨_, Heap.get?_push_size _ rfl, rfl, ?_⟩
      rw [show (its.toArray.size : Int) - 1 - ((0 : Nat) : Int) = (its.toArray.size : Int) - 1 by omega]
      rfl
    have f := I1.fpOk (Nat.le_refl _) (I1.hok.fresh (Nat.le_refl s1.heap.objs.size))
    refine list_it (s := { s1 with heap := s1.heap.push (revObj a ((its.toArray.size : Int) - 1)) }) W (by simp) (fun b hb => ?_) (fun _ _ z => z.2.1.typeIs) (by decide) (by decide) (fun _ _ _ t h => hint_lri t h) ⟨Nat.zero_le _, hI, pl.isList.at fun o e => Heap.get?_push_of_some _ e⟩ (by simp; omega) fun h' tk acc c hk hS items => ?_
    · show b < (s1.heap.push _).objs.size
      rw [Heap.size_push]
      rcases List.mem_cons.mp hb with z | z
      · rw [z]; exact Nat.lt_succ_self _
      · rw [List.mem_singleton.mp z]; exact Nat.lt_succ_of_lt la
    · have z1 : (s1.heap.push (revObj a ((its.toArray.size : Int) - 1))).objs.size = s1.heap.objs.size + 1 := Heap.size_push ..
      have hk1 : ∀ b o, s1.heap.get? b = some o → h'.get? b = some o := fun b o e => hk b o (Nat.ne_of_lt (Heap.lt_size e)) (Heap.get?_push_of_some _ e)
      have ea : acc.toList = its.reverse := by
        refine List.ext_getElem? fun j => ?_
        rcases Nat.lt_or_ge j acc.size with hj | hj
        · obtain ⟨v, hv⟩ : ∃ v, acc[j]? = some v := ⟨acc[j], by simp [hj]⟩
          have h2 := items.2 j v hv
          have h1 := items.1
          rw [Array.getElem?_toList, hv, List.getElem?_reverse (by simp at h1; omega), ← h2]
          simp
        · have h1 := items.1
          rw [List.getElem?_eq_none (by simpa using hj), List.getElem?_eq_none (by simp at h1 ⊢; omega)]
      refine ⟨.ref _, _, I1.laid (a := (s1.heap.push (revObj a ((its.toArray.size : Int) - 1))).objs.size) (o := .lst xs.reverse) (h' := h') (t' := tk) hk1 (by rw [z1]; omega) ⟨by rw [List.length_reverse]; exact hz, its.reverse, c, vals_rev rv, by rw [← ea, Array.toArray_toList]; exact hS⟩, rfl, q _ (by rw [z1]; exact I1.hok.fresh (by omega))⟩
end
theorem a_lr {K : PySem.W.Frag} {ta : TA} {σ : St} {H : Hp} {Q : VK} (h : ta σ H fun vs H1 => ∃ a xs, vs = [.ref a] ∧ SqL K H1 a xs ∧ ∀ p, H1 p = none → Q (.ref p) (upd H1 p (.lst xs.reverse))) : tLR K ta σ H Q := h
section
variable {X : Cx}
theorem op_notB : OpR X (compareOp .IsNot) (fun x y H Q => ∃ c d, x = .bl c ∧ y = .bl d ∧ Q (.bl (!(c == d))) H) := by
  intro pins s σ H x y v u Q I rx ry h
  obtain ⟨c, d, rfl, rfl, q⟩ := h
  cases rx
  cases ry
  exact isnot_bool (fin_bl I q rfl)
end
end L2
namespace Vc
open PySem L2
theorem Al.setv {α : Type} {A : Rep α} {F : Hp} {v : V} {x : α} : ∀ {vs : List V} {xs : List α} {j : Nat}, Al A F vs xs → A F v x → Al A F (vs.set j v) (xs.set j x)
  | [], [], _, _, _ => True.intro
  | _ :: _, _ :: _, 0, h, g => ⟨g, h.2⟩
  | _ :: _, _ :: _, _ + 1, h, g => ⟨h.1, Al.setv h.2 g⟩
  | [], _ :: _, _, h, _ => h.elim
  | _ :: _, [], _, h, _ => h.elim
theorem Al.rev {α : Type} {A : Rep α} {F : Hp} : ∀ {vs : List V} {xs : List α}, Al A F vs xs → Al A F vs.reverse xs.reverse
  | [], [], _ => True.intro
  | v :: vs, x :: xs, h => by rw [List.reverse_cons, List.reverse_cons]; exact (Al.rev h.2).snoc h.1
  | [], _ :: _, h => h.elim
  | _ :: _, [], h => h.elim
section
variable {X : Cx} {pins : List (Addr × Obj)} {σ : St} {H : Hp} {s : Shared} {Au : Around}
open Sf in
theorem rn_frs {K : PySem.W.Frag} {F : Hp} {a b : Addr} {x y : Rat} (hK : X.K = K) (I : Inv X pins σ H s) (wd : Same F H) (g1 : SqT K F a (fr x)) (g2 : SqT K F b (fr y)) (hu : Au.units < cLine) : SeqAt.RcNeAt Au s (.ref a) (.ref b) (!decide (x = y)) := by
  subst hK
  obtain ⟨us, r1, t1, _⟩ := I.tuple (wd.tup g1)
  obtain ⟨ws, r2, t2, _⟩ := I.tuple (wd.tup g2)
  have l1 : 2 = us.length := r1.length
  have l2 : 2 = ws.length := r2.length
  have z := SeqAt.RcNeAt.tuples (A := Au) (e := fun j => if j = 0 then decide (x.num = y.num) else decide ((x.den : Int) = (y.den : Int))) t1 t2 hu (fun j h1 h2 => by
    simp only [List.size_toArray] at h1 h2
    match j, h1, h2 with
    | 0, h1, h2 =>
      obtain ⟨u, e1, ru⟩ := r1.get (i := 0) (x := .int x.num) rfl
      obtain ⟨v, e2, rv⟩ := r2.get (i := 0) (x := .int y.num) rfl
      have q1 : us.toArray[0]'(by simpa using h1) = u := by simpa using (List.getElem?_eq_some_iff.mp e1).2
      have q2 : ws.toArray[0]'(by simpa using h2) = v := by simpa using (List.getElem?_eq_some_iff.mp e2).2
      rw [q1, q2]
      exact int_eqAt ru rv
    | 1, h1, h2 =>
      obtain ⟨u, e1, ru⟩ := r1.get (i := 1) (x := .int x.den) rfl
      obtain ⟨v, e2, rv⟩ := r2.get (i := 1) (x := .int y.den) rfl
      have q1 : us.toArray[1]'(by simpa using h1) = u := by simpa using (List.getElem?_eq_some_iff.mp e1).2
      have q2 : ws.toArray[1]'(by simpa using h2) = v := by simpa using (List.getElem?_eq_some_iff.mp e2).2
      rw [q1, q2]
      exact int_eqAt ru rv
    | j + 2, h1, _ => omega)
  have e0 : ((List.range (min us.toArray.size ws.toArray.size)).all (fun j => if j = 0 then decide (x.num = y.num) else decide ((x.den : Int) = (y.den : Int))) && us.toArray.size == ws.toArray.size) = decide (x = y) := by
    simp only [List.size_toArray]
    rw [← l1, ← l2, rat_dec]
    show ((List.range 2).all _ && true) = _
    simp [List.range_succ]
  rw [e0] at z
  exact z
end
section
variable {X : Cx}
theorem op_neF {K : PySem.W.Frag} (hK : X.K = K) (hu : X.A.units + 64 < cLine) : OpR X (compareOp .NotEq) (rQn (rFr K)) := by
  intro pins s σ H p q v u Q I rx ry h
  obtain ⟨F, x, y, wd, ⟨a, rfl, g1⟩, ⟨b, rfl, g2⟩, hq⟩ := h
  cases rx
  cases ry
  exact rn_frs (Au := X.A) hK I wd g1 g2 (by omega) X.prog X.w X.xe _ ⟨.bl _, H, I, rfl, hq⟩
end
theorem thwX {Fb Hb F H F' H' : Hp} {S : Addr → Prop} {a : Addr} {ob : Obj} {kvs : List (Key × V)} (gb : Gr0 Fb Hb F H) (hH : H a = some (.dK kvs)) (hF : F a = none ∨ F a = some (.dK kvs))
    (gz : Gr0 (fz Fb a (.frz ob (.dK kvs))) (fz Hb a (.frz ob (.dK kvs))) F' H') (sF : F' a = fz F a (.frz ob (.dK kvs)) a) (cm : Fz (fun b => b = a ∨ S b) F') :
    ∃ F'' : Hp, Gr0 Fb Hb F'' (upd H' a (.dK kvs)) ∧ Fz S F'' ∧ Le F' F'' ∧ F'' a = F a ∧ (upd H' a (.dK kvs)) a = some (.dK kvs) ∧ (∀ b, b ≠ a → F'' b = F' b) ∧ ∀ b, b ≠ a → (upd H' a (.dK kvs)) b = H' b :=
  thw (R := fun U => ∃ F'' : Hp, Gr0 Fb Hb F'' U ∧ Fz S F'' ∧ Le F' F'' ∧ F'' a = F a ∧ U a = some (.dK kvs) ∧ (∀ b, b ≠ a → F'' b = F' b) ∧ ∀ b, b ≠ a → U b = H' b) gb hH hF gz sF cm fun F2 H2 h1 h2 h3 h4 h5 h6 h7 => ⟨F2, h1, h2, h3, h4, h5, h6, h7⟩
theorem ze_tup {X : Cx} {pos : Pos} {es t x1} (h : ZA X es t) : ZE X (.Tuple es x1 pos) (tTup t) := ⟨pe_tup h.h⟩
theorem ze_int {X : Cx} {i j pos} : ZE X (.Constant (.int i) j pos) (tC (.int i)) := ⟨pe_int⟩
end Vc
namespace Sf
open PySem L2 Vc
def top (i : Nat) : Stmt := PySem.Challenge.pw_springframe_k23_fits_and_goals.main.body.getD i (.Pass ⟨0, 0, 0, 0⟩)
abbrev s_part : Stmt := top 5
abbrev s_greatest_divisor : Stmt := top 6
abbrev s_plus : Stmt := top 7
abbrev s_minus : Stmt := top 8
abbrev s_times : Stmt := top 9
abbrev s_under : Stmt := top 10
abbrev s_value_at : Stmt := top 12
abbrev s_sum_at : Stmt := top 15
abbrev s_missed : Stmt := top 16
abbrev s_fits : Stmt := top 17
abbrev s_goal_at : Stmt := top 18
abbrev s_law_cell_at : Stmt := top 20
abbrev s_law_mix : Stmt := top 21
abbrev s_law_divisor : Stmt := top 22
abbrev s_law_lowest : Stmt := top 23
abbrev s_law_placing : Stmt := top 24
abbrev s_law_add : Stmt := top 25
abbrev s_law_row : Stmt := top 26
abbrev s_law_off : Stmt := top 27
abbrev s_law_is : Stmt := top 28
abbrev s_law : Stmt := top 29
theorem sc_part : FnScope ["top", "bottom", "divisor"] ["top", "bottom"] (defScope s_part) := ⟨rfl, rfl, rfl, by decide +kernel, rfl, by decide +kernel, by decide +kernel⟩
theorem sc_greatest_divisor : FnScope ["one", "other", "remainder"] ["one", "other"] (defScope s_greatest_divisor) := ⟨rfl, rfl, rfl, by decide +kernel, rfl, by decide +kernel, by decide +kernel⟩
theorem sc_plus : FnScope ["one", "other"] ["one", "other"] (defScope s_plus) := ⟨rfl, rfl, rfl, by decide +kernel, rfl, by decide +kernel, by decide +kernel⟩
theorem sc_minus : FnScope ["one", "other"] ["one", "other"] (defScope s_minus) := ⟨rfl, rfl, rfl, by decide +kernel, rfl, by decide +kernel, by decide +kernel⟩
theorem sc_times : FnScope ["one", "other"] ["one", "other"] (defScope s_times) := ⟨rfl, rfl, rfl, by decide +kernel, rfl, by decide +kernel, by decide +kernel⟩
theorem sc_under : FnScope ["one", "other"] ["one", "other"] (defScope s_under) := ⟨rfl, rfl, rfl, by decide +kernel, rfl, by decide +kernel, by decide +kernel⟩
theorem sc_value_at : FnScope ["one", "placing", "total", "unknown", "number"] ["one", "placing"] (defScope s_value_at) := ⟨rfl, rfl, rfl, by decide +kernel, rfl, by decide +kernel, by decide +kernel⟩
theorem sc_sum_at : FnScope ["one", "placing"] ["one", "placing"] (defScope s_sum_at) := ⟨rfl, rfl, rfl, by decide +kernel, rfl, by decide +kernel, by decide +kernel⟩
theorem sc_missed : FnScope ["one", "placing", "lead"] ["one", "placing"] (defScope s_missed) := ⟨rfl, rfl, rfl, by decide +kernel, rfl, by decide +kernel, by decide +kernel⟩
theorem sc_fits : FnScope ["rows", "placing"] ["rows", "placing"] (defScope s_fits) := ⟨rfl, rfl, rfl, by decide +kernel, rfl, by decide +kernel, by decide +kernel⟩
theorem sc_goal_at : FnScope ["rows", "goal", "placing", "total", "one"] ["rows", "goal", "placing"] (defScope s_goal_at) := ⟨rfl, rfl, rfl, by decide +kernel, rfl, by decide +kernel, by decide +kernel⟩
theorem sc_law_cell_at : FnScope ["_law_script", "_law_k"] ["_law_script", "_law_k"] (defScope s_law_cell_at) := ⟨rfl, rfl, rfl, by decide +kernel, rfl, by decide +kernel, by decide +kernel⟩
theorem sc_law_mix : FnScope ["_law_cell", "_law_k", "_law_number"] ["_law_cell", "_law_k"] (defScope s_law_mix) := ⟨rfl, rfl, rfl, by decide +kernel, rfl, by decide +kernel, by decide +kernel⟩
theorem sc_law_divisor : FnScope ["_law_one", "_law_other"] ["_law_one", "_law_other"] (defScope s_law_divisor) := ⟨rfl, rfl, rfl, by decide +kernel, rfl, by decide +kernel, by decide +kernel⟩
theorem sc_law_lowest : FnScope ["_law_top", "_law_bottom", "_law_both"] ["_law_top", "_law_bottom"] (defScope s_law_lowest) := ⟨rfl, rfl, rfl, by decide +kernel, rfl, by decide +kernel, by decide +kernel⟩
theorem sc_law_placing : FnScope ["_law_first", "_law_second", "_law_placing_here", "_law_k", "_law_top"] ["_law_first", "_law_second"] (defScope s_law_placing) := ⟨rfl, rfl, rfl, by decide +kernel, rfl, by decide +kernel, by decide +kernel⟩
theorem sc_law_add : FnScope ["_law_one", "_law_other"] ["_law_one", "_law_other"] (defScope s_law_add) := ⟨rfl, rfl, rfl, by decide +kernel, rfl, by decide +kernel, by decide +kernel⟩
theorem sc_law_row : FnScope ["_law_cell", "_law_placing_here", "_law_parts", "_law_come", "_law_k", "_law_name", "_law_number", "_law_off_here", "_law_kind", "_law_weight"] ["_law_cell", "_law_placing_here"] (defScope s_law_row) := ⟨rfl, rfl, rfl, by decide +kernel, rfl, by decide +kernel, by decide +kernel⟩
theorem sc_law_off : FnScope ["_law_one", "_law_placing_here", "_law_come", "_law_name", "_law_number"] ["_law_one", "_law_placing_here"] (defScope s_law_off) := ⟨rfl, rfl, rfl, by decide +kernel, rfl, by decide +kernel, by decide +kernel⟩
theorem sc_law_is : FnScope ["_law_found", "_law_due"] ["_law_found", "_law_due"] (defScope s_law_is) := ⟨rfl, rfl, rfl, by decide +kernel, rfl, by decide +kernel, by decide +kernel⟩
theorem sc_law : FnScope ["_law_script", "_law_placing_here", "_law_rows", "_law_good", "_law_sums", "_law_number", "_law_one", "_law_off_here", "_law_handed", "_law_rank", "_law_name"] ["_law_script"] (defScope s_law) := ⟨rfl, rfl, rfl, by decide +kernel, rfl, by decide +kernel, by decide +kernel⟩
structure Tx (K : PySem.W.Frag) (mg : Str → Option Value) where
  a_part : Addr
  d_part : FuncData
  F_part : Fun K "part" "part" s_part a_part d_part
  b_part : Binds K d_part ["top", "bottom"] []
  m_part : mg "part" = some (.ref a_part)
  a_greatest_divisor : Addr
  d_greatest_divisor : FuncData
  F_greatest_divisor : Fun K "greatest_divisor" "greatest_divisor" s_greatest_divisor a_greatest_divisor d_greatest_divisor
  b_greatest_divisor : Binds K d_greatest_divisor ["one", "other"] []
  m_greatest_divisor : mg "greatest_divisor" = some (.ref a_greatest_divisor)
  a_plus : Addr
  d_plus : FuncData
  F_plus : Fun K "plus" "plus" s_plus a_plus d_plus
  b_plus : Binds K d_plus ["one", "other"] []
  m_plus : mg "plus" = some (.ref a_plus)
  a_minus : Addr
  d_minus : FuncData
  F_minus : Fun K "minus" "minus" s_minus a_minus d_minus
  b_minus : Binds K d_minus ["one", "other"] []
  m_minus : mg "minus" = some (.ref a_minus)
  a_times : Addr
  d_times : FuncData
  F_times : Fun K "times" "times" s_times a_times d_times
  b_times : Binds K d_times ["one", "other"] []
  m_times : mg "times" = some (.ref a_times)
  a_under : Addr
  d_under : FuncData
  F_under : Fun K "under" "under" s_under a_under d_under
  b_under : Binds K d_under ["one", "other"] []
  m_under : mg "under" = some (.ref a_under)
  a_value_at : Addr
  d_value_at : FuncData
  F_value_at : Fun K "value_at" "value_at" s_value_at a_value_at d_value_at
  b_value_at : Binds K d_value_at ["one", "placing"] []
  m_value_at : mg "value_at" = some (.ref a_value_at)
  a_sum_at : Addr
  d_sum_at : FuncData
  F_sum_at : Fun K "sum_at" "sum_at" s_sum_at a_sum_at d_sum_at
  b_sum_at : Binds K d_sum_at ["one", "placing"] []
  m_sum_at : mg "sum_at" = some (.ref a_sum_at)
  a_missed : Addr
  d_missed : FuncData
  F_missed : Fun K "missed" "missed" s_missed a_missed d_missed
  b_missed : Binds K d_missed ["one", "placing"] []
  m_missed : mg "missed" = some (.ref a_missed)
  a_fits : Addr
  d_fits : FuncData
  F_fits : Fun K "fits" "fits" s_fits a_fits d_fits
  b_fits : Binds K d_fits ["rows", "placing"] []
  m_fits : mg "fits" = some (.ref a_fits)
  a_goal_at : Addr
  d_goal_at : FuncData
  F_goal_at : Fun K "goal_at" "goal_at" s_goal_at a_goal_at d_goal_at
  b_goal_at : Binds K d_goal_at ["rows", "goal", "placing"] []
  m_goal_at : mg "goal_at" = some (.ref a_goal_at)
  a_law_cell_at : Addr
  d_law_cell_at : FuncData
  F_law_cell_at : Fun K "_law_cell_at" "_law_cell_at" s_law_cell_at a_law_cell_at d_law_cell_at
  b_law_cell_at : Binds K d_law_cell_at ["_law_script", "_law_k"] []
  m_law_cell_at : mg "_law_cell_at" = some (.ref a_law_cell_at)
  a_law_mix : Addr
  d_law_mix : FuncData
  F_law_mix : Fun K "_law_mix" "_law_mix" s_law_mix a_law_mix d_law_mix
  b_law_mix : Binds K d_law_mix ["_law_cell", "_law_k"] []
  m_law_mix : mg "_law_mix" = some (.ref a_law_mix)
  a_law_divisor : Addr
  d_law_divisor : FuncData
  F_law_divisor : Fun K "_law_divisor" "_law_divisor" s_law_divisor a_law_divisor d_law_divisor
  b_law_divisor : Binds K d_law_divisor ["_law_one", "_law_other"] []
  m_law_divisor : mg "_law_divisor" = some (.ref a_law_divisor)
  a_law_lowest : Addr
  d_law_lowest : FuncData
  F_law_lowest : Fun K "_law_lowest" "_law_lowest" s_law_lowest a_law_lowest d_law_lowest
  b_law_lowest : Binds K d_law_lowest ["_law_top", "_law_bottom"] []
  m_law_lowest : mg "_law_lowest" = some (.ref a_law_lowest)
  a_law_placing : Addr
  d_law_placing : FuncData
  F_law_placing : Fun K "_law_placing" "_law_placing" s_law_placing a_law_placing d_law_placing
  b_law_placing : Binds K d_law_placing ["_law_first", "_law_second"] []
  m_law_placing : mg "_law_placing" = some (.ref a_law_placing)
  a_law_add : Addr
  d_law_add : FuncData
  F_law_add : Fun K "_law_add" "_law_add" s_law_add a_law_add d_law_add
  b_law_add : Binds K d_law_add ["_law_one", "_law_other"] []
  m_law_add : mg "_law_add" = some (.ref a_law_add)
  a_law_row : Addr
  d_law_row : FuncData
  F_law_row : Fun K "_law_row" "_law_row" s_law_row a_law_row d_law_row
  b_law_row : Binds K d_law_row ["_law_cell", "_law_placing_here"] []
  m_law_row : mg "_law_row" = some (.ref a_law_row)
  a_law_off : Addr
  d_law_off : FuncData
  F_law_off : Fun K "_law_off" "_law_off" s_law_off a_law_off d_law_off
  b_law_off : Binds K d_law_off ["_law_one", "_law_placing_here"] []
  m_law_off : mg "_law_off" = some (.ref a_law_off)
  a_law_is : Addr
  d_law_is : FuncData
  F_law_is : Fun K "_law_is" "_law_is" s_law_is a_law_is d_law_is
  b_law_is : Binds K d_law_is ["_law_found", "_law_due"] []
  m_law_is : mg "_law_is" = some (.ref a_law_is)
  a_law : Addr
  d_law : FuncData
  F_law : Fun K "law" "law" s_law a_law d_law
  b_law : Binds K d_law ["_law_script"] []
  m_law : mg "law" = some (.ref a_law)
  c_NOUGHT : Addr
  m_NOUGHT : mg "NOUGHT" = some (.ref c_NOUGHT)
  t_NOUGHT : ∃ (o : Obj) (its : Array Value) (n : Nat), K.lookup c_NOUGHT = some o ∧ o.cls = .type "tuple" ∧ o.data = .seq its n ∧ its.size ≤ sizeLine ∧ Vals (fr 0) its.toList
  k_MUST : Tok
  m_MUST : mg "MUST" = some (.int (0) k_MUST)
  z_abs : mg "abs" = none
  z_len : mg "len" = none
  z_range : mg "range" = none
  z_isinstance : mg "isinstance" = none
  z_tuple : mg "tuple" = none
  z_bool : mg "bool" = none
  z_str : mg "str" = none
  z_dict : mg "dict" = none
  z_list : mg "list" = none
  z_any : mg "any" = none
  z_all : mg "all" = none
  z_enumerate : mg "enumerate" = none
  z_reversed : mg "reversed" = none
def tx_mk {K : PySem.W.Frag} {h : Heap} {mg : Str → Option Value} (X : K.In h) (G : h.Ns mainGlobals mg)
    {f0 : Addr} {od0 an0 : Option Addr} {sl0 : Array (Option Value)} {oc0 kV0 dc0 pm0 cd0 ct0 : Value}
    {f1 : Addr} {od1 an1 : Option Addr} {sl1 : Array (Option Value)} {oc1 kV1 dc1 pm1 cd1 ct1 : Value}
    {f2 : Addr} {od2 an2 : Option Addr} {sl2 : Array (Option Value)} {oc2 kV2 dc2 pm2 cd2 ct2 : Value}
    {f3 : Addr} {od3 an3 : Option Addr} {sl3 : Array (Option Value)} {oc3 kV3 dc3 pm3 cd3 ct3 : Value}
    {f4 : Addr} {od4 an4 : Option Addr} {sl4 : Array (Option Value)} {oc4 kV4 dc4 pm4 cd4 ct4 : Value}
    {f5 : Addr} {od5 an5 : Option Addr} {sl5 : Array (Option Value)} {oc5 kV5 dc5 pm5 cd5 ct5 : Value}
    {f6 : Addr} {od6 an6 : Option Addr} {sl6 : Array (Option Value)} {oc6 kV6 dc6 pm6 cd6 ct6 : Value}
    {f7 : Addr} {od7 an7 : Option Addr} {sl7 : Array (Option Value)} {oc7 kV7 dc7 pm7 cd7 ct7 : Value}
    {f8 : Addr} {od8 an8 : Option Addr} {sl8 : Array (Option Value)} {oc8 kV8 dc8 pm8 cd8 ct8 : Value}
    {f9 : Addr} {od9 an9 : Option Addr} {sl9 : Array (Option Value)} {oc9 kV9 dc9 pm9 cd9 ct9 : Value}
    {f10 : Addr} {od10 an10 : Option Addr} {sl10 : Array (Option Value)} {oc10 kV10 dc10 pm10 cd10 ct10 : Value}
    {f11 : Addr} {od11 an11 : Option Addr} {sl11 : Array (Option Value)} {oc11 kV11 dc11 pm11 cd11 ct11 : Value}
    {f12 : Addr} {od12 an12 : Option Addr} {sl12 : Array (Option Value)} {oc12 kV12 dc12 pm12 cd12 ct12 : Value}
    {f13 : Addr} {od13 an13 : Option Addr} {sl13 : Array (Option Value)} {oc13 kV13 dc13 pm13 cd13 ct13 : Value}
    {f14 : Addr} {od14 an14 : Option Addr} {sl14 : Array (Option Value)} {oc14 kV14 dc14 pm14 cd14 ct14 : Value}
    {f15 : Addr} {od15 an15 : Option Addr} {sl15 : Array (Option Value)} {oc15 kV15 dc15 pm15 cd15 ct15 : Value}
    {f16 : Addr} {od16 an16 : Option Addr} {sl16 : Array (Option Value)} {oc16 kV16 dc16 pm16 cd16 ct16 : Value}
    {f17 : Addr} {od17 an17 : Option Addr} {sl17 : Array (Option Value)} {oc17 kV17 dc17 pm17 cd17 ct17 : Value}
    {f18 : Addr} {od18 an18 : Option Addr} {sl18 : Array (Option Value)} {oc18 kV18 dc18 pm18 cd18 ct18 : Value}
    {f19 : Addr} {od19 an19 : Option Addr} {sl19 : Array (Option Value)} {oc19 kV19 dc19 pm19 cd19 ct19 : Value}
    {f20 : Addr} {od20 an20 : Option Addr} {sl20 : Array (Option Value)} {oc20 kV20 dc20 pm20 cd20 ct20 : Value}
    {g0 : Addr} {gd0 : Option Addr} {gs0 : Array (Option Value)} {gn0 : Nat} {t0_0 t0_1 : Tok}
    {yk_MUST : Tok}
    (e0 : PySem.W.nsIn K mainGlobals "part" = some (some (.ref f0)))
    (l0 : K.lookup f0 = some ⟨oc0, od0, .func (PySem.W.fnOf "part" "part" (defArgs s_part) (defBody s_part) (defScope s_part) .none kV0 dc0 pm0 an0 cd0 ct0), sl0⟩)
    (c0 : PySem.W.codeIn K cd0 "part" = true)
    (k0 : PySem.W.keepIn K (.ref f0) = true)
    (e1 : PySem.W.nsIn K mainGlobals "greatest_divisor" = some (some (.ref f1)))
    (l1 : K.lookup f1 = some ⟨oc1, od1, .func (PySem.W.fnOf "greatest_divisor" "greatest_divisor" (defArgs s_greatest_divisor) (defBody s_greatest_divisor) (defScope s_greatest_divisor) .none kV1 dc1 pm1 an1 cd1 ct1), sl1⟩)
    (c1 : PySem.W.codeIn K cd1 "greatest_divisor" = true)
    (k1 : PySem.W.keepIn K (.ref f1) = true)
    (e2 : PySem.W.nsIn K mainGlobals "plus" = some (some (.ref f2)))
    (l2 : K.lookup f2 = some ⟨oc2, od2, .func (PySem.W.fnOf "plus" "plus" (defArgs s_plus) (defBody s_plus) (defScope s_plus) .none kV2 dc2 pm2 an2 cd2 ct2), sl2⟩)
    (c2 : PySem.W.codeIn K cd2 "plus" = true)
    (k2 : PySem.W.keepIn K (.ref f2) = true)
    (e3 : PySem.W.nsIn K mainGlobals "minus" = some (some (.ref f3)))
    (l3 : K.lookup f3 = some ⟨oc3, od3, .func (PySem.W.fnOf "minus" "minus" (defArgs s_minus) (defBody s_minus) (defScope s_minus) .none kV3 dc3 pm3 an3 cd3 ct3), sl3⟩)
    (c3 : PySem.W.codeIn K cd3 "minus" = true)
    (k3 : PySem.W.keepIn K (.ref f3) = true)
    (e4 : PySem.W.nsIn K mainGlobals "times" = some (some (.ref f4)))
    (l4 : K.lookup f4 = some ⟨oc4, od4, .func (PySem.W.fnOf "times" "times" (defArgs s_times) (defBody s_times) (defScope s_times) .none kV4 dc4 pm4 an4 cd4 ct4), sl4⟩)
    (c4 : PySem.W.codeIn K cd4 "times" = true)
    (k4 : PySem.W.keepIn K (.ref f4) = true)
    (e5 : PySem.W.nsIn K mainGlobals "under" = some (some (.ref f5)))
    (l5 : K.lookup f5 = some ⟨oc5, od5, .func (PySem.W.fnOf "under" "under" (defArgs s_under) (defBody s_under) (defScope s_under) .none kV5 dc5 pm5 an5 cd5 ct5), sl5⟩)
    (c5 : PySem.W.codeIn K cd5 "under" = true)
    (k5 : PySem.W.keepIn K (.ref f5) = true)
    (e6 : PySem.W.nsIn K mainGlobals "value_at" = some (some (.ref f6)))
    (l6 : K.lookup f6 = some ⟨oc6, od6, .func (PySem.W.fnOf "value_at" "value_at" (defArgs s_value_at) (defBody s_value_at) (defScope s_value_at) .none kV6 dc6 pm6 an6 cd6 ct6), sl6⟩)
    (c6 : PySem.W.codeIn K cd6 "value_at" = true)
    (k6 : PySem.W.keepIn K (.ref f6) = true)
    (e7 : PySem.W.nsIn K mainGlobals "sum_at" = some (some (.ref f7)))
    (l7 : K.lookup f7 = some ⟨oc7, od7, .func (PySem.W.fnOf "sum_at" "sum_at" (defArgs s_sum_at) (defBody s_sum_at) (defScope s_sum_at) .none kV7 dc7 pm7 an7 cd7 ct7), sl7⟩)
    (c7 : PySem.W.codeIn K cd7 "sum_at" = true)
    (k7 : PySem.W.keepIn K (.ref f7) = true)
    (e8 : PySem.W.nsIn K mainGlobals "missed" = some (some (.ref f8)))
    (l8 : K.lookup f8 = some ⟨oc8, od8, .func (PySem.W.fnOf "missed" "missed" (defArgs s_missed) (defBody s_missed) (defScope s_missed) .none kV8 dc8 pm8 an8 cd8 ct8), sl8⟩)
    (c8 : PySem.W.codeIn K cd8 "missed" = true)
    (k8 : PySem.W.keepIn K (.ref f8) = true)
    (e9 : PySem.W.nsIn K mainGlobals "fits" = some (some (.ref f9)))
    (l9 : K.lookup f9 = some ⟨oc9, od9, .func (PySem.W.fnOf "fits" "fits" (defArgs s_fits) (defBody s_fits) (defScope s_fits) .none kV9 dc9 pm9 an9 cd9 ct9), sl9⟩)
    (c9 : PySem.W.codeIn K cd9 "fits" = true)
    (k9 : PySem.W.keepIn K (.ref f9) = true)
    (e10 : PySem.W.nsIn K mainGlobals "goal_at" = some (some (.ref f10)))
    (l10 : K.lookup f10 = some ⟨oc10, od10, .func (PySem.W.fnOf "goal_at" "goal_at" (defArgs s_goal_at) (defBody s_goal_at) (defScope s_goal_at) .none kV10 dc10 pm10 an10 cd10 ct10), sl10⟩)
    (c10 : PySem.W.codeIn K cd10 "goal_at" = true)
    (k10 : PySem.W.keepIn K (.ref f10) = true)
    (e11 : PySem.W.nsIn K mainGlobals "_law_cell_at" = some (some (.ref f11)))
    (l11 : K.lookup f11 = some ⟨oc11, od11, .func (PySem.W.fnOf "_law_cell_at" "_law_cell_at" (defArgs s_law_cell_at) (defBody s_law_cell_at) (defScope s_law_cell_at) .none kV11 dc11 pm11 an11 cd11 ct11), sl11⟩)
    (c11 : PySem.W.codeIn K cd11 "_law_cell_at" = true)
    (k11 : PySem.W.keepIn K (.ref f11) = true)
    (e12 : PySem.W.nsIn K mainGlobals "_law_mix" = some (some (.ref f12)))
    (l12 : K.lookup f12 = some ⟨oc12, od12, .func (PySem.W.fnOf "_law_mix" "_law_mix" (defArgs s_law_mix) (defBody s_law_mix) (defScope s_law_mix) .none kV12 dc12 pm12 an12 cd12 ct12), sl12⟩)
    (c12 : PySem.W.codeIn K cd12 "_law_mix" = true)
    (k12 : PySem.W.keepIn K (.ref f12) = true)
    (e13 : PySem.W.nsIn K mainGlobals "_law_divisor" = some (some (.ref f13)))
    (l13 : K.lookup f13 = some ⟨oc13, od13, .func (PySem.W.fnOf "_law_divisor" "_law_divisor" (defArgs s_law_divisor) (defBody s_law_divisor) (defScope s_law_divisor) .none kV13 dc13 pm13 an13 cd13 ct13), sl13⟩)
    (c13 : PySem.W.codeIn K cd13 "_law_divisor" = true)
    (k13 : PySem.W.keepIn K (.ref f13) = true)
    (e14 : PySem.W.nsIn K mainGlobals "_law_lowest" = some (some (.ref f14)))
    (l14 : K.lookup f14 = some ⟨oc14, od14, .func (PySem.W.fnOf "_law_lowest" "_law_lowest" (defArgs s_law_lowest) (defBody s_law_lowest) (defScope s_law_lowest) .none kV14 dc14 pm14 an14 cd14 ct14), sl14⟩)
    (c14 : PySem.W.codeIn K cd14 "_law_lowest" = true)
    (k14 : PySem.W.keepIn K (.ref f14) = true)
    (e15 : PySem.W.nsIn K mainGlobals "_law_placing" = some (some (.ref f15)))
    (l15 : K.lookup f15 = some ⟨oc15, od15, .func (PySem.W.fnOf "_law_placing" "_law_placing" (defArgs s_law_placing) (defBody s_law_placing) (defScope s_law_placing) .none kV15 dc15 pm15 an15 cd15 ct15), sl15⟩)
    (c15 : PySem.W.codeIn K cd15 "_law_placing" = true)
    (k15 : PySem.W.keepIn K (.ref f15) = true)
    (e16 : PySem.W.nsIn K mainGlobals "_law_add" = some (some (.ref f16)))
    (l16 : K.lookup f16 = some ⟨oc16, od16, .func (PySem.W.fnOf "_law_add" "_law_add" (defArgs s_law_add) (defBody s_law_add) (defScope s_law_add) .none kV16 dc16 pm16 an16 cd16 ct16), sl16⟩)
    (c16 : PySem.W.codeIn K cd16 "_law_add" = true)
    (k16 : PySem.W.keepIn K (.ref f16) = true)
    (e17 : PySem.W.nsIn K mainGlobals "_law_row" = some (some (.ref f17)))
    (l17 : K.lookup f17 = some ⟨oc17, od17, .func (PySem.W.fnOf "_law_row" "_law_row" (defArgs s_law_row) (defBody s_law_row) (defScope s_law_row) .none kV17 dc17 pm17 an17 cd17 ct17), sl17⟩)
    (c17 : PySem.W.codeIn K cd17 "_law_row" = true)
    (k17 : PySem.W.keepIn K (.ref f17) = true)
    (e18 : PySem.W.nsIn K mainGlobals "_law_off" = some (some (.ref f18)))
    (l18 : K.lookup f18 = some ⟨oc18, od18, .func (PySem.W.fnOf "_law_off" "_law_off" (defArgs s_law_off) (defBody s_law_off) (defScope s_law_off) .none kV18 dc18 pm18 an18 cd18 ct18), sl18⟩)
    (c18 : PySem.W.codeIn K cd18 "_law_off" = true)
    (k18 : PySem.W.keepIn K (.ref f18) = true)
    (e19 : PySem.W.nsIn K mainGlobals "_law_is" = some (some (.ref f19)))
    (l19 : K.lookup f19 = some ⟨oc19, od19, .func (PySem.W.fnOf "_law_is" "_law_is" (defArgs s_law_is) (defBody s_law_is) (defScope s_law_is) .none kV19 dc19 pm19 an19 cd19 ct19), sl19⟩)
    (c19 : PySem.W.codeIn K cd19 "_law_is" = true)
    (k19 : PySem.W.keepIn K (.ref f19) = true)
    (e20 : PySem.W.nsIn K mainGlobals "law" = some (some (.ref f20)))
    (l20 : K.lookup f20 = some ⟨oc20, od20, .func (PySem.W.fnOf "law" "law" (defArgs s_law) (defBody s_law) (defScope s_law) .none kV20 dc20 pm20 an20 cd20 ct20), sl20⟩)
    (c20 : PySem.W.codeIn K cd20 "law" = true)
    (k20 : PySem.W.keepIn K (.ref f20) = true)
    (n0 : PySem.W.nsIn K mainGlobals "NOUGHT" = some (some (.ref g0)))
    (o0 : K.lookup g0 = some ⟨.type "tuple", gd0, .seq #[Value.int (0) t0_0, Value.int (1) t0_1] gn0, gs0⟩)
    (yi_MUST : PySem.W.nsIn K mainGlobals "MUST" = some (some (.int (0) yk_MUST)))
    (z0 : PySem.W.nsIn K mainGlobals "abs" = some none)
    (z1 : PySem.W.nsIn K mainGlobals "len" = some none)
    (z2 : PySem.W.nsIn K mainGlobals "range" = some none)
    (z3 : PySem.W.nsIn K mainGlobals "isinstance" = some none)
    (z4 : PySem.W.nsIn K mainGlobals "tuple" = some none)
    (z5 : PySem.W.nsIn K mainGlobals "bool" = some none)
    (z6 : PySem.W.nsIn K mainGlobals "str" = some none)
    (z7 : PySem.W.nsIn K mainGlobals "dict" = some none)
    (z8 : PySem.W.nsIn K mainGlobals "list" = some none)
    (z9 : PySem.W.nsIn K mainGlobals "any" = some none)
    (z10 : PySem.W.nsIn K mainGlobals "all" = some none)
    (z11 : PySem.W.nsIn K mainGlobals "enumerate" = some none)
    (z12 : PySem.W.nsIn K mainGlobals "reversed" = some none)
    : Tx K mg where
  a_part := f0
  d_part := _
  F_part := fun_mk (st := s_part) l0 c0 k0
  b_part := (fun_mk (st := s_part) l0 c0 k0).binds (ps := ["top", "bottom"]) fun _ _ _ _ _ _ us hl => match us, hl with | [_, _], _ => rfl
  m_part := PySem.W.mg_of X G e0
  a_greatest_divisor := f1
  d_greatest_divisor := _
  F_greatest_divisor := fun_mk (st := s_greatest_divisor) l1 c1 k1
  b_greatest_divisor := (fun_mk (st := s_greatest_divisor) l1 c1 k1).binds (ps := ["one", "other"]) fun _ _ _ _ _ _ us hl => match us, hl with | [_, _], _ => rfl
  m_greatest_divisor := PySem.W.mg_of X G e1
  a_plus := f2
  d_plus := _
  F_plus := fun_mk (st := s_plus) l2 c2 k2
  b_plus := (fun_mk (st := s_plus) l2 c2 k2).binds (ps := ["one", "other"]) fun _ _ _ _ _ _ us hl => match us, hl with | [_, _], _ => rfl
  m_plus := PySem.W.mg_of X G e2
  a_minus := f3
  d_minus := _
  F_minus := fun_mk (st := s_minus) l3 c3 k3
  b_minus := (fun_mk (st := s_minus) l3 c3 k3).binds (ps := ["one", "other"]) fun _ _ _ _ _ _ us hl => match us, hl with | [_, _], _ => rfl
  m_minus := PySem.W.mg_of X G e3
  a_times := f4
  d_times := _
  F_times := fun_mk (st := s_times) l4 c4 k4
  b_times := (fun_mk (st := s_times) l4 c4 k4).binds (ps := ["one", "other"]) fun _ _ _ _ _ _ us hl => match us, hl with | [_, _], _ => rfl
  m_times := PySem.W.mg_of X G e4
  a_under := f5
  d_under := _
  F_under := fun_mk (st := s_under) l5 c5 k5
  b_under := (fun_mk (st := s_under) l5 c5 k5).binds (ps := ["one", "other"]) fun _ _ _ _ _ _ us hl => match us, hl with | [_, _], _ => rfl
  m_under := PySem.W.mg_of X G e5
  a_value_at := f6
  d_value_at := _
  F_value_at := fun_mk (st := s_value_at) l6 c6 k6
  b_value_at := (fun_mk (st := s_value_at) l6 c6 k6).binds (ps := ["one", "placing"]) fun _ _ _ _ _ _ us hl => match us, hl with | [_, _], _ => rfl
  m_value_at := PySem.W.mg_of X G e6
  a_sum_at := f7
  d_sum_at := _
  F_sum_at := fun_mk (st := s_sum_at) l7 c7 k7
  b_sum_at := (fun_mk (st := s_sum_at) l7 c7 k7).binds (ps := ["one", "placing"]) fun _ _ _ _ _ _ us hl => match us, hl with | [_, _], _ => rfl
  m_sum_at := PySem.W.mg_of X G e7
  a_missed := f8
  d_missed := _
  F_missed := fun_mk (st := s_missed) l8 c8 k8
  b_missed := (fun_mk (st := s_missed) l8 c8 k8).binds (ps := ["one", "placing"]) fun _ _ _ _ _ _ us hl => match us, hl with | [_, _], _ => rfl
  m_missed := PySem.W.mg_of X G e8
  a_fits := f9
  d_fits := _
  F_fits := fun_mk (st := s_fits) l9 c9 k9
  b_fits := (fun_mk (st := s_fits) l9 c9 k9).binds (ps := ["rows", "placing"]) fun _ _ _ _ _ _ us hl => match us, hl with | [_, _], _ => rfl
  m_fits := PySem.W.mg_of X G e9
  a_goal_at := f10
  d_goal_at := _
  F_goal_at := fun_mk (st := s_goal_at) l10 c10 k10
  b_goal_at := (fun_mk (st := s_goal_at) l10 c10 k10).binds (ps := ["rows", "goal", "placing"]) fun _ _ _ _ _ _ us hl => match us, hl with | [_, _, _], _ => rfl
  m_goal_at := PySem.W.mg_of X G e10
  a_law_cell_at := f11
  d_law_cell_at := _
  F_law_cell_at := fun_mk (st := s_law_cell_at) l11 c11 k11
  b_law_cell_at := (fun_mk (st := s_law_cell_at) l11 c11 k11).binds (ps := ["_law_script", "_law_k"]) fun _ _ _ _ _ _ us hl => match us, hl with | [_, _], _ => rfl
  m_law_cell_at := PySem.W.mg_of X G e11
  a_law_mix := f12
  d_law_mix := _
  F_law_mix := fun_mk (st := s_law_mix) l12 c12 k12
  b_law_mix := (fun_mk (st := s_law_mix) l12 c12 k12).binds (ps := ["_law_cell", "_law_k"]) fun _ _ _ _ _ _ us hl => match us, hl with | [_, _], _ => rfl
  m_law_mix := PySem.W.mg_of X G e12
  a_law_divisor := f13
  d_law_divisor := _
  F_law_divisor := fun_mk (st := s_law_divisor) l13 c13 k13
  b_law_divisor := (fun_mk (st := s_law_divisor) l13 c13 k13).binds (ps := ["_law_one", "_law_other"]) fun _ _ _ _ _ _ us hl => match us, hl with | [_, _], _ => rfl
  m_law_divisor := PySem.W.mg_of X G e13
  a_law_lowest := f14
  d_law_lowest := _
  F_law_lowest := fun_mk (st := s_law_lowest) l14 c14 k14
  b_law_lowest := (fun_mk (st := s_law_lowest) l14 c14 k14).binds (ps := ["_law_top", "_law_bottom"]) fun _ _ _ _ _ _ us hl => match us, hl with | [_, _], _ => rfl
  m_law_lowest := PySem.W.mg_of X G e14
  a_law_placing := f15
  d_law_placing := _
  F_law_placing := fun_mk (st := s_law_placing) l15 c15 k15
  b_law_placing := (fun_mk (st := s_law_placing) l15 c15 k15).binds (ps := ["_law_first", "_law_second"]) fun _ _ _ _ _ _ us hl => match us, hl with | [_, _], _ => rfl
  m_law_placing := PySem.W.mg_of X G e15
  a_law_add := f16
  d_law_add := _
  F_law_add := fun_mk (st := s_law_add) l16 c16 k16
  b_law_add := (fun_mk (st := s_law_add) l16 c16 k16).binds (ps := ["_law_one", "_law_other"]) fun _ _ _ _ _ _ us hl => match us, hl with | [_, _], _ => rfl
  m_law_add := PySem.W.mg_of X G e16
  a_law_row := f17
  d_law_row := _
  F_law_row := fun_mk (st := s_law_row) l17 c17 k17
  b_law_row := (fun_mk (st := s_law_row) l17 c17 k17).binds (ps := ["_law_cell", "_law_placing_here"]) fun _ _ _ _ _ _ us hl => match us, hl with | [_, _], _ => rfl
  m_law_row := PySem.W.mg_of X G e17
  a_law_off := f18
  d_law_off := _
  F_law_off := fun_mk (st := s_law_off) l18 c18 k18
  b_law_off := (fun_mk (st := s_law_off) l18 c18 k18).binds (ps := ["_law_one", "_law_placing_here"]) fun _ _ _ _ _ _ us hl => match us, hl with | [_, _], _ => rfl
  m_law_off := PySem.W.mg_of X G e18
  a_law_is := f19
  d_law_is := _
  F_law_is := fun_mk (st := s_law_is) l19 c19 k19
  b_law_is := (fun_mk (st := s_law_is) l19 c19 k19).binds (ps := ["_law_found", "_law_due"]) fun _ _ _ _ _ _ us hl => match us, hl with | [_, _], _ => rfl
  m_law_is := PySem.W.mg_of X G e19
  a_law := f20
  d_law := _
  F_law := fun_mk (st := s_law) l20 c20 k20
  b_law := (fun_mk (st := s_law) l20 c20 k20).binds (ps := ["_law_script"]) fun _ _ _ _ _ _ us hl => match us, hl with | [_], _ => rfl
  m_law := PySem.W.mg_of X G e20
  c_NOUGHT := g0
  m_NOUGHT := PySem.W.mg_of X G n0
  t_NOUGHT := ⟨_, _, _, o0, rfl, rfl, (by show 2 ≤ sizeLine; decide), (.cons ⟨_, rfl⟩ (.cons ⟨_, rfl⟩ .nil))⟩
  k_MUST := yk_MUST
  m_MUST := PySem.W.mg_of X G yi_MUST
  z_abs := PySem.W.mg_none_of X G z0
  z_len := PySem.W.mg_none_of X G z1
  z_range := PySem.W.mg_none_of X G z2
  z_isinstance := PySem.W.mg_none_of X G z3
  z_tuple := PySem.W.mg_none_of X G z4
  z_bool := PySem.W.mg_none_of X G z5
  z_str := PySem.W.mg_none_of X G z6
  z_dict := PySem.W.mg_none_of X G z7
  z_list := PySem.W.mg_none_of X G z8
  z_any := PySem.W.mg_none_of X G z9
  z_all := PySem.W.mg_none_of X G z10
  z_enumerate := PySem.W.mg_none_of X G z11
  z_reversed := PySem.W.mg_none_of X G z12
section
variable {P : Program} {w : World} {K : PySem.W.Frag} {mg : Str → Option Value} {base : Heap}
local macro_rules | `(tactic| walk_at "v0") => `(tactic| first
  | with_reducible refine a_asg ?_
  | with_reducible refine a_name ?_
  | with_reducible refine a_ret ?_
  | with_reducible refine a_drop ?_
  | with_reducible refine a_next ?_
  | with_reducible refine a_if ?_
  | ((with_reducible refine' a_var ?ve ?_); (case ve => rfl))
  | with_reducible refine a_c ?_
  | with_reducible refine a_op ?_
  | with_reducible refine a_un ?_
  | with_reducible refine a_I0 ?_
  | with_reducible refine a_U ?_
  | with_reducible refine a_test ?_
  | with_reducible refine a_tB ?_
  | with_reducible refine a_bl ?_
  | with_reducible refine a_eqI ?_
  | with_reducible refine a_neI ?_
  | with_reducible refine a_eqB ?_
  | with_reducible refine a_neB ?_
  | with_reducible refine a_call ?_
  | with_reducible refine a_cons ?_
  | with_reducible refine a_nil ?_
  | with_reducible refine a_cb ?_
  | with_reducible refine a_tup ?_
  | with_reducible refine a_lst ?_
  | with_reducible refine a_and ?_
  | with_reducible refine a_or ?_
  | with_reducible refine a_not ?_
  | with_reducible refine a_andV ?_
  | with_reducible refine a_orV ?_
  | with_reducible refine a_notV ?_
  | with_reducible refine a_ifE ?_
  | with_reducible refine a_sl ?_
  | with_reducible refine a_part ?_
  | with_reducible refine a_noPart ?_
  | with_reducible refine a_pint ?_
  | with_reducible refine a_par ?_
  | with_reducible refine a_par2 ?_
  | dsimp only)
local macro_rules | `(tactic| walk_at "v") => `(tactic| first | with_reducible refine a_seq ?_ | walk_at "v0")
local macro_rules | `(tactic| walk_at "vt") => `(tactic| repeat walk_at "v0")
local macro_rules | `(tactic| walk_at "vs") => `(tactic| repeat walk_at "v")
local macro_rules | `(tactic| walk_at "o") => `(tactic| first | assumption | omega | rfl | trivial | decide | (refine ⟨?_, ?_⟩ <;> walk_at "o"))
local macro_rules | `(tactic| walk_at "ol") => `(tactic| first | omega | (simp only [List.length_cons, List.length_nil, List.length_append]; omega))
local macro_rules | `(tactic| walk_at "om") => `(tactic| first | exact mulL2 (by omega) (by omega) | exact mulR2 (by omega) (by omega) | exact mulLB (by omega) | exact mulRB (by omega) | exact mulBB (by omega) (by omega))
local macro_rules | `(tactic| walk_at "od") => `(tactic| first | exact divB (by omega) (by omega))
/-! ### numbers -/
def sp_gd : Sp := fun vs H Q _ => ∃ a b : Int, vs = [.int a, .int b] ∧ 0 ≤ a ∧ 0 ≤ b ∧ Q (.int (gd a b)) H
theorem ok_greatest_divisor (T : Tx K mg) : FnOk P w K mg base CX0 1 T.a_greatest_divisor T.d_greatest_divisor ["one", "other"] sp_gd := by
  refine T.F_greatest_divisor.ok sc_greatest_divisor (fun vs H Q E h => ?_) (fun cdv A outer s H vs Q E hr h => ?_)
  · obtain ⟨a, b, rfl, _⟩ := h
    rfl
  · obtain ⟨a, b, rfl, ha, hb, k⟩ := h
    refine ⟨_, (ZSs.h (zss_cons (ps_while PassesOwn.never (pt_cmpR op_ne (pv 1) pe_int (nomark _)) (ZSs.h (zss_cons (ps_set (i := 2) sc_greatest_divisor.nd rfl (Or.inl rfl) (pe_op op_mod (pv 0) (pv 1)))
      (zss_cons (ps_set (i := 0) sc_greatest_divisor.nd rfl (Or.inl rfl) (pv 1))
      (zss_one (ps_set (i := 1) sc_greatest_divisor.nd rfl (Or.inl rfl) (pv 2)))))))
      (zss_one (ps_ret (pv 0))))), ?_⟩
    refine a_seq ?_
    refine ⟨fun m σ H' => ∃ (x y : Int) (z : Option V), σ = [some (.int x), some (.int y), z] ∧ H' = H ∧ 0 ≤ x ∧ 0 ≤ y ∧ gd x y = gd a b ∧ m = y.toNat, ⟨b.toNat, a, b, none, rfl, rfl, ha, hb, rfl, rfl⟩, ?_⟩
    rintro m σ H' ⟨x, y, z, rfl, rfl, hx, hy, e, rfl⟩
    walk_at "vs"
    refine iteDN (fun hne => ?_) (fun hz => ?_)
    · refine ⟨fun σ' H' => ∃ (x' y' : Int) (z : Option V), σ' = [some (.int x'), some (.int y'), z] ∧ H' = _ ∧ 0 ≤ x' ∧ 0 ≤ y' ∧ gd x' y' = gd a b ∧ y'.toNat < y.toNat, fun σ' H' ⟨x', y', z', e1, e2, e3, e4, e5, e6⟩ => ⟨y'.toNat, e6, x', y', z', e1, e2, e3, e4, e5, rfl⟩, ?_⟩
      walk_at "vs"
      refine a_I (by omega) ?_
      walk_at "vs"
      refine ⟨y, x % y, _, rfl, rfl, hy, Int.emod_nonneg _ hne, ?_, ?_⟩
      · rw [gd_mod hx (by omega)]; exact e
      · have := Int.emod_lt_of_pos x (show 0 < y by omega)
        have := Int.emod_nonneg x hne
        omega
    · walk_at "vs"
      rw [hz, gd_zero x hx] at e
      rw [e]
      exact k
def sp_part : Sp := fun vs H Q _ => ∃ t b : Int, vs = [.int t, .int b] ∧ b ≠ 0 ∧ b.natAbs < 2 ^ 8000 ∧ ∀ p, H p = none → Q (.ref p) (upd H p (.tup (fr (Rat.divInt t b))))
theorem gd_le {t b : Int} (h : b ≠ 0) : (gd t b).natAbs ≤ b.natAbs := by
  have h1 := gd_dvd_r t b
  have h2 := Int.natAbs_dvd_natAbs.mpr h1
  exact Nat.le_of_dvd (by omega) h2
theorem dv_le {t b : Int} (h : b ≠ 0) : (dv t b).natAbs ≤ b.natAbs := by
  have := gd_le (t := t) h
  unfold dv
  split
  · rw [Int.natAbs_neg]; exact this
  · exact this
theorem ok_part (T : Tx K mg) : FnOk P w K mg base CX0 2 T.a_part T.d_part ["top", "bottom"] sp_part := by
  refine T.F_part.ok sc_part (fun vs H Q E h => ?_) (fun cdv A outer s H vs Q E hr h => ?_)
  · obtain ⟨a, b, rfl, _⟩ := h
    rfl
  · obtain ⟨t, b, rfl, hb, hz, k⟩ := h
    refine ⟨_, (ZSs.h (zss_cons (ps_if (pt_cmpR op_eq (pv 1) pe_int (nomark _)) (pss_one ps_never) pss_nil)
      (zss_cons (ps_set (i := 2) sc_part.nd rfl (Or.inl rfl) (pe_call ((ok_greatest_divisor T).mono (by decide)) hr rfl T.m_greatest_divisor T.F_greatest_divisor.kp T.b_greatest_divisor .nil pass0 (pa_cons (pe_callB call_abs rfl T.z_abs rfl (pa_cons (pv 0) pa_nil)) (pa_cons (pe_callB call_abs rfl T.z_abs rfl (pa_cons (pv 1) pa_nil)) pa_nil))))
      (zss_cons (ps_if (pt_cmpR op_lt (pv 1) pe_int (nomark _)) (pss_one (ps_set (i := 2) sc_part.nd rfl (Or.inl rfl) (pe_un un_neg (pv 2)))) pss_nil)
      (zss_one (ps_ret (pe_tup (pa_cons (pe_op op_fdivB (pv 0) (pv 2)) (pa_cons (pe_op op_fdivB (pv 1) (pv 2)) pa_nil))))))))), ?_⟩
    walk_at "vs"
    refine iteDF hb ?_
    walk_at "vs"
    refine ⟨t, rfl, ?_⟩
    walk_at "vs"
    refine ⟨b, rfl, ?_⟩
    walk_at "vs"
    have e : gd (if t < 0 then -t else t) (if b < 0 then -b else b) = gd t b := gd_abs' t b
    refine ⟨_, _, rfl, (by split <;> omega), (by split <;> omega), ?_⟩
    rw [e]
    have hd := dv_ne (t := t) hb
    have hl : (dv t b).natAbs < 2 ^ 8000 := Nat.lt_of_le_of_lt (dv_le hb) hz
    have fin : ∀ p, H p = none → Q (.ref p) (upd H p (.tup [.int (t.fdiv (dv t b)), .int (b.fdiv (dv t b))])) := fun p hp => by
      rw [part_num hb, part_den hb]
      exact k p hp
    walk_at "vs"
    refine iteD (fun hn => ?_) (fun hn => ?_)
    · have ed : -(gd t b) = dv t b := by unfold dv; rw [if_pos hn]
      walk_at "vs"
      rw [ed]
      refine a_I ⟨hd, hl⟩ ?_
      walk_at "vs"
      refine a_I ⟨hd, hl⟩ ?_
      walk_at "vs"
      exact ⟨by show 2 ≤ sizeLine; decide, fin⟩
    · have ed : gd t b = dv t b := by unfold dv; rw [if_neg hn]
      walk_at "vs"
      rw [ed]
      refine a_I ⟨hd, hl⟩ ?_
      walk_at "vs"
      refine a_I ⟨hd, hl⟩ ?_
      walk_at "vs"
      exact ⟨by show 2 ≤ sizeLine; decide, fin⟩
def sp_two (f : Rat → Rat → Rat) (K : PySem.W.Frag) : Sp := fun vs H Q _ => ∃ (a b : Addr) (p q : Rat), vs = [.ref a, .ref b] ∧ SqT K H a (fr p) ∧ SqT K H b (fr q) ∧ Sm 3900 p ∧ Sm 3900 q ∧ ∀ c, H c = none → Q (.ref c) (upd H c (.tup (fr (f p q))))
theorem mulB {x y : Int} (h1 : x.natAbs < 2 ^ 3900) (h2 : y.natAbs < 2 ^ 3900) : CMulX x y := .inr ⟨3900, by decide, h1, h2⟩
theorem ok_plus (T : Tx K mg) : FnOk P w K mg base CX0 3 T.a_plus T.d_plus ["one", "other"] (sp_two (· + ·) K) := by
  refine T.F_plus.ok sc_plus (fun vs H Q E h => ?_) (fun cdv A outer s H vs Q E hr h => ?_)
  · obtain ⟨a, b, p, q, rfl, _⟩ := h
    rfl
  · obtain ⟨a, b, p, q, rfl, ta, tb, sp, sq, k⟩ := h
    refine ⟨_, (pss_one (ps_ret (pe_call ((ok_part T).mono (by decide)) hr rfl T.m_part T.F_part.kp T.b_part .nil pass0 (pa_cons (pe_op op_add (pe_op op_mulB (pe_ix ix_tup (pv 0) pe_int (fun _ _ => rfl)) (pe_ix ix_tup (pv 1) pe_int (fun _ _ => rfl))) (pe_op op_mulB (pe_ix ix_tup (pv 1) pe_int (fun _ _ => rfl)) (pe_ix ix_tup (pv 0) pe_int (fun _ _ => rfl)))) (pa_cons (pe_op op_mulB (pe_ix ix_tup (pv 0) pe_int (fun _ _ => rfl)) (pe_ix ix_tup (pv 1) pe_int (fun _ _ => rfl))) pa_nil))))), ?_⟩
    have d1 := den_abs sp
    have d2 := den_abs sq
    walk_at "vs"
    refine a_ixT ta (fr0 p) ?_
    walk_at "vs"
    refine a_ixT tb (fr1 q) ?_
    refine a_I (mulB sp.1 d2) ?_
    walk_at "vs"
    refine a_ixT tb (fr0 q) ?_
    walk_at "vs"
    refine a_ixT ta (fr1 p) ?_
    refine a_I (mulB sq.1 d1) ?_
    walk_at "vs"
    refine a_ixT ta (fr1 p) ?_
    walk_at "vs"
    refine a_ixT tb (fr1 q) ?_
    refine a_I (mulB d1 d2) ?_
    walk_at "vs"
    refine ⟨_, _, rfl, dens_ne p q, up2 (abs_mul_lt d1 d2) (by decide), fun c hc => ?_⟩
    have e := add_divInt p q
    rw [← e]
    exact k c hc
theorem ok_times (T : Tx K mg) : FnOk P w K mg base CX0 3 T.a_times T.d_times ["one", "other"] (sp_two (· * ·) K) := by
  refine T.F_times.ok sc_times (fun vs H Q E h => ?_) (fun cdv A outer s H vs Q E hr h => ?_)
  · obtain ⟨a, b, p, q, rfl, _⟩ := h
    rfl
  · obtain ⟨a, b, p, q, rfl, ta, tb, sp, sq, k⟩ := h
    refine ⟨_, (pss_one (ps_ret (pe_call ((ok_part T).mono (by decide)) hr rfl T.m_part T.F_part.kp T.b_part .nil pass0 (pa_cons (pe_op op_mulB (pe_ix ix_tup (pv 0) pe_int (fun _ _ => rfl)) (pe_ix ix_tup (pv 1) pe_int (fun _ _ => rfl))) (pa_cons (pe_op op_mulB (pe_ix ix_tup (pv 0) pe_int (fun _ _ => rfl)) (pe_ix ix_tup (pv 1) pe_int (fun _ _ => rfl))) pa_nil))))), ?_⟩
    have d1 := den_abs sp
    have d2 := den_abs sq
    walk_at "vs"
    refine a_ixT ta (fr0 p) ?_
    walk_at "vs"
    refine a_ixT tb (fr0 q) ?_
    refine a_I (mulB sp.1 sq.1) ?_
    walk_at "vs"
    refine a_ixT ta (fr1 p) ?_
    walk_at "vs"
    refine a_ixT tb (fr1 q) ?_
    refine a_I (mulB d1 d2) ?_
    walk_at "vs"
    refine ⟨_, _, rfl, dens_ne p q, up2 (abs_mul_lt d1 d2) (by decide), fun c hc => ?_⟩
    have e := mul_divInt p q
    rw [← e]
    exact k c hc
theorem ok_minus (T : Tx K mg) : FnOk P w K mg base CX0 3 T.a_minus T.d_minus ["one", "other"] (sp_two (· - ·) K) := by
  refine T.F_minus.ok sc_minus (fun vs H Q E h => ?_) (fun cdv A outer s H vs Q E hr h => ?_)
  · obtain ⟨a, b, p, q, rfl, _⟩ := h
    rfl
  · obtain ⟨a, b, p, q, rfl, ta, tb, sp, sq, k⟩ := h
    refine ⟨_, (pss_one (ps_ret (pe_call ((ok_part T).mono (by decide)) hr rfl T.m_part T.F_part.kp T.b_part .nil pass0 (pa_cons (pe_op op_sub (pe_op op_mulB (pe_ix ix_tup (pv 0) pe_int (fun _ _ => rfl)) (pe_ix ix_tup (pv 1) pe_int (fun _ _ => rfl))) (pe_op op_mulB (pe_ix ix_tup (pv 1) pe_int (fun _ _ => rfl)) (pe_ix ix_tup (pv 0) pe_int (fun _ _ => rfl)))) (pa_cons (pe_op op_mulB (pe_ix ix_tup (pv 0) pe_int (fun _ _ => rfl)) (pe_ix ix_tup (pv 1) pe_int (fun _ _ => rfl))) pa_nil))))), ?_⟩
    have d1 := den_abs sp
    have d2 := den_abs sq
    walk_at "vs"
    refine a_ixT ta (fr0 p) ?_
    walk_at "vs"
    refine a_ixT tb (fr1 q) ?_
    refine a_I (mulB sp.1 d2) ?_
    walk_at "vs"
    refine a_ixT tb (fr0 q) ?_
    walk_at "vs"
    refine a_ixT ta (fr1 p) ?_
    refine a_I (mulB sq.1 d1) ?_
    walk_at "vs"
    refine a_ixT ta (fr1 p) ?_
    walk_at "vs"
    refine a_ixT tb (fr1 q) ?_
    refine a_I (mulB d1 d2) ?_
    walk_at "vs"
    refine ⟨_, _, rfl, dens_ne p q, up2 (abs_mul_lt d1 d2) (by decide), fun c hc => ?_⟩
    have e := sub_divInt p q
    rw [← e]
    exact k c hc
def sp_under (K : PySem.W.Frag) : Sp := fun vs H Q _ => ∃ (a b : Addr) (p q : Rat), vs = [.ref a, .ref b] ∧ SqT K H a (fr p) ∧ SqT K H b (fr q) ∧ Sm 3900 p ∧ Sm 3900 q ∧ Q (.bl (decide (p < q))) H
theorem lt_cross (p q : Rat) : decide (p.num * (q.den : Int) < q.num * (p.den : Int)) = decide (p < q) := by
  have h : p.num * (q.den : Int) < q.num * (p.den : Int) ↔ p < q := (Rat.lt_iff p q).symm
  by_cases c : p < q
  · rw [decide_eq_true c, decide_eq_true (h.mpr c)]
  · rw [decide_eq_false c, decide_eq_false (fun z => c (h.mp z))]
theorem ok_under (T : Tx K mg) : FnOk P w K mg base CX0 1 T.a_under T.d_under ["one", "other"] (sp_under K) := by
  refine T.F_under.ok sc_under (fun vs H Q E h => ?_) (fun cdv A outer s H vs Q E hr h => ?_)
  · obtain ⟨a, b, p, q, rfl, _⟩ := h
    rfl
  · obtain ⟨a, b, p, q, rfl, ta, tb, sp, sq, k⟩ := h
    refine ⟨_, (pss_one (ps_ret (pe_cmpR op_lt (pe_op op_mulB (pe_ix ix_tup (pv 0) pe_int (fun _ _ => rfl)) (pe_ix ix_tup (pv 1) pe_int (fun _ _ => rfl))) (pe_op op_mulB (pe_ix ix_tup (pv 1) pe_int (fun _ _ => rfl)) (pe_ix ix_tup (pv 0) pe_int (fun _ _ => rfl))) (nomark _)))), ?_⟩
    have d1 := den_abs sp
    have d2 := den_abs sq
    walk_at "vs"
    refine a_ixT ta (fr0 p) ?_
    walk_at "vs"
    refine a_ixT tb (fr1 q) ?_
    refine a_I (mulB sp.1 d2) ?_
    walk_at "vs"
    refine a_ixT tb (fr0 q) ?_
    walk_at "vs"
    refine a_ixT ta (fr1 p) ?_
    refine a_I (mulB sq.1 d1) ?_
    walk_at "vs"
    rw [lt_cross]
    exact k
def plc (pl : FL Str) (x : Str) : Rat := (gt pl x).getD 0
theorem plc_of {pl : FL Str} {x : Str} {y : Rat} (h : gt pl x = some y) : plc pl x = y := by unfold plc; rw [h]; rfl
def misd (kd : Str) (d : Rat) : Rat := if d < 0 ∧ kd ≠ "most" then 0 - d else if 0 < d ∧ kd ≠ "least" then d else 0
theorem bi_mono {x y : Int} (h : x.natAbs ≤ y.natAbs) : bi x ≤ bi y := bi_lt (Nat.lt_of_le_of_lt h (lt_bi (Nat.le_refl _)))
theorem gd_abs0 (x : Int) : gd x 0 = if x < 0 then -x else x := by rw [abs_if]; unfold gd; rw [Int.gcd_zero_right]
theorem gd_mod' {a b : Int} (hb : 0 < b) : gd b (a % b) = gd a b := by
  unfold gd
  have e : a % b = a - b * (a / b) := Int.emod_def a b
  rw [e, Int.gcd_sub_mul_left_right, Int.gcd_comm]
theorem divInt_neg_iff {o b : Int} (hb : 0 < b) : Rat.divInt o b < 0 ↔ o < 0 := by
  have e := cross (t := o) (show b ≠ 0 by omega)
  rw [show Rat.divInt o b < 0 ↔ (Rat.divInt o b).num < 0 from by rw [Rat.lt_iff]; simp]
  have hd := den_pos (Rat.divInt o b)
  constructor
  · intro h
    have h1 : (Rat.divInt o b).num * b < 0 := Int.mul_neg_of_neg_of_pos h hb
    rw [e] at h1
    exact Int.not_le.mp (fun hn => by have := Int.mul_nonneg (Int.le_of_lt hd) hn; omega)
  · intro h
    have h1 : ((Rat.divInt o b).den : Int) * o < 0 := Int.mul_neg_of_pos_of_neg hd h
    rw [← e] at h1
    exact Int.not_le.mp (fun hn => by have := Int.mul_nonneg hn (Int.le_of_lt hb); omega)
theorem divInt_pos_iff {o b : Int} (hb : 0 < b) : 0 < Rat.divInt o b ↔ 0 < o := by
  have h := divInt_neg_iff (o := -o) hb
  rw [← Rat.neg_divInt] at h
  constructor
  · intro z; have := h.mp (by grind); omega
  · intro z; have := h.mpr (by omega); grind
abbrev Row23 := List (Str × Rat) × Str × Rat × Int × Int
def missR (pl : List (Str × Rat)) (r : Row23) : Rat := misd r.2.1 (val r.1 (plc pl) - r.2.2.1)
def PlOk (pl : List (Str × Rat)) : Prop := (∀ x q, gt pl x = some q → bs q ≤ 5) ∧ pl.length ≤ 4
def PartsOk (pl m : List (Str × Rat)) : Prop := ∀ x q, gt m x = some q → (∃ y, gt pl x = some y) ∧ q.den = 1 ∧ bs q ≤ 5
structure RowOk (pl : List (Str × Rat)) (r : Row23) : Prop where
  keys : ∀ x q, gt r.1 x = some q → ∃ y, gt pl x = some y
  whl : ∀ x q, gt r.1 x = some q → q.den = 1
  parts : ∀ x q, gt r.1 x = some q → bs q ≤ 5
  len : r.1.length ≤ 4
  num : bs r.2.2.1 ≤ 100
  rk : 0 ≤ r.2.2.2.1 ∧ r.2.2.2.1 ≤ 4
  wt : 1 ≤ r.2.2.2.2 ∧ r.2.2.2.2 ≤ 1000000
theorem PartsOk.nil {pl : List (Str × Rat)} : PartsOk pl [] := fun x q e => by cases e
theorem PartsOk.put {pl m : List (Str × Rat)} {x : Str} {q y : Rat} (h : PartsOk pl m) (hy : gt pl x = some y) (hd : q.den = 1) (hq : bs q ≤ 5) : PartsOk pl (ptd m x q) := fun z r e => by
  rw [ptd_pt, gt_pt] at e
  split at e
  · rename_i c; cases e; rw [c]; exact ⟨⟨_, hy⟩, hd, hq⟩
  · exact h _ _ e
theorem RowOk.of {pl m : List (Str × Rat)} {kd : Str} {num : Rat} {rk wt : Int} (h : PartsOk pl m) (l : m.length ≤ 4) (n : bs num ≤ 100) (r : 0 ≤ rk ∧ rk ≤ 4) (w : 1 ≤ wt ∧ wt ≤ 1000000) : RowOk pl (m, kd, num, rk, wt) :=
  ⟨fun x q e => (h x q e).1, fun x q e => (h x q e).2.1, fun x q e => (h x q e).2.2, l, n, r, w⟩
theorem ptd_all {m : List (Str × Rat)} {x : Str} {q : Rat} {n : Nat} (h : ∀ x q, gt m x = some q → bs q ≤ n) (hq : bs q ≤ n) : ∀ z r, gt (ptd m x q) z = some r → bs r ≤ n := fun z r e => by
  rw [ptd_pt, gt_pt] at e
  split at e
  · cases e; exact hq
  · exact h _ _ e
theorem ptd_len {α : Type} (m : List (Str × α)) (x : Str) (y : α) : (ptd m x y).length ≤ m.length + 1 := by
  unfold ptd
  split
  · rw [List.length_map]; omega
  · rw [List.length_append]; exact Nat.le_refl _
theorem bs_int {n : Int} {k : Nat} (h : n.natAbs < 2 ^ k) (hk : 1 ≤ k) : bs ((n : Int) : Rat) ≤ k := by
  have z1 : bl n.natAbs ≤ k := bi_small (x := n) k h
  have z2 : bl 1 = 1 := by decide +kernel
  unfold bs
  rw [Rat.num_intCast, Rat.den_intCast]
  omega
theorem bs_i {n : Int} (h1 : -4 ≤ n) (h2 : n ≤ 4) : bs ((n : Int) : Rat) ≤ 5 := bs_int (k := 5) (by omega) (by decide)
theorem bs_w {n : Int} (h1 : 1 ≤ n) (h2 : n ≤ 1000000) : bs ((n : Int) : Rat) ≤ 20 := bs_int (k := 20) (by omega) (by decide)
theorem bs_ad {a : Rat} {t b : Int} {k : Nat} (hb : b ≠ 0) (h1 : bi t ≤ k) (h2 : bi b ≤ k) : bs (a + Rat.divInt t b) ≤ bs a + k + 1 := by
  have z := bs_add a (Rat.divInt t b)
  have y := bs_divInt hb h1 h2
  omega
theorem add_frac (a : Rat) {t b : Int} (hb : 0 < b) : Rat.divInt (a.num * b + t * (a.den : Int)) ((a.den : Int) * b) = a + Rat.divInt t b := by
  have hd := den_pos a
  conv => rhs; rw [← Rat.num_divInt_den a]
  rw [Rat.divInt_add_divInt _ _ (by omega) (by omega)]
theorem int_frac {q y : Rat} (h : q.den = 1) : Rat.divInt (q.num * y.num) (y.den : Int) = q * y := by
  rw [mul_divInt q y, h]
  simp
theorem bs_neg (q : Rat) : bs (-q) = bs q := by unfold bs; rw [Rat.neg_num, Rat.neg_den, Int.natAbs_neg]
theorem fr_neg (q : Rat) : fr (-q) = [V.int (0 - q.num), V.int (q.den : Int)] := by
  unfold fr
  rw [Rat.neg_num, Rat.neg_den, Int.zero_sub]
def absR (q : Rat) : Rat := if q.num < 0 then -q else q
theorem fr_abs (q : Rat) : fr (absR q) = [V.int (if q.num < 0 then -q.num else q.num), V.int (q.den : Int)] := by
  unfold absR
  split
  · unfold fr; rw [Rat.neg_num, Rat.neg_den]
  · rfl
theorem bs_abs (q : Rat) : bs (absR q) = bs q := by
  unfold absR
  split
  · exact bs_neg q
  · rfl
theorem num_neg (q : Rat) : q.num < 0 ↔ q < 0 := by
  have := divInt_neg_iff (o := q.num) (den_pos q)
  rw [Rat.num_divInt_den] at this
  exact this.symm
theorem num_pos (q : Rat) : 0 < q.num ↔ 0 < q := by
  have := divInt_pos_iff (o := q.num) (den_pos q)
  rw [Rat.num_divInt_den] at this
  exact this.symm
theorem off_zero {kd : Str} {q : Rat} (h : (kd = "least" ∧ 0 < q.num) ∨ (kd = "most" ∧ q.num < 0)) : misd kd q = 0 := by
  unfold misd
  simp only [← num_neg, ← num_pos]
  rcases h with ⟨rfl, h⟩ | ⟨rfl, h⟩
  · rw [if_neg (by omega), if_neg (by simp)]
  · rw [if_neg (by simp), if_neg (by omega)]
theorem off_abs {kd : Str} {q : Rat} (h1 : ¬ (kd = "least" ∧ 0 < q.num)) (h2 : ¬ (kd = "most" ∧ q.num < 0)) : misd kd q = absR q := by
  unfold misd absR
  simp only [← num_neg, ← num_pos]
  rcases Int.lt_trichotomy q.num 0 with h | h | h
  · rw [if_pos ⟨h, fun z => h2 ⟨z, h⟩⟩, if_pos h]; grind
  · rw [if_neg (by omega), if_neg (by omega), if_neg (by omega)]
    exact (Rat.num_eq_zero.mp h).symm
  · rw [if_neg (by omega), if_pos ⟨h, fun z => h1 ⟨z, h⟩⟩, if_neg (by omega)]
def negs (pl : List (Str × Rat)) : List Bool := pl.map (fun p => decide (p.2 < 0))
def oks (pl : List (Str × Rat)) (rows : List Row23) : List Bool := (rows.filter (fun r => decide (r.2.2.2.1 = 0))).map (fun r => decide (missR pl r = 0))
def fitsB (rows : List Row23) (pl : List (Str × Rat)) : Bool := !((negs pl).any id) && (oks pl rows).all id
def okR (pl : List (Str × Rat)) (r : Row23) : Bool := !(decide (r.2.2.2.1 = 0)) || decide (missR pl r = 0)
theorem takeS {α : Type} {xs : List α} {i : Nat} {x : α} (h : xs[i]? = some x) : xs.take (i + 1) = xs.take i ++ [x] := by rw [List.take_add_one, h]; rfl
theorem oks_yes {pl : List (Str × Rat)} {rows : List Row23} {i : Nat} {r : Row23} (h : rows[i]? = some r) (hr : r.2.2.2.1 = 0) : oks pl (rows.take (i + 1)) = oks pl (rows.take i) ++ [decide (missR pl r = 0)] := by
  unfold oks
  rw [takeS h, List.filter_append, List.map_append, List.filter_cons_of_pos (by simpa using hr)]
  rfl
theorem oks_no {pl : List (Str × Rat)} {rows : List Row23} {i : Nat} {r : Row23} (h : rows[i]? = some r) (hr : ¬ r.2.2.2.1 = 0) : oks pl (rows.take (i + 1)) = oks pl (rows.take i) := by
  unfold oks
  rw [takeS h, List.filter_append, List.map_append, List.filter_cons_of_neg (by simpa using hr)]
  simp
theorem oks_all {pl : List (Str × Rat)} {rows : List Row23} {i : Nat} {r : Row23} (h : rows[i]? = some r) : (oks pl (rows.take (i + 1))).all id = ((oks pl (rows.take i)).all id && okR pl r) := by
  unfold okR
  by_cases hr : r.2.2.2.1 = 0
  · rw [oks_yes h hr, List.all_append]
    simp [hr]
  · rw [oks_no h hr]
    simp [hr]
theorem negs_any {pl : List (Str × Rat)} {i : Nat} {x : Str} {q : Rat} (h : pl[i]? = some (x, q)) : (negs (pl.take (i + 1))).any id = ((negs (pl.take i)).any id || decide (q < 0)) := by
  unfold negs
  rw [takeS h, List.map_append, List.any_append]
  simp
theorem fits_rev (pl : List (Str × Rat)) (rows : List Row23) : fitsB rows.reverse pl = fitsB rows pl := by
  unfold fitsB oks
  rw [List.filter_reverse, List.map_reverse, List.all_reverse]
def goalR (pl : List (Str × Rat)) (k : Int) : List Row23 → Rat
  | [] => 0
  | r :: rs => goalR pl k rs + (if r.2.2.2.1 = k then ((r.2.2.2.2 : Int) : Rat) * missR pl r else 0)
theorem goal_app (pl : List (Str × Rat)) (k : Int) : ∀ a b : List Row23, goalR pl k (a ++ b) = goalR pl k a + goalR pl k b
  | [], b => by show goalR pl k b = 0 + _; rw [Rat.zero_add]
  | r :: a, b => by
    show goalR pl k (a ++ b) + _ = (goalR pl k a + _) + _
    rw [goal_app pl k a b]
    grind
theorem goal_rev (pl : List (Str × Rat)) (k : Int) : ∀ a : List Row23, goalR pl k a.reverse = goalR pl k a
  | [] => rfl
  | r :: a => by
    rw [List.reverse_cons, goal_app, goal_rev pl k a]
    show _ + (0 + _) = _ + _
    rw [Rat.zero_add]
theorem goal_snoc {pl : List (Str × Rat)} {k : Int} {rows : List Row23} {i : Nat} {r : Row23} (h : rows[i]? = some r) : goalR pl k (rows.take (i + 1)) = goalR pl k (rows.take i) + (if r.2.2.2.1 = k then ((r.2.2.2.2 : Int) : Rat) * missR pl r else 0) := by
  rw [takeS h, goal_app]
  show _ + (0 + _) = _
  rw [Rat.zero_add]
theorem goal_yes {pl : List (Str × Rat)} {k : Int} {rows : List Row23} {i : Nat} {r : Row23} (h : rows[i]? = some r) (hr : r.2.2.2.1 = k) : goalR pl k (rows.take (i + 1)) = goalR pl k (rows.take i) + ((r.2.2.2.2 : Int) : Rat) * missR pl r := by rw [goal_snoc h, if_pos hr]
theorem goal_no {pl : List (Str × Rat)} {k : Int} {rows : List Row23} {i : Nat} {r : Row23} (h : rows[i]? = some r) (hr : ¬ r.2.2.2.1 = k) : goalR pl k (rows.take (i + 1)) = goalR pl k (rows.take i) := by rw [goal_snoc h, if_neg hr, Rat.add_zero]
def sumsR (pl : List (Str × Rat)) (rs : List Row23) : List Rat := [goalR pl 0 rs, goalR pl 1 rs, goalR pl 2 rs, goalR pl 3 rs, goalR pl 4 rs]
theorem sums_get {pl : List (Str × Rat)} {rs : List Row23} {k : Int} {x : Rat} (h0 : 0 ≤ k) (h4 : k ≤ 4) (h : (sumsR pl rs)[k.toNat]? = some x) : goalR pl k rs = x := by
  have : k = 0 ∨ k = 1 ∨ k = 2 ∨ k = 3 ∨ k = 4 := by omega
  rcases this with rfl | rfl | rfl | rfl | rfl <;> exact Option.some.inj h
theorem sums_put {pl : List (Str × Rat)} {rows : List Row23} {i : Nat} {r : Row23} {x : Rat} (h : rows[i]? = some r) (h0 : 0 ≤ r.2.2.2.1) (h4 : r.2.2.2.1 ≤ 4) (hx : (sumsR pl (rows.take i))[r.2.2.2.1.toNat]? = some x) :
    (sumsR pl (rows.take i)).set r.2.2.2.1.toNat (x + ((r.2.2.2.2 : Int) : Rat) * missR pl r) = sumsR pl (rows.take (i + 1)) := by
  have e := sums_get h0 h4 hx
  rw [← e]
  unfold sumsR
  simp only [goal_snoc h]
  have : r.2.2.2.1 = 0 ∨ r.2.2.2.1 = 1 ∨ r.2.2.2.1 = 2 ∨ r.2.2.2.1 = 3 ∨ r.2.2.2.1 = 4 := by omega
  rcases this with z | z | z | z | z <;> simp [z, Rat.add_zero]
theorem low_w (q : Rat) (w : Int) : Rat.divInt (q.num * w) (q.den : Int) = ((w : Int) : Rat) * q := by
  rw [Rat.mul_comm, mul_divInt q ((w : Int) : Rat), Rat.num_intCast, Rat.den_intCast]
  simp
theorem low_add (x q : Rat) : x + Rat.divInt q.num (q.den : Int) = x + q := by rw [Rat.num_divInt_den]
theorem two_of {rows x : List Row23} {i : Nat} (h : [rows, rows.reverse][i]? = some x) : x = rows ∨ x = rows.reverse := by
  have := List.mem_of_getElem? h
  simpa using this
def sp_value_at (K : PySem.W.Frag) : Sp := fun vs H Q _ => ∃ (F : Hp) (v_one v_placing : V) (one : ((List (Str × Rat)) × Rat)) (placing : (List (Str × Rat))) (n : Nat), vs = [v_one, v_placing] ∧ Same F H ∧ Fz S0 F ∧ (r2 K (rD (rFr K)) (rFr K)) F v_one one ∧ (rD (rFr K)) F v_placing placing ∧ ((∀ x q, gt one.1 x = some q → ∃ y, gt placing x = some y) ∧ (∀ x q, gt one.1 x = some q → bs q ≤ n) ∧ (∀ x q, gt placing x = some q → bs q ≤ n) ∧ bs one.2 ≤ n ∧ (2 * n + 2) * (one.1.length + 1) ≤ 3900) ∧ ∀ (v : V) (F' H' : Hp), Gr F H F' H' → (rFr K) F' v (one.2 + val one.1 (plc placing)) → (bs (one.2 + val one.1 (plc placing)) ≤ (2 * n + 2) * (one.1.length + 1)) → Q v H'
set_option linter.unusedVariables false in
theorem ok_value_at (T : Tx K mg) : FnOk P w K mg base CX0 4 T.a_value_at T.d_value_at ["one", "placing"] (sp_value_at K) := by
  refine T.F_value_at.ok sc_value_at (fun vs H Q E h => ?_) (fun cdv A outer s H vs Q E hr h => ?_)
  · obtain ⟨F, v_one, v_placing, one, placing, n, rfl, _⟩ := h
    rfl
  · obtain ⟨F, v_one, v_placing, one, placing, n, rfl, wd, cm, r_one, r_placing, hpre, k⟩ := h
    have hu := hu_of hr
    have gb := Gr0.refl wd
    obtain ⟨a1, v3, v4, rfl, sq2, h5, h6⟩ := r_one
    obtain ⟨a7, kvs8, rfl, rd9, dk10, nd11⟩ := h5
    obtain ⟨a12, rfl, sq13⟩ := h6
    obtain ⟨a14, kvs15, rfl, rd16, dk17, nd18⟩ := r_placing
    obtain ⟨hall, hm1, hm2, hm3, hn⟩ := hpre
    refine ⟨_, (ZSs.h (zss_cons (ps_set (i := 2) sc_value_at.nd rfl (Or.inl rfl) (pe_ix ix_tup (pv 0) pe_int (fun _ _ => rfl)))
          (zss_cons (ps_forD PassesOwn.never rfl (pe_ix ix_tup (pv 0) pe_int (fun _ _ => rfl)) (pg_tup rfl (pgs_cons (pg_name (i := 3) sc_value_at.nd rfl (Or.inl rfl)) (pgs_cons (pg_name (i := 4) sc_value_at.nd rfl (Or.inl rfl)) pgs_nil))) (pss_one (ps_set (i := 2) sc_value_at.nd rfl (Or.inl rfl) (pe_call ((ok_plus T).mono (by decide)) hr rfl T.m_plus T.F_plus.kp T.b_plus .nil pass0 (pa_cons (pv 2) (pa_cons (pe_call ((ok_times T).mono (by decide)) hr rfl T.m_times T.F_times.kp T.b_times .nil pass0 (pa_cons (pv 4) (pa_cons (pe_dget hu (pv 1) (pv 3) (fun _ _ => rfl)) pa_nil))) pa_nil))))))
          (zss_one (ps_ret (pv 2)))))), ?_⟩
    have hn1 : 2 * n + 2 ≤ 3900 := Nat.le_trans (Nat.le_mul_of_pos_right _ (Nat.succ_pos _)) hn
    refine a_seq ?_
    refine a_asg ?_
    refine a_op ?_
    refine a_var rfl ?_
    refine a_c ?_
    refine a_ixT (Same.tup gb.s sq2) rfl ?_
    refine a_name ?_
    try dsimp only
    refine a_seq ?_
    refine a_forD ?_
    refine a_op ?_
    refine a_var rfl ?_
    refine a_c ?_
    refine a_ixT (Same.tup gb.s sq2) rfl ?_
    have fa24 := calm_at cm rd9
    have ha22 : H a7 = some (.dK kvs8) := gb.s _ _ fa24
    have fa21 : F a7 = none ∨ F a7 = some (.dK kvs8) := .inr fa24
    have dk23 := dk10
    have hnd := nd11
    have hdl := Dk.length dk23
    refine ⟨_, kvs8, rfl, ha22, fun ob19 hna20 => ?_⟩
    have gb25 := fz_gr (a := a7) (.frz ob19 (.dK kvs8)) gb
    have cm26 := fz_fz (a := a7) (z := (.frz ob19 (.dK kvs8))) cm
    have le27 := fz_le (ob := ob19) fa21
    refine for_items (a := a7) (ob := ob19) (kvs := kvs8) (fun i σ' H' => ∃ (F28 : Hp) (v_total29 : V) (total29 : Rat) (o30 : Option V) (o31 : Option V), σ' = [some (V.ref a1), some (V.ref a14), some v_total29, o30, o31] ∧ Gr0 (fz F a7 (.frz ob19 (.dK kvs8))) (fz H a7 (.frz ob19 (.dK kvs8))) F28 H' ∧ Fz (fun b => b = a7 ∨ S0 b) F28 ∧ Le F F28 ∧ (rFr K) F28 v_total29 total29 ∧ F28 a7 = fz F a7 (.frz ob19 (.dK kvs8)) a7 ∧ H' a7 = some (.frz ob19 (.dK kvs8)) ∧ (total29 = run (plc placing) one.2 (List.take i one.1) ∧ bs total29 ≤ (2 * n + 2) * (i + 1) ∧ i ≤ one.1.length)) ?_ ?_ ?_ ?_
    · exact ⟨(fz F a7 (.frz ob19 (.dK kvs8))), _, one.2, _, _, rfl, gb25, cm26, le27, ⟨_, rfl, (Le.tup le27 sq13)⟩, rfl, upd_same, by exact ⟨rfl, by omega, Nat.zero_le _⟩⟩
    · rintro i σ' H32 _ ⟨F33, v_total37, total37, o38, o39, rfl, gb34, cm35, le36, hr40, x41, x42, ⟨i1, i2, i3⟩⟩
      exact x42
    · rintro i43 ky59 y46 σ' H44 p47 hi45 ⟨F49, v_total53, total53, o54, o55, rfl, gb50, cm51, le52, hr56, x57, x58, ⟨i1, i2, i3⟩⟩ hp48
      obtain ⟨a60, rfl, sq61⟩ := hr56
      obtain ⟨unknown62, number63, hm64, rfl, hr65⟩ := Dk.get (Dk.mo le52 dk23) hi45
      obtain ⟨a70, rfl, sq71⟩ := hr65
      refine it2 (K := K) gb50.s hp48 (fun F66 H67 g68 e69 => ?_)
      have gb72 := gb50.tr g68
      have le73 := g68.le
      have cm74 := g68.fz cm51
      have za75 := g68.h _ _ x58
      have zf76 := g68.at x58 x57
      try dsimp only
      have hil := (List.getElem?_eq_some_iff.mp hm64).1
      have hgt := gt_of_mem hnd (List.mem_of_getElem? hm64)
      obtain ⟨y, hy⟩ := hall _ _ hgt
      have hb1 := hm1 _ _ hgt
      have hb2 := hm2 _ _ hy
      have hmul : (2 * n + 2) * (i43 + 1 + 1) = (2 * n + 2) * (i43 + 1) + (2 * n + 2) := Nat.mul_succ _ _
      have hle : (2 * n + 2) * (i43 + 1 + 1) ≤ (2 * n + 2) * (one.1.length + 1) := Nat.mul_le_mul_left _ (by omega)
      refine a_asg ?_
      refine a_call ?_
      refine a_cons ?_
      refine a_var rfl ?_
      refine a_cons ?_
      refine a_call ?_
      refine a_cons ?_
      refine a_var rfl ?_
      refine a_cons ?_
      refine a_dget ?_
      refine a_var rfl ?_
      refine a_var rfl ?_
      obtain ⟨v77, h78, h79⟩ := Dk.some (Dk.mo (le52.trans le73) dk17) hy
      refine a_dgetK (Same.rd gb72.s (Le.dic (le52.trans le73) rd16)) h78 ?_
      obtain ⟨a81, rfl, sq82⟩ := h79
      refine a_nil ?_
      refine ⟨_, _, number63, y, rfl, (Same.tup gb72.s (Le.tup le73 sq71)), (Same.tup gb72.s sq82), sm_of (by walk_at "o"), sm_of (by walk_at "o"), fun p83 hp84 => ?_⟩
      obtain ⟨F85, g87, e88⟩ := al2 (o := (.tup (fr (number63 * y)))) gb72.s (by intro _ _ z; cases z) hp84
      generalize upd H67 p83 (.tup (fr (number63 * y))) = H86 at g87 ⊢
      have gb89 := gb72.tr g87
      have le90 := g87.le
      have cm91 := g87.fz cm74
      have za92 := g87.h _ _ za75
      have zf93 := g87.at za75 zf76
      have b94 := bs_mul number63 y
      refine a_nil ?_
      refine ⟨_, _, total53, (number63 * y), rfl, (Same.tup gb89.s (Le.tup (le73.trans le90) sq61)), (Same.tup gb89.s (SqT.of e88)), sm_of (by walk_at "o"), sm_of (by walk_at "o"), fun p95 hp96 => ?_⟩
      obtain ⟨F97, g99, e100⟩ := al2 (o := (.tup (fr (total53 + (number63 * y))))) gb89.s (by intro _ _ z; cases z) hp96
      generalize upd H86 p95 (.tup (fr (total53 + (number63 * y)))) = H98 at g99 ⊢
      have gb101 := gb89.tr g99
      have le102 := g99.le
      have cm103 := g99.fz cm91
      have za104 := g99.h _ _ za92
      have zf105 := g99.at za92 zf93
      have b106 := bs_add total53 (number63 * y)
      refine a_name ?_
      try dsimp only
      exact ⟨F97, _, (total53 + (number63 * y)), _, _, rfl, gb101, cm103, (((le52.trans le73).trans le90).trans le102), ⟨_, rfl, (SqT.of e100)⟩, zf105, za104, by exact ⟨by rw [run_snoc hm64, ← i1, plc_of hy], by omega, by omega⟩⟩
    · rintro σ' H107 ⟨F108, v_total112, total112, o113, o114, rfl, gb109, cm110, le111, hr115, x116, x117, ⟨i1, i2, i3⟩⟩
      obtain ⟨a118, rfl, sq119⟩ := hr115
      refine ⟨a7, ob19, kvs8, x117, hna20, ?_⟩
      refine thw gb ha22 fa21 gb109 x116 cm110 (fun F120 H121 gb122 cm123 le124 ea125 eb126 nF127 nH128 => ?_)
      try dsimp only
      have e : List.take one.1.length one.1 = one.1 := List.take_length
      rw [hdl, e, run_eq] at i1
      rw [hdl] at i2
      refine a_ret ?_
      refine a_var rfl ?_
      have hval : (total112 : Rat) = (one.2 + val one.1 (plc placing)) := by exact i1
      have rp129 : (rFr K) F120 (V.ref a118) (total112) := ⟨_, rfl, (Le.tup le124 sq119)⟩
      replace rp129 := Eq.mp (congrArg ((rFr K) F120 (V.ref a118)) hval) rp129
      exact k _ _ _ (Gr.of0 gb122 cm123) rp129 (by rw [← i1]; exact i2)
def sp_sum_at (K : PySem.W.Frag) : Sp := fun vs H Q _ => ∃ (F : Hp) (v_one v_placing : V) (one : ((List (Str × Rat)) × Str × Rat × Int × Int)) (placing : (List (Str × Rat))) (n : Nat), vs = [v_one, v_placing] ∧ Same F H ∧ Fz S0 F ∧ (r5 K (rD (rFr K)) rS (rFr K) rI rI) F v_one one ∧ (rD (rFr K)) F v_placing placing ∧ ((∀ x q, gt one.1 x = some q → ∃ y, gt placing x = some y) ∧ (∀ x q, gt one.1 x = some q → bs q ≤ n) ∧ (∀ x q, gt placing x = some q → bs q ≤ n) ∧ 1 ≤ n ∧ (2 * n + 2) * (one.1.length + 1) ≤ 3900) ∧ ∀ (v : V) (F' H' : Hp), Gr F H F' H' → (rFr K) F' v (val one.1 (plc placing)) → (bs (val one.1 (plc placing)) ≤ (2 * n + 2) * (one.1.length + 1)) → Q v H'
set_option linter.unusedVariables false in
theorem ok_sum_at (T : Tx K mg) : FnOk P w K mg base CX0 5 T.a_sum_at T.d_sum_at ["one", "placing"] (sp_sum_at K) := by
  refine T.F_sum_at.ok sc_sum_at (fun vs H Q E h => ?_) (fun cdv A outer s H vs Q E hr h => ?_)
  · obtain ⟨F, v_one, v_placing, one, placing, n, rfl, _⟩ := h
    rfl
  · obtain ⟨F, v_one, v_placing, one, placing, n, rfl, wd, cm, r_one, r_placing, hpre, k⟩ := h
    have hu := hu_of hr
    have gb := Gr0.refl wd
    obtain ⟨a1, v3, v4, v5, v6, v7, rfl, sq2, h8, h9, h10, h11, h12⟩ := r_one
    obtain ⟨a13, kvs14, rfl, rd15, dk16, nd17⟩ := h8
    obtain rfl : v4 = V.str one.2.1 := h9
    obtain ⟨a18, rfl, sq19⟩ := h10
    obtain rfl : v6 = V.int one.2.2.2.1 := h11
    obtain rfl : v7 = V.int one.2.2.2.2 := h12
    obtain ⟨a20, kvs21, rfl, rd22, dk23, nd24⟩ := r_placing
    obtain ⟨hall, hm1, hm2, hm3, hn⟩ := hpre
    refine ⟨_, (pss_one (ps_ret (pe_call ((ok_value_at T).mono (by decide)) hr rfl T.m_value_at T.F_value_at.kp T.b_value_at .nil pass0 (pa_cons (pe_tup (pa_cons (pe_ix ix_tup (pv 0) pe_int (fun _ _ => rfl)) (pa_cons (pe_glob (v := .ref T.c_NOUGHT) rfl T.m_NOUGHT rfl) pa_nil))) (pa_cons (pv 1) pa_nil))))), ?_⟩
    refine a_ret ?_
    refine a_call ?_
    refine a_cons ?_
    refine a_tup ?_
    refine a_cons ?_
    refine a_op ?_
    refine a_var rfl ?_
    refine a_c ?_
    refine a_ixT (Same.tup gb.s sq2) rfl ?_
    refine a_cons ?_
    refine a_c ?_
    refine a_nil ?_
    refine ⟨by show 2 ≤ sizeLine; decide, fun p25 hp26 => ?_⟩
    obtain ⟨F27, g29, e30⟩ := al2 (o := (.tup [V.ref a13, V.ref T.c_NOUGHT])) gb.s (by intro _ _ z; cases z) hp26
    generalize upd H p25 (.tup [V.ref a13, V.ref T.c_NOUGHT]) = H28 at g29 ⊢
    have gb31 := gb.tr g29
    have le32 := g29.le
    have cm33 := g29.fz cm
    refine a_cons ?_
    refine a_var rfl ?_
    refine a_nil ?_
    refine ⟨F27, _, _, (one.1, 0), placing, n, rfl, gb31.s, cm33, ⟨_, _, _, rfl, (SqT.of e30), ⟨_, _, rfl, (Le.dic le32 rd15), (Dk.mo le32 dk16), nd17⟩, ⟨_, rfl, (Le.tup le32 (.inr T.t_NOUGHT))⟩⟩, ⟨_, _, rfl, (Le.dic le32 rd22), (Dk.mo le32 dk23), nd24⟩, (by exact ⟨hall, hm1, hm2, by rw [bs_zero]; exact hm3, hn⟩), ?_⟩
    rintro v34 F35 H36  g38 hr39 hp40
    have gb41 := gb31.tr g38
    have le42 := g38.le
    have cm43 := g38.fz cm33
    obtain ⟨a44, rfl, sq45⟩ := hr39
    have hval : ((((one.1, 0)).2 + val ((one.1, 0)).1 (plc placing)) : Rat) = (val one.1 (plc placing)) := by exact Rat.zero_add _
    have rp46 : (rFr K) F35 (V.ref a44) ((((one.1, 0)).2 + val ((one.1, 0)).1 (plc placing))) := ⟨_, rfl, sq45⟩
    replace rp46 := Eq.mp (congrArg ((rFr K) F35 (V.ref a44)) hval) rp46
    exact k _ _ _ (Gr.of0 gb41 cm43) rp46 (by rw [Rat.zero_add] at hp40; exact hp40)
def sp_missed (K : PySem.W.Frag) : Sp := fun vs H Q _ => ∃ (F : Hp) (v_one v_placing : V) (one : ((List (Str × Rat)) × Str × Rat × Int × Int)) (placing : (List (Str × Rat))) (n : Nat), vs = [v_one, v_placing] ∧ Same F H ∧ Fz S0 F ∧ (r5 K (rD (rFr K)) rS (rFr K) rI rI) F v_one one ∧ (rD (rFr K)) F v_placing placing ∧ ((∀ x q, gt one.1 x = some q → ∃ y, gt placing x = some y) ∧ (∀ x q, gt one.1 x = some q → bs q ≤ n) ∧ (∀ x q, gt placing x = some q → bs q ≤ n) ∧ 1 ≤ n ∧ bs one.2.2.1 ≤ 1800 ∧ (2 * n + 2) * (one.1.length + 1) ≤ 1800) ∧ ∀ (v : V) (F' H' : Hp), Gr F H F' H' → (rFr K) F' v (missR placing one) → (bs (missR placing one) ≤ bs one.2.2.1 + (2 * n + 2) * (one.1.length + 1) + 4) → Q v H'
set_option linter.unusedVariables false in
theorem ok_missed (T : Tx K mg) : FnOk P w K mg base CX0 6 T.a_missed T.d_missed ["one", "placing"] (sp_missed K) := by
  refine T.F_missed.ok sc_missed (fun vs H Q E h => ?_) (fun cdv A outer s H vs Q E hr h => ?_)
  · obtain ⟨F, v_one, v_placing, one, placing, n, rfl, _⟩ := h
    rfl
  · obtain ⟨F, v_one, v_placing, one, placing, n, rfl, wd, cm, r_one, r_placing, hpre, k⟩ := h
    have hu := hu_of hr
    have gb := Gr0.refl wd
    obtain ⟨a1, v3, v4, v5, v6, v7, rfl, sq2, h8, h9, h10, h11, h12⟩ := r_one
    obtain ⟨a13, kvs14, rfl, rd15, dk16, nd17⟩ := h8
    obtain rfl : v4 = V.str one.2.1 := h9
    obtain ⟨a18, rfl, sq19⟩ := h10
    obtain rfl : v6 = V.int one.2.2.2.1 := h11
    obtain rfl : v7 = V.int one.2.2.2.2 := h12
    obtain ⟨a20, kvs21, rfl, rd22, dk23, nd24⟩ := r_placing
    obtain ⟨hall, hm1, hm2, hm3, hm4, hn⟩ := hpre
    refine ⟨_, (ZSs.h (zss_cons (ps_set (i := 2) sc_missed.nd rfl (Or.inl rfl) (pe_call ((ok_minus T).mono (by decide)) hr rfl T.m_minus T.F_minus.kp T.b_minus .nil pass0 (pa_cons (pe_call ((ok_sum_at T).mono (by decide)) hr rfl T.m_sum_at T.F_sum_at.kp T.b_sum_at .nil pass0 (pa_cons (pv 0) (pa_cons (pv 1) pa_nil))) (pa_cons (pe_ix ix_tup (pv 0) pe_int (fun _ _ => rfl)) pa_nil))))
          (zss_cons (ps_if (PW.pt (pw_and (pt_val (pe_call ((ok_under T).mono (by decide)) hr rfl T.m_under T.F_under.kp T.b_under .nil pass0 (pa_cons (pv 2) (pa_cons (pe_glob (v := .ref T.c_NOUGHT) rfl T.m_NOUGHT rfl) pa_nil)))) (pw_and1 (pt_cmpR op_ne (pe_ix ix_tup (pv 0) pe_int (fun _ _ => rfl)) pe_str (nomark _))))) (pss_one (ps_ret (pe_call ((ok_minus T).mono (by decide)) hr rfl T.m_minus T.F_minus.kp T.b_minus .nil pass0 (pa_cons (pe_glob (v := .ref T.c_NOUGHT) rfl T.m_NOUGHT rfl) (pa_cons (pv 2) pa_nil))))) pss_nil)
          (zss_cons (ps_if (PW.pt (pw_and (pt_val (pe_call ((ok_under T).mono (by decide)) hr rfl T.m_under T.F_under.kp T.b_under .nil pass0 (pa_cons (pe_glob (v := .ref T.c_NOUGHT) rfl T.m_NOUGHT rfl) (pa_cons (pv 2) pa_nil)))) (pw_and1 (pt_cmpR op_ne (pe_ix ix_tup (pv 0) pe_int (fun _ _ => rfl)) pe_str (nomark _))))) (pss_one (ps_ret (pv 2))) pss_nil)
          (zss_one (ps_ret (pe_glob (v := .ref T.c_NOUGHT) rfl T.m_NOUGHT rfl))))))), ?_⟩
    have b0 := bs_zero
    refine a_seq ?_
    refine a_asg ?_
    refine a_call ?_
    refine a_cons ?_
    refine a_call ?_
    refine a_cons ?_
    refine a_var rfl ?_
    refine a_cons ?_
    refine a_var rfl ?_
    refine a_nil ?_
    refine ⟨F, _, _, one, placing, n, rfl, gb.s, cm, ⟨_, _, _, _, _, _, rfl, sq2, ⟨_, _, rfl, rd15, dk16, nd17⟩, rfl, ⟨_, rfl, sq19⟩, rfl, rfl⟩, ⟨_, _, rfl, rd22, dk23, nd24⟩, (by exact ⟨hall, hm1, hm2, hm3, by omega⟩), ?_⟩
    rintro v25 F26 H27  g29 hr30 hp31
    have gb32 := gb.tr g29
    have le33 := g29.le
    have cm34 := g29.fz cm
    obtain ⟨a35, rfl, sq36⟩ := hr30
    refine a_cons ?_
    refine a_op ?_
    refine a_var rfl ?_
    refine a_c ?_
    refine a_ixT (Same.tup gb32.s (Le.tup le33 sq2)) rfl ?_
    refine a_nil ?_
    refine ⟨_, _, (val one.1 (plc placing)), one.2.2.1, rfl, (Same.tup gb32.s sq36), (Same.tup gb32.s (Le.tup le33 sq19)), sm_of (by walk_at "o"), sm_of (by walk_at "o"), fun p37 hp38 => ?_⟩
    obtain ⟨F39, g41, e42⟩ := al2 (o := (.tup (fr ((val one.1 (plc placing)) - one.2.2.1)))) gb32.s (by intro _ _ z; cases z) hp38
    generalize upd H27 p37 (.tup (fr ((val one.1 (plc placing)) - one.2.2.1))) = H40 at g41 ⊢
    have gb43 := gb32.tr g41
    have le44 := g41.le
    have cm45 := g41.fz cm34
    have b46 := bs_sub (val one.1 (plc placing)) one.2.2.1
    refine a_name ?_
    try dsimp only
    refine a_seq ?_
    refine a_if ?_
    refine a_and ?_
    refine a_tB ?_
    refine a_call ?_
    refine a_cons ?_
    refine a_var rfl ?_
    refine a_cons ?_
    refine a_c ?_
    refine a_nil ?_
    refine ⟨_, _, ((val one.1 (plc placing)) - one.2.2.1), 0, rfl, (Same.tup gb43.s (SqT.of e42)), (Same.tup gb43.s (Le.tup (le33.trans le44) (.inr T.t_NOUGHT))), sm_of (by walk_at "o"), sm_of (by walk_at "o"), ?_⟩
    refine a_bl ?_
    refine iteD (fun c47 => ?_) (fun c47 => ?_)
    · refine a_test ?_
      refine a_op ?_
      refine a_op ?_
      refine a_var rfl ?_
      refine a_c ?_
      refine a_ixT (Same.tup gb43.s (Le.tup (le33.trans le44) sq2)) rfl ?_
      refine a_c ?_
      have ln48 : ("most" : Str).length = 4 := by decide +kernel
      refine a_neS ?_
      refine a_bl ?_
      refine iteDN (fun c49 => ?_) (fun c49 => ?_)
      · refine a_ret ?_
        refine a_call ?_
        refine a_cons ?_
        refine a_c ?_
        refine a_cons ?_
        refine a_var rfl ?_
        refine a_nil ?_
        refine ⟨_, _, 0, ((val one.1 (plc placing)) - one.2.2.1), rfl, (Same.tup gb43.s (Le.tup (le33.trans le44) (.inr T.t_NOUGHT))), (Same.tup gb43.s (SqT.of e42)), sm_of (by walk_at "o"), sm_of (by walk_at "o"), fun p50 hp51 => ?_⟩
        obtain ⟨F52, g54, e55⟩ := al2 (o := (.tup (fr (0 - ((val one.1 (plc placing)) - one.2.2.1))))) gb43.s (by intro _ _ z; cases z) hp51
        generalize upd H40 p50 (.tup (fr (0 - ((val one.1 (plc placing)) - one.2.2.1)))) = H53 at g54 ⊢
        have gb56 := gb43.tr g54
        have le57 := g54.le
        have cm58 := g54.fz cm45
        have b59 := bs_sub 0 ((val one.1 (plc placing)) - one.2.2.1)
        have hval : ((0 - ((val one.1 (plc placing)) - one.2.2.1)) : Rat) = (missR placing one) := by unfold missR misd; rw [if_pos (by simp_all)]
        have rp60 : (rFr K) F52 (V.ref p50) ((0 - ((val one.1 (plc placing)) - one.2.2.1))) := ⟨_, rfl, (SqT.of e55)⟩
        replace rp60 := Eq.mp (congrArg ((rFr K) F52 (V.ref p50)) hval) rp60
        exact k _ _ _ (Gr.of0 gb56 cm58) rp60 (by rw [← hval]; omega)
      · refine a_next ?_
        try dsimp only
        refine a_seq ?_
        refine a_if ?_
        refine a_and ?_
        refine a_tB ?_
        refine a_call ?_
        refine a_cons ?_
        refine a_c ?_
        refine a_cons ?_
        refine a_var rfl ?_
        refine a_nil ?_
        refine ⟨_, _, 0, ((val one.1 (plc placing)) - one.2.2.1), rfl, (Same.tup gb43.s (Le.tup (le33.trans le44) (.inr T.t_NOUGHT))), (Same.tup gb43.s (SqT.of e42)), sm_of (by walk_at "o"), sm_of (by walk_at "o"), ?_⟩
        refine a_bl ?_
        refine iteD (fun c61 => ?_) (fun c61 => ?_)
        · refine a_test ?_
          refine a_op ?_
          refine a_op ?_
          refine a_var rfl ?_
          refine a_c ?_
          refine a_ixT (Same.tup gb43.s (Le.tup (le33.trans le44) sq2)) rfl ?_
          refine a_c ?_
          have ln62 : ("least" : Str).length = 5 := by decide +kernel
          refine a_neS ?_
          refine a_bl ?_
          refine iteDN (fun c63 => ?_) (fun c63 => ?_)
          · refine a_ret ?_
            refine a_var rfl ?_
            have hval : (((val one.1 (plc placing)) - one.2.2.1) : Rat) = (missR placing one) := by unfold missR misd; rw [if_neg (by simp_all), if_pos (by simp_all)]
            have rp64 : (rFr K) F39 (V.ref p37) (((val one.1 (plc placing)) - one.2.2.1)) := ⟨_, rfl, (SqT.of e42)⟩
            replace rp64 := Eq.mp (congrArg ((rFr K) F39 (V.ref p37)) hval) rp64
            exact k _ _ _ (Gr.of0 gb43 cm45) rp64 (by rw [← hval]; omega)
          · refine a_next ?_
            try dsimp only
            refine a_ret ?_
            refine a_c ?_
            have hval : (0 : Rat) = (missR placing one) := by unfold missR misd; rw [if_neg (by simp_all), if_neg (by simp_all)]
            have rp65 : (rFr K) F39 (V.ref T.c_NOUGHT) (0) := ⟨_, rfl, (Le.tup (le33.trans le44) (.inr T.t_NOUGHT))⟩
            replace rp65 := Eq.mp (congrArg ((rFr K) F39 (V.ref T.c_NOUGHT)) hval) rp65
            exact k _ _ _ (Gr.of0 gb43 cm45) rp65 (by rw [← hval]; omega)
        · refine iteF ?_
          refine a_next ?_
          try dsimp only
          refine a_ret ?_
          refine a_c ?_
          have hval : (0 : Rat) = (missR placing one) := by unfold missR misd; rw [if_neg (by simp_all), if_neg (by simp_all)]
          have rp66 : (rFr K) F39 (V.ref T.c_NOUGHT) (0) := ⟨_, rfl, (Le.tup (le33.trans le44) (.inr T.t_NOUGHT))⟩
          replace rp66 := Eq.mp (congrArg ((rFr K) F39 (V.ref T.c_NOUGHT)) hval) rp66
          exact k _ _ _ (Gr.of0 gb43 cm45) rp66 (by rw [← hval]; omega)
    · refine iteF ?_
      refine a_next ?_
      try dsimp only
      refine a_seq ?_
      refine a_if ?_
      refine a_and ?_
      refine a_tB ?_
      refine a_call ?_
      refine a_cons ?_
      refine a_c ?_
      refine a_cons ?_
      refine a_var rfl ?_
      refine a_nil ?_
      refine ⟨_, _, 0, ((val one.1 (plc placing)) - one.2.2.1), rfl, (Same.tup gb43.s (Le.tup (le33.trans le44) (.inr T.t_NOUGHT))), (Same.tup gb43.s (SqT.of e42)), sm_of (by walk_at "o"), sm_of (by walk_at "o"), ?_⟩
      refine a_bl ?_
      refine iteD (fun c67 => ?_) (fun c67 => ?_)
      · refine a_test ?_
        refine a_op ?_
        refine a_op ?_
        refine a_var rfl ?_
        refine a_c ?_
        refine a_ixT (Same.tup gb43.s (Le.tup (le33.trans le44) sq2)) rfl ?_
        refine a_c ?_
        have ln68 : ("least" : Str).length = 5 := by decide +kernel
        refine a_neS ?_
        refine a_bl ?_
        refine iteDN (fun c69 => ?_) (fun c69 => ?_)
        · refine a_ret ?_
          refine a_var rfl ?_
          have hval : (((val one.1 (plc placing)) - one.2.2.1) : Rat) = (missR placing one) := by unfold missR misd; rw [if_neg (by simp_all), if_pos (by simp_all)]
          have rp70 : (rFr K) F39 (V.ref p37) (((val one.1 (plc placing)) - one.2.2.1)) := ⟨_, rfl, (SqT.of e42)⟩
          replace rp70 := Eq.mp (congrArg ((rFr K) F39 (V.ref p37)) hval) rp70
          exact k _ _ _ (Gr.of0 gb43 cm45) rp70 (by rw [← hval]; omega)
        · refine a_next ?_
          try dsimp only
          refine a_ret ?_
          refine a_c ?_
          have hval : (0 : Rat) = (missR placing one) := by unfold missR misd; rw [if_neg (by simp_all), if_neg (by simp_all)]
          have rp71 : (rFr K) F39 (V.ref T.c_NOUGHT) (0) := ⟨_, rfl, (Le.tup (le33.trans le44) (.inr T.t_NOUGHT))⟩
          replace rp71 := Eq.mp (congrArg ((rFr K) F39 (V.ref T.c_NOUGHT)) hval) rp71
          exact k _ _ _ (Gr.of0 gb43 cm45) rp71 (by rw [← hval]; omega)
      · refine iteF ?_
        refine a_next ?_
        try dsimp only
        refine a_ret ?_
        refine a_c ?_
        have hval : (0 : Rat) = (missR placing one) := by unfold missR misd; rw [if_neg (by simp_all), if_neg (by simp_all)]
        have rp72 : (rFr K) F39 (V.ref T.c_NOUGHT) (0) := ⟨_, rfl, (Le.tup (le33.trans le44) (.inr T.t_NOUGHT))⟩
        replace rp72 := Eq.mp (congrArg ((rFr K) F39 (V.ref T.c_NOUGHT)) hval) rp72
        exact k _ _ _ (Gr.of0 gb43 cm45) rp72 (by rw [← hval]; omega)
def sp_fits (K : PySem.W.Frag) : Sp := fun vs H Q _ => ∃ (F : Hp) (v_rows v_placing : V) (rows : (List ((List (Str × Rat)) × Str × Rat × Int × Int))) (placing : (List (Str × Rat))), vs = [v_rows, v_placing] ∧ Same F H ∧ Fz S0 F ∧ (rL K (r5 K (rD (rFr K)) rS (rFr K) rI rI)) F v_rows rows ∧ (rD (rFr K)) F v_placing placing ∧ (rows.length ≤ 20 ∧ (∀ r ∈ rows, RowOk placing r) ∧ PlOk placing) ∧ ∀ (v : V) (F' H' : Hp), Gr F H F' H' → rB F' v (fitsB rows placing) → Q v H'
set_option linter.unusedVariables false in
theorem ok_fits (T : Tx K mg) : FnOk P w K mg base CX0 7 T.a_fits T.d_fits ["rows", "placing"] (sp_fits K) := by
  refine T.F_fits.ok sc_fits (fun vs H Q E h => ?_) (fun cdv A outer s H vs Q E hr h => ?_)
  · obtain ⟨F, v_rows, v_placing, rows, placing, rfl, _⟩ := h
    rfl
  · obtain ⟨F, v_rows, v_placing, rows, placing, rfl, wd, cm, r_rows, r_placing, hpre, k⟩ := h
    have hu := hu_of hr
    have gb := Gr0.refl wd
    obtain ⟨a1, vs2, rfl, sq3, al4⟩ := r_rows
    obtain ⟨a5, kvs6, rfl, rd7, dk8, nd9⟩ := r_placing
    obtain ⟨w1, w2, w3⟩ := hpre
    refine ⟨_, (ZSs.h (zss_cons (ps_if (pt_val (pe_callB (call_anyB rfl) rfl T.z_any rfl (pa_cons (pe_thaw (pe_comp (N := ["told"]) (ix := [none]) rfl (pi_vals (pv 1) rfl rfl) (fun _ _ _ _ _ => (pg_name (i := 0) (show List.Nodup (["told"] : List Str) from by decide) rfl (Or.inl rfl))) (fun _ _ _ _ _ => pts_nil) (fun _ _ _ _ _ => (pe_call ((ok_under T).mono (by decide)) hr rfl T.m_under T.F_under.kp T.b_under .nil pass0 (pa_cons (pv 0) (pa_cons (pe_glob (v := .ref T.c_NOUGHT) rfl T.m_NOUGHT rfl) pa_nil)))) True.intro)) pa_nil))) (pss_one (ps_ret pe_bl)) pss_nil)
          (zss_one (ps_ret (pe_callB (call_allB rfl) rfl T.z_all rfl (pa_cons (pe_comp (N := ["one", "placing"]) (ix := [none, some 1]) rfl (pi_list (pv 0)) (fun _ _ _ _ _ => (pg_name (i := 0) (show List.Nodup (["one", "placing"] : List Str) from by decide) rfl (Or.inl rfl))) (fun _ _ _ _ _ => (pts_one (pt_cmpR op_eq (pe_ix (show IxR _ (rIxT K) from ix_tup) (pv 0) pe_int (fun _ _ => rfl)) (pe_glob (v := .int (0)) rfl T.m_MUST ⟨_, rfl⟩) (nomark _)))) (fun _ _ _ _ _ => (pe_cmpR (op_eqQ (K := K) (A := (rFr K)) rfl hr.units) (pe_call ((ok_missed T).mono (by decide)) hr rfl T.m_missed T.F_missed.kp T.b_missed .nil pass0 (pa_cons (pv 0) (pa_cons (pv 1) pa_nil))) (pe_glob (v := .ref T.c_NOUGHT) rfl T.m_NOUGHT rfl) (nomark _))) ⟨rfl, rfl, rfl, True.intro⟩) pa_nil)))))), ?_⟩
    refine a_seq ?_
    refine a_if ?_
    refine a_tB ?_
    refine a_cb ?_
    refine a_cons ?_
    refine a_thawE ?_
    refine a_comp ?_
    refine a_idk ?_
    refine a_var rfl ?_
    have fa15 := calm_at cm rd7
    have ha13 : H a5 = some (.dK kvs6) := gb.s _ _ fa15
    have fa12 : F a5 = none ∨ F a5 = some (.dK kvs6) := .inr fa15
    have dk14 := dk8
    have hnd := nd9
    have hdl := Dk.length dk14
    have hml16 : (placing).length ≤ 1000000 := by (have := w3.2; omega)
    refine ⟨_, kvs6, rfl, ha13, fun ob10 hna11 => ?_⟩
    have gb17 := fz_gr (a := a5) (.frz ob10 (.dK kvs6)) gb
    have cm18 := fz_fz (a := a5) (z := (.frz ob10 (.dK kvs6))) cm
    have le19 := fz_le (ob := ob10) fa12
    refine comp_dk (sel := selV) (a := a5) (ob := ob10) (kvs := kvs6) (fun i acc H' => ∃ (F20 : Hp) (ts21 : List Bool), True ∧ Gr0 (fz F a5 (.frz ob10 (.dK kvs6))) (fz H a5 (.frz ob10 (.dK kvs6))) F20 H' ∧ Fz (fun b => b = a5 ∨ S0 b) F20 ∧ Le F F20 ∧ F20 a5 = fz F a5 (.frz ob10 (.dK kvs6)) a5 ∧ H' a5 = some (.frz ob10 (.dK kvs6)) ∧ Al rB F20 acc ts21 ∧ ts21.length ≤ i ∧ (ts21 = negs (placing.take i))) ?_ ?_ ?_ ?_
    · exact ⟨(fz F a5 (.frz ob10 (.dK kvs6))), [], True.intro, gb17, cm18, le19, rfl, upd_same, (show Al rB (fz F a5 (.frz ob10 (.dK kvs6))) [] [] from True.intro), (by first | (simp; done) | (rw [List.length_append]; simp only [List.length_cons, List.length_nil]; omega) | omega), by rfl⟩
    · rintro i acc H22 _ ⟨F23, ts27, _, gb24, cm25, le26, x30, x31, al28, tl29, q1⟩
      exact x31
    · rintro i32 ky37 y35 acc36 H33 hi34 ⟨F38, ts42, _, gb39, cm40, le41, x45, x46, al43, tl44, q1⟩
      obtain ⟨x47, y48, hm49, rfl, hr50⟩ := Dk.get (Dk.mo le41 dk14) hi34
      obtain ⟨a51, rfl, sq52⟩ := hr50
      have hil := (List.getElem?_eq_some_iff.mp hm49).1
      refine a_name ?_
      refine ⟨Wk.non (Wk.nil), ?_⟩
      try dsimp only
      have u0 := w3.1 _ _ (gt_of_mem hnd (List.mem_of_getElem? hm49))
      have b0 := bs_zero
      refine a_yes ?_
      refine iteT ?_
      refine a_call ?_
      refine a_cons ?_
      refine a_var rfl ?_
      refine a_cons ?_
      refine a_c ?_
      refine a_nil ?_
      refine ⟨_, _, y48, 0, rfl, (Same.tup gb39.s sq52), (Same.tup gb39.s (Le.tup le41 (.inr T.t_NOUGHT))), sm_of (by walk_at "o"), sm_of (by walk_at "o"), ?_⟩
      refine ⟨by rw [Al.length al43]; have := sizeLine_big; omega, ?_⟩
      exact ⟨F38, (ts42 ++ [(decide (y48 < 0))]), True.intro, gb39, cm40, le41, x45, x46, (Al.snoc al43 rfl), (by first | (simp; done) | (rw [List.length_append]; simp only [List.length_cons, List.length_nil]; omega) | omega), by rw [q1]; exact (map_take_succ _ hm49).symm⟩
    · rintro acc54 H53 ⟨F55, ts59, _, gb56, cm57, le58, x62, x63, al60, tl61, q1⟩
      refine ⟨(by rw [Al.length al60]; have := sizeLine_big; omega), fun p64 hp65 => ?_⟩
      obtain ⟨F66, g68, e69⟩ := al2 (o := (.lst acc54)) gb56.s (by intro _ _ z; cases z) hp65
      generalize upd H53 p64 (.lst acc54) = H67 at g68 ⊢
      have gb70 := gb56.tr g68
      have le71 := g68.le
      have cm72 := g68.fz cm57
      have za73 := g68.h _ _ x63
      have zf74 := g68.at x63 x62
      refine ⟨a5, ob10, kvs6, za73, hna11, ?_⟩
      obtain ⟨F75, gb77, cm78, le79, ea80, eb81, nF82, nH83⟩ := thwX gb ha13 fa12 gb70 zf74 cm72
      generalize upd H67 a5 (.dK kvs6) = H76 at gb77 eb81 nH83 ⊢
      rw [hdl, List.take_length] at q1
      refine a_nil ?_
      refine ⟨_, ts59, rfl, (by have z : SqL K _ _ _ := (Same.seq gb77.s (Le.lst le79 (SqL.of e69))); rw [Al.bools (Al.mo le79 (Al.mo le71 al60))] at z; exact z), ?_⟩
      refine a_bl ?_
      refine iteB (fun c84 => ?_) (fun c84 => ?_)
      · refine a_ret ?_
        refine a_c ?_
        have hval : (false : Bool) = (fitsB rows placing) := by unfold fitsB; rw [← q1, c84]; rfl
        have rp85 : rB F75 (V.bl false) (false) := rfl
        replace rp85 := Eq.mp (congrArg (rB F75 (V.bl false)) hval) rp85
        exact k _ _ _ (Gr.of0 gb77 cm78) rp85
      · refine a_next ?_
        try dsimp only
        refine a_ret ?_
        refine a_cb ?_
        refine a_cons ?_
        refine a_comp ?_
        refine a_ilist ?_
        refine a_var rfl ?_
        have hml88 : (rows).length ≤ 1000000 := by omega
        refine ⟨_, rfl, ⟨_, (Same.seq gb77.s (Le.lst ((le58.trans le71).trans le79) sq3))⟩, comp_list (K := K) (a := a1) (xs := vs2) (fun i acc H' => ∃ (F86 : Hp) (ts87 : List Bool), True ∧ Gr0 F H F86 H' ∧ Fz S0 F86 ∧ Le F75 F86 ∧ Al rB F86 acc ts87 ∧ ts87.length ≤ i ∧ (ts87 = oks placing (rows.take i))) ?_ ?_ ?_ ?_⟩
        · exact ⟨F75, [], True.intro, gb77, cm78, Le.refl _, (show Al rB F75 [] [] from True.intro), (by first | (simp; done) | (rw [List.length_append]; simp only [List.length_cons, List.length_nil]; omega) | omega), by rfl⟩
        · rintro i acc H89 _ ⟨F90, ts94, _, gb91, cm92, le93, al95, tl96, q2⟩
          exact (Same.seq gb91.s (Le.lst (((le58.trans le71).trans le79).trans le93) sq3))
        · rintro i97 y100 acc101 H98 hi99 ⟨F102, ts106, _, gb103, cm104, le105, al107, tl108, q2⟩
          obtain ⟨x109, hx110, hr111⟩ := Al.get (Al.mo (((le58.trans le71).trans le79).trans le105) al4) hi99
          have hil := (List.getElem?_eq_some_iff.mp hx110).1
          refine a_name ?_
          obtain ⟨a112, v114, v115, v116, v117, v118, rfl, sq113, h119, h120, h121, h122, h123⟩ := hr111
          obtain ⟨a124, kvs125, rfl, rd126, dk127, nd128⟩ := h119
          obtain rfl : v115 = V.str x109.2.1 := h120
          obtain ⟨a129, rfl, sq130⟩ := h121
          obtain rfl : v117 = V.int x109.2.2.2.1 := h122
          obtain rfl : v118 = V.int x109.2.2.2.2 := h123
          refine ⟨Wk.non (Wk.som (Wk.nil)), ?_⟩
          try dsimp only
          have u1 := w2 _ (List.mem_of_getElem? hx110)
          refine a_test ?_
          refine a_op ?_
          refine a_op ?_
          refine a_var rfl ?_
          refine a_c ?_
          refine a_ixT (Same.tup gb103.s sq113) rfl ?_
          refine a_c ?_
          refine a_eqI ?_
          refine a_bl ?_
          refine iteD (fun c131 => ?_) (fun c131 => ?_)
          · refine a_op ?_
            refine a_call ?_
            refine a_cons ?_
            refine a_var rfl ?_
            refine a_cons ?_
            refine a_var rfl ?_
            refine a_nil ?_
            refine ⟨F102, _, _, x109, placing, 5, rfl, gb103.s, cm104, ⟨_, _, _, _, _, _, rfl, sq113, ⟨_, _, rfl, rd126, dk127, nd128⟩, rfl, ⟨_, rfl, sq130⟩, rfl, rfl⟩, ⟨_, _, rfl, (Le.dic (((le58.trans le71).trans le79).trans le105) rd7), (Dk.mo (((le58.trans le71).trans le79).trans le105) dk8), nd9⟩, (by exact ⟨u1.keys, u1.parts, w3.1, by decide, by have := u1.num; omega, by have := u1.len; omega⟩), ?_⟩
            rintro v132 F133 H134  g136 hr137 hp138
            have gb139 := gb103.tr g136
            have le140 := g136.le
            have cm141 := g136.fz cm104
            obtain ⟨a142, rfl, sq143⟩ := hr137
            refine a_c ?_
            refine ⟨F133, (missR placing x109), 0, gb139.s, ⟨_, rfl, sq143⟩, ⟨_, rfl, (Le.tup ((((le58.trans le71).trans le79).trans le105).trans le140) (.inr T.t_NOUGHT))⟩, ?_⟩
            refine ⟨by rw [Al.length (Al.mo le140 al107)]; have := sizeLine_big; omega, ?_⟩
            exact ⟨F133, (ts106 ++ [(decide ((missR placing x109) = 0))]), True.intro, gb139, cm141, (le105.trans le140), (Al.snoc (Al.mo le140 al107) rfl), (by first | (simp; done) | (rw [List.length_append]; simp only [List.length_cons, List.length_nil]; omega) | omega), by rw [q2]; exact (oks_yes hx110 (by assumption)).symm⟩
          · exact ⟨F102, ts106, True.intro, gb103, cm104, le105, al107, (by first | (simp; done) | (rw [List.length_append]; simp only [List.length_cons, List.length_nil]; omega) | omega), by rw [q2]; exact (oks_no hx110 (by assumption)).symm⟩
        · rintro acc145 H144 ⟨F146, ts150, _, gb147, cm148, le149, al151, tl152, q2⟩
          have hlen := Al.length (Al.mo (((le58.trans le71).trans le79).trans le149) al4)
          refine ⟨(by rw [Al.length al151]; have := sizeLine_big; omega), fun p153 hp154 => ?_⟩
          obtain ⟨F155, g157, e158⟩ := al2 (o := (.lst acc145)) gb147.s (by intro _ _ z; cases z) hp154
          generalize upd H144 p153 (.lst acc145) = H156 at g157 ⊢
          have gb159 := gb147.tr g157
          have le160 := g157.le
          have cm161 := g157.fz cm148
          refine a_nil ?_
          refine ⟨_, ts150, rfl, (by have z : SqL K _ _ _ := (Same.seq gb159.s (SqL.of e158)); rw [Al.bools (Al.mo le160 al151)] at z; exact z), ?_⟩
          have hval : ((ts150.all id) : Bool) = (fitsB rows placing) := by (rw [hlen, List.take_length] at q2; unfold fitsB; rw [← q1, ← q2]; simp_all)
          have rp162 : rB F155 (V.bl (ts150.all id)) ((ts150.all id)) := rfl
          replace rp162 := Eq.mp (congrArg (rB F155 (V.bl (ts150.all id))) hval) rp162
          exact k _ _ _ (Gr.of0 gb159 cm161) rp162
def sp_goal_at (K : PySem.W.Frag) : Sp := fun vs H Q _ => ∃ (F : Hp) (v_rows v_goal v_placing : V) (rows : (List ((List (Str × Rat)) × Str × Rat × Int × Int))) (goal : Int) (placing : (List (Str × Rat))), vs = [v_rows, v_goal, v_placing] ∧ Same F H ∧ Fz S0 F ∧ (rL K (r5 K (rD (rFr K)) rS (rFr K) rI rI)) F v_rows rows ∧ rI F v_goal goal ∧ (rD (rFr K)) F v_placing placing ∧ (rows.length ≤ 20 ∧ (∀ r ∈ rows, RowOk placing r) ∧ PlOk placing) ∧ ∀ (v : V) (F' H' : Hp), Gr F H F' H' → (rFr K) F' v (goalR placing goal rows) → Q v H'
set_option linter.unusedVariables false in
theorem ok_goal_at (T : Tx K mg) : FnOk P w K mg base CX0 7 T.a_goal_at T.d_goal_at ["rows", "goal", "placing"] (sp_goal_at K) := by
  refine T.F_goal_at.ok sc_goal_at (fun vs H Q E h => ?_) (fun cdv A outer s H vs Q E hr h => ?_)
  · obtain ⟨F, v_rows, v_goal, v_placing, rows, goal, placing, rfl, _⟩ := h
    rfl
  · obtain ⟨F, v_rows, v_goal, v_placing, rows, goal, placing, rfl, wd, cm, r_rows, r_goal, r_placing, hpre, k⟩ := h
    have hu := hu_of hr
    have gb := Gr0.refl wd
    obtain ⟨a1, vs2, rfl, sq3, al4⟩ := r_rows
    obtain rfl : v_goal = V.int goal := r_goal
    obtain ⟨a5, kvs6, rfl, rd7, dk8, nd9⟩ := r_placing
    obtain ⟨w1, w2, w3⟩ := hpre
    refine ⟨_, (ZSs.h (zss_cons (ps_if (pt_val (pe_callB call_isx rfl T.z_isinstance rfl (pa_cons (pv 1) (pa_cons (pe_bltn (v := .ty "str") rfl T.z_str rfl rfl) pa_nil)))) (pss_one (ps_ret (pe_dget hu (pv 2) (pv 1) (fun _ _ => rfl)))) pss_nil)
          (zss_cons (ps_set (i := 3) sc_goal_at.nd rfl (Or.inl rfl) (pe_glob (v := .ref T.c_NOUGHT) rfl T.m_NOUGHT rfl))
          (zss_cons (ps_for PassesOwn.never rfl (pi_list (pv 0)) (pg_name (i := 4) sc_goal_at.nd rfl (Or.inl rfl)) (pss_one (ps_if (pt_cmpR op_eq (pe_ix ix_tup (pv 4) pe_int (fun _ _ => rfl)) (pv 1) (nomark _)) (pss_one (ps_set (i := 3) sc_goal_at.nd rfl (Or.inl rfl) (pe_call ((ok_plus T).mono (by decide)) hr rfl T.m_plus T.F_plus.kp T.b_plus .nil pass0 (pa_cons (pv 3) (pa_cons (pe_call ((ok_times T).mono (by decide)) hr rfl T.m_times T.F_times.kp T.b_times .nil pass0 (pa_cons (pe_tup (pa_cons (pe_ix ix_tup (pv 4) pe_int (fun _ _ => rfl)) (pa_cons pe_int pa_nil))) (pa_cons (pe_call ((ok_missed T).mono (by decide)) hr rfl T.m_missed T.F_missed.kp T.b_missed .nil pass0 (pa_cons (pv 4) (pa_cons (pv 2) pa_nil))) pa_nil))) pa_nil))))) pss_nil)))
          (zss_one (ps_ret (pv 3))))))), ?_⟩
    refine a_seq ?_
    refine a_if ?_
    refine a_tB ?_
    refine a_cb ?_
    refine a_cons ?_
    refine a_var rfl ?_
    refine a_cons ?_
    refine a_c ?_
    refine a_nil ?_
    refine ⟨_, _, _, false, _, rfl, tx_int, rfl, rfl, ?_⟩
    refine a_bl ?_
    refine iteF ?_
    refine a_next ?_
    try dsimp only
    refine a_seq ?_
    refine a_asg ?_
    refine a_c ?_
    refine a_name ?_
    try dsimp only
    refine a_seq ?_
    refine a_for ?_
    refine a_ilist ?_
    refine a_var rfl ?_
    refine ⟨_, rfl, ⟨_, (Same.seq gb.s sq3)⟩, for_list (xs := vs2) (K := K) (a := a1) (fun i σ' H' => ∃ (F10 : Hp) (v_total11 : V) (total11 : Rat) (o12 : Option V), σ' = [some (V.ref a1), some (V.int goal), some (V.ref a5), some v_total11, o12] ∧ Gr0 F H F10 H' ∧ Fz S0 F10 ∧ Le F F10 ∧ (rFr K) F10 v_total11 total11 ∧ (total11 = goalR placing goal (rows.take i) ∧ bs total11 ≤ 200 * i + 1)) ?_ ?_ ?_ ?_⟩
    · exact ⟨F, _, 0, _, rfl, gb, cm, Le.refl _, ⟨_, rfl, (.inr T.t_NOUGHT)⟩, by exact ⟨rfl, by rw [bs_zero]; omega⟩⟩
    · rintro i σ' H13 _ ⟨F14, v_total18, total18, o19, rfl, gb15, cm16, le17, hr20, ⟨q1, q2⟩⟩
      obtain ⟨a21, rfl, sq22⟩ := hr20
      exact (Same.seq gb15.s (Le.lst le17 sq3))
    · rintro i23 y26 σ' H24 hi25 ⟨F27, v_total31, total31, o32, rfl, gb28, cm29, le30, hr33, ⟨q1, q2⟩⟩
      obtain ⟨a34, rfl, sq35⟩ := hr33
      obtain ⟨x36, hx37, hr38⟩ := Al.get (Al.mo le30 al4) hi25
      refine a_name ?_
      try dsimp only
      obtain ⟨a39, v41, v42, v43, v44, v45, rfl, sq40, h46, h47, h48, h49, h50⟩ := hr38
      obtain ⟨a51, kvs52, rfl, rd53, dk54, nd55⟩ := h46
      obtain rfl : v42 = V.str x36.2.1 := h47
      obtain ⟨a56, rfl, sq57⟩ := h48
      obtain rfl : v44 = V.int x36.2.2.2.1 := h49
      obtain rfl : v45 = V.int x36.2.2.2.2 := h50
      have u1 := w2 _ (List.mem_of_getElem? hx37)
      have u2 := bs_w u1.wt.1 u1.wt.2
      have u3 := u1.num
      have u4 := u1.len
      have u5 := (List.getElem?_eq_some_iff.mp hx37).1
      have hx9 := hx37
      refine a_if ?_
      refine a_test ?_
      refine a_op ?_
      refine a_op ?_
      refine a_var rfl ?_
      refine a_c ?_
      refine a_ixT (Same.tup gb28.s sq40) rfl ?_
      refine a_var rfl ?_
      refine a_eqI ?_
      refine a_bl ?_
      refine iteD (fun c58 => ?_) (fun c58 => ?_)
      · refine a_asg ?_
        refine a_call ?_
        refine a_cons ?_
        refine a_var rfl ?_
        refine a_cons ?_
        refine a_call ?_
        refine a_cons ?_
        refine a_tup ?_
        refine a_cons ?_
        refine a_op ?_
        refine a_var rfl ?_
        refine a_c ?_
        refine a_ixT (Same.tup gb28.s sq40) rfl ?_
        refine a_cons ?_
        refine a_c ?_
        refine a_nil ?_
        refine ⟨by show 2 ≤ sizeLine; decide, fun p59 hp60 => ?_⟩
        obtain ⟨F61, g63, e64⟩ := al2 (o := (.tup [V.int x36.2.2.2.2, V.int 1])) gb28.s (by intro _ _ z; cases z) hp60
        generalize upd H24 p59 (.tup [V.int x36.2.2.2.2, V.int 1]) = H62 at g63 ⊢
        have gb65 := gb28.tr g63
        have le66 := g63.le
        have cm67 := g63.fz cm29
        have sq68 : SqT K F61 p59 (fr ((x36.2.2.2.2 : Int) : Rat)) := by rw [fr_int]; exact SqT.of e64
        refine a_cons ?_
        refine a_call ?_
        refine a_cons ?_
        refine a_var rfl ?_
        refine a_cons ?_
        refine a_var rfl ?_
        refine a_nil ?_
        refine ⟨F61, _, _, x36, placing, 5, rfl, gb65.s, cm67, ⟨_, _, _, _, _, _, rfl, (Le.tup le66 sq40), ⟨_, _, rfl, (Le.dic le66 rd53), (Dk.mo le66 dk54), nd55⟩, rfl, ⟨_, rfl, (Le.tup le66 sq57)⟩, rfl, rfl⟩, ⟨_, _, rfl, (Le.dic (le30.trans le66) rd7), (Dk.mo (le30.trans le66) dk8), nd9⟩, (by exact ⟨u1.keys, u1.parts, w3.1, by decide, by have := u1.num; omega, by have := u1.len; omega⟩), ?_⟩
        rintro v69 F70 H71  g73 hr74 hp75
        have gb76 := gb65.tr g73
        have le77 := g73.le
        have cm78 := g73.fz cm67
        obtain ⟨a79, rfl, sq80⟩ := hr74
        have u6 := hp75
        refine a_nil ?_
        refine ⟨_, _, ((x36.2.2.2.2 : Int) : Rat), (missR placing x36), rfl, (Same.tup gb76.s (Le.tup le77 sq68)), (Same.tup gb76.s sq80), sm_of (by walk_at "o"), sm_of (by walk_at "o"), fun p81 hp82 => ?_⟩
        obtain ⟨F83, g85, e86⟩ := al2 (o := (.tup (fr (((x36.2.2.2.2 : Int) : Rat) * (missR placing x36))))) gb76.s (by intro _ _ z; cases z) hp82
        generalize upd H71 p81 (.tup (fr (((x36.2.2.2.2 : Int) : Rat) * (missR placing x36)))) = H84 at g85 ⊢
        have gb87 := gb76.tr g85
        have le88 := g85.le
        have cm89 := g85.fz cm78
        have b90 := bs_mul ((x36.2.2.2.2 : Int) : Rat) (missR placing x36)
        refine a_nil ?_
        refine ⟨_, _, total31, (((x36.2.2.2.2 : Int) : Rat) * (missR placing x36)), rfl, (Same.tup gb87.s (Le.tup ((le66.trans le77).trans le88) sq35)), (Same.tup gb87.s (SqT.of e86)), sm_of (by walk_at "o"), sm_of (by walk_at "o"), fun p91 hp92 => ?_⟩
        obtain ⟨F93, g95, e96⟩ := al2 (o := (.tup (fr (total31 + (((x36.2.2.2.2 : Int) : Rat) * (missR placing x36)))))) gb87.s (by intro _ _ z; cases z) hp92
        generalize upd H84 p91 (.tup (fr (total31 + (((x36.2.2.2.2 : Int) : Rat) * (missR placing x36))))) = H94 at g95 ⊢
        have gb97 := gb87.tr g95
        have le98 := g95.le
        have cm99 := g95.fz cm89
        have b100 := bs_add total31 (((x36.2.2.2.2 : Int) : Rat) * (missR placing x36))
        refine a_name ?_
        try dsimp only
        exact ⟨F93, _, (total31 + (((x36.2.2.2.2 : Int) : Rat) * (missR placing x36))), _, rfl, gb97, cm99, ((((le30.trans le66).trans le77).trans le88).trans le98), ⟨_, rfl, (SqT.of e96)⟩, by first | exact ⟨by rw [q1]; exact (goal_yes hx9 (by assumption)).symm, by omega⟩ | exact ⟨by rw [q1]; exact (goal_no hx9 (by assumption)).symm, by omega⟩⟩
      · refine a_next ?_
        try dsimp only
        exact ⟨F27, _, total31, _, rfl, gb28, cm29, le30, ⟨_, rfl, sq35⟩, by first | exact ⟨by rw [q1]; exact (goal_yes hx9 (by assumption)).symm, by omega⟩ | exact ⟨by rw [q1]; exact (goal_no hx9 (by assumption)).symm, by omega⟩⟩
    · rintro σ' H101 ⟨F102, v_total106, total106, o107, rfl, gb103, cm104, le105, hr108, ⟨q1, q2⟩⟩
      obtain ⟨a109, rfl, sq110⟩ := hr108
      have hlen := Al.length (Al.mo le105 al4)
      try dsimp only
      refine a_ret ?_
      refine a_var rfl ?_
      have hval : (total106 : Rat) = (goalR placing goal rows) := by (rw [hlen, List.take_length] at q1; exact q1)
      have rp111 : (rFr K) F102 (V.ref a109) (total106) := ⟨_, rfl, sq110⟩
      replace rp111 := Eq.mp (congrArg ((rFr K) F102 (V.ref a109)) hval) rp111
      exact k _ _ _ (Gr.of0 gb103 cm104) rp111
def sp_goal_at_s (K : PySem.W.Frag) : Sp := fun vs H Q _ => ∃ (F : Hp) (v_rows v_goal v_placing : V) (rows : (List ((List (Str × Rat)) × Str × Rat × Int × Int))) (goal : Str) (placing : (List (Str × Rat))), vs = [v_rows, v_goal, v_placing] ∧ Same F H ∧ (rL K (r5 K (rD (rFr K)) rS (rFr K) rI rI)) F v_rows rows ∧ rS F v_goal goal ∧ (rD (rFr K)) F v_placing placing ∧ (∃ y, gtd placing goal = some y) ∧ ∀ (v : V) (F' H' : Hp) (r : Rat), Gr F H F' H' → (rFr K) F' v r → (gtd placing goal = some r) → Q v H'
set_option linter.unusedVariables false in
theorem ok_goal_at_s (T : Tx K mg) : FnOk P w K mg base CX0 7 T.a_goal_at T.d_goal_at ["rows", "goal", "placing"] (sp_goal_at_s K) := by
  refine T.F_goal_at.ok sc_goal_at (fun vs H Q E h => ?_) (fun cdv A outer s H vs Q E hr h => ?_)
  · obtain ⟨F, v_rows, v_goal, v_placing, rows, goal, placing, rfl, _⟩ := h
    rfl
  · obtain ⟨F, v_rows, v_goal, v_placing, rows, goal, placing, rfl, wd, r_rows, r_goal, r_placing, hpre, k⟩ := h
    have hu := hu_of hr
    have gb := Gr0.refl wd
    have cm := Fz.refl F
    obtain ⟨a1, vs2, rfl, sq3, al4⟩ := r_rows
    obtain rfl : v_goal = V.str goal := r_goal
    obtain ⟨a5, kvs6, rfl, rd7, dk8, nd9⟩ := r_placing
    refine ⟨_, (ZSs.h (zss_cons (ps_if (pt_val (pe_callB call_isx rfl T.z_isinstance rfl (pa_cons (pv 1) (pa_cons (pe_bltn (v := .ty "str") rfl T.z_str rfl rfl) pa_nil)))) (pss_one (ps_ret (pe_dget hu (pv 2) (pv 1) (fun _ _ => rfl)))) pss_nil)
          (zss_cons (ps_set (i := 3) sc_goal_at.nd rfl (Or.inl rfl) (pe_glob (v := .ref T.c_NOUGHT) rfl T.m_NOUGHT rfl))
          (zss_cons (ps_for PassesOwn.never rfl (pi_list (pv 0)) (pg_name (i := 4) sc_goal_at.nd rfl (Or.inl rfl)) (pss_one (ps_if (pt_cmpR op_eq (pe_ix ix_tup (pv 4) pe_int (fun _ _ => rfl)) (pv 1) (nomark _)) (pss_one (ps_set (i := 3) sc_goal_at.nd rfl (Or.inl rfl) (pe_call ((ok_plus T).mono (by decide)) hr rfl T.m_plus T.F_plus.kp T.b_plus .nil pass0 (pa_cons (pv 3) (pa_cons (pe_call ((ok_times T).mono (by decide)) hr rfl T.m_times T.F_times.kp T.b_times .nil pass0 (pa_cons (pe_tup (pa_cons (pe_ix ix_tup (pv 4) pe_int (fun _ _ => rfl)) (pa_cons pe_int pa_nil))) (pa_cons (pe_call ((ok_missed T).mono (by decide)) hr rfl T.m_missed T.F_missed.kp T.b_missed .nil pass0 (pa_cons (pv 4) (pa_cons (pv 2) pa_nil))) pa_nil))) pa_nil))))) pss_nil)))
          (zss_one (ps_ret (pv 3))))))), ?_⟩
    refine a_seq ?_
    refine a_if ?_
    refine a_tB ?_
    refine a_cb ?_
    refine a_cons ?_
    refine a_var rfl ?_
    refine a_cons ?_
    refine a_c ?_
    refine a_nil ?_
    refine ⟨_, _, _, true, _, rfl, tx_str, rfl, rfl, ?_⟩
    refine a_bl ?_
    refine iteT ?_
    refine a_ret ?_
    refine a_dget ?_
    refine a_var rfl ?_
    refine a_var rfl ?_
    obtain ⟨y13, y13g⟩ : ∃ y, gtd placing goal = some y := by exact hpre
    obtain ⟨v10, h11, h12⟩ := Dk.some dk8 y13g
    refine a_dgetK (Same.rd gb.s rd7) h11 ?_
    obtain ⟨a14, rfl, sq15⟩ := h12
    exact k _ _ _ (y13) (Gr.of gb cm) (⟨_, rfl, sq15⟩) (by assumption)
def sp_law_cell_at (K : PySem.W.Frag) : Sp := fun vs H Q _ => ∃ (F : Hp) (v_script v_k' : V) (script : (List Int)) (k' : Int), vs = [v_script, v_k'] ∧ Same F H ∧ (∃ a, v_script = .ref a ∧ SqL K H a (script.map V.int)) ∧ rI F v_k' k' ∧ (0 ≤ k') ∧ ∀ (v : V) (F' H' : Hp) (r : Int), Gr F H F' H' → rI F' v r → Q v H'
set_option linter.unusedVariables false in
theorem ok_law_cell_at (T : Tx K mg) : FnOk P w K mg base CX0 1 T.a_law_cell_at T.d_law_cell_at ["_law_script", "_law_k"] (sp_law_cell_at K) := by
  refine T.F_law_cell_at.ok sc_law_cell_at (fun vs H Q E h => ?_) (fun cdv A outer s H vs Q E hr h => ?_)
  · obtain ⟨F, v_script, v_k', script, k', rfl, _⟩ := h
    rfl
  · obtain ⟨F, v_script, v_k', script, k', rfl, wd, r_script, r_k', hpre, k⟩ := h
    have hu := hu_of hr
    have gb := Gr0.refl wd
    have cm := Fz.refl F
    obtain ⟨a1, rfl, sq2⟩ := r_script
    obtain rfl : v_k' = V.int k' := r_k'
    refine ⟨_, (ZSs.h (zss_cons (ps_if (pt_cmpR op_lt (pv 1) (pe_callB call_len_seq rfl T.z_len rfl (pa_cons (pv 0) pa_nil)) (nomark _)) (pss_one (ps_ret (pe_ix ix_list (pv 0) (pv 1) (fun _ _ => rfl)))) pss_nil)
          (zss_one (ps_ret pe_int)))), ?_⟩
    refine a_seq ?_
    refine a_if ?_
    refine a_test ?_
    refine a_op ?_
    refine a_var rfl ?_
    refine a_cb ?_
    refine a_cons ?_
    refine a_var rfl ?_
    refine a_nil ?_
    refine ⟨_, _, rfl, .inl (Same.seq gb.h sq2), ?_⟩
    rw [Al.length (al_ints (F := F) (ns := script))]
    refine a_I0 ?_
    refine a_bl ?_
    refine iteD (fun c3 => ?_) (fun c3 => ?_)
    · refine a_ret ?_
      refine a_op ?_
      refine a_var rfl ?_
      refine a_var rfl ?_
      obtain ⟨x5, v4, h6, h7, h8⟩ := Al.ix (al_ints (F := F) (ns := script)) (i := k') (by walk_at "o") (by walk_at "ol")
      refine a_ixL (Same.seq gb.h sq2) h7 ?_
      obtain rfl : v4 = V.int x5 := h8
      exact k _ _ _ (x5) (Gr.of gb cm) (rfl)
    · refine a_next ?_
      try dsimp only
      refine a_ret ?_
      refine a_c ?_
      exact k _ _ _ (0) (Gr.of gb cm) (rfl)
def sp_law_mix (K : PySem.W.Frag) : Sp := fun vs H Q _ => ∃ (F : Hp) (v_cell v_k' : V) (cell : Int) (k' : Int), vs = [v_cell, v_k'] ∧ Same F H ∧ rI F v_cell cell ∧ rI F v_k' k' ∧ ∀ (v : V) (F' H' : Hp) (r : Int), Gr F H F' H' → rI F' v r → (0 ≤ r ∧ r < 2147483647) → Q v H'
set_option linter.unusedVariables false in
theorem ok_law_mix (T : Tx K mg) : FnOk P w K mg base CX0 1 T.a_law_mix T.d_law_mix ["_law_cell", "_law_k"] (sp_law_mix K) := by
  refine T.F_law_mix.ok sc_law_mix (fun vs H Q E h => ?_) (fun cdv A outer s H vs Q E hr h => ?_)
  · obtain ⟨F, v_cell, v_k', cell, k', rfl, _⟩ := h
    rfl
  · obtain ⟨F, v_cell, v_k', cell, k', rfl, wd, r_cell, r_k', k⟩ := h
    have hu := hu_of hr
    have gb := Gr0.refl wd
    have cm := Fz.refl F
    obtain rfl : v_cell = V.int cell := r_cell
    obtain rfl : v_k' = V.int k' := r_k'
    refine ⟨_, (ZSs.h (zss_cons (ps_set (i := 2) sc_law_mix.nd rfl (Or.inl rfl) (pe_op op_mod (pe_op op_mulB (pe_op op_mod (pe_op op_add (pe_op op_add (pv 0) (pe_op op_mulB pe_int (pv 1))) pe_int) pe_int) pe_int) pe_int))
          (zss_cons (ps_set (i := 2) sc_law_mix.nd rfl (Or.inl rfl) (pe_op op_mod (pe_op op_mulB (pv 2) (pe_op op_add (pe_op op_fdiv (pv 2) pe_int) pe_int)) pe_int))
          (zss_one (ps_ret (pe_op op_mod (pe_op op_mulB (pv 2) (pe_op op_add (pe_op op_fdiv (pv 2) pe_int) pe_int)) pe_int)))))), ?_⟩
    refine a_seq ?_
    refine a_asg ?_
    refine a_op ?_
    refine a_op ?_
    refine a_op ?_
    refine a_op ?_
    refine a_op ?_
    refine a_var rfl ?_
    refine a_op ?_
    refine a_c ?_
    refine a_var rfl ?_
    refine a_I (mulL2 (by decide) (by decide)) ?_
    refine a_I0 ?_
    refine a_c ?_
    refine a_I0 ?_
    refine a_c ?_
    refine a_I (by decide) ?_
    have m1 : 0 ≤ (((cell + (7919 * k')) + 1) % 2147483647) ∧ (((cell + (7919 * k')) + 1) % 2147483647) < 2147483647 := ⟨Int.emod_nonneg _ (by decide), Int.emod_lt_of_pos _ (by decide)⟩
    refine a_c ?_
    refine a_I (mulR2 (by decide) (by decide)) ?_
    refine a_c ?_
    refine a_I (by decide) ?_
    have m2 : 0 ≤ (((((cell + (7919 * k')) + 1) % 2147483647) * 48271) % 2147483647) ∧ (((((cell + (7919 * k')) + 1) % 2147483647) * 48271) % 2147483647) < 2147483647 := ⟨Int.emod_nonneg _ (by decide), Int.emod_lt_of_pos _ (by decide)⟩
    refine a_name ?_
    try dsimp only
    refine a_seq ?_
    refine a_asg ?_
    refine a_op ?_
    refine a_op ?_
    refine a_var rfl ?_
    refine a_op ?_
    refine a_op ?_
    refine a_var rfl ?_
    refine a_c ?_
    refine a_I ⟨by decide, by decide⟩ ?_
    refine a_c ?_
    refine a_I0 ?_
    refine a_I (by walk_at "om") ?_
    refine a_c ?_
    refine a_I (by decide) ?_
    have m3 : 0 ≤ (((((((cell + (7919 * k')) + 1) % 2147483647) * 48271) % 2147483647) * (((((((cell + (7919 * k')) + 1) % 2147483647) * 48271) % 2147483647) / 1009) + 69621)) % 2147483647) ∧ (((((((cell + (7919 * k')) + 1) % 2147483647) * 48271) % 2147483647) * (((((((cell + (7919 * k')) + 1) % 2147483647) * 48271) % 2147483647) / 1009) + 69621)) % 2147483647) < 2147483647 := ⟨Int.emod_nonneg _ (by decide), Int.emod_lt_of_pos _ (by decide)⟩
    refine a_name ?_
    try dsimp only
    refine a_ret ?_
    refine a_op ?_
    refine a_op ?_
    refine a_var rfl ?_
    refine a_op ?_
    refine a_op ?_
    refine a_var rfl ?_
    refine a_c ?_
    refine a_I ⟨by decide, by decide⟩ ?_
    refine a_c ?_
    refine a_I0 ?_
    refine a_I (by walk_at "om") ?_
    refine a_c ?_
    refine a_I (by decide) ?_
    have m4 : 0 ≤ (((((((((cell + (7919 * k')) + 1) % 2147483647) * 48271) % 2147483647) * (((((((cell + (7919 * k')) + 1) % 2147483647) * 48271) % 2147483647) / 1009) + 69621)) % 2147483647) * (((((((((cell + (7919 * k')) + 1) % 2147483647) * 48271) % 2147483647) * (((((((cell + (7919 * k')) + 1) % 2147483647) * 48271) % 2147483647) / 1009) + 69621)) % 2147483647) / 127) + 30011)) % 2147483647) ∧ (((((((((cell + (7919 * k')) + 1) % 2147483647) * 48271) % 2147483647) * (((((((cell + (7919 * k')) + 1) % 2147483647) * 48271) % 2147483647) / 1009) + 69621)) % 2147483647) * (((((((((cell + (7919 * k')) + 1) % 2147483647) * 48271) % 2147483647) * (((((((cell + (7919 * k')) + 1) % 2147483647) * 48271) % 2147483647) / 1009) + 69621)) % 2147483647) / 127) + 30011)) % 2147483647) < 2147483647 := ⟨Int.emod_nonneg _ (by decide), Int.emod_lt_of_pos _ (by decide)⟩
    exact k _ _ _ ((((((((((cell + (7919 * k')) + 1) % 2147483647) * 48271) % 2147483647) * (((((((cell + (7919 * k')) + 1) % 2147483647) * 48271) % 2147483647) / 1009) + 69621)) % 2147483647) * (((((((((cell + (7919 * k')) + 1) % 2147483647) * 48271) % 2147483647) * (((((((cell + (7919 * k')) + 1) % 2147483647) * 48271) % 2147483647) / 1009) + 69621)) % 2147483647) / 127) + 30011)) % 2147483647)) (Gr.of gb cm) (rfl) (by walk_at "o")
def sp_law_divisor (K : PySem.W.Frag) : Sp := fun vs H Q _ => ∃ (F : Hp) (v_one v_other : V) (one : Int) (other : Int), vs = [v_one, v_other] ∧ Same F H ∧ rI F v_one one ∧ rI F v_other other ∧ (0 ≤ other) ∧ ∀ (v : V) (F' H' : Hp), Gr F H F' H' → rI F' v (gd one other) → Q v H'
set_option linter.unusedVariables false in
theorem ok_law_divisor (T : Tx K mg) : FnOk P w K mg base CX0 1 T.a_law_divisor T.d_law_divisor ["_law_one", "_law_other"] (sp_law_divisor K) := by
  refine T.F_law_divisor.ok sc_law_divisor (fun vs H Q E h => ?_) (fun cdv A outer s H vs Q E hr h => ?_)
  · obtain ⟨F, v_one, v_other, one, other, rfl, _⟩ := h
    rfl
  · obtain ⟨F, v_one, v_other, one, other, rfl, wd, r_one, r_other, hpre, k⟩ := h
    have hu := hu_of hr
    have gb := Gr0.refl wd
    have cm := Fz.refl F
    obtain rfl : v_one = V.int one := r_one
    obtain rfl : v_other = V.int other := r_other
    refine ⟨_, (ZSs.h (zss_cons (ps_while PassesOwn.never (pt_cmpR op_ne (pv 1) pe_int (nomark _)) (pss_one (ps_par (i := 0) (j := 1) rfl sc_law_divisor.nd rfl rfl (by decide) rfl rfl (pa_cons (pv 1) (pa_cons (pe_op op_mod (pv 0) (pv 1)) pa_nil)) rfl)))
          (zss_one (ps_ret (pe_callB call_abs rfl T.z_abs rfl (pa_cons (pv 0) pa_nil)))))), ?_⟩
    refine a_seq ?_
    refine ⟨fun m σ' H' => ∃ (F1 : Hp) (one2 : Int) (other3 : Int), σ' = [some (V.int one2), some (V.int other3)] ∧ Gr0 F H F1 H' ∧ Fz (frzd F) F1 ∧ Le F F1 ∧ (0 ≤ other3 ∧ gd one2 other3 = gd one other) ∧ m = other3.toNat, ⟨other.toNat, ?_⟩, ?_⟩
    · exact ⟨F, one, other, rfl, gb, cm, Le.refl _, by exact ⟨hpre, rfl⟩, rfl⟩
    · rintro m σ' H4 ⟨F5, one9, other10, rfl, gb6, cm7, le8, ⟨i1, i2⟩, rfl⟩
      refine a_test ?_
      refine a_op ?_
      refine a_var rfl ?_
      refine a_c ?_
      refine a_neI ?_
      refine a_bl ?_
      refine iteDN (fun c11 => ?_) (fun c11 => ?_)
      · refine ⟨fun σ' H' => ∃ (F1 : Hp) (one2 : Int) (other3 : Int), σ' = [some (V.int one2), some (V.int other3)] ∧ Gr0 F H F1 H' ∧ Fz (frzd F) F1 ∧ Le F F1 ∧ (0 ≤ other3 ∧ gd one2 other3 = gd one other) ∧ other3.toNat < other10.toNat, fun σ' H' ⟨y0, y1, y2, y3, y4, y5, y6, y7, hlt⟩ => ⟨_, hlt, y0, y1, y2, y3, y4, y5, y6, y7, rfl⟩, ?_⟩
        refine a_par ?_
        refine a_cons ?_
        refine a_var rfl ?_
        refine a_cons ?_
        refine a_op ?_
        refine a_var rfl ?_
        refine a_var rfl ?_
        refine a_I (by walk_at "o") ?_
        have m12 : 0 ≤ (one9 % other10) ∧ (one9 % other10) < other10 := ⟨Int.emod_nonneg _ (by walk_at "o"), Int.emod_lt_of_pos _ (by walk_at "o")⟩
        refine a_nil ?_
        refine a_par2 ?_
        try dsimp only
        exact ⟨F5, other10, (one9 % other10), rfl, gb6, cm7, le8, by exact ⟨Int.emod_nonneg _ (by omega), by rw [gd_mod' (by omega)]; exact i2⟩, by (have := Int.emod_lt_of_pos one9 (show 0 < other10 by omega); omega)⟩
      · try dsimp only
        refine a_ret ?_
        refine a_cb ?_
        refine a_cons ?_
        refine a_var rfl ?_
        refine a_nil ?_
        refine ⟨_, rfl, ?_⟩
        have hval : ((if one9 < 0 then -one9 else one9) : Int) = (gd one other) := by (have e : other10 = 0 := (by omega); rw [e] at i2; rw [← i2]; exact (gd_abs0 _).symm)
        have rp13 : rI F5 (V.int (if one9 < 0 then -one9 else one9)) ((if one9 < 0 then -one9 else one9)) := rfl
        replace rp13 := Eq.mp (congrArg (rI F5 (V.int (if one9 < 0 then -one9 else one9))) hval) rp13
        exact k _ _ _ (Gr.of gb6 cm7) rp13
def sp_law_lowest (K : PySem.W.Frag) : Sp := fun vs H Q _ => ∃ (F : Hp) (v_top v_bottom : V) (top : Int) (bottom : Int), vs = [v_top, v_bottom] ∧ Same F H ∧ rI F v_top top ∧ rI F v_bottom bottom ∧ (0 < bottom ∧ bi bottom ≤ 7000) ∧ ∀ (v : V) (F' H' : Hp), Gr F H F' H' → (rFr K) F' v (Rat.divInt top bottom) → Q v H'
set_option linter.unusedVariables false in
theorem ok_law_lowest (T : Tx K mg) : FnOk P w K mg base CX0 2 T.a_law_lowest T.d_law_lowest ["_law_top", "_law_bottom"] (sp_law_lowest K) := by
  refine T.F_law_lowest.ok sc_law_lowest (fun vs H Q E h => ?_) (fun cdv A outer s H vs Q E hr h => ?_)
  · obtain ⟨F, v_top, v_bottom, top, bottom, rfl, _⟩ := h
    rfl
  · obtain ⟨F, v_top, v_bottom, top, bottom, rfl, wd, r_top, r_bottom, hpre, k⟩ := h
    have hu := hu_of hr
    have gb := Gr0.refl wd
    have cm := Fz.refl F
    obtain rfl : v_top = V.int top := r_top
    obtain rfl : v_bottom = V.int bottom := r_bottom
    obtain ⟨hb, hz⟩ := hpre
    refine ⟨_, (ZSs.h (zss_cons (ps_set (i := 2) sc_law_lowest.nd rfl (Or.inl rfl) (pe_call ((ok_law_divisor T).mono (by decide)) hr rfl T.m_law_divisor T.F_law_divisor.kp T.b_law_divisor .nil pass0 (pa_cons (pv 0) (pa_cons (pv 1) pa_nil))))
          (zss_one (ps_ret (pe_tup (pa_cons (pe_op op_fdivB (pv 0) (pv 2)) (pa_cons (pe_op op_fdivB (pv 1) (pv 2)) pa_nil))))))), ?_⟩
    refine a_seq ?_
    refine a_asg ?_
    refine a_call ?_
    refine a_cons ?_
    refine a_var rfl ?_
    refine a_cons ?_
    refine a_var rfl ?_
    refine a_nil ?_
    refine ⟨F, _, _, top, bottom, rfl, gb.s, rfl, rfl, (by walk_at "o"), ?_⟩
    rintro v1 F2 H3  g5 hr6 
    have gb8 := gb.tr g5
    have le9 := g5.le
    have cm10 := g5.fz cm
    obtain rfl : v1 = V.int (gd top bottom) := hr6
    refine a_name ?_
    try dsimp only
    have hb0 : bottom ≠ 0 := by omega
    have hd := dv_ne (t := top) hb0
    have ed : gd top bottom = dv top bottom := by unfold dv; rw [if_neg (by omega)]
    have hl : bi (gd top bottom) ≤ 8000 := by rw [ed]; exact Nat.le_trans (bi_mono (dv_le hb0)) (by omega)
    refine a_ret ?_
    refine a_tup ?_
    refine a_cons ?_
    refine a_op ?_
    refine a_var rfl ?_
    refine a_var rfl ?_
    refine a_I (by walk_at "od") ?_
    refine a_cons ?_
    refine a_op ?_
    refine a_var rfl ?_
    refine a_var rfl ?_
    refine a_I (by walk_at "od") ?_
    refine a_nil ?_
    refine ⟨by show 2 ≤ sizeLine; decide, fun p11 hp12 => ?_⟩
    obtain ⟨F13, g15, e16⟩ := al2 (o := (.tup [V.int (Int.fdiv top (gd top bottom)), V.int (Int.fdiv bottom (gd top bottom))])) gb8.s (by intro _ _ z; cases z) hp12
    generalize upd H3 p11 (.tup [V.int (Int.fdiv top (gd top bottom)), V.int (Int.fdiv bottom (gd top bottom))]) = H14 at g15 ⊢
    have gb17 := gb8.tr g15
    have le18 := g15.le
    have cm19 := g15.fz cm10
    have sq20 : SqT K F13 p11 (fr (Rat.divInt top bottom)) := by rw [show fr (Rat.divInt top bottom) = [V.int (Int.fdiv top (gd top bottom)), V.int (Int.fdiv bottom (gd top bottom))] from by unfold fr; rw [← part_num hb0, ← part_den hb0, ← ed]]; exact SqT.of e16
    have rp21 : (rFr K) F13 (V.ref p11) ((Rat.divInt top bottom)) := ⟨_, rfl, sq20⟩
    exact k _ _ _ (Gr.of gb17 cm19) rp21
def sp_law_placing (K : PySem.W.Frag) : Sp := fun vs H Q _ => ∃ (F : Hp) (v_first v_second : V) (first : Int) (second : Int), vs = [v_first, v_second] ∧ Same F H ∧ rI F v_first first ∧ rI F v_second second ∧ ∀ (v : V) (F' H' : Hp) (r : (List (Str × Rat))), Gr F H F' H' → (rD (rFr K)) F' v r → (PlOk r) → Q v H'
set_option linter.unusedVariables false in
theorem ok_law_placing (T : Tx K mg) : FnOk P w K mg base CX0 3 T.a_law_placing T.d_law_placing ["_law_first", "_law_second"] (sp_law_placing K) := by
  refine T.F_law_placing.ok sc_law_placing (fun vs H Q E h => ?_) (fun cdv A outer s H vs Q E hr h => ?_)
  · obtain ⟨F, v_first, v_second, first, second, rfl, _⟩ := h
    rfl
  · obtain ⟨F, v_first, v_second, first, second, rfl, wd, r_first, r_second, k⟩ := h
    have hu := hu_of hr
    have gb := Gr0.refl wd
    have cm := Fz.refl F
    obtain rfl : v_first = V.int first := r_first
    obtain rfl : v_second = V.int second := r_second
    refine ⟨_, (ZSs.h (zss_cons (ps_set (i := 2) sc_law_placing.nd rfl (Or.inl rfl) pe_dnewK)
          (zss_cons (ps_for PassesOwn.never rfl (pi_range1 rfl T.z_range (pa_cons (pe_op op_add pe_int (pe_op op_mod (pv 0) pe_int)) pa_nil)) (pg_name (i := 3) sc_law_placing.nd rfl (Or.inl rfl)) (ZSs.h (zss_cons (ps_set (i := 4) sc_law_placing.nd rfl (Or.inl rfl) (pe_op op_mod (pe_call ((ok_law_mix T).mono (by decide)) hr rfl T.m_law_mix T.F_law_mix.kp T.b_law_mix .nil pass0 (pa_cons (pv 1) (pa_cons (pe_op op_add (pv 3) pe_int) pa_nil))) pe_int))
          (zss_cons (ps_if (pt_cmpR op_eq (pe_op op_mod (pe_call ((ok_law_mix T).mono (by decide)) hr rfl T.m_law_mix T.F_law_mix.kp T.b_law_mix .nil pass0 (pa_cons (pv 1) (pa_cons (pe_op op_add (pv 3) pe_int) pa_nil))) pe_int) pe_int (nomark _)) (pss_one (ps_set (i := 4) sc_law_placing.nd rfl (Or.inl rfl) (pe_op op_sub pe_int (pv 4)))) pss_nil)
          (zss_one (ps_dput hu (pv 2) (pe_op op_add_str (pe_ix ix_str pe_str (pv 3) (fun _ _ => rfl)) (pe_ix ix_list (pe_lst (pa_cons pe_str (pa_cons pe_str pa_nil))) (pe_op op_mod (pe_op op_fdiv (pv 0) pe_int) pe_int) (fun _ _ => rfl))) (pe_call ((ok_law_lowest T).mono (by decide)) hr rfl T.m_law_lowest T.F_law_lowest.kp T.b_law_lowest .nil pass0 (pa_cons (pv 4) (pa_cons (pe_op op_add pe_int (pe_op op_mod (pe_call ((ok_law_mix T).mono (by decide)) hr rfl T.m_law_mix T.F_law_mix.kp T.b_law_mix .nil pass0 (pa_cons (pv 1) (pa_cons (pe_op op_add (pv 3) pe_int) pa_nil))) pe_int)) pa_nil))) rfl))))))
          (zss_one (ps_ret (pv 2)))))), ?_⟩
    refine a_seq ?_
    refine a_asg ?_
    refine fun p1 hp2 => ?_
    obtain ⟨gb4, sm5, hb6, oF7, oH8, ne9⟩ := alo2 (o := (.dK [])) gb hp2
    generalize upd H p1 (.dK []) = H3 at gb4 sm5 oH8 ⊢
    refine a_name ?_
    try dsimp only
    refine a_seq ?_
    refine a_for ?_
    refine a_rng1 ?_
    refine a_cons ?_
    refine a_op ?_
    refine a_c ?_
    refine a_op ?_
    refine a_var rfl ?_
    refine a_c ?_
    refine a_I (by decide) ?_
    have m10 : 0 ≤ (first % 4) ∧ (first % 4) < 4 := ⟨Int.emod_nonneg _ (by decide), Int.emod_lt_of_pos _ (by decide)⟩
    refine a_I0 ?_
    refine a_nil ?_
    refine ⟨_, rfl, by first | omega | walk_at "o", by first | omega | walk_at "o", for_range (lo := 0) (n := (Int.toNat (1 + (first % 4)))) (fun i σ' H' => ∃ (F11 : Hp) (kv12 : List (Key × V)) (placing_here13 : List (Str × Rat)) (o14 : Option V) (o15 : Option V), σ' = [some (V.int first), some (V.int second), some (V.ref p1), o15, o14] ∧ Gr0 F H F11 H' ∧ Fz (frzd F) F11 ∧ Le F F11 ∧ H' p1 = some (.dK kv12) ∧ F11 p1 = none ∧ Dk (rFr K) F11 kv12 placing_here13 ∧ (placing_here13.map (·.1)).Nodup ∧ ((∀ x q, gt placing_here13 x = some q → bs q ≤ 5) ∧ placing_here13.length ≤ i)) ?_ ?_ ?_⟩
    · exact ⟨F, _, [], _, _, rfl, gb4, cm, Le.refl _, oH8, oF7, True.intro, List.nodup_nil, by exact ⟨fun x q e => (by cases e), Nat.le_refl _⟩⟩
    · rintro i16 σ' H17 hi18 ⟨F19, kv23, m24, o25, o26, rfl, gb20, cm21, le22, oH27, oF28, dk29, nd30, ⟨q1, q2⟩⟩
      rw [show (0 : Int) + (i16 : Int) = (i16 : Int) from Int.zero_add _]
      refine a_name ?_
      try dsimp only
      have u1 : i16 ≤ 3 := by omega
      refine a_seq ?_
      refine a_asg ?_
      refine a_op ?_
      refine a_call ?_
      refine a_cons ?_
      refine a_var rfl ?_
      refine a_cons ?_
      refine a_op ?_
      refine a_var rfl ?_
      refine a_c ?_
      refine a_I0 ?_
      refine a_nil ?_
      refine ⟨F19, _, _, second, ((i16 : Int) + 1), rfl, gb20.s, rfl, rfl, ?_⟩
      rintro v31 F32 H33 r34 g35 hr36 hp37
      have gb38 := gb20.tr g35
      have le39 := g35.le
      have oH40 := g35.h _ _ oH27
      have oF41 := g35.own oF28 oH27
      have cm42 := g35.fz cm21
      obtain rfl : v31 = V.int r34 := hr36
      refine a_c ?_
      refine a_I (by decide) ?_
      have m43 : 0 ≤ (r34 % 20) ∧ (r34 % 20) < 20 := ⟨Int.emod_nonneg _ (by decide), Int.emod_lt_of_pos _ (by decide)⟩
      refine a_name ?_
      try dsimp only
      refine a_seqM (fun σ' H' => ∃ (F44 : Hp) (top45 : Int) (kv46 : List (Key × V)) (placing_here47 : List (Str × Rat)), σ' = [some (V.int first), some (V.int second), some (V.ref p1), some (V.int (i16 : Int)), some (V.int top45)] ∧ Gr0 F H F44 H' ∧ Fz (frzd F) F44 ∧ Le F32 F44 ∧ H' p1 = some (.dK kv46) ∧ F44 p1 = none ∧ Dk (rFr K) F44 kv46 placing_here47 ∧ (placing_here47.map (·.1)).Nodup ∧ m24 = placing_here47 ∧ (-20 < top45 ∧ top45 < 20)) (fun R hR => ?_) ?_
      · refine a_if ?_
        refine a_test ?_
        refine a_op ?_
        refine a_op ?_
        refine a_call ?_
        refine a_cons ?_
        refine a_var rfl ?_
        refine a_cons ?_
        refine a_op ?_
        refine a_var rfl ?_
        refine a_c ?_
        refine a_I0 ?_
        refine a_nil ?_
        refine ⟨F32, _, _, second, ((i16 : Int) + 9), rfl, gb38.s, rfl, rfl, ?_⟩
        rintro v48 F49 H50 r51 g52 hr53 hp54
        have gb55 := gb38.tr g52
        have le56 := g52.le
        have oH57 := g52.h _ _ oH40
        have oF58 := g52.own oF41 oH40
        have cm59 := g52.fz cm42
        obtain rfl : v48 = V.int r51 := hr53
        refine a_c ?_
        refine a_I (by decide) ?_
        have m60 : 0 ≤ (r51 % 16) ∧ (r51 % 16) < 16 := ⟨Int.emod_nonneg _ (by decide), Int.emod_lt_of_pos _ (by decide)⟩
        refine a_c ?_
        refine a_eqI ?_
        refine a_bl ?_
        refine iteD (fun c61 => ?_) (fun c61 => ?_)
        · refine a_asg ?_
          refine a_op ?_
          refine a_c ?_
          refine a_var rfl ?_
          refine a_I0 ?_
          refine a_name ?_
          try dsimp only
          exact hR _ _ ⟨F49, (0 - (r34 % 20)), _, m24, rfl, gb55, cm59, le56, oH57, oF58, (Dk.mo (le39.trans le56) dk29), nd30, rfl, by walk_at "o"⟩
        · refine a_next ?_
          try dsimp only
          exact hR _ _ ⟨F49, (r34 % 20), _, m24, rfl, gb55, cm59, le56, oH57, oF58, (Dk.mo (le39.trans le56) dk29), nd30, rfl, by walk_at "o"⟩
      · rintro σ' H62 ⟨F63, top67, kv68, m69, rfl, gb64, cm65, le66, oH70, oF71, dk72, nd73, rfl, ⟨j1, j2⟩⟩
        refine a_dput ?_
        refine a_call ?_
        refine a_cons ?_
        refine a_var rfl ?_
        refine a_cons ?_
        refine a_op ?_
        refine a_c ?_
        refine a_op ?_
        refine a_call ?_
        refine a_cons ?_
        refine a_var rfl ?_
        refine a_cons ?_
        refine a_op ?_
        refine a_var rfl ?_
        refine a_c ?_
        refine a_I0 ?_
        refine a_nil ?_
        refine ⟨F63, _, _, second, ((i16 : Int) + 5), rfl, gb64.s, rfl, rfl, ?_⟩
        rintro v74 F75 H76 r77 g78 hr79 hp80
        have gb81 := gb64.tr g78
        have le82 := g78.le
        have oH83 := g78.h _ _ oH70
        have oF84 := g78.own oF71 oH70
        have cm85 := g78.fz cm65
        obtain rfl : v74 = V.int r77 := hr79
        refine a_c ?_
        refine a_I (by decide) ?_
        have m86 : 0 ≤ (r77 % 3) ∧ (r77 % 3) < 3 := ⟨Int.emod_nonneg _ (by decide), Int.emod_lt_of_pos _ (by decide)⟩
        refine a_I0 ?_
        refine a_nil ?_
        refine ⟨F75, _, _, top67, (1 + (r77 % 3)), rfl, gb81.s, rfl, rfl, (by exact ⟨by omega, Nat.le_trans (bi_small 5 (by omega)) (by decide)⟩), ?_⟩
        rintro v87 F88 H89  g91 hr92 
        have gb94 := gb81.tr g91
        have le95 := g91.le
        have oH96 := g91.h _ _ oH83
        have oF97 := g91.own oF84 oH83
        have cm98 := g91.fz cm85
        obtain ⟨a99, rfl, sq100⟩ := hr92
        refine a_var rfl ?_
        refine a_op ?_
        refine a_op ?_
        refine a_c ?_
        have ln101 : ("abcd" : Str).length = 4 := by decide +kernel
        refine a_var rfl ?_
        refine a_ixS (Nat.le_trans (show ("abcd" : Str).length ≤ 100000 by omega) (by decide)) (by walk_at "o") (by walk_at "o") ?_
        have ln102 : (sgn ("abcd" : Str) (i16 : Int)).length = 1 := rfl
        refine a_op ?_
        refine a_lst ?_
        refine a_cons ?_
        refine a_c ?_
        have ln103 : ("" : Str).length = 0 := by decide +kernel
        refine a_cons ?_
        refine a_c ?_
        have ln104 : (" width" : Str).length = 6 := by decide +kernel
        refine a_nil ?_
        refine ⟨by show 2 ≤ sizeLine; decide, fun p105 hp106 => ?_⟩
        obtain ⟨F107, g109, e110⟩ := al2 (o := (.lst [V.str ("" : Str), V.str (" width" : Str)])) gb94.s (by intro _ _ z; cases z) hp106
        generalize upd H89 p105 (.lst [V.str ("" : Str), V.str (" width" : Str)]) = H108 at g109 ⊢
        have gb111 := gb94.tr g109
        have le112 := g109.le
        have oH113 := g109.h _ _ oH96
        have oF114 := g109.own oF97 oH96
        have cm115 := g109.fz cm98
        have al116 : Al rS F107 [.str ("" : Str), .str (" width" : Str)] [("" : Str), (" width" : Str)] := ⟨rfl, ⟨rfl, True.intro⟩⟩
        refine a_op ?_
        refine a_op ?_
        refine a_var rfl ?_
        refine a_c ?_
        refine a_I ⟨by decide, by decide⟩ ?_
        refine a_c ?_
        refine a_I (by decide) ?_
        have m117 : 0 ≤ ((first / 4) % 2) ∧ ((first / 4) % 2) < 2 := ⟨Int.emod_nonneg _ (by decide), Int.emod_lt_of_pos _ (by decide)⟩
        obtain ⟨x119, v118, h120, h121, h122⟩ := Al.ix al116 (i := ((first / 4) % 2)) (by walk_at "o") (by walk_at "ol")
        refine a_ixL (Same.seq gb111.s (SqL.of e110)) h121 ?_
        have h120m := List.mem_of_getElem? h120
        simp only [List.mem_cons, List.not_mem_nil, or_false] at h120m
        have h120l : x119.length ≤ 6 := by rcases h120m with z | z <;> (rw [z]; decide +kernel)
        obtain rfl : v118 = V.str x119 := h122
        have ln123 : ((sgn ("abcd" : Str) (i16 : Int)) ++ x119).length = (sgn ("abcd" : Str) (i16 : Int)).length + x119.length := str_len_app _ _
        refine ⟨_, _, rfl, rfl, Nat.le_trans (show _ ≤ 100000 by omega) (by decide), ?_⟩
        refine a_dputK oH113 (by rw [Dk.length (Dk.mo ((le82.trans le95).trans le112) dk72)]; omega) (chg gb111 hb6 oF114 (fun H124 gb125 oH126 ne127 => ?_))
        have dk128 := Dk.put (x := ((sgn ("abcd" : Str) (i16 : Int)) ++ x119)) (show (rFr K) F107 (V.ref a99) ((Rat.divInt top67 ((1 + (r77 % 3))))) from ⟨_, rfl, (Le.tup le112 sq100)⟩) (Dk.mo ((le82.trans le95).trans le112) dk72)
        try dsimp only
        exact ⟨F107, _, (ptd m24 ((sgn ("abcd" : Str) (i16 : Int)) ++ x119) (Rat.divInt top67 ((1 + (r77 % 3))))), _, _, rfl, gb125, cm115, (((((le22.trans le39).trans le66).trans le82).trans le95).trans le112), oH126, oF114, dk128, (nd_ptd nd73 ((sgn ("abcd" : Str) (i16 : Int)) ++ x119) (Rat.divInt top67 ((1 + (r77 % 3))))), by exact ⟨ptd_all q1 (bs_divInt (by omega) (bi_small 5 (by omega)) (bi_small 5 (by omega))), Nat.le_trans (ptd_len _ _ _) (by omega)⟩⟩
    · rintro σ' H129 ⟨F130, kv134, m135, o136, o137, rfl, gb131, cm132, le133, oH138, oF139, dk140, nd141, ⟨q1, q2⟩⟩
      try dsimp only
      refine a_ret ?_
      refine a_var rfl ?_
      obtain ⟨F142, gb143, cm144, le145s, e146, ne147⟩ := frz gb131 cm132 hb6 oF139 oH138 (by intro _ _ z; cases z)
      have le145 := Le.of le145s
      exact k _ _ _ (m135) (Gr.of gb143 cm144) (⟨_, _, rfl, (Rd.of e146), (Dk.mo le145 dk140), nd141⟩) (by exact ⟨q1, by omega⟩)
def sp_law_add (K : PySem.W.Frag) : Sp := fun vs H Q _ => ∃ (F : Hp) (v_one v_other : V) (one : Rat) (other : (Int × Int)), vs = [v_one, v_other] ∧ Same F H ∧ (rFr K) F v_one one ∧ (r2 K rI rI) F v_other other ∧ (0 < other.2 ∧ bi other.1 ≤ 3000 ∧ bi other.2 ≤ 3000 ∧ bs one ≤ 3000) ∧ ∀ (v : V) (F' H' : Hp), Gr F H F' H' → (rFr K) F' v (one + Rat.divInt other.1 other.2) → Q v H'
set_option linter.unusedVariables false in
theorem ok_law_add (T : Tx K mg) : FnOk P w K mg base CX0 3 T.a_law_add T.d_law_add ["_law_one", "_law_other"] (sp_law_add K) := by
  refine T.F_law_add.ok sc_law_add (fun vs H Q E h => ?_) (fun cdv A outer s H vs Q E hr h => ?_)
  · obtain ⟨F, v_one, v_other, one, other, rfl, _⟩ := h
    rfl
  · obtain ⟨F, v_one, v_other, one, other, rfl, wd, r_one, r_other, hpre, k⟩ := h
    have hu := hu_of hr
    have gb := Gr0.refl wd
    have cm := Fz.refl F
    obtain ⟨a1, rfl, sq2⟩ := r_one
    obtain ⟨a3, v5, v6, rfl, sq4, h7, h8⟩ := r_other
    obtain rfl : v5 = V.int other.1 := h7
    obtain rfl : v6 = V.int other.2 := h8
    obtain ⟨w1, w2, w3, w4⟩ := hpre
    refine ⟨_, (pss_one (ps_ret (pe_call ((ok_law_lowest T).mono (by decide)) hr rfl T.m_law_lowest T.F_law_lowest.kp T.b_law_lowest .nil pass0 (pa_cons (pe_op op_add (pe_op op_mulB (pe_ix ix_tup (pv 0) pe_int (fun _ _ => rfl)) (pe_ix ix_tup (pv 1) pe_int (fun _ _ => rfl))) (pe_op op_mulB (pe_ix ix_tup (pv 1) pe_int (fun _ _ => rfl)) (pe_ix ix_tup (pv 0) pe_int (fun _ _ => rfl)))) (pa_cons (pe_op op_mulB (pe_ix ix_tup (pv 0) pe_int (fun _ _ => rfl)) (pe_ix ix_tup (pv 1) pe_int (fun _ _ => rfl))) pa_nil))))), ?_⟩
    refine a_ret ?_
    refine a_call ?_
    refine a_cons ?_
    refine a_op ?_
    refine a_op ?_
    refine a_op ?_
    refine a_var rfl ?_
    refine a_c ?_
    refine a_ixT (Same.tup gb.s sq2) (fr0 one) ?_
    have b9 := bi_num one
    refine a_op ?_
    refine a_var rfl ?_
    refine a_c ?_
    refine a_ixT (Same.tup gb.s sq4) rfl ?_
    refine a_I (by walk_at "om") ?_
    have b10 := bi_mul one.num other.2
    refine a_op ?_
    refine a_op ?_
    refine a_var rfl ?_
    refine a_c ?_
    refine a_ixT (Same.tup gb.s sq4) rfl ?_
    refine a_op ?_
    refine a_var rfl ?_
    refine a_c ?_
    refine a_ixT (Same.tup gb.s sq2) (fr1 one) ?_
    have b11 := bi_den one
    refine a_I (by walk_at "om") ?_
    have b12 := bi_mul other.1 (one.den : Int)
    refine a_I0 ?_
    have b13 := bi_add (one.num * other.2) (other.1 * (one.den : Int))
    refine a_cons ?_
    refine a_op ?_
    refine a_op ?_
    refine a_var rfl ?_
    refine a_c ?_
    refine a_ixT (Same.tup gb.s sq2) (fr1 one) ?_
    have b14 := bi_den one
    refine a_op ?_
    refine a_var rfl ?_
    refine a_c ?_
    refine a_ixT (Same.tup gb.s sq4) rfl ?_
    refine a_I (by walk_at "om") ?_
    have b15 := bi_mul (one.den : Int) other.2
    refine a_nil ?_
    refine ⟨F, _, _, ((one.num * other.2) + (other.1 * (one.den : Int))), ((one.den : Int) * other.2), rfl, gb.s, rfl, rfl, (by exact ⟨Int.mul_pos (den_pos _) w1, by omega⟩), ?_⟩
    rintro v16 F17 H18  g20 hr21 
    have gb23 := gb.tr g20
    have le24 := g20.le
    have cm25 := g20.fz cm
    obtain ⟨a26, rfl, sq27⟩ := hr21
    have hval : ((Rat.divInt (((one.num * other.2) + (other.1 * (one.den : Int)))) (((one.den : Int) * other.2))) : Rat) = (one + Rat.divInt other.1 other.2) := by exact add_frac one w1
    have rp28 : (rFr K) F17 (V.ref a26) ((Rat.divInt (((one.num * other.2) + (other.1 * (one.den : Int)))) (((one.den : Int) * other.2)))) := ⟨_, rfl, sq27⟩
    replace rp28 := Eq.mp (congrArg ((rFr K) F17 (V.ref a26)) hval) rp28
    exact k _ _ _ (Gr.of gb23 cm25) rp28
def sp_law_is (K : PySem.W.Frag) : Sp := fun vs H Q _ => ∃ (F : Hp) (v_found v_due : V) (found : Rat) (due : Rat), vs = [v_found, v_due] ∧ Same F H ∧ (rFr K) F v_found found ∧ (rFr K) F v_due due ∧ (found = due) ∧ ∀ (v : V) (F' H' : Hp), Gr F H F' H' → rB F' v (true) → Q v H'
set_option linter.unusedVariables false in
theorem ok_law_is (T : Tx K mg) : FnOk P w K mg base CX0 3 T.a_law_is T.d_law_is ["_law_found", "_law_due"] (sp_law_is K) := by
  refine T.F_law_is.ok sc_law_is (fun vs H Q E h => ?_) (fun cdv A outer s H vs Q E hr h => ?_)
  · obtain ⟨F, v_found, v_due, found, due, rfl, _⟩ := h
    rfl
  · obtain ⟨F, v_found, v_due, found, due, rfl, wd, r_found, r_due, hpre, k⟩ := h
    have hu := hu_of hr
    have gb := Gr0.refl wd
    have cm := Fz.refl F
    obtain ⟨a1, rfl, sq2⟩ := r_found
    obtain ⟨a3, rfl, sq4⟩ := r_due
    refine ⟨_, (ZSs.h (zss_cons (ps_if (PW.pt (pw_or (pt_not (pt_val (pe_callB call_isx rfl T.z_isinstance rfl (pa_cons (pv 0) (pa_cons (pe_bltn (v := .ty "tuple") rfl T.z_tuple rfl rfl) pa_nil))))) (pw_or (pt_cmpR op_ne (pe_callB call_len_seq rfl T.z_len rfl (pa_cons (pv 0) pa_nil)) pe_int (nomark _)) (pw_or (pt_val (pe_callB call_isx rfl T.z_isinstance rfl (pa_cons (pe_ix ix_tup (pv 0) pe_int (fun _ _ => rfl)) (pa_cons (pe_bltn (v := .ty "bool") rfl T.z_bool rfl rfl) pa_nil)))) (pw_or1 (pt_val (pe_callB call_isx rfl T.z_isinstance rfl (pa_cons (pe_ix ix_tup (pv 0) pe_int (fun _ _ => rfl)) (pa_cons (pe_bltn (v := .ty "bool") rfl T.z_bool rfl rfl) pa_nil))))))))) (pss_one (ps_ret pe_bl)) pss_nil)
          (zss_one (ps_ret (pe_cmpR (op_eqQ (K := K) (A := (rFr K)) rfl hr.units) (pv 0) (pv 1) (nomark _)))))), ?_⟩
    refine a_seq ?_
    refine a_if ?_
    refine a_or ?_
    refine a_not ?_
    refine a_tB ?_
    refine a_cb ?_
    refine a_cons ?_
    refine a_var rfl ?_
    refine a_cons ?_
    refine a_c ?_
    refine a_nil ?_
    refine ⟨_, _, _, true, _, rfl, (tx_tup (Same.tup gb.s sq2)), rfl, rfl, ?_⟩
    refine a_bl ?_
    refine iteNT ?_
    refine a_or ?_
    refine a_test ?_
    refine a_op ?_
    refine a_cb ?_
    refine a_cons ?_
    refine a_var rfl ?_
    refine a_nil ?_
    refine ⟨_, _, rfl, .inr (Same.tup gb.s sq2), ?_⟩
    rw [show ((fr found : List V).length : Int) = 2 from rfl]
    refine a_c ?_
    refine a_neI ?_
    rw [show decide ((2 : Int) = 2) = true from by decide]
    refine a_bl ?_
    refine iteNT ?_
    refine a_or ?_
    refine a_tB ?_
    refine a_cb ?_
    refine a_cons ?_
    refine a_op ?_
    refine a_var rfl ?_
    refine a_c ?_
    refine a_ixT (Same.tup gb.s sq2) (fr0 found) ?_
    refine a_cons ?_
    refine a_c ?_
    refine a_nil ?_
    refine ⟨_, _, _, false, _, rfl, tx_int, rfl, rfl, ?_⟩
    refine a_bl ?_
    refine iteF ?_
    refine a_tB ?_
    refine a_cb ?_
    refine a_cons ?_
    refine a_op ?_
    refine a_var rfl ?_
    refine a_c ?_
    refine a_ixT (Same.tup gb.s sq2) (fr1 found) ?_
    refine a_cons ?_
    refine a_c ?_
    refine a_nil ?_
    refine ⟨_, _, _, false, _, rfl, tx_int, rfl, rfl, ?_⟩
    refine a_bl ?_
    refine iteF ?_
    refine a_next ?_
    try dsimp only
    refine a_ret ?_
    refine a_op ?_
    refine a_var rfl ?_
    refine a_var rfl ?_
    refine ⟨F, found, due, gb.s, ⟨_, rfl, sq2⟩, ⟨_, rfl, sq4⟩, ?_⟩
    have hval : ((decide (found = due)) : Bool) = (true) := by exact decide_eq_true hpre
    have rp5 : rB F (V.bl (decide (found = due))) ((decide (found = due))) := rfl
    replace rp5 := Eq.mp (congrArg (rB F (V.bl (decide (found = due)))) hval) rp5
    exact k _ _ _ (Gr.of gb cm) rp5
def sp_law_row (K : PySem.W.Frag) : Sp := fun vs H Q _ => ∃ (F : Hp) (v_cell v_placing_here : V) (cell : Int) (placing_here : (List (Str × Rat))), vs = [v_cell, v_placing_here] ∧ Same F H ∧ Fz S0 F ∧ rI F v_cell cell ∧ (rD (rFr K)) F v_placing_here placing_here ∧ (PlOk placing_here) ∧ ∀ (v : V) (F' H' : Hp) (r : ((List (Str × Rat)) × Str × Rat × Int × Int)), Gr F H F' H' → (r5 K (rD (rFr K)) rS (rFr K) rI rI) F' v r → (RowOk placing_here r) → Q v H'
set_option linter.unusedVariables false in
theorem ok_law_row (T : Tx K mg) : FnOk P w K mg base CX0 4 T.a_law_row T.d_law_row ["_law_cell", "_law_placing_here"] (sp_law_row K) := by
  refine T.F_law_row.ok sc_law_row (fun vs H Q E h => ?_) (fun cdv A outer s H vs Q E hr h => ?_)
  · obtain ⟨F, v_cell, v_placing_here, cell, placing_here, rfl, _⟩ := h
    rfl
  · obtain ⟨F, v_cell, v_placing_here, cell, placing_here, rfl, wd, cm, r_cell, r_placing_here, hpre, k⟩ := h
    have hu := hu_of hr
    have gb := Gr0.refl wd
    obtain rfl : v_cell = V.int cell := r_cell
    obtain ⟨a1, kvs2, rfl, rd3, dk4, nd5⟩ := r_placing_here
    obtain ⟨w1, w2⟩ := hpre
    refine ⟨_, (ZSs.h (zss_cons (ps_set (i := 2) sc_law_row.nd rfl (Or.inl rfl) pe_dnewK)
          (zss_cons (ps_set (i := 3) sc_law_row.nd rfl (Or.inl rfl) (pe_tup (pa_cons pe_int (pa_cons pe_int pa_nil))))
          (zss_cons (ps_thaw (ps_for PassesOwn.never rfl (pi_enumK rfl T.z_enumerate (pa_cons (pv 1) pa_nil)) (pg_tup rfl (pgs_cons (pg_name (i := 4) sc_law_row.nd rfl (Or.inl rfl)) (pgs_cons (pg_name (i := 5) sc_law_row.nd rfl (Or.inl rfl)) pgs_nil))) (ZSs.h (zss_cons (ps_set (i := 6) sc_law_row.nd rfl (Or.inl rfl) (pe_tup (pa_cons (pe_op op_sub (pe_op op_mod (pe_call ((ok_law_mix T).mono (by decide)) hr rfl T.m_law_mix T.F_law_mix.kp T.b_law_mix .nil pass0 (pa_cons (pv 0) (pa_cons (pe_op op_add (pv 4) pe_int) pa_nil))) pe_int) pe_int) (pa_cons pe_int pa_nil))))
          (zss_one (ps_if (pt_cmpR op_ne (pe_ix ix_tup (pv 6) pe_int (fun _ _ => rfl)) pe_int (nomark _)) (ZSs.h (zss_cons (ps_dput hu (pv 2) (pv 5) (pv 6) rfl)
          (zss_one (ps_set (i := 3) sc_law_row.nd rfl (Or.inl rfl) (pe_call ((ok_law_add T).mono (by decide)) hr rfl T.m_law_add T.F_law_add.kp T.b_law_add .nil pass0 (pa_cons (pv 3) (pa_cons (pe_tup (pa_cons (pe_op op_mulB (pe_ix ix_tup (pv 6) pe_int (fun _ _ => rfl)) (pe_ix ix_tup (pe_dget hu (pv 1) (pv 5) (fun _ _ => rfl)) pe_int (fun _ _ => rfl))) (pa_cons (pe_ix ix_tup (pe_dget hu (pv 1) (pv 5) (fun _ _ => rfl)) pe_int (fun _ _ => rfl)) pa_nil))) pa_nil))))))) pss_nil))))))
          (zss_cons (ps_set (i := 7) sc_law_row.nd rfl (Or.inl rfl) (pe_ix ix_list (pe_lst (pa_cons (pe_tup (pa_cons pe_int (pa_cons pe_int pa_nil))) (pa_cons (pe_tup (pa_cons pe_int (pa_cons pe_int pa_nil))) (pa_cons (pe_tup (pa_cons pe_int (pa_cons pe_int pa_nil))) (pa_cons (pe_tup (pa_cons (pe_un un_neg pe_int) (pa_cons pe_int pa_nil))) (pa_cons (pe_tup (pa_cons pe_int (pa_cons pe_int pa_nil))) (pa_cons (pe_tup (pa_cons (pe_un un_neg pe_int) (pa_cons pe_int pa_nil))) pa_nil))))))) (pe_op op_mod (pe_call ((ok_law_mix T).mono (by decide)) hr rfl T.m_law_mix T.F_law_mix.kp T.b_law_mix .nil pass0 (pa_cons (pv 0) (pa_cons pe_int pa_nil))) pe_int) (fun _ _ => rfl)))
          (zss_cons (ps_set (i := 8) sc_law_row.nd rfl (Or.inl rfl) (pe_ix ix_list (pe_lst (pa_cons pe_str (pa_cons pe_str (pa_cons pe_str pa_nil)))) (pe_op op_mod (pe_call ((ok_law_mix T).mono (by decide)) hr rfl T.m_law_mix T.F_law_mix.kp T.b_law_mix .nil pass0 (pa_cons (pv 0) (pa_cons pe_int pa_nil))) pe_int) (fun _ _ => rfl)))
          (zss_cons (ps_set (i := 9) sc_law_row.nd rfl (Or.inl rfl) (pe_op op_add pe_int (pe_op op_mod (pe_call ((ok_law_mix T).mono (by decide)) hr rfl T.m_law_mix T.F_law_mix.kp T.b_law_mix .nil pass0 (pa_cons (pv 0) (pa_cons pe_int pa_nil))) (pe_ix ix_list (pe_lst (pa_cons pe_int (pa_cons pe_int (pa_cons (pe_op op_pow pe_int pe_int) pa_nil)))) (pe_op op_mod (pv 0) pe_int) (fun _ _ => rfl)))))
          (zss_one (ps_ret (pe_tup (pa_cons (pv 2) (pa_cons (pv 8) (pa_cons (pe_call ((ok_law_add T).mono (by decide)) hr rfl T.m_law_add T.F_law_add.kp T.b_law_add .nil pass0 (pa_cons (pv 3) (pa_cons (pv 7) pa_nil))) (pa_cons (pe_op op_mod (pe_call ((ok_law_mix T).mono (by decide)) hr rfl T.m_law_mix T.F_law_mix.kp T.b_law_mix .nil pass0 (pa_cons (pv 0) (pa_cons pe_int pa_nil))) pe_int) (pa_cons (pv 9) pa_nil))))))))))))))), ?_⟩
    refine a_seq ?_
    refine a_asg ?_
    refine fun p6 hp7 => ?_
    obtain ⟨gb9, sm10, hb11, oF12, oH13, ne14⟩ := alo2 (o := (.dK [])) gb hp7
    generalize upd H p6 (.dK []) = H8 at gb9 sm10 oH13 ⊢
    refine a_name ?_
    try dsimp only
    refine a_seq ?_
    refine a_asg ?_
    refine a_tup ?_
    refine a_cons ?_
    refine a_c ?_
    refine a_cons ?_
    refine a_c ?_
    refine a_nil ?_
    refine ⟨by show 2 ≤ sizeLine; decide, fun p15 hp16 => ?_⟩
    obtain ⟨F17, g19, e20⟩ := al2 (o := (.tup [V.int 0, V.int 1])) gb9.s (by intro _ _ z; cases z) hp16
    generalize upd H8 p15 (.tup [V.int 0, V.int 1]) = H18 at g19 ⊢
    have gb21 := gb9.tr g19
    have le22 := g19.le
    have oH23 := g19.h _ _ oH13
    have oF24 := g19.own oF12 oH13
    have cm25 := g19.fz cm
    have sq26 : SqT K F17 p15 (fr ((0 : Int) : Rat)) := by rw [fr_int]; exact SqT.of e20
    refine a_name ?_
    try dsimp only
    refine a_seq ?_
    refine a_thaw ?_
    refine a_for ?_
    refine a_ienumK ?_
    refine a_cons ?_
    refine a_var rfl ?_
    refine a_nil ?_
    have fa32 := calm_at cm25 (Le.dic le22 rd3)
    have ha30 : H18 a1 = some (.dK kvs2) := gb21.s _ _ fa32
    have fa29 : F17 a1 = none ∨ F17 a1 = some (.dK kvs2) := .inr fa32
    have dk31 := (Dk.mo le22 dk4)
    have hnd := nd5
    have hdl := Dk.length dk31
    refine ⟨_, kvs2, rfl, ha30, fun ob27 hna28 => ?_⟩
    have gb33 := fz_gr (a := a1) (.frz ob27 (.dK kvs2)) gb21
    have cm34 := fz_fz (a := a1) (z := (.frz ob27 (.dK kvs2))) cm25
    have le35 := fz_le (ob := ob27) fa29
    have ne36 : p6 ≠ a1 := fun z => by have := oF24; rw [z, fa32] at this; cases this
    have oH37 := (upd_ne (o := (.frz ob27 (.dK kvs2))) ne36).trans oH23
    have oF38 := (fz_ne (o := (.frz ob27 (.dK kvs2))) ne36).trans oF24
    have hb39 := (fz_ne (o := (.frz ob27 (.dK kvs2))) ne36).trans hb11
    refine for_enumK (a := a1) (ob := ob27) (kvs := kvs2) (fun i σ' H' => ∃ (F40 : Hp) (v_come41 : V) (come41 : Rat) (kv42 : List (Key × V)) (parts43 : List (Str × Rat)) (o44 : Option V) (o45 : Option V) (o46 : Option V), σ' = [some (V.int cell), some (V.ref a1), some (V.ref p6), some v_come41, o45, o46, o44, none, none, none] ∧ Gr0 (fz F a1 (.frz ob27 (.dK kvs2))) (fz H a1 (.frz ob27 (.dK kvs2))) F40 H' ∧ Fz (fun b => b = a1 ∨ S0 b) F40 ∧ Le F17 F40 ∧ (rFr K) F40 v_come41 come41 ∧ H' p6 = some (.dK kv42) ∧ F40 p6 = none ∧ Dk (rFr K) F40 kv42 parts43 ∧ (parts43.map (·.1)).Nodup ∧ F40 a1 = fz F17 a1 (.frz ob27 (.dK kvs2)) a1 ∧ H' a1 = some (.frz ob27 (.dK kvs2)) ∧ (PartsOk placing_here parts43 ∧ parts43.length ≤ i ∧ bs come41 ≤ 12 * i + 1)) ?_ ?_ ?_ ?_
    · exact ⟨(fz F17 a1 (.frz ob27 (.dK kvs2))), _, ((0 : Int) : Rat), _, [], _, _, _, rfl, gb33, cm34, le35, ⟨_, rfl, (Le.tup le35 sq26)⟩, oH37, oF38, (Dk.mo (le22.trans le35) True.intro), List.nodup_nil, rfl, upd_same, by exact ⟨PartsOk.nil, Nat.le_refl _, by decide +kernel⟩⟩
    · rintro i σ' H47 _ ⟨F48, v_come52, come52, kv53, m54, o55, o56, o57, rfl, gb49, cm50, le51, hr58, oH59, oF60, dk61, nd62, x63, x64, ⟨q1, q2, q3⟩⟩
      exact x64
    · rintro i65 ky88 y68 σ' H66 p69 hi67 ⟨F71, v_come75, come75, kv76, m77, o78, o79, o80, rfl, gb72, cm73, le74, hr81, oH82, oF83, dk84, nd85, x86, x87, ⟨q1, q2, q3⟩⟩ hp70
      obtain ⟨a89, rfl, sq90⟩ := hr81
      obtain ⟨k'91, name92, hm93, rfl, hr94⟩ := Dk.get (Dk.mo le74 dk31) hi67
      obtain ⟨a99, rfl, sq100⟩ := hr94
      refine it2 (K := K) gb72.s hp70 (fun F95 H96 g97 e98 => ?_)
      have gb101 := gb72.tr g97
      have le102 := g97.le
      have oH103 := g97.h _ _ oH82
      have oF104 := g97.own oF83 oH82
      have cm105 := g97.fz cm73
      have za106 := g97.h _ _ x87
      have zf107 := g97.at x87 x86
      try dsimp only
      have u1 := (List.getElem?_eq_some_iff.mp hm93).1
      obtain ⟨y, hy⟩ : ∃ y, gt placing_here k'91 = some y := ⟨_, gt_of_mem hnd (List.mem_of_getElem? hm93)⟩
      have u3 := w1 _ _ hy
      have u9 := den_pos y
      refine a_seq ?_
      refine a_asg ?_
      refine a_tup ?_
      refine a_cons ?_
      refine a_op ?_
      refine a_op ?_
      refine a_call ?_
      refine a_cons ?_
      refine a_var rfl ?_
      refine a_cons ?_
      refine a_op ?_
      refine a_var rfl ?_
      refine a_c ?_
      refine a_I0 ?_
      have b108 := bi_add (i65 : Int) (1 : Int)
      refine a_nil ?_
      refine ⟨F95, _, _, cell, ((i65 : Int) + 1), rfl, gb101.s, rfl, rfl, ?_⟩
      rintro v109 F110 H111 r112 g113 hr114 hp115
      have gb116 := gb101.tr g113
      have le117 := g113.le
      have oH118 := g113.h _ _ oH103
      have oF119 := g113.own oF104 oH103
      have cm120 := g113.fz cm105
      have za121 := g113.h _ _ za106
      have zf122 := g113.at za106 zf107
      obtain rfl : v109 = V.int r112 := hr114
      refine a_c ?_
      refine a_I (by decide) ?_
      have m123 : 0 ≤ (r112 % 7) ∧ (r112 % 7) < 7 := ⟨Int.emod_nonneg _ (by decide), Int.emod_lt_of_pos _ (by decide)⟩
      refine a_c ?_
      refine a_I0 ?_
      have b124 := bi_sub (r112 % 7) (3 : Int)
      refine a_cons ?_
      refine a_c ?_
      refine a_nil ?_
      refine ⟨by show 2 ≤ sizeLine; decide, fun p125 hp126 => ?_⟩
      obtain ⟨F127, g129, e130⟩ := al2 (o := (.tup [V.int ((r112 % 7) - 3), V.int 1])) gb116.s (by intro _ _ z; cases z) hp126
      generalize upd H111 p125 (.tup [V.int ((r112 % 7) - 3), V.int 1]) = H128 at g129 ⊢
      have gb131 := gb116.tr g129
      have le132 := g129.le
      have oH133 := g129.h _ _ oH118
      have oF134 := g129.own oF119 oH118
      have cm135 := g129.fz cm120
      have za136 := g129.h _ _ za121
      have zf137 := g129.at za121 zf122
      have sq138 : SqT K F127 p125 (fr ((((r112 % 7) - 3) : Int) : Rat)) := by rw [fr_int]; exact SqT.of e130
      refine a_name ?_
      try dsimp only
      have u4 : bs ((((r112 % 7) - 3) : Int) : Rat) ≤ 5 := bs_i (by omega) (by omega)
      have u5 : (((((r112 % 7) - 3) : Int) : Rat)).den = 1 := Rat.den_intCast _
      refine a_if ?_
      refine a_test ?_
      refine a_op ?_
      refine a_op ?_
      refine a_var rfl ?_
      refine a_c ?_
      refine a_ixT (Same.tup gb131.s sq138) (fr0 ((((r112 % 7) - 3) : Int) : Rat)) ?_
      have b139 := bi_num ((((r112 % 7) - 3) : Int) : Rat)
      refine a_c ?_
      refine a_neI ?_
      refine a_bl ?_
      refine iteDN (fun c140 => ?_) (fun c140 => ?_)
      · refine a_seq ?_
        refine a_dput ?_
        refine a_var rfl ?_
        refine a_var rfl ?_
        refine a_var rfl ?_
        refine a_dputK oH133 (by rw [Dk.length (Dk.mo ((le102.trans le117).trans le132) dk84)]; omega) (chg gb131 hb39 oF134 (fun H141 gb142 oH143 ne144 => ?_))
        have dk145 := Dk.put (x := k'91) (show (rFr K) F127 (V.ref p125) (((((r112 % 7) - 3) : Int) : Rat)) from ⟨_, rfl, sq138⟩) (Dk.mo ((le102.trans le117).trans le132) dk84)
        have za146 := (ne144 _ (ne_of za136 oH133 (by intro z; cases z))).trans za136
        try dsimp only
        refine a_asg ?_
        refine a_call ?_
        refine a_cons ?_
        refine a_var rfl ?_
        refine a_cons ?_
        refine a_tup ?_
        refine a_cons ?_
        refine a_op ?_
        refine a_op ?_
        refine a_var rfl ?_
        refine a_c ?_
        refine a_ixT (Same.tup gb142.s sq138) (fr0 ((((r112 % 7) - 3) : Int) : Rat)) ?_
        have b147 := bi_num ((((r112 % 7) - 3) : Int) : Rat)
        refine a_op ?_
        refine a_dget ?_
        refine a_var rfl ?_
        refine a_var rfl ?_
        obtain ⟨v148, h149, h150⟩ := Dk.some (Dk.mo ((((le22.trans le74).trans le102).trans le117).trans le132) dk4) hy
        refine a_dgetK (Same.rd gb142.s (Le.dic ((((le22.trans le74).trans le102).trans le117).trans le132) rd3)) h149 ?_
        obtain ⟨a152, rfl, sq153⟩ := h150
        refine a_c ?_
        refine a_ixT (Same.tup gb142.s sq153) (fr0 y) ?_
        have b154 := bi_num y
        refine a_I (by walk_at "om") ?_
        have b155 := bi_mul ((((r112 % 7) - 3) : Int) : Rat).num y.num
        refine a_cons ?_
        refine a_op ?_
        refine a_dget ?_
        refine a_var rfl ?_
        refine a_var rfl ?_
        obtain ⟨v156, h157, h158⟩ := Dk.some (Dk.mo ((((le22.trans le74).trans le102).trans le117).trans le132) dk4) hy
        refine a_dgetK (Same.rd gb142.s (Le.dic ((((le22.trans le74).trans le102).trans le117).trans le132) rd3)) h157 ?_
        obtain ⟨a160, rfl, sq161⟩ := h158
        refine a_c ?_
        refine a_ixT (Same.tup gb142.s sq161) (fr1 y) ?_
        have b162 := bi_den y
        refine a_nil ?_
        refine ⟨by show 2 ≤ sizeLine; decide, fun p163 hp164 => ?_⟩
        obtain ⟨F165, g167, e168⟩ := al2 (o := (.tup [V.int (((((r112 % 7) - 3) : Int) : Rat).num * y.num), V.int (y.den : Int)])) gb142.s (by intro _ _ z; cases z) hp164
        generalize upd H141 p163 (.tup [V.int (((((r112 % 7) - 3) : Int) : Rat).num * y.num), V.int (y.den : Int)]) = H166 at g167 ⊢
        have gb169 := gb142.tr g167
        have le170 := g167.le
        have oH171 := g167.h _ _ oH143
        have oF172 := g167.own oF134 oH143
        have cm173 := g167.fz cm135
        have za174 := g167.h _ _ za146
        have zf175 := g167.at za146 zf137
        refine a_nil ?_
        refine ⟨F165, _, _, come75, ((((((r112 % 7) - 3) : Int) : Rat).num * y.num), (y.den : Int)), rfl, gb169.s, ⟨_, rfl, (Le.tup (((le102.trans le117).trans le132).trans le170) sq90)⟩, ⟨_, _, _, rfl, (SqT.of e168), rfl, rfl⟩, (by dsimp only; exact ⟨den_pos _, by omega, by omega, by omega⟩), ?_⟩
        rintro v176 F177 H178  g180 hr181 
        have gb183 := gb169.tr g180
        have le184 := g180.le
        have oH185 := g180.h _ _ oH171
        have oF186 := g180.own oF172 oH171
        have cm187 := g180.fz cm173
        have za188 := g180.h _ _ za174
        have zf189 := g180.at za174 zf175
        obtain ⟨a190, rfl, sq191⟩ := hr181
        refine a_name ?_
        try dsimp only
        exact ⟨F177, _, (come75 + Rat.divInt (((((((r112 % 7) - 3) : Int) : Rat).num * y.num), (y.den : Int))).1 (((((((r112 % 7) - 3) : Int) : Rat).num * y.num), (y.den : Int))).2), _, (ptd m77 k'91 ((((r112 % 7) - 3) : Int) : Rat)), _, _, _, rfl, gb183, cm187, (((((le74.trans le102).trans le117).trans le132).trans le170).trans le184), ⟨_, rfl, sq191⟩, oH185, oF186, (Dk.mo (le170.trans le184) dk145), (nd_ptd nd85 k'91 ((((r112 % 7) - 3) : Int) : Rat)), zf189, za188, by first | exact ⟨PartsOk.put q1 hy u5 u4, Nat.le_trans (ptd_len _ _ _) (by omega), Nat.le_trans (bs_ad (k := 10) (by dsimp only; omega) (by dsimp only; omega) (by dsimp only; omega)) (by omega)⟩ | exact ⟨q1, by omega, by omega⟩⟩
      · refine a_next ?_
        try dsimp only
        exact ⟨F127, _, come75, _, m77, _, _, _, rfl, gb131, cm135, (((le74.trans le102).trans le117).trans le132), ⟨_, rfl, (Le.tup ((le102.trans le117).trans le132) sq90)⟩, oH133, oF134, (Dk.mo ((le102.trans le117).trans le132) dk84), nd85, zf137, za136, by first | exact ⟨PartsOk.put q1 hy u5 u4, Nat.le_trans (ptd_len _ _ _) (by omega), Nat.le_trans (bs_ad (k := 10) (by dsimp only; omega) (by dsimp only; omega) (by dsimp only; omega)) (by omega)⟩ | exact ⟨q1, by omega, by omega⟩⟩
    · rintro σ' H192 ⟨F193, v_come197, come197, kv198, m199, o200, o201, o202, rfl, gb194, cm195, le196, hr203, oH204, oF205, dk206, nd207, x208, x209, ⟨q1, q2, q3⟩⟩
      obtain ⟨a210, rfl, sq211⟩ := hr203
      refine ⟨a1, ob27, kvs2, x209, hna28, ?_⟩
      refine thw gb21 ha30 fa29 gb194 x208 cm195 (fun F212 H213 gb214 cm215 le216 ea217 eb218 nF219 nH220 => ?_)
      have oH221 := (nH220 _ (ne36)).trans oH204
      have oF222 := (nF219 _ (ne36)).trans oF205
      try dsimp only
      rw [hdl] at q2 q3
      refine a_seq ?_
      refine a_asg ?_
      refine a_op ?_
      refine a_lst ?_
      refine a_cons ?_
      refine a_tup ?_
      refine a_cons ?_
      refine a_c ?_
      refine a_cons ?_
      refine a_c ?_
      refine a_nil ?_
      refine ⟨by show 2 ≤ sizeLine; decide, fun p223 hp224 => ?_⟩
      obtain ⟨F225, g227, e228⟩ := al2 (o := (.tup [V.int 0, V.int 1])) gb214.s (by intro _ _ z; cases z) hp224
      generalize upd H213 p223 (.tup [V.int 0, V.int 1]) = H226 at g227 ⊢
      have gb229 := gb214.tr g227
      have le230 := g227.le
      have oH231 := g227.h _ _ oH221
      have oF232 := g227.own oF222 oH221
      have cm233 := g227.fz cm215
      have sq234 : SqT K F225 p223 (fr ((0 : Int) : Rat)) := by rw [fr_int]; exact SqT.of e228
      refine a_cons ?_
      refine a_tup ?_
      refine a_cons ?_
      refine a_c ?_
      refine a_cons ?_
      refine a_c ?_
      refine a_nil ?_
      refine ⟨by show 2 ≤ sizeLine; decide, fun p235 hp236 => ?_⟩
      obtain ⟨F237, g239, e240⟩ := al2 (o := (.tup [V.int 0, V.int 1])) gb229.s (by intro _ _ z; cases z) hp236
      generalize upd H226 p235 (.tup [V.int 0, V.int 1]) = H238 at g239 ⊢
      have gb241 := gb229.tr g239
      have le242 := g239.le
      have oH243 := g239.h _ _ oH231
      have oF244 := g239.own oF232 oH231
      have cm245 := g239.fz cm233
      have sq246 : SqT K F237 p235 (fr ((0 : Int) : Rat)) := by rw [fr_int]; exact SqT.of e240
      refine a_cons ?_
      refine a_tup ?_
      refine a_cons ?_
      refine a_c ?_
      refine a_cons ?_
      refine a_c ?_
      refine a_nil ?_
      refine ⟨by show 2 ≤ sizeLine; decide, fun p247 hp248 => ?_⟩
      obtain ⟨F249, g251, e252⟩ := al2 (o := (.tup [V.int 1, V.int 1])) gb241.s (by intro _ _ z; cases z) hp248
      generalize upd H238 p247 (.tup [V.int 1, V.int 1]) = H250 at g251 ⊢
      have gb253 := gb241.tr g251
      have le254 := g251.le
      have oH255 := g251.h _ _ oH243
      have oF256 := g251.own oF244 oH243
      have cm257 := g251.fz cm245
      have sq258 : SqT K F249 p247 (fr ((1 : Int) : Rat)) := by rw [fr_int]; exact SqT.of e252
      refine a_cons ?_
      refine a_tup ?_
      refine a_cons ?_
      refine a_un ?_
      refine a_c ?_
      refine a_U ?_
      refine a_cons ?_
      refine a_c ?_
      refine a_nil ?_
      refine ⟨by show 2 ≤ sizeLine; decide, fun p259 hp260 => ?_⟩
      obtain ⟨F261, g263, e264⟩ := al2 (o := (.tup [V.int (-1), V.int 1])) gb253.s (by intro _ _ z; cases z) hp260
      generalize upd H250 p259 (.tup [V.int (-1), V.int 1]) = H262 at g263 ⊢
      have gb265 := gb253.tr g263
      have le266 := g263.le
      have oH267 := g263.h _ _ oH255
      have oF268 := g263.own oF256 oH255
      have cm269 := g263.fz cm257
      have sq270 : SqT K F261 p259 (fr (((-1) : Int) : Rat)) := by rw [fr_int]; exact SqT.of e264
      refine a_cons ?_
      refine a_tup ?_
      refine a_cons ?_
      refine a_c ?_
      refine a_cons ?_
      refine a_c ?_
      refine a_nil ?_
      refine ⟨by show 2 ≤ sizeLine; decide, fun p271 hp272 => ?_⟩
      obtain ⟨F273, g275, e276⟩ := al2 (o := (.tup [V.int 1, V.int 97])) gb265.s (by intro _ _ z; cases z) hp272
      generalize upd H262 p271 (.tup [V.int 1, V.int 97]) = H274 at g275 ⊢
      have gb277 := gb265.tr g275
      have le278 := g275.le
      have oH279 := g275.h _ _ oH267
      have oF280 := g275.own oF268 oH267
      have cm281 := g275.fz cm269
      have sq282 : SqT K F273 p271 (fr (Rat.divInt 1 97)) := by rw [fr_lit (t := 1) (b := 97) (by decide +kernel) (by decide +kernel)]; exact SqT.of e276
      refine a_cons ?_
      refine a_tup ?_
      refine a_cons ?_
      refine a_un ?_
      refine a_c ?_
      refine a_U ?_
      refine a_cons ?_
      refine a_c ?_
      refine a_nil ?_
      refine ⟨by show 2 ≤ sizeLine; decide, fun p283 hp284 => ?_⟩
      obtain ⟨F285, g287, e288⟩ := al2 (o := (.tup [V.int (-5), V.int 3])) gb277.s (by intro _ _ z; cases z) hp284
      generalize upd H274 p283 (.tup [V.int (-5), V.int 3]) = H286 at g287 ⊢
      have gb289 := gb277.tr g287
      have le290 := g287.le
      have oH291 := g287.h _ _ oH279
      have oF292 := g287.own oF280 oH279
      have cm293 := g287.fz cm281
      have sq294 : SqT K F285 p283 (fr (Rat.divInt (-5) 3)) := by rw [fr_lit (t := (-5)) (b := 3) (by decide +kernel) (by decide +kernel)]; exact SqT.of e288
      refine a_nil ?_
      refine ⟨by show 6 ≤ sizeLine; decide, fun p295 hp296 => ?_⟩
      obtain ⟨F297, g299, e300⟩ := al2 (o := (.lst [V.ref p223, V.ref p235, V.ref p247, V.ref p259, V.ref p271, V.ref p283])) gb289.s (by intro _ _ z; cases z) hp296
      generalize upd H286 p295 (.lst [V.ref p223, V.ref p235, V.ref p247, V.ref p259, V.ref p271, V.ref p283]) = H298 at g299 ⊢
      have gb301 := gb289.tr g299
      have le302 := g299.le
      have oH303 := g299.h _ _ oH291
      have oF304 := g299.own oF292 oH291
      have cm305 := g299.fz cm293
      have al306 : Al (rFr K) F297 [.ref p223, .ref p235, .ref p247, .ref p259, .ref p271, .ref p283] [((0 : Int) : Rat), ((0 : Int) : Rat), ((1 : Int) : Rat), (((-1) : Int) : Rat), (Rat.divInt 1 97), (Rat.divInt (-5) 3)] := ⟨⟨_, rfl, (Le.tup (((((le242.trans le254).trans le266).trans le278).trans le290).trans le302) sq234)⟩, ⟨⟨_, rfl, (Le.tup ((((le254.trans le266).trans le278).trans le290).trans le302) sq246)⟩, ⟨⟨_, rfl, (Le.tup (((le266.trans le278).trans le290).trans le302) sq258)⟩, ⟨⟨_, rfl, (Le.tup ((le278.trans le290).trans le302) sq270)⟩, ⟨⟨_, rfl, (Le.tup (le290.trans le302) sq282)⟩, ⟨⟨_, rfl, (Le.tup le302 sq294)⟩, True.intro⟩⟩⟩⟩⟩⟩
      refine a_op ?_
      refine a_call ?_
      refine a_cons ?_
      refine a_var rfl ?_
      refine a_cons ?_
      refine a_c ?_
      refine a_nil ?_
      refine ⟨F297, _, _, cell, 5, rfl, gb301.s, rfl, rfl, ?_⟩
      rintro v307 F308 H309 r310 g311 hr312 hp313
      have gb314 := gb301.tr g311
      have le315 := g311.le
      have oH316 := g311.h _ _ oH303
      have oF317 := g311.own oF304 oH303
      have cm318 := g311.fz cm305
      obtain rfl : v307 = V.int r310 := hr312
      refine a_c ?_
      refine a_I (by decide) ?_
      have m319 : 0 ≤ (r310 % 6) ∧ (r310 % 6) < 6 := ⟨Int.emod_nonneg _ (by decide), Int.emod_lt_of_pos _ (by decide)⟩
      obtain ⟨x321, v320, h322, h323, h324⟩ := Al.ix (Al.mo le315 al306) (i := (r310 % 6)) (by walk_at "o") (by walk_at "ol")
      refine a_ixL (Same.seq gb314.s (Le.lst le315 (SqL.of e300))) h323 ?_
      have u7 : bs x321 ≤ 7 := by
        have z := List.mem_of_getElem? h322
        simp only [List.mem_cons, List.not_mem_nil, or_false] at z
        rcases z with z | z | z | z | z | z <;> (rw [z]; decide +kernel)
      have u8 := bi_num x321
      have u10 := bi_den x321
      obtain ⟨a325, rfl, sq326⟩ := h324
      refine a_name ?_
      try dsimp only
      refine a_seq ?_
      refine a_asg ?_
      refine a_op ?_
      refine a_lst ?_
      refine a_cons ?_
      refine a_c ?_
      have ln327 : ("least" : Str).length = 5 := by decide +kernel
      refine a_cons ?_
      refine a_c ?_
      have ln328 : ("most" : Str).length = 4 := by decide +kernel
      refine a_cons ?_
      refine a_c ?_
      have ln329 : ("just" : Str).length = 4 := by decide +kernel
      refine a_nil ?_
      refine ⟨by show 3 ≤ sizeLine; decide, fun p330 hp331 => ?_⟩
      obtain ⟨F332, g334, e335⟩ := al2 (o := (.lst [V.str ("least" : Str), V.str ("most" : Str), V.str ("just" : Str)])) gb314.s (by intro _ _ z; cases z) hp331
      generalize upd H309 p330 (.lst [V.str ("least" : Str), V.str ("most" : Str), V.str ("just" : Str)]) = H333 at g334 ⊢
      have gb336 := gb314.tr g334
      have le337 := g334.le
      have oH338 := g334.h _ _ oH316
      have oF339 := g334.own oF317 oH316
      have cm340 := g334.fz cm318
      have al341 : Al rS F332 [.str ("least" : Str), .str ("most" : Str), .str ("just" : Str)] [("least" : Str), ("most" : Str), ("just" : Str)] := ⟨rfl, ⟨rfl, ⟨rfl, True.intro⟩⟩⟩
      refine a_op ?_
      refine a_call ?_
      refine a_cons ?_
      refine a_var rfl ?_
      refine a_cons ?_
      refine a_c ?_
      refine a_nil ?_
      refine ⟨F332, _, _, cell, 6, rfl, gb336.s, rfl, rfl, ?_⟩
      rintro v342 F343 H344 r345 g346 hr347 hp348
      have gb349 := gb336.tr g346
      have le350 := g346.le
      have oH351 := g346.h _ _ oH338
      have oF352 := g346.own oF339 oH338
      have cm353 := g346.fz cm340
      obtain rfl : v342 = V.int r345 := hr347
      refine a_c ?_
      refine a_I (by decide) ?_
      have m354 : 0 ≤ (r345 % 3) ∧ (r345 % 3) < 3 := ⟨Int.emod_nonneg _ (by decide), Int.emod_lt_of_pos _ (by decide)⟩
      obtain ⟨x356, v355, h357, h358, h359⟩ := Al.ix (Al.mo le350 al341) (i := (r345 % 3)) (by walk_at "o") (by walk_at "ol")
      refine a_ixL (Same.seq gb349.s (Le.lst le350 (SqL.of e335))) h358 ?_
      have h357m := List.mem_of_getElem? h357
      simp only [List.mem_cons, List.not_mem_nil, or_false] at h357m
      have h357l : x356.length ≤ 5 := by rcases h357m with z | z | z <;> (rw [z]; decide +kernel)
      obtain rfl : v355 = V.str x356 := h359
      refine a_name ?_
      try dsimp only
      refine a_seq ?_
      refine a_asg ?_
      refine a_op ?_
      refine a_c ?_
      refine a_op ?_
      refine a_call ?_
      refine a_cons ?_
      refine a_var rfl ?_
      refine a_cons ?_
      refine a_c ?_
      refine a_nil ?_
      refine ⟨F343, _, _, cell, 7, rfl, gb349.s, rfl, rfl, ?_⟩
      rintro v360 F361 H362 r363 g364 hr365 hp366
      have gb367 := gb349.tr g364
      have le368 := g364.le
      have oH369 := g364.h _ _ oH351
      have oF370 := g364.own oF352 oH351
      have cm371 := g364.fz cm353
      obtain rfl : v360 = V.int r363 := hr365
      refine a_op ?_
      refine a_lst ?_
      refine a_cons ?_
      refine a_c ?_
      refine a_cons ?_
      refine a_c ?_
      refine a_cons ?_
      refine a_op ?_
      refine a_c ?_
      refine a_c ?_
      refine a_powC (z := 1000000) (by decide) ⟨by decide, by decide, by decide⟩ ?_
      refine a_nil ?_
      refine ⟨by show 3 ≤ sizeLine; decide, fun p372 hp373 => ?_⟩
      obtain ⟨F374, g376, e377⟩ := al2 (o := (.lst [V.int 1, V.int 9, V.int 1000000])) gb367.s (by intro _ _ z; cases z) hp373
      generalize upd H362 p372 (.lst [V.int 1, V.int 9, V.int 1000000]) = H375 at g376 ⊢
      have gb378 := gb367.tr g376
      have le379 := g376.le
      have oH380 := g376.h _ _ oH369
      have oF381 := g376.own oF370 oH369
      have cm382 := g376.fz cm371
      have al383 : Al rI F374 [.int 1, .int 9, .int 1000000] [1, 9, 1000000] := ⟨rfl, ⟨rfl, ⟨rfl, True.intro⟩⟩⟩
      refine a_op ?_
      refine a_var rfl ?_
      refine a_c ?_
      refine a_I (by decide) ?_
      have m384 : 0 ≤ (cell % 3) ∧ (cell % 3) < 3 := ⟨Int.emod_nonneg _ (by decide), Int.emod_lt_of_pos _ (by decide)⟩
      obtain ⟨x386, v385, h387, h388, h389⟩ := Al.ix al383 (i := (cell % 3)) (by walk_at "o") (by walk_at "ol")
      refine a_ixL (Same.seq gb378.s (SqL.of e377)) h388 ?_
      have h387m := List.mem_of_getElem? h387
      simp only [List.mem_cons, List.not_mem_nil, or_false] at h387m
      obtain rfl : v385 = V.int x386 := h389
      refine a_I (by walk_at "o") ?_
      have m390 : 0 ≤ (r363 % x386) ∧ (r363 % x386) < x386 := ⟨Int.emod_nonneg _ (by walk_at "o"), Int.emod_lt_of_pos _ (by walk_at "o")⟩
      refine a_I0 ?_
      have b391 := bi_add (1 : Int) (r363 % x386)
      refine a_name ?_
      try dsimp only
      refine a_ret ?_
      refine a_tup ?_
      refine a_cons ?_
      refine a_var rfl ?_
      refine a_cons ?_
      refine a_var rfl ?_
      refine a_cons ?_
      refine a_call ?_
      refine a_cons ?_
      refine a_var rfl ?_
      refine a_cons ?_
      refine a_var rfl ?_
      refine a_nil ?_
      refine ⟨F374, _, _, come197, (x321.num, (x321.den : Int)), rfl, gb378.s, ⟨_, rfl, (Le.tup ((((((((((((le216.trans le230).trans le242).trans le254).trans le266).trans le278).trans le290).trans le302).trans le315).trans le337).trans le350).trans le368).trans le379) sq211)⟩, ⟨_, _, _, rfl, (Le.tup (((le337.trans le350).trans le368).trans le379) sq326), rfl, rfl⟩, (by dsimp only; exact ⟨den_pos _, by omega, by omega, by omega⟩), ?_⟩
      rintro v392 F393 H394  g396 hr397 
      have gb399 := gb378.tr g396
      have le400 := g396.le
      have oH401 := g396.h _ _ oH380
      have oF402 := g396.own oF381 oH380
      have cm403 := g396.fz cm382
      obtain ⟨a404, rfl, sq405⟩ := hr397
      refine a_cons ?_
      refine a_op ?_
      refine a_call ?_
      refine a_cons ?_
      refine a_var rfl ?_
      refine a_cons ?_
      refine a_c ?_
      refine a_nil ?_
      refine ⟨F393, _, _, cell, 8, rfl, gb399.s, rfl, rfl, ?_⟩
      rintro v406 F407 H408 r409 g410 hr411 hp412
      have gb413 := gb399.tr g410
      have le414 := g410.le
      have oH415 := g410.h _ _ oH401
      have oF416 := g410.own oF402 oH401
      have cm417 := g410.fz cm403
      obtain rfl : v406 = V.int r409 := hr411
      refine a_c ?_
      refine a_I (by decide) ?_
      have m418 : 0 ≤ (r409 % 5) ∧ (r409 % 5) < 5 := ⟨Int.emod_nonneg _ (by decide), Int.emod_lt_of_pos _ (by decide)⟩
      refine a_cons ?_
      refine a_var rfl ?_
      refine a_nil ?_
      obtain ⟨F419, gb420, cm421, le422s, e423, ne424⟩ := frz gb413 cm417 hb11 oF416 oH415 (by intro _ _ z; cases z)
      have le422 := Le.of le422s
      refine ⟨by show 5 ≤ sizeLine; decide, fun p425 hp426 => ?_⟩
      obtain ⟨F427, g429, e430⟩ := al2 (o := (.tup [V.ref p6, V.str x356, V.ref a404, V.int (r409 % 5), V.int (1 + (r363 % x386))])) gb420.s (by intro _ _ z; cases z) hp426
      generalize upd H408 p425 (.tup [V.ref p6, V.str x356, V.ref a404, V.int (r409 % 5), V.int (1 + (r363 % x386))]) = H428 at g429 ⊢
      have gb431 := gb420.tr g429
      have le432 := g429.le
      have cm433 := g429.fz cm421
      have hde := g429.f _ _ e423
      have hdb := hb11
      have hdt := e430
      exact k _ _ _ ((m199, x356, (come197 + Rat.divInt ((x321.num, (x321.den : Int))).1 ((x321.num, (x321.den : Int))).2), (r409 % 5), (1 + (r363 % x386)))) (Gr.of0 gb431 cm433) (⟨_, _, _, _, _, _, rfl, (SqT.of e430), ⟨_, _, rfl, (Le.dic le432 (Rd.of e423)), (Dk.mo le432 (Dk.mo (((((((((((((((le216.trans le230).trans le242).trans le254).trans le266).trans le278).trans le290).trans le302).trans le315).trans le337).trans le350).trans le368).trans le379).trans le400).trans le414).trans le422) dk206)), nd207⟩, rfl, ⟨_, rfl, (Le.tup ((le414.trans le422).trans le432) sq405)⟩, rfl, rfl⟩) (by exact RowOk.of q1 (by omega) (Nat.le_trans (bs_ad (k := 7) (by dsimp only; have := den_pos x321; omega) (by dsimp only; omega) (by dsimp only; omega)) (by omega)) (by omega) (by omega))
def sp_law_off (K : PySem.W.Frag) : Sp := fun vs H Q _ => ∃ (F : Hp) (v_one v_placing_here : V) (one : ((List (Str × Rat)) × Str × Rat × Int × Int)) (placing_here : (List (Str × Rat))), vs = [v_one, v_placing_here] ∧ Same F H ∧ Fz S0 F ∧ (r5 K (rD (rFr K)) rS (rFr K) rI rI) F v_one one ∧ (rD (rFr K)) F v_placing_here placing_here ∧ (RowOk placing_here one ∧ PlOk placing_here) ∧ ∀ (v : V) (F' H' : Hp), Gr F H F' H' → (rFr K) F' v (missR placing_here one) → (bs (missR placing_here one) ≤ 184) → Q v H'
set_option linter.unusedVariables false in
theorem ok_law_off (T : Tx K mg) : FnOk P w K mg base CX0 4 T.a_law_off T.d_law_off ["_law_one", "_law_placing_here"] (sp_law_off K) := by
  refine T.F_law_off.ok sc_law_off (fun vs H Q E h => ?_) (fun cdv A outer s H vs Q E hr h => ?_)
  · obtain ⟨F, v_one, v_placing_here, one, placing_here, rfl, _⟩ := h
    rfl
  · obtain ⟨F, v_one, v_placing_here, one, placing_here, rfl, wd, cm, r_one, r_placing_here, hpre, k⟩ := h
    have hu := hu_of hr
    have gb := Gr0.refl wd
    obtain ⟨a1, v3, v4, v5, v6, v7, rfl, sq2, h8, h9, h10, h11, h12⟩ := r_one
    obtain ⟨a13, kvs14, rfl, rd15, dk16, nd17⟩ := h8
    obtain rfl : v4 = V.str one.2.1 := h9
    obtain ⟨a18, rfl, sq19⟩ := h10
    obtain rfl : v6 = V.int one.2.2.2.1 := h11
    obtain rfl : v7 = V.int one.2.2.2.2 := h12
    obtain ⟨a20, kvs21, rfl, rd22, dk23, nd24⟩ := r_placing_here
    obtain ⟨w1, w2⟩ := hpre
    refine ⟨_, (ZSs.h (zss_cons (ps_set (i := 2) sc_law_off.nd rfl (Or.inl rfl) (pe_tup (pa_cons (pe_op op_sub pe_int (pe_ix ix_tup (pe_ix ix_tup (pv 0) pe_int (fun _ _ => rfl)) pe_int (fun _ _ => rfl))) (pa_cons (pe_ix ix_tup (pe_ix ix_tup (pv 0) pe_int (fun _ _ => rfl)) pe_int (fun _ _ => rfl)) pa_nil))))
          (zss_cons (ps_forD PassesOwn.never rfl (pe_ix ix_tup (pv 0) pe_int (fun _ _ => rfl)) (pg_tup rfl (pgs_cons (pg_name (i := 3) sc_law_off.nd rfl (Or.inl rfl)) (pgs_cons (pg_name (i := 4) sc_law_off.nd rfl (Or.inl rfl)) pgs_nil))) (pss_one (ps_set (i := 2) sc_law_off.nd rfl (Or.inl rfl) (pe_call ((ok_law_add T).mono (by decide)) hr rfl T.m_law_add T.F_law_add.kp T.b_law_add .nil pass0 (pa_cons (pv 2) (pa_cons (pe_tup (pa_cons (pe_op op_mulB (pe_ix ix_tup (pv 4) pe_int (fun _ _ => rfl)) (pe_ix ix_tup (pe_dget hu (pv 1) (pv 3) (fun _ _ => rfl)) pe_int (fun _ _ => rfl))) (pa_cons (pe_ix ix_tup (pe_dget hu (pv 1) (pv 3) (fun _ _ => rfl)) pe_int (fun _ _ => rfl)) pa_nil))) pa_nil))))))
          (zss_cons (ps_if (PW.pt (pw_or (PW.pt (pw_and (pt_cmpR op_eq (pe_ix ix_tup (pv 0) pe_int (fun _ _ => rfl)) pe_str (nomark _)) (pw_and1 (pt_cmpR op_gt (pe_ix ix_tup (pv 2) pe_int (fun _ _ => rfl)) pe_int (nomark _))))) (pw_or1 (PW.pt (pw_and (pt_cmpR op_eq (pe_ix ix_tup (pv 0) pe_int (fun _ _ => rfl)) pe_str (nomark _)) (pw_and1 (pt_cmpR op_lt (pe_ix ix_tup (pv 2) pe_int (fun _ _ => rfl)) pe_int (nomark _)))))))) (pss_one (ps_ret (pe_tup (pa_cons pe_int (pa_cons pe_int pa_nil))))) pss_nil)
          (zss_one (ps_ret (pe_tup (pa_cons (pe_callB call_abs rfl T.z_abs rfl (pa_cons (pe_ix ix_tup (pv 2) pe_int (fun _ _ => rfl)) pa_nil)) (pa_cons (pe_ix ix_tup (pv 2) pe_int (fun _ _ => rfl)) pa_nil))))))))), ?_⟩
    refine a_seq ?_
    refine a_asg ?_
    refine a_tup ?_
    refine a_cons ?_
    refine a_op ?_
    refine a_c ?_
    refine a_op ?_
    refine a_op ?_
    refine a_var rfl ?_
    refine a_c ?_
    refine a_ixT (Same.tup gb.s sq2) rfl ?_
    refine a_c ?_
    refine a_ixT (Same.tup gb.s sq19) (fr0 one.2.2.1) ?_
    have b25 := bi_num one.2.2.1
    refine a_I0 ?_
    have b26 := bi_sub (0 : Int) one.2.2.1.num
    refine a_cons ?_
    refine a_op ?_
    refine a_op ?_
    refine a_var rfl ?_
    refine a_c ?_
    refine a_ixT (Same.tup gb.s sq2) rfl ?_
    refine a_c ?_
    refine a_ixT (Same.tup gb.s sq19) (fr1 one.2.2.1) ?_
    have b27 := bi_den one.2.2.1
    refine a_nil ?_
    refine ⟨by show 2 ≤ sizeLine; decide, fun p28 hp29 => ?_⟩
    obtain ⟨F30, g32, e33⟩ := al2 (o := (.tup [V.int (0 - one.2.2.1.num), V.int (one.2.2.1.den : Int)])) gb.s (by intro _ _ z; cases z) hp29
    generalize upd H p28 (.tup [V.int (0 - one.2.2.1.num), V.int (one.2.2.1.den : Int)]) = H31 at g32 ⊢
    have gb34 := gb.tr g32
    have le35 := g32.le
    have cm36 := g32.fz cm
    have sq37 : SqT K F30 p28 (fr (-one.2.2.1)) := by rw [show fr (-one.2.2.1) = [V.int (0 - one.2.2.1.num), V.int (one.2.2.1.den : Int)] from by exact fr_neg _]; exact SqT.of e33
    refine a_name ?_
    try dsimp only
    refine a_seq ?_
    refine a_forD ?_
    refine a_op ?_
    refine a_var rfl ?_
    refine a_c ?_
    refine a_ixT (Same.tup gb34.s (Le.tup le35 sq2)) rfl ?_
    have fa43 := calm_at cm36 (Le.dic le35 rd15)
    have ha41 : H31 a13 = some (.dK kvs14) := gb34.s _ _ fa43
    have fa40 : F30 a13 = none ∨ F30 a13 = some (.dK kvs14) := .inr fa43
    have dk42 := (Dk.mo le35 dk16)
    have hnd := nd17
    have hdl := Dk.length dk42
    refine ⟨_, kvs14, rfl, ha41, fun ob38 hna39 => ?_⟩
    have gb44 := fz_gr (a := a13) (.frz ob38 (.dK kvs14)) gb34
    have cm45 := fz_fz (a := a13) (z := (.frz ob38 (.dK kvs14))) cm36
    have le46 := fz_le (ob := ob38) fa40
    refine for_items (a := a13) (ob := ob38) (kvs := kvs14) (fun i σ' H' => ∃ (F47 : Hp) (v_come48 : V) (come48 : Rat) (o49 : Option V) (o50 : Option V), σ' = [some (V.ref a1), some (V.ref a20), some v_come48, o49, o50] ∧ Gr0 (fz F a13 (.frz ob38 (.dK kvs14))) (fz H a13 (.frz ob38 (.dK kvs14))) F47 H' ∧ Fz (fun b => b = a13 ∨ S0 b) F47 ∧ Le F30 F47 ∧ (rFr K) F47 v_come48 come48 ∧ F47 a13 = fz F30 a13 (.frz ob38 (.dK kvs14)) a13 ∧ H' a13 = some (.frz ob38 (.dK kvs14)) ∧ (come48 = run (plc placing_here) (-one.2.2.1) (List.take i one.1) ∧ bs come48 ≤ 101 + 12 * i)) ?_ ?_ ?_ ?_
    · exact ⟨(fz F30 a13 (.frz ob38 (.dK kvs14))), _, (-one.2.2.1), _, _, rfl, gb44, cm45, le46, ⟨_, rfl, (Le.tup le46 sq37)⟩, rfl, upd_same, by exact ⟨rfl, by rw [bs_neg]; have := w1.num; omega⟩⟩
    · rintro i σ' H51 _ ⟨F52, v_come56, come56, o57, o58, rfl, gb53, cm54, le55, hr59, x60, x61, ⟨i1, i2⟩⟩
      exact x61
    · rintro i62 ky78 y65 σ' H63 p66 hi64 ⟨F68, v_come72, come72, o73, o74, rfl, gb69, cm70, le71, hr75, x76, x77, ⟨i1, i2⟩⟩ hp67
      obtain ⟨a79, rfl, sq80⟩ := hr75
      obtain ⟨name81, number82, hm83, rfl, hr84⟩ := Dk.get (Dk.mo le71 dk42) hi64
      obtain ⟨a89, rfl, sq90⟩ := hr84
      refine it2 (K := K) gb69.s hp67 (fun F85 H86 g87 e88 => ?_)
      have gb91 := gb69.tr g87
      have le92 := g87.le
      have cm93 := g87.fz cm70
      have za94 := g87.h _ _ x77
      have zf95 := g87.at x77 x76
      try dsimp only
      have hil := (List.getElem?_eq_some_iff.mp hm83).1
      have hgt := gt_of_mem hnd (List.mem_of_getElem? hm83)
      obtain ⟨y, hy⟩ := w1.keys _ _ hgt
      have hd1 := w1.whl _ _ hgt
      have hb1 := w1.parts _ _ hgt
      have hb2 := w2.1 _ _ hy
      have hl9 := w1.len
      have u9 := den_pos y
      refine a_asg ?_
      refine a_call ?_
      refine a_cons ?_
      refine a_var rfl ?_
      refine a_cons ?_
      refine a_tup ?_
      refine a_cons ?_
      refine a_op ?_
      refine a_op ?_
      refine a_var rfl ?_
      refine a_c ?_
      refine a_ixT (Same.tup gb91.s (Le.tup le92 sq90)) (fr0 number82) ?_
      have b96 := bi_num number82
      refine a_op ?_
      refine a_dget ?_
      refine a_var rfl ?_
      refine a_var rfl ?_
      obtain ⟨v97, h98, h99⟩ := Dk.some (Dk.mo ((le35.trans le71).trans le92) dk23) hy
      refine a_dgetK (Same.rd gb91.s (Le.dic ((le35.trans le71).trans le92) rd22)) h98 ?_
      obtain ⟨a101, rfl, sq102⟩ := h99
      refine a_c ?_
      refine a_ixT (Same.tup gb91.s sq102) (fr0 y) ?_
      have b103 := bi_num y
      refine a_I (by walk_at "om") ?_
      have b104 := bi_mul number82.num y.num
      refine a_cons ?_
      refine a_op ?_
      refine a_dget ?_
      refine a_var rfl ?_
      refine a_var rfl ?_
      obtain ⟨v105, h106, h107⟩ := Dk.some (Dk.mo ((le35.trans le71).trans le92) dk23) hy
      refine a_dgetK (Same.rd gb91.s (Le.dic ((le35.trans le71).trans le92) rd22)) h106 ?_
      obtain ⟨a109, rfl, sq110⟩ := h107
      refine a_c ?_
      refine a_ixT (Same.tup gb91.s sq110) (fr1 y) ?_
      have b111 := bi_den y
      refine a_nil ?_
      refine ⟨by show 2 ≤ sizeLine; decide, fun p112 hp113 => ?_⟩
      obtain ⟨F114, g116, e117⟩ := al2 (o := (.tup [V.int (number82.num * y.num), V.int (y.den : Int)])) gb91.s (by intro _ _ z; cases z) hp113
      generalize upd H86 p112 (.tup [V.int (number82.num * y.num), V.int (y.den : Int)]) = H115 at g116 ⊢
      have gb118 := gb91.tr g116
      have le119 := g116.le
      have cm120 := g116.fz cm93
      have za121 := g116.h _ _ za94
      have zf122 := g116.at za94 zf95
      refine a_nil ?_
      refine ⟨F114, _, _, come72, ((number82.num * y.num), (y.den : Int)), rfl, gb118.s, ⟨_, rfl, (Le.tup (le92.trans le119) sq80)⟩, ⟨_, _, _, rfl, (SqT.of e117), rfl, rfl⟩, (by dsimp only; exact ⟨den_pos _, by omega, by omega, by omega⟩), ?_⟩
      rintro v123 F124 H125  g127 hr128 
      have gb130 := gb118.tr g127
      have le131 := g127.le
      have cm132 := g127.fz cm120
      have za133 := g127.h _ _ za121
      have zf134 := g127.at za121 zf122
      obtain ⟨a135, rfl, sq136⟩ := hr128
      refine a_name ?_
      try dsimp only
      exact ⟨F124, _, (come72 + Rat.divInt (((number82.num * y.num), (y.den : Int))).1 (((number82.num * y.num), (y.den : Int))).2), _, _, rfl, gb130, cm132, (((le71.trans le92).trans le119).trans le131), ⟨_, rfl, sq136⟩, zf134, za133, by exact ⟨by dsimp only; rw [run_snoc hm83, ← i1, plc_of hy, int_frac hd1], Nat.le_trans (bs_ad (k := 10) (by dsimp only; omega) (by dsimp only; omega) (by dsimp only; omega)) (by omega)⟩⟩
    · rintro σ' H137 ⟨F138, v_come142, come142, o143, o144, rfl, gb139, cm140, le141, hr145, x146, x147, ⟨i1, i2⟩⟩
      obtain ⟨a148, rfl, sq149⟩ := hr145
      refine ⟨a13, ob38, kvs14, x147, hna39, ?_⟩
      refine thw gb34 ha41 fa40 gb139 x146 cm140 (fun F150 H151 gb152 cm153 le154 ea155 eb156 nF157 nH158 => ?_)
      try dsimp only
      rw [hdl, List.take_length, run_eq] at i1
      rw [hdl] at i2
      have hl9 := w1.len
      have hm9 : missR placing_here one = misd one.2.1 come142 := by unfold missR; rw [i1]; congr 1; rw [Rat.add_comm, Rat.sub_eq_add_neg]
      refine a_seq ?_
      refine a_if ?_
      refine a_or ?_
      refine a_and ?_
      refine a_test ?_
      refine a_op ?_
      refine a_op ?_
      refine a_var rfl ?_
      refine a_c ?_
      refine a_ixT (Same.tup gb152.s (Le.tup ((le35.trans le141).trans le154) sq2)) rfl ?_
      refine a_c ?_
      have ln159 : ("least" : Str).length = 5 := by decide +kernel
      refine a_eqS ?_
      refine a_bl ?_
      refine iteD (fun c160 => ?_) (fun c160 => ?_)
      · refine a_test ?_
        refine a_op ?_
        refine a_op ?_
        refine a_var rfl ?_
        refine a_c ?_
        refine a_ixT (Same.tup gb152.s (Le.tup le154 sq149)) (fr0 come142) ?_
        have b161 := bi_num come142
        refine a_c ?_
        refine a_I0 ?_
        refine a_bl ?_
        refine iteD (fun c162 => ?_) (fun c162 => ?_)
        · refine iteT ?_
          refine a_ret ?_
          refine a_tup ?_
          refine a_cons ?_
          refine a_c ?_
          refine a_cons ?_
          refine a_c ?_
          refine a_nil ?_
          refine ⟨by show 2 ≤ sizeLine; decide, fun p163 hp164 => ?_⟩
          obtain ⟨F165, g167, e168⟩ := al2 (o := (.tup [V.int 0, V.int 1])) gb152.s (by intro _ _ z; cases z) hp164
          generalize upd H151 p163 (.tup [V.int 0, V.int 1]) = H166 at g167 ⊢
          have gb169 := gb152.tr g167
          have le170 := g167.le
          have cm171 := g167.fz cm153
          have sq172 : SqT K F165 p163 (fr ((0 : Int) : Rat)) := by rw [fr_int]; exact SqT.of e168
          have hval : (((0 : Int) : Rat) : Rat) = (missR placing_here one) := by rw [hm9]; exact (off_zero (by first | exact .inl ⟨by assumption, by assumption⟩ | exact .inr ⟨by assumption, by assumption⟩)).symm
          have rp173 : (rFr K) F165 (V.ref p163) (((0 : Int) : Rat)) := ⟨_, rfl, sq172⟩
          replace rp173 := Eq.mp (congrArg ((rFr K) F165 (V.ref p163)) hval) rp173
          exact k _ _ _ (Gr.of0 gb169 cm171) rp173 (by rw [← hval]; decide +kernel)
        · refine a_and ?_
          refine a_test ?_
          refine a_op ?_
          refine a_op ?_
          refine a_var rfl ?_
          refine a_c ?_
          refine a_ixT (Same.tup gb152.s (Le.tup ((le35.trans le141).trans le154) sq2)) rfl ?_
          refine a_c ?_
          have ln174 : ("most" : Str).length = 4 := by decide +kernel
          refine a_eqS ?_
          refine a_bl ?_
          refine iteD (fun c175 => ?_) (fun c175 => ?_)
          · refine a_test ?_
            refine a_op ?_
            refine a_op ?_
            refine a_var rfl ?_
            refine a_c ?_
            refine a_ixT (Same.tup gb152.s (Le.tup le154 sq149)) (fr0 come142) ?_
            have b176 := bi_num come142
            refine a_c ?_
            refine a_I0 ?_
            refine a_bl ?_
            refine iteD (fun c177 => ?_) (fun c177 => ?_)
            · refine a_ret ?_
              refine a_tup ?_
              refine a_cons ?_
              refine a_c ?_
              refine a_cons ?_
              refine a_c ?_
              refine a_nil ?_
              refine ⟨by show 2 ≤ sizeLine; decide, fun p178 hp179 => ?_⟩
              obtain ⟨F180, g182, e183⟩ := al2 (o := (.tup [V.int 0, V.int 1])) gb152.s (by intro _ _ z; cases z) hp179
              generalize upd H151 p178 (.tup [V.int 0, V.int 1]) = H181 at g182 ⊢
              have gb184 := gb152.tr g182
              have le185 := g182.le
              have cm186 := g182.fz cm153
              have sq187 : SqT K F180 p178 (fr ((0 : Int) : Rat)) := by rw [fr_int]; exact SqT.of e183
              have hval : (((0 : Int) : Rat) : Rat) = (missR placing_here one) := by rw [hm9]; exact (off_zero (by first | exact .inl ⟨by assumption, by assumption⟩ | exact .inr ⟨by assumption, by assumption⟩)).symm
              have rp188 : (rFr K) F180 (V.ref p178) (((0 : Int) : Rat)) := ⟨_, rfl, sq187⟩
              replace rp188 := Eq.mp (congrArg ((rFr K) F180 (V.ref p178)) hval) rp188
              exact k _ _ _ (Gr.of0 gb184 cm186) rp188 (by rw [← hval]; decide +kernel)
            · refine a_next ?_
              try dsimp only
              refine a_ret ?_
              refine a_tup ?_
              refine a_cons ?_
              refine a_cb ?_
              refine a_cons ?_
              refine a_op ?_
              refine a_var rfl ?_
              refine a_c ?_
              refine a_ixT (Same.tup gb152.s (Le.tup le154 sq149)) (fr0 come142) ?_
              have b189 := bi_num come142
              refine a_nil ?_
              refine ⟨_, rfl, ?_⟩
              refine a_cons ?_
              refine a_op ?_
              refine a_var rfl ?_
              refine a_c ?_
              refine a_ixT (Same.tup gb152.s (Le.tup le154 sq149)) (fr1 come142) ?_
              have b190 := bi_den come142
              refine a_nil ?_
              refine ⟨by show 2 ≤ sizeLine; decide, fun p191 hp192 => ?_⟩
              obtain ⟨F193, g195, e196⟩ := al2 (o := (.tup [V.int (if come142.num < 0 then -come142.num else come142.num), V.int (come142.den : Int)])) gb152.s (by intro _ _ z; cases z) hp192
              generalize upd H151 p191 (.tup [V.int (if come142.num < 0 then -come142.num else come142.num), V.int (come142.den : Int)]) = H194 at g195 ⊢
              have gb197 := gb152.tr g195
              have le198 := g195.le
              have cm199 := g195.fz cm153
              have sq200 : SqT K F193 p191 (fr (absR come142)) := by rw [show fr (absR come142) = [V.int (if come142.num < 0 then -come142.num else come142.num), V.int (come142.den : Int)] from by exact fr_abs _]; exact SqT.of e196
              have hval : ((absR come142) : Rat) = (missR placing_here one) := by rw [hm9]; exact (off_abs (fun z => by first | exact absurd z.1 (by assumption) | exact absurd z.2 (by assumption)) (fun z => by first | exact absurd z.1 (by assumption) | exact absurd z.2 (by assumption))).symm
              have rp201 : (rFr K) F193 (V.ref p191) ((absR come142)) := ⟨_, rfl, sq200⟩
              replace rp201 := Eq.mp (congrArg ((rFr K) F193 (V.ref p191)) hval) rp201
              exact k _ _ _ (Gr.of0 gb197 cm199) rp201 (by rw [← hval, bs_abs]; omega)
          · refine iteF ?_
            refine a_next ?_
            try dsimp only
            refine a_ret ?_
            refine a_tup ?_
            refine a_cons ?_
            refine a_cb ?_
            refine a_cons ?_
            refine a_op ?_
            refine a_var rfl ?_
            refine a_c ?_
            refine a_ixT (Same.tup gb152.s (Le.tup le154 sq149)) (fr0 come142) ?_
            have b202 := bi_num come142
            refine a_nil ?_
            refine ⟨_, rfl, ?_⟩
            refine a_cons ?_
            refine a_op ?_
            refine a_var rfl ?_
            refine a_c ?_
            refine a_ixT (Same.tup gb152.s (Le.tup le154 sq149)) (fr1 come142) ?_
            have b203 := bi_den come142
            refine a_nil ?_
            refine ⟨by show 2 ≤ sizeLine; decide, fun p204 hp205 => ?_⟩
            obtain ⟨F206, g208, e209⟩ := al2 (o := (.tup [V.int (if come142.num < 0 then -come142.num else come142.num), V.int (come142.den : Int)])) gb152.s (by intro _ _ z; cases z) hp205
            generalize upd H151 p204 (.tup [V.int (if come142.num < 0 then -come142.num else come142.num), V.int (come142.den : Int)]) = H207 at g208 ⊢
            have gb210 := gb152.tr g208
            have le211 := g208.le
            have cm212 := g208.fz cm153
            have sq213 : SqT K F206 p204 (fr (absR come142)) := by rw [show fr (absR come142) = [V.int (if come142.num < 0 then -come142.num else come142.num), V.int (come142.den : Int)] from by exact fr_abs _]; exact SqT.of e209
            have hval : ((absR come142) : Rat) = (missR placing_here one) := by rw [hm9]; exact (off_abs (fun z => by first | exact absurd z.1 (by assumption) | exact absurd z.2 (by assumption)) (fun z => by first | exact absurd z.1 (by assumption) | exact absurd z.2 (by assumption))).symm
            have rp214 : (rFr K) F206 (V.ref p204) ((absR come142)) := ⟨_, rfl, sq213⟩
            replace rp214 := Eq.mp (congrArg ((rFr K) F206 (V.ref p204)) hval) rp214
            exact k _ _ _ (Gr.of0 gb210 cm212) rp214 (by rw [← hval, bs_abs]; omega)
      · refine iteF ?_
        refine a_and ?_
        refine a_test ?_
        refine a_op ?_
        refine a_op ?_
        refine a_var rfl ?_
        refine a_c ?_
        refine a_ixT (Same.tup gb152.s (Le.tup ((le35.trans le141).trans le154) sq2)) rfl ?_
        refine a_c ?_
        have ln215 : ("most" : Str).length = 4 := by decide +kernel
        refine a_eqS ?_
        refine a_bl ?_
        refine iteD (fun c216 => ?_) (fun c216 => ?_)
        · refine a_test ?_
          refine a_op ?_
          refine a_op ?_
          refine a_var rfl ?_
          refine a_c ?_
          refine a_ixT (Same.tup gb152.s (Le.tup le154 sq149)) (fr0 come142) ?_
          have b217 := bi_num come142
          refine a_c ?_
          refine a_I0 ?_
          refine a_bl ?_
          refine iteD (fun c218 => ?_) (fun c218 => ?_)
          · refine a_ret ?_
            refine a_tup ?_
            refine a_cons ?_
            refine a_c ?_
            refine a_cons ?_
            refine a_c ?_
            refine a_nil ?_
            refine ⟨by show 2 ≤ sizeLine; decide, fun p219 hp220 => ?_⟩
            obtain ⟨F221, g223, e224⟩ := al2 (o := (.tup [V.int 0, V.int 1])) gb152.s (by intro _ _ z; cases z) hp220
            generalize upd H151 p219 (.tup [V.int 0, V.int 1]) = H222 at g223 ⊢
            have gb225 := gb152.tr g223
            have le226 := g223.le
            have cm227 := g223.fz cm153
            have sq228 : SqT K F221 p219 (fr ((0 : Int) : Rat)) := by rw [fr_int]; exact SqT.of e224
            have hval : (((0 : Int) : Rat) : Rat) = (missR placing_here one) := by rw [hm9]; exact (off_zero (by first | exact .inl ⟨by assumption, by assumption⟩ | exact .inr ⟨by assumption, by assumption⟩)).symm
            have rp229 : (rFr K) F221 (V.ref p219) (((0 : Int) : Rat)) := ⟨_, rfl, sq228⟩
            replace rp229 := Eq.mp (congrArg ((rFr K) F221 (V.ref p219)) hval) rp229
            exact k _ _ _ (Gr.of0 gb225 cm227) rp229 (by rw [← hval]; decide +kernel)
          · refine a_next ?_
            try dsimp only
            refine a_ret ?_
            refine a_tup ?_
            refine a_cons ?_
            refine a_cb ?_
            refine a_cons ?_
            refine a_op ?_
            refine a_var rfl ?_
            refine a_c ?_
            refine a_ixT (Same.tup gb152.s (Le.tup le154 sq149)) (fr0 come142) ?_
            have b230 := bi_num come142
            refine a_nil ?_
            refine ⟨_, rfl, ?_⟩
            refine a_cons ?_
            refine a_op ?_
            refine a_var rfl ?_
            refine a_c ?_
            refine a_ixT (Same.tup gb152.s (Le.tup le154 sq149)) (fr1 come142) ?_
            have b231 := bi_den come142
            refine a_nil ?_
            refine ⟨by show 2 ≤ sizeLine; decide, fun p232 hp233 => ?_⟩
            obtain ⟨F234, g236, e237⟩ := al2 (o := (.tup [V.int (if come142.num < 0 then -come142.num else come142.num), V.int (come142.den : Int)])) gb152.s (by intro _ _ z; cases z) hp233
            generalize upd H151 p232 (.tup [V.int (if come142.num < 0 then -come142.num else come142.num), V.int (come142.den : Int)]) = H235 at g236 ⊢
            have gb238 := gb152.tr g236
            have le239 := g236.le
            have cm240 := g236.fz cm153
            have sq241 : SqT K F234 p232 (fr (absR come142)) := by rw [show fr (absR come142) = [V.int (if come142.num < 0 then -come142.num else come142.num), V.int (come142.den : Int)] from by exact fr_abs _]; exact SqT.of e237
            have hval : ((absR come142) : Rat) = (missR placing_here one) := by rw [hm9]; exact (off_abs (fun z => by first | exact absurd z.1 (by assumption) | exact absurd z.2 (by assumption)) (fun z => by first | exact absurd z.1 (by assumption) | exact absurd z.2 (by assumption))).symm
            have rp242 : (rFr K) F234 (V.ref p232) ((absR come142)) := ⟨_, rfl, sq241⟩
            replace rp242 := Eq.mp (congrArg ((rFr K) F234 (V.ref p232)) hval) rp242
            exact k _ _ _ (Gr.of0 gb238 cm240) rp242 (by rw [← hval, bs_abs]; omega)
        · refine iteF ?_
          refine a_next ?_
          try dsimp only
          refine a_ret ?_
          refine a_tup ?_
          refine a_cons ?_
          refine a_cb ?_
          refine a_cons ?_
          refine a_op ?_
          refine a_var rfl ?_
          refine a_c ?_
          refine a_ixT (Same.tup gb152.s (Le.tup le154 sq149)) (fr0 come142) ?_
          have b243 := bi_num come142
          refine a_nil ?_
          refine ⟨_, rfl, ?_⟩
          refine a_cons ?_
          refine a_op ?_
          refine a_var rfl ?_
          refine a_c ?_
          refine a_ixT (Same.tup gb152.s (Le.tup le154 sq149)) (fr1 come142) ?_
          have b244 := bi_den come142
          refine a_nil ?_
          refine ⟨by show 2 ≤ sizeLine; decide, fun p245 hp246 => ?_⟩
          obtain ⟨F247, g249, e250⟩ := al2 (o := (.tup [V.int (if come142.num < 0 then -come142.num else come142.num), V.int (come142.den : Int)])) gb152.s (by intro _ _ z; cases z) hp246
          generalize upd H151 p245 (.tup [V.int (if come142.num < 0 then -come142.num else come142.num), V.int (come142.den : Int)]) = H248 at g249 ⊢
          have gb251 := gb152.tr g249
          have le252 := g249.le
          have cm253 := g249.fz cm153
          have sq254 : SqT K F247 p245 (fr (absR come142)) := by rw [show fr (absR come142) = [V.int (if come142.num < 0 then -come142.num else come142.num), V.int (come142.den : Int)] from by exact fr_abs _]; exact SqT.of e250
          have hval : ((absR come142) : Rat) = (missR placing_here one) := by rw [hm9]; exact (off_abs (fun z => by first | exact absurd z.1 (by assumption) | exact absurd z.2 (by assumption)) (fun z => by first | exact absurd z.1 (by assumption) | exact absurd z.2 (by assumption))).symm
          have rp255 : (rFr K) F247 (V.ref p245) ((absR come142)) := ⟨_, rfl, sq254⟩
          replace rp255 := Eq.mp (congrArg ((rFr K) F247 (V.ref p245)) hval) rp255
          exact k _ _ _ (Gr.of0 gb251 cm253) rp255 (by rw [← hval, bs_abs]; omega)
def sp_law (K : PySem.W.Frag) : Sp := fun vs H Q _ => ∃ (a : Addr) (ns : List Int), vs = [.ref a] ∧ SqL K H a (ns.map V.int) ∧ ns.length ≤ 63 ∧ ∀ H', Q (.bl true) H'
theorem ok_law (T : Tx K mg) : FnOk P w K mg base CX0 8 T.a_law T.d_law ["_law_script"] (sp_law K) := by
  refine T.F_law.ok sc_law (fun vs H Q E h => ?_) (fun cdv A outer s H vs Q E hr h => ?_)
  · obtain ⟨a, script, rfl, _⟩ := h
    rfl
  · obtain ⟨a, script, rfl, hS, hl, k⟩ := h
    have hu := hu_of hr
    have gb : Gr0 (fun _ => none) H (fun _ => none) H := Gr0.refl (fun _ _ z => by cases z)
    have cm : Fz S0 (fun _ => none) := fun _ _ _ z => by cases z
    refine ⟨_, (ZSs.h (zss_cons (ps_set (i := 1) sc_law.nd rfl (Or.inr rfl) (pe_call ((ok_law_placing T).mono (by decide)) hr rfl T.m_law_placing T.F_law_placing.kp T.b_law_placing .nil pass0 (pa_cons (pe_call ((ok_law_cell_at T).mono (by decide)) hr rfl T.m_law_cell_at T.F_law_cell_at.kp T.b_law_cell_at .nil pass0 (pa_cons (pv 0) (pa_cons pe_int pa_nil))) (pa_cons (pe_call ((ok_law_cell_at T).mono (by decide)) hr rfl T.m_law_cell_at T.F_law_cell_at.kp T.b_law_cell_at .nil pass0 (pa_cons (pv 0) (pa_cons pe_int pa_nil))) pa_nil))))
          (zss_cons (ps_setC (i := 2) (N := ["_law_cell", "_law_placing_here"]) (ix := [none, some 1]) sc_law.nd rfl (Or.inl rfl) rfl (pi_list (pe_slice sl_list (pv 0) (po_some pe_int) (po_some pe_int))) (fun _ _ _ _ _ => (pg_name (i := 0) (show List.Nodup (["_law_cell", "_law_placing_here"] : List Str) from by decide) rfl (Or.inl rfl))) (fun _ _ _ _ _ => pts_nil) (fun _ _ _ _ _ => (pe_call ((ok_law_row T).mono (by decide)) hr rfl T.m_law_row T.F_law_row.kp T.b_law_row .nil pass0 (pa_cons (pv 0) (pa_cons (pv 1) pa_nil)))) ⟨rfl, rfl, rfl, True.intro⟩)
          (zss_cons (ps_set (i := 3) sc_law.nd rfl (Or.inl rfl) pe_bl)
          (zss_consZ (zs_set (i := 4) sc_law.nd rfl (Or.inl rfl) rfl (.inl rfl) (ze_lst (za_cons rfl (ze_tup (za_cons rfl ze_int (za_cons rfl ze_int za_nil))) (za_cons rfl (ze_tup (za_cons rfl ze_int (za_cons rfl ze_int za_nil))) (za_cons rfl (ze_tup (za_cons rfl ze_int (za_cons rfl ze_int za_nil))) (za_cons rfl (ze_tup (za_cons rfl ze_int (za_cons rfl ze_int za_nil))) (za_cons rfl (ze_tup (za_cons rfl ze_int (za_cons rfl ze_int za_nil))) za_nil)))))))
          (zss_cons (ps_thaw (ps_for PassesOwn.never rfl (pi_vals (pv 1) rfl rfl) (pg_name (i := 5) sc_law.nd rfl (Or.inl rfl)) (pss_one (ps_if (pt_cmpR op_lt (pe_ix ix_tup (pv 5) pe_int (fun _ _ => rfl)) pe_int (nomark _)) (pss_one (ps_set (i := 3) sc_law.nd rfl (Or.inl rfl) pe_bl)) pss_nil))))
          (zss_cons (ps_for PassesOwn.never rfl (pi_list (pv 2)) (pg_name (i := 6) sc_law.nd rfl (Or.inl rfl)) (ZSs.h (zss_cons (ps_set (i := 7) sc_law.nd rfl (Or.inl rfl) (pe_call ((ok_law_off T).mono (by decide)) hr rfl T.m_law_off T.F_law_off.kp T.b_law_off .nil pass0 (pa_cons (pv 6) (pa_cons (pv 1) pa_nil))))
          (zss_cons (ps_if (PW.pt (pw_and (pt_cmpR op_eq (pe_ix ix_tup (pv 6) pe_int (fun _ _ => rfl)) pe_int (nomark _)) (pw_and1 (pt_cmpR (op_neF (K := K) rfl hr.units) (pv 7) (pe_tup (pa_cons pe_int (pa_cons pe_int pa_nil))) (nomark _))))) (pss_one (ps_set (i := 3) sc_law.nd rfl (Or.inl rfl) pe_bl)) pss_nil)
          (zss_one (ps_asg (pe_call ((ok_law_add T).mono (by decide)) hr rfl T.m_law_add T.F_law_add.kp T.b_law_add .nil pass0 (pa_cons (pe_ix ix_list (pv 4) (pe_ix ix_tup (pv 6) pe_int (fun _ _ => rfl)) (fun _ _ => rfl)) (pa_cons (pe_call ((ok_law_lowest T).mono (by decide)) hr rfl T.m_law_lowest T.F_law_lowest.kp T.b_law_lowest .nil pass0 (pa_cons (pe_op op_mulB (pe_ix ix_tup (pv 7) pe_int (fun _ _ => rfl)) (pe_ix ix_tup (pv 6) pe_int (fun _ _ => rfl))) (pa_cons (pe_ix ix_tup (pv 7) pe_int (fun _ _ => rfl)) pa_nil))) pa_nil))) (pg_sub (pv 4) (pe_ix ix_tup (pv 6) pe_int (fun _ _ => rfl)) set_list)))))))
          (zss_cons (ps_for PassesOwn.never rfl (pi_list (pe_lst (pa_cons (pe_callTy call_list_of rfl T.z_list rfl (pa_cons (pv 2) pa_nil)) (pa_cons (pe_listrev rfl rfl T.z_list rfl T.z_reversed (pa_cons (pv 2) pa_nil)) pa_nil)))) (pg_name (i := 8) sc_law.nd rfl (Or.inl rfl)) (ZSs.h (zss_cons (ps_if (PW.pt (pw_or (PW.pt (pw_and (pt_cmpR op_notB (pe_call ((ok_fits T).mono (by decide)) hr rfl T.m_fits T.F_fits.kp T.b_fits .nil pass0 (pa_cons (pv 8) (pa_cons (pe_callTy call_dictD rfl T.z_dict rfl (pa_cons (pv 1) pa_nil)) pa_nil))) pe_bl (nomark _)) (pw_and1 (pt_val (pv 3))))) (pw_or1 (PW.pt (pw_and (pt_cmpR op_notB (pe_call ((ok_fits T).mono (by decide)) hr rfl T.m_fits T.F_fits.kp T.b_fits .nil pass0 (pa_cons (pv 8) (pa_cons (pe_callTy call_dictD rfl T.z_dict rfl (pa_cons (pv 1) pa_nil)) pa_nil))) pe_bl (nomark _)) (pw_and1 (pt_not (pt_val (pv 3))))))))) (pss_one (ps_ret pe_bl)) pss_nil)
          (zss_cons (ps_for PassesOwn.never rfl (pi_range2 rfl T.z_range (pa_cons pe_int (pa_cons pe_int pa_nil))) (pg_name (i := 9) sc_law.nd rfl (Or.inl rfl)) (pss_one (ps_if (pt_not (pt_val (pe_call ((ok_law_is T).mono (by decide)) hr rfl T.m_law_is T.F_law_is.kp T.b_law_is .nil pass0 (pa_cons (pe_call ((ok_goal_at T).mono (by decide)) hr rfl T.m_goal_at T.F_goal_at.kp T.b_goal_at .nil pass0 (pa_cons (pv 8) (pa_cons (pv 9) (pa_cons (pe_callTy call_dictD rfl T.z_dict rfl (pa_cons (pv 1) pa_nil)) pa_nil)))) (pa_cons (pe_ix ix_list (pv 4) (pv 9) (fun _ _ => rfl)) pa_nil))))) (pss_one (ps_ret pe_bl)) pss_nil)))
          (zss_one (ps_forD PassesOwn.never rfl (pv 1) (pg_tup rfl (pgs_cons (pg_name (i := 10) sc_law.nd rfl (Or.inl rfl)) (pgs_cons (pg_name (i := 5) sc_law.nd rfl (Or.inl rfl)) pgs_nil))) (pss_one (ps_if (pt_not (pt_val (pe_call ((ok_law_is T).mono (by decide)) hr rfl T.m_law_is T.F_law_is.kp T.b_law_is .nil pass0 (pa_cons (pe_call ((ok_goal_at_s T).mono (by decide)) hr rfl T.m_goal_at T.F_goal_at.kp T.b_goal_at .nil pass0 (pa_cons (pv 8) (pa_cons (pv 10) (pa_cons (pe_callTy call_dictD rfl T.z_dict rfl (pa_cons (pv 1) pa_nil)) pa_nil)))) (pa_cons (pv 5) pa_nil))))) (pss_one (ps_ret pe_bl)) pss_nil))))))))
          (zss_one (ps_ret pe_bl)))))))))), ?_⟩
    refine a_seq ?_
    refine a_asg ?_
    refine a_call ?_
    refine a_cons ?_
    refine a_call ?_
    refine a_cons ?_
    refine a_var rfl ?_
    refine a_cons ?_
    refine a_c ?_
    refine a_nil ?_
    refine ⟨(fun _ => none), _, _, script, 0, rfl, gb.s, ⟨_, rfl, (Same.seq gb.h hS)⟩, rfl, (by walk_at "o"), ?_⟩
    rintro v1 F2 H3 r4 g5 hr6 
    have gb8 := gb.tr g5
    have le9 := g5.le
    have cm10 := g5.fz cm
    obtain rfl : v1 = V.int r4 := hr6
    refine a_cons ?_
    refine a_call ?_
    refine a_cons ?_
    refine a_var rfl ?_
    refine a_cons ?_
    refine a_c ?_
    refine a_nil ?_
    refine ⟨F2, _, _, script, 1, rfl, gb8.s, ⟨_, rfl, (Same.seq gb8.h hS)⟩, rfl, (by walk_at "o"), ?_⟩
    rintro v11 F12 H13 r14 g15 hr16 
    have gb18 := gb8.tr g15
    have le19 := g15.le
    have cm20 := g15.fz cm10
    obtain rfl : v11 = V.int r14 := hr16
    refine a_nil ?_
    refine ⟨F12, _, _, r4, r14, rfl, gb18.s, rfl, rfl, ?_⟩
    rintro v21 F22 H23 r24 g25 hr26 hp27
    have gb28 := gb18.tr g25
    have le29 := g25.le
    have cm30 := g25.fz cm20
    obtain ⟨a31, kvs32, rfl, rd33, dk34, nd35⟩ := hr26
    have hPl := hp27
    refine a_name ?_
    try dsimp only
    refine a_seq ?_
    refine a_asg ?_
    refine a_comp ?_
    refine a_ilist ?_
    refine a_sl ?_
    refine a_var rfl ?_
    refine a_part ?_
    refine a_c ?_
    refine a_pint ?_
    refine a_part ?_
    refine a_c ?_
    refine a_pint ?_
    refine ⟨_, _, rfl, (Same.seq gb28.h hS), fun p36 hp37 => ?_⟩
    obtain ⟨F38, g40, e41⟩ := al2 (o := (.lst (cutV (script.map V.int) (some 2) (some 12)))) gb28.s (by intro _ _ z; cases z) hp37
    generalize upd H23 p36 (.lst (cutV (script.map V.int) (some 2) (some 12))) = H39 at g40 ⊢
    have gb42 := gb28.tr g40
    have le43 := g40.le
    have cm44 := g40.fz cm30
    have al45 := Al.cut (some 2) (some 12) (al_ints (F := F38) (ns := script))
    have ln46 : (cutA script (some 2) (some 12)).length ≤ script.length := cutA_le _ _ _
    have ln47 : (cutA script (some 2) (some 12)).length ≤ 10 := cutA_most script 2 12
    have hml50 : ((cutA script (some 2) (some 12))).length ≤ 1000000 := by omega
    refine ⟨_, rfl, ⟨_, (Same.seq gb42.s (SqL.of e41))⟩, comp_list (K := K) (a := p36) (xs := (cutV (script.map V.int) (some 2) (some 12))) (fun i acc H' => ∃ (F48 : Hp) (ts49 : List ((List (Str × Rat)) × Str × Rat × Int × Int)), True ∧ Gr0 (fun _ => none) H F48 H' ∧ Fz S0 F48 ∧ Le F38 F48 ∧ Al (r5 K (rD (rFr K)) rS (rFr K) rI rI) F48 acc ts49 ∧ ts49.length ≤ i ∧ (∀ r ∈ ts49, RowOk r24 r)) ?_ ?_ ?_ ?_⟩
    · exact ⟨F38, [], True.intro, gb42, cm44, Le.refl _, (show Al (r5 K (rD (rFr K)) rS (rFr K) rI rI) F38 [] [] from True.intro), (by first | (simp; done) | (rw [List.length_append]; simp only [List.length_cons, List.length_nil]; omega) | omega), by exact fun b h => nomatch h⟩
    · rintro i acc H51 _ ⟨F52, ts56, _, gb53, cm54, le55, al57, tl58, j1⟩
      exact (Same.seq gb53.s (Le.lst le55 (SqL.of e41)))
    · rintro i59 y62 acc63 H60 hi61 ⟨F64, ts68, _, gb65, cm66, le67, al69, tl70, j1⟩
      obtain ⟨x71, hx72, hr73⟩ := Al.get (Al.mo le67 al45) hi61
      have hil := (List.getElem?_eq_some_iff.mp hx72).1
      refine a_name ?_
      obtain rfl : y62 = V.int x71 := hr73
      refine ⟨Wk.non (Wk.som (Wk.nil)), ?_⟩
      try dsimp only
      refine a_yes ?_
      refine iteT ?_
      refine a_call ?_
      refine a_cons ?_
      refine a_var rfl ?_
      refine a_cons ?_
      refine a_var rfl ?_
      refine a_nil ?_
      refine ⟨F64, _, _, x71, r24, rfl, gb65.s, cm66, rfl, ⟨_, _, rfl, (Le.dic (le43.trans le67) rd33), (Dk.mo (le43.trans le67) dk34), nd35⟩, (by exact hPl), ?_⟩
      rintro v74 F75 H76 r77 g78 hr79 hp80
      have gb81 := gb65.tr g78
      have le82 := g78.le
      have cm83 := g78.fz cm66
      obtain ⟨a84, v86, v87, v88, v89, v90, rfl, sq85, h91, h92, h93, h94, h95⟩ := hr79
      obtain ⟨a96, kvs97, rfl, rd98, dk99, nd100⟩ := h91
      obtain rfl : v87 = V.str r77.2.1 := h92
      obtain ⟨a101, rfl, sq102⟩ := h93
      obtain rfl : v89 = V.int r77.2.2.2.1 := h94
      obtain rfl : v90 = V.int r77.2.2.2.2 := h95
      refine ⟨by rw [Al.length (Al.mo le82 al69)]; have := sizeLine_big; omega, ?_⟩
      exact ⟨F75, (ts68 ++ [r77]), True.intro, gb81, cm83, (le67.trans le82), (Al.snoc (Al.mo le82 al69) ⟨_, _, _, _, _, _, rfl, sq85, ⟨_, _, rfl, rd98, dk99, nd100⟩, rfl, ⟨_, rfl, sq102⟩, rfl, rfl⟩), (by first | (simp; done) | (rw [List.length_append]; simp only [List.length_cons, List.length_nil]; omega) | omega), by exact fun x h => (List.mem_append.mp h).elim (j1 x) fun z => by rw [List.mem_singleton.mp z]; assumption⟩
    · rintro acc104 H103 ⟨F105, ts109, _, gb106, cm107, le108, al110, tl111, j1⟩
      have hlen := Al.length (Al.mo le108 al45)
      refine ⟨(by rw [Al.length al110]; have := sizeLine_big; omega), fun p112 hp113 => ?_⟩
      obtain ⟨F114, g116, e117⟩ := al2 (o := (.lst acc104)) gb106.s (by intro _ _ z; cases z) hp113
      generalize upd H103 p112 (.lst acc104) = H115 at g116 ⊢
      have gb118 := gb106.tr g116
      have le119 := g116.le
      have cm120 := g116.fz cm107
      refine a_name ?_
      try dsimp only
      refine a_seq ?_
      refine a_asg ?_
      refine a_c ?_
      refine a_name ?_
      try dsimp only
      refine a_seq ?_
      refine a_asg ?_
      refine a_lst ?_
      refine a_cons ?_
      refine a_tup ?_
      refine a_cons ?_
      refine a_c ?_
      refine a_cons ?_
      refine a_c ?_
      refine a_nil ?_
      refine ⟨by show 2 ≤ sizeLine; decide, fun p121 hp122 => ?_⟩
      obtain ⟨F123, g125, e126⟩ := al2 (o := (.tup [V.int 0, V.int 1])) gb118.s (by intro _ _ z; cases z) hp122
      generalize upd H115 p121 (.tup [V.int 0, V.int 1]) = H124 at g125 ⊢
      have gb127 := gb118.tr g125
      have le128 := g125.le
      have cm129 := g125.fz cm120
      have sq130 : SqT K F123 p121 (fr ((0 : Int) : Rat)) := by rw [fr_int]; exact SqT.of e126
      refine a_cons ?_
      refine a_tup ?_
      refine a_cons ?_
      refine a_c ?_
      refine a_cons ?_
      refine a_c ?_
      refine a_nil ?_
      refine ⟨by show 2 ≤ sizeLine; decide, fun p131 hp132 => ?_⟩
      obtain ⟨F133, g135, e136⟩ := al2 (o := (.tup [V.int 0, V.int 1])) gb127.s (by intro _ _ z; cases z) hp132
      generalize upd H124 p131 (.tup [V.int 0, V.int 1]) = H134 at g135 ⊢
      have gb137 := gb127.tr g135
      have le138 := g135.le
      have cm139 := g135.fz cm129
      have sq140 : SqT K F133 p131 (fr ((0 : Int) : Rat)) := by rw [fr_int]; exact SqT.of e136
      refine a_cons ?_
      refine a_tup ?_
      refine a_cons ?_
      refine a_c ?_
      refine a_cons ?_
      refine a_c ?_
      refine a_nil ?_
      refine ⟨by show 2 ≤ sizeLine; decide, fun p141 hp142 => ?_⟩
      obtain ⟨F143, g145, e146⟩ := al2 (o := (.tup [V.int 0, V.int 1])) gb137.s (by intro _ _ z; cases z) hp142
      generalize upd H134 p141 (.tup [V.int 0, V.int 1]) = H144 at g145 ⊢
      have gb147 := gb137.tr g145
      have le148 := g145.le
      have cm149 := g145.fz cm139
      have sq150 : SqT K F143 p141 (fr ((0 : Int) : Rat)) := by rw [fr_int]; exact SqT.of e146
      refine a_cons ?_
      refine a_tup ?_
      refine a_cons ?_
      refine a_c ?_
      refine a_cons ?_
      refine a_c ?_
      refine a_nil ?_
      refine ⟨by show 2 ≤ sizeLine; decide, fun p151 hp152 => ?_⟩
      obtain ⟨F153, g155, e156⟩ := al2 (o := (.tup [V.int 0, V.int 1])) gb147.s (by intro _ _ z; cases z) hp152
      generalize upd H144 p151 (.tup [V.int 0, V.int 1]) = H154 at g155 ⊢
      have gb157 := gb147.tr g155
      have le158 := g155.le
      have cm159 := g155.fz cm149
      have sq160 : SqT K F153 p151 (fr ((0 : Int) : Rat)) := by rw [fr_int]; exact SqT.of e156
      refine a_cons ?_
      refine a_tup ?_
      refine a_cons ?_
      refine a_c ?_
      refine a_cons ?_
      refine a_c ?_
      refine a_nil ?_
      refine ⟨by show 2 ≤ sizeLine; decide, fun p161 hp162 => ?_⟩
      obtain ⟨F163, g165, e166⟩ := al2 (o := (.tup [V.int 0, V.int 1])) gb157.s (by intro _ _ z; cases z) hp162
      generalize upd H154 p161 (.tup [V.int 0, V.int 1]) = H164 at g165 ⊢
      have gb167 := gb157.tr g165
      have le168 := g165.le
      have cm169 := g165.fz cm159
      have sq170 : SqT K F163 p161 (fr ((0 : Int) : Rat)) := by rw [fr_int]; exact SqT.of e166
      refine a_nil ?_
      have al171 : Al (rFr K) F163 [V.ref p121, V.ref p131, V.ref p141, V.ref p151, V.ref p161] [((0 : Int) : Rat), ((0 : Int) : Rat), ((0 : Int) : Rat), ((0 : Int) : Rat), ((0 : Int) : Rat)] := ⟨⟨_, rfl, (Le.tup (((le138.trans le148).trans le158).trans le168) sq130)⟩, ⟨⟨_, rfl, (Le.tup ((le148.trans le158).trans le168) sq140)⟩, ⟨⟨_, rfl, (Le.tup (le158.trans le168) sq150)⟩, ⟨⟨_, rfl, (Le.tup le168 sq160)⟩, ⟨⟨_, rfl, sq170⟩, True.intro⟩⟩⟩⟩⟩
      refine ⟨by show 5 ≤ sizeLine; decide, fun p172 hp173 => ?_⟩
      obtain ⟨gb175, sm176, hb177, oF178, oH179, ne180⟩ := alo2 (o := (.lst [V.ref p121, V.ref p131, V.ref p141, V.ref p151, V.ref p161])) gb167 hp173
      generalize upd H164 p172 (.lst [V.ref p121, V.ref p131, V.ref p141, V.ref p151, V.ref p161]) = H174 at gb175 sm176 oH179 ⊢
      refine a_name ?_
      try dsimp only
      refine a_seq ?_
      refine a_thaw ?_
      refine a_for ?_
      refine a_idk ?_
      refine a_var rfl ?_
      have fa186 := calm_at cm169 (Le.dic (((((((le43.trans le108).trans le119).trans le128).trans le138).trans le148).trans le158).trans le168) rd33)
      have ha184 : H174 a31 = some (.dK kvs32) := gb175.s _ _ fa186
      have fa183 : F163 a31 = none ∨ F163 a31 = some (.dK kvs32) := .inr fa186
      have dk185 := (Dk.mo (((((((le43.trans le108).trans le119).trans le128).trans le138).trans le148).trans le158).trans le168) dk34)
      have hnd := nd35
      have hdl := Dk.length dk185
      refine ⟨_, kvs32, rfl, ha184, fun ob181 hna182 => ?_⟩
      have gb187 := fz_gr (a := a31) (.frz ob181 (.dK kvs32)) gb175
      have cm188 := fz_fz (a := a31) (z := (.frz ob181 (.dK kvs32))) cm169
      have le189 := fz_le (ob := ob181) fa183
      have ne190 : p172 ≠ a31 := fun z => by have := oF178; rw [z, fa186] at this; cases this
      have oH191 := (upd_ne (o := (.frz ob181 (.dK kvs32))) ne190).trans oH179
      have oF192 := (fz_ne (o := (.frz ob181 (.dK kvs32))) ne190).trans oF178
      have hb193 := (fz_ne (o := (.frz ob181 (.dK kvs32))) ne190).trans hb177
      refine for_dk (sel := selV) (a := a31) (ob := ob181) (kvs := kvs32) (fun i σ' H' => ∃ (F194 : Hp) (good195 : Bool) (kv196 : List V) (sums197 : List Rat) (o198 : Option V), σ' = [some (V.ref a), some (V.ref a31), some (V.ref p112), some (V.bl good195), some (V.ref p172), o198, none, none, none, none, none] ∧ Gr0 (fz (fun _ => none) a31 (.frz ob181 (.dK kvs32))) (fz H a31 (.frz ob181 (.dK kvs32))) F194 H' ∧ Fz (fun b => b = a31 ∨ S0 b) F194 ∧ Le F163 F194 ∧ H' p172 = some (.lst kv196) ∧ F194 p172 = none ∧ Al (rFr K) F194 kv196 sums197 ∧ [((0 : Int) : Rat), ((0 : Int) : Rat), ((0 : Int) : Rat), ((0 : Int) : Rat), ((0 : Int) : Rat)] = sums197 ∧ F194 a31 = fz F163 a31 (.frz ob181 (.dK kvs32)) a31 ∧ H' a31 = some (.frz ob181 (.dK kvs32)) ∧ (good195 = !((negs (r24.take i)).any id))) ?_ ?_ ?_ ?_
      · exact ⟨(fz F163 a31 (.frz ob181 (.dK kvs32))), true, _, [((0 : Int) : Rat), ((0 : Int) : Rat), ((0 : Int) : Rat), ((0 : Int) : Rat), ((0 : Int) : Rat)], _, rfl, gb187, cm188, le189, oH191, oF192, (Al.mo le189 al171), rfl, rfl, upd_same, by rfl⟩
      · rintro i σ' H199 _ ⟨F200, good204, kv205, m206, o207, rfl, gb201, cm202, le203, oH208, oF209, dk210, rfl, x211, x212, g1⟩
        exact x212
      · rintro i213 ky232 y216 σ' H214 hi215 ⟨F219, good223, kv224, m225, o226, rfl, gb220, cm221, le222, oH227, oF228, dk229, rfl, x230, x231, g1⟩
        obtain ⟨number233, number234, hm235, rfl, hr236⟩ := Dk.get (Dk.mo le222 dk185) hi215
        obtain ⟨a241, rfl, sq242⟩ := hr236
        refine a_name ?_
        try dsimp only
        refine a_if ?_
        refine a_test ?_
        refine a_op ?_
        refine a_op ?_
        refine a_var rfl ?_
        refine a_c ?_
        refine a_ixT (Same.tup gb220.s sq242) (fr0 number234) ?_
        refine a_c ?_
        refine a_I0 ?_
        refine a_bl ?_
        refine iteD (fun c243 => ?_) (fun c243 => ?_)
        · refine a_asg ?_
          refine a_c ?_
          refine a_name ?_
          try dsimp only
          exact ⟨F219, false, _, [((0 : Int) : Rat), ((0 : Int) : Rat), ((0 : Int) : Rat), ((0 : Int) : Rat), ((0 : Int) : Rat)], _, rfl, gb220, cm221, le222, oH227, oF228, dk229, rfl, x230, x231, by first | (rw [negs_any hm235, decide_eq_true ((num_neg _).mp (by assumption)), Bool.or_true]; rfl) | (rw [negs_any hm235, decide_eq_false (fun z => absurd ((num_neg _).mpr z) (by assumption)), Bool.or_false]; exact g1)⟩
        · refine a_next ?_
          try dsimp only
          exact ⟨F219, good223, _, [((0 : Int) : Rat), ((0 : Int) : Rat), ((0 : Int) : Rat), ((0 : Int) : Rat), ((0 : Int) : Rat)], _, rfl, gb220, cm221, le222, oH227, oF228, dk229, rfl, x230, x231, by first | (rw [negs_any hm235, decide_eq_true ((num_neg _).mp (by assumption)), Bool.or_true]; rfl) | (rw [negs_any hm235, decide_eq_false (fun z => absurd ((num_neg _).mpr z) (by assumption)), Bool.or_false]; exact g1)⟩
      · rintro σ' H244 ⟨F245, good249, kv250, m251, o252, rfl, gb246, cm247, le248, oH253, oF254, dk255, rfl, x256, x257, g1⟩
        rw [Dk.length dk185] at g1
        refine ⟨a31, ob181, kvs32, x257, hna182, ?_⟩
        refine thw gb175 ha184 fa183 gb246 x256 cm247 (fun F258 H259 gb260 cm261 le262 ea263 eb264 nF265 nH266 => ?_)
        have oH267 := (nH266 _ (ne190)).trans oH253
        have oF268 := (nF265 _ (ne190)).trans oF254
        try dsimp only
        rw [List.take_length] at g1
        refine a_seq ?_
        refine a_for ?_
        refine a_ilist ?_
        refine a_var rfl ?_
        refine ⟨_, rfl, ⟨_, (Same.seq gb260.s (Le.lst ((((((le128.trans le138).trans le148).trans le158).trans le168).trans le248).trans le262) (SqL.of e117)))⟩, for_list (xs := acc104) (K := K) (a := p112) (fun i σ' H' => ∃ (F269 : Hp) (good270 : Bool) (kv271 : List V) (sums272 : List Rat) (o273 : Option V) (o274 : Option V), σ' = [some (V.ref a), some (V.ref a31), some (V.ref p112), some (V.bl good270), some (V.ref p172), o252, o274, o273, none, none, none] ∧ Gr0 (fun _ => none) H F269 H' ∧ Fz S0 F269 ∧ Le F258 F269 ∧ H' p172 = some (.lst kv271) ∧ F269 p172 = none ∧ Al (rFr K) F269 kv271 sums272 ∧ (good270 = ((!((negs r24).any id)) && (oks r24 (ts109.take i)).all id) ∧ sums272 = sumsR r24 (ts109.take i) ∧ (∀ s ∈ sums272, bs s ≤ 210 * i + 1))) ?_ ?_ ?_ ?_⟩
        · exact ⟨F258, good249, _, [((0 : Int) : Rat), ((0 : Int) : Rat), ((0 : Int) : Rat), ((0 : Int) : Rat), ((0 : Int) : Rat)], _, _, rfl, gb260, cm261, Le.refl _, oH267, oF268, (Al.mo le262 dk255), by exact ⟨by rw [g1]; simp [oks], rfl, by intro s h; simp only [List.mem_cons, List.not_mem_nil, or_false] at h; rcases h with h | h | h | h | h <;> (rw [h]; decide +kernel)⟩⟩
        · rintro i σ' H275 _ ⟨F276, good280, kv281, m282, o283, o284, rfl, gb277, cm278, le279, oH285, oF286, dk287, ⟨s0, s1, s2⟩⟩
          exact (Same.seq gb277.s (Le.lst (((((((le128.trans le138).trans le148).trans le158).trans le168).trans le248).trans le262).trans le279) (SqL.of e117)))
        · rintro i288 y291 σ' H289 hi290 ⟨F292, good296, kv297, m298, o299, o300, rfl, gb293, cm294, le295, oH301, oF302, dk303, ⟨s0, s1, s2⟩⟩
          obtain ⟨x304, hx305, hr306⟩ := Al.get (Al.mo (((((((le128.trans le138).trans le148).trans le158).trans le168).trans le248).trans le262).trans le295) (Al.mo le119 al110)) hi290
          refine a_name ?_
          try dsimp only
          obtain ⟨a307, v309, v310, v311, v312, v313, rfl, sq308, h314, h315, h316, h317, h318⟩ := hr306
          obtain ⟨a319, kvs320, rfl, rd321, dk322, nd323⟩ := h314
          obtain rfl : v310 = V.str x304.2.1 := h315
          obtain ⟨a324, rfl, sq325⟩ := h316
          obtain rfl : v312 = V.int x304.2.2.2.1 := h317
          obtain rfl : v313 = V.int x304.2.2.2.2 := h318
          have u1 := j1 _ (List.mem_of_getElem? hx305)
          have u2 := u1.rk
          have u3 := u1.wt
          have hsl : m298.length = 5 := by rw [s1]; rfl
          have hx9 := hx305
          have hil9 := (List.getElem?_eq_some_iff.mp hx305).1
          obtain ⟨g0, hg0⟩ : ∃ g, g = good296 := ⟨_, rfl⟩
          refine a_seq ?_
          refine a_asg ?_
          refine a_call ?_
          refine a_cons ?_
          refine a_var rfl ?_
          refine a_cons ?_
          refine a_var rfl ?_
          refine a_nil ?_
          refine ⟨F292, _, _, x304, r24, rfl, gb293.s, cm294, ⟨_, _, _, _, _, _, rfl, sq308, ⟨_, _, rfl, rd321, dk322, nd323⟩, rfl, ⟨_, rfl, sq325⟩, rfl, rfl⟩, ⟨_, _, rfl, (Le.dic ((((((((((le43.trans le108).trans le119).trans le128).trans le138).trans le148).trans le158).trans le168).trans le248).trans le262).trans le295) rd33), (Dk.mo ((((((((((le43.trans le108).trans le119).trans le128).trans le138).trans le148).trans le158).trans le168).trans le248).trans le262).trans le295) dk34), nd35⟩, (by exact ⟨u1, hPl⟩), ?_⟩
          rintro v326 F327 H328  g330 hr331 hp332
          have gb333 := gb293.tr g330
          have le334 := g330.le
          have oH335 := g330.h _ _ oH301
          have oF336 := g330.own oF302 oH301
          have cm337 := g330.fz cm294
          obtain ⟨a338, rfl, sq339⟩ := hr331
          have u5 := hp332
          refine a_name ?_
          try dsimp only
          refine a_seqM (fun σ' H' => ∃ (F340 : Hp) (good341 : Bool) (kv342 : List V) (sums343 : List Rat), σ' = [some (V.ref a), some (V.ref a31), some (V.ref p112), some (V.bl good341), some (V.ref p172), o252, some (V.ref a307), some (V.ref a338), none, none, none] ∧ Gr0 (fun _ => none) H F340 H' ∧ Fz S0 F340 ∧ Le F327 F340 ∧ H' p172 = some (.lst kv342) ∧ F340 p172 = none ∧ Al (rFr K) F340 kv342 sums343 ∧ m298 = sums343 ∧ (good341 = (g0 && okR r24 x304))) (fun R hR => ?_) ?_
          · refine a_if ?_
            refine a_and ?_
            refine a_test ?_
            refine a_op ?_
            refine a_op ?_
            refine a_var rfl ?_
            refine a_c ?_
            refine a_ixT (Same.tup gb333.s (Le.tup le334 sq308)) rfl ?_
            refine a_c ?_
            refine a_eqI ?_
            refine a_bl ?_
            refine iteD (fun c344 => ?_) (fun c344 => ?_)
            · refine a_test ?_
              refine a_op ?_
              refine a_var rfl ?_
              refine a_tup ?_
              refine a_cons ?_
              refine a_c ?_
              refine a_cons ?_
              refine a_c ?_
              refine a_nil ?_
              refine ⟨by show 2 ≤ sizeLine; decide, fun p345 hp346 => ?_⟩
              obtain ⟨F347, g349, e350⟩ := al2 (o := (.tup [V.int 0, V.int 1])) gb333.s (by intro _ _ z; cases z) hp346
              generalize upd H328 p345 (.tup [V.int 0, V.int 1]) = H348 at g349 ⊢
              have gb351 := gb333.tr g349
              have le352 := g349.le
              have oH353 := g349.h _ _ oH335
              have oF354 := g349.own oF336 oH335
              have cm355 := g349.fz cm337
              have sq356 : SqT K F347 p345 (fr ((0 : Int) : Rat)) := by rw [fr_int]; exact SqT.of e350
              refine ⟨F347, (missR r24 x304), ((0 : Int) : Rat), gb351.s, ⟨_, rfl, (Le.tup le352 sq339)⟩, ⟨_, rfl, sq356⟩, ?_⟩
              refine a_bl ?_
              refine iteDN (fun c357 => ?_) (fun c357 => ?_)
              · refine a_asg ?_
                refine a_c ?_
                refine a_name ?_
                try dsimp only
                exact hR _ _ ⟨F347, false, _, m298, rfl, gb351, cm355, le352, oH353, oF354, (Al.mo (le334.trans le352) dk303), rfl, by rw [hg0]; unfold okR; simp_all⟩
              · refine a_next ?_
                try dsimp only
                exact hR _ _ ⟨F347, good296, _, m298, rfl, gb351, cm355, le352, oH353, oF354, (Al.mo (le334.trans le352) dk303), rfl, by rw [hg0]; unfold okR; simp_all⟩
            · refine iteF ?_
              refine a_next ?_
              try dsimp only
              exact hR _ _ ⟨F327, good296, _, m298, rfl, gb333, cm337, Le.refl _, oH335, oF336, (Al.mo le334 dk303), rfl, by rw [hg0]; unfold okR; simp_all⟩
          · rintro σ' H358 ⟨F359, good363, kv364, m365, rfl, gb360, cm361, le362, oH366, oF367, dk368, rfl, e9⟩
            refine a_asg ?_
            refine a_call ?_
            refine a_cons ?_
            refine a_op ?_
            refine a_var rfl ?_
            refine a_op ?_
            refine a_var rfl ?_
            refine a_c ?_
            refine a_ixT (Same.tup gb360.s (Le.tup (le334.trans le362) sq308)) rfl ?_
            obtain ⟨x370, v369, h371, h372, h373⟩ := Al.ix dk368 (i := x304.2.2.2.1) (by walk_at "o") (by walk_at "ol")
            refine a_ixL (SqL.of oH366) h372 ?_
            have hq8 := h371
            have hb8 := s2 _ (List.mem_of_getElem? h371)
            obtain ⟨a374, rfl, sq375⟩ := h373
            refine a_cons ?_
            refine a_call ?_
            refine a_cons ?_
            refine a_op ?_
            refine a_op ?_
            refine a_var rfl ?_
            refine a_c ?_
            refine a_ixT (Same.tup gb360.s (Le.tup le362 sq339)) (fr0 (missR r24 x304)) ?_
            refine a_op ?_
            refine a_var rfl ?_
            refine a_c ?_
            refine a_ixT (Same.tup gb360.s (Le.tup (le334.trans le362) sq308)) rfl ?_
            refine a_I (by walk_at "om") ?_
            refine a_cons ?_
            refine a_op ?_
            refine a_var rfl ?_
            refine a_c ?_
            refine a_ixT (Same.tup gb360.s (Le.tup le362 sq339)) (fr1 (missR r24 x304)) ?_
            refine a_nil ?_
            refine ⟨F359, _, _, ((missR r24 x304).num * x304.2.2.2.2), ((missR r24 x304).den : Int), rfl, gb360.s, rfl, rfl, (by exact ⟨den_pos _, by have := bi_den ((missR r24 x304)); omega⟩), ?_⟩
            rintro v376 F377 H378  g380 hr381 
            have gb383 := gb360.tr g380
            have le384 := g380.le
            have oH385 := g380.h _ _ oH366
            have oF386 := g380.own oF367 oH366
            have cm387 := g380.fz cm361
            obtain ⟨a388, rfl, sq389⟩ := hr381
            have u6 : bs (Rat.divInt ((missR r24 x304).num * x304.2.2.2.2) ((missR r24 x304).den : Int)) ≤ 204 := by rw [low_w]; have := bs_w u3.1 u3.2; have := bs_mul ((x304.2.2.2.2 : Int) : Rat) (missR r24 x304); omega
            have u7 := bi_num (Rat.divInt ((missR r24 x304).num * x304.2.2.2.2) ((missR r24 x304).den : Int))
            have u8 := bi_den (Rat.divInt ((missR r24 x304).num * x304.2.2.2.2) ((missR r24 x304).den : Int))
            refine a_nil ?_
            refine ⟨F377, _, _, x370, ((Rat.divInt (((missR r24 x304).num * x304.2.2.2.2)) (((missR r24 x304).den : Int))).num, ((Rat.divInt (((missR r24 x304).num * x304.2.2.2.2)) (((missR r24 x304).den : Int))).den : Int)), rfl, gb383.s, ⟨_, rfl, (Le.tup le384 sq375)⟩, ⟨_, _, _, rfl, sq389, rfl, rfl⟩, (by dsimp only; exact ⟨den_pos _, by omega, by omega, by omega⟩), ?_⟩
            rintro v390 F391 H392  g394 hr395 
            have gb397 := gb383.tr g394
            have le398 := g394.le
            have oH399 := g394.h _ _ oH385
            have oF400 := g394.own oF386 oH385
            have cm401 := g394.fz cm387
            obtain ⟨a402, rfl, sq403⟩ := hr395
            refine a_gsub ?_
            refine a_var rfl ?_
            refine a_op ?_
            refine a_var rfl ?_
            refine a_c ?_
            refine a_ixT (Same.tup gb397.s (Le.tup (((le334.trans le362).trans le384).trans le398) sq308)) rfl ?_
            refine ⟨_, _, _, (x304.2.2.2.1).toNat, rfl, rfl, oH399, ixN_nat (by walk_at "o") (by rw [Al.length (Al.mo (le384.trans le398) dk368)]; walk_at "ol"), (chg (R := fun H' => _) gb397 hb177 oF400 (fun H404 gb405 oH406 ne407 => ?_))⟩
            have al408 := Al.setv (j := (x304.2.2.2.1).toNat) (Al.mo (le384.trans le398) dk368) (show (rFr K) F391 (V.ref a402) (x370 + Rat.divInt (((Rat.divInt (((missR r24 x304).num * x304.2.2.2.2)) (((missR r24 x304).den : Int))).num, ((Rat.divInt (((missR r24 x304).num * x304.2.2.2.2)) (((missR r24 x304).den : Int))).den : Int))).1 (((Rat.divInt (((missR r24 x304).num * x304.2.2.2.2)) (((missR r24 x304).den : Int))).num, ((Rat.divInt (((missR r24 x304).num * x304.2.2.2.2)) (((missR r24 x304).den : Int))).den : Int))).2) from ⟨_, rfl, sq403⟩)
            try dsimp only
            exact ⟨F391, good363, _, (m298.set (x304.2.2.2.1).toNat (x370 + Rat.divInt (((Rat.divInt (((missR r24 x304).num * x304.2.2.2.2)) (((missR r24 x304).den : Int))).num, ((Rat.divInt (((missR r24 x304).num * x304.2.2.2.2)) (((missR r24 x304).den : Int))).den : Int))).1 (((Rat.divInt (((missR r24 x304).num * x304.2.2.2.2)) (((missR r24 x304).den : Int))).num, ((Rat.divInt (((missR r24 x304).num * x304.2.2.2.2)) (((missR r24 x304).den : Int))).den : Int))).2)), _, _, rfl, gb405, cm401, ((((le295.trans le334).trans le362).trans le384).trans le398), oH406, oF400, al408, by exact ⟨by rw [e9, hg0, s0, oks_all hx9, Bool.and_assoc], by rw [s1] at hq8 ⊢; dsimp only; rw [low_add, low_w]; exact sums_put hx9 (by omega) (by omega) hq8, fun s h => by
              rcases List.mem_or_eq_of_mem_set h with h | h
              · have := s2 s h; omega
              · rw [h]; exact Nat.le_trans (bs_ad (k := 204) (by dsimp only; have := den_pos (Rat.divInt ((missR r24 x304).num * x304.2.2.2.2) ((missR r24 x304).den : Int)); omega) (by dsimp only; omega) (by dsimp only; omega)) (by omega)⟩⟩
        · rintro σ' H409 ⟨F410, good414, kv415, m416, o417, o418, rfl, gb411, cm412, le413, oH419, oF420, dk421, ⟨s0, s1, s2⟩⟩
          have hlen := Al.length (Al.mo (((((((le128.trans le138).trans le148).trans le158).trans le168).trans le248).trans le262).trans le413) (Al.mo le119 al110))
          try dsimp only
          rw [hlen, List.take_length] at s0 s1
          have hsl : m416.length = 5 := by rw [s1]; rfl
          have hgood : good414 = fitsB ts109 r24 := s0
          refine a_seq ?_
          refine a_for ?_
          refine a_ilist ?_
          refine a_lst ?_
          refine a_cons ?_
          refine a_cb ?_
          refine a_cons ?_
          refine a_var rfl ?_
          refine a_nil ?_
          have al422 := (Al.mo (((((((le128.trans le138).trans le148).trans le158).trans le168).trans le248).trans le262).trans le413) (Al.mo le119 al110))
          refine ⟨_, _, rfl, .inl (Same.seq gb411.s (Le.lst (((((((le128.trans le138).trans le148).trans le158).trans le168).trans le248).trans le262).trans le413) (SqL.of e117))), fun p423 hp424 => ?_⟩
          obtain ⟨F425, g427, e428⟩ := al2 (o := (.lst acc104)) gb411.s (by intro _ _ z; cases z) hp424
          generalize upd H409 p423 (.lst acc104) = H426 at g427 ⊢
          have gb429 := gb411.tr g427
          have le430 := g427.le
          have oH431 := g427.h _ _ oH419
          have oF432 := g427.own oF420 oH419
          have cm433 := g427.fz cm412
          refine a_cons ?_
          refine a_lr ?_
          refine a_cons ?_
          refine a_var rfl ?_
          refine a_nil ?_
          have al434 := Al.rev (Al.mo ((((((((le128.trans le138).trans le148).trans le158).trans le168).trans le248).trans le262).trans le413).trans le430) (Al.mo le119 al110))
          refine ⟨_, _, rfl, (Same.seq gb429.s (Le.lst ((((((((le128.trans le138).trans le148).trans le158).trans le168).trans le248).trans le262).trans le413).trans le430) (SqL.of e117))), fun p435 hp436 => ?_⟩
          obtain ⟨F437, g439, e440⟩ := al2 (o := (.lst acc104.reverse)) gb429.s (by intro _ _ z; cases z) hp436
          generalize upd H426 p435 (.lst acc104.reverse) = H438 at g439 ⊢
          have gb441 := gb429.tr g439
          have le442 := g439.le
          have oH443 := g439.h _ _ oH431
          have oF444 := g439.own oF432 oH431
          have cm445 := g439.fz cm433
          refine a_nil ?_
          refine ⟨by show 2 ≤ sizeLine; decide, fun p446 hp447 => ?_⟩
          obtain ⟨F448, g450, e451⟩ := al2 (o := (.lst [V.ref p423, V.ref p435])) gb441.s (by intro _ _ z; cases z) hp447
          generalize upd H438 p446 (.lst [V.ref p423, V.ref p435]) = H449 at g450 ⊢
          have gb452 := gb441.tr g450
          have le453 := g450.le
          have oH454 := g450.h _ _ oH443
          have oF455 := g450.own oF444 oH443
          have cm456 := g450.fz cm445
          have al457 : Al (rL K (r5 K (rD (rFr K)) rS (rFr K) rI rI)) F448 [.ref p423, .ref p435] [ts109, (ts109).reverse] := ⟨⟨_, _, rfl, (Le.lst (le442.trans le453) (SqL.of e428)), (Al.mo (le442.trans le453) (Al.mo le430 al422))⟩, ⟨⟨_, _, rfl, (Le.lst le453 (SqL.of e440)), (Al.mo le453 (Al.mo le442 al434))⟩, True.intro⟩⟩
          refine ⟨_, rfl, ⟨_, (Same.seq gb452.s (SqL.of e451))⟩, for_list (xs := [V.ref p423, V.ref p435]) (K := K) (a := p446) (fun i σ' H' => ∃ (F458 : Hp) (kv459 : List V) (sums460 : List Rat) (o461 : Option V) (o462 : Option V) (o463 : Option V) (o464 : Option V), σ' = [some (V.ref a), some (V.ref a31), some (V.ref p112), some (V.bl good414), some (V.ref p172), o463, o418, o417, o464, o461, o462] ∧ Gr0 (fun _ => none) H F458 H' ∧ Fz S0 F458 ∧ Le F448 F458 ∧ H' p172 = some (.lst kv459) ∧ F458 p172 = none ∧ Al (rFr K) F458 kv459 sums460 ∧ m416 = sums460 ∧ (True)) ?_ ?_ ?_ ?_⟩
          · exact ⟨F448, _, m416, _, _, _, _, rfl, gb452, cm456, Le.refl _, oH454, oF455, (Al.mo ((le430.trans le442).trans le453) dk421), rfl, by trivial⟩
          · rintro i σ' H465 _ ⟨F466, kv471, m472, o473, o474, o475, o476, rfl, gb467, cm468, le469, oH477, oF478, dk479, rfl, inv470⟩
            exact (Same.seq gb467.s (Le.lst le469 (SqL.of e451)))
          · rintro i480 y483 σ' H481 hi482 ⟨F484, kv489, m490, o491, o492, o493, o494, rfl, gb485, cm486, le487, oH495, oF496, dk497, rfl, inv488⟩
            obtain ⟨x498, hx499, hr500⟩ := Al.get (Al.mo le487 al457) hi482
            refine a_name ?_
            try dsimp only
            obtain ⟨a501, vs502, rfl, sq503, al504⟩ := hr500
            have hh := two_of hx499
            have g1 : fitsB x498 r24 = good414 := by rw [hgood]; rcases hh with h | h <;> rw [h]; exact fits_rev _ _
            have g2 : ∀ k, goalR r24 k x498 = goalR r24 k ts109 := fun k => by rcases hh with h | h <;> rw [h]; exact goal_rev _ _ _
            have g3 : ∀ r ∈ x498, RowOk r24 r := fun r h => j1 r (by rcases hh with z | z <;> rw [z] at h; exact h; exact List.mem_reverse.mp h)
            have g4 : x498.length ≤ 10 := by
              rcases hh with h | h
              · rw [h]; omega
              · rw [h, List.length_reverse]; omega
            refine a_seq ?_
            refine a_if ?_
            refine a_or ?_
            refine a_and ?_
            refine a_test ?_
            refine a_op ?_
            refine a_call ?_
            refine a_cons ?_
            refine a_var rfl ?_
            refine a_cons ?_
            refine a_cb ?_
            refine a_cons ?_
            refine a_var rfl ?_
            refine a_nil ?_
            refine ⟨_, _, rfl, (Same.rd gb485.s (Le.dic ((((((((((((((le43.trans le108).trans le119).trans le128).trans le138).trans le148).trans le158).trans le168).trans le248).trans le262).trans le413).trans le430).trans le442).trans le453).trans le487) rd33)), fun p505 hp506 => ?_⟩
            obtain ⟨gb508, sm509, hb510, oF511, oH512, ne513⟩ := alo2 (o := (.dK kvs32)) gb485 hp506
            generalize upd H481 p505 (.dK kvs32) = H507 at gb508 sm509 oH512 ⊢
            have ne514 := ne513 _ _ oH495
            have oH515 := sm509 _ _ oH495
            refine a_nil ?_
            obtain ⟨F516, gb517, cm518, le519s, e520, ne521⟩ := frz gb508 cm486 hb510 oF511 oH512 (by intro _ _ z; cases z)
            have le519 := Le.of le519s
            have oF522 := (ne521 _ ne514).trans oF496
            refine ⟨F516, _, _, x498, r24, rfl, gb517.s, cm518, ⟨_, _, rfl, (Le.lst le519 sq503), (Al.mo le519 al504)⟩, ⟨_, _, rfl, (Rd.of e520), (Dk.mo le519 (Dk.mo ((((((((((((((le43.trans le108).trans le119).trans le128).trans le138).trans le148).trans le158).trans le168).trans le248).trans le262).trans le413).trans le430).trans le442).trans le453).trans le487) dk34)), nd35⟩, (by exact ⟨by omega, g3, hPl⟩), ?_⟩
            rintro v523 F524 H525  g527 hr528 
            have gb530 := gb517.tr g527
            have le531 := g527.le
            have oH532 := g527.h _ _ oH515
            have oF533 := g527.own oF522 oH515
            have cm534 := g527.fz cm518
            obtain rfl : v523 = V.bl (fitsB x498 r24) := hr528
            refine a_c ?_
            refine ⟨_, _, rfl, rfl, ?_⟩
            refine a_bl ?_
            refine iteNB (fun c535 => ?_) (fun c535 => ?_)
            · refine a_tB ?_
              refine a_var rfl ?_
              refine a_bl ?_
              refine iteB (fun c536 => ?_) (fun c536 => ?_)
              · refine iteT ?_
                refine a_ret ?_
                refine a_c ?_
                exfalso
                simp_all
              · refine a_and ?_
                refine a_test ?_
                refine a_op ?_
                refine a_call ?_
                refine a_cons ?_
                refine a_var rfl ?_
                refine a_cons ?_
                refine a_cb ?_
                refine a_cons ?_
                refine a_var rfl ?_
                refine a_nil ?_
                refine ⟨_, _, rfl, (Same.rd gb530.s (Le.dic ((((((((((((((((le43.trans le108).trans le119).trans le128).trans le138).trans le148).trans le158).trans le168).trans le248).trans le262).trans le413).trans le430).trans le442).trans le453).trans le487).trans le519).trans le531) rd33)), fun p537 hp538 => ?_⟩
                obtain ⟨gb540, sm541, hb542, oF543, oH544, ne545⟩ := alo2 (o := (.dK kvs32)) gb530 hp538
                generalize upd H525 p537 (.dK kvs32) = H539 at gb540 sm541 oH544 ⊢
                have ne546 := ne545 _ _ oH532
                have oH547 := sm541 _ _ oH532
                refine a_nil ?_
                obtain ⟨F548, gb549, cm550, le551s, e552, ne553⟩ := frz gb540 cm534 hb542 oF543 oH544 (by intro _ _ z; cases z)
                have le551 := Le.of le551s
                have oF554 := (ne553 _ ne546).trans oF533
                refine ⟨F548, _, _, x498, r24, rfl, gb549.s, cm550, ⟨_, _, rfl, (Le.lst ((le519.trans le531).trans le551) sq503), (Al.mo ((le519.trans le531).trans le551) al504)⟩, ⟨_, _, rfl, (Rd.of e552), (Dk.mo le551 (Dk.mo ((((((((((((((((le43.trans le108).trans le119).trans le128).trans le138).trans le148).trans le158).trans le168).trans le248).trans le262).trans le413).trans le430).trans le442).trans le453).trans le487).trans le519).trans le531) dk34)), nd35⟩, (by exact ⟨by omega, g3, hPl⟩), ?_⟩
                rintro v555 F556 H557  g559 hr560 
                have gb562 := gb549.tr g559
                have le563 := g559.le
                have oH564 := g559.h _ _ oH547
                have oF565 := g559.own oF554 oH547
                have cm566 := g559.fz cm550
                obtain rfl : v555 = V.bl (fitsB x498 r24) := hr560
                refine a_c ?_
                refine ⟨_, _, rfl, rfl, ?_⟩
                refine a_bl ?_
                refine iteNB (fun c567 => ?_) (fun c567 => ?_)
                · refine a_not ?_
                  refine a_tB ?_
                  refine a_var rfl ?_
                  refine a_bl ?_
                  refine iteNB (fun c568 => ?_) (fun c568 => ?_)
                  · refine a_ret ?_
                    refine a_c ?_
                    exfalso
                    simp_all
                  · refine a_next ?_
                    try dsimp only
                    refine a_seq ?_
                    refine a_for ?_
                    refine a_rng2 ?_
                    refine a_cons ?_
                    refine a_c ?_
                    refine a_cons ?_
                    refine a_c ?_
                    refine a_nil ?_
                    refine ⟨_, _, rfl, ⟨by first | omega | walk_at "o", by first | omega | walk_at "o", by first | omega | walk_at "o", by first | omega | walk_at "o"⟩, for_range (lo := 1) (n := (Int.toNat (5 - 1))) (fun i σ' H' => ∃ (F569 : Hp) (kv570 : List V) (sums571 : List Rat) (o572 : Option V), σ' = [some (V.ref a), some (V.ref a31), some (V.ref p112), some (V.bl good414), some (V.ref p172), o493, o418, o417, some (V.ref a501), o572, o492] ∧ Gr0 (fun _ => none) H F569 H' ∧ Fz S0 F569 ∧ Le F556 F569 ∧ H' p172 = some (.lst kv570) ∧ F569 p172 = none ∧ Al (rFr K) F569 kv570 sums571 ∧ m416 = sums571 ∧ (True)) ?_ ?_ ?_⟩
                    · exact ⟨F556, _, m416, _, rfl, gb562, cm566, Le.refl _, oH564, oF565, (Al.mo (((le519.trans le531).trans le551).trans le563) dk497), rfl, by trivial⟩
                    · rintro i573 σ' H574 hi575 ⟨F576, kv581, m582, o583, rfl, gb577, cm578, le579, oH584, oF585, dk586, rfl, inv580⟩
                      refine a_name ?_
                      try dsimp only
                      refine a_if ?_
                      refine a_not ?_
                      refine a_tB ?_
                      refine a_call ?_
                      refine a_cons ?_
                      refine a_call ?_
                      refine a_cons ?_
                      refine a_var rfl ?_
                      refine a_cons ?_
                      refine a_var rfl ?_
                      refine a_cons ?_
                      refine a_cb ?_
                      refine a_cons ?_
                      refine a_var rfl ?_
                      refine a_nil ?_
                      refine ⟨_, _, rfl, (Same.rd gb577.s (Le.dic (((((((((((((((((((le43.trans le108).trans le119).trans le128).trans le138).trans le148).trans le158).trans le168).trans le248).trans le262).trans le413).trans le430).trans le442).trans le453).trans le487).trans le519).trans le531).trans le551).trans le563).trans le579) rd33)), fun p587 hp588 => ?_⟩
                      obtain ⟨gb590, sm591, hb592, oF593, oH594, ne595⟩ := alo2 (o := (.dK kvs32)) gb577 hp588
                      generalize upd H574 p587 (.dK kvs32) = H589 at gb590 sm591 oH594 ⊢
                      have ne596 := ne595 _ _ oH584
                      have oH597 := sm591 _ _ oH584
                      refine a_nil ?_
                      obtain ⟨F598, gb599, cm600, le601s, e602, ne603⟩ := frz gb590 cm578 hb592 oF593 oH594 (by intro _ _ z; cases z)
                      have le601 := Le.of le601s
                      have oF604 := (ne603 _ ne596).trans oF585
                      refine ⟨F598, _, _, _, x498, (1 + (i573 : Int)), r24, rfl, gb599.s, cm600, ⟨_, _, rfl, (Le.lst (((((le519.trans le531).trans le551).trans le563).trans le579).trans le601) sq503), (Al.mo (((((le519.trans le531).trans le551).trans le563).trans le579).trans le601) al504)⟩, rfl, ⟨_, _, rfl, (Rd.of e602), (Dk.mo le601 (Dk.mo (((((((((((((((((((le43.trans le108).trans le119).trans le128).trans le138).trans le148).trans le158).trans le168).trans le248).trans le262).trans le413).trans le430).trans le442).trans le453).trans le487).trans le519).trans le531).trans le551).trans le563).trans le579) dk34)), nd35⟩, (by exact ⟨by omega, g3, hPl⟩), ?_⟩
                      rintro v605 F606 H607  g609 hr610 
                      have gb612 := gb599.tr g609
                      have le613 := g609.le
                      have oH614 := g609.h _ _ oH597
                      have oF615 := g609.own oF604 oH597
                      have cm616 := g609.fz cm600
                      obtain ⟨a617, rfl, sq618⟩ := hr610
                      refine a_cons ?_
                      refine a_op ?_
                      refine a_var rfl ?_
                      refine a_var rfl ?_
                      obtain ⟨x620, v619, h621, h622, h623⟩ := Al.ix (Al.mo (le601.trans le613) dk586) (i := (1 + (i573 : Int))) (by walk_at "o") (by walk_at "ol")
                      refine a_ixL (SqL.of oH614) h622 ?_
                      have hq9 := h621
                      obtain ⟨a624, rfl, sq625⟩ := h623
                      refine a_nil ?_
                      refine ⟨F606, _, _, (goalR r24 ((1 + (i573 : Int))) x498), x620, rfl, gb612.s, ⟨_, rfl, sq618⟩, ⟨_, rfl, sq625⟩, (by rw [g2]; rw [s1] at hq9; exact sums_get (by omega) (by omega) hq9), ?_⟩
                      rintro v626 F627 H628  g630 hr631 
                      have gb633 := gb612.tr g630
                      have le634 := g630.le
                      have oH635 := g630.h _ _ oH614
                      have oF636 := g630.own oF615 oH614
                      have cm637 := g630.fz cm616
                      obtain rfl : v626 = V.bl true := hr631
                      refine a_bl ?_
                      refine iteNT ?_
                      refine a_next ?_
                      try dsimp only
                      exact ⟨F627, _, m416, _, rfl, gb633, cm637, (((le579.trans le601).trans le613).trans le634), oH635, oF636, (Al.mo ((le601.trans le613).trans le634) dk586), rfl, by trivial⟩
                    · rintro σ' H638 ⟨F639, kv644, m645, o646, rfl, gb640, cm641, le642, oH647, oF648, dk649, rfl, inv643⟩
                      try dsimp only
                      refine a_forD ?_
                      refine a_var rfl ?_
                      have fa655 := calm_at cm641 (Le.dic (((((((((((((((((((le43.trans le108).trans le119).trans le128).trans le138).trans le148).trans le158).trans le168).trans le248).trans le262).trans le413).trans le430).trans le442).trans le453).trans le487).trans le519).trans le531).trans le551).trans le563).trans le642) rd33)
                      have ha653 : H638 a31 = some (.dK kvs32) := gb640.s _ _ fa655
                      have fa652 : F639 a31 = none ∨ F639 a31 = some (.dK kvs32) := .inr fa655
                      have dk654 := (Dk.mo (((((((((((((((((((le43.trans le108).trans le119).trans le128).trans le138).trans le148).trans le158).trans le168).trans le248).trans le262).trans le413).trans le430).trans le442).trans le453).trans le487).trans le519).trans le531).trans le551).trans le563).trans le642) dk34)
                      have hnd := nd35
                      have hdl := Dk.length dk654
                      refine ⟨_, kvs32, rfl, ha653, fun ob650 hna651 => ?_⟩
                      have gb656 := fz_gr (a := a31) (.frz ob650 (.dK kvs32)) gb640
                      have cm657 := fz_fz (a := a31) (z := (.frz ob650 (.dK kvs32))) cm641
                      have le658 := fz_le (ob := ob650) fa652
                      have ne659 : p172 ≠ a31 := fun z => by have := oF648; rw [z, fa655] at this; cases this
                      have oH660 := (upd_ne (o := (.frz ob650 (.dK kvs32))) ne659).trans oH647
                      have oF661 := (fz_ne (o := (.frz ob650 (.dK kvs32))) ne659).trans oF648
                      have hb662 := (fz_ne (o := (.frz ob650 (.dK kvs32))) ne659).trans hb177
                      refine for_items (a := a31) (ob := ob650) (kvs := kvs32) (fun i σ' H' => ∃ (F663 : Hp) (kv664 : List V) (sums665 : List Rat) (o666 : Option V) (o667 : Option V), σ' = [some (V.ref a), some (V.ref a31), some (V.ref p112), some (V.bl good414), some (V.ref p172), o667, o418, o417, some (V.ref a501), o646, o666] ∧ Gr0 (fz (fun _ => none) a31 (.frz ob650 (.dK kvs32))) (fz H a31 (.frz ob650 (.dK kvs32))) F663 H' ∧ Fz (fun b => b = a31 ∨ S0 b) F663 ∧ Le F639 F663 ∧ H' p172 = some (.lst kv664) ∧ F663 p172 = none ∧ Al (rFr K) F663 kv664 sums665 ∧ m416 = sums665 ∧ F663 a31 = fz F639 a31 (.frz ob650 (.dK kvs32)) a31 ∧ H' a31 = some (.frz ob650 (.dK kvs32)) ∧ (True)) ?_ ?_ ?_ ?_
                      · exact ⟨(fz F639 a31 (.frz ob650 (.dK kvs32))), _, m416, _, _, rfl, gb656, cm657, le658, oH660, oF661, (Al.mo le658 dk649), rfl, rfl, upd_same, by trivial⟩
                      · rintro i σ' H668 _ ⟨F669, kv674, m675, o676, o677, rfl, gb670, cm671, le672, oH678, oF679, dk680, rfl, x681, x682, inv673⟩
                        exact x682
                      · rintro i683 ky703 y686 σ' H684 p687 hi685 ⟨F689, kv694, m695, o696, o697, rfl, gb690, cm691, le692, oH698, oF699, dk700, rfl, x701, x702, inv693⟩ hp688
                        obtain ⟨name704, number705, hm706, rfl, hr707⟩ := Dk.get (Dk.mo le692 dk654) hi685
                        obtain ⟨a712, rfl, sq713⟩ := hr707
                        refine it2 (K := K) gb690.s hp688 (fun F708 H709 g710 e711 => ?_)
                        have gb714 := gb690.tr g710
                        have le715 := g710.le
                        have oH716 := g710.h _ _ oH698
                        have oF717 := g710.own oF699 oH698
                        have cm718 := g710.fz cm691
                        have za719 := g710.h _ _ x702
                        have zf720 := g710.at x702 x701
                        try dsimp only
                        have hg8 := gt_of_mem hnd (List.mem_of_getElem? hm706)
                        refine a_if ?_
                        refine a_not ?_
                        refine a_tB ?_
                        refine a_call ?_
                        refine a_cons ?_
                        refine a_call ?_
                        refine a_cons ?_
                        refine a_var rfl ?_
                        refine a_cons ?_
                        refine a_var rfl ?_
                        refine a_cons ?_
                        refine a_cb ?_
                        refine a_cons ?_
                        refine a_var rfl ?_
                        refine a_nil ?_
                        refine ⟨_, _, rfl, (Same.rd gb714.s (Le.dic (((((((((((((((((((((le43.trans le108).trans le119).trans le128).trans le138).trans le148).trans le158).trans le168).trans le248).trans le262).trans le413).trans le430).trans le442).trans le453).trans le487).trans le519).trans le531).trans le551).trans le563).trans le642).trans le692).trans le715) rd33)), fun p721 hp722 => ?_⟩
                        obtain ⟨gb724, sm725, hb726, oF727, oH728, ne729⟩ := alo2 (o := (.dK kvs32)) gb714 hp722
                        generalize upd H709 p721 (.dK kvs32) = H723 at gb724 sm725 oH728 ⊢
                        have ne730 := ne729 _ _ oH716
                        have oH731 := sm725 _ _ oH716
                        have za732 := sm725 _ _ za719
                        refine a_nil ?_
                        obtain ⟨F733, gb734, cm735, le736s, e737, ne738⟩ := frz gb724 cm718 hb726 oF727 oH728 (by intro _ _ z; cases z)
                        have le736 := Le.of le736s
                        have zf739 := (ne738 _ (ne_of za732 oH728 (by intro z; cases z))).trans zf720
                        have oF740 := (ne738 _ ne730).trans oF717
                        refine ⟨F733, _, _, _, x498, name704, r24, rfl, gb734.s, ⟨_, _, rfl, (Le.lst (((((((le519.trans le531).trans le551).trans le563).trans le642).trans le692).trans le715).trans le736) sq503), (Al.mo (((((((le519.trans le531).trans le551).trans le563).trans le642).trans le692).trans le715).trans le736) al504)⟩, rfl, ⟨_, _, rfl, (Rd.of e737), (Dk.mo le736 (Dk.mo (((((((((((((((((((((le43.trans le108).trans le119).trans le128).trans le138).trans le148).trans le158).trans le168).trans le248).trans le262).trans le413).trans le430).trans le442).trans le453).trans le487).trans le519).trans le531).trans le551).trans le563).trans le642).trans le692).trans le715) dk34)), nd35⟩, (by exact ⟨_, hg8⟩), ?_⟩
                        rintro v741 F742 H743 r744 g745 hr746 hp747
                        have gb748 := gb734.tr g745
                        have le749 := g745.le
                        have oH750 := g745.h _ _ oH731
                        have oF751 := g745.own oF740 oH731
                        have cm752 := g745.fz cm735
                        have za753 := g745.h _ _ za732
                        have zf754 := g745.at za732 zf739
                        obtain ⟨a755, rfl, sq756⟩ := hr746
                        have hg9 := hp747
                        refine a_cons ?_
                        refine a_var rfl ?_
                        refine a_nil ?_
                        refine ⟨F742, _, _, r744, number705, rfl, gb748.s, ⟨_, rfl, sq756⟩, ⟨_, rfl, (Le.tup ((le715.trans le736).trans le749) sq713)⟩, (by exact Option.some.inj (hg9.symm.trans hg8)), ?_⟩
                        rintro v757 F758 H759  g761 hr762 
                        have gb764 := gb748.tr g761
                        have le765 := g761.le
                        have oH766 := g761.h _ _ oH750
                        have oF767 := g761.own oF751 oH750
                        have cm768 := g761.fz cm752
                        have za769 := g761.h _ _ za753
                        have zf770 := g761.at za753 zf754
                        obtain rfl : v757 = V.bl true := hr762
                        refine a_bl ?_
                        refine iteNT ?_
                        refine a_next ?_
                        try dsimp only
                        exact ⟨F758, _, m416, _, _, rfl, gb764, cm768, ((((le692.trans le715).trans le736).trans le749).trans le765), oH766, oF767, (Al.mo (((le715.trans le736).trans le749).trans le765) dk700), rfl, zf770, za769, by trivial⟩
                      · rintro σ' H771 ⟨F772, kv777, m778, o779, o780, rfl, gb773, cm774, le775, oH781, oF782, dk783, rfl, x784, x785, inv776⟩
                        refine ⟨a31, ob650, kvs32, x785, hna651, ?_⟩
                        refine thw gb640 ha653 fa652 gb773 x784 cm774 (fun F786 H787 gb788 cm789 le790 ea791 eb792 nF793 nH794 => ?_)
                        have oH795 := (nH794 _ (ne659)).trans oH781
                        have oF796 := (nF793 _ (ne659)).trans oF782
                        try dsimp only
                        exact ⟨F786, _, m416, _, _, _, _, rfl, gb788, cm789, (((((((le487.trans le519).trans le531).trans le551).trans le563).trans le642).trans le775).trans le790), oH795, oF796, (Al.mo le790 dk783), rfl, by trivial⟩
                · refine iteF ?_
                  refine a_next ?_
                  try dsimp only
                  refine a_seq ?_
                  refine a_for ?_
                  refine a_rng2 ?_
                  refine a_cons ?_
                  refine a_c ?_
                  refine a_cons ?_
                  refine a_c ?_
                  refine a_nil ?_
                  refine ⟨_, _, rfl, ⟨by first | omega | walk_at "o", by first | omega | walk_at "o", by first | omega | walk_at "o", by first | omega | walk_at "o"⟩, for_range (lo := 1) (n := (Int.toNat (5 - 1))) (fun i σ' H' => ∃ (F797 : Hp) (kv798 : List V) (sums799 : List Rat) (o800 : Option V), σ' = [some (V.ref a), some (V.ref a31), some (V.ref p112), some (V.bl good414), some (V.ref p172), o493, o418, o417, some (V.ref a501), o800, o492] ∧ Gr0 (fun _ => none) H F797 H' ∧ Fz S0 F797 ∧ Le F556 F797 ∧ H' p172 = some (.lst kv798) ∧ F797 p172 = none ∧ Al (rFr K) F797 kv798 sums799 ∧ m416 = sums799 ∧ (True)) ?_ ?_ ?_⟩
                  · exact ⟨F556, _, m416, _, rfl, gb562, cm566, Le.refl _, oH564, oF565, (Al.mo (((le519.trans le531).trans le551).trans le563) dk497), rfl, by trivial⟩
                  · rintro i801 σ' H802 hi803 ⟨F804, kv809, m810, o811, rfl, gb805, cm806, le807, oH812, oF813, dk814, rfl, inv808⟩
                    refine a_name ?_
                    try dsimp only
                    refine a_if ?_
                    refine a_not ?_
                    refine a_tB ?_
                    refine a_call ?_
                    refine a_cons ?_
                    refine a_call ?_
                    refine a_cons ?_
                    refine a_var rfl ?_
                    refine a_cons ?_
                    refine a_var rfl ?_
                    refine a_cons ?_
                    refine a_cb ?_
                    refine a_cons ?_
                    refine a_var rfl ?_
                    refine a_nil ?_
                    refine ⟨_, _, rfl, (Same.rd gb805.s (Le.dic (((((((((((((((((((le43.trans le108).trans le119).trans le128).trans le138).trans le148).trans le158).trans le168).trans le248).trans le262).trans le413).trans le430).trans le442).trans le453).trans le487).trans le519).trans le531).trans le551).trans le563).trans le807) rd33)), fun p815 hp816 => ?_⟩
                    obtain ⟨gb818, sm819, hb820, oF821, oH822, ne823⟩ := alo2 (o := (.dK kvs32)) gb805 hp816
                    generalize upd H802 p815 (.dK kvs32) = H817 at gb818 sm819 oH822 ⊢
                    have ne824 := ne823 _ _ oH812
                    have oH825 := sm819 _ _ oH812
                    refine a_nil ?_
                    obtain ⟨F826, gb827, cm828, le829s, e830, ne831⟩ := frz gb818 cm806 hb820 oF821 oH822 (by intro _ _ z; cases z)
                    have le829 := Le.of le829s
                    have oF832 := (ne831 _ ne824).trans oF813
                    refine ⟨F826, _, _, _, x498, (1 + (i801 : Int)), r24, rfl, gb827.s, cm828, ⟨_, _, rfl, (Le.lst (((((le519.trans le531).trans le551).trans le563).trans le807).trans le829) sq503), (Al.mo (((((le519.trans le531).trans le551).trans le563).trans le807).trans le829) al504)⟩, rfl, ⟨_, _, rfl, (Rd.of e830), (Dk.mo le829 (Dk.mo (((((((((((((((((((le43.trans le108).trans le119).trans le128).trans le138).trans le148).trans le158).trans le168).trans le248).trans le262).trans le413).trans le430).trans le442).trans le453).trans le487).trans le519).trans le531).trans le551).trans le563).trans le807) dk34)), nd35⟩, (by exact ⟨by omega, g3, hPl⟩), ?_⟩
                    rintro v833 F834 H835  g837 hr838 
                    have gb840 := gb827.tr g837
                    have le841 := g837.le
                    have oH842 := g837.h _ _ oH825
                    have oF843 := g837.own oF832 oH825
                    have cm844 := g837.fz cm828
                    obtain ⟨a845, rfl, sq846⟩ := hr838
                    refine a_cons ?_
                    refine a_op ?_
                    refine a_var rfl ?_
                    refine a_var rfl ?_
                    obtain ⟨x848, v847, h849, h850, h851⟩ := Al.ix (Al.mo (le829.trans le841) dk814) (i := (1 + (i801 : Int))) (by walk_at "o") (by walk_at "ol")
                    refine a_ixL (SqL.of oH842) h850 ?_
                    have hq9 := h849
                    obtain ⟨a852, rfl, sq853⟩ := h851
                    refine a_nil ?_
                    refine ⟨F834, _, _, (goalR r24 ((1 + (i801 : Int))) x498), x848, rfl, gb840.s, ⟨_, rfl, sq846⟩, ⟨_, rfl, sq853⟩, (by rw [g2]; rw [s1] at hq9; exact sums_get (by omega) (by omega) hq9), ?_⟩
                    rintro v854 F855 H856  g858 hr859 
                    have gb861 := gb840.tr g858
                    have le862 := g858.le
                    have oH863 := g858.h _ _ oH842
                    have oF864 := g858.own oF843 oH842
                    have cm865 := g858.fz cm844
                    obtain rfl : v854 = V.bl true := hr859
                    refine a_bl ?_
                    refine iteNT ?_
                    refine a_next ?_
                    try dsimp only
                    exact ⟨F855, _, m416, _, rfl, gb861, cm865, (((le807.trans le829).trans le841).trans le862), oH863, oF864, (Al.mo ((le829.trans le841).trans le862) dk814), rfl, by trivial⟩
                  · rintro σ' H866 ⟨F867, kv872, m873, o874, rfl, gb868, cm869, le870, oH875, oF876, dk877, rfl, inv871⟩
                    try dsimp only
                    refine a_forD ?_
                    refine a_var rfl ?_
                    have fa883 := calm_at cm869 (Le.dic (((((((((((((((((((le43.trans le108).trans le119).trans le128).trans le138).trans le148).trans le158).trans le168).trans le248).trans le262).trans le413).trans le430).trans le442).trans le453).trans le487).trans le519).trans le531).trans le551).trans le563).trans le870) rd33)
                    have ha881 : H866 a31 = some (.dK kvs32) := gb868.s _ _ fa883
                    have fa880 : F867 a31 = none ∨ F867 a31 = some (.dK kvs32) := .inr fa883
                    have dk882 := (Dk.mo (((((((((((((((((((le43.trans le108).trans le119).trans le128).trans le138).trans le148).trans le158).trans le168).trans le248).trans le262).trans le413).trans le430).trans le442).trans le453).trans le487).trans le519).trans le531).trans le551).trans le563).trans le870) dk34)
                    have hnd := nd35
                    have hdl := Dk.length dk882
                    refine ⟨_, kvs32, rfl, ha881, fun ob878 hna879 => ?_⟩
                    have gb884 := fz_gr (a := a31) (.frz ob878 (.dK kvs32)) gb868
                    have cm885 := fz_fz (a := a31) (z := (.frz ob878 (.dK kvs32))) cm869
                    have le886 := fz_le (ob := ob878) fa880
                    have ne887 : p172 ≠ a31 := fun z => by have := oF876; rw [z, fa883] at this; cases this
                    have oH888 := (upd_ne (o := (.frz ob878 (.dK kvs32))) ne887).trans oH875
                    have oF889 := (fz_ne (o := (.frz ob878 (.dK kvs32))) ne887).trans oF876
                    have hb890 := (fz_ne (o := (.frz ob878 (.dK kvs32))) ne887).trans hb177
                    refine for_items (a := a31) (ob := ob878) (kvs := kvs32) (fun i σ' H' => ∃ (F891 : Hp) (kv892 : List V) (sums893 : List Rat) (o894 : Option V) (o895 : Option V), σ' = [some (V.ref a), some (V.ref a31), some (V.ref p112), some (V.bl good414), some (V.ref p172), o895, o418, o417, some (V.ref a501), o874, o894] ∧ Gr0 (fz (fun _ => none) a31 (.frz ob878 (.dK kvs32))) (fz H a31 (.frz ob878 (.dK kvs32))) F891 H' ∧ Fz (fun b => b = a31 ∨ S0 b) F891 ∧ Le F867 F891 ∧ H' p172 = some (.lst kv892) ∧ F891 p172 = none ∧ Al (rFr K) F891 kv892 sums893 ∧ m416 = sums893 ∧ F891 a31 = fz F867 a31 (.frz ob878 (.dK kvs32)) a31 ∧ H' a31 = some (.frz ob878 (.dK kvs32)) ∧ (True)) ?_ ?_ ?_ ?_
                    · exact ⟨(fz F867 a31 (.frz ob878 (.dK kvs32))), _, m416, _, _, rfl, gb884, cm885, le886, oH888, oF889, (Al.mo le886 dk877), rfl, rfl, upd_same, by trivial⟩
                    · rintro i σ' H896 _ ⟨F897, kv902, m903, o904, o905, rfl, gb898, cm899, le900, oH906, oF907, dk908, rfl, x909, x910, inv901⟩
                      exact x910
                    · rintro i911 ky931 y914 σ' H912 p915 hi913 ⟨F917, kv922, m923, o924, o925, rfl, gb918, cm919, le920, oH926, oF927, dk928, rfl, x929, x930, inv921⟩ hp916
                      obtain ⟨name932, number933, hm934, rfl, hr935⟩ := Dk.get (Dk.mo le920 dk882) hi913
                      obtain ⟨a940, rfl, sq941⟩ := hr935
                      refine it2 (K := K) gb918.s hp916 (fun F936 H937 g938 e939 => ?_)
                      have gb942 := gb918.tr g938
                      have le943 := g938.le
                      have oH944 := g938.h _ _ oH926
                      have oF945 := g938.own oF927 oH926
                      have cm946 := g938.fz cm919
                      have za947 := g938.h _ _ x930
                      have zf948 := g938.at x930 x929
                      try dsimp only
                      have hg8 := gt_of_mem hnd (List.mem_of_getElem? hm934)
                      refine a_if ?_
                      refine a_not ?_
                      refine a_tB ?_
                      refine a_call ?_
                      refine a_cons ?_
                      refine a_call ?_
                      refine a_cons ?_
                      refine a_var rfl ?_
                      refine a_cons ?_
                      refine a_var rfl ?_
                      refine a_cons ?_
                      refine a_cb ?_
                      refine a_cons ?_
                      refine a_var rfl ?_
                      refine a_nil ?_
                      refine ⟨_, _, rfl, (Same.rd gb942.s (Le.dic (((((((((((((((((((((le43.trans le108).trans le119).trans le128).trans le138).trans le148).trans le158).trans le168).trans le248).trans le262).trans le413).trans le430).trans le442).trans le453).trans le487).trans le519).trans le531).trans le551).trans le563).trans le870).trans le920).trans le943) rd33)), fun p949 hp950 => ?_⟩
                      obtain ⟨gb952, sm953, hb954, oF955, oH956, ne957⟩ := alo2 (o := (.dK kvs32)) gb942 hp950
                      generalize upd H937 p949 (.dK kvs32) = H951 at gb952 sm953 oH956 ⊢
                      have ne958 := ne957 _ _ oH944
                      have oH959 := sm953 _ _ oH944
                      have za960 := sm953 _ _ za947
                      refine a_nil ?_
                      obtain ⟨F961, gb962, cm963, le964s, e965, ne966⟩ := frz gb952 cm946 hb954 oF955 oH956 (by intro _ _ z; cases z)
                      have le964 := Le.of le964s
                      have zf967 := (ne966 _ (ne_of za960 oH956 (by intro z; cases z))).trans zf948
                      have oF968 := (ne966 _ ne958).trans oF945
                      refine ⟨F961, _, _, _, x498, name932, r24, rfl, gb962.s, ⟨_, _, rfl, (Le.lst (((((((le519.trans le531).trans le551).trans le563).trans le870).trans le920).trans le943).trans le964) sq503), (Al.mo (((((((le519.trans le531).trans le551).trans le563).trans le870).trans le920).trans le943).trans le964) al504)⟩, rfl, ⟨_, _, rfl, (Rd.of e965), (Dk.mo le964 (Dk.mo (((((((((((((((((((((le43.trans le108).trans le119).trans le128).trans le138).trans le148).trans le158).trans le168).trans le248).trans le262).trans le413).trans le430).trans le442).trans le453).trans le487).trans le519).trans le531).trans le551).trans le563).trans le870).trans le920).trans le943) dk34)), nd35⟩, (by exact ⟨_, hg8⟩), ?_⟩
                      rintro v969 F970 H971 r972 g973 hr974 hp975
                      have gb976 := gb962.tr g973
                      have le977 := g973.le
                      have oH978 := g973.h _ _ oH959
                      have oF979 := g973.own oF968 oH959
                      have cm980 := g973.fz cm963
                      have za981 := g973.h _ _ za960
                      have zf982 := g973.at za960 zf967
                      obtain ⟨a983, rfl, sq984⟩ := hr974
                      have hg9 := hp975
                      refine a_cons ?_
                      refine a_var rfl ?_
                      refine a_nil ?_
                      refine ⟨F970, _, _, r972, number933, rfl, gb976.s, ⟨_, rfl, sq984⟩, ⟨_, rfl, (Le.tup ((le943.trans le964).trans le977) sq941)⟩, (by exact Option.some.inj (hg9.symm.trans hg8)), ?_⟩
                      rintro v985 F986 H987  g989 hr990 
                      have gb992 := gb976.tr g989
                      have le993 := g989.le
                      have oH994 := g989.h _ _ oH978
                      have oF995 := g989.own oF979 oH978
                      have cm996 := g989.fz cm980
                      have za997 := g989.h _ _ za981
                      have zf998 := g989.at za981 zf982
                      obtain rfl : v985 = V.bl true := hr990
                      refine a_bl ?_
                      refine iteNT ?_
                      refine a_next ?_
                      try dsimp only
                      exact ⟨F986, _, m416, _, _, rfl, gb992, cm996, ((((le920.trans le943).trans le964).trans le977).trans le993), oH994, oF995, (Al.mo (((le943.trans le964).trans le977).trans le993) dk928), rfl, zf998, za997, by trivial⟩
                    · rintro σ' H999 ⟨F1000, kv1005, m1006, o1007, o1008, rfl, gb1001, cm1002, le1003, oH1009, oF1010, dk1011, rfl, x1012, x1013, inv1004⟩
                      refine ⟨a31, ob878, kvs32, x1013, hna879, ?_⟩
                      refine thw gb868 ha881 fa880 gb1001 x1012 cm1002 (fun F1014 H1015 gb1016 cm1017 le1018 ea1019 eb1020 nF1021 nH1022 => ?_)
                      have oH1023 := (nH1022 _ (ne887)).trans oH1009
                      have oF1024 := (nF1021 _ (ne887)).trans oF1010
                      try dsimp only
                      exact ⟨F1014, _, m416, _, _, _, _, rfl, gb1016, cm1017, (((((((le487.trans le519).trans le531).trans le551).trans le563).trans le870).trans le1003).trans le1018), oH1023, oF1024, (Al.mo le1018 dk1011), rfl, by trivial⟩
            · refine iteF ?_
              refine a_and ?_
              refine a_test ?_
              refine a_op ?_
              refine a_call ?_
              refine a_cons ?_
              refine a_var rfl ?_
              refine a_cons ?_
              refine a_cb ?_
              refine a_cons ?_
              refine a_var rfl ?_
              refine a_nil ?_
              refine ⟨_, _, rfl, (Same.rd gb530.s (Le.dic ((((((((((((((((le43.trans le108).trans le119).trans le128).trans le138).trans le148).trans le158).trans le168).trans le248).trans le262).trans le413).trans le430).trans le442).trans le453).trans le487).trans le519).trans le531) rd33)), fun p1025 hp1026 => ?_⟩
              obtain ⟨gb1028, sm1029, hb1030, oF1031, oH1032, ne1033⟩ := alo2 (o := (.dK kvs32)) gb530 hp1026
              generalize upd H525 p1025 (.dK kvs32) = H1027 at gb1028 sm1029 oH1032 ⊢
              have ne1034 := ne1033 _ _ oH532
              have oH1035 := sm1029 _ _ oH532
              refine a_nil ?_
              obtain ⟨F1036, gb1037, cm1038, le1039s, e1040, ne1041⟩ := frz gb1028 cm534 hb1030 oF1031 oH1032 (by intro _ _ z; cases z)
              have le1039 := Le.of le1039s
              have oF1042 := (ne1041 _ ne1034).trans oF533
              refine ⟨F1036, _, _, x498, r24, rfl, gb1037.s, cm1038, ⟨_, _, rfl, (Le.lst ((le519.trans le531).trans le1039) sq503), (Al.mo ((le519.trans le531).trans le1039) al504)⟩, ⟨_, _, rfl, (Rd.of e1040), (Dk.mo le1039 (Dk.mo ((((((((((((((((le43.trans le108).trans le119).trans le128).trans le138).trans le148).trans le158).trans le168).trans le248).trans le262).trans le413).trans le430).trans le442).trans le453).trans le487).trans le519).trans le531) dk34)), nd35⟩, (by exact ⟨by omega, g3, hPl⟩), ?_⟩
              rintro v1043 F1044 H1045  g1047 hr1048 
              have gb1050 := gb1037.tr g1047
              have le1051 := g1047.le
              have oH1052 := g1047.h _ _ oH1035
              have oF1053 := g1047.own oF1042 oH1035
              have cm1054 := g1047.fz cm1038
              obtain rfl : v1043 = V.bl (fitsB x498 r24) := hr1048
              refine a_c ?_
              refine ⟨_, _, rfl, rfl, ?_⟩
              refine a_bl ?_
              refine iteNB (fun c1055 => ?_) (fun c1055 => ?_)
              · refine a_not ?_
                refine a_tB ?_
                refine a_var rfl ?_
                refine a_bl ?_
                refine iteNB (fun c1056 => ?_) (fun c1056 => ?_)
                · refine a_ret ?_
                  refine a_c ?_
                  exfalso
                  simp_all
                · refine a_next ?_
                  try dsimp only
                  refine a_seq ?_
                  refine a_for ?_
                  refine a_rng2 ?_
                  refine a_cons ?_
                  refine a_c ?_
                  refine a_cons ?_
                  refine a_c ?_
                  refine a_nil ?_
                  refine ⟨_, _, rfl, ⟨by first | omega | walk_at "o", by first | omega | walk_at "o", by first | omega | walk_at "o", by first | omega | walk_at "o"⟩, for_range (lo := 1) (n := (Int.toNat (5 - 1))) (fun i σ' H' => ∃ (F1057 : Hp) (kv1058 : List V) (sums1059 : List Rat) (o1060 : Option V), σ' = [some (V.ref a), some (V.ref a31), some (V.ref p112), some (V.bl good414), some (V.ref p172), o493, o418, o417, some (V.ref a501), o1060, o492] ∧ Gr0 (fun _ => none) H F1057 H' ∧ Fz S0 F1057 ∧ Le F1044 F1057 ∧ H' p172 = some (.lst kv1058) ∧ F1057 p172 = none ∧ Al (rFr K) F1057 kv1058 sums1059 ∧ m416 = sums1059 ∧ (True)) ?_ ?_ ?_⟩
                  · exact ⟨F1044, _, m416, _, rfl, gb1050, cm1054, Le.refl _, oH1052, oF1053, (Al.mo (((le519.trans le531).trans le1039).trans le1051) dk497), rfl, by trivial⟩
                  · rintro i1061 σ' H1062 hi1063 ⟨F1064, kv1069, m1070, o1071, rfl, gb1065, cm1066, le1067, oH1072, oF1073, dk1074, rfl, inv1068⟩
                    refine a_name ?_
                    try dsimp only
                    refine a_if ?_
                    refine a_not ?_
                    refine a_tB ?_
                    refine a_call ?_
                    refine a_cons ?_
                    refine a_call ?_
                    refine a_cons ?_
                    refine a_var rfl ?_
                    refine a_cons ?_
                    refine a_var rfl ?_
                    refine a_cons ?_
                    refine a_cb ?_
                    refine a_cons ?_
                    refine a_var rfl ?_
                    refine a_nil ?_
                    refine ⟨_, _, rfl, (Same.rd gb1065.s (Le.dic (((((((((((((((((((le43.trans le108).trans le119).trans le128).trans le138).trans le148).trans le158).trans le168).trans le248).trans le262).trans le413).trans le430).trans le442).trans le453).trans le487).trans le519).trans le531).trans le1039).trans le1051).trans le1067) rd33)), fun p1075 hp1076 => ?_⟩
                    obtain ⟨gb1078, sm1079, hb1080, oF1081, oH1082, ne1083⟩ := alo2 (o := (.dK kvs32)) gb1065 hp1076
                    generalize upd H1062 p1075 (.dK kvs32) = H1077 at gb1078 sm1079 oH1082 ⊢
                    have ne1084 := ne1083 _ _ oH1072
                    have oH1085 := sm1079 _ _ oH1072
                    refine a_nil ?_
                    obtain ⟨F1086, gb1087, cm1088, le1089s, e1090, ne1091⟩ := frz gb1078 cm1066 hb1080 oF1081 oH1082 (by intro _ _ z; cases z)
                    have le1089 := Le.of le1089s
                    have oF1092 := (ne1091 _ ne1084).trans oF1073
                    refine ⟨F1086, _, _, _, x498, (1 + (i1061 : Int)), r24, rfl, gb1087.s, cm1088, ⟨_, _, rfl, (Le.lst (((((le519.trans le531).trans le1039).trans le1051).trans le1067).trans le1089) sq503), (Al.mo (((((le519.trans le531).trans le1039).trans le1051).trans le1067).trans le1089) al504)⟩, rfl, ⟨_, _, rfl, (Rd.of e1090), (Dk.mo le1089 (Dk.mo (((((((((((((((((((le43.trans le108).trans le119).trans le128).trans le138).trans le148).trans le158).trans le168).trans le248).trans le262).trans le413).trans le430).trans le442).trans le453).trans le487).trans le519).trans le531).trans le1039).trans le1051).trans le1067) dk34)), nd35⟩, (by exact ⟨by omega, g3, hPl⟩), ?_⟩
                    rintro v1093 F1094 H1095  g1097 hr1098 
                    have gb1100 := gb1087.tr g1097
                    have le1101 := g1097.le
                    have oH1102 := g1097.h _ _ oH1085
                    have oF1103 := g1097.own oF1092 oH1085
                    have cm1104 := g1097.fz cm1088
                    obtain ⟨a1105, rfl, sq1106⟩ := hr1098
                    refine a_cons ?_
                    refine a_op ?_
                    refine a_var rfl ?_
                    refine a_var rfl ?_
                    obtain ⟨x1108, v1107, h1109, h1110, h1111⟩ := Al.ix (Al.mo (le1089.trans le1101) dk1074) (i := (1 + (i1061 : Int))) (by walk_at "o") (by walk_at "ol")
                    refine a_ixL (SqL.of oH1102) h1110 ?_
                    have hq9 := h1109
                    obtain ⟨a1112, rfl, sq1113⟩ := h1111
                    refine a_nil ?_
                    refine ⟨F1094, _, _, (goalR r24 ((1 + (i1061 : Int))) x498), x1108, rfl, gb1100.s, ⟨_, rfl, sq1106⟩, ⟨_, rfl, sq1113⟩, (by rw [g2]; rw [s1] at hq9; exact sums_get (by omega) (by omega) hq9), ?_⟩
                    rintro v1114 F1115 H1116  g1118 hr1119 
                    have gb1121 := gb1100.tr g1118
                    have le1122 := g1118.le
                    have oH1123 := g1118.h _ _ oH1102
                    have oF1124 := g1118.own oF1103 oH1102
                    have cm1125 := g1118.fz cm1104
                    obtain rfl : v1114 = V.bl true := hr1119
                    refine a_bl ?_
                    refine iteNT ?_
                    refine a_next ?_
                    try dsimp only
                    exact ⟨F1115, _, m416, _, rfl, gb1121, cm1125, (((le1067.trans le1089).trans le1101).trans le1122), oH1123, oF1124, (Al.mo ((le1089.trans le1101).trans le1122) dk1074), rfl, by trivial⟩
                  · rintro σ' H1126 ⟨F1127, kv1132, m1133, o1134, rfl, gb1128, cm1129, le1130, oH1135, oF1136, dk1137, rfl, inv1131⟩
                    try dsimp only
                    refine a_forD ?_
                    refine a_var rfl ?_
                    have fa1143 := calm_at cm1129 (Le.dic (((((((((((((((((((le43.trans le108).trans le119).trans le128).trans le138).trans le148).trans le158).trans le168).trans le248).trans le262).trans le413).trans le430).trans le442).trans le453).trans le487).trans le519).trans le531).trans le1039).trans le1051).trans le1130) rd33)
                    have ha1141 : H1126 a31 = some (.dK kvs32) := gb1128.s _ _ fa1143
                    have fa1140 : F1127 a31 = none ∨ F1127 a31 = some (.dK kvs32) := .inr fa1143
                    have dk1142 := (Dk.mo (((((((((((((((((((le43.trans le108).trans le119).trans le128).trans le138).trans le148).trans le158).trans le168).trans le248).trans le262).trans le413).trans le430).trans le442).trans le453).trans le487).trans le519).trans le531).trans le1039).trans le1051).trans le1130) dk34)
                    have hnd := nd35
                    have hdl := Dk.length dk1142
                    refine ⟨_, kvs32, rfl, ha1141, fun ob1138 hna1139 => ?_⟩
                    have gb1144 := fz_gr (a := a31) (.frz ob1138 (.dK kvs32)) gb1128
                    have cm1145 := fz_fz (a := a31) (z := (.frz ob1138 (.dK kvs32))) cm1129
                    have le1146 := fz_le (ob := ob1138) fa1140
                    have ne1147 : p172 ≠ a31 := fun z => by have := oF1136; rw [z, fa1143] at this; cases this
                    have oH1148 := (upd_ne (o := (.frz ob1138 (.dK kvs32))) ne1147).trans oH1135
                    have oF1149 := (fz_ne (o := (.frz ob1138 (.dK kvs32))) ne1147).trans oF1136
                    have hb1150 := (fz_ne (o := (.frz ob1138 (.dK kvs32))) ne1147).trans hb177
                    refine for_items (a := a31) (ob := ob1138) (kvs := kvs32) (fun i σ' H' => ∃ (F1151 : Hp) (kv1152 : List V) (sums1153 : List Rat) (o1154 : Option V) (o1155 : Option V), σ' = [some (V.ref a), some (V.ref a31), some (V.ref p112), some (V.bl good414), some (V.ref p172), o1155, o418, o417, some (V.ref a501), o1134, o1154] ∧ Gr0 (fz (fun _ => none) a31 (.frz ob1138 (.dK kvs32))) (fz H a31 (.frz ob1138 (.dK kvs32))) F1151 H' ∧ Fz (fun b => b = a31 ∨ S0 b) F1151 ∧ Le F1127 F1151 ∧ H' p172 = some (.lst kv1152) ∧ F1151 p172 = none ∧ Al (rFr K) F1151 kv1152 sums1153 ∧ m416 = sums1153 ∧ F1151 a31 = fz F1127 a31 (.frz ob1138 (.dK kvs32)) a31 ∧ H' a31 = some (.frz ob1138 (.dK kvs32)) ∧ (True)) ?_ ?_ ?_ ?_
                    · exact ⟨(fz F1127 a31 (.frz ob1138 (.dK kvs32))), _, m416, _, _, rfl, gb1144, cm1145, le1146, oH1148, oF1149, (Al.mo le1146 dk1137), rfl, rfl, upd_same, by trivial⟩
                    · rintro i σ' H1156 _ ⟨F1157, kv1162, m1163, o1164, o1165, rfl, gb1158, cm1159, le1160, oH1166, oF1167, dk1168, rfl, x1169, x1170, inv1161⟩
                      exact x1170
                    · rintro i1171 ky1191 y1174 σ' H1172 p1175 hi1173 ⟨F1177, kv1182, m1183, o1184, o1185, rfl, gb1178, cm1179, le1180, oH1186, oF1187, dk1188, rfl, x1189, x1190, inv1181⟩ hp1176
                      obtain ⟨name1192, number1193, hm1194, rfl, hr1195⟩ := Dk.get (Dk.mo le1180 dk1142) hi1173
                      obtain ⟨a1200, rfl, sq1201⟩ := hr1195
                      refine it2 (K := K) gb1178.s hp1176 (fun F1196 H1197 g1198 e1199 => ?_)
                      have gb1202 := gb1178.tr g1198
                      have le1203 := g1198.le
                      have oH1204 := g1198.h _ _ oH1186
                      have oF1205 := g1198.own oF1187 oH1186
                      have cm1206 := g1198.fz cm1179
                      have za1207 := g1198.h _ _ x1190
                      have zf1208 := g1198.at x1190 x1189
                      try dsimp only
                      have hg8 := gt_of_mem hnd (List.mem_of_getElem? hm1194)
                      refine a_if ?_
                      refine a_not ?_
                      refine a_tB ?_
                      refine a_call ?_
                      refine a_cons ?_
                      refine a_call ?_
                      refine a_cons ?_
                      refine a_var rfl ?_
                      refine a_cons ?_
                      refine a_var rfl ?_
                      refine a_cons ?_
                      refine a_cb ?_
                      refine a_cons ?_
                      refine a_var rfl ?_
                      refine a_nil ?_
                      refine ⟨_, _, rfl, (Same.rd gb1202.s (Le.dic (((((((((((((((((((((le43.trans le108).trans le119).trans le128).trans le138).trans le148).trans le158).trans le168).trans le248).trans le262).trans le413).trans le430).trans le442).trans le453).trans le487).trans le519).trans le531).trans le1039).trans le1051).trans le1130).trans le1180).trans le1203) rd33)), fun p1209 hp1210 => ?_⟩
                      obtain ⟨gb1212, sm1213, hb1214, oF1215, oH1216, ne1217⟩ := alo2 (o := (.dK kvs32)) gb1202 hp1210
                      generalize upd H1197 p1209 (.dK kvs32) = H1211 at gb1212 sm1213 oH1216 ⊢
                      have ne1218 := ne1217 _ _ oH1204
                      have oH1219 := sm1213 _ _ oH1204
                      have za1220 := sm1213 _ _ za1207
                      refine a_nil ?_
                      obtain ⟨F1221, gb1222, cm1223, le1224s, e1225, ne1226⟩ := frz gb1212 cm1206 hb1214 oF1215 oH1216 (by intro _ _ z; cases z)
                      have le1224 := Le.of le1224s
                      have zf1227 := (ne1226 _ (ne_of za1220 oH1216 (by intro z; cases z))).trans zf1208
                      have oF1228 := (ne1226 _ ne1218).trans oF1205
                      refine ⟨F1221, _, _, _, x498, name1192, r24, rfl, gb1222.s, ⟨_, _, rfl, (Le.lst (((((((le519.trans le531).trans le1039).trans le1051).trans le1130).trans le1180).trans le1203).trans le1224) sq503), (Al.mo (((((((le519.trans le531).trans le1039).trans le1051).trans le1130).trans le1180).trans le1203).trans le1224) al504)⟩, rfl, ⟨_, _, rfl, (Rd.of e1225), (Dk.mo le1224 (Dk.mo (((((((((((((((((((((le43.trans le108).trans le119).trans le128).trans le138).trans le148).trans le158).trans le168).trans le248).trans le262).trans le413).trans le430).trans le442).trans le453).trans le487).trans le519).trans le531).trans le1039).trans le1051).trans le1130).trans le1180).trans le1203) dk34)), nd35⟩, (by exact ⟨_, hg8⟩), ?_⟩
                      rintro v1229 F1230 H1231 r1232 g1233 hr1234 hp1235
                      have gb1236 := gb1222.tr g1233
                      have le1237 := g1233.le
                      have oH1238 := g1233.h _ _ oH1219
                      have oF1239 := g1233.own oF1228 oH1219
                      have cm1240 := g1233.fz cm1223
                      have za1241 := g1233.h _ _ za1220
                      have zf1242 := g1233.at za1220 zf1227
                      obtain ⟨a1243, rfl, sq1244⟩ := hr1234
                      have hg9 := hp1235
                      refine a_cons ?_
                      refine a_var rfl ?_
                      refine a_nil ?_
                      refine ⟨F1230, _, _, r1232, number1193, rfl, gb1236.s, ⟨_, rfl, sq1244⟩, ⟨_, rfl, (Le.tup ((le1203.trans le1224).trans le1237) sq1201)⟩, (by exact Option.some.inj (hg9.symm.trans hg8)), ?_⟩
                      rintro v1245 F1246 H1247  g1249 hr1250 
                      have gb1252 := gb1236.tr g1249
                      have le1253 := g1249.le
                      have oH1254 := g1249.h _ _ oH1238
                      have oF1255 := g1249.own oF1239 oH1238
                      have cm1256 := g1249.fz cm1240
                      have za1257 := g1249.h _ _ za1241
                      have zf1258 := g1249.at za1241 zf1242
                      obtain rfl : v1245 = V.bl true := hr1250
                      refine a_bl ?_
                      refine iteNT ?_
                      refine a_next ?_
                      try dsimp only
                      exact ⟨F1246, _, m416, _, _, rfl, gb1252, cm1256, ((((le1180.trans le1203).trans le1224).trans le1237).trans le1253), oH1254, oF1255, (Al.mo (((le1203.trans le1224).trans le1237).trans le1253) dk1188), rfl, zf1258, za1257, by trivial⟩
                    · rintro σ' H1259 ⟨F1260, kv1265, m1266, o1267, o1268, rfl, gb1261, cm1262, le1263, oH1269, oF1270, dk1271, rfl, x1272, x1273, inv1264⟩
                      refine ⟨a31, ob1138, kvs32, x1273, hna1139, ?_⟩
                      refine thw gb1128 ha1141 fa1140 gb1261 x1272 cm1262 (fun F1274 H1275 gb1276 cm1277 le1278 ea1279 eb1280 nF1281 nH1282 => ?_)
                      have oH1283 := (nH1282 _ (ne1147)).trans oH1269
                      have oF1284 := (nF1281 _ (ne1147)).trans oF1270
                      try dsimp only
                      exact ⟨F1274, _, m416, _, _, _, _, rfl, gb1276, cm1277, (((((((le487.trans le519).trans le531).trans le1039).trans le1051).trans le1130).trans le1263).trans le1278), oH1283, oF1284, (Al.mo le1278 dk1271), rfl, by trivial⟩
              · refine iteF ?_
                refine a_next ?_
                try dsimp only
                refine a_seq ?_
                refine a_for ?_
                refine a_rng2 ?_
                refine a_cons ?_
                refine a_c ?_
                refine a_cons ?_
                refine a_c ?_
                refine a_nil ?_
                refine ⟨_, _, rfl, ⟨by first | omega | walk_at "o", by first | omega | walk_at "o", by first | omega | walk_at "o", by first | omega | walk_at "o"⟩, for_range (lo := 1) (n := (Int.toNat (5 - 1))) (fun i σ' H' => ∃ (F1285 : Hp) (kv1286 : List V) (sums1287 : List Rat) (o1288 : Option V), σ' = [some (V.ref a), some (V.ref a31), some (V.ref p112), some (V.bl good414), some (V.ref p172), o493, o418, o417, some (V.ref a501), o1288, o492] ∧ Gr0 (fun _ => none) H F1285 H' ∧ Fz S0 F1285 ∧ Le F1044 F1285 ∧ H' p172 = some (.lst kv1286) ∧ F1285 p172 = none ∧ Al (rFr K) F1285 kv1286 sums1287 ∧ m416 = sums1287 ∧ (True)) ?_ ?_ ?_⟩
                · exact ⟨F1044, _, m416, _, rfl, gb1050, cm1054, Le.refl _, oH1052, oF1053, (Al.mo (((le519.trans le531).trans le1039).trans le1051) dk497), rfl, by trivial⟩
                · rintro i1289 σ' H1290 hi1291 ⟨F1292, kv1297, m1298, o1299, rfl, gb1293, cm1294, le1295, oH1300, oF1301, dk1302, rfl, inv1296⟩
                  refine a_name ?_
                  try dsimp only
                  refine a_if ?_
                  refine a_not ?_
                  refine a_tB ?_
                  refine a_call ?_
                  refine a_cons ?_
                  refine a_call ?_
                  refine a_cons ?_
                  refine a_var rfl ?_
                  refine a_cons ?_
                  refine a_var rfl ?_
                  refine a_cons ?_
                  refine a_cb ?_
                  refine a_cons ?_
                  refine a_var rfl ?_
                  refine a_nil ?_
                  refine ⟨_, _, rfl, (Same.rd gb1293.s (Le.dic (((((((((((((((((((le43.trans le108).trans le119).trans le128).trans le138).trans le148).trans le158).trans le168).trans le248).trans le262).trans le413).trans le430).trans le442).trans le453).trans le487).trans le519).trans le531).trans le1039).trans le1051).trans le1295) rd33)), fun p1303 hp1304 => ?_⟩
                  obtain ⟨gb1306, sm1307, hb1308, oF1309, oH1310, ne1311⟩ := alo2 (o := (.dK kvs32)) gb1293 hp1304
                  generalize upd H1290 p1303 (.dK kvs32) = H1305 at gb1306 sm1307 oH1310 ⊢
                  have ne1312 := ne1311 _ _ oH1300
                  have oH1313 := sm1307 _ _ oH1300
                  refine a_nil ?_
                  obtain ⟨F1314, gb1315, cm1316, le1317s, e1318, ne1319⟩ := frz gb1306 cm1294 hb1308 oF1309 oH1310 (by intro _ _ z; cases z)
                  have le1317 := Le.of le1317s
                  have oF1320 := (ne1319 _ ne1312).trans oF1301
                  refine ⟨F1314, _, _, _, x498, (1 + (i1289 : Int)), r24, rfl, gb1315.s, cm1316, ⟨_, _, rfl, (Le.lst (((((le519.trans le531).trans le1039).trans le1051).trans le1295).trans le1317) sq503), (Al.mo (((((le519.trans le531).trans le1039).trans le1051).trans le1295).trans le1317) al504)⟩, rfl, ⟨_, _, rfl, (Rd.of e1318), (Dk.mo le1317 (Dk.mo (((((((((((((((((((le43.trans le108).trans le119).trans le128).trans le138).trans le148).trans le158).trans le168).trans le248).trans le262).trans le413).trans le430).trans le442).trans le453).trans le487).trans le519).trans le531).trans le1039).trans le1051).trans le1295) dk34)), nd35⟩, (by exact ⟨by omega, g3, hPl⟩), ?_⟩
                  rintro v1321 F1322 H1323  g1325 hr1326 
                  have gb1328 := gb1315.tr g1325
                  have le1329 := g1325.le
                  have oH1330 := g1325.h _ _ oH1313
                  have oF1331 := g1325.own oF1320 oH1313
                  have cm1332 := g1325.fz cm1316
                  obtain ⟨a1333, rfl, sq1334⟩ := hr1326
                  refine a_cons ?_
                  refine a_op ?_
                  refine a_var rfl ?_
                  refine a_var rfl ?_
                  obtain ⟨x1336, v1335, h1337, h1338, h1339⟩ := Al.ix (Al.mo (le1317.trans le1329) dk1302) (i := (1 + (i1289 : Int))) (by walk_at "o") (by walk_at "ol")
                  refine a_ixL (SqL.of oH1330) h1338 ?_
                  have hq9 := h1337
                  obtain ⟨a1340, rfl, sq1341⟩ := h1339
                  refine a_nil ?_
                  refine ⟨F1322, _, _, (goalR r24 ((1 + (i1289 : Int))) x498), x1336, rfl, gb1328.s, ⟨_, rfl, sq1334⟩, ⟨_, rfl, sq1341⟩, (by rw [g2]; rw [s1] at hq9; exact sums_get (by omega) (by omega) hq9), ?_⟩
                  rintro v1342 F1343 H1344  g1346 hr1347 
                  have gb1349 := gb1328.tr g1346
                  have le1350 := g1346.le
                  have oH1351 := g1346.h _ _ oH1330
                  have oF1352 := g1346.own oF1331 oH1330
                  have cm1353 := g1346.fz cm1332
                  obtain rfl : v1342 = V.bl true := hr1347
                  refine a_bl ?_
                  refine iteNT ?_
                  refine a_next ?_
                  try dsimp only
                  exact ⟨F1343, _, m416, _, rfl, gb1349, cm1353, (((le1295.trans le1317).trans le1329).trans le1350), oH1351, oF1352, (Al.mo ((le1317.trans le1329).trans le1350) dk1302), rfl, by trivial⟩
                · rintro σ' H1354 ⟨F1355, kv1360, m1361, o1362, rfl, gb1356, cm1357, le1358, oH1363, oF1364, dk1365, rfl, inv1359⟩
                  try dsimp only
                  refine a_forD ?_
                  refine a_var rfl ?_
                  have fa1371 := calm_at cm1357 (Le.dic (((((((((((((((((((le43.trans le108).trans le119).trans le128).trans le138).trans le148).trans le158).trans le168).trans le248).trans le262).trans le413).trans le430).trans le442).trans le453).trans le487).trans le519).trans le531).trans le1039).trans le1051).trans le1358) rd33)
                  have ha1369 : H1354 a31 = some (.dK kvs32) := gb1356.s _ _ fa1371
                  have fa1368 : F1355 a31 = none ∨ F1355 a31 = some (.dK kvs32) := .inr fa1371
                  have dk1370 := (Dk.mo (((((((((((((((((((le43.trans le108).trans le119).trans le128).trans le138).trans le148).trans le158).trans le168).trans le248).trans le262).trans le413).trans le430).trans le442).trans le453).trans le487).trans le519).trans le531).trans le1039).trans le1051).trans le1358) dk34)
                  have hnd := nd35
                  have hdl := Dk.length dk1370
                  refine ⟨_, kvs32, rfl, ha1369, fun ob1366 hna1367 => ?_⟩
                  have gb1372 := fz_gr (a := a31) (.frz ob1366 (.dK kvs32)) gb1356
                  have cm1373 := fz_fz (a := a31) (z := (.frz ob1366 (.dK kvs32))) cm1357
                  have le1374 := fz_le (ob := ob1366) fa1368
                  have ne1375 : p172 ≠ a31 := fun z => by have := oF1364; rw [z, fa1371] at this; cases this
                  have oH1376 := (upd_ne (o := (.frz ob1366 (.dK kvs32))) ne1375).trans oH1363
                  have oF1377 := (fz_ne (o := (.frz ob1366 (.dK kvs32))) ne1375).trans oF1364
                  have hb1378 := (fz_ne (o := (.frz ob1366 (.dK kvs32))) ne1375).trans hb177
                  refine for_items (a := a31) (ob := ob1366) (kvs := kvs32) (fun i σ' H' => ∃ (F1379 : Hp) (kv1380 : List V) (sums1381 : List Rat) (o1382 : Option V) (o1383 : Option V), σ' = [some (V.ref a), some (V.ref a31), some (V.ref p112), some (V.bl good414), some (V.ref p172), o1383, o418, o417, some (V.ref a501), o1362, o1382] ∧ Gr0 (fz (fun _ => none) a31 (.frz ob1366 (.dK kvs32))) (fz H a31 (.frz ob1366 (.dK kvs32))) F1379 H' ∧ Fz (fun b => b = a31 ∨ S0 b) F1379 ∧ Le F1355 F1379 ∧ H' p172 = some (.lst kv1380) ∧ F1379 p172 = none ∧ Al (rFr K) F1379 kv1380 sums1381 ∧ m416 = sums1381 ∧ F1379 a31 = fz F1355 a31 (.frz ob1366 (.dK kvs32)) a31 ∧ H' a31 = some (.frz ob1366 (.dK kvs32)) ∧ (True)) ?_ ?_ ?_ ?_
                  · exact ⟨(fz F1355 a31 (.frz ob1366 (.dK kvs32))), _, m416, _, _, rfl, gb1372, cm1373, le1374, oH1376, oF1377, (Al.mo le1374 dk1365), rfl, rfl, upd_same, by trivial⟩
                  · rintro i σ' H1384 _ ⟨F1385, kv1390, m1391, o1392, o1393, rfl, gb1386, cm1387, le1388, oH1394, oF1395, dk1396, rfl, x1397, x1398, inv1389⟩
                    exact x1398
                  · rintro i1399 ky1419 y1402 σ' H1400 p1403 hi1401 ⟨F1405, kv1410, m1411, o1412, o1413, rfl, gb1406, cm1407, le1408, oH1414, oF1415, dk1416, rfl, x1417, x1418, inv1409⟩ hp1404
                    obtain ⟨name1420, number1421, hm1422, rfl, hr1423⟩ := Dk.get (Dk.mo le1408 dk1370) hi1401
                    obtain ⟨a1428, rfl, sq1429⟩ := hr1423
                    refine it2 (K := K) gb1406.s hp1404 (fun F1424 H1425 g1426 e1427 => ?_)
                    have gb1430 := gb1406.tr g1426
                    have le1431 := g1426.le
                    have oH1432 := g1426.h _ _ oH1414
                    have oF1433 := g1426.own oF1415 oH1414
                    have cm1434 := g1426.fz cm1407
                    have za1435 := g1426.h _ _ x1418
                    have zf1436 := g1426.at x1418 x1417
                    try dsimp only
                    have hg8 := gt_of_mem hnd (List.mem_of_getElem? hm1422)
                    refine a_if ?_
                    refine a_not ?_
                    refine a_tB ?_
                    refine a_call ?_
                    refine a_cons ?_
                    refine a_call ?_
                    refine a_cons ?_
                    refine a_var rfl ?_
                    refine a_cons ?_
                    refine a_var rfl ?_
                    refine a_cons ?_
                    refine a_cb ?_
                    refine a_cons ?_
                    refine a_var rfl ?_
                    refine a_nil ?_
                    refine ⟨_, _, rfl, (Same.rd gb1430.s (Le.dic (((((((((((((((((((((le43.trans le108).trans le119).trans le128).trans le138).trans le148).trans le158).trans le168).trans le248).trans le262).trans le413).trans le430).trans le442).trans le453).trans le487).trans le519).trans le531).trans le1039).trans le1051).trans le1358).trans le1408).trans le1431) rd33)), fun p1437 hp1438 => ?_⟩
                    obtain ⟨gb1440, sm1441, hb1442, oF1443, oH1444, ne1445⟩ := alo2 (o := (.dK kvs32)) gb1430 hp1438
                    generalize upd H1425 p1437 (.dK kvs32) = H1439 at gb1440 sm1441 oH1444 ⊢
                    have ne1446 := ne1445 _ _ oH1432
                    have oH1447 := sm1441 _ _ oH1432
                    have za1448 := sm1441 _ _ za1435
                    refine a_nil ?_
                    obtain ⟨F1449, gb1450, cm1451, le1452s, e1453, ne1454⟩ := frz gb1440 cm1434 hb1442 oF1443 oH1444 (by intro _ _ z; cases z)
                    have le1452 := Le.of le1452s
                    have zf1455 := (ne1454 _ (ne_of za1448 oH1444 (by intro z; cases z))).trans zf1436
                    have oF1456 := (ne1454 _ ne1446).trans oF1433
                    refine ⟨F1449, _, _, _, x498, name1420, r24, rfl, gb1450.s, ⟨_, _, rfl, (Le.lst (((((((le519.trans le531).trans le1039).trans le1051).trans le1358).trans le1408).trans le1431).trans le1452) sq503), (Al.mo (((((((le519.trans le531).trans le1039).trans le1051).trans le1358).trans le1408).trans le1431).trans le1452) al504)⟩, rfl, ⟨_, _, rfl, (Rd.of e1453), (Dk.mo le1452 (Dk.mo (((((((((((((((((((((le43.trans le108).trans le119).trans le128).trans le138).trans le148).trans le158).trans le168).trans le248).trans le262).trans le413).trans le430).trans le442).trans le453).trans le487).trans le519).trans le531).trans le1039).trans le1051).trans le1358).trans le1408).trans le1431) dk34)), nd35⟩, (by exact ⟨_, hg8⟩), ?_⟩
                    rintro v1457 F1458 H1459 r1460 g1461 hr1462 hp1463
                    have gb1464 := gb1450.tr g1461
                    have le1465 := g1461.le
                    have oH1466 := g1461.h _ _ oH1447
                    have oF1467 := g1461.own oF1456 oH1447
                    have cm1468 := g1461.fz cm1451
                    have za1469 := g1461.h _ _ za1448
                    have zf1470 := g1461.at za1448 zf1455
                    obtain ⟨a1471, rfl, sq1472⟩ := hr1462
                    have hg9 := hp1463
                    refine a_cons ?_
                    refine a_var rfl ?_
                    refine a_nil ?_
                    refine ⟨F1458, _, _, r1460, number1421, rfl, gb1464.s, ⟨_, rfl, sq1472⟩, ⟨_, rfl, (Le.tup ((le1431.trans le1452).trans le1465) sq1429)⟩, (by exact Option.some.inj (hg9.symm.trans hg8)), ?_⟩
                    rintro v1473 F1474 H1475  g1477 hr1478 
                    have gb1480 := gb1464.tr g1477
                    have le1481 := g1477.le
                    have oH1482 := g1477.h _ _ oH1466
                    have oF1483 := g1477.own oF1467 oH1466
                    have cm1484 := g1477.fz cm1468
                    have za1485 := g1477.h _ _ za1469
                    have zf1486 := g1477.at za1469 zf1470
                    obtain rfl : v1473 = V.bl true := hr1478
                    refine a_bl ?_
                    refine iteNT ?_
                    refine a_next ?_
                    try dsimp only
                    exact ⟨F1474, _, m416, _, _, rfl, gb1480, cm1484, ((((le1408.trans le1431).trans le1452).trans le1465).trans le1481), oH1482, oF1483, (Al.mo (((le1431.trans le1452).trans le1465).trans le1481) dk1416), rfl, zf1486, za1485, by trivial⟩
                  · rintro σ' H1487 ⟨F1488, kv1493, m1494, o1495, o1496, rfl, gb1489, cm1490, le1491, oH1497, oF1498, dk1499, rfl, x1500, x1501, inv1492⟩
                    refine ⟨a31, ob1366, kvs32, x1501, hna1367, ?_⟩
                    refine thw gb1356 ha1369 fa1368 gb1489 x1500 cm1490 (fun F1502 H1503 gb1504 cm1505 le1506 ea1507 eb1508 nF1509 nH1510 => ?_)
                    have oH1511 := (nH1510 _ (ne1375)).trans oH1497
                    have oF1512 := (nF1509 _ (ne1375)).trans oF1498
                    try dsimp only
                    exact ⟨F1502, _, m416, _, _, _, _, rfl, gb1504, cm1505, (((((((le487.trans le519).trans le531).trans le1039).trans le1051).trans le1358).trans le1491).trans le1506), oH1511, oF1512, (Al.mo le1506 dk1499), rfl, by trivial⟩
          · rintro σ' H1513 ⟨F1514, kv1519, m1520, o1521, o1522, o1523, o1524, rfl, gb1515, cm1516, le1517, oH1525, oF1526, dk1527, rfl, inv1518⟩
            have hlen := Al.length (Al.mo le1517 al457)
            try dsimp only
            refine a_ret ?_
            refine a_c ?_
            exact k _
end
theorem walk {l : PySem.W.OpenLaw} {q : Program} {loose : List Str} {XP : (Str → Option Value) → Heap → Prop} {YP : World → Heap → Prop} {d : DefRec} {K : Params → PySem.W.Frag} (hn : l.most = some 63) (hdf : d.params.defaults = []) (hnm : d.name = "law")
    (hY : ∀ (w : World) (h : Heap), YP w h → (K w.params).In h)
    (F : ∀ (w : World) (mg : Str → Option Value) (h : Heap), (K w.params).In h → h.Ns mainGlobals mg → Nonempty (Tx (K w.params) mg)) :
    PySem.W.WalkO q loose XP YP l.row.toRowW d [] (fun f vs => PySem.call f vs) := by
  refine L2.walk_of (n := 63) (k := 8) (x := "_law_script") (CX := fun _ => CX0) (sp := fun w => sp_law (K w.params)) hn (by decide) hdf ⟨rfl, by decide, by decide⟩ hY ?_ (fun _ _ a ns hl _ hS => ⟨a, ns, rfl, hS, hl, fun _ => rfl⟩) fun _ _ _ _ _ z => z
  intro w mg fa h KX G hmg
  obtain ⟨T⟩ := F w mg h KX G
  rw [hnm] at hmg
  have e := hmg.symm.trans T.m_law
  cases e
  refine ⟨T.d_law, fun s v => ?_, fun base _ _ => ok_law T⟩
  obtain ⟨oc, od, kV, doc, pm, an, cdv, ct, osl, hfd, lk, hcd⟩ := T.F_law.ex
  rw [hfd]
  exact .of_eq rfl
end Sf
open PySem PySem.W PyProof.Rows
set_option maxRecDepth 100000 in
set_option maxHeartbeats 0 in
theorem PySem.Challenge.cw_springframe_k23_fits_and_goals_holds : PySem.Challenge.rw_springframe_k23_fits_and_goals.Holds := by
  w_on; o_law; k_head; (case hw => w_witness2)
  k_fill
  refine Sf.walk (l := PySem.Challenge.rw_springframe_k23_fits_and_goals) rfl rfl rfl (fun w h Y => PySem.W.kIn_of Y) ?F
  case F =>
    intro w mg h KX G
    refine' ⟨Sf.tx_mk KX G ?e0 ?l0 ?c0 ?k0 ?e1 ?l1 ?c1 ?k1 ?e2 ?l2 ?c2 ?k2 ?e3 ?l3 ?c3 ?k3 ?e4 ?l4 ?c4 ?k4 ?e5 ?l5 ?c5 ?k5 ?e6 ?l6 ?c6 ?k6 ?e7 ?l7 ?c7 ?k7 ?e8 ?l8 ?c8 ?k8 ?e9 ?l9 ?c9 ?k9 ?e10 ?l10 ?c10 ?k10 ?e11 ?l11 ?c11 ?k11 ?e12 ?l12 ?c12 ?k12 ?e13 ?l13 ?c13 ?k13 ?e14 ?l14 ?c14 ?k14 ?e15 ?l15 ?c15 ?k15 ?e16 ?l16 ?c16 ?k16 ?e17 ?l17 ?c17 ?k17 ?e18 ?l18 ?c18 ?k18 ?e19 ?l19 ?c19 ?k19 ?e20 ?l20 ?c20 ?k20 ?n0 ?o0 ?yi_MUST ?z0 ?z1 ?z2 ?z3 ?z4 ?z5 ?z6 ?z7 ?z8 ?z9 ?z10 ?z11 ?z12⟩
    (case e0 => k_is)
    (case l0 => k_is)
    (case c0 => k_is)
    (case k0 => k_is)
    (case e1 => k_is)
    (case l1 => k_is)
    (case c1 => k_is)
    (case k1 => k_is)
    (case e2 => k_is)
    (case l2 => k_is)
    (case c2 => k_is)
    (case k2 => k_is)
    (case e3 => k_is)
    (case l3 => k_is)
    (case c3 => k_is)
    (case k3 => k_is)
    (case e4 => k_is)
    (case l4 => k_is)
    (case c4 => k_is)
    (case k4 => k_is)
    (case e5 => k_is)
    (case l5 => k_is)
    (case c5 => k_is)
    (case k5 => k_is)
    (case e6 => k_is)
    (case l6 => k_is)
    (case c6 => k_is)
    (case k6 => k_is)
    (case e7 => k_is)
    (case l7 => k_is)
    (case c7 => k_is)
    (case k7 => k_is)
    (case e8 => k_is)
    (case l8 => k_is)
    (case c8 => k_is)
    (case k8 => k_is)
    (case e9 => k_is)
    (case l9 => k_is)
    (case c9 => k_is)
    (case k9 => k_is)
    (case e10 => k_is)
    (case l10 => k_is)
    (case c10 => k_is)
    (case k10 => k_is)
    (case e11 => k_is)
    (case l11 => k_is)
    (case c11 => k_is)
    (case k11 => k_is)
    (case e12 => k_is)
    (case l12 => k_is)
    (case c12 => k_is)
    (case k12 => k_is)
    (case e13 => k_is)
    (case l13 => k_is)
    (case c13 => k_is)
    (case k13 => k_is)
    (case e14 => k_is)
    (case l14 => k_is)
    (case c14 => k_is)
    (case k14 => k_is)
    (case e15 => k_is)
    (case l15 => k_is)
    (case c15 => k_is)
    (case k15 => k_is)
    (case e16 => k_is)
    (case l16 => k_is)
    (case c16 => k_is)
    (case k16 => k_is)
    (case e17 => k_is)
    (case l17 => k_is)
    (case c17 => k_is)
    (case k17 => k_is)
    (case e18 => k_is)
    (case l18 => k_is)
    (case c18 => k_is)
    (case k18 => k_is)
    (case e19 => k_is)
    (case l19 => k_is)
    (case c19 => k_is)
    (case k19 => k_is)
    (case e20 => k_is)
    (case l20 => k_is)
    (case c20 => k_is)
    (case k20 => k_is)
    (case n0 => k_is)
    (case o0 => k_is)
    (case yi_MUST => k_is)
    (case z0 => k_is)
    (case z1 => k_is)
    (case z2 => k_is)
    (case z3 => k_is)
    (case z4 => k_is)
    (case z5 => k_is)
    (case z6 => k_is)
    (case z7 => k_is)
    (case z8 => k_is)
    (case z9 => k_is)
    (case z10 => k_is)
    (case z11 => k_is)
    (case z12 => k_is)
#print axioms PySem.Challenge.cw_springframe_k23_fits_and_goals_holds

